import Derived.Test.YtmjhfabdbajchaaGreatDoorHa6
import Derived.Test.YtmjhfabdbajchaaGreatDoorHc2
import Derived.Test.YtmjhfabdbajchaaGreatDoorHa4
import Derived.Test.YtmjhfabdbajchaaGreatDoorG9
import Derived.Test.YtmjhfabdbajchaaGreatDoorHa3
import Derived.WalkMore
import Derived.Test.YtmjhfabdbajchaaGreatDoorHa9
set_option linter.unusedVariables false
set_option linter.unusedSimpArgs false
namespace Go.Proofs.YtmjhfabdbajchaaGreatDoor
open Go.RowKit

/-! The code's printer. -/
/-- What stands but for blocks that have a label. -/
structure Fz (own own' : Nat → Nat) (W w' : World) : Prop where
  os : w'.os = W.os
  tape : w'.tape = W.tape
  output : w'.output = W.output
  size : W.heap.size ≤ w'.heap.size
  blk : ∀ k, k < W.heap.size → own k = 0 → w'.heap[k]? = W.heap[k]? ∧ own' k = 0
theorem Fz.refl (own : Nat → Nat) (W : World) : Fz own own W W := ⟨rfl, rfl, rfl, Nat.le_refl _, fun _ _ h => ⟨rfl, h⟩⟩
theorem Fz.trans {o1 o2 o3 : Nat → Nat} {A C D : World} (h : Fz o1 o2 A C) (k : Fz o2 o3 C D) : Fz o1 o3 A D :=
  ⟨k.os.trans h.os, k.tape.trans h.tape, k.output.trans h.output, Nat.le_trans h.size k.size, fun j hj h0 => by
    obtain ⟨a1, a2⟩ := h.blk j hj h0
    obtain ⟨b1, b2⟩ := k.blk j (Nat.lt_of_lt_of_le hj h.size) a2
    exact ⟨b1.trans a1, b2⟩⟩
theorem FrP.fz {P : Nat → Prop} {own own' : Nat → Nat} {W w' : World} (h : FrP P own own' W w') (h0 : ¬ P 0) : Fz own own' W w' :=
  ⟨h.os, h.tape, h.output, h.size, fun k hk e => ⟨h.block k hk (by rw [e]; exact h0), (h.old k hk (by rw [e]; exact h0)).trans e⟩⟩
theorem Fz.of_below {own : Nat → Nat} {W w' : World} (h : Below W.heap.size W w') : Fz own own W w' := ⟨h.os, h.tape, h.output, h.size, fun k hk e => ⟨h.block k hk, e⟩⟩
theorem FrP.set {P : Nat → Prop} {own : Nat → Nat} {W : World} {g : Nat} (hP : P (own g)) (k : Nat) (v : Value) : FrP P own own W (W.setCell ⟨g, k, none⟩ v) := by
  have h := Kp.set W g k v
  exact ⟨h.os, h.tape, h.output, h.size, fun j hj hn => h.block j hj (fun e => hn (by rw [e]; exact hP)), fun _ _ _ => rfl⟩
theorem En.frp {P : Nat → Prop} {own own' : Nat → Nat} {w w' : World} (h : En own w) (h0 : ¬ P 0) (hn : Nf own' w') (hf : FrP P own own' w w') : En own' w' := by
  have hz := hf.old 1 h.tab.pos (by rw [h.z]; exact h0)
  refine ⟨hn, ?_, hz.trans h.z⟩
  have hfr : Fr 1 (fun k => if k = 1 then 0 else 1) (fun k => if k = 1 then 0 else 1) w w' := ⟨hf.os, hf.tape, hf.output, hf.size, fun k hk hne => by
    have e : k = 1 := Decidable.byContradiction fun e => hne (if_neg e)
    exact hf.block k hk (by rw [e, h.z]; exact h0), fun _ _ => rfl⟩
  exact hfr.tab h.tab (by simp)

structure CS where
  op : Nat
  tot : Int
  hl : List Nat
  wl : List Nat
  m : Pm
  pr : Pr
def hdr (qh qw : Nat) (c : CS) : Hd9 := ⟨.bool false, .int .i64 (c.op : Nat), .int .i64 c.tot, .pointer (some ⟨qh, 0, none⟩), .int .i64 (c.hl.length : Nat), .pointer (some ⟨qw, 0, none⟩), .int .i64 (c.wl.length : Nat)⟩
def pxc (x : Px) : Array Value := #[.int .u8 x.d.k, .string x.d.t, .int .i64 x.d.b, .int .i64 x.d.i, .bool x.d.e, .int .i64 x.ah, .bool x.st, .int .i64 x.nd]

/-- The printer at block g. -/
structure ST (own : Nat → Nat) (W : World) (g N gs qh qw : Nat) (v : Value) (csh csw : List (Nat × List Nat)) (c : CS) : Prop where
  en : En own W
  lab : own g = 2
  blk : W.heap[g]? = some (.cells (pg9 (hdr qh qw c) N gs c.pr.bl v c.pr.en) 67 (0, 0))
  ar : W.ownsRow 0 61 3 v c.pr.ar.length (flat bk9 c.pr.ar.reverse) ∧ ∀ k, v.ownBlock = some k → own k = 2
  sk : SK own 1 W gs c.pr.sk
  rh : Rw9 own 0 W qh csh
  hl : fl csh = c.hl
  rw : Rw9 own 1 W qw csw
  wl : fl csw = c.wl
  pm : ∀ b x, c.m b = some x → W.heap[b]? = some (.cells (pxc x) 123 (0, 0)) ∧ own b = 5
/-- What a method of the printer's leaves. -/
def T9 (own : Nat → Nat) (W w' : World) (g N : Nat) (c' : CS) : Prop := ∃ own' gs qh qw v csh csw, ST own' w' g N gs qh qw v csh csw c' ∧ Fz own own' W w'
section
variable {own : Nat → Nat} {W : World} {g N gs qh qw : Nat} {v : Value} {csh csw : List (Nat × List Nat)} {c : CS}
theorem ST.lt (h : ST own W g N gs qh qw v csh csw c) : g < W.heap.size := blk_lt h.blk
theorem ST.fz (h : ST own W g N gs qh qw v csh csw c) (k : Nat) : W.frozen? ⟨g, k, none⟩ = false := blk_frozen h.blk
theorem ST.frp {P : Nat → Prop} {own' : Nat → Nat} {w' : World} (h : ST own W g N gs qh qw v csh csw c) (hf : FrP P own own' W w') (hn : Nf own' w') (hp : ∀ i, P i → i = 0 → False) (h1 : ¬ P 1) (h2 : ¬ P 2) (h5 : ¬ P 5) (hr0 : ∀ i, Lr 0 i → ¬ P i) (hr1 : ∀ i, Lr 1 i → ¬ P i) : ST own' w' g N gs qh qw v csh csw c := by
  refine ⟨h.en.frp (fun e => hp 0 e rfl) hn hf, (hf.old g h.lt (by rw [h.lab]; exact h2)).trans h.lab, (hf.block g h.lt (by rw [h.lab]; exact h2)).trans h.blk, rowP hf h2 h.ar, h.sk.keptP hf h1, h.rh.kept hf hr0, h.hl, h.rw.kept hf hr1, h.wl, fun b x hb => ?_⟩
  obtain ⟨a1, a2⟩ := h.pm b x hb
  exact ⟨(hf.block b (blk_lt a1) (by rw [a2]; exact h5)).trans a1, (hf.old b (blk_lt a1) (by rw [a2]; exact h5)).trans a2⟩
theorem ST.below {w' : World} (h : ST own W g N gs qh qw v csh csw c) (hb : Below W.heap.size W w') : ST own w' g N gs qh qw v csh csw c :=
  h.frp (P := fun _ => False) (FrP.of_below hb) (h.en.nf.below hb.size) (fun _ h _ => h) (fun h => h) (fun h => h) (fun h => h) (fun _ _ h => h) (fun _ _ h => h)
theorem ST.c0 (h : ST own W g N gs qh qw v csh csw c) : W.cell? ⟨g, 0, none⟩ = some (.bool false) := blk_cell h.blk rfl
theorem ST.c1 (h : ST own W g N gs qh qw v csh csw c) : W.cell? ⟨g, 1, none⟩ = some (.int .i64 (c.op : Nat)) := blk_cell h.blk rfl
theorem ST.c2 (h : ST own W g N gs qh qw v csh csw c) : W.cell? ⟨g, 2, none⟩ = some (.int .i64 c.tot) := blk_cell h.blk rfl
theorem ST.c3 (h : ST own W g N gs qh qw v csh csw c) : W.cell? ⟨g, 3, none⟩ = some (.pointer (some ⟨qh, 0, none⟩)) := blk_cell h.blk rfl
theorem ST.c4 (h : ST own W g N gs qh qw v csh csw c) : W.cell? ⟨g, 4, none⟩ = some (.int .i64 (c.hl.length : Nat)) := blk_cell h.blk rfl
theorem ST.c5 (h : ST own W g N gs qh qw v csh csw c) : W.cell? ⟨g, 5, none⟩ = some (.pointer (some ⟨qw, 0, none⟩)) := blk_cell h.blk rfl
theorem ST.c6 (h : ST own W g N gs qh qw v csh csw c) : W.cell? ⟨g, 6, none⟩ = some (.int .i64 (c.wl.length : Nat)) := blk_cell h.blk rfl
theorem ST.c10 (h : ST own W g N gs qh qw v csh csw c) : W.cell? ⟨g, 10, none⟩ = some (.bool c.pr.bl.ev) := blk_cell h.blk rfl

/-- A cell ahead of the page is turned. -/
theorem ST.setg (h : ST own W g N gs qh qw v csh csw c) (k : Nat) (x : Value) {c' : CS} (hc : (pg9 (hdr qh qw c) N gs c.pr.bl v c.pr.en).setIfInBounds k x = pg9 (hdr qh qw c') N gs c.pr.bl v c.pr.en) (h1 : c'.hl = fl csh) (h2 : c'.wl = fl csw) (h3 : c'.m = c.m) (h4 : c'.pr = c.pr) : ST own (W.setCell ⟨g, k, none⟩ x) g N gs qh qw v csh csw c' := by
  have hf : FrP (fun i => i = 2) own own W (W.setCell ⟨g, k, none⟩ x) := FrP.set h.lab k x
  have hk := Kp.set W g k x
  have hn : Nf own (W.setCell ⟨g, k, none⟩ x) := h.en.nf.below hk.size
  have r1 := row_ne h.ar.1 h.blk (by decide)
  refine ⟨h.en.frp (by omega) hn hf, h.lab, ?_, ?_, ?_, h.rh.kept hf (fun i hi e => by subst e; exact lr2 (by omega) hi), h1.symm, h.rw.kept hf (fun i hi e => by subst e; exact lr2 (by omega) hi), h2.symm, fun b y hb => ?_⟩
  · rw [h4]
    have := blk_set h.blk k x
    rw [hc] at this; exact this
  · rw [h4]; exact ⟨hk.row h.ar.1 (fun j e1 e2 => r1 (by rw [e1, e2])), h.ar.2⟩
  · rw [h4]; exact h.sk.keptP hf (by omega)
  · rw [h3] at hb
    obtain ⟨a1, a2⟩ := h.pm b y hb
    exact ⟨(hf.block b (blk_lt a1) (by rw [a2]; omega)).trans a1, a2⟩
/-- A piece is turned. -/
theorem ST.setp (h : ST own W g N gs qh qw v csh csw c) {b : Nat} {x y : Px} (hb : c.m b = some x) (k : Nat) (u : Value) (hc : (pxc x).setIfInBounds k u = pxc y) : ST own (W.setCell ⟨b, k, none⟩ u) g N gs qh qw v csh csw { c with m := upx c.m b y } := by
  obtain ⟨p1, p2⟩ := h.pm b x hb
  have hf : FrP (fun i => i = 5) own own W (W.setCell ⟨b, k, none⟩ u) := FrP.set p2 k u
  have hk := Kp.set W b k u
  have hn : Nf own (W.setCell ⟨b, k, none⟩ u) := h.en.nf.below hk.size
  refine ⟨h.en.frp (by omega) hn hf, h.lab, (hf.block g h.lt (by rw [h.lab]; omega)).trans h.blk, rowP hf (by omega) h.ar, h.sk.keptP hf (by omega), h.rh.kept hf (fun i hi e => by subst e; unfold Lr at hi; omega), h.hl, h.rw.kept hf (fun i hi e => by subst e; unfold Lr at hi; omega), h.wl, fun b' z hb' => ?_⟩
  by_cases e : b' = b
  · subst e
    have hz : z = y := by
      have : upx c.m b' y b' = some z := hb'
      rw [upx_self] at this; cases this; rfl
    subst hz
    refine ⟨?_, p2⟩
    have := blk_set p1 k u
    rw [hc] at this; exact this
  · have hb2 : c.m b' = some z := by
      have : upx c.m b y b' = some z := hb'
      rw [upx_ne _ _ e] at this; exact this
    obtain ⟨a1, a2⟩ := h.pm b' z hb2
    exact ⟨blk_other a1 e _, a2⟩
/-- A new piece. -/
theorem ST.newp (h : ST own W g N gs qh qw v csh csw c) (x : Px) {W' : World} (hb : Below W.heap.size W W') {nb : Nat} (hnb : W.heap.size ≤ nb) (ho : W'.heap[nb]? = some (.cells (pxc x) 123 (0, 0))) : ∃ own', ST own' W' g N gs qh qw v csh csw { c with m := upx c.m nb x } ∧ Fz own own' W W' ∧ own' nb = 5 := by
  have hlt := blk_lt ho
  have hf : FrP (fun i => i = 5) own (fun k => if k = nb then 5 else own k) W W' := ⟨hb.os, hb.tape, hb.output, hb.size, fun k hk _ => hb.block k hk, fun k hk _ => if_neg (by omega)⟩
  have hn : Nf (fun k => if k = nb then 5 else own k) W' := fun k hk => by
    show (if k = nb then 5 else own k) = 0
    have := hb.size
    rw [if_neg (by omega)]; exact h.en.nf k (by omega)
  have hg : g ≠ nb := by have := h.lt; omega
  refine ⟨fun k => if k = nb then 5 else own k, ⟨h.en.frp (by omega) hn hf, (if_neg hg).trans h.lab, (hb.block g h.lt).trans h.blk, rowP hf (by omega) h.ar, h.sk.keptP hf (by omega), h.rh.kept hf (fun i hi e => by subst e; unfold Lr at hi; omega), h.hl, h.rw.kept hf (fun i hi e => by subst e; unfold Lr at hi; omega), h.wl, fun b' z hb' => ?_⟩, ?_, if_pos rfl⟩
  · by_cases e : b' = nb
    · subst e
      have hz : z = x := by
        have : upx c.m b' x b' = some z := hb'
        rw [upx_self] at this; cases this; rfl
      subst hz
      exact ⟨ho, if_pos rfl⟩
    · have hb2 : c.m b' = some z := by
        have : upx c.m nb x b' = some z := hb'
        rw [upx_ne _ _ e] at this; exact this
      obtain ⟨a1, a2⟩ := h.pm b' z hb2
      exact ⟨(hb.block b' (blk_lt a1)).trans a1, (if_neg e).trans a2⟩
  · exact ⟨hb.os, hb.tape, hb.output, hb.size, fun k hk e => ⟨hb.block k hk, (if_neg (by omega)).trans e⟩⟩
/-- The rows have turned. -/
theorem ST.rowH (h : ST own W g N gs qh qw v csh csw c) {W1 : World} {l : List Nat} (ha : RA own 0 W W1 qh l) {n : Int} (hn : n = (l.length : Nat)) : T9 own W (W1.setCell ⟨g, 4, none⟩ (.int .i64 n)) g N { c with hl := l } := by
  subst hn
  obtain ⟨own', cs, k1, k2, k3, k4⟩ := ha
  have e2 : ∀ i, Lr 0 i → i ≠ 0 ∧ i ≠ 1 ∧ i ≠ 2 ∧ i ≠ 5 ∧ ¬ Lr 1 i := fun i hi => by unfold Lr at *; omega
  have hlab : own' g = 2 := (k2.old g h.lt (by rw [h.lab]; exact fun e => (e2 _ e).2.2.1 rfl)).trans h.lab
  have hblk : W1.heap[g]? = some (.cells (pg9 (hdr qh qw c) N gs c.pr.bl v c.pr.en) 67 (0, 0)) := (k2.block g h.lt (by rw [h.lab]; exact fun e => (e2 _ e).2.2.1 rfl)).trans h.blk
  have hf : FrP (fun i => i = 2) own' own' W1 (W1.setCell ⟨g, 4, none⟩ (.int .i64 (l.length : Nat))) := FrP.set hlab 4 _
  have hk := Kp.set W1 g 4 (.int .i64 (l.length : Nat))
  have har := rowP k2 (fun e => (e2 2 e).2.2.1 rfl) h.ar
  have r1 := row_ne har.1 hblk (by decide)
  have hn1 : Nf own' (W1.setCell ⟨g, 4, none⟩ (.int .i64 (l.length : Nat))) := k1.below hk.size
  refine ⟨own', gs, qh, qw, v, cs, csw, ⟨(h.en.frp (fun e => (e2 _ e).1 rfl) k1 k2).frp (by omega) hn1 hf, hlab, blk_set hblk 4 _, ⟨hk.row har.1 (fun j e1 e2 => r1 (by rw [e1, e2])), har.2⟩, (h.sk.keptP k2 (fun e => (e2 1 e).2.1 rfl)).keptP hf (by omega), k3.kept hf (fun i hi e => by subst e; exact lr2 (by omega) hi), k4, (h.rw.kept k2 (fun i hi e => (e2 i e).2.2.2.2 hi)).kept hf (fun i hi e => by subst e; exact lr2 (by omega) hi), h.wl, fun b x hb => ?_⟩, (k2.fz (fun e => (e2 0 e).1 rfl)).trans (hf.fz (by omega))⟩
  obtain ⟨a1, a2⟩ := h.pm b x hb
  have b1 := (k2.block b (blk_lt a1) (by rw [a2]; exact fun e => (e2 _ e).2.2.2.1 rfl)).trans a1
  have b2 := (k2.old b (blk_lt a1) (by rw [a2]; exact fun e => (e2 _ e).2.2.2.1 rfl)).trans a2
  exact ⟨(hf.block b (blk_lt b1) (by rw [b2]; omega)).trans b1, b2⟩
theorem ST.rowW (h : ST own W g N gs qh qw v csh csw c) {W1 : World} {l : List Nat} (ha : RA own 1 W W1 qw l) {n : Int} (hn : n = (l.length : Nat)) : T9 own W (W1.setCell ⟨g, 6, none⟩ (.int .i64 n)) g N { c with wl := l } := by
  subst hn
  obtain ⟨own', cs, k1, k2, k3, k4⟩ := ha
  have e2 : ∀ i, Lr 1 i → i ≠ 0 ∧ i ≠ 1 ∧ i ≠ 2 ∧ i ≠ 5 ∧ ¬ Lr 0 i := fun i hi => by unfold Lr at *; omega
  have hlab : own' g = 2 := (k2.old g h.lt (by rw [h.lab]; exact fun e => (e2 _ e).2.2.1 rfl)).trans h.lab
  have hblk : W1.heap[g]? = some (.cells (pg9 (hdr qh qw c) N gs c.pr.bl v c.pr.en) 67 (0, 0)) := (k2.block g h.lt (by rw [h.lab]; exact fun e => (e2 _ e).2.2.1 rfl)).trans h.blk
  have hf : FrP (fun i => i = 2) own' own' W1 (W1.setCell ⟨g, 6, none⟩ (.int .i64 (l.length : Nat))) := FrP.set hlab 6 _
  have hk := Kp.set W1 g 6 (.int .i64 (l.length : Nat))
  have har := rowP k2 (fun e => (e2 2 e).2.2.1 rfl) h.ar
  have r1 := row_ne har.1 hblk (by decide)
  have hn1 : Nf own' (W1.setCell ⟨g, 6, none⟩ (.int .i64 (l.length : Nat))) := k1.below hk.size
  refine ⟨own', gs, qh, qw, v, csh, cs, ⟨(h.en.frp (fun e => (e2 _ e).1 rfl) k1 k2).frp (by omega) hn1 hf, hlab, blk_set hblk 6 _, ⟨hk.row har.1 (fun j e1 e2 => r1 (by rw [e1, e2])), har.2⟩, (h.sk.keptP k2 (fun e => (e2 1 e).2.1 rfl)).keptP hf (by omega), (h.rh.kept k2 (fun i hi e => (e2 i e).2.2.2.2 hi)).kept hf (fun i hi e => by subst e; exact lr2 (by omega) hi), h.hl, k3.kept hf (fun i hi e => by subst e; exact lr2 (by omega) hi), k4, fun b x hb => ?_⟩, (k2.fz (fun e => (e2 0 e).1 rfl)).trans (hf.fz (by omega))⟩
  obtain ⟨a1, a2⟩ := h.pm b x hb
  have b1 := (k2.block b (blk_lt a1) (by rw [a2]; exact fun e => (e2 _ e).2.2.2.1 rfl)).trans a1
  have b2 := (k2.old b (blk_lt a1) (by rw [a2]; exact fun e => (e2 _ e).2.2.2.1 rfl)).trans a2
  exact ⟨(hf.block b (blk_lt b1) (by rw [b2]; omega)).trans b1, b2⟩

/-! The page's methods, the printer around it. -/
def o12 (own : Nat → Nat) : Nat → Nat := fun k => if own k = 1 ∨ own k = 2 then own k else 0
theorem o12_1 {k : Nat} (h : own k = 1) : o12 own k = 1 := by unfold o12; rw [if_pos (.inl h), h]
theorem o12_2 {k : Nat} (h : own k = 2) : o12 own k = 2 := by unfold o12; rw [if_pos (.inr h), h]
theorem o12_0 {k : Nat} (h : own k ≠ 1 ∧ own k ≠ 2) : o12 own k = 0 := by unfold o12; rw [if_neg (by omega)]
theorem SK.rel {own' : Nat → Nat} {s : St6} (h : SK own 1 W gs s) (hr : ∀ k, k < W.heap.size → own k = 1 → own' k = 1) : SK own' 1 W gs s := by
  obtain ⟨tv, gv, text, gx, h1, h2, h3, h4⟩ := h.ex
  exact ⟨hr gs (blk_lt h1) h.lab, tv, gv, text, gx, h1, ⟨h2.1, fun k hk => hr k (h2.1.lt k hk).2 (h2.2 k hk)⟩, ⟨h3.1, fun k hk => hr k (h3.1.lt k hk).2 (h3.2 k hk)⟩, h4⟩
theorem ST.pg (h : ST own W g N gs qh qw v csh csw c) : PK9 (hdr qh qw c) 0 W (o12 own) W g gs N c.pr := by
  refine ⟨⟨fun k hk => ?_, h.en.tab, ?_⟩, fun k hk => by omega, Below.refl _ _, Nat.zero_le _, h.sk.rel (fun k _ e => o12_1 e), ⟨v, h.blk, h.ar.1, fun k hk => o12_2 (h.ar.2 k hk)⟩, o12_2 h.lab⟩
  · exact o12_0 (by rw [h.en.nf k hk]; omega)
  · exact o12_0 (by rw [h.en.z]; omega)
theorem ST.unpg (h : ST own W g N gs qh qw v csh csw c) {p' : Pr} {w' : World} (ha : PKA (hdr qh qw c) 0 W (o12 own) W g gs N p' w') : T9 own W w' g N { c with pr := p' } := by
  obtain ⟨ow, a1, a2, a3⟩ := ha
  obtain ⟨v', b1, b2⟩ := a1.pr
  have hz : ∀ k, k < W.heap.size → (own k ≠ 1 ∧ own k ≠ 2) → w'.heap[k]? = W.heap[k]? ∧ ow k = 0 := fun k hk hn => a2 k hk (o12_0 hn)
  have hnew : ∀ k, ow k = 1 ∨ ow k = 2 → (if k < W.heap.size ∧ own k ≠ 1 ∧ own k ≠ 2 then own k else ow k) = ow k := fun k hk => by
    rw [if_neg]
    rintro ⟨h1, h2⟩
    have := (hz k h1 h2).2
    omega
  have hf : FrP (fun i => i = 1 ∨ i = 2) own (fun k => if k < W.heap.size ∧ own k ≠ 1 ∧ own k ≠ 2 then own k else ow k) W w' := by
    refine ⟨a1.bel.os, a1.bel.tape, a1.bel.output, a3, fun k hk hn => (hz k hk (by omega)).1, fun k hk hn => if_pos ⟨hk, by omega⟩⟩
  have hn : Nf (fun k => if k < W.heap.size ∧ own k ≠ 1 ∧ own k ≠ 2 then own k else ow k) w' := fun k hk => by
    show (if k < W.heap.size ∧ own k ≠ 1 ∧ own k ≠ 2 then own k else ow k) = 0
    rw [if_neg (by omega)]; exact a1.en.nf k hk
  refine ⟨_, gs, qh, qw, v', csh, csw, ⟨h.en.frp (by omega) hn hf, (hnew g (.inr a1.lab)).trans a1.lab, b1, ⟨b2.1, fun k hk => (hnew k (.inr (b2.2 k hk))).trans (b2.2 k hk)⟩, a1.sk.rel (fun k _ e => (hnew k (.inl e)).trans e), h.rh.kept hf (fun i hi e => by unfold Lr at hi; omega), h.hl, h.rw.kept hf (fun i hi e => by unfold Lr at hi; omega), h.wl, fun b x hb => ?_⟩, hf.fz (by omega)⟩
  obtain ⟨p1, p2⟩ := h.pm b x hb
  exact ⟨(hf.block b (blk_lt p1) (by rw [p2]; omega)).trans p1, (hf.old b (blk_lt p1) (by rw [p2]; omega)).trans p2⟩
end
end Go.Proofs.YtmjhfabdbajchaaGreatDoor
set_option linter.unusedVariables false
set_option linter.unusedSimpArgs false
namespace Go.Proofs.YtmjhfabdbajchaaGreatDoor
open Go.RowKit

theorem looks_any (k : Int) (w : World) : Calls Tryz.prog 60 #[.int .u8 k] w fun e w' => e = .returned (.bool (decide (k = 6 ∨ k = 3))) ∧ w' = w := by
  by_cases h6 : k = 6
  · subst h6
    go_enter Tryz.func60, Tryz.ntmps60
    go_wp2_with fail
    go_ret
    exact ⟨rfl, rfl⟩
  · by_cases h3 : k = 3
    · subst h3
      go_enter Tryz.func60, Tryz.ntmps60
      go_wp2_with fail
      go_ret
      exact ⟨rfl, rfl⟩
    · have e : decide (k = 6 ∨ k = 3) = false := decide_eq_false (by omega)
      rw [e]
      have q1 : (k == 6) = false := by simpa using h6
      have q2 : (k == 3) = false := by simpa using h3
      go_enter Tryz.func60, Tryz.ntmps60
      go_wp2_with fail
      go_ret
      exact ⟨rfl, rfl⟩
theorem waits_any (b : Nat) (x : Px) (w : World) (hb : w.heap[b]? = some (.cells (pxc x) 123 (0, 0))) : Calls Tryz.prog 97 #[.pointer (some ⟨b, 0, none⟩)] w fun e w' => e = .returned (.bool (lks x.d && !x.st)) ∧ w' = w := by
  have c0 : w.cell? ⟨b, 0, none⟩ = some (.int .u8 x.d.k) := blk_cell hb rfl
  have c6 : w.cell? ⟨b, 6, none⟩ = some (.bool x.st) := blk_cell hb rfl
  have HL : Hid (Calls Tryz.prog 60 #[.int .u8 x.d.k] w fun e w' => e = .returned (.bool (lks x.d)) ∧ w' = w) := looks_any x.d.k w
  generalize lks x.d = l at *
  generalize x.st = s at *
  generalize x.d.k = k at *
  clear hb
  cases l
  · go_enter Tryz.func97, Tryz.ntmps97
    go_wp2_with (go_at_call 60; refine HL.out.mono ?_; rintro e w1 ⟨rfl, rfl⟩)
    go_ret
    exact ⟨rfl, rfl⟩
  · go_enter Tryz.func97, Tryz.ntmps97
    go_wp2_with (go_at_call 60; refine HL.out.mono ?_; rintro e w1 ⟨rfl, rfl⟩)
    go_ret
    exact ⟨rfl, rfl⟩
theorem need_any (g b : Nat) (x : Px) (tot : Int) (w : World) (ht : w.cell? ⟨g, 2, none⟩ = some (.int .i64 tot)) (hb : w.heap[b]? = some (.cells (pxc x) 123 (0, 0))) : Calls Tryz.prog 64 #[.pointer (some ⟨g, 0, none⟩), .pointer (some ⟨b, 0, none⟩)] w fun e w' => e = .returned (.int .i64 (x.need tot)) ∧ Below w.heap.size w w' := by
  have c5 : w.cell? ⟨b, 5, none⟩ = some (.int .i64 x.ah) := blk_cell hb rfl
  have c7 : w.cell? ⟨b, 7, none⟩ = some (.int .i64 x.nd) := blk_cell hb rfl
  have HL : Hid (Calls Tryz.prog 97 #[.pointer (some ⟨b, 0, none⟩)] w fun e w' => e = .returned (.bool (lks x.d && !x.st)) ∧ w' = w) := waits_any b x w hb
  unfold Px.need
  generalize (lks x.d && !x.st) = l at *
  generalize x.ah = a at *
  generalize x.nd = n at *
  clear hb
  cases l
  · go_enter Tryz.func64, Tryz.ntmps64
    go_wp2_with (go_at_call 97; refine HL.out.mono ?_; rintro e w1 ⟨rfl, rfl⟩)
    go_ret
    exact ⟨rfl, Below.refl _ _⟩
  · go_enter Tryz.func64, Tryz.ntmps64
    go_wp2_with (go_at_call 97; refine HL.out.mono ?_; rintro e w1 ⟨rfl, rfl⟩)
    go_quiet (fail)
    go_wp2_with fail
    go_ret
    exact ⟨by rw [show wr (tot - a) = wrap64 (tot - a) from IntWalk.i64_left _]; rfl, bel_drewN _ _⟩
set_option maxHeartbeats 1000000 in
theorem scolumns_any (d : Dc) (hd : rt d = true) (w : World) (hT : Tab w) : Calls Tryz.prog 58 #[d.v] w fun e w' => e = .returned (.int .i64 ((pw d : Nat) : Int)) ∧ Below w.heap.size w w' := by
  have hal : ∀ o, Below w.heap.size w (w.alloc o) := fun o => (Below.refl _ _).alloc (Nat.le_refl _) _
  have HAL : Hid (∀ o, Below w.heap.size w (w.alloc o)) := hal
  cases rt_of hd with
  | text t hq =>
    have hs := (rtT_len hq).2
    have HH : Hid (∀ V, Calls Tryz.prog 89 #[.string t, .string ⟨#[10]⟩] V fun e w' => e = .returned (.bool (hasF t)) ∧ w' = V) := fun V => has_any t V
    have HT : Hid (∀ o, Calls Tryz.prog 90 #[.string t] (w.alloc o) fun e w' => e = .returned (.int .i64 (tw t)) ∧ Below w.heap.size w w') := fun o => by
      refine (wtext_any t (w.alloc o) (hT.below (hal o)) (by omega)).mono ?_
      rintro e w' ⟨rfl, hb⟩
      exact ⟨rfl, (hal o).trans (hb.mono (hal o).size)⟩
    have hb := tw_bd t
    have e : ((pw ⟨1, t, 0, 0, false⟩ : Nat) : Int) = if hasF t then 4097 else tw t := by
      unfold pw; simp only [if_true]
      split
      · rfl
      · omega
    rw [e]
    generalize hasF t = f at *
    clear e hb hal hT
    dsimp only [Dc.v]
    cases f
    · go_enter Tryz.func58, Tryz.ntmps58
      go_wp2_with (first | (go_at_call 89; refine (HH.out _).mono ?_; rintro e w1 ⟨rfl, rfl⟩) | (go_at_call 90; refine (HT.out _).mono ?_; rintro e w2 ⟨rfl, hb2⟩))
      go_ret
      exact ⟨by simp, hb2⟩
    · go_enter Tryz.func58, Tryz.ntmps58
      go_wp2_with (first | (go_at_call 89; refine (HH.out _).mono ?_; rintro e w1 ⟨rfl, rfl⟩))
      go_ret
      exact ⟨by simp, HAL.out _⟩
  | brk m hq =>
    have e : ((pw ⟨3, bE, m, 0, false⟩ : Nat) : Int) = m := by
      have := rtN_of hq
      simp [pw]; omega
    rw [e]
    clear hal e
    dsimp only [Dc.v]
    go_enter Tryz.func58, Tryz.ntmps58
    go_wp2_with fail
    go_ret
    exact ⟨rfl, HAL.out _⟩
  | beg m e hq =>
    have e : ((pw ⟨6, bE, 0, m, e⟩ : Nat) : Int) = 0 := by simp [pw]
    rw [e]
    clear hal e
    dsimp only [Dc.v]
    go_enter Tryz.func58, Tryz.ntmps58
    go_wp2_with fail
    go_ret
    exact ⟨rfl, HAL.out _⟩
  | blank =>
    clear hal
    dsimp only [Dc.v]
    go_enter Tryz.func58, Tryz.ntmps58
    go_wp2_with fail
    go_ret
    exact ⟨rfl, HAL.out _⟩
  | hard =>
    clear hal
    dsimp only [Dc.v]
    go_enter Tryz.func58, Tryz.ntmps58
    go_wp2_with fail
    go_ret
    exact ⟨rfl, HAL.out _⟩
  | empty =>
    clear hal
    dsimp only [Dc.v]
    go_enter Tryz.func58, Tryz.ntmps58
    go_wp2_with fail
    go_ret
    exact ⟨rfl, HAL.out _⟩
  | «end» =>
    clear hal
    dsimp only [Dc.v]
    go_enter Tryz.func58, Tryz.ntmps58
    go_wp2_with fail
    go_ret
    exact ⟨rfl, HAL.out _⟩
set_option maxHeartbeats 1000000 in
set_option maxRecDepth 100000 in
theorem sright_any (d : Dc) (ht : d.t.size ≤ 9223372036854775807) (w : World) : Calls Tryz.prog 32 #[d.v] w fun e w' => e = .returned (.bool (rt d)) ∧ Below w.heap.size w w' := by
  have HC : Hid (∀ W b, W.heap[b]? = some (.cells #[.int .u8 6, .string ⟨#[]⟩, .int .i64 0, .int .i64 0, .bool false, .int .u8 d.k, .string d.t, .int .i64 d.b, .int .i64 d.i, .bool d.e] 37 (0, 0)) → Calls Tryz.prog 57 #[.slice (some ⟨b, 0, none⟩) 2 2] W fun e w' => e = .returned (.tuple #[.int .i64 (chk [bg0, d]).1, .int .i64 (chk [bg0, d]).2]) ∧ Below W.heap.size W w') := fun W b h => check_any _ [bg0, d] 2 W (lay_two W b d ht h) (by simp)
  have e := chk_two d
  rw [← e]
  have hb := chk_bd [bg0, d]
  generalize (chk [bg0, d]).1 = k1 at *
  generalize (chk [bg0, d]).2 = k2 at *
  clear e ht
  obtain ⟨dk, dt, db, di, de⟩ := d
  dsimp only [Dc.v] at *
  have hs1 : (w.alloc (.cells #[.int .u8 dk, .string dt, .int .i64 db, .int .i64 di, .bool de] 37)).heap.size = w.heap.size + 1 := World.size_alloc _ _
  have hbd : ∀ o1 o2 w1, Below ((w.alloc o1).alloc o2).heap.size ((w.alloc o1).alloc o2) w1 → Below w.heap.size w w1 := fun o1 o2 w1 h => (((Below.refl _ w).alloc (Nat.le_refl _) o1).alloc (by rw [World.size_alloc]; omega) o2).trans (h.mono (by rw [World.size_alloc, World.size_alloc]; omega))
  have HB : Hid (∀ o1 o2 w1, Below ((w.alloc o1).alloc o2).heap.size ((w.alloc o1).alloc o2) w1 → Below w.heap.size w w1) := hbd
  clear hbd
  go_enter Tryz.func32, Tryz.ntmps32
  go_wp2_with (go_at_call 57; refine (HC.out _ _ (by rw [← hs1]; exact new_at _ _)).mono ?_; rintro e w1 ⟨rfl, hb1⟩)
  go_ret
  exact ⟨by simp [bne, Bool.beq_eq_decide_eq], HB.out _ _ _ hb1⟩

theorem ready_nil (w : World) : Calls Tryz.prog 31 #[.pointer none] w fun e w' => e = .returned (.int .i64 3) ∧ w' = w := by
  go_enter Tryz.func31, Tryz.ntmps31
  go_wp2_with fail
  go_ret
  exact ⟨rfl, rfl⟩
theorem ready_any (g : Nat) (b : Bool) (w : World) (h : w.cell? ⟨g, 0, none⟩ = some (.bool b)) : Calls Tryz.prog 31 #[.pointer (some ⟨g, 0, none⟩)] w fun e w' => e = .returned (.int .i64 (if b then 4 else 0)) ∧ w' = w := by
  cases b
  · go_enter Tryz.func31, Tryz.ntmps31
    go_wp2_with fail
    go_ret
    exact ⟨rfl, rfl⟩
  · go_enter Tryz.func31, Tryz.ntmps31
    go_wp2_with fail
    go_ret
    exact ⟨rfl, rfl⟩
theorem sheld_nil (w : World) : Calls Tryz.prog 16 #[.pointer none] w fun e w' => e = .returned (.int .i64 0) ∧ w' = w := by
  go_enter Tryz.func16, Tryz.ntmps16
  go_wp2_with fail
  go_ret
  exact ⟨rfl, rfl⟩
theorem sheld_any (g : Nat) (n : Int) (w : World) (h : w.cell? ⟨g, 4, none⟩ = some (.int .i64 n)) : Calls Tryz.prog 16 #[.pointer (some ⟨g, 0, none⟩)] w fun e w' => e = .returned (.int .i64 n) ∧ w' = w := by
  go_enter Tryz.func16, Tryz.ntmps16
  go_wp2_with fail
  go_ret
  exact ⟨rfl, rfl⟩
end Go.Proofs.YtmjhfabdbajchaaGreatDoor
set_option linter.unusedVariables false
set_option linter.unusedSimpArgs false
namespace Go.Proofs.YtmjhfabdbajchaaGreatDoor
open Go.RowKit

theorem bel_drewN' {B : Nat} {W V : World} {m : Nat} (h : Below B W V) : Below B W (V.drewN m) := below_drewN h m
section
variable {own : Nat → Nat} {W : World} {g N gs qh qw : Nat} {v : Value} {csh csw : List (Nat × List Nat)} {c : CS}
set_option maxHeartbeats 1000000 in
theorem ssure_any (h : ST own W g N gs qh qw v csh csw c) {b : Nat} {x : Px} (hb : c.m b = some x) {n : Nat} (hn : x.need c.tot = (n : Nat)) (hn2 : n ≤ 1000000000000000) {U : Nat} (hp : Bp c.pr U) (hU : U ≤ 268435456) (hN : N ≤ 4096) :
    Calls Tryz.prog 62 #[.pointer (some ⟨g, 0, none⟩), .pointer (some ⟨b, 0, none⟩)] W fun e w' => e = .returned (.bool (csr N c.pr x.d x.st n)) ∧ Below W.heap.size W w' := by
  have HW : Hid (∀ V, Below W.heap.size W V → Calls Tryz.prog 97 #[.pointer (some ⟨b, 0, none⟩)] V fun e w' => e = .returned (.bool (lks x.d && !x.st)) ∧ ∃ m, w' = V.drewN m) := fun V hV => by
    refine (waits_any b x V ((h.below hV).pm b x hb).1).mono ?_
    rintro e w' ⟨rfl, rfl⟩
    exact ⟨rfl, 0, rfl⟩
  have HN : Hid (∀ V, Below W.heap.size W V → Calls Tryz.prog 64 #[.pointer (some ⟨g, 0, none⟩), .pointer (some ⟨b, 0, none⟩)] V fun e w' => e = .returned (.int .i64 (n : Nat)) ∧ Below W.heap.size W w') := fun V hV => by
    have := need_any g b x c.tot V (h.below hV).c2 ((h.below hV).pm b x hb).1
    rw [hn] at this
    refine this.mono ?_
    rintro e w' ⟨rfl, hb2⟩
    exact ⟨rfl, hV.trans (hb2.mono hV.size)⟩
  have HF : Hid (∀ V, Below W.heap.size W V → Calls Tryz.prog 98 #[.pointer (some ⟨g, 7, none⟩), .int .i64 (n : Nat)] V fun e w' => e = .returned (.bool (c.pr.fits N n)) ∧ Below W.heap.size W w' ∧ w'.cell? ⟨b, 0, none⟩ = some (.int .u8 x.d.k) ∧ w'.cell? ⟨g, 10, none⟩ = some (.bool c.pr.bl.ev)) := fun V hV => by
    refine (gfits_any (h.below hV).pg hp hU n hn2 hN).mono ?_
    rintro e w' ⟨rfl, hb2⟩
    have hW := hV.trans (hb2.mono hV.size)
    exact ⟨rfl, hW, blk_cell ((h.below hW).pm b x hb).1 rfl, (h.below hW).c10⟩
  have HG : Hid (∀ V, Below W.heap.size W V → Calls Tryz.prog 99 #[.pointer (some ⟨g, 7, none⟩)] V fun e w' => e = .returned (.bool c.pr.sk.fresh) ∧ w' = V) := fun V hV => begins_any (h.below hV).pg
  have HD : Hid (∀ V m, Below W.heap.size W V → Below W.heap.size W (V.drewN m)) := fun V m hV => bel_drewN' hV
  unfold csr
  rw [show decide (x.d.k = 6 ∨ x.d.k = 3) = lks x.d from rfl]
  have e3 : decide (x.d.k = 3) = (x.d.k == 3) := by rw [Bool.beq_eq_decide_eq]
  rw [e3]
  generalize (lks x.d && !x.st) = wv at *
  generalize x.d.k = k at *
  generalize c.pr.fits N n = f at *
  generalize c.pr.bl.ev = ev at *
  generalize c.pr.sk.fresh = fr at *
  clear h hb hp e3 hn
  cases wv
  · go_enter Tryz.func62, Tryz.ntmps62
    go_wp2_with fail
    go_quiet ((go_at_call 97; exact Calls.quiet_of (HW.out _ (HD.out _ _ (Below.refl _ _)))))
    go_wp2_with fail
    go_ret
    exact ⟨by simp, bel_drewN _ _⟩
  · cases f
    · go_enter Tryz.func62, Tryz.ntmps62
      go_wp2_with fail
      go_region_held3 (fun w' => Below W.heap.size W w') (first | assumption | exact HD.out _ _ (Below.refl _ _) | exact (Below.refl _ _).drew | go_keep) (first | (go_at_call 97; refine (HW.out _ (by first | assumption | exact (Below.refl _ _).drew | exact Below.refl _ _)).mono ?_; rintro e w1 ⟨rfl, m1, rfl⟩; have hb1 := bel_drewN' (m := m1) (by first | assumption | exact (Below.refl W.heap.size W).drew | exact Below.refl W.heap.size W)) | (go_at_call 64; refine (HN.out _ (by first | assumption | exact HD.out _ _ (Below.refl _ _) | exact (Below.refl _ _).drew)).mono ?_; rintro e w2 ⟨rfl, hb2⟩) | (go_at_call 98; refine (HF.out _ (by first | assumption | exact HD.out _ _ (Below.refl _ _) | exact (Below.refl _ _).drew)).mono ?_; rintro e w3 ⟨rfl, hb3, y1, y2⟩))
      all_goals (
        have HB3 : Hid (Below W.heap.size W w3) := hb3
        clear hb3
        go_wp2_with fail
        go_ret
        exact ⟨by simp, HB3.out⟩)
    · by_cases h3 : k = 3
      · subst h3
        cases fr
        · go_enter Tryz.func62, Tryz.ntmps62
          go_wp2_with fail
          go_region_held3 (fun w' => Below W.heap.size W w') (first | assumption | exact HD.out _ _ (Below.refl _ _) | exact (Below.refl _ _).drew | go_keep) (first | (go_at_call 97; refine (HW.out _ (by first | assumption | exact (Below.refl _ _).drew | exact Below.refl _ _)).mono ?_; rintro e w1 ⟨rfl, m1, rfl⟩; have hb1 := bel_drewN' (m := m1) (by first | assumption | exact (Below.refl W.heap.size W).drew | exact Below.refl W.heap.size W)) | (go_at_call 64; refine (HN.out _ (by first | assumption | exact HD.out _ _ (Below.refl _ _) | exact (Below.refl _ _).drew)).mono ?_; rintro e w2 ⟨rfl, hb2⟩) | (go_at_call 98; refine (HF.out _ (by first | assumption | exact HD.out _ _ (Below.refl _ _) | exact (Below.refl _ _).drew)).mono ?_; rintro e w3 ⟨rfl, hb3, y1, y2⟩))
          all_goals (
            have HB3 : Hid (Below W.heap.size W w3) := hb3
            clear hb3
            go_wp2_with fail
            refine (HG.out _ HB3.out).mono ?_
            rintro e w4 ⟨rfl, rfl⟩
            go_wp2_with fail
            go_ret
            exact ⟨by simp, HB3.out⟩)
        · go_enter Tryz.func62, Tryz.ntmps62
          go_wp2_with fail
          go_region_held3 (fun w' => Below W.heap.size W w') (first | assumption | exact HD.out _ _ (Below.refl _ _) | exact (Below.refl _ _).drew | go_keep) (first | (go_at_call 97; refine (HW.out _ (by first | assumption | exact (Below.refl _ _).drew | exact Below.refl _ _)).mono ?_; rintro e w1 ⟨rfl, m1, rfl⟩; have hb1 := bel_drewN' (m := m1) (by first | assumption | exact (Below.refl W.heap.size W).drew | exact Below.refl W.heap.size W)) | (go_at_call 64; refine (HN.out _ (by first | assumption | exact HD.out _ _ (Below.refl _ _) | exact (Below.refl _ _).drew)).mono ?_; rintro e w2 ⟨rfl, hb2⟩) | (go_at_call 98; refine (HF.out _ (by first | assumption | exact HD.out _ _ (Below.refl _ _) | exact (Below.refl _ _).drew)).mono ?_; rintro e w3 ⟨rfl, hb3, y1, y2⟩))
          all_goals (
            have HB3 : Hid (Below W.heap.size W w3) := hb3
            clear hb3
            go_wp2_with fail
            refine (HG.out _ HB3.out).mono ?_
            rintro e w4 ⟨rfl, rfl⟩
            go_wp2_with fail
            go_ret
            exact ⟨by simp, HB3.out⟩)
      · have hk : (k == 3) = false := by simpa using h3
        go_enter Tryz.func62, Tryz.ntmps62
        go_wp2_with fail
        go_region_held3 (fun w' => Below W.heap.size W w') (first | assumption | exact HD.out _ _ (Below.refl _ _) | exact (Below.refl _ _).drew | go_keep) (first | (go_at_call 97; refine (HW.out _ (by first | assumption | exact (Below.refl _ _).drew | exact Below.refl _ _)).mono ?_; rintro e w1 ⟨rfl, m1, rfl⟩; have hb1 := bel_drewN' (m := m1) (by first | assumption | exact (Below.refl W.heap.size W).drew | exact Below.refl W.heap.size W)) | (go_at_call 64; refine (HN.out _ (by first | assumption | exact HD.out _ _ (Below.refl _ _) | exact (Below.refl _ _).drew)).mono ?_; rintro e w2 ⟨rfl, hb2⟩) | (go_at_call 98; refine (HF.out _ (by first | assumption | exact HD.out _ _ (Below.refl _ _) | exact (Below.refl _ _).drew)).mono ?_; rintro e w3 ⟨rfl, hb3, y1, y2⟩))
        all_goals (
          have HB3 : Hid (Below W.heap.size W w3) := hb3
          clear hb3
          go_wp2_with fail
          go_ret
          exact ⟨by simp [hk], HB3.out⟩)

set_option maxHeartbeats 1000000 in
theorem settleLast_any (h : ST own W g N gs qh qw v csh csw c) {b : Nat} {x : Px} (hb : c.m b = some x) {l : List Nat} (hl : c.wl = l ++ [b]) (hw : c.wl.length ≤ 1000000000) :
    Calls Tryz.prog 67 #[.pointer (some ⟨g, 0, none⟩), .pointer (some ⟨b, 0, none⟩)] W fun e w' => e = .returned (.tuple #[]) ∧ T9 own W w' g N { c with m := upx c.m b (x.settle c.tot), wl := l } := by
  have HN : Hid (Calls Tryz.prog 64 #[.pointer (some ⟨g, 0, none⟩), .pointer (some ⟨b, 0, none⟩)] W fun e w' => e = .returned (.int .i64 (x.need c.tot)) ∧ Hid (Below W.heap.size W w') ∧ (w'.cell? ⟨b, 7, none⟩ = some (.int .i64 x.nd) ∧ w'.cell? ⟨b, 6, none⟩ = some (.bool x.st)) ∧ w'.frozen? ⟨b, 7, none⟩ = false ∧ w'.frozen? ⟨b, 6, none⟩ = false) := by
    refine (need_any g b x c.tot W h.c2 (h.pm b x hb).1).mono ?_
    rintro e w' ⟨rfl, hb1⟩
    have p1 := ((h.below hb1).pm b x hb).1
    exact ⟨rfl, hb1, ⟨blk_cell p1 rfl, blk_cell p1 rfl⟩, blk_frozen p1, blk_frozen p1⟩
  have HP : Hid (∀ V, Below W.heap.size W V → Calls Tryz.prog 107 #[.pointer (some ⟨g, 5, none⟩)] ((V.setCell ⟨b, 7, none⟩ (.int .i64 (x.need c.tot))).setCell ⟨b, 6, none⟩ (.bool true)) fun e w' => e = .returned (.tuple #[]) ∧ T9 own W w' g N { c with m := upx c.m b (x.settle c.tot), wl := l }) := fun V hV => by
    have h0 := h.below hV
    have h1 := h0.setp (y := ⟨x.d, x.ah, x.st, x.need c.tot⟩) hb 7 (.int .i64 (x.need c.tot)) rfl
    have h2 := h1.setp (y := x.settle c.tot) (upx_self _ _ _) 6 (.bool true) rfl
    have h3 : ST own ((V.setCell ⟨b, 7, none⟩ (.int .i64 (x.need c.tot))).setCell ⟨b, 6, none⟩ (.bool true)) g N gs qh qw v csh csw { c with m := upx c.m b (x.settle c.tot) } := by
      have e : upx (upx c.m b ⟨x.d, x.ah, x.st, x.need c.tot⟩) b (x.settle c.tot) = upx c.m b (x.settle c.tot) := by
        funext k; unfold upx; split <;> rfl
      have h2' : ST own ((V.setCell ⟨b, 7, none⟩ (.int .i64 (x.need c.tot))).setCell ⟨b, 6, none⟩ (.bool true)) g N gs qh qw v csh csw { c with m := upx (upx c.m b ⟨x.d, x.ah, x.st, x.need c.tot⟩) b (x.settle c.tot) } := h2
      rw [e] at h2'
      exact h2'
    have hwl : fl csw = l ++ [b] := h.wl.trans hl
    refine (popBack_any h3.rw h3.en.nf h3.lab c.wl.length hw h3.c5 h3.c6 (h3.fz 6) hwl).mono ?_
    rintro e w' ⟨rfl, W1, rfl, ha⟩
    refine ⟨rfl, ?_⟩
    obtain ⟨own', gs', qh', qw', v', csh', csw', k1, k2⟩ := h3.rowW ha (n := (c.wl.length : Int) - 1) (by rw [hl]; simp)
    have z1 : Fz own own W V := Fz.of_below hV
    obtain ⟨p1, p2⟩ := h.pm b x hb
    have z2 : Fz own own V ((V.setCell ⟨b, 7, none⟩ (.int .i64 (x.need c.tot))).setCell ⟨b, 6, none⟩ (.bool true)) := ((FrP.set (P := fun i => i = 5) p2 7 _).trans (FrP.set (P := fun i => i = 5) p2 6 _)).fz (by omega)
    exact ⟨own', gs', qh', qw', v', csh', csw', k1, (z1.trans z2).trans k2⟩
  have hbg : b ≠ g := fun e => by
    have := (h.pm b x hb).2
    rw [e, h.lab] at this; cases this
  clear h hb hl
  generalize x.need c.tot = n at *
  go_enter Tryz.func67, Tryz.ntmps67
  go_wp2_with fail
  refine HN.out.mono ?_
  rintro e w1 ⟨rfl, HB, ⟨y1, y2⟩, y3, y4⟩
  go_wp2_with (go_at_call 107; refine (HP.out _ HB.out).mono ?_; rintro e w2 ⟨rfl, hT⟩)
  go_end0
  exact ⟨rfl, hT⟩
end
end Go.Proofs.YtmjhfabdbajchaaGreatDoor
set_option linter.unusedVariables false
set_option linter.unusedSimpArgs false
namespace Go.Proofs.YtmjhfabdbajchaaGreatDoor
open Go.RowKit

section
variable {own : Nat → Nat} {W V : World} {g N : Nat} {c c' : CS}
theorem T9.step {own1 : Nat → Nat} {w' : World} (hz : Fz own own1 W V) (k : T9 own1 V w' g N c') : T9 own W w' g N c' := by
  obtain ⟨o, gs, qh, qw, v, csh, csw, k1, k2⟩ := k
  exact ⟨o, gs, qh, qw, v, csh, csw, k1, hz.trans k2⟩
theorem T9.below {w' : World} (h : T9 own W V g N c) (hb : Below V.heap.size V w') : T9 own W w' g N c := by
  obtain ⟨o, gs, qh, qw, v, csh, csw, k1, k2⟩ := h
  exact ⟨o, gs, qh, qw, v, csh, csw, k1.below hb, k2.trans (Fz.of_below hb)⟩
theorem ST.t9 {gs qh qw : Nat} {v : Value} {csh csw : List (Nat × List Nat)} (h : ST own W g N gs qh qw v csh csw c) : T9 own W W g N c := ⟨own, gs, qh, qw, v, csh, csw, h, Fz.refl _ _⟩
theorem last_t (h : T9 own W V g N c) : Calls Tryz.prog 66 #[.pointer (some ⟨g, 5, none⟩)] V fun e w' => e = .returned (.tuple #[.pointer (pa c.wl.getLast?), .bool (!c.wl.isEmpty)]) ∧ T9 own W w' g N c := by
  have h0 := h
  obtain ⟨o, gs, qh, qw, v, csh, csw, k1, k2⟩ := h
  have := last_any k1.rw k1.c5
  rw [k1.wl] at this
  refine this.mono ?_
  rintro e w' ⟨rfl, hb⟩
  exact ⟨rfl, h0.below hb⟩
theorem first_t (h : T9 own W V g N c) : Calls Tryz.prog 61 #[.pointer (some ⟨g, 3, none⟩)] V fun e w' => e = .returned (.tuple #[.pointer (pa c.hl.head?), .bool (!c.hl.isEmpty)]) ∧ T9 own W w' g N c := by
  have h0 := h
  obtain ⟨o, gs, qh, qw, v, csh, csw, k1, k2⟩ := h
  have := first_any k1.rh k1.c3
  rw [k1.hl] at this
  refine this.mono ?_
  rintro e w' ⟨rfl, hb⟩
  exact ⟨rfl, h0.below hb⟩
theorem settleLast_t (h : T9 own W V g N c) {b : Nat} {x : Px} (hb : c.m b = some x) {l : List Nat} (hl : c.wl = l ++ [b]) (hw : c.wl.length ≤ 1000000000) :
    Calls Tryz.prog 67 #[.pointer (some ⟨g, 0, none⟩), .pointer (some ⟨b, 0, none⟩)] V fun e w' => e = .returned (.tuple #[]) ∧ T9 own W w' g N { c with m := upx c.m b (x.settle c.tot), wl := l } := by
  obtain ⟨o, gs, qh, qw, v, csh, csw, k1, k2⟩ := h
  refine (settleLast_any k1 hb hl hw).mono ?_
  rintro e w' ⟨rfl, ha⟩
  exact ⟨rfl, ha.step k2⟩
theorem T9.piece (h : T9 own W V g N c) {b : Nat} {x : Px} (hb : c.m b = some x) : V.heap[b]? = some (.cells (pxc x) 123 (0, 0)) := by
  obtain ⟨o, gs, qh, qw, v, csh, csw, k1, k2⟩ := h
  exact (k1.pm b x hb).1
theorem T9.cc (h : T9 own W V g N c) : V.cell? ⟨g, 0, none⟩ = some (.bool false) ∧ V.cell? ⟨g, 1, none⟩ = some (.int .i64 (c.op : Nat)) ∧ V.cell? ⟨g, 2, none⟩ = some (.int .i64 c.tot) ∧ V.cell? ⟨g, 4, none⟩ = some (.int .i64 (c.hl.length : Nat)) ∧ V.cell? ⟨g, 6, none⟩ = some (.int .i64 (c.wl.length : Nat)) ∧ (∀ k, V.frozen? ⟨g, k, none⟩ = false) ∧ g < V.heap.size := by
  obtain ⟨o, gs, qh, qw, v, csh, csw, k1, k2⟩ := h
  exact ⟨k1.c0, k1.c1, k1.c2, k1.c4, k1.c6, k1.fz, k1.lt⟩
end
/-- What a cell counts. -/
def cntAt (w : World) (g k : Nat) : Nat := match w.cell? ⟨g, k, none⟩ with
  | some (.int _ n) => n.toNat
  | _ => 0
theorem cntAt_of {w : World} {g k n : Nat} (h : w.cell? ⟨g, k, none⟩ = some (.int .i64 (n : Nat))) : cntAt w g k = n := by
  unfold cntAt; rw [h]; simp
theorem gl_rev (rl : List Nat) : rl.reverse.getLast? = rl.head? := by rw [List.getLast?_reverse]
theorem ie_rev (rl : List Nat) : rl.reverse.isEmpty = rl.isEmpty := by cases rl <;> simp
theorem upx_mem {m : Pm} {b : Nat} {x y : Px} (hx : m b = some x) (hy : y.d = x.d) {rl : List Nat} (h : ∀ k ∈ rl, ∃ z, m k = some z ∧ (z.d.k = 6 ∨ z.d.k = 3)) : ∀ k ∈ rl, ∃ z, upx m b y k = some z ∧ (z.d.k = 6 ∨ z.d.k = 3) := by
  intro k hk
  obtain ⟨z, h1, h2⟩ := h k hk
  by_cases e : k = b
  · subst e
    rw [hx] at h1; cases h1
    exact ⟨y, upx_self _ _ _, by rw [hy]; exact h2⟩
  · exact ⟨z, by rw [upx_ne _ _ e]; exact h1, h2⟩

section
variable {own : Nat → Nat} {W : World} {g N : Nat} {c : CS}
theorem settle_no (h : T9 own W W g N c) (e : Int) (he : e = 1 ∨ e = 2 ∨ e = 6) : Calls Tryz.prog 36 #[.pointer (some ⟨g, 0, none⟩), .int .u8 e] W fun x w' => x = .returned (.tuple #[]) ∧ w' = W := by
  clear h
  rcases he with rfl | rfl | rfl
  · go_enter Tryz.func36, Tryz.ntmps36
    go_wp2_with fail
    go_step3
    go_wp2_with fail
    (try rw [Exit.noGoto_ret])
    (try simp only [Exit.inBlock, Exit.then])
    refine bodyPost_ret (results_none rfl _ _ _) rfl ?_
    exact ⟨rfl, rfl⟩
  · go_enter Tryz.func36, Tryz.ntmps36
    go_wp2_with fail
    go_step3
    go_wp2_with fail
    (try rw [Exit.noGoto_ret])
    (try simp only [Exit.inBlock, Exit.then])
    refine bodyPost_ret (results_none rfl _ _ _) rfl ?_
    exact ⟨rfl, rfl⟩
  · go_enter Tryz.func36, Tryz.ntmps36
    go_wp2_with fail
    go_step3
    go_wp2_with fail
    (try rw [Exit.noGoto_ret])
    (try simp only [Exit.inBlock, Exit.then])
    refine bodyPost_ret (results_none rfl _ _ _) rfl ?_
    exact ⟨rfl, rfl⟩
set_option maxHeartbeats 2000000 in
theorem settle_yes (rl0 : List Nat) (h : T9 own W W g N c) (hrl : c.wl = rl0.reverse) (hm : ∀ b ∈ rl0, ∃ x, c.m b = some x ∧ (x.d.k = 6 ∨ x.d.k = 3)) (hlen : rl0.length ≤ 1000000000) (e : Int) (he : e = 3 ∨ e = 4 ∨ e = 5 ∨ e = 7) :
    Calls Tryz.prog 36 #[.pointer (some ⟨g, 0, none⟩), .int .u8 e] W fun x w' => x = .returned (.tuple #[]) ∧ T9 own W w' g N { c with m := (sett c.tot e c.m rl0).1, wl := (sett c.tot e c.m rl0).2.reverse } := by
  obtain ⟨F, hF⟩ : ∃ F, sett c.tot e c.m rl0 = F := ⟨_, rfl⟩
  rw [hF]
  have HI0 : Hid (T9 own W W g N { c with m := c.m, wl := rl0.reverse } ∧ sett c.tot e c.m rl0 = F ∧ (∀ b ∈ rl0, ∃ x, c.m b = some x ∧ (x.d.k = 6 ∨ x.d.k = 3)) ∧ rl0.length ≤ 1000000000) := by
    refine ⟨?_, hF, hm, hlen⟩
    rw [← hrl]; exact h
  have q1 : (e == 1) = false := by rcases he with rfl | rfl | rfl | rfl <;> rfl
  have q2 : (e == 2) = false := by rcases he with rfl | rfl | rfl | rfl <;> rfl
  have q6 : (e == 6) = false := by rcases he with rfl | rfl | rfl | rfl <;> rfl
  have HL0 : Hid (∀ (V : World) (m : Pm) (rl : List Nat), T9 own W V g N { c with m := m, wl := rl.reverse } → Calls Tryz.prog 66 #[.pointer (some ⟨g, 5, none⟩)] V fun x w' => x = .returned (.tuple #[.pointer (pa rl.head?), .bool (!rl.isEmpty)]) ∧ T9 own W w' g N { c with m := m, wl := rl.reverse }) := fun V m rl hV => by
    have := last_t hV
    simp only [gl_rev, ie_rev] at this
    exact this
  have HS : Hid (∀ (V : World) (m : Pm) (b : Nat) (x : Px) (r : List Nat), T9 own W V g N { c with m := m, wl := (b :: r).reverse } → m b = some x → (b :: r).length ≤ 1000000000 → Calls Tryz.prog 67 #[.pointer (some ⟨g, 0, none⟩), .pointer (some ⟨b, 0, none⟩)] V fun y w' => y = .returned (.tuple #[]) ∧ T9 own W w' g N { c with m := upx m b (x.settle c.tot), wl := r.reverse }) := fun V m b x r hV hb hl => settleLast_t hV hb (by simp) (by rw [List.length_reverse]; exact hl)
  clear h hrl hm hF
  go_enter Tryz.func36, Tryz.ntmps36
  go_wp2_with fail
  go_step3
  go_wp2_with fail
  go_step3
  go_wp2_with (go_at_call 66; refine (HL0.out _ _ _ HI0.out.1).mono ?_; rintro x w1 ⟨rfl, h1⟩)
  have HI1 : Hid (T9 own W w1 g N { c with m := c.m, wl := rl0.reverse } ∧ sett c.tot e c.m rl0 = F ∧ (∀ b ∈ rl0, ∃ x, c.m b = some x ∧ (x.d.k = 6 ∨ x.d.k = 3)) ∧ rl0.length ≤ 1000000000) := ⟨h1, HI0.out.2⟩
  clear h1
  go_loopw [4, 5] (fun s4 s5 wr => ∃ (m : Pm) (rl : List Nat), s4 = .pointer (pa rl.head?) ∧ s5 = .bool (!rl.isEmpty) ∧ Hid (T9 own W wr g N { c with m := m, wl := rl.reverse } ∧ sett c.tot e m rl = F ∧ (∀ b ∈ rl, ∃ x, m b = some x ∧ (x.d.k = 6 ∨ x.d.k = 3)) ∧ rl.length ≤ 1000000000)) (fun _ _ wr => cntAt wr g 6)
  case atStart => exact ⟨c.m, rl0, rfl, rfl, HI1.out⟩
  case round =>
    obtain ⟨m, rl, rfl, rfl, HI⟩ := hrel
    cases rl with
    | nil =>
      have HE : Hid (T9 own W wr g N { c with m := F.1, wl := F.2.reverse }) := by
        obtain ⟨a1, a2, _⟩ := HI.out
        rw [← a2]; exact a1
      clear HI
      go_wp2_with fail
      (first | go_end0 | (rw [Exit.noGoto_normal]; go_end0) | (simp only [Exit.noGoto_normal, Exit.noGoto_exit, Exit.inBlock, Exit.then]; go_end0) | (trace_state; fail))
      exact ⟨rfl, HE.out⟩
    | cons b r =>
      obtain ⟨a1, a2, a3, a4⟩ := HI.out
      obtain ⟨x, hx, hk⟩ := a3 b List.mem_cons_self
      have p0 : wr.cell? ⟨b, 0, none⟩ = some (.int .u8 x.d.k) := blk_cell (a1.piece hx) rfl
      have hcnt : cntAt wr g 6 = r.length + 1 := by
        have := a1.cc.2.2.2.2.1
        rw [cntAt_of this]; simp
      by_cases h3 : x.d.k = 3
      · have es : sett c.tot e (upx m b (x.settle c.tot)) r = F := by
          rw [← a2, sett, hx]
          simp only [h3, if_true]
        have HS1 : Hid (Calls Tryz.prog 67 #[.pointer (some ⟨g, 0, none⟩), .pointer (some ⟨b, 0, none⟩)] wr fun y w' => y = .returned (.tuple #[]) ∧ T9 own W w' g N { c with m := upx m b (x.settle c.tot), wl := r.reverse }) := HS.out wr m b x r a1 hx a4
        have HE : Hid (sett c.tot e (upx m b (x.settle c.tot)) r = F ∧ (∀ k ∈ r, ∃ z, upx m b (x.settle c.tot) k = some z ∧ (z.d.k = 6 ∨ z.d.k = 3)) ∧ r.length ≤ 1000000000) := ⟨es, upx_mem (y := x.settle c.tot) hx rfl (fun k hk => a3 k (List.mem_cons_of_mem _ hk)), by rw [List.length_cons] at a4; omega⟩
        have HC : Hid (cntAt wr g 6 = r.length + 1) := hcnt
        rw [h3] at p0
        clear HI a1 a2 a3 a4 hk hcnt es h3
        go_wp2_with fail
        refine HS1.out.mono ?_
        rintro y w2 ⟨rfl, h2⟩
        have H2 := hide9 h2
        clear h2
        go_wp2_with (go_at_call 66; refine (HL0.out _ _ _ H2.out).mono ?_; rintro x3 w3 ⟨rfl, h3⟩)
        refine ⟨⟨_, r, rfl, rfl, h3, HE.out⟩, ?_⟩
        have := h3.cc.2.2.2.2.1
        rw [HC.out, cntAt_of this]; simp
      · have h6 : x.d.k = 6 := by omega
        rw [h6] at p0
        by_cases h7 : e = 7
        · subst h7
          have HS1 : Hid (Calls Tryz.prog 67 #[.pointer (some ⟨g, 0, none⟩), .pointer (some ⟨b, 0, none⟩)] wr fun y w' => y = .returned (.tuple #[]) ∧ T9 own W w' g N { c with m := F.1, wl := F.2.reverse }) := by
            have es : F = (upx m b (x.settle c.tot), r) := by
              rw [← a2, sett, hx]
              simp [h3]
            rw [es]
            exact HS.out wr m b x r a1 hx a4
          clear HI a1 a2 a3 a4 hk hcnt h3 h6
          go_wp2_with fail
          refine HS1.out.mono ?_
          rintro y w2 ⟨rfl, h2⟩
          have H2 := hide9 h2
          clear h2
          go_wp2_with fail
          (first | go_end0 | (rw [Exit.noGoto_normal]; go_end0) | (simp only [Exit.noGoto_normal, Exit.noGoto_exit, Exit.inBlock, Exit.then]; go_end0) | (trace_state; fail))
          exact ⟨rfl, H2.out⟩
        · have HE : Hid (T9 own W wr g N { c with m := F.1, wl := F.2.reverse }) := by
            have es : F = (m, b :: r) := by
              rw [← a2, sett, hx]
              simp [h3, h7]
            rw [es]; exact a1
          have q7 : (e == 7) = false := by simpa using h7
          clear HI a1 a2 a3 a4 hk hcnt h3 h6
          go_wp2_with fail
          (first | go_end0 | (rw [Exit.noGoto_normal]; go_end0) | (simp only [Exit.noGoto_normal, Exit.noGoto_exit, Exit.inBlock, Exit.then]; go_end0) | (trace_state; fail))
          exact ⟨rfl, HE.out⟩
/-- What settle does. -/
theorem settle_t {V : World} (rl0 : List Nat) (h : T9 own W V g N c) (hrl : c.wl = rl0.reverse) (hm : ∀ b ∈ rl0, ∃ x, c.m b = some x ∧ (x.d.k = 6 ∨ x.d.k = 3)) (hlen : rl0.length ≤ 1000000000) (e : Int) (he : 1 ≤ e ∧ e ≤ 7) :
    Calls Tryz.prog 36 #[.pointer (some ⟨g, 0, none⟩), .int .u8 e] V fun x w' => x = .returned (.tuple #[]) ∧ T9 own W w' g N { c with m := (settk c.tot e c.m rl0).1, wl := (settk c.tot e c.m rl0).2.reverse } := by
  obtain ⟨o, gs, qh, qw, v, csh, csw, k1, k2⟩ := h
  by_cases hn : e = 1 ∨ e = 2 ∨ e = 6
  · have es : settk c.tot e c.m rl0 = (c.m, rl0) := by unfold settk; rw [if_pos hn]
    rw [es]
    refine (settle_no k1.t9 e hn).mono ?_
    rintro x w' ⟨rfl, rfl⟩
    refine ⟨rfl, ?_⟩
    have : T9 own W w' g N c := ⟨o, gs, qh, qw, v, csh, csw, k1, k2⟩
    simp only
    rw [← hrl]
    exact this
  · have es : settk c.tot e c.m rl0 = sett c.tot e c.m rl0 := by unfold settk; rw [if_neg hn]
    rw [es]
    refine (settle_yes rl0 k1.t9 hrl hm hlen e (by omega)).mono ?_
    rintro x w' ⟨rfl, ha⟩
    exact ⟨rfl, ha.step k2⟩
end
end Go.Proofs.YtmjhfabdbajchaaGreatDoor
set_option linter.unusedVariables false
set_option linter.unusedSimpArgs false
namespace Go.Proofs.YtmjhfabdbajchaaGreatDoor
open Go.RowKit

section
variable {own : Nat → Nat} {W V : World} {g N : Nat} {c : CS}
theorem sure_t (h : T9 own W V g N c) {b : Nat} {x : Px} (hb : c.m b = some x) {n : Nat} (hn : x.need c.tot = (n : Nat)) (hn2 : n ≤ 1000000000000000) {U : Nat} (hp : Bp c.pr U) (hU : U ≤ 268435456) (hN : N ≤ 4096) :
    Calls Tryz.prog 62 #[.pointer (some ⟨g, 0, none⟩), .pointer (some ⟨b, 0, none⟩)] V fun e w' => e = .returned (.bool (csr N c.pr x.d x.st n)) ∧ T9 own W w' g N c := by
  have h0 := h
  obtain ⟨o, gs, qh, qw, v, csh, csw, k1, k2⟩ := h
  refine (ssure_any k1 hb hn hn2 hp hU hN).mono ?_
  rintro e w' ⟨rfl, hb⟩
  exact ⟨rfl, h0.below hb⟩
theorem need_t (h : T9 own W V g N c) {b : Nat} {x : Px} (hb : c.m b = some x) {n : Nat} (hn : x.need c.tot = (n : Nat)) :
    Calls Tryz.prog 64 #[.pointer (some ⟨g, 0, none⟩), .pointer (some ⟨b, 0, none⟩)] V fun e w' => e = .returned (.int .i64 (n : Nat)) ∧ T9 own W w' g N c := by
  have := need_any g b x c.tot V h.cc.2.2.1 (h.piece hb)
  rw [hn] at this
  refine this.mono ?_
  rintro e w' ⟨rfl, hb⟩
  exact ⟨rfl, h.below hb⟩
theorem gput_t (h : T9 own W V g N c) {U : Nat} (hp : Bp c.pr U) (hU : U ≤ 268435456) (n : Nat) (hn2 : n ≤ 1000000000000000) (hN : N ≤ 4096) (hl : c.pr.ar.length ≤ 1000000000) (d : Dc) (hd : rt d = true) (h7 : d.k = 7 → c.pr.ar ≠ []) :
    Calls Tryz.prog 63 #[.pointer (some ⟨g, 7, none⟩), d.v, .int .i64 (n : Nat)] V fun e w' => e = .returned (.tuple #[]) ∧ T9 own W w' g N { c with pr := put N d n c.pr } := by
  obtain ⟨o, gs, qh, qw, v, csh, csw, k1, k2⟩ := h
  refine (gput_any k1.pg hp hU n hn2 hN hl d hd h7).mono ?_
  rintro e w' ⟨rfl, ha⟩
  exact ⟨rfl, (k1.unpg ha).step k2⟩
theorem told_t (h : T9 own W V g N c) {U : Nat} (hp : Bp c.pr U) (hU : U ≤ 268435456) :
    Calls Tryz.prog 35 #[.pointer (some ⟨g, 7, none⟩)] V fun e w' => e = .returned (.string ⟨c.pr.sk.out.toArray⟩) ∧ T9 own W w' g N { c with pr := { c.pr with sk := c.pr.sk.take } } := by
  obtain ⟨o, gs, qh, qw, v, csh, csw, k1, k2⟩ := h
  refine (told_any k1.pg hp hU).mono ?_
  rintro e w' ⟨rfl, ha⟩
  exact ⟨rfl, (k1.unpg ha).step k2⟩
theorem popF_t (h : T9 own W V g N c) {b : Nat} {l : List Nat} (hl : c.hl = b :: l) (hn : c.hl.length ≤ 1000000000) :
    Calls Tryz.prog 65 #[.pointer (some ⟨g, 3, none⟩)] V fun e w' => e = .returned (.tuple #[]) ∧ T9 own W w' g N { c with hl := l } := by
  obtain ⟨o, gs, qh, qw, v, csh, csw, k1, k2⟩ := h
  refine (popFront_any k1.rh k1.en.nf k1.lab c.hl.length hn k1.c3 k1.c4 (k1.fz 4) (k1.hl.trans hl)).mono ?_
  rintro e w' ⟨rfl, W1, rfl, ha⟩
  refine ⟨rfl, (k1.rowH ha ?_).step k2⟩
  rw [hl]; simp
theorem pushH_t (h : T9 own W V g N c) (b : Nat) (hn : c.hl.length ≤ 1000000000) :
    Calls Tryz.prog 59 #[.pointer (some ⟨g, 3, none⟩), .pointer (some ⟨b, 0, none⟩)] V fun e w' => e = .returned (.tuple #[]) ∧ T9 own W w' g N { c with hl := c.hl ++ [b] } := by
  obtain ⟨o, gs, qh, qw, v, csh, csw, k1, k2⟩ := h
  refine (push_any k1.rh k1.en.nf k1.lab c.hl.length hn (by rw [k1.hl]; exact hn) k1.c3 k1.c4 (k1.fz 4) b).mono ?_
  rintro e w' ⟨rfl, W1, rfl, ha⟩
  rw [k1.hl] at ha
  refine ⟨rfl, (k1.rowH ha ?_).step k2⟩
  simp
theorem pushW_t (h : T9 own W V g N c) (b : Nat) (hn : c.wl.length ≤ 1000000000) :
    Calls Tryz.prog 59 #[.pointer (some ⟨g, 5, none⟩), .pointer (some ⟨b, 0, none⟩)] V fun e w' => e = .returned (.tuple #[]) ∧ T9 own W w' g N { c with wl := c.wl ++ [b] } := by
  obtain ⟨o, gs, qh, qw, v, csh, csw, k1, k2⟩ := h
  refine (push_any k1.rw k1.en.nf k1.lab c.wl.length hn (by rw [k1.wl]; exact hn) k1.c5 k1.c6 (k1.fz 6) b).mono ?_
  rintro e w' ⟨rfl, W1, rfl, ha⟩
  rw [k1.wl] at ha
  refine ⟨rfl, (k1.rowW ha ?_).step k2⟩
  simp
theorem open_t (h : T9 own W V g N c) (n : Nat) : T9 own W (V.setCell ⟨g, 1, none⟩ (.int .i64 (n : Nat))) g N { c with op := n } := by
  obtain ⟨o, gs, qh, qw, v, csh, csw, k1, k2⟩ := h
  refine ⟨o, gs, qh, qw, v, csh, csw, k1.setg 1 _ rfl k1.hl.symm k1.wl.symm rfl rfl, k2.trans ((FrP.set (P := fun i => i = 2) k1.lab 1 _).fz (by omega))⟩
theorem total_t (h : T9 own W V g N c) (n : Int) : T9 own W (V.setCell ⟨g, 2, none⟩ (.int .i64 n)) g N { c with tot := n } := by
  obtain ⟨o, gs, qh, qw, v, csh, csw, k1, k2⟩ := h
  refine ⟨o, gs, qh, qw, v, csh, csw, k1.setg 2 _ rfl k1.hl.symm k1.wl.symm rfl rfl, k2.trans ((FrP.set (P := fun i => i = 2) k1.lab 2 _).fz (by omega))⟩
end

/-! Printing what is sure. -/
def IT (m : Pm) (tot : Int) : List Nat → List Dc → Prop
  | [], [] => True
  | b :: bs, d :: r => (∃ x, m b = some x ∧ x.d = d ∧ ∃ n : Nat, x.need tot = (n : Nat) ∧ n ≤ 1000000000000000) ∧ IT m tot bs r
  | _, _ => False
theorem IT.len {m : Pm} {tot : Int} : ∀ {hl : List Nat} {v : List Dc}, IT m tot hl v → hl.length = v.length
  | [], [], _ => rfl
  | b :: bs, d :: r, h => by rw [List.length_cons, List.length_cons, h.2.len]
  | [], d :: r, h => h.elim
  | b :: bs, [], h => h.elim
theorem pw_ud {d : Dc} (hd : rt d = true) : pw d ≤ ud d + 1000000 := by
  cases rt_of hd with
  | text t hq =>
    have h1 := tw_bd t
    have h2 := (rtT_len hq).2
    unfold pw ud
    simp only [if_true]
    split <;> omega
  | brk m hq =>
    have := rtN_of hq
    simp [pw, ud]; omega
  | beg m e hq => simp [pw, ud]
  | blank => simp [pw, ud]
  | hard => simp [pw, ud]
  | empty => simp [pw, ud]
  | «end» => simp [pw, ud]
theorem pws_uds : ∀ (l : List Dc), (∀ d ∈ l, rt d = true) → pws l ≤ uds l + 1000000 * l.length
  | [], _ => by simp [pws, uds]
  | d :: r, h => by
    have h1 := pws_uds r (fun x hx => h x (List.mem_cons_of_mem _ hx))
    have h2 := pw_ud (h d List.mem_cons_self)
    have e : uds (d :: r) = ud d + uds r := by simp [uds]
    rw [pws_cons, e, List.length_cons]; omega
theorem HI.it {m : Pm} {tot : Int} : ∀ {hl : List Nat} {v : List Dc}, HI m tot hl v → pws v ≤ 1000000000000000 → IT m tot hl v
  | [], [], _, _ => trivial
  | b :: bs, d :: r, h, hp => by
    obtain ⟨⟨ah, h1, h2⟩, h3⟩ := h
    have ht := sc_top d r
    have hp' := hp
    rw [pws_cons] at hp'
    exact ⟨⟨_, h1, rfl, (sc d r).n, px_need h2, by omega⟩, h3.it (by omega)⟩
  | [], _ :: _, h, _ => h.elim
  | _ :: _, [], h, _ => h.elim
theorem HC.it {m : Pm} {tot : Int} : ∀ {hl : List Nat} {v : List Dc}, HC m hl v → pws v ≤ 1000000000000000 → IT m tot hl v
  | [], [], _, _ => trivial
  | b :: bs, d :: r, h, hp => by
    obtain ⟨⟨ah, st, h1, h2⟩, h3⟩ := h
    have ht := sc_top d r
    have hp' := hp
    rw [pws_cons] at hp'
    refine ⟨⟨_, h1, rfl, (sc d r).n, ?_, by omega⟩, h3.it (by omega)⟩
    unfold Px.need
    cases hl : lks d
    · simp
    · simp [h2 hl]
  | [], _ :: _, h, _ => h.elim
  | _ :: _, [], h, _ => h.elim
section
variable {own : Nat → Nat} {W : World} {g N : Nat} {c : CS}
set_option maxHeartbeats 2000000 in
set_option maxRecDepth 100000 in
theorem printSure_any (h : T9 own W W g N c) {v0 : List Dc} {dp0 T C : Nat} {cl : Bool} (hit : IT c.m c.tot c.hl v0) (hbud : Bud ⟨c.pr, v0, dp0, cl⟩ T C) (hT : T ≤ 268435456) (hC : C ≤ 100000000) (hN : N ≤ 4096) :
    Calls Tryz.prog 34 #[.pointer (some ⟨g, 0, none⟩)] W fun x w' => x = .returned (.tuple #[]) ∧ T9 own W w' g N { c with pr := (cdr N c.tot c.m c.pr c.hl).1, hl := (cdr N c.tot c.m c.pr c.hl).2 } := by
  obtain ⟨F, hF⟩ : ∃ F, cdr N c.tot c.m c.pr c.hl = F := ⟨_, rfl⟩
  rw [hF]
  have HI0 : Hid (T9 own W W g N { c with pr := c.pr, hl := c.hl } ∧ cdr N c.tot c.m c.pr c.hl = F ∧ (∃ v, IT c.m c.tot c.hl v ∧ Bud ⟨c.pr, v, dp0, cl⟩ T C)) := ⟨h, hF, v0, hit, hbud⟩
  have HL0 : Hid (∀ (V : World) (p : Pr) (hl : List Nat), T9 own W V g N { c with pr := p, hl := hl } → Calls Tryz.prog 61 #[.pointer (some ⟨g, 3, none⟩)] V fun x w' => x = .returned (.tuple #[.pointer (pa hl.head?), .bool (!hl.isEmpty)]) ∧ T9 own W w' g N { c with pr := p, hl := hl }) := fun V p hl hV => first_t hV
  clear h hF hit hbud
  go_enter Tryz.func34, Tryz.ntmps34
  go_wp2_with (go_at_call 61; refine (HL0.out _ _ _ HI0.out.1).mono ?_; rintro x w1 ⟨rfl, h1⟩)
  have HI1 : Hid (T9 own W w1 g N { c with pr := c.pr, hl := c.hl } ∧ cdr N c.tot c.m c.pr c.hl = F ∧ (∃ v, IT c.m c.tot c.hl v ∧ Bud ⟨c.pr, v, dp0, cl⟩ T C)) := ⟨h1, HI0.out.2⟩
  clear h1 HI0
  go_loopw [2, 3] (fun s2 s3 wr => ∃ (p : Pr) (hl : List Nat), s2 = .pointer (pa hl.head?) ∧ s3 = .bool (!hl.isEmpty) ∧ Hid (T9 own W wr g N { c with pr := p, hl := hl } ∧ cdr N c.tot c.m p hl = F ∧ (∃ v, IT c.m c.tot hl v ∧ Bud ⟨p, v, dp0, cl⟩ T C))) (fun _ _ wr => cntAt wr g 4)
  case atStart => exact ⟨c.pr, c.hl, rfl, rfl, HI1.out⟩
  case round =>
    obtain ⟨p, hl, rfl, rfl, HI⟩ := hrel
    cases hl with
    | nil =>
      have HE : Hid (T9 own W wr g N { c with pr := F.1, hl := F.2 }) := by
        obtain ⟨a1, a2, _⟩ := HI.out
        rw [← a2]; exact a1
      clear HI
      go_wp2_with fail
      go_end0
      exact ⟨rfl, HE.out⟩
    | cons b r =>
      obtain ⟨a1, a2, v, a3, a4⟩ := HI.out
      cases v with
      | nil => exact a3.elim
      | cons d v =>
        have hlen := a3.len
        obtain ⟨⟨x, hx, rfl, n, hn, hn2⟩, a5⟩ := a3
        obtain ⟨h7, ⟨U, hU1, hU2⟩, hal, hvl, hst⟩ := a4.step N n
        have hrt := a4.rt x.d List.mem_cons_self
        have hblk := a1.piece hx
        have HSU : Hid (Calls Tryz.prog 62 #[.pointer (some ⟨g, 0, none⟩), .pointer (some ⟨b, 0, none⟩)] wr fun e w' => e = .returned (.bool (csr N p x.d x.st n)) ∧ T9 own W w' g N { c with pr := p, hl := b :: r }) := sure_t a1 hx hn hn2 hU1 (by omega) hN
        have ecd : cdr N c.tot c.m p (b :: r) = if csr N p x.d x.st n = true then cdr N c.tot c.m (put N x.d n p) r else (p, b :: r) := by
          rw [cdr, hx]
          simp only [hn, Int.toNat_natCast]
        rw [ecd] at a2
        by_cases hc : csr N p x.d x.st n = true
        · rw [if_pos hc] at a2
          rw [hc] at HSU
          have HND : Hid (∀ V, T9 own W V g N { c with pr := p, hl := b :: r } → Calls Tryz.prog 64 #[.pointer (some ⟨g, 0, none⟩), .pointer (some ⟨b, 0, none⟩)] V fun e w' => e = .returned (.int .i64 (n : Nat)) ∧ Hid (T9 own W w' g N { c with pr := p, hl := b :: r }) ∧ w'.heap[b]? = some (.cells (pxc x) 123 (0, 0))) := fun V hV => (need_t hV hx hn).mono fun e w' ⟨q1, q2⟩ => ⟨q1, q2, q2.piece hx⟩
          have HPT : Hid (∀ V, T9 own W V g N { c with pr := p, hl := b :: r } → Calls Tryz.prog 63 #[.pointer (some ⟨g, 7, none⟩), x.d.v, .int .i64 (n : Nat)] V fun e w' => e = .returned (.tuple #[]) ∧ Hid (T9 own W w' g N { c with pr := put N x.d n p, hl := b :: r }) ∧ w'.heap[b]? = some (.cells (pxc x) 123 (0, 0))) := fun V hV => (gput_t hV hU1 (by omega) n hn2 hN (Nat.le_trans hal (by omega)) x.d hrt h7).mono fun e w' ⟨q1, q2⟩ => ⟨q1, q2, q2.piece hx⟩
          have HPO : Hid (∀ V, T9 own W V g N { c with pr := put N x.d n p, hl := b :: r } → Calls Tryz.prog 65 #[.pointer (some ⟨g, 3, none⟩)] V fun e w' => e = .returned (.tuple #[]) ∧ T9 own W w' g N { c with pr := put N x.d n p, hl := r }) := fun V hV => popF_t hV rfl (by show (b :: r).length ≤ _; rw [hlen]; exact Nat.le_trans hvl (by omega))
          have HE : Hid (cdr N c.tot c.m (put N x.d n p) r = F ∧ (∃ v, IT c.m c.tot r v ∧ Bud ⟨put N x.d n p, v, dp0, cl⟩ T C)) := ⟨a2, v, a5, hst⟩
          have HCN : Hid (cntAt wr g 4 = r.length + 1) := by
            have := a1.cc.2.2.2.1
            show _ = _
            rw [cntAt_of this]; rfl
          have HKE : Hid (∀ (V : World) (d : Dc) (ah : Int) (st : Bool) (nd : Int), V.heap[b]? = some (.cells (pxc ⟨d, ah, st, nd⟩) 123 (0, 0)) → V.cell? ⟨b, 0, none⟩ = some (.int .u8 d.k) ∧ V.cell? ⟨b, 1, none⟩ = some (.string d.t) ∧ V.cell? ⟨b, 2, none⟩ = some (.int .i64 d.b) ∧ V.cell? ⟨b, 3, none⟩ = some (.int .i64 d.i) ∧ V.cell? ⟨b, 4, none⟩ = some (.bool d.e)) := fun V d ah st nd hV => ⟨blk_cell hV rfl, blk_cell hV rfl, blk_cell hV rfl, blk_cell hV rfl, blk_cell hV rfl⟩
          obtain ⟨⟨dk, dt, db, di, de⟩, ah, st, nd⟩ := x
          clear HI a1 a2 a4 a5 hst hlen hvl hal hU1 h7 ecd hc hblk hrt
          dsimp only [Dc.v] at *
          go_wp2_with fail
          refine HSU.out.mono ?_
          rintro e w2 ⟨rfl, h2⟩
          have H2 := hide9 h2
          have k2 := HKE.out w2 _ _ _ _ (h2.piece hx)
          dsimp only at k2
          obtain ⟨k20, k21, k22, k23, k24⟩ := k2
          clear h2
          have HDR : Hid (∀ V, T9 own W V g N { c with pr := p, hl := b :: r } → T9 own W V.drew g N { c with pr := p, hl := b :: r }) := fun V hV => hV.below (Below.refl _ _).drew
          go_wp2_with fail
          go_region_held3 (fun w' => w'.cell? ⟨b, 0, none⟩ = some (.int .u8 dk) ∧ w'.cell? ⟨b, 1, none⟩ = some (.string dt) ∧ w'.cell? ⟨b, 2, none⟩ = some (.int .i64 db) ∧ w'.cell? ⟨b, 3, none⟩ = some (.int .i64 di) ∧ w'.cell? ⟨b, 4, none⟩ = some (.bool de)) (first | (exact HKE.out _ ⟨dk, dt, db, di, de⟩ _ _ _ (by assumption)) | (exact ⟨by assumption, by assumption, by assumption, by assumption, by assumption⟩) | go_keep) (first | (go_at_call 64; refine (HND.out _ (by first | exact HDR.out _ H2.out | exact H2.out)).mono ?_; rintro e w3 ⟨rfl, H3, k3⟩) | (go_at_call 63; refine (HPT.out _ H3.out).mono ?_; rintro e w4 ⟨rfl, H4, k4⟩))
          all_goals (
            clear k3 k4 k20 k21 k22 k23 k24
            go_wp2_with fail
            refine (HPO.out _ H4.out).mono ?_
            rintro e w5 ⟨rfl, h5⟩
            have H5 := hide9 h5
            clear h5
            go_wp2_with (go_at_call 61; refine (HL0.out _ _ _ H5.out).mono ?_; rintro x6 w6 ⟨rfl, h6⟩)
            refine ⟨⟨_, r, rfl, rfl, h6, HE.out⟩, ?_⟩
            have := h6.cc.2.2.2.1
            rw [HCN.out, cntAt_of this]; simp)
        · have hcf : csr N p x.d x.st n = false := by simpa using hc
          rw [if_neg hc] at a2
          rw [hcf] at HSU
          have HE : Hid (∀ V, T9 own W V g N { c with pr := p, hl := b :: r } → T9 own W V g N { c with pr := F.1, hl := F.2 }) := fun V hV => by rw [← a2]; exact hV
          clear HI a1 a2 a4 a5 hst hlen hvl hal hU1 h7 ecd hc hcf hblk hrt
          go_wp2_with fail
          refine HSU.out.mono ?_
          rintro e w2 ⟨rfl, h2⟩
          have H2 := hide9 h2
          clear h2
          go_wp2_with fail
          go_end0
          exact ⟨rfl, HE.out _ H2.out⟩
theorem printSure_t {V : World} (h : T9 own W V g N c) {v0 : List Dc} {dp0 T C : Nat} {cl : Bool} (hit : IT c.m c.tot c.hl v0) (hbud : Bud ⟨c.pr, v0, dp0, cl⟩ T C) (hT : T ≤ 268435456) (hC : C ≤ 100000000) (hN : N ≤ 4096) :
    Calls Tryz.prog 34 #[.pointer (some ⟨g, 0, none⟩)] V fun x w' => x = .returned (.tuple #[]) ∧ T9 own W w' g N { c with pr := (cdr N c.tot c.m c.pr c.hl).1, hl := (cdr N c.tot c.m c.pr c.hl).2 } := by
  obtain ⟨o, gs, qh, qw, v, csh, csw, k1, k2⟩ := h
  refine (printSure_any k1.t9 hit hbud hT hC hN).mono ?_
  rintro x w' ⟨rfl, ha⟩
  exact ⟨rfl, ha.step k2⟩
end
end Go.Proofs.YtmjhfabdbajchaaGreatDoor
