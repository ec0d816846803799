import Derived.Test.YtcokccfbeonlnaaDoorHa
import Derived.Test.YtcokccfbeonlnaaDoorHd
import Derived.Test.YtcokccfbeonlnaaDoorDk
import Derived.Deep.RegionHeld3
import Derived.BigRegion
set_option linter.unusedVariables false
set_option linter.unusedSimpArgs false
namespace Go.Proofs.YtcokccfbeonlnaaDoor
open Go.RowKit

theorem Tryd.info52 : (Tryd.prog.info? 52).map (fun i => (i.zero, i.size, i.bytes)) = some (some (.agg #[.int .i64 0, .bool false, .bool false]), 3, 16) := by kernel_rfl
def bkc (b : Bk) : List Value := [.int .i64 b.ind, .bool b.ev, .bool b.ft]
theorem bkc_len (b : Bk) : (bkc b).length = 3 := rfl
/-- The cells of a printer. -/
def prc (n gs : Nat) (b : Bk) (v : Value) (en : Bool) : Array Value := #[.int .i64 n, .pointer (some ⟨gs, 0, none⟩), .int .i64 b.ind, .bool b.ev, .bool b.ft, v, .bool en]

/-- The printer at block g, its sink at gs. -/
structure PS (B : Nat) (w0 : World) (own : Nat → Nat) (W : World) (g gs n : Nat) (p : Pr) : Prop where
  en : En own W
  lo : ∀ k, k < B → own k = 0
  bel : Below B w0 W
  hB : B ≤ w0.heap.size
  sk : SK own 1 W gs p.sk
  pr : ∃ v, W.heap[g]? = some (.cells (prc n gs p.bl v p.en) 55 (0, 0)) ∧ (W.ownsRow 0 52 3 v p.ar.length (flat bkc p.ar.reverse) ∧ ∀ k, v.ownBlock = some k → own k = 2)
  lab : own g = 2
section
variable {B : Nat} {w0 : World} {own : Nat → Nat} {W : World} {g gs n : Nat} {p : Pr}
theorem PS.c0 (h : PS B w0 own W g gs n p) : W.cell? ⟨g, 0, none⟩ = some (.int .i64 n) := by obtain ⟨v, h1, _⟩ := h.pr; exact blk_cell h1 rfl
theorem PS.c1 (h : PS B w0 own W g gs n p) : W.cell? ⟨g, 1, none⟩ = some (.pointer (some ⟨gs, 0, none⟩)) := by obtain ⟨v, h1, _⟩ := h.pr; exact blk_cell h1 rfl
theorem PS.c2 (h : PS B w0 own W g gs n p) : W.cell? ⟨g, 2, none⟩ = some (.int .i64 p.bl.ind) := by obtain ⟨v, h1, _⟩ := h.pr; exact blk_cell h1 rfl
theorem PS.c3 (h : PS B w0 own W g gs n p) : W.cell? ⟨g, 3, none⟩ = some (.bool p.bl.ev) := by obtain ⟨v, h1, _⟩ := h.pr; exact blk_cell h1 rfl
theorem PS.c4 (h : PS B w0 own W g gs n p) : W.cell? ⟨g, 4, none⟩ = some (.bool p.bl.ft) := by obtain ⟨v, h1, _⟩ := h.pr; exact blk_cell h1 rfl
theorem PS.c6 (h : PS B w0 own W g gs n p) : W.cell? ⟨g, 6, none⟩ = some (.bool p.en) := by obtain ⟨v, h1, _⟩ := h.pr; exact blk_cell h1 rfl
theorem PS.fz (h : PS B w0 own W g gs n p) (k : Nat) : W.frozen? ⟨g, k, none⟩ = false := by obtain ⟨v, h1, _⟩ := h.pr; exact blk_frozen h1
theorem PS.lt (h : PS B w0 own W g gs n p) : g < W.heap.size := by obtain ⟨v, h1, _⟩ := h.pr; exact blk_lt h1
theorem PS.bl (h : PS B w0 own W g gs n p) : B ≤ W.heap.size := Nat.le_trans h.hB h.bel.size
theorem PS.gB (h : PS B w0 own W g gs n p) : B ≤ g := by
  refine Nat.le_of_not_lt fun hlt => ?_
  have := h.lo g hlt
  rw [h.lab] at this
  cases this

theorem PS.below (h : PS B w0 own W g gs n p) {W' : World} (hb : Below W.heap.size W W') : PS B w0 own W' g gs n p := by
  obtain ⟨v, h1, h2, h3⟩ := h.pr
  exact ⟨h.en.below hb, h.lo, h.bel.trans (hb.mono h.bl), h.hB, h.sk.below hb, ⟨v, blk_below h1 hb, row_below h2 hb, h3⟩, h.lab⟩
/-- What is no printer's and no sink's stands. -/
def Sd (own own' : Nat → Nat) (W W' : World) : Prop := ∀ k, k < W.heap.size → own k = 0 → W'.heap[k]? = W.heap[k]? ∧ own' k = 0
theorem Sd.refl (own : Nat → Nat) (W : World) : Sd own own W W := fun k _ h => ⟨rfl, h⟩
theorem Sd.trans {o1 o2 o3 : Nat → Nat} {A C D : World} (h : Sd o1 o2 A C) (hs : A.heap.size ≤ C.heap.size) (k : Sd o2 o3 C D) : Sd o1 o3 A D := fun j hj h0 =>
  ⟨(k j (by omega) (h j hj h0).2).1.trans (h j hj h0).1, (k j (by omega) (h j hj h0).2).2⟩
/-- Behind a call on the sink. -/
theorem PS.sink (h : PS B w0 own W g gs n p) {W' : World} {s' : St6} (ha : Ae own 1 W W' gs s') : ∃ own', PS B w0 own' W' g gs n { p with sk := s' } ∧ Sd own own' W W' ∧ W.heap.size ≤ W'.heap.size := by
  obtain ⟨own', e1, e2, e3⟩ := ha
  obtain ⟨v, h1, h2⟩ := h.pr
  have hlt := blk_lt h1
  have hbl := h.bl
  refine ⟨own', ⟨e1, fun k hk => (e2.old k (by omega)).trans (h.lo k hk), h.bel.trans (e2.below hbl h.lo (by omega)), h.hB, e3, ⟨v, ?_, fr_row e2 (by omega) h2⟩, (e2.old g hlt).trans h.lab⟩, fun k hk h0 => ⟨e2.block k hk (by rw [h0]; omega), (e2.old k hk).trans h0⟩, e2.size⟩
  exact (e2.block g hlt (by rw [h.lab]; omega)).trans h1
theorem PS.sett (h : PS B w0 own W g gs n p) (b : Bool) : PS B w0 own (W.setCell ⟨g, 6, none⟩ (.bool b)) g gs n { p with en := b } ∧ Sd own own W (W.setCell ⟨g, 6, none⟩ (.bool b)) := by
  obtain ⟨v, h1, h2, h3⟩ := h.pr
  have hf : Fr 2 own own W (W.setCell ⟨g, 6, none⟩ (.bool b)) := (Fr.refl 2 own W).set' h.lab 6 _
  have hn : Nf own (W.setCell ⟨g, 6, none⟩ (.bool b)) := h.en.nf.below (Kp.set W g 6 _).size
  have r1 := row_ne h2 h1 (by decide)
  exact ⟨⟨h.en.fr (by omega) hn hf, h.lo, h.bel.setCell (p := ⟨g, 6, none⟩) h.gB _, h.hB, h.sk.kept hf (by omega), ⟨v, blk_set h1 6 _, (Kp.set W g 6 _).row h2 (fun k e1 e2 => r1 (by rw [e1, e2])), h3⟩, h.lab⟩,
    fun k hk h0 => ⟨(Kp.set W g 6 (.bool b)).block k hk (fun e => by subst e; rw [h.lab] at h0; cases h0), h0⟩⟩
end

set_option maxHeartbeats 1000000 in
theorem pfits_any {B : Nat} {w0 : World} {own : Nat → Nat} {W : World} {g gs n : Nat} {p : Pr} (h : PS B w0 own W g gs n p) {U : Nat} (hp : Bp p U) (hU : U ≤ 268435456) (need : Nat) (hnd : need ≤ 1000000) (hn : n ≤ 4096) :
    Calls Tryd.prog 39 #[.pointer (some ⟨g, 0, none⟩), .int .i64 need] W fun e w' => e = .returned (.bool (p.fits n need)) ∧ Below W.heap.size W w' := by
  have hcol := hp.col
  have HC : Hid (∀ V, Below W.heap.size W V → Calls Tryd.prog 67 #[.pointer (some ⟨gs, 0, none⟩)] V fun e w' => e = .returned (.int .i64 ((p.sk.col : Int) + p.sk.wait)) ∧ Below V.heap.size V w') := fun V hV => column_st (h.below hV).sk (by omega) (by omega)
  have c0 := h.c0
  have c1 := h.c1
  have hlt := h.lt
  have HK : Hid (∀ V, Below W.heap.size W V → V.cell? ⟨g, 0, none⟩ = some (.int .i64 n) ∧ V.cell? ⟨g, 1, none⟩ = some (.pointer (some ⟨gs, 0, none⟩)) ∧ Below W.heap.size W V) := fun V hV => ⟨(h.below hV).c0, (h.below hV).c1, hV⟩
  have e : p.fits n need = decide ((need : Int) ≤ (n : Int) - ((p.sk.col : Int) + p.sk.wait)) := by
    unfold Pr.fits Pr.at
    rw [decide_eq_decide]
    omega
  rw [e]
  obtain ⟨z, hz⟩ : ∃ z : Nat, p.sk.col + p.sk.wait = z := ⟨_, rfl⟩
  have hz2 : (p.sk.col : Int) + p.sk.wait = (z : Int) := by omega
  rw [hz2] at HC ⊢
  have hzb : z ≤ 268435456 := by omega
  have hwr : IntKind.i64.wrap ((n : Int) - z) = (n : Int) - z := by rw [IntKind.wrap_i64]; omega
  clear hz hz2 hcol e h hp
  go_enter Tryd.func39, Tryd.ntmps39
  go_wp2_with fail
  go_region_held3 (fun w' => w'.cell? ⟨g, 0, none⟩ = some (.int .i64 n) ∧ w'.cell? ⟨g, 1, none⟩ = some (.pointer (some ⟨gs, 0, none⟩)) ∧ Below W.heap.size W w') (first | (exact HK.out _ (by assumption)) | (exact HK.out _ (Below.refl _ _).drew) | go_keep) (first | (go_at_call 67; refine (HC.out _ (by first | assumption | exact (Below.refl _ _).drew)).mono ?_; rintro e w1 ⟨rfl, hb1⟩; have hbW := (by first | exact (Below.refl W.heap.size W).drew.trans (hb1.mono (Nat.le_refl _)) | assumption : Below W.heap.size W w1)))
  all_goals (
    go_wp2_with fail
    go_ret
    exact ⟨by rw [← hwr]; rfl, hbW⟩)

theorem breaks_any {B : Nat} {w0 : World} {own : Nat → Nat} {W : World} {g gs n : Nat} {p : Pr} (h : PS B w0 own W g gs n p) {U : Nat} (hp : Bp p U) (hU : U ≤ 268435456) (need : Nat) (hnd : need ≤ 1000000) (hn : n ≤ 4096) :
    Calls Tryd.prog 36 #[.pointer (some ⟨g, 0, none⟩), .int .i64 need] W fun e w' => e = .returned (.bool (p.brk n need)) ∧ Below W.heap.size W w' := by
  have HF := pfits_any h hp hU need hnd hn
  have c3 := h.c3
  have c4 := h.c4
  unfold Pr.brk
  generalize p.fits n need = f at *
  generalize p.bl.ev = ev at *
  generalize p.bl.ft = ft at *
  clear h hp
  cases ev
  · go_enter Tryd.func36, Tryd.ntmps36
    go_wp2_with (go_at_call 39; refine HF.mono ?_; rintro e w1 ⟨rfl, hb1⟩)
    go_ret
    exact ⟨rfl, hb1⟩
  · go_enter Tryd.func36, Tryd.ntmps36
    go_wp2_with fail
    go_ret
    exact ⟨rfl, Below.refl _ _⟩

/-- What a method of the printer's leaves. -/
def PA (B : Nat) (w0 : World) (own : Nat → Nat) (W : World) (g gs n : Nat) (p' : Pr) (w' : World) : Prop := ∃ own', PS B w0 own' w' g gs n p' ∧ Sd own own' W w' ∧ W.heap.size ≤ w'.heap.size

theorem hold_any {B : Nat} {w0 : World} {own : Nat → Nat} {W : World} {g gs n : Nat} {p : Pr} (h : PS B w0 own W g gs n p) {U : Nat} (hp : Bp p U) (hU : U ≤ 268435456) (m : Nat) (hm : m ≤ 1000) :
    Calls Tryd.prog 35 #[.pointer (some ⟨g, 0, none⟩), .int .i64 m] W fun e w' => e = .returned (.tuple #[]) ∧ PA B w0 own W g gs n (p.hold m) w' := by
  have hcol := hp.col
  have HF : Hid (Calls Tryd.prog 63 #[.pointer (some ⟨gs, 0, none⟩)] W fun e w' => e = .returned (.bool p.sk.fresh) ∧ w' = W) := fresh_st h.sk
  have c1 := h.c1
  unfold Pr.hold
  cases hf : p.sk.fresh
  · have HB : Hid (Calls Tryd.prog 64 #[.pointer (some ⟨gs, 0, none⟩), .int .i64 m] W fun e w' => e = .returned (.int .i64 0) ∧ PA B w0 own W g gs n { p with sk := p.sk.blanks m } w') := by
      refine (blanks_st h.sk h.en (by omega) m (by omega) (by omega)).mono ?_
      rintro e w' ⟨rfl, ha⟩
      exact ⟨rfl, h.sink ha⟩
    rw [hf] at HF
    clear h hp hf
    go_enter Tryd.func35, Tryd.ntmps35
    go_wp2_with (first | (go_at_call 63; refine HF.out.mono ?_; rintro e w1 ⟨rfl, rfl⟩) | (go_at_call 64; refine HB.out.mono ?_; rintro e w2 ⟨rfl, h2⟩))
    go_end0
    exact ⟨rfl, h2⟩
  · have HE : Hid (PA B w0 own W g gs n p W) := ⟨own, h, Sd.refl _ _, Nat.le_refl _⟩
    rw [hf] at HF
    clear h hp hf
    go_enter Tryd.func35, Tryd.ntmps35
    go_wp2_with (first | (go_at_call 63; refine HF.out.mono ?_; rintro e w1 ⟨rfl, rfl⟩))
    go_end0
    exact ⟨rfl, HE.out⟩

set_option maxHeartbeats 1000000 in
theorem endl_any {B : Nat} {w0 : World} {own : Nat → Nat} {W : World} {g gs n : Nat} {p : Pr} (h : PS B w0 own W g gs n p) {U : Nat} (hp : Bp p U) (hU : U ≤ 268435456) :
    Calls Tryd.prog 37 #[.pointer (some ⟨g, 0, none⟩)] W fun e w' => e = .returned (.tuple #[]) ∧ PA B w0 own W g gs n p.endl w' := by
  have hcol := hp.col
  have hout := hp.out
  have hind := hp.ind
  have HF : Hid (Calls Tryd.prog 63 #[.pointer (some ⟨gs, 0, none⟩)] W fun e w' => e = .returned (.bool p.sk.fresh) ∧ w' = W) := fresh_st h.sk
  have c1 := h.c1
  have c2 := h.c2
  have hlt := h.lt
  unfold Pr.endl
  cases hf : p.sk.fresh
  · have HB : Hid (∀ V, V = W.drew → Calls Tryd.prog 65 #[.pointer (some ⟨gs, 0, none⟩), .int .i64 p.bl.ind] V fun e w' => e = .returned (.int .i64 0) ∧ Hid (PA B w0 own W g gs n { p with sk := p.sk.feed p.bl.ind } w') ∧ w'.cell? ⟨g, 1, none⟩ = some (.pointer (some ⟨gs, 0, none⟩)) ∧ w'.cell? ⟨g, 2, none⟩ = some (.int .i64 p.bl.ind) ∧ w'.cell? ⟨g, 6, none⟩ = some (.bool p.en) ∧ w'.frozen? ⟨g, 6, none⟩ = false) := by
      intro V hV
      subst hV
      have hd := h.below (Below.refl _ W).drew
      refine (feed_st hd.sk hd.en (by omega) p.bl.ind (by omega) (by omega)).mono ?_
      rintro e w' ⟨rfl, ha⟩
      obtain ⟨own', a1, a2, a3⟩ := hd.sink ha
      exact ⟨rfl, ⟨own', a1, a2, a3⟩, a1.c1, a1.c2, a1.c6, a1.fz 6⟩
    rw [hf] at HF
    clear h hp hf
    go_enter Tryd.func37, Tryd.ntmps37
    go_wp2_with (first | (go_at_call 63; refine HF.out.mono ?_; rintro e w1 ⟨rfl, rfl⟩))
    go_region_held3 (fun w' => w'.cell? ⟨g, 1, none⟩ = some (.pointer (some ⟨gs, 0, none⟩)) ∧ w'.cell? ⟨g, 2, none⟩ = some (.int .i64 p.bl.ind)) (first | (exact ⟨by assumption, by assumption⟩) | (exact ⟨c1, c2⟩) | go_keep) (first | (go_at_call 65; refine (HB.out _ rfl).mono ?_; rintro e w1 ⟨rfl, HP, x1, x2, x6, f6⟩))
    all_goals (
      go_wp2_with fail
      go_end0
      obtain ⟨own', a1, a2, a3⟩ := HP.out
      have a4 := a1.sett true
      exact ⟨rfl, own', a4.1, a2.trans a3 a4.2, Nat.le_trans a3 (Kp.set _ g 6 (.bool true)).size⟩)
  · have HE : Hid (PA B w0 own W g gs n p W) := ⟨own, h, Sd.refl _ _, Nat.le_refl _⟩
    rw [hf] at HF
    clear h hp hf
    go_enter Tryd.func37, Tryd.ntmps37
    go_wp2_with (first | (go_at_call 63; refine HF.out.mono ?_; rintro e w1 ⟨rfl, rfl⟩))
    go_end0
    exact ⟨rfl, HE.out⟩
end Go.Proofs.YtcokccfbeonlnaaDoor
