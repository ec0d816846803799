import Derived.Test.YtkigadnkclkopaaGreatG4
import Derived.Deep.RegionHeld3
import Derived.Deep.RegionWith
import Derived.Deep.RegionLaw
import Derived.WalkMore
import Derived.Deep.AppendLies
set_option linter.unusedVariables false
set_option linter.unusedSimpArgs false
namespace Go.Proofs.YtkigadnkclkopaaGreat
open Go.RowKit

/-! The reader of package syntax in memory. -/
theorem below_dr {b : Nat} {w v : World} (h : Below b w v) : ∀ m, Below b w (v.drewN m)
  | 0 => h
  | m + 1 => (below_dr h m).drew
theorem sstep_ev {W : World} {ops : Array Oper} {o : Oper} {a : Act} {K : Act → World → Prop} {Q : Exit → Act → World → Prop} {E : Prop} (hgd : o.guard = none) (s x : Operand)
    (ho : o.op = .call { callee := .builtin .append, args := #[s, x], argTypes := #[41, 41] }) (v : Value) (l : List Ev) (d : Ev) (hs : a.eval s = v) (hr : Re W v l)
    (g c : Nat) (hx : a.eval x = .slice (some ⟨g, 0, none⟩) 1 c) (hg : W.heap[g]? = some (.cells #[.int .u8 d.k, .int .u8 d.n, .int .u8 d.d.k, .string d.d.t, .int .i64 d.d.a, .int .i64 d.d.l, .int .i64 d.d.c, .int .i64 d.d.f] 48 (0, 0))) (hl : l.length ≤ 1000000000)
    (h : ∀ q cap w', Re w' (.slice (some ⟨q, 0, none⟩) (l.length + 1) cap) (l ++ [d]) → W.grownBy w' v.ownBlock → (v.ownBlock = some q ∨ q = W.heap.size) → K (a.put o.dst (.slice (some ⟨q, 0, none⟩) (l.length + 1) cap)) w') :
    if Region.wanted o (yielded ops a.tmps) = true then Oper.wp Tryz.prog o a W K Q else E := by
  obtain ⟨i0, hi, hz0, hz1, hz2⟩ := info_parts Tryz.info48
  refine step_append_lies W hgd s x 41 ho 0 48 i0 _ 8 64 Tryz.underlying41 hi hz0 hz1 hz2 rfl (by decide) v _ _ hs hr ⟨g, 0, none⟩ 1 c (ecs [d]) hx (by rw [ecs_len]; rfl) ?_ (ecs_one [d]) (by omega) (by unfold maxLen; omega) (by omega) (Nat.zero_le _) _ rfl ?_
  · intro j u hu
    refine World.news_of_block hg j u ?_
    have e : ecs [d] = [.int .u8 d.k, .int .u8 d.n, .int .u8 d.d.k, .string d.d.t, .int .i64 d.d.a, .int .i64 d.d.l, .int .i64 d.d.c, .int .i64 d.d.f] := by simp [ecs, flat, Ev.cs]
    rw [e] at hu
    simpa using hu
  · intro q cap w' a1 a2 a3 _
    refine h q cap w' ?_ a2 a3
    unfold Re
    rw [List.length_append, ecs_app]
    exact a1
abbrev pg (g : Nat) : Value := .pointer (some ⟨g, 0, none⟩)
def SB (W : World) (g : Nat) (vl : Value) (i n : Nat) (ve : Value) : Prop := W.heap[g]? = some (.cells #[vl, .int .i64 (i : Int), .int .i64 (n : Int), ve] 56 (0, 0))
theorem SB.cells {W : World} {g i n : Nat} {vl ve : Value} (h : SB W g vl i n ve) :
    W.cell? ⟨g, 0, none⟩ = some vl ∧ W.cell? ⟨g, 1, none⟩ = some (.int .i64 (i : Int)) ∧ W.cell? ⟨g, 2, none⟩ = some (.int .i64 (n : Int)) ∧ W.cell? ⟨g, 3, none⟩ = some ve :=
  ⟨blk_cell h rfl, blk_cell h rfl, blk_cell h rfl, blk_cell h rfl⟩
theorem SB.frozen {W : World} {g i n : Nat} {vl ve : Value} (h : SB W g vl i n ve) (j : Nat) : W.frozen? ⟨g, j, none⟩ = false := blk_frozen h
theorem SB.kp {S : Nat → Prop} {W W' : World} {g i n : Nat} {vl ve : Value} (h : SB W g vl i n ve) (hk : Kp S W W') (hS : ¬ S g) : SB W' g vl i n ve := hk.blk h hS
theorem SB.below {W W' : World} {g i n : Nat} {vl ve : Value} (h : SB W g vl i n ve) (hb : Below W.heap.size W W') : SB W' g vl i n ve := blk_below h hb
theorem SB.lt {W : World} {g i n : Nat} {vl ve : Value} (h : SB W g vl i n ve) : g < W.heap.size := blk_lt h
/-- What stays: the world ahead, the reader's block, its tokens. -/
structure Sx where
  w0 : World
  g : Nat
  ao : Option Addr
  cap : Nat
  l : List Tv
/-- The reader: where it is, how many nodes, what it told. -/
structure SV (X : Sx) (i n : Nat) (E : List Ev) (W : World) : Prop where
  bel : Below X.w0.heap.size X.w0 W
  lt : Lt X.w0 X.ao X.l
  g0 : X.w0.heap.size ≤ X.g
  hl : X.l.length ≤ 4194304
  ex : ∃ ve, SB W X.g (.slice X.ao X.l.length X.cap) i n ve ∧ Re W ve E ∧ (∀ k, ve.ownBlock = some k → X.w0.heap.size ≤ k)
theorem SV.below {X : Sx} {i n : Nat} {E : List Ev} {W W' : World} (h : SV X i n E W) (hb : Below W.heap.size W W') : SV X i n E W' := by
  obtain ⟨ve, a, b, c⟩ := h.ex
  exact ⟨h.bel.trans (hb.mono h.bel.size), h.lt, h.g0, h.hl, ve, a.below hb, b.below hb, c⟩
theorem kp_low {S : Nat → Prop} {B : Nat} {w W W' : World} (h : Below B w W) (hk : Kp S W W') (hS : ∀ k, S k → B ≤ k) (hB : B ≤ W.heap.size) : Below B w W' :=
  ⟨hk.os.trans h.os, hk.tape.trans h.tape, hk.output.trans h.output, Nat.le_trans h.size hk.size, fun k hlt => (hk.block k (by omega) (fun hs => by have := hS k hs; omega)).trans (h.block k hlt)⟩
/-- A token of the reader's. -/
theorem SV.tok {X : Sx} {i n : Nat} {E : List Ev} {W : World} (h : SV X i n E W) {j : Nat} {t : Tv} (ht : X.l[j]? = some t) : ∃ b off, X.ao = some ⟨b, off, none⟩ ∧ W.cell? ⟨b, off + j * 6, none⟩ = some (.int .u8 t.k) ∧ W.cell? ⟨b, off + j * 6 + 1, none⟩ = some (.string t.t) ∧ W.cell? ⟨b, off + j * 6 + 2, none⟩ = some (.int .i64 t.a) ∧ W.cell? ⟨b, off + j * 6 + 3, none⟩ = some (.int .i64 t.l) ∧ W.cell? ⟨b, off + j * 6 + 4, none⟩ = some (.int .i64 t.c) ∧ W.cell? ⟨b, off + j * 6 + 5, none⟩ = some (.int .i64 t.f) ∧ b < W.heap.size := by
  obtain ⟨b, off, e, c⟩ := (h.lt.below h.bel) j t ht
  exact ⟨b, off, e, c.1, c.2.1, c.2.2.1, c.2.2.2.1, c.2.2.2.2.1, c.2.2.2.2.2, World.block_lt_of_cell? _ _ c.1⟩
/-- What is no event and not the reader's stays. -/
def Frm (X : Sx) (W W' : World) : Prop := ∀ b cs T f, W.heap[b]? = some (.cells cs T f) → T ≠ 48 → b ≠ X.g → W'.heap[b]? = some (.cells cs T f)
theorem stold_mk {X : Sx} {i n : Nat} {E E' : List Ev} {W W1 w3 : World} (h : SV X i n E W) {ve : Value} (hs : SB W X.g (.slice X.ao X.l.length X.cap) i n ve) (hE : Re W ve E) (hv : ∀ k, ve.ownBlock = some k → X.w0.heap.size ≤ k) (hb : Below W.heap.size W W1) {q cap n' : Nat} (hr : Re w3 (.slice (some ⟨q, 0, none⟩) n' cap) E') (hg : W1.grownBy w3 ve.ownBlock) (hq : ve.ownBlock = some q ∨ q = W1.heap.size) :
    (w3.cell? ⟨X.g, 3, none⟩ = some ve ∧ w3.frozen? ⟨X.g, 3, none⟩ = false) ∧ SV X i n E' (w3.setCell ⟨X.g, 3, none⟩ (.slice (some ⟨q, 0, none⟩) n' cap)) ∧ Frm X W (w3.setCell ⟨X.g, 3, none⟩ (.slice (some ⟨q, 0, none⟩) n' cap)) := by
  have h1 := hs.below hb
  have hne : ¬ some X.g = ve.ownBlock := fun e => (hE.below hb).ne h1 (by decide) X.g e.symm rfl
  have h3 : SB w3 X.g (.slice X.ao X.l.length X.cap) i n ve := h1.kp (Kp.of_grown hg) hne
  have hbl := h.bel.trans (hb.mono h.bel.size)
  refine ⟨⟨blk_cell h3 rfl, h3.frozen 3⟩, ⟨?_, h.lt, h.g0, h.hl, .slice (some ⟨q, 0, none⟩) n' cap, blk_set h3 3 _, hr.kp (Kp.set _ _ _ _) (hr.ne h3 (by decide)), ?_⟩, fun b cs T f hbk hT hbg => ?_⟩
  · have k2 := (Kp.of_grown hg).sub (S := fun k => X.w0.heap.size ≤ k) (fun k e => hv k e.symm)
    have b2 := kp_low hbl k2 (fun k e => e) hbl.size
    exact kp_low b2 (Kp.set _ _ _ _) (fun k e => by rw [e]; exact h.g0) b2.size
  · intro k e
    simp only [Value.ownBlock, Option.some.injEq] at e
    subst e
    rcases hq with hq | hq
    · exact hv _ hq
    · rw [hq]; exact hbl.size
  · have k1 := blk_below hbk hb
    have k2 := (Kp.of_grown hg).blk k1 (fun e => (hE.below hb).ne k1 hT b e.symm rfl)
    exact (Kp.set w3 X.g 3 _).blk k2 hbg
set_option maxHeartbeats 1000000 in
theorem stell_any {X : Sx} {i n : Nat} {E : List Ev} {W : World} (h : SV X i n E W) (d : Ev) (hl : E.length ≤ 1000000000) :
    Calls Tryz.prog 32 #[pg X.g, d.v] W fun r w' => r = .returned (.tuple #[]) ∧ SV X i n (E ++ [d]) w' ∧ Frm X W w' := by
  obtain ⟨ve, hs, hE, hv⟩ := h.ex
  obtain ⟨p, cap, rfl, _⟩ := hE.shape
  have HW : Hid (∀ V, Below W.heap.size W V → Re V (.slice p E.length cap) E) := fun V hb => hE.below hb
  have HT : Hid (∀ W1 w3 q cp, Below W.heap.size W W1 → Re w3 (.slice (some ⟨q, 0, none⟩) (E.length + 1) cp) (E ++ [d]) → W1.grownBy w3 (Value.slice p E.length cap).ownBlock → ((Value.slice p E.length cap).ownBlock = some q ∨ q = W1.heap.size) → (w3.cell? ⟨X.g, 3, none⟩ = some (.slice p E.length cap) ∧ w3.frozen? ⟨X.g, 3, none⟩ = false) ∧ SV X i n (E ++ [d]) (w3.setCell ⟨X.g, 3, none⟩ (.slice (some ⟨q, 0, none⟩) (E.length + 1) cp)) ∧ Frm X W (w3.setCell ⟨X.g, 3, none⟩ (.slice (some ⟨q, 0, none⟩) (E.length + 1) cp))) :=
    fun W1 w3 q cp hb h1 h2 h3 => stold_mk h hs hE hv hb h1 h2 h3
  obtain ⟨c0, c1, c2, c3⟩ := hs.cells
  have hf := hs.frozen 3
  have hg := hs.lt
  clear h hE hs hv
  dsimp only [Ev.v]
  obtain ⟨⟨k0, n0, ⟨k1, t, a, l, cc, f⟩⟩, hd⟩ : ∃ x, d = x := ⟨_, rfl⟩
  subst hd
  go_enter Tryz.func32, Tryz.ntmps32
  go_wp2_with fail
  obtain ⟨W1, e1⟩ : ∃ W1, W.alloc (.cells #[.int .u8 k0, .int .u8 n0, .int .u8 k1, .string t, .int .i64 a, .int .i64 l, .int .i64 cc, .int .i64 f] 48) = W1 := ⟨_, rfl⟩
  have hb : Below W.heap.size W W1 := by rw [← e1]; exact (Below.refl _ _).alloc (Nat.le_refl _) _
  have hn : W1.heap[W.heap.size]? = some (.cells #[.int .u8 k0, .int .u8 n0, .int .u8 k1, .string t, .int .i64 a, .int .i64 l, .int .i64 cc, .int .i64 f] 48) := by rw [← e1]; exact new_at _ _
  rw [e1]
  clear e1
  have m0 : W1.cell? ⟨W.heap.size, 0, none⟩ = _ := blk_cell hn rfl
  have m1 : W1.cell? ⟨W.heap.size, 1, none⟩ = _ := blk_cell hn rfl
  have m2 : W1.cell? ⟨W.heap.size, 2, none⟩ = _ := blk_cell hn rfl
  have m3 : W1.cell? ⟨W.heap.size, 3, none⟩ = _ := blk_cell hn rfl
  have m4 : W1.cell? ⟨W.heap.size, 4, none⟩ = _ := blk_cell hn rfl
  have m5 : W1.cell? ⟨W.heap.size, 5, none⟩ = _ := blk_cell hn rfl
  have m6 : W1.cell? ⟨W.heap.size, 6, none⟩ = _ := blk_cell hn rfl
  have m7 : W1.cell? ⟨W.heap.size, 7, none⟩ = _ := blk_cell hn rfl
  have d4 : W1.cell? ⟨X.g, 3, none⟩ = some (.slice p E.length cap) := (hb.cell hg).trans c3
  have HB : Hid (∀ o, Below W.heap.size W (W1.drew.alloc o)) := fun o => (hb.drew).alloc hb.size _
  have hg1 : X.g < W1.heap.size := Nat.lt_of_lt_of_le hg hb.size
  clear hb hn c0 c1 c2 c3 hf hg
  go_region_law (refine sstep_ev (by rfl) _ _ (by rfl) (.slice p E.length cap) E ⟨k0, n0, ⟨k1, t, a, l, cc, f⟩⟩ (by rfl) (HW.out _ (HB.out _)) W1.heap.size 1 (by rfl) (new_at W1.drew _) hl ?_; intro q cp w3 hr3 hg3 hq3; obtain ⟨⟨x1, x2⟩, x3⟩ := HT.out _ w3 q cp (HB.out _) hr3 hg3 hq3; have HX := show Hid _ from x3; clear x3 hr3 hg3 hq3)
  all_goals (
    go_wp2_with fail
    go_end0
    exact ⟨rfl, HX.out⟩)

end Go.Proofs.YtkigadnkclkopaaGreat
