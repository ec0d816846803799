import Derived.Test.YtkglkhijngpgiaaGreatUb
import Derived.Test.YtkglkhijngpgiaaGreatLe
set_option linter.unusedVariables false
set_option linter.unusedSimpArgs false
namespace Go.Proofs.YtkglkhijngpgiaaGreat
open Go.RowKit

theorem PS.up {own : Nat → Prop} {W : World} {gl gr m m' : Nat} (h : PS own W gl gr m) (hm : m ≤ m') : PS own W gl gr m' := by
  obtain ⟨S, U, st, T, now, e, c, vL, vN, h1, h2, h3, h4, h5, h6, h7⟩ := h.ex
  exact ⟨h.lt, h.gl0, h.gr0, S, U, st, T, now, e, c, vL, vN, h1, h2, h3, h4, h5, h6, Nat.le_trans h7 hm⟩
/-- A pair, as it lies. -/
def Pb (W : World) (A gl gr : Nat) : Prop := W.heap[A]? = some (.cells #[pt gl, pt gr] 29 (0, 0))
/-- Two pairs, apart. -/
def TP (w W : World) (A B gla gra glb grb m : Nat) : Prop := ∃ oa ob : Nat → Prop,
  PS oa W gla gra m ∧ PS ob W glb grb m ∧ Below w.heap.size w W ∧ (∀ q, oa q → ¬ ob q ∧ w.heap.size ≤ q) ∧ (∀ q, ob q → w.heap.size ≤ q) ∧
  Pb W A gla gra ∧ Pb W B glb grb ∧ (¬ oa A ∧ ¬ ob A) ∧ (¬ oa B ∧ ¬ ob B)
theorem TP.swap {w W : World} {A B gla gra glb grb m : Nat} (h : TP w W A B gla gra glb grb m) : TP w W B A glb grb gla gra m := by
  obtain ⟨oa, ob, h1, h2, h3, h4, h5, h6, h7, h8, h9⟩ := h
  exact ⟨ob, oa, h2, h1, h3, fun q hq => ⟨fun e => (h4 q e).1 hq, h5 q hq⟩, fun q hq => (h4 q hq).2, h7, h6, ⟨h9.2, h9.1⟩, ⟨h8.2, h8.1⟩⟩
theorem TP.up {w W : World} {A B gla gra glb grb m m' : Nat} (h : TP w W A B gla gra glb grb m) (hm : m ≤ m') : TP w W A B gla gra glb grb m' := by
  obtain ⟨oa, ob, h1, h2, h3⟩ := h
  exact ⟨oa, ob, h1.up hm, h2.up hm, h3⟩
theorem TP.below {w W W' : World} {A B gla gra glb grb m : Nat} (h : TP w W A B gla gra glb grb m) (hb : Below W.heap.size W W') : TP w W' A B gla gra glb grb m := by
  obtain ⟨oa, ob, h1, h2, h3, h4, h5, h6, h7, h8⟩ := h
  exact ⟨oa, ob, h1.below hb, h2.below hb, h3.trans (hb.mono h3.size), h4, h5, blk_below h6 hb, blk_below h7 hb, h8⟩
theorem TP.next {w W w' : World} {A B gla gra glb grb m m' : Nat} {oa ob own' : Nat → Prop} (hm : m ≤ m')
    (h1 : PS oa W gla gra m) (h2 : PS ob W glb grb m) (h3 : Below w.heap.size w W) (h4 : ∀ q, oa q → ¬ ob q ∧ w.heap.size ≤ q) (h5 : ∀ q, ob q → w.heap.size ≤ q) (h6 : Pb W A gla gra) (h7 : Pb W B glb grb) (h8 : ¬ oa A ∧ ¬ ob A) (h9 : ¬ oa B ∧ ¬ ob B) (hp : Pnx oa W w' gla gra m' own') : TP w w' A B gla gra glb grb m' := by
  have hA := blk_lt h6
  have hB := blk_lt h7
  have hz := h3.size
  have hno : ∀ q, q < W.heap.size → ¬ oa q → ¬ own' q := fun q q1 q2 e => by
    rcases hp.sub q e with e | e
    · exact q2 e
    · omega
  refine ⟨own', ob, hp.ps, (h2.kp hp.kp (fun q hq e => (h4 q e).1 hq)).up hm, Kp.low h3 hp.kp (fun q e => (h4 q e).2) h3.size, fun q hq => ?_, h5, hp.kp.blk h6 h8.1, hp.kp.blk h7 h9.1, ⟨hno A hA h8.1, h8.2⟩, ⟨hno B hB h9.1, h9.2⟩⟩
  rcases hp.sub q hq with e | e
  · exact h4 q e
  · exact ⟨fun e' => by have := h2.lt q e'; omega, by omega⟩
theorem TP.put {w W : World} {A B gla gra glb grb m : Nat} (h : TP w W A B gla gra glb grb m) (t : Tv) (hm : m ≤ 80000) :
    Calls Tryz.prog 7 #[.agg #[pt gla, pt gra], t.v] W fun e w' => e = .returned (.bool true) ∧ TP w w' A B gla gra glb grb (m + 1) := by
  obtain ⟨oa, ob, h1, h2, h3, h4, h5, h6, h7, h8, h9⟩ := h
  refine (pput_any h1 t hm).mono ?_
  rintro e w' ⟨rfl, own', hp⟩
  exact ⟨rfl, TP.next (Nat.le_succ _) h1 h2 h3 h4 h5 h6 h7 h8 h9 hp⟩
theorem TP.close {w W : World} {A B gla gra glb grb m : Nat} (h : TP w W A B gla gra glb grb m) (hm : m ≤ 80000) :
    Calls Tryz.prog 8 #[.agg #[pt gla, pt gra]] W fun e w' => e = .returned (.bool true) ∧ TP w w' A B gla gra glb grb m := by
  obtain ⟨oa, ob, h1, h2, h3, h4, h5, h6, h7, h8, h9⟩ := h
  refine (pclose_any h1 hm).mono ?_
  rintro e w' ⟨rfl, own', hp⟩
  exact ⟨rfl, TP.next (Nat.le_refl _) h1 h2 h3 h4 h5 h6 h7 h8 h9 hp⟩
theorem TP.put' {w W : World} {A B gla gra glb grb m : Nat} (h : TP w W A B gla gra glb grb m) (t : Tv) (hm : m ≤ 80000) :
    Calls Tryz.prog 7 #[.agg #[pt glb, pt grb], t.v] W fun e w' => e = .returned (.bool true) ∧ TP w w' A B gla gra glb grb (m + 1) := (h.swap.put t hm).mono (fun _ _ ⟨e, h⟩ => ⟨e, h.swap⟩)
theorem TP.close' {w W : World} {A B gla gra glb grb m : Nat} (h : TP w W A B gla gra glb grb m) (hm : m ≤ 80000) :
    Calls Tryz.prog 8 #[.agg #[pt glb, pt grb]] W fun e w' => e = .returned (.bool true) ∧ TP w w' A B gla gra glb grb m := (h.swap.close hm).mono (fun _ _ ⟨e, h⟩ => ⟨e, h.swap⟩)
theorem TP.bel {w W : World} {A B gla gra glb grb m : Nat} (h : TP w W A B gla gra glb grb m) : Below w.heap.size w W := by
  obtain ⟨oa, ob, _, _, h3, _⟩ := h
  exact h3
theorem TP.cells {w W : World} {A B gla gra glb grb m : Nat} (h : TP w W A B gla gra glb grb m) : W.cell? ⟨A, 0, none⟩ = some (pt gla) ∧ W.cell? ⟨A, 1, none⟩ = some (pt gra) ∧ W.cell? ⟨B, 0, none⟩ = some (pt glb) ∧ W.cell? ⟨B, 1, none⟩ = some (pt grb) := by
  obtain ⟨oa, ob, _, _, _, _, _, h6, h7, _⟩ := h
  exact ⟨blk_cell h6 rfl, blk_cell h6 rfl, blk_cell h7 rfl, blk_cell h7 rfl⟩
theorem TP.lts {w W : World} {A B gla gra glb grb m : Nat} (h : TP w W A B gla gra glb grb m) : A < W.heap.size ∧ B < W.heap.size := by
  obtain ⟨oa, ob, _, _, _, _, _, h6, h7, _⟩ := h
  exact ⟨blk_lt h6, blk_lt h7⟩
theorem ps_new {W : World} {ga ra : Nat} (h1 : Pq (fun k => k = ga) W ga (.live [] 0)) (h2 : FB W ra nilS nilS 0 false) (hl : ga < W.heap.size) (hne : ra ≠ ga) : PS (fun q => q = ga ∨ q = ra) W ga ra 0 :=
  ⟨fun q e => by rcases e with e | e; omega; rw [e]; exact h2.lt, .inl rfl, .inr rfl, fun k => k = ga, fun k => k = ra, .live [] 0, [], [], 0, false, nilS, nilS, h1, good_new, ⟨h2, rt_nil _ _, rp_nil _, rfl, (fun k e => by cases e), (fun k e => by cases e)⟩, fun q e => ⟨.inl e, fun e2 => hne (by rw [← e2, e])⟩, fun q e => .inr e, ⟨rfl, rfl, dat_new⟩, Nat.le_refl _⟩
theorem TP.start {w w3 w4 w6 : World} (hb3 : Below w.heap.size w w3) (a3 : Below w3.heap.size w3 w4) (a2 : w4.heap.size = w3.heap.size + 1) (a4 : Pq (fun k => k = w3.heap.size) w4 w3.heap.size (.live [] 0)) {w5 w5' w7 w7' : World} (e5 : w5 = w4.alloc (.cells #[nilS, nilS, .int .i64 0, .bool false] 49)) (e5' : w5' = w5.alloc (.cells #[pt w3.heap.size, pt w4.heap.size] 29))
    (b3 : Below w5'.heap.size w5' w6) (b2 : w6.heap.size = w5'.heap.size + 1) (b4 : Pq (fun k => k = w5'.heap.size) w6 w5'.heap.size (.live [] 0)) (e7 : w7 = w6.alloc (.cells #[nilS, nilS, .int .i64 0, .bool false] 49)) (e7' : w7' = w7.alloc (.cells #[pt w5'.heap.size, pt w6.heap.size] 29)) :
    TP w w7' w5.heap.size w7.heap.size w3.heap.size w4.heap.size w5'.heap.size w6.heap.size 0 := by
  have c5 : Below w4.heap.size w4 w5 := by rw [e5]; exact below_new _ _
  have c5' : Below w5.heap.size w5 w5' := by rw [e5']; exact below_new _ _
  have c7 : Below w6.heap.size w6 w7 := by rw [e7]; exact below_new _ _
  have c7' : Below w7.heap.size w7 w7' := by rw [e7']; exact below_new _ _
  have z5 : w5.heap.size = w4.heap.size + 1 := by rw [e5]; exact World.size_alloc _ _
  have z5' : w5'.heap.size = w5.heap.size + 1 := by rw [e5']; exact World.size_alloc _ _
  have z7 : w7.heap.size = w6.heap.size + 1 := by rw [e7]; exact World.size_alloc _ _
  have z7' : w7'.heap.size = w7.heap.size + 1 := by rw [e7']; exact World.size_alloc _ _
  have f5 : FB w5 w4.heap.size nilS nilS 0 false := by rw [e5]; exact new_at _ _
  have f7 : FB w7 w6.heap.size nilS nilS 0 false := by rw [e7]; exact new_at _ _
  have pA : Pb w5' w5.heap.size w3.heap.size w4.heap.size := by rw [e5']; exact new_at _ _
  have pB : Pb w7' w7.heap.size w5'.heap.size w6.heap.size := by rw [e7']; exact new_at _ _
  have s3 := hb3.size
  have bA : Below w5.heap.size w5 w7' := (((c5'.trans (b3.mono c5'.size)).trans (c7.mono (by omega))).trans (c7'.mono (by omega)))
  have bA' : Below w5'.heap.size w5' w7' := ((b3.trans (c7.mono (by omega))).trans (c7'.mono (by omega)))
  have hA := (ps_new (a4.below c5) f5 (by omega) (by omega)).below bA
  have hB := (ps_new (b4.below c7) f7 (by omega) (by omega)).below c7'
  have bb : Below w.heap.size w w7' := ((hb3.trans (a3.mono s3)).trans (c5.mono (by omega))).trans (bA.mono (by omega))
  refine ⟨_, _, hA, hB, bb, fun q e => ?_, fun q e => ?_, blk_below pA bA', pB, ?_, ?_⟩
  · refine ⟨fun e2 => ?_, ?_⟩
    · rcases e with e | e <;> rcases e2 with e2 | e2 <;> omega
    · rcases e with e | e <;> omega
  · rcases e with e | e <;> omega
  · refine ⟨fun e => ?_, fun e => ?_⟩ <;> rcases e with e | e <;> omega
  · refine ⟨fun e => ?_, fun e => ?_⟩ <;> rcases e with e | e <;> omega

end Go.Proofs.YtkglkhijngpgiaaGreat
