import Derived.Test.YtmjhfabdbajchaaGreatDoorCd
set_option linter.unusedVariables false
set_option linter.unusedSimpArgs false
namespace Go.Proofs.YtmjhfabdbajchaaGreatDoor
open Go.RowKit

theorem lsb_add (a b : ByteArray) : lsb (a ++ b) = lsb a ++ lsb b := by
  show (a ++ b).data.toList = a.data.toList ++ b.data.toList
  rw [ByteArray.data_append, Array.toList_append]
theorem ext_pre {t u : ByteArray} (h : lsb t <+: lsb u) : t.size ≤ u.size ∧ u.extract 0 t.size = t := by
  obtain ⟨x, hx⟩ := h
  have hl := congrArg List.length hx
  rw [List.length_append, ls_len, ls_len] at hl
  refine ⟨by omega, ?_⟩
  apply ls_inj
  show (u.extract 0 t.size).data.toList = _
  rw [ByteArray.data_extract]
  have e : u.data.toList = lsb t ++ x := hx.symm
  have : (u.data.extract 0 t.size).toList = (u.data.toList.take t.size) := by simp
  rw [this, e, ← ls_len t, List.take_left]
theorem put_no {N : Nat} {s : S9} {d : Dc} (hc : s.cl = false) (h : ¬ (rt d = true ∧ ¬ (d.k = 7 ∧ s.dp = 0))) : s.put N d = (s, 70) := by
  unfold S9.put
  rw [if_neg (by rw [hc]; simp), if_neg h]
/-- The printer, and the pieces that it took. -/
structure B9 (R : (Nat → Prop) → World → Nat → Nat → S9 → Prop) (W0 V : World) (own : Nat → Nat) (g N : Nat) (s : S9) (vf : Value) (F : List Dc) : Prop where
  a9 : A9 R W0 V own g N s
  rf : Rp W0.heap.size V vf F
  lf : ∀ q, vf.ownBlock = some q → own q = 0
section
variable {R : (Nat → Prop) → World → Nat → Nat → S9 → Prop} {W0 V : World} {own : Nat → Nat} {g N : Nat} {s : S9} {vf : Value} {F : List Dc}
theorem B9.below (hC : Ctr R) (h : B9 R W0 V own g N s vf F) {V' : World} (hb : Below V.heap.size V V') : B9 R W0 V' own g N s vf F := ⟨h.a9.below hC hb, h.rf.below hb, h.lf⟩
theorem B9.sd (h : B9 R W0 V own g N s vf F) {w' : World} {own' : Nat → Nat} {s' : S9} (h1 : A9 R W0 w' own' g N s') (h2 : Sd own own' V w') : B9 R W0 w' own' g N s' vf F := by
  obtain ⟨b1, b2⟩ := row_sd h.rf h2 h.lf
  exact ⟨h1, b1, b2⟩
theorem B9.app (hC : Ctr R) (hT : Tab W0) (h : B9 R W0 V own g N s vf F) {w' : World} {vf' : Value} {F' : List Dc} (hr : Rp W0.heap.size w' vf' F') (hg : V.grownBy w' vf.ownBlock) (hat : vf'.ownBlock = vf.ownBlock ∨ vf'.ownBlock = some V.heap.size) : B9 R W0 w' own g N s vf' F' := by
  refine ⟨h.a9.grown hC hg hT (fun k e => ⟨h.lf k e, h.rf.own k e⟩), hr, ?_⟩
  intro q hq
  rcases hat with e | e
  · exact h.lf q (by rw [← e]; exact hq)
  · rw [e] at hq
    injection hq with hq
    exact h.a9.en.nf q (by omega)
end
def J9 (R : (Nat → Prop) → World → Nat → Nat → S9 → Prop) (W0 V : World) (g N : Nat) (vf : Value) (TB : ByteArray) (T k : Nat) : Prop := ∃ own s F, B9 R W0 V own g N s vf F ∧ Sin N F s ∧ Bud s T k ∧ lsb TB = s.pr.sk.out ∧ uds F ≤ T ∧ F.length ≤ k
/-- What is printed of a layout that begins so. -/
theorem begins_pre {N : Nat} {F : List Dc} {s : S9} (h : Sin N F s) (hN1 : 1 ≤ N) (hN2 : N ≤ 4096) (X : List Dc) {TB : ByteArray} (hTB : lsb TB = s.pr.sk.out) : ∃ WT : ByteArray, wprn N (clo (F ++ X)) = (WT, 0) ∧ TB.size ≤ WT.size ∧ WT.extract 0 TB.size = TB := by
  obtain ⟨rest, e1, e2⟩ := clo_pre h.op X
  refine ⟨⟨(wout N (clo (F ++ X))).toArray⟩, ?_, ext_pre ?_⟩
  · unfold wprn
    rw [if_neg (by omega), if_neg (by rw [clo_ok]; simp)]
    simp
  · rw [hTB, ls_mk, e1]
    exact sin_pre h rest e2
def l3 : List Dc := [dT [97], dK 4, dT [98]]

end Go.Proofs.YtmjhfabdbajchaaGreatDoor
