import Derived.Test.YtkigadnkclkopaaGreatGd
import Derived.Test.YtkigadnkclkopaaGreatGz
set_option linter.unusedVariables false
set_option linter.unusedSimpArgs false
namespace Go.Proofs.YtkigadnkclkopaaGreat
open Go.RowKit

/-! The reader against the items. -/
def evX (X : Sx) (d : D) : List Ev := ⟨1, 1, tv0⟩ :: ((lead X.l).map ntE ++ d.v.tail)
/-- It stands where the items stand; r: nodes that were opened since the last token. -/
structure SD (X : Sx) (r : Nat) (d : D) (W : World) : Prop where
  sv : SV X (ps X.l d.i) d.p.length (evX X d) W
  e0 : d.e = 0
  il : d.i ≤ (tks X.l).length
  nn : d.N = fun j => (nts X.l j).map ntE
  v0 : d.v ≠ []
  sm : d.s ≤ 100 * d.i + r
  el : (evX X d).length + d.p.length = 2 * d.s + ps X.l d.i
theorem SD.below {X : Sx} {r : Nat} {d : D} {W W' : World} (h : SD X r d W) (hb : Below W.heap.size W W') : SD X r d W' := ⟨h.sv.below hb, h.e0, h.il, h.nn, h.v0, h.sm, h.el⟩
theorem SD.up {X : Sx} {r r' : Nat} {d : D} {W : World} (h : SD X r d W) (hr : r ≤ r') : SD X r' d W := ⟨h.sv, h.e0, h.il, h.nn, h.v0, Nat.le_trans h.sm (by omega), h.el⟩
theorem tks_le (l : List Tv) : (tks l).length ≤ l.length := List.length_filter_le _ _
theorem SD.len {X : Sx} {r : Nat} {d : D} {W : World} (h : SD X r d W) (hr : r ≤ 1000) : (evX X d).length + 1 + X.l.length ≤ 1000000000 := by
  have h1 := h.el
  have h2 := h.sm
  have h3 := h.il
  have h4 := tks_le X.l
  have h5 := h.sv.hl
  have h6 := ps_le X.l d.i
  omega
theorem SD.hnxt {X : Sx} {r : Nat} {d : D} {W : World} (h : SD X r d W) : nxt (tks X.l) d = (tks X.l)[d.i]? := by unfold nxt; rw [if_pos h.e0]
theorem SD.hnx {X : Sx} {r : Nat} {d : D} {W : World} (h : SD X r d W) : nx X (ps X.l d.i) = (nxt (tks X.l) d).getD tv0 := by rw [h.hnxt]; unfold nx; rw [ps_at]
theorem SD.hqn {X : Sx} {r : Nat} {d : D} {W : World} (h : SD X r d W) {f : Tv → Bool} (hf : f tv0 = false) : qn (tks X.l) d f = f (nx X (ps X.l d.i)) := by
  rw [h.hnx]
  unfold qn
  cases nxt (tks X.l) d with
  | none => exact hf.symm
  | some t => rfl
theorem SD.hend {X : Sx} {r : Nat} {d : D} {W : World} (h : SD X r d W) : (ps X.l d.i = X.l.length ↔ ¬ d.i < (tks X.l).length) := by
  have h1 := ps_le X.l d.i
  rw [← ps_lt]
  omega
/-- What a call leaves: it goes on, or it gives up. -/
def Out (X : Sx) (v : Value) (d : D) (e : Ending) (w : World) : Prop := (d.e = 0 ∧ e = .returned v ∧ SD X 0 d w) ∨ (d.e ≠ 0 ∧ e = .panicked (stop d.e (ps X.l d.i)) ∧ Below X.w0.heap.size X.w0 w)
theorem tail_app {a b : List Ev} (h : a ≠ []) : (a ++ b).tail = a.tail ++ b := by
  cases a with
  | nil => exact absurd rfl h
  | cons x a => rfl
theorem take_sd {X : Sx} {r : Nat} {d : D} {W : World} (h : SD X r d W) (hr : r ≤ 100) {x : Fl} (hq : qn (tks X.l) d (fun t => x.takes t) = true) :
    Calls Tryz.prog 93 #[pg X.g] W fun e w' => Out X (.tuple #[]) (tkI (tks X.l) x d) e w' := by
  have e1 : tkI (tks X.l) x d = tkD (tks X.l) true d := by unfold tkI; rw [hq]
  rw [e1]
  obtain ⟨he, hi⟩ := qn_live hq
  obtain ⟨t, ht⟩ : ∃ t, (tks X.l)[d.i]? = some t := ⟨_, List.getElem?_eq_getElem hi⟩
  have ht2 : X.l[ps X.l d.i]? = some t := by rw [ps_at]; exact ht
  unfold tkD
  simp only [if_true]
  by_cases hd : 1000 < d.p.length
  · rw [if_pos hd]
    refine (sdeep_any h.sv hd).mono ?_
    rintro e w' ⟨rfl, hb⟩
    exact .inr ⟨(by show (122 : Int) ≠ 0; decide), rfl, h.sv.bel.trans (hb.mono h.sv.bel.size)⟩
  · rw [if_neg hd]
    have hl := h.len (by omega)
    refine (stake_any h.sv ht2 (by omega) hl).mono ?_
    rintro e w' ⟨rfl, h1⟩
    obtain ⟨p1, p2⟩ := ps_succ X.l d.i hi
    refine .inl ⟨he, rfl, ?_, he, hi, h.nn, by simp, ?_, ?_⟩
    · rw [p1]
      show SV X _ _ (evX X { d with i := d.i + 1, l := if d.i + 1 = (tks X.l).length then d.p else d.l, v := d.v ++ ⟨2, 0, (tks X.l)[d.i]?.getD tv0⟩ :: d.N d.i }) w'
      have e2 : evX X { d with i := d.i + 1, l := if d.i + 1 = (tks X.l).length then d.p else d.l, v := d.v ++ ⟨2, 0, (tks X.l)[d.i]?.getD tv0⟩ :: d.N d.i } = evX X d ++ ⟨2, 0, t⟩ :: (nts X.l d.i).map ntE := by
        unfold evX
        rw [tail_app h.v0, ht, h.nn]
        simp
      rw [e2, p2]
      exact h1
    · have := h.sm
      show d.s ≤ 100 * (d.i + 1) + 0
      omega
    · have h5 := h.el
      show (evX X _).length + d.p.length = 2 * d.s + ps X.l (d.i + 1)
      rw [p1]
      unfold evX at h5 ⊢
      simp only [tail_app h.v0, h.nn, List.length_cons, List.length_append, List.length_map] at h5 ⊢
      omega
theorem refuse_sd {X : Sx} {r : Nat} {d : D} {W : World} (h : SD X r d W) (v : Value) :
    Calls Tryz.prog 38 #[pg X.g] W fun e w' => Out X v (tkD (tks X.l) false d) e w' ∧ (tkD (tks X.l) false d).e ≠ 0 ∧ e = .panicked (stop (tkD (tks X.l) false d).e (ps X.l (tkD (tks X.l) false d).i)) ∧ Below X.w0.heap.size X.w0 w' := by
  refine (refuse_any h.sv).mono ?_
  rintro e w' ⟨rfl, hb⟩
  have hb2 := h.sv.bel.trans (hb.mono h.sv.bel.size)
  have e0 := h.e0
  have he := h.hend
  unfold tkD
  simp only [Bool.false_eq_true, if_false, if_pos e0]
  by_cases hi : d.i < (tks X.l).length
  · have : ¬ ps X.l d.i = X.l.length := fun e => (he.1 e) hi
    rw [if_pos hi, if_neg this]
    exact ⟨.inr ⟨(by show (120 : Int) ≠ 0; decide), rfl, hb2⟩, (by show (120 : Int) ≠ 0; decide), rfl, hb2⟩
  · rw [if_neg hi, if_pos (he.2 hi)]
    exact ⟨.inr ⟨(by show (121 : Int) ≠ 0; decide), rfl, hb2⟩, (by show (121 : Int) ≠ 0; decide), rfl, hb2⟩

end Go.Proofs.YtkigadnkclkopaaGreat
