import Derived.Test.YtkigadnkclkopaaYc
set_option linter.unusedVariables false
set_option linter.unusedSimpArgs false
namespace Go.Proofs.Ytkigadnkclkopaa
open Go.RowKit

/-! A token's events: nodes that end, then nodes that begin (no memory). -/
/-- What stands next takes the token or refuses it: no node ends any more. -/
inductive Cmt (t : Tv) : List It → Prop
  | fl {x : Fl} {K : List It} : Cmt t (.fl x :: K)
  | all {r : List Fl} {K : List It} : rwf r → Cmt t (.all r :: K)
  | onceS {p : Pk} {i : It} {K : List It} : Pk.pick t p = some i → Cmt t (.once p :: K)
  | againS {p : Pk} {i : It} {K : List It} : Pk.pick t p = some i → Cmt t (.again p :: K)
  | onceN {p : Pk} {K : List It} : Pk.pick t p = none → Cmt t K → Cmt t (.once p :: K)
  | againN {p : Pk} {K : List It} : Pk.pick t p = none → Cmt t K → Cmt t (.again p :: K)
/-- A row begins with what is sure. -/
def Gw.cm (t : Tv) : Gw → Prop
  | .ref => True
  | .ex r => ∀ K, Cmt t (r ++ K)
  | .op nd r => ∀ K, Cmt t (r ++ K)
theorem cmt_decl (t : Tv) (p : Pk) (x : Fl) (K : List It) : Cmt t (.again p :: .fl x :: K) := by
  cases h : Pk.pick t p with
  | none => exact .againN h .fl
  | some i => exact .againS h
theorem row_cm (t : Tv) (m : M) : (M.row t m).cm t := by
  cases m <;> simp only [M.row, wordedR] <;> (repeat' split)
  all_goals first
    | trivial
    | (intro K; exact .fl)
    | (intro K; exact cmt_decl t _ _ _)
theorem pick_cmt {t : Tv} {p : Pk} (hp : p.wf) {i : It} (h : Pk.pick t p = some i) (K : List It) : Cmt t (i :: K) := by
  cases p with
  | fn d =>
    simp only [Pk.pick, Option.map_eq_some_iff] at h
    obtain ⟨m, _, rfl⟩ := h
    exact .fl
  | row r =>
    simp only [Pk.pick] at h
    split at h
    · cases h; exact .all hp
    · cases h
  | ex m =>
    simp only [Pk.pick] at h
    split at h
    · cases h
    · cases h; exact .fl
theorem step_cmt {t : Tv} {i : It} {d : Int} {o : List Ev} {r K : List It} (h : It.step t i = .go d o r) (hi : i.wf) (hc : Cmt t (i :: K)) : Cmt t (r ++ K) ∧ (∀ e ∈ o, e.k = 1) ∧ 0 ≤ d := by
  cases i with
  | fl x =>
    have hm : ∃ m, x = .mt m := by
      cases x with
      | mt m => exact ⟨m, rfl⟩
      | _ => simp only [It.step, Fl.step] at h; split at h <;> cases h
    obtain ⟨m, rfl⟩ := hm
    have hr := row_cm t m
    simp only [It.step, Fl.step] at h
    cases hrow : M.row t m with
    | ref => rw [hrow] at h; cases h
    | ex r' => rw [hrow] at h hr; cases h; exact ⟨hr K, fun e he => by simp at he, by omega⟩
    | op nd r' => rw [hrow] at h hr; cases h; rw [List.append_assoc]; exact ⟨hr _, fun e he => by simp at he; subst he; rfl, by omega⟩
  | lv n => cases hc
  | once p =>
    simp only [It.step] at h
    cases hp : Pk.pick t p with
    | none =>
      rw [hp] at h
      cases h
      cases hc with
      | onceS h2 => rw [hp] at h2; cases h2
      | onceN _ h2 => exact ⟨h2, fun e he => by simp at he, by omega⟩
    | some j => rw [hp] at h; cases h; exact ⟨pick_cmt hi hp K, fun e he => by simp at he, by omega⟩
  | again p =>
    simp only [It.step] at h
    cases hp : Pk.pick t p with
    | none =>
      rw [hp] at h
      cases h
      cases hc with
      | againS h2 => rw [hp] at h2; cases h2
      | againN _ h2 => exact ⟨h2, fun e he => by simp at he, by omega⟩
    | some j => rw [hp] at h; cases h; exact ⟨pick_cmt hi hp _, fun e he => by simp at he, by omega⟩
  | all r' =>
    cases h
    obtain ⟨⟨k, ts, rest, rfl⟩, _⟩ := hi
    exact ⟨.fl, fun e he => by simp at he, by omega⟩
/-- From there on nodes begin. -/
theorem ru_opens {t : Tv} {k : Nat} {K : List It} {n : Int} {E : List Ev} {R : Ro} (h : Ru t k K n E R) : ∀ {L : List It} {m : Int} {F : List Ev}, R = .yes L m F → wfs K → Cmt t K → ∃ o, F = E ++ o ∧ (∀ e ∈ o, e.k = 1) := by
  induction h with
  | nil => intro L m F h; cases h
  | ref _ => intro L m F h; cases h
  | tk hs => intro L m F h _ _; cases h; exact ⟨[], by simp, fun e he => by simp at he⟩
  | go hs _ ih =>
    rename_i k i K n d E o r R _
    intro L m F h hw hc
    have hi := hw i (List.mem_cons_self ..)
    obtain ⟨a1, a2, a3⟩ := step_cmt hs hi hc
    obtain ⟨o2, b1, b2⟩ := ih h (wfs_app (step_ok (K := K) hs hi).1 (fun j hj => hw j (List.mem_cons_of_mem _ hj))) a1
    exact ⟨o ++ o2, by rw [b1, List.append_assoc], fun e he => (List.mem_append.1 he).elim (a2 e) (b2 e)⟩
/-- Nodes that end, then nodes that begin. -/
theorem ru_phase {t : Tv} {k : Nat} {K : List It} {n : Int} {E : List Ev} {R : Ro} (h : Ru t k K n E R) : ∀ {L : List It} {m : Int} {F : List Ev}, R = .yes L m F → wfs K → ∃ c o, F = E ++ (c ++ o) ∧ (∀ e ∈ c, e.k = 3) ∧ (∀ e ∈ o, e.k = 1) := by
  induction h with
  | nil => intro L m F h; cases h
  | ref _ => intro L m F h; cases h
  | tk hs => intro L m F h _; cases h; exact ⟨[], [], by simp, fun e he => by simp at he, fun e he => by simp at he⟩
  | go hs hr ih =>
    rename_i k i K n d E o r R
    intro L m F h hw
    have hi := hw i (List.mem_cons_self ..)
    have hw2 := wfs_app (step_ok (K := K) hs hi).1 (fun j hj => hw j (List.mem_cons_of_mem _ hj))
    by_cases hl : ∃ a, i = .lv a
    · obtain ⟨a, rfl⟩ := hl
      cases hs
      obtain ⟨c, o2, b1, b2, b3⟩ := ih h hw2
      exact ⟨⟨3, a, tv0⟩ :: c, o2, by rw [b1]; simp, fun e he => (List.mem_cons.1 he).elim (fun e1 => by rw [e1]) (b2 e), b3⟩
    · -- what is left out says nothing; all else is sure
      by_cases hc : Cmt t (i :: K)
      · obtain ⟨a1, a2, a3⟩ := step_cmt hs hi hc
        obtain ⟨o2, b1, b2⟩ := ru_opens hr h hw2 a1
        exact ⟨[], o ++ o2, by rw [b1]; simp, fun e he => by simp at he, fun e he => (List.mem_append.1 he).elim (a2 e) (b2 e)⟩
      · have ho : o = [] := by
          cases i with
          | fl x => exact absurd .fl hc
          | lv a => exact absurd ⟨a, rfl⟩ hl
          | once p => cases hs; rfl
          | again p => cases hs; rfl
          | all r' => cases hs; rfl
        subst ho
        obtain ⟨c, o2, b1, b2, b3⟩ := ih h hw2
        exact ⟨c, o2, by rw [b1]; simp, b2, b3⟩

end Go.Proofs.Ytkigadnkclkopaa
