import Derived.Test.YtkigadnkclkopaaXa
set_option linter.unusedVariables false
set_option linter.unusedSimpArgs false
namespace Go.Proofs.Ytkigadnkclkopaa

/-! Back: what is built tells what it was built of; when two trees are the same (none of a dump). -/
/-- An event without what is not looked at. -/
def nrm (e : Ev) : Ev := if e.k = 1 ∨ e.k = 3 then ⟨e.k, e.n, tv0⟩ else ⟨e.k, 0, e.d⟩
theorem evsL_app (a b : List Nd) : evsL (a ++ b) = evsL a ++ evsL b := by
  induction a with
  | nil => simp [evsL]
  | cons x r ih => simp [evsL, ih]
/-- What was told of the nodes that are open. -/
def opn : List (Int × List Nd) → List Ev
  | [] => []
  | (k, c) :: S => opn S ++ (⟨1, k, tv0⟩ :: evsL c)
theorem evs_bld : ∀ (l : List Ev) (S : List (Int × List Nd)) (n : Nd), bld l S = some n → (∀ x ∈ S, x.1 ≠ 0) → evs n = opn S ++ l.map nrm ∧ n.k ≠ 0
  | [], S, n, h, _ => by simp [bld] at h
  | e :: l, S, n, h, hS => by
    simp only [bld] at h
    by_cases h1 : e.k = 1
    · rw [if_pos h1] at h
      split at h
      · cases h
      · rename_i hc
        have hn : e.n ≠ 0 := fun x => hc (.inl x)
        obtain ⟨a, b⟩ := evs_bld l ((e.n, []) :: S) n h (fun x hx => by
          rcases List.mem_cons.1 hx with rfl | hx
          · exact hn
          · exact hS x hx)
        refine ⟨?_, b⟩
        rw [a]
        have : nrm e = ⟨1, e.n, tv0⟩ := by simp [nrm, h1]
        simp [opn, evsL, this]
    · rw [if_neg h1] at h
      by_cases h3 : e.k = 3
      · rw [if_pos h3] at h
        have hr : nrm e = ⟨3, e.n, tv0⟩ := by simp [nrm, h3]
        cases S with
        | nil => cases h
        | cons x S' =>
          obtain ⟨k, c⟩ := x
          simp only at h
          have hk : k ≠ 0 := hS (k, c) (List.mem_cons_self ..)
          split at h
          · rename_i hke
            subst hke
            have hev : evs (.mk e.n tv0 c) = ⟨1, e.n, tv0⟩ :: (evsL c ++ [⟨3, e.n, tv0⟩]) := by simp [evs, hk]
            cases S' with
            | nil =>
              simp only at h
              split at h
              · rename_i hl
                cases h
                subst hl
                refine ⟨?_, hk⟩
                rw [hev]
                simp [opn, hr]
              · cases h
            | cons y S2 =>
              obtain ⟨k', c'⟩ := y
              simp only at h
              obtain ⟨a, b⟩ := evs_bld l ((k', c' ++ [.mk e.n tv0 c]) :: S2) n h (fun x hx => by
                rcases List.mem_cons.1 hx with rfl | hx
                · exact hS (k', c') (by simp)
                · exact hS x (by simp [hx]))
              refine ⟨?_, b⟩
              rw [a]
              simp [opn, evsL_app, evsL, hev, hr]
          · cases h
      · rw [if_neg h3] at h
        split at h
        · rename_i hc
          cases S with
          | nil => cases h
          | cons x S' =>
            obtain ⟨k, c⟩ := x
            simp only at h
            obtain ⟨a, b⟩ := evs_bld l ((k, c ++ [.mk 0 e.d []]) :: S') n h (fun x hx => by
              rcases List.mem_cons.1 hx with rfl | hx
              · exact hS (k, c) (List.mem_cons_self ..)
              · exact hS x (List.mem_cons_of_mem _ hx))
            refine ⟨?_, b⟩
            rw [a]
            have hr : nrm e = tkE e.d := by
              have : nrm e = ⟨e.k, 0, e.d⟩ := by simp [nrm, h1, h3]
              rw [this]
              unfold tkE
              rcases hc with ⟨a1, a2⟩ | ⟨a1, a2⟩
              · rw [a1, a2]; rfl
              · rw [a1, a2]; rfl
            have he : evs (.mk 0 e.d []) = [tkE e.d] := by simp [evs]
            simp [opn, evsL_app, evsL, he, hr]
        · cases h
theorem evs_build {l : List Ev} {n : Nd} (h : bld l [] = some n) : evs n = l.map nrm ∧ n.k ≠ 0 := by
  have := evs_bld l [] n h (fun x hx => by cases hx)
  simpa [opn] using this

/-- What Same looks at. -/
inductive Cn | tk (k : Int) (t : ByteArray) | nd (k : Int) (c : List Cn)
mutual
def can : Nd → Cn
  | .mk k d c => if k = 0 then .tk d.k d.t else .nd k (canL c)
def canL : List Nd → List Cn
  | [] => []
  | n :: r => if isN n then canL r else can n :: canL r
end
theorem canL_filter : ∀ m : List Nd, canL (m.filter (fun x => !isN x)) = canL m
  | [] => rfl
  | n :: r => by
    cases h : isN n
    · rw [List.filter_cons_of_pos (by simp [h])]
      simp [canL, h, canL_filter r]
    · rw [List.filter_cons_of_neg (by simp [h])]
      simp [canL, h, canL_filter r]
mutual
theorem same_can : ∀ (a b : Nd), same a b = true ↔ can a = can b
  | .mk k d c, .mk k2 d2 c2 => by
    have hs : same (.mk k d c) (.mk k2 d2 c2) = if k = k2 then (if k = 0 then (d.k == d2.k && decide (d.t = d2.t)) else sameL c (c2.filter (fun x => !isN x))) else false := by rw [same]; rfl
    rw [hs]
    by_cases hk : k = k2
    · subst hk
      rw [if_pos rfl]
      by_cases h0 : k = 0
      · rw [if_pos h0]
        simp [can, h0]
      · rw [if_neg h0]
        rw [sameL_can c (c2.filter (fun x => !isN x)) (fun x hx => by simpa using (List.mem_filter.1 hx).2), canL_filter]
        simp [can, h0]
    · rw [if_neg hk]
      simp only [Bool.false_eq_true, false_iff]
      intro h
      by_cases h0 : k = 0
      · by_cases h1 : k2 = 0
        · exact hk (h0.trans h1.symm)
        · simp [can, h0, h1] at h
      · by_cases h1 : k2 = 0
        · simp [can, h0, h1] at h
        · simp [can, h0, h1] at h
          exact hk h.1
theorem sameL_can : ∀ (c m : List Nd), (∀ x ∈ m, isN x = false) → (sameL c m = true ↔ canL c = canL m)
  | [], m, hm => by
    cases m with
    | nil => simp [sameL, canL]
    | cons y m =>
      have := hm y (List.mem_cons_self ..)
      simp [sameL, canL, this]
  | x :: r, m, hm => by
    simp only [sameL]
    cases hx : isN x
    · simp only [Bool.false_eq_true, if_false]
      cases m with
      | nil => simp [canL, hx]
      | cons y m =>
        have hy := hm y (List.mem_cons_self ..)
        simp only [Bool.and_eq_true]
        rw [same_can x y, sameL_can r m (fun z hz => hm z (List.mem_cons_of_mem _ hz))]
        simp [canL, hx, hy]
    · simp only [if_true]
      rw [sameL_can r m hm]
      simp [canL, hx]
end
theorem same_refl (a : Nd) : same a a = true := (same_can a a).2 rfl
theorem same_comm (a b : Nd) : same a b = same b a := by
  rw [Bool.eq_iff_iff, same_can, same_can]
  exact ⟨Eq.symm, Eq.symm⟩
mutual
theorem can_strip : ∀ n : Nd, can (strip n) = can n
  | .mk k d c => by
    by_cases h0 : k = 0
    · simp [strip, can, h0]
    · simp [strip, can, h0, canL_strip c]
theorem canL_strip : ∀ c : List Nd, canL (stripL c) = canL c
  | [] => rfl
  | n :: r => by
    have hn : isN (strip n) = isN n := by
      obtain ⟨k, d, c⟩ := n
      by_cases h0 : k = 0
      · simp [strip, isN, Nd.k, Nd.d, h0]
      · have hb : (k == 0) = false := by simpa using h0
        simp [strip, isN, Nd.k, Nd.d, h0, hb]
    simp [stripL, canL, hn, can_strip n, canL_strip r]
end
theorem same_strip (n : Nd) : same (strip n) n = true := (same_can _ _).2 (can_strip n)
mutual
theorem dpt_strip : ∀ n : Nd, dpt (strip n) = dpt n
  | .mk k d c => by
    by_cases h0 : k = 0
    · simp [strip, dpt, h0]
    · simp [strip, dpt, h0, dptL_strip c]
theorem dptL_strip : ∀ c : List Nd, dptL (stripL c) = dptL c
  | [] => rfl
  | n :: r => by simp [stripL, dptL, dpt_strip n, dptL_strip r]
end

end Go.Proofs.Ytkigadnkclkopaa
