import Derived.Test.YtkigadnkclkopaaLa
set_option linter.unusedVariables false
set_option linter.unusedSimpArgs false
namespace Go.Proofs.Ytkigadnkclkopaa
open Go.RowKit

/-! TreeBack. -/
mutual
theorem evs_len : ∀ n : Nd, (evs n).length ≤ 2 * nsz n
  | .mk k d c => by
    have := evsL_len c
    simp only [evs, nsz]
    split
    · simp; omega
    · simp; omega
theorem evsL_len : ∀ c : List Nd, (evsL c).length ≤ 2 * nszL c
  | [] => by simp [evsL, nszL]
  | n :: r => by
    have h1 := evs_len n
    have h2 := evsL_len r
    simp only [evsL, nszL, List.length_append]
    omega
end
mutual
theorem nsz_strip : ∀ n : Nd, nsz (strip n) ≤ nsz n
  | .mk k d c => by
    have := nszL_strip c
    simp only [strip]
    split
    · simp [nsz, nszL]
    · simp only [nsz]; omega
theorem nszL_strip : ∀ c : List Nd, nszL (stripL c) ≤ nszL c
  | [] => by simp [stripL]
  | n :: r => by
    have h1 := nsz_strip n
    have h2 := nszL_strip r
    simp only [stripL, nszL]
    omega
end
theorem bld_kinds : ∀ (l : List Ev) (S : List (Int × List Nd)) (n : Nd), bld l S = some n → ∀ e ∈ l, e.k = 1 ∨ e.k = 3 ∨ e.k = 2 ∨ e.k = 4
  | [], S, n, h, e, he => by cases he
  | x :: l, S, n, h, e, he => by
    simp only [bld] at h
    by_cases h1 : x.k = 1
    · rw [if_pos h1] at h
      split at h
      · cases h
      · rcases List.mem_cons.1 he with rfl | he
        · exact .inl h1
        · exact bld_kinds l _ n h e he
    · rw [if_neg h1] at h
      by_cases h3 : x.k = 3
      · rw [if_pos h3] at h
        cases S with
        | nil => cases h
        | cons y S' =>
          obtain ⟨k, c⟩ := y
          simp only at h
          split at h
          · cases S' with
            | nil =>
              simp only at h
              split at h
              · rename_i hl
                subst hl
                rcases List.mem_cons.1 he with rfl | he
                · exact .inr (.inl h3)
                · cases he
              · cases h
            | cons z S2 =>
              obtain ⟨k', c'⟩ := z
              rcases List.mem_cons.1 he with rfl | he
              · exact .inr (.inl h3)
              · exact bld_kinds l _ n h e he
          · cases h
      · rw [if_neg h3] at h
        split at h
        · rename_i hc
          cases S with
          | nil => cases h
          | cons y S' =>
            obtain ⟨k, c⟩ := y
            rcases List.mem_cons.1 he with rfl | he
            · rcases hc with hc | hc
              · exact .inr (.inr (.inl hc.1))
              · exact .inr (.inr (.inr hc.1))
            · exact bld_kinds l _ n h e he
        · cases h
theorem bo_cases (l : List Ev) : (∃ a, bld l [] = some a ∧ bo l = (a, 0) ∧ evs a = l.map nrm) ∨ (bld l [] = none ∧ bo l = (.mk 0 tv0 [], 130)) := by
  unfold bo
  cases h : bld l [] with
  | none => exact .inr ⟨rfl, rfl⟩
  | some a => exact .inl ⟨a, rfl, rfl, (evs_build h).1⟩
/-- What is known of a tree that was weighed. -/
theorem wgt_small {n : Nd} (h : wgt n 0 0 ≤ 16777216) : nsz n ≤ 16777216 ∧ dpt n ≤ 3001 ∧ (evs n).length ≤ 33554432 := by
  obtain ⟨a, b⟩ := wgt_ok n 0 0 h
  have := evs_len n
  omega
end Go.Proofs.Ytkigadnkclkopaa
