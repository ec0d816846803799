import Derived.Test.YtkigadnkclkopaaTf
set_option linter.unusedVariables false
set_option linter.unusedSimpArgs false
namespace Go.Proofs.Ytkigadnkclkopaa
open Go.RowKit

/-! The law's weight. -/
mutual
def wgt : Nd → Nat → Nat → Nat
  | .mk k d c, n, dp => if 3000 < dp then 16777217 else wgtL c (n + 1) (dp + 1)
def wgtL : List Nd → Nat → Nat → Nat
  | [], n, _ => n
  | x :: r, n, dp => if n ≤ 16777216 then wgtL r (wgt x n dp) dp else n
end
mutual
theorem wgt_le : ∀ (x : Nd) (n dp : Nat), n ≤ 16777216 → wgt x n dp ≤ 16777217
  | .mk k d c, n, dp, h => by
    simp only [wgt]
    split
    · exact Nat.le_refl _
    · exact wgtL_le c (n + 1) (dp + 1) (by omega)
theorem wgtL_le : ∀ (c : List Nd) (n dp : Nat), n ≤ 16777217 → wgtL c n dp ≤ 16777217
  | [], n, dp, h => by simpa [wgtL] using h
  | x :: r, n, dp, h => by
    simp only [wgtL]
    split
    · rename_i h1
      exact wgtL_le r _ dp (wgt_le x n dp h1)
    · exact h
end
theorem wgtL_far {c : List Nd} {n dp : Nat} (h : 16777216 < n) : wgtL c n dp = n := by
  cases c with
  | nil => simp [wgtL]
  | cons x r =>
    simp only [wgtL]
    rw [if_neg (by omega)]
mutual
/-- What is weighed is small. -/
theorem wgt_ok : ∀ (x : Nd) (n dp : Nat), wgt x n dp ≤ 16777216 → wgt x n dp = n + nsz x ∧ dpt x + dp ≤ 3001
  | .mk k d c, n, dp, h => by
    simp only [wgt] at h ⊢
    split at h
    · omega
    · rename_i hd
      rw [if_neg hd]
      obtain ⟨a, b⟩ := wgtL_ok c (n + 1) (dp + 1) h
      refine ⟨by rw [a]; simp only [nsz]; omega, ?_⟩
      simp only [dpt]
      split
      · omega
      · omega
theorem wgtL_ok : ∀ (c : List Nd) (n dp : Nat), wgtL c n dp ≤ 16777216 → wgtL c n dp = n + nszL c ∧ (dptL c = 0 ∨ dptL c + dp ≤ 3001)
  | [], n, dp, h => by simp [wgtL, nszL, dptL]
  | x :: r, n, dp, h => by
    simp only [wgtL] at h ⊢
    split at h
    · rename_i h1
      rw [if_pos h1]
      obtain ⟨a, b⟩ := wgtL_ok r (wgt x n dp) dp h
      have hw : wgt x n dp ≤ 16777216 := by omega
      obtain ⟨a2, b2⟩ := wgt_ok x n dp hw
      refine ⟨by rw [a, a2]; simp only [nszL]; omega, ?_⟩
      simp only [dptL]
      omega
    · omega
end
theorem wgtL_drop {c : List Nd} {j n dp : Nat} {m : Nd} (hm : c[j]? = some m) (hn : n ≤ 16777216) : wgtL (c.drop j) n dp = wgtL (c.drop (j + 1)) (wgt m n dp) dp := by
  obtain ⟨a1, a2⟩ := List.getElem?_eq_some_iff.1 hm
  rw [List.drop_eq_getElem_cons a1, a2]
  simp only [wgtL, if_pos hn]
end Go.Proofs.Ytkigadnkclkopaa
