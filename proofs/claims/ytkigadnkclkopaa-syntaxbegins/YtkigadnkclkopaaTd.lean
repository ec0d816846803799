import Derived.Test.YtkigadnkclkopaaTr
set_option linter.unusedVariables false
set_option linter.unusedSimpArgs false
namespace Go.Proofs.Ytkigadnkclkopaa
open Go.RowKit

/-! What only reads trees. -/
theorem below_new (W : World) (o : Obj) : Below W.heap.size W (W.alloc o) := (Below.refl _ _).alloc (Nat.le_refl _) _
theorem below_dn {b : Nat} {w v : World} (h : Below b w v) : ∀ m, Below b w (v.drewN m)
  | 0 => h
  | m + 1 => (below_dn h m).drew
/-- A kid's cells, and the value that they make. -/
theorem hn_cells {W : World} {b o : Nat} {n : Nd} (h : HN W b o n) : b < W.heap.size ∧ ∃ ao cap, (W.cell? ⟨b, o, none⟩ = some (.int .u8 n.k) ∧ W.cell? ⟨b, o + 1, none⟩ = some (.int .u8 n.d.k) ∧ W.cell? ⟨b, o + 2, none⟩ = some (.string n.d.t) ∧ W.cell? ⟨b, o + 3, none⟩ = some (.int .i64 n.d.a) ∧ W.cell? ⟨b, o + 4, none⟩ = some (.int .i64 n.d.l) ∧ W.cell? ⟨b, o + 5, none⟩ = some (.int .i64 n.d.c) ∧ W.cell? ⟨b, o + 6, none⟩ = some (.int .i64 n.d.f) ∧ W.cell? ⟨b, o + 7, none⟩ = some (.slice ao n.c.length cap)) ∧ n.c.length ≤ cap ∧ cap ≤ maxLen ∧ (ao = none → n.c = []) ∧ (∀ a, ao = some a → n.c = [] ∨ ∃ b' o', a = ⟨b', o', none⟩ ∧ HL W b' o' n.c) := by
  obtain ⟨k, d, c⟩ := n
  rw [HN] at h
  obtain ⟨⟨h0, h1, h2, h3, h4, h5, h6⟩, ao, cap, h7, h8, h9, h10, h11⟩ := h
  exact ⟨World.block_lt_of_cell? _ _ h0, ao, cap, ⟨h0, h1, h2, h3, h4, h5, h6, h7⟩, h8, h9, h10, h11⟩
theorem dptL_take {c : List Nd} {j : Nat} {m : Nd} (h : c[j]? = some m) : dptL (c.take (j + 1)) = max (dptL (c.take j)) (dpt m) := by
  induction c generalizing j with
  | nil => simp at h
  | cons x r ih =>
    cases j with
    | zero =>
      simp at h
      subst h
      simp [dptL]
    | succ j =>
      simp at h
      simp only [List.take_succ_cons, dptL, ih h]
      omega
theorem dptL_le {c : List Nd} {j : Nat} : dptL (c.take j) ≤ dptL c := by
  induction c generalizing j with
  | nil => simp
  | cons x r ih =>
    cases j with
    | zero => simp [dptL]
    | succ j =>
      have := ih (j := j)
      simp only [List.take_succ_cons, dptL]
      omega
end Go.Proofs.Ytkigadnkclkopaa
