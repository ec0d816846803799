import Derived.Test.YtfkegaencoodbaaDoorTa
set_option linter.unusedVariables false
set_option linter.unusedSimpArgs false
namespace Go.Proofs.YtfkegaencoodbaaDoor
open Go.RowKit

def two (p : Int) : Prop := (4352 ≤ p ∧ p ≤ 4447) ∨ (11904 ≤ p ∧ p ≤ 12350) ∨ (12353 ≤ p ∧ p ≤ 42191) ∨ (44032 ≤ p ∧ p ≤ 55203) ∨ (63744 ≤ p ∧ p ≤ 64255) ∨ (65072 ≤ p ∧ p ≤ 65135) ∨ (65280 ≤ p ∧ p ≤ 65376) ∨ (65504 ≤ p ∧ p ≤ 65510) ∨ (127744 ≤ p ∧ p ≤ 128591) ∨ (129280 ≤ p ∧ p ≤ 129535) ∨ (131072 ≤ p ∧ p ≤ 262141)
def zro (p : Int) : Prop := (768 ≤ p ∧ p ≤ 879) ∨ (8203 ≤ p ∧ p ≤ 8207) ∨ (8400 ≤ p ∧ p ≤ 8447) ∨ (65024 ≤ p ∧ p ≤ 65039) ∨ (65056 ≤ p ∧ p ≤ 65071)
instance (p : Int) : Decidable (two p) := by unfold two; infer_instance
instance (p : Int) : Decidable (zro p) := by unfold zro; infer_instance

/-- How many columns a number has. -/
def wd (p : Int) : Int := if two p then 2 else if zro p then 0 else 1

theorem wd_bd (p : Int) : 0 ≤ wd p ∧ wd p ≤ 2 := by unfold wd; split <;> (try split) <;> omega
theorem wd_two {p : Int} (h : two p) : wd p = 2 := by unfold wd; rw [if_pos h]
theorem wd_zro {p : Int} (h : zro p) : wd p = 0 := by
  unfold wd
  rw [if_neg (by unfold zro at h; unfold two; omega), if_pos h]
theorem wd_one {p : Int} (h : ¬ two p) (h2 : ¬ zro p) : wd p = 1 := by unfold wd; rw [if_neg h, if_neg h2]

theorem tab_hit (i : Nat) (p : Int) (hi : i < 16) (h0 : tlo i ≤ p) (h1 : p ≤ thi i) : tco i = wd p := by
  rcases i with _|_|_|_|_|_|_|_|_|_|_|_|_|_|_|_|i
  all_goals simp [tlo, thi, tco, tabL, List.getD] at h0 h1 ⊢
  all_goals first | exact (wd_two (by unfold two; omega)).symm | exact (wd_zro (by unfold zro; omega)).symm | omega

theorem tab_all (p : Int) (h : ∀ k, k < 16 → p < tlo k ∨ thi k < p) : wd p = 1 := by
  have a0 := h 0 (by omega); have a1 := h 1 (by omega); have a2 := h 2 (by omega); have a3 := h 3 (by omega)
  have a4 := h 4 (by omega); have a5 := h 5 (by omega); have a6 := h 6 (by omega); have a7 := h 7 (by omega)
  have a8 := h 8 (by omega); have a9 := h 9 (by omega); have a10 := h 10 (by omega); have a11 := h 11 (by omega)
  have a12 := h 12 (by omega); have a13 := h 13 (by omega); have a14 := h 14 (by omega); have a15 := h 15 (by omega)
  simp only [tlo, thi, tabL, List.getD, List.getElem?_cons_zero, List.getElem?_cons_succ, Option.getD_some] at a0 a1 a2 a3 a4 a5 a6 a7 a8 a9 a10 a11 a12 a13 a14 a15
  refine wd_one ?_ ?_
  · unfold two; omega
  · unfold zro; omega

theorem tab_up (i k : Nat) (hk : k < 16) (h : i ≤ k) : tlo i ≤ tlo k := by
  have : ∀ k, k < 16 → ∀ i, i < 16 → i ≤ k → tlo i ≤ tlo k := by decide +kernel
  exact this k hk i (by omega) h

theorem tab_miss (i : Nat) (p : Int) (h : ∀ k, k < i → thi k < p) (h2 : i < 16 → p < tlo i) : wd p = 1 := by
  refine tab_all p fun k hk => ?_
  by_cases hki : k < i
  · exact .inr (h k hki)
  · have := h2 (by omega)
    have := tab_up i k hk (by omega)
    omega

theorem ret_i64 {a b : Int} (h : a = b) : Ending.returned (.int .i64 a) = .returned (.int .i64 b) := by rw [h]

set_option maxHeartbeats 400000 in
theorem of_any (p : Int) (w : World) (hT : Tab w) :
    Calls Tryd.prog 50 #[.int .i64 p] w fun e w' => e = .returned (.int .i64 (wd p)) ∧ w' = w := by
  go_enter Tryd.func50, Tryd.ntmps50
  go_wp2_with fail
  go_loopw [4] (fun i wr => wr = w ∧ ∃ k : Nat, k ≤ 16 ∧ i = .int .i64 k ∧ ∀ j, j < k → thi j < p) (fun i _ => 16 - (intOf i).toNat)
  case atStart => exact ⟨rfl, 0, by omega, rfl, fun j hj => by omega⟩
  case round =>
    obtain ⟨rfl, k, hk, rfl, hall⟩ := hrel
    by_cases h16 : k < 16
    · obtain ⟨c0, c1, c2⟩ := hT k h16
      have HA : Hid (∀ j, j < k → thi j < p) := hall
      have HH : Hid (tlo k ≤ p → p ≤ thi k → tco k = wd p) := tab_hit k p h16
      have HM : Hid (p < tlo k → wd p = 1) := fun h => tab_miss k p hall (fun _ => h)
      have HN : Hid (thi k < p → ∀ j, j < k + 1 → thi j < p) := fun h j hj => by
        by_cases e : j = k
        · subst e; exact h
        · exact hall j (by omega)
      clear hall hT
      generalize tlo k = l at *
      generalize tco k = c at *
      generalize thi k = u at *
      by_cases h1 : p < l
      · go_wp2_with fail
        go_ret
        exact ⟨ret_i64 (HM.out h1).symm, rfl⟩
      · by_cases h2 : p ≤ u
        · go_wp2_with fail
          go_ret
          exact ⟨ret_i64 (HH.out (by omega) h2), rfl⟩
        · go_wp2_with fail
          exact ⟨⟨trivial, k + 1, by omega, by go_num, HN.out (by omega)⟩, by simp [intOf]; omega⟩
    · have HM : Hid (wd p = 1) := tab_miss k p hall (fun h => absurd h h16)
      clear hall hT
      go_wp2_with fail
      go_ret
      exact ⟨ret_i64 HM.out.symm, rfl⟩
end Go.Proofs.YtfkegaencoodbaaDoor
