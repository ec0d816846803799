import Derived.Test.YtcokccfbeonlnaaDoorDg
set_option linter.unusedVariables false
set_option linter.unusedSimpArgs false
namespace Go.Proofs.YtcokccfbeonlnaaDoor
open Go.RowKit

set_option maxHeartbeats 1000000 in
theorem right_text (t : ByteArray) (b i : Int) (e : Bool) (ht : t.size ≤ 9223372036854775807) (w : World) : Calls Tryd.prog 74 #[.agg #[.int .u8 1, .string t, .int .i64 b, .int .i64 i, .bool e]] w fun x w' => x = .returned (.bool (rtT t && (b == 0 && (i == 0 && !e)))) ∧ Below w.heap.size w w' := by
  go_enter Tryd.func74, Tryd.ntmps74
  go_wp2_with (go_at_call 87; refine (dtext_any _ ht _).mono ?_; rintro e w1 ⟨rfl, rfl⟩)
  all_goals go_ret
  all_goals (refine ⟨by simp_all, ?_⟩; repeat (first | exact Below.refl _ _ | refine Below.setCell ?_ (Nat.le_refl _) _ | refine Below.alloc ?_ (by simp) _ | refine Below.drew ?_))

set_option maxHeartbeats 1000000 in
theorem right_brk (t : ByteArray) (b i : Int) (e : Bool) (w : World) : Calls Tryd.prog 74 #[.agg #[.int .u8 3, .string t, .int .i64 b, .int .i64 i, .bool e]] w fun x w' => x = .returned (.bool (rtN b && (t.toList == [] && (i == 0 && !e)))) ∧ Below w.heap.size w w' := by
  go_enter Tryd.func74, Tryd.ntmps74
  go_wp2_with (go_at_call 88; refine (rnum_any _ _).mono ?_; rintro e w1 ⟨rfl, rfl⟩)
  all_goals go_ret
  all_goals (refine ⟨by simp_all, ?_⟩; repeat (first | exact Below.refl _ _ | refine Below.setCell ?_ (Nat.le_refl _) _ | refine Below.alloc ?_ (by simp) _ | refine Below.drew ?_))

set_option maxHeartbeats 1000000 in
theorem right_beg (t : ByteArray) (b i : Int) (e : Bool) (w : World) : Calls Tryd.prog 74 #[.agg #[.int .u8 6, .string t, .int .i64 b, .int .i64 i, .bool e]] w fun x w' => x = .returned (.bool (rtN i && (t.toList == [] && b == 0))) ∧ Below w.heap.size w w' := by
  go_enter Tryd.func74, Tryd.ntmps74
  go_wp2_with (go_at_call 88; refine (rnum_any _ _).mono ?_; rintro e w1 ⟨rfl, rfl⟩)
  all_goals go_ret
  all_goals (refine ⟨by simp_all, ?_⟩; repeat (first | exact Below.refl _ _ | refine Below.setCell ?_ (Nat.le_refl _) _ | refine Below.alloc ?_ (by simp) _ | refine Below.drew ?_))

set_option maxHeartbeats 1000000 in
theorem right_zero (k : Int) (hk : k = 2 ∨ k = 4 ∨ k = 5 ∨ k = 7) (t : ByteArray) (b i : Int) (e : Bool) (w : World) : Calls Tryd.prog 74 #[.agg #[.int .u8 k, .string t, .int .i64 b, .int .i64 i, .bool e]] w fun x w' => x = .returned (.bool (t.toList == [] && (b == 0 && (i == 0 && !e)))) ∧ Below w.heap.size w w' := by
  rcases hk with rfl | rfl | rfl | rfl
  all_goals
    go_enter Tryd.func74, Tryd.ntmps74
    go_wp2_with fail
    all_goals go_ret
    all_goals (refine ⟨by simp_all, ?_⟩; repeat (first | exact Below.refl _ _ | refine Below.setCell ?_ (Nat.le_refl _) _ | refine Below.alloc ?_ (by simp) _ | refine Below.drew ?_))

set_option maxHeartbeats 1000000 in
theorem right_none (k : Int) (h1 : k ≠ 1) (h2 : k ≠ 2) (h3 : k ≠ 3) (h4 : k ≠ 4) (h5 : k ≠ 5) (h6 : k ≠ 6) (h7 : k ≠ 7) (t : ByteArray) (b i : Int) (e : Bool) (w : World) : Calls Tryd.prog 74 #[.agg #[.int .u8 k, .string t, .int .i64 b, .int .i64 i, .bool e]] w fun x w' => x = .returned (.bool false) ∧ Below w.heap.size w w' := by
  go_enter Tryd.func74, Tryd.ntmps74
  go_wp2_with fail
  all_goals go_ret
  all_goals (refine ⟨by simp_all, ?_⟩; repeat (first | exact Below.refl _ _ | refine Below.setCell ?_ (Nat.le_refl _) _ | refine Below.alloc ?_ (by simp) _ | refine Below.drew ?_))

theorem tl_E (t : ByteArray) : (t.toList == []) = decide (t = bE) := by
  rw [Bool.eq_iff_iff, beq_iff_eq, decide_eq_true_eq, Lib.toList_data]
  constructor
  · intro h; exact ls_inj h
  · rintro rfl; rfl
theorem right_any (d : Dc) (ht : d.t.size ≤ 9223372036854775807) (w : World) : Calls Tryd.prog 74 #[d.v] w fun x w' => x = .returned (.bool (rt d)) ∧ Below w.heap.size w w' := by
  obtain ⟨k, t, b, i, e⟩ := d
  by_cases k1 : k = 1
  · subst k1
    have e1 : rt ⟨1, t, b, i, e⟩ = (rtT t && (b == 0 && (i == 0 && !e))) := by
      unfold rt
      rw [if_pos rfl]
      congr 1
      rw [Bool.eq_iff_iff]
      simp [Dc.mk.injEq]
    rw [e1]
    exact right_text t b i e ht w
  by_cases k3 : k = 3
  · subst k3
    have e1 : rt ⟨3, t, b, i, e⟩ = (rtN b && (t.toList == [] && (i == 0 && !e))) := by
      unfold rt
      rw [if_neg (by show ¬ (3 : Int) = 1; decide), if_pos rfl, tl_E]
      congr 1
      rw [Bool.eq_iff_iff]
      simp [Dc.mk.injEq]
    rw [e1]
    exact right_brk t b i e w
  by_cases k6 : k = 6
  · subst k6
    have e1 : rt ⟨6, t, b, i, e⟩ = (rtN i && (t.toList == [] && b == 0)) := by
      unfold rt
      rw [if_neg (by show ¬ (6 : Int) = 1; decide), if_neg (by show ¬ (6 : Int) = 3; decide), if_pos rfl, tl_E]
      congr 1
      rw [Bool.eq_iff_iff]
      simp [Dc.mk.injEq]
    rw [e1]
    exact right_beg t b i e w
  by_cases kz : k = 2 ∨ k = 4 ∨ k = 5 ∨ k = 7
  · have e1 : rt ⟨k, t, b, i, e⟩ = (t.toList == [] && (b == 0 && (i == 0 && !e))) := by
      unfold rt
      rw [if_neg k1, if_neg k3, if_neg k6, if_pos kz, tl_E]
      rw [Bool.eq_iff_iff]
      simp [Dc.mk.injEq]
    rw [e1]
    exact right_zero k kz t b i e w
  · have e1 : rt ⟨k, t, b, i, e⟩ = false := by
      unfold rt
      rw [if_neg k1, if_neg k3, if_neg k6, if_neg kz]
    rw [e1]
    simp only [not_or] at kz
    exact right_none k k1 kz.1 k3 kz.2.1 kz.2.2.1 k6 kz.2.2.2 t b i e w
end Go.Proofs.YtcokccfbeonlnaaDoor
