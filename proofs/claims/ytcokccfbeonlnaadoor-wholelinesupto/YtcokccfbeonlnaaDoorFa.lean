import Derived.Test.YtcokccfbeonlnaaDoorDh
set_option linter.unusedVariables false
set_option linter.unusedSimpArgs false
namespace Go.Proofs.YtcokccfbeonlnaaDoor
open Go.RowKit

theorem edg_int (c : UInt8) : edg c = ((c.toNat : Int) == 32 || (c.toNat : Int) == 10) := by
  revert c; exact all8 (by decide +kernel)

set_option maxHeartbeats 1000000 in
theorem rr_text (t : ByteArray) (b i : Int) (e : Bool) (ht : t.size ≤ 9223372036854775807) (w : World) : Calls Tryd.prog 47 #[.agg #[.int .u8 1, .string t, .int .i64 b, .int .i64 i, .bool e]] w fun x w' => x = .returned (.bool (rtT t && (b == 0 && (i == 0 && !e)))) ∧ Below w.heap.size w w' := by
  obtain ⟨r, hr⟩ : ∃ r, rtT t = r := ⟨_, rfl⟩
  have HR : Hid (rtT t = r) := hr
  rw [hr]
  clear hr
  by_cases h0 : t.size = 0
  · have q0 : (t.size : Int) < 1 := by omega
    have HF : Hid (r = false) := by show _ = _; rw [← HR.out]; simp [rtT, h0]
    go_enter Tryd.func47, Tryd.ntmps47
    go_wp2_with fail
    go_ret
    rw [HF.out]
    refine ⟨rfl, ?_⟩
    repeat (first | exact Below.refl _ _ | refine Below.setCell ?_ (by simp) _ | refine Below.alloc ?_ (by simp) _)
  · have q0 : ¬ (t.size : Int) < 1 := by omega
    by_cases h1 : 65535 < t.size
    · have q1 : (65535 : Int) < t.size := by omega
      have HF : Hid (r = false) := by show _ = _; rw [← HR.out]; simp [rtT]; omega
      go_enter Tryd.func47, Tryd.ntmps47
      go_wp2_with fail
      go_ret
      rw [HF.out]
      refine ⟨rfl, ?_⟩
      repeat (first | exact Below.refl _ _ | refine Below.setCell ?_ (by simp) _ | refine Below.alloc ?_ (by simp) _)
    · have q1 : ¬ (65535 : Int) < t.size := by omega
      have hlt : 0 < t.size := by omega
      have hlt2 : t.size - 1 < t.size := by omega
      obtain ⟨c0, hc0⟩ : ∃ c, t[0] = c := ⟨_, rfl⟩
      obtain ⟨c1, hc1⟩ : ∃ c, t[t.size - 1] = c := ⟨_, rfl⟩
      have HE : Hid (r = (!((c0.toNat : Int) == 32 || (c0.toNat : Int) == 10) && !((c1.toNat : Int) == 32 || (c1.toNat : Int) == 10))) := by
        show _ = _
        rw [← HR.out, ← edg_int, ← edg_int]
        unfold rtT
        have a0 : (lsb t).getD 0 0 = t[0] := (Lib.getD_at t 0 hlt).symm
        have a1 : (lsb t).getD (t.size - 1) 0 = t[t.size - 1] := (Lib.getD_at t (t.size - 1) hlt2).symm
        rw [a0, a1, hc0, hc1]
        simp [show 1 ≤ t.size by omega, show t.size ≤ 65535 by omega]
      clear HR
      go_enter Tryd.func47, Tryd.ntmps47
      go_wp2_with fail
      all_goals (go_ret; (try rw [HE.out]); clear HE; refine ⟨by simp_all, ?_⟩; repeat (first | exact Below.refl _ _ | refine Below.setCell ?_ (by simp) _ | refine Below.alloc ?_ (by simp) _))

set_option maxHeartbeats 1000000 in
theorem rr_brk (t : ByteArray) (b i : Int) (e : Bool) (w : World) : Calls Tryd.prog 47 #[.agg #[.int .u8 3, .string t, .int .i64 b, .int .i64 i, .bool e]] w fun x w' => x = .returned (.bool (rtN b && (t.toList == [] && (i == 0 && !e)))) ∧ Below w.heap.size w w' := by
  obtain ⟨r, hr⟩ : ∃ r, rtN b = r := ⟨_, rfl⟩
  have HR : Hid (rtN b = r) := hr
  rw [hr]
  clear hr
  by_cases h0 : 0 ≤ b ∧ b ≤ 1000
  · have HE : Hid (r = true) := by show _ = _; rw [← HR.out]; simp [rtN, h0]
    obtain ⟨h1, h2⟩ := h0
    have q1 : ¬ b < 0 := by omega
    have q2 : ¬ 1000 < b := by omega
    clear h1 h2
    go_enter Tryd.func47, Tryd.ntmps47
    go_wp2_with fail
    all_goals (go_ret; (try rw [HE.out]); clear HE; refine ⟨by simp_all, ?_⟩; repeat (first | exact Below.refl _ _ | refine Below.setCell ?_ (by simp) _ | refine Below.alloc ?_ (by simp) _))
  · have HE : Hid (r = false) := by show _ = _; rw [← HR.out]; simp only [rtN]; simp; omega
    by_cases h1 : b < 0
    · clear h0
      go_enter Tryd.func47, Tryd.ntmps47
      go_wp2_with fail
      all_goals (go_ret; rw [HE.out]; clear HE; refine ⟨rfl, ?_⟩; repeat (first | exact Below.refl _ _ | refine Below.setCell ?_ (by simp) _ | refine Below.alloc ?_ (by simp) _))
    · have q2 : 1000 < b := by omega
      clear h0
      go_enter Tryd.func47, Tryd.ntmps47
      go_wp2_with fail
      all_goals (go_ret; rw [HE.out]; clear HE; refine ⟨rfl, ?_⟩; repeat (first | exact Below.refl _ _ | refine Below.setCell ?_ (by simp) _ | refine Below.alloc ?_ (by simp) _))

set_option maxHeartbeats 1000000 in
theorem rr_beg (t : ByteArray) (b i : Int) (e : Bool) (w : World) : Calls Tryd.prog 47 #[.agg #[.int .u8 6, .string t, .int .i64 b, .int .i64 i, .bool e]] w fun x w' => x = .returned (.bool (rtN i && (t.toList == [] && b == 0))) ∧ Below w.heap.size w w' := by
  obtain ⟨r, hr⟩ : ∃ r, rtN i = r := ⟨_, rfl⟩
  have HR : Hid (rtN i = r) := hr
  rw [hr]
  clear hr
  by_cases h0 : 0 ≤ i ∧ i ≤ 1000
  · have HE : Hid (r = true) := by show _ = _; rw [← HR.out]; simp [rtN, h0]
    obtain ⟨h1, h2⟩ := h0
    have q1 : ¬ i < 0 := by omega
    have q2 : ¬ 1000 < i := by omega
    clear h1 h2
    go_enter Tryd.func47, Tryd.ntmps47
    go_wp2_with fail
    all_goals (go_ret; (try rw [HE.out]); clear HE; refine ⟨by simp_all, ?_⟩; repeat (first | exact Below.refl _ _ | refine Below.setCell ?_ (by simp) _ | refine Below.alloc ?_ (by simp) _))
  · have HE : Hid (r = false) := by show _ = _; rw [← HR.out]; simp only [rtN]; simp; omega
    by_cases h1 : i < 0
    · clear h0
      go_enter Tryd.func47, Tryd.ntmps47
      go_wp2_with fail
      all_goals (go_ret; rw [HE.out]; clear HE; refine ⟨rfl, ?_⟩; repeat (first | exact Below.refl _ _ | refine Below.setCell ?_ (by simp) _ | refine Below.alloc ?_ (by simp) _))
    · have q2 : 1000 < i := by omega
      clear h0
      go_enter Tryd.func47, Tryd.ntmps47
      go_wp2_with fail
      all_goals (go_ret; rw [HE.out]; clear HE; refine ⟨rfl, ?_⟩; repeat (first | exact Below.refl _ _ | refine Below.setCell ?_ (by simp) _ | refine Below.alloc ?_ (by simp) _))

set_option maxHeartbeats 1000000 in
theorem rr_zero (k : Int) (hk : k = 2 ∨ k = 4 ∨ k = 5 ∨ k = 7) (t : ByteArray) (b i : Int) (e : Bool) (w : World) : Calls Tryd.prog 47 #[.agg #[.int .u8 k, .string t, .int .i64 b, .int .i64 i, .bool e]] w fun x w' => x = .returned (.bool (t.toList == [] && (b == 0 && (i == 0 && !e)))) ∧ Below w.heap.size w w' := by
  rcases hk with rfl | rfl | rfl | rfl
  all_goals
    go_enter Tryd.func47, Tryd.ntmps47
    go_wp2_with fail
    all_goals go_ret
    all_goals (refine ⟨by simp_all, ?_⟩; repeat (first | exact Below.refl _ _ | refine Below.setCell ?_ (by simp) _ | refine Below.alloc ?_ (by simp) _))

set_option maxHeartbeats 1000000 in
theorem rr_none (k : Int) (h1 : k ≠ 1) (h2 : k ≠ 2) (h3 : k ≠ 3) (h4 : k ≠ 4) (h5 : k ≠ 5) (h6 : k ≠ 6) (h7 : k ≠ 7) (t : ByteArray) (b i : Int) (e : Bool) (w : World) : Calls Tryd.prog 47 #[.agg #[.int .u8 k, .string t, .int .i64 b, .int .i64 i, .bool e]] w fun x w' => x = .returned (.bool false) ∧ Below w.heap.size w w' := by
  go_enter Tryd.func47, Tryd.ntmps47
  go_wp2_with fail
  all_goals go_ret
  all_goals (refine ⟨by simp_all, ?_⟩; repeat (first | exact Below.refl _ _ | refine Below.setCell ?_ (by simp) _ | refine Below.alloc ?_ (by simp) _))

theorem rright_any (d : Dc) (ht : d.t.size ≤ 9223372036854775807) (w : World) : Calls Tryd.prog 47 #[d.v] w fun x w' => x = .returned (.bool (rt d)) ∧ Below w.heap.size w w' := by
  obtain ⟨k, t, b, i, e⟩ := d
  by_cases k1 : k = 1
  · subst k1
    have e1 : rt ⟨1, t, b, i, e⟩ = (rtT t && (b == 0 && (i == 0 && !e))) := by
      unfold rt
      rw [if_pos rfl]
      congr 1
      rw [Bool.eq_iff_iff]
      simp [Dc.mk.injEq]
    rw [e1]
    exact rr_text t b i e ht w
  by_cases k3 : k = 3
  · subst k3
    have e1 : rt ⟨3, t, b, i, e⟩ = (rtN b && (t.toList == [] && (i == 0 && !e))) := by
      unfold rt
      rw [if_neg (by show ¬ (3 : Int) = 1; decide), if_pos rfl, tl_E]
      congr 1
      rw [Bool.eq_iff_iff]
      simp [Dc.mk.injEq]
    rw [e1]
    exact rr_brk t b i e w
  by_cases k6 : k = 6
  · subst k6
    have e1 : rt ⟨6, t, b, i, e⟩ = (rtN i && (t.toList == [] && b == 0)) := by
      unfold rt
      rw [if_neg (by show ¬ (6 : Int) = 1; decide), if_neg (by show ¬ (6 : Int) = 3; decide), if_pos rfl, tl_E]
      congr 1
      rw [Bool.eq_iff_iff]
      simp [Dc.mk.injEq]
    rw [e1]
    exact rr_beg t b i e w
  by_cases kz : k = 2 ∨ k = 4 ∨ k = 5 ∨ k = 7
  · have e1 : rt ⟨k, t, b, i, e⟩ = (t.toList == [] && (b == 0 && (i == 0 && !e))) := by
      unfold rt
      rw [if_neg k1, if_neg k3, if_neg k6, if_pos kz, tl_E]
      rw [Bool.eq_iff_iff]
      simp [Dc.mk.injEq]
    rw [e1]
    exact rr_zero k kz t b i e w
  · have e1 : rt ⟨k, t, b, i, e⟩ = false := by
      unfold rt
      rw [if_neg k1, if_neg k3, if_neg k6, if_neg kz]
    rw [e1]
    simp only [not_or] at kz
    exact rr_none k k1 kz.1 k3 kz.2.1 kz.2.2.1 k6 kz.2.2.2 t b i e w
end Go.Proofs.YtcokccfbeonlnaaDoor
