import Derived.Test.YtgjbkdnefbnclaaRd
set_option linter.unusedVariables false
set_option linter.unusedSimpArgs false
namespace Go.Proofs.Ytgjbkdnefbnclaa
open Go.RowKit

set_option maxRecDepth 100000 in
set_option maxHeartbeats 1000000 in
theorem rwhole_any (s : ByteArray) (w : World) (hs : s.size ≤ 2147483647) :
    Calls Try.prog 30 #[.string s] w fun e w' => e = .returned (.int .i64 (wh s)) ∧ w' = w := by
  have H0 : Hid (rwF s 3 = wh s) := rw_wh s
  go_enter Try.func30, Try.ntmps30
  go_wp2_with fail
  go_loopw [3] (fun i wr => ∃ k : Nat, k ≤ 3 ∧ i = .int .i64 k ∧ rwF s k = wh s ∧ wr = w) (fun i _ => (intOf i).toNat)
  case atStart => exact ⟨3, by omega, rfl, H0.out, rfl⟩
  case round =>
    clear H0
    obtain ⟨k, hk, rfl, hr, rfl⟩ := hrel
    cases k with
    | zero =>
      have HR : Hid (s.size = wh s) := hr
      clear hr
      go_wp2_with fail
      go_ret
      exact ⟨ret_int (by rw [HR.out]), rfl⟩
    | succ j =>
      have HR : Hid ((if ro s (j + 1) = true then s.size - (j + 1) else rwF s j) = wh s) := hr
      clear hr
      by_cases hsz : j + 1 ≤ s.size
      · obtain ⟨a, ha⟩ : ∃ a, s.size = a + (j + 1) := ⟨s.size - (j + 1), by omega⟩
        have ea : s.size - (j + 1) = a := by omega
        have hlt : a < s.size := by omega
        have ei : (s.size : Int) - ((j : Int) + 1) = (a : Int) := by omega
        have hb0 := by8_get s a hlt
        have hl0 := by8_lt s a
        have hbd := lng_bd (by8 s a)
        have HL : Hid _ := long_any (by8 s a)
        have hro : ro s (j + 1) = (decide (((j + 1 : Nat) : Int) < lng (by8 s a)) && fit s a (lng (by8 s a)).toNat) := by
          unfold ro
          rw [ea, decide_eq_true hsz, Bool.true_and]
        have HR2 : Hid _ := HR.out
        rw [hro, ea] at HR2
        obtain ⟨n, hn⟩ : ∃ n : Nat, lng (by8 s a) = n := ⟨(lng (by8 s a)).toNat, by omega⟩
        rw [hn] at HR2 HL hbd
        rw [Int.toNat_natCast] at HR2
        have HF : Hid _ := fits_any s a n
        have HA : Hid (s.size = a + (j + 1)) := ha
        clear HR hro hn ha ea
        generalize by8 s a = b0 at *
        go_wp2_with fail
        refine (HL.out _).mono ?_
        rintro e w1 ⟨rfl, rfl⟩
        clear HL
        by_cases hkn : j + 1 < n
        · have hd1 : decide (((j + 1 : Nat) : Int) < (n : Int)) = true := decide_eq_true (by omega)
          have hr3 := HR2.out
          rw [hd1, Bool.true_and] at hr3
          have HR3 : Hid _ := hr3
          clear hr3 HR2 hd1
          go_wp2_with fail
          refine (HF.out _ hs hlt (by omega)).mono ?_
          rintro e w2 ⟨rfl, rfl⟩
          clear HF
          generalize fit s a n = g at *
          cases g with
          | true =>
            have HE : Hid (a = wh s) := by
              show _ = _
              rw [← HR3.out, if_pos rfl]
            clear HR3
            go_wp2_with fail
            go_ret
            exact ⟨ret_int (by rw [HE.out]), rfl⟩
          | false =>
            have HE : Hid (rwF s j = wh s) := by
              show _ = _
              rw [← HR3.out, if_neg (by simp)]
            clear HR3
            go_wp2_with fail
            exact ⟨⟨j, by omega, by go_num, HE.out, trivial⟩, by simp [intOf]⟩
        · have hd1 : decide (((j + 1 : Nat) : Int) < (n : Int)) = false := decide_eq_false (by omega)
          have hr3 := HR2.out
          rw [hd1, Bool.false_and, if_neg (by simp)] at hr3
          have HR3 : Hid _ := hr3
          clear hr3 HR2 hd1 HF
          go_wp2_with fail
          exact ⟨⟨j, by omega, by go_num, HR3.out, trivial⟩, by simp [intOf]⟩
      · have hro : ro s (j + 1) = false := by
          unfold ro
          rw [decide_eq_false hsz, Bool.false_and]
        have hr3 := HR.out
        rw [hro, if_neg (by simp)] at hr3
        have HR3 : Hid _ := hr3
        clear hr3 HR hro
        go_wp2_with fail
        exact ⟨⟨j, by omega, by go_num, HR3.out, trivial⟩, by simp [intOf]⟩
end Go.Proofs.Ytgjbkdnefbnclaa
