import Derived.Test.YtlpmnkiieibipaaDoorDo
set_option linter.unusedVariables false
set_option linter.unusedSimpArgs false
namespace Go.Proofs.YtlpmnkiieibipaaDoor
open Go.RowKit

/-! The document's digit and number. -/
theorem digit_any (c : UInt8) (w : World) : Calls Tryd.prog 47 #[.int .u8 (c.toNat : Int)] w fun e w' => e = .returned (.int .i64 (dgt c : Nat)) ∧ w' = w := by
  have hc := c.toNat_lt
  obtain ⟨z, hz⟩ : ∃ z : Nat, c.toNat = z := ⟨_, rfl⟩
  have HF : Hid (dgt c = if 48 ≤ z ∧ z ≤ 57 then z - 48 else if 97 ≤ z ∧ z ≤ 102 then z - 97 + 10 else 16) := by show _ = _; unfold dgt; rw [hz]
  rw [hz] at hc ⊢
  clear hz
  generalize dgt c = r at *
  by_cases h1 : 48 ≤ z
  · have q1 : (48 : Int) ≤ z := by omega
    by_cases h2 : z ≤ 57
    · have q2 : (z : Int) ≤ 57 := by omega
      have HR : Hid ((r : Int) = (z : Int) - 48) := by show _ = _; rw [HF.out, if_pos ⟨h1, h2⟩]; omega
      clear HF
      go_enter Tryd.func47, Tryd.ntmps47
      go_wp2_with fail
      go_ret
      exact ⟨by rw [HR.out]; rfl, rfl⟩
    · have q2 : ¬ (z : Int) ≤ 57 := by omega
      by_cases h3 : 97 ≤ z
      · have q3 : (97 : Int) ≤ z := by omega
        by_cases h4 : z ≤ 102
        · have q4 : (z : Int) ≤ 102 := by omega
          have HR : Hid ((r : Int) = (z : Int) - 97 + 10) := by show _ = _; rw [HF.out, if_neg (by omega), if_pos ⟨h3, h4⟩]; omega
          clear HF
          go_enter Tryd.func47, Tryd.ntmps47
          go_wp2_with fail
          go_ret
          exact ⟨by rw [HR.out]; rfl, rfl⟩
        · have q4 : ¬ (z : Int) ≤ 102 := by omega
          have HR : Hid (r = 16) := by show _ = _; rw [HF.out, if_neg (by omega), if_neg (by omega)]
          clear HF
          go_enter Tryd.func47, Tryd.ntmps47
          go_wp2_with fail
          go_ret
          exact ⟨by rw [HR.out]; rfl, rfl⟩
      · have q3 : ¬ (97 : Int) ≤ z := by omega
        have HR : Hid (r = 16) := by show _ = _; rw [HF.out, if_neg (by omega), if_neg (by omega)]
        clear HF
        go_enter Tryd.func47, Tryd.ntmps47
        go_wp2_with fail
        go_ret
        exact ⟨by rw [HR.out]; rfl, rfl⟩
  · have q1 : ¬ (48 : Int) ≤ z := by omega
    have q3 : ¬ (97 : Int) ≤ z := by omega
    have HR : Hid (r = 16) := by show _ = _; rw [HF.out, if_neg (by omega), if_neg (by omega)]
    clear HF
    go_enter Tryd.func47, Tryd.ntmps47
    go_wp2_with fail
    go_ret
    exact ⟨by rw [HR.out]; rfl, rfl⟩

theorem nm4_step (f n : Nat) (L : List UInt8) (k : Nat) (h : k < L.length) : nm4 (f + 1) n (L.drop k) = if 48 ≤ (L.getD k 0).toNat ∧ (L.getD k 0).toNat ≤ 57 then nm4 f (10 * n + ((L.getD k 0).toNat - 48)) (L.drop (k + 1)) else nm4 f n (L.drop (k + 1)) := by
  have e : L.getD k 0 = L[k] := by simp [List.getD, h]
  rw [e, List.drop_eq_getElem_cons h]
  rfl
theorem nm4_out (f n : Nat) (L : List UInt8) (k : Nat) (h : L.length ≤ k) : nm4 f n (L.drop k) = n := by
  rw [List.drop_eq_nil_of_le h]
  cases f <;> rfl

set_option maxHeartbeats 1000000 in
theorem number_any (s : ByteArray) (hs : s.size ≤ 1000000000) (h6 : 6 < s.size) (w : World) : Calls Tryd.prog 38 #[.string s, .int .i64 6] w fun e w' => e = .returned (.int .i64 (nm4 4 0 ((ls s).drop 6) : Nat)) ∧ w' = w := by
  obtain ⟨R, hR⟩ : ∃ R, nm4 4 0 ((ls s).drop 6) = R := ⟨_, rfl⟩
  have HR : Hid (nm4 4 0 ((ls s).drop 6) = R) := hR
  rw [hR]
  clear hR
  go_enter Tryd.func38, Tryd.ntmps38
  go_wp2_with fail
  go_loopw [5, 6] (fun x i wr => ∃ n f : Nat, f ≤ 4 ∧ (10 - f) ≤ s.size ∧ n ≤ 9999 ∧ x = .int .i64 n ∧ i = .int .i64 ((10 - f : Nat) : Int) ∧ Hid ((n + 1) * 10 ^ f ≤ 10000 ∧ nm4 f n ((ls s).drop (10 - f)) = R ∧ wr = w)) (fun _ i _ => 10 - (intOf i).toNat)
  case atStart => exact ⟨0, 4, by omega, by omega, by omega, rfl, rfl, by decide, HR.out, rfl⟩
  case round =>
    obtain ⟨n, f, hf, hk, hn, rfl, rfl, HI⟩ := hrel
    obtain ⟨i1, i2, rfl⟩ := HI.out
    obtain ⟨k, hkk⟩ : ∃ k, 10 - f = k := ⟨_, rfl⟩
    rw [hkk] at hk i2 ⊢
    have q0 : (0 : Int) ≤ k := by omega
    by_cases hlt : k < s.size
    · have q1 : (k : Int) < s.size := by omega
      by_cases h10 : k < 10
      · have q2 : (k : Int) < 10 := by omega
        obtain ⟨f', rfl⟩ : ∃ f', f = f' + 1 := ⟨f - 1, by omega⟩
        obtain ⟨c, hc⟩ : ∃ c, s[k] = c := ⟨_, rfl⟩
        have hcl := c.toNat_lt
        rw [nm4_step f' n (ls s) k (by rw [ls_len]; exact hlt), at_ls s k hlt, hc] at i2
        have e1 : 10 - f' = k + 1 := by omega
        by_cases h1 : 48 ≤ c.toNat
        · have p1 : (48 : Int) ≤ c.toNat := by omega
          by_cases h2 : c.toNat ≤ 57
          · have p2 : (c.toNat : Int) ≤ 57 := by omega
            rw [if_pos ⟨h1, h2⟩] at i2
            have hb : (10 * n + (c.toNat - 48) + 1) * 10 ^ f' ≤ 10000 := by
              have : (10 * n + (c.toNat - 48) + 1) * 10 ^ f' ≤ (10 * (n + 1)) * 10 ^ f' := Nat.mul_le_mul_right _ (by omega)
              have e : (10 * (n + 1)) * 10 ^ f' = (n + 1) * 10 ^ (f' + 1) := by rw [Nat.pow_succ]; ac_rfl
              omega
            have hb2 : 10 * n + (c.toNat - 48) ≤ 9999 := by
              have : 10 * n + (c.toNat - 48) + 1 ≤ (10 * n + (c.toNat - 48) + 1) * 10 ^ f' := Nat.le_mul_of_pos_right _ (Nat.pow_pos (by omega))
              omega
            have HZ : Hid ((10 * n + (c.toNat - 48) + 1) * 10 ^ f' ≤ 10000 ∧ nm4 f' (10 * n + (c.toNat - 48)) ((ls s).drop (10 - f')) = R) := ⟨hb, by rw [e1]; exact i2⟩
            clear HI i1 i2 hb
            have hr : ((10 * n + (c.toNat - 48) : Nat) : Int) = 10 * (n : Int) + ((c.toNat : Int) - 48) := by omega
            go_wp2_with fail
            exact ⟨⟨10 * n + (c.toNat - 48), f', by omega, by omega, hb2, by rw [hr], by rw [e1]; go_num, HZ.out.1, HZ.out.2, trivial⟩, by simp [intOf]; omega⟩
          · have p2 : ¬ (c.toNat : Int) ≤ 57 := by omega
            rw [if_neg (by omega)] at i2
            have hb : (n + 1) * 10 ^ f' ≤ 10000 := Nat.le_trans (Nat.mul_le_mul_left _ (Nat.pow_le_pow_right (by omega) (by omega))) i1
            have HZ : Hid ((n + 1) * 10 ^ f' ≤ 10000 ∧ nm4 f' n ((ls s).drop (10 - f')) = R) := ⟨hb, by rw [e1]; exact i2⟩
            clear HI i1 i2 hb
            go_wp2_with fail
            exact ⟨⟨n, f', by omega, by omega, hn, rfl, by rw [e1]; go_num, HZ.out.1, HZ.out.2, trivial⟩, by simp [intOf]; omega⟩
        · have p1 : ¬ (48 : Int) ≤ c.toNat := by omega
          rw [if_neg (by omega)] at i2
          have hb : (n + 1) * 10 ^ f' ≤ 10000 := Nat.le_trans (Nat.mul_le_mul_left _ (Nat.pow_le_pow_right (by omega) (by omega))) i1
          have HZ : Hid ((n + 1) * 10 ^ f' ≤ 10000 ∧ nm4 f' n ((ls s).drop (10 - f')) = R) := ⟨hb, by rw [e1]; exact i2⟩
          clear HI i1 i2 hb
          go_wp2_with fail
          exact ⟨⟨n, f', by omega, by omega, hn, rfl, by rw [e1]; go_num, HZ.out.1, HZ.out.2, trivial⟩, by simp [intOf]; omega⟩
      · have q2 : ¬ (k : Int) < 10 := by omega
        obtain rfl : f = 0 := by omega
        have HE : Hid (n = R) := i2
        clear HI i1 i2
        go_wp2_with fail
        go_ret
        exact ⟨by rw [HE.out]; rfl, rfl⟩
    · have q1 : ¬ (k : Int) < s.size := by omega
      rw [nm4_out f n (ls s) k (by rw [ls_len]; omega)] at i2
      have HE : Hid (n = R) := i2
      clear HI i1 i2
      go_wp2_with fail
      go_ret
      exact ⟨by rw [HE.out]; rfl, rfl⟩
end Go.Proofs.YtlpmnkiieibipaaDoor
