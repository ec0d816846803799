import Derived.Test.YtaldkkeghackfaaDoorCa
set_option linter.unusedVariables false
set_option linter.unusedSimpArgs false
namespace Go.Proofs.YtaldkkeghackfaaDoor
open Go.RowKit

theorem lblank_any (c : Nat) (w : World) (hc : c < 256) :
    Calls Tryd.prog 29 #[.int .u8 c] w fun e w' => e = .returned (.bool (tkBl c)) ∧ w' = w := by
  have h1 : ((c : Int) == 32) = (c == 32) := by rw [Bool.eq_iff_iff]; simp; omega
  have h2 : ((c : Int) == 9) = (c == 9) := by rw [Bool.eq_iff_iff]; simp; omega
  have h3 : ((c : Int) == 13) = (c == 13) := by rw [Bool.eq_iff_iff]; simp; omega
  have HB : Hid (tkBl c = (((c == 32) || (c == 9)) || (c == 13))) := rfl
  go_enter Tryd.func29, Tryd.ntmps29
  generalize (c == 32) = x at *
  generalize (c == 9) = y at *
  generalize (c == 13) = z at *
  cases x <;> cases y <;> cases z <;>
  · go_wp2_with fail
    go_ret
    exact ⟨kret_b HB.out.symm, rfl⟩

theorem by8_at (s : ByteArray) (a : Nat) (h : a < s.size) : (s[a]'h).toNat = by8 s a := by
  unfold by8
  show _ = (s.data[a]!).toNat
  rw [getElem!_pos s.data a h]
  rfl

set_option maxHeartbeats 1000000 in
/-- What stands between two places, as the law counts it. -/
theorem between_any (s : ByteArray) (a b : Nat) (w : World) (hs : s.size ≤ 2147483647) (h1 : a ≤ b) (h2 : b ≤ s.size) :
    Calls Tryd.prog 15 #[.string s, .int .i64 a, .int .i64 b] w fun e w' => (∃ r : Int, e = .returned (.int .i64 r) ∧ ∀ n : Nat, gap s a b n → r = n) ∧ Below w.heap.size w w' := by
  have q1 : ¬ (b : Int) < a := by omega
  have q2 : ¬ (s.size : Int) < b := by omega
  have HL : Hid (∀ c V, c < 256 → Calls Tryd.prog 29 #[.int .u8 (c : Nat)] V fun e w' => e = .returned (.bool (tkBl c)) ∧ w' = V) := fun c V hc => lblank_any c V hc
  go_enter Tryd.func15, Tryd.ntmps15
  go_wp2_with fail
  go_loopw [7, 8] (fun n i wr => ∃ k m : Nat, a ≤ k ∧ k ≤ b ∧ m ≤ k ∧ n = .int .i64 m ∧ i = .int .i64 k ∧ wr = w ∧ Hid (cn s k = cn s a + m)) (fun _ i _ => b - (intOf i).toNat)
  case atStart => exact ⟨a, 0, Nat.le_refl _, h1, Nat.zero_le _, rfl, rfl, rfl, rfl⟩
  case round =>
    obtain ⟨k, m, k1, k2, k3, rfl, rfl, hw, HC⟩ := hrel
    subst hw
    by_cases hlt : k < b
    · have q3 : (k : Int) < b := by omega
      have q4 : (0 : Int) ≤ k := by omega
      have q5 : (k : Int) < s.size := by omega
      have hks : k < s.size := by omega
      have HG : Hid ((s[k]'hks).toNat = by8 s k) := by8_at s k hks
      have h8 := by8_lt s k
      have hcs := cn_step s k
      by_cases h10 : by8 s k = 10
      · have e10 : ((s[k]'hks).toNat : Int) = 10 := by rw [HG.out, h10]; rfl
        have HC2 : Hid (cn s (k + 1) = cn s a + (m + 1)) := by
          have h9 := HC.out
          rcases hcs with ⟨_, e⟩ | ⟨e, _⟩
          · show _ = _; omega
          · exact absurd h10 e
        clear HC hcs h10 h8
        go_wp2_with fail
        exact ⟨⟨k + 1, m + 1, by omega, hlt, by omega, by go_num, by go_num, trivial, HC2⟩, by simp [intOf]; omega⟩
      · have e10 : (((s[k]'hks).toNat : Int) == 10) = false := by rw [beq_eq_false_iff_ne, HG.out]; omega
        have HC2 : Hid (cn s (k + 1) = cn s a + m) := by
          have h9 := HC.out
          rcases hcs with ⟨e, _⟩ | ⟨_, e⟩
          · exact absurd e h10
          · show _ = _; omega
        by_cases hbl : tkBl (by8 s k) = true
        · have HLk : Hid (∀ V, Calls Tryd.prog 29 #[.int .u8 ((s[k]'hks).toNat : Nat)] V fun e w' => e = .returned (.bool true) ∧ w' = V) := fun V => by
            have h9 := HL.out (s[k]'hks).toNat V (by rw [HG.out]; exact h8)
            rw [HG.out, hbl] at h9
            rw [HG.out]
            exact h9
          clear HC hcs h10 h8 hbl
          go_wp2_with (first | (go_at_call 29; refine (HLk.out _).mono ?_; rintro e w1 ⟨rfl, hw⟩; replace hw := hw.symm; subst hw))
          exact ⟨⟨k + 1, m, by omega, hlt, by omega, by go_num, by go_num, trivial, HC2⟩, by simp [intOf]; omega⟩
        · have HN : Hid (∀ n, ¬ gap s a b n) := fun n hg => by
            rcases hg.2.2.1 k k1 hlt with h | h
            · exact h10 h
            · exact hbl h
          have HLk : Hid (∀ V, Calls Tryd.prog 29 #[.int .u8 ((s[k]'hks).toNat : Nat)] V fun e w' => e = .returned (.bool false) ∧ w' = V) := fun V => by
            have h9 := HL.out (s[k]'hks).toNat V (by rw [HG.out]; exact h8)
            rw [HG.out, show tkBl (by8 s k) = false by simpa using hbl] at h9
            rw [HG.out]
            exact h9
          clear HC hcs h10 h8 hbl
          go_wp2_with (first | (go_at_call 29; refine (HLk.out _).mono ?_; rintro e w1 ⟨rfl, hw⟩; replace hw := hw.symm; subst hw))
          go_ret
          exact ⟨⟨-1, rfl, fun n hn => absurd hn (HN.out n)⟩, Below.refl _ _⟩
    · obtain rfl : k = b := by omega
      have q3 : ¬ (k : Int) < k := by omega
      go_wp2_with fail
      go_ret
      refine ⟨⟨m, rfl, fun n hn => ?_⟩, Below.refl _ _⟩
      have h9 := HC.out
      have h8 := hn.2.2.2
      omega

end Go.Proofs.YtaldkkeghackfaaDoor
