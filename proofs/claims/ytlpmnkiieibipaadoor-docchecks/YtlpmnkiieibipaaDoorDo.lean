import Derived.Test.YtlpmnkiieibipaaDoorDj
set_option linter.unusedVariables false
set_option linter.unusedSimpArgs false
namespace Go.Proofs.YtlpmnkiieibipaaDoor
open Go.RowKit

/-! The byte that is told first. -/
theorem at_ls (s : ByteArray) (k : Nat) (h : k < s.size) : (ls s).getD k 0 = s[k] := (Lib.getD_at s k h).symm
theorem u8_ne (c d : UInt8) (h : c ≠ d) : ((c.toNat : Int) == (d.toNat : Int)) = false := by
  rw [beq_eq_false_iff_ne]
  intro e
  exact h (UInt8.toNat_inj.1 (by omega))
theorem hxI_at (c : UInt8) : Lib.indexByte ([48, 49, 50, 51, 52, 53, 54, 55, 56, 57, 97, 98, 99, 100, 101, 102] : List UInt8) ((c.toNat : Int).toNat.toUInt8) = if dgt c < 16 then (dgt c : Int) else -1 := by
  rw [← hxI_dgt]
  have : ((c.toNat : Int).toNat.toUInt8) = c := by simp
  rw [this]; rfl
theorem dgt_le (c : UInt8) : dgt c ≤ 16 := by
  unfold dgt
  split
  · omega
  · split <;> omega
theorem or16 (a b : Nat) (ha : a < 16) (hb : b < 16) : bits BinOp.or IntKind.i64 ((a : Int) * 16) (b : Int) = ((16 * a + b : Nat) : Int) := by
  have : ∀ x y : Fin 16, bits BinOp.or IntKind.i64 ((x.val : Int) * 16) (y.val : Int) = ((16 * x.val + y.val : Nat) : Int) := by decide +kernel
  exact this ⟨a, ha⟩ ⟨b, hb⟩

set_option maxHeartbeats 1000000 in
theorem fb_any (s : ByteArray) (hs : 0 < s.size) (hs2 : s.size ≤ 9223372036854775806) (w : World) : Calls Tryd.prog 43 #[.string s] w fun e w' => e = .returned (.tuple #[.int .u8 ((fb (ls s)).1.toNat : Int), .int .u8 ((fb (ls s)).2 : Int)]) ∧ Below w.heap.size w w' := by
  have hz : (ls s).length = s.size := ls_len s
  have a0 := at_ls s 0 hs
  have hh : (ls s).headD 0 = s[0] := by rw [← a0]; cases h : ls s <;> rfl
  obtain ⟨c0, hc0⟩ : ∃ c, s[0] = c := ⟨_, rfl⟩
  by_cases h1 : c0 = 92
  · subst h1
    by_cases h2 : [92, 92].isPrefixOf (ls s) = true
    · have HF : Hid (fb (ls s) = (92, 2)) := by show _ = _; unfold fb; rw [if_neg (by rw [hh, hc0]; simp), if_pos h2]
      have HP : Hid (Lib.hasPrefix s.data.toList [92, 92] = true) := h2
      clear h2 hh a0 hz
      go_enter Tryd.func43, Tryd.ntmps43
      go_wp2_with (go_at_call 53; refine (Tryd.strings_HasPrefix _ _ _).mono ?_; rintro e w1 ⟨rfl, hq⟩; have hq' := hq.symm; subst hq'; (try rw [HP.out]))
      go_ret2
      rw [HF.out]
      exact ⟨rfl, Below.refl _ _⟩
    · have HP : Hid (Lib.hasPrefix s.data.toList [92, 92] = false) := by show _ = _; exact Bool.eq_false_iff.2 h2
      have hf1 : fb (ls s) = if (ls s).length < 4 ∨ (ls s).getD 1 0 ≠ 120 then (0, 0) else if dgt ((ls s).getD 2 0) < 16 ∧ dgt ((ls s).getD 3 0) < 16 then (UInt8.ofNat (16 * dgt ((ls s).getD 2 0) + dgt ((ls s).getD 3 0)), 4) else (0, 0) := by
        unfold fb; rw [if_neg (by rw [hh, hc0]; simp), if_neg h2]
      by_cases h4 : s.size < 4
      · have HF : Hid (fb (ls s) = (0, 0)) := by show _ = _; rw [hf1, if_pos (.inl (by omega))]
        have q4 : (s.size : Int) < 4 := by omega
        clear hf1 h2 hh a0 hz
        go_enter Tryd.func43, Tryd.ntmps43
        go_wp2_with (go_at_call 53; refine (Tryd.strings_HasPrefix _ _ _).mono ?_; rintro e w1 ⟨rfl, hq⟩; have hq' := hq.symm; subst hq'; (try rw [HP.out]))
        go_ret2
        rw [HF.out]
        exact ⟨rfl, Below.refl _ _⟩
      · have q4 : ¬ (s.size : Int) < 4 := by omega
        have hs4 : 3 < s.size := by omega
        have i1 : 1 < s.size := by omega
        have i2 : 2 < s.size := by omega
        have a1 := at_ls s 1 i1
        have a2 := at_ls s 2 i2
        have a3 := at_ls s 3 hs4
        obtain ⟨c1, hc1⟩ : ∃ c, s[1]'i1 = c := ⟨_, rfl⟩
        obtain ⟨c2, hc2⟩ : ∃ c, s[2]'i2 = c := ⟨_, rfl⟩
        obtain ⟨c3, hc3⟩ : ∃ c, s[3]'hs4 = c := ⟨_, rfl⟩
        rw [a1, hc1, a2, hc2, a3, hc3] at hf1
        by_cases h5 : c1 = 120
        · rw [if_neg (by rintro (h | h); exact absurd h (by omega); exact h h5)] at hf1
          subst h5
          have x2 := hxI_at c2
          have x3 := hxI_at c3
          have HI : Hid (∀ (c : UInt8) (W : World), Calls Tryd.prog 54 #[.string ⟨#[48, 49, 50, 51, 52, 53, 54, 55, 56, 57, 97, 98, 99, 100, 101, 102]⟩, .int .u8 (c.toNat : Int)] W fun e w' => e = .returned (.int .i64 (if dgt c < 16 then (dgt c : Int) else -1)) ∧ w' = W) := fun c W => by
            have := Tryd.strings_IndexByte ⟨#[48, 49, 50, 51, 52, 53, 54, 55, 56, 57, 97, 98, 99, 100, 101, 102]⟩ (c.toNat : Int) W
            rw [← hxI_at c]
            exact this
          clear x2 x3
          by_cases d2 : dgt c2 < 16
          · by_cases d3 : dgt c3 < 16
            · rw [if_pos ⟨d2, d3⟩] at hf1
              have HF : Hid (fb (ls s) = (UInt8.ofNat (16 * dgt c2 + dgt c3), 4)) := hf1
              have ho := or16 _ _ d2 d3
              have m1 : ((16 * dgt c2 + dgt c3 : Nat) : Int) % 256 = ((16 * dgt c2 + dgt c3 : Nat) : Int) := by omega
              have n2 : ¬ (dgt c2 : Int) < 0 := by omega
              have n3 : ¬ (dgt c3 : Int) < 0 := by omega
              clear hf1 h2 hh a0 hz a1 a2 a3
              go_enter Tryd.func43, Tryd.ntmps43
              go_wp2_with (go_at_call 53; refine (Tryd.strings_HasPrefix _ _ _).mono ?_; rintro e w1 ⟨rfl, hq⟩; have hq' := hq.symm; subst hq'; (try rw [HP.out]))
              go_quiet ((go_at_call 54; exact Calls.quiet_of_same (HI.out _ _)))
              go_wp2_with fail
              go_ret2
              rw [HF.out]
              refine ⟨?_, ?_⟩
              · have e : ((UInt8.ofNat (16 * dgt c2 + dgt c3)).toNat : Int) = 16 * (dgt c2 : Int) + (dgt c3 : Int) := by rw [UInt8.toNat_ofNat']; omega
                show _ = Ending.returned (.tuple #[.int .u8 ((UInt8.ofNat (16 * dgt c2 + dgt c3)).toNat : Int), .int .u8 4])
                rw [e]; rfl
              · exact below_drewN (Below.refl _ _) _
            · rw [if_neg (by omega)] at hf1
              have HF : Hid (fb (ls s) = (0, 0)) := hf1
              have n2 : ¬ (dgt c2 : Int) < 0 := by omega
              clear hf1 h2 hh a0 hz a1 a2 a3
              go_enter Tryd.func43, Tryd.ntmps43
              go_wp2_with (go_at_call 53; refine (Tryd.strings_HasPrefix _ _ _).mono ?_; rintro e w1 ⟨rfl, hq⟩; have hq' := hq.symm; subst hq'; (try rw [HP.out]))
              go_quiet ((go_at_call 54; exact Calls.quiet_of_same (HI.out _ _)))
              go_wp2_with fail
              go_ret2
              rw [HF.out]
              exact ⟨rfl, below_drewN (Below.refl _ _) _⟩
          · rw [if_neg (by omega)] at hf1
            have HF : Hid (fb (ls s) = (0, 0)) := hf1
            clear hf1 h2 hh a0 hz a1 a2 a3
            go_enter Tryd.func43, Tryd.ntmps43
            go_wp2_with (go_at_call 53; refine (Tryd.strings_HasPrefix _ _ _).mono ?_; rintro e w1 ⟨rfl, hq⟩; have hq' := hq.symm; subst hq'; (try rw [HP.out]))
            go_quiet ((go_at_call 54; exact Calls.quiet_of_same (HI.out _ _)))
            go_wp2_with fail
            all_goals (go_ret2; rw [HF.out]; exact ⟨rfl, below_drewN (Below.refl _ _) _⟩)
        · have HF : Hid (fb (ls s) = (0, 0)) := by show _ = _; rw [hf1, if_pos (.inr h5)]
          have hn : ((c1.toNat : Int) != 120) = true := by
            have := u8_ne c1 120 h5
            have e : ((120 : UInt8).toNat : Int) = 120 := rfl
            rw [e] at this
            simp [bne, this]
          clear hf1 h2 hh a0 hz a1 a2 a3
          go_enter Tryd.func43, Tryd.ntmps43
          go_wp2_with (go_at_call 53; refine (Tryd.strings_HasPrefix _ _ _).mono ?_; rintro e w1 ⟨rfl, hq⟩; have hq' := hq.symm; subst hq'; (try rw [HP.out]))
          go_ret2
          rw [HF.out]
          exact ⟨rfl, Below.refl _ _⟩
  · have HF : Hid (fb (ls s) = (c0, 1)) := by show _ = _; unfold fb; rw [if_pos (by rw [hh, hc0]; exact h1), hh, hc0]
    have hn : ((c0.toNat : Int) != 92) = true := by
      have := u8_ne c0 92 h1
      have e : ((92 : UInt8).toNat : Int) = 92 := rfl
      rw [e] at this
      simp [bne, this]
    clear hh a0 hz
    go_enter Tryd.func43, Tryd.ntmps43
    go_wp2_with fail
    go_ret2
    rw [HF.out]
    exact ⟨rfl, Below.refl _ _⟩
end Go.Proofs.YtlpmnkiieibipaaDoor
