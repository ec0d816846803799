import Derived.Test.YtlpmnkiieibipaaDoorEa
set_option linter.unusedVariables false
set_option linter.unusedSimpArgs false
namespace Go.Proofs.YtlpmnkiieibipaaDoor
open Go.RowKit

theorem cnt_succ (s : ByteArray) (k : Nat) (h : k < s.size) (c : UInt8) (hc : s[k] = c) : ((ls s).take (k + 1)).count 10 = ((ls s).take k).count 10 + (if c = 10 then 1 else 0) := by
  have hk : k < (ls s).length := by rw [ls_len]; exact h
  have e : (ls s)[k] = c := hc
  rw [List.take_succ_eq_append_getElem hk, List.count_append, e, List.count_singleton]
  by_cases h10 : c = 10
  · subst h10; rfl
  · rw [if_neg h10, if_neg (by simpa using h10)]
theorem cnt_le (l : List UInt8) (k : Nat) : (l.take k).count 10 ≤ k := Nat.le_trans List.count_le_length (by rw [List.length_take]; omega)

set_option maxHeartbeats 2000000 in
set_option maxRecDepth 100000 in
theorem back_any (ao : Option Addr) (l : List Dc) (cap : Nat) (w : World) (hL : Lay w ao l) (hn : l.length ≤ 9223372036854775807) (hG : Gl w) : Calls Tryd.prog 6 #[.slice ao l.length cap] w fun e w' => e = .returned (.bool true) ∧ Below w.heap.size w w' := by
  have HG : Hid (GlB w.heap.size w) := hG.glB
  have HA : Hid (∀ W, Below w.heap.size w W → Calls Tryd.prog 8 #[] W fun e w' => e = .returned (.bool true) ∧ Below W.heap.size W w') := fun W hW => awake_any W (HG.out W hW)
  have HL : Hid (Lay w ao l) := hL
  obtain ⟨s, hs⟩ : ∃ s : ByteArray, s = ⟨(prn l).1.toArray⟩ := ⟨_, rfl⟩
  obtain ⟨k1, hk1⟩ : ∃ k, (prn l).2 = k := ⟨_, rfl⟩
  have HP : Hid (Calls Tryd.prog 12 #[.slice ao l.length cap] w fun e w' => e = .returned (.tuple #[.string s, .int .i64 k1]) ∧ Below w.heap.size w w') := by
    have h := print_any ao l cap w hL hn hG
    rw [← hs, hk1] at h
    exact h
  obtain ⟨c1, hc1⟩ : ∃ k, (chk l).1 = k := ⟨_, rfl⟩
  obtain ⟨c2, hc2⟩ : ∃ k, (chk l).2 = k := ⟨_, rfl⟩
  have HC : Hid (∀ W, Below w.heap.size w W → Calls Tryd.prog 10 #[.slice ao l.length cap] W fun e w' => e = .returned (.tuple #[.int .i64 c1, .int .i64 c2]) ∧ Below W.heap.size W w') := fun W hW => by
    have h := check_any ao l cap W (HL.out.below hW) hn
    rw [hc1, hc2] at h
    exact h
  clear hG hL
  by_cases h0 : k1 = 0
  · subst h0
    obtain ⟨a1, a2, a3, a4⟩ := prs_prn hk1
    have hrt := (chk_ok (l := l) (by rw [a2])).2.2.1
    have hlsS : ls s = lns l := by rw [hs, ls_mk, a1]
    have hsz : s.size ≤ 4194304 := by rw [← ls_len, hlsS]; exact a3
    have hszb : s.size ≤ 9223372036854775807 := by omega
    have e1 : c1 = 0 := by rw [← hc1, a2]
    have e2 : c2 = 0 := by rw [← hc2, a2]
    subst e1 e2
    have HPa : Hid (∀ W, Below w.heap.size w W → Calls Tryd.prog 15 #[.string s] W fun e w' => (∃ v, e = .returned (.tuple #[v, .int .i64 0, .int .i64 0]) ∧ Rp W.heap.size w' v l) ∧ Below W.heap.size W w') := fun W hW => by
      have h := parse_any s hszb W (HG.out W hW)
      unfold PV at h
      rw [hlsS, a4] at h
      exact h
    have HT : Hid (∀ d ∈ l, d.t.size ≤ 9223372036854775807) := fun d hd => rt_size (hrt d hd)
    have HCt : Hid ((ls s).count 10 = l.length) := by show _ = _; rw [hlsS]; exact cnt10 l hrt
    have HS : Hid (∀ W (p : Option Addr) (c : Nat), Below w.heap.size w W → Lay W p l → Calls Tryd.prog 17 #[.slice p l.length c, .slice ao l.length cap] W fun e w' => e = .returned (.bool true) ∧ Below W.heap.size W w') := fun W p c hW hp => by
      have h := same_any p ao l l c cap W hp (HL.out.below hW) hn hn
      rw [decide_eq_true rfl] at h
      exact h
    clear hs hk1 hc1 hc2 a1 a2 a3 a4 hrt hlsS
    go_enter Tryd.func6, Tryd.ntmps6
    go_wp2_with (first | (go_at_call 12; refine HP.out.mono ?_; rintro e w1 ⟨rfl, hb1⟩; have H1 : Hid (Below w.heap.size w w1) := hb1; clear hb1) | (go_at_call 10; refine (HC.out _ H1.out).mono ?_; rintro e w2 ⟨rfl, hb2⟩; have H2 : Hid (Below w.heap.size w w2) := H1.out.trans (hb2.mono H1.out.size); clear hb2) | (go_at_call 15; refine (HPa.out _ H2.out).mono ?_; rintro e w3 ⟨⟨v, rfl, hr3⟩, hb3⟩; obtain ⟨p, c, hv, _, hL3, _, _, _⟩ := Lay.row hr3 HT.out; subst hv; have H3 : Hid (Below w.heap.size w w3 ∧ Lay w3 p l) := ⟨H2.out.trans (hb3.mono H2.out.size), hL3⟩; clear hb3 hr3 hL3))
    go_loopw [10, 11] (fun m i wr => ∃ k : Nat, k ≤ s.size ∧ i = .int .i64 k ∧ m = .int .i64 (((ls s).take k).count 10 : Nat) ∧ wr = w3) (fun _ i _ => s.size - (intOf i).toNat)
    case atStart => exact ⟨0, by omega, rfl, by simp, rfl⟩
    case round =>
      obtain ⟨k, hk, rfl, rfl, rfl⟩ := hrel
      by_cases hlt : k < s.size
      · have q1 : (k : Int) < s.size := by omega
        have q0 : (0 : Int) ≤ k := by omega
        obtain ⟨ch, hch⟩ : ∃ ch, s[k] = ch := ⟨_, rfl⟩
        have hcn := cnt_succ s k hlt ch hch
        have hcl := cnt_le (ls s) k
        obtain ⟨m, hm⟩ : ∃ m, ((ls s).take k).count 10 = m := ⟨_, rfl⟩
        rw [hm] at hcn hcl ⊢
        have hml : (m : Int) + 1 ≤ 9223372036854775807 := by omega
        by_cases h10 : ch = 10
        · subst h10
          rw [if_pos rfl] at hcn
          have HN : Hid (((ls s).take (k + 1)).count 10 = m + 1) := hcn
          clear hcn hm
          go_wp2_with fail
          exact ⟨⟨k + 1, hlt, by go_num, by rw [HN.out]; go_num, trivial⟩, by simp [intOf]; omega⟩
        · rw [if_neg h10] at hcn
          have HN : Hid (((ls s).take (k + 1)).count 10 = m) := hcn
          have hne : ((ch.toNat : Int) == 10) = false := u8_ne ch 10 h10
          clear hcn hm
          go_wp2_with fail
          exact ⟨⟨k + 1, hlt, by go_num, by rw [HN.out], trivial⟩, by simp [intOf]; omega⟩
      · obtain rfl : k = s.size := by omega
        have q1 : ¬ ((s.size : Int) < s.size) := by omega
        have hc : ((ls s).take s.size).count 10 = l.length := by rw [← ls_len, List.take_length]; exact HCt.out
        rw [hc]
        clear hc
        go_wp2_with (first | (go_at_call 8; refine (HA.out _ H3.out.1).mono ?_; rintro e w4 ⟨rfl, hb4⟩; have H4 : Hid (Below w.heap.size w w4 ∧ Lay w4 p l) := ⟨H3.out.1.trans (hb4.mono H3.out.1.size), H3.out.2.below hb4⟩; clear hb4) | (go_at_call 17; refine (HS.out _ _ _ H4.out.1 H4.out.2).mono ?_; rintro e w5 ⟨rfl, hb5⟩; have H5 : Hid (Below w.heap.size w w5) := H4.out.1.trans (hb5.mono H4.out.1.size); clear hb5))
        go_ret
        exact ⟨rfl, H5.out⟩
  · have hs0 : s = ⟨#[]⟩ ∧ (c1 = k1 ∨ c1 = 0 ∧ k1 = 2) := by
      unfold prn at hs hk1
      rw [hc1] at hs hk1
      by_cases hc : c1 ≠ 0
      · rw [if_pos hc] at hs hk1
        exact ⟨hs, .inl hk1⟩
      · rw [if_neg hc] at hs hk1
        by_cases hb : 4194304 < (lns l).length
        · rw [if_pos hb] at hs hk1
          exact ⟨hs, .inr ⟨by simpa using hc, hk1.symm⟩⟩
        · rw [if_neg hb] at hk1
          exact absurd hk1.symm h0
    obtain ⟨rfl, hor⟩ := hs0
    clear hs hk1 hc1 hc2
    rcases hor with rfl | ⟨rfl, rfl⟩
    · go_enter Tryd.func6, Tryd.ntmps6
      go_wp2_with (first | (go_at_call 12; refine HP.out.mono ?_; rintro e w1 ⟨rfl, hb1⟩; have H1 : Hid (Below w.heap.size w w1) := hb1; clear hb1) | (go_at_call 10; refine (HC.out _ H1.out).mono ?_; rintro e w2 ⟨rfl, hb2⟩; have H2 : Hid (Below w.heap.size w w2) := H1.out.trans (hb2.mono H1.out.size); clear hb2) | (go_at_call 8; refine (HA.out _ H2.out).mono ?_; rintro e w4 ⟨rfl, hb4⟩; have H4 : Hid (Below w.heap.size w w4) := H2.out.trans (hb4.mono H2.out.size); clear hb4))
      go_ret
      exact ⟨rfl, H4.out⟩
    · go_enter Tryd.func6, Tryd.ntmps6
      go_wp2_with (first | (go_at_call 12; refine HP.out.mono ?_; rintro e w1 ⟨rfl, hb1⟩; have H1 : Hid (Below w.heap.size w w1) := hb1; clear hb1) | (go_at_call 10; refine (HC.out _ H1.out).mono ?_; rintro e w2 ⟨rfl, hb2⟩; have H2 : Hid (Below w.heap.size w w2) := H1.out.trans (hb2.mono H1.out.size); clear hb2) | (go_at_call 8; refine (HA.out _ H2.out).mono ?_; rintro e w4 ⟨rfl, hb4⟩; have H4 : Hid (Below w.heap.size w w4) := H2.out.trans (hb4.mono H2.out.size); clear hb4))
      go_ret
      exact ⟨rfl, H4.out⟩
end Go.Proofs.YtlpmnkiieibipaaDoor
