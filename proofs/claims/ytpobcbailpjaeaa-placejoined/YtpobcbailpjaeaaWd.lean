import Derived.Test.YtpobcbailpjaeaaWb
set_option linter.unusedVariables false
set_option linter.unusedSimpArgs false
namespace Go.Proofs.Ytpobcbailpjaeaa
open Go.RowKit

set_option maxHeartbeats 400000 in
theorem goes_core (s t q : ByteArray) (g : Bool) (d p : Nat) (w : World) (hs : s.size ≤ 2147483647) (hadd : ¬ (9223372036854775807 < s.size + t.size)) (hq : s ++ t = q)
    (hn : ∀ w, Calls Try.prog 17 #[.string q, .int .i64 0] w fun e w' => e = .returned (.tuple #[.int .i64 p, .int .i64 d, .bool g]) ∧ Below w.heap.size w w') :
    Calls Try.prog 28 #[.string s, .string t] w fun e w' => e = .returned (.bool (g && decide (s.size < d))) ∧ Below w.heap.size w w' := by
  have HN : Hid _ := hn
  clear hn
  go_enter Try.func28, Try.ntmps28
  go_wp2_with fail
  refine (HN.out _).mono ?_
  rintro e w1 ⟨rfl, hb1⟩
  clear HN
  cases g with
  | true =>
    go_wp2_with fail
    go_ret
    exact ⟨by show Ending.returned (.bool _) = _; simp, hb1⟩
  | false =>
    go_wp2_with fail
    go_ret
    exact ⟨rfl, hb1⟩

theorem goes_any (s t : ByteArray) (w : World) (hs : s.size ≤ 2147483647) (ht : t.size = 3) :
    Calls Try.prog 28 #[.string s, .string t] w fun e w' => e = .returned (.bool (goB s t)) ∧ Below w.heap.size w w' := by
  have hz : (s ++ t).size = s.size + t.size := by simp [ByteArray.size_append]
  exact goes_core s t (s ++ t) (gd (s ++ t) 0) (dw (s ++ t) 0) (dp (s ++ t) 0) w hs (by omega) rfl (fun w => next_in (s ++ t) 0 w (by unfold maxLen; omega) (by omega) (by omega))

set_option maxHeartbeats 400000 in
theorem open_core (s : ByteArray) (g1 g2 : Bool) (w : World)
    (h1 : ∀ w, Calls Try.prog 28 #[.string s, .string ⟨#[128, 128, 128]⟩] w fun e w' => e = .returned (.bool g1) ∧ Below w.heap.size w w')
    (h2 : ∀ w, Calls Try.prog 28 #[.string s, .string ⟨#[191, 191, 191]⟩] w fun e w' => e = .returned (.bool g2) ∧ Below w.heap.size w w') :
    Calls Try.prog 22 #[.string s] w fun e w' => e = .returned (.bool (g1 || g2)) ∧ Below w.heap.size w w' := by
  have H1 : Hid _ := h1
  have H2 : Hid _ := h2
  clear h1 h2
  go_enter Try.func22, Try.ntmps22
  go_wp2_with fail
  refine (H1.out _).mono ?_
  rintro e w1 ⟨rfl, hb1⟩
  cases g1 with
  | true =>
    go_wp2_with fail
    go_ret
    exact ⟨rfl, hb1⟩
  | false =>
    go_wp2_with fail
    refine (H2.out _).mono ?_
    rintro e w2 ⟨rfl, hb2⟩
    go_wp2_with fail
    go_ret
    exact ⟨rfl, hb1.trans (hb2.mono hb1.size)⟩

theorem open_any (s : ByteArray) (w : World) (hs : s.size ≤ 2147483647) :
    Calls Try.prog 22 #[.string s] w fun e w' => e = .returned (.bool (opn s)) ∧ Below w.heap.size w w' :=
  open_core s _ _ w (fun w => goes_any s _ w hs rfl) (fun w => goes_any s _ w hs rfl)

set_option maxHeartbeats 400000 in
theorem whole_any (s : ByteArray) (w : World) (hs : s.size ≤ 2147483647) :
    Calls Try.prog 14 #[.string s] w fun e w' => e = .returned (.int .i64 (wh s)) ∧ Below w.heap.size w w' := by
  go_enter Try.func14, Try.ntmps14
  go_wp2_with fail
  go_loopw [3] (fun i wr => ∃ n : Nat, 1 ≤ n ∧ n ≤ 4 ∧ i = .int .i64 n ∧ whF s (4 - n) n = wh s ∧ Below w.heap.size w wr) (fun i _ => 4 - (intOf i).toNat)
  case atStart => exact ⟨1, by omega, by omega, rfl, rfl, Below.refl _ _⟩
  case round =>
    obtain ⟨n, hn1, hn4, rfl, hr, hbel⟩ := hrel
    by_cases h3 : n ≤ 3
    · by_cases hsz : n ≤ s.size
      · obtain ⟨f, hf⟩ : ∃ f, 4 - n = f + 1 := ⟨3 - n, by omega⟩
        rw [hf] at hr
        unfold whF at hr
        rw [if_pos hsz] at hr
        have hf2 : f = 4 - (n + 1) := by omega
        subst hf2
        have hc : Hid _ := open_any (s.extract (s.size - n) s.size)
        have hzz : (s.extract (s.size - n) s.size).size ≤ 2147483647 := by rw [size_ext s _ _ (Nat.le_refl _)]; omega
        have HR : Hid (_ = wh s) := hr
        clear hr hf
        go_wp2_with fail
        refine (hc.out _ hzz).mono ?_
        rintro e w1 ⟨rfl, hb1⟩
        clear hc hzz
        generalize opn (s.extract (s.size - n) s.size) = g at *
        have hb2 := hbel.trans (hb1.mono hbel.size)
        clear hb1 hbel
        cases g with
        | true =>
          go_wp2_with fail
          go_ret
          exact ⟨ret_int (by have h := HR.out; simp at h; omega), hb2⟩
        | false =>
          go_wp2_with fail
          go_roundw
          case rel => exact ⟨n + 1, by omega, by omega, by go_num, by have h := HR.out; simpa using h, hb2⟩
          case measure => simp [intOf]; omega
      · have HR : Hid (s.size = wh s) := by
          show _ = _
          rw [← hr]
          obtain ⟨f, hf⟩ : ∃ f, 4 - n = f + 1 := ⟨3 - n, by omega⟩
          rw [hf]
          unfold whF
          rw [if_neg hsz]
        clear hr
        go_wp2_with fail
        go_ret
        exact ⟨ret_int (by rw [HR.out]), hbel⟩
    · have HR : Hid (s.size = wh s) := by
        show _ = _
        rw [← hr, show 4 - n = 0 by omega]
        rfl
      clear hr
      go_wp2_with fail
      go_ret
      exact ⟨ret_int (by rw [HR.out]), hbel⟩
end Go.Proofs.Ytpobcbailpjaeaa
