import Derived.Test.YtfkegaencoodbaaDoorPf
set_option linter.unusedVariables false
set_option linter.unusedSimpArgs false
namespace Go.Proofs.YtfkegaencoodbaaDoor
open Go.RowKit Go.Shelf

set_option maxHeartbeats 1000000 in
theorem of_out (s : ByteArray) (n : Int) (w : World) (hn : n < 0 ∨ (s.size : Int) < n) :
    Calls Tryd.prog 11 #[.string s, .int .i64 n] w fun e w' => e = .returned (.tuple #[.agg #[.int .i64 0, .int .i64 0, .int .i64 0], .int .i64 1]) ∧ Below w.heap.size w w' := by
  have hb0 := Box3.new w 0 0 0
  have g0 := hb0.cell0
  have g1 := hb0.cell1
  have g2 := hb0.cell2
  by_cases h1 : n < 0
  · go_enter Tryd.func11, Tryd.ntmps11
    go_wp2
    refine bodyPost_ret (v := .tuple #[.agg #[.int .i64 0, .int .i64 0, .int .i64 0], .int .i64 1]) (by simp [results, Tryd.f11, go_sem, g0, g1, g2]) rfl ?_
    exact ⟨rfl, (Below.refl _ _).alloc (Nat.le_refl _) _⟩
  · have h2 : (s.size : Int) < n := by omega
    go_enter Tryd.func11, Tryd.ntmps11
    go_wp2
    refine bodyPost_ret (v := .tuple #[.agg #[.int .i64 0, .int .i64 0, .int .i64 0], .int .i64 1]) (by simp [results, Tryd.f11, go_sem, g0, g1, g2]) rfl ?_
    exact ⟨rfl, (Below.refl _ _).alloc (Nat.le_refl _) _⟩

theorem line_at (s : ByteArray) (a : Nat) (n : Int) (ha : a ≤ s.size) (he : a = s.size ∨ by8 s a = 10) (hn : n = ((cn s a + 1 : Nat) : Int)) : lineS s n = s.extract (lf s a) a ∧ lineB s n = true := by
  have hc := cn_mono' s ha
  have h : 1 ≤ n ∧ n ≤ LN s := by unfold LN; omega
  refine ⟨?_, decide_eq_true h⟩
  unfold lineS
  rw [if_pos h, show (n - 1).toNat = cn s a by omega]
  unfold ln
  obtain ⟨f1, f2, _⟩ := lf_facts s a
  rw [bg_lf s a ha, nl_eq s (lf s a) a f1 ha f2 he]

theorem line_no (s : ByteArray) (n : Int) (h : ∀ j : Int, 1 ≤ j → j ≤ LN s → j ≠ n) : lineS s n = ⟨#[]⟩ ∧ lineB s n = false := by
  have h' : ¬ (1 ≤ n ∧ n ≤ LN s) := fun hh => h n hh.1 hh.2 rfl
  exact ⟨if_neg h', decide_eq_false h'⟩

set_option maxRecDepth 100000 in
set_option maxHeartbeats 1000000 in
theorem rline_any (s : ByteArray) (n : Int) (w : World) (hs : s.size ≤ 2147483647) :
    Calls Tryd.prog 14 #[.string s, .int .i64 n] w fun e w' => e = .returned (.tuple #[.string (lineS s n), .bool (lineB s n)]) ∧ w' = w := by
  go_enter Tryd.func14, Tryd.ntmps14
  go_wp2
  go_loopw [6, 7, 8] (fun k f i wr => ∃ (a : Nat) (z : Int) (b : Nat), k = .int .i64 z ∧ f = .int .i64 b ∧ i = .int .i64 a ∧ wr = w ∧ Hid ((a ≤ s.size ∧ b = lf s a ∧ z = ((cn s a + 1 : Nat) : Int) ∧ ∀ j : Int, 1 ≤ j → j < z → j ≠ n) ∨ (a = s.size + 1 ∧ ∀ j : Int, 1 ≤ j → j ≤ LN s → j ≠ n)))
    (fun _ _ i _ => s.size + 1 - (RowKit.intOf i).toNat)
  case atStart => exact ⟨0, 1, 0, rfl, rfl, rfl, rfl, .inl ⟨Nat.zero_le _, rfl, rfl, fun j _ _ => by omega⟩⟩
  case round =>
    obtain ⟨a, z, b, rfl, rfl, rfl, rfl, HH⟩ := hrel
    rcases HH.out with ⟨ha, hb, hz, hN⟩ | ⟨ha, hN⟩
    · clear HH
      have hlf := (lf_facts s a).1
      rw [← hb] at hlf
      have hca := cn_le s a
      have hz1 : 1 ≤ z := by omega
      have hz2 : z ≤ 2147483648 := by omega
      have HB : Hid (b = lf s a) := hb
      have HZ : Hid (z = ((cn s a + 1 : Nat) : Int)) := hz
      have HN : Hid (∀ j : Int, 1 ≤ j → j < z → j ≠ n) := hN
      clear hb hz hN hca
      by_cases h1 : a < s.size
      · have hcn := cn_step s a
        have hls := lf_step s a
        by_cases h2 : by8 s a = 10
        · have h3 : (((s[a]'h1).toNat : Int) != 10) = false := by rw [by8_get s a h1, h2]; rfl
          by_cases h4 : z = n
          · have h5 : (z == n) = true := beq_iff_eq.2 h4
            have HE : Hid (lineS s n = s.extract b a ∧ lineB s n = true) := by
              show _ ∧ _
              rw [HB.out]
              exact line_at s a n ha (.inr h2) (by rw [← h4]; exact HZ.out)
            clear hcn hls h4 h2
            go_wp2
            go_ret2
            exact ⟨by rw [HE.out.1, HE.out.2]; rfl, rfl⟩
          · have h5 : (z == n) = false := beq_eq_false_iff_ne.2 h4
            rw [if_pos h2] at hls
            have HC : Hid (cn s (a + 1) = cn s a + 1) := by rcases hcn with ⟨_, h⟩ | ⟨h, _⟩; exact h; exact absurd h2 h
            have HS : Hid (lf s (a + 1) = a + 1) := hls
            have H4 : Hid (z ≠ n) := h4
            clear hcn hls h2 h4
            go_wp2
            go_roundw
            case rel => exact ⟨a + 1, z + 1, a + 1, by go_num, by go_num, by go_num, trivial, .inl ⟨h1, HS.out.symm, by rw [HC.out, HZ.out]; omega, fun j hj1 hj2 => by
              by_cases e : j = z
              · rw [e]; exact H4.out
              · exact HN.out j hj1 (by omega)⟩⟩
            case measure => simp [RowKit.intOf]; omega
        · have h3 : (((s[a]'h1).toNat : Int) != 10) = true := by rw [by8_get s a h1]; simp; omega
          rw [if_neg h2] at hls
          have HC : Hid (cn s (a + 1) = cn s a) := by rcases hcn with ⟨h, _⟩ | ⟨_, h⟩; exact absurd h h2; exact h
          have HS : Hid (lf s (a + 1) = lf s a) := hls
          clear hcn hls h2
          go_wp2
          go_roundw
          case rel => exact ⟨a + 1, z, b, rfl, rfl, by go_num, trivial, .inl ⟨h1, by rw [HS.out, HB.out], by rw [HC.out, HZ.out], HN.out⟩⟩
          case measure => simp [RowKit.intOf]; omega
      · obtain rfl : a = s.size := by omega
        have hae : s.size = s.size := rfl
        by_cases h4 : z = n
        · have h5 : (z == n) = true := beq_iff_eq.2 h4
          have HE : Hid (lineS s n = s.extract b s.size ∧ lineB s n = true) := by
            show _ ∧ _
            rw [HB.out]
            exact line_at s s.size n ha (.inl hae) (by rw [← h4]; exact HZ.out)
          clear h4
          go_wp2
          go_ret2
          exact ⟨by rw [HE.out.1, HE.out.2]; rfl, rfl⟩
        · have h5 : (z == n) = false := beq_eq_false_iff_ne.2 h4
          have H4 : Hid (z ≠ n) := h4
          clear h4 hae
          go_wp2
          go_roundw
          case rel => exact ⟨s.size + 1, z + 1, s.size + 1, by go_num, by go_num, by go_num, trivial, .inr ⟨rfl, fun j hj1 hj2 => by
              have hzz := HZ.out
              unfold LN at hj2
              by_cases e : j = z
              · rw [e]; exact H4.out
              · exact HN.out j hj1 (by omega)⟩⟩
          case measure => simp [RowKit.intOf]
    · have HE : Hid (lineS s n = ⟨#[]⟩ ∧ lineB s n = false) := line_no s n hN
      clear HH hN
      go_wp2
      go_ret2
      exact ⟨by rw [HE.out.1, HE.out.2]; rfl, rfl⟩

end Go.Proofs.YtfkegaencoodbaaDoor
