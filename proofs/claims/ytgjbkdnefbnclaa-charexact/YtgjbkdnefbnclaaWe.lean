import Derived.Test.YtgjbkdnefbnclaaWb
set_option linter.unusedVariables false
set_option linter.unusedSimpArgs false
namespace Go.Proofs.Ytgjbkdnefbnclaa
open Go.RowKit

set_option maxHeartbeats 400000 in
theorem last_core (s h : ByteArray) (n : Nat) (w : World) (hs : s.size ≤ 2147483647) (h0 : 1 ≤ (n : Int)) (h1 : (n : Int) ≤ s.size) (hh : s.extract 0 n = h) (hz : h.size = n) :
    Calls Try.prog 18 #[.string s, .int .i64 n] w fun e w' =>
      e = .returned (.tuple #[.int .i64 (ls h).1, .int .i64 (ls h).2.1, .bool (ls h).2.2]) ∧ Below w.heap.size w w' := by
  have hnx : Hid (∀ b : Int, 0 ≤ b → b < n → ∀ w, _) := fun b h0 h1 w => next_in h b w (by unfold maxLen; omega) h0 (by omega)
  have HZ : Hid (h.size = n) := hz
  have hd1 : decide ((n : Int) < 1) = false := by simp; omega
  have hd2 : decide (s.size < n) = false := by simp; omega
  clear hz
  go_enter Try.func18, Try.ntmps18
  go_wp2_with fail
  clear hh
  go_loopw [8] (fun i wr => ∃ k : Nat, 1 ≤ k ∧ k ≤ 5 ∧ i = .int .i64 k ∧ lsF h (5 - k) k = ls h ∧ Below w.heap.size w wr) (fun i _ => 5 - (intOf i).toNat)
  case atStart => exact ⟨1, by omega, by omega, rfl, rfl, Below.refl _ _⟩
  case round =>
    obtain ⟨k, hn1, hn4, rfl, hr, hbel⟩ := hrel
    by_cases h3 : k ≤ 4
    · by_cases hsz : k ≤ n
      · obtain ⟨f, hf⟩ : ∃ f, 5 - k = f + 1 := ⟨4 - k, by omega⟩
        rw [hf] at hr
        unfold lsF at hr
        rw [HZ.out, if_pos hsz] at hr
        have hf2 : f = 5 - (k + 1) := by omega
        subst hf2
        have HR : Hid (_ = ls h) := hr
        clear hr hf
        go_wp2_with fail
        refine (hnx.out _ (by omega) (by omega) _).mono ?_
        rintro e w1 ⟨rfl, hb1⟩
        rw [show ((n : Int) - (k : Int)).toNat = n - k by omega]
        clear hnx
        have hb2 := hbel.trans (hb1.mono hbel.size)
        clear hb1 hbel
        generalize gd h (n - k) = g at *
        generalize dw h (n - k) = d at *
        generalize dp h (n - k) = p at *
        cases g with
        | true =>
          by_cases hd : d = k
          · subst hd
            go_wp2_with fail
            go_ret3
            have hq := HR.out
            simp at hq
            exact ⟨by rw [← hq]; rfl, hb2⟩
          · have hd2 : ((d : Int) == (k : Int)) = false := by simp; omega
            have HR2 : Hid (lsF h (5 - (k + 1)) (k + 1) = ls h) := by
              show _ = _
              rw [← HR.out, if_neg (by simp [hd])]
            clear HR hd
            go_wp2_with fail
            go_roundw
            case rel => exact ⟨k + 1, by omega, by omega, by go_num, HR2.out, hb2⟩
            case measure => simp [intOf]; omega
        | false =>
          have HR2 : Hid (lsF h (5 - (k + 1)) (k + 1) = ls h) := by
            show _ = _
            rw [← HR.out, if_neg (by simp)]
          clear HR
          go_wp2_with fail
          go_roundw
          case rel => exact ⟨k + 1, by omega, by omega, by go_num, HR2.out, hb2⟩
          case measure => simp [intOf]; omega
      · have HR : Hid ((65533, 1, false) = ls h) := by
          show _ = _
          rw [← hr]
          obtain ⟨f, hf⟩ : ∃ f, 5 - k = f + 1 := ⟨4 - k, by omega⟩
          rw [hf]
          unfold lsF
          rw [HZ.out, if_neg hsz]
        clear hr
        go_wp2_with fail
        go_ret3
        exact ⟨by rw [← HR.out]; rfl, hbel⟩
    · have HR : Hid ((65533, 1, false) = ls h) := by
        show _ = _
        rw [← hr, show 5 - k = 0 by omega]
        rfl
      clear hr
      go_wp2_with fail
      go_ret3
      exact ⟨by rw [← HR.out]; rfl, hbel⟩

theorem last_in (s : ByteArray) (a : Int) (w : World) (hs : s.size ≤ 2147483647) (h0 : 1 ≤ a) (h1 : a ≤ s.size) :
    Calls Try.prog 18 #[.string s, .int .i64 a] w fun e w' =>
      e = .returned (.tuple #[.int .i64 (ls (s.extract 0 a.toNat)).1, .int .i64 (ls (s.extract 0 a.toNat)).2.1, .bool (ls (s.extract 0 a.toNat)).2.2]) ∧ Below w.heap.size w w' := by
  obtain ⟨n, rfl⟩ := Int.eq_ofNat_of_zero_le (show 0 ≤ a by omega)
  rw [Int.toNat_natCast]
  exact last_core s _ n w hs h0 h1 rfl (by rw [size_ext s _ _ (by omega)]; omega)

set_option maxHeartbeats 400000 in
theorem last_out (s : ByteArray) (a : Int) (w : World) (hs : s.size ≤ maxLen) (h1 : a < 1 ∨ s.size < a) :
    Calls Try.prog 18 #[.string s, .int .i64 a] w fun e w' => e = .returned (.tuple #[.int .i64 0, .int .i64 0, .bool false]) ∧ Below w.heap.size w w' := by
  unfold maxLen at hs
  rcases h1 with h1 | h1
  · go_enter Try.func18, Try.ntmps18
    go_wp2_with fail
    go_ret3
    exact ⟨rfl, Below.refl _ _⟩
  · have h2 : ¬ a < 1 := by omega
    go_enter Try.func18, Try.ntmps18
    go_wp2_with fail
    go_ret3
    exact ⟨rfl, Below.refl _ _⟩

/-- All characters are good. -/
def vl (s : ByteArray) : Bool := (P s).all (gd s)

set_option maxHeartbeats 400000 in
theorem valid_any (s : ByteArray) (w : World) (hs : s.size ≤ 2147483647) :
    Calls Try.prog 17 #[.string s] w fun e w' => e = .returned (.bool (vl s)) ∧ Below w.heap.size w w' := by
  go_enter Try.func17, Try.ntmps17
  go_wp2_with fail
  go_loopw [] (fun wr => ∃ pos : Nat, wr.heap[w.heap.size]? = some (.stringIter s pos) ∧ (pl s pos).all (gd s) = vl s ∧ Below w.heap.size w wr) (fun wr => s.size - wr.iterPos w.heap.size)
  case atStart => exact ⟨0, World.iter_heap _ _ _, rfl, below_iter _ _ _⟩
  case round =>
    obtain ⟨pos, hit, hr, hbel⟩ := hrel
    by_cases hp : pos < s.size
    · have hw := dw_facts s pos hp
      rw [pl_lt s pos hp, List.all_cons] at hr
      have hnx := fun ty => Lib.run_next_any_at (P := Try.prog) wr w.heap.size s pos ty hit hp
      have HI : Hid (wr.heap[w.heap.size]? = some (.stringIter s pos)) := hit
      have HR : Hid (_ = vl s) := hr
      have hbel2 := Lib.below_iterAt hbel (Nat.le_refl _) s (pos + dw s pos)
      have HI2 : Hid _ := Lib.iterAt_heap wr w.heap.size s pos (pos + dw s pos) hit
      have hsz := Lib.iterAt_size wr w.heap.size s (pos + dw s pos)
      clear hit hr
      by_cases hb : dp s pos = 65533
      · have hbb : (((Utf8.decode s pos).1 : Int) != 65533) = false := by have : (Utf8.decode s pos).1 = 65533 := hb; simp [this]
        go_wp2_with fail
        refine (next_in s pos _ (by unfold maxLen; omega) (by omega) (by omega)).mono ?_
        rintro e w1 ⟨rfl, hb1⟩
        rw [Int.toNat_natCast]
        have hb3 := hbel2.trans (hb1.mono (Nat.le_trans hbel.size (Nat.le_of_eq hsz.symm)))
        have HI3 : Hid (w1.heap[w.heap.size]? = some (.stringIter s (pos + dw s pos))) := by
          show _ = _
          rw [hb1.block w.heap.size (Nat.lt_of_lt_of_le (Array.getElem?_eq_some_iff.1 HI.out).1 (Nat.le_of_eq hsz.symm))]
          exact HI2.out
        clear hb1 hbel hbel2 HI2 hsz hnx
        generalize gd s pos = g at *
        cases g with
        | true =>
          go_wp2_with fail
          go_roundw
          case rel => exact ⟨pos + dw s pos, HI3.out, by have h := HR.out; simpa using h, hb3⟩
          case measure =>
            have hq := iterPos_of HI.out
            have hq2 := iterPos_of HI3.out
            rw [hq, hq2]; omega
        | false =>
          have HR2 : Hid (vl s = false) := by
            show vl s = false
            have h := HR.out
            simpa using h.symm
          clear HR
          go_wp2_with fail
          go_ret
          exact ⟨by rw [HR2.out]; rfl, hb3⟩
      · have hbb : (((Utf8.decode s pos).1 : Int) != 65533) = true := by
          have : (Utf8.decode s pos).1 ≠ 65533 := hb
          simp; omega
        have hg : gd s pos = true := by
          unfold gd gdb
          have : ((dp s pos : Int) != 65533) = true := hbb
          simp [this]
        have HR2 : Hid ((pl s (pos + dw s pos)).all (gd s) = vl s) := by
          show _ = _
          rw [← HR.out, hg]; simp
        clear HR hg hb
        go_wp2_with fail
        go_roundw
        case rel => exact ⟨pos + dw s pos, HI2.out, HR2.out, hbel2⟩
        case measure =>
          have hq := iterPos_of HI.out
          have hq2 := iterPos_of HI2.out
          rw [hq]
          show s.size - (wr.iterAt w.heap.size s (pos + dw s pos)).iterPos w.heap.size < _
          rw [hq2]; omega
    · have hnx := fun ty => Lib.run_next_end_at (P := Try.prog) wr w.heap.size s pos ty hit hp
      rw [pl_ge s pos (by omega)] at hr
      have HR2 : Hid (vl s = true) := hr.symm
      clear hr
      go_wp2_with fail
      go_ret
      exact ⟨by rw [HR2.out]; rfl, hbel⟩
end Go.Proofs.Ytgjbkdnefbnclaa
