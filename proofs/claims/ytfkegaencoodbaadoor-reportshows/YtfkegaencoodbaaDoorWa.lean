import Derived.Test.YtfkegaencoodbaaDoorRows
import Derived.Test.YtfkegaencoodbaaDoorMath
import Derived.WalkKit
import Derived.WalkSpells
import Derived.WalkLawsBesides
import Derived.WalkSmall
set_option linter.unusedVariables false
set_option linter.unusedSimpArgs false
namespace Go.Proofs.YtfkegaencoodbaaDoor
open Go.RowKit

/-- A new iterator turns nothing below it. -/
theorem w64 (n : Nat) (h : n ≤ 1114111) : wrap64 (n : Int) = n := by unfold wrap64; omega
theorem ret_int {k : IntKind} {a b : Int} (h : a = b) : Ending.returned (.int k a) = .returned (.int k b) := by rw [h]
theorem below_iter (w : World) (s : ByteArray) (p : Nat) : Below w.heap.size w (w.iter s p) := (Below.refl _ _).alloc (Nat.le_refl _) _

set_option maxHeartbeats 400000 in
theorem count_any (s : ByteArray) (w : World) (hs : s.size ≤ maxLen) :
    Calls Tryd.prog 21 #[.string s] w fun e w' => e = .returned (.int .i64 (P s).length) ∧ ∃ pos, w' = w.iter s pos := by
  unfold maxLen at hs
  have hP := P_len s
  go_enter Tryd.func21, Tryd.ntmps21
  go_wp2
  go_loopw [3] (fun n w' => ∃ (pos k : Nat), w' = w.iter s pos ∧ n = .int .i64 k ∧ k + (pl s pos).length = (P s).length) (fun _ w' => s.size - w'.iterPos w.heap.size)
  case atStart => exact ⟨0, 0, rfl, rfl, by simp [P]⟩
  case round =>
    obtain ⟨pos, k, rfl, rfl, hc⟩ := hrel
    have hkb : k ≤ (P s).length := by omega
    by_cases hp : pos < s.size
    · have hnx : ∀ ty, (Instr.next (.pointer (some ⟨w.heap.size, 0, none⟩)) true ty).run Tryd.prog (w.iter s pos) = _ := fun ty => run_next_any w s pos ty hp
      have hw := dw_facts s pos hp
      have hlen : (pl s pos).length = (pl s (pos + dw s pos)).length + 1 := by rw [pl_lt s pos hp]; simp
      have HC : Hid (k + 1 + (pl s (pos + dw s pos)).length = (P s).length) := by show _ = _; omega
      have hk1 : k + 1 ≤ (P s).length := by omega
      clear hc hlen
      unfold dw at hw
      go_wp2
      go_roundw
      case rel => exact ⟨pos + dw s pos, k + 1, rfl, by go_num, HC.out⟩
      case measure =>
        simp
        omega
    · have hnx : ∀ ty, (Instr.next (.pointer (some ⟨w.heap.size, 0, none⟩)) true ty).run Tryd.prog (w.iter s pos) = _ := fun ty => run_next_end w s pos ty hp
      have hz : (pl s pos).length = 0 := by rw [pl_ge s pos (by omega)]; rfl
      have HC : Hid (k = (P s).length) := by show _ = _; omega
      clear hc hz
      go_wp2
      go_ret
      exact ⟨ret_int (by rw [HC.out]), _, rfl⟩

set_option maxHeartbeats 400000 in
theorem first_any (s : ByteArray) (w : World) (hs : s.size ≤ maxLen) (h0 : 0 < s.size) :
    Calls Tryd.prog 38 #[.string s] w fun e w' => e = .returned (.tuple #[.int .i32 (dp s 0), .int .i64 (dw s 0)]) ∧ Below w.heap.size w w' := by
  unfold maxLen at hs
  have hw := dw_facts s 0 h0
  go_enter Tryd.func38, Tryd.ntmps38
  go_wp2
  go_loopw [4] (fun p w' => w' = w.iter s 0 ∨ (p = .int .i32 (dp s 0) ∧ w' = w.iter s (dw s 0))) (fun _ w' => s.size - w'.iterPos w.heap.size)
  case atStart => exact .inl rfl
  case round =>
    rcases hrel with rfl | ⟨rfl, rfl⟩
    · have hnx : ∀ ty, (Instr.next (.pointer (some ⟨w.heap.size, 0, none⟩)) true ty).run Tryd.prog (w.iter s 0) = _ := fun ty => run_next_any w s 0 ty h0
      unfold dw at hw
      go_wp2
      go_roundw
      case rel => exact .inr ⟨rfl, by simp [dw]⟩
      case measure => simp; omega
    · by_cases hp : dw s 0 < s.size
      · have hnx : ∀ ty, (Instr.next (.pointer (some ⟨w.heap.size, 0, none⟩)) true ty).run Tryd.prog (w.iter s (dw s 0)) = _ := fun ty => run_next_any w s (dw s 0) ty hp
        go_wp2
        go_ret2
        exact ⟨rfl, below_iter _ _ _⟩
      · have hnx : ∀ ty, (Instr.next (.pointer (some ⟨w.heap.size, 0, none⟩)) true ty).run Tryd.prog (w.iter s (dw s 0)) = _ := fun ty => run_next_end w s (dw s 0) ty hp
        have HE : Hid (s.size = dw s 0) := by show _ = _; omega
        go_wp2
        go_ret2
        exact ⟨by rw [HE.out]; rfl, below_iter _ _ _⟩

set_option maxHeartbeats 400000 in
theorem good_any (p n : Int) (w : World) :
    Calls Tryd.prog 39 #[.int .i32 p, .int .i64 n] w fun e w' => e = .returned (.bool (gdb p n)) ∧ w' = w := by
  by_cases hp : p = 65533
  · have e : gdb p n = decide (1 < n) := by simp [gdb, hp]
    have h1 : (p != 65533) = false := by simp [hp]
    rw [e]
    clear e hp
    go_enter Tryd.func39, Tryd.ntmps39
    go_wp2
    go_ret
    exact ⟨rfl, rfl⟩
  · have e : gdb p n = true := by simp [gdb, hp]
    have h1 : (p != 65533) = true := by simp [hp]
    rw [e]
    clear e hp
    go_enter Tryd.func39, Tryd.ntmps39
    go_wp2
    go_ret
    exact ⟨rfl, rfl⟩

set_option maxHeartbeats 400000 in
theorem next_in (s : ByteArray) (a : Int) (w : World) (hs : s.size ≤ maxLen) (h0 : 0 ≤ a) (h1 : a < s.size) :
    Calls Tryd.prog 24 #[.string s, .int .i64 a] w fun e w' => e = .returned (.tuple #[.int .i64 (dp s a.toNat), .int .i64 (dw s a.toNat), .bool (gd s a.toNat)]) ∧ Below w.heap.size w w' := by
  obtain ⟨n, rfl⟩ := Int.eq_ofNat_of_zero_le h0
  rw [Int.toNat_natCast]
  have hz : (s.extract n s.size).size = s.size - n := size_ext s n _ (Nat.le_refl _)
  have Hp : Hid (dp (s.extract n s.size) 0 = dp s n) := by show _ = _; unfold dp; rw [decode_tail s n 0 (by omega)]; rfl
  have Hw : Hid (dw (s.extract n s.size) 0 = dw s n) := by show _ = _; unfold dw; rw [decode_tail s n 0 (by omega)]; rfl
  unfold maxLen at hs
  go_enter Tryd.func24, Tryd.ntmps24
  go_wp2_with fail
  refine (first_any _ _ (by unfold maxLen; omega) (by omega)).mono ?_
  rintro e w1 ⟨rfl, hb1⟩
  rw [Hp.out, Hw.out]
  go_wp2_with fail
  refine (good_any _ _ _).mono ?_
  rintro e w2 ⟨rfl, rfl⟩
  go_wp2_with fail
  go_ret3
  exact ⟨by show Ending.returned (.tuple #[.int .i64 (wrap64 (dp s n)), _, _]) = _; rw [w64 _ (dp_le s n)]; rfl, hb1⟩

set_option maxHeartbeats 400000 in
theorem next_out (s : ByteArray) (a : Int) (w : World) (hs : s.size ≤ maxLen) (h1 : a < 0 ∨ s.size ≤ a) :
    Calls Tryd.prog 24 #[.string s, .int .i64 a] w fun e w' => e = .returned (.tuple #[.int .i64 0, .int .i64 0, .bool false]) ∧ Below w.heap.size w w' := by
  unfold maxLen at hs
  rcases h1 with h1 | h1
  · go_enter Tryd.func24, Tryd.ntmps24
    go_wp2_with fail
    go_ret3
    exact ⟨rfl, Below.refl _ _⟩
  · have h2 : ¬ a < 0 := by omega
    go_enter Tryd.func24, Tryd.ntmps24
    go_wp2_with fail
    go_ret3
    exact ⟨rfl, Below.refl _ _⟩
end Go.Proofs.YtfkegaencoodbaaDoor
