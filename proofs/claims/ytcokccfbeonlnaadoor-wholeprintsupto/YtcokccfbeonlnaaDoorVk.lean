import Derived.Test.YtcokccfbeonlnaaDoorVj
set_option linter.unusedVariables false
set_option linter.unusedSimpArgs false
namespace Go.Proofs.YtcokccfbeonlnaaDoor
open Go.RowKit

theorem page_new (W : World) (N : Nat) : Pg W.heap.size ((W.alloc (.cells #[.int .i64 0, .bool false, .bool false] 98)).alloc (.cells #[.int .i64 (N : Int), .slice none 0 0, .int .i64 0, .bool true, .int .i64 0, .bool false, .bool false, .slice (some ⟨W.heap.size, 0, none⟩) 1 1] 63)) (W.heap.size + 1) N pr0 := by
  refine ⟨.slice none 0 0, .slice (some ⟨W.heap.size, 0, none⟩) 1 1, false, false, heap_new2 W _ _, br_nil _ _, ?_, rfl, ?_, fun _ => rfl, Nat.le_succ _⟩
  · exact (World.ownsRow_lit (e := 98) (size := 3) (base := W.heap.size) W #[.int .i64 0, .bool false, .bool false] 1 (Nat.le_refl _) (by unfold maxLen; omega) rfl).alloc _
  · intro h; cases h
theorem pnew_any (N : Nat) (W : World) : Calls Tryd.prog 27 #[.int .i64 (N : Int)] W fun e w' => e = .returned (.pointer (some ⟨W.heap.size + 1, 0, none⟩)) ∧ Pg W.heap.size w' (W.heap.size + 1) N pr0 ∧ Below W.heap.size W w' := by
  have HE : Hid (Pg W.heap.size ((W.alloc (.cells #[.int .i64 0, .bool false, .bool false] 98)).alloc (.cells #[.int .i64 (N : Int), .slice none 0 0, .int .i64 0, .bool true, .int .i64 0, .bool false, .bool false, .slice (some ⟨W.heap.size, 0, none⟩) 1 1] 63)) (W.heap.size + 1) N pr0 ∧ Below W.heap.size W ((W.alloc (.cells #[.int .i64 0, .bool false, .bool false] 98)).alloc (.cells #[.int .i64 (N : Int), .slice none 0 0, .int .i64 0, .bool true, .int .i64 0, .bool false, .bool false, .slice (some ⟨W.heap.size, 0, none⟩) 1 1] 63))) := ⟨page_new W N, ((Below.refl _ W).alloc (Nat.le_refl _) _).alloc (by rw [World.size_alloc]; omega) _⟩
  go_enter Tryd.func27, Tryd.ntmps27
  go_wp2_with fail
  go_ret
  exact ⟨rfl, HE.out⟩
end Go.Proofs.YtcokccfbeonlnaaDoor
