import Derived.Test.YtnmjkgjhjnpijaaDoorPe
import Derived.Test.YtnmjkgjhjnpijaaDoorRc
import Derived.Deep.RegionWith
set_option linter.unusedVariables false
set_option linter.unusedSimpArgs false
namespace Go.Proofs.YtnmjkgjhjnpijaaDoor
open Go.RowKit Go.Shelf

set_option maxHeartbeats 1000000 in
theorem start_any (w : World) :
    Calls Tryd.prog 12 #[] w fun e w' => e = .returned (.agg #[.int .i64 0, .int .i64 1, .int .i64 1]) ∧ Below w.heap.size w w' := by
  go_enter Tryd.func12, Tryd.ntmps12
  go_wp2
  have hb0 := Box3.new w 0 1 1
  have g0 := hb0.cell0
  have g1 := hb0.cell1
  have g2 := hb0.cell2
  refine bodyPost_ret (v := .agg #[.int .i64 0, .int .i64 1, .int .i64 1]) (by simp [results, Tryd.f12, go_sem, g0, g1, g2]) rfl ?_
  exact ⟨rfl, (Below.refl _ _).alloc (Nat.le_refl _) _⟩

theorem adv_lit (a0 l0 c0 : Int) (s : ByteArray) (w : World) (hs : s.size ≤ 2147483647) (hl0 : -9223372036854775808 ≤ l0 ∧ l0 ≤ 9223372036854775807) :
    Calls Tryd.prog 49 #[.agg #[.int .i64 a0, .int .i64 l0, .int .i64 c0], .string s] w fun e w' => e = .returned (.agg #[.int .i64 (aAt a0 s), .int .i64 (aLine l0 s), .int .i64 (aCol c0 s)]) ∧ Below w.heap.size w w' :=
  adv_any a0 l0 c0 s w hs hl0

end Go.Proofs.YtnmjkgjhjnpijaaDoor
