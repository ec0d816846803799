import Derived.Test.YtkglkhijngpgiaaLh
set_option linter.unusedVariables false
set_option linter.unusedSimpArgs false
namespace Go.Proofs.Ytkglkhijngpgiaa
open Go.RowKit

/-! ParseNests, of however many tokens. -/
set_option maxRecDepth 100000 in
set_option maxHeartbeats 1000000 in
theorem nests_walk (ao : Option Addr) (l : List Tv) (cap : Nat) (w : World) (hL : Lt w ao l) :
    Calls Try.prog 3 #[.slice ao l.length cap] w fun r w' => r = .returned (.bool true) ∧ Below w.heap.size w w' := by
  by_cases hl : l.length ≤ 1048576
  · exact nests_any ao l cap w hL hl
  · have q0 : (l.length : Int) > 1048576 := by omega
    clear hL
    go_enter Try.func3, Try.ntmps3
    go_wp2_with (go_at_call 5; refine (awake_any _).mono ?_; rintro r w1 ⟨rfl, hb1⟩)
    go_ret
    exact ⟨rfl, hb1⟩

end Go.Proofs.Ytkglkhijngpgiaa
