import Derived.Test.YtkglkhijngpgiaaGreatUd
set_option linter.unusedVariables false
set_option linter.unusedSimpArgs false
namespace Go.Proofs.YtkglkhijngpgiaaGreat
open Go.RowKit

/-! ParsePuts, of however many tokens. -/
set_option maxRecDepth 100000 in
set_option maxHeartbeats 1000000 in
theorem puts_all (ao bo : Option Addr) (l m : List Tv) (ca cb : Nat) (turn : Int) (w : World) (hA : Lt w ao l) (hB : Lt w bo m) (hl : l.length * 56 ≤ 140737488355328) (hm : m.length * 56 ≤ 140737488355328) :
    Calls Tryz.prog 3 #[.slice ao l.length ca, .slice bo m.length cb, .int .i64 turn] w fun e w' => e = .returned (.bool true) ∧ Below w.heap.size w w' := by
  by_cases hlm : l.length + m.length ≤ 3000
  · exact puts_walk ao bo l m ca cb turn w hA hB (by omega) (by omega) hlm
  · have q0 : (l.length : Int) + m.length > 3000 := by omega
    have q1 : (l.length : Int) ≤ 140737488355328 := by omega
    have q2 : (m.length : Int) ≤ 140737488355328 := by omega
    clear hA hB hlm
    go_enter Tryz.func3, Tryz.ntmps3
    go_wp2_with (go_at_call 4; refine (awake_any _).mono ?_; rintro r w1 ⟨rfl, hb1⟩)
    go_ret
    exact ⟨rfl, hb1⟩

end Go.Proofs.YtkglkhijngpgiaaGreat
