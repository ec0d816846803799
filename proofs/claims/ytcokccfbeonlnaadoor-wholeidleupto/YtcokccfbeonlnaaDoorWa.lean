import Derived.Test.YtcokccfbeonlnaaDoorRows
import Derived.Test.YtcokccfbeonlnaaDoorMath
import Derived.WalkKit
import Derived.WalkSpells
import Derived.WalkLawsBesides
import Derived.WalkSmall
set_option linter.unusedVariables false
set_option linter.unusedSimpArgs false
namespace Go.Proofs.YtcokccfbeonlnaaDoor
open Go.RowKit

/-- A new iterator turns nothing below it. -/
theorem w64 (n : Nat) (h : n ≤ 1114111) : wrap64 (n : Int) = n := by unfold wrap64; omega
theorem ret_int {k : IntKind} {a b : Int} (h : a = b) : Ending.returned (.int k a) = .returned (.int k b) := by rw [h]
theorem below_iter (w : World) (s : ByteArray) (p : Nat) : Below w.heap.size w (w.iter s p) := (Below.refl _ _).alloc (Nat.le_refl _) _

end Go.Proofs.YtcokccfbeonlnaaDoor
