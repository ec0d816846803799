import Derived.Test.YtcokccfbeonlnaaDoorWb
set_option linter.unusedVariables false
set_option linter.unusedSimpArgs false
namespace Go.Proofs.YtcokccfbeonlnaaDoor
open Go.RowKit

/-- All characters are good. -/
def vl (s : ByteArray) : Bool := (P s).all (gd s)

end Go.Proofs.YtcokccfbeonlnaaDoor
