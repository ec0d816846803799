import Derived.Test.YtkigadnkclkopaaCc
set_option linter.unusedVariables false
set_option linter.unusedSimpArgs false
namespace Go.Proofs.Ytkigadnkclkopaa
open Go.RowKit

end Go.Proofs.Ytkigadnkclkopaa
