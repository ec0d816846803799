import Derived.Test.YtfkegaencoodbaaDoorUc
import Derived.Test.YtfkegaencoodbaaDoorUn
set_option linter.unusedVariables false
namespace Go.Proofs.YtfkegaencoodbaaDoor
open Go.RowKit

/-! strconv.Itoa, over the table. -/
theorem itp_of {W : World} (h : Lib.TabIs Tryd.prog W "internal/strconv.uint64pow10" .u64 Lib.pow10Tab) : ItP W := fun V n hb hn => ito_any n hn.1 hn.2 V (Lib.tabBelow_of_tabIs h V hb)

end Go.Proofs.YtfkegaencoodbaaDoor
