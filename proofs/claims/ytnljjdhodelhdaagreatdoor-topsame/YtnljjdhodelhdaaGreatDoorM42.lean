import Derived.Test.YtnljjdhodelhdaaGreatDoorM01
import Derived.Test.YtnljjdhodelhdaaGreatDoorRows
import Derived.Test.YtnljjdhodelhdaaGreatDoorChecked
import Derived.SevenTiedAt
set_option linter.unusedVariables false
set_option linter.unusedSimpArgs false
namespace Go.Proofs.YtnljjdhodelhdaaGreatDoor
theorem OT:OpenClaim.wfByText (OpenSpec.ofChange Rows.topSameSpec) Rows.topSameRow=true:=by kernel_rfl
theorem OS:Tryz.checked.prog.mainIs=some (true, "2cc34379e11bef35ae62c27b875ef521c90dd4aa68942605d95b72676eca8106".toList):=by kernel_rfl
theorem OR:true=Tryz.checked.prog.looks []:=by kernel_rfl
theorem OQ:false=Rows.topSameRow.goesBy Tryz.checked.prog:=by kernel_rfl
end Go.Proofs.YtnljjdhodelhdaaGreatDoor
