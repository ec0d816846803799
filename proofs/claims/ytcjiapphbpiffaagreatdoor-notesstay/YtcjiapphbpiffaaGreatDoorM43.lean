import Derived.Test.YtcjiapphbpiffaaGreatDoorM01
import Derived.Test.YtcjiapphbpiffaaGreatDoorRows
import Derived.Test.YtcjiapphbpiffaaGreatDoorChecked
import Derived.SevenTiedAt
set_option linter.unusedVariables false
set_option linter.unusedSimpArgs false
namespace Go.Proofs.YtcjiapphbpiffaaGreatDoor
theorem NZ:OpenClaim.wfByText (OpenSpec.ofChange Rows.notesStaySpec) Rows.notesStayRow=true:=by kernel_rfl
theorem NY:Tryz.checked.prog.mainIs=some (true, "b7529a756887dccfb87315042dc5e3a9041c8603ebc32389f42a3684baa4baac".toList):=by kernel_rfl
theorem NX:true=Tryz.checked.prog.looks []:=by kernel_rfl
theorem NW:false=Rows.notesStayRow.goesBy Tryz.checked.prog:=by kernel_rfl
end Go.Proofs.YtcjiapphbpiffaaGreatDoor
