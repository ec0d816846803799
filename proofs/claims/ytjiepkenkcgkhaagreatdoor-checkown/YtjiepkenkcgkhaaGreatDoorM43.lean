import Derived.Test.YtjiepkenkcgkhaaGreatDoorM01
import Derived.Test.YtjiepkenkcgkhaaGreatDoorRows
import Derived.Test.YtjiepkenkcgkhaaGreatDoorChecked
import Derived.SevenTiedAt
set_option linter.unusedVariables false
set_option linter.unusedSimpArgs false
namespace Go.Proofs.YtjiepkenkcgkhaaGreatDoor
theorem OF:OpenClaim.wfByText (OpenSpec.ofChange Rows.checkOwnSpec) Rows.checkOwnRow=true:=by kernel_rfl
theorem OE:Tryz.checked.prog.mainIs=some (true, "cc806e384e1616106cf5e8d6fecd13fd673b773dd36a0cd25d550884c9ad290b".toList):=by kernel_rfl
theorem OD:true=Tryz.checked.prog.looks []:=by kernel_rfl
theorem OC:false=Rows.checkOwnRow.goesBy Tryz.checked.prog:=by kernel_rfl
end Go.Proofs.YtjiepkenkcgkhaaGreatDoor
