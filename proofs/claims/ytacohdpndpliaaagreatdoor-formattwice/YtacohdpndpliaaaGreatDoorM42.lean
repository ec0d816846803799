import Derived.Test.YtacohdpndpliaaaGreatDoorM01
import Derived.Test.YtacohdpndpliaaaGreatDoorRows
import Derived.Test.YtacohdpndpliaaaGreatDoorChecked
import Derived.SevenTiedAt
set_option linter.all false
namespace Go.Proofs.YtacohdpndpliaaaGreatDoor
theorem Oo:OpenClaim.wfByText (OpenSpec.ofChange Rows.formatTwiceSpec) Rows.formatTwiceRow=true:=by kernel_rfl
theorem On:Tryz.checked.prog.mainIs=some (true, "7845114a224a4e2612ad9ccd47c43ae564f99739ddf0d5d826da5904834169d0".toList):=by kernel_rfl
theorem Om:true=Tryz.checked.prog.looks []:=by kernel_rfl
theorem Ol:false=Rows.formatTwiceRow.goesBy Tryz.checked.prog:=by kernel_rfl
end Go.Proofs.YtacohdpndpliaaaGreatDoor
