import Derived.Test.YtcmbkeghnmgbfaaGreatDoorM01
import Derived.Test.YtcmbkeghnmgbfaaGreatDoorChecked
import Derived.SevenTiedAt
set_option linter.all false
namespace Go.Proofs.YtcmbkeghnmgbfaaGreatDoor
theorem I8:OpenClaim.wfByText (OpenSpec.ofChange Rows.driverNilSpec) Rows.driverNilRow=true:=by kernel_rfl
theorem I7:Tryz.checked.prog.mainIs=some (true, "6641e904bdd422f8970b0febb591b6a3ae69b37dcf6b89c50404b9bf0538779a".toList):=by kernel_rfl
theorem I6:true=Tryz.checked.prog.looks []:=by kernel_rfl
theorem I5:false=Rows.driverNilRow.goesBy Tryz.checked.prog:=by kernel_rfl
