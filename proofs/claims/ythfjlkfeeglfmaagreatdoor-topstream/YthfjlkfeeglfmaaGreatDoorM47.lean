import Derived.Test.YthfjlkfeeglfmaaGreatDoorM01
import Derived.Test.YthfjlkfeeglfmaaGreatDoorChecked
import Derived.SevenTiedAt
set_option linter.all false
namespace Go.Proofs.YthfjlkfeeglfmaaGreatDoor
def PG:OpenClaim.wfByText (OpenSpec.ofChange Rows.topStreamSpec) Rows.topStreamRow=true:=by kernel_rfl
def PF:Tryz.checked.prog.mainIs=some (true, "c357433bfb4127b749a2bbec03fcadf8dec849ab4313e827aecb217b614a5586".toList):=by kernel_rfl
def PE:true=Tryz.checked.prog.looks []:=by kernel_rfl
def PB:false=Rows.topStreamRow.goesBy Tryz.checked.prog:=by kernel_rfl
