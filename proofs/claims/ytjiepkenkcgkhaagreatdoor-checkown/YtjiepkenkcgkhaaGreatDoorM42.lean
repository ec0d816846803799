import Derived.Test.YtjiepkenkcgkhaaGreatDoorM01
import Derived.Test.YtjiepkenkcgkhaaGreatDoorRows
import Derived.Test.YtjiepkenkcgkhaaGreatDoorChecked
import Derived.ProofKit
import Derived.OpenShut
import Derived.ChangeOld
import Derived.Lay
import Derived.SevenTiedAt
import Derived.Stop.Joined
import Derived.Lib.SmallJoins
set_option linter.unusedVariables false
set_option linter.unusedSimpArgs false
namespace Go.Proofs.YtjiepkenkcgkhaaGreatDoor
open Go.ChangeShapes Go.WideShapes Go.ChangeAt Go.RowKit
theorem OB:(Rows.checkOwnRow.inPlace == Tryz.checked.prog.inPlace 3)=true:=by kernel_rfl
theorem OA:(Rows.checkOwnRow.unfollowed == Tryz.checked.prog.unfollowed 3)=true:=by kernel_rfl
theorem Oz:(Rows.checkOwnRow.recurses == Tryz.checked.prog.recurses 3)=true:=by kernel_rfl
theorem Oy:(Rows.checkOwnRow.named == Tryz.checked.prog.varsNamed 3)=true:=by kernel_rfl
theorem FL:joinedFacts Tryz.checked.prog 3 Tryz.f3 Rows.checkOwnSpec Rows.checkOwnRow=true:=by
 unfold joinedFacts;rw [OB,OA,Oz,Oy]
 kernel_rfl
end Go.Proofs.YtjiepkenkcgkhaaGreatDoor
