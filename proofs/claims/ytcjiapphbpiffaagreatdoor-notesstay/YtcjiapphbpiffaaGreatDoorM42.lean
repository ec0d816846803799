import Derived.Test.YtcjiapphbpiffaaGreatDoorM01
import Derived.Test.YtcjiapphbpiffaaGreatDoorRows
import Derived.Test.YtcjiapphbpiffaaGreatDoorChecked
import Derived.ProofKit
import Derived.OpenShut
import Derived.ChangeOld
import Derived.Lay
import Derived.SevenTiedAt
import Derived.Stop.Joined
import Derived.Lib.SmallJoins
set_option linter.unusedVariables false
set_option linter.unusedSimpArgs false
namespace Go.Proofs.YtcjiapphbpiffaaGreatDoor
open Go.ChangeShapes Go.WideShapes Go.ChangeAt Go.RowKit
theorem NV:(Rows.notesStayRow.inPlace == Tryz.checked.prog.inPlace 3)=true:=by kernel_rfl
theorem NU:(Rows.notesStayRow.unfollowed == Tryz.checked.prog.unfollowed 3)=true:=by kernel_rfl
theorem NT:(Rows.notesStayRow.recurses == Tryz.checked.prog.recurses 3)=true:=by kernel_rfl
theorem NS:(Rows.notesStayRow.named == Tryz.checked.prog.varsNamed 3)=true:=by kernel_rfl
theorem CC:joinedFacts Tryz.checked.prog 3 Tryz.f3 Rows.notesStaySpec Rows.notesStayRow=true:=by
 unfold joinedFacts;rw [NV,NU,NT,NS]
 kernel_rfl
end Go.Proofs.YtcjiapphbpiffaaGreatDoor
