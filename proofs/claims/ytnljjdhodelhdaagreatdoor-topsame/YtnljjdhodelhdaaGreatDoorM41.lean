import Derived.Test.YtnljjdhodelhdaaGreatDoorM01
import Derived.Test.YtnljjdhodelhdaaGreatDoorRows
import Derived.Test.YtnljjdhodelhdaaGreatDoorChecked
import Derived.ProofKit
import Derived.OpenShut
import Derived.ChangeOld
import Derived.Lay
import Derived.SevenTiedAt
import Derived.Stop.Joined
import Derived.Lib.SmallJoins
set_option linter.unusedVariables false
set_option linter.unusedSimpArgs false
namespace Go.Proofs.YtnljjdhodelhdaaGreatDoor
open Go.ChangeShapes Go.WideShapes Go.ChangeAt Go.RowKit
theorem OP:(Rows.topSameRow.inPlace == Tryz.checked.prog.inPlace 3)=true:=by kernel_rfl
theorem OO:(Rows.topSameRow.unfollowed == Tryz.checked.prog.unfollowed 3)=true:=by kernel_rfl
theorem ON:(Rows.topSameRow.recurses == Tryz.checked.prog.recurses 3)=true:=by kernel_rfl
theorem OM:(Rows.topSameRow.named == Tryz.checked.prog.varsNamed 3)=true:=by kernel_rfl
theorem Fq:joinedFacts Tryz.checked.prog 3 Tryz.f3 Rows.topSameSpec Rows.topSameRow=true:=by
 unfold joinedFacts;rw [OP,OO,ON,OM]
 kernel_rfl
end Go.Proofs.YtnljjdhodelhdaaGreatDoor
