import Derived.Test.YtacohdpndpliaaaGreatDoorM01
import Derived.Test.YtacohdpndpliaaaGreatDoorRows
import Derived.Test.YtacohdpndpliaaaGreatDoorChecked
import Derived.ProofKit
import Derived.OpenShut
import Derived.ChangeOld
import Derived.Lay
import Derived.SevenTiedAt
import Derived.Stop.Joined
import Derived.Lib.SmallJoins
set_option linter.all false
namespace Go.Proofs.YtacohdpndpliaaaGreatDoor
open Go.ChangeShapes Go.WideShapes Go.ChangeAt Go.RowKit
theorem Oj:(Rows.formatTwiceRow.inPlace == Tryz.checked.prog.inPlace 5)=true:=by kernel_rfl
theorem Oi:(Rows.formatTwiceRow.unfollowed == Tryz.checked.prog.unfollowed 5)=true:=by kernel_rfl
theorem Oh:(Rows.formatTwiceRow.recurses == Tryz.checked.prog.recurses 5)=true:=by kernel_rfl
theorem Og:(Rows.formatTwiceRow.named == Tryz.checked.prog.varsNamed 5)=true:=by kernel_rfl
theorem Fe:joinedFacts Tryz.checked.prog 5 Tryz.f5 Rows.formatTwiceSpec Rows.formatTwiceRow=true:=by
 unfold joinedFacts;rw [Oj,Oi,Oh,Og]
 kernel_rfl
end Go.Proofs.YtacohdpndpliaaaGreatDoor
