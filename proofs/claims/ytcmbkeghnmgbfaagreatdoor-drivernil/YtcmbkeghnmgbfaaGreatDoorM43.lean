import Derived.Test.YtcmbkeghnmgbfaaGreatDoorM01
import Derived.Test.YtcmbkeghnmgbfaaGreatDoorChecked
import Derived.ProofKit
import Derived.OpenShut
import Derived.ChangeOld
import Derived.Lay
import Derived.SevenTiedAt
import Derived.Stop.Joined
import Derived.Lib.SmallJoins
set_option linter.all false
namespace Go.Proofs.YtcmbkeghnmgbfaaGreatDoor
open Go.ChangeShapes Go.WideShapes Go.ChangeAt Go.RowKit
theorem I4:(Rows.driverNilRow.inPlace==Tryz.checked.prog.inPlace 3)=true:=by kernel_rfl
theorem I3:(Rows.driverNilRow.unfollowed==Tryz.checked.prog.unfollowed 3)=true:=by kernel_rfl
theorem I2:(Rows.driverNilRow.recurses==Tryz.checked.prog.recurses 3)=true:=by kernel_rfl
theorem I1:(Rows.driverNilRow.named==Tryz.checked.prog.varsNamed 3)=true:=by kernel_rfl
theorem Bs:joinedFacts Tryz.checked.prog 3 Tryz.f3 Rows.driverNilSpec Rows.driverNilRow=true:=by
 unfold joinedFacts;rw[I4,I3,I2,I1]
 kernel_rfl
