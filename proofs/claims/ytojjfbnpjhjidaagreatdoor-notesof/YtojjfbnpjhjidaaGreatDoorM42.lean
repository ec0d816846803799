import Derived.Test.YtojjfbnpjhjidaaGreatDoorRows
import Derived.Test.YtojjfbnpjhjidaaGreatDoorChecked
import Derived.ProofKit
import Derived.OpenShut
import Derived.ChangeOld
import Derived.Lay
import Derived.SevenTiedAt
import Derived.Stop.Joined
import Derived.Lib.SmallJoins
set_option linter.unusedVariables false
set_option linter.unusedSimpArgs false
namespace Go.Proofs.YtojjfbnpjhjidaaGreatDoor
open Go.ChangeShapes Go.WideShapes Go.ChangeAt Go.RowKit
theorem nofw_1 : (Rows.notesOfRow.inPlace == Tryz.checked.prog.inPlace 3) = true := by kernel_rfl
theorem nofw_2 : (Rows.notesOfRow.unfollowed == Tryz.checked.prog.unfollowed 3) = true := by kernel_rfl
theorem nofw_3 : (Rows.notesOfRow.recurses == Tryz.checked.prog.recurses 3) = true := by kernel_rfl
theorem nofw_4 : (Rows.notesOfRow.named == Tryz.checked.prog.varsNamed 3) = true := by kernel_rfl
theorem nofw_join : joinedFacts Tryz.checked.prog 3 Tryz.f3 Rows.notesOfSpec Rows.notesOfRow = true := by
  unfold joinedFacts
  rw [nofw_1, nofw_2, nofw_3, nofw_4]
  kernel_rfl
end Go.Proofs.YtojjfbnpjhjidaaGreatDoor
