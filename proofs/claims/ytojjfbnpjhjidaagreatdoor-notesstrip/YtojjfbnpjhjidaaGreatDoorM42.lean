import Derived.Test.YtojjfbnpjhjidaaGreatDoorRows
import Derived.Test.YtojjfbnpjhjidaaGreatDoorChecked
import Derived.ProofKit
import Derived.OpenShut
import Derived.ChangeOld
import Derived.Lay
import Derived.SevenTiedAt
import Derived.Stop.Joined
import Derived.Lib.SmallJoins
set_option linter.unusedVariables false
set_option linter.unusedSimpArgs false
namespace Go.Proofs.YtojjfbnpjhjidaaGreatDoor
open Go.ChangeShapes Go.WideShapes Go.ChangeAt Go.RowKit
theorem nspw_1 : (Rows.notesStripRow.inPlace == Tryz.checked.prog.inPlace 4) = true := by kernel_rfl
theorem nspw_2 : (Rows.notesStripRow.unfollowed == Tryz.checked.prog.unfollowed 4) = true := by kernel_rfl
theorem nspw_3 : (Rows.notesStripRow.recurses == Tryz.checked.prog.recurses 4) = true := by kernel_rfl
theorem nspw_4 : (Rows.notesStripRow.named == Tryz.checked.prog.varsNamed 4) = true := by kernel_rfl
theorem nspw_join : joinedFacts Tryz.checked.prog 4 Tryz.f4 Rows.notesStripSpec Rows.notesStripRow = true := by
  unfold joinedFacts
  rw [nspw_1, nspw_2, nspw_3, nspw_4]
  kernel_rfl
end Go.Proofs.YtojjfbnpjhjidaaGreatDoor
