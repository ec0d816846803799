import Derived.Test.YtojjfbnpjhjidaaGreatDoorRows
import Derived.Test.YtojjfbnpjhjidaaGreatDoorChecked
import Derived.SevenTiedAt
set_option linter.unusedVariables false
set_option linter.unusedSimpArgs false
namespace Go.Proofs.YtojjfbnpjhjidaaGreatDoor
theorem nofk_1 : OpenClaim.wfByText (OpenSpec.ofChange Rows.notesOfSpec) Rows.notesOfRow = true := by kernel_rfl
theorem nofk_2 : Tryz.checked.prog.mainIs = some (true, "ca27fd303ddd200cce6f16e974f554a79692c2bed288ab1a9b8b5a9fe11f44fe".toList) := by kernel_rfl
theorem nofk_3 : true = Tryz.checked.prog.looks [] := by kernel_rfl
theorem nofk_4 : false = Rows.notesOfRow.goesBy Tryz.checked.prog := by kernel_rfl
end Go.Proofs.YtojjfbnpjhjidaaGreatDoor
