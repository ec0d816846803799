/-
  DERIVED. GIVEN WITH THE SEED: THE PROGRAM's TIES (one call each: nine closed facts by the kernel) AND EACH ROW's TIE, after the 31st guide's Derived/Test/Toyas{Tie, Card}.lean. No idea stands in it: it is a product of the set-up. Laid BY PROGRAM, IN A SANDBOX (cutbox-door.mjs). By AI agents, Wed Nov 11 2026. No macro, syntax, notation, axiom, sorry.
-/
import Derived.Test.YtlohgdblcbkiiaaDoorRows
import Derived.LaidByTextLater
import Derived.SevenTiedAt
import Derived.LaidSub
import Derived.LaidOnce
namespace Go.Proofs.YtlohgdblcbkiiaaDoor
open Go
set_option maxRecDepth 100000
theorem seatTie1 : Tryd.prog.laidByTextLater [("colophon/width.spans", Rows.laid_colophon_width_spans), ("colophon/class.spans", Rows.laid_colophon_class_spans), ("colophon/class.words", Rows.laid_colophon_class_words), ("colophon/class.signs", Rows.laid_colophon_class_signs)] [.data, .data, .data, .data] true :=
  Program.laidByTextLater_by_one 65 8 61 (by kernel_rfl) (by kernel_rfl) (by kernel_rfl) (by kernel_rfl) (by kernel_rfl) (by kernel_rfl) (fun _ _ => by kernel_rfl)
theorem noOwnUnsafe : Tryd.pinned.checked.prog.headLifts.contains "ownunsafe" = false := by kernel_rfl
theorem tie : Tryd.prog.laidByTextLater [("colophon/class.spans", Rows.laid_colophon_class_spans), ("colophon/class.words", Rows.laid_colophon_class_words), ("colophon/class.signs", Rows.laid_colophon_class_signs)] [.data, .data, .data] true :=
  Program.laidByTextLater.sub seatTie1 ["colophon/class.spans", "colophon/class.words", "colophon/class.signs"] (by kernel_rfl) (by kernel_rfl)
theorem classKeys_row_tie : Rows.classKeysRow.laidByTextAt .later Tryd.pinned [.data, .data, .data] true :=
  OpenClaim.laidByTextAt_later rfl rfl tie noOwnUnsafe
theorem classPoint_row_tie : Rows.classPointRow.laidByTextAt .later Tryd.pinned [.data, .data, .data] true :=
  OpenClaim.laidByTextAt_later rfl rfl tie noOwnUnsafe
theorem classTexts_row_tie : Rows.classTextsRow.laidByTextAt .later Tryd.pinned [.data, .data, .data] true :=
  OpenClaim.laidByTextAt_later rfl rfl tie noOwnUnsafe
theorem classSigns_row_tie : Rows.classSignsRow.laidByTextAt .later Tryd.pinned [.data, .data, .data] true :=
  OpenClaim.laidByTextAt_later rfl rfl tie noOwnUnsafe
theorem tie2 : Tryd.prog.laidByTextLater [("colophon/width.spans", Rows.laid_colophon_width_spans), ("colophon/class.spans", Rows.laid_colophon_class_spans), ("colophon/class.words", Rows.laid_colophon_class_words), ("colophon/class.signs", Rows.laid_colophon_class_signs)] [.data, .data, .data, .data] true :=
  Program.laidByTextLater.sub seatTie1 ["colophon/width.spans", "colophon/class.spans", "colophon/class.words", "colophon/class.signs"] (by kernel_rfl) (by kernel_rfl)
theorem classTable_row_tie : Rows.classTableRow.laidByTextAt .later Tryd.pinned [.data, .data, .data, .data] true :=
  OpenClaim.laidByTextAt_later rfl rfl tie2 noOwnUnsafe
theorem classNames_row_tie : Rows.classNamesRow.laidByTextAt .later Tryd.pinned [.data, .data, .data, .data] true :=
  OpenClaim.laidByTextAt_later rfl rfl tie2 noOwnUnsafe
theorem classKeysUpto_row_tie : Rows.classKeysUptoRow.laidByTextAt .later Tryd.pinned [.data, .data, .data] true :=
  OpenClaim.laidByTextAt_later rfl rfl tie noOwnUnsafe
theorem classPointUpto_row_tie : Rows.classPointUptoRow.laidByTextAt .later Tryd.pinned [.data, .data, .data] true :=
  OpenClaim.laidByTextAt_later rfl rfl tie noOwnUnsafe
theorem classTableUpto_row_tie : Rows.classTableUptoRow.laidByTextAt .later Tryd.pinned [.data, .data, .data, .data] true :=
  OpenClaim.laidByTextAt_later rfl rfl tie2 noOwnUnsafe
theorem classTextsUpto_row_tie : Rows.classTextsUptoRow.laidByTextAt .later Tryd.pinned [.data, .data, .data] true :=
  OpenClaim.laidByTextAt_later rfl rfl tie noOwnUnsafe
theorem classNamesUpto_row_tie : Rows.classNamesUptoRow.laidByTextAt .later Tryd.pinned [.data, .data, .data, .data] true :=
  OpenClaim.laidByTextAt_later rfl rfl tie2 noOwnUnsafe
theorem classSignsUpto_row_tie : Rows.classSignsUptoRow.laidByTextAt .later Tryd.pinned [.data, .data, .data] true :=
  OpenClaim.laidByTextAt_later rfl rfl tie noOwnUnsafe
end Go.Proofs.YtlohgdblcbkiiaaDoor
