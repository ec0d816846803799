/-
  DERIVED. GIVEN WITH THE SEED: THE CARDS: each row of YtlohgdblcbkiiaaDoorRows.lean that lists a variable, with what it lists TIED to the program's text (the seventh form; the later family's looks); each row that meets fmt, with fmt's text TOLD by the authors' own Lean function (tested against real Go, not proved from fmt's source: count such statements apart). THE CARD IS WHAT COUNTS. Prove the row's statement (the work); the ties are given (YtlohgdblcbkiiaaDoorTie.lean); close each card by the builder's one call (the guide's Derived/Test/ToyasCard.lean, 'card_holds'). Laid BY PROGRAM, IN A SANDBOX (cutbox-door.mjs). By AI agents, Wed Nov 11 2026. No macro, syntax, notation, axiom, sorry.
-/
import Derived.Test.YtlohgdblcbkiiaaDoorRows
import GoSem.ClaimSeven
namespace Go.Proofs.YtlohgdblcbkiiaaDoor
namespace Rows

/-- THE TIED CARD OF 'colophonlaw04.ClassKeys'. -/
def classKeysCard : Claim7 := { stood := { row := classKeysRow, standIns := [], harness := (true, "ae202284dc66b11adc999b7568c1042f518800a70f2901d3c29b41acde041b3a"), looks := false }, kinds := [], alts := [], laidByText := true, laidKinds := [.data, .data, .data], laidTests := true, laidLooks := .later }
def ClassKeysCardSaid : Prop := Claim7.holds Tryd.pinned (.plain (OpenSpec.ofChange classKeysSpec)) classKeysCard

/-- THE TIED CARD OF 'colophonlaw04.ClassPoint'. -/
def classPointCard : Claim7 := { stood := { row := classPointRow, standIns := [], harness := (true, "ae202284dc66b11adc999b7568c1042f518800a70f2901d3c29b41acde041b3a"), looks := false }, kinds := [], alts := [], laidByText := true, laidKinds := [.data, .data, .data], laidTests := true, laidLooks := .later }
def ClassPointCardSaid : Prop := Claim7.holds Tryd.pinned (.plain (OpenSpec.ofChange classPointSpec)) classPointCard

/-- THE TIED CARD OF 'colophonlaw04.ClassTable'. -/
def classTableCard : Claim7 := { stood := { row := classTableRow, standIns := [], harness := (true, "ae202284dc66b11adc999b7568c1042f518800a70f2901d3c29b41acde041b3a"), looks := false }, kinds := [], alts := [], laidByText := true, laidKinds := [.data, .data, .data, .data], laidTests := true, laidLooks := .later }
def ClassTableCardSaid : Prop := Claim7.holds Tryd.pinned (.plain (OpenSpec.ofChange classTableSpec)) classTableCard

/-- THE TIED CARD OF 'colophonlaw04.ClassTexts'. -/
def classTextsCard : Claim7 := { stood := { row := classTextsRow, standIns := [], harness := (true, "ae202284dc66b11adc999b7568c1042f518800a70f2901d3c29b41acde041b3a"), looks := false }, kinds := [], alts := [], laidByText := true, laidKinds := [.data, .data, .data], laidTests := true, laidLooks := .later }
def ClassTextsCardSaid : Prop := Claim7.holds Tryd.pinned (.plain (OpenSpec.ofChange classTextsSpec)) classTextsCard

/-- THE TIED CARD OF 'colophonlaw04.ClassNames'. -/
def classNamesCard : Claim7 := { stood := { row := classNamesRow, standIns := [], harness := (true, "ae202284dc66b11adc999b7568c1042f518800a70f2901d3c29b41acde041b3a"), looks := false }, kinds := [], alts := [], laidByText := true, laidKinds := [.data, .data, .data, .data], laidTests := true, laidLooks := .later }
def ClassNamesCardSaid : Prop := Claim7.holds Tryd.pinned (.plain (OpenSpec.ofChange classNamesSpec)) classNamesCard

/-- THE TIED CARD OF 'colophonlaw04.ClassSigns'. -/
def classSignsCard : Claim7 := { stood := { row := classSignsRow, standIns := [], harness := (true, "ae202284dc66b11adc999b7568c1042f518800a70f2901d3c29b41acde041b3a"), looks := false }, kinds := [], alts := [], laidByText := true, laidKinds := [.data, .data, .data], laidTests := true, laidLooks := .later }
def ClassSignsCardSaid : Prop := Claim7.holds Tryd.pinned (.plain (OpenSpec.ofChange classSignsSpec)) classSignsCard

/-- THE SECOND FORM's CARD OF 'colophonlaw04.ClassKeys'. -/
def classKeysUptoCard : Claim7 := { stood := { row := classKeysUptoRow, standIns := [], harness := (true, "ae202284dc66b11adc999b7568c1042f518800a70f2901d3c29b41acde041b3a"), looks := false }, kinds := [], alts := [], laidByText := true, laidKinds := [.data, .data, .data], laidTests := true, laidLooks := .later }
def ClassKeysUptoCardSaid : Prop := Claim7.holds Tryd.pinned (.plain (OpenSpec.upto classKeysSpec)) classKeysUptoCard

/-- THE SECOND FORM's CARD OF 'colophonlaw04.ClassPoint'. -/
def classPointUptoCard : Claim7 := { stood := { row := classPointUptoRow, standIns := [], harness := (true, "ae202284dc66b11adc999b7568c1042f518800a70f2901d3c29b41acde041b3a"), looks := false }, kinds := [], alts := [], laidByText := true, laidKinds := [.data, .data, .data], laidTests := true, laidLooks := .later }
def ClassPointUptoCardSaid : Prop := Claim7.holds Tryd.pinned (.plain (OpenSpec.upto classPointSpec)) classPointUptoCard

/-- THE SECOND FORM's CARD OF 'colophonlaw04.ClassTable'. -/
def classTableUptoCard : Claim7 := { stood := { row := classTableUptoRow, standIns := [], harness := (true, "ae202284dc66b11adc999b7568c1042f518800a70f2901d3c29b41acde041b3a"), looks := false }, kinds := [], alts := [], laidByText := true, laidKinds := [.data, .data, .data, .data], laidTests := true, laidLooks := .later }
def ClassTableUptoCardSaid : Prop := Claim7.holds Tryd.pinned (.plain (OpenSpec.upto classTableSpec)) classTableUptoCard

/-- THE SECOND FORM's CARD OF 'colophonlaw04.ClassTexts'. -/
def classTextsUptoCard : Claim7 := { stood := { row := classTextsUptoRow, standIns := [], harness := (true, "ae202284dc66b11adc999b7568c1042f518800a70f2901d3c29b41acde041b3a"), looks := false }, kinds := [], alts := [], laidByText := true, laidKinds := [.data, .data, .data], laidTests := true, laidLooks := .later }
def ClassTextsUptoCardSaid : Prop := Claim7.holds Tryd.pinned (.plain (OpenSpec.upto classTextsSpec)) classTextsUptoCard

/-- THE SECOND FORM's CARD OF 'colophonlaw04.ClassNames'. -/
def classNamesUptoCard : Claim7 := { stood := { row := classNamesUptoRow, standIns := [], harness := (true, "ae202284dc66b11adc999b7568c1042f518800a70f2901d3c29b41acde041b3a"), looks := false }, kinds := [], alts := [], laidByText := true, laidKinds := [.data, .data, .data, .data], laidTests := true, laidLooks := .later }
def ClassNamesUptoCardSaid : Prop := Claim7.holds Tryd.pinned (.plain (OpenSpec.upto classNamesSpec)) classNamesUptoCard

/-- THE SECOND FORM's CARD OF 'colophonlaw04.ClassSigns'. -/
def classSignsUptoCard : Claim7 := { stood := { row := classSignsUptoRow, standIns := [], harness := (true, "ae202284dc66b11adc999b7568c1042f518800a70f2901d3c29b41acde041b3a"), looks := false }, kinds := [], alts := [], laidByText := true, laidKinds := [.data, .data, .data], laidTests := true, laidLooks := .later }
def ClassSignsUptoCardSaid : Prop := Claim7.holds Tryd.pinned (.plain (OpenSpec.upto classSignsSpec)) classSignsUptoCard
end Rows
end Go.Proofs.YtlohgdblcbkiiaaDoor
