/-
  DERIVED. GIVEN WITH THE SEED: THE CARDS: each row of YtkgemlalbhhakaaDoorRows.lean that lists a variable, with what it lists TIED to the program's text (the seventh form; the later family's looks); each row that meets fmt, with fmt's text TOLD by the authors' own Lean function (tested against real Go, not proved from fmt's source: count such statements apart). THE CARD IS WHAT COUNTS. Prove the row's statement (the work); the ties are given (YtkgemlalbhhakaaDoorTie.lean); close each card by the builder's one call (the guide's Derived/Test/ToyasCard.lean, 'card_holds'). Laid BY PROGRAM, IN A SANDBOX (cutbox-door.mjs). By AI agents, Wed Nov 11 2026. No macro, syntax, notation, axiom, sorry.
-/
import Derived.Test.YtkgemlalbhhakaaDoorRows
import GoSem.ClaimSeven
namespace Go.Proofs.YtkgemlalbhhakaaDoor
namespace Rows

/-- THE TIED CARD OF 'colophonlaw02.WidthOf'. -/
def widthOfCard : Claim7 := { stood := { row := widthOfRow, standIns := [], harness := (true, "39c1e981edf8177eb53fdb5c3ed5f475e0994ebba3c1bec491579228eb1252c3"), looks := false }, kinds := [], alts := [], laidByText := true, laidKinds := [.data], laidTests := true, laidLooks := .later }
def WidthOfCardSaid : Prop := Claim7.holds Tryd.pinned (.plain (OpenSpec.ofChange widthOfSpec)) widthOfCard

/-- THE TIED CARD OF 'colophonlaw02.WidthTable'. -/
def widthTableCard : Claim7 := { stood := { row := widthTableRow, standIns := [], harness := (true, "39c1e981edf8177eb53fdb5c3ed5f475e0994ebba3c1bec491579228eb1252c3"), looks := false }, kinds := [], alts := [], laidByText := true, laidKinds := [.data], laidTests := true, laidLooks := .later }
def WidthTableCardSaid : Prop := Claim7.holds Tryd.pinned (.plain (OpenSpec.ofChange widthTableSpec)) widthTableCard

/-- THE TIED CARD OF 'colophonlaw02.WidthTexts'. -/
def widthTextsCard : Claim7 := { stood := { row := widthTextsRow, standIns := [], harness := (true, "39c1e981edf8177eb53fdb5c3ed5f475e0994ebba3c1bec491579228eb1252c3"), looks := false }, kinds := [], alts := [], laidByText := true, laidKinds := [.data], laidTests := true, laidLooks := .later }
def WidthTextsCardSaid : Prop := Claim7.holds Tryd.pinned (.plain (OpenSpec.ofChange widthTextsSpec)) widthTextsCard

/-- THE TIED CARD OF 'colophonlaw02.WidthCuts'. -/
def widthCutsCard : Claim7 := { stood := { row := widthCutsRow, standIns := [], harness := (true, "39c1e981edf8177eb53fdb5c3ed5f475e0994ebba3c1bec491579228eb1252c3"), looks := false }, kinds := [], alts := [], laidByText := true, laidKinds := [.data], laidTests := true, laidLooks := .later }
def WidthCutsCardSaid : Prop := Claim7.holds Tryd.pinned (.plain (OpenSpec.ofChange widthCutsSpec)) widthCutsCard

/-- THE SECOND FORM's CARD OF 'colophonlaw02.WidthOf'. -/
def widthOfUptoCard : Claim7 := { stood := { row := widthOfUptoRow, standIns := [], harness := (true, "39c1e981edf8177eb53fdb5c3ed5f475e0994ebba3c1bec491579228eb1252c3"), looks := false }, kinds := [], alts := [], laidByText := true, laidKinds := [.data], laidTests := true, laidLooks := .later }
def WidthOfUptoCardSaid : Prop := Claim7.holds Tryd.pinned (.plain (OpenSpec.upto widthOfSpec)) widthOfUptoCard

/-- THE SECOND FORM's CARD OF 'colophonlaw02.WidthTable'. -/
def widthTableUptoCard : Claim7 := { stood := { row := widthTableUptoRow, standIns := [], harness := (true, "39c1e981edf8177eb53fdb5c3ed5f475e0994ebba3c1bec491579228eb1252c3"), looks := false }, kinds := [], alts := [], laidByText := true, laidKinds := [.data], laidTests := true, laidLooks := .later }
def WidthTableUptoCardSaid : Prop := Claim7.holds Tryd.pinned (.plain (OpenSpec.upto widthTableSpec)) widthTableUptoCard

/-- THE SECOND FORM's CARD OF 'colophonlaw02.WidthTexts'. -/
def widthTextsUptoCard : Claim7 := { stood := { row := widthTextsUptoRow, standIns := [], harness := (true, "39c1e981edf8177eb53fdb5c3ed5f475e0994ebba3c1bec491579228eb1252c3"), looks := false }, kinds := [], alts := [], laidByText := true, laidKinds := [.data], laidTests := true, laidLooks := .later }
def WidthTextsUptoCardSaid : Prop := Claim7.holds Tryd.pinned (.plain (OpenSpec.upto widthTextsSpec)) widthTextsUptoCard

/-- THE SECOND FORM's CARD OF 'colophonlaw02.WidthCuts'. -/
def widthCutsUptoCard : Claim7 := { stood := { row := widthCutsUptoRow, standIns := [], harness := (true, "39c1e981edf8177eb53fdb5c3ed5f475e0994ebba3c1bec491579228eb1252c3"), looks := false }, kinds := [], alts := [], laidByText := true, laidKinds := [.data], laidTests := true, laidLooks := .later }
def WidthCutsUptoCardSaid : Prop := Claim7.holds Tryd.pinned (.plain (OpenSpec.upto widthCutsSpec)) widthCutsUptoCard
end Rows
end Go.Proofs.YtkgemlalbhhakaaDoor
