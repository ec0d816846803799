/-
  DERIVED. GIVEN WITH THE SEED: THE CARDS: each row of YtfkegaencoodbaaDoorRows.lean that lists a variable, with what it lists TIED to the program's text (the seventh form; the later family's looks); each row that meets fmt, with fmt's text TOLD by the authors' own Lean function (tested against real Go, not proved from fmt's source: count such statements apart). THE CARD IS WHAT COUNTS. Prove the row's statement (the work); the ties are given (YtfkegaencoodbaaDoorTie.lean); close each card by the builder's one call (the guide's Derived/Test/ToyasCard.lean, 'card_holds'). Laid BY PROGRAM, IN A SANDBOX (cutbox-door.mjs). By AI agents, Wed Nov 11 2026. No macro, syntax, notation, axiom, sorry.
-/
import Derived.Test.YtfkegaencoodbaaDoorRows
import GoSem.ClaimSeven
namespace Go.Proofs.YtfkegaencoodbaaDoor
namespace Rows

/-- THE TIED CARD OF 'colophonlaw20.ReportShows'. -/
def reportShowsCard : Claim7 := { stood := { row := reportShowsRow, standIns := [], harness := (true, "c43b89668eaa0eacead65349b92991bb0702e5c9d9e6b7d285a99138f930ac59"), looks := true }, kinds := [], alts := [], laidByText := true, laidKinds := [.data, .data, .data, .data, .handle], laidTests := true, laidLooks := .later }
def ReportShowsCardSaid : Prop := Claim7.holds Tryd.pinned (.plain (OpenSpec.ofChange reportShowsSpec)) reportShowsCard

/-- THE TIED CARD OF 'colophonlaw20.ReportWords'. -/
def reportWordsCard : Claim7 := { stood := { row := reportWordsRow, standIns := [], harness := (true, "c43b89668eaa0eacead65349b92991bb0702e5c9d9e6b7d285a99138f930ac59"), looks := true }, kinds := [], alts := [], laidByText := true, laidKinds := [.data, .data, .data, .data, .handle], laidTests := true, laidLooks := .later }
def ReportWordsCardSaid : Prop := Claim7.holds Tryd.pinned (.plain (OpenSpec.ofChange reportWordsSpec)) reportWordsCard

/-- THE TIED CARD OF 'colophonlaw20.ReportMarks'. -/
def reportMarksCard : Claim7 := { stood := { row := reportMarksRow, standIns := [], harness := (true, "c43b89668eaa0eacead65349b92991bb0702e5c9d9e6b7d285a99138f930ac59"), looks := true }, kinds := [], alts := [], laidByText := true, laidKinds := [.data, .data, .data, .data, .handle], laidTests := true, laidLooks := .later }
def ReportMarksCardSaid : Prop := Claim7.holds Tryd.pinned (.plain (OpenSpec.ofChange reportMarksSpec)) reportMarksCard

/-- THE SECOND FORM's CARD OF 'colophonlaw20.ReportShows'. -/
def reportShowsUptoCard : Claim7 := { stood := { row := reportShowsUptoRow, standIns := [], harness := (true, "c43b89668eaa0eacead65349b92991bb0702e5c9d9e6b7d285a99138f930ac59"), looks := true }, kinds := [], alts := [], laidByText := true, laidKinds := [.data, .data, .data, .data, .handle], laidTests := true, laidLooks := .later }
def ReportShowsUptoCardSaid : Prop := Claim7.holds Tryd.pinned (.plain (OpenSpec.upto reportShowsSpec)) reportShowsUptoCard

/-- THE SECOND FORM's CARD OF 'colophonlaw20.ReportWords'. -/
def reportWordsUptoCard : Claim7 := { stood := { row := reportWordsUptoRow, standIns := [], harness := (true, "c43b89668eaa0eacead65349b92991bb0702e5c9d9e6b7d285a99138f930ac59"), looks := true }, kinds := [], alts := [], laidByText := true, laidKinds := [.data, .data, .data, .data, .handle], laidTests := true, laidLooks := .later }
def ReportWordsUptoCardSaid : Prop := Claim7.holds Tryd.pinned (.plain (OpenSpec.upto reportWordsSpec)) reportWordsUptoCard

/-- THE SECOND FORM's CARD OF 'colophonlaw20.ReportMarks'. -/
def reportMarksUptoCard : Claim7 := { stood := { row := reportMarksUptoRow, standIns := [], harness := (true, "c43b89668eaa0eacead65349b92991bb0702e5c9d9e6b7d285a99138f930ac59"), looks := true }, kinds := [], alts := [], laidByText := true, laidKinds := [.data, .data, .data, .data, .handle], laidTests := true, laidLooks := .later }
def ReportMarksUptoCardSaid : Prop := Claim7.holds Tryd.pinned (.plain (OpenSpec.upto reportMarksSpec)) reportMarksUptoCard
end Rows
end Go.Proofs.YtfkegaencoodbaaDoor
