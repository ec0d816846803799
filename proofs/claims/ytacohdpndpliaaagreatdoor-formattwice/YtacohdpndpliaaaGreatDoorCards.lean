/-
  DERIVED. GIVEN WITH THE SEED: THE CARDS: each row of YtacohdpndpliaaaGreatDoorRows.lean that lists a variable, with what it lists TIED to the program's text (the seventh form; the later family's looks); each row that meets fmt, with fmt's text TOLD by the authors' own Lean function (tested against real Go, not proved from fmt's source: count such statements apart). THE CARD IS WHAT COUNTS. Prove the row's statement (the work); the ties are given (YtacohdpndpliaaaGreatDoorTie.lean); close each card by the builder's one call (the guide's Derived/Test/ToyasCard.lean, 'card_holds'). Laid BY PROGRAM, IN A SANDBOX (cutbox-door.mjs). By AI agents, Wed Nov 11 2026. No macro, syntax, notation, axiom, sorry.
-/
import Derived.Test.YtacohdpndpliaaaGreatDoorRows
import GoSem.ClaimSeven
namespace Go.Proofs.YtacohdpndpliaaaGreatDoor
namespace Rows

/-- THE TIED CARD OF 'colophonlaw16.FormatLays'. -/
def formatLaysCard : Claim7 := { stood := { row := formatLaysRow, standIns := [], harness := (true, "7845114a224a4e2612ad9ccd47c43ae564f99739ddf0d5d826da5904834169d0"), looks := true }, kinds := [], alts := [], laidByText := true, laidKinds := [.data, .data, .handle, .data, .data, .data, .pinned], laidTests := true, laidLooks := .later }
def FormatLaysCardSaid : Prop := Claim7.holds Tryz.pinned (.plain (OpenSpec.ofChange formatLaysSpec)) formatLaysCard

/-- THE TIED CARD OF 'colophonlaw16.FormatPrints'. -/
def formatPrintsCard : Claim7 := { stood := { row := formatPrintsRow, standIns := [], harness := (true, "7845114a224a4e2612ad9ccd47c43ae564f99739ddf0d5d826da5904834169d0"), looks := true }, kinds := [], alts := [], laidByText := true, laidKinds := [.data, .data, .handle, .data, .data, .data, .pinned], laidTests := true, laidLooks := .later }
def FormatPrintsCardSaid : Prop := Claim7.holds Tryz.pinned (.plain (OpenSpec.ofChange formatPrintsSpec)) formatPrintsCard

/-- THE TIED CARD OF 'colophonlaw16.FormatTwice'. -/
def formatTwiceCard : Claim7 := { stood := { row := formatTwiceRow, standIns := [], harness := (true, "7845114a224a4e2612ad9ccd47c43ae564f99739ddf0d5d826da5904834169d0"), looks := true }, kinds := [], alts := [], laidByText := true, laidKinds := [.data, .data, .handle, .data, .data, .data, .pinned], laidTests := true, laidLooks := .later }
def FormatTwiceCardSaid : Prop := Claim7.holds Tryz.pinned (.plain (OpenSpec.ofChange formatTwiceSpec)) formatTwiceCard

/-- THE TIED CARD OF 'colophontop.TopSame'. -/
def topSameCard : Claim7 := { stood := { row := topSameRow, standIns := [], harness := (true, "7845114a224a4e2612ad9ccd47c43ae564f99739ddf0d5d826da5904834169d0"), looks := true }, kinds := [], alts := [], laidByText := true, laidKinds := [.data, .data, .handle, .data, .data, .data, .pinned], laidTests := true, laidLooks := .later }
def TopSameCardSaid : Prop := Claim7.holds Tryz.pinned (.plain (OpenSpec.ofChange topSameSpec)) topSameCard

/-- THE TIED CARD OF 'colophontop.TopStream'. -/
def topStreamCard : Claim7 := { stood := { row := topStreamRow, standIns := [], harness := (true, "7845114a224a4e2612ad9ccd47c43ae564f99739ddf0d5d826da5904834169d0"), looks := true }, kinds := [], alts := [], laidByText := true, laidKinds := [.data, .data, .handle, .data, .data, .data, .pinned], laidTests := true, laidLooks := .later }
def TopStreamCardSaid : Prop := Claim7.holds Tryz.pinned (.plain (OpenSpec.ofChange topStreamSpec)) topStreamCard

/-- THE SECOND FORM's CARD OF 'colophonlaw16.FormatLays'. -/
def formatLaysUptoCard : Claim7 := { stood := { row := formatLaysUptoRow, standIns := [], harness := (true, "7845114a224a4e2612ad9ccd47c43ae564f99739ddf0d5d826da5904834169d0"), looks := true }, kinds := [], alts := [], laidByText := true, laidKinds := [.data, .data, .handle, .data, .data, .data, .pinned], laidTests := true, laidLooks := .later }
def FormatLaysUptoCardSaid : Prop := Claim7.holds Tryz.pinned (.plain (OpenSpec.upto formatLaysSpec)) formatLaysUptoCard

/-- THE SECOND FORM's CARD OF 'colophonlaw16.FormatPrints'. -/
def formatPrintsUptoCard : Claim7 := { stood := { row := formatPrintsUptoRow, standIns := [], harness := (true, "7845114a224a4e2612ad9ccd47c43ae564f99739ddf0d5d826da5904834169d0"), looks := true }, kinds := [], alts := [], laidByText := true, laidKinds := [.data, .data, .handle, .data, .data, .data, .pinned], laidTests := true, laidLooks := .later }
def FormatPrintsUptoCardSaid : Prop := Claim7.holds Tryz.pinned (.plain (OpenSpec.upto formatPrintsSpec)) formatPrintsUptoCard

/-- THE SECOND FORM's CARD OF 'colophonlaw16.FormatTwice'. -/
def formatTwiceUptoCard : Claim7 := { stood := { row := formatTwiceUptoRow, standIns := [], harness := (true, "7845114a224a4e2612ad9ccd47c43ae564f99739ddf0d5d826da5904834169d0"), looks := true }, kinds := [], alts := [], laidByText := true, laidKinds := [.data, .data, .handle, .data, .data, .data, .pinned], laidTests := true, laidLooks := .later }
def FormatTwiceUptoCardSaid : Prop := Claim7.holds Tryz.pinned (.plain (OpenSpec.upto formatTwiceSpec)) formatTwiceUptoCard

/-- THE SECOND FORM's CARD OF 'colophontop.TopSame'. -/
def topSameUptoCard : Claim7 := { stood := { row := topSameUptoRow, standIns := [], harness := (true, "7845114a224a4e2612ad9ccd47c43ae564f99739ddf0d5d826da5904834169d0"), looks := true }, kinds := [], alts := [], laidByText := true, laidKinds := [.data, .data, .handle, .data, .data, .data, .pinned], laidTests := true, laidLooks := .later }
def TopSameUptoCardSaid : Prop := Claim7.holds Tryz.pinned (.plain (OpenSpec.upto topSameSpec)) topSameUptoCard

/-- THE SECOND FORM's CARD OF 'colophontop.TopStream'. -/
def topStreamUptoCard : Claim7 := { stood := { row := topStreamUptoRow, standIns := [], harness := (true, "7845114a224a4e2612ad9ccd47c43ae564f99739ddf0d5d826da5904834169d0"), looks := true }, kinds := [], alts := [], laidByText := true, laidKinds := [.data, .data, .handle, .data, .data, .data, .pinned], laidTests := true, laidLooks := .later }
def TopStreamUptoCardSaid : Prop := Claim7.holds Tryz.pinned (.plain (OpenSpec.upto topStreamSpec)) topStreamUptoCard
end Rows
end Go.Proofs.YtacohdpndpliaaaGreatDoor
