/-
  DERIVED. GIVEN WITH THE SEED: THE CARDS: each row of YtojjfbnpjhjidaaGreatDoorRows.lean that lists a variable, with what it lists TIED to the program's text (the seventh form; the later family's looks); each row that meets fmt, with fmt's text TOLD by the authors' own Lean function (tested against real Go, not proved from fmt's source: count such statements apart). THE CARD IS WHAT COUNTS. Prove the row's statement (the work); the ties are given (YtojjfbnpjhjidaaGreatDoorTie.lean); close each card by the builder's one call (the guide's Derived/Test/ToyasCard.lean, 'card_holds'). Laid BY PROGRAM, IN A SANDBOX (cutbox-door.mjs). By AI agents, Wed Nov 11 2026. No macro, syntax, notation, axiom, sorry.
-/
import Derived.Test.YtojjfbnpjhjidaaGreatDoorRows
import GoSem.ClaimSeven
namespace Go.Proofs.YtojjfbnpjhjidaaGreatDoor
namespace Rows

/-- THE TIED CARD OF 'colophonlaw19.NotesOf'. -/
def notesOfCard : Claim7 := { stood := { row := notesOfRow, standIns := [], harness := (true, "ca27fd303ddd200cce6f16e974f554a79692c2bed288ab1a9b8b5a9fe11f44fe"), looks := true }, kinds := [], alts := [], laidByText := true, laidKinds := [.data, .handle, .data, .data, .data, .pinned], laidTests := true, laidLooks := .later }
def NotesOfCardSaid : Prop := Claim7.holds Tryz.pinned (.plain (OpenSpec.ofChange notesOfSpec)) notesOfCard

/-- THE TIED CARD OF 'colophonlaw19.NotesStrip'. -/
def notesStripCard : Claim7 := { stood := { row := notesStripRow, standIns := [], harness := (true, "ca27fd303ddd200cce6f16e974f554a79692c2bed288ab1a9b8b5a9fe11f44fe"), looks := true }, kinds := [], alts := [], laidByText := true, laidKinds := [.data, .handle, .data, .data, .data, .pinned], laidTests := true, laidLooks := .later }
def NotesStripCardSaid : Prop := Claim7.holds Tryz.pinned (.plain (OpenSpec.ofChange notesStripSpec)) notesStripCard

/-- THE SECOND FORM's CARD OF 'colophonlaw19.NotesOf'. -/
def notesOfUptoCard : Claim7 := { stood := { row := notesOfUptoRow, standIns := [], harness := (true, "ca27fd303ddd200cce6f16e974f554a79692c2bed288ab1a9b8b5a9fe11f44fe"), looks := true }, kinds := [], alts := [], laidByText := true, laidKinds := [.data, .handle, .data, .data, .data, .pinned], laidTests := true, laidLooks := .later }
def NotesOfUptoCardSaid : Prop := Claim7.holds Tryz.pinned (.plain (OpenSpec.upto notesOfSpec)) notesOfUptoCard

/-- THE SECOND FORM's CARD OF 'colophonlaw19.NotesStrip'. -/
def notesStripUptoCard : Claim7 := { stood := { row := notesStripUptoRow, standIns := [], harness := (true, "ca27fd303ddd200cce6f16e974f554a79692c2bed288ab1a9b8b5a9fe11f44fe"), looks := true }, kinds := [], alts := [], laidByText := true, laidKinds := [.data, .handle, .data, .data, .data, .pinned], laidTests := true, laidLooks := .later }
def NotesStripUptoCardSaid : Prop := Claim7.holds Tryz.pinned (.plain (OpenSpec.upto notesStripSpec)) notesStripUptoCard
end Rows
end Go.Proofs.YtojjfbnpjhjidaaGreatDoor
