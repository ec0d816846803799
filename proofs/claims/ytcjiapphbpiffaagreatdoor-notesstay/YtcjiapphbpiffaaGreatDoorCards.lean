/-
  DERIVED. GIVEN WITH THE SEED: THE CARDS: each row of YtcjiapphbpiffaaGreatDoorRows.lean that lists a variable, with what it lists TIED to the program's text (the seventh form; the later family's looks); each row that meets fmt, with fmt's text TOLD by the authors' own Lean function (tested against real Go, not proved from fmt's source: count such statements apart). THE CARD IS WHAT COUNTS. Prove the row's statement (the work); the ties are given (YtcjiapphbpiffaaGreatDoorTie.lean); close each card by the builder's one call (the guide's Derived/Test/ToyasCard.lean, 'card_holds'). Laid BY PROGRAM, IN A SANDBOX (cutbox-door.mjs). By AI agents, Wed Nov 11 2026. No macro, syntax, notation, axiom, sorry.
-/
import Derived.Test.YtcjiapphbpiffaaGreatDoorRows
import GoSem.ClaimSeven
namespace Go.Proofs.YtcjiapphbpiffaaGreatDoor
namespace Rows

/-- THE TIED CARD OF 'colophonlaw19.NotesStay'. -/
def notesStayCard : Claim7 := { stood := { row := notesStayRow, standIns := [], harness := (true, "b7529a756887dccfb87315042dc5e3a9041c8603ebc32389f42a3684baa4baac"), looks := true }, kinds := [], alts := [], laidByText := true, laidKinds := [.data, .data, .handle, .data, .data, .data, .pinned], laidTests := true, laidLooks := .later }
def NotesStayCardSaid : Prop := Claim7.holds Tryz.pinned (.plain (OpenSpec.ofChange notesStaySpec)) notesStayCard

/-- THE SECOND FORM's CARD OF 'colophonlaw19.NotesStay'. -/
def notesStayUptoCard : Claim7 := { stood := { row := notesStayUptoRow, standIns := [], harness := (true, "b7529a756887dccfb87315042dc5e3a9041c8603ebc32389f42a3684baa4baac"), looks := true }, kinds := [], alts := [], laidByText := true, laidKinds := [.data, .data, .handle, .data, .data, .data, .pinned], laidTests := true, laidLooks := .later }
def NotesStayUptoCardSaid : Prop := Claim7.holds Tryz.pinned (.plain (OpenSpec.upto notesStaySpec)) notesStayUptoCard
end Rows
end Go.Proofs.YtcjiapphbpiffaaGreatDoor
