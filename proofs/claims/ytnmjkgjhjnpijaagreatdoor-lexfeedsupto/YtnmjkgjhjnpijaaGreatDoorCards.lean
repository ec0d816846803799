/-
  DERIVED. GIVEN WITH THE SEED: THE CARDS: each row of YtnmjkgjhjnpijaaGreatDoorRows.lean that lists a variable, with what it lists TIED to the program's text (the seventh form; the later family's looks); each row that meets fmt, with fmt's text TOLD by the authors' own Lean function (tested against real Go, not proved from fmt's source: count such statements apart). THE CARD IS WHAT COUNTS. Prove the row's statement (the work); the ties are given (YtnmjkgjhjnpijaaGreatDoorTie.lean); close each card by the builder's one call (the guide's Derived/Test/ToyasCard.lean, 'card_holds'). Laid BY PROGRAM, IN A SANDBOX (cutbox-door.mjs). By AI agents, Wed Nov 11 2026. No macro, syntax, notation, axiom, sorry.
-/
import Derived.Test.YtnmjkgjhjnpijaaGreatDoorRows
import GoSem.ClaimSeven
namespace Go.Proofs.YtnmjkgjhjnpijaaGreatDoor
namespace Rows

/-- THE TIED CARD OF 'colophonlaw11.LexFeeds'. -/
def lexFeedsCard : Claim7 := { stood := { row := lexFeedsRow, standIns := [], harness := (true, "ec4a4adfafc1ab7c889ec8fdda0fb170f42de16fd25b7014cee411417ab0f915"), looks := false }, kinds := [], alts := [], laidByText := true, laidKinds := [.data, .data, .data, .data, .pinned], laidTests := true, laidLooks := .later }
def LexFeedsCardSaid : Prop := Claim7.holds Tryz.pinned (.plain (OpenSpec.ofChange lexFeedsSpec)) lexFeedsCard

/-- THE SECOND FORM's CARD OF 'colophonlaw11.LexFeeds'. -/
def lexFeedsUptoCard : Claim7 := { stood := { row := lexFeedsUptoRow, standIns := [], harness := (true, "ec4a4adfafc1ab7c889ec8fdda0fb170f42de16fd25b7014cee411417ab0f915"), looks := false }, kinds := [], alts := [], laidByText := true, laidKinds := [.data, .data, .data, .data, .pinned], laidTests := true, laidLooks := .later }
def LexFeedsUptoCardSaid : Prop := Claim7.holds Tryz.pinned (.plain (OpenSpec.upto lexFeedsSpec)) lexFeedsUptoCard
end Rows
end Go.Proofs.YtnmjkgjhjnpijaaGreatDoor
