/-
  DERIVED. GIVEN WITH THE SEED: THE CARDS: each row of YtpdlohfdjiaegaaGreatDoorRows.lean that lists a variable, with what it lists TIED to the program's text (the seventh form; the later family's looks); each row that meets fmt, with fmt's text TOLD by the authors' own Lean function (tested against real Go, not proved from fmt's source: count such statements apart). THE CARD IS WHAT COUNTS. Prove the row's statement (the work); the ties are given (YtpdlohfdjiaegaaGreatDoorTie.lean); close each card by the builder's one call (the guide's Derived/Test/ToyasCard.lean, 'card_holds'). Laid BY PROGRAM, IN A SANDBOX (cutbox-door.mjs). By AI agents, Wed Nov 11 2026. No macro, syntax, notation, axiom, sorry.
-/
import Derived.Test.YtpdlohfdjiaegaaGreatDoorRows
import GoSem.ClaimSeven
namespace Go.Proofs.YtpdlohfdjiaegaaGreatDoor
namespace Rows

/-- THE TIED CARD OF 'colophonlaw15.StyleNames'. -/
def styleNamesCard : Claim7 := { stood := { row := styleNamesRow, standIns := [], harness := (true, "578e1a3834ba7666d9f0fd33b5d498d9dd5720c433983a585d4f19fad1170be7"), looks := false }, kinds := [], alts := [], laidByText := true, laidKinds := [.data, .data, .data, .data, .data, .pinned], laidTests := true, laidLooks := .later }
def StyleNamesCardSaid : Prop := Claim7.holds Tryz.pinned (.plain (OpenSpec.ofChange styleNamesSpec)) styleNamesCard

/-- THE TIED CARD OF 'colophonlaw15.StylePlays'. -/
def stylePlaysCard : Claim7 := { stood := { row := stylePlaysRow, standIns := [], harness := (true, "578e1a3834ba7666d9f0fd33b5d498d9dd5720c433983a585d4f19fad1170be7"), looks := false }, kinds := [], alts := [], laidByText := true, laidKinds := [.data, .data, .data, .data, .data, .pinned], laidTests := true, laidLooks := .later }
def StylePlaysCardSaid : Prop := Claim7.holds Tryz.pinned (.plain (OpenSpec.ofChange stylePlaysSpec)) stylePlaysCard

/-- THE TIED CARD OF 'colophonlaw15.StyleSound'. -/
def styleSoundCard : Claim7 := { stood := { row := styleSoundRow, standIns := [], harness := (true, "578e1a3834ba7666d9f0fd33b5d498d9dd5720c433983a585d4f19fad1170be7"), looks := false }, kinds := [], alts := [], laidByText := true, laidKinds := [.data, .data, .data, .data, .data, .pinned], laidTests := true, laidLooks := .later }
def StyleSoundCardSaid : Prop := Claim7.holds Tryz.pinned (.plain (OpenSpec.ofChange styleSoundSpec)) styleSoundCard

/-- THE TIED CARD OF 'colophonlaw15.StyleTwice'. -/
def styleTwiceCard : Claim7 := { stood := { row := styleTwiceRow, standIns := [], harness := (true, "578e1a3834ba7666d9f0fd33b5d498d9dd5720c433983a585d4f19fad1170be7"), looks := false }, kinds := [], alts := [], laidByText := true, laidKinds := [.data, .data, .data, .data, .data, .pinned], laidTests := true, laidLooks := .later }
def StyleTwiceCardSaid : Prop := Claim7.holds Tryz.pinned (.plain (OpenSpec.ofChange styleTwiceSpec)) styleTwiceCard

/-- THE TIED CARD OF 'colophonlaw15.StyleNotes'. -/
def styleNotesCard : Claim7 := { stood := { row := styleNotesRow, standIns := [], harness := (true, "578e1a3834ba7666d9f0fd33b5d498d9dd5720c433983a585d4f19fad1170be7"), looks := false }, kinds := [], alts := [], laidByText := true, laidKinds := [.data, .data, .data, .data, .data, .pinned], laidTests := true, laidLooks := .later }
def StyleNotesCardSaid : Prop := Claim7.holds Tryz.pinned (.plain (OpenSpec.ofChange styleNotesSpec)) styleNotesCard

/-- THE TIED CARD OF 'colophonlaw15.StyleNil'. -/
def styleNilCard : Claim7 := { stood := { row := styleNilRow, standIns := [], harness := (true, "578e1a3834ba7666d9f0fd33b5d498d9dd5720c433983a585d4f19fad1170be7"), looks := false }, kinds := [], alts := [], laidByText := true, laidKinds := [.data, .data, .data, .data, .data, .pinned], laidTests := true, laidLooks := .later }
def StyleNilCardSaid : Prop := Claim7.holds Tryz.pinned (.plain (OpenSpec.ofChange styleNilSpec)) styleNilCard

/-- THE SECOND FORM's CARD OF 'colophonlaw15.StyleNames'. -/
def styleNamesUptoCard : Claim7 := { stood := { row := styleNamesUptoRow, standIns := [], harness := (true, "578e1a3834ba7666d9f0fd33b5d498d9dd5720c433983a585d4f19fad1170be7"), looks := false }, kinds := [], alts := [], laidByText := true, laidKinds := [.data, .data, .data, .data, .data, .pinned], laidTests := true, laidLooks := .later }
def StyleNamesUptoCardSaid : Prop := Claim7.holds Tryz.pinned (.plain (OpenSpec.upto styleNamesSpec)) styleNamesUptoCard

/-- THE SECOND FORM's CARD OF 'colophonlaw15.StylePlays'. -/
def stylePlaysUptoCard : Claim7 := { stood := { row := stylePlaysUptoRow, standIns := [], harness := (true, "578e1a3834ba7666d9f0fd33b5d498d9dd5720c433983a585d4f19fad1170be7"), looks := false }, kinds := [], alts := [], laidByText := true, laidKinds := [.data, .data, .data, .data, .data, .pinned], laidTests := true, laidLooks := .later }
def StylePlaysUptoCardSaid : Prop := Claim7.holds Tryz.pinned (.plain (OpenSpec.upto stylePlaysSpec)) stylePlaysUptoCard

/-- THE SECOND FORM's CARD OF 'colophonlaw15.StyleSound'. -/
def styleSoundUptoCard : Claim7 := { stood := { row := styleSoundUptoRow, standIns := [], harness := (true, "578e1a3834ba7666d9f0fd33b5d498d9dd5720c433983a585d4f19fad1170be7"), looks := false }, kinds := [], alts := [], laidByText := true, laidKinds := [.data, .data, .data, .data, .data, .pinned], laidTests := true, laidLooks := .later }
def StyleSoundUptoCardSaid : Prop := Claim7.holds Tryz.pinned (.plain (OpenSpec.upto styleSoundSpec)) styleSoundUptoCard

/-- THE SECOND FORM's CARD OF 'colophonlaw15.StyleTwice'. -/
def styleTwiceUptoCard : Claim7 := { stood := { row := styleTwiceUptoRow, standIns := [], harness := (true, "578e1a3834ba7666d9f0fd33b5d498d9dd5720c433983a585d4f19fad1170be7"), looks := false }, kinds := [], alts := [], laidByText := true, laidKinds := [.data, .data, .data, .data, .data, .pinned], laidTests := true, laidLooks := .later }
def StyleTwiceUptoCardSaid : Prop := Claim7.holds Tryz.pinned (.plain (OpenSpec.upto styleTwiceSpec)) styleTwiceUptoCard

/-- THE SECOND FORM's CARD OF 'colophonlaw15.StyleNotes'. -/
def styleNotesUptoCard : Claim7 := { stood := { row := styleNotesUptoRow, standIns := [], harness := (true, "578e1a3834ba7666d9f0fd33b5d498d9dd5720c433983a585d4f19fad1170be7"), looks := false }, kinds := [], alts := [], laidByText := true, laidKinds := [.data, .data, .data, .data, .data, .pinned], laidTests := true, laidLooks := .later }
def StyleNotesUptoCardSaid : Prop := Claim7.holds Tryz.pinned (.plain (OpenSpec.upto styleNotesSpec)) styleNotesUptoCard

/-- THE SECOND FORM's CARD OF 'colophonlaw15.StyleNil'. -/
def styleNilUptoCard : Claim7 := { stood := { row := styleNilUptoRow, standIns := [], harness := (true, "578e1a3834ba7666d9f0fd33b5d498d9dd5720c433983a585d4f19fad1170be7"), looks := false }, kinds := [], alts := [], laidByText := true, laidKinds := [.data, .data, .data, .data, .data, .pinned], laidTests := true, laidLooks := .later }
def StyleNilUptoCardSaid : Prop := Claim7.holds Tryz.pinned (.plain (OpenSpec.upto styleNilSpec)) styleNilUptoCard
end Rows
end Go.Proofs.YtpdlohfdjiaegaaGreatDoor
