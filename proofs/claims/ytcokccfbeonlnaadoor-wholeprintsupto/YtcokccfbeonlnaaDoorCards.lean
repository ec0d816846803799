/-
  DERIVED. GIVEN WITH THE SEED: THE CARDS: each row of YtcokccfbeonlnaaDoorRows.lean that lists a variable, with what it lists TIED to the program's text (the seventh form; the later family's looks); each row that meets fmt, with fmt's text TOLD by the authors' own Lean function (tested against real Go, not proved from fmt's source: count such statements apart). THE CARD IS WHAT COUNTS. Prove the row's statement (the work); the ties are given (YtcokccfbeonlnaaDoorTie.lean); close each card by the builder's one call (the guide's Derived/Test/ToyasCard.lean, 'card_holds'). Laid BY PROGRAM, IN A SANDBOX (cutbox-door.mjs). By AI agents, Wed Nov 11 2026. No macro, syntax, notation, axiom, sorry.
-/
import Derived.Test.YtcokccfbeonlnaaDoorRows
import GoSem.ClaimSeven
namespace Go.Proofs.YtcokccfbeonlnaaDoor
namespace Rows

/-- THE TIED CARD OF 'colophonlaw08.WholeNames'. -/
def wholeNamesCard : Claim7 := { stood := { row := wholeNamesRow, standIns := [], harness := (true, "6d657e15e205b91631655e621b51a6e70325521e09a4028d8aeecd4020eba32b"), looks := false }, kinds := [], alts := [], laidByText := true, laidKinds := [.data], laidTests := true, laidLooks := .later }
def WholeNamesCardSaid : Prop := Claim7.holds Tryd.pinned (.plain (OpenSpec.ofChange wholeNamesSpec)) wholeNamesCard

/-- THE TIED CARD OF 'colophonlaw08.WholePrints'. -/
def wholePrintsCard : Claim7 := { stood := { row := wholePrintsRow, standIns := [], harness := (true, "6d657e15e205b91631655e621b51a6e70325521e09a4028d8aeecd4020eba32b"), looks := false }, kinds := [], alts := [], laidByText := true, laidKinds := [.data], laidTests := true, laidLooks := .later }
def WholePrintsCardSaid : Prop := Claim7.holds Tryd.pinned (.plain (OpenSpec.ofChange wholePrintsSpec)) wholePrintsCard

/-- THE TIED CARD OF 'colophonlaw08.WholeLines'. -/
def wholeLinesCard : Claim7 := { stood := { row := wholeLinesRow, standIns := [], harness := (true, "6d657e15e205b91631655e621b51a6e70325521e09a4028d8aeecd4020eba32b"), looks := false }, kinds := [], alts := [], laidByText := true, laidKinds := [.data], laidTests := true, laidLooks := .later }
def WholeLinesCardSaid : Prop := Claim7.holds Tryd.pinned (.plain (OpenSpec.ofChange wholeLinesSpec)) wholeLinesCard

/-- THE TIED CARD OF 'colophonlaw08.WholeFlat'. -/
def wholeFlatCard : Claim7 := { stood := { row := wholeFlatRow, standIns := [], harness := (true, "6d657e15e205b91631655e621b51a6e70325521e09a4028d8aeecd4020eba32b"), looks := false }, kinds := [], alts := [], laidByText := true, laidKinds := [.data], laidTests := true, laidLooks := .later }
def WholeFlatCardSaid : Prop := Claim7.holds Tryd.pinned (.plain (OpenSpec.ofChange wholeFlatSpec)) wholeFlatCard

/-- THE TIED CARD OF 'colophonlaw08.WholeFills'. -/
def wholeFillsCard : Claim7 := { stood := { row := wholeFillsRow, standIns := [], harness := (true, "6d657e15e205b91631655e621b51a6e70325521e09a4028d8aeecd4020eba32b"), looks := false }, kinds := [], alts := [], laidByText := true, laidKinds := [.data], laidTests := true, laidLooks := .later }
def WholeFillsCardSaid : Prop := Claim7.holds Tryd.pinned (.plain (OpenSpec.ofChange wholeFillsSpec)) wholeFillsCard

/-- THE TIED CARD OF 'colophonlaw08.WholeIdle'. -/
def wholeIdleCard : Claim7 := { stood := { row := wholeIdleRow, standIns := [], harness := (true, "6d657e15e205b91631655e621b51a6e70325521e09a4028d8aeecd4020eba32b"), looks := false }, kinds := [], alts := [], laidByText := true, laidKinds := [.data], laidTests := true, laidLooks := .later }
def WholeIdleCardSaid : Prop := Claim7.holds Tryd.pinned (.plain (OpenSpec.ofChange wholeIdleSpec)) wholeIdleCard

/-- THE SECOND FORM's CARD OF 'colophonlaw08.WholeNames'. -/
def wholeNamesUptoCard : Claim7 := { stood := { row := wholeNamesUptoRow, standIns := [], harness := (true, "6d657e15e205b91631655e621b51a6e70325521e09a4028d8aeecd4020eba32b"), looks := false }, kinds := [], alts := [], laidByText := true, laidKinds := [.data], laidTests := true, laidLooks := .later }
def WholeNamesUptoCardSaid : Prop := Claim7.holds Tryd.pinned (.plain (OpenSpec.upto wholeNamesSpec)) wholeNamesUptoCard

/-- THE SECOND FORM's CARD OF 'colophonlaw08.WholePrints'. -/
def wholePrintsUptoCard : Claim7 := { stood := { row := wholePrintsUptoRow, standIns := [], harness := (true, "6d657e15e205b91631655e621b51a6e70325521e09a4028d8aeecd4020eba32b"), looks := false }, kinds := [], alts := [], laidByText := true, laidKinds := [.data], laidTests := true, laidLooks := .later }
def WholePrintsUptoCardSaid : Prop := Claim7.holds Tryd.pinned (.plain (OpenSpec.upto wholePrintsSpec)) wholePrintsUptoCard

/-- THE SECOND FORM's CARD OF 'colophonlaw08.WholeLines'. -/
def wholeLinesUptoCard : Claim7 := { stood := { row := wholeLinesUptoRow, standIns := [], harness := (true, "6d657e15e205b91631655e621b51a6e70325521e09a4028d8aeecd4020eba32b"), looks := false }, kinds := [], alts := [], laidByText := true, laidKinds := [.data], laidTests := true, laidLooks := .later }
def WholeLinesUptoCardSaid : Prop := Claim7.holds Tryd.pinned (.plain (OpenSpec.upto wholeLinesSpec)) wholeLinesUptoCard

/-- THE SECOND FORM's CARD OF 'colophonlaw08.WholeFlat'. -/
def wholeFlatUptoCard : Claim7 := { stood := { row := wholeFlatUptoRow, standIns := [], harness := (true, "6d657e15e205b91631655e621b51a6e70325521e09a4028d8aeecd4020eba32b"), looks := false }, kinds := [], alts := [], laidByText := true, laidKinds := [.data], laidTests := true, laidLooks := .later }
def WholeFlatUptoCardSaid : Prop := Claim7.holds Tryd.pinned (.plain (OpenSpec.upto wholeFlatSpec)) wholeFlatUptoCard

/-- THE SECOND FORM's CARD OF 'colophonlaw08.WholeFills'. -/
def wholeFillsUptoCard : Claim7 := { stood := { row := wholeFillsUptoRow, standIns := [], harness := (true, "6d657e15e205b91631655e621b51a6e70325521e09a4028d8aeecd4020eba32b"), looks := false }, kinds := [], alts := [], laidByText := true, laidKinds := [.data], laidTests := true, laidLooks := .later }
def WholeFillsUptoCardSaid : Prop := Claim7.holds Tryd.pinned (.plain (OpenSpec.upto wholeFillsSpec)) wholeFillsUptoCard

/-- THE SECOND FORM's CARD OF 'colophonlaw08.WholeIdle'. -/
def wholeIdleUptoCard : Claim7 := { stood := { row := wholeIdleUptoRow, standIns := [], harness := (true, "6d657e15e205b91631655e621b51a6e70325521e09a4028d8aeecd4020eba32b"), looks := false }, kinds := [], alts := [], laidByText := true, laidKinds := [.data], laidTests := true, laidLooks := .later }
def WholeIdleUptoCardSaid : Prop := Claim7.holds Tryd.pinned (.plain (OpenSpec.upto wholeIdleSpec)) wholeIdleUptoCard
end Rows
end Go.Proofs.YtcokccfbeonlnaaDoor
