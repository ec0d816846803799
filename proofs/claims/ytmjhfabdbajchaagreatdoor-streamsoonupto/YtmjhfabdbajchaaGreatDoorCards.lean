/-
  DERIVED. GIVEN WITH THE SEED: THE CARDS: each row of YtmjhfabdbajchaaGreatDoorRows.lean that lists a variable, with what it lists TIED to the program's text (the seventh form; the later family's looks); each row that meets fmt, with fmt's text TOLD by the authors' own Lean function (tested against real Go, not proved from fmt's source: count such statements apart). THE CARD IS WHAT COUNTS. Prove the row's statement (the work); the ties are given (YtmjhfabdbajchaaGreatDoorTie.lean); close each card by the builder's one call (the guide's Derived/Test/ToyasCard.lean, 'card_holds'). Laid BY PROGRAM, IN A SANDBOX (cutbox-door.mjs). By AI agents, Wed Nov 11 2026. No macro, syntax, notation, axiom, sorry.
-/
import Derived.Test.YtmjhfabdbajchaaGreatDoorRows
import GoSem.ClaimSeven
namespace Go.Proofs.YtmjhfabdbajchaaGreatDoor
namespace Rows

/-- THE TIED CARD OF 'colophonlaw09.StreamNames'. -/
def streamNamesCard : Claim7 := { stood := { row := streamNamesRow, standIns := [], harness := (true, "6c27a8b8bd2f70b567cece08497fe3c70b89db4b5a1a1ae9cea308aa52d23871"), looks := false }, kinds := [], alts := [], laidByText := true, laidKinds := [.data], laidTests := true, laidLooks := .later }
def StreamNamesCardSaid : Prop := Claim7.holds Tryz.pinned (.plain (OpenSpec.ofChange streamNamesSpec)) streamNamesCard

/-- THE TIED CARD OF 'colophonlaw09.StreamPlays'. -/
def streamPlaysCard : Claim7 := { stood := { row := streamPlaysRow, standIns := [], harness := (true, "6c27a8b8bd2f70b567cece08497fe3c70b89db4b5a1a1ae9cea308aa52d23871"), looks := false }, kinds := [], alts := [], laidByText := true, laidKinds := [.data], laidTests := true, laidLooks := .later }
def StreamPlaysCardSaid : Prop := Claim7.holds Tryz.pinned (.plain (OpenSpec.ofChange streamPlaysSpec)) streamPlaysCard

/-- THE TIED CARD OF 'colophonlaw09.StreamWhole'. -/
def streamWholeCard : Claim7 := { stood := { row := streamWholeRow, standIns := [], harness := (true, "6c27a8b8bd2f70b567cece08497fe3c70b89db4b5a1a1ae9cea308aa52d23871"), looks := false }, kinds := [], alts := [], laidByText := true, laidKinds := [.data], laidTests := true, laidLooks := .later }
def StreamWholeCardSaid : Prop := Claim7.holds Tryz.pinned (.plain (OpenSpec.ofChange streamWholeSpec)) streamWholeCard

/-- THE TIED CARD OF 'colophonlaw09.StreamBegins'. -/
def streamBeginsCard : Claim7 := { stood := { row := streamBeginsRow, standIns := [], harness := (true, "6c27a8b8bd2f70b567cece08497fe3c70b89db4b5a1a1ae9cea308aa52d23871"), looks := false }, kinds := [], alts := [], laidByText := true, laidKinds := [.data], laidTests := true, laidLooks := .later }
def StreamBeginsCardSaid : Prop := Claim7.holds Tryz.pinned (.plain (OpenSpec.ofChange streamBeginsSpec)) streamBeginsCard

/-- THE TIED CARD OF 'colophonlaw09.StreamSoon'. -/
def streamSoonCard : Claim7 := { stood := { row := streamSoonRow, standIns := [], harness := (true, "6c27a8b8bd2f70b567cece08497fe3c70b89db4b5a1a1ae9cea308aa52d23871"), looks := false }, kinds := [], alts := [], laidByText := true, laidKinds := [.data], laidTests := true, laidLooks := .later }
def StreamSoonCardSaid : Prop := Claim7.holds Tryz.pinned (.plain (OpenSpec.ofChange streamSoonSpec)) streamSoonCard

/-- THE TIED CARD OF 'colophonlaw09.StreamNil'. -/
def streamNilCard : Claim7 := { stood := { row := streamNilRow, standIns := [], harness := (true, "6c27a8b8bd2f70b567cece08497fe3c70b89db4b5a1a1ae9cea308aa52d23871"), looks := false }, kinds := [], alts := [], laidByText := true, laidKinds := [.data], laidTests := true, laidLooks := .later }
def StreamNilCardSaid : Prop := Claim7.holds Tryz.pinned (.plain (OpenSpec.ofChange streamNilSpec)) streamNilCard

/-- THE SECOND FORM's CARD OF 'colophonlaw09.StreamNames'. -/
def streamNamesUptoCard : Claim7 := { stood := { row := streamNamesUptoRow, standIns := [], harness := (true, "6c27a8b8bd2f70b567cece08497fe3c70b89db4b5a1a1ae9cea308aa52d23871"), looks := false }, kinds := [], alts := [], laidByText := true, laidKinds := [.data], laidTests := true, laidLooks := .later }
def StreamNamesUptoCardSaid : Prop := Claim7.holds Tryz.pinned (.plain (OpenSpec.upto streamNamesSpec)) streamNamesUptoCard

/-- THE SECOND FORM's CARD OF 'colophonlaw09.StreamPlays'. -/
def streamPlaysUptoCard : Claim7 := { stood := { row := streamPlaysUptoRow, standIns := [], harness := (true, "6c27a8b8bd2f70b567cece08497fe3c70b89db4b5a1a1ae9cea308aa52d23871"), looks := false }, kinds := [], alts := [], laidByText := true, laidKinds := [.data], laidTests := true, laidLooks := .later }
def StreamPlaysUptoCardSaid : Prop := Claim7.holds Tryz.pinned (.plain (OpenSpec.upto streamPlaysSpec)) streamPlaysUptoCard

/-- THE SECOND FORM's CARD OF 'colophonlaw09.StreamWhole'. -/
def streamWholeUptoCard : Claim7 := { stood := { row := streamWholeUptoRow, standIns := [], harness := (true, "6c27a8b8bd2f70b567cece08497fe3c70b89db4b5a1a1ae9cea308aa52d23871"), looks := false }, kinds := [], alts := [], laidByText := true, laidKinds := [.data], laidTests := true, laidLooks := .later }
def StreamWholeUptoCardSaid : Prop := Claim7.holds Tryz.pinned (.plain (OpenSpec.upto streamWholeSpec)) streamWholeUptoCard

/-- THE SECOND FORM's CARD OF 'colophonlaw09.StreamBegins'. -/
def streamBeginsUptoCard : Claim7 := { stood := { row := streamBeginsUptoRow, standIns := [], harness := (true, "6c27a8b8bd2f70b567cece08497fe3c70b89db4b5a1a1ae9cea308aa52d23871"), looks := false }, kinds := [], alts := [], laidByText := true, laidKinds := [.data], laidTests := true, laidLooks := .later }
def StreamBeginsUptoCardSaid : Prop := Claim7.holds Tryz.pinned (.plain (OpenSpec.upto streamBeginsSpec)) streamBeginsUptoCard

/-- THE SECOND FORM's CARD OF 'colophonlaw09.StreamSoon'. -/
def streamSoonUptoCard : Claim7 := { stood := { row := streamSoonUptoRow, standIns := [], harness := (true, "6c27a8b8bd2f70b567cece08497fe3c70b89db4b5a1a1ae9cea308aa52d23871"), looks := false }, kinds := [], alts := [], laidByText := true, laidKinds := [.data], laidTests := true, laidLooks := .later }
def StreamSoonUptoCardSaid : Prop := Claim7.holds Tryz.pinned (.plain (OpenSpec.upto streamSoonSpec)) streamSoonUptoCard

/-- THE SECOND FORM's CARD OF 'colophonlaw09.StreamNil'. -/
def streamNilUptoCard : Claim7 := { stood := { row := streamNilUptoRow, standIns := [], harness := (true, "6c27a8b8bd2f70b567cece08497fe3c70b89db4b5a1a1ae9cea308aa52d23871"), looks := false }, kinds := [], alts := [], laidByText := true, laidKinds := [.data], laidTests := true, laidLooks := .later }
def StreamNilUptoCardSaid : Prop := Claim7.holds Tryz.pinned (.plain (OpenSpec.upto streamNilSpec)) streamNilUptoCard
end Rows
end Go.Proofs.YtmjhfabdbajchaaGreatDoor
