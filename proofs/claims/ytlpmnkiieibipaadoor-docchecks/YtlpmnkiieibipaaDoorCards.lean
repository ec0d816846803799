/-
  DERIVED. GIVEN WITH THE SEED: THE CARDS: each row of YtlpmnkiieibipaaDoorRows.lean that lists a variable, with what it lists TIED to the program's text (the seventh form; the later family's looks); each row that meets fmt, with fmt's text TOLD by the authors' own Lean function (tested against real Go, not proved from fmt's source: count such statements apart). THE CARD IS WHAT COUNTS. Prove the row's statement (the work); the ties are given (YtlpmnkiieibipaaDoorTie.lean); close each card by the builder's one call (the guide's Derived/Test/ToyasCard.lean, 'card_holds'). Laid BY PROGRAM, IN A SANDBOX (cutbox-door.mjs). By AI agents, Wed Nov 11 2026. No macro, syntax, notation, axiom, sorry.
-/
import Derived.Test.YtlpmnkiieibipaaDoorRows
import GoSem.ClaimSeven
namespace Go.Proofs.YtlpmnkiieibipaaDoor
namespace Rows

/-- THE TIED CARD OF 'colophonlaw07.DocNames'. -/
def docNamesCard : Claim7 := { stood := { row := docNamesRow, standIns := [], harness := (true, "35db34888a5b4d53d95c77deeb8d08e8855a0d33d295d8ddae4347b743850038"), looks := true }, kinds := [], alts := [], laidByText := true, laidKinds := [.data, .data, .data, .sentinel, .sentinel, .data, .data], laidTests := true, laidLooks := .later }
def DocNamesCardSaid : Prop := Claim7.holds Tryd.pinned (.plain (OpenSpec.ofChange docNamesSpec)) docNamesCard

/-- THE TIED CARD OF 'colophonlaw07.DocChecks'. -/
def docChecksCard : Claim7 := { stood := { row := docChecksRow, standIns := [], harness := (true, "35db34888a5b4d53d95c77deeb8d08e8855a0d33d295d8ddae4347b743850038"), looks := true }, kinds := [], alts := [], laidByText := true, laidKinds := [.data, .data, .data, .sentinel, .sentinel, .data, .data], laidTests := true, laidLooks := .later }
def DocChecksCardSaid : Prop := Claim7.holds Tryd.pinned (.plain (OpenSpec.ofChange docChecksSpec)) docChecksCard

/-- THE TIED CARD OF 'colophonlaw07.DocParses'. -/
def docParsesCard : Claim7 := { stood := { row := docParsesRow, standIns := [], harness := (true, "35db34888a5b4d53d95c77deeb8d08e8855a0d33d295d8ddae4347b743850038"), looks := true }, kinds := [], alts := [], laidByText := true, laidKinds := [.data, .data, .data, .sentinel, .sentinel, .data, .data], laidTests := true, laidLooks := .later }
def DocParsesCardSaid : Prop := Claim7.holds Tryd.pinned (.plain (OpenSpec.ofChange docParsesSpec)) docParsesCard

/-- THE TIED CARD OF 'colophonlaw07.DocBack'. -/
def docBackCard : Claim7 := { stood := { row := docBackRow, standIns := [], harness := (true, "35db34888a5b4d53d95c77deeb8d08e8855a0d33d295d8ddae4347b743850038"), looks := true }, kinds := [], alts := [], laidByText := true, laidKinds := [.data, .data, .data, .sentinel, .sentinel, .data, .data], laidTests := true, laidLooks := .later }
def DocBackCardSaid : Prop := Claim7.holds Tryd.pinned (.plain (OpenSpec.ofChange docBackSpec)) docBackCard

/-- THE TIED CARD OF 'colophonlaw07.DocReads'. -/
def docReadsCard : Claim7 := { stood := { row := docReadsRow, standIns := [], harness := (true, "35db34888a5b4d53d95c77deeb8d08e8855a0d33d295d8ddae4347b743850038"), looks := true }, kinds := [], alts := [], laidByText := true, laidKinds := [.data, .data, .data, .sentinel, .sentinel, .data, .data], laidTests := true, laidLooks := .later }
def DocReadsCardSaid : Prop := Claim7.holds Tryd.pinned (.plain (OpenSpec.ofChange docReadsSpec)) docReadsCard

/-- THE SECOND FORM's CARD OF 'colophonlaw07.DocNames'. -/
def docNamesUptoCard : Claim7 := { stood := { row := docNamesUptoRow, standIns := [], harness := (true, "35db34888a5b4d53d95c77deeb8d08e8855a0d33d295d8ddae4347b743850038"), looks := true }, kinds := [], alts := [], laidByText := true, laidKinds := [.data, .data, .data, .sentinel, .sentinel, .data, .data], laidTests := true, laidLooks := .later }
def DocNamesUptoCardSaid : Prop := Claim7.holds Tryd.pinned (.plain (OpenSpec.upto docNamesSpec)) docNamesUptoCard

/-- THE SECOND FORM's CARD OF 'colophonlaw07.DocChecks'. -/
def docChecksUptoCard : Claim7 := { stood := { row := docChecksUptoRow, standIns := [], harness := (true, "35db34888a5b4d53d95c77deeb8d08e8855a0d33d295d8ddae4347b743850038"), looks := true }, kinds := [], alts := [], laidByText := true, laidKinds := [.data, .data, .data, .sentinel, .sentinel, .data, .data], laidTests := true, laidLooks := .later }
def DocChecksUptoCardSaid : Prop := Claim7.holds Tryd.pinned (.plain (OpenSpec.upto docChecksSpec)) docChecksUptoCard

/-- THE SECOND FORM's CARD OF 'colophonlaw07.DocParses'. -/
def docParsesUptoCard : Claim7 := { stood := { row := docParsesUptoRow, standIns := [], harness := (true, "35db34888a5b4d53d95c77deeb8d08e8855a0d33d295d8ddae4347b743850038"), looks := true }, kinds := [], alts := [], laidByText := true, laidKinds := [.data, .data, .data, .sentinel, .sentinel, .data, .data], laidTests := true, laidLooks := .later }
def DocParsesUptoCardSaid : Prop := Claim7.holds Tryd.pinned (.plain (OpenSpec.upto docParsesSpec)) docParsesUptoCard

/-- THE SECOND FORM's CARD OF 'colophonlaw07.DocBack'. -/
def docBackUptoCard : Claim7 := { stood := { row := docBackUptoRow, standIns := [], harness := (true, "35db34888a5b4d53d95c77deeb8d08e8855a0d33d295d8ddae4347b743850038"), looks := true }, kinds := [], alts := [], laidByText := true, laidKinds := [.data, .data, .data, .sentinel, .sentinel, .data, .data], laidTests := true, laidLooks := .later }
def DocBackUptoCardSaid : Prop := Claim7.holds Tryd.pinned (.plain (OpenSpec.upto docBackSpec)) docBackUptoCard

/-- THE SECOND FORM's CARD OF 'colophonlaw07.DocReads'. -/
def docReadsUptoCard : Claim7 := { stood := { row := docReadsUptoRow, standIns := [], harness := (true, "35db34888a5b4d53d95c77deeb8d08e8855a0d33d295d8ddae4347b743850038"), looks := true }, kinds := [], alts := [], laidByText := true, laidKinds := [.data, .data, .data, .sentinel, .sentinel, .data, .data], laidTests := true, laidLooks := .later }
def DocReadsUptoCardSaid : Prop := Claim7.holds Tryd.pinned (.plain (OpenSpec.upto docReadsSpec)) docReadsUptoCard
end Rows
end Go.Proofs.YtlpmnkiieibipaaDoor
