/-
  DERIVED. GIVEN WITH THE SEED: THE CARDS: each row of YtkmmcpkakpglkaaDoorRows.lean that lists a variable, with what it lists TIED to the program's text (the seventh form; the later family's looks); each row that meets fmt, with fmt's text TOLD by the authors' own Lean function (tested against real Go, not proved from fmt's source: count such statements apart). THE CARD IS WHAT COUNTS. Prove the row's statement (the work); the ties are given (YtkmmcpkakpglkaaDoorTie.lean); close each card by the builder's one call (the guide's Derived/Test/ToyasCard.lean, 'card_holds'). Laid BY PROGRAM, IN A SANDBOX (cutbox-door.mjs). By AI agents, Wed Nov 11 2026. No macro, syntax, notation, axiom, sorry.
-/
import Derived.Test.YtkmmcpkakpglkaaDoorRows
import GoSem.ClaimSeven
namespace Go.Proofs.YtkmmcpkakpglkaaDoor
namespace Rows

/-- THE TIED CARD OF 'colophonlaw06.SinkNames'. -/
def sinkNamesCard : Claim7 := { stood := { row := sinkNamesRow, standIns := [], harness := (true, "d447692a0593d5e3b791e9c2ee30df6f59d8783f1338a95cd06727648495ad52"), looks := false }, kinds := [], alts := [], laidByText := true, laidKinds := [.data], laidTests := true, laidLooks := .later }
def SinkNamesCardSaid : Prop := Claim7.holds Tryd.pinned (.plain (OpenSpec.ofChange sinkNamesSpec)) sinkNamesCard

/-- THE TIED CARD OF 'colophonlaw06.SinkPlays'. -/
def sinkPlaysCard : Claim7 := { stood := { row := sinkPlaysRow, standIns := [], harness := (true, "d447692a0593d5e3b791e9c2ee30df6f59d8783f1338a95cd06727648495ad52"), looks := false }, kinds := [], alts := [], laidByText := true, laidKinds := [.data], laidTests := true, laidLooks := .later }
def SinkPlaysCardSaid : Prop := Claim7.holds Tryd.pinned (.plain (OpenSpec.ofChange sinkPlaysSpec)) sinkPlaysCard

/-- THE TIED CARD OF 'colophonlaw06.SinkTakes'. -/
def sinkTakesCard : Claim7 := { stood := { row := sinkTakesRow, standIns := [], harness := (true, "d447692a0593d5e3b791e9c2ee30df6f59d8783f1338a95cd06727648495ad52"), looks := false }, kinds := [], alts := [], laidByText := true, laidKinds := [.data], laidTests := true, laidLooks := .later }
def SinkTakesCardSaid : Prop := Claim7.holds Tryd.pinned (.plain (OpenSpec.ofChange sinkTakesSpec)) sinkTakesCard

/-- THE TIED CARD OF 'colophonlaw06.SinkBlanks'. -/
def sinkBlanksCard : Claim7 := { stood := { row := sinkBlanksRow, standIns := [], harness := (true, "d447692a0593d5e3b791e9c2ee30df6f59d8783f1338a95cd06727648495ad52"), looks := false }, kinds := [], alts := [], laidByText := true, laidKinds := [.data], laidTests := true, laidLooks := .later }
def SinkBlanksCardSaid : Prop := Claim7.holds Tryd.pinned (.plain (OpenSpec.ofChange sinkBlanksSpec)) sinkBlanksCard

/-- THE SECOND FORM's CARD OF 'colophonlaw06.SinkNames'. -/
def sinkNamesUptoCard : Claim7 := { stood := { row := sinkNamesUptoRow, standIns := [], harness := (true, "d447692a0593d5e3b791e9c2ee30df6f59d8783f1338a95cd06727648495ad52"), looks := false }, kinds := [], alts := [], laidByText := true, laidKinds := [.data], laidTests := true, laidLooks := .later }
def SinkNamesUptoCardSaid : Prop := Claim7.holds Tryd.pinned (.plain (OpenSpec.upto sinkNamesSpec)) sinkNamesUptoCard

/-- THE SECOND FORM's CARD OF 'colophonlaw06.SinkPlays'. -/
def sinkPlaysUptoCard : Claim7 := { stood := { row := sinkPlaysUptoRow, standIns := [], harness := (true, "d447692a0593d5e3b791e9c2ee30df6f59d8783f1338a95cd06727648495ad52"), looks := false }, kinds := [], alts := [], laidByText := true, laidKinds := [.data], laidTests := true, laidLooks := .later }
def SinkPlaysUptoCardSaid : Prop := Claim7.holds Tryd.pinned (.plain (OpenSpec.upto sinkPlaysSpec)) sinkPlaysUptoCard

/-- THE SECOND FORM's CARD OF 'colophonlaw06.SinkTakes'. -/
def sinkTakesUptoCard : Claim7 := { stood := { row := sinkTakesUptoRow, standIns := [], harness := (true, "d447692a0593d5e3b791e9c2ee30df6f59d8783f1338a95cd06727648495ad52"), looks := false }, kinds := [], alts := [], laidByText := true, laidKinds := [.data], laidTests := true, laidLooks := .later }
def SinkTakesUptoCardSaid : Prop := Claim7.holds Tryd.pinned (.plain (OpenSpec.upto sinkTakesSpec)) sinkTakesUptoCard

/-- THE SECOND FORM's CARD OF 'colophonlaw06.SinkBlanks'. -/
def sinkBlanksUptoCard : Claim7 := { stood := { row := sinkBlanksUptoRow, standIns := [], harness := (true, "d447692a0593d5e3b791e9c2ee30df6f59d8783f1338a95cd06727648495ad52"), looks := false }, kinds := [], alts := [], laidByText := true, laidKinds := [.data], laidTests := true, laidLooks := .later }
def SinkBlanksUptoCardSaid : Prop := Claim7.holds Tryd.pinned (.plain (OpenSpec.upto sinkBlanksSpec)) sinkBlanksUptoCard
end Rows
end Go.Proofs.YtkmmcpkakpglkaaDoor
