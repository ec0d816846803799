/-
  NARROWER THAN 'FOR EVERY INPUT', by the rows' own cells (each row's printed sentence says how): WidthOf: laid · WidthTable: laid · WidthTexts: laid · WidthCuts: laid.
  DERIVED. THE GIVEN ROWS OF THIS SEAT. 4 by the template 'for every input the law returns true; each argument reads behind the call as it read before'; 0 by the template 'total and deterministic' (their statements: YtkgemlalbhhakaaDoorTotals.lean).
  GIVEN WITH THE SEED: the statements are not yours to turn. If you find one false, say at which input.
  Laid BY PROGRAM, IN A SANDBOX (cutbox-rows.mjs): the forced cells as the released guide's own fill.sh prints them over the translation 58e150545dacfd9f… (all of the seat's roots in one cut). By AI agents, Wed Nov 11 2026. No macro, syntax, notation, axiom, sorry.
-/
import Derived.Test.YtkgemlalbhhakaaDoorChecked
import GoSem.Claim
import GoSem.ClaimJoined
import GoSem.ClaimMapViews
import Derived.JoinedTies
import Derived.KernelRfl
namespace Go.Proofs.YtkgemlalbhhakaaDoor
/- THE CELL 'sum', in the pinned program and in every row, IS THE sha256 OF THE DUMP (.gsa) THAT YtkgemlalbhhakaaDoorProg.lean LOADS. Nothing in Lean hashes anything: it is a label: what it is worth is what the hold of that sum in a sandbox is worth. -/
noncomputable def Tryd.pinned : Pinned := { name := "ytkgemlalbhhakaadoor", sum := "58e150545dacfd9f0af0c49d34de893159863774dbb242f58bb5108e16c818bd", checked := Tryd.checked }
namespace Rows
def none {H : Type} : Left H := { results := [], args := [] }

/- WHAT THE LISTED PACKAGE-LEVEL VARIABLES READ AS WHEN THE CALL BEGINS. Each datum BY PROGRAM (the guide's laid-datum.mjs) off the statement by which the dump's own 'gosem.cut.vars' lays the variable. In a bare row this is a premise. The card (YtkgemlalbhhakaaDoorCards.lean) ties it to the program's text. -/
def laid_colophon_width_spans {H : Type} : DataW H := .agg [.agg [.lit (.int .i64 768), .lit (.int .i64 879), .lit (.int .i64 0)], .agg [.lit (.int .i64 4352), .lit (.int .i64 4447), .lit (.int .i64 2)], .agg [.lit (.int .i64 8203), .lit (.int .i64 8207), .lit (.int .i64 0)], .agg [.lit (.int .i64 8400), .lit (.int .i64 8447), .lit (.int .i64 0)], .agg [.lit (.int .i64 11904), .lit (.int .i64 12350), .lit (.int .i64 2)], .agg [.lit (.int .i64 12353), .lit (.int .i64 42191), .lit (.int .i64 2)], .agg [.lit (.int .i64 44032), .lit (.int .i64 55203), .lit (.int .i64 2)], .agg [.lit (.int .i64 63744), .lit (.int .i64 64255), .lit (.int .i64 2)], .agg [.lit (.int .i64 65024), .lit (.int .i64 65039), .lit (.int .i64 0)], .agg [.lit (.int .i64 65056), .lit (.int .i64 65071), .lit (.int .i64 0)], .agg [.lit (.int .i64 65072), .lit (.int .i64 65135), .lit (.int .i64 2)], .agg [.lit (.int .i64 65280), .lit (.int .i64 65376), .lit (.int .i64 2)], .agg [.lit (.int .i64 65504), .lit (.int .i64 65510), .lit (.int .i64 2)], .agg [.lit (.int .i64 127744), .lit (.int .i64 128591), .lit (.int .i64 2)], .agg [.lit (.int .i64 129280), .lit (.int .i64 129535), .lit (.int .i64 2)], .agg [.lit (.int .i64 131072), .lit (.int .i64 262141), .lit (.int .i64 2)]]

/-- 'colophonlaw02.WidthOf': WHATEVER THE INPUT: true; the input reads as it did. -/
def widthOfSpec : ChangeSpec := { name := "widthOf", fn := fun _ => fun
  | [d] => { results := [.lit (.bool true)], args := [d] }
  | _ => none }
def widthOfRow : OpenClaim := { program := "ytkgemlalbhhakaadoor", sum := "58e150545dacfd9f0af0c49d34de893159863774dbb242f58bb5108e16c818bd", func := "colophon/colophonlaw02.WidthOf", spec := "widthOf", named := ["colophon/width.spans"], apart := false, laid := [("colophon/width.spans", laid_colophon_width_spans)] }
def WidthOfSaid : Prop := widthOfRow.holds Tryd.pinned (OpenSpec.ofChange widthOfSpec)

/-- ITS FALSE NEIGHBOUR: 'it returns false'. Refute it at one input. -/
def widthOfWrong : ChangeSpec := { name := "widthOf", fn := fun _ => fun
  | [d] => { results := [.lit (.bool false)], args := [d] }
  | _ => none }
def WidthOfWrongFalsely : Prop := widthOfRow.holds Tryd.pinned (OpenSpec.ofChange widthOfWrong)

/-- 'colophonlaw02.WidthTable': WHATEVER THE INPUT: true; the input reads as it did. -/
def widthTableSpec : ChangeSpec := { name := "widthTable", fn := fun _ => fun
  | [d] => { results := [.lit (.bool true)], args := [d] }
  | _ => none }
def widthTableRow : OpenClaim := { program := "ytkgemlalbhhakaadoor", sum := "58e150545dacfd9f0af0c49d34de893159863774dbb242f58bb5108e16c818bd", func := "colophon/colophonlaw02.WidthTable", spec := "widthTable", named := ["colophon/width.spans"], apart := false, laid := [("colophon/width.spans", laid_colophon_width_spans)] }
def WidthTableSaid : Prop := widthTableRow.holds Tryd.pinned (OpenSpec.ofChange widthTableSpec)

/-- ITS FALSE NEIGHBOUR: 'it returns false'. Refute it at one input. -/
def widthTableWrong : ChangeSpec := { name := "widthTable", fn := fun _ => fun
  | [d] => { results := [.lit (.bool false)], args := [d] }
  | _ => none }
def WidthTableWrongFalsely : Prop := widthTableRow.holds Tryd.pinned (OpenSpec.ofChange widthTableWrong)

/-- 'colophonlaw02.WidthTexts': WHATEVER THE INPUT: true; the input reads as it did. -/
def widthTextsSpec : ChangeSpec := { name := "widthTexts", fn := fun _ => fun
  | [d1, d2] => { results := [.lit (.bool true)], args := [d1, d2] }
  | _ => none }
def widthTextsRow : OpenClaim := { program := "ytkgemlalbhhakaadoor", sum := "58e150545dacfd9f0af0c49d34de893159863774dbb242f58bb5108e16c818bd", func := "colophon/colophonlaw02.WidthTexts", spec := "widthTexts", named := ["colophon/width.spans"], apart := false, laid := [("colophon/width.spans", laid_colophon_width_spans)] }
def WidthTextsSaid : Prop := widthTextsRow.holds Tryd.pinned (OpenSpec.ofChange widthTextsSpec)

/-- ITS FALSE NEIGHBOUR: 'it returns false'. Refute it at one input. -/
def widthTextsWrong : ChangeSpec := { name := "widthTexts", fn := fun _ => fun
  | [d1, d2] => { results := [.lit (.bool false)], args := [d1, d2] }
  | _ => none }
def WidthTextsWrongFalsely : Prop := widthTextsRow.holds Tryd.pinned (OpenSpec.ofChange widthTextsWrong)

/-- 'colophonlaw02.WidthCuts': WHATEVER THE INPUT: true; the input reads as it did. -/
def widthCutsSpec : ChangeSpec := { name := "widthCuts", fn := fun _ => fun
  | [d1, d2, d3, d4] => { results := [.lit (.bool true)], args := [d1, d2, d3, d4] }
  | _ => none }
def widthCutsRow : OpenClaim := { program := "ytkgemlalbhhakaadoor", sum := "58e150545dacfd9f0af0c49d34de893159863774dbb242f58bb5108e16c818bd", func := "colophon/colophonlaw02.WidthCuts", spec := "widthCuts", named := ["colophon/width.spans"], apart := false, laid := [("colophon/width.spans", laid_colophon_width_spans)] }
def WidthCutsSaid : Prop := widthCutsRow.holds Tryd.pinned (OpenSpec.ofChange widthCutsSpec)

/-- ITS FALSE NEIGHBOUR: 'it returns false'. Refute it at one input. -/
def widthCutsWrong : ChangeSpec := { name := "widthCuts", fn := fun _ => fun
  | [d1, d2, d3, d4] => { results := [.lit (.bool false)], args := [d1, d2, d3, d4] }
  | _ => none }
def WidthCutsWrongFalsely : Prop := widthCutsRow.holds Tryd.pinned (OpenSpec.ofChange widthCutsWrong)

/- THE SECOND FORM. 'bulk': how many values and letters a reading holds, each counted each time it is reached (what is shared counts as often as it is met; a slice's spare places count too). A statement '..UptoSaid' is the law's where the arguments, and the package variables that the reading takes, are together of bulk at most 1048576: NARROWER than '..Said'. Prove '..Said' where nothing that the law and all that it calls make is longer than what came in: it says more and counts as full. Else prove '..UptoSaid'. A law counts once. -/
mutual
def uptoBulk {H : Type} : DataW H → Nat
  | .lit (.string bytes) => bytes.length + 1
  | .lit _ => 1
  | .nil => 1
  | .ptr d => uptoBulk d + 1
  | .slice elems spare => uptoBulkAll elems + uptoBulkAll spare + 1
  | .agg parts => uptoBulkAll parts + 1
  | .iface _ d => uptoBulk d + 1
  | .map entries => uptoBulkEntries entries + 1
  | .held _ => 1
def uptoBulkAll {H : Type} : List (DataW H) → Nat
  | [] => 0
  | d :: r => uptoBulk d + uptoBulkAll r
def uptoBulkEntries {H : Type} : List (Lit × DataW H) → Nat
  | [] => 0
  | x :: r => uptoBulkEntry x + uptoBulkEntries r
def uptoBulkEntry {H : Type} : Lit × DataW H → Nat
  | (.string bytes, d) => bytes.length + uptoBulk d + 1
  | (_, d) => uptoBulk d + 1
 end
def uptoSmall : (H : Type) → List (DataW H) → Bool := fun _ ds => decide (uptoBulkAll ds ≤ 1048576)
def OpenSpec.upto (s : _root_.Go.ChangeSpec) : _root_.Go.OpenSpec := { _root_.Go.OpenSpec.ofChange s with cond := some uptoSmall }

/-- 'colophonlaw02.WidthOf', WHERE WHAT IT READS IS OF BULK AT MOST 1048576: true; the input reads as it did. -/
def widthOfUptoRow : OpenClaim := { program := "ytkgemlalbhhakaadoor", sum := "58e150545dacfd9f0af0c49d34de893159863774dbb242f58bb5108e16c818bd", func := "colophon/colophonlaw02.WidthOf", spec := "widthOf", named := ["colophon/width.spans"], apart := false, laid := [("colophon/width.spans", laid_colophon_width_spans)], narrowed := true }
def WidthOfUptoSaid : Prop := widthOfUptoRow.holds Tryd.pinned (OpenSpec.upto widthOfSpec)

/-- 'colophonlaw02.WidthTable', WHERE WHAT IT READS IS OF BULK AT MOST 1048576: true; the input reads as it did. -/
def widthTableUptoRow : OpenClaim := { program := "ytkgemlalbhhakaadoor", sum := "58e150545dacfd9f0af0c49d34de893159863774dbb242f58bb5108e16c818bd", func := "colophon/colophonlaw02.WidthTable", spec := "widthTable", named := ["colophon/width.spans"], apart := false, laid := [("colophon/width.spans", laid_colophon_width_spans)], narrowed := true }
def WidthTableUptoSaid : Prop := widthTableUptoRow.holds Tryd.pinned (OpenSpec.upto widthTableSpec)

/-- 'colophonlaw02.WidthTexts', WHERE WHAT IT READS IS OF BULK AT MOST 1048576: true; the input reads as it did. -/
def widthTextsUptoRow : OpenClaim := { program := "ytkgemlalbhhakaadoor", sum := "58e150545dacfd9f0af0c49d34de893159863774dbb242f58bb5108e16c818bd", func := "colophon/colophonlaw02.WidthTexts", spec := "widthTexts", named := ["colophon/width.spans"], apart := false, laid := [("colophon/width.spans", laid_colophon_width_spans)], narrowed := true }
def WidthTextsUptoSaid : Prop := widthTextsUptoRow.holds Tryd.pinned (OpenSpec.upto widthTextsSpec)

/-- 'colophonlaw02.WidthCuts', WHERE WHAT IT READS IS OF BULK AT MOST 1048576: true; the input reads as it did. -/
def widthCutsUptoRow : OpenClaim := { program := "ytkgemlalbhhakaadoor", sum := "58e150545dacfd9f0af0c49d34de893159863774dbb242f58bb5108e16c818bd", func := "colophon/colophonlaw02.WidthCuts", spec := "widthCuts", named := ["colophon/width.spans"], apart := false, laid := [("colophon/width.spans", laid_colophon_width_spans)], narrowed := true }
def WidthCutsUptoSaid : Prop := widthCutsUptoRow.holds Tryd.pinned (OpenSpec.upto widthCutsSpec)

end Rows
end Go.Proofs.YtkgemlalbhhakaaDoor
