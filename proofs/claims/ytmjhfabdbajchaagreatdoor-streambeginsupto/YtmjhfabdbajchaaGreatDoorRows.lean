/-
  NARROWER THAN 'FOR EVERY INPUT', by the rows' own cells (each row's printed sentence says how): StreamNames: laid · StreamPlays: laid · StreamWhole: laid · StreamBegins: laid · StreamSoon: laid · StreamNil: laid.
  DERIVED. THE GIVEN ROWS OF THIS SEAT. 6 by the template 'for every input the law returns true; each argument reads behind the call as it read before'; 0 by the template 'total and deterministic' (their statements: YtmjhfabdbajchaaGreatDoorTotals.lean).
  GIVEN WITH THE SEED: the statements are not yours to turn. If you find one false, say at which input.
  Laid BY PROGRAM, IN A SANDBOX (cutbox-rows.mjs): the forced cells as the released guide's own fill.sh prints them over the translation eac49dd677ff5875… (all of the seat's roots in one cut). By AI agents, Wed Nov 11 2026. No macro, syntax, notation, axiom, sorry.
-/
import Derived.Test.YtmjhfabdbajchaaGreatDoorChecked
import GoSem.Claim
import GoSem.ClaimJoined
import GoSem.ClaimMapViews
import Derived.JoinedTies
import Derived.KernelRfl
namespace Go.Proofs.YtmjhfabdbajchaaGreatDoor
/- THE CELL 'sum', in the pinned program and in every row, IS THE sha256 OF THE DUMP (.gsa) THAT YtmjhfabdbajchaaGreatDoorProg.lean LOADS. Nothing in Lean hashes anything: it is a label: what it is worth is what the hold of that sum in a sandbox is worth. -/
noncomputable def Tryz.pinned : Pinned := { name := "ytmjhfabdbajchaagreatdoor", sum := "eac49dd677ff5875d1eff31ecb2729674f39a83e0d89a74b68f9eb0c3621a8de", checked := Tryz.checked }
namespace Rows
def none {H : Type} : Left H := { results := [], args := [] }

/- WHAT THE LISTED PACKAGE-LEVEL VARIABLES READ AS WHEN THE CALL BEGINS. Each datum BY PROGRAM (the guide's laid-datum.mjs) off the statement by which the dump's own 'gosem.cut.vars' lays the variable. In a bare row this is a premise. The card (YtmjhfabdbajchaaGreatDoorCards.lean) ties it to the program's text. -/
def laid_colophon_width_spans {H : Type} : DataW H := .agg [.agg [.lit (.int .i64 768), .lit (.int .i64 879), .lit (.int .i64 0)], .agg [.lit (.int .i64 4352), .lit (.int .i64 4447), .lit (.int .i64 2)], .agg [.lit (.int .i64 8203), .lit (.int .i64 8207), .lit (.int .i64 0)], .agg [.lit (.int .i64 8400), .lit (.int .i64 8447), .lit (.int .i64 0)], .agg [.lit (.int .i64 11904), .lit (.int .i64 12350), .lit (.int .i64 2)], .agg [.lit (.int .i64 12353), .lit (.int .i64 42191), .lit (.int .i64 2)], .agg [.lit (.int .i64 44032), .lit (.int .i64 55203), .lit (.int .i64 2)], .agg [.lit (.int .i64 63744), .lit (.int .i64 64255), .lit (.int .i64 2)], .agg [.lit (.int .i64 65024), .lit (.int .i64 65039), .lit (.int .i64 0)], .agg [.lit (.int .i64 65056), .lit (.int .i64 65071), .lit (.int .i64 0)], .agg [.lit (.int .i64 65072), .lit (.int .i64 65135), .lit (.int .i64 2)], .agg [.lit (.int .i64 65280), .lit (.int .i64 65376), .lit (.int .i64 2)], .agg [.lit (.int .i64 65504), .lit (.int .i64 65510), .lit (.int .i64 2)], .agg [.lit (.int .i64 127744), .lit (.int .i64 128591), .lit (.int .i64 2)], .agg [.lit (.int .i64 129280), .lit (.int .i64 129535), .lit (.int .i64 2)], .agg [.lit (.int .i64 131072), .lit (.int .i64 262141), .lit (.int .i64 2)]]

/-- 'colophonlaw09.StreamNames': WHATEVER THE INPUT: true; the input reads as it did. -/
def streamNamesSpec : ChangeSpec := { name := "streamNames", fn := fun _ => fun
  | [] => { results := [.lit (.bool true)], args := [] }
  | _ => none }
def streamNamesRow : OpenClaim := { program := "ytmjhfabdbajchaagreatdoor", sum := "eac49dd677ff5875d1eff31ecb2729674f39a83e0d89a74b68f9eb0c3621a8de", func := "colophon/colophonlaw09.StreamNames", spec := "streamNames", inPlace := ["internal/bytealg.IndexByteString", "internal/bytealg.IndexString", "internal/abi.NoEscape", "internal/bytealg.MakeNoZero"], unfollowed := true, recurses := true, named := ["internal/bytealg.MaxLen", "colophon/width.spans"], apart := false, laid := [("colophon/width.spans", laid_colophon_width_spans)] }
def StreamNamesSaid : Prop := streamNamesRow.holds Tryz.pinned (OpenSpec.ofChange streamNamesSpec)

/-- ITS FALSE NEIGHBOUR: 'it returns false'. Refute it at one input. -/
def streamNamesWrong : ChangeSpec := { name := "streamNames", fn := fun _ => fun
  | [] => { results := [.lit (.bool false)], args := [] }
  | _ => none }
def StreamNamesWrongFalsely : Prop := streamNamesRow.holds Tryz.pinned (OpenSpec.ofChange streamNamesWrong)

/-- 'colophonlaw09.StreamPlays': WHATEVER THE INPUT: true; the input reads as it did. -/
def streamPlaysSpec : ChangeSpec := { name := "streamPlays", fn := fun _ => fun
  | [d1, d2, d3] => { results := [.lit (.bool true)], args := [d1, d2, d3] }
  | _ => none }
def streamPlaysRow : OpenClaim := { program := "ytmjhfabdbajchaagreatdoor", sum := "eac49dd677ff5875d1eff31ecb2729674f39a83e0d89a74b68f9eb0c3621a8de", func := "colophon/colophonlaw09.StreamPlays", spec := "streamPlays", inPlace := ["internal/bytealg.IndexByteString", "internal/bytealg.IndexString", "internal/abi.NoEscape", "internal/bytealg.MakeNoZero"], unfollowed := true, recurses := true, named := ["internal/bytealg.MaxLen", "colophon/width.spans"], apart := false, laid := [("colophon/width.spans", laid_colophon_width_spans)] }
def StreamPlaysSaid : Prop := streamPlaysRow.holds Tryz.pinned (OpenSpec.ofChange streamPlaysSpec)

/-- ITS FALSE NEIGHBOUR: 'it returns false'. Refute it at one input. -/
def streamPlaysWrong : ChangeSpec := { name := "streamPlays", fn := fun _ => fun
  | [d1, d2, d3] => { results := [.lit (.bool false)], args := [d1, d2, d3] }
  | _ => none }
def StreamPlaysWrongFalsely : Prop := streamPlaysRow.holds Tryz.pinned (OpenSpec.ofChange streamPlaysWrong)

/-- 'colophonlaw09.StreamWhole': WHATEVER THE INPUT: true; the input reads as it did. -/
def streamWholeSpec : ChangeSpec := { name := "streamWhole", fn := fun _ => fun
  | [d1, d2] => { results := [.lit (.bool true)], args := [d1, d2] }
  | _ => none }
def streamWholeRow : OpenClaim := { program := "ytmjhfabdbajchaagreatdoor", sum := "eac49dd677ff5875d1eff31ecb2729674f39a83e0d89a74b68f9eb0c3621a8de", func := "colophon/colophonlaw09.StreamWhole", spec := "streamWhole", inPlace := ["internal/bytealg.IndexByteString", "internal/bytealg.IndexString", "internal/abi.NoEscape", "internal/bytealg.MakeNoZero"], unfollowed := true, recurses := true, named := ["internal/bytealg.MaxLen", "colophon/width.spans"], apart := false, laid := [("colophon/width.spans", laid_colophon_width_spans)] }
def StreamWholeSaid : Prop := streamWholeRow.holds Tryz.pinned (OpenSpec.ofChange streamWholeSpec)

/-- ITS FALSE NEIGHBOUR: 'it returns false'. Refute it at one input. -/
def streamWholeWrong : ChangeSpec := { name := "streamWhole", fn := fun _ => fun
  | [d1, d2] => { results := [.lit (.bool false)], args := [d1, d2] }
  | _ => none }
def StreamWholeWrongFalsely : Prop := streamWholeRow.holds Tryz.pinned (OpenSpec.ofChange streamWholeWrong)

/-- 'colophonlaw09.StreamBegins': WHATEVER THE INPUT: true; the input reads as it did. -/
def streamBeginsSpec : ChangeSpec := { name := "streamBegins", fn := fun _ => fun
  | [d1, d2, d3] => { results := [.lit (.bool true)], args := [d1, d2, d3] }
  | _ => none }
def streamBeginsRow : OpenClaim := { program := "ytmjhfabdbajchaagreatdoor", sum := "eac49dd677ff5875d1eff31ecb2729674f39a83e0d89a74b68f9eb0c3621a8de", func := "colophon/colophonlaw09.StreamBegins", spec := "streamBegins", inPlace := ["internal/bytealg.IndexByteString", "internal/bytealg.IndexString", "internal/abi.NoEscape", "internal/bytealg.MakeNoZero"], unfollowed := true, recurses := true, named := ["internal/bytealg.MaxLen", "colophon/width.spans"], apart := false, laid := [("colophon/width.spans", laid_colophon_width_spans)] }
def StreamBeginsSaid : Prop := streamBeginsRow.holds Tryz.pinned (OpenSpec.ofChange streamBeginsSpec)

/-- ITS FALSE NEIGHBOUR: 'it returns false'. Refute it at one input. -/
def streamBeginsWrong : ChangeSpec := { name := "streamBegins", fn := fun _ => fun
  | [d1, d2, d3] => { results := [.lit (.bool false)], args := [d1, d2, d3] }
  | _ => none }
def StreamBeginsWrongFalsely : Prop := streamBeginsRow.holds Tryz.pinned (OpenSpec.ofChange streamBeginsWrong)

/-- 'colophonlaw09.StreamSoon': WHATEVER THE INPUT: true; the input reads as it did. -/
def streamSoonSpec : ChangeSpec := { name := "streamSoon", fn := fun _ => fun
  | [d1, d2] => { results := [.lit (.bool true)], args := [d1, d2] }
  | _ => none }
def streamSoonRow : OpenClaim := { program := "ytmjhfabdbajchaagreatdoor", sum := "eac49dd677ff5875d1eff31ecb2729674f39a83e0d89a74b68f9eb0c3621a8de", func := "colophon/colophonlaw09.StreamSoon", spec := "streamSoon", inPlace := ["internal/bytealg.IndexByteString", "internal/bytealg.IndexString", "internal/abi.NoEscape", "internal/bytealg.MakeNoZero"], unfollowed := true, recurses := true, named := ["internal/bytealg.MaxLen", "colophon/width.spans"], apart := false, laid := [("colophon/width.spans", laid_colophon_width_spans)] }
def StreamSoonSaid : Prop := streamSoonRow.holds Tryz.pinned (OpenSpec.ofChange streamSoonSpec)

/-- ITS FALSE NEIGHBOUR: 'it returns false'. Refute it at one input. -/
def streamSoonWrong : ChangeSpec := { name := "streamSoon", fn := fun _ => fun
  | [d1, d2] => { results := [.lit (.bool false)], args := [d1, d2] }
  | _ => none }
def StreamSoonWrongFalsely : Prop := streamSoonRow.holds Tryz.pinned (OpenSpec.ofChange streamSoonWrong)

/-- 'colophonlaw09.StreamNil': WHATEVER THE INPUT: true; the input reads as it did. -/
def streamNilSpec : ChangeSpec := { name := "streamNil", fn := fun _ => fun
  | [d] => { results := [.lit (.bool true)], args := [d] }
  | _ => none }
def streamNilRow : OpenClaim := { program := "ytmjhfabdbajchaagreatdoor", sum := "eac49dd677ff5875d1eff31ecb2729674f39a83e0d89a74b68f9eb0c3621a8de", func := "colophon/colophonlaw09.StreamNil", spec := "streamNil", inPlace := ["internal/bytealg.IndexByteString", "internal/bytealg.IndexString", "internal/abi.NoEscape", "internal/bytealg.MakeNoZero"], unfollowed := true, recurses := true, named := ["internal/bytealg.MaxLen", "colophon/width.spans"], apart := false, laid := [("colophon/width.spans", laid_colophon_width_spans)] }
def StreamNilSaid : Prop := streamNilRow.holds Tryz.pinned (OpenSpec.ofChange streamNilSpec)

/-- ITS FALSE NEIGHBOUR: 'it returns false'. Refute it at one input. -/
def streamNilWrong : ChangeSpec := { name := "streamNil", fn := fun _ => fun
  | [d] => { results := [.lit (.bool false)], args := [d] }
  | _ => none }
def StreamNilWrongFalsely : Prop := streamNilRow.holds Tryz.pinned (OpenSpec.ofChange streamNilWrong)

/- THE SECOND FORM. 'bulk': how many values and letters a reading holds, each counted each time it is reached (what is shared counts as often as it is met; a slice's spare places count too). A statement '..UptoSaid' is the law's where the arguments, and the package variables that the reading takes, are together of bulk at most 1048576: NARROWER than '..Said'. Prove '..Said' where nothing that the law and all that it calls make is longer than what came in: it says more and counts as full. Else prove '..UptoSaid'. A law counts once. -/
mutual
def uptoBulk {H : Type} : DataW H → Nat
  | .lit (.string bytes) => bytes.length + 1
  | .lit _ => 1
  | .nil => 1
  | .ptr d => uptoBulk d + 1
  | .slice elems spare => uptoBulkAll elems + uptoBulkAll spare + 1
  | .agg parts => uptoBulkAll parts + 1
  | .iface _ d => uptoBulk d + 1
  | .map entries => uptoBulkEntries entries + 1
  | .held _ => 1
def uptoBulkAll {H : Type} : List (DataW H) → Nat
  | [] => 0
  | d :: r => uptoBulk d + uptoBulkAll r
def uptoBulkEntries {H : Type} : List (Lit × DataW H) → Nat
  | [] => 0
  | x :: r => uptoBulkEntry x + uptoBulkEntries r
def uptoBulkEntry {H : Type} : Lit × DataW H → Nat
  | (.string bytes, d) => bytes.length + uptoBulk d + 1
  | (_, d) => uptoBulk d + 1
 end
def uptoSmall : (H : Type) → List (DataW H) → Bool := fun _ ds => decide (uptoBulkAll ds ≤ 1048576)
def OpenSpec.upto (s : _root_.Go.ChangeSpec) : _root_.Go.OpenSpec := { _root_.Go.OpenSpec.ofChange s with cond := some uptoSmall }

/-- 'colophonlaw09.StreamNames', WHERE WHAT IT READS IS OF BULK AT MOST 1048576: true; the input reads as it did. -/
def streamNamesUptoRow : OpenClaim := { program := "ytmjhfabdbajchaagreatdoor", sum := "eac49dd677ff5875d1eff31ecb2729674f39a83e0d89a74b68f9eb0c3621a8de", func := "colophon/colophonlaw09.StreamNames", spec := "streamNames", inPlace := ["internal/bytealg.IndexByteString", "internal/bytealg.IndexString", "internal/abi.NoEscape", "internal/bytealg.MakeNoZero"], unfollowed := true, recurses := true, named := ["internal/bytealg.MaxLen", "colophon/width.spans"], apart := false, laid := [("colophon/width.spans", laid_colophon_width_spans)], narrowed := true }
def StreamNamesUptoSaid : Prop := streamNamesUptoRow.holds Tryz.pinned (OpenSpec.upto streamNamesSpec)

/-- 'colophonlaw09.StreamPlays', WHERE WHAT IT READS IS OF BULK AT MOST 1048576: true; the input reads as it did. -/
def streamPlaysUptoRow : OpenClaim := { program := "ytmjhfabdbajchaagreatdoor", sum := "eac49dd677ff5875d1eff31ecb2729674f39a83e0d89a74b68f9eb0c3621a8de", func := "colophon/colophonlaw09.StreamPlays", spec := "streamPlays", inPlace := ["internal/bytealg.IndexByteString", "internal/bytealg.IndexString", "internal/abi.NoEscape", "internal/bytealg.MakeNoZero"], unfollowed := true, recurses := true, named := ["internal/bytealg.MaxLen", "colophon/width.spans"], apart := false, laid := [("colophon/width.spans", laid_colophon_width_spans)], narrowed := true }
def StreamPlaysUptoSaid : Prop := streamPlaysUptoRow.holds Tryz.pinned (OpenSpec.upto streamPlaysSpec)

/-- 'colophonlaw09.StreamWhole', WHERE WHAT IT READS IS OF BULK AT MOST 1048576: true; the input reads as it did. -/
def streamWholeUptoRow : OpenClaim := { program := "ytmjhfabdbajchaagreatdoor", sum := "eac49dd677ff5875d1eff31ecb2729674f39a83e0d89a74b68f9eb0c3621a8de", func := "colophon/colophonlaw09.StreamWhole", spec := "streamWhole", inPlace := ["internal/bytealg.IndexByteString", "internal/bytealg.IndexString", "internal/abi.NoEscape", "internal/bytealg.MakeNoZero"], unfollowed := true, recurses := true, named := ["internal/bytealg.MaxLen", "colophon/width.spans"], apart := false, laid := [("colophon/width.spans", laid_colophon_width_spans)], narrowed := true }
def StreamWholeUptoSaid : Prop := streamWholeUptoRow.holds Tryz.pinned (OpenSpec.upto streamWholeSpec)

/-- 'colophonlaw09.StreamBegins', WHERE WHAT IT READS IS OF BULK AT MOST 1048576: true; the input reads as it did. -/
def streamBeginsUptoRow : OpenClaim := { program := "ytmjhfabdbajchaagreatdoor", sum := "eac49dd677ff5875d1eff31ecb2729674f39a83e0d89a74b68f9eb0c3621a8de", func := "colophon/colophonlaw09.StreamBegins", spec := "streamBegins", inPlace := ["internal/bytealg.IndexByteString", "internal/bytealg.IndexString", "internal/abi.NoEscape", "internal/bytealg.MakeNoZero"], unfollowed := true, recurses := true, named := ["internal/bytealg.MaxLen", "colophon/width.spans"], apart := false, laid := [("colophon/width.spans", laid_colophon_width_spans)], narrowed := true }
def StreamBeginsUptoSaid : Prop := streamBeginsUptoRow.holds Tryz.pinned (OpenSpec.upto streamBeginsSpec)

/-- 'colophonlaw09.StreamSoon', WHERE WHAT IT READS IS OF BULK AT MOST 1048576: true; the input reads as it did. -/
def streamSoonUptoRow : OpenClaim := { program := "ytmjhfabdbajchaagreatdoor", sum := "eac49dd677ff5875d1eff31ecb2729674f39a83e0d89a74b68f9eb0c3621a8de", func := "colophon/colophonlaw09.StreamSoon", spec := "streamSoon", inPlace := ["internal/bytealg.IndexByteString", "internal/bytealg.IndexString", "internal/abi.NoEscape", "internal/bytealg.MakeNoZero"], unfollowed := true, recurses := true, named := ["internal/bytealg.MaxLen", "colophon/width.spans"], apart := false, laid := [("colophon/width.spans", laid_colophon_width_spans)], narrowed := true }
def StreamSoonUptoSaid : Prop := streamSoonUptoRow.holds Tryz.pinned (OpenSpec.upto streamSoonSpec)

/-- 'colophonlaw09.StreamNil', WHERE WHAT IT READS IS OF BULK AT MOST 1048576: true; the input reads as it did. -/
def streamNilUptoRow : OpenClaim := { program := "ytmjhfabdbajchaagreatdoor", sum := "eac49dd677ff5875d1eff31ecb2729674f39a83e0d89a74b68f9eb0c3621a8de", func := "colophon/colophonlaw09.StreamNil", spec := "streamNil", inPlace := ["internal/bytealg.IndexByteString", "internal/bytealg.IndexString", "internal/abi.NoEscape", "internal/bytealg.MakeNoZero"], unfollowed := true, recurses := true, named := ["internal/bytealg.MaxLen", "colophon/width.spans"], apart := false, laid := [("colophon/width.spans", laid_colophon_width_spans)], narrowed := true }
def StreamNilUptoSaid : Prop := streamNilUptoRow.holds Tryz.pinned (OpenSpec.upto streamNilSpec)

end Rows
end Go.Proofs.YtmjhfabdbajchaaGreatDoor
