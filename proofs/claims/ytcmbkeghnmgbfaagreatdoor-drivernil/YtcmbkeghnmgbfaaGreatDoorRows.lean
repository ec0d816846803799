/-
  NARROWER THAN 'FOR EVERY INPUT', by the rows' own cells (each row's printed sentence says how): DriverNil: laid.
  DERIVED. THE GIVEN ROWS OF THIS SEAT. 1 by the template 'for every input the law returns true; each argument reads behind the call as it read before'; 0 by the template 'total and deterministic' (their statements: YtcmbkeghnmgbfaaGreatDoorTotals.lean).
  GIVEN WITH THE SEED: the statements are not yours to turn. If you find one false, say at which input.
  Laid BY PROGRAM, IN A SANDBOX (cutbox-rows.mjs): the forced cells as the released guide's own fill.sh prints them over the translation 246fc13e62280890… (all of the seat's roots in one cut). By AI agents, Wed Nov 11 2026. No macro, syntax, notation, axiom, sorry.
-/
import Derived.Test.YtcmbkeghnmgbfaaGreatDoorChecked
import GoSem.PinnedTables
import GoSem.Claim
import GoSem.ClaimJoined
import GoSem.ClaimMapViews
import Derived.JoinedTies
import Derived.KernelRfl
namespace Go.Proofs.YtcmbkeghnmgbfaaGreatDoor
/- THE CELL 'sum', in the pinned program and in every row, IS THE sha256 OF THE DUMP (.gsa) THAT YtcmbkeghnmgbfaaGreatDoorProg.lean LOADS. Nothing in Lean hashes anything: it is a label: what it is worth is what the hold of that sum in a sandbox is worth. -/
noncomputable def Tryz.pinned : Pinned := { name := "ytcmbkeghnmgbfaagreatdoor", sum := "246fc13e6228089019a9ec977096b6d7bbe489e1596f68041df3417a3bc997b5", checked := Tryz.checked }
namespace Rows
def none {H : Type} : Left H := { results := [], args := [] }

/- WHAT THE LISTED PACKAGE-LEVEL VARIABLES READ AS WHEN THE CALL BEGINS. Each datum BY PROGRAM (the guide's laid-datum.mjs) off the statement by which the dump's own 'gosem.cut.vars' lays the variable. In a bare row this is a premise. The card (YtcmbkeghnmgbfaaGreatDoorCards.lean) ties it to the program's text. -/
def laid_colophon_width_spans {H : Type} : DataW H := .agg [.agg [.lit (.int .i64 768), .lit (.int .i64 879), .lit (.int .i64 0)], .agg [.lit (.int .i64 4352), .lit (.int .i64 4447), .lit (.int .i64 2)], .agg [.lit (.int .i64 8203), .lit (.int .i64 8207), .lit (.int .i64 0)], .agg [.lit (.int .i64 8400), .lit (.int .i64 8447), .lit (.int .i64 0)], .agg [.lit (.int .i64 11904), .lit (.int .i64 12350), .lit (.int .i64 2)], .agg [.lit (.int .i64 12353), .lit (.int .i64 42191), .lit (.int .i64 2)], .agg [.lit (.int .i64 44032), .lit (.int .i64 55203), .lit (.int .i64 2)], .agg [.lit (.int .i64 63744), .lit (.int .i64 64255), .lit (.int .i64 2)], .agg [.lit (.int .i64 65024), .lit (.int .i64 65039), .lit (.int .i64 0)], .agg [.lit (.int .i64 65056), .lit (.int .i64 65071), .lit (.int .i64 0)], .agg [.lit (.int .i64 65072), .lit (.int .i64 65135), .lit (.int .i64 2)], .agg [.lit (.int .i64 65280), .lit (.int .i64 65376), .lit (.int .i64 2)], .agg [.lit (.int .i64 65504), .lit (.int .i64 65510), .lit (.int .i64 2)], .agg [.lit (.int .i64 127744), .lit (.int .i64 128591), .lit (.int .i64 2)], .agg [.lit (.int .i64 129280), .lit (.int .i64 129535), .lit (.int .i64 2)], .agg [.lit (.int .i64 131072), .lit (.int .i64 262141), .lit (.int .i64 2)]]
def laid_unicode_utf8_acceptRanges {H : Type} : DataW H := .agg [.agg [.lit (.int .u8 128), .lit (.int .u8 191)], .agg [.lit (.int .u8 160), .lit (.int .u8 191)], .agg [.lit (.int .u8 128), .lit (.int .u8 159)], .agg [.lit (.int .u8 144), .lit (.int .u8 191)], .agg [.lit (.int .u8 128), .lit (.int .u8 143)], .agg [.lit (.int .u8 0), .lit (.int .u8 0)], .agg [.lit (.int .u8 0), .lit (.int .u8 0)], .agg [.lit (.int .u8 0), .lit (.int .u8 0)], .agg [.lit (.int .u8 0), .lit (.int .u8 0)], .agg [.lit (.int .u8 0), .lit (.int .u8 0)], .agg [.lit (.int .u8 0), .lit (.int .u8 0)], .agg [.lit (.int .u8 0), .lit (.int .u8 0)], .agg [.lit (.int .u8 0), .lit (.int .u8 0)], .agg [.lit (.int .u8 0), .lit (.int .u8 0)], .agg [.lit (.int .u8 0), .lit (.int .u8 0)], .agg [.lit (.int .u8 0), .lit (.int .u8 0)]]
def laid_errors_errorType {H : Type} : DataW H := .iface "internal/reflectlite.rtype" (.agg [.ptr (.lit (.string [101, 114, 114, 111, 114]))])
def laid_colophon_class_spans {H : Type} : DataW H := .agg [.agg [.lit (.int .i64 48), .lit (.int .i64 57), .lit (.int .i64 1)], .agg [.lit (.int .i64 65), .lit (.int .i64 90), .lit (.int .i64 2)], .agg [.lit (.int .i64 95), .lit (.int .i64 95), .lit (.int .i64 1)], .agg [.lit (.int .i64 97), .lit (.int .i64 122), .lit (.int .i64 2)], .agg [.lit (.int .i64 192), .lit (.int .i64 214), .lit (.int .i64 2)], .agg [.lit (.int .i64 216), .lit (.int .i64 246), .lit (.int .i64 2)], .agg [.lit (.int .i64 248), .lit (.int .i64 591), .lit (.int .i64 2)], .agg [.lit (.int .i64 768), .lit (.int .i64 879), .lit (.int .i64 1)], .agg [.lit (.int .i64 913), .lit (.int .i64 929), .lit (.int .i64 2)], .agg [.lit (.int .i64 931), .lit (.int .i64 974), .lit (.int .i64 2)], .agg [.lit (.int .i64 1024), .lit (.int .i64 1119), .lit (.int .i64 2)], .agg [.lit (.int .i64 1488), .lit (.int .i64 1514), .lit (.int .i64 2)], .agg [.lit (.int .i64 1568), .lit (.int .i64 1610), .lit (.int .i64 2)], .agg [.lit (.int .i64 2308), .lit (.int .i64 2361), .lit (.int .i64 2)], .agg [.lit (.int .i64 12353), .lit (.int .i64 12438), .lit (.int .i64 2)], .agg [.lit (.int .i64 12449), .lit (.int .i64 12538), .lit (.int .i64 2)], .agg [.lit (.int .i64 19968), .lit (.int .i64 40959), .lit (.int .i64 2)], .agg [.lit (.int .i64 44032), .lit (.int .i64 55203), .lit (.int .i64 2)], .agg [.lit (.int .i64 66560), .lit (.int .i64 66639), .lit (.int .i64 2)], .agg [.lit (.int .i64 131072), .lit (.int .i64 196607), .lit (.int .i64 2)]]
def laid_colophon_class_words {H : Type} : DataW H := .agg [.lit (.string [97, 110, 100]), .lit (.string [97, 114, 114, 97, 121]), .lit (.string [98, 101, 103, 105, 110]), .lit (.string [99, 111, 110, 115, 116]), .lit (.string [100, 111]), .lit (.string [101, 108, 105, 102]), .lit (.string [101, 108, 115, 101]), .lit (.string [101, 110, 100]), .lit (.string [102, 111, 114]), .lit (.string [105, 102]), .lit (.string [110, 111, 116]), .lit (.string [111, 102]), .lit (.string [111, 114]), .lit (.string [112, 114, 111, 99]), .lit (.string [112, 114, 111, 103, 114, 97, 109]), .lit (.string [114, 101, 99, 111, 114, 100]), .lit (.string [114, 101, 112, 101, 97, 116]), .lit (.string [114, 101, 116, 117, 114, 110]), .lit (.string [115, 107, 105, 112]), .lit (.string [116, 104, 101, 110]), .lit (.string [116, 111]), .lit (.string [117, 110, 116, 105, 108]), .lit (.string [118, 97, 114]), .lit (.string [119, 104, 105, 108, 101])]
def laid_colophon_class_signs {H : Type} : DataW H := .agg [.lit (.string [58, 61]), .lit (.string [46, 46]), .lit (.string [60, 61]), .lit (.string [62, 61]), .lit (.string [59]), .lit (.string [46]), .lit (.string [44]), .lit (.string [58]), .lit (.string [61]), .lit (.string [35]), .lit (.string [60]), .lit (.string [62]), .lit (.string [40]), .lit (.string [41]), .lit (.string [91]), .lit (.string [93]), .lit (.string [43]), .lit (.string [45]), .lit (.string [42]), .lit (.string [47]), .lit (.string [37])]
/-- One of Go's own tables, pinned by name: the form's constant. -/
def laid_unicode_utf8_first : DataW Unit := Go.Pinned.utf8First

/-- 'colophonlaw17.DriverNil': WHATEVER THE INPUT: true; the input reads as it did. -/
def driverNilSpec : ChangeSpec := { name := "driverNil", fn := fun _ => fun
  | [d] => { results := [.lit (.bool true)], args := [d] }
  | _ => none }
def driverNilRow : OpenClaim := { program := "ytcmbkeghnmgbfaagreatdoor", sum := "246fc13e6228089019a9ec977096b6d7bbe489e1596f68041df3417a3bc997b5", func := "colophon/colophonlaw17.DriverNil", spec := "driverNil", inPlace := ["internal/bytealg.IndexByteString", "internal/bytealg.IndexString", "slices.overlaps[colophon/api.Doc]", "internal/abi.NoEscape", "internal/bytealg.MakeNoZero", "internal/reflectlite.ValueOf", "(internal/reflectlite.Value).Type", "(internal/reflectlite.Value).IsNil", "internal/reflectlite.TypeOf", "(internal/reflectlite.Value).Elem", "(internal/reflectlite.Value).Set"], unfollowed := true, recurses := true, named := ["internal/bytealg.MaxLen", "unicode/utf8.first", "unicode/utf8.acceptRanges", "colophon/class.spans", "colophon/class.words", "colophon/class.signs", "colophon/width.spans", "errors.errorType"], apart := false, laid := [("colophon/width.spans", laid_colophon_width_spans), ("unicode/utf8.acceptRanges", laid_unicode_utf8_acceptRanges), ("errors.errorType", laid_errors_errorType), ("colophon/class.spans", laid_colophon_class_spans), ("colophon/class.words", laid_colophon_class_words), ("colophon/class.signs", laid_colophon_class_signs), ("unicode/utf8.first", laid_unicode_utf8_first)] }
def DriverNilSaid : Prop := driverNilRow.holds Tryz.pinned (OpenSpec.ofChange driverNilSpec)

/-- ITS FALSE NEIGHBOUR: 'it returns false'. Refute it at one input. -/
def driverNilWrong : ChangeSpec := { name := "driverNil", fn := fun _ => fun
  | [d] => { results := [.lit (.bool false)], args := [d] }
  | _ => none }
def DriverNilWrongFalsely : Prop := driverNilRow.holds Tryz.pinned (OpenSpec.ofChange driverNilWrong)

/- THE SECOND FORM. 'bulk': how many values and letters a reading holds, each counted each time it is reached (what is shared counts as often as it is met; a slice's spare places count too). A statement '..UptoSaid' is the law's where the arguments, and the package variables that the reading takes, are together of bulk at most 1048576: NARROWER than '..Said'. Prove '..Said' where nothing that the law and all that it calls make is longer than what came in: it says more and counts as full. Else prove '..UptoSaid'. A law counts once. -/
mutual
def uptoBulk {H : Type} : DataW H → Nat
  | .lit (.string bytes) => bytes.length + 1
  | .lit _ => 1
  | .nil => 1
  | .ptr d => uptoBulk d + 1
  | .slice elems spare => uptoBulkAll elems + uptoBulkAll spare + 1
  | .agg parts => uptoBulkAll parts + 1
  | .iface _ d => uptoBulk d + 1
  | .map entries => uptoBulkEntries entries + 1
  | .held _ => 1
def uptoBulkAll {H : Type} : List (DataW H) → Nat
  | [] => 0
  | d :: r => uptoBulk d + uptoBulkAll r
def uptoBulkEntries {H : Type} : List (Lit × DataW H) → Nat
  | [] => 0
  | x :: r => uptoBulkEntry x + uptoBulkEntries r
def uptoBulkEntry {H : Type} : Lit × DataW H → Nat
  | (.string bytes, d) => bytes.length + uptoBulk d + 1
  | (_, d) => uptoBulk d + 1
 end
def uptoSmall : (H : Type) → List (DataW H) → Bool := fun _ ds => decide (uptoBulkAll ds ≤ 1048576)
def OpenSpec.upto (s : _root_.Go.ChangeSpec) : _root_.Go.OpenSpec := { _root_.Go.OpenSpec.ofChange s with cond := some uptoSmall }

/-- 'colophonlaw17.DriverNil', WHERE WHAT IT READS IS OF BULK AT MOST 1048576: true; the input reads as it did. -/
def driverNilUptoRow : OpenClaim := { program := "ytcmbkeghnmgbfaagreatdoor", sum := "246fc13e6228089019a9ec977096b6d7bbe489e1596f68041df3417a3bc997b5", func := "colophon/colophonlaw17.DriverNil", spec := "driverNil", inPlace := ["internal/bytealg.IndexByteString", "internal/bytealg.IndexString", "slices.overlaps[colophon/api.Doc]", "internal/abi.NoEscape", "internal/bytealg.MakeNoZero", "internal/reflectlite.ValueOf", "(internal/reflectlite.Value).Type", "(internal/reflectlite.Value).IsNil", "internal/reflectlite.TypeOf", "(internal/reflectlite.Value).Elem", "(internal/reflectlite.Value).Set"], unfollowed := true, recurses := true, named := ["internal/bytealg.MaxLen", "unicode/utf8.first", "unicode/utf8.acceptRanges", "colophon/class.spans", "colophon/class.words", "colophon/class.signs", "colophon/width.spans", "errors.errorType"], apart := false, laid := [("colophon/width.spans", laid_colophon_width_spans), ("unicode/utf8.acceptRanges", laid_unicode_utf8_acceptRanges), ("errors.errorType", laid_errors_errorType), ("colophon/class.spans", laid_colophon_class_spans), ("colophon/class.words", laid_colophon_class_words), ("colophon/class.signs", laid_colophon_class_signs), ("unicode/utf8.first", laid_unicode_utf8_first)], narrowed := true }
def DriverNilUptoSaid : Prop := driverNilUptoRow.holds Tryz.pinned (OpenSpec.upto driverNilSpec)

end Rows
end Go.Proofs.YtcmbkeghnmgbfaaGreatDoor
