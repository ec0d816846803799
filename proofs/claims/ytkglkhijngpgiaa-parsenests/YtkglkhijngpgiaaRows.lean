/-
  No cell of these rows narrows 'for every input' (looked for: loops, veiled, ifaces, maps, wideKeys, modest, calm, conditions, laid).
  DERIVED. THE GIVEN ROWS OF THIS SEAT. 2 by the template 'for every input the law returns true; each argument reads behind the call as it read before'; 0 by the template 'total and deterministic' (their statements: YtkglkhijngpgiaaTotals.lean).
  GIVEN WITH THE SEED: the statements are not yours to turn. If you find one false, say at which input.
  Laid BY PROGRAM, IN A SANDBOX (cutbox-rows.mjs): the forced cells as the released guide's own fill.sh prints them over the translation 35c04b54b6c5b94d… (all of the seat's roots in one cut). By AI agents, Wed Nov 11 2026. No macro, syntax, notation, axiom, sorry.
-/
import Derived.Test.YtkglkhijngpgiaaChecked
import GoSem.Claim
import GoSem.ClaimJoined
import GoSem.ClaimMapViews
import Derived.JoinedTies
import Derived.KernelRfl
namespace Go.Proofs.Ytkglkhijngpgiaa
/- THE CELL 'sum', in the pinned program and in every row, IS THE sha256 OF THE DUMP (.gsa) THAT YtkglkhijngpgiaaProg.lean LOADS. Nothing in Lean hashes anything: it is a label: what it is worth is what the hold of that sum in a sandbox is worth. -/
noncomputable def Try.pinned : Pinned := { name := "ytkglkhijngpgiaa", sum := "35c04b54b6c5b94dbe2314fd0d787c8a1fcb49a7754a31c88a53839fa7c53762", checked := Try.checked }
namespace Rows
def none {H : Type} : Left H := { results := [], args := [] }

/-- 'colophonlaw12.ParseNests': WHATEVER THE INPUT: true; the input reads as it did. -/
def parseNestsSpec : ChangeSpec := { name := "parseNests", fn := fun _ => fun
  | [d] => { results := [.lit (.bool true)], args := [d] }
  | _ => none }
def parseNestsRow : OpenClaim := { program := "ytkglkhijngpgiaa", sum := "35c04b54b6c5b94dbe2314fd0d787c8a1fcb49a7754a31c88a53839fa7c53762", func := "colophon/colophonlaw12.ParseNests", spec := "parseNests", unfollowed := true, recurses := true, apart := false }
def ParseNestsSaid : Prop := parseNestsRow.holds Try.pinned (OpenSpec.ofChange parseNestsSpec)

/-- ITS FALSE NEIGHBOUR: 'it returns false'. Refute it at one input. -/
def parseNestsWrong : ChangeSpec := { name := "parseNests", fn := fun _ => fun
  | [d] => { results := [.lit (.bool false)], args := [d] }
  | _ => none }
def ParseNestsWrongFalsely : Prop := parseNestsRow.holds Try.pinned (OpenSpec.ofChange parseNestsWrong)

/-- 'colophonlaw12.ParseNotes': WHATEVER THE INPUT: true; the input reads as it did. -/
def parseNotesSpec : ChangeSpec := { name := "parseNotes", fn := fun _ => fun
  | [d] => { results := [.lit (.bool true)], args := [d] }
  | _ => none }
def parseNotesRow : OpenClaim := { program := "ytkglkhijngpgiaa", sum := "35c04b54b6c5b94dbe2314fd0d787c8a1fcb49a7754a31c88a53839fa7c53762", func := "colophon/colophonlaw12.ParseNotes", spec := "parseNotes", unfollowed := true, recurses := true, apart := false }
def ParseNotesSaid : Prop := parseNotesRow.holds Try.pinned (OpenSpec.ofChange parseNotesSpec)

/-- ITS FALSE NEIGHBOUR: 'it returns false'. Refute it at one input. -/
def parseNotesWrong : ChangeSpec := { name := "parseNotes", fn := fun _ => fun
  | [d] => { results := [.lit (.bool false)], args := [d] }
  | _ => none }
def ParseNotesWrongFalsely : Prop := parseNotesRow.holds Try.pinned (OpenSpec.ofChange parseNotesWrong)

/- THE SECOND FORM. 'bulk': how many values and letters a reading holds, each counted each time it is reached (what is shared counts as often as it is met; a slice's spare places count too). A statement '..UptoSaid' is the law's where the arguments, and the package variables that the reading takes, are together of bulk at most 1048576: NARROWER than '..Said'. Prove '..Said' where nothing that the law and all that it calls make is longer than what came in: it says more and counts as full. Else prove '..UptoSaid'. A law counts once. -/
mutual
def uptoBulk {H : Type} : DataW H → Nat
  | .lit (.string bytes) => bytes.length + 1
  | .lit _ => 1
  | .nil => 1
  | .ptr d => uptoBulk d + 1
  | .slice elems spare => uptoBulkAll elems + uptoBulkAll spare + 1
  | .agg parts => uptoBulkAll parts + 1
  | .iface _ d => uptoBulk d + 1
  | .map entries => uptoBulkEntries entries + 1
  | .held _ => 1
def uptoBulkAll {H : Type} : List (DataW H) → Nat
  | [] => 0
  | d :: r => uptoBulk d + uptoBulkAll r
def uptoBulkEntries {H : Type} : List (Lit × DataW H) → Nat
  | [] => 0
  | x :: r => uptoBulkEntry x + uptoBulkEntries r
def uptoBulkEntry {H : Type} : Lit × DataW H → Nat
  | (.string bytes, d) => bytes.length + uptoBulk d + 1
  | (_, d) => uptoBulk d + 1
 end
def uptoSmall : (H : Type) → List (DataW H) → Bool := fun _ ds => decide (uptoBulkAll ds ≤ 1048576)
def OpenSpec.upto (s : _root_.Go.ChangeSpec) : _root_.Go.OpenSpec := { _root_.Go.OpenSpec.ofChange s with cond := some uptoSmall }

/-- 'colophonlaw12.ParseNests', WHERE WHAT IT READS IS OF BULK AT MOST 1048576: true; the input reads as it did. -/
def parseNestsUptoRow : OpenClaim := { program := "ytkglkhijngpgiaa", sum := "35c04b54b6c5b94dbe2314fd0d787c8a1fcb49a7754a31c88a53839fa7c53762", func := "colophon/colophonlaw12.ParseNests", spec := "parseNests", unfollowed := true, recurses := true, apart := false, narrowed := true }
def ParseNestsUptoSaid : Prop := parseNestsUptoRow.holds Try.pinned (OpenSpec.upto parseNestsSpec)

/-- 'colophonlaw12.ParseNotes', WHERE WHAT IT READS IS OF BULK AT MOST 1048576: true; the input reads as it did. -/
def parseNotesUptoRow : OpenClaim := { program := "ytkglkhijngpgiaa", sum := "35c04b54b6c5b94dbe2314fd0d787c8a1fcb49a7754a31c88a53839fa7c53762", func := "colophon/colophonlaw12.ParseNotes", spec := "parseNotes", unfollowed := true, recurses := true, apart := false, narrowed := true }
def ParseNotesUptoSaid : Prop := parseNotesUptoRow.holds Try.pinned (OpenSpec.upto parseNotesSpec)

end Rows
end Go.Proofs.Ytkglkhijngpgiaa
