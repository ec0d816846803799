/-
  No cell of these rows narrows 'for every input' (looked for: loops, veiled, ifaces, maps, wideKeys, modest, calm, conditions, laid).
  DERIVED. THE GIVEN ROWS OF THIS SEAT. 5 by the template 'for every input the law returns true; each argument reads behind the call as it read before'; 0 by the template 'total and deterministic' (their statements: YtgjbkdnefbnclaaTotals.lean).
  GIVEN WITH THE SEED: the statements are not yours to turn. If you find one false, say at which input.
  Laid BY PROGRAM, IN A SANDBOX (cutbox-rows.mjs): the forced cells as the released guide's own fill.sh prints them over the translation 768bddaaf9950dc1… (all of the seat's roots in one cut). By AI agents, Wed Nov 11 2026. No macro, syntax, notation, axiom, sorry.
-/
import Derived.Test.YtgjbkdnefbnclaaChecked
import GoSem.Claim
import GoSem.ClaimJoined
import GoSem.ClaimMapViews
import Derived.JoinedTies
import Derived.KernelRfl
namespace Go.Proofs.Ytgjbkdnefbnclaa
/- THE CELL 'sum', in the pinned program and in every row, IS THE sha256 OF THE DUMP (.gsa) THAT YtgjbkdnefbnclaaProg.lean LOADS. Nothing in Lean hashes anything: it is a label: what it is worth is what the hold of that sum in a sandbox is worth. -/
noncomputable def Try.pinned : Pinned := { name := "ytgjbkdnefbnclaa", sum := "768bddaaf9950dc18fecf29095b5c552eec4fbbfd31b369d54105caf26cea537", checked := Try.checked }
namespace Rows
def none {H : Type} : Left H := { results := [], args := [] }

/-- 'colophonlaw01.CharExact': WHATEVER THE INPUT: true; the input reads as it did. -/
def charExactSpec : ChangeSpec := { name := "charExact", fn := fun _ => fun
  | [d] => { results := [.lit (.bool true)], args := [d] }
  | _ => none }
def charExactRow : OpenClaim := { program := "ytgjbkdnefbnclaa", sum := "768bddaaf9950dc18fecf29095b5c552eec4fbbfd31b369d54105caf26cea537", func := "colophon/colophonlaw01.CharExact", spec := "charExact", apart := false }
def CharExactSaid : Prop := charExactRow.holds Try.pinned (OpenSpec.ofChange charExactSpec)

/-- ITS FALSE NEIGHBOUR: 'it returns false'. Refute it at one input. -/
def charExactWrong : ChangeSpec := { name := "charExact", fn := fun _ => fun
  | [d] => { results := [.lit (.bool false)], args := [d] }
  | _ => none }
def CharExactWrongFalsely : Prop := charExactRow.holds Try.pinned (OpenSpec.ofChange charExactWrong)

/-- 'colophonlaw01.CharRange': WHATEVER THE INPUT: true; the input reads as it did. -/
def charRangeSpec : ChangeSpec := { name := "charRange", fn := fun _ => fun
  | [d] => { results := [.lit (.bool true)], args := [d] }
  | _ => none }
def charRangeRow : OpenClaim := { program := "ytgjbkdnefbnclaa", sum := "768bddaaf9950dc18fecf29095b5c552eec4fbbfd31b369d54105caf26cea537", func := "colophon/colophonlaw01.CharRange", spec := "charRange", apart := false }
def CharRangeSaid : Prop := charRangeRow.holds Try.pinned (OpenSpec.ofChange charRangeSpec)

/-- ITS FALSE NEIGHBOUR: 'it returns false'. Refute it at one input. -/
def charRangeWrong : ChangeSpec := { name := "charRange", fn := fun _ => fun
  | [d] => { results := [.lit (.bool false)], args := [d] }
  | _ => none }
def CharRangeWrongFalsely : Prop := charRangeRow.holds Try.pinned (OpenSpec.ofChange charRangeWrong)

/-- 'colophonlaw01.CharSteps': WHATEVER THE INPUT: true; the input reads as it did. -/
def charStepsSpec : ChangeSpec := { name := "charSteps", fn := fun _ => fun
  | [d] => { results := [.lit (.bool true)], args := [d] }
  | _ => none }
def charStepsRow : OpenClaim := { program := "ytgjbkdnefbnclaa", sum := "768bddaaf9950dc18fecf29095b5c552eec4fbbfd31b369d54105caf26cea537", func := "colophon/colophonlaw01.CharSteps", spec := "charSteps", apart := false }
def CharStepsSaid : Prop := charStepsRow.holds Try.pinned (OpenSpec.ofChange charStepsSpec)

/-- ITS FALSE NEIGHBOUR: 'it returns false'. Refute it at one input. -/
def charStepsWrong : ChangeSpec := { name := "charSteps", fn := fun _ => fun
  | [d] => { results := [.lit (.bool false)], args := [d] }
  | _ => none }
def CharStepsWrongFalsely : Prop := charStepsRow.holds Try.pinned (OpenSpec.ofChange charStepsWrong)

/-- 'colophonlaw01.CharBack': WHATEVER THE INPUT: true; the input reads as it did. -/
def charBackSpec : ChangeSpec := { name := "charBack", fn := fun _ => fun
  | [d1, d2] => { results := [.lit (.bool true)], args := [d1, d2] }
  | _ => none }
def charBackRow : OpenClaim := { program := "ytgjbkdnefbnclaa", sum := "768bddaaf9950dc18fecf29095b5c552eec4fbbfd31b369d54105caf26cea537", func := "colophon/colophonlaw01.CharBack", spec := "charBack", apart := false }
def CharBackSaid : Prop := charBackRow.holds Try.pinned (OpenSpec.ofChange charBackSpec)

/-- ITS FALSE NEIGHBOUR: 'it returns false'. Refute it at one input. -/
def charBackWrong : ChangeSpec := { name := "charBack", fn := fun _ => fun
  | [d1, d2] => { results := [.lit (.bool false)], args := [d1, d2] }
  | _ => none }
def CharBackWrongFalsely : Prop := charBackRow.holds Try.pinned (OpenSpec.ofChange charBackWrong)

/-- 'colophonlaw01.CharJoined': WHATEVER THE INPUT: true; the input reads as it did. -/
def charJoinedSpec : ChangeSpec := { name := "charJoined", fn := fun _ => fun
  | [d1, d2] => { results := [.lit (.bool true)], args := [d1, d2] }
  | _ => none }
def charJoinedRow : OpenClaim := { program := "ytgjbkdnefbnclaa", sum := "768bddaaf9950dc18fecf29095b5c552eec4fbbfd31b369d54105caf26cea537", func := "colophon/colophonlaw01.CharJoined", spec := "charJoined", apart := false }
def CharJoinedSaid : Prop := charJoinedRow.holds Try.pinned (OpenSpec.ofChange charJoinedSpec)

/-- ITS FALSE NEIGHBOUR: 'it returns false'. Refute it at one input. -/
def charJoinedWrong : ChangeSpec := { name := "charJoined", fn := fun _ => fun
  | [d1, d2] => { results := [.lit (.bool false)], args := [d1, d2] }
  | _ => none }
def CharJoinedWrongFalsely : Prop := charJoinedRow.holds Try.pinned (OpenSpec.ofChange charJoinedWrong)

/- THE SECOND FORM. 'bulk': how many values and letters a reading holds, each counted each time it is reached (what is shared counts as often as it is met; a slice's spare places count too). A statement '..UptoSaid' is the law's where the arguments, and the package variables that the reading takes, are together of bulk at most 1048576: NARROWER than '..Said'. Prove '..Said' where nothing that the law and all that it calls make is longer than what came in: it says more and counts as full. Else prove '..UptoSaid'. A law counts once. -/
mutual
def uptoBulk {H : Type} : DataW H → Nat
  | .lit (.string bytes) => bytes.length + 1
  | .lit _ => 1
  | .nil => 1
  | .ptr d => uptoBulk d + 1
  | .slice elems spare => uptoBulkAll elems + uptoBulkAll spare + 1
  | .agg parts => uptoBulkAll parts + 1
  | .iface _ d => uptoBulk d + 1
  | .map entries => uptoBulkEntries entries + 1
  | .held _ => 1
def uptoBulkAll {H : Type} : List (DataW H) → Nat
  | [] => 0
  | d :: r => uptoBulk d + uptoBulkAll r
def uptoBulkEntries {H : Type} : List (Lit × DataW H) → Nat
  | [] => 0
  | x :: r => uptoBulkEntry x + uptoBulkEntries r
def uptoBulkEntry {H : Type} : Lit × DataW H → Nat
  | (.string bytes, d) => bytes.length + uptoBulk d + 1
  | (_, d) => uptoBulk d + 1
 end
def uptoSmall : (H : Type) → List (DataW H) → Bool := fun _ ds => decide (uptoBulkAll ds ≤ 1048576)
def OpenSpec.upto (s : _root_.Go.ChangeSpec) : _root_.Go.OpenSpec := { _root_.Go.OpenSpec.ofChange s with cond := some uptoSmall }

/-- 'colophonlaw01.CharExact', WHERE WHAT IT READS IS OF BULK AT MOST 1048576: true; the input reads as it did. -/
def charExactUptoRow : OpenClaim := { program := "ytgjbkdnefbnclaa", sum := "768bddaaf9950dc18fecf29095b5c552eec4fbbfd31b369d54105caf26cea537", func := "colophon/colophonlaw01.CharExact", spec := "charExact", apart := false, narrowed := true }
def CharExactUptoSaid : Prop := charExactUptoRow.holds Try.pinned (OpenSpec.upto charExactSpec)

/-- 'colophonlaw01.CharRange', WHERE WHAT IT READS IS OF BULK AT MOST 1048576: true; the input reads as it did. -/
def charRangeUptoRow : OpenClaim := { program := "ytgjbkdnefbnclaa", sum := "768bddaaf9950dc18fecf29095b5c552eec4fbbfd31b369d54105caf26cea537", func := "colophon/colophonlaw01.CharRange", spec := "charRange", apart := false, narrowed := true }
def CharRangeUptoSaid : Prop := charRangeUptoRow.holds Try.pinned (OpenSpec.upto charRangeSpec)

/-- 'colophonlaw01.CharSteps', WHERE WHAT IT READS IS OF BULK AT MOST 1048576: true; the input reads as it did. -/
def charStepsUptoRow : OpenClaim := { program := "ytgjbkdnefbnclaa", sum := "768bddaaf9950dc18fecf29095b5c552eec4fbbfd31b369d54105caf26cea537", func := "colophon/colophonlaw01.CharSteps", spec := "charSteps", apart := false, narrowed := true }
def CharStepsUptoSaid : Prop := charStepsUptoRow.holds Try.pinned (OpenSpec.upto charStepsSpec)

/-- 'colophonlaw01.CharBack', WHERE WHAT IT READS IS OF BULK AT MOST 1048576: true; the input reads as it did. -/
def charBackUptoRow : OpenClaim := { program := "ytgjbkdnefbnclaa", sum := "768bddaaf9950dc18fecf29095b5c552eec4fbbfd31b369d54105caf26cea537", func := "colophon/colophonlaw01.CharBack", spec := "charBack", apart := false, narrowed := true }
def CharBackUptoSaid : Prop := charBackUptoRow.holds Try.pinned (OpenSpec.upto charBackSpec)

/-- 'colophonlaw01.CharJoined', WHERE WHAT IT READS IS OF BULK AT MOST 1048576: true; the input reads as it did. -/
def charJoinedUptoRow : OpenClaim := { program := "ytgjbkdnefbnclaa", sum := "768bddaaf9950dc18fecf29095b5c552eec4fbbfd31b369d54105caf26cea537", func := "colophon/colophonlaw01.CharJoined", spec := "charJoined", apart := false, narrowed := true }
def CharJoinedUptoSaid : Prop := charJoinedUptoRow.holds Try.pinned (OpenSpec.upto charJoinedSpec)

end Rows
end Go.Proofs.Ytgjbkdnefbnclaa
