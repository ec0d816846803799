import Derived.Test.YtfkegaencoodbaaDoorNa
import Derived.WalkKit
import Derived.LaidEql
import Derived.Stop.Asserts
import Derived.RowKitTokens
set_option linter.unusedVariables false
set_option linter.unusedSimpArgs false
namespace Go.Proofs.YtfkegaencoodbaaDoor
open Go.RowKit Go.Extern.Stop Go.Stop Go.Extern

/-! errors.As and errors.Is at the errors that format makes. -/
/-- The type's handle. -/
abbrev hdl (t : Nat) : Value := .pointer (some ⟨6, t, none⟩)
/-- The variable errors.errorType. -/
def ETy (w : World) : Prop := w.cell? ⟨0, 0, none⟩ = some (.iface 107 (.agg #[hdl 32]))
theorem ETy.below {w w' : World} (h : ETy w) (hb : Below w.heap.size w w') : ETy w' := by
  have hlt := World.block_lt_of_cell? _ _ h
  exact (World.cell?_of_block (a := ⟨0, 0, none⟩) (hb.block 0 hlt)).trans h
theorem as_nil (t : Value) (w : World) : Calls Tryd.prog 30 #[.nilIface, t] w fun e w' => e = .returned (.bool false) ∧ w' = w := by
  go_enter Tryd.func30, Tryd.ntmps30
  go_wp2
  go_ret
  exact ⟨rfl, rfl⟩
theorem xValueOfPP (t : Addr) (w : World) : (ReflectliteValue.unpack (.iface 64 (.pointer (some t)))).run Tryd.prog w
    = .ok (.agg #[hdl 64, .pointer (some ⟨w.heap.size, 0, none⟩), .int .u64 150]) (w.alloc (.cells #[.pointer (some t)] 64)) := by kernel_rfl
theorem xTypePP (a : Addr) (w : World) : (ReflectliteValue.methodAny (ReflectliteValue.valueError "reflectlite.Value.Type" 0) (fun t _ _ _ => ReflectliteType.toType t) #[.agg #[hdl 64, .pointer (some a), .int .u64 150]]).run Tryd.prog w
    = .ok (.iface 107 (.agg #[hdl 64])) w := by kernel_rfl
theorem xMethodKind (h : Value) (w : World) : (Go.method 274 107 (.agg #[h]) "Kind").run Tryd.prog w = .ok (105, h) w := by kernel_rfl
theorem xKindPP (w : World) : ((ReflectliteType.abiMethod fun t => (fun a : Nat => Value.int IntKind.u8 (a : Int)) <$> Rtype.kind t) #[hdl 64]).run Tryd.prog w = .ok (.int .u8 22) w := by kernel_rfl
theorem xKindP (w : World) : ((ReflectliteType.abiMethod fun t => (fun a : Nat => Value.int IntKind.u8 (a : Int)) <$> Rtype.kind t) #[hdl 30]).run Tryd.prog w = .ok (.int .u8 22) w := by kernel_rfl
theorem xPartsPP (a : Addr) (w : World) : (ReflectliteValue.parts (.agg #[hdl 64, .pointer (some a), .int .u64 150])).run Tryd.prog w = .ok (some (64, a, 150)) w := by kernel_rfl
theorem xIsNil (a p : Addr) (W : World) (ha : W.cell? a = some (.pointer (some p))) :
    (ReflectliteValue.method (ReflectliteValue.valueError "reflectlite.Value.IsNil" 0) ReflectliteValue.isNil #[.agg #[hdl 64, .pointer (some a), .int .u64 150]]).run Tryd.prog W = .ok (.bool false) W := by
  refine (Sem.run_bind _ _ (ReflectliteValue.parts (.agg #[hdl 64, .pointer (some a), .int .u64 150])) _).trans ?_
  simp only [xPartsPP, Result.andThen]
  simp [ReflectliteValue.isNil, loadVar, isAgg, underlying, Tryd.underlying64, ha, Result.andThen]
theorem xMethodElem (h : Value) (w : World) : (Go.method 274 107 (.agg #[h]) "Elem").run Tryd.prog w = .ok (119, .agg #[h]) w := by kernel_rfl
theorem xMethodImpl (h : Value) (w : World) : (Go.method 274 107 (.agg #[h]) "Implements").run Tryd.prog w = .ok (120, .agg #[h]) w := by kernel_rfl
theorem xMethodAssign (h : Value) (w : World) : (Go.method 274 107 (.agg #[h]) "AssignableTo").run Tryd.prog w = .ok (117, .agg #[h]) w := by kernel_rfl
theorem xMethodComp (h : Value) (w : World) : (Go.method 274 107 (.agg #[h]) "Comparable").run Tryd.prog w = .ok (118, .agg #[h]) w := by kernel_rfl
theorem xElemPP (w : World) : (ReflectliteType.method ReflectliteType.elem #[.agg #[hdl 64]]).run Tryd.prog w = .ok (.iface 107 (.agg #[hdl 30])) w := by kernel_rfl
theorem xImplP (w : World) : (ReflectliteType.relation "Implements" ReflectliteType.implements_ #[.agg #[hdl 30], .iface 107 (.agg #[hdl 32])]).run Tryd.prog w = .ok (.bool true) w := by kernel_rfl
theorem xTypeOfP (v : Value) (w : World) : (ReflectliteType.typeOf #[.iface 30 v]).run Tryd.prog w = .ok (.iface 107 (.agg #[hdl 30])) w := by kernel_rfl
theorem xTypeOfE (v : Value) (w : World) : (ReflectliteType.typeOf #[.iface 22 v]).run Tryd.prog w = .ok (.iface 107 (.agg #[hdl 22])) w := by kernel_rfl
theorem xAssignP (w : World) : (ReflectliteType.relation "AssignableTo" ReflectliteType.assignableTo #[.agg #[hdl 30], .iface 107 (.agg #[hdl 30])]).run Tryd.prog w = .ok (.bool true) w := by kernel_rfl
theorem xAssignE (w : World) : (ReflectliteType.relation "AssignableTo" ReflectliteType.assignableTo #[.agg #[hdl 22], .iface 107 (.agg #[hdl 30])]).run Tryd.prog w = .ok (.bool false) w := by kernel_rfl
theorem xValueOfP (e : Addr) (w : World) : (ReflectliteValue.unpack (.iface 30 (.pointer (some e)))).run Tryd.prog w
    = .ok (.agg #[hdl 30, .pointer (some ⟨w.heap.size, 0, none⟩), .int .u64 150]) (w.alloc (.cells #[.pointer (some e)] 30)) := by kernel_rfl
theorem xElemOf (w : World) : (Rtype.elem? 64).run Tryd.prog w = .ok (some 30) w := by kernel_rfl
theorem xMkP (p : Addr) (w : World) : (ReflectliteValue.mk 30 p ReflectliteValue.flagAddr).run Tryd.prog w = .ok (.agg #[hdl 30, .pointer (some p), .int .u64 406]) w := by kernel_rfl
theorem xElemV (a p : Addr) (W : World) (ha : W.cell? a = some (.pointer (some p))) :
    (ReflectliteValue.method (ReflectliteValue.valueError "reflectlite.Value.Elem" 0) ReflectliteValue.elem #[.agg #[hdl 64, .pointer (some a), .int .u64 150]]).run Tryd.prog W
      = .ok (.agg #[hdl 30, .pointer (some p), .int .u64 406]) W := by
  refine (Sem.run_bind _ _ (ReflectliteValue.parts (.agg #[hdl 64, .pointer (some a), .int .u64 150])) _).trans ?_
  simp only [xPartsPP, Result.andThen]
  simp [ReflectliteValue.elem, loadVar, isAgg, underlying, Tryd.underlying64, ha, Result.andThen, xElemOf, xMkP]
theorem xPartsA (a : Addr) (w : World) : (ReflectliteValue.parts (.agg #[hdl 30, .pointer (some a), .int .u64 406])).run Tryd.prog w = .ok (some (30, a, 406)) w := by kernel_rfl
theorem xPartsP (a : Addr) (w : World) : (ReflectliteValue.parts (.agg #[hdl 30, .pointer (some a), .int .u64 150])).run Tryd.prog w = .ok (some (30, a, 150)) w := by kernel_rfl
theorem xDirect (w : World) : (Rtype.directlyAssignable 30 30).run Tryd.prog w = .ok true w := by kernel_rfl
theorem xSet (ta b e : Addr) (old : Value) (W : World) (hb : W.cell? b = some (.pointer (some e))) (ht : W.cell? ta = some old) (hf : W.frozen? ta = false) :
    (ReflectliteValue.set #[.agg #[hdl 30, .pointer (some ta), .int .u64 406], .agg #[hdl 30, .pointer (some b), .int .u64 150]]).run Tryd.prog W
      = .ok (.tuple #[]) (W.setCell ta (.pointer (some e))) := by
  refine (Sem.run_bind _ _ (ReflectliteValue.parts (.agg #[hdl 30, .pointer (some ta), .int .u64 406])) _).trans ?_
  simp only [xPartsA, Result.andThen]
  refine (Sem.run_bind _ _ (ReflectliteValue.parts (.agg #[hdl 30, .pointer (some b), .int .u64 150])) _).trans ?_
  simp only [xPartsP, Result.andThen]
  simp [ReflectliteValue.flagAddr, loadVar, isAgg, underlying, Tryd.underlying30, hb, Result.andThen, xDirect, storeVar, Value.cells, storeCells, Addr.add]
  rw [run_store Tryd.prog W ta _ _ (by rfl)]
  simp [ht, hf]
end Go.Proofs.YtfkegaencoodbaaDoor
