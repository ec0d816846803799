import Derived.LaidEql
import Derived.Stop.Asserts
import Derived.RowKitTokens
import Derived.Test.YtojjfbnpjhjidaaGreatDoorM34
set_option linter.unusedVariables false
set_option linter.unusedSimpArgs false
namespace Go.Proofs.YtojjfbnpjhjidaaGreatDoor
open Go.RowKit Go.Extern.Stop Go.Stop Go.Extern
abbrev hdl (t : Nat) : Value := .pointer (some ⟨7, t, none⟩)
def ETy (w : World) : Prop := w.cell? ⟨0, 0, none⟩ = some (.iface 101 (.agg #[hdl 32]))
theorem ETy.below {w w' : World} (h : ETy w) (hb : Below w.heap.size w w') : ETy w' := by
  have hlt := World.block_lt_of_cell? _ _ h
  exact (World.cell?_of_block (a := ⟨0, 0, none⟩) (hb.block 0 hlt)).trans h
theorem xValueOfPP (t : Addr) (w : World) : (ReflectliteValue.unpack (.iface 59 (.pointer (some t)))).run Tryz.prog w
    = .ok (.agg #[hdl 59, .pointer (some ⟨w.heap.size, 0, none⟩), .int .u64 150]) (w.alloc (.cells #[.pointer (some t)] 59)) := by kernel_rfl
theorem xTypePP (a : Addr) (w : World) : (ReflectliteValue.methodAny (ReflectliteValue.valueError "reflectlite.Value.Type" 0) (fun t _ _ _ => ReflectliteType.toType t) #[.agg #[hdl 59, .pointer (some a), .int .u64 150]]).run Tryz.prog w
    = .ok (.iface 101 (.agg #[hdl 59])) w := by kernel_rfl
theorem xMethodKind (h : Value) (w : World) : (Go.method 301 101 (.agg #[h]) "Kind").run Tryz.prog w = .ok (131, h) w := by kernel_rfl
theorem xKindPP (w : World) : ((ReflectliteType.abiMethod fun t => (fun a : Nat => Value.int IntKind.u8 (a : Int)) <$> Rtype.kind t) #[hdl 59]).run Tryz.prog w = .ok (.int .u8 22) w := by kernel_rfl
theorem xKindP (w : World) : ((ReflectliteType.abiMethod fun t => (fun a : Nat => Value.int IntKind.u8 (a : Int)) <$> Rtype.kind t) #[hdl 57]).run Tryz.prog w = .ok (.int .u8 22) w := by kernel_rfl
theorem xPartsPP (a : Addr) (w : World) : (ReflectliteValue.parts (.agg #[hdl 59, .pointer (some a), .int .u64 150])).run Tryz.prog w = .ok (some (59, a, 150)) w := by kernel_rfl
theorem xIsNil (a p : Addr) (W : World) (ha : W.cell? a = some (.pointer (some p))) :
    (ReflectliteValue.method (ReflectliteValue.valueError "reflectlite.Value.IsNil" 0) ReflectliteValue.isNil #[.agg #[hdl 59, .pointer (some a), .int .u64 150]]).run Tryz.prog W = .ok (.bool false) W := by
  refine (Sem.run_bind _ _ (ReflectliteValue.parts (.agg #[hdl 59, .pointer (some a), .int .u64 150])) _).trans ?_
  simp only [xPartsPP, Result.andThen]
  simp [ReflectliteValue.isNil, loadVar, isAgg, underlying, Tryz.underlying59, ha, Result.andThen]
theorem xMethodElem (h : Value) (w : World) : (Go.method 301 101 (.agg #[h]) "Elem").run Tryz.prog w = .ok (144, .agg #[h]) w := by kernel_rfl
theorem xMethodImpl (h : Value) (w : World) : (Go.method 301 101 (.agg #[h]) "Implements").run Tryz.prog w = .ok (145, .agg #[h]) w := by kernel_rfl
theorem xMethodAssign (h : Value) (w : World) : (Go.method 301 101 (.agg #[h]) "AssignableTo").run Tryz.prog w = .ok (142, .agg #[h]) w := by kernel_rfl
theorem xMethodComp (h : Value) (w : World) : (Go.method 301 101 (.agg #[h]) "Comparable").run Tryz.prog w = .ok (143, .agg #[h]) w := by kernel_rfl
theorem xElemPP (w : World) : (ReflectliteType.method ReflectliteType.elem #[.agg #[hdl 59]]).run Tryz.prog w = .ok (.iface 101 (.agg #[hdl 57])) w := by kernel_rfl
theorem xImplP (w : World) : (ReflectliteType.relation "Implements" ReflectliteType.implements_ #[.agg #[hdl 57], .iface 101 (.agg #[hdl 32])]).run Tryz.prog w = .ok (.bool true) w := by kernel_rfl
theorem xTypeOfP (v : Value) (w : World) : (ReflectliteType.typeOf #[.iface 57 v]).run Tryz.prog w = .ok (.iface 101 (.agg #[hdl 57])) w := by kernel_rfl
theorem xTypeOfE (v : Value) (w : World) : (ReflectliteType.typeOf #[.iface 24 v]).run Tryz.prog w = .ok (.iface 101 (.agg #[hdl 24])) w := by kernel_rfl
theorem xAssignP (w : World) : (ReflectliteType.relation "AssignableTo" ReflectliteType.assignableTo #[.agg #[hdl 57], .iface 101 (.agg #[hdl 57])]).run Tryz.prog w = .ok (.bool true) w := by kernel_rfl
theorem xValueOfP (e : Addr) (w : World) : (ReflectliteValue.unpack (.iface 57 (.pointer (some e)))).run Tryz.prog w
    = .ok (.agg #[hdl 57, .pointer (some ⟨w.heap.size, 0, none⟩), .int .u64 150]) (w.alloc (.cells #[.pointer (some e)] 57)) := by kernel_rfl
theorem xElemOf (w : World) : (Rtype.elem? 59).run Tryz.prog w = .ok (some 57) w := by kernel_rfl
theorem xMkP (p : Addr) (w : World) : (ReflectliteValue.mk 57 p ReflectliteValue.flagAddr).run Tryz.prog w = .ok (.agg #[hdl 57, .pointer (some p), .int .u64 406]) w := by kernel_rfl
theorem xElemV (a p : Addr) (W : World) (ha : W.cell? a = some (.pointer (some p))) :
    (ReflectliteValue.method (ReflectliteValue.valueError "reflectlite.Value.Elem" 0) ReflectliteValue.elem #[.agg #[hdl 59, .pointer (some a), .int .u64 150]]).run Tryz.prog W
      = .ok (.agg #[hdl 57, .pointer (some p), .int .u64 406]) W := by
  refine (Sem.run_bind _ _ (ReflectliteValue.parts (.agg #[hdl 59, .pointer (some a), .int .u64 150])) _).trans ?_
  simp only [xPartsPP, Result.andThen]
  simp [ReflectliteValue.elem, loadVar, isAgg, underlying, Tryz.underlying59, ha, Result.andThen, xElemOf, xMkP]
theorem xPartsA (a : Addr) (w : World) : (ReflectliteValue.parts (.agg #[hdl 57, .pointer (some a), .int .u64 406])).run Tryz.prog w = .ok (some (57, a, 406)) w := by kernel_rfl
theorem xPartsP (a : Addr) (w : World) : (ReflectliteValue.parts (.agg #[hdl 57, .pointer (some a), .int .u64 150])).run Tryz.prog w = .ok (some (57, a, 150)) w := by kernel_rfl
theorem xDirect (w : World) : (Rtype.directlyAssignable 57 57).run Tryz.prog w = .ok true w := by kernel_rfl
theorem xSet (ta b e : Addr) (old : Value) (W : World) (hb : W.cell? b = some (.pointer (some e))) (ht : W.cell? ta = some old) (hf : W.frozen? ta = false) :
    (ReflectliteValue.set #[.agg #[hdl 57, .pointer (some ta), .int .u64 406], .agg #[hdl 57, .pointer (some b), .int .u64 150]]).run Tryz.prog W
      = .ok (.tuple #[]) (W.setCell ta (.pointer (some e))) := by
  refine (Sem.run_bind _ _ (ReflectliteValue.parts (.agg #[hdl 57, .pointer (some ta), .int .u64 406])) _).trans ?_
  simp only [xPartsA, Result.andThen]
  refine (Sem.run_bind _ _ (ReflectliteValue.parts (.agg #[hdl 57, .pointer (some b), .int .u64 150])) _).trans ?_
  simp only [xPartsP, Result.andThen]
  simp [ReflectliteValue.flagAddr, loadVar, isAgg, underlying, Tryz.underlying57, hb, Result.andThen, xDirect, storeVar, Value.cells, storeCells, Addr.add]
  rw [run_store Tryz.prog W ta _ _ (by rfl)]
  simp [ht, hf]
set_option maxHeartbeats 4000000 in
set_option maxRecDepth 100000 in
theorem as_hit (e t : Addr) (old : Value) (w : World) (hg : ETy w) (ht0 : w.cell? t = some old) (hf0 : w.frozen? t = false) :
    Calls Tryz.prog 17 #[.iface 57 (.pointer (some e)), .iface 59 (.pointer (some t))] w fun ev w' => ev = .returned (.bool true) ∧ ∃ w1, Below w.heap.size w w1 ∧ w' = w1.setCell t (.pointer (some e)) := by
  have h6 := @run_callFunc_extern Tryz.prog 27 _ (fun args => ReflectliteValue.unpack (args.getD 0 (.tuple #[]))) Tryz.func27 (by kernel_rfl) (by kernel_rfl) (by kernel_rfl) (by kernel_rfl)
  have h7 := @run_callFunc_extern Tryz.prog 28 _ (ReflectliteValue.methodAny (ReflectliteValue.valueError "reflectlite.Value.Type" 0) (fun t _ _ _ => ReflectliteType.toType t)) Tryz.func28 (by kernel_rfl) (by kernel_rfl) (by kernel_rfl) (by kernel_rfl)
  have h8 := @run_callFunc_extern Tryz.prog 29 _ (ReflectliteValue.method (ReflectliteValue.valueError "reflectlite.Value.IsNil" 0) ReflectliteValue.isNil) Tryz.func29 (by kernel_rfl) (by kernel_rfl) (by kernel_rfl) (by kernel_rfl)
  have h27 := @run_callFunc_extern Tryz.prog 131 _ (ReflectliteType.abiMethod fun t => do pure (.int .u8 (← Rtype.kind t))) Tryz.func131 (by kernel_rfl) (by kernel_rfl) (by kernel_rfl) (by kernel_rfl)
  have h37 := @run_callFunc_extern Tryz.prog 144 _ (ReflectliteType.method ReflectliteType.elem) Tryz.func144 (by kernel_rfl) (by kernel_rfl) (by kernel_rfl) (by kernel_rfl)
  have h38 := @run_callFunc_extern Tryz.prog 145 _ (ReflectliteType.relation "Implements" ReflectliteType.implements_) Tryz.func145 (by kernel_rfl) (by kernel_rfl) (by kernel_rfl) (by kernel_rfl)
  have h10 := @run_callFunc_extern Tryz.prog 31 _ ReflectliteType.typeOf Tryz.func31 (by kernel_rfl) (by kernel_rfl) (by kernel_rfl) (by kernel_rfl)
  have h35 := @run_callFunc_extern Tryz.prog 142 _ (ReflectliteType.relation "AssignableTo" ReflectliteType.assignableTo) Tryz.func142 (by kernel_rfl) (by kernel_rfl) (by kernel_rfl) (by kernel_rfl)
  have h11 := @run_callFunc_extern Tryz.prog 43 _ (ReflectliteValue.method (ReflectliteValue.valueError "reflectlite.Value.Elem" 0) ReflectliteValue.elem) Tryz.func43 (by kernel_rfl) (by kernel_rfl) (by kernel_rfl) (by kernel_rfl)
  have h12 := @run_callFunc_extern Tryz.prog 44 _ ReflectliteValue.set Tryz.func44 (by kernel_rfl) (by kernel_rfl) (by kernel_rfl) (by kernel_rfl)
  have tO := xTypeOfP
  have mA := xMethodAssign
  have a25 := xAssignP
  have v25 := xValueOfP
  have f6 := xValueOfPP
  have f7 := xTypePP
  have mK := xMethodKind
  have mE := xMethodElem
  have mI := xMethodImpl
  have k27 := xKindPP
  have k25 := xKindP
  have e27 := xElemPP
  have i25 := xImplP
  unfold ETy hdl at *
  have n8 := xIsNil ⟨w.heap.size, 0, none⟩ t ((w.alloc (.cells #[.pointer (some t)] 59)).alloc (.cells #[.pointer (some ⟨7, 59, none⟩), .pointer (some ⟨w.heap.size, 0, none⟩), .int .u64 150] 77)) (by simp)
  have hlt : 0 < w.heap.size := by
    rcases Nat.eq_zero_or_pos w.heap.size with h0 | h
    · simp [World.cell?, h0] at hg
    · exact h
  have hg2 : ((w.alloc (.cells #[.pointer (some t)] 59)).alloc (.cells #[.pointer (some ⟨7, 59, none⟩), .pointer (some ⟨w.heap.size, 0, none⟩), .int .u64 150] 77)).cell? ⟨0, 0, none⟩ = some (.iface 101 (.agg #[.pointer (some ⟨7, 32, none⟩)])) := by
    rw [World.cell?_alloc_lt _ _ ⟨0, 0, none⟩ (by simp), World.cell?_alloc_lt _ _ ⟨0, 0, none⟩ hlt]; exact hg
  have htl : t.block < w.heap.size := by
    rcases Nat.lt_or_ge t.block w.heap.size with h | h
    · exact h
    · simp [World.cell?, Array.getElem?_eq_none h] at ht0
  have el := xElemV ⟨w.heap.size, 0, none⟩ t (((w.alloc (.cells #[.pointer (some t)] 59)).alloc (.cells #[.pointer (some ⟨7, 59, none⟩), .pointer (some ⟨w.heap.size, 0, none⟩), .int .u64 150] 77)).alloc (.cells #[.pointer (some ⟨7, 59, none⟩), .pointer (some ⟨w.heap.size, 0, none⟩), .int .u64 150] 77)) (by rw [World.cell?_alloc_lt _ _ ⟨w.heap.size, 0, none⟩ (by simp; omega)]; simp)
  have st := xSet t ⟨w.heap.size + 1 + 1 + 1, 0, none⟩ e old ((((w.alloc (.cells #[.pointer (some t)] 59)).alloc (.cells #[.pointer (some ⟨7, 59, none⟩), .pointer (some ⟨w.heap.size, 0, none⟩), .int .u64 150] 77)).alloc (.cells #[.pointer (some ⟨7, 59, none⟩), .pointer (some ⟨w.heap.size, 0, none⟩), .int .u64 150] 77)).alloc (.cells #[.pointer (some e)] 57))
    (by rw [World.cell?_alloc_at _ _ _ _ (by simp)]; rfl)
    (by rw [World.cell?_alloc_lt _ _ t (by simp; omega), World.cell?_alloc_lt _ _ t (by simp; omega), World.cell?_alloc_lt _ _ t (by simp; omega), World.cell?_alloc_lt _ _ t htl]; exact ht0)
    (by rw [World.frozen?_alloc_old _ _ t (by simp; omega), World.frozen?_alloc_old _ _ t (by simp; omega), World.frozen?_alloc_old _ _ t (by simp; omega), World.frozen?_alloc_old _ _ t (Nat.ne_of_lt htl)]; exact hf0)
  unfold hdl at n8 el st
  go_enter Tryz.func17, Tryz.ntmps17
  go_wp2
  refine wp_loop_rounds 1 ?_
  rw [rounds_succ]
  go_wp2
  go_ret
  exact ⟨rfl, _, (((((Below.refl _ _).alloc (Nat.le_refl _) _).alloc (by simp) _).alloc (by simp; omega) _).alloc (by simp; omega) _), rfl⟩
theorem xNoIsP (v : Value) (xT : TypeId) (w : World) : (Instr.typeAssert (.iface 57 v) xT 113 true).run Tryz.prog w = .ok (.tuple #[.nilIface, .bool false]) w := run_typeAssert_lacksB Tryz.underlying113 (by kernel_rfl) (by kernel_rfl) v xT w
theorem xHasUnP (v : Value) (xT : TypeId) (w : World) : (Instr.typeAssert (.iface 57 v) xT 108 true).run Tryz.prog w = .ok (.tuple #[.iface 57 v, .bool true]) w := run_typeAssert_hasB Tryz.underlying108 (by kernel_rfl) v xT w
theorem xMethodUn (v : Value) (w : World) : (Go.method 301 57 v "Unwrap").run Tryz.prog w = .ok (136, v) w := by kernel_rfl
theorem xComp (w : World) : ((Extern.ReflectliteType.method fun t => do Extern.Rtype.noPackHeld "Comparable" t; (fun a => Value.bool a.comparable) <$> typeInfo t) #[.agg #[hdl 24]]).run Tryz.prog w = .ok (.bool true) w := by kernel_rfl
theorem xEqlE (a b : Int) (w : World) : (binOp .eql 32 (.iface 24 (.int .i64 a)) (.iface 24 (.int .i64 b))).run Tryz.prog w = .ok (.bool (a == b)) w := by kernel_rfl
theorem xEqlP (p : Addr) (b : Int) (w : World) : (binOp .eql 32 (.iface 57 (.pointer (some p))) (.iface 24 (.int .i64 b))).run Tryz.prog w = .ok (.bool false) w := by kernel_rfl
set_option maxHeartbeats 4000000 in
set_option maxRecDepth 100000 in
theorem is_flt (g : Nat) (c x y z : Int) (w : World) (hg : w.heap[g]? = some (.cells #[.int .i64 c, .int .i64 x, .int .i64 y, .int .i64 z] 28 (0, 0))) : Calls Tryz.prog 18 #[.iface 57 (.pointer (some ⟨g, 0, none⟩)), .iface 24 (.int .i64 c)] w fun e w' => e = .returned (.bool true) ∧ w' = w := by
  have h10 := @run_callFunc_extern Tryz.prog 31 _ ReflectliteType.typeOf Tryz.func31 (by kernel_rfl) (by kernel_rfl) (by kernel_rfl) (by kernel_rfl)
  have h32 := @run_callFunc_extern Tryz.prog 143 _ (Extern.ReflectliteType.method fun t => do Extern.Rtype.noPackHeld "Comparable" t; pure (.bool (← typeInfo t).comparable)) Tryz.func143 (by kernel_rfl) (by kernel_rfl) (by kernel_rfl) (by kernel_rfl)
  have c0 : w.cell? ⟨g, 0, none⟩ = some (.int .i64 c) := blk_cell hg rfl
  have tO := xTypeOfE
  have mC := xMethodComp
  have cT := xComp
  have nI := xNoIsP
  have hU := xHasUnP
  have mU := xMethodUn
  have eq := xEqlE c c w
  have eqP := xEqlP ⟨g, 0, none⟩ c w
  rw [beq_self_eq_true] at eq
  unfold hdl at *
  go_enter Tryz.func18, Tryz.ntmps18
  go_wp2
  refine wp_loop_rounds 2 ?_
  rw [rounds_succ]
  go_wp2
  rw [rounds_succ]
  go_wp2
  go_ret
  exact ⟨rfl, rfl⟩
end Go.Proofs.YtojjfbnpjhjidaaGreatDoor
namespace Go.Proofs.YtojjfbnpjhjidaaGreatDoor
open Go.RowKit
theorem bel_dn {b : Nat} {w v : World} (h : Below b w v) : ∀ m, Below b w (v.drewN m)
  | 0 => h
  | m + 1 => (bel_dn h m).drew
set_option maxHeartbeats 1000000 in
set_option maxRecDepth 100000 in
theorem nsame_eq {l : List Rmk} {w : World} {p q : Option Addr} {c d : Nat} (hA : Lm w p l) (hB : Lm w q l) (hl : l.length ≤ 1000000000) :
    Calls Tryz.prog 9 #[.slice p l.length c, .slice q l.length d] w fun r w' => r = .returned (.bool true) ∧ Below w.heap.size w w' := by
  have HA : Hid (Lm w p l) := hA
  have HB : Hid (Lm w q l) := hB
  clear hA hB
  go_enter Tryz.func9, Tryz.ntmps9
  go_wp2_with fail
  go_loopw [5] (fun i wr => ∃ k : Nat, k ≤ l.length ∧ i = .int .i64 k ∧ Hid (Below w.heap.size w wr)) (fun i _ => l.length - (intOf i).toNat)
  case atStart => exact ⟨0, by omega, rfl, Below.refl _ _⟩
  case round =>
    obtain ⟨k, hk, rfl, HW⟩ := hrel
    by_cases hlt : k < l.length
    · have q1 : (k : Int) < l.length := by omega
      have q0 : (0 : Int) ≤ k := by omega
      obtain ⟨t, ht⟩ : ∃ t, l[k]? = some t := ⟨_, List.getElem?_eq_getElem hlt⟩
      obtain ⟨b, off, rfl, x0, x1, x2⟩ := HA.out.below HW.out k t ht
      obtain ⟨b', off', rfl, y0, y1, y2⟩ := HB.out.below HW.out k t ht
      obtain ⟨n, tt, bb⟩ := t
      dsimp only at *
      clear HA HB ht
      go_wp2_with fail
      go_quiet (fail)
      go_wp2_with fail
      exact ⟨⟨k + 1, hlt, by go_num, bel_dn HW.out _⟩, by simp [intOf]; omega⟩
    · obtain rfl : k = l.length := by omega
      have q1 : ¬ ((l.length : Int) < l.length) := by omega
      go_wp2_with fail
      go_ret
      exact ⟨rfl, HW.out⟩
abbrev ftp (g : Nat) : Value := .iface 57 (.pointer (some ⟨g, 0, none⟩))
abbrev ptc (p : Option Addr) : Obj := .cells #[.pointer p] 57
def Er (w : World) (er : Value) (c x y z : Int) : Prop := (c = 0 ∧ er = .nilIface) ∨ (c ≠ 0 ∧ ∃ g, er = ftp g ∧ w.heap[g]? = some (ftb c x y z))
theorem Er.below {w w' : World} {er : Value} {c x y z : Int} (h : Er w er c x y z) (hb : Below w.heap.size w w') : Er w' er c x y z := by
  rcases h with h | ⟨h1, g, h2, h3⟩
  · exact .inl h
  · exact .inr ⟨h1, g, h2, blk_below h3 hb⟩
set_option maxHeartbeats 2000000 in
theorem lis_any {er : Value} {c x y z : Int} {W : World} (hE : ETy W) (hr : Er W er c x y z) : Calls Tryz.prog 8 #[er, ftv c x y z] W fun r w' => r = .returned (.bool true) ∧ Below W.heap.size W w' := by
  rcases hr with ⟨rfl, rfl⟩ | ⟨hc, g, rfl, hg⟩
  · go_enter Tryz.func8, Tryz.ntmps8
    go_wp2_with fail
    go_ret
    exact ⟨rfl, (Below.refl _ _).alloc (Nat.le_refl _) _⟩
  have qc : (c == 0) = false := by simpa using hc
  obtain ⟨W0, e0⟩ : ∃ W0, W.alloc (ftb c x y z) = W0 := ⟨_, rfl⟩
  obtain ⟨g0, hg0⟩ : ∃ g0, W.heap.size = g0 := ⟨_, rfl⟩
  have h0 : Below W.heap.size W W0 := by rw [← e0]; exact (Below.refl _ _).alloc (Nat.le_refl _) _
  have k0 : W0.heap[g0]? = some (ftb c x y z) := by rw [← e0, ← hg0]; exact new_at _ _
  have z0 : W0.heap.size = g0 + 1 := by rw [← e0, World.size_alloc, hg0]
  obtain ⟨V1, e1⟩ : ∃ V1, W0.alloc (ptc none) = V1 := ⟨_, rfl⟩
  have h1 : Below W0.heap.size W0 V1 := by rw [← e1]; exact (Below.refl _ _).alloc (Nat.le_refl _) _
  have k1 : V1.heap[g0 + 1]? = some (ptc none) := by rw [← e1, ← z0]; exact new_at _ _
  have hgl : g < g0 := by rw [← hg0]; exact blk_lt hg
  have H1 : Hid (Below W.heap.size W V1 ∧ V1.heap[g]? = some (ftb c x y z) ∧ V1.heap[g0]? = some (ftb c x y z) ∧ V1.heap[g0 + 1]? = some (ptc none)) := ⟨h0.trans (h1.mono h0.size), blk_below (blk_below hg h0) h1, blk_below k0 h1, k1⟩
  have HAs : Hid (Calls Tryz.prog 17 #[ftp g, .iface 59 (.pointer (some ⟨g0 + 1, 0, none⟩))] V1 fun ev w' => ev = .returned (.bool true) ∧ ∃ w1, Below V1.heap.size V1 w1 ∧ w' = w1.setCell ⟨g0 + 1, 0, none⟩ (.pointer (some ⟨g, 0, none⟩))) := as_hit _ _ (.pointer none) _ ((hE.below h0).below h1) (blk_cell k1 rfl) (blk_frozen k1)
  obtain ⟨c0, c1, c2, c3⟩ := ft_cells k0
  clear hE hg h0 h1 k0 k1
  go_enter Tryz.func8, Tryz.ntmps8
  go_wp2_with fail
  try rw [e0]
  try rw [hg0]
  clear e0
  go_wp2_with fail
  try rw [z0]
  try rw [e1]
  clear e1 z0 c0 c1 c2 c3
  refine HAs.out.mono ?_
  rintro e w5 ⟨rfl, w6, hb6, hw5⟩
  have y1 : w5.heap[g]? = some (ftb c x y z) := by rw [hw5]; exact blk_other (blk_below H1.out.2.1 hb6) (by omega) _
  have y2 : w5.heap[g0]? = some (ftb c x y z) := by rw [hw5]; exact blk_other (blk_below H1.out.2.2.1 hb6) (by omega) _
  have y3 : w5.cell? ⟨g0 + 1, 0, none⟩ = some (.pointer (some ⟨g, 0, none⟩)) := by rw [hw5]; exact blk_cell (blk_set (blk_below H1.out.2.2.2 hb6) 0 _) (by simp)
  have H5 : Hid (Below W.heap.size W w5) := by
    rw [hw5]
    exact (H1.out.1.trans (hb6.mono H1.out.1.size)).setCell (p := ⟨g0 + 1, 0, none⟩) (by show _ ≤ g0 + 1; omega) _
  obtain ⟨c0, c1, c2, c3⟩ := ft_cells y1
  obtain ⟨d0, d1, d2, d3⟩ := ft_cells y2
  have HIs : Hid (∀ V, V.heap[g]? = some (ftb c x y z) → Calls Tryz.prog 18 #[ftp g, .iface 24 (.int .i64 c)] V fun e w' => e = .returned (.bool true) ∧ w' = V) := fun V h => is_flt g c x y z V h
  have HY : Hid (w5.heap[g]? = some (ftb c x y z)) := y1
  clear hw5 hb6 y1 y2 HAs
  go_wp2_with fail
  go_quiet ((go_at_call 18; exact Calls.quiet_of_same (HIs.out _ HY.out)))
  go_wp2_with fail
  go_ret
  exact ⟨rfl, bel_dn H5.out _⟩
end Go.Proofs.YtojjfbnpjhjidaaGreatDoor
