import Derived.LaidEql
import Derived.Stop.Asserts
import Derived.RowKitTokens
import Derived.Test.YtnljjdhodelhdaaGreatDoorM01
set_option linter.unusedVariables false
set_option linter.unusedSimpArgs false
set_option maxHeartbeats 4000000
set_option maxRecDepth 100000
namespace Go.Proofs.YtnljjdhodelhdaaGreatDoor
open Go.RowKit Go.Extern.Stop Go.Stop Go.Extern
abbrev gK (t:Nat):Value:=.pointer (some ⟨8,t,none⟩)
def mM (w:World):Prop:=w.cell? ⟨0,0,none⟩=some (.iface 206 (.agg #[gK 24]))
theorem mM.below {w w':World}(h:mM w) (hb:Below w.heap.size w w'):mM w':=by
 have hlt:=QV _ _ h;exact (Q6 (a:=⟨0,0,none⟩) (hb.block 0 hlt)).trans h
theorem GH (t:Value) (w:World):Ra 54 #[.nilIface,t] w fun e w'=>e=.returned (.bool false)/\w'=w:=by
 go_enter Tryz.func54,Tryz.ntmps54
 go_wp2
 go_ret
 exact ⟨rfl,rfl⟩
theorem od (t:Addr) (w:World):(ReflectliteValue.unpack (.iface 107 (.pointer (some t)))).run Tryz.prog w
  = .ok (.agg #[gK 107,.pointer (some ⟨w.heap.size,0,none⟩),.int .u64 150]) (w.alloc (.cells #[.pointer (some t)] 107)):=by kernel_rfl
theorem yA (a:Addr) (w:World):(ReflectliteValue.methodAny (ReflectliteValue.valueError "reflectlite.Value.Type" 0) (fun t _ _ _=>ReflectliteType.toType t) #[.agg #[gK 107,.pointer (some a),.int .u64 150]]).run Tryz.prog w
  = .ok (.iface 206 (.agg #[gK 107])) w:=by kernel_rfl
theorem l9 (h:Value) (w:World):(Go.method 412 206 (.agg #[h]) "Kind").run Tryz.prog w=.ok (278,h) w:=by kernel_rfl
theorem yB (w:World):((ReflectliteType.abiMethod fun t=>(fun a:Nat=>Value.int IntKind.u8 (a:Int)) <$> Rtype.kind t) #[gK 107]).run Tryz.prog w=.ok (.int .u8 22) w:=by kernel_rfl
theorem CY (w:World):((ReflectliteType.abiMethod fun t=>(fun a:Nat=>Value.int IntKind.u8 (a:Int)) <$> Rtype.kind t) #[gK 69]).run Tryz.prog w=.ok (.int .u8 22) w:=by kernel_rfl
theorem ue (a:Addr) (w:World):(ReflectliteValue.parts (.agg #[gK 107,.pointer (some a),.int .u64 150])).run Tryz.prog w=.ok (some (107,a,150)) w:=by kernel_rfl
theorem CZ (a p:Addr) (W:World) (ha:W.cell? a=some (.pointer (some p))) :
  (ReflectliteValue.method (ReflectliteValue.valueError "reflectlite.Value.IsNil" 0) ReflectliteValue.isNil #[.agg #[gK 107,.pointer (some a),.int .u64 150]]).run Tryz.prog W=.ok (.bool false) W:=by
 refine (Us _ _ (ReflectliteValue.parts (.agg #[gK 107,.pointer (some a),.int .u64 150])) _).trans ?_;simp only [ue,Result.andThen];simp [ReflectliteValue.isNil,loadVar,isAgg,underlying,Tryz.underlying107,ha,Result.andThen]
theorem mf (h:Value) (w:World):(Go.method 412 206 (.agg #[h]) "Elem").run Tryz.prog w=.ok (291,.agg #[h]) w:=by kernel_rfl
theorem me (h:Value) (w:World):(Go.method 412 206 (.agg #[h]) "Implements").run Tryz.prog w=.ok (292,.agg #[h]) w:=by kernel_rfl
theorem jH (h:Value) (w:World):(Go.method 412 206 (.agg #[h]) "AssignableTo").run Tryz.prog w=.ok (289,.agg #[h]) w:=by kernel_rfl
theorem uf (h:Value) (w:World):(Go.method 412 206 (.agg #[h]) "Comparable").run Tryz.prog w=.ok (290,.agg #[h]) w:=by kernel_rfl
theorem yC (w:World):(ReflectliteType.method ReflectliteType.elem #[.agg #[gK 107]]).run Tryz.prog w=.ok (.iface 206 (.agg #[gK 69])) w:=by kernel_rfl
theorem C0 (w:World):(ReflectliteType.relation "Implements" ReflectliteType.implements_ #[.agg #[gK 69],.iface 206 (.agg #[gK 24])]).run Tryz.prog w=.ok (.bool true) w:=by kernel_rfl
theorem CX (v:Value) (w:World):(ReflectliteType.typeOf #[.iface 69 v]).run Tryz.prog w=.ok (.iface 206 (.agg #[gK 69])) w:=by kernel_rfl
theorem uc (v:Value) (w:World):(ReflectliteType.typeOf #[.iface 28 v]).run Tryz.prog w=.ok (.iface 206 (.agg #[gK 28])) w:=by kernel_rfl
theorem C1 (w:World):(ReflectliteType.relation "AssignableTo" ReflectliteType.assignableTo #[.agg #[gK 69],.iface 206 (.agg #[gK 69])]).run Tryz.prog w=.ok (.bool true) w:=by kernel_rfl
theorem C3 (w:World):(ReflectliteType.relation "AssignableTo" ReflectliteType.assignableTo #[.agg #[gK 28],.iface 206 (.agg #[gK 69])]).run Tryz.prog w=.ok (.bool false) w:=by kernel_rfl
theorem AI (e:Addr) (w:World):(ReflectliteValue.unpack (.iface 69 (.pointer (some e)))).run Tryz.prog w
  = .ok (.agg #[gK 69,.pointer (some ⟨w.heap.size,0,none⟩),.int .u64 150]) (w.alloc (.cells #[.pointer (some e)] 69)):=by kernel_rfl
theorem He (w:World):(Rtype.elem? 107).run Tryz.prog w=.ok (some 69) w:=by kernel_rfl
theorem PN (p:Addr) (w:World):(ReflectliteValue.mk 69 p ReflectliteValue.flagAddr).run Tryz.prog w=.ok (.agg #[gK 69,.pointer (some p),.int .u64 406]) w:=by kernel_rfl
theorem LO (a p:Addr) (W:World) (ha:W.cell? a=some (.pointer (some p))) :
  (ReflectliteValue.method (ReflectliteValue.valueError "reflectlite.Value.Elem" 0) ReflectliteValue.elem #[.agg #[gK 107,.pointer (some a),.int .u64 150]]).run Tryz.prog W
   = .ok (.agg #[gK 69,.pointer (some p),.int .u64 406]) W:=by
 refine (Us _ _ (ReflectliteValue.parts (.agg #[gK 107,.pointer (some a),.int .u64 150])) _).trans ?_;simp only [ue,Result.andThen];simp [ReflectliteValue.elem,loadVar,isAgg,underlying,Tryz.underlying107,ha,Result.andThen,He,PN]
theorem Hc (a:Addr) (w:World):(ReflectliteValue.parts (.agg #[gK 69,.pointer (some a),.int .u64 406])).run Tryz.prog w=.ok (some (69,a,406)) w:=by kernel_rfl
theorem Hb (a:Addr) (w:World):(ReflectliteValue.parts (.agg #[gK 69,.pointer (some a),.int .u64 150])).run Tryz.prog w=.ok (some (69,a,150)) w:=by kernel_rfl
theorem Hf (w:World):(Rtype.directlyAssignable 69 69).run Tryz.prog w=.ok true w:=by kernel_rfl
theorem PM (ta b e:Addr) (old:Value) (W:World) (hb:W.cell? b=some (.pointer (some e))) (ht:W.cell? ta=some old) (hf:W.frozen? ta=false) :
  (ReflectliteValue.set #[.agg #[gK 69,.pointer (some ta),.int .u64 406],.agg #[gK 69,.pointer (some b),.int .u64 150]]).run Tryz.prog W
   = .ok (.tuple #[]) (W.setCell ta (.pointer (some e))):=by
 refine (Us _ _ (ReflectliteValue.parts (.agg #[gK 69,.pointer (some ta),.int .u64 406])) _).trans ?_;simp only [Hc,Result.andThen];refine (Us _ _ (ReflectliteValue.parts (.agg #[gK 69,.pointer (some b),.int .u64 150])) _).trans ?_;simp only [Hb,Result.andThen];simp [ReflectliteValue.flagAddr,loadVar,isAgg,underlying,Tryz.underlying69,hb,Result.andThen,Hf,storeVar,Value.cells,storeCells,Addr.add];rw [run_store Tryz.prog W ta _ _ (by rfl)];simp [ht,hf]
theorem NJ (e t:Addr) (old:Value) (w:World) (hg:mM w) (ht0:w.cell? t=some old) (hf0:w.frozen? t=false) :
  Ra 54 #[.iface 69 (.pointer (some e)),.iface 107 (.pointer (some t))] w fun ev w'=>ev=.returned (.bool true)/\∃w1,Below w.heap.size w w1/\w'=w1.setCell t (.pointer (some e)):=by
 have h6:=@run_callFunc_extern Tryz.prog 98 _ (fun args=>ReflectliteValue.unpack (args.getD 0 (.tuple #[]))) Tryz.func98 (by kernel_rfl) (by kernel_rfl) (by kernel_rfl) (by kernel_rfl);have h7:=@run_callFunc_extern Tryz.prog 99 _ (ReflectliteValue.methodAny (ReflectliteValue.valueError "reflectlite.Value.Type" 0) (fun t _ _ _=>ReflectliteType.toType t)) Tryz.func99 (by kernel_rfl) (by kernel_rfl) (by kernel_rfl) (by kernel_rfl);have h8:=@run_callFunc_extern Tryz.prog 100 _ (ReflectliteValue.method (ReflectliteValue.valueError "reflectlite.Value.IsNil" 0) ReflectliteValue.isNil) Tryz.func100 (by kernel_rfl) (by kernel_rfl) (by kernel_rfl) (by kernel_rfl);have h27:=@run_callFunc_extern Tryz.prog 278 _ (ReflectliteType.abiMethod fun t=>do pure (.int .u8 (<-Rtype.kind t))) Tryz.func278 (by kernel_rfl) (by kernel_rfl) (by kernel_rfl) (by kernel_rfl);have h37:=@run_callFunc_extern Tryz.prog 291 _ (ReflectliteType.method ReflectliteType.elem) Tryz.func291 (by kernel_rfl) (by kernel_rfl) (by kernel_rfl) (by kernel_rfl);have h38:=@run_callFunc_extern Tryz.prog 292 _ (ReflectliteType.relation "Implements" ReflectliteType.implements_) Tryz.func292 (by kernel_rfl) (by kernel_rfl) (by kernel_rfl) (by kernel_rfl);have h10:=@run_callFunc_extern Tryz.prog 102 _ ReflectliteType.typeOf Tryz.func102 (by kernel_rfl) (by kernel_rfl) (by kernel_rfl) (by kernel_rfl);have h35:=@run_callFunc_extern Tryz.prog 289 _ (ReflectliteType.relation "AssignableTo" ReflectliteType.assignableTo) Tryz.func289 (by kernel_rfl) (by kernel_rfl) (by kernel_rfl) (by kernel_rfl);have h11:=@run_callFunc_extern Tryz.prog 143 _ (ReflectliteValue.method (ReflectliteValue.valueError "reflectlite.Value.Elem" 0) ReflectliteValue.elem) Tryz.func143 (by kernel_rfl) (by kernel_rfl) (by kernel_rfl) (by kernel_rfl);have h12:=@run_callFunc_extern Tryz.prog 144 _ ReflectliteValue.set Tryz.func144 (by kernel_rfl) (by kernel_rfl) (by kernel_rfl) (by kernel_rfl);have tO:=CX;have mA:=jH;have a25:=C1;have v25:=AI;have f6:=od;have f7:=yA;have mK:=l9;have mE:=mf;have mI:=me;have k27:=yB;have k25:=CY;have e27:=yC;have i25:=C0;unfold mM gK at *;have n8:=CZ ⟨w.heap.size,0,none⟩ t ((w.alloc (.cells #[.pointer (some t)] 107)).alloc (.cells #[.pointer (some ⟨8,107,none⟩),.pointer (some ⟨w.heap.size,0,none⟩),.int .u64 150] 157)) (by simp)
 have hlt:0<w.heap.size:=by
  rcases Nat.eq_zero_or_pos w.heap.size with h0|h
  ·simp [World.cell?,h0] at hg
  ·exact h
 have hg2:((w.alloc (.cells #[.pointer (some t)] 107)).alloc (.cells #[.pointer (some ⟨8,107,none⟩),.pointer (some ⟨w.heap.size,0,none⟩),.int .u64 150] 157)).cell? ⟨0,0,none⟩=some (.iface 206 (.agg #[.pointer (some ⟨8,24,none⟩)])):=by
  rw [Sa _ _ ⟨0,0,none⟩ (by simp),Sa _ _ ⟨0,0,none⟩ hlt];exact hg
 have htl:t.block<w.heap.size:=by
  rcases Uu t.block w.heap.size with h|h
  ·exact h
  ·simp [World.cell?,Array.getElem?_eq_none h] at ht0
 have el:=LO ⟨w.heap.size,0,none⟩ t (((w.alloc (.cells #[.pointer (some t)] 107)).alloc (.cells #[.pointer (some ⟨8,107,none⟩),.pointer (some ⟨w.heap.size,0,none⟩),.int .u64 150] 157)).alloc (.cells #[.pointer (some ⟨8,107,none⟩),.pointer (some ⟨w.heap.size,0,none⟩),.int .u64 150] 157)) (by rw [Sa _ _ ⟨w.heap.size,0,none⟩ (by simp;omega)];simp)
 have st:=PM t ⟨w.heap.size+1+1+1,0,none⟩ e old ((((w.alloc (.cells #[.pointer (some t)] 107)).alloc (.cells #[.pointer (some ⟨8,107,none⟩),.pointer (some ⟨w.heap.size,0,none⟩),.int .u64 150] 157)).alloc (.cells #[.pointer (some ⟨8,107,none⟩),.pointer (some ⟨w.heap.size,0,none⟩),.int .u64 150] 157)).alloc (.cells #[.pointer (some e)] 69))
  (by rw [World.cell?_alloc_at _ _ _ _ (by simp)];rfl)
  (by rw [Sa _ _ t (by simp;omega),Sa _ _ t (by simp;omega),Sa _ _ t (by simp;omega),Sa _ _ t htl];exact ht0)
  (by rw [Ty _ _ t (by simp;omega),Ty _ _ t (by simp;omega),Ty _ _ t (by simp;omega),Ty _ _ t (Nat.ne_of_lt htl)];exact hf0)
 unfold gK at n8 el st
 go_enter Tryz.func54,Tryz.ntmps54
 go_wp2
 refine wp_loop_rounds 1 ?_;rw [rounds_succ]
 go_wp2
 go_ret
 exact ⟨rfl,_,(((((hH _ _).alloc (gt _) _).alloc (by simp) _).alloc (by simp;omega) _).alloc (by simp;omega) _),rfl⟩
theorem LM (v:Value) (xT:TypeId) (w:World):(Instr.typeAssert (.iface 28 v) xT 210 true).run Tryz.prog w=.ok (.tuple #[.nilIface,.bool false]) w:=run_typeAssert_lacksB Tryz.underlying210 (by kernel_rfl) (by kernel_rfl) v xT w
theorem LL (v:Value) (xT:TypeId) (w:World):(Instr.typeAssert (.iface 28 v) xT 213 true).run Tryz.prog w=.ok (.tuple #[.nilIface,.bool false]) w:=run_typeAssert_lacksB Tryz.underlying213 (by kernel_rfl) (by kernel_rfl) v xT w
theorem Hd (v:Value) (xT:TypeId) (w:World):(Instr.typeAssert (.iface 28 v) xT 215 true).run Tryz.prog w=.ok (.tuple #[.nilIface,.bool false]) w:=run_typeAssert_lacksB Tryz.underlying215 (by kernel_rfl) (by kernel_rfl) v xT w
theorem N8 (w:World):((Extern.ReflectliteType.method fun t=>do Extern.Rtype.noPackHeld "Comparable" t;(fun a=>Value.bool a.comparable) <$> typeInfo t) #[.agg #[gK 28]]).run Tryz.prog w=.ok (.bool true) w:=by kernel_rfl
theorem N7 (a b:Int) (w:World):(binOp .eql 24 (.iface 28 (.int .i64 a)) (.iface 28 (.int .i64 b))).run Tryz.prog w=.ok (.bool (a == b)) w:=by kernel_rfl
theorem KF (c:Int) (t:Addr) (old:Value) (w:World) (hg:mM w) (ht0:w.cell? t=some old) :
  Ra 54 #[.iface 28 (.int .i64 c),.iface 107 (.pointer (some t))] w fun ev w'=>ev=.returned (.bool false)/\Below w.heap.size w w':=by
 have h6:=@run_callFunc_extern Tryz.prog 98 _ (fun args=>ReflectliteValue.unpack (args.getD 0 (.tuple #[]))) Tryz.func98 (by kernel_rfl) (by kernel_rfl) (by kernel_rfl) (by kernel_rfl);have h7:=@run_callFunc_extern Tryz.prog 99 _ (ReflectliteValue.methodAny (ReflectliteValue.valueError "reflectlite.Value.Type" 0) (fun t _ _ _=>ReflectliteType.toType t)) Tryz.func99 (by kernel_rfl) (by kernel_rfl) (by kernel_rfl) (by kernel_rfl);have h8:=@run_callFunc_extern Tryz.prog 100 _ (ReflectliteValue.method (ReflectliteValue.valueError "reflectlite.Value.IsNil" 0) ReflectliteValue.isNil) Tryz.func100 (by kernel_rfl) (by kernel_rfl) (by kernel_rfl) (by kernel_rfl);have h27:=@run_callFunc_extern Tryz.prog 278 _ (ReflectliteType.abiMethod fun t=>do pure (.int .u8 (<-Rtype.kind t))) Tryz.func278 (by kernel_rfl) (by kernel_rfl) (by kernel_rfl) (by kernel_rfl);have h37:=@run_callFunc_extern Tryz.prog 291 _ (ReflectliteType.method ReflectliteType.elem) Tryz.func291 (by kernel_rfl) (by kernel_rfl) (by kernel_rfl) (by kernel_rfl);have h38:=@run_callFunc_extern Tryz.prog 292 _ (ReflectliteType.relation "Implements" ReflectliteType.implements_) Tryz.func292 (by kernel_rfl) (by kernel_rfl) (by kernel_rfl) (by kernel_rfl);have h10:=@run_callFunc_extern Tryz.prog 102 _ ReflectliteType.typeOf Tryz.func102 (by kernel_rfl) (by kernel_rfl) (by kernel_rfl) (by kernel_rfl);have h35:=@run_callFunc_extern Tryz.prog 289 _ (ReflectliteType.relation "AssignableTo" ReflectliteType.assignableTo) Tryz.func289 (by kernel_rfl) (by kernel_rfl) (by kernel_rfl) (by kernel_rfl);have tO:=uc;have mA:=jH;have a25:=C3;have f6:=od;have f7:=yA;have mK:=l9;have mE:=mf;have mI:=me;have k27:=yB;have k25:=CY;have e27:=yC;have i25:=C0;have nA:=LM;have nU:=LL;have nV:=Hd;unfold mM gK at *;have n8:=CZ ⟨w.heap.size,0,none⟩ t ((w.alloc (.cells #[.pointer (some t)] 107)).alloc (.cells #[.pointer (some ⟨8,107,none⟩),.pointer (some ⟨w.heap.size,0,none⟩),.int .u64 150] 157)) (by simp)
 have hlt:0<w.heap.size:=by
  rcases Nat.eq_zero_or_pos w.heap.size with h0|h
  ·simp [World.cell?,h0] at hg
  ·exact h
 have hg2:((w.alloc (.cells #[.pointer (some t)] 107)).alloc (.cells #[.pointer (some ⟨8,107,none⟩),.pointer (some ⟨w.heap.size,0,none⟩),.int .u64 150] 157)).cell? ⟨0,0,none⟩=some (.iface 206 (.agg #[.pointer (some ⟨8,24,none⟩)])):=by
  rw [Sa _ _ ⟨0,0,none⟩ (by simp),Sa _ _ ⟨0,0,none⟩ hlt];exact hg
 unfold gK at n8
 go_enter Tryz.func54,Tryz.ntmps54
 go_wp2
 refine wp_loop_rounds 1 ?_;rw [rounds_succ]
 go_wp2
 go_ret
 exact ⟨rfl,((((hH _ _).alloc (gt _) _).alloc (by simp) _).alloc (by simp;omega) _)⟩
theorem MS (b:Int) (w:World):Ra 55 #[.nilIface,.iface 28 (.int .i64 b)] w fun e w'=>e=.returned (.bool false)/\w'=w:=by
 have hn:=run_eql_iface_nil_left (P:=Tryz.prog) w 28 (.int .i64 b) Tryz.underlying24
 go_enter Tryz.func55,Tryz.ntmps55
 go_wp2
 go_ret
 exact ⟨rfl,rfl⟩
theorem MT (a:Int) (w:World):Ra 55 #[.iface 28 (.int .i64 a),.iface 28 (.int .i64 a)] w fun e w'=>e=.returned (.bool true)/\w'=w:=by
 have h10:=@run_callFunc_extern Tryz.prog 102 _ ReflectliteType.typeOf Tryz.func102 (by kernel_rfl) (by kernel_rfl) (by kernel_rfl) (by kernel_rfl);have h32:=@run_callFunc_extern Tryz.prog 290 _ (Extern.ReflectliteType.method fun t=>do Extern.Rtype.noPackHeld "Comparable" t;pure (.bool (<-typeInfo t).comparable)) Tryz.func290 (by kernel_rfl) (by kernel_rfl) (by kernel_rfl) (by kernel_rfl);have tO:=uc;have mC:=uf;have cT:=N8;have eq:=N7 a a w;rw [beq_self_eq_true] at eq;unfold gK at *
 go_enter Tryz.func55,Tryz.ntmps55
 go_wp2
 refine wp_loop_rounds 1 ?_;rw [rounds_succ]
 go_wp2
 go_ret
 exact ⟨rfl,rfl⟩
end Go.Proofs.YtnljjdhodelhdaaGreatDoor
