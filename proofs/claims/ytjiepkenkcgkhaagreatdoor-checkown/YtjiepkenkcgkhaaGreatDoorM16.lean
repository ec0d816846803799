import Derived.LaidEql
import Derived.Stop.Asserts
import Derived.RowKitTokens
import Derived.Test.YtjiepkenkcgkhaaGreatDoorM01
set_option linter.unusedVariables false
set_option linter.unusedSimpArgs false
set_option maxHeartbeats 4000000
set_option maxRecDepth 100000
namespace Go.Proofs.YtjiepkenkcgkhaaGreatDoor
open Go.RowKit Go.Extern.Stop Go.Stop Go.Extern
abbrev gJ (t:Nat):Value:=.pointer (some ⟨8,t,none⟩)
def k9 (w:World):Prop:=w.cell? ⟨0,0,none⟩=some (.iface 189 (.agg #[gJ 24]))
theorem k9.below {w w':World}(h:k9 w) (hb:Below w.heap.size w w'):k9 w':=by
 have hlt:=QP _ _ h;exact (QS (a:=⟨0,0,none⟩) (hb.block 0 hlt)).trans h
theorem Gm (t:Value) (w:World):Ra 26 #[.nilIface,t] w fun e w'=>e=.returned (.bool false)/\w'=w:=by
 go_enter Tryz.func26,Tryz.ntmps26
 go_wp2
 go_ret
 exact ⟨rfl,rfl⟩
theorem nZ (t:Addr) (w:World):(ReflectliteValue.unpack (.iface 84 (.pointer (some t)))).run Tryz.prog w
  = .ok (.agg #[gJ 84,.pointer (some ⟨w.heap.size,0,none⟩),.int .u64 150]) (w.alloc (.cells #[.pointer (some t)] 84)):=by kernel_rfl
theorem yi (a:Addr) (w:World):(ReflectliteValue.methodAny (ReflectliteValue.valueError "reflectlite.Value.Type" 0) (fun t _ _ _=>ReflectliteType.toType t) #[.agg #[gJ 84,.pointer (some a),.int .u64 150]]).run Tryz.prog w
  = .ok (.iface 189 (.agg #[gJ 84])) w:=by kernel_rfl
theorem lX (h:Value) (w:World):(Go.method 416 189 (.agg #[h]) "Kind").run Tryz.prog w=.ok (277,h) w:=by kernel_rfl
theorem yj (w:World):((ReflectliteType.abiMethod fun t=>(fun a:Nat=>Value.int IntKind.u8 (a:Int)) <$> Rtype.kind t) #[gJ 84]).run Tryz.prog w=.ok (.int .u8 22) w:=by kernel_rfl
theorem CE (w:World):((ReflectliteType.abiMethod fun t=>(fun a:Nat=>Value.int IntKind.u8 (a:Int)) <$> Rtype.kind t) #[gJ 45]).run Tryz.prog w=.ok (.int .u8 22) w:=by kernel_rfl
theorem tX (a:Addr) (w:World):(ReflectliteValue.parts (.agg #[gJ 84,.pointer (some a),.int .u64 150])).run Tryz.prog w=.ok (some (84,a,150)) w:=by kernel_rfl
theorem CF (a p:Addr) (W:World) (ha:W.cell? a=some (.pointer (some p))) :
  (ReflectliteValue.method (ReflectliteValue.valueError "reflectlite.Value.IsNil" 0) ReflectliteValue.isNil #[.agg #[gJ 84,.pointer (some a),.int .u64 150]]).run Tryz.prog W=.ok (.bool false) W:=by
 refine (Ud _ _ (ReflectliteValue.parts (.agg #[gJ 84,.pointer (some a),.int .u64 150])) _).trans ?_;simp only [tX,Result.andThen];simp [ReflectliteValue.isNil,loadVar,isAgg,underlying,Tryz.underlying84,ha,Result.andThen]
theorem lZ (h:Value) (w:World):(Go.method 416 189 (.agg #[h]) "Elem").run Tryz.prog w=.ok (290,.agg #[h]) w:=by kernel_rfl
theorem lY (h:Value) (w:World):(Go.method 416 189 (.agg #[h]) "Implements").run Tryz.prog w=.ok (291,.agg #[h]) w:=by kernel_rfl
theorem jH (h:Value) (w:World):(Go.method 416 189 (.agg #[h]) "AssignableTo").run Tryz.prog w=.ok (288,.agg #[h]) w:=by kernel_rfl
theorem tY (h:Value) (w:World):(Go.method 416 189 (.agg #[h]) "Comparable").run Tryz.prog w=.ok (289,.agg #[h]) w:=by kernel_rfl
theorem yk (w:World):(ReflectliteType.method ReflectliteType.elem #[.agg #[gJ 84]]).run Tryz.prog w=.ok (.iface 189 (.agg #[gJ 45])) w:=by kernel_rfl
theorem CG (w:World):(ReflectliteType.relation "Implements" ReflectliteType.implements_ #[.agg #[gJ 45],.iface 189 (.agg #[gJ 24])]).run Tryz.prog w=.ok (.bool true) w:=by kernel_rfl
theorem CD (v:Value) (w:World):(ReflectliteType.typeOf #[.iface 45 v]).run Tryz.prog w=.ok (.iface 189 (.agg #[gJ 45])) w:=by kernel_rfl
theorem tW (v:Value) (w:World):(ReflectliteType.typeOf #[.iface 32 v]).run Tryz.prog w=.ok (.iface 189 (.agg #[gJ 32])) w:=by kernel_rfl
theorem CH (w:World):(ReflectliteType.relation "AssignableTo" ReflectliteType.assignableTo #[.agg #[gJ 45],.iface 189 (.agg #[gJ 45])]).run Tryz.prog w=.ok (.bool true) w:=by kernel_rfl
theorem CI (w:World):(ReflectliteType.relation "AssignableTo" ReflectliteType.assignableTo #[.agg #[gJ 32],.iface 189 (.agg #[gJ 45])]).run Tryz.prog w=.ok (.bool false) w:=by kernel_rfl
theorem As (e:Addr) (w:World):(ReflectliteValue.unpack (.iface 45 (.pointer (some e)))).run Tryz.prog w
  = .ok (.agg #[gJ 45,.pointer (some ⟨w.heap.size,0,none⟩),.int .u64 150]) (w.alloc (.cells #[.pointer (some e)] 45)):=by kernel_rfl
theorem GW (w:World):(Rtype.elem? 84).run Tryz.prog w=.ok (some 45) w:=by kernel_rfl
theorem Pq (p:Addr) (w:World):(ReflectliteValue.mk 45 p ReflectliteValue.flagAddr).run Tryz.prog w=.ok (.agg #[gJ 45,.pointer (some p),.int .u64 406]) w:=by kernel_rfl
theorem Ll (a p:Addr) (W:World) (ha:W.cell? a=some (.pointer (some p))) :
  (ReflectliteValue.method (ReflectliteValue.valueError "reflectlite.Value.Elem" 0) ReflectliteValue.elem #[.agg #[gJ 84,.pointer (some a),.int .u64 150]]).run Tryz.prog W
   = .ok (.agg #[gJ 45,.pointer (some p),.int .u64 406]) W:=by
 refine (Ud _ _ (ReflectliteValue.parts (.agg #[gJ 84,.pointer (some a),.int .u64 150])) _).trans ?_;simp only [tX,Result.andThen];simp [ReflectliteValue.elem,loadVar,isAgg,underlying,Tryz.underlying84,ha,Result.andThen,GW,Pq]
theorem GU (a:Addr) (w:World):(ReflectliteValue.parts (.agg #[gJ 45,.pointer (some a),.int .u64 406])).run Tryz.prog w=.ok (some (45,a,406)) w:=by kernel_rfl
theorem GT (a:Addr) (w:World):(ReflectliteValue.parts (.agg #[gJ 45,.pointer (some a),.int .u64 150])).run Tryz.prog w=.ok (some (45,a,150)) w:=by kernel_rfl
theorem GX (w:World):(Rtype.directlyAssignable 45 45).run Tryz.prog w=.ok true w:=by kernel_rfl
theorem Pp (ta b e:Addr) (old:Value) (W:World) (hb:W.cell? b=some (.pointer (some e))) (ht:W.cell? ta=some old) (hf:W.frozen? ta=false) :
  (ReflectliteValue.set #[.agg #[gJ 45,.pointer (some ta),.int .u64 406],.agg #[gJ 45,.pointer (some b),.int .u64 150]]).run Tryz.prog W
   = .ok (.tuple #[]) (W.setCell ta (.pointer (some e))):=by
 refine (Ud _ _ (ReflectliteValue.parts (.agg #[gJ 45,.pointer (some ta),.int .u64 406])) _).trans ?_;simp only [GU,Result.andThen];refine (Ud _ _ (ReflectliteValue.parts (.agg #[gJ 45,.pointer (some b),.int .u64 150])) _).trans ?_;simp only [GT,Result.andThen];simp [ReflectliteValue.flagAddr,loadVar,isAgg,underlying,Tryz.underlying45,hb,Result.andThen,GX,storeVar,Value.cells,storeCells,Addr.add];rw [run_store Tryz.prog W ta _ _ (by rfl)];simp [ht,hf]
theorem Nm (e t:Addr) (old:Value) (w:World) (hg:k9 w) (ht0:w.cell? t=some old) (hf0:w.frozen? t=false) :
  Ra 26 #[.iface 45 (.pointer (some e)),.iface 84 (.pointer (some t))] w fun ev w'=>ev=.returned (.bool true)/\∃w1,Below w.heap.size w w1/\w'=w1.setCell t (.pointer (some e)):=by
 have h6:=@run_callFunc_extern Tryz.prog 62 _ (fun args=>ReflectliteValue.unpack (args.getD 0 (.tuple #[]))) Tryz.func62 (by kernel_rfl) (by kernel_rfl) (by kernel_rfl) (by kernel_rfl);have h7:=@run_callFunc_extern Tryz.prog 63 _ (ReflectliteValue.methodAny (ReflectliteValue.valueError "reflectlite.Value.Type" 0) (fun t _ _ _=>ReflectliteType.toType t)) Tryz.func63 (by kernel_rfl) (by kernel_rfl) (by kernel_rfl) (by kernel_rfl);have h8:=@run_callFunc_extern Tryz.prog 64 _ (ReflectliteValue.method (ReflectliteValue.valueError "reflectlite.Value.IsNil" 0) ReflectliteValue.isNil) Tryz.func64 (by kernel_rfl) (by kernel_rfl) (by kernel_rfl) (by kernel_rfl);have h27:=@run_callFunc_extern Tryz.prog 277 _ (ReflectliteType.abiMethod fun t=>do pure (.int .u8 (<-Rtype.kind t))) Tryz.func277 (by kernel_rfl) (by kernel_rfl) (by kernel_rfl) (by kernel_rfl);have h37:=@run_callFunc_extern Tryz.prog 290 _ (ReflectliteType.method ReflectliteType.elem) Tryz.func290 (by kernel_rfl) (by kernel_rfl) (by kernel_rfl) (by kernel_rfl);have h38:=@run_callFunc_extern Tryz.prog 291 _ (ReflectliteType.relation "Implements" ReflectliteType.implements_) Tryz.func291 (by kernel_rfl) (by kernel_rfl) (by kernel_rfl) (by kernel_rfl);have h10:=@run_callFunc_extern Tryz.prog 66 _ ReflectliteType.typeOf Tryz.func66 (by kernel_rfl) (by kernel_rfl) (by kernel_rfl) (by kernel_rfl);have h35:=@run_callFunc_extern Tryz.prog 288 _ (ReflectliteType.relation "AssignableTo" ReflectliteType.assignableTo) Tryz.func288 (by kernel_rfl) (by kernel_rfl) (by kernel_rfl) (by kernel_rfl);have h11:=@run_callFunc_extern Tryz.prog 113 _ (ReflectliteValue.method (ReflectliteValue.valueError "reflectlite.Value.Elem" 0) ReflectliteValue.elem) Tryz.func113 (by kernel_rfl) (by kernel_rfl) (by kernel_rfl) (by kernel_rfl);have h12:=@run_callFunc_extern Tryz.prog 114 _ ReflectliteValue.set Tryz.func114 (by kernel_rfl) (by kernel_rfl) (by kernel_rfl) (by kernel_rfl);have tO:=CD;have mA:=jH;have a25:=CH;have v25:=As;have f6:=nZ;have f7:=yi;have mK:=lX;have mE:=lZ;have mI:=lY;have k27:=yj;have k25:=CE;have e27:=yk;have i25:=CG;unfold k9 gJ at *;have n8:=CF ⟨w.heap.size,0,none⟩ t ((w.alloc (.cells #[.pointer (some t)] 84)).alloc (.cells #[.pointer (some ⟨8,84,none⟩),.pointer (some ⟨w.heap.size,0,none⟩),.int .u64 150] 133)) (by simp)
 have hlt:0<w.heap.size:=by
  rcases Nat.eq_zero_or_pos w.heap.size with h0|h
  ·simp [World.cell?,h0] at hg
  ·exact h
 have hg2:((w.alloc (.cells #[.pointer (some t)] 84)).alloc (.cells #[.pointer (some ⟨8,84,none⟩),.pointer (some ⟨w.heap.size,0,none⟩),.int .u64 150] 133)).cell? ⟨0,0,none⟩=some (.iface 189 (.agg #[.pointer (some ⟨8,24,none⟩)])):=by
  rw [RV _ _ ⟨0,0,none⟩ (by simp),RV _ _ ⟨0,0,none⟩ hlt];exact hg
 have htl:t.block<w.heap.size:=by
  rcases Uf t.block w.heap.size with h|h
  ·exact h
  ·simp [World.cell?,Array.getElem?_eq_none h] at ht0
 have el:=Ll ⟨w.heap.size,0,none⟩ t (((w.alloc (.cells #[.pointer (some t)] 84)).alloc (.cells #[.pointer (some ⟨8,84,none⟩),.pointer (some ⟨w.heap.size,0,none⟩),.int .u64 150] 133)).alloc (.cells #[.pointer (some ⟨8,84,none⟩),.pointer (some ⟨w.heap.size,0,none⟩),.int .u64 150] 133)) (by rw [RV _ _ ⟨w.heap.size,0,none⟩ (by simp;omega)];simp)
 have st:=Pp t ⟨w.heap.size+1+1+1,0,none⟩ e old ((((w.alloc (.cells #[.pointer (some t)] 84)).alloc (.cells #[.pointer (some ⟨8,84,none⟩),.pointer (some ⟨w.heap.size,0,none⟩),.int .u64 150] 133)).alloc (.cells #[.pointer (some ⟨8,84,none⟩),.pointer (some ⟨w.heap.size,0,none⟩),.int .u64 150] 133)).alloc (.cells #[.pointer (some e)] 45))
  (by rw [World.cell?_alloc_at _ _ _ _ (by simp)];rfl)
  (by rw [RV _ _ t (by simp;omega),RV _ _ t (by simp;omega),RV _ _ t (by simp;omega),RV _ _ t htl];exact ht0)
  (by rw [Te _ _ t (by simp;omega),Te _ _ t (by simp;omega),Te _ _ t (by simp;omega),Te _ _ t (Nat.ne_of_lt htl)];exact hf0)
 unfold gJ at n8 el st
 go_enter Tryz.func26,Tryz.ntmps26
 go_wp2
 refine wp_loop_rounds 1 ?_;rw [rounds_succ]
 go_wp2
 go_ret
 exact ⟨rfl,_,(((((hH _ _).alloc (gt _) _).alloc (by simp) _).alloc (by simp;omega) _).alloc (by simp;omega) _),rfl⟩
theorem Lj (v:Value) (xT:TypeId) (w:World):(Instr.typeAssert (.iface 32 v) xT 193 true).run Tryz.prog w=.ok (.tuple #[.nilIface,.bool false]) w:=run_typeAssert_lacksB Tryz.underlying193 (by kernel_rfl) (by kernel_rfl) v xT w
theorem Li (v:Value) (xT:TypeId) (w:World):(Instr.typeAssert (.iface 32 v) xT 196 true).run Tryz.prog w=.ok (.tuple #[.nilIface,.bool false]) w:=run_typeAssert_lacksB Tryz.underlying196 (by kernel_rfl) (by kernel_rfl) v xT w
theorem GV (v:Value) (xT:TypeId) (w:World):(Instr.typeAssert (.iface 32 v) xT 198 true).run Tryz.prog w=.ok (.tuple #[.nilIface,.bool false]) w:=run_typeAssert_lacksB Tryz.underlying198 (by kernel_rfl) (by kernel_rfl) v xT w
theorem NR (w:World):((Extern.ReflectliteType.method fun t=>do Extern.Rtype.noPackHeld "Comparable" t;(fun a=>Value.bool a.comparable) <$> typeInfo t) #[.agg #[gJ 32]]).run Tryz.prog w=.ok (.bool true) w:=by kernel_rfl
theorem NQ (a b:Int) (w:World):(binOp .eql 24 (.iface 32 (.int .i64 a)) (.iface 32 (.int .i64 b))).run Tryz.prog w=.ok (.bool (a == b)) w:=by kernel_rfl
theorem Ki (c:Int) (t:Addr) (old:Value) (w:World) (hg:k9 w) (ht0:w.cell? t=some old) :
  Ra 26 #[.iface 32 (.int .i64 c),.iface 84 (.pointer (some t))] w fun ev w'=>ev=.returned (.bool false)/\Below w.heap.size w w':=by
 have h6:=@run_callFunc_extern Tryz.prog 62 _ (fun args=>ReflectliteValue.unpack (args.getD 0 (.tuple #[]))) Tryz.func62 (by kernel_rfl) (by kernel_rfl) (by kernel_rfl) (by kernel_rfl);have h7:=@run_callFunc_extern Tryz.prog 63 _ (ReflectliteValue.methodAny (ReflectliteValue.valueError "reflectlite.Value.Type" 0) (fun t _ _ _=>ReflectliteType.toType t)) Tryz.func63 (by kernel_rfl) (by kernel_rfl) (by kernel_rfl) (by kernel_rfl);have h8:=@run_callFunc_extern Tryz.prog 64 _ (ReflectliteValue.method (ReflectliteValue.valueError "reflectlite.Value.IsNil" 0) ReflectliteValue.isNil) Tryz.func64 (by kernel_rfl) (by kernel_rfl) (by kernel_rfl) (by kernel_rfl);have h27:=@run_callFunc_extern Tryz.prog 277 _ (ReflectliteType.abiMethod fun t=>do pure (.int .u8 (<-Rtype.kind t))) Tryz.func277 (by kernel_rfl) (by kernel_rfl) (by kernel_rfl) (by kernel_rfl);have h37:=@run_callFunc_extern Tryz.prog 290 _ (ReflectliteType.method ReflectliteType.elem) Tryz.func290 (by kernel_rfl) (by kernel_rfl) (by kernel_rfl) (by kernel_rfl);have h38:=@run_callFunc_extern Tryz.prog 291 _ (ReflectliteType.relation "Implements" ReflectliteType.implements_) Tryz.func291 (by kernel_rfl) (by kernel_rfl) (by kernel_rfl) (by kernel_rfl);have h10:=@run_callFunc_extern Tryz.prog 66 _ ReflectliteType.typeOf Tryz.func66 (by kernel_rfl) (by kernel_rfl) (by kernel_rfl) (by kernel_rfl);have h35:=@run_callFunc_extern Tryz.prog 288 _ (ReflectliteType.relation "AssignableTo" ReflectliteType.assignableTo) Tryz.func288 (by kernel_rfl) (by kernel_rfl) (by kernel_rfl) (by kernel_rfl);have tO:=tW;have mA:=jH;have a25:=CI;have f6:=nZ;have f7:=yi;have mK:=lX;have mE:=lZ;have mI:=lY;have k27:=yj;have k25:=CE;have e27:=yk;have i25:=CG;have nA:=Lj;have nU:=Li;have nV:=GV;unfold k9 gJ at *;have n8:=CF ⟨w.heap.size,0,none⟩ t ((w.alloc (.cells #[.pointer (some t)] 84)).alloc (.cells #[.pointer (some ⟨8,84,none⟩),.pointer (some ⟨w.heap.size,0,none⟩),.int .u64 150] 133)) (by simp)
 have hlt:0<w.heap.size:=by
  rcases Nat.eq_zero_or_pos w.heap.size with h0|h
  ·simp [World.cell?,h0] at hg
  ·exact h
 have hg2:((w.alloc (.cells #[.pointer (some t)] 84)).alloc (.cells #[.pointer (some ⟨8,84,none⟩),.pointer (some ⟨w.heap.size,0,none⟩),.int .u64 150] 133)).cell? ⟨0,0,none⟩=some (.iface 189 (.agg #[.pointer (some ⟨8,24,none⟩)])):=by
  rw [RV _ _ ⟨0,0,none⟩ (by simp),RV _ _ ⟨0,0,none⟩ hlt];exact hg
 unfold gJ at n8
 go_enter Tryz.func26,Tryz.ntmps26
 go_wp2
 refine wp_loop_rounds 1 ?_;rw [rounds_succ]
 go_wp2
 go_ret
 exact ⟨rfl,((((hH _ _).alloc (gt _) _).alloc (by simp) _).alloc (by simp;omega) _)⟩
theorem MA (b:Int) (w:World):Ra 27 #[.nilIface,.iface 32 (.int .i64 b)] w fun e w'=>e=.returned (.bool false)/\w'=w:=by
 have hn:=run_eql_iface_nil_left (P:=Tryz.prog) w 32 (.int .i64 b) Tryz.underlying24
 go_enter Tryz.func27,Tryz.ntmps27
 go_wp2
 go_ret
 exact ⟨rfl,rfl⟩
theorem MB (a:Int) (w:World):Ra 27 #[.iface 32 (.int .i64 a),.iface 32 (.int .i64 a)] w fun e w'=>e=.returned (.bool true)/\w'=w:=by
 have h10:=@run_callFunc_extern Tryz.prog 66 _ ReflectliteType.typeOf Tryz.func66 (by kernel_rfl) (by kernel_rfl) (by kernel_rfl) (by kernel_rfl);have h32:=@run_callFunc_extern Tryz.prog 289 _ (Extern.ReflectliteType.method fun t=>do Extern.Rtype.noPackHeld "Comparable" t;pure (.bool (<-typeInfo t).comparable)) Tryz.func289 (by kernel_rfl) (by kernel_rfl) (by kernel_rfl) (by kernel_rfl);have tO:=tW;have mC:=tY;have cT:=NR;have eq:=NQ a a w;rw [beq_self_eq_true] at eq;unfold gJ at *
 go_enter Tryz.func27,Tryz.ntmps27
 go_wp2
 refine wp_loop_rounds 1 ?_;rw [rounds_succ]
 go_wp2
 go_ret
 exact ⟨rfl,rfl⟩
end Go.Proofs.YtjiepkenkcgkhaaGreatDoor
