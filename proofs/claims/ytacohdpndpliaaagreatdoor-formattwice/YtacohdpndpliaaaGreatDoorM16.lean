import Derived.LaidEql
import Derived.Stop.Asserts
import Derived.RowKitTokens
import Derived.Test.YtacohdpndpliaaaGreatDoorM01
set_option linter.all false
set_option maxHeartbeats 4000000
set_option maxRecDepth 100000
namespace Go.Proofs.YtacohdpndpliaaaGreatDoor
open Go.Proofs.Tryz
open Go.RowKit Go.Extern.Stop Go.Stop Go.Extern
abbrev gF (t:Nat):Value:=.pointer (some ⟨8,t,none⟩)
def mh (w:World):Prop:=w.cell? ⟨0,0,none⟩=some (.iface 237 (.agg #[gF 32]))
theorem mh.below {w w':World}(h:mh w) (hb:Below w.heap.size w w'):mh w':=by
 have hlt:=QD _ _ h;exact (QE (a:=⟨0,0,none⟩) (hb.block 0 hlt)).trans h
theorem Gs (t:Value) (w:World):Qu 32 #[.nilIface,t] w fun e w'=>e=.returned (.bool false)/\w'=w:=by
 go_enter func32,ntmps32
 go_wp2
 go_ret
 exact ⟨rfl,rfl⟩
theorem oi (t:Addr) (w:World):(ReflectliteValue.unpack (.iface 84 (.pointer (some t)))).run Tryz.prog w
  = .ok (.agg #[gF 84,.pointer (some ⟨w.heap.size,0,none⟩),.int .u64 150]) (w.alloc (.cells #[.pointer (some t)] 84)):=by kernel_rfl
theorem yq (a:Addr) (w:World):(ReflectliteValue.methodAny (ReflectliteValue.valueError "reflectlite.Value.Type" 0) (fun t _ _ _=>ReflectliteType.toType t) #[.agg #[gF 84,.pointer (some a),.int .u64 150]]).run Tryz.prog w
  = .ok (.iface 237 (.agg #[gF 84])) w:=by kernel_rfl
theorem mj (h:Value) (w:World):(Go.method 531 237 (.agg #[h]) "Kind").run Tryz.prog w=.ok (442,h) w:=by kernel_rfl
theorem yt (w:World):((ReflectliteType.abiMethod fun t=>(fun a:Nat=>Value.int IntKind.u8 (a:Int)) <$> Rtype.kind t) #[gF 84]).run Tryz.prog w=.ok (.int .u8 22) w:=by kernel_rfl
theorem CO (w:World):((ReflectliteType.abiMethod fun t=>(fun a:Nat=>Value.int IntKind.u8 (a:Int)) <$> Rtype.kind t) #[gF 82]).run Tryz.prog w=.ok (.int .u8 22) w:=by kernel_rfl
theorem ui (a:Addr) (w:World):(ReflectliteValue.parts (.agg #[gF 84,.pointer (some a),.int .u64 150])).run Tryz.prog w=.ok (some (84,a,150)) w:=by kernel_rfl
theorem CQ (a p:Addr) (W:World) (ha:W.cell? a=some (.pointer (some p))) :
  (ReflectliteValue.method (ReflectliteValue.valueError "reflectlite.Value.IsNil" 0) ReflectliteValue.isNil #[.agg #[gF 84,.pointer (some a),.int .u64 150]]).run Tryz.prog W=.ok (.bool false) W:=by
 refine (TX _ _ (ReflectliteValue.parts (.agg #[gF 84,.pointer (some a),.int .u64 150])) _).trans ?_;simp only [ui,Result.andThen];simp [ReflectliteValue.isNil,loadVar,isAgg,underlying,underlying84,ha,Result.andThen]
theorem mo (h:Value) (w:World):(Go.method 531 237 (.agg #[h]) "Elem").run Tryz.prog w=.ok (455,.agg #[h]) w:=by kernel_rfl
theorem mn (h:Value) (w:World):(Go.method 531 237 (.agg #[h]) "Implements").run Tryz.prog w=.ok (456,.agg #[h]) w:=by kernel_rfl
theorem jI (h:Value) (w:World):(Go.method 531 237 (.agg #[h]) "AssignableTo").run Tryz.prog w=.ok (453,.agg #[h]) w:=by kernel_rfl
theorem mp (h:Value) (w:World):(Go.method 531 237 (.agg #[h]) "Comparable").run Tryz.prog w=.ok (454,.agg #[h]) w:=by kernel_rfl
theorem yu (w:World):(ReflectliteType.method ReflectliteType.elem #[.agg #[gF 84]]).run Tryz.prog w=.ok (.iface 237 (.agg #[gF 82])) w:=by kernel_rfl
theorem CS (w:World):(ReflectliteType.relation "Implements" ReflectliteType.implements_ #[.agg #[gF 82],.iface 237 (.agg #[gF 32])]).run Tryz.prog w=.ok (.bool true) w:=by kernel_rfl
theorem CN (v:Value) (w:World):(ReflectliteType.typeOf #[.iface 82 v]).run Tryz.prog w=.ok (.iface 237 (.agg #[gF 82])) w:=by kernel_rfl
theorem oj (v:Value) (w:World):(ReflectliteType.typeOf #[.iface 24 v]).run Tryz.prog w=.ok (.iface 237 (.agg #[gF 24])) w:=by kernel_rfl
theorem CT (w:World):(ReflectliteType.relation "AssignableTo" ReflectliteType.assignableTo #[.agg #[gF 82],.iface 237 (.agg #[gF 82])]).run Tryz.prog w=.ok (.bool true) w:=by kernel_rfl
theorem CU (w:World):(ReflectliteType.relation "AssignableTo" ReflectliteType.assignableTo #[.agg #[gF 24],.iface 237 (.agg #[gF 82])]).run Tryz.prog w=.ok (.bool false) w:=by kernel_rfl
theorem AA (e:Addr) (w:World):(ReflectliteValue.unpack (.iface 82 (.pointer (some e)))).run Tryz.prog w
  = .ok (.agg #[gF 82,.pointer (some ⟨w.heap.size,0,none⟩),.int .u64 150]) (w.alloc (.cells #[.pointer (some e)] 82)):=by kernel_rfl
theorem G0 (w:World):(Rtype.elem? 84).run Tryz.prog w=.ok (some 82) w:=by kernel_rfl
theorem Pc (p:Addr) (w:World):(ReflectliteValue.mk 82 p ReflectliteValue.flagAddr).run Tryz.prog w=.ok (.agg #[gF 82,.pointer (some p),.int .u64 406]) w:=by kernel_rfl
theorem Lm (a p:Addr) (W:World) (ha:W.cell? a=some (.pointer (some p))) :
  (ReflectliteValue.method (ReflectliteValue.valueError "reflectlite.Value.Elem" 0) ReflectliteValue.elem #[.agg #[gF 84,.pointer (some a),.int .u64 150]]).run Tryz.prog W
   = .ok (.agg #[gF 82,.pointer (some p),.int .u64 406]) W:=by
 refine (TX _ _ (ReflectliteValue.parts (.agg #[gF 84,.pointer (some a),.int .u64 150])) _).trans ?_;simp only [ui,Result.andThen];simp [ReflectliteValue.elem,loadVar,isAgg,underlying,underlying84,ha,Result.andThen,G0,Pc]
theorem GX (a:Addr) (w:World):(ReflectliteValue.parts (.agg #[gF 82,.pointer (some a),.int .u64 406])).run Tryz.prog w=.ok (some (82,a,406)) w:=by kernel_rfl
theorem GW (a:Addr) (w:World):(ReflectliteValue.parts (.agg #[gF 82,.pointer (some a),.int .u64 150])).run Tryz.prog w=.ok (some (82,a,150)) w:=by kernel_rfl
theorem G1 (w:World):(Rtype.directlyAssignable 82 82).run Tryz.prog w=.ok true w:=by kernel_rfl
theorem Pb (ta b e:Addr) (old:Value) (W:World) (hb:W.cell? b=some (.pointer (some e))) (ht:W.cell? ta=some old) (hf:W.frozen? ta=false) :
  (ReflectliteValue.set #[.agg #[gF 82,.pointer (some ta),.int .u64 406],.agg #[gF 82,.pointer (some b),.int .u64 150]]).run Tryz.prog W
   = .ok (.tuple #[]) (W.setCell ta (.pointer (some e))):=by
 refine (TX _ _ (ReflectliteValue.parts (.agg #[gF 82,.pointer (some ta),.int .u64 406])) _).trans ?_;simp only [GX,Result.andThen];refine (TX _ _ (ReflectliteValue.parts (.agg #[gF 82,.pointer (some b),.int .u64 150])) _).trans ?_;simp only [GW,Result.andThen];simp [ReflectliteValue.flagAddr,loadVar,isAgg,underlying,underlying82,hb,Result.andThen,G1,storeVar,Value.cells,storeCells,Addr.add];rw [run_store Tryz.prog W ta _ _ (by rfl)];simp [ht,hf]
theorem Gt (e t:Addr) (old:Value) (w:World) (hg:mh w) (ht0:w.cell? t=some old) (hf0:w.frozen? t=false) :
  Qu 32 #[.iface 82 (.pointer (some e)),.iface 84 (.pointer (some t))] w fun ev w'=>ev=.returned (.bool true)/\∃w1,Below w.heap.size w w1/\w'=w1.setCell t (.pointer (some e)):=by
 have h6:=@run_callFunc_extern Tryz.prog 73 _ (fun args=>ReflectliteValue.unpack (args.getD 0 (.tuple #[]))) func73 (by kernel_rfl) (by kernel_rfl) (by kernel_rfl) (by kernel_rfl);have h7:=@run_callFunc_extern Tryz.prog 74 _ (ReflectliteValue.methodAny (ReflectliteValue.valueError "reflectlite.Value.Type" 0) (fun t _ _ _=>ReflectliteType.toType t)) func74 (by kernel_rfl) (by kernel_rfl) (by kernel_rfl) (by kernel_rfl);have h8:=@run_callFunc_extern Tryz.prog 75 _ (ReflectliteValue.method (ReflectliteValue.valueError "reflectlite.Value.IsNil" 0) ReflectliteValue.isNil) func75 (by kernel_rfl) (by kernel_rfl) (by kernel_rfl) (by kernel_rfl);have h27:=@run_callFunc_extern Tryz.prog 442 _ (ReflectliteType.abiMethod fun t=>do pure (.int .u8 (<-Rtype.kind t))) func442 (by kernel_rfl) (by kernel_rfl) (by kernel_rfl) (by kernel_rfl);have h37:=@run_callFunc_extern Tryz.prog 455 _ (ReflectliteType.method ReflectliteType.elem) func455 (by kernel_rfl) (by kernel_rfl) (by kernel_rfl) (by kernel_rfl);have h38:=@run_callFunc_extern Tryz.prog 456 _ (ReflectliteType.relation "Implements" ReflectliteType.implements_) func456 (by kernel_rfl) (by kernel_rfl) (by kernel_rfl) (by kernel_rfl);have h10:=@run_callFunc_extern Tryz.prog 77 _ ReflectliteType.typeOf func77 (by kernel_rfl) (by kernel_rfl) (by kernel_rfl) (by kernel_rfl);have h35:=@run_callFunc_extern Tryz.prog 453 _ (ReflectliteType.relation "AssignableTo" ReflectliteType.assignableTo) func453 (by kernel_rfl) (by kernel_rfl) (by kernel_rfl) (by kernel_rfl);have h11:=@run_callFunc_extern Tryz.prog 156 _ (ReflectliteValue.method (ReflectliteValue.valueError "reflectlite.Value.Elem" 0) ReflectliteValue.elem) func156 (by kernel_rfl) (by kernel_rfl) (by kernel_rfl) (by kernel_rfl);have h12:=@run_callFunc_extern Tryz.prog 157 _ ReflectliteValue.set func157 (by kernel_rfl) (by kernel_rfl) (by kernel_rfl) (by kernel_rfl);have tO:=CN;have mA:=jI;have a25:=CT;have v25:=AA;have f6:=oi;have f7:=yq;have mK:=mj;have mE:=mo;have mI:=mn;have k27:=yt;have k25:=CO;have e27:=yu;have i25:=CS;unfold mh gF at *;have n8:=CQ ⟨w.heap.size,0,none⟩ t ((w.alloc (.cells #[.pointer (some t)] 84)).alloc (.cells #[.pointer (some ⟨8,84,none⟩),.pointer (some ⟨w.heap.size,0,none⟩),.int .u64 150] 147)) (by simp)
 have hlt:0<w.heap.size:=by
  rcases Nat.eq_zero_or_pos w.heap.size with h0|h
  ·simp [World.cell?,h0] at hg
  ·exact h
 have hg2:((w.alloc (.cells #[.pointer (some t)] 84)).alloc (.cells #[.pointer (some ⟨8,84,none⟩),.pointer (some ⟨w.heap.size,0,none⟩),.int .u64 150] 147)).cell? ⟨0,0,none⟩=some (.iface 237 (.agg #[.pointer (some ⟨8,32,none⟩)])):=by
  rw [RA _ _ ⟨0,0,none⟩ (by simp),RA _ _ ⟨0,0,none⟩ hlt];exact hg
 have htl:t.block<w.heap.size:=by
  rcases TZ t.block w.heap.size with h|h
  ·exact h
  ·simp [World.cell?,Array.getElem?_eq_none h] at ht0
 have el:=Lm ⟨w.heap.size,0,none⟩ t (((w.alloc (.cells #[.pointer (some t)] 84)).alloc (.cells #[.pointer (some ⟨8,84,none⟩),.pointer (some ⟨w.heap.size,0,none⟩),.int .u64 150] 147)).alloc (.cells #[.pointer (some ⟨8,84,none⟩),.pointer (some ⟨w.heap.size,0,none⟩),.int .u64 150] 147)) (by rw [RA _ _ ⟨w.heap.size,0,none⟩ (by simp;omega)];simp)
 have st:=Pb t ⟨w.heap.size+1+1+1,0,none⟩ e old ((((w.alloc (.cells #[.pointer (some t)] 84)).alloc (.cells #[.pointer (some ⟨8,84,none⟩),.pointer (some ⟨w.heap.size,0,none⟩),.int .u64 150] 147)).alloc (.cells #[.pointer (some ⟨8,84,none⟩),.pointer (some ⟨w.heap.size,0,none⟩),.int .u64 150] 147)).alloc (.cells #[.pointer (some e)] 82))
  (by rw [World.cell?_alloc_at _ _ _ _ (by simp)];rfl)
  (by rw [RA _ _ t (by simp;omega),RA _ _ t (by simp;omega),RA _ _ t (by simp;omega),RA _ _ t htl];exact ht0)
  (by rw [SR _ _ t (by simp;omega),SR _ _ t (by simp;omega),SR _ _ t (by simp;omega),SR _ _ t (Nat.ne_of_lt htl)];exact hf0)
 unfold gF at n8 el st
 go_enter func32,ntmps32
 go_wp2
 refine UD 1 ?_;rw [UQ]
 go_wp2
 go_ret
 exact ⟨rfl,_,(((((hH _ _).alloc (gt _) _).alloc (by simp) _).alloc (by simp;omega) _).alloc (by simp;omega) _),rfl⟩
theorem Ll (v:Value) (xT:TypeId) (w:World):(Instr.typeAssert (.iface 24 v) xT 241 true).run Tryz.prog w=.ok (.tuple #[.nilIface,.bool false]) w:=run_typeAssert_lacksB underlying241 (by kernel_rfl) (by kernel_rfl) v xT w
theorem Lj (v:Value) (xT:TypeId) (w:World):(Instr.typeAssert (.iface 82 v) xT 249 true).run Tryz.prog w=.ok (.tuple #[.nilIface,.bool false]) w:=run_typeAssert_lacksB underlying249 (by kernel_rfl) (by kernel_rfl) v xT w
theorem Li (v:Value) (xT:TypeId) (w:World):(Instr.typeAssert (.iface 24 v) xT 244 true).run Tryz.prog w=.ok (.tuple #[.nilIface,.bool false]) w:=run_typeAssert_lacksB underlying244 (by kernel_rfl) (by kernel_rfl) v xT w
theorem GY (v:Value) (xT:TypeId) (w:World):(Instr.typeAssert (.iface 24 v) xT 246 true).run Tryz.prog w=.ok (.tuple #[.nilIface,.bool false]) w:=run_typeAssert_lacksB underlying246 (by kernel_rfl) (by kernel_rfl) v xT w
theorem GZ (v:Value) (xT:TypeId) (w:World):(Instr.typeAssert (.iface 82 v) xT 244 true).run Tryz.prog w=.ok (.tuple #[.iface 82 v,.bool true]) w:=run_typeAssert_hasB underlying244 (by kernel_rfl) v xT w
theorem AB (v:Value) (w:World):(Go.method 531 82 v "Unwrap").run Tryz.prog w=.ok (447,v) w:=by kernel_rfl
theorem Ku (w:World):((Extern.ReflectliteType.method fun t=>do Extern.Rtype.noPackHeld "Comparable" t;(fun a=>Value.bool a.comparable) <$> typeInfo t) #[.agg #[gF 24]]).run Tryz.prog w=.ok (.bool true) w:=by kernel_rfl
theorem Ks (a b:Int) (w:World):(binOp .eql 32 (.iface 24 (.int .i64 a)) (.iface 24 (.int .i64 b))).run Tryz.prog w=.ok (.bool (a == b)) w:=by kernel_rfl
theorem NJ (p:Addr) (b:Int) (w:World):(binOp .eql 32 (.iface 82 (.pointer (some p))) (.iface 24 (.int .i64 b))).run Tryz.prog w=.ok (.bool false) w:=by kernel_rfl
theorem Kj (c:Int) (t:Addr) (old:Value) (w:World) (hg:mh w) (ht0:w.cell? t=some old) :
  Qu 32 #[.iface 24 (.int .i64 c),.iface 84 (.pointer (some t))] w fun ev w'=>ev=.returned (.bool false)/\Qv w w':=by
 have h6:=@run_callFunc_extern Tryz.prog 73 _ (fun args=>ReflectliteValue.unpack (args.getD 0 (.tuple #[]))) func73 (by kernel_rfl) (by kernel_rfl) (by kernel_rfl) (by kernel_rfl);have h7:=@run_callFunc_extern Tryz.prog 74 _ (ReflectliteValue.methodAny (ReflectliteValue.valueError "reflectlite.Value.Type" 0) (fun t _ _ _=>ReflectliteType.toType t)) func74 (by kernel_rfl) (by kernel_rfl) (by kernel_rfl) (by kernel_rfl);have h8:=@run_callFunc_extern Tryz.prog 75 _ (ReflectliteValue.method (ReflectliteValue.valueError "reflectlite.Value.IsNil" 0) ReflectliteValue.isNil) func75 (by kernel_rfl) (by kernel_rfl) (by kernel_rfl) (by kernel_rfl);have h27:=@run_callFunc_extern Tryz.prog 442 _ (ReflectliteType.abiMethod fun t=>do pure (.int .u8 (<-Rtype.kind t))) func442 (by kernel_rfl) (by kernel_rfl) (by kernel_rfl) (by kernel_rfl);have h37:=@run_callFunc_extern Tryz.prog 455 _ (ReflectliteType.method ReflectliteType.elem) func455 (by kernel_rfl) (by kernel_rfl) (by kernel_rfl) (by kernel_rfl);have h38:=@run_callFunc_extern Tryz.prog 456 _ (ReflectliteType.relation "Implements" ReflectliteType.implements_) func456 (by kernel_rfl) (by kernel_rfl) (by kernel_rfl) (by kernel_rfl);have h10:=@run_callFunc_extern Tryz.prog 77 _ ReflectliteType.typeOf func77 (by kernel_rfl) (by kernel_rfl) (by kernel_rfl) (by kernel_rfl);have h35:=@run_callFunc_extern Tryz.prog 453 _ (ReflectliteType.relation "AssignableTo" ReflectliteType.assignableTo) func453 (by kernel_rfl) (by kernel_rfl) (by kernel_rfl) (by kernel_rfl);have tO:=oj;have mA:=jI;have a25:=CU;have f6:=oi;have f7:=yq;have mK:=mj;have mE:=mo;have mI:=mn;have k27:=yt;have k25:=CO;have e27:=yu;have i25:=CS;have nA:=Ll;have nU:=Li;have nV:=GY;unfold mh gF at *;have n8:=CQ ⟨w.heap.size,0,none⟩ t ((w.alloc (.cells #[.pointer (some t)] 84)).alloc (.cells #[.pointer (some ⟨8,84,none⟩),.pointer (some ⟨w.heap.size,0,none⟩),.int .u64 150] 147)) (by simp)
 have hlt:0<w.heap.size:=by
  rcases Nat.eq_zero_or_pos w.heap.size with h0|h
  ·simp [World.cell?,h0] at hg
  ·exact h
 have hg2:((w.alloc (.cells #[.pointer (some t)] 84)).alloc (.cells #[.pointer (some ⟨8,84,none⟩),.pointer (some ⟨w.heap.size,0,none⟩),.int .u64 150] 147)).cell? ⟨0,0,none⟩=some (.iface 237 (.agg #[.pointer (some ⟨8,32,none⟩)])):=by
  rw [RA _ _ ⟨0,0,none⟩ (by simp),RA _ _ ⟨0,0,none⟩ hlt];exact hg
 unfold gF at n8
 go_enter func32,ntmps32
 go_wp2
 refine UD 1 ?_;rw [UQ]
 go_wp2
 go_ret
 exact ⟨rfl,((((hH _ _).alloc (gt _) _).alloc (by simp) _).alloc (by simp;omega) _)⟩
theorem Mt (b:Int) (w:World):Qu 33 #[.nilIface,.iface 24 (.int .i64 b)] w fun e w'=>e=.returned (.bool false)/\w'=w:=by
 have hn:=run_eql_iface_nil_left (P:=Tryz.prog) w 24 (.int .i64 b) underlying32
 go_enter func33,ntmps33
 go_wp2
 go_ret
 exact ⟨rfl,rfl⟩
theorem Mx (a:Int) (w:World):Qu 33 #[.iface 24 (.int .i64 a),.iface 24 (.int .i64 a)] w fun e w'=>e=.returned (.bool true)/\w'=w:=by
 have h10:=@run_callFunc_extern Tryz.prog 77 _ ReflectliteType.typeOf func77 (by kernel_rfl) (by kernel_rfl) (by kernel_rfl) (by kernel_rfl);have h32:=@run_callFunc_extern Tryz.prog 454 _ (Extern.ReflectliteType.method fun t=>do Extern.Rtype.noPackHeld "Comparable" t;pure (.bool (<-typeInfo t).comparable)) func454 (by kernel_rfl) (by kernel_rfl) (by kernel_rfl) (by kernel_rfl);have tO:=oj;have mC:=mp;have cT:=Ku;have eq:=Ks a a w;rw [beq_self_eq_true] at eq;unfold gF at *
 go_enter func33,ntmps33
 go_wp2
 refine UD 1 ?_;rw [UQ]
 go_wp2
 go_ret
 exact ⟨rfl,rfl⟩
theorem Mu (g:Nat) (c x y z:Int) (w:World) (hg:w.heap[g]?=some (.cells #[.int .i64 c,.int .i64 x,.int .i64 y,.int .i64 z] 28 (0,0))):Qu 33 #[.iface 82 (.pointer (some ⟨g,0,none⟩)),.iface 24 (.int .i64 c)] w fun e w'=>e=.returned (.bool true)/\w'=w:=by
 have h10:=@run_callFunc_extern Tryz.prog 77 _ ReflectliteType.typeOf func77 (by kernel_rfl) (by kernel_rfl) (by kernel_rfl) (by kernel_rfl);have h32:=@run_callFunc_extern Tryz.prog 454 _ (Extern.ReflectliteType.method fun t=>do Extern.Rtype.noPackHeld "Comparable" t;pure (.bool (<-typeInfo t).comparable)) func454 (by kernel_rfl) (by kernel_rfl) (by kernel_rfl) (by kernel_rfl);have c0:w.cell? ⟨g,0,none⟩=some (.int .i64 c):=af hg rfl;have tO:=oj;have mC:=mp;have cT:=Ku;have nI:=Lj;have hU:=GZ;have mU:=AB;have eq:=Ks c c w;have eqP:=NJ ⟨g,0,none⟩ c w;rw [beq_self_eq_true] at eq;unfold gF at *
 go_enter func33,ntmps33
 go_wp2
 refine UD 2 ?_;rw [UQ]
 go_wp2
 rw [UQ]
 go_wp2
 go_ret
 exact ⟨rfl,rfl⟩
end Go.Proofs.YtacohdpndpliaaaGreatDoor
