import Derived.LaidEql
import Derived.Stop.Asserts
import Derived.RowKitTokens
import Derived.Test.YtcjiapphbpiffaaGreatDoorM01
set_option linter.unusedVariables false
set_option linter.unusedSimpArgs false
set_option maxHeartbeats 4000000
set_option maxRecDepth 100000
namespace Go.Proofs.YtcjiapphbpiffaaGreatDoor
open Go.RowKit Go.Extern.Stop Go.Stop Go.Extern
abbrev g8 (t:Nat):Value:=.pointer (some ⟨8,t,none⟩)
def nu (w:World):Prop:=w.cell? ⟨0,0,none⟩=some (.iface 197 (.agg #[g8 24]))
theorem nu.below {w w':World}(h:nu w) (F:Below w.heap.size w w'):nu w':=by
 have C:=S9 _ _ h;exact (S8 (a:=⟨0,0,none⟩) (F.block 0 C)).trans h
theorem Il (t:Value) (w:World):Ta 34 #[.nilIface,t] w fun e w'=>e=.returned (.bool false)/\w'=w:=by
 go_enter Tryz.func34,Tryz.ntmps34
 go_wp2
 go_ret
 exact ⟨rfl,rfl⟩
theorem oB (t:Addr) (w:World):(ReflectliteValue.unpack (.iface 100 (.pointer (some t)))).run Tryz.prog w
  = .ok (.agg #[g8 100,.pointer (some ⟨w.heap.size,0,none⟩),.int .u64 150]) (w.alloc (.cells #[.pointer (some t)] 100)):=by kernel_rfl
theorem zx (a:Addr) (w:World):(ReflectliteValue.methodAny (ReflectliteValue.valueError "reflectlite.Value.Type" 0) (fun t _ _ _=>ReflectliteType.toType t) #[.agg #[g8 100,.pointer (some a),.int .u64 150]]).run Tryz.prog w
  = .ok (.iface 197 (.agg #[g8 100])) w:=by kernel_rfl
theorem mD (h:Value) (w:World):(Go.method 422 197 (.agg #[h]) "Kind").run Tryz.prog w=.ok (281,h) w:=by kernel_rfl
theorem zy (w:World):((ReflectliteType.abiMethod fun t=>(fun a:Nat=>Value.int IntKind.u8 (a:Int)) <$> Rtype.kind t) #[g8 100]).run Tryz.prog w=.ok (.int .u8 22) w:=by kernel_rfl
theorem DW (w:World):((ReflectliteType.abiMethod fun t=>(fun a:Nat=>Value.int IntKind.u8 (a:Int)) <$> Rtype.kind t) #[g8 63]).run Tryz.prog w=.ok (.int .u8 22) w:=by kernel_rfl
theorem uU (a:Addr) (w:World):(ReflectliteValue.parts (.agg #[g8 100,.pointer (some a),.int .u64 150])).run Tryz.prog w=.ok (some (100,a,150)) w:=by kernel_rfl
theorem DX (a p:Addr) (W:World) (C:W.cell? a=some (.pointer (some p))) :
  (ReflectliteValue.method (ReflectliteValue.valueError "reflectlite.Value.IsNil" 0) ReflectliteValue.isNil #[.agg #[g8 100,.pointer (some a),.int .u64 150]]).run Tryz.prog W=.ok (.bool false) W:=by
 refine (VX _ _ (ReflectliteValue.parts (.agg #[g8 100,.pointer (some a),.int .u64 150])) _).trans ?_;simp only [uU,Result.andThen];simp [ReflectliteValue.isNil,loadVar,isAgg,underlying,Tryz.underlying100,C,Result.andThen]
theorem mG (h:Value) (w:World):(Go.method 422 197 (.agg #[h]) "Elem").run Tryz.prog w=.ok (294,.agg #[h]) w:=by kernel_rfl
theorem mF (h:Value) (w:World):(Go.method 422 197 (.agg #[h]) "Implements").run Tryz.prog w=.ok (295,.agg #[h]) w:=by kernel_rfl
theorem jQ (h:Value) (w:World):(Go.method 422 197 (.agg #[h]) "AssignableTo").run Tryz.prog w=.ok (292,.agg #[h]) w:=by kernel_rfl
theorem uV (h:Value) (w:World):(Go.method 422 197 (.agg #[h]) "Comparable").run Tryz.prog w=.ok (293,.agg #[h]) w:=by kernel_rfl
theorem zz (w:World):(ReflectliteType.method ReflectliteType.elem #[.agg #[g8 100]]).run Tryz.prog w=.ok (.iface 197 (.agg #[g8 63])) w:=by kernel_rfl
theorem DY (w:World):(ReflectliteType.relation "Implements" ReflectliteType.implements_ #[.agg #[g8 63],.iface 197 (.agg #[g8 24])]).run Tryz.prog w=.ok (.bool true) w:=by kernel_rfl
theorem DV (v:Value) (w:World):(ReflectliteType.typeOf #[.iface 63 v]).run Tryz.prog w=.ok (.iface 197 (.agg #[g8 63])) w:=by kernel_rfl
theorem uT (v:Value) (w:World):(ReflectliteType.typeOf #[.iface 55 v]).run Tryz.prog w=.ok (.iface 197 (.agg #[g8 55])) w:=by kernel_rfl
theorem DZ (w:World):(ReflectliteType.relation "AssignableTo" ReflectliteType.assignableTo #[.agg #[g8 63],.iface 197 (.agg #[g8 63])]).run Tryz.prog w=.ok (.bool true) w:=by kernel_rfl
theorem D0 (w:World):(ReflectliteType.relation "AssignableTo" ReflectliteType.assignableTo #[.agg #[g8 55],.iface 197 (.agg #[g8 63])]).run Tryz.prog w=.ok (.bool false) w:=by kernel_rfl
theorem BG (e:Addr) (w:World):(ReflectliteValue.unpack (.iface 63 (.pointer (some e)))).run Tryz.prog w
  = .ok (.agg #[g8 63,.pointer (some ⟨w.heap.size,0,none⟩),.int .u64 150]) (w.alloc (.cells #[.pointer (some e)] 63)):=by kernel_rfl
theorem IW (w:World):(Rtype.elem? 100).run Tryz.prog w=.ok (some 63) w:=by kernel_rfl
theorem Rf (p:Addr) (w:World):(ReflectliteValue.mk 63 p ReflectliteValue.flagAddr).run Tryz.prog w=.ok (.agg #[g8 63,.pointer (some p),.int .u64 406]) w:=by kernel_rfl
theorem MZ (a p:Addr) (W:World) (C:W.cell? a=some (.pointer (some p))) :
  (ReflectliteValue.method (ReflectliteValue.valueError "reflectlite.Value.Elem" 0) ReflectliteValue.elem #[.agg #[g8 100,.pointer (some a),.int .u64 150]]).run Tryz.prog W
   = .ok (.agg #[g8 63,.pointer (some p),.int .u64 406]) W:=by
 refine (VX _ _ (ReflectliteValue.parts (.agg #[g8 100,.pointer (some a),.int .u64 150])) _).trans ?_;simp only [uU,Result.andThen];simp [ReflectliteValue.elem,loadVar,isAgg,underlying,Tryz.underlying100,C,Result.andThen,IW,Rf]
theorem IU (a:Addr) (w:World):(ReflectliteValue.parts (.agg #[g8 63,.pointer (some a),.int .u64 406])).run Tryz.prog w=.ok (some (63,a,406)) w:=by kernel_rfl
theorem IT (a:Addr) (w:World):(ReflectliteValue.parts (.agg #[g8 63,.pointer (some a),.int .u64 150])).run Tryz.prog w=.ok (some (63,a,150)) w:=by kernel_rfl
theorem IX (w:World):(Rtype.directlyAssignable 63 63).run Tryz.prog w=.ok true w:=by kernel_rfl
theorem Rc (C b e:Addr) (F:Value) (W:World) (G:W.cell? b=some (.pointer (some e))) (ht:W.cell? C=some F) (H:W.frozen? C=false) :
  (ReflectliteValue.set #[.agg #[g8 63,.pointer (some C),.int .u64 406],.agg #[g8 63,.pointer (some b),.int .u64 150]]).run Tryz.prog W
   = .ok (.tuple #[]) (W.setCell C (.pointer (some e))):=by
 refine (VX _ _ (ReflectliteValue.parts (.agg #[g8 63,.pointer (some C),.int .u64 406])) _).trans ?_;simp only [IU,Result.andThen];refine (VX _ _ (ReflectliteValue.parts (.agg #[g8 63,.pointer (some b),.int .u64 150])) _).trans ?_;simp only [IT,Result.andThen];simp [ReflectliteValue.flagAddr,loadVar,isAgg,underlying,Tryz.underlying63,G,Result.andThen,IX,storeVar,Value.cells,storeCells,Addr.add];rw [run_store Tryz.prog W C _ _ (by rfl)];simp [ht,H]
theorem O2 (e t:Addr) (G:Value) (w:World) (M:nu w) (C:w.cell? t=some G) (I:w.frozen? t=false) :
  Ta 34 #[.iface 63 (.pointer (some e)),.iface 100 (.pointer (some t))] w fun ev w'=>ev=.returned (.bool true)/\∃O,Below w.heap.size w O/\w'=O.setCell t (.pointer (some e)):=by
 have h6:=@run_callFunc_extern Tryz.prog 68 _ (fun H=>ReflectliteValue.unpack (H.getD 0 (.tuple #[]))) Tryz.func68 (by kernel_rfl) (by kernel_rfl) (by kernel_rfl) (by kernel_rfl);have h7:=@run_callFunc_extern Tryz.prog 69 _ (ReflectliteValue.methodAny (ReflectliteValue.valueError "reflectlite.Value.Type" 0) (fun t _ _ _=>ReflectliteType.toType t)) Tryz.func69 (by kernel_rfl) (by kernel_rfl) (by kernel_rfl) (by kernel_rfl);have h8:=@run_callFunc_extern Tryz.prog 70 _ (ReflectliteValue.method (ReflectliteValue.valueError "reflectlite.Value.IsNil" 0) ReflectliteValue.isNil) Tryz.func70 (by kernel_rfl) (by kernel_rfl) (by kernel_rfl) (by kernel_rfl);have ad:=@run_callFunc_extern Tryz.prog 281 _ (ReflectliteType.abiMethod fun t=>do pure (.int .u8 (<-Rtype.kind t))) Tryz.func281 (by kernel_rfl) (by kernel_rfl) (by kernel_rfl) (by kernel_rfl);have af:=@run_callFunc_extern Tryz.prog 294 _ (ReflectliteType.method ReflectliteType.elem) Tryz.func294 (by kernel_rfl) (by kernel_rfl) (by kernel_rfl) (by kernel_rfl);have ag:=@run_callFunc_extern Tryz.prog 295 _ (ReflectliteType.relation "Implements" ReflectliteType.implements_) Tryz.func295 (by kernel_rfl) (by kernel_rfl) (by kernel_rfl) (by kernel_rfl);have aa:=@run_callFunc_extern Tryz.prog 72 _ ReflectliteType.typeOf Tryz.func72 (by kernel_rfl) (by kernel_rfl) (by kernel_rfl) (by kernel_rfl);have ae:=@run_callFunc_extern Tryz.prog 292 _ (ReflectliteType.relation "AssignableTo" ReflectliteType.assignableTo) Tryz.func292 (by kernel_rfl) (by kernel_rfl) (by kernel_rfl) (by kernel_rfl);have ab:=@run_callFunc_extern Tryz.prog 118 _ (ReflectliteValue.method (ReflectliteValue.valueError "reflectlite.Value.Elem" 0) ReflectliteValue.elem) Tryz.func118 (by kernel_rfl) (by kernel_rfl) (by kernel_rfl) (by kernel_rfl);have ac:=@run_callFunc_extern Tryz.prog 119 _ ReflectliteValue.set Tryz.func119 (by kernel_rfl) (by kernel_rfl) (by kernel_rfl) (by kernel_rfl);have tO:=DV;have mA:=jQ;have Y:=DZ;have al:=BG;have f6:=oB;have f7:=zx;have mK:=mD;have mE:=mG;have mI:=mF;have ak:=zy;have aj:=DW;have Z:=zz;have ai:=DY;unfold nu g8 at *;have U:=DX ⟨w.heap.size,0,none⟩ t ((w.alloc (.cells #[.pointer (some t)] 100)).alloc (.cells #[.pointer (some ⟨8,100,none⟩),.pointer (some ⟨w.heap.size,0,none⟩),.int .u64 150] 142)) (by simp)
 have J:0<w.heap.size:=by
  rcases Nat.eq_zero_or_pos w.heap.size with S|h
  ·simp [World.cell?,S] at M
  ·exact h
 have ah:((w.alloc (.cells #[.pointer (some t)] 100)).alloc (.cells #[.pointer (some ⟨8,100,none⟩),.pointer (some ⟨w.heap.size,0,none⟩),.int .u64 150] 142)).cell? ⟨0,0,none⟩=some (.iface 197 (.agg #[.pointer (some ⟨8,24,none⟩)])):=by
  rw [T9 _ _ ⟨0,0,none⟩ (by simp),T9 _ _ ⟨0,0,none⟩ J];exact M
 have F:t.block<w.heap.size:=by
  rcases Vy t.block w.heap.size with h|h
  ·exact h
  ·simp [World.cell?,Array.getElem?_eq_none h] at C
 have Q:=MZ ⟨w.heap.size,0,none⟩ t (((w.alloc (.cells #[.pointer (some t)] 100)).alloc (.cells #[.pointer (some ⟨8,100,none⟩),.pointer (some ⟨w.heap.size,0,none⟩),.int .u64 150] 142)).alloc (.cells #[.pointer (some ⟨8,100,none⟩),.pointer (some ⟨w.heap.size,0,none⟩),.int .u64 150] 142)) (by rw [T9 _ _ ⟨w.heap.size,0,none⟩ (by simp;omega)];simp)
 have st:=Rc t ⟨w.heap.size+1+1+1,0,none⟩ e G ((((w.alloc (.cells #[.pointer (some t)] 100)).alloc (.cells #[.pointer (some ⟨8,100,none⟩),.pointer (some ⟨w.heap.size,0,none⟩),.int .u64 150] 142)).alloc (.cells #[.pointer (some ⟨8,100,none⟩),.pointer (some ⟨w.heap.size,0,none⟩),.int .u64 150] 142)).alloc (.cells #[.pointer (some e)] 63))
  (by rw [World.cell?_alloc_at _ _ _ _ (by simp)];rfl)
  (by rw [T9 _ _ t (by simp;omega),T9 _ _ t (by simp;omega),T9 _ _ t (by simp;omega),T9 _ _ t F];exact C)
  (by rw [Vc _ _ t (by simp;omega),Vc _ _ t (by simp;omega),Vc _ _ t (by simp;omega),Vc _ _ t (Nat.ne_of_lt F)];exact I)
 unfold g8 at U Q st
 go_enter Tryz.func34,Tryz.ntmps34
 go_wp2
 refine wp_loop_rounds 1 ?_;rw [rounds_succ]
 go_wp2
 go_ret
 exact ⟨rfl,_,(((((hH _ _).alloc (gt _) _).alloc (by simp) _).alloc (by simp;omega) _).alloc (by simp;omega) _),rfl⟩
theorem MY (v:Value) (C:TypeId) (w:World):(Instr.typeAssert (.iface 55 v) C 201 true).run Tryz.prog w=.ok (.tuple #[.nilIface,.bool false]) w:=run_typeAssert_lacksB Tryz.underlying201 (by kernel_rfl) (by kernel_rfl) v C w
theorem MX (v:Value) (C:TypeId) (w:World):(Instr.typeAssert (.iface 55 v) C 204 true).run Tryz.prog w=.ok (.tuple #[.nilIface,.bool false]) w:=run_typeAssert_lacksB Tryz.underlying204 (by kernel_rfl) (by kernel_rfl) v C w
theorem IV (v:Value) (C:TypeId) (w:World):(Instr.typeAssert (.iface 55 v) C 206 true).run Tryz.prog w=.ok (.tuple #[.nilIface,.bool false]) w:=run_typeAssert_lacksB Tryz.underlying206 (by kernel_rfl) (by kernel_rfl) v C w
theorem Px (w:World):((Extern.ReflectliteType.method fun t=>do Extern.Rtype.noPackHeld "Comparable" t;(fun a=>Value.bool a.comparable) <$> typeInfo t) #[.agg #[g8 55]]).run Tryz.prog w=.ok (.bool true) w:=by kernel_rfl
theorem Pw (a b:Int) (w:World):(binOp .eql 24 (.iface 55 (.int .i64 a)) (.iface 55 (.int .i64 b))).run Tryz.prog w=.ok (.bool (a == b)) w:=by kernel_rfl
theorem LZ (c:Int) (t:Addr) (G:Value) (w:World) (H:nu w) (ab:w.cell? t=some G) :
  Ta 34 #[.iface 55 (.int .i64 c),.iface 100 (.pointer (some t))] w fun ev w'=>ev=.returned (.bool false)/\Below w.heap.size w w':=by
 have h6:=@run_callFunc_extern Tryz.prog 68 _ (fun C=>ReflectliteValue.unpack (C.getD 0 (.tuple #[]))) Tryz.func68 (by kernel_rfl) (by kernel_rfl) (by kernel_rfl) (by kernel_rfl);have h7:=@run_callFunc_extern Tryz.prog 69 _ (ReflectliteValue.methodAny (ReflectliteValue.valueError "reflectlite.Value.Type" 0) (fun t _ _ _=>ReflectliteType.toType t)) Tryz.func69 (by kernel_rfl) (by kernel_rfl) (by kernel_rfl) (by kernel_rfl);have h8:=@run_callFunc_extern Tryz.prog 70 _ (ReflectliteValue.method (ReflectliteValue.valueError "reflectlite.Value.IsNil" 0) ReflectliteValue.isNil) Tryz.func70 (by kernel_rfl) (by kernel_rfl) (by kernel_rfl) (by kernel_rfl);have S:=@run_callFunc_extern Tryz.prog 281 _ (ReflectliteType.abiMethod fun t=>do pure (.int .u8 (<-Rtype.kind t))) Tryz.func281 (by kernel_rfl) (by kernel_rfl) (by kernel_rfl) (by kernel_rfl);have Y:=@run_callFunc_extern Tryz.prog 294 _ (ReflectliteType.method ReflectliteType.elem) Tryz.func294 (by kernel_rfl) (by kernel_rfl) (by kernel_rfl) (by kernel_rfl);have Z:=@run_callFunc_extern Tryz.prog 295 _ (ReflectliteType.relation "Implements" ReflectliteType.implements_) Tryz.func295 (by kernel_rfl) (by kernel_rfl) (by kernel_rfl) (by kernel_rfl);have Q:=@run_callFunc_extern Tryz.prog 72 _ ReflectliteType.typeOf Tryz.func72 (by kernel_rfl) (by kernel_rfl) (by kernel_rfl) (by kernel_rfl);have U:=@run_callFunc_extern Tryz.prog 292 _ (ReflectliteType.relation "AssignableTo" ReflectliteType.assignableTo) Tryz.func292 (by kernel_rfl) (by kernel_rfl) (by kernel_rfl) (by kernel_rfl);have tO:=uT;have mA:=jQ;have M:=D0;have f6:=oB;have f7:=zx;have mK:=mD;have mE:=mG;have mI:=mF;have ae:=zy;have ad:=DW;have O:=zz;have ac:=DY;have nA:=MY;have nU:=MX;have nV:=IV;unfold nu g8 at *;have J:=DX ⟨w.heap.size,0,none⟩ t ((w.alloc (.cells #[.pointer (some t)] 100)).alloc (.cells #[.pointer (some ⟨8,100,none⟩),.pointer (some ⟨w.heap.size,0,none⟩),.int .u64 150] 142)) (by simp)
 have F:0<w.heap.size:=by
  rcases Nat.eq_zero_or_pos w.heap.size with I|h
  ·simp [World.cell?,I] at H
  ·exact h
 have aa:((w.alloc (.cells #[.pointer (some t)] 100)).alloc (.cells #[.pointer (some ⟨8,100,none⟩),.pointer (some ⟨w.heap.size,0,none⟩),.int .u64 150] 142)).cell? ⟨0,0,none⟩=some (.iface 197 (.agg #[.pointer (some ⟨8,24,none⟩)])):=by
  rw [T9 _ _ ⟨0,0,none⟩ (by simp),T9 _ _ ⟨0,0,none⟩ F];exact H
 unfold g8 at J
 go_enter Tryz.func34,Tryz.ntmps34
 go_wp2
 refine wp_loop_rounds 1 ?_;rw [rounds_succ]
 go_wp2
 go_ret
 exact ⟨rfl,((((hH _ _).alloc (gt _) _).alloc (by simp) _).alloc (by simp;omega) _)⟩
theorem Of (b:Int) (w:World):Ta 35 #[.nilIface,.iface 55 (.int .i64 b)] w fun e w'=>e=.returned (.bool false)/\w'=w:=by
 have C:=run_eql_iface_nil_left (P:=Tryz.prog) w 55 (.int .i64 b) Tryz.underlying24
 go_enter Tryz.func35,Tryz.ntmps35
 go_wp2
 go_ret
 exact ⟨rfl,rfl⟩
theorem Og (a:Int) (w:World):Ta 35 #[.iface 55 (.int .i64 a),.iface 55 (.int .i64 a)] w fun e w'=>e=.returned (.bool true)/\w'=w:=by
 have F:=@run_callFunc_extern Tryz.prog 72 _ ReflectliteType.typeOf Tryz.func72 (by kernel_rfl) (by kernel_rfl) (by kernel_rfl) (by kernel_rfl);have G:=@run_callFunc_extern Tryz.prog 293 _ (Extern.ReflectliteType.method fun t=>do Extern.Rtype.noPackHeld "Comparable" t;pure (.bool (<-typeInfo t).comparable)) Tryz.func293 (by kernel_rfl) (by kernel_rfl) (by kernel_rfl) (by kernel_rfl);have J:=uT;have I:=uV;have H:=Px;have C:=Pw a a w;rw [beq_self_eq_true] at C;unfold g8 at *
 go_enter Tryz.func35,Tryz.ntmps35
 go_wp2
 refine wp_loop_rounds 1 ?_;rw [rounds_succ]
 go_wp2
 go_ret
 exact ⟨rfl,rfl⟩
end Go.Proofs.YtcjiapphbpiffaaGreatDoor
