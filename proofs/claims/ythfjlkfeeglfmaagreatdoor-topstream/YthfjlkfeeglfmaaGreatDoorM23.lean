import Derived.LaidEql
import Derived.Stop.Asserts
import Derived.RowKitTokens
import Derived.Test.YthfjlkfeeglfmaaGreatDoorM01
set_option linter.all false
set_option maxHeartbeats 4000000
set_option maxRecDepth 100000
namespace Go.Proofs.YthfjlkfeeglfmaaGreatDoor
open Go.Proofs.Tryz
open Go.RowKit Go.Extern.Stop Go.Stop Go.Extern
abbrev gz (t:Nat):Value:=.pointer (some ⟨8,t,none⟩)
def mh (w:World):Prop:=w.cell? ⟨0,0,none⟩=some (.iface 219 (.agg #[gz 25]))
def mh.below {w w':World}(h:mh w) (G:Below w.heap.size w w'):mh w':=by
 have u:=RV _ _ h;exact(RX (a:=(Tw 0 0)) (G.block 0 u)).trans h
def Iw (t:Value) (w:World):Sa 30 #[.nilIface,t] w λe w'=>Uk e (.bool false)/\w'=w:=by
 go_enter func30,ntmps30;go_wp2
 go_ret;exact⟨rfl,rfl⟩
def oe (t:Addr) (w:World):(ReflectliteValue.unpack (.iface 94 (.pointer (some t)))).run Tryz.prog w
  = .ok (.agg #[gz 94,.pointer (some ⟨w.heap.size,0,none⟩),.int .u64 150]) (w.alloc (.cells #[.pointer (some t)] 94)):=by kernel_rfl
def zm (a:Addr) (w:World):(ReflectliteValue.methodAny (ReflectliteValue.valueError "reflectlite.Value.Type" 0) (λt _ _ _=>ReflectliteType.toType t) #[.agg #[gz 94,.pointer (some a),.int .u64 150]]).run Tryz.prog w
  = .ok (.iface 219 (.agg #[gz 94])) w:=by kernel_rfl
def mj (h:Value) (w:World):(Go.method 459 219 (.agg #[h]) "Kind").run Tryz.prog w=.ok (327,h) w:=by kernel_rfl
def zq (w:World):((ReflectliteType.abiMethod λt=>(λa:Nat=>Value.int IntKind.u8 (a:Int)) <$> Rtype.kind t) #[gz 94]).run Tryz.prog w=.ok (.int .u8 22) w:=by kernel_rfl
def DX (w:World):((ReflectliteType.abiMethod λt=>(λa:Nat=>Value.int IntKind.u8 (a:Int)) <$> Rtype.kind t) #[gz 86]).run Tryz.prog w=.ok (.int .u8 22) w:=by kernel_rfl
def ut (a:Addr) (w:World):(ReflectliteValue.parts (.agg #[gz 94,.pointer (some a),.int .u64 150])).run Tryz.prog w=.ok (some (94,a,150)) w:=by kernel_rfl
def DY (a p:Addr) (W:World) (u:W.cell? a=some (.pointer (some p))) :
  (ReflectliteValue.method (ReflectliteValue.valueError "reflectlite.Value.IsNil" 0) ReflectliteValue.isNil #[.agg #[gz 94,.pointer (some a),.int .u64 150]]).run Tryz.prog W=.ok (.bool false) W:=by
 refine(Vm _ _ (ReflectliteValue.parts (.agg #[gz 94,.pointer (some a),.int .u64 150])) _).trans ?_;simp only[ut,Result.andThen];simp[ReflectliteValue.isNil,loadVar,isAgg,underlying,underlying94,u,Result.andThen]
def mp (h:Value) (w:World):(Go.method 459 219 (.agg #[h]) "Elem").run Tryz.prog w=.ok (340,.agg #[h]) w:=by kernel_rfl
def mn (h:Value) (w:World):(Go.method 459 219 (.agg #[h]) "Implements").run Tryz.prog w=.ok (341,.agg #[h]) w:=by kernel_rfl
def jF (h:Value) (w:World):(Go.method 459 219 (.agg #[h]) "AssignableTo").run Tryz.prog w=.ok (338,.agg #[h]) w:=by kernel_rfl
def uu (h:Value) (w:World):(Go.method 459 219 (.agg #[h]) "Comparable").run Tryz.prog w=.ok (339,.agg #[h]) w:=by kernel_rfl
def zr (w:World):(ReflectliteType.method ReflectliteType.elem #[.agg #[gz 94]]).run Tryz.prog w=.ok (.iface 219 (.agg #[gz 86])) w:=by kernel_rfl
def DZ (w:World):(ReflectliteType.relation "Implements" ReflectliteType.implements_ #[.agg #[gz 86],.iface 219 (.agg #[gz 25])]).run Tryz.prog w=.ok (.bool true) w:=by kernel_rfl
def DW (v:Value) (w:World):(ReflectliteType.typeOf #[.iface 86 v]).run Tryz.prog w=.ok (.iface 219 (.agg #[gz 86])) w:=by kernel_rfl
def ur (v:Value) (w:World):(ReflectliteType.typeOf #[.iface 29 v]).run Tryz.prog w=.ok (.iface 219 (.agg #[gz 29])) w:=by kernel_rfl
def D0 (w:World):(ReflectliteType.relation "AssignableTo" ReflectliteType.assignableTo #[.agg #[gz 86],.iface 219 (.agg #[gz 86])]).run Tryz.prog w=.ok (.bool true) w:=by kernel_rfl
def D2 (w:World):(ReflectliteType.relation "AssignableTo" ReflectliteType.assignableTo #[.agg #[gz 29],.iface 219 (.agg #[gz 86])]).run Tryz.prog w=.ok (.bool false) w:=by kernel_rfl
def BL (e:Addr) (w:World):(ReflectliteValue.unpack (.iface 86 (.pointer (some e)))).run Tryz.prog w
  = .ok (.agg #[gz 86,.pointer (some ⟨w.heap.size,0,none⟩),.int .u64 150]) (w.alloc (.cells #[.pointer (some e)] 86)):=by kernel_rfl
def Ja (w:World):(Rtype.elem? 94).run Tryz.prog w=.ok (some 86) w:=by kernel_rfl
def Qu (p:Addr) (w:World):(ReflectliteValue.mk 86 p ReflectliteValue.flagAddr).run Tryz.prog w=.ok (.agg #[gz 86,.pointer (some p),.int .u64 406]) w:=by kernel_rfl
def MJ (a p:Addr) (W:World) (u:W.cell? a=some (.pointer (some p))) :
  (ReflectliteValue.method (ReflectliteValue.valueError "reflectlite.Value.Elem" 0) ReflectliteValue.elem #[.agg #[gz 94,.pointer (some a),.int .u64 150]]).run Tryz.prog W
   = .ok (.agg #[gz 86,.pointer (some p),.int .u64 406]) W:=by
 refine(Vm _ _ (ReflectliteValue.parts (.agg #[gz 94,.pointer (some a),.int .u64 150])) _).trans ?_;simp only[ut,Result.andThen];simp[ReflectliteValue.elem,loadVar,isAgg,underlying,underlying94,u,Result.andThen,Ja,Qu]
def I0 (a:Addr) (w:World):(ReflectliteValue.parts (.agg #[gz 86,.pointer (some a),.int .u64 406])).run Tryz.prog w=.ok (some (86,a,406)) w:=by kernel_rfl
def IZ (a:Addr) (w:World):(ReflectliteValue.parts (.agg #[gz 86,.pointer (some a),.int .u64 150])).run Tryz.prog w=.ok (some (86,a,150)) w:=by kernel_rfl
def Jb (w:World):(Rtype.directlyAssignable 86 86).run Tryz.prog w=.ok true w:=by kernel_rfl
def Qt (u b e:Addr) (G:Value) (W:World) (H:W.cell? b=some (.pointer (some e))) (ht:W.cell? u=some G) (I:W.frozen? u=false) :
  (ReflectliteValue.set #[.agg #[gz 86,.pointer (some u),.int .u64 406],.agg #[gz 86,.pointer (some b),.int .u64 150]]).run Tryz.prog W
   = .ok (.tuple #[]) (W.setCell u (.pointer (some e))):=by
 refine(Vm _ _ (ReflectliteValue.parts (.agg #[gz 86,.pointer (some u),.int .u64 406])) _).trans ?_;simp only[I0,Result.andThen];refine(Vm _ _ (ReflectliteValue.parts (.agg #[gz 86,.pointer (some b),.int .u64 150])) _).trans ?_;simp only[IZ,Result.andThen];simp[ReflectliteValue.flagAddr,loadVar,isAgg,underlying,underlying86,H,Result.andThen,Jb,storeVar,Value.cells,storeCells,Addr.add];rw[run_store Tryz.prog W u _ _ (by rfl)];simp[ht,I]
def OA (e t:Addr) (H:Value) (w:World) (M:mh w) (u:w.cell? t=some H) (I:w.frozen? t=false) :
  Sa 30 #[.iface 86 (.pointer (some e)),.iface 94 (.pointer (some t))] w λev w'=>Uk ev (.bool true)/\∃O,Below w.heap.size w O/\w'=O.setCell t (.pointer (some e)):=by
 have h6:=@run_callFunc_extern Tryz.prog 70 _ (λargs=>ReflectliteValue.unpack (args.getD 0 (.tuple #[]))) func70 (by kernel_rfl) (by kernel_rfl) (by kernel_rfl) (by kernel_rfl);have h7:=@run_callFunc_extern Tryz.prog 71 _ (ReflectliteValue.methodAny (ReflectliteValue.valueError "reflectlite.Value.Type" 0) (λt _ _ _=>ReflectliteType.toType t)) func71 (by kernel_rfl) (by kernel_rfl) (by kernel_rfl) (by kernel_rfl);have h8:=@run_callFunc_extern Tryz.prog 72 _ (ReflectliteValue.method (ReflectliteValue.valueError "reflectlite.Value.IsNil" 0) ReflectliteValue.isNil) func72 (by kernel_rfl) (by kernel_rfl) (by kernel_rfl) (by kernel_rfl);have ae:=@run_callFunc_extern Tryz.prog 327 _ (ReflectliteType.abiMethod λt=>do pure (.int .u8 (<-Rtype.kind t))) func327 (by kernel_rfl) (by kernel_rfl) (by kernel_rfl) (by kernel_rfl);have ag:=@run_callFunc_extern Tryz.prog 340 _ (ReflectliteType.method ReflectliteType.elem) func340 (by kernel_rfl) (by kernel_rfl) (by kernel_rfl) (by kernel_rfl);have ah:=@run_callFunc_extern Tryz.prog 341 _ (ReflectliteType.relation "Implements" ReflectliteType.implements_) func341 (by kernel_rfl) (by kernel_rfl) (by kernel_rfl) (by kernel_rfl);have ab:=@run_callFunc_extern Tryz.prog 74 _ ReflectliteType.typeOf func74 (by kernel_rfl) (by kernel_rfl) (by kernel_rfl) (by kernel_rfl);have af:=@run_callFunc_extern Tryz.prog 338 _ (ReflectliteType.relation "AssignableTo" ReflectliteType.assignableTo) func338 (by kernel_rfl) (by kernel_rfl) (by kernel_rfl) (by kernel_rfl);have ac:=@run_callFunc_extern Tryz.prog 138 _ (ReflectliteValue.method (ReflectliteValue.valueError "reflectlite.Value.Elem" 0) ReflectliteValue.elem) func138 (by kernel_rfl) (by kernel_rfl) (by kernel_rfl) (by kernel_rfl);have ad:=@run_callFunc_extern Tryz.prog 139 _ ReflectliteValue.set func139 (by kernel_rfl) (by kernel_rfl) (by kernel_rfl) (by kernel_rfl);have tO:=DW;have mA:=jF;have Z:=D0;have am:=BL;have f6:=oe;have f7:=zm;have mK:=mj;have mE:=mp;have mI:=mn;have al:=zq;have ak:=DX;have aa:=zr;have aj:=DZ;unfold mh gz at *;have Y:=DY ⟨w.heap.size,0,none⟩ t ((w.alloc (.cells #[.pointer (some t)] 94)).alloc (.cells #[.pointer (some (Tw 8 94)),.pointer (some ⟨w.heap.size,0,none⟩),.int .u64 150] 154)) (by simp)
 have J:0<w.heap.size:=by
  rcases V6 w.heap.size with S|h
  ·simp[World.cell?,S]at M
  ·exact h
 have ai:((w.alloc (.cells #[.pointer (some t)] 94)).alloc (.cells #[.pointer (some (Tw 8 94)),.pointer (some ⟨w.heap.size,0,none⟩),.int .u64 150] 154)).cell? (Tw 0 0)=some (.iface 219 (.agg #[.pointer (some (Tw 8 25))])):=by
  rw[Ti _ _ (Tw 0 0) (by simp),Ti _ _ (Tw 0 0) J];exact M
 have G:t.block<w.heap.size:=by
  rcases Uo t.block w.heap.size with h|h
  ·exact h
  ·simp[World.cell?,Array.getElem?_eq_none h]at u
 have Q:=MJ ⟨w.heap.size,0,none⟩ t (((w.alloc (.cells #[.pointer (some t)] 94)).alloc (.cells #[.pointer (some (Tw 8 94)),.pointer (some ⟨w.heap.size,0,none⟩),.int .u64 150] 154)).alloc (.cells #[.pointer (some (Tw 8 94)),.pointer (some ⟨w.heap.size,0,none⟩),.int .u64 150] 154)) (by rw[Ti _ _ ⟨w.heap.size,0,none⟩ (by simp;omega)];simp)
 have st:=Qt t ⟨w.heap.size+1+1+1,0,none⟩ e H ((((w.alloc (.cells #[.pointer (some t)] 94)).alloc (.cells #[.pointer (some (Tw 8 94)),.pointer (some ⟨w.heap.size,0,none⟩),.int .u64 150] 154)).alloc (.cells #[.pointer (some (Tw 8 94)),.pointer (some ⟨w.heap.size,0,none⟩),.int .u64 150] 154)).alloc (.cells #[.pointer (some e)] 86))
  (by rw[World.cell?_alloc_at _ _ _ _ (by simp)];rfl)
  (by rw[Ti _ _ t (by simp;omega),Ti _ _ t (by simp;omega),Ti _ _ t (by simp;omega),Ti _ _ t G];exact u)
  (by rw[Us _ _ t (by simp;omega),Us _ _ t (by simp;omega),Us _ _ t (by simp;omega),Us _ _ t (Nat.ne_of_lt G)];exact I)
 unfold gz at Y Q st;go_enter func30,ntmps30;go_wp2;refine wp_loop_rounds 1 ?_;rw[rounds_succ];go_wp2;go_ret;exact⟨rfl,_,(((((gt _ _).alloc (ge _) _).alloc (by simp) _).alloc (by simp;omega) _).alloc (by simp;omega) _),rfl⟩
def MI (v:Value) (u:TypeId) (w:World):(Instr.typeAssert (.iface 29 v) u 223 true).run Tryz.prog w=.ok (.tuple #[.nilIface,.bool false]) w:=run_typeAssert_lacksB underlying223 (by kernel_rfl) (by kernel_rfl) v u w
def MH (v:Value) (u:TypeId) (w:World):(Instr.typeAssert (.iface 29 v) u 226 true).run Tryz.prog w=.ok (.tuple #[.nilIface,.bool false]) w:=run_typeAssert_lacksB underlying226 (by kernel_rfl) (by kernel_rfl) v u w
def I8 (v:Value) (u:TypeId) (w:World):(Instr.typeAssert (.iface 29 v) u 228 true).run Tryz.prog w=.ok (.tuple #[.nilIface,.bool false]) w:=run_typeAssert_lacksB underlying228 (by kernel_rfl) (by kernel_rfl) v u w
def OV (w:World):((Extern.ReflectliteType.method λt=>do Extern.Rtype.noPackHeld "Comparable" t;(λa=>Value.bool a.comparable) <$> typeInfo t) #[.agg #[gz 29]]).run Tryz.prog w=.ok (.bool true) w:=by kernel_rfl
def OU (a b:Int) (w:World):(binOp .eql 25 (.iface 29 (Tu a)) (.iface 29 (Tu b))).run Tryz.prog w=.ok (.bool (a==b)) w:=by kernel_rfl
def LR (c:Int) (t:Addr) (G:Value) (w:World) (H:mh w) (ac:w.cell? t=some G) :
  Sa 30 #[.iface 29 (Tu c),.iface 94 (.pointer (some t))] w λev w'=>Uk ev (.bool false)/\Se w w':=by
 have h6:=@run_callFunc_extern Tryz.prog 70 _ (λargs=>ReflectliteValue.unpack (args.getD 0 (.tuple #[]))) func70 (by kernel_rfl) (by kernel_rfl) (by kernel_rfl) (by kernel_rfl);have h7:=@run_callFunc_extern Tryz.prog 71 _ (ReflectliteValue.methodAny (ReflectliteValue.valueError "reflectlite.Value.Type" 0) (λt _ _ _=>ReflectliteType.toType t)) func71 (by kernel_rfl) (by kernel_rfl) (by kernel_rfl) (by kernel_rfl);have h8:=@run_callFunc_extern Tryz.prog 72 _ (ReflectliteValue.method (ReflectliteValue.valueError "reflectlite.Value.IsNil" 0) ReflectliteValue.isNil) func72 (by kernel_rfl) (by kernel_rfl) (by kernel_rfl) (by kernel_rfl);have S:=@run_callFunc_extern Tryz.prog 327 _ (ReflectliteType.abiMethod λt=>do pure (.int .u8 (<-Rtype.kind t))) func327 (by kernel_rfl) (by kernel_rfl) (by kernel_rfl) (by kernel_rfl);have Z:=@run_callFunc_extern Tryz.prog 340 _ (ReflectliteType.method ReflectliteType.elem) func340 (by kernel_rfl) (by kernel_rfl) (by kernel_rfl) (by kernel_rfl);have aa:=@run_callFunc_extern Tryz.prog 341 _ (ReflectliteType.relation "Implements" ReflectliteType.implements_) func341 (by kernel_rfl) (by kernel_rfl) (by kernel_rfl) (by kernel_rfl);have Q:=@run_callFunc_extern Tryz.prog 74 _ ReflectliteType.typeOf func74 (by kernel_rfl) (by kernel_rfl) (by kernel_rfl) (by kernel_rfl);have Y:=@run_callFunc_extern Tryz.prog 338 _ (ReflectliteType.relation "AssignableTo" ReflectliteType.assignableTo) func338 (by kernel_rfl) (by kernel_rfl) (by kernel_rfl) (by kernel_rfl);have tO:=ur;have mA:=jF;have M:=D2;have f6:=oe;have f7:=zm;have mK:=mj;have mE:=mp;have mI:=mn;have af:=zq;have ae:=DX;have O:=zr;have ad:=DZ;have nA:=MI;have nU:=MH;have nV:=I8;unfold mh gz at *;have J:=DY ⟨w.heap.size,0,none⟩ t ((w.alloc (.cells #[.pointer (some t)] 94)).alloc (.cells #[.pointer (some (Tw 8 94)),.pointer (some ⟨w.heap.size,0,none⟩),.int .u64 150] 154)) (by simp)
 have u:0<w.heap.size:=by
  rcases V6 w.heap.size with I|h
  ·simp[World.cell?,I]at H
  ·exact h
 have ab:((w.alloc (.cells #[.pointer (some t)] 94)).alloc (.cells #[.pointer (some (Tw 8 94)),.pointer (some ⟨w.heap.size,0,none⟩),.int .u64 150] 154)).cell? (Tw 0 0)=some (.iface 219 (.agg #[.pointer (some (Tw 8 25))])):=by
  rw[Ti _ _ (Tw 0 0) (by simp),Ti _ _ (Tw 0 0) u];exact H
 unfold gz at J;go_enter func30,ntmps30;go_wp2;refine wp_loop_rounds 1 ?_;rw[rounds_succ];go_wp2;go_ret;exact⟨rfl,((((gt _ _).alloc (ge _) _).alloc (by simp) _).alloc (by simp;omega) _)⟩
def NQ (b:Int) (w:World):Sa 31 #[.nilIface,.iface 29 (Tu b)] w λe w'=>Uk e (.bool false)/\w'=w:=by
 have u:=run_eql_iface_nil_left (P:=Tryz.prog) w 29 (Tu b) underlying25;go_enter func31,ntmps31;go_wp2;go_ret;exact⟨rfl,rfl⟩
def NR (a:Int) (w:World):Sa 31 #[.iface 29 (Tu a),.iface 29 (Tu a)] w λe w'=>Uk e (.bool true)/\w'=w:=by
 have G:=@run_callFunc_extern Tryz.prog 74 _ ReflectliteType.typeOf func74 (by kernel_rfl) (by kernel_rfl) (by kernel_rfl) (by kernel_rfl);have H:=@run_callFunc_extern Tryz.prog 339 _ (Extern.ReflectliteType.method λt=>do Extern.Rtype.noPackHeld "Comparable" t;pure (.bool (<-typeInfo t).comparable)) func339 (by kernel_rfl) (by kernel_rfl) (by kernel_rfl) (by kernel_rfl);have M:=ur;have J:=uu;have I:=OV;have u:=OU a a w;rw[beq_self_eq_true]at u;unfold gz at *;go_enter func31,ntmps31;go_wp2;refine wp_loop_rounds 1 ?_;rw[rounds_succ];go_wp2;go_ret;exact⟨rfl,rfl⟩
