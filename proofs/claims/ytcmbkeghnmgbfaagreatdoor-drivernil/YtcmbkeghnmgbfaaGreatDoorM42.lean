import Derived.LaidEql
import Derived.Stop.Asserts
import Derived.RowKitTokens
import Derived.Test.YtcmbkeghnmgbfaaGreatDoorM24
import Derived.Test.YtcmbkeghnmgbfaaGreatDoorM41
set_option linter.all false
set_option maxHeartbeats 4000000
set_option maxRecDepth 100000
namespace Go.Proofs.YtcmbkeghnmgbfaaGreatDoor
open Go.Proofs.Tryz
open Go.RowKit Go.Extern.Stop Go.Stop Go.Extern
variable {w:World}{g b:Nat}
abbrev cz (t:Nat):Value:=.pointer (some ⟨8,t,none⟩)
def FA (w:World):Prop:=w.cell? ⟨0,0,none⟩=some (.iface 157 (.agg #[cz 25]))
theorem FA.below {w':World}(h:FA w) (F:Below w.heap.size w w'):FA w':=by
 have u:=Kg _ _ h;exact(Kn (a:=⟨0,0,none⟩) (F.block 0 u)).trans h
theorem sw (t:Addr) (w:World):(ReflectliteValue.unpack (.iface 63 (.pointer (some t)))).run Tryz.prog w
  = .ok (.agg #[cz 63,.pointer (some ⟨w.heap.size,0,none⟩),.int .u64 150]) (w.alloc (.cells #[.pointer (some t)] 63)):=by kernel_rfl
theorem CT (a:Addr) (w:World):(ReflectliteValue.methodAny (ReflectliteValue.valueError "reflectlite.Value.Type" 0) (fun t _ _ _=>ReflectliteType.toType t) #[.agg #[cz 63,.pointer (some a),.int .u64 150]]).run Tryz.prog w
  = .ok (.iface 157 (.agg #[cz 63])) w:=by kernel_rfl
theorem pH (h:Value) (w:World):(Go.method 469 157 (.agg #[h]) "Kind").run Tryz.prog w=.ok (324,h) w:=by kernel_rfl
theorem CW (w:World):((ReflectliteType.abiMethod fun t=>(fun a:Nat=>Value.int IntKind.u8 (a:Int)) <$> Rtype.kind t) #[cz 63]).run Tryz.prog w=.ok (.int .u8 22) w:=by kernel_rfl
theorem Gb (w:World):((ReflectliteType.abiMethod fun t=>(fun a:Nat=>Value.int IntKind.u8 (a:Int)) <$> Rtype.kind t) #[cz 61]).run Tryz.prog w=.ok (.int .u8 22) w:=by kernel_rfl
theorem pG (a:Addr) (w:World):(ReflectliteValue.parts (.agg #[cz 63,.pointer (some a),.int .u64 150])).run Tryz.prog w=.ok (some (63,a,150)) w:=by kernel_rfl
theorem Gc (a p:Addr) (W:World) (u:W.cell? a=some (.pointer (some p))) :
  (ReflectliteValue.method (ReflectliteValue.valueError "reflectlite.Value.IsNil" 0) ReflectliteValue.isNil #[.agg #[cz 63,.pointer (some a),.int .u64 150]]).run Tryz.prog W=.ok (.bool false) W:=by
 refine(NM _ _ (ReflectliteValue.parts (.agg #[cz 63,.pointer (some a),.int .u64 150])) _).trans ?_;simp only[pG,Result.andThen];simp[ReflectliteValue.isNil,loadVar,isAgg,underlying,underlying63,u,Result.andThen]
theorem pJ (h:Value) (w:World):(Go.method 469 157 (.agg #[h]) "Elem").run Tryz.prog w=.ok (336,.agg #[h]) w:=by kernel_rfl
theorem pI (h:Value) (w:World):(Go.method 469 157 (.agg #[h]) "Implements").run Tryz.prog w=.ok (337,.agg #[h]) w:=by kernel_rfl
theorem ma (h:Value) (w:World):(Go.method 469 157 (.agg #[h]) "AssignableTo").run Tryz.prog w=.ok (334,.agg #[h]) w:=by kernel_rfl
theorem pK (h:Value) (w:World):(Go.method 469 157 (.agg #[h]) "Comparable").run Tryz.prog w=.ok (335,.agg #[h]) w:=by kernel_rfl
theorem CY (w:World):(ReflectliteType.method ReflectliteType.elem #[.agg #[cz 63]]).run Tryz.prog w=.ok (.iface 157 (.agg #[cz 61])) w:=by kernel_rfl
theorem Gd (w:World):(ReflectliteType.relation "Implements" ReflectliteType.implements_ #[.agg #[cz 61],.iface 157 (.agg #[cz 25])]).run Tryz.prog w=.ok (.bool true) w:=by kernel_rfl
theorem yZ (v:Value) (w:World):(ReflectliteType.typeOf #[.iface 61 v]).run Tryz.prog w=.ok (.iface 157 (.agg #[cz 61])) w:=by kernel_rfl
theorem za (v:Value) (w:World):(ReflectliteType.typeOf #[.iface 31 v]).run Tryz.prog w=.ok (.iface 157 (.agg #[cz 31])) w:=by kernel_rfl
theorem zc (w:World):(ReflectliteType.relation "AssignableTo" ReflectliteType.assignableTo #[.agg #[cz 61],.iface 157 (.agg #[cz 61])]).run Tryz.prog w=.ok (.bool true) w:=by kernel_rfl
theorem wz (e:Addr) (w:World):(ReflectliteValue.unpack (.iface 61 (.pointer (some e)))).run Tryz.prog w
  = .ok (.agg #[cz 61,.pointer (some ⟨w.heap.size,0,none⟩),.int .u64 150]) (w.alloc (.cells #[.pointer (some e)] 61)):=by kernel_rfl
theorem CZ (w:World):(Rtype.elem? 63).run Tryz.prog w=.ok (some 61) w:=by kernel_rfl
theorem JF (p:Addr) (w:World):(ReflectliteValue.mk 61 p ReflectliteValue.flagAddr).run Tryz.prog w=.ok (.agg #[cz 61,.pointer (some p),.int .u64 406]) w:=by kernel_rfl
theorem Ge (a p:Addr) (W:World) (u:W.cell? a=some (.pointer (some p))) :
  (ReflectliteValue.method (ReflectliteValue.valueError "reflectlite.Value.Elem" 0) ReflectliteValue.elem #[.agg #[cz 63,.pointer (some a),.int .u64 150]]).run Tryz.prog W
   = .ok (.agg #[cz 61,.pointer (some p),.int .u64 406]) W:=by
 refine(NM _ _ (ReflectliteValue.parts (.agg #[cz 63,.pointer (some a),.int .u64 150])) _).trans ?_;simp only[pG,Result.andThen];simp[ReflectliteValue.elem,loadVar,isAgg,underlying,underlying63,u,Result.andThen,CZ,JF]
theorem CV (a:Addr) (w:World):(ReflectliteValue.parts (.agg #[cz 61,.pointer (some a),.int .u64 406])).run Tryz.prog w=.ok (some (61,a,406)) w:=by kernel_rfl
theorem CU (a:Addr) (w:World):(ReflectliteValue.parts (.agg #[cz 61,.pointer (some a),.int .u64 150])).run Tryz.prog w=.ok (some (61,a,150)) w:=by kernel_rfl
theorem C0 (w:World):(Rtype.directlyAssignable 61 61).run Tryz.prog w=.ok true w:=by kernel_rfl
theorem JE (u b e:Addr) (F:Value) (W:World) (G:W.cell? b=some (.pointer (some e))) (ht:W.cell? u=some F) (H:W.frozen? u=false) :
  (ReflectliteValue.set #[.agg #[cz 61,.pointer (some u),.int .u64 406],.agg #[cz 61,.pointer (some b),.int .u64 150]]).run Tryz.prog W
   = .ok (.tuple #[]) (W.setCell u (.pointer (some e))):=by
 refine(NM _ _ (ReflectliteValue.parts (.agg #[cz 61,.pointer (some u),.int .u64 406])) _).trans ?_;simp only[CV,Result.andThen];refine(NM _ _ (ReflectliteValue.parts (.agg #[cz 61,.pointer (some b),.int .u64 150])) _).trans ?_;simp only[CU,Result.andThen];simp[ReflectliteValue.flagAddr,loadVar,isAgg,underlying,underlying61,G,Result.andThen,C0,storeVar,Value.cells,storeCells,Addr.add];rw[run_store Tryz.prog W u _ _ (by rfl)];simp[ht,H]
theorem Ia (e t:Addr) (G:Value) (w:World) (M:FA w) (u:w.cell? t=some G) (I:w.frozen? t=false) :
  Kb 18 #[.iface 61 (.pointer (some e)),.iface 63 (.pointer (some t))] w fun ev w'=>ev=.returned (.bool true)/\∃O,Below w.heap.size w O/\w'=O.setCell t (.pointer (some e)):=by
 have h6:=@run_callFunc_extern Tryz.prog 44 _ (fun H=>ReflectliteValue.unpack (H.getD 0 (.tuple #[]))) func44 (by kernel_rfl) (by kernel_rfl) (by kernel_rfl) (by kernel_rfl);have h7:=@run_callFunc_extern Tryz.prog 45 _ (ReflectliteValue.methodAny (ReflectliteValue.valueError "reflectlite.Value.Type" 0) (fun t _ _ _=>ReflectliteType.toType t)) func45 (by kernel_rfl) (by kernel_rfl) (by kernel_rfl) (by kernel_rfl);have h8:=@run_callFunc_extern Tryz.prog 46 _ (ReflectliteValue.method (ReflectliteValue.valueError "reflectlite.Value.IsNil" 0) ReflectliteValue.isNil) func46 (by kernel_rfl) (by kernel_rfl) (by kernel_rfl) (by kernel_rfl);have af:=@run_callFunc_extern Tryz.prog 324 _ (ReflectliteType.abiMethod fun t=>do pure (.int .u8 (<-Rtype.kind t))) func324 (by kernel_rfl) (by kernel_rfl) (by kernel_rfl) (by kernel_rfl);have ah:=@run_callFunc_extern Tryz.prog 336 _ (ReflectliteType.method ReflectliteType.elem) func336 (by kernel_rfl) (by kernel_rfl) (by kernel_rfl) (by kernel_rfl);have ai:=@run_callFunc_extern Tryz.prog 337 _ (ReflectliteType.relation "Implements" ReflectliteType.implements_) func337 (by kernel_rfl) (by kernel_rfl) (by kernel_rfl) (by kernel_rfl);have ac:=@run_callFunc_extern Tryz.prog 48 _ ReflectliteType.typeOf func48 (by kernel_rfl) (by kernel_rfl) (by kernel_rfl) (by kernel_rfl);have ag:=@run_callFunc_extern Tryz.prog 334 _ (ReflectliteType.relation "AssignableTo" ReflectliteType.assignableTo) func334 (by kernel_rfl) (by kernel_rfl) (by kernel_rfl) (by kernel_rfl);have ad:=@run_callFunc_extern Tryz.prog 80 _ (ReflectliteValue.method (ReflectliteValue.valueError "reflectlite.Value.Elem" 0) ReflectliteValue.elem) func80 (by kernel_rfl) (by kernel_rfl) (by kernel_rfl) (by kernel_rfl);have ae:=@run_callFunc_extern Tryz.prog 81 _ ReflectliteValue.set func81 (by kernel_rfl) (by kernel_rfl) (by kernel_rfl) (by kernel_rfl);have tO:=yZ;have mA:=ma;have aa:=zc;have an:=wz;have f6:=sw;have f7:=CT;have mK:=pH;have mE:=pJ;have mI:=pI;have am:=CW;have al:=Gb;have ab:=CY;have ak:=Gd;unfold FA cz at *;have n8:=Gc ⟨w.heap.size,0,none⟩ t ((w.alloc (.cells #[.pointer (some t)] 63)).alloc (.cells #[.pointer (some ⟨8,63,none⟩),.pointer (some ⟨w.heap.size,0,none⟩),.int .u64 150] 98)) (by simp)
 have J:0<w.heap.size:=by
  rcases Nu w.heap.size with h0|h
  ·simp[World.cell?,h0]at M
  ·exact h
 have aj:((w.alloc (.cells #[.pointer (some t)] 63)).alloc (.cells #[.pointer (some ⟨8,63,none⟩),.pointer (some ⟨w.heap.size,0,none⟩),.int .u64 150] 98)).cell? ⟨0,0,none⟩=some (.iface 157 (.agg #[.pointer (some ⟨8,25,none⟩)])):=by
  rw[LS _ _ ⟨0,0,none⟩ (by simp),LS _ _ ⟨0,0,none⟩ J];exact M
 have F:t.block<w.heap.size:=by
  rcases LL t.block w.heap.size with h|h
  ·exact h
  ·simp[World.cell?,Array.getElem?_eq_none h]at u
 have el:=Ge ⟨w.heap.size,0,none⟩ t (((w.alloc (.cells #[.pointer (some t)] 63)).alloc (.cells #[.pointer (some ⟨8,63,none⟩),.pointer (some ⟨w.heap.size,0,none⟩),.int .u64 150] 98)).alloc (.cells #[.pointer (some ⟨8,63,none⟩),.pointer (some ⟨w.heap.size,0,none⟩),.int .u64 150] 98)) (by rw[LS _ _ ⟨w.heap.size,0,none⟩ (by simp;omega)];simp)
 have st:=JE t ⟨w.heap.size+1+1+1,0,none⟩ e G ((((w.alloc (.cells #[.pointer (some t)] 63)).alloc (.cells #[.pointer (some ⟨8,63,none⟩),.pointer (some ⟨w.heap.size,0,none⟩),.int .u64 150] 98)).alloc (.cells #[.pointer (some ⟨8,63,none⟩),.pointer (some ⟨w.heap.size,0,none⟩),.int .u64 150] 98)).alloc (.cells #[.pointer (some e)] 61))
  (by rw[World.cell?_alloc_at _ _ _ _ (by simp)];rfl)
  (by rw[LS _ _ t (by simp;omega),LS _ _ t (by simp;omega),LS _ _ t (by simp;omega),LS _ _ t F];exact u)
  (by rw[MC _ _ t (by simp;omega),MC _ _ t (by simp;omega),MC _ _ t (by simp;omega),MC _ _ t (Nat.ne_of_lt F)];exact I)
 unfold cz at n8 el st
 go_enter func18,ntmps18
 go_wp2
 refine wp_loop_rounds 1 ?_;rw[rounds_succ]
 go_wp2
 go_ret
 exact⟨rfl,_,(((((gt _ _).alloc (ge _) _).alloc (by simp) _).alloc (by simp;omega) _).alloc (by simp;omega) _),rfl⟩
theorem F9 (v:Value) (u:TypeId) (w:World):(Instr.typeAssert (.iface 61 v) u 168 true).run Tryz.prog w=.ok (.tuple #[.nilIface,.bool false]) w:=run_typeAssert_lacksB underlying168 (by kernel_rfl) (by kernel_rfl) v u w
theorem CX (v:Value) (u:TypeId) (w:World):(Instr.typeAssert (.iface 61 v) u 164 true).run Tryz.prog w=.ok (.tuple #[.iface 61 v,.bool true]) w:=run_typeAssert_hasB underlying164 (by kernel_rfl) v u w
theorem wC (v:Value) (w:World):(Go.method 469 61 v "Unwrap").run Tryz.prog w=.ok (329,v) w:=by kernel_rfl
theorem Iy (w:World):((Extern.ReflectliteType.method fun t=>do Extern.Rtype.noPackHeld "Comparable" t;(fun a=>Value.bool a.comparable) <$> typeInfo t) #[.agg #[cz 31]]).run Tryz.prog w=.ok (.bool true) w:=by kernel_rfl
theorem Ix (a b:Int) (w:World):(binOp .eql 25 (.iface 31 (.int .i64 a)) (.iface 31 (.int .i64 b))).run Tryz.prog w=.ok (.bool (a==b)) w:=by kernel_rfl
theorem Iw (p:Addr) (b:Int) (w:World):(binOp .eql 25 (.iface 61 (.pointer (some p))) (.iface 31 (.int .i64 b))).run Tryz.prog w=.ok (.bool false) w:=by kernel_rfl
theorem G0 (g:Nat) (c x y z:Int) (w:World) (F:w.heap[g]?=some (.cells #[.int .i64 c,.int .i64 x,.int .i64 y,.int .i64 z] 35 (0,0))):Kb 19 #[.iface 61 (.pointer (some ⟨g,0,none⟩)),.iface 31 (.int .i64 c)] w fun e w'=>e=.returned (.bool true)/\w'=w:=by
 have H:=@run_callFunc_extern Tryz.prog 48 _ ReflectliteType.typeOf func48 (by kernel_rfl) (by kernel_rfl) (by kernel_rfl) (by kernel_rfl);have I:=@run_callFunc_extern Tryz.prog 335 _ (Extern.ReflectliteType.method fun t=>do Extern.Rtype.noPackHeld "Comparable" t;pure (.bool (<-typeInfo t).comparable)) func335 (by kernel_rfl) (by kernel_rfl) (by kernel_rfl) (by kernel_rfl);have c0:w.cell? ⟨g,0,none⟩=some (.int .i64 c):=aa F rfl;have tO:=za;have O:=pK;have J:=Iy;have nI:=F9;have M:=CX;have mU:=wC;have u:=Ix c c w;have G:=Iw ⟨g,0,none⟩ c w;rw[beq_self_eq_true]at u;unfold cz at *
 go_enter func19,ntmps19
 go_wp2
 refine wp_loop_rounds 2 ?_;rw[rounds_succ]
 go_wp2
 rw[rounds_succ]
 go_wp2
 go_ret
 exact⟨rfl,rfl⟩
open Go.RowKit
open Lw (Dc rt ud S9 CE)
abbrev nA (c x y z:Int):Obj:=.cells #[.int .i64 c,.int .i64 x,.int .i64 y,.int .i64 z] 35
abbrev BA (g:Nat):Value:=.iface 61 (.pointer (some ⟨g,0,none⟩))
abbrev JN (p:Option Addr):Obj:=.cells #[.pointer p] 61
theorem rV {W:World}{j:Nat}{o:Obj}(h:W.heap[g]?=some o) (u:g≠b) (v:Value):(W.setCell ⟨b,j,none⟩ v).heap[g]?=some o:=(Kp.set W b j v).blk h u
theorem lJ {c x y u:Int}(h:w.heap[g]?=some (nA c x y u)):w.cell? ⟨g,0,none⟩=some (.int .i64 c)/\w.cell? ⟨g,1,none⟩=some (.int .i64 x)/\w.cell? ⟨g,2,none⟩=some (.int .i64 y)/\w.cell? ⟨g,3,none⟩=some (.int .i64 u):=
 ⟨aa h rfl,aa h rfl,aa h rfl,aa h rfl⟩
theorem rF {v:World}(h:Below b w v):∀m,Below b w (v.drewN m)
 |0=>h
 |m+1=>(rF h m).drew
theorem AT (g:Nat) (W:World) (hE:FA W) (hg:W.heap[g]?=some (nA 3 0 0 0)):Kb 7 #[BA g,.agg #[.int .i64 3,.int .i64 0,.int .i64 0,.int .i64 0]] W fun r w'=>r=.returned (.bool true)/\Below W.heap.size W w':=by
 obtain⟨W0,J⟩:∃W0,W.alloc (nA 3 0 0 0)=W0:=⟨_,rfl⟩;obtain⟨F,hg0⟩:∃F,W.heap.size=F:=⟨_,rfl⟩;have M:Below W.heap.size W W0:=by rw[<-J];exact(gt _ _).alloc (ge _) _
 have k0:W0.heap[F]?=some (nA 3 0 0 0):=by rw[<-J,<-hg0];exact am _ _
 have z0:W0.heap.size=F+1:=by rw[<-J,Eq,hg0]
 obtain⟨G,e1⟩:∃G,W0.alloc (JN none)=G:=⟨_,rfl⟩;have O:Below W0.heap.size W0 G:=by rw[<-e1];exact(gt _ _).alloc (ge _) _
 have k1:G.heap[F+1]?=some (JN none):=by rw[<-e1,<-z0];exact am _ _
 have ae:g<F:=by rw[<-hg0];exact ai hg
 have I:Hid (Below W.heap.size W G/\G.heap[g]?=some (nA 3 0 0 0)/\G.heap[F]?=some (nA 3 0 0 0)/\G.heap[F+1]?=some (JN none)):=⟨M.trans (O.mono M.size),af (af hg M) O,af k0 O,k1⟩;have ac:Hid (Kb 18 #[BA g,.iface 63 (.pointer (some ⟨F+1,0,none⟩))] G fun ev w'=>ev=.returned (.bool true)/\∃w1,Below G.heap.size G w1/\w'=w1.setCell ⟨F+1,0,none⟩ (.pointer (some ⟨g,0,none⟩))):=Ia _ _ (.pointer none) _ ((hE.below M).below O) (aa k1 rfl) (aj k1);obtain⟨c0,c1,c2,c3⟩:=lJ k0;clear hE hg M O k0 k1
 go_enter func7,ntmps7
 go_wp2_with fail
 try rw[J]
 try rw[hg0]
 clear J
 go_wp2_with fail
 try rw[z0]
 try rw[e1]
 clear e1 z0 c0 c1 c2 c3;refine ac.out.mono ?_;rintro e w5⟨rfl,w6,u,H⟩;have y1:w5.heap[g]?=some (nA 3 0 0 0):=by rw[H];exact rV (af I.out.2.1 u) (by omega) _
 have y2:w5.heap[F]?=some (nA 3 0 0 0):=by rw[H];exact rV (af I.out.2.2.1 u) (by omega) _
 have y3:w5.cell? ⟨F+1,0,none⟩=some (.pointer (some ⟨g,0,none⟩)):=by rw[H];exact aa (ab (af I.out.2.2.2 u) 0 _) (by simp)
 have H5:Hid (Below W.heap.size W w5):=by
  rw[H];exact cy (I.out.1.trans (u.mono I.out.1.size)) (Kp.set _ _ _ _) (fun k e=>by subst e;omega) (Kh I.out.1.size u.size)
 obtain⟨c0,c1,c2,c3⟩:=lJ y1;obtain⟨d0,d1,d2,d3⟩:=lJ y2;have ad:=ku fun V (h:V.heap[g]?=some (nA 3 0 0 0))=>G0 g 3 0 0 0 V h
 have HY:=ku y1;clear H u y1 y2 ac
 go_wp2_with fail
 go_quiet ((go_at_call 19;exact Calls.quiet_of_same (ad.out _ HY.out)))
 go_wp2_with fail
 go_ret
 exact⟨rfl,rF H5.out _⟩
theorem GS (W:World):((W.alloc (.cells #[.int .i64 0,.int .i64 0,.int .i64 0] 33)).alloc (nA 3 0 0 0)).heap[W.heap.size+1]?=some (nA 3 0 0 0):=by
 have:=am (W.alloc (.cells #[.int .i64 0,.int .i64 0,.int .i64 0] 33)) (nA 3 0 0 0);rw[Eq]at this;exact this
theorem EB (W:World):Kb 21 #[.int .i64 3,.agg #[.int .i64 0,.int .i64 0,.int .i64 0]] W fun e w'=>∃g,e=.returned (BA g)/\w'.heap[g]?=some (nA 3 0 0 0)/\Below W.heap.size W w':=by
 go_enter func21,ntmps21
 go_wp2_with fail
 go_ret
 exact⟨_,rfl,GS W,((gt _ _).alloc (ge _) _).alloc (by rw[Eq];omega) _⟩
theorem rE (W:World):Kb 9 #[.pointer none] W fun e w'=>∃g,e=.returned (BA g)/\w'.heap[g]?=some (nA 3 0 0 0)/\Kc W w':=by
 have u:=aK (EB W)
 go_enter func9,ntmps9
 go_wp2_with(first|(go_at_call 21;refine u.out.mono ?_;rintro e H⟨g,rfl,F,G⟩))
 go_ret
 exact⟨g,rfl,F,G⟩
theorem yD (s:ByteArray) (W:World):Kb 5 #[.pointer none,.string s] W fun e w'=>∃g,e=.returned (.tuple #[.string ⟨#[]⟩,BA g])/\w'.heap[g]?=some (nA 3 0 0 0)/\Kc W w':=by
 have u:=aK (rE W)
 go_enter func5,ntmps5
 go_wp2_with(first|(go_at_call 9;refine u.out.mono ?_;rintro e H⟨g,rfl,F,G⟩))
 go_ret2
 exact⟨g,rfl,F,G⟩
theorem BX (W:World):Kb 6 #[.pointer none] W fun e w'=>∃g,e=.returned (.tuple #[.string ⟨#[]⟩,.bool false,BA g])/\w'.heap[g]?=some (nA 3 0 0 0)/\Kc W w':=by
 have u:=aK (rE W)
 go_enter func6,ntmps6
 go_wp2_with(first|(go_at_call 9;refine u.out.mono ?_;rintro e H⟨g,rfl,F,G⟩))
 refine Kv (v:=.tuple #[.string ⟨#[]⟩,.bool false,BA g]) (by simp[results,Tryz.f6,go_sem]) rfl ?_;exact⟨g,rfl,F,G⟩
theorem BT {R:(Nat->Prop)->World->Nat->Nat->S9->Prop}(hC:fh R) (s:ByteArray) (W:World) (hk:Lx.fg W) (ht:Lw.ib W) (hE:FA W):Kb 3 #[.string s] W fun r w'=>r=.returned (.bool true)/\Kc W w':=by
 have aa:=aK (ub hC W hk ht);have HF:=ku (yD s);have ab:=ku BX;have G:=ku fun V g (hb:Kc W V) (h:V.heap[g]?=some (nA 3 0 0 0))=>AT g V (hE.below hb) h
 clear hk ht hE
 go_enter func3,ntmps3
 go_wp2_with(first
  | (go_at_call 4;refine aa.out.mono ?_;rintro e w1⟨rfl,H⟩;have B1:=aK H;clear H)
  | (go_at_call 5;refine(HF.out _).mono ?_;rintro e w2⟨g2,rfl,x2,I⟩;have B2:=aK (B1.out.trans (I.mono B1.out.size));have X2:=aK x2;clear x2 I)
  | (go_at_call 6;refine(ab.out _).mono ?_;rintro e w3⟨g3,rfl,x3,u⟩;have M:=aK (B2.out.trans (u.mono B2.out.size));have X3:=aK x3;have Y3:=aK (af X2.out u);clear x3 u)
  | (go_at_call 7;refine(G.out _ _ M.out Y3.out).mono ?_;rintro e w4⟨rfl,F⟩;have O:=aK (M.out.trans (F.mono M.out.size));have X4:=aK (af X3.out F);clear F Y3)
  | (go_at_call 7;refine(G.out _ _ O.out X4.out).mono ?_;rintro e w5⟨rfl,J⟩;have B5:=aK (O.out.trans (J.mono O.out.size));clear J))
 go_ret
 exact⟨rfl,B5.out⟩
open Lx
set_option maxHeartbeats 4000000
