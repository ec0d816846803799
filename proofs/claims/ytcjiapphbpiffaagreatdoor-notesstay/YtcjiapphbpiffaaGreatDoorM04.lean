import Derived.Deep.RegionWith
import Derived.Deep.RegionHeld3
import Derived.WalkMore
import Derived.ScopeJumps
import Derived.Test.YtcjiapphbpiffaaGreatDoorM03
set_option linter.unusedVariables false
set_option linter.unusedSimpArgs false
set_option maxHeartbeats 2000000
set_option maxRecDepth 100000
namespace Go.Proofs.YtcjiapphbpiffaaGreatDoor.Lx
open Go.RowKit Go.Shelf
variable {W W':World}{B:Nat}{a l c:Int}{row:Option Nat}
attribute [local go_sem] Oper.semAt_some
def Ri (a l c:Int):Value:=.agg #[.int .i64 a,.int .i64 l,.int .i64 c]
def bY (W:World) (B:Nat) (a l c:Int):Prop:=W.heap[B]?=some (.cells #[.int .i64 a,.int .i64 l,.int .i64 c] 47 (0,0))
theorem bY.lt (h:bY W B a l c):B<W.heap.size:=(Uh.1 h).1
theorem bY.cell0 (h:bY W B a l c):W.cell? ⟨B,0,none⟩=some (.int .i64 a):=by simp [World.cell?,show W.heap[B]?=_ from h]
theorem bY.cell1 (h:bY W B a l c):W.cell? ⟨B,1,none⟩=some (.int .i64 l):=by simp [World.cell?,show W.heap[B]?=_ from h]
theorem bY.cell2 (h:bY W B a l c):W.cell? ⟨B,2,none⟩=some (.int .i64 c):=by simp [World.cell?,show W.heap[B]?=_ from h]
theorem bY.frozen (h:bY W B a l c) (k:Nat):W.frozen? ⟨B,k,none⟩=false:=by simp [World.frozen?,show W.heap[B]?=_ from h]
theorem bY.new (W:World) (a l c:Int):bY (W.alloc (.cells #[.int .i64 a,.int .i64 l,.int .i64 c] 47)) W.heap.size a l c:=World.alloc_heap_new W _
theorem bY.kept (h:bY W B a l c) (F:W.grownBy W' row) (C:some B≠row):bY W' B a l c:=(F.block B h.lt C).trans h
theorem bY.alloc {W:World}{B:Nat}{a l c:Int}(h:bY W B a l c) (o:Obj):bY (W.alloc o) B a l c:=h.kept (World.grownBy_alloc W o none) (by simp)
theorem bY.below (h:bY W B a l c) (C:Below W.heap.size W W'):bY W' B a l c:=(C.block B h.lt).trans h
theorem bY.drew {W:World}{B:Nat}{a l c:Int}(h:bY W B a l c):bY W.drew B a l c:=h
theorem bY.set0 (h:bY W B a l c) (v:Int):bY (W.setCell ⟨B,0,none⟩ (.int .i64 v)) B v l c:=by
 obtain ⟨C,F⟩:=Uh.1 h;show (W.heap.modify B _)[B]?=_;rw [Uk (by rw [Uv];exact C),UY,F];rfl
theorem bY.set1 (h:bY W B a l c) (v:Int):bY (W.setCell ⟨B,1,none⟩ (.int .i64 v)) B a v c:=by
 obtain ⟨C,F⟩:=Uh.1 h;show (W.heap.modify B _)[B]?=_;rw [Uk (by rw [Uv];exact C),UY,F];rfl
theorem bY.set2 (h:bY W B a l c) (v:Int):bY (W.setCell ⟨B,2,none⟩ (.int .i64 v)) B a l v:=by
 obtain ⟨C,F⟩:=Uh.1 h;show (W.heap.modify B _)[B]?=_;rw [Uk (by rw [Uv];exact C),UY,F];rfl
theorem jA (W:World) (p:Addr) (v:Value):W.grownBy (W.setCell p v) (some p.block):=
 ⟨rfl,rfl,rfl,(KeepsWalks.setCell W _ v).size,fun k _ C=>VD _ _ _ k (fun e=>C (by rw [e]))⟩
theorem mq (h:bY W B a l c) (G:W.grownBy W' row) (H:∀r,row=some r->∃o:Obj,W.heap[r]?=some o/\o.isCells=false):bY W' B a l c:=
 h.kept G (fun e=>by
  obtain ⟨o,C,F⟩:=H B e.symm;rw [show W.heap[B]?=_ from h] at C;cases C;cases F)
theorem Ht {W:World}{B:Nat}{a l c:Int}(h:bY W B a l c) {D:Nat}{o o':Obj}(C:W.heap[D]?=some o) (F:o.isCells=false):bY (W.putObj D o') B a l c:=
 mq h (grownBy_putObj' W D o') (fun r e=>by cases e;exact ⟨o,C,F⟩)
theorem G6 (s:ByteArray) (w:World) (C:s.size<=maxLen) :
  Ta 121 #[.string s] w fun e w'=>e=.returned (.int .i64 (P s).length)/\Below w.heap.size w w':=
 (Du s w C).mono (fun e w' h=>⟨h.1,by obtain ⟨p,rfl⟩:=h.2;exact eC _ _ _⟩)
def iO (q:Int × Int) (x:Ln):Int × Int:=if 1<x.1.1 then (wrap64 (q.1+1),wrap64 (1+(P x.1.2).length)) else (q.1,wrap64 (q.2+(P x.1.2).length))
def jV (l c:Int) (xs:List Ln):Int × Int:=xs.foldl iO (l,c)
theorem pJ (l c:Int) (xs:List Ln) (x:Ln):jV l c (xs++[x])=iO (jV l c xs) x:=by unfold jV;rw [List.foldl_append];rfl
theorem AR (s:ByteArray) (l c:Int):∀(k:Nat) (xs:List Ln),xs.map (·.1)=na s k->0<k->jV l c xs=(wrap64 (l+(k-1:Nat)),wrap64 ((if k=1 then c else 1)+(P (ln s (k-1))).length))\/(k=1/\jV l c xs=(l,wrap64 (c+(P (ln s 0)).length)))
 |0,_,_,h=>by omega
 |k+1,xs,hx,_=>by
  rw [lF] at hx
  obtain ⟨C,y,rfl,F,G⟩:∃C y,xs=C++[y]/\C.map (·.1)=na s k/\y.1=(((k+1:Nat):Int),ln s k):=by
   rcases List.eq_nil_or_concat xs with rfl|⟨C,y,rfl⟩
   ·simp at hx
   ·rw [List.concat_eq_append,UB] at hx;have:=Vs hx (by simp);exact ⟨C,y,by rw [List.concat_eq_append],this.1,by simpa using this.2⟩
  rw [pJ];unfold iO;rw [G]
  by_cases H:k=0
  ·subst H
   right
   obtain rfl:C=[]:=by simpa [na] using F
   rw [Eq (by simp)];exact ⟨rfl,rfl⟩
  ·left
   rw [IO (by show (1:Int)<((k+1:Nat):Int);omega),Eq (by omega)];show (_,_)=(_,_)
   congr 1
   rcases AR s l c k C F (by omega) with e|⟨rfl,e⟩
   ·rw [e];show wrap64 (wrap64 (l+((k-1:Nat):Int))+1)=_;rw [oC];congr 1;omega
   ·rw [e];rfl
theorem IY (x:Int) (h:-9223372036854775808<=x/\x<=9223372036854775807):wrap64 x=x:=by unfold wrap64;omega
theorem Ob (s:ByteArray) (l c:Int) (H:-9223372036854775808<=l/\l<=9223372036854775807) (xs:List Ln) (I:xs.map (·.1)=na s (LN s)):jV l c xs=(fG l s,jO c s):=by
 have C:=KG s;unfold fG jO
 rcases AR s l c (LN s) xs I (by unfold LN;omega) with e|⟨G,e⟩
 ·rw [e];unfold LN;rw [show cn s s.size+1-1=cn s s.size by omega,C]
  by_cases F:cn s s.size=0
  ·rw [IO (by omega),IO F]
  ·rw [Eq (by omega),Eq F]
 ·have F:cn s s.size=0:=by unfold LN at G;omega
  rw [F] at C;rw [e,F,IO rfl,C]
  congr 1
  rw [IY _ (by simp;exact H)];simp
theorem L6 (U G c0:Int) (s:ByteArray) (w:World) (Y:s.size<=2147483647) (ae:-9223372036854775808<=G/\G<=9223372036854775807) :
  Ta 74 #[.agg #[.int .i64 U,.int .i64 G,.int .i64 c0],.string s] w fun e w'=>e=.returned (Ri (MS U s) (fG G s) (jO c0 s))/\Below w.heap.size w w':=by
 refine (TW (n:=9)).1 ?_;refine callsIn_of_wp_marks Tryz.func74 rfl trivial ?_ rfl;simp only [Tryz.ntmps74,Ux,List.length_cons,List.length_nil,Nat.reduceAdd,Nat.reduceSub,Ur,Us,UI,Uy,TB,Tr]
 gi_wp2
 refine ⟨trivial,?_⟩;refine (TW.2 (CJ _ _)).mono ?_;rintro e w1 ⟨rfl,rfl⟩
 gi_wp2
 obtain ⟨I,S⟩:∃I,wrap64 (U+(s.size:Int))=I:=⟨_,rfl⟩;rw [S];have HA:Hid (MS U s=I):=S;clear S;obtain ⟨M,hW0⟩:∃M,(((w.alloc (Obj.cells #[Value.int IntKind.i64 I,Value.int IntKind.i64 G,Value.int IntKind.i64 c0] 47)).alloc (Obj.cells #[Value.int IntKind.i64 0,Value.int IntKind.i64 0,Value.int IntKind.i64 0] 47)).alloc (Obj.cells #[Value.string s] 9))=M:=⟨_,rfl⟩;have hsz:M.heap.size=w.heap.size+1+1+1:=by rw [<-hW0];simp
 have b0:bY M w.heap.size I G c0:=by rw [<-hW0];exact ((bY.new w _ _ _).alloc _).alloc _
 have b1:bY M (w.heap.size+1) 0 0 0:=by rw [<-hW0];have:=(bY.new (w.alloc (Obj.cells #[Value.int IntKind.i64 I,Value.int IntKind.i64 G,Value.int IntKind.i64 c0] 47)) 0 0 0).alloc (Obj.cells #[Value.string s] 9);rw [SX] at this;exact this
 have b2:Boxed M (w.heap.size+1+1) 9 (.string s):=by rw [<-hW0];have:=Boxed.new ((w.alloc (Obj.cells #[Value.int IntKind.i64 I,Value.int IntKind.i64 G,Value.int IntKind.i64 c0] 47)).alloc (Obj.cells #[Value.int IntKind.i64 0,Value.int IntKind.i64 0,Value.int IntKind.i64 0] 47)) 9 (.string s);rw [SX,SX] at this;exact this
 have ac:Below w.heap.size w M:=by rw [<-hW0];exact (((hH _ w).alloc (gt _) _).alloc (by simp) _).alloc (by simp;omega) _
 rw [hW0];clear hW0;have af:Tryz.prog.follows .mixedOrders=true:=by kernel_rfl
 refine wpIn_rangeFunc_ownF rfl (by omega) (gf:=161) (lb:=#[.pointer (some ⟨w.heap.size+1+1,0,none⟩)]) rfl trivial (enters_of Tryz.func161 (by kernel_rfl) rfl)
  (wn 8 (by omega) (w.heap.size+1+1) s Y M (by omega) b2.cell) (fun _ _=>trivial) (fun _ _ _ _ _ _ _ _=>trivial) (hH _ _) (fun _=>rfl)
  (fun pre W=>(bY W w.heap.size I (jV G c0 pre).1 (jV G c0 pre).2/\bY W (w.heap.size+1) 0 0 0)/\Below w.heap.size w W)
  (fun _ _ _=>False)
  (OwnFrom.and (Own.from (fun s A B row Y hg hr=>⟨mq Y.1 hg hr,mq Y.2 hg hr⟩) _) (ownFrom_below (gt _) (by omega)))
  (fun _ _ _ _ _ Y _ _=>Y)
  ⟨⟨b0,b1⟩,ac⟩
  (fun x=>{ tmps:=#[.agg #[.int .i64 U,.int .i64 G,.int .i64 c0],.string s,.pointer (some ⟨w.heap.size,0,none⟩),undef,.pointer (some ⟨w.heap.size+1,0,none⟩),.int .i64 x.1.1,.string x.1.2,.pointer (some ⟨w.heap.size,0,none⟩),.int .i64 U,.string s,.int .i64 s.size,.int .i64 I,.pointer (some ⟨w.heap.size,0,none⟩),.string s,.func (.func 161) #[] #[.pointer (some ⟨w.heap.size+1+1,0,none⟩)],.int .i64 x.1.1,.string x.1.2,undef,undef,undef,undef,undef,undef,undef,undef,undef,undef,undef,undef,undef,undef],defers:=[] }) ?assign ?body ?done ?stop
 case assign=>
  intro l x W K hK
  gi_wp2
  exact hK
 case body=>
  rintro l pre x W ⟨⟨k0,J⟩,hB⟩ _;obtain ⟨q,hq⟩:∃q,jV G c0 pre=q:=⟨_,rfl⟩;have HQ:Hid (jV G c0 (pre++[x])=iO q x):=by show _=_;rw [pJ,hq]
  rw [hq] at k0;clear hq;have g1:=k0.cell1;have g2:=k0.cell2;have f1:=k0.frozen 1;have f2:=k0.frozen 2;have H:∀w,Ta 121 #[.string x.1.2] w fun e w'=>e=.returned (.int .i64 (P x.1.2).length)/\Below w.heap.size w w':=fun w=>G6 _ w x.2
  by_cases hx:1<x.1.1
  ·have HX:Hid (iO q x=(wrap64 (q.1+1),wrap64 (1+(P x.1.2).length))):=by show _=_;unfold iO;rw [IO hx]
   gi_wp2
   have Z:=(k0.set1 (wrap64 (q.1+1))).set2 1;have r1:=(J.kept (jA W ⟨w.heap.size,1,none⟩ (.int .i64 (wrap64 (q.1+1)))) (by simp)).kept (jA _ ⟨w.heap.size,2,none⟩ (.int .i64 1)) (by simp);have ab:=(KeepsOthers.setCell W ⟨w.heap.size,1,none⟩ (.int .i64 (wrap64 (q.1+1)))).trans (KeepsOthers.setCell _ ⟨w.heap.size,2,none⟩ (.int .i64 1));have O:=(hB.setCell (p:=⟨w.heap.size,1,none⟩) (gt _) (.int .i64 (wrap64 (q.1+1)))).setCell (p:=⟨w.heap.size,2,none⟩) (gt _) (.int .i64 1);obtain ⟨Wm,aa⟩:∃Wm,(W.setCell ⟨w.heap.size,1,none⟩ (.int .i64 (wrap64 (q.1+1)))).setCell ⟨w.heap.size,2,none⟩ (.int .i64 1)=Wm:=⟨_,rfl⟩;rw [aa] at Z r1 ab O ⊢;clear aa g1 g2 f1 f2;have g2:=Z.cell2;have f2:=Z.frozen 2
   gi_region_with_o (refine ⟨trivial,?_⟩;gi_at_call 121;refine (CallsIn.inRound l (TW.2 (H _))).mono ?_;rintro e w1 ⟨rfl,F⟩;have g3:=(Z.drew.below F).cell2;have f3:=(Z.drew.below F).frozen 2)
   all_goals gi_wp2
   all_goals (try go_bits)
   all_goals exact ⟨((ab.trans (KeepsOthers.drew _)).trans (iT F)).trans (KeepsOthers.setCell _ _ _),trivial,⟨by rw [HQ.out,HX.out];exact (Z.drew.below F).set2 _,(bY.drew r1 |>.below F).kept (jA _ _ _) (by simp)⟩,(O.drew.trans (F.mono O.size)).setCell (p:=⟨w.heap.size,2,none⟩) (gt _) _⟩
  ·have HX:Hid (iO q x=(q.1,wrap64 (q.2+(P x.1.2).length))):=by show _=_;unfold iO;rw [Eq hx]
   gi_wp2
   gi_region_with_o (refine ⟨trivial,?_⟩;gi_at_call 121;refine (CallsIn.inRound l (TW.2 (H _))).mono ?_;rintro e w1 ⟨rfl,F⟩;have g3:=(k0.drew.below F).cell2;have f3:=(k0.drew.below F).frozen 2)
   all_goals gi_wp2
   all_goals (try go_bits)
   all_goals exact ⟨((KeepsOthers.drew _).trans (iT F)).trans (KeepsOthers.setCell _ _ _),trivial,⟨by rw [HQ.out,HX.out];exact (k0.drew.below F).set2 _,(J.drew.below F).kept (jA _ _ _) (by simp)⟩,(hB.drew.trans (F.mono hB.size)).setCell (p:=⟨w.heap.size,2,none⟩) (gt _) _⟩
 case done=>
  rintro D ys W hD hS ⟨⟨k0,J⟩,hB⟩ hK;rw [Ob s G c0 ae ys hS] at k0;obtain ⟨L,hL⟩:∃L,fG G s=L:=⟨_,rfl⟩;obtain ⟨C,hC⟩:∃C,jO c0 s=C:=⟨_,rfl⟩;rw [hL,hC] at k0;have HL:Hid (fG G s=L):=hL;have HC:Hid (jO c0 s=C):=hC;clear hL hC;have g0:=k0.cell0;have g1:=k0.cell1;have g2:=k0.cell2;have e0:=J.cell0;have e1:=J.cell1;have e2:=J.cell2;have f0:=J.frozen 0;have f1:=J.frozen 1;have f2:=J.frozen 2
  gi_wp2
  have Q:=(((KeepsOthers.setCell W ⟨w.heap.size+1,0,none⟩ (.int .i64 I)).trans (KeepsOthers.setCell _ ⟨w.heap.size+1,1,none⟩ (.int .i64 L))).trans (KeepsOthers.setCell _ ⟨w.heap.size+1,2,none⟩ (.int .i64 C))).same D _ hK rfl;have j1:=((J.set0 I).set1 L).set2 C;have ad:=((hB.setCell (p:=⟨w.heap.size+1,0,none⟩) (by simp) (.int .i64 I)).setCell (p:=⟨w.heap.size+1,1,none⟩) (by simp) (.int .i64 L)).setCell (p:=⟨w.heap.size+1,2,none⟩) (by simp) (.int .i64 C);have m:=Ht (o':=.deferred none) j1 Q rfl;have m0:=m.cell0;have m1:=m.cell1;have m2:=m.cell2;refine ⟨by simp,.inl ⟨_,_,rfl,run_takeDeferred Q,?_⟩⟩;refine ⟨.agg #[.int .i64 I,.int .i64 L,.int .i64 C],?_,by rw [HA.out,HL.out,HC.out];rfl,ad.trans (belowK_b (w:=w) (gt _) _ D _ _ (by omega) Q rfl rfl)⟩;simp [results,Tryz.f74,go_sem,m0,m1,m2]
 case stop=>
  rintro D c pre W _ _ h _;exact h.elim
theorem ra (w:World) :
  Ta 28 #[] w fun e w'=>e=.returned (.agg #[.int .i64 0,.int .i64 1,.int .i64 1])/\Below w.heap.size w w':=by
 go_enter Tryz.func28,Tryz.ntmps28
 go_wp2
 have C:=bY.new w 0 1 1;have F:=C.cell0;have G:=C.cell1;have H:=C.cell2;refine Ti (v:=.agg #[.int .i64 0,.int .i64 1,.int .i64 1]) (by simp [results,Tryz.f28,go_sem,F,G,H]) rfl ?_;exact ⟨rfl,(hH _ _).alloc (gt _) _⟩
theorem BD (F C c0:Int) (s:ByteArray) (w:World) (H:s.size<=2147483647) (G:-9223372036854775808<=C/\C<=9223372036854775807) :
  Ta 74 #[.agg #[.int .i64 F,.int .i64 C,.int .i64 c0],.string s] w fun e w'=>e=.returned (.agg #[.int .i64 (MS F s),.int .i64 (fG C s),.int .i64 (jO c0 s)])/\Below w.heap.size w w':=
 L6 F C c0 s w H G
theorem P7 (s:ByteArray) (n:Nat) (w:World) (hs:s.size<=2147483647) (S:n<=s.size) :
  Ta 36 #[.string s,.int .i64 n] w fun e w'=>e=.returned (.tuple #[.agg #[.int .i64 (MS 0 (s.extract 0 n)),.int .i64 (fG 1 (s.extract 0 n)),.int .i64 (jO 1 (s.extract 0 n))],.int .i64 0])/\Below w.heap.size w w':=by
 have U:=av s 0 n S;have F:∀w,Ta 74 #[.agg #[.int .i64 0,.int .i64 1,.int .i64 1],.string (s.extract 0 n)] w fun e w'=>e=.returned (.agg #[.int .i64 (MS 0 (s.extract 0 n)),.int .i64 (fG 1 (s.extract 0 n)),.int .i64 (jO 1 (s.extract 0 n))])/\Below w.heap.size w w':=fun w=>BD 0 1 1 _ w (by omega) (by omega)
 obtain ⟨a,O⟩:∃a,MS 0 (s.extract 0 n)=a:=⟨_,rfl⟩;obtain ⟨l,hl⟩:∃a,fG 1 (s.extract 0 n)=a:=⟨_,rfl⟩;obtain ⟨c,hc⟩:∃a,jO 1 (s.extract 0 n)=a:=⟨_,rfl⟩;simp only [O,hl,hc] at F ⊢;clear O hl hc U;have h1:¬((n:Int)<0):=by omega
 have h2:¬((s.size:Int)<(n:Int)):=by omega
 have J:=bY.new w 0 0 0
 go_enter Tryz.func36,Tryz.ntmps36
 go_wp2
 go_region_with (first|(go_at_call 28;refine (ra _).mono ?_;rintro e w1 ⟨rfl,G⟩;have M:=J.drew.below G)|(go_at_call 74;refine (F _).mono ?_;rintro e w2 ⟨rfl,hb2⟩;have C:=M.below hb2;have g0:=C.cell0;have g1:=C.cell1;have g2:=C.cell2;have f0:=C.frozen 0;have f1:=C.frozen 1;have f2:=C.frozen 2))
 all_goals go_wp2
 all_goals
  have H:=((C.set0 a).set1 l).set2 c;have Y:=H.cell0;have Z:=H.cell1;have m2:=H.cell2;refine Ti (v:=.tuple #[.agg #[.int .i64 a,.int .i64 l,.int .i64 c],.int .i64 0]) (by simp [results,Tryz.f36,go_sem,Y,Z,m2]) rfl ?_;refine ⟨rfl,?_⟩;have I:Below w.heap.size w (w.alloc (Obj.cells #[.int .i64 0,.int .i64 0,.int .i64 0] 47)):=(hH _ _).alloc (gt _) _;have Q:=(I.drew.trans (G.mono I.size)).trans (hb2.mono (SY I.size G.size));exact ((Q.setCell (p:=⟨w.heap.size,0,none⟩) (gt _) _).setCell (p:=⟨w.heap.size,1,none⟩) (gt _) _).setCell (p:=⟨w.heap.size,2,none⟩) (gt _) _
end Go.Proofs.YtcjiapphbpiffaaGreatDoor.Lx
namespace Go.Proofs.YtcjiapphbpiffaaGreatDoor.Lx
open Go.RowKit
variable {s:ByteArray}{a g b f:Nat}{W w0:World}{p n:Int}{l:List Tv}{v:Value}
def bk (s:ByteArray) (a:Nat):Int:=if a<s.size then (dp s a:Int) else -1
def fw (s:ByteArray) (a:Nat):Nat:=if a<s.size then dw s a else 0
theorem gO (h:a<s.size):bk s a=dp s a:=by unfold bk;rw [IO h]
theorem kH (h:s.size<=a):bk s a=-1:=by unfold bk;rw [Eq (by omega)]
theorem cr (h:a<s.size):fw s a=dw s a:=by unfold fw;rw [IO h]
theorem gE (h:s.size<=a):fw s a=0:=by unfold fw;rw [Eq (by omega)]
theorem EO (s:ByteArray) (a:Nat) (h:a<=s.size):a+fw s a<=s.size:=by
 by_cases e:a<s.size
 ·rw [cr e];exact (aW s a e).2.2
 ·rw [gE (by omega)];exact h
theorem Aa (s:ByteArray) (a:Nat):-1<=bk s a/\bk s a<=1114111:=by
 unfold bk;have:=xa s a
 split <;> omega
def RB (W:World) (g:Nat) (s:ByteArray) (a:Nat) (p n:Int) (b:Nat) (f:Nat) (v:Value):Prop:=
 W.heap[g]?=some (.cells #[.string s,.int .i64 a,.int .i32 p,.int .i64 n,.int .i64 b,.int .i64 (pL s b),.int .i64 (pC s b),.int .i64 f,v] 93 (0,0))
structure Rq (w0 W:World) (g:Nat) (s:ByteArray) (a:Nat) (p n:Int) (b f:Nat) (l:List Tv):Prop where
 bel:Below w0.heap.size w0 W
 g0:w0.heap.size<=g
 blk:∃v,RB W g s a p n b f v/\Rt w0.heap.size W v l
def Rs (w0 W:World) (g:Nat) (s:ByteArray) (a b f:Nat) (l:List Tv):Prop:=Rq w0 W g s a (bk s a) (fw s a) b f l
theorem Rq.below {W':World}(h:Rq w0 W g s a p n b f l) (C:Below W.heap.size W W'):Rq w0 W' g s a p n b f l:=by
 obtain ⟨F,G,v,H,I⟩:=h;exact ⟨F.trans (C.mono F.size),G,v,ag H C,I.below C⟩
theorem Rq.set (H:Below w0.heap.size w0 W) (I:w0.heap.size<=g) (F:RB W g s a p n b f v) (G:Rt w0.heap.size W v l) (k:Nat) (u:Value)
  {s':ByteArray} {a':Nat} {p' n':Int} {C f':Nat} {v':Value} (J:#[.string s,.int .i64 a,.int .i32 p,.int .i64 n,.int .i64 b,.int .i64 (pL s b),.int .i64 (pC s b),.int .i64 f,v].setIfInBounds k u=#[.string s',.int .i64 a',.int .i32 p',.int .i64 n',.int .i64 C,.int .i64 (pL s' C),.int .i64 (pC s' C),.int .i64 f',v']) (M:v'=v) :
  Below w0.heap.size w0 (W.setCell ⟨g,k,none⟩ u)/\RB (W.setCell ⟨g,k,none⟩ u) g s' a' p' n' C f' v'/\Rt w0.heap.size (W.setCell ⟨g,k,none⟩ u) v' l:=by
 refine ⟨H.setCell (p:=⟨g,k,none⟩) I u,?_,?_⟩
 ·have:=aj F k u;rw [J] at this;exact this
 ·rw [M];exact G.kp (Kp.set W g k u) (G.ne F (by decide))
theorem Rq.cells {W:World}{g:Nat}{s:ByteArray}{a:Nat}{p n:Int}{b f:Nat}{v:Value}(h:RB W g s a p n b f v) :
  W.cell? ⟨g,0,none⟩=some (.string s)/\W.cell? ⟨g,1,none⟩=some (.int .i64 a)/\W.cell? ⟨g,2,none⟩=some (.int .i32 p)/\W.cell? ⟨g,3,none⟩=some (.int .i64 n)/\W.cell? ⟨g,4,none⟩=some (.int .i64 b) /\
  W.cell? ⟨g,5,none⟩=some (.int .i64 (pL s b))/\W.cell? ⟨g,6,none⟩=some (.int .i64 (pC s b))/\W.cell? ⟨g,7,none⟩=some (.int .i64 f)/\W.cell? ⟨g,8,none⟩=some v:=
 ⟨af h rfl,af h rfl,af h rfl,af h rfl,af h rfl,af h rfl,af h rfl,af h rfl,af h rfl⟩
theorem RB.frozen (h:RB W g s a p n b f v) (k:Nat):W.frozen? ⟨g,k,none⟩=false:=am h
theorem QC (p q:Int):(false || decide (p=q))=(p == q):=by rw [Up];simp
theorem bT (p:Int) (w:World) :
  Ta 60 #[.int .i32 p] w fun e w'=>e=.returned (.bool (decide (48<=p) && decide (p<=57)))/\w'=w:=by
 by_cases h:48<=p
 ·have e:(decide (48<=p) && decide (p<=57))=decide (p<=57):=by rw [Tf h];rfl
  rw [e];clear e
  go_enter Tryz.func60,Tryz.ntmps60
  go_wp2_with fail
  go_ret
  exact ⟨rfl,rfl⟩
 ·have e:(decide (48<=p) && decide (p<=57))=false:=by rw [Tg h];rfl
  rw [e];clear e
  go_enter Tryz.func60,Tryz.ntmps60
  go_wp2_with fail
  go_ret
  exact ⟨rfl,rfl⟩
theorem fo (p:Int) (w:World) :
  Ta 110 #[.int .i32 p] w fun e w'=>e=.returned (.bool (decide (p<32) || decide (p=127)))/\w'=w:=by
 by_cases h:p<32
 ·have e:(decide (p<32) || decide (p=127))=true:=by rw [Tf h];rfl
  rw [e];clear e
  go_enter Tryz.func110,Tryz.ntmps110
  go_wp2_with fail
  go_ret
  exact ⟨rfl,rfl⟩
 ·have e:(decide (p<32) || decide (p=127))=(p == 127):=by rw [Tg h];exact QC _ _
  rw [e];clear e
  go_enter Tryz.func110,Tryz.ntmps110
  go_wp2_with fail
  go_ret
  exact ⟨rfl,rfl⟩
theorem dM (p:Int) (w:World) :
  Ta 109 #[.int .i32 p] w fun e w'=>e=.returned (.bool (decide (p=10) || decide (p=-1)))/\w'=w:=by
 by_cases h:p=10
 ·subst h
  go_enter Tryz.func109,Tryz.ntmps109
  go_wp2_with fail
  go_ret
  exact ⟨rfl,rfl⟩
 ·have e:(decide (p=10) || decide (p=-1))=(p == -1):=by rw [Tg h];exact QC _ _
  have C:(p == 10)=false:=by simpa using h
  rw [e];clear e h
  go_enter Tryz.func109,Tryz.ntmps109
  go_wp2_with fail
  go_ret
  exact ⟨rfl,rfl⟩
theorem wm (h:Rq w0 W g s a p n b f l) (hs:s.size<=2147483647) (ha:a<=s.size) :
  Ta 29 #[.pointer (some ⟨g,0,none⟩)] W fun e w'=>e=.returned (.tuple #[])/\Rs w0 w' g s a b f l:=by
 obtain ⟨Q,H,v,G,h4⟩:=h;obtain ⟨c0,c1,c2,c3,c4,c5,c6,c7,c8⟩:=Rq.cells G
 by_cases O:a<s.size
 ·have hd:=xa s a;obtain ⟨aa,ab,ac⟩:=aW s a O
  have HN:Hid (∀w,Ta 55 #[.string s,.int .i64 a] w fun e w'=>e=.returned (.tuple #[.int .i64 (dp s a),.int .i64 (dw s a),.bool (gd s a)])/\Tb w w'):=fun w=>by
   have:=AG s a w (by unfold maxLen;omega) (by omega) (by omega);rw [Vo] at this;exact this
  have HR:Hid (∀w',Tb W w'->Tb w0 w'/\RB w' g s a p n b f v/\Rt w0.heap.size w' v l):=fun w' J=>⟨Q.trans (J.mono Q.size),ag G J,h4.below J⟩
  have U:Hid (∀V,Tb W V->V.cell? ⟨g,0,none⟩=some (.string s)/\V.cell? ⟨g,1,none⟩=some (.int .i64 a)/\Tb W V):=fun V I=>⟨af (ag G I) rfl,af (ag G I) rfl,I⟩
  have e1:=gO O;have e2:=cr O;have S:Hid (bk s a=dp s a/\fw s a=dw s a):=⟨e1,e2⟩
  generalize dp s a=x at *
  generalize dw s a=y at *
  generalize gd s a=z at *
  clear e1 e2 Q G h4 c0 c1 c2 c3 c4 c5 c6 c7 c8
  go_enter Xj,W6
  go_wp2_with fail
  go_region_held3 (fun w'=>w'.cell? ⟨g,0,none⟩=some (.string s)/\w'.cell? ⟨g,1,none⟩=some (.int .i64 a)/\Below W.heap.size W w') (first|(exact U.out _ (by assumption))|(exact U.out _ (hH _ _).drew)|go_keep) (first|(go_at_call 55;refine (HN.out _).mono ?_;rintro e w1 ⟨rfl,F⟩;have M:=(by first|exact (hH W.heap.size W).drew.trans (F.mono (gt _))|exact (by assumption:Below W.heap.size W _).trans (F.mono (Vz (by assumption))):Below W.heap.size W w1)))
  all_goals (
   obtain ⟨Y,C,Z⟩:=HR.out _ M;have z2:=C.frozen 2;have z3:=C.frozen 3;obtain ⟨_,_,c2,c3,_⟩:=Rq.cells C;obtain ⟨m1,m3,m4⟩:=Rq.set Y H C Z 2 (.int .i32 x) (p':=x) rfl rfl;obtain ⟨n1,n3,n4⟩:=Rq.set m1 H m3 m4 3 (.int .i64 y) (n':=y) rfl rfl;have HF:Hid (Rs w0 ((w1.setCell ⟨g,2,none⟩ (.int .i32 x)).setCell ⟨g,3,none⟩ (.int .i64 y)) g s a b f l):=⟨n1,H,v,by rw [S.out.1,S.out.2];exact n3,n4⟩;clear Y C Z m1 m3 m4 n1 n3 n4
   go_wp2_with fail
   go_end0
   exact ⟨rfl,HF.out⟩)
 ·have HN:Hid (∀w,Ta 55 #[.string s,.int .i64 a] w fun e w'=>e=.returned (.tuple #[.int .i64 0,.int .i64 0,.bool false])/\Tb w w'):=fun w=>wg s a w (by unfold maxLen;omega) (.inr (by omega))
  have HR:Hid (∀w',Tb W w'->Tb w0 w'/\RB w' g s a p n b f v/\Rt w0.heap.size w' v l):=fun w' J=>⟨Q.trans (J.mono Q.size),ag G J,h4.below J⟩
  have U:Hid (∀V,Tb W V->V.cell? ⟨g,0,none⟩=some (.string s)/\V.cell? ⟨g,1,none⟩=some (.int .i64 a)/\Tb W V):=fun V I=>⟨af (ag G I) rfl,af (ag G I) rfl,I⟩
  have S:Hid (bk s a=-1/\fw s a=0):=⟨kH (by omega),gE (by omega)⟩;clear Q G h4 c0 c1 c2 c3 c4 c5 c6 c7 c8
  go_enter Xj,W6
  go_wp2_with fail
  go_region_held3 (fun w'=>w'.cell? ⟨g,0,none⟩=some (.string s)/\w'.cell? ⟨g,1,none⟩=some (.int .i64 a)/\Below W.heap.size W w') (first|(exact U.out _ (by assumption))|(exact U.out _ (hH _ _).drew)|go_keep) (first|(go_at_call 55;refine (HN.out _).mono ?_;rintro e w1 ⟨rfl,F⟩;have M:=(by first|exact (hH W.heap.size W).drew.trans (F.mono (gt _))|exact (by assumption:Below W.heap.size W _).trans (F.mono (Vz (by assumption))):Below W.heap.size W w1)))
  all_goals (
   obtain ⟨Y,C,Z⟩:=HR.out _ M;have z2:=C.frozen 2;have z3:=C.frozen 3;obtain ⟨_,_,c2,c3,_⟩:=Rq.cells C;obtain ⟨m1,m3,m4⟩:=Rq.set Y H C Z 2 (.int .i32 0) (p':=0) rfl rfl;obtain ⟨n1,n3,n4⟩:=Rq.set m1 H m3 m4 3 (.int .i64 0) (n':=0) rfl rfl;obtain ⟨o1,o3,o4⟩:=Rq.set n1 H n3 n4 2 (.int .i32 (-1)) (p':=-1) rfl rfl;have HF:Hid (Rs w0 (((w1.setCell ⟨g,2,none⟩ (.int .i32 0)).setCell ⟨g,3,none⟩ (.int .i64 0)).setCell ⟨g,2,none⟩ (.int .i32 (-1))) g s a b f l):=⟨o1,H,v,by rw [S.out.1,S.out.2];exact o3,o4⟩;clear Y C Z m1 m3 m4 n1 n3 n4 o1 o3 o4
   go_wp2_with fail
   go_end0
   exact ⟨rfl,HF.out⟩)
theorem eD (W:World) (m:Nat):Below W.heap.size W (W.drewN m):=ei (hH _ _) m
theorem jK (h:RB W g s a p n b f v) (J:s.size<=2147483647) (C:b<=a) (I:a<=s.size) :
  Ta 113 #[.pointer (some ⟨g,0,none⟩)] W fun e w'=>e=.returned (.string (s.extract b a))/\∃m,w'=W.drewN m:=by
 obtain ⟨c0,c1,c2,c3,c4,F,c6,G,H⟩:=Rq.cells h;have M:(b:Int)<=a:=by omega
 have O:(a:Int)<=s.size:=by omega
 clear h
 go_enter Tryz.func113,Tryz.ntmps113
 go_wp2_with fail
 go_quiet (fail)
 go_wp2_with fail
 go_ret
 exact ⟨rfl,_,rfl⟩
theorem cC (h:Rs w0 W g s a b f l) (Q:s.size<=2147483647) (O:a<=s.size) :
  Ta 103 #[.pointer (some ⟨g,0,none⟩)] W fun e w'=>e=.returned (.tuple #[])/\Rs w0 w' g s (a+fw s a) b f l:=by
 have F:=EO s a O;obtain ⟨G,H,v,C,I⟩:=h;obtain ⟨c0,c1,c2,c3,c4,c5,c6,c7,c8⟩:=Rq.cells C;have Y:=C.frozen 1;obtain ⟨m1,m3,m4⟩:=Rq.set G H C I 1 (.int .i64 ((a+fw s a:Nat):Int)) (a':=a+fw s a) rfl rfl;have S:IntKind.i64.wrap ((a:Int)+(fw s a:Int))=(a:Int)+(fw s a:Int):=by rw [TJ];omega
 have HL:Hid (∀V,Below (W.setCell ⟨g,1,none⟩ (.int .i64 ((a:Int)+(fw s a:Int)))).heap.size (W.setCell ⟨g,1,none⟩ (.int .i64 ((a:Int)+(fw s a:Int)))) V->Ta 29 #[.pointer (some ⟨g,0,none⟩)] V fun e w'=>e=.returned (.tuple #[])/\Rs w0 w' g s (a+fw s a) b f l):=by
  intro V M;rw [W8] at m1 m3 m4;exact wm (Rq.below ⟨m1,H,v,m3,m4⟩ M) Q F
 generalize fw s a=y at *
 clear G C I m1 m3 m4
 go_enter Tryz.func103,Tryz.ntmps103
 go_wp2_with fail
 go_region_law (fail)
 all_goals (
  go_wp2_with (go_at_call 29;refine (HL.out _ (hH _ _).drew).mono ?_;rintro e U ⟨rfl,J⟩)
  go_end0
  exact ⟨rfl,J⟩)
theorem gm {n:Nat}(h:RB W g s a p n b f v) (Q:s.size<=2147483647) (I:b<=a) (M:a<=s.size) (Y:n<=4) :
  Ta 108 #[.pointer (some ⟨g,0,none⟩)] W fun e w'=>e=.returned (.bool (decide (65535<a+n-b)))/\Below W.heap.size W w':=by
 have O:Hid (∀V,Tb W V->Ta 113 #[.pointer (some ⟨g,0,none⟩)] V fun e w'=>e=.returned (.string (s.extract b a))/\Tb V w'):=fun V F=>by
  refine (jK (ag h F) Q I M).mono ?_;rintro e w' ⟨rfl,m,rfl⟩;exact ⟨rfl,eD _ _⟩
 have J:Hid (∀V,Tb W V->V.cell? ⟨g,3,none⟩=some (.int .i64 n)/\Tb W V):=fun V F=>⟨af (ag h F) rfl,F⟩
 have G:(s.extract b a).size=a-b:=av s b a M;have e:decide (65535<a+n-b)=decide (((s.extract b a).size:Int)+n>65535):=by rw [UF,G];omega
 rw [e];have U:IntKind.i64.wrap (((s.extract b a).size:Int)+(n:Int))=((s.extract b a).size:Int)+(n:Int):=by rw [TJ,G];omega
 clear e h G
 generalize s.extract b a=t at *
 go_enter Tryz.func108,Tryz.ntmps108
 go_wp2_with fail
 go_region_held3 (fun w'=>w'.cell? ⟨g,3,none⟩=some (.int .i64 n)/\Below W.heap.size W w') (first|(exact J.out _ (by assumption))|(exact J.out _ (hH _ _).drew)|go_keep) (first|(go_at_call 113;refine (O.out _ (by first|assumption|exact (hH _ _).drew)).mono ?_;rintro e S ⟨rfl,C⟩;have H:=(by first|exact (hH W.heap.size W).drew.trans (C.mono (gt _))|exact (by assumption:Below W.heap.size W _).trans (C.mono (Vz (by assumption))):Below W.heap.size W S)))
 all_goals (
  go_wp2_with fail
  go_ret
  exact ⟨rfl,H⟩)
theorem wF (h:RB W g s a p n b f v) (Z:s.size<=2147483647) (S:b<=a) (hb:bd s b) (Y:bd s a) :
  Ta 66 #[.pointer (some ⟨g,0,none⟩)] W fun e w'=>e=.returned (Ri a (pL s a) (pC s a))/\Below W.heap.size W w':=by
 have J:=Ic Y;obtain ⟨j1,j2,j3⟩:=Iz hb Y S Z;obtain ⟨W1,hW1⟩:∃W1,W.alloc (.cells #[.int .i64 0,.int .i64 0,.int .i64 0] 47)=W1:=⟨_,rfl⟩;have F:Below W.heap.size W W1:=by rw [<-hW1];exact (hH _ _).alloc (gt _) _
 have k0:bY W1 W.heap.size 0 0 0:=by rw [<-hW1];exact bY.new W 0 0 0
 have HB:Hid (∀V,Tb W V->Ta 113 #[.pointer (some ⟨g,0,none⟩)] V fun e w'=>e=.returned (.string (s.extract b a))/\Tb V w'):=fun V I=>by
  refine (jK (ag h I) Z S J).mono ?_;rintro e w' ⟨rfl,m,rfl⟩;exact ⟨rfl,eD _ _⟩
 have HA:Hid (∀V,Ta 74 #[.agg #[.int .i64 b,.int .i64 (pL s b),.int .i64 (pC s b)],.string (s.extract b a)] V fun e w'=>e=.returned (.agg #[.int .i64 a,.int .i64 (pL s a),.int .i64 (pC s a)])/\Tb V w'):=fun V=>by
  have:=BD b (pL s b) (pC s b) (s.extract b a) V (by rw [av s b a J];omega) (PY s b);rw [j1,j2,j3] at this;exact this
 have U:Hid (∀V,Tb W V->V.cell? ⟨g,4,none⟩=some (.int .i64 b)/\V.cell? ⟨g,5,none⟩=some (.int .i64 (pL s b))/\V.cell? ⟨g,6,none⟩=some (.int .i64 (pC s b))/\Tb W V):=fun V I=>⟨af (ag h I) rfl,af (ag h I) rfl,af (ag h I) rfl,I⟩
 clear h j1 j2 j3;unfold Ri
 generalize s.extract b a=t at *
 generalize pL s a=L2 at *
 generalize pC s a=C2 at *
 generalize pL s b=L at *
 generalize pC s b=C at *
 go_enter Tryz.func66,Tryz.ntmps66
 go_wp2_with fail
 try rw [hW1]
 clear hW1
 go_region_held3 (fun w'=>w'.cell? ⟨g,4,none⟩=some (.int .i64 b)/\w'.cell? ⟨g,5,none⟩=some (.int .i64 L)/\w'.cell? ⟨g,6,none⟩=some (.int .i64 C)/\Below W.heap.size W w') (first|(exact U.out _ (by assumption))|(exact U.out _ F.drew)|(exact U.out _ (((Q.setCell (p:=⟨W.heap.size,0,none⟩) (gt _) _).setCell (p:=⟨W.heap.size,1,none⟩) (gt _) _).setCell (p:=⟨W.heap.size,2,none⟩) (gt _) _))|go_keep) (first|(go_at_call 113;refine (HB.out _ (by first|assumption|exact F.drew)).mono ?_;rintro e w1 ⟨rfl,M⟩;have k1:=k0.drew.below M;have O:=F.drew.trans (M.mono F.size))|(go_at_call 74;refine (HA.out _).mono ?_;rintro e w2 ⟨rfl,hb2⟩;have Q:=O.trans (hb2.mono O.size);have G:=k1.below hb2;have g0:=G.cell0;have g1:=G.cell1;have g2:=G.cell2;have f0:=G.frozen 0;have f1:=G.frozen 1;have f2:=G.frozen 2))
 all_goals (
  go_wp2_with fail
  have H:=((G.set0 a).set1 L2).set2 C2;have m0:=H.cell0;have m1:=H.cell1;have m2:=H.cell2;refine Ti (v:=.agg #[.int .i64 a,.int .i64 L2,.int .i64 C2]) (by simp [results,Tryz.f66,go_sem,m0,m1,m2]) rfl ?_;refine ⟨rfl,?_⟩;exact ((Q.setCell (p:=⟨W.heap.size,0,none⟩) (gt _) _).setCell (p:=⟨W.heap.size,1,none⟩) (gt _) _).setCell (p:=⟨W.heap.size,2,none⟩) (gt _) _)
theorem Ju (h:Rs w0 W g s a b f l) (hs:s.size<=2147483647) (O:b<=a) (F:bd s b) (ha:bd s a) :
  Ta 58 #[.pointer (some ⟨g,0,none⟩)] W fun e w'=>e=.returned (.tuple #[])/\Rs w0 w' g s a a f l:=by
 obtain ⟨I,G,v,J,S⟩:=h;have Z:Hid (Ta 66 #[.pointer (some ⟨g,0,none⟩)] W fun e w'=>e=.returned (.agg #[.int .i64 a,.int .i64 (pL s a),.int .i64 (pC s a)])/\Tb W w'):=wF J hs O F ha
 have HR:Hid (∀w',Tb W w'->(∀k,w'.frozen? ⟨g,k,none⟩=false)/\(w'.cell? ⟨g,4,none⟩=some (.int .i64 b)/\w'.cell? ⟨g,5,none⟩=some (.int .i64 (pL s b))/\w'.cell? ⟨g,6,none⟩=some (.int .i64 (pC s b)))/\Rs w0 (((w'.setCell ⟨g,4,none⟩ (.int .i64 a)).setCell ⟨g,5,none⟩ (.int .i64 (pL s a))).setCell ⟨g,6,none⟩ (.int .i64 (pC s a))) g s a a f l):=fun w' F=>by
  have k1:=I.trans (F.mono I.size);have H:RB w' g s a (bk s a) (fw s a) b f v:=ag J F;have U:=S.below F;obtain ⟨c0,c1,c2,c3,c4,Q,c6,c7,c8⟩:=Rq.cells H;refine ⟨fun k=>H.frozen k,⟨c4,Q,c6⟩,?_⟩;have C:=U.ne H (by decide);refine ⟨((k1.setCell (p:=⟨g,4,none⟩) G _).setCell (p:=⟨g,5,none⟩) G _).setCell (p:=⟨g,6,none⟩) G _,G,v,?_,?_⟩
  ·exact aj (aj (aj H 4 _) 5 _) 6 _
  ·exact ((U.kp (Kp.set _ g 4 _) C).kp (Kp.set _ g 5 _) C).kp (Kp.set _ g 6 _) C
 clear I J S
 generalize pL s a=L2 at *
 generalize pC s a=C2 at *
 go_enter Tryz.func58,Tryz.ntmps58
 go_wp2_with (go_at_call 66;refine Z.out.mono ?_;rintro e w1 ⟨rfl,M⟩;obtain ⟨fz,⟨c4,Q,c6⟩,h7⟩:=HR.out _ M;have Y:Hid (Rs w0 (((w1.setCell ⟨g,4,none⟩ (.int .i64 a)).setCell ⟨g,5,none⟩ (.int .i64 L2)).setCell ⟨g,6,none⟩ (.int .i64 C2)) g s a a f l):=h7;clear h7;have z4:=fz 4;have z5:=fz 5;have z6:=fz 6)
 go_end0
 exact ⟨rfl,Y.out⟩
theorem vX (h:Rs w0 W g s a b f l) (O:s.size<=2147483647) (M:a<=s.size) (S:f<=s.size) :
  Ta 57 #[.pointer (some ⟨g,0,none⟩)] W fun e w'=>e=.returned (.tuple #[])/\Rs w0 w' g s (a+fw s a) b (if bk s a=10 then f+1 else f) l:=by
 by_cases C:bk s a=10
 ·rw [IO C];obtain ⟨G,I,v,F,H⟩:=h;obtain ⟨c0,c1,c2,c3,c4,c5,c6,c7,c8⟩:=Rq.cells F;have Y:=F.frozen 7;obtain ⟨m1,m3,m4⟩:=Rq.set G I F H 7 (.int .i64 ((f+1:Nat):Int)) (f':=f+1) rfl rfl;rw [W8] at m1 m3 m4;have HL:Hid (Ta 103 #[.pointer (some ⟨g,0,none⟩)] (W.setCell ⟨g,7,none⟩ (.int .i64 ((f:Int)+1))) fun e w'=>e=.returned (.tuple #[])/\Rs w0 w' g s (a+fw s a) b (f+1) l):=cC ⟨m1,I,v,m3,m4⟩ O M;rw [C] at c2;clear G F H m1 m3 m4 C
  go_enter Tryz.func57,Tryz.ntmps57
  go_wp2_with (go_at_call 103;refine HL.out.mono ?_;rintro e Q ⟨rfl,J⟩)
  go_end0
  exact ⟨rfl,J⟩
 ·rw [Eq C];have HL:Hid (Ta 103 #[.pointer (some ⟨g,0,none⟩)] W fun e w'=>e=.returned (.tuple #[])/\Rs w0 w' g s (a+fw s a) b f l):=cC h O M;obtain ⟨G,I,v,F,H⟩:=h;obtain ⟨c0,c1,c2,c3,c4,c5,c6,c7,c8⟩:=Rq.cells F;have U:(bk s a == 10)=false:=by simpa using C
  clear G F H C
  go_enter Tryz.func57,Tryz.ntmps57
  go_wp2_with (go_at_call 103;refine HL.out.mono ?_;rintro e Q ⟨rfl,J⟩)
  go_end0
  exact ⟨rfl,J⟩
theorem so (h:RB W g s a p n b f v) (H:nt W) (J:s.size<=2147483647) (C:b<=a) (I:a<=s.size) :
  Ta 107 #[.pointer (some ⟨g,0,none⟩)] W fun e w'=>e=.returned (.int .u8 (if ky (s.extract b a)=true then 2 else 1))/\Below W.heap.size W w':=by
 have F:Hid (Ta 113 #[.pointer (some ⟨g,0,none⟩)] W fun e w'=>e=.returned (.string (s.extract b a))/\∃m,w'=W.drewN m):=jK h J C I
 have G:Hid (∀m,Ta 152 #[.string (s.extract b a)] (W.drewN m) fun e w'=>e=.returned (.bool (ky (s.extract b a)))/\Tb W w'):=fun m=>by
  refine (CV (s.extract b a) (W.drewN m) (H.below (eD W m)).2.1).mono ?_;rintro e w' ⟨rfl,rfl⟩;exact ⟨rfl,eD W m⟩
 clear h H
 generalize ky (s.extract b a)=k at *
 generalize s.extract b a=t at *
 cases k
 ·go_enter Tryz.func107,Tryz.ntmps107
  go_wp2_with (first|(go_at_call 113;refine F.out.mono ?_;rintro e M ⟨rfl,m,rfl⟩)|(go_at_call 152;refine (G.out _).mono ?_;rintro e w2 ⟨rfl,hb2⟩))
  go_ret
  exact ⟨rfl,hb2⟩
 ·go_enter Tryz.func107,Tryz.ntmps107
  go_wp2_with (first|(go_at_call 113;refine F.out.mono ?_;rintro e M ⟨rfl,m,rfl⟩)|(go_at_call 152;refine (G.out _).mono ?_;rintro e w2 ⟨rfl,hb2⟩))
  go_ret
  exact ⟨rfl,hb2⟩
end Go.Proofs.YtcjiapphbpiffaaGreatDoor.Lx
