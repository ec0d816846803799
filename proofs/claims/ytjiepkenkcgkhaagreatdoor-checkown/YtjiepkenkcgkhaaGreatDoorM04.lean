import Derived.Deep.RegionWith
import Derived.Deep.RegionHeld3
import Derived.WalkMore
import Derived.ScopeJumps
import Derived.Test.YtjiepkenkcgkhaaGreatDoorM03
set_option linter.unusedVariables false
set_option linter.unusedSimpArgs false
set_option maxHeartbeats 2000000
set_option maxRecDepth 100000
namespace Go.Proofs.YtjiepkenkcgkhaaGreatDoor.Lx
open Go.RowKit Go.Shelf
variable {W W':World}{B:Nat}{a l c:Int}{row:Option Nat}
attribute [local go_sem] Oper.semAt_some
def Pv (a l c:Int):Value:=.agg #[.int .i64 a,.int .i64 l,.int .i64 c]
def bT (W:World) (B:Nat) (a l c:Int):Prop:=W.heap[B]?=some (.cells #[.int .i64 a,.int .i64 l,.int .i64 c] 34 (0,0))
theorem bT.lt (h:bT W B a l c):B<W.heap.size:=(R6.1 h).1
theorem bT.cell0 (h:bT W B a l c):W.cell? ⟨B,0,none⟩=some (.int .i64 a):=by simp [World.cell?,show W.heap[B]?=_ from h]
theorem bT.cell1 (h:bT W B a l c):W.cell? ⟨B,1,none⟩=some (.int .i64 l):=by simp [World.cell?,show W.heap[B]?=_ from h]
theorem bT.cell2 (h:bT W B a l c):W.cell? ⟨B,2,none⟩=some (.int .i64 c):=by simp [World.cell?,show W.heap[B]?=_ from h]
theorem bT.frozen (h:bT W B a l c) (k:Nat):W.frozen? ⟨B,k,none⟩=false:=by simp [World.frozen?,show W.heap[B]?=_ from h]
theorem bT.new (W:World) (a l c:Int):bT (W.alloc (.cells #[.int .i64 a,.int .i64 l,.int .i64 c] 34)) W.heap.size a l c:=World.alloc_heap_new W _
theorem bT.kept (h:bT W B a l c) (hg:W.grownBy W' row) (hne:some B≠row):bT W' B a l c:=(hg.block B h.lt hne).trans h
theorem bT.alloc {W:World}{B:Nat}{a l c:Int}(h:bT W B a l c) (o:Obj):bT (W.alloc o) B a l c:=h.kept (World.grownBy_alloc W o none) (by simp)
theorem bT.below (h:bT W B a l c) (hb:Below W.heap.size W W'):bT W' B a l c:=(hb.block B h.lt).trans h
theorem bT.drew {W:World}{B:Nat}{a l c:Int}(h:bT W B a l c):bT W.drew B a l c:=h
theorem bT.set0 (h:bT W B a l c) (v:Int):bT (W.setCell ⟨B,0,none⟩ (.int .i64 v)) B v l c:=by
 obtain ⟨hlt,hk⟩:=R6.1 h;show (W.heap.modify B _)[B]?=_;rw [Sc (by rw [Ss];exact hlt),SU,hk];rfl
theorem bT.set1 (h:bT W B a l c) (v:Int):bT (W.setCell ⟨B,1,none⟩ (.int .i64 v)) B a v c:=by
 obtain ⟨hlt,hk⟩:=R6.1 h;show (W.heap.modify B _)[B]?=_;rw [Sc (by rw [Ss];exact hlt),SU,hk];rfl
theorem bT.set2 (h:bT W B a l c) (v:Int):bT (W.setCell ⟨B,2,none⟩ (.int .i64 v)) B a l v:=by
 obtain ⟨hlt,hk⟩:=R6.1 h;show (W.heap.modify B _)[B]?=_;rw [Sc (by rw [Ss];exact hlt),SU,hk];rfl
theorem jn (W:World) (p:Addr) (v:Value):W.grownBy (W.setCell p v) (some p.block):=
 ⟨rfl,rfl,rfl,(KeepsWalks.setCell W _ v).size,fun k _ hk=>TU _ _ _ k (fun e=>hk (by rw [e]))⟩
theorem lR (h:bT W B a l c) (hg:W.grownBy W' row) (hr:∀r,row=some r->∃o:Obj,W.heap[r]?=some o/\o.isCells=false):bT W' B a l c:=
 h.kept hg (fun e=>by
  obtain ⟨o,ho,hc⟩:=hr B e.symm;rw [show W.heap[B]?=_ from h] at ho;cases ho;cases hc)
theorem F5 {W:World}{B:Nat}{a l c:Int}(h:bT W B a l c) {D:Nat}{o o':Obj}(hK:W.heap[D]?=some o) (ho:o.isCells=false):bT (W.putObj D o') B a l c:=
 lR h (grownBy_putObj' W D o') (fun r e=>by cases e;exact ⟨o,hK,ho⟩)
theorem FN (s:ByteArray) (w:World) (hs:s.size<=maxLen) :
  Ra 116 #[.string s] w fun e w'=>e=.returned (.int .i64 (P s).length)/\Below w.heap.size w w':=
 (Ca s w hs).mono (fun e w' h=>⟨h.1,by obtain ⟨p,rfl⟩:=h.2;exact dQ _ _ _⟩)
def iC (q:Int × Int) (x:Ln):Int × Int:=if 1<x.1.1 then (wrap64 (q.1+1),wrap64 (1+(P x.1.2).length)) else (q.1,wrap64 (q.2+(P x.1.2).length))
def jM (l c:Int) (xs:List Ln):Int × Int:=xs.foldl iC (l,c)
theorem pd (l c:Int) (xs:List Ln) (x:Ln):jM l c (xs++[x])=iC (jM l c xs) x:=by unfold jM;rw [List.foldl_append];rfl
theorem zz (s:ByteArray) (l c:Int):∀(k:Nat) (xs:List Ln),xs.map (·.1)=mH s k->0<k->jM l c xs=(wrap64 (l+(k-1:Nat)),wrap64 ((if k=1 then c else 1)+(P (ln s (k-1))).length))\/(k=1/\jM l c xs=(l,wrap64 (c+(P (ln s 0)).length)))
 |0,_,_,h=>by omega
 |k+1,xs,hx,_=>by
  rw [li] at hx
  obtain ⟨xs',y,rfl,h1,h2⟩:∃xs' y,xs=xs'++[y]/\xs'.map (·.1)=mH s k/\y.1=(((k+1:Nat):Int),ln s k):=by
   rcases List.eq_nil_or_concat xs with rfl|⟨xs',y,rfl⟩
   ·simp at hx
   ·rw [List.concat_eq_append,Su] at hx;have:=TH hx (by simp);exact ⟨xs',y,by rw [List.concat_eq_append],this.1,by simpa using this.2⟩
  rw [pd];unfold iC;rw [h2]
  by_cases hk:k=0
  ·subst hk
   right
   obtain rfl:xs'=[]:=by simpa [mH] using h1
   rw [Eq (by simp)];exact ⟨rfl,rfl⟩
  ·left
   rw [IO (by show (1:Int)<((k+1:Nat):Int);omega),Eq (by omega)];show (_,_)=(_,_)
   congr 1
   rcases zz s l c k xs' h1 (by omega) with e|⟨rfl,e⟩
   ·rw [e];show wrap64 (wrap64 (l+((k-1:Nat):Int))+1)=_;rw [oa];congr 1;omega
   ·rw [e];rfl
theorem GY (x:Int) (h:-9223372036854775808<=x/\x<=9223372036854775807):wrap64 x=x:=by unfold wrap64;omega
theorem Mu (s:ByteArray) (l c:Int) (hl:-9223372036854775808<=l/\l<=9223372036854775807) (xs:List Ln) (hx:xs.map (·.1)=mH s (LN s)):jM l c xs=(fp l s,jD c s):=by
 have hln:=Jf s;unfold fp jD
 rcases zz s l c (LN s) xs hx (by unfold LN;omega) with e|⟨h1,e⟩
 ·rw [e];unfold LN;rw [show cn s s.size+1-1=cn s s.size by omega,hln]
  by_cases hz:cn s s.size=0
  ·rw [IO (by omega),IO hz]
  ·rw [Eq (by omega),Eq hz]
 ·have hz:cn s s.size=0:=by unfold LN at h1;omega
  rw [hz] at hln;rw [e,hz,IO rfl,hln]
  congr 1
  rw [GY _ (by simp;exact hl)];simp
theorem Km (a0 l0 c0:Int) (s:ByteArray) (w:World) (hs:s.size<=2147483647) (hl0:-9223372036854775808<=l0/\l0<=9223372036854775807) :
  Ra 68 #[.agg #[.int .i64 a0,.int .i64 l0,.int .i64 c0],.string s] w fun e w'=>e=.returned (Pv (Lc a0 s) (fp l0 s) (jD c0 s))/\Below w.heap.size w w':=by
 refine (S9 (n:=9)).1 ?_;refine callsIn_of_wp_marks Tryz.func68 rfl trivial ?_ rfl;simp only [Tryz.ntmps68,Tw,List.length_cons,List.length_nil,Nat.reduceAdd,Nat.reduceSub,Tz,TB,T7,TJ,Rr,Rh]
 gi_wp2
 refine ⟨trivial,?_⟩;refine (S9.2 (Bv _ _)).mono ?_;rintro e w1 ⟨rfl,rfl⟩
 gi_wp2
 obtain ⟨a1,ha1⟩:∃a1,wrap64 (a0+(s.size:Int))=a1:=⟨_,rfl⟩;rw [ha1];have HA:Hid (Lc a0 s=a1):=ha1;clear ha1;obtain ⟨W0,hW0⟩:∃W0,(((w.alloc (Obj.cells #[Value.int IntKind.i64 a1,Value.int IntKind.i64 l0,Value.int IntKind.i64 c0] 34)).alloc (Obj.cells #[Value.int IntKind.i64 0,Value.int IntKind.i64 0,Value.int IntKind.i64 0] 34)).alloc (Obj.cells #[Value.string s] 9))=W0:=⟨_,rfl⟩;have hsz:W0.heap.size=w.heap.size+1+1+1:=by rw [<-hW0];simp
 have b0:bT W0 w.heap.size a1 l0 c0:=by rw [<-hW0];exact ((bT.new w _ _ _).alloc _).alloc _
 have b1:bT W0 (w.heap.size+1) 0 0 0:=by rw [<-hW0];have:=(bT.new (w.alloc (Obj.cells #[Value.int IntKind.i64 a1,Value.int IntKind.i64 l0,Value.int IntKind.i64 c0] 34)) 0 0 0).alloc (Obj.cells #[Value.string s] 9);rw [QL] at this;exact this
 have b2:Boxed W0 (w.heap.size+1+1) 9 (.string s):=by rw [<-hW0];have:=Boxed.new ((w.alloc (Obj.cells #[Value.int IntKind.i64 a1,Value.int IntKind.i64 l0,Value.int IntKind.i64 c0] 34)).alloc (Obj.cells #[Value.int IntKind.i64 0,Value.int IntKind.i64 0,Value.int IntKind.i64 0] 34)) 9 (.string s);rw [QL,QL] at this;exact this
 have hB0:Below w.heap.size w W0:=by rw [<-hW0];exact (((hH _ w).alloc (gt _) _).alloc (by simp) _).alloc (by simp;omega) _
 rw [hW0];clear hW0;have hmx:Tryz.prog.follows .mixedOrders=true:=by kernel_rfl
 refine wpIn_rangeFunc_ownF rfl (by omega) (gf:=157) (lb:=#[.pointer (some ⟨w.heap.size+1+1,0,none⟩)]) rfl trivial (enters_of Tryz.func157 (by kernel_rfl) rfl)
  (va 8 (by omega) (w.heap.size+1+1) s hs W0 (by omega) b2.cell) (fun _ _=>trivial) (fun _ _ _ _ _ _ _ _=>trivial) (hH _ _) (fun _=>rfl)
  (fun pre W=>(bT W w.heap.size a1 (jM l0 c0 pre).1 (jM l0 c0 pre).2/\bT W (w.heap.size+1) 0 0 0)/\Below w.heap.size w W)
  (fun _ _ _=>False)
  (OwnFrom.and (Own.from (fun s A B row hs hg hr=>⟨lR hs.1 hg hr,lR hs.2 hg hr⟩) _) (ownFrom_below (gt _) (by omega)))
  (fun _ _ _ _ _ hs _ _=>hs)
  ⟨⟨b0,b1⟩,hB0⟩
  (fun x=>{ tmps:=#[.agg #[.int .i64 a0,.int .i64 l0,.int .i64 c0],.string s,.pointer (some ⟨w.heap.size,0,none⟩),undef,.pointer (some ⟨w.heap.size+1,0,none⟩),.int .i64 x.1.1,.string x.1.2,.pointer (some ⟨w.heap.size,0,none⟩),.int .i64 a0,.string s,.int .i64 s.size,.int .i64 a1,.pointer (some ⟨w.heap.size,0,none⟩),.string s,.func (.func 157) #[] #[.pointer (some ⟨w.heap.size+1+1,0,none⟩)],.int .i64 x.1.1,.string x.1.2,undef,undef,undef,undef,undef,undef,undef,undef,undef,undef,undef,undef,undef,undef],defers:=[] }) ?assign ?body ?done ?stop
 case assign=>
  intro l x W K hK
  gi_wp2
  exact hK
 case body=>
  rintro l pre x W ⟨⟨k0,k1⟩,hB⟩ _;obtain ⟨q,hq⟩:∃q,jM l0 c0 pre=q:=⟨_,rfl⟩;have HQ:Hid (jM l0 c0 (pre++[x])=iC q x):=by show _=_;rw [pd,hq]
  rw [hq] at k0;clear hq;have g1:=k0.cell1;have g2:=k0.cell2;have f1:=k0.frozen 1;have f2:=k0.frozen 2;have hcount:∀w,Ra 116 #[.string x.1.2] w fun e w'=>e=.returned (.int .i64 (P x.1.2).length)/\Below w.heap.size w w':=fun w=>FN _ w x.2
  by_cases hx:1<x.1.1
  ·have HX:Hid (iC q x=(wrap64 (q.1+1),wrap64 (1+(P x.1.2).length))):=by show _=_;unfold iC;rw [IO hx]
   gi_wp2
   have r0:=(k0.set1 (wrap64 (q.1+1))).set2 1;have r1:=(k1.kept (jn W ⟨w.heap.size,1,none⟩ (.int .i64 (wrap64 (q.1+1)))) (by simp)).kept (jn _ ⟨w.heap.size,2,none⟩ (.int .i64 1)) (by simp);have hkW:=(KeepsOthers.setCell W ⟨w.heap.size,1,none⟩ (.int .i64 (wrap64 (q.1+1)))).trans (KeepsOthers.setCell _ ⟨w.heap.size,2,none⟩ (.int .i64 1));have hB1:=(hB.setCell (p:=⟨w.heap.size,1,none⟩) (gt _) (.int .i64 (wrap64 (q.1+1)))).setCell (p:=⟨w.heap.size,2,none⟩) (gt _) (.int .i64 1);obtain ⟨Wm,hWm⟩:∃Wm,(W.setCell ⟨w.heap.size,1,none⟩ (.int .i64 (wrap64 (q.1+1)))).setCell ⟨w.heap.size,2,none⟩ (.int .i64 1)=Wm:=⟨_,rfl⟩;rw [hWm] at r0 r1 hkW hB1 ⊢;clear hWm g1 g2 f1 f2;have g2:=r0.cell2;have f2:=r0.frozen 2
   gi_region_with_o (refine ⟨trivial,?_⟩;gi_at_call 116;refine (CallsIn.inRound l (S9.2 (hcount _))).mono ?_;rintro e w1 ⟨rfl,hb1⟩;have g3:=(r0.drew.below hb1).cell2;have f3:=(r0.drew.below hb1).frozen 2)
   all_goals gi_wp2
   all_goals (try go_bits)
   all_goals exact ⟨((hkW.trans (KeepsOthers.drew _)).trans (iF hb1)).trans (KeepsOthers.setCell _ _ _),trivial,⟨by rw [HQ.out,HX.out];exact (r0.drew.below hb1).set2 _,(bT.drew r1 |>.below hb1).kept (jn _ _ _) (by simp)⟩,(hB1.drew.trans (hb1.mono hB1.size)).setCell (p:=⟨w.heap.size,2,none⟩) (gt _) _⟩
  ·have HX:Hid (iC q x=(q.1,wrap64 (q.2+(P x.1.2).length))):=by show _=_;unfold iC;rw [Eq hx]
   gi_wp2
   gi_region_with_o (refine ⟨trivial,?_⟩;gi_at_call 116;refine (CallsIn.inRound l (S9.2 (hcount _))).mono ?_;rintro e w1 ⟨rfl,hb1⟩;have g3:=(k0.drew.below hb1).cell2;have f3:=(k0.drew.below hb1).frozen 2)
   all_goals gi_wp2
   all_goals (try go_bits)
   all_goals exact ⟨((KeepsOthers.drew _).trans (iF hb1)).trans (KeepsOthers.setCell _ _ _),trivial,⟨by rw [HQ.out,HX.out];exact (k0.drew.below hb1).set2 _,(k1.drew.below hb1).kept (jn _ _ _) (by simp)⟩,(hB.drew.trans (hb1.mono hB.size)).setCell (p:=⟨w.heap.size,2,none⟩) (gt _) _⟩
 case done=>
  rintro D ys W hD hS ⟨⟨k0,k1⟩,hB⟩ hK;rw [Mu s l0 c0 hl0 ys hS] at k0;obtain ⟨L,hL⟩:∃L,fp l0 s=L:=⟨_,rfl⟩;obtain ⟨C,hC⟩:∃C,jD c0 s=C:=⟨_,rfl⟩;rw [hL,hC] at k0;have HL:Hid (fp l0 s=L):=hL;have HC:Hid (jD c0 s=C):=hC;clear hL hC;have g0:=k0.cell0;have g1:=k0.cell1;have g2:=k0.cell2;have e0:=k1.cell0;have e1:=k1.cell1;have e2:=k1.cell2;have f0:=k1.frozen 0;have f1:=k1.frozen 1;have f2:=k1.frozen 2
  gi_wp2
  have hK':=(((KeepsOthers.setCell W ⟨w.heap.size+1,0,none⟩ (.int .i64 a1)).trans (KeepsOthers.setCell _ ⟨w.heap.size+1,1,none⟩ (.int .i64 L))).trans (KeepsOthers.setCell _ ⟨w.heap.size+1,2,none⟩ (.int .i64 C))).same D _ hK rfl;have j1:=((k1.set0 a1).set1 L).set2 C;have hB3:=((hB.setCell (p:=⟨w.heap.size+1,0,none⟩) (by simp) (.int .i64 a1)).setCell (p:=⟨w.heap.size+1,1,none⟩) (by simp) (.int .i64 L)).setCell (p:=⟨w.heap.size+1,2,none⟩) (by simp) (.int .i64 C);have m:=F5 (o':=.deferred none) j1 hK' rfl;have m0:=m.cell0;have m1:=m.cell1;have m2:=m.cell2;refine ⟨by simp,.inl ⟨_,_,rfl,run_takeDeferred hK',?_⟩⟩;refine ⟨.agg #[.int .i64 a1,.int .i64 L,.int .i64 C],?_,by rw [HA.out,HL.out,HC.out];rfl,hB3.trans (belowK_b (w:=w) (gt _) _ D _ _ (by omega) hK' rfl rfl)⟩;simp [results,Tryz.f68,go_sem,m0,m1,m2]
 case stop=>
  rintro D c pre W _ _ h _;exact h.elim
theorem qB (w:World) :
  Ra 20 #[] w fun e w'=>e=.returned (.agg #[.int .i64 0,.int .i64 1,.int .i64 1])/\Below w.heap.size w w':=by
 go_enter Tryz.func20,Tryz.ntmps20
 go_wp2
 have hb0:=bT.new w 0 1 1;have g0:=hb0.cell0;have g1:=hb0.cell1;have g2:=hb0.cell2;refine QV (v:=.agg #[.int .i64 0,.int .i64 1,.int .i64 1]) (by simp [results,Tryz.f20,go_sem,g0,g1,g2]) rfl ?_;exact ⟨rfl,(hH _ _).alloc (gt _) _⟩
theorem Ao (a0 l0 c0:Int) (s:ByteArray) (w:World) (hs:s.size<=2147483647) (hl0:-9223372036854775808<=l0/\l0<=9223372036854775807) :
  Ra 68 #[.agg #[.int .i64 a0,.int .i64 l0,.int .i64 c0],.string s] w fun e w'=>e=.returned (.agg #[.int .i64 (Lc a0 s),.int .i64 (fp l0 s),.int .i64 (jD c0 s)])/\Below w.heap.size w w':=
 Km a0 l0 c0 s w hs hl0
theorem Oi (s:ByteArray) (n:Nat) (w:World) (hs:s.size<=2147483647) (hn:n<=s.size) :
  Ra 28 #[.string s,.int .i64 n] w fun e w'=>e=.returned (.tuple #[.agg #[.int .i64 (Lc 0 (s.extract 0 n)),.int .i64 (fp 1 (s.extract 0 n)),.int .i64 (jD 1 (s.extract 0 n))],.int .i64 0])/\Below w.heap.size w w':=by
 have hz:=az s 0 n hn;have hadv:∀w,Ra 68 #[.agg #[.int .i64 0,.int .i64 1,.int .i64 1],.string (s.extract 0 n)] w fun e w'=>e=.returned (.agg #[.int .i64 (Lc 0 (s.extract 0 n)),.int .i64 (fp 1 (s.extract 0 n)),.int .i64 (jD 1 (s.extract 0 n))])/\Below w.heap.size w w':=fun w=>Ao 0 1 1 _ w (by omega) (by omega)
 obtain ⟨a,ha⟩:∃a,Lc 0 (s.extract 0 n)=a:=⟨_,rfl⟩;obtain ⟨l,hl⟩:∃a,fp 1 (s.extract 0 n)=a:=⟨_,rfl⟩;obtain ⟨c,hc⟩:∃a,jD 1 (s.extract 0 n)=a:=⟨_,rfl⟩;simp only [ha,hl,hc] at hadv ⊢;clear ha hl hc hz;have h1:¬((n:Int)<0):=by omega
 have h2:¬((s.size:Int)<(n:Int)):=by omega
 have hb0:=bT.new w 0 0 0
 go_enter Tryz.func28,Tryz.ntmps28
 go_wp2
 go_region_with (first|(go_at_call 20;refine (qB _).mono ?_;rintro e w1 ⟨rfl,hb1⟩;have hb3:=hb0.drew.below hb1)|(go_at_call 68;refine (hadv _).mono ?_;rintro e w2 ⟨rfl,hb2⟩;have hb4:=hb3.below hb2;have g0:=hb4.cell0;have g1:=hb4.cell1;have g2:=hb4.cell2;have f0:=hb4.frozen 0;have f1:=hb4.frozen 1;have f2:=hb4.frozen 2))
 all_goals go_wp2
 all_goals
  have hb5:=((hb4.set0 a).set1 l).set2 c;have m0:=hb5.cell0;have m1:=hb5.cell1;have m2:=hb5.cell2;refine QV (v:=.tuple #[.agg #[.int .i64 a,.int .i64 l,.int .i64 c],.int .i64 0]) (by simp [results,Tryz.f28,go_sem,m0,m1,m2]) rfl ?_;refine ⟨rfl,?_⟩;have h0:Below w.heap.size w (w.alloc (Obj.cells #[.int .i64 0,.int .i64 0,.int .i64 0] 34)):=(hH _ _).alloc (gt _) _;have h3:=(h0.drew.trans (hb1.mono h0.size)).trans (hb2.mono (QQ h0.size hb1.size));exact ((h3.setCell (p:=⟨w.heap.size,0,none⟩) (gt _) _).setCell (p:=⟨w.heap.size,1,none⟩) (gt _) _).setCell (p:=⟨w.heap.size,2,none⟩) (gt _) _
end Go.Proofs.YtjiepkenkcgkhaaGreatDoor.Lx
namespace Go.Proofs.YtjiepkenkcgkhaaGreatDoor.Lx
open Go.RowKit
variable {s:ByteArray}{a g b f:Nat}{W w0:World}{p n:Int}{l:List Tv}{v:Value}
def bf (s:ByteArray) (a:Nat):Int:=if a<s.size then (dp s a:Int) else -1
def fe (s:ByteArray) (a:Nat):Nat:=if a<s.size then dw s a else 0
theorem gC (h:a<s.size):bf s a=dp s a:=by unfold bf;rw [IO h]
theorem kn (h:s.size<=a):bf s a=-1:=by unfold bf;rw [Eq (by omega)]
theorem ce (h:a<s.size):fe s a=dw s a:=by unfold fe;rw [IO h]
theorem gm (h:s.size<=a):fe s a=0:=by unfold fe;rw [Eq (by omega)]
theorem DB (s:ByteArray) (a:Nat) (h:a<=s.size):a+fe s a<=s.size:=by
 by_cases e:a<s.size
 ·rw [ce e];exact (aV s a e).2.2
 ·rw [gm (by omega)];exact h
theorem yI (s:ByteArray) (a:Nat):-1<=bf s a/\bf s a<=1114111:=by
 unfold bf;have:=vT s a
 split <;> omega
def RB (W:World) (g:Nat) (s:ByteArray) (a:Nat) (p n:Int) (b:Nat) (f:Nat) (v:Value):Prop:=
 W.heap[g]?=some (.cells #[.string s,.int .i64 a,.int .i32 p,.int .i64 n,.int .i64 b,.int .i64 (pL s b),.int .i64 (pC s b),.int .i64 f,v] 76 (0,0))
structure Rq (w0 W:World) (g:Nat) (s:ByteArray) (a:Nat) (p n:Int) (b f:Nat) (l:List Tv):Prop where
 bel:Below w0.heap.size w0 W
 g0:w0.heap.size<=g
 blk:∃v,RB W g s a p n b f v/\Rt w0.heap.size W v l
def Rs (w0 W:World) (g:Nat) (s:ByteArray) (a b f:Nat) (l:List Tv):Prop:=Rq w0 W g s a (bf s a) (fe s a) b f l
theorem Rq.below {W':World}(h:Rq w0 W g s a p n b f l) (hb:Below W.heap.size W W'):Rq w0 W' g s a p n b f l:=by
 obtain ⟨h1,h2,v,h3,h4⟩:=h;exact ⟨h1.trans (hb.mono h1.size),h2,v,ag h3 hb,h4.below hb⟩
theorem Rq.set (h1:Below w0.heap.size w0 W) (h2:w0.heap.size<=g) (h3:RB W g s a p n b f v) (h4:Rt w0.heap.size W v l) (k:Nat) (u:Value)
  {s':ByteArray} {a':Nat} {p' n':Int} {b' f':Nat} {v':Value} (he:#[.string s,.int .i64 a,.int .i32 p,.int .i64 n,.int .i64 b,.int .i64 (pL s b),.int .i64 (pC s b),.int .i64 f,v].setIfInBounds k u=#[.string s',.int .i64 a',.int .i32 p',.int .i64 n',.int .i64 b',.int .i64 (pL s' b'),.int .i64 (pC s' b'),.int .i64 f',v']) (hv:v'=v) :
  Below w0.heap.size w0 (W.setCell ⟨g,k,none⟩ u)/\RB (W.setCell ⟨g,k,none⟩ u) g s' a' p' n' b' f' v'/\Rt w0.heap.size (W.setCell ⟨g,k,none⟩ u) v' l:=by
 refine ⟨h1.setCell (p:=⟨g,k,none⟩) h2 u,?_,?_⟩
 ·have:=aj h3 k u;rw [he] at this;exact this
 ·rw [hv];exact h4.kp (Kp.set W g k u) (h4.ne h3 (by decide))
theorem Rq.cells {W:World}{g:Nat}{s:ByteArray}{a:Nat}{p n:Int}{b f:Nat}{v:Value}(h:RB W g s a p n b f v) :
  W.cell? ⟨g,0,none⟩=some (.string s)/\W.cell? ⟨g,1,none⟩=some (.int .i64 a)/\W.cell? ⟨g,2,none⟩=some (.int .i32 p)/\W.cell? ⟨g,3,none⟩=some (.int .i64 n)/\W.cell? ⟨g,4,none⟩=some (.int .i64 b) /\
  W.cell? ⟨g,5,none⟩=some (.int .i64 (pL s b))/\W.cell? ⟨g,6,none⟩=some (.int .i64 (pC s b))/\W.cell? ⟨g,7,none⟩=some (.int .i64 f)/\W.cell? ⟨g,8,none⟩=some v:=
 ⟨af h rfl,af h rfl,af h rfl,af h rfl,af h rfl,af h rfl,af h rfl,af h rfl,af h rfl⟩
theorem RB.frozen (h:RB W g s a p n b f v) (k:Nat):W.frozen? ⟨g,k,none⟩=false:=am h
theorem OS (p q:Int):(false || decide (p=q))=(p == q):=by rw [Se];simp
theorem bP (p:Int) (w:World) :
  Ra 54 #[.int .i32 p] w fun e w'=>e=.returned (.bool (decide (48<=p) && decide (p<=57)))/\w'=w:=by
 by_cases h:48<=p
 ·have e:(decide (48<=p) && decide (p<=57))=decide (p<=57):=by rw [QW h];rfl
  rw [e];clear e
  go_enter Tryz.func54,Tryz.ntmps54
  go_wp2_with fail
  go_ret
  exact ⟨rfl,rfl⟩
 ·have e:(decide (48<=p) && decide (p<=57))=false:=by rw [QX h];rfl
  rw [e];clear e
  go_enter Tryz.func54,Tryz.ntmps54
  go_wp2_with fail
  go_ret
  exact ⟨rfl,rfl⟩
theorem eQ (p:Int) (w:World) :
  Ra 105 #[.int .i32 p] w fun e w'=>e=.returned (.bool (decide (p<32) || decide (p=127)))/\w'=w:=by
 by_cases h:p<32
 ·have e:(decide (p<32) || decide (p=127))=true:=by rw [QW h];rfl
  rw [e];clear e
  go_enter Tryz.func105,Tryz.ntmps105
  go_wp2_with fail
  go_ret
  exact ⟨rfl,rfl⟩
 ·have e:(decide (p<32) || decide (p=127))=(p == 127):=by rw [QX h];exact OS _ _
  rw [e];clear e
  go_enter Tryz.func105,Tryz.ntmps105
  go_wp2_with fail
  go_ret
  exact ⟨rfl,rfl⟩
theorem du (p:Int) (w:World) :
  Ra 104 #[.int .i32 p] w fun e w'=>e=.returned (.bool (decide (p=10) || decide (p=-1)))/\w'=w:=by
 by_cases h:p=10
 ·subst h
  go_enter Tryz.func104,Tryz.ntmps104
  go_wp2_with fail
  go_ret
  exact ⟨rfl,rfl⟩
 ·have e:(decide (p=10) || decide (p=-1))=(p == -1):=by rw [QX h];exact OS _ _
  have h1:(p == 10)=false:=by simpa using h
  rw [e];clear e h
  go_enter Tryz.func104,Tryz.ntmps104
  go_wp2_with fail
  go_ret
  exact ⟨rfl,rfl⟩
theorem uZ (h:Rq w0 W g s a p n b f l) (hs:s.size<=2147483647) (ha:a<=s.size) :
  Ra 21 #[.pointer (some ⟨g,0,none⟩)] W fun e w'=>e=.returned (.tuple #[])/\Rs w0 w' g s a b f l:=by
 obtain ⟨h1,h2,v,h3,h4⟩:=h;obtain ⟨c0,c1,c2,c3,c4,c5,c6,c7,c8⟩:=Rq.cells h3
 by_cases hlt:a<s.size
 ·have hd:=vT s a;obtain ⟨hw1,hw2,hw3⟩:=aV s a hlt
  have HN:Hid (∀w,Ra 49 #[.string s,.int .i64 a] w fun e w'=>e=.returned (.tuple #[.int .i64 (dp s a),.int .i64 (dw s a),.bool (gd s a)])/\Rc w w'):=fun w=>by
   have:=zm s a w (by unfold maxLen;omega) (by omega) (by omega);rw [Tu] at this;exact this
  have HR:Hid (∀w',Rc W w'->Rc w0 w'/\RB w' g s a p n b f v/\Rt w0.heap.size w' v l):=fun w' hb=>⟨h1.trans (hb.mono h1.size),ag h3 hb,h4.below hb⟩
  have HK:Hid (∀V,Rc W V->V.cell? ⟨g,0,none⟩=some (.string s)/\V.cell? ⟨g,1,none⟩=some (.int .i64 a)/\Rc W V):=fun V hV=>⟨af (ag h3 hV) rfl,af (ag h3 hV) rfl,hV⟩
  have e1:=gC hlt;have e2:=ce hlt;have HE:Hid (bf s a=dp s a/\fe s a=dw s a):=⟨e1,e2⟩
  generalize dp s a=x at *
  generalize dw s a=y at *
  generalize gd s a=z at *
  clear e1 e2 h1 h3 h4 c0 c1 c2 c3 c4 c5 c6 c7 c8
  go_enter Vp,Vd
  go_wp2_with fail
  go_region_held3 (fun w'=>w'.cell? ⟨g,0,none⟩=some (.string s)/\w'.cell? ⟨g,1,none⟩=some (.int .i64 a)/\Below W.heap.size W w') (first|(exact HK.out _ (by assumption))|(exact HK.out _ (hH _ _).drew)|go_keep) (first|(go_at_call 49;refine (HN.out _).mono ?_;rintro e w1 ⟨rfl,hb1⟩;have hbW:=(by first|exact (hH W.heap.size W).drew.trans (hb1.mono (gt _))|exact (by assumption:Below W.heap.size W _).trans (hb1.mono (TQ (by assumption))):Below W.heap.size W w1)))
  all_goals (
   obtain ⟨k1,k3,k4⟩:=HR.out _ hbW;have z2:=k3.frozen 2;have z3:=k3.frozen 3;obtain ⟨_,_,c2,c3,_⟩:=Rq.cells k3;obtain ⟨m1,m3,m4⟩:=Rq.set k1 h2 k3 k4 2 (.int .i32 x) (p':=x) rfl rfl;obtain ⟨n1,n3,n4⟩:=Rq.set m1 h2 m3 m4 3 (.int .i64 y) (n':=y) rfl rfl;have HF:Hid (Rs w0 ((w1.setCell ⟨g,2,none⟩ (.int .i32 x)).setCell ⟨g,3,none⟩ (.int .i64 y)) g s a b f l):=⟨n1,h2,v,by rw [HE.out.1,HE.out.2];exact n3,n4⟩;clear k1 k3 k4 m1 m3 m4 n1 n3 n4
   go_wp2_with fail
   go_end0
   exact ⟨rfl,HF.out⟩)
 ·have HN:Hid (∀w,Ra 49 #[.string s,.int .i64 a] w fun e w'=>e=.returned (.tuple #[.int .i64 0,.int .i64 0,.bool false])/\Rc w w'):=fun w=>uV s a w (by unfold maxLen;omega) (.inr (by omega))
  have HR:Hid (∀w',Rc W w'->Rc w0 w'/\RB w' g s a p n b f v/\Rt w0.heap.size w' v l):=fun w' hb=>⟨h1.trans (hb.mono h1.size),ag h3 hb,h4.below hb⟩
  have HK:Hid (∀V,Rc W V->V.cell? ⟨g,0,none⟩=some (.string s)/\V.cell? ⟨g,1,none⟩=some (.int .i64 a)/\Rc W V):=fun V hV=>⟨af (ag h3 hV) rfl,af (ag h3 hV) rfl,hV⟩
  have HE:Hid (bf s a=-1/\fe s a=0):=⟨kn (by omega),gm (by omega)⟩;clear h1 h3 h4 c0 c1 c2 c3 c4 c5 c6 c7 c8
  go_enter Vp,Vd
  go_wp2_with fail
  go_region_held3 (fun w'=>w'.cell? ⟨g,0,none⟩=some (.string s)/\w'.cell? ⟨g,1,none⟩=some (.int .i64 a)/\Below W.heap.size W w') (first|(exact HK.out _ (by assumption))|(exact HK.out _ (hH _ _).drew)|go_keep) (first|(go_at_call 49;refine (HN.out _).mono ?_;rintro e w1 ⟨rfl,hb1⟩;have hbW:=(by first|exact (hH W.heap.size W).drew.trans (hb1.mono (gt _))|exact (by assumption:Below W.heap.size W _).trans (hb1.mono (TQ (by assumption))):Below W.heap.size W w1)))
  all_goals (
   obtain ⟨k1,k3,k4⟩:=HR.out _ hbW;have z2:=k3.frozen 2;have z3:=k3.frozen 3;obtain ⟨_,_,c2,c3,_⟩:=Rq.cells k3;obtain ⟨m1,m3,m4⟩:=Rq.set k1 h2 k3 k4 2 (.int .i32 0) (p':=0) rfl rfl;obtain ⟨n1,n3,n4⟩:=Rq.set m1 h2 m3 m4 3 (.int .i64 0) (n':=0) rfl rfl;obtain ⟨o1,o3,o4⟩:=Rq.set n1 h2 n3 n4 2 (.int .i32 (-1)) (p':=-1) rfl rfl;have HF:Hid (Rs w0 (((w1.setCell ⟨g,2,none⟩ (.int .i32 0)).setCell ⟨g,3,none⟩ (.int .i64 0)).setCell ⟨g,2,none⟩ (.int .i32 (-1))) g s a b f l):=⟨o1,h2,v,by rw [HE.out.1,HE.out.2];exact o3,o4⟩;clear k1 k3 k4 m1 m3 m4 n1 n3 n4 o1 o3 o4
   go_wp2_with fail
   go_end0
   exact ⟨rfl,HF.out⟩)
theorem dR (W:World) (m:Nat):Below W.heap.size W (W.drewN m):=dL (hH _ _) m
theorem jy (h:RB W g s a p n b f v) (hs:s.size<=2147483647) (hba:b<=a) (ha:a<=s.size) :
  Ra 108 #[.pointer (some ⟨g,0,none⟩)] W fun e w'=>e=.returned (.string (s.extract b a))/\∃m,w'=W.drewN m:=by
 obtain ⟨c0,c1,c2,c3,c4,c5,c6,c7,c8⟩:=Rq.cells h;have q1:(b:Int)<=a:=by omega
 have q2:(a:Int)<=s.size:=by omega
 clear h
 go_enter Tryz.func108,Tryz.ntmps108
 go_wp2_with fail
 go_quiet (fail)
 go_wp2_with fail
 go_ret
 exact ⟨rfl,_,rfl⟩
theorem co (h:Rs w0 W g s a b f l) (hs:s.size<=2147483647) (ha:a<=s.size) :
  Ra 98 #[.pointer (some ⟨g,0,none⟩)] W fun e w'=>e=.returned (.tuple #[])/\Rs w0 w' g s (a+fe s a) b f l:=by
 have hle:=DB s a ha;obtain ⟨h1,h2,v,h3,h4⟩:=h;obtain ⟨c0,c1,c2,c3,c4,c5,c6,c7,c8⟩:=Rq.cells h3;have z1:=h3.frozen 1;obtain ⟨m1,m3,m4⟩:=Rq.set h1 h2 h3 h4 1 (.int .i64 ((a+fe s a:Nat):Int)) (a':=a+fe s a) rfl rfl;have hwr:IntKind.i64.wrap ((a:Int)+(fe s a:Int))=(a:Int)+(fe s a:Int):=by rw [RA];omega
 have HL:Hid (∀V,Below (W.setCell ⟨g,1,none⟩ (.int .i64 ((a:Int)+(fe s a:Int)))).heap.size (W.setCell ⟨g,1,none⟩ (.int .i64 ((a:Int)+(fe s a:Int)))) V->Ra 21 #[.pointer (some ⟨g,0,none⟩)] V fun e w'=>e=.returned (.tuple #[])/\Rs w0 w' g s (a+fe s a) b f l):=by
  intro V hV;rw [Ve] at m1 m3 m4;exact uZ (Rq.below ⟨m1,h2,v,m3,m4⟩ hV) hs hle
 generalize fe s a=y at *
 clear h1 h3 h4 m1 m3 m4
 go_enter Tryz.func98,Tryz.ntmps98
 go_wp2_with fail
 go_region_law (fail)
 all_goals (
  go_wp2_with (go_at_call 21;refine (HL.out _ (hH _ _).drew).mono ?_;rintro e w1 ⟨rfl,h5⟩)
  go_end0
  exact ⟨rfl,h5⟩)
theorem fT {n:Nat}(h:RB W g s a p n b f v) (hs:s.size<=2147483647) (hba:b<=a) (ha:a<=s.size) (hn:n<=4) :
  Ra 103 #[.pointer (some ⟨g,0,none⟩)] W fun e w'=>e=.returned (.bool (decide (65535<a+n-b)))/\Below W.heap.size W w':=by
 have HB:Hid (∀V,Rc W V->Ra 108 #[.pointer (some ⟨g,0,none⟩)] V fun e w'=>e=.returned (.string (s.extract b a))/\Rc V w'):=fun V hV=>by
  refine (jy (ag h hV) hs hba ha).mono ?_;rintro e w' ⟨rfl,m,rfl⟩;exact ⟨rfl,dR _ _⟩
 have HK:Hid (∀V,Rc W V->V.cell? ⟨g,3,none⟩=some (.int .i64 n)/\Rc W V):=fun V hV=>⟨af (ag h hV) rfl,hV⟩
 have hz:(s.extract b a).size=a-b:=az s b a ha;have e:decide (65535<a+n-b)=decide (((s.extract b a).size:Int)+n>65535):=by rw [Sz,hz];omega
 rw [e];have hwr:IntKind.i64.wrap (((s.extract b a).size:Int)+(n:Int))=((s.extract b a).size:Int)+(n:Int):=by rw [RA,hz];omega
 clear e h hz
 generalize s.extract b a=t at *
 go_enter Tryz.func103,Tryz.ntmps103
 go_wp2_with fail
 go_region_held3 (fun w'=>w'.cell? ⟨g,3,none⟩=some (.int .i64 n)/\Below W.heap.size W w') (first|(exact HK.out _ (by assumption))|(exact HK.out _ (hH _ _).drew)|go_keep) (first|(go_at_call 108;refine (HB.out _ (by first|assumption|exact (hH _ _).drew)).mono ?_;rintro e w1 ⟨rfl,hb1⟩;have hbW:=(by first|exact (hH W.heap.size W).drew.trans (hb1.mono (gt _))|exact (by assumption:Below W.heap.size W _).trans (hb1.mono (TQ (by assumption))):Below W.heap.size W w1)))
 all_goals (
  go_wp2_with fail
  go_ret
  exact ⟨rfl,hbW⟩)
theorem vu (h:RB W g s a p n b f v) (hs:s.size<=2147483647) (hba:b<=a) (hb:bd s b) (ha:bd s a) :
  Ra 60 #[.pointer (some ⟨g,0,none⟩)] W fun e w'=>e=.returned (Pv a (pL s a) (pC s a))/\Below W.heap.size W w':=by
 have hal:=Gd ha;obtain ⟨j1,j2,j3⟩:=GA hb ha hba hs;obtain ⟨W1,hW1⟩:∃W1,W.alloc (.cells #[.int .i64 0,.int .i64 0,.int .i64 0] 34)=W1:=⟨_,rfl⟩;have hB0:Below W.heap.size W W1:=by rw [<-hW1];exact (hH _ _).alloc (gt _) _
 have k0:bT W1 W.heap.size 0 0 0:=by rw [<-hW1];exact bT.new W 0 0 0
 have HB:Hid (∀V,Rc W V->Ra 108 #[.pointer (some ⟨g,0,none⟩)] V fun e w'=>e=.returned (.string (s.extract b a))/\Rc V w'):=fun V hV=>by
  refine (jy (ag h hV) hs hba hal).mono ?_;rintro e w' ⟨rfl,m,rfl⟩;exact ⟨rfl,dR _ _⟩
 have HA:Hid (∀V,Ra 68 #[.agg #[.int .i64 b,.int .i64 (pL s b),.int .i64 (pC s b)],.string (s.extract b a)] V fun e w'=>e=.returned (.agg #[.int .i64 a,.int .i64 (pL s a),.int .i64 (pC s a)])/\Rc V w'):=fun V=>by
  have:=Ao b (pL s b) (pC s b) (s.extract b a) V (by rw [az s b a hal];omega) (Of s b);rw [j1,j2,j3] at this;exact this
 have HK:Hid (∀V,Rc W V->V.cell? ⟨g,4,none⟩=some (.int .i64 b)/\V.cell? ⟨g,5,none⟩=some (.int .i64 (pL s b))/\V.cell? ⟨g,6,none⟩=some (.int .i64 (pC s b))/\Rc W V):=fun V hV=>⟨af (ag h hV) rfl,af (ag h hV) rfl,af (ag h hV) rfl,hV⟩
 clear h j1 j2 j3;unfold Pv
 generalize s.extract b a=t at *
 generalize pL s a=L2 at *
 generalize pC s a=C2 at *
 generalize pL s b=L at *
 generalize pC s b=C at *
 go_enter Tryz.func60,Tryz.ntmps60
 go_wp2_with fail
 try rw [hW1]
 clear hW1
 go_region_held3 (fun w'=>w'.cell? ⟨g,4,none⟩=some (.int .i64 b)/\w'.cell? ⟨g,5,none⟩=some (.int .i64 L)/\w'.cell? ⟨g,6,none⟩=some (.int .i64 C)/\Below W.heap.size W w') (first|(exact HK.out _ (by assumption))|(exact HK.out _ hB0.drew)|(exact HK.out _ (((hbX.setCell (p:=⟨W.heap.size,0,none⟩) (gt _) _).setCell (p:=⟨W.heap.size,1,none⟩) (gt _) _).setCell (p:=⟨W.heap.size,2,none⟩) (gt _) _))|go_keep) (first|(go_at_call 108;refine (HB.out _ (by first|assumption|exact hB0.drew)).mono ?_;rintro e w1 ⟨rfl,hb1⟩;have k1:=k0.drew.below hb1;have hbW:=hB0.drew.trans (hb1.mono hB0.size))|(go_at_call 68;refine (HA.out _).mono ?_;rintro e w2 ⟨rfl,hb2⟩;have hbX:=hbW.trans (hb2.mono hbW.size);have k2:=k1.below hb2;have g0:=k2.cell0;have g1:=k2.cell1;have g2:=k2.cell2;have f0:=k2.frozen 0;have f1:=k2.frozen 1;have f2:=k2.frozen 2))
 all_goals (
  go_wp2_with fail
  have hb5:=((k2.set0 a).set1 L2).set2 C2;have m0:=hb5.cell0;have m1:=hb5.cell1;have m2:=hb5.cell2;refine QV (v:=.agg #[.int .i64 a,.int .i64 L2,.int .i64 C2]) (by simp [results,Tryz.f60,go_sem,m0,m1,m2]) rfl ?_;refine ⟨rfl,?_⟩;exact ((hbX.setCell (p:=⟨W.heap.size,0,none⟩) (gt _) _).setCell (p:=⟨W.heap.size,1,none⟩) (gt _) _).setCell (p:=⟨W.heap.size,2,none⟩) (gt _) _)
theorem Ho (h:Rs w0 W g s a b f l) (hs:s.size<=2147483647) (hba:b<=a) (hb:bd s b) (ha:bd s a) :
  Ra 52 #[.pointer (some ⟨g,0,none⟩)] W fun e w'=>e=.returned (.tuple #[])/\Rs w0 w' g s a a f l:=by
 obtain ⟨h1,h2,v,h3,h4⟩:=h;have HH:Hid (Ra 60 #[.pointer (some ⟨g,0,none⟩)] W fun e w'=>e=.returned (.agg #[.int .i64 a,.int .i64 (pL s a),.int .i64 (pC s a)])/\Rc W w'):=vu h3 hs hba hb ha
 have HR:Hid (∀w',Rc W w'->(∀k,w'.frozen? ⟨g,k,none⟩=false)/\(w'.cell? ⟨g,4,none⟩=some (.int .i64 b)/\w'.cell? ⟨g,5,none⟩=some (.int .i64 (pL s b))/\w'.cell? ⟨g,6,none⟩=some (.int .i64 (pC s b)))/\Rs w0 (((w'.setCell ⟨g,4,none⟩ (.int .i64 a)).setCell ⟨g,5,none⟩ (.int .i64 (pL s a))).setCell ⟨g,6,none⟩ (.int .i64 (pC s a))) g s a a f l):=fun w' hb=>by
  have k1:=h1.trans (hb.mono h1.size);have k3:RB w' g s a (bf s a) (fe s a) b f v:=ag h3 hb;have k4:=h4.below hb;obtain ⟨c0,c1,c2,c3,c4,c5,c6,c7,c8⟩:=Rq.cells k3;refine ⟨fun k=>k3.frozen k,⟨c4,c5,c6⟩,?_⟩;have hne:=k4.ne k3 (by decide);refine ⟨((k1.setCell (p:=⟨g,4,none⟩) h2 _).setCell (p:=⟨g,5,none⟩) h2 _).setCell (p:=⟨g,6,none⟩) h2 _,h2,v,?_,?_⟩
  ·exact aj (aj (aj k3 4 _) 5 _) 6 _
  ·exact ((k4.kp (Kp.set _ g 4 _) hne).kp (Kp.set _ g 5 _) hne).kp (Kp.set _ g 6 _) hne
 clear h1 h3 h4
 generalize pL s a=L2 at *
 generalize pC s a=C2 at *
 go_enter Tryz.func52,Tryz.ntmps52
 go_wp2_with (go_at_call 60;refine HH.out.mono ?_;rintro e w1 ⟨rfl,hb1⟩;obtain ⟨fz,⟨c4,c5,c6⟩,h7⟩:=HR.out _ hb1;have HF:Hid (Rs w0 (((w1.setCell ⟨g,4,none⟩ (.int .i64 a)).setCell ⟨g,5,none⟩ (.int .i64 L2)).setCell ⟨g,6,none⟩ (.int .i64 C2)) g s a a f l):=h7;clear h7;have z4:=fz 4;have z5:=fz 5;have z6:=fz 6)
 go_end0
 exact ⟨rfl,HF.out⟩
theorem uQ (h:Rs w0 W g s a b f l) (hs:s.size<=2147483647) (ha:a<=s.size) (hf:f<=s.size) :
  Ra 51 #[.pointer (some ⟨g,0,none⟩)] W fun e w'=>e=.returned (.tuple #[])/\Rs w0 w' g s (a+fe s a) b (if bf s a=10 then f+1 else f) l:=by
 by_cases h10:bf s a=10
 ·rw [IO h10];obtain ⟨h1,h2,v,h3,h4⟩:=h;obtain ⟨c0,c1,c2,c3,c4,c5,c6,c7,c8⟩:=Rq.cells h3;have z7:=h3.frozen 7;obtain ⟨m1,m3,m4⟩:=Rq.set h1 h2 h3 h4 7 (.int .i64 ((f+1:Nat):Int)) (f':=f+1) rfl rfl;rw [Ve] at m1 m3 m4;have HL:Hid (Ra 98 #[.pointer (some ⟨g,0,none⟩)] (W.setCell ⟨g,7,none⟩ (.int .i64 ((f:Int)+1))) fun e w'=>e=.returned (.tuple #[])/\Rs w0 w' g s (a+fe s a) b (f+1) l):=co ⟨m1,h2,v,m3,m4⟩ hs ha;rw [h10] at c2;clear h1 h3 h4 m1 m3 m4 h10
  go_enter Tryz.func51,Tryz.ntmps51
  go_wp2_with (go_at_call 98;refine HL.out.mono ?_;rintro e w1 ⟨rfl,h5⟩)
  go_end0
  exact ⟨rfl,h5⟩
 ·rw [Eq h10];have HL:Hid (Ra 98 #[.pointer (some ⟨g,0,none⟩)] W fun e w'=>e=.returned (.tuple #[])/\Rs w0 w' g s (a+fe s a) b f l):=co h hs ha;obtain ⟨h1,h2,v,h3,h4⟩:=h;obtain ⟨c0,c1,c2,c3,c4,c5,c6,c7,c8⟩:=Rq.cells h3;have q1:(bf s a == 10)=false:=by simpa using h10
  clear h1 h3 h4 h10
  go_enter Tryz.func51,Tryz.ntmps51
  go_wp2_with (go_at_call 98;refine HL.out.mono ?_;rintro e w1 ⟨rfl,h5⟩)
  go_end0
  exact ⟨rfl,h5⟩
theorem rE (h:RB W g s a p n b f v) (hT:nX W) (hs:s.size<=2147483647) (hba:b<=a) (ha:a<=s.size) :
  Ra 102 #[.pointer (some ⟨g,0,none⟩)] W fun e w'=>e=.returned (.int .u8 (if ky (s.extract b a)=true then 2 else 1))/\Below W.heap.size W w':=by
 have HB:Hid (Ra 108 #[.pointer (some ⟨g,0,none⟩)] W fun e w'=>e=.returned (.string (s.extract b a))/\∃m,w'=W.drewN m):=jy h hs hba ha
 have HI:Hid (∀m,Ra 148 #[.string (s.extract b a)] (W.drewN m) fun e w'=>e=.returned (.bool (ky (s.extract b a)))/\Rc W w'):=fun m=>by
  refine (BE (s.extract b a) (W.drewN m) (hT.below (dR W m)).2.1).mono ?_;rintro e w' ⟨rfl,rfl⟩;exact ⟨rfl,dR W m⟩
 clear h hT
 generalize ky (s.extract b a)=k at *
 generalize s.extract b a=t at *
 cases k
 ·go_enter Tryz.func102,Tryz.ntmps102
  go_wp2_with (first|(go_at_call 108;refine HB.out.mono ?_;rintro e w1 ⟨rfl,m,rfl⟩)|(go_at_call 148;refine (HI.out _).mono ?_;rintro e w2 ⟨rfl,hb2⟩))
  go_ret
  exact ⟨rfl,hb2⟩
 ·go_enter Tryz.func102,Tryz.ntmps102
  go_wp2_with (first|(go_at_call 108;refine HB.out.mono ?_;rintro e w1 ⟨rfl,m,rfl⟩)|(go_at_call 148;refine (HI.out _).mono ?_;rintro e w2 ⟨rfl,hb2⟩))
  go_ret
  exact ⟨rfl,hb2⟩
end Go.Proofs.YtjiepkenkcgkhaaGreatDoor.Lx
