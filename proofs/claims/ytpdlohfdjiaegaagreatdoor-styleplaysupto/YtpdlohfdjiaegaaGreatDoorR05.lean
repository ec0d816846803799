import Derived.Deep.RegionWith
import Derived.Deep.RegionHeld3
import Derived.WalkMore
import Derived.ScopeJumps
import Derived.Test.YtpdlohfdjiaegaaGreatDoorR04
set_option linter.unusedVariables false
set_option linter.unusedSimpArgs false
set_option maxHeartbeats 2000000
namespace Go.Proofs.YtpdlohfdjiaegaaGreatDoor.Lx
open Go.RowKit Go.Shelf
variable {W W':World}{B:Nat}{a l c:Int}{row:Option Nat}
attribute [local go_sem] Oper.semAt_some
def plV (a l c:Int):Value:=.agg #[.int .i64 a,.int .i64 l,.int .i64 c]
def bi (W:World) (B:Nat) (a l c:Int):Prop:=W.heap[B]?=some (.cells #[.int .i64 a,.int .i64 l,.int .i64 c] 35 (0,0))
theorem bi.lt (h:bi W B a l c):B<W.heap.size:=(Au.1 h).1
theorem bi.cell0 (h:bi W B a l c):W.cell? ⟨B,0,none⟩=some (.int .i64 a):=by simp [World.cell?,show W.heap[B]?=_ from h]
theorem bi.cell1 (h:bi W B a l c):W.cell? ⟨B,1,none⟩=some (.int .i64 l):=by simp [World.cell?,show W.heap[B]?=_ from h]
theorem bi.cell2 (h:bi W B a l c):W.cell? ⟨B,2,none⟩=some (.int .i64 c):=by simp [World.cell?,show W.heap[B]?=_ from h]
theorem bi.frozen (h:bi W B a l c) (k:Nat):W.frozen? ⟨B,k,none⟩=false:=by simp [World.frozen?,show W.heap[B]?=_ from h]
theorem bi.new (W:World) (a l c:Int):bi (W.alloc (.cells #[.int .i64 a,.int .i64 l,.int .i64 c] 35)) W.heap.size a l c:=World.alloc_heap_new W _
theorem bi.kept (h:bi W B a l c) (hg:W.grownBy W' row) (hne:some B≠row):bi W' B a l c:=(hg.block B h.lt hne).trans h
theorem bi.alloc {W:World}{B:Nat}{a l c:Int}(h:bi W B a l c) (o:Obj):bi (W.alloc o) B a l c:=h.kept (World.grownBy_alloc W o none) (by simp)
theorem bi.below (h:bi W B a l c) (hb:Below W.heap.size W W'):bi W' B a l c:=(hb.block B h.lt).trans h
theorem bi.drew {W:World}{B:Nat}{a l c:Int}(h:bi W B a l c):bi W.drew B a l c:=h
theorem bi.set0 (h:bi W B a l c) (v:Int):bi (W.setCell ⟨B,0,none⟩ (.int .i64 v)) B v l c:=by
 obtain ⟨hlt,hk⟩:=Au.1 h;show (W.heap.modify B _)[B]?=_;rw [zY (by rw [AJ];exact hlt),Bs,hk];rfl
theorem bi.set1 (h:bi W B a l c) (v:Int):bi (W.setCell ⟨B,1,none⟩ (.int .i64 v)) B a v c:=by
 obtain ⟨hlt,hk⟩:=Au.1 h;show (W.heap.modify B _)[B]?=_;rw [zY (by rw [AJ];exact hlt),Bs,hk];rfl
theorem bi.set2 (h:bi W B a l c) (v:Int):bi (W.setCell ⟨B,2,none⟩ (.int .i64 v)) B a l v:=by
 obtain ⟨hlt,hk⟩:=Au.1 h;show (W.heap.modify B _)[B]?=_;rw [zY (by rw [AJ];exact hlt),Bs,hk];rfl
theorem eQ (W:World) (p:Addr) (v:Value):W.grownBy (W.setCell p v) (some p.block):=
 ⟨rfl,rfl,rfl,(KeepsWalks.setCell W _ v).size,fun k _ hk=>Cm _ _ _ k (fun e=>hk (by rw [e]))⟩
theorem gw (h:bi W B a l c) (hg:W.grownBy W' row) (hr:∀r,row=some r->∃o:Obj,W.heap[r]?=some o/\o.isCells=false):bi W' B a l c:=
 h.kept hg (fun e=>by
  obtain ⟨o,ho,hc⟩:=hr B e.symm;rw [show W.heap[B]?=_ from h] at ho;cases ho;cases hc)
theorem tW {W:World}{B:Nat}{a l c:Int}(h:bi W B a l c) {D:Nat}{o o':Obj}(hK:W.heap[D]?=some o) (ho:o.isCells=false):bi (W.putObj D o') B a l c:=
 gw h (grownBy_putObj' W D o') (fun r e=>by cases e;exact ⟨o,hK,ho⟩)
theorem tL (s:ByteArray) (w:World) (hs:s.size<=maxLen) :
  Aa 186 #[.string s] w fun e w'=>e=.returned (.int .i64 (P s).length)/\Below w.heap.size w w':=
 (qx s w hs).mono (fun e w' h=>⟨h.1,by obtain ⟨p,rfl⟩:=h.2;exact cd _ _ _⟩)
def eu (q:Int × Int) (x:Ln):Int × Int:=if 1<x.1.1 then (wrap64 (q.1+1),wrap64 (1+(P x.1.2).length)) else (q.1,wrap64 (q.2+(P x.1.2).length))
def ff (l c:Int) (xs:List Ln):Int × Int:=xs.foldl eu (l,c)
theorem iQ (l c:Int) (xs:List Ln) (x:Ln):ff l c (xs++[x])=eu (ff l c xs) x:=by unfold ff;rw [List.foldl_append];rfl
theorem oy (s:ByteArray) (l c:Int):∀(k:Nat) (xs:List Ln),xs.map (·.1)=upto s k->0<k->ff l c xs=(wrap64 (l+(k-1:Nat)),wrap64 ((if k=1 then c else 1)+(P (ln s (k-1))).length))\/(k=1/\ff l c xs=(l,wrap64 (c+(P (ln s 0)).length)))
 |0,_,_,h=>by omega
 |k+1,xs,hx,_=>by
  rw [fY] at hx
  obtain ⟨xs',y,rfl,h1,h2⟩:∃xs' y,xs=xs'++[y]/\xs'.map (·.1)=upto s k/\y.1=(((k+1:Nat):Int),ln s k):=by
   rcases List.eq_nil_or_concat xs with rfl|⟨xs',y,rfl⟩
   ·simp at hx
   ·rw [List.concat_eq_append,BO] at hx;have:=List.append_inj' hx (by simp);exact ⟨xs',y,by rw [List.concat_eq_append],this.1,by simpa using this.2⟩
  rw [iQ];unfold eu;rw [h2]
  by_cases hk:k=0
  ·subst hk
   right
   obtain rfl:xs'=[]:=by simpa [upto] using h1
   rw [zu (by simp)];exact ⟨rfl,rfl⟩
  ·left
   rw [zw (by show (1:Int)<((k+1:Nat):Int);omega),zu (by omega)];show (_,_)=(_,_)
   congr 1
   rcases oy s l c k xs' h1 (by omega) with e|⟨rfl,e⟩
   ·rw [e];show wrap64 (wrap64 (l+((k-1:Nat):Int))+1)=_;rw [ig];congr 1;omega
   ·rw [e];rfl
theorem uj (x:Int) (h:-9223372036854775808<=x/\x<=9223372036854775807):wrap64 x=x:=by unfold wrap64;omega
theorem xK (s:ByteArray) (l c:Int) (hl:-9223372036854775808<=l/\l<=9223372036854775807) (xs:List Ln) (hx:xs.map (·.1)=upto s (LN s)):ff l c xs=(dD l s,gx c s):=by
 have hln:=vA s;unfold dD gx
 rcases oy s l c (LN s) xs hx (by unfold LN;omega) with e|⟨h1,e⟩
 ·rw [e];unfold LN;rw [show cn s s.size+1-1=cn s s.size by omega,hln]
  by_cases hz:cn s s.size=0
  ·rw [zw (by omega),zw hz]
  ·rw [zu (by omega),zu hz]
 ·have hz:cn s s.size=0:=by unfold LN at h1;omega
  rw [hz] at hln;rw [e,hz,zw rfl,hln]
  congr 1
  rw [uj _ (by simp;exact hl)];simp
set_option maxRecDepth 100000 in
theorem wF (a0 l0 c0:Int) (s:ByteArray) (w:World) (hs:s.size<=2147483647) (hl0:-9223372036854775808<=l0/\l0<=9223372036854775807) :
  Aa 143 #[.agg #[.int .i64 a0,.int .i64 l0,.int .i64 c0],.string s] w fun e w'=>e=.returned (plV (aAt a0 s) (dD l0 s) (gx c0 s))/\Below w.heap.size w w':=by
 refine (A9 (n:=9)).1 ?_;refine callsIn_of_wp_marks Tryz.func143 rfl trivial ?_ rfl;simp only [Tryz.ntmps143,Bv,List.length_cons,Ao,Nat.reduceAdd,Nat.reduceSub,A6,A7,By,Bb,Ay,AI]
 gi_wp2
 refine ⟨trivial,?_⟩;refine (A9.2 (pY _ _)).mono ?_;rintro e w1 ⟨rfl,rfl⟩
 gi_wp2
 obtain ⟨a1,ha1⟩:∃a1,wrap64 (a0+(s.size:Int))=a1:=⟨_,rfl⟩;rw [ha1];have HA:Hid (aAt a0 s=a1):=ha1;clear ha1;obtain ⟨W0,hW0⟩:∃W0,(((w.alloc (Obj.cells #[Value.int IntKind.i64 a1,Value.int IntKind.i64 l0,Value.int IntKind.i64 c0] 35)).alloc (Obj.cells #[Value.int IntKind.i64 0,Value.int IntKind.i64 0,Value.int IntKind.i64 0] 35)).alloc (Obj.cells #[Value.string s] 9))=W0:=⟨_,rfl⟩;have hsz:W0.heap.size=w.heap.size+1+1+1:=by rw [<-hW0];simp
 have b0:bi W0 w.heap.size a1 l0 c0:=by rw [<-hW0];exact ((bi.new w _ _ _).alloc _).alloc _
 have b1:bi W0 (w.heap.size+1) 0 0 0:=by rw [<-hW0];have:=(bi.new (w.alloc (Obj.cells #[Value.int IntKind.i64 a1,Value.int IntKind.i64 l0,Value.int IntKind.i64 c0] 35)) 0 0 0).alloc (Obj.cells #[Value.string s] 9);rw [ge] at this;exact this
 have b2:Boxed W0 (w.heap.size+1+1) 9 (.string s):=by rw [<-hW0];have:=Boxed.new ((w.alloc (Obj.cells #[Value.int IntKind.i64 a1,Value.int IntKind.i64 l0,Value.int IntKind.i64 c0] 35)).alloc (Obj.cells #[Value.int IntKind.i64 0,Value.int IntKind.i64 0,Value.int IntKind.i64 0] 35)) 9 (.string s);rw [ge,ge] at this;exact this
 have hB0:Below w.heap.size w W0:=by rw [<-hW0];exact (((gt _ w).alloc (eq _) _).alloc (by simp) _).alloc (by simp;omega) _
 rw [hW0];clear hW0;have hmx:Tryz.prog.follows .mixedOrders=true:=by kernel_rfl
 refine wpIn_rangeFunc_ownF rfl (by omega) (gf:=215) (lb:=#[.pointer (some ⟨w.heap.size+1+1,0,none⟩)]) rfl trivial (enters_of Tryz.func215 (by kernel_rfl) rfl)
  (ly 8 (by omega) (w.heap.size+1+1) s hs W0 (by omega) b2.cell) (fun _ _=>trivial) (fun _ _ _ _ _ _ _ _=>trivial) (gt _ _) (fun _=>rfl)
  (fun pre W=>(bi W w.heap.size a1 (ff l0 c0 pre).1 (ff l0 c0 pre).2/\bi W (w.heap.size+1) 0 0 0)/\Below w.heap.size w W)
  (fun _ _ _=>False)
  (OwnFrom.and (Own.from (fun s A B row hs hg hr=>⟨gw hs.1 hg hr,gw hs.2 hg hr⟩) _) (ownFrom_below (eq _) (by omega)))
  (fun _ _ _ _ _ hs _ _=>hs)
  ⟨⟨b0,b1⟩,hB0⟩
  (fun x=>{ tmps:=#[.agg #[.int .i64 a0,.int .i64 l0,.int .i64 c0],.string s,.pointer (some ⟨w.heap.size,0,none⟩),undef,.pointer (some ⟨w.heap.size+1,0,none⟩),.int .i64 x.1.1,.string x.1.2,.pointer (some ⟨w.heap.size,0,none⟩),.int .i64 a0,.string s,.int .i64 s.size,.int .i64 a1,.pointer (some ⟨w.heap.size,0,none⟩),.string s,.func (.func 215) #[] #[.pointer (some ⟨w.heap.size+1+1,0,none⟩)],.int .i64 x.1.1,.string x.1.2,undef,undef,undef,undef,undef,undef,undef,undef,undef,undef,undef,undef,undef,undef],defers:=[] }) ?assign ?body ?done ?stop
 case assign=>
  intro l x W K hK
  gi_wp2
  exact hK
 case body=>
  rintro l pre x W ⟨⟨k0,k1⟩,hB⟩ _;obtain ⟨q,hq⟩:∃q,ff l0 c0 pre=q:=⟨_,rfl⟩;have HQ:Hid (ff l0 c0 (pre++[x])=eu q x):=by show _=_;rw [iQ,hq]
  rw [hq] at k0;clear hq;have g1:=k0.cell1;have g2:=k0.cell2;have f1:=k0.frozen 1;have f2:=k0.frozen 2;have hcount:∀w,Aa 186 #[.string x.1.2] w fun e w'=>e=.returned (.int .i64 (P x.1.2).length)/\Below w.heap.size w w':=fun w=>tL _ w x.2
  by_cases hx:1<x.1.1
  ·have HX:Hid (eu q x=(wrap64 (q.1+1),wrap64 (1+(P x.1.2).length))):=by show _=_;unfold eu;rw [zw hx]
   gi_wp2
   have r0:=(k0.set1 (wrap64 (q.1+1))).set2 1;have r1:=(k1.kept (eQ W ⟨w.heap.size,1,none⟩ (.int .i64 (wrap64 (q.1+1)))) (by simp)).kept (eQ _ ⟨w.heap.size,2,none⟩ (.int .i64 1)) (by simp);have hkW:=(KeepsOthers.setCell W ⟨w.heap.size,1,none⟩ (.int .i64 (wrap64 (q.1+1)))).trans (KeepsOthers.setCell _ ⟨w.heap.size,2,none⟩ (.int .i64 1));have hB1:=(hB.setCell (p:=⟨w.heap.size,1,none⟩) (eq _) (.int .i64 (wrap64 (q.1+1)))).setCell (p:=⟨w.heap.size,2,none⟩) (eq _) (.int .i64 1);obtain ⟨Wm,hWm⟩:∃Wm,(W.setCell ⟨w.heap.size,1,none⟩ (.int .i64 (wrap64 (q.1+1)))).setCell ⟨w.heap.size,2,none⟩ (.int .i64 1)=Wm:=⟨_,rfl⟩;rw [hWm] at r0 r1 hkW hB1 ⊢;clear hWm g1 g2 f1 f2;have g2:=r0.cell2;have f2:=r0.frozen 2
   gi_region_with_o (refine ⟨trivial,?_⟩;gi_at_call 186;refine (CallsIn.inRound l (A9.2 (hcount _))).mono ?_;rintro e w1 ⟨rfl,hb1⟩;have g3:=(r0.drew.below hb1).cell2;have f3:=(r0.drew.below hb1).frozen 2)
   all_goals gi_wp2
   all_goals (try go_bits)
   all_goals exact ⟨((hkW.trans (KeepsOthers.drew _)).trans (eF hb1)).trans (KeepsOthers.setCell _ _ _),trivial,⟨by rw [HQ.out,HX.out];exact (r0.drew.below hb1).set2 _,(bi.drew r1 |>.below hb1).kept (eQ _ _ _) (by simp)⟩,(hB1.drew.trans (hb1.mono hB1.size)).setCell (p:=⟨w.heap.size,2,none⟩) (eq _) _⟩
  ·have HX:Hid (eu q x=(q.1,wrap64 (q.2+(P x.1.2).length))):=by show _=_;unfold eu;rw [zu hx]
   gi_wp2
   gi_region_with_o (refine ⟨trivial,?_⟩;gi_at_call 186;refine (CallsIn.inRound l (A9.2 (hcount _))).mono ?_;rintro e w1 ⟨rfl,hb1⟩;have g3:=(k0.drew.below hb1).cell2;have f3:=(k0.drew.below hb1).frozen 2)
   all_goals gi_wp2
   all_goals (try go_bits)
   all_goals exact ⟨((KeepsOthers.drew _).trans (eF hb1)).trans (KeepsOthers.setCell _ _ _),trivial,⟨by rw [HQ.out,HX.out];exact (k0.drew.below hb1).set2 _,(k1.drew.below hb1).kept (eQ _ _ _) (by simp)⟩,(hB.drew.trans (hb1.mono hB.size)).setCell (p:=⟨w.heap.size,2,none⟩) (eq _) _⟩
 case done=>
  rintro D ys W hD hS ⟨⟨k0,k1⟩,hB⟩ hK;rw [xK s l0 c0 hl0 ys hS] at k0;obtain ⟨L,hL⟩:∃L,dD l0 s=L:=⟨_,rfl⟩;obtain ⟨C,hC⟩:∃C,gx c0 s=C:=⟨_,rfl⟩;rw [hL,hC] at k0;have HL:Hid (dD l0 s=L):=hL;have HC:Hid (gx c0 s=C):=hC;clear hL hC;have g0:=k0.cell0;have g1:=k0.cell1;have g2:=k0.cell2;have e0:=k1.cell0;have e1:=k1.cell1;have e2:=k1.cell2;have f0:=k1.frozen 0;have f1:=k1.frozen 1;have f2:=k1.frozen 2
  gi_wp2
  have hK':=(((KeepsOthers.setCell W ⟨w.heap.size+1,0,none⟩ (.int .i64 a1)).trans (KeepsOthers.setCell _ ⟨w.heap.size+1,1,none⟩ (.int .i64 L))).trans (KeepsOthers.setCell _ ⟨w.heap.size+1,2,none⟩ (.int .i64 C))).same D _ hK rfl;have j1:=((k1.set0 a1).set1 L).set2 C;have hB3:=((hB.setCell (p:=⟨w.heap.size+1,0,none⟩) (by simp) (.int .i64 a1)).setCell (p:=⟨w.heap.size+1,1,none⟩) (by simp) (.int .i64 L)).setCell (p:=⟨w.heap.size+1,2,none⟩) (by simp) (.int .i64 C);have m:=tW (o':=.deferred none) j1 hK' rfl;have m0:=m.cell0;have m1:=m.cell1;have m2:=m.cell2;refine ⟨by simp,.inl ⟨_,_,rfl,run_takeDeferred hK',?_⟩⟩;refine ⟨.agg #[.int .i64 a1,.int .i64 L,.int .i64 C],?_,by rw [HA.out,HL.out,HC.out];rfl,hB3.trans (belowK_b (w:=w) (eq _) _ D _ _ (by omega) hK' rfl rfl)⟩;simp [results,Tryz.f143,go_sem,m0,m1,m2]
 case stop=>
  rintro D c pre W _ _ h _;exact h.elim
theorem pc (w:World) :
  Aa 49 #[] w fun e w'=>e=.returned (.agg #[.int .i64 0,.int .i64 1,.int .i64 1])/\Below w.heap.size w w':=by
 go_enter Tryz.func49,Tryz.ntmps49
 go_wp2
 have hb0:=bi.new w 0 1 1;have g0:=hb0.cell0;have g1:=hb0.cell1;have g2:=hb0.cell2;refine zE (v:=.agg #[.int .i64 0,.int .i64 1,.int .i64 1]) (by simp [results,Tryz.f49,go_sem,g0,g1,g2]) rfl ?_;exact ⟨rfl,(gt _ _).alloc (eq _) _⟩
theorem wE (a0 l0 c0:Int) (s:ByteArray) (w:World) (hs:s.size<=2147483647) (hl0:-9223372036854775808<=l0/\l0<=9223372036854775807) :
  Aa 143 #[.agg #[.int .i64 a0,.int .i64 l0,.int .i64 c0],.string s] w fun e w'=>e=.returned (.agg #[.int .i64 (aAt a0 s),.int .i64 (dD l0 s),.int .i64 (gx c0 s)])/\Below w.heap.size w w':=
 wF a0 l0 c0 s w hs hl0
end Go.Proofs.YtpdlohfdjiaegaaGreatDoor.Lx
namespace Go.Proofs.YtpdlohfdjiaegaaGreatDoor.Lx
open Go.RowKit
variable {s:ByteArray}{a g b f:Nat}{W w0:World}{p n:Int}{l:List Tv}{v:Value}
def rpt (s:ByteArray) (a:Nat):Int:=if a<s.size then (dp s a:Int) else -1
def rsz (s:ByteArray) (a:Nat):Nat:=if a<s.size then dw s a else 0
theorem dF (h:a<s.size):rpt s a=dp s a:=by unfold rpt;rw [zw h]
theorem fD (h:s.size<=a):rpt s a=-1:=by unfold rpt;rw [zu (by omega)]
theorem aV (h:a<s.size):rsz s a=dw s a:=by unfold rsz;rw [zw h]
theorem du (h:s.size<=a):rsz s a=0:=by unfold rsz;rw [zu (by omega)]
theorem rB (s:ByteArray) (a:Nat) (h:a<=s.size):a+rsz s a<=s.size:=by
 by_cases e:a<s.size
 ·rw [aV e];exact (aJ s a e).2.2
 ·rw [du (by omega)];exact h
theorem jW (s:ByteArray) (a:Nat):-1<=rpt s a/\rpt s a<=1114111:=by
 unfold rpt;have:=lT s a
 split <;> omega
def RB (W:World) (g:Nat) (s:ByteArray) (a:Nat) (p n:Int) (b:Nat) (f:Nat) (v:Value):Prop:=
 W.heap[g]?=some (.cells #[.string s,.int .i64 a,.int .i32 p,.int .i64 n,.int .i64 b,.int .i64 (pL s b),.int .i64 (pC s b),.int .i64 f,v] 100 (0,0))
structure Rq (w0 W:World) (g:Nat) (s:ByteArray) (a:Nat) (p n:Int) (b f:Nat) (l:List Tv):Prop where
 bel:Below w0.heap.size w0 W
 g0:w0.heap.size<=g
 blk:∃v,RB W g s a p n b f v/\Rt w0.heap.size W v l
def Rs (w0 W:World) (g:Nat) (s:ByteArray) (a b f:Nat) (l:List Tv):Prop:=Rq w0 W g s a (rpt s a) (rsz s a) b f l
theorem Rq.below {W':World}(h:Rq w0 W g s a p n b f l) (hb:Below W.heap.size W W'):Rq w0 W' g s a p n b f l:=by
 obtain ⟨h1,h2,v,h3,h4⟩:=h;exact ⟨h1.trans (hb.mono h1.size),h2,v,ab h3 hb,h4.below hb⟩
theorem Rq.set (h1:Below w0.heap.size w0 W) (h2:w0.heap.size<=g) (h3:RB W g s a p n b f v) (h4:Rt w0.heap.size W v l) (k:Nat) (u:Value)
  {s':ByteArray} {a':Nat} {p' n':Int} {b' f':Nat} {v':Value} (he:#[.string s,.int .i64 a,.int .i32 p,.int .i64 n,.int .i64 b,.int .i64 (pL s b),.int .i64 (pC s b),.int .i64 f,v].setIfInBounds k u=#[.string s',.int .i64 a',.int .i32 p',.int .i64 n',.int .i64 b',.int .i64 (pL s' b'),.int .i64 (pC s' b'),.int .i64 f',v']) (hv:v'=v) :
  Below w0.heap.size w0 (W.setCell ⟨g,k,none⟩ u)/\RB (W.setCell ⟨g,k,none⟩ u) g s' a' p' n' b' f' v'/\Rt w0.heap.size (W.setCell ⟨g,k,none⟩ u) v' l:=by
 refine ⟨h1.setCell (p:=⟨g,k,none⟩) h2 u,?_,?_⟩
 ·have:=af h3 k u;rw [he] at this;exact this
 ·rw [hv];exact h4.kp (Kp.set W g k u) (h4.ne h3 (by decide))
theorem Rq.cells {W:World}{g:Nat}{s:ByteArray}{a:Nat}{p n:Int}{b f:Nat}{v:Value}(h:RB W g s a p n b f v) :
  W.cell? ⟨g,0,none⟩=some (.string s)/\W.cell? ⟨g,1,none⟩=some (.int .i64 a)/\W.cell? ⟨g,2,none⟩=some (.int .i32 p)/\W.cell? ⟨g,3,none⟩=some (.int .i64 n)/\W.cell? ⟨g,4,none⟩=some (.int .i64 b) /\
  W.cell? ⟨g,5,none⟩=some (.int .i64 (pL s b))/\W.cell? ⟨g,6,none⟩=some (.int .i64 (pC s b))/\W.cell? ⟨g,7,none⟩=some (.int .i64 f)/\W.cell? ⟨g,8,none⟩=some v:=
 ⟨aa h rfl,aa h rfl,aa h rfl,aa h rfl,aa h rfl,aa h rfl,aa h rfl,aa h rfl,aa h rfl⟩
theorem RB.frozen (h:RB W g s a p n b f v) (k:Nat):W.frozen? ⟨g,k,none⟩=false:=aj h
theorem zk (p q:Int):(false || decide (p=q))=(p == q):=by rw [AR];simp
theorem aU (p:Int) (w:World) :
  Aa 87 #[.int .i32 p] w fun e w'=>e=.returned (.bool (decide (48<=p) && decide (p<=57)))/\w'=w:=by
 by_cases h:48<=p
 ·have e:(decide (48<=p) && decide (p<=57))=decide (p<=57):=by rw [zB h];rfl
  rw [e];clear e
  go_enter Tryz.func87,Tryz.ntmps87
  go_wp2_with fail
  go_ret
  exact ⟨rfl,rfl⟩
 ·have e:(decide (48<=p) && decide (p<=57))=false:=by rw [zA h];rfl
  rw [e];clear e
  go_enter Tryz.func87,Tryz.ntmps87
  go_wp2_with fail
  go_ret
  exact ⟨rfl,rfl⟩
theorem bK (p:Int) (w:World) :
  Aa 140 #[.int .i32 p] w fun e w'=>e=.returned (.bool (decide (p<32) || decide (p=127)))/\w'=w:=by
 by_cases h:p<32
 ·have e:(decide (p<32) || decide (p=127))=true:=by rw [zB h];rfl
  rw [e];clear e
  go_enter Tryz.func140,Tryz.ntmps140
  go_wp2_with fail
  go_ret
  exact ⟨rfl,rfl⟩
 ·have e:(decide (p<32) || decide (p=127))=(p == 127):=by rw [zA h];exact zk _ _
  rw [e];clear e
  go_enter Tryz.func140,Tryz.ntmps140
  go_wp2_with fail
  go_ret
  exact ⟨rfl,rfl⟩
theorem bC (p:Int) (w:World) :
  Aa 139 #[.int .i32 p] w fun e w'=>e=.returned (.bool (decide (p=10) || decide (p=-1)))/\w'=w:=by
 by_cases h:p=10
 ·subst h
  go_enter Tryz.func139,Tryz.ntmps139
  go_wp2_with fail
  go_ret
  exact ⟨rfl,rfl⟩
 ·have e:(decide (p=10) || decide (p=-1))=(p == -1):=by rw [zA h];exact zk _ _
  have h1:(p == 10)=false:=by simpa using h
  rw [e];clear e h
  go_enter Tryz.func139,Tryz.ntmps139
  go_wp2_with fail
  go_ret
  exact ⟨rfl,rfl⟩
theorem lx (h:Rq w0 W g s a p n b f l) (hs:s.size<=2147483647) (ha:a<=s.size) :
  Aa 50 #[.pointer (some ⟨g,0,none⟩)] W fun e w'=>e=.returned (.tuple #[])/\Rs w0 w' g s a b f l:=by
 obtain ⟨h1,h2,v,h3,h4⟩:=h;obtain ⟨c0,c1,c2,c3,c4,c5,c6,c7,c8⟩:=Rq.cells h3
 by_cases hlt:a<s.size
 ·have hd:=lT s a;obtain ⟨hw1,hw2,hw3⟩:=aJ s a hlt
  have HN:Hid (∀w,Aa 82 #[.string s,.int .i64 a] w fun e w'=>e=.returned (.tuple #[.int .i64 (dp s a),.int .i64 (dw s a),.bool (gd s a)])/\Ab w w'):=fun w=>by
   have:=oj s a w (by unfold maxLen;omega) (by omega) (by omega);rw [BZ] at this;exact this
  have HR:Hid (∀w',Ab W w'->Ab w0 w'/\RB w' g s a p n b f v/\Rt w0.heap.size w' v l):=fun w' hb=>⟨h1.trans (hb.mono h1.size),ab h3 hb,h4.below hb⟩
  have HK:Hid (∀V,Ab W V->V.cell? ⟨g,0,none⟩=some (.string s)/\V.cell? ⟨g,1,none⟩=some (.int .i64 a)/\Ab W V):=fun V hV=>⟨aa (ab h3 hV) rfl,aa (ab h3 hV) rfl,hV⟩
  have e1:=dF hlt;have e2:=aV hlt;have HE:Hid (rpt s a=dp s a/\rsz s a=dw s a):=⟨e1,e2⟩
  generalize dp s a=x at *
  generalize dw s a=y at *
  generalize gd s a=z at *
  clear e1 e2 h1 h3 h4 c0 c1 c2 c3 c4 c5 c6 c7 c8
  go_enter D6,DU
  go_wp2_with fail
  go_region_held3 (fun w'=>w'.cell? ⟨g,0,none⟩=some (.string s)/\w'.cell? ⟨g,1,none⟩=some (.int .i64 a)/\Below W.heap.size W w') (first|(exact HK.out _ (by assumption))|(exact HK.out _ (gt _ _).drew)|go_keep) (first|(go_at_call 82;refine (HN.out _).mono ?_;rintro e w1 ⟨rfl,hb1⟩;have hbW:=(by first|exact (gt W.heap.size W).drew.trans (hb1.mono (eq _))|exact (by assumption:Below W.heap.size W _).trans (hb1.mono (Ci (by assumption))):Below W.heap.size W w1)))
  all_goals (
   obtain ⟨k1,k3,k4⟩:=HR.out _ hbW;have z2:=k3.frozen 2;have z3:=k3.frozen 3;obtain ⟨_,_,c2,c3,_⟩:=Rq.cells k3;obtain ⟨m1,m3,m4⟩:=Rq.set k1 h2 k3 k4 2 (.int .i32 x) (p':=x) rfl rfl;obtain ⟨n1,n3,n4⟩:=Rq.set m1 h2 m3 m4 3 (.int .i64 y) (n':=y) rfl rfl;have HF:Hid (Rs w0 ((w1.setCell ⟨g,2,none⟩ (.int .i32 x)).setCell ⟨g,3,none⟩ (.int .i64 y)) g s a b f l):=⟨n1,h2,v,by rw [HE.out.1,HE.out.2];exact n3,n4⟩;clear k1 k3 k4 m1 m3 m4 n1 n3 n4
   go_wp2_with fail
   go_end0
   exact ⟨rfl,HF.out⟩)
 ·have HN:Hid (∀w,Aa 82 #[.string s,.int .i64 a] w fun e w'=>e=.returned (.tuple #[.int .i64 0,.int .i64 0,.bool false])/\Ab w w'):=fun w=>ls s a w (by unfold maxLen;omega) (.inr (by omega))
  have HR:Hid (∀w',Ab W w'->Ab w0 w'/\RB w' g s a p n b f v/\Rt w0.heap.size w' v l):=fun w' hb=>⟨h1.trans (hb.mono h1.size),ab h3 hb,h4.below hb⟩
  have HK:Hid (∀V,Ab W V->V.cell? ⟨g,0,none⟩=some (.string s)/\V.cell? ⟨g,1,none⟩=some (.int .i64 a)/\Ab W V):=fun V hV=>⟨aa (ab h3 hV) rfl,aa (ab h3 hV) rfl,hV⟩
  have HE:Hid (rpt s a=-1/\rsz s a=0):=⟨fD (by omega),du (by omega)⟩;clear h1 h3 h4 c0 c1 c2 c3 c4 c5 c6 c7 c8
  go_enter D6,DU
  go_wp2_with fail
  go_region_held3 (fun w'=>w'.cell? ⟨g,0,none⟩=some (.string s)/\w'.cell? ⟨g,1,none⟩=some (.int .i64 a)/\Below W.heap.size W w') (first|(exact HK.out _ (by assumption))|(exact HK.out _ (gt _ _).drew)|go_keep) (first|(go_at_call 82;refine (HN.out _).mono ?_;rintro e w1 ⟨rfl,hb1⟩;have hbW:=(by first|exact (gt W.heap.size W).drew.trans (hb1.mono (eq _))|exact (by assumption:Below W.heap.size W _).trans (hb1.mono (Ci (by assumption))):Below W.heap.size W w1)))
  all_goals (
   obtain ⟨k1,k3,k4⟩:=HR.out _ hbW;have z2:=k3.frozen 2;have z3:=k3.frozen 3;obtain ⟨_,_,c2,c3,_⟩:=Rq.cells k3;obtain ⟨m1,m3,m4⟩:=Rq.set k1 h2 k3 k4 2 (.int .i32 0) (p':=0) rfl rfl;obtain ⟨n1,n3,n4⟩:=Rq.set m1 h2 m3 m4 3 (.int .i64 0) (n':=0) rfl rfl;obtain ⟨o1,o3,o4⟩:=Rq.set n1 h2 n3 n4 2 (.int .i32 (-1)) (p':=-1) rfl rfl;have HF:Hid (Rs w0 (((w1.setCell ⟨g,2,none⟩ (.int .i32 0)).setCell ⟨g,3,none⟩ (.int .i64 0)).setCell ⟨g,2,none⟩ (.int .i32 (-1))) g s a b f l):=⟨o1,h2,v,by rw [HE.out.1,HE.out.2];exact o3,o4⟩;clear k1 k3 k4 m1 m3 m4 n1 n3 n4 o1 o3 o4
   go_wp2_with fail
   go_end0
   exact ⟨rfl,HF.out⟩)
theorem bG (W:World) (m:Nat):Below W.heap.size W (W.drewN m):=bz (gt _ _) m
theorem eX (h:RB W g s a p n b f v) (hs:s.size<=2147483647) (hba:b<=a) (ha:a<=s.size) :
  Aa 144 #[.pointer (some ⟨g,0,none⟩)] W fun e w'=>e=.returned (.string (s.extract b a))/\∃m,w'=W.drewN m:=by
 obtain ⟨c0,c1,c2,c3,c4,c5,c6,c7,c8⟩:=Rq.cells h;have q1:(b:Int)<=a:=by omega
 have q2:(a:Int)<=s.size:=by omega
 clear h
 go_enter Tryz.func144,Tryz.ntmps144
 go_wp2_with fail
 go_quiet (fail)
 go_wp2_with fail
 go_ret
 exact ⟨rfl,_,rfl⟩
theorem bq (h:Rs w0 W g s a b f l) (hs:s.size<=2147483647) (ha:a<=s.size) :
  Aa 133 #[.pointer (some ⟨g,0,none⟩)] W fun e w'=>e=.returned (.tuple #[])/\Rs w0 w' g s (a+rsz s a) b f l:=by
 have hle:=rB s a ha;obtain ⟨h1,h2,v,h3,h4⟩:=h;obtain ⟨c0,c1,c2,c3,c4,c5,c6,c7,c8⟩:=Rq.cells h3;have z1:=h3.frozen 1;obtain ⟨m1,m3,m4⟩:=Rq.set h1 h2 h3 h4 1 (.int .i64 ((a+rsz s a:Nat):Int)) (a':=a+rsz s a) rfl rfl;have hwr:IntKind.i64.wrap ((a:Int)+(rsz s a:Int))=(a:Int)+(rsz s a:Int):=by rw [zF];omega
 have HL:Hid (∀V,Below (W.setCell ⟨g,1,none⟩ (.int .i64 ((a:Int)+(rsz s a:Int)))).heap.size (W.setCell ⟨g,1,none⟩ (.int .i64 ((a:Int)+(rsz s a:Int)))) V->Aa 50 #[.pointer (some ⟨g,0,none⟩)] V fun e w'=>e=.returned (.tuple #[])/\Rs w0 w' g s (a+rsz s a) b f l):=by
  intro V hV;rw [DW] at m1 m3 m4;exact lx (Rq.below ⟨m1,h2,v,m3,m4⟩ hV) hs hle
 generalize rsz s a=y at *
 clear h1 h3 h4 m1 m3 m4
 go_enter Tryz.func133,Tryz.ntmps133
 go_wp2_with fail
 go_region_law (fail)
 all_goals (
  go_wp2_with (go_at_call 50;refine (HL.out _ (gt _ _).drew).mono ?_;rintro e w1 ⟨rfl,h5⟩)
  go_end0
  exact ⟨rfl,h5⟩)
end Go.Proofs.YtpdlohfdjiaegaaGreatDoor.Lx
