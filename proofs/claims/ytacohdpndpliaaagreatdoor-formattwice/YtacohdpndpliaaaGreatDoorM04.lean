import Derived.Deep.RegionWith
import Derived.Deep.RegionHeld3
import Derived.WalkMore
import Derived.ScopeJumps
import Derived.Shelf.Strings.SlTrimAscii
import Derived.Shelf.Strings.Runes
import Derived.Shelf.Small.Utf8
import Derived.Shelf.LaysM
import Derived.Shelf.Strconv.Clone
import Derived.Shelf.Strings.Search1
import Derived.Laws.Runes
import Derived.Test.YtacohdpndpliaaaGreatDoorM03
set_option linter.all false
set_option maxHeartbeats 2000000
set_option maxRecDepth 1000000
namespace Go.Proofs.YtacohdpndpliaaaGreatDoor.Lx
open Go.Proofs.Tryz
open Go.RowKit Go.Shelf
variable {s R:ByteArray}{a g b f:Nat}{W w0:World}{p n:Int}{l:List Tv}{v:Value}
theorem qM (w:World) :
  Qu 35 #[] w fun e w'=>e=.returned (.agg #[.int .i64 0,.int .i64 1,.int .i64 1])/\Qv w w':=by
 go_enter func35,ntmps35
 go_wp2
 have hb0:=bV.new w 0 1 1;have g0:=hb0.cell0;have g1:=hb0.cell1;have g2:=hb0.cell2;refine QK (v:=.agg #[.int .i64 0,.int .i64 1,.int .i64 1]) (by simp [results,Tryz.f35,go_sem,g0,g1,g2]) rfl ?_;exact ⟨rfl,(hH _ _).alloc (gt _) _⟩
theorem Av (a0 l0 c0:Int) (s:ByteArray) (w:World) (hs:s.size<=2147483647) (hl0:-9223372036854775808<=l0/\l0<=9223372036854775807) :
  Qu 147 #[.agg #[.int .i64 a0,.int .i64 l0,.int .i64 c0],.string s] w fun e w'=>e=.returned (.agg #[.int .i64 (Lc a0 s),.int .i64 (fq l0 s),.int .i64 (jF c0 s)])/\Qv w w':=
 Kn a0 l0 c0 s w hs hl0
theorem N7 (s:ByteArray) (n:Nat) (w:World) (hs:s.size<=2147483647) (hn:n<=s.size) :
  Qu 68 #[.string s,.int .i64 n] w fun e w'=>e=.returned (.tuple #[.agg #[.int .i64 (Lc 0 (s.extract 0 n)),.int .i64 (fq 1 (s.extract 0 n)),.int .i64 (jF 1 (s.extract 0 n))],.int .i64 0])/\Below w.heap.size w w':=by
 have hz:=az s 0 n hn;have hadv:∀w,Qu 147 #[.agg #[.int .i64 0,.int .i64 1,.int .i64 1],.string (s.extract 0 n)] w fun e w'=>e=.returned (.agg #[.int .i64 (Lc 0 (s.extract 0 n)),.int .i64 (fq 1 (s.extract 0 n)),.int .i64 (jF 1 (s.extract 0 n))])/\Below w.heap.size w w':=fun w=>Av 0 1 1 _ w (by omega) (by omega)
 obtain ⟨a,ha⟩:∃a,Lc 0 (s.extract 0 n)=a:=⟨_,rfl⟩;obtain ⟨l,hl⟩:∃a,fq 1 (s.extract 0 n)=a:=⟨_,rfl⟩;obtain ⟨c,hc⟩:∃a,jF 1 (s.extract 0 n)=a:=⟨_,rfl⟩;simp only [ha,hl,hc] at hadv ⊢;clear ha hl hc hz;have h1:¬((n:Int)<0):=by omega
 have h2:¬((s.size:Int)<(n:Int)):=by omega
 have hb0:=bV.new w 0 0 0
 go_enter func68,ntmps68
 go_wp2
 go_region_with (first|(go_at_call 35;refine (qM _).mono ?_;rintro e w1 ⟨rfl,hb1⟩;have hb3:=hb0.drew.below hb1)|(go_at_call 147;refine (hadv _).mono ?_;rintro e w2 ⟨rfl,hb2⟩;have hb4:=hb3.below hb2;have g0:=hb4.cell0;have g1:=hb4.cell1;have g2:=hb4.cell2;have f0:=hb4.frozen 0;have f1:=hb4.frozen 1;have f2:=hb4.frozen 2))
 all_goals go_wp2
 all_goals
  have hb5:=((hb4.set0 a).set1 l).set2 c;have m0:=hb5.cell0;have m1:=hb5.cell1;have m2:=hb5.cell2;refine QK (v:=.tuple #[.agg #[.int .i64 a,.int .i64 l,.int .i64 c],.int .i64 0]) (by simp [results,Tryz.f68,go_sem,m0,m1,m2]) rfl ?_;refine ⟨rfl,?_⟩;have h0:Below w.heap.size w (w.alloc (Obj.cells #[.int .i64 0,.int .i64 0,.int .i64 0] 26)):=(hH _ _).alloc (gt _) _;have h3:=(h0.drew.trans (hb1.mono h0.size)).trans (hb2.mono (QC h0.size hb1.size));exact ((h3.setCell (p:=⟨w.heap.size,0,none⟩) (gt _) _).setCell (p:=⟨w.heap.size,1,none⟩) (gt _) _).setCell (p:=⟨w.heap.size,2,none⟩) (gt _) _
open Go.RowKit
def aV (s:ByteArray) (a:Nat):Int:=if a<s.size then (dp s a:Int) else -1
def eI (s:ByteArray) (a:Nat):Nat:=if a<s.size then dw s a else 0
theorem gC (h:a<s.size):aV s a=dp s a:=by unfold aV;rw [IO h]
theorem kv (h:s.size<=a):aV s a=-1:=by unfold aV;rw [Eq (by omega)]
theorem bQ (h:a<s.size):eI s a=dw s a:=by unfold eI;rw [IO h]
theorem gm (h:s.size<=a):eI s a=0:=by unfold eI;rw [Eq (by omega)]
theorem DK (s:ByteArray) (a:Nat) (h:a<=s.size):a+eI s a<=s.size:=by
 by_cases e:a<s.size
 ·rw [bQ e];exact (aX s a e).2.2
 ·rw [gm (by omega)];exact h
theorem sf (s:ByteArray) (a:Nat):-1<=aV s a/\aV s a<=1114111:=by
 unfold aV;have:=wb s a
 split <;> omega
def RB (W:World) (g:Nat) (s:ByteArray) (a:Nat) (p n:Int) (b:Nat) (f:Nat) (v:Value):Prop:=
 W.heap[g]?=some (.cells #[.string s,.int .i64 a,.int .i32 p,.int .i64 n,.int .i64 b,.int .i64 (pL s b),.int .i64 (pC s b),.int .i64 f,v] 88 (0,0))
structure Rq (w0 W:World) (g:Nat) (s:ByteArray) (a:Nat) (p n:Int) (b f:Nat) (l:List Tv):Prop where
 bel:Below w0.heap.size w0 W
 g0:w0.heap.size<=g
 blk:∃v,RB W g s a p n b f v/\Rt w0.heap.size W v l
def Rs (w0 W:World) (g:Nat) (s:ByteArray) (a b f:Nat) (l:List Tv):Prop:=Rq w0 W g s a (aV s a) (eI s a) b f l
theorem Rq.below {W':World}(h:Rq w0 W g s a p n b f l) (hb:Below W.heap.size W W'):Rq w0 W' g s a p n b f l:=by
 obtain ⟨h1,h2,v,h3,h4⟩:=h;exact ⟨h1.trans (hb.mono h1.size),h2,v,ag h3 hb,h4.below hb⟩
theorem Rq.set (h1:Below w0.heap.size w0 W) (h2:w0.heap.size<=g) (h3:RB W g s a p n b f v) (h4:Rt w0.heap.size W v l) (k:Nat) (u:Value)
  {s':ByteArray} {a':Nat} {p' n':Int} {b' f':Nat} {v':Value} (he:#[.string s,.int .i64 a,.int .i32 p,.int .i64 n,.int .i64 b,.int .i64 (pL s b),.int .i64 (pC s b),.int .i64 f,v].setIfInBounds k u=#[.string s',.int .i64 a',.int .i32 p',.int .i64 n',.int .i64 b',.int .i64 (pL s' b'),.int .i64 (pC s' b'),.int .i64 f',v']) (hv:v'=v) :
  Below w0.heap.size w0 (W.setCell ⟨g,k,none⟩ u)/\RB (W.setCell ⟨g,k,none⟩ u) g s' a' p' n' b' f' v'/\Rt w0.heap.size (W.setCell ⟨g,k,none⟩ u) v' l:=by
 refine ⟨h1.setCell (p:=⟨g,k,none⟩) h2 u,?_,?_⟩
 ·have:=aj h3 k u;rw [he] at this;exact this
 ·rw [hv];exact h4.kp (Kp.set W g k u) (h4.ne h3 (by decide))
theorem Rq.cells {W:World}{g:Nat}{s:ByteArray}{a:Nat}{p n:Int}{b f:Nat}{v:Value}(h:RB W g s a p n b f v) :
  W.cell? ⟨g,0,none⟩=some (.string s)/\W.cell? ⟨g,1,none⟩=some (.int .i64 a)/\W.cell? ⟨g,2,none⟩=some (.int .i32 p)/\W.cell? ⟨g,3,none⟩=some (.int .i64 n)/\W.cell? ⟨g,4,none⟩=some (.int .i64 b) /\
  W.cell? ⟨g,5,none⟩=some (.int .i64 (pL s b))/\W.cell? ⟨g,6,none⟩=some (.int .i64 (pC s b))/\W.cell? ⟨g,7,none⟩=some (.int .i64 f)/\W.cell? ⟨g,8,none⟩=some v:=
 ⟨af h rfl,af h rfl,af h rfl,af h rfl,af h rfl,af h rfl,af h rfl,af h rfl,af h rfl⟩
theorem RB.frozen (h:RB W g s a p n b f v) (k:Nat):W.frozen? ⟨g,k,none⟩=false:=am h
theorem OH (p q:Int):(false || decide (p=q))=(p == q):=by rw [R9];simp
theorem bP (p:Int) (w:World) :
  Qu 88 #[.int .i32 p] w fun e w'=>e=.returned (.bool (decide (48<=p) && decide (p<=57)))/\w'=w:=by
 by_cases h:48<=p
 ·have e:(decide (48<=p) && decide (p<=57))=decide (p<=57):=by rw [QF h];rfl
  rw [e];clear e
  go_enter func88,ntmps88
  go_wp2_with fail
  go_ret
  exact ⟨rfl,rfl⟩
 ·have e:(decide (48<=p) && decide (p<=57))=false:=by rw [QH h];rfl
  rw [e];clear e
  go_enter func88,ntmps88
  go_wp2_with fail
  go_ret
  exact ⟨rfl,rfl⟩
theorem cX (p:Int) (w:World) :
  Qu 176 #[.int .i32 p] w fun e w'=>e=.returned (.bool (decide (p<32) || decide (p=127)))/\w'=w:=by
 by_cases h:p<32
 ·have e:(decide (p<32) || decide (p=127))=true:=by rw [QF h];rfl
  rw [e];clear e
  go_enter func176,ntmps176
  go_wp2_with fail
  go_ret
  exact ⟨rfl,rfl⟩
 ·have e:(decide (p<32) || decide (p=127))=(p == 127):=by rw [QH h];exact OH _ _
  rw [e];clear e
  go_enter func176,ntmps176
  go_wp2_with fail
  go_ret
  exact ⟨rfl,rfl⟩
theorem cB (p:Int) (w:World) :
  Qu 175 #[.int .i32 p] w fun e w'=>e=.returned (.bool (decide (p=10) || decide (p=-1)))/\w'=w:=by
 by_cases h:p=10
 ·subst h
  go_enter func175,ntmps175
  go_wp2_with fail
  go_ret
  exact ⟨rfl,rfl⟩
 ·have e:(decide (p=10) || decide (p=-1))=(p == -1):=by rw [QH h];exact OH _ _
  have h1:(p == 10)=false:=by simpa using h
  rw [e];clear e h
  go_enter func175,ntmps175
  go_wp2_with fail
  go_ret
  exact ⟨rfl,rfl⟩
theorem vm (h:Rq w0 W g s a p n b f l) (hs:s.size<=2147483647) (ha:a<=s.size) :
  Qu 36 #[.pointer (some ⟨g,0,none⟩)] W fun e w'=>e=.returned (.tuple #[])/\Rs w0 w' g s a b f l:=by
 obtain ⟨h1,h2,v,h3,h4⟩:=h;obtain ⟨c0,c1,c2,c3,c4,c5,c6,c7,c8⟩:=Rq.cells h3
 by_cases hlt:a<s.size
 ·have hd:=wb s a;obtain ⟨hw1,hw2,hw3⟩:=aX s a hlt
  have HN:Hid (∀w,Qu 83 #[.string s,.int .i64 a] w fun e w'=>e=.returned (.tuple #[.int .i64 (dp s a),.int .i64 (dw s a),.bool (gd s a)])/\Qv w w'):=fun w=>by
   have:=zw s a w (by unfold maxLen;omega) (by omega) (by omega);rw [Tc] at this;exact this
  have HR:Hid (∀w',Qv W w'->Qv w0 w'/\RB w' g s a p n b f v/\Rt w0.heap.size w' v l):=fun w' hb=>⟨h1.trans (hb.mono h1.size),ag h3 hb,h4.below hb⟩
  have HK:Hid (∀V,Qv W V->V.cell? ⟨g,0,none⟩=some (.string s)/\V.cell? ⟨g,1,none⟩=some (.int .i64 a)/\Qv W V):=fun V hV=>⟨af (ag h3 hV) rfl,af (ag h3 hV) rfl,hV⟩
  have e1:=gC hlt;have e2:=bQ hlt;have HE:Hid (aV s a=dp s a/\eI s a=dw s a):=⟨e1,e2⟩
  generalize dp s a=x at *
  generalize dw s a=y at *
  generalize gd s a=z at *
  clear e1 e2 h1 h3 h4 c0 c1 c2 c3 c4 c5 c6 c7 c8
  go_enter func36,ntmps36
  go_wp2_with fail
  go_region_held3 (fun w'=>w'.cell? ⟨g,0,none⟩=some (.string s)/\w'.cell? ⟨g,1,none⟩=some (.int .i64 a)/\Qv W w') (first|(exact HK.out _ (by assumption))|(exact HK.out _ (hH _ _).drew)|go_keep) (first|(go_at_call 83;refine (HN.out _).mono ?_;rintro e w1 ⟨rfl,hb1⟩;have hbW:=(by first|exact (hH W.heap.size W).drew.trans (hb1.mono (gt _))|exact (by assumption:Qv W _).trans (hb1.mono (Tu (by assumption))):Qv W w1)))
  all_goals (
   obtain ⟨k1,k3,k4⟩:=HR.out _ hbW;have z2:=k3.frozen 2;have z3:=k3.frozen 3;obtain ⟨_,_,c2,c3,_⟩:=Rq.cells k3;obtain ⟨m1,m3,m4⟩:=Rq.set k1 h2 k3 k4 2 (.int .i32 x) (p':=x) rfl rfl;obtain ⟨n1,n3,n4⟩:=Rq.set m1 h2 m3 m4 3 (.int .i64 y) (n':=y) rfl rfl;have HF:Hid (Rs w0 ((w1.setCell ⟨g,2,none⟩ (.int .i32 x)).setCell ⟨g,3,none⟩ (.int .i64 y)) g s a b f l):=⟨n1,h2,v,by rw [HE.out.1,HE.out.2];exact n3,n4⟩;clear k1 k3 k4 m1 m3 m4 n1 n3 n4
   go_wp2_with fail
   go_end0
   exact ⟨rfl,HF.out⟩)
 ·have HN:Hid (∀w,Qu 83 #[.string s,.int .i64 a] w fun e w'=>e=.returned (.tuple #[.int .i64 0,.int .i64 0,.bool false])/\Qv w w'):=fun w=>vf s a w (by unfold maxLen;omega) (.inr (by omega))
  have HR:Hid (∀w',Qv W w'->Qv w0 w'/\RB w' g s a p n b f v/\Rt w0.heap.size w' v l):=fun w' hb=>⟨h1.trans (hb.mono h1.size),ag h3 hb,h4.below hb⟩
  have HK:Hid (∀V,Qv W V->V.cell? ⟨g,0,none⟩=some (.string s)/\V.cell? ⟨g,1,none⟩=some (.int .i64 a)/\Qv W V):=fun V hV=>⟨af (ag h3 hV) rfl,af (ag h3 hV) rfl,hV⟩
  have HE:Hid (aV s a=-1/\eI s a=0):=⟨kv (by omega),gm (by omega)⟩;clear h1 h3 h4 c0 c1 c2 c3 c4 c5 c6 c7 c8
  go_enter func36,ntmps36
  go_wp2_with fail
  go_region_held3 (fun w'=>w'.cell? ⟨g,0,none⟩=some (.string s)/\w'.cell? ⟨g,1,none⟩=some (.int .i64 a)/\Qv W w') (first|(exact HK.out _ (by assumption))|(exact HK.out _ (hH _ _).drew)|go_keep) (first|(go_at_call 83;refine (HN.out _).mono ?_;rintro e w1 ⟨rfl,hb1⟩;have hbW:=(by first|exact (hH W.heap.size W).drew.trans (hb1.mono (gt _))|exact (by assumption:Qv W _).trans (hb1.mono (Tu (by assumption))):Qv W w1)))
  all_goals (
   obtain ⟨k1,k3,k4⟩:=HR.out _ hbW;have z2:=k3.frozen 2;have z3:=k3.frozen 3;obtain ⟨_,_,c2,c3,_⟩:=Rq.cells k3;obtain ⟨m1,m3,m4⟩:=Rq.set k1 h2 k3 k4 2 (.int .i32 0) (p':=0) rfl rfl;obtain ⟨n1,n3,n4⟩:=Rq.set m1 h2 m3 m4 3 (.int .i64 0) (n':=0) rfl rfl;obtain ⟨o1,o3,o4⟩:=Rq.set n1 h2 n3 n4 2 (.int .i32 (-1)) (p':=-1) rfl rfl;have HF:Hid (Rs w0 (((w1.setCell ⟨g,2,none⟩ (.int .i32 0)).setCell ⟨g,3,none⟩ (.int .i64 0)).setCell ⟨g,2,none⟩ (.int .i32 (-1))) g s a b f l):=⟨o1,h2,v,by rw [HE.out.1,HE.out.2];exact o3,o4⟩;clear k1 k3 k4 m1 m3 m4 n1 n3 n4 o1 o3 o4
   go_wp2_with fail
   go_end0
   exact ⟨rfl,HF.out⟩)
theorem dV (W:World) (m:Nat):Below W.heap.size W (W.drewN m):=dO (hH _ _) m
theorem jz (h:RB W g s a p n b f v) (hs:s.size<=2147483647) (hba:b<=a) (ha:a<=s.size) :
  Qu 179 #[.pointer (some ⟨g,0,none⟩)] W fun e w'=>e=.returned (.string (s.extract b a))/\∃m,w'=W.drewN m:=by
 obtain ⟨c0,c1,c2,c3,c4,c5,c6,c7,c8⟩:=Rq.cells h;have q1:(b:Int)<=a:=by omega
 have q2:(a:Int)<=s.size:=by omega
 clear h
 go_enter func179,ntmps179
 go_wp2_with fail
 go_quiet (fail)
 go_wp2_with fail
 go_ret
 exact ⟨rfl,_,rfl⟩
theorem cj (h:Rs w0 W g s a b f l) (hs:s.size<=2147483647) (ha:a<=s.size) :
  Qu 169 #[.pointer (some ⟨g,0,none⟩)] W fun e w'=>e=.returned (.tuple #[])/\Rs w0 w' g s (a+eI s a) b f l:=by
 have hle:=DK s a ha;obtain ⟨h1,h2,v,h3,h4⟩:=h;obtain ⟨c0,c1,c2,c3,c4,c5,c6,c7,c8⟩:=Rq.cells h3;have z1:=h3.frozen 1;obtain ⟨m1,m3,m4⟩:=Rq.set h1 h2 h3 h4 1 (.int .i64 ((a+eI s a:Nat):Int)) (a':=a+eI s a) rfl rfl;have hwr:IntKind.i64.wrap ((a:Int)+(eI s a:Int))=(a:Int)+(eI s a:Int):=by rw [Q9];omega
 have HL:Hid (∀V,Below (W.setCell ⟨g,1,none⟩ (.int .i64 ((a:Int)+(eI s a:Int)))).heap.size (W.setCell ⟨g,1,none⟩ (.int .i64 ((a:Int)+(eI s a:Int)))) V->Qu 36 #[.pointer (some ⟨g,0,none⟩)] V fun e w'=>e=.returned (.tuple #[])/\Rs w0 w' g s (a+eI s a) b f l):=by
  intro V hV;rw [U1] at m1 m3 m4;exact vm (Rq.below ⟨m1,h2,v,m3,m4⟩ hV) hs hle
 generalize eI s a=y at *
 clear h1 h3 h4 m1 m3 m4
 go_enter func169,ntmps169
 go_wp2_with fail
 go_region_law (fail)
 all_goals (
  go_wp2_with (go_at_call 36;refine (HL.out _ (hH _ _).drew).mono ?_;rintro e w1 ⟨rfl,h5⟩)
  go_end0
  exact ⟨rfl,h5⟩)
theorem fU {n:Nat}(h:RB W g s a p n b f v) (hs:s.size<=2147483647) (hba:b<=a) (ha:a<=s.size) (hn:n<=4) :
  Qu 174 #[.pointer (some ⟨g,0,none⟩)] W fun e w'=>e=.returned (.bool (decide (65535<a+n-b)))/\Qv W w':=by
 have HB:Hid (∀V,Qv W V->Qu 179 #[.pointer (some ⟨g,0,none⟩)] V fun e w'=>e=.returned (.string (s.extract b a))/\Qv V w'):=fun V hV=>by
  refine (jz (ag h hV) hs hba ha).mono ?_;rintro e w' ⟨rfl,m,rfl⟩;exact ⟨rfl,dV _ _⟩
 have HK:Hid (∀V,Qv W V->V.cell? ⟨g,3,none⟩=some (.int .i64 n)/\Qv W V):=fun V hV=>⟨af (ag h hV) rfl,hV⟩
 have hz:(s.extract b a).size=a-b:=az s b a ha;have e:decide (65535<a+n-b)=decide (((s.extract b a).size:Int)+n>65535):=by rw [Se,hz];omega
 rw [e];have hwr:IntKind.i64.wrap (((s.extract b a).size:Int)+(n:Int))=((s.extract b a).size:Int)+(n:Int):=by rw [Q9,hz];omega
 clear e h hz
 generalize s.extract b a=t at *
 go_enter func174,ntmps174
 go_wp2_with fail
 go_region_held3 (fun w'=>w'.cell? ⟨g,3,none⟩=some (.int .i64 n)/\Qv W w') (first|(exact HK.out _ (by assumption))|(exact HK.out _ (hH _ _).drew)|go_keep) (first|(go_at_call 179;refine (HB.out _ (by first|assumption|exact (hH _ _).drew)).mono ?_;rintro e w1 ⟨rfl,hb1⟩;have hbW:=(by first|exact (hH W.heap.size W).drew.trans (hb1.mono (gt _))|exact (by assumption:Qv W _).trans (hb1.mono (Tu (by assumption))):Qv W w1)))
 all_goals (
  go_wp2_with fail
  go_ret
  exact ⟨rfl,hbW⟩)
theorem vG (h:RB W g s a p n b f v) (hs:s.size<=2147483647) (hba:b<=a) (hb:bd s b) (ha:bd s a) :
  Qu 94 #[.pointer (some ⟨g,0,none⟩)] W fun e w'=>e=.returned (Pe a (pL s a) (pC s a))/\Qv W w':=by
 have hal:=Gi ha;obtain ⟨j1,j2,j3⟩:=GG hb ha hba hs;obtain ⟨W1,hW1⟩:∃W1,W.alloc (.cells #[.int .i64 0,.int .i64 0,.int .i64 0] 26)=W1:=⟨_,rfl⟩;have hB0:Qv W W1:=by rw [<-hW1];exact (hH _ _).alloc (gt _) _
 have k0:bV W1 W.heap.size 0 0 0:=by rw [<-hW1];exact bV.new W 0 0 0
 have HB:Hid (∀V,Qv W V->Qu 179 #[.pointer (some ⟨g,0,none⟩)] V fun e w'=>e=.returned (.string (s.extract b a))/\Qv V w'):=fun V hV=>by
  refine (jz (ag h hV) hs hba hal).mono ?_;rintro e w' ⟨rfl,m,rfl⟩;exact ⟨rfl,dV _ _⟩
 have HA:Hid (∀V,Qu 147 #[.agg #[.int .i64 b,.int .i64 (pL s b),.int .i64 (pC s b)],.string (s.extract b a)] V fun e w'=>e=.returned (.agg #[.int .i64 a,.int .i64 (pL s a),.int .i64 (pC s a)])/\Qv V w'):=fun V=>by
  have:=Av b (pL s b) (pC s b) (s.extract b a) V (by rw [az s b a hal];omega) (N4 s b);rw [j1,j2,j3] at this;exact this
 have HK:Hid (∀V,Qv W V->V.cell? ⟨g,4,none⟩=some (.int .i64 b)/\V.cell? ⟨g,5,none⟩=some (.int .i64 (pL s b))/\V.cell? ⟨g,6,none⟩=some (.int .i64 (pC s b))/\Qv W V):=fun V hV=>⟨af (ag h hV) rfl,af (ag h hV) rfl,af (ag h hV) rfl,hV⟩
 clear h j1 j2 j3;unfold Pe
 generalize s.extract b a=t at *
 generalize pL s a=L2 at *
 generalize pC s a=C2 at *
 generalize pL s b=L at *
 generalize pC s b=C at *
 go_enter func94,ntmps94
 go_wp2_with fail
 try rw [hW1]
 clear hW1
 go_region_held3 (fun w'=>w'.cell? ⟨g,4,none⟩=some (.int .i64 b)/\w'.cell? ⟨g,5,none⟩=some (.int .i64 L)/\w'.cell? ⟨g,6,none⟩=some (.int .i64 C)/\Qv W w') (first|(exact HK.out _ (by assumption))|(exact HK.out _ hB0.drew)|(exact HK.out _ (((hbX.setCell (p:=⟨W.heap.size,0,none⟩) (gt _) _).setCell (p:=⟨W.heap.size,1,none⟩) (gt _) _).setCell (p:=⟨W.heap.size,2,none⟩) (gt _) _))|go_keep) (first|(go_at_call 179;refine (HB.out _ (by first|assumption|exact hB0.drew)).mono ?_;rintro e w1 ⟨rfl,hb1⟩;have k1:=k0.drew.below hb1;have hbW:=hB0.drew.trans (hb1.mono hB0.size))|(go_at_call 147;refine (HA.out _).mono ?_;rintro e w2 ⟨rfl,hb2⟩;have hbX:=hbW.trans (hb2.mono hbW.size);have k2:=k1.below hb2;have g0:=k2.cell0;have g1:=k2.cell1;have g2:=k2.cell2;have f0:=k2.frozen 0;have f1:=k2.frozen 1;have f2:=k2.frozen 2))
 all_goals (
  go_wp2_with fail
  have hb5:=((k2.set0 a).set1 L2).set2 C2;have m0:=hb5.cell0;have m1:=hb5.cell1;have m2:=hb5.cell2;refine QK (v:=.agg #[.int .i64 a,.int .i64 L2,.int .i64 C2]) (by simp [results,Tryz.f94,go_sem,m0,m1,m2]) rfl ?_;refine ⟨rfl,?_⟩;exact ((hbX.setCell (p:=⟨W.heap.size,0,none⟩) (gt _) _).setCell (p:=⟨W.heap.size,1,none⟩) (gt _) _).setCell (p:=⟨W.heap.size,2,none⟩) (gt _) _)
theorem Hs (h:Rs w0 W g s a b f l) (hs:s.size<=2147483647) (hba:b<=a) (hb:bd s b) (ha:bd s a) :
  Qu 86 #[.pointer (some ⟨g,0,none⟩)] W fun e w'=>e=.returned (.tuple #[])/\Rs w0 w' g s a a f l:=by
 obtain ⟨h1,h2,v,h3,h4⟩:=h;have HH:Hid (Qu 94 #[.pointer (some ⟨g,0,none⟩)] W fun e w'=>e=.returned (.agg #[.int .i64 a,.int .i64 (pL s a),.int .i64 (pC s a)])/\Qv W w'):=vG h3 hs hba hb ha
 have HR:Hid (∀w',Qv W w'->(∀k,w'.frozen? ⟨g,k,none⟩=false)/\(w'.cell? ⟨g,4,none⟩=some (.int .i64 b)/\w'.cell? ⟨g,5,none⟩=some (.int .i64 (pL s b))/\w'.cell? ⟨g,6,none⟩=some (.int .i64 (pC s b)))/\Rs w0 (((w'.setCell ⟨g,4,none⟩ (.int .i64 a)).setCell ⟨g,5,none⟩ (.int .i64 (pL s a))).setCell ⟨g,6,none⟩ (.int .i64 (pC s a))) g s a a f l):=fun w' hb=>by
  have k1:=h1.trans (hb.mono h1.size);have k3:RB w' g s a (aV s a) (eI s a) b f v:=ag h3 hb;have k4:=h4.below hb;obtain ⟨c0,c1,c2,c3,c4,c5,c6,c7,c8⟩:=Rq.cells k3;refine ⟨fun k=>k3.frozen k,⟨c4,c5,c6⟩,?_⟩;have hne:=k4.ne k3 (by decide);refine ⟨((k1.setCell (p:=⟨g,4,none⟩) h2 _).setCell (p:=⟨g,5,none⟩) h2 _).setCell (p:=⟨g,6,none⟩) h2 _,h2,v,?_,?_⟩
  ·exact aj (aj (aj k3 4 _) 5 _) 6 _
  ·exact ((k4.kp (Kp.set _ g 4 _) hne).kp (Kp.set _ g 5 _) hne).kp (Kp.set _ g 6 _) hne
 clear h1 h3 h4
 generalize pL s a=L2 at *
 generalize pC s a=C2 at *
 go_enter func86,ntmps86
 go_wp2_with (go_at_call 94;refine HH.out.mono ?_;rintro e w1 ⟨rfl,hb1⟩;obtain ⟨fz,⟨c4,c5,c6⟩,h7⟩:=HR.out _ hb1;have HF:Hid (Rs w0 (((w1.setCell ⟨g,4,none⟩ (.int .i64 a)).setCell ⟨g,5,none⟩ (.int .i64 L2)).setCell ⟨g,6,none⟩ (.int .i64 C2)) g s a a f l):=h7;clear h7;have z4:=fz 4;have z5:=fz 5;have z6:=fz 6)
 go_end0
 exact ⟨rfl,HF.out⟩
theorem uW (h:Rs w0 W g s a b f l) (hs:s.size<=2147483647) (ha:a<=s.size) (hf:f<=s.size) :
  Qu 85 #[.pointer (some ⟨g,0,none⟩)] W fun e w'=>e=.returned (.tuple #[])/\Rs w0 w' g s (a+eI s a) b (if aV s a=10 then f+1 else f) l:=by
 by_cases h10:aV s a=10
 ·rw [IO h10];obtain ⟨h1,h2,v,h3,h4⟩:=h;obtain ⟨c0,c1,c2,c3,c4,c5,c6,c7,c8⟩:=Rq.cells h3;have z7:=h3.frozen 7;obtain ⟨m1,m3,m4⟩:=Rq.set h1 h2 h3 h4 7 (.int .i64 ((f+1:Nat):Int)) (f':=f+1) rfl rfl;rw [U1] at m1 m3 m4;have HL:Hid (Qu 169 #[.pointer (some ⟨g,0,none⟩)] (W.setCell ⟨g,7,none⟩ (.int .i64 ((f:Int)+1))) fun e w'=>e=.returned (.tuple #[])/\Rs w0 w' g s (a+eI s a) b (f+1) l):=cj ⟨m1,h2,v,m3,m4⟩ hs ha;rw [h10] at c2;clear h1 h3 h4 m1 m3 m4 h10
  go_enter func85,ntmps85
  go_wp2_with (go_at_call 169;refine HL.out.mono ?_;rintro e w1 ⟨rfl,h5⟩)
  go_end0
  exact ⟨rfl,h5⟩
 ·rw [Eq h10];have HL:Hid (Qu 169 #[.pointer (some ⟨g,0,none⟩)] W fun e w'=>e=.returned (.tuple #[])/\Rs w0 w' g s (a+eI s a) b f l):=cj h hs ha;obtain ⟨h1,h2,v,h3,h4⟩:=h;obtain ⟨c0,c1,c2,c3,c4,c5,c6,c7,c8⟩:=Rq.cells h3;have q1:(aV s a == 10)=false:=by simpa using h10
  clear h1 h3 h4 h10
  go_enter func85,ntmps85
  go_wp2_with (go_at_call 169;refine HL.out.mono ?_;rintro e w1 ⟨rfl,h5⟩)
  go_end0
  exact ⟨rfl,h5⟩
theorem kb (h:RB W g s a p n b f v) (hT:qp W) (hs:s.size<=2147483647) (hba:b<=a) (ha:a<=s.size) :
  Qu 173 #[.pointer (some ⟨g,0,none⟩)] W fun e w'=>e=.returned (.int .u8 (if ky (s.extract b a)=true then 2 else 1))/\Qv W w':=by
 have HB:Hid (Qu 179 #[.pointer (some ⟨g,0,none⟩)] W fun e w'=>e=.returned (.string (s.extract b a))/\∃m,w'=W.drewN m):=jz h hs hba ha
 have HI:Hid (∀m,Qu 254 #[.string (s.extract b a)] (W.drewN m) fun e w'=>e=.returned (.bool (ky (s.extract b a)))/\Qv W w'):=fun m=>by
  refine (BM (s.extract b a) (W.drewN m) (hT.below (dV W m)).2.1).mono ?_;rintro e w' ⟨rfl,rfl⟩;exact ⟨rfl,dV W m⟩
 clear h hT
 generalize ky (s.extract b a)=k at *
 generalize s.extract b a=t at *
 cases k
 ·go_enter func173,ntmps173
  go_wp2_with (first|(go_at_call 179;refine HB.out.mono ?_;rintro e w1 ⟨rfl,m,rfl⟩)|(go_at_call 254;refine (HI.out _).mono ?_;rintro e w2 ⟨rfl,hb2⟩))
  go_ret
  exact ⟨rfl,hb2⟩
 ·go_enter func173,ntmps173
  go_wp2_with (first|(go_at_call 179;refine HB.out.mono ?_;rintro e w1 ⟨rfl,m,rfl⟩)|(go_at_call 254;refine (HI.out _).mono ?_;rintro e w2 ⟨rfl,hb2⟩))
  go_ret
  exact ⟨rfl,hb2⟩
def Tryz.lays162_ren:Go.Shelf.Ren:=⟨fun|162=>252|232=>326|227=>327|234=>328|236=>329|228=>383|271=>384|151=>168|120=>404|197=>405|152=>251|260=>414|137=>322|119=>323|224=>324|225=>325|217=>382|266=>403|n=>n,fun|9=>9|4=>4|3=>3|5=>5|117=>379|116=>378|0=>0|124=>382|21=>21|105=>256|46=>281|119=>401|139=>404|138=>403|n=>n,fun|3=>6|4=>7|n=>n⟩
theorem Tryz.lays162:Go.Proofs.Lays.n162 Tryz.prog Tryz.lays162_ren:={
 mixed:=by kernel_rfl
 f119:=func323.trans (QM some (by kernel_rfl))
 f120:=func404.trans (QM some (by kernel_rfl))
 f137:=func322.trans (QM some (by kernel_rfl))
 f151:=func168.trans (QM some (by kernel_rfl))
 f152:=func251.trans (QM some (by kernel_rfl))
 f162:=func252.trans (QM some (by kernel_rfl))
 f197:=func405.trans (QM some (by kernel_rfl))
 f217:=func382.trans (QM some (by kernel_rfl))
 f224:=func324.trans (QM some (by kernel_rfl))
 f225:=func325.trans (QM some (by kernel_rfl))
 f227:=func327.trans (QM some (by kernel_rfl))
 f228:=func383.trans (QM some (by kernel_rfl))
 f232:=func326.trans (QM some (by kernel_rfl))
 f234:=func328.trans (QM some (by kernel_rfl))
 f236:=func329.trans (QM some (by kernel_rfl))
 f260:=func414.trans (QM some (by kernel_rfl))
 f266:=func403.trans (QM some (by kernel_rfl))
 f271:=func384.trans (QM some (by kernel_rfl))
 t0:=underlying0
 a0:=Uj
 z0:=T1
 v0:=S4
 t3:=underlying3
 a3:=Tr
 z3:=S5
 v3:=So
 t4:=underlying4
 a4:=TS
 z4:=Tw
 v4:=SI
 t5:=underlying5
 a5:=S8
 z5:=SN
 v5:=Sa
 t9:=underlying9
 a9:=Ts
 z9:=S9
 v9:=Ss
 t21:=underlying21
 a21:=Tryz.isAgg21
 z21:=Tryz.sizeOf21
 v21:=UW
 t46:=underlying281
 a46:=UO
 z46:=UB
 v46:=TT
 t105:=underlying256
 a105:=Tryz.isAgg256
 z105:=Tryz.sizeOf256
 v105:=Tryz.zeroValue256
 t116:=underlying378
 a116:=Tryz.isAgg378
 z116:=Tryz.sizeOf378
 t117:=underlying379
 a117:=Tryz.isAgg379
 z117:=Tryz.sizeOf379
 v117:=Tryz.zeroValue379
 t119:=underlying401
 a119:=Tryz.isAgg401
 z119:=Tryz.sizeOf401
 t124:=underlying382
 a124:=Tryz.isAgg382
 z124:=Tryz.sizeOf382
 v124:=Tryz.zeroValue382
 t138:=underlying403
 a138:=Tryz.isAgg403
 z138:=Tryz.sizeOf403
 v138:=Tryz.zeroValue403
 t139:=underlying404
 a139:=Tryz.isAgg404
 z139:=Tryz.sizeOf404
 v139:=Tryz.zeroValue404
 g3:=by kernel_rfl
 g4:=by kernel_rfl }
def Tryz.lays119_ren:Go.Shelf.Ren:=⟨fun|119=>323|n=>n,fun|21=>21|4=>4|n=>n,fun|n=>n⟩
theorem Tryz.lays119:Go.Proofs.Lays.n119 Tryz.prog Tryz.lays119_ren:={
 mixed:=by kernel_rfl
 f119:=func323.trans (QM some (by kernel_rfl))
 t4:=underlying4
 a4:=TS
 z4:=Tw
 v4:=SI
 t21:=underlying21
 a21:=Tryz.isAgg21
 z21:=Tryz.sizeOf21
 v21:=UW }
theorem Tryz.utf8_ValidRune (r:Int) (w:World) :
  Qu 323 #[.int .i32 r] w fun e w'=>e=.returned (.bool (Lib.validRune r))/\w'=w:=Any.utf8_ValidRune Tryz.lays119 r w
def Tryz.lays137_ren:Go.Shelf.Ren:=⟨fun|137=>322|217=>382|266=>403|n=>n,fun|9=>9|5=>5|3=>3|n=>n,fun|n=>n⟩
theorem Tryz.lays137:Go.Proofs.Lays.n137 Tryz.prog Tryz.lays137_ren:={
 mixed:=by kernel_rfl
 f137:=func322.trans (QM some (by kernel_rfl))
 f217:=func382.trans (QM some (by kernel_rfl))
 f266:=func403.trans (QM some (by kernel_rfl))
 t3:=underlying3
 a3:=Tr
 z3:=S5
 v3:=So
 t5:=underlying5
 a5:=S8
 z5:=SN
 v5:=Sa
 t9:=underlying9
 a9:=Ts
 z9:=S9
 v9:=Ss }
theorem Tryz.strings_IndexByte (s:ByteArray) (c:Int) (w:World) :
  Qu 322 #[.string s,.int .u8 c] w fun e w'=>e=.returned (.int .i64 (Lib.indexByte s.data.toList c.toNat.toUInt8))/\w'=w:=Any.strings_IndexByte Tryz.lays137 s c w
def Tryz.laysM316_ren:Go.Shelf.Ren:=⟨fun|316=>330|n=>n,fun|9=>9|3=>3|4=>4|37=>161|0=>0|127=>284|5=>5|n=>n,fun|n=>n⟩
theorem Tryz.laysM316:Go.Proofs.LaysM.n316 Tryz.prog Tryz.laysM316_ren:={
 mixed:=by kernel_rfl
 f316:=func330.trans (QM some (by kernel_rfl))
 t0:=underlying0
 a0:=Uj
 z0:=T1
 v0:=S4
 t3:=underlying3
 a3:=Tr
 z3:=S5
 v3:=So
 t4:=underlying4
 a4:=TS
 z4:=Tw
 v4:=SI
 t9:=underlying9
 a9:=Ts
 z9:=S9
 v9:=Ss
 t37:=underlying161
 a37:=UP
 z37:=UC
 v37:=TU
 t127:=underlying284
 a127:=Tryz.isAgg284
 z127:=Tryz.sizeOf284
 v127:=UH
 t5:=underlying5
 a5:=S8
 z5:=SN
 v5:=Sa
 i0:=by kernel_rfl
 i3:=by kernel_rfl
 i4:=by kernel_rfl
 i5:=by kernel_rfl
 i9:=by kernel_rfl
 i37:=by kernel_rfl
 i127:=by kernel_rfl }
theorem Tryz.stringslite_Clone (s:ByteArray) (w:World) (hlim:s.size<=281474976710656) :
  Qu 330 #[.string s] w fun e w'=>e=.returned (.string s)/\Qv w w':=Any.stringslite_Clone Tryz.laysM316 s w hlim
def Tryz.lays151_ren:Go.Shelf.Ren:=⟨fun|151=>168|152=>251|137=>322|119=>323|224=>324|225=>325|217=>382|266=>403|n=>n,fun|9=>9|21=>21|4=>4|3=>3|5=>5|0=>0|46=>281|n=>n,fun|n=>n⟩
theorem Tryz.lays151:Go.Proofs.Lays.n151 Tryz.prog Tryz.lays151_ren:={
 mixed:=by kernel_rfl
 f119:=func323.trans (QM some (by kernel_rfl))
 f137:=func322.trans (QM some (by kernel_rfl))
 f151:=func168.trans (QM some (by kernel_rfl))
 f152:=func251.trans (QM some (by kernel_rfl))
 f217:=func382.trans (QM some (by kernel_rfl))
 f224:=func324.trans (QM some (by kernel_rfl))
 f225:=func325.trans (QM some (by kernel_rfl))
 f266:=func403.trans (QM some (by kernel_rfl))
 t0:=underlying0
 a0:=Uj
 z0:=T1
 v0:=S4
 t3:=underlying3
 a3:=Tr
 z3:=S5
 v3:=So
 t4:=underlying4
 a4:=TS
 z4:=Tw
 v4:=SI
 t5:=underlying5
 a5:=S8
 z5:=SN
 v5:=Sa
 t9:=underlying9
 a9:=Ts
 z9:=S9
 v9:=Ss
 t21:=underlying21
 a21:=Tryz.isAgg21
 z21:=Tryz.sizeOf21
 v21:=UW
 t46:=underlying281
 a46:=UO
 z46:=UB
 v46:=TT }
theorem Tryz.strings_ContainsRune_ascii (s:ByteArray) (r:Int) (w:World) (h0:0<=r) (h1:r<128) :
  Qu 168 #[.string s,.int .i32 r] w fun e w'=>e=.returned (.bool (decide (0<=Lib.indexByte s.data.toList r.toNat.toUInt8)))/\w'=w:=Any.strings_ContainsRune_ascii Tryz.lays151 s r w h0 h1
theorem Co (s:ByteArray) (w:World) (hlim:s.size<=2147483647) :
  Qu 253 #[.string s] w fun e w'=>e=.returned (.string s)/\Below w.heap.size w w':=by
 have HC:Hid (Qu 330 #[.string s] w fun e w'=>e=.returned (.string s)/\Qv w w'):=Tryz.stringslite_Clone s w (by omega)
 go_enter func253,ntmps253
 go_wp2_with (go_at_call 330;refine HC.out.mono ?_;rintro e w1 ⟨rfl,hb⟩)
 go_ret
 exact ⟨rfl,hb⟩
theorem C3 (s:ByteArray) (w:World) (hs:s.size<=2147483647) :
  Qu 252 #[.string s,.string ⟨#[32,9,13]⟩] w fun e w'=>e=.returned (.string ⟨(Lib.trimRightS s.data.toList [32,9,13]).toArray⟩)/\Below w.heap.size w w':=
 Any.strings_TrimRight_laid Tryz.lays162 (by kernel_rfl) s ⟨#[32,9,13]⟩ w (by omega) (by decide) (ascii_of_all (by decide))
theorem MJ (x:UInt8) (h:128<=x.toNat):Lib.indexByte [13] x=-1:=by
 have h1:(13:UInt8)≠x:=by rintro rfl;exact absurd h (by decide)
 have h2:((13:UInt8) == x)=false:=by simpa using h1
 unfold Lib.indexByte;rw [h2];rfl
theorem P0 (p:Int) (x0 x1:UInt8) (w:World) (h0:128<=p) (h2:p≠65533) (hv:Lib.validRune p=true) (hR:Utf8.encode p=⟨#[x0,x1]⟩) (hL:128<=x1.toNat) :
  Qu 251 #[.string ⟨#[32,9,13]⟩,.int .i32 p] w fun e w'=>e=.returned (.int .i64 (-1))/\Qv w w':=by
 have HV:Hid (Qu 323 #[.int .i32 p] w fun e w'=>e=.returned (.bool true)/\w'=w):=by
  have:=Tryz.utf8_ValidRune p w;rw [hv] at this;exact this
 have q1:¬p<128:=by omega
 have q2:(p == 65533)=false:=by simpa using h2
 have q0:(0:Int)<=p:=by omega
 have w2:IntKind.i64.wrap 2=2:=by decide
 have w3:IntKind.i64.wrap 3=3:=by decide
 have hcv:∀w,(convert 21 9 (.int .i32 p)).run Tryz.prog w=.ok (.string ⟨#[x0,x1]⟩) w:=fun w=>by rw [<-hR];exact TM w _ _ _ _ rfl underlying9
 have HX:Hid (∀(r:ByteArray) (W:World),r=⟨#[13]⟩->Qu 322 #[.string r,.int .u8 (x1.toNat:Int)] W fun e w'=>e=.returned (.int .i64 (-1))/\w'=W):=by
  rintro r W rfl;have:=Tryz.strings_IndexByte ⟨#[13]⟩ (x1.toNat:Int) W;rw [Tc] at this
  have e:Lib.indexByte (⟨#[13]⟩:ByteArray).data.toList x1.toNat.toUInt8=-1:=by
   rw [show x1.toNat.toUInt8=x1 from UInt8.ofNat_toNat];exact MJ x1 hL
  rw [e] at this;exact this
 have q4:((((⟨#[32,9,13]⟩:ByteArray)[1]'(by decide)).toNat:Int) != (((⟨#[x0,x1]⟩:ByteArray)[1]'(by show 1<2;decide)).toNat:Int))=true:=by
  show ((9:Int) != (x1.toNat:Int))=true
  simp;omega
 clear hR
 go_enter func251,ntmps251
 go_wp2_with (first|(go_at_call 323;refine HV.out.mono ?_;rintro e w1 ⟨rfl,hw⟩;replace hw:=hw.symm;subst hw))
 go_step3
 go_wp2_with fail
 go_loopw [9] (fun i wr=>i=.int .i64 1/\wr=w) (fun _ _=>0)
 case atStart=>exact ⟨rfl,rfl⟩
 case round=>
  obtain ⟨rfl,hw⟩:=hrel;subst hw
  go_wp2_with fail
  go_step3
  go_wp2_with fail
  go_quiet (fail)
  go_wp2_with fail
  go_region_law (go_simp;go_at_call 322;refine (HX.out _ _ rfl).mono ?_;rintro e w2 ⟨rfl,hw⟩;replace hw:=hw.symm;subst hw)
  all_goals (
   go_wp2_with fail
   (repeat (first|rw [Ta]|simp only [Exit.inBlock]|simp (config:={ zetaDelta:=true }) only [Exit.then,Exit.inBlock,Ta]))
   go_ret
   exact ⟨rfl,dV _ _⟩)
theorem PZ (p:Int) (x0 x1 x2:UInt8) (w:World) (h0:128<=p) (h2:p≠65533) (hv:Lib.validRune p=true) (hR:Utf8.encode p=⟨#[x0,x1,x2]⟩) (hL:128<=x2.toNat) :
  Qu 251 #[.string ⟨#[32,9,13]⟩,.int .i32 p] w fun e w'=>e=.returned (.int .i64 (-1))/\Qv w w':=by
 have HV:Hid (Qu 323 #[.int .i32 p] w fun e w'=>e=.returned (.bool true)/\w'=w):=by
  have:=Tryz.utf8_ValidRune p w;rw [hv] at this;exact this
 have q1:¬p<128:=by omega
 have q2:(p == 65533)=false:=by simpa using h2
 have q0:(0:Int)<=p:=by omega
 have w2:IntKind.i64.wrap 2=2:=by decide
 have w3:IntKind.i64.wrap 3=3:=by decide
 have hcv:∀w,(convert 21 9 (.int .i32 p)).run Tryz.prog w=.ok (.string ⟨#[x0,x1,x2]⟩) w:=fun w=>by rw [<-hR];exact TM w _ _ _ _ rfl underlying9
 have HX:Hid (∀(r:ByteArray) (W:World),r=⟨#[]⟩->Qu 322 #[.string r,.int .u8 (x2.toNat:Int)] W fun e w'=>e=.returned (.int .i64 (-1))/\w'=W):=by
  rintro r W rfl;have:=Tryz.strings_IndexByte ⟨#[]⟩ (x2.toNat:Int) W;rw [Tc] at this
  have e:Lib.indexByte (⟨#[]⟩:ByteArray).data.toList x2.toNat.toUInt8=-1:=by
   rw [show x2.toNat.toUInt8=x2 from UInt8.ofNat_toNat];rfl
  rw [e] at this;exact this
 have q4:((((⟨#[32,9,13]⟩:ByteArray)[2]'(by decide)).toNat:Int) != (((⟨#[x0,x1,x2]⟩:ByteArray)[2]'(by show 2<3;decide)).toNat:Int))=true:=by
  show ((13:Int) != (x2.toNat:Int))=true
  simp;omega
 clear hR
 go_enter func251,ntmps251
 go_wp2_with (first|(go_at_call 323;refine HV.out.mono ?_;rintro e w1 ⟨rfl,hw⟩;replace hw:=hw.symm;subst hw))
 go_step3
 go_wp2_with fail
 go_loopw [9] (fun i wr=>i=.int .i64 2/\wr=w) (fun _ _=>0)
 case atStart=>exact ⟨rfl,rfl⟩
 case round=>
  obtain ⟨rfl,hw⟩:=hrel;subst hw
  go_wp2_with fail
  go_step3
  go_wp2_with fail
  go_quiet (fail)
  go_wp2_with fail
  go_region_law (go_simp;go_at_call 322;refine (HX.out _ _ rfl).mono ?_;rintro e w2 ⟨rfl,hw⟩;replace hw:=hw.symm;subst hw)
  all_goals (
   go_wp2_with fail
   (repeat (first|rw [Ta]|simp only [Exit.inBlock]|simp (config:={ zetaDelta:=true }) only [Exit.then,Exit.inBlock,Ta]))
   go_ret
   exact ⟨rfl,dV _ _⟩)
theorem PY (p:Int) (x0 x1 x2 x3:UInt8) (w:World) (h0:128<=p) (h2:p≠65533) (hv:Lib.validRune p=true) (hR:Utf8.encode p=⟨#[x0,x1,x2,x3]⟩) (hL:128<=x3.toNat) :
  Qu 251 #[.string ⟨#[32,9,13]⟩,.int .i32 p] w fun e w'=>e=.returned (.int .i64 (-1))/\Qv w w':=by
 have HV:Hid (Qu 323 #[.int .i32 p] w fun e w'=>e=.returned (.bool true)/\w'=w):=by
  have:=Tryz.utf8_ValidRune p w;rw [hv] at this;exact this
 have q1:¬p<128:=by omega
 have q2:(p == 65533)=false:=by simpa using h2
 have q0:(0:Int)<=p:=by omega
 have w2:IntKind.i64.wrap 2=2:=by decide
 have w3:IntKind.i64.wrap 3=3:=by decide
 have hcv:∀w,(convert 21 9 (.int .i32 p)).run Tryz.prog w=.ok (.string ⟨#[x0,x1,x2,x3]⟩) w:=fun w=>by rw [<-hR];exact TM w _ _ _ _ rfl underlying9
 clear hR
 go_enter func251,ntmps251
 go_wp2_with (first|(go_at_call 323;refine HV.out.mono ?_;rintro e w1 ⟨rfl,hw⟩;replace hw:=hw.symm;subst hw))
 go_step3
 go_wp2_with fail
 go_loopw [9] (fun i wr=>i=.int .i64 3/\wr=w) (fun _ _=>0)
 case atStart=>exact ⟨rfl,rfl⟩
 case round=>
  obtain ⟨rfl,hw⟩:=hrel;subst hw
  go_wp2_with fail
  (repeat (first|rw [Ta]|simp only [Exit.inBlock]))
  go_ret
  exact ⟨rfl,hH _ _⟩
theorem JH (p:Int) (w:World) (h0:128<=p) (h2:p≠65533) (hv:Lib.validRune p=false) :
  Qu 251 #[.string ⟨#[32,9,13]⟩,.int .i32 p] w fun e w'=>e=.returned (.int .i64 (-1))/\Qv w w':=by
 have HV:Hid (Qu 323 #[.int .i32 p] w fun e w'=>e=.returned (.bool false)/\w'=w):=by
  have:=Tryz.utf8_ValidRune p w;rw [hv] at this;exact this
 have q1:¬p<128:=by omega
 have q2:(p == 65533)=false:=by simpa using h2
 have q0:(0:Int)<=p:=by omega
 go_enter func251,ntmps251
 go_wp2_with (first|(go_at_call 323;refine HV.out.mono ?_;rintro e w1 ⟨rfl,hw⟩;replace hw:=hw.symm;subst hw))
 (repeat (first|rw [Ta]|simp only [Exit.inBlock]))
 go_ret
 exact ⟨rfl,hH _ _⟩
theorem M6:∀pos,pos<3->Utf8.decode ⟨#[32,9,13]⟩ pos=((⟨#[32,9,13]⟩:ByteArray).get! pos |>.toNat,1)/\((⟨#[32,9,13]⟩:ByteArray).get! pos).toNat<128:=by decide
theorem JG (w:World) :
  Qu 251 #[.string ⟨#[32,9,13]⟩,.int .i32 65533] w fun e w'=>e=.returned (.int .i64 (-1))/\Qv w w':=by
 obtain ⟨s,hs⟩:∃s:ByteArray,s=⟨#[32,9,13]⟩:=⟨_,rfl⟩;have hz:s.size=3:=by rw [hs];rfl
 have hd:∀pos,pos<3->dw s pos=1/\dp s pos<128:=fun pos hp=>by
  obtain ⟨e1,e2⟩:=M6 pos hp;unfold dw dp;rw [hs,e1];exact ⟨rfl,e2⟩
 rw [<-hs];clear hs
 go_enter func251,ntmps251
 go_wp2_with fail
 go_loopw [] (fun w'=>∃pos:Nat,pos<=3/\w'=w.iter s pos) (fun w'=>s.size-w'.iterPos w.heap.size)
 case atStart=>exact ⟨0,by omega,rfl⟩
 case round=>
  obtain ⟨pos,hp3,rfl⟩:=hrel
  by_cases hp:pos<s.size
  ·have hnx:∀ty,(Instr.next (.pointer (some ⟨w.heap.size,0,none⟩)) true ty).run Tryz.prog (w.iter s pos)=_:=fun ty=>Ur w s pos ty hp
   obtain ⟨d1,d2⟩:=hd pos (by omega);unfold dw at d1;unfold dp at d2;have q9:(((Utf8.decode s pos).1:Int) == 65533)=false:=by simp;omega
   go_wp2_with fail
   exact ⟨⟨pos+1,by omega,rfl⟩,by simp;omega⟩
  ·have hnx:∀ty,(Instr.next (.pointer (some ⟨w.heap.size,0,none⟩)) true ty).run Tryz.prog (w.iter s pos)=_:=fun ty=>UY w s pos ty hp
   go_wp2_with fail
   go_ret
   exact ⟨rfl,dU _ _ _⟩
theorem Qe (h:R.size=2):∃x0 x1,R=⟨#[x0,x1]⟩:=by
 obtain ⟨⟨l⟩⟩:=R
 match l,h with
 |[x0,x1],_=>exact ⟨x0,x1,rfl⟩
theorem Qd (h:R.size=3):∃x0 x1 x2,R=⟨#[x0,x1,x2]⟩:=by
 obtain ⟨⟨l⟩⟩:=R
 match l,h with
 |[x0,x1,x2],_=>exact ⟨x0,x1,x2,rfl⟩
theorem Qc (h:R.size=4):∃x0 x1 x2 x3,R=⟨#[x0,x1,x2,x3]⟩:=by
 obtain ⟨⟨l⟩⟩:=R
 match l,h with
 |[x0,x1,x2,x3],_=>exact ⟨x0,x1,x2,x3,rfl⟩
theorem JI (p:Int) (w:World) (h0:128<=p) :
  Qu 251 #[.string ⟨#[32,9,13]⟩,.int .i32 p] w fun e w'=>e=.returned (.int .i64 (-1))/\Qv w w':=by
 by_cases h2:p=65533
 ·subst h2;exact JG w
 ·cases hv:Lib.validRune p with
  |false=>exact JH p w h0 h2 hv
  |true=>
   obtain ⟨f1,f2,f3⟩:=encode_facts p (by rw [validRune_eq];exact hv) h0;have f4:=f3 (by omega);obtain ⟨R,hR⟩:∃R,Utf8.encode p=R:=⟨_,rfl⟩;simp only [hR] at f1 f2 f3 f4
   rcases (show R.size=2\/R.size=3\/R.size=4 by omega) with h|h|h
   ·obtain ⟨x0,x1,rfl⟩:=Qe h;exact P0 p x0 x1 w h0 h2 hv hR f4
   ·obtain ⟨x0,x1,x2,rfl⟩:=Qd h;exact PZ p x0 x1 x2 w h0 h2 hv hR f4
   ·obtain ⟨x0,x1,x2,x3,rfl⟩:=Qc h;exact PY p x0 x1 x2 x3 w h0 h2 hv hR f4
theorem IW:∀n:Nat,n<128->decide ((0:Int)<=Lib.indexByte [32,9,13] n.toUInt8)=decide (n=32\/n=9\/n=13):=by decide
def qx (p:Int):Bool:=decide (p=32\/p=9\/p=13)
theorem tH (p:Int) (w:World) (h0:0<=p) :
  Qu 168 #[.string ⟨#[32,9,13]⟩,.int .i32 p] w fun e w'=>e=.returned (.bool (qx p))/\Qv w w':=by
 by_cases h:p<128
 ·refine (Tryz.strings_ContainsRune_ascii ⟨#[32,9,13]⟩ p w h0 h).mono ?_;rintro e w' ⟨rfl,rfl⟩;refine ⟨?_,hH _ _⟩;have e:=IW p.toNat (by omega);have e2:decide (p.toNat=32\/p.toNat=9\/p.toNat=13)=qx p:=by unfold qx;rw [Se];omega
  rw [<-e2,<-e]
 ·have HF:Hid (Qu 251 #[.string ⟨#[32,9,13]⟩,.int .i32 p] w fun e w'=>e=.returned (.int .i64 (-1))/\Qv w w'):=JI p w (by omega);have e2:qx p=false:=by unfold qx;rw [Rc];omega
  rw [e2];clear e2
  go_enter func168,ntmps168
  go_wp2_with (go_at_call 251;refine HF.out.mono ?_;rintro e w1 ⟨rfl,hb⟩)
  go_ret
  exact ⟨rfl,hb⟩
theorem mJ (p:Int) (w:World) (h0:0<=p) :
  Qu 84 #[.int .i32 p] w fun e w'=>e=.returned (.bool (qx p))/\Qv w w':=by
 have HF:Hid (Qu 168 #[.string ⟨#[32,9,13]⟩,.int .i32 p] w fun e w'=>e=.returned (.bool (qx p))/\Qv w w'):=tH p w h0
 generalize qx p=r at *
 go_enter func84,ntmps84
 go_wp2_with (go_at_call 168;refine HF.out.mono ?_;rintro e w1 ⟨rfl,hb⟩)
 go_ret
 exact ⟨rfl,hb⟩
theorem Gd (b:UInt8):[(32:UInt8),9,13].contains b=cY b.toNat:=by
 unfold cY;simp only [List.contains_cons,List.contains_nil,Bool.or_false];rw [R9];simp only [QJ,RD,<-Uh];constructor
 ·rintro (h|h|h)
  ·exact .inl (.inl h)
  ·exact .inl (.inr h)
  ·exact .inr h
 ·rintro ((h|h)|h)
  ·exact .inl h
  ·exact .inr (.inl h)
  ·exact .inr (.inr h)
theorem zP (s:ByteArray) (a p j:Nat) (b:UInt8) (hp:p<=s.size) (h:(s.extract a p).data.toList[j]?=some b):j<p-a/\ay s (a+j)=b.toNat:=by
 have hz:=az s a p hp;have hj:j<(s.extract a p).data.toList.length:=(QI.1 h).1;have hl:(s.extract a p).data.toList.length=(s.extract a p).size:=by rw [Rh];rfl
 refine ⟨by omega,?_⟩;have e:=aR s a p j (by omega);rw [<-e];unfold ay;have h2:=(QI.1 h).2
 have:(s.extract a p).get! j=b:=by
  show (s.extract a p).data[j]! = b
  rw [TY (s.extract a p).data j (by rw [Rh] at hj;exact hj)]
  simpa using h2
 rw [this]
theorem G7 (s:ByteArray) (a p:Nat) (hap:a<p) (hp:p<=s.size) (ha:cY (ay s a)=false):(⟨(Lib.trimRightS (s.extract a p).data.toList [32,9,13]).toArray⟩:ByteArray)=s.extract a (aZ s p):=by
 have h1:=fO s p;have h2:=ja s a ha p hap;have h3:=oB s p;have hz:=az s a p hp;have hl:(s.extract a p).data.toList.length=(s.extract a p).size:=by rw [Rh];rfl
 have e:Lib.trimRightS (s.extract a p).data.toList [32,9,13]=(s.extract a p).data.toList.take (aZ s p-a):=by
  refine Lib.trimRightS_take _ _ _ (by omega) (fun j b hj hb=>?_) (fun b h0 hb=>?_)
  ·obtain ⟨e1,e2⟩:=zP s a p j b hp hb;rw [Gd,<-e2];exact h3 (a+j) (by omega) (by omega)
  ·obtain ⟨e1,e2⟩:=zP s a p _ b hp hb;rw [Gd,<-e2];have h4:a+(aZ s p-a-1)=aZ s p-1:=by omega
   rw [h4]
   have key:∀q,0<aZ s q->cY (ay s (aZ s q-1))=false:=by
    intro q
    induction q with
    |zero=>intro h;exact absurd h (by simp [aZ])
    |succ q ih=>
     intro h;unfold aZ at h ⊢
     by_cases e:cY (ay s q)=true
     ·rw [IO e] at h ⊢;exact ih h
     ·rw [Eq e] at h ⊢;simpa using e
   exact key p (by omega)
 rw [e];refine fg _ _ ?_ (fun j hj=>?_)
 ·rw [az s a _ (by omega)];show ((s.extract a p).data.toList.take (aZ s p-a)).toArray.size=_;simp;omega
 ·have hj2:j<aZ s p-a:=by
   have:(⟨((s.extract a p).data.toList.take (aZ s p-a)).toArray⟩:ByteArray).size=((s.extract a p).data.toList.take (aZ s p-a)).length:=by show Array.size _=_;simp
   rw [this,QX] at hj;omega
  rw [aR s a _ j (by omega)];rw [<-aR s a p j (by omega)];unfold ay
  congr 1
  show ((s.extract a p).data.toList.take (aZ s p-a)).toArray[j]! = (s.extract a p).data[j]!
  rw [TY _ j (by simp;omega),TY _ j (by have:(s.extract a p).data.size=(s.extract a p).size:=rfl;omega)];simp
end Go.Proofs.YtacohdpndpliaaaGreatDoor.Lx
