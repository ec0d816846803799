import Derived.Deep.RegionWith
import Derived.Deep.RegionHeld3
import Derived.WalkMore
import Derived.ScopeJumps
import Derived.Shelf.Strings.SlTrimAscii
import Derived.Shelf.Strings.Runes
import Derived.Shelf.Small.Utf8
import Derived.Shelf.LaysM
import Derived.Shelf.Strconv.Clone
import Derived.Shelf.Strings.Search1
import Derived.Laws.Runes
import Derived.Test.YtnljjdhodelhdaaGreatDoorM03
set_option linter.unusedVariables false
set_option linter.unusedSimpArgs false
set_option maxHeartbeats 2000000
set_option maxRecDepth 1000000
namespace Go.Proofs.YtnljjdhodelhdaaGreatDoor.Lx
open Go.RowKit Go.Shelf
theorem qH (w:World) :
  Ra 13 #[] w fun e w'=>e=.returned (.agg #[.int .i64 0,.int .i64 1,.int .i64 1])/\Below w.heap.size w w':=by
 go_enter Tryz.func13,Tryz.ntmps13
 go_wp2
 have hb0:=bV.new w 0 1 1;have g0:=hb0.cell0;have g1:=hb0.cell1;have g2:=hb0.cell2;refine Rg (v:=.agg #[.int .i64 0,.int .i64 1,.int .i64 1]) (by simp [results,Tryz.f13,go_sem,g0,g1,g2]) rfl ?_;exact ⟨rfl,(hH _ _).alloc (gt _) _⟩
theorem AF (a0 l0 c0:Int) (s:ByteArray) (w:World) (hs:s.size<=2147483647) (hl0:-9223372036854775808<=l0/\l0<=9223372036854775807) :
  Ra 90 #[.agg #[.int .i64 a0,.int .i64 l0,.int .i64 c0],.string s] w fun e w'=>e=.returned (.agg #[.int .i64 (LG a0 s),.int .i64 (fw l0 s),.int .i64 (jE c0 s)])/\Below w.heap.size w w':=
 KJ a0 l0 c0 s w hs hl0
theorem OC (s:ByteArray) (n:Nat) (w:World) (hs:s.size<=2147483647) (hn:n<=s.size) :
  Ra 56 #[.string s,.int .i64 n] w fun e w'=>e=.returned (.tuple #[.agg #[.int .i64 (LG 0 (s.extract 0 n)),.int .i64 (fw 1 (s.extract 0 n)),.int .i64 (jE 1 (s.extract 0 n))],.int .i64 0])/\Below w.heap.size w w':=by
 have hz:=az s 0 n hn;have hadv:∀w,Ra 90 #[.agg #[.int .i64 0,.int .i64 1,.int .i64 1],.string (s.extract 0 n)] w fun e w'=>e=.returned (.agg #[.int .i64 (LG 0 (s.extract 0 n)),.int .i64 (fw 1 (s.extract 0 n)),.int .i64 (jE 1 (s.extract 0 n))])/\Below w.heap.size w w':=fun w=>AF 0 1 1 _ w (by omega) (by omega)
 obtain ⟨a,ha⟩:∃a,LG 0 (s.extract 0 n)=a:=⟨_,rfl⟩;obtain ⟨l,hl⟩:∃a,fw 1 (s.extract 0 n)=a:=⟨_,rfl⟩;obtain ⟨c,hc⟩:∃a,jE 1 (s.extract 0 n)=a:=⟨_,rfl⟩;simp only [ha,hl,hc] at hadv ⊢;clear ha hl hc hz;have h1:¬((n:Int)<0):=by omega
 have h2:¬((s.size:Int)<(n:Int)):=by omega
 have hb0:=bV.new w 0 0 0
 go_enter Tryz.func56,Tryz.ntmps56
 go_wp2
 go_region_with (first|(go_at_call 13;refine (qH _).mono ?_;rintro e w1 ⟨rfl,hb1⟩;have hb3:=hb0.drew.below hb1)|(go_at_call 90;refine (hadv _).mono ?_;rintro e w2 ⟨rfl,hb2⟩;have hb4:=hb3.below hb2;have g0:=hb4.cell0;have g1:=hb4.cell1;have g2:=hb4.cell2;have f0:=hb4.frozen 0;have f1:=hb4.frozen 1;have f2:=hb4.frozen 2))
 all_goals go_wp2
 all_goals
  have hb5:=((hb4.set0 a).set1 l).set2 c;have m0:=hb5.cell0;have m1:=hb5.cell1;have m2:=hb5.cell2;refine Rg (v:=.tuple #[.agg #[.int .i64 a,.int .i64 l,.int .i64 c],.int .i64 0]) (by simp [results,Tryz.f56,go_sem,m0,m1,m2]) rfl ?_;refine ⟨rfl,?_⟩;have h0:Below w.heap.size w (w.alloc (Obj.cells #[.int .i64 0,.int .i64 0,.int .i64 0] 30)):=(hH _ _).alloc (gt _) _;have h3:=(h0.drew.trans (hb1.mono h0.size)).trans (hb2.mono (Q0 h0.size hb1.size));exact ((h3.setCell (p:=⟨w.heap.size,0,none⟩) (gt _) _).setCell (p:=⟨w.heap.size,1,none⟩) (gt _) _).setCell (p:=⟨w.heap.size,2,none⟩) (gt _) _
end Go.Proofs.YtnljjdhodelhdaaGreatDoor.Lx
namespace Go.Proofs.YtnljjdhodelhdaaGreatDoor.Lx
open Go.RowKit
variable {s:ByteArray}{a g b f:Nat}{W w0:World}{p n:Int}{l:List Tv}{v:Value}
def bj (s:ByteArray) (a:Nat):Int:=if a<s.size then (dp s a:Int) else -1
def fj (s:ByteArray) (a:Nat):Nat:=if a<s.size then dw s a else 0
theorem gF (h:a<s.size):bj s a=dp s a:=by unfold bj;rw [IO h]
theorem kq (h:s.size<=a):bj s a=-1:=by unfold bj;rw [Eq (by omega)]
theorem cg (h:a<s.size):fj s a=dw s a:=by unfold fj;rw [IO h]
theorem gr (h:s.size<=a):fj s a=0:=by unfold fj;rw [Eq (by omega)]
theorem DS (s:ByteArray) (a:Nat) (h:a<=s.size):a+fj s a<=s.size:=by
 by_cases e:a<s.size
 ·rw [cg e];exact (aW s a e).2.2
 ·rw [gr (by omega)];exact h
theorem yW (s:ByteArray) (a:Nat):-1<=bj s a/\bj s a<=1114111:=by
 unfold bj;have:=wi s a
 split <;> omega
def RB (W:World) (g:Nat) (s:ByteArray) (a:Nat) (p n:Int) (b:Nat) (f:Nat) (v:Value):Prop:=
 W.heap[g]?=some (.cells #[.string s,.int .i64 a,.int .i32 p,.int .i64 n,.int .i64 b,.int .i64 (pL s b),.int .i64 (pC s b),.int .i64 f,v] 53 (0,0))
structure Rq (w0 W:World) (g:Nat) (s:ByteArray) (a:Nat) (p n:Int) (b f:Nat) (l:List Tv):Prop where
 bel:Below w0.heap.size w0 W
 g0:w0.heap.size<=g
 blk:∃v,RB W g s a p n b f v/\Rt w0.heap.size W v l
def Rs (w0 W:World) (g:Nat) (s:ByteArray) (a b f:Nat) (l:List Tv):Prop:=Rq w0 W g s a (bj s a) (fj s a) b f l
theorem Rq.below {W':World}(h:Rq w0 W g s a p n b f l) (hb:Below W.heap.size W W'):Rq w0 W' g s a p n b f l:=by
 obtain ⟨h1,h2,v,h3,h4⟩:=h;exact ⟨h1.trans (hb.mono h1.size),h2,v,ag h3 hb,h4.below hb⟩
theorem Rq.set (h1:Below w0.heap.size w0 W) (h2:w0.heap.size<=g) (h3:RB W g s a p n b f v) (h4:Rt w0.heap.size W v l) (k:Nat) (u:Value)
  {s':ByteArray} {a':Nat} {p' n':Int} {b' f':Nat} {v':Value} (he:#[.string s,.int .i64 a,.int .i32 p,.int .i64 n,.int .i64 b,.int .i64 (pL s b),.int .i64 (pC s b),.int .i64 f,v].setIfInBounds k u=#[.string s',.int .i64 a',.int .i32 p',.int .i64 n',.int .i64 b',.int .i64 (pL s' b'),.int .i64 (pC s' b'),.int .i64 f',v']) (hv:v'=v) :
  Below w0.heap.size w0 (W.setCell ⟨g,k,none⟩ u)/\RB (W.setCell ⟨g,k,none⟩ u) g s' a' p' n' b' f' v'/\Rt w0.heap.size (W.setCell ⟨g,k,none⟩ u) v' l:=by
 refine ⟨h1.setCell (p:=⟨g,k,none⟩) h2 u,?_,?_⟩
 ·have:=aj h3 k u;rw [he] at this;exact this
 ·rw [hv];exact h4.kp (Kp.set W g k u) (h4.ne h3 (by decide))
theorem Rq.cells {W:World}{g:Nat}{s:ByteArray}{a:Nat}{p n:Int}{b f:Nat}{v:Value}(h:RB W g s a p n b f v) :
  W.cell? ⟨g,0,none⟩=some (.string s)/\W.cell? ⟨g,1,none⟩=some (.int .i64 a)/\W.cell? ⟨g,2,none⟩=some (.int .i32 p)/\W.cell? ⟨g,3,none⟩=some (.int .i64 n)/\W.cell? ⟨g,4,none⟩=some (.int .i64 b) /\
  W.cell? ⟨g,5,none⟩=some (.int .i64 (pL s b))/\W.cell? ⟨g,6,none⟩=some (.int .i64 (pC s b))/\W.cell? ⟨g,7,none⟩=some (.int .i64 f)/\W.cell? ⟨g,8,none⟩=some v:=
 ⟨af h rfl,af h rfl,af h rfl,af h rfl,af h rfl,af h rfl,af h rfl,af h rfl,af h rfl⟩
theorem RB.frozen (h:RB W g s a p n b f v) (k:Nat):W.frozen? ⟨g,k,none⟩=false:=am h
theorem O9 (p q:Int):(false || decide (p=q))=(p == q):=by rw [SE];simp
theorem bR (p:Int) (w:World) :
  Ra 37 #[.int .i32 p] w fun e w'=>e=.returned (.bool (decide (48<=p) && decide (p<=57)))/\w'=w:=by
 by_cases h:48<=p
 ·have e:(decide (48<=p) && decide (p<=57))=decide (p<=57):=by rw [Q9 h];rfl
  rw [e];clear e
  go_enter Tryz.func37,Tryz.ntmps37
  go_wp2_with fail
  go_ret
  exact ⟨rfl,rfl⟩
 ·have e:(decide (48<=p) && decide (p<=57))=false:=by rw [Rf h];rfl
  rw [e];clear e
  go_enter Tryz.func37,Tryz.ntmps37
  go_wp2_with fail
  go_ret
  exact ⟨rfl,rfl⟩
theorem eZ (p:Int) (w:World) :
  Ra 87 #[.int .i32 p] w fun e w'=>e=.returned (.bool (decide (p<32) || decide (p=127)))/\w'=w:=by
 by_cases h:p<32
 ·have e:(decide (p<32) || decide (p=127))=true:=by rw [Q9 h];rfl
  rw [e];clear e
  go_enter Tryz.func87,Tryz.ntmps87
  go_wp2_with fail
  go_ret
  exact ⟨rfl,rfl⟩
 ·have e:(decide (p<32) || decide (p=127))=(p == 127):=by rw [Rf h];exact O9 _ _
  rw [e];clear e
  go_enter Tryz.func87,Tryz.ntmps87
  go_wp2_with fail
  go_ret
  exact ⟨rfl,rfl⟩
theorem dC (p:Int) (w:World) :
  Ra 86 #[.int .i32 p] w fun e w'=>e=.returned (.bool (decide (p=10) || decide (p=-1)))/\w'=w:=by
 by_cases h:p=10
 ·subst h
  go_enter Tryz.func86,Tryz.ntmps86
  go_wp2_with fail
  go_ret
  exact ⟨rfl,rfl⟩
 ·have e:(decide (p=10) || decide (p=-1))=(p == -1):=by rw [Rf h];exact O9 _ _
  have h1:(p == 10)=false:=by simpa using h
  rw [e];clear e h
  go_enter Tryz.func86,Tryz.ntmps86
  go_wp2_with fail
  go_ret
  exact ⟨rfl,rfl⟩
theorem vt (h:Rq w0 W g s a p n b f l) (hs:s.size<=2147483647) (ha:a<=s.size) :
  Ra 14 #[.pointer (some ⟨g,0,none⟩)] W fun e w'=>e=.returned (.tuple #[])/\Rs w0 w' g s a b f l:=by
 obtain ⟨h1,h2,v,h3,h4⟩:=h;obtain ⟨c0,c1,c2,c3,c4,c5,c6,c7,c8⟩:=Rq.cells h3
 by_cases hlt:a<s.size
 ·have hd:=wi s a;obtain ⟨hw1,hw2,hw3⟩:=aW s a hlt
  have HN:Hid (∀w,Ra 32 #[.string s,.int .i64 a] w fun e w'=>e=.returned (.tuple #[.int .i64 (dp s a),.int .i64 (dw s a),.bool (gd s a)])/\Rc w w'):=fun w=>by
   have:=zF s a w (by unfold maxLen;omega) (by omega) (by omega);rw [TO] at this;exact this
  have HR:Hid (∀w',Rc W w'->Rc w0 w'/\RB w' g s a p n b f v/\Rt w0.heap.size w' v l):=fun w' hb=>⟨h1.trans (hb.mono h1.size),ag h3 hb,h4.below hb⟩
  have HK:Hid (∀V,Rc W V->V.cell? ⟨g,0,none⟩=some (.string s)/\V.cell? ⟨g,1,none⟩=some (.int .i64 a)/\Rc W V):=fun V hV=>⟨af (ag h3 hV) rfl,af (ag h3 hV) rfl,hV⟩
  have e1:=gF hlt;have e2:=cg hlt;have HE:Hid (bj s a=dp s a/\fj s a=dw s a):=⟨e1,e2⟩
  generalize dp s a=x at *
  generalize dw s a=y at *
  generalize gd s a=z at *
  clear e1 e2 h1 h3 h4 c0 c1 c2 c3 c4 c5 c6 c7 c8
  go_enter VF,Vr
  go_wp2_with fail
  go_region_held3 (fun w'=>w'.cell? ⟨g,0,none⟩=some (.string s)/\w'.cell? ⟨g,1,none⟩=some (.int .i64 a)/\Below W.heap.size W w') (first|(exact HK.out _ (by assumption))|(exact HK.out _ (hH _ _).drew)|go_keep) (first|(go_at_call 32;refine (HN.out _).mono ?_;rintro e w1 ⟨rfl,hb1⟩;have hbW:=(by first|exact (hH W.heap.size W).drew.trans (hb1.mono (gt _))|exact (by assumption:Below W.heap.size W _).trans (hb1.mono (T4 (by assumption))):Below W.heap.size W w1)))
  all_goals (
   obtain ⟨k1,k3,k4⟩:=HR.out _ hbW;have z2:=k3.frozen 2;have z3:=k3.frozen 3;obtain ⟨_,_,c2,c3,_⟩:=Rq.cells k3;obtain ⟨m1,m3,m4⟩:=Rq.set k1 h2 k3 k4 2 (.int .i32 x) (p':=x) rfl rfl;obtain ⟨n1,n3,n4⟩:=Rq.set m1 h2 m3 m4 3 (.int .i64 y) (n':=y) rfl rfl;have HF:Hid (Rs w0 ((w1.setCell ⟨g,2,none⟩ (.int .i32 x)).setCell ⟨g,3,none⟩ (.int .i64 y)) g s a b f l):=⟨n1,h2,v,by rw [HE.out.1,HE.out.2];exact n3,n4⟩;clear k1 k3 k4 m1 m3 m4 n1 n3 n4
   go_wp2_with fail
   go_end0
   exact ⟨rfl,HF.out⟩)
 ·have HN:Hid (∀w,Ra 32 #[.string s,.int .i64 a] w fun e w'=>e=.returned (.tuple #[.int .i64 0,.int .i64 0,.bool false])/\Rc w w'):=fun w=>vk s a w (by unfold maxLen;omega) (.inr (by omega))
  have HR:Hid (∀w',Rc W w'->Rc w0 w'/\RB w' g s a p n b f v/\Rt w0.heap.size w' v l):=fun w' hb=>⟨h1.trans (hb.mono h1.size),ag h3 hb,h4.below hb⟩
  have HK:Hid (∀V,Rc W V->V.cell? ⟨g,0,none⟩=some (.string s)/\V.cell? ⟨g,1,none⟩=some (.int .i64 a)/\Rc W V):=fun V hV=>⟨af (ag h3 hV) rfl,af (ag h3 hV) rfl,hV⟩
  have HE:Hid (bj s a=-1/\fj s a=0):=⟨kq (by omega),gr (by omega)⟩;clear h1 h3 h4 c0 c1 c2 c3 c4 c5 c6 c7 c8
  go_enter VF,Vr
  go_wp2_with fail
  go_region_held3 (fun w'=>w'.cell? ⟨g,0,none⟩=some (.string s)/\w'.cell? ⟨g,1,none⟩=some (.int .i64 a)/\Below W.heap.size W w') (first|(exact HK.out _ (by assumption))|(exact HK.out _ (hH _ _).drew)|go_keep) (first|(go_at_call 32;refine (HN.out _).mono ?_;rintro e w1 ⟨rfl,hb1⟩;have hbW:=(by first|exact (hH W.heap.size W).drew.trans (hb1.mono (gt _))|exact (by assumption:Below W.heap.size W _).trans (hb1.mono (T4 (by assumption))):Below W.heap.size W w1)))
  all_goals (
   obtain ⟨k1,k3,k4⟩:=HR.out _ hbW;have z2:=k3.frozen 2;have z3:=k3.frozen 3;obtain ⟨_,_,c2,c3,_⟩:=Rq.cells k3;obtain ⟨m1,m3,m4⟩:=Rq.set k1 h2 k3 k4 2 (.int .i32 0) (p':=0) rfl rfl;obtain ⟨n1,n3,n4⟩:=Rq.set m1 h2 m3 m4 3 (.int .i64 0) (n':=0) rfl rfl;obtain ⟨o1,o3,o4⟩:=Rq.set n1 h2 n3 n4 2 (.int .i32 (-1)) (p':=-1) rfl rfl;have HF:Hid (Rs w0 (((w1.setCell ⟨g,2,none⟩ (.int .i32 0)).setCell ⟨g,3,none⟩ (.int .i64 0)).setCell ⟨g,2,none⟩ (.int .i32 (-1))) g s a b f l):=⟨o1,h2,v,by rw [HE.out.1,HE.out.2];exact o3,o4⟩;clear k1 k3 k4 m1 m3 m4 n1 n3 n4 o1 o3 o4
   go_wp2_with fail
   go_end0
   exact ⟨rfl,HF.out⟩)
theorem dZ (W:World) (m:Nat):Below W.heap.size W (W.drewN m):=dQ (hH _ _) m
theorem jz (h:RB W g s a p n b f v) (hs:s.size<=2147483647) (hba:b<=a) (ha:a<=s.size) :
  Ra 91 #[.pointer (some ⟨g,0,none⟩)] W fun e w'=>e=.returned (.string (s.extract b a))/\∃m,w'=W.drewN m:=by
 obtain ⟨c0,c1,c2,c3,c4,c5,c6,c7,c8⟩:=Rq.cells h;have q1:(b:Int)<=a:=by omega
 have q2:(a:Int)<=s.size:=by omega
 clear h
 go_enter Tryz.func91,Tryz.ntmps91
 go_wp2_with fail
 go_quiet (fail)
 go_wp2_with fail
 go_ret
 exact ⟨rfl,_,rfl⟩
theorem cu (h:Rs w0 W g s a b f l) (hs:s.size<=2147483647) (ha:a<=s.size) :
  Ra 80 #[.pointer (some ⟨g,0,none⟩)] W fun e w'=>e=.returned (.tuple #[])/\Rs w0 w' g s (a+fj s a) b f l:=by
 have hle:=DS s a ha;obtain ⟨h1,h2,v,h3,h4⟩:=h;obtain ⟨c0,c1,c2,c3,c4,c5,c6,c7,c8⟩:=Rq.cells h3;have z1:=h3.frozen 1;obtain ⟨m1,m3,m4⟩:=Rq.set h1 h2 h3 h4 1 (.int .i64 ((a+fj s a:Nat):Int)) (a':=a+fj s a) rfl rfl;have hwr:IntKind.i64.wrap ((a:Int)+(fj s a:Int))=(a:Int)+(fj s a:Int):=by rw [RQ];omega
 have HL:Hid (∀V,Below (W.setCell ⟨g,1,none⟩ (.int .i64 ((a:Int)+(fj s a:Int)))).heap.size (W.setCell ⟨g,1,none⟩ (.int .i64 ((a:Int)+(fj s a:Int)))) V->Ra 14 #[.pointer (some ⟨g,0,none⟩)] V fun e w'=>e=.returned (.tuple #[])/\Rs w0 w' g s (a+fj s a) b f l):=by
  intro V hV;rw [Vs] at m1 m3 m4;exact vt (Rq.below ⟨m1,h2,v,m3,m4⟩ hV) hs hle
 generalize fj s a=y at *
 clear h1 h3 h4 m1 m3 m4
 go_enter Tryz.func80,Tryz.ntmps80
 go_wp2_with fail
 go_region_law (fail)
 all_goals (
  go_wp2_with (go_at_call 14;refine (HL.out _ (hH _ _).drew).mono ?_;rintro e w1 ⟨rfl,h5⟩)
  go_end0
  exact ⟨rfl,h5⟩)
theorem fY {n:Nat}(h:RB W g s a p n b f v) (hs:s.size<=2147483647) (hba:b<=a) (ha:a<=s.size) (hn:n<=4) :
  Ra 85 #[.pointer (some ⟨g,0,none⟩)] W fun e w'=>e=.returned (.bool (decide (65535<a+n-b)))/\Below W.heap.size W w':=by
 have HB:Hid (∀V,Rc W V->Ra 91 #[.pointer (some ⟨g,0,none⟩)] V fun e w'=>e=.returned (.string (s.extract b a))/\Rc V w'):=fun V hV=>by
  refine (jz (ag h hV) hs hba ha).mono ?_;rintro e w' ⟨rfl,m,rfl⟩;exact ⟨rfl,dZ _ _⟩
 have HK:Hid (∀V,Rc W V->V.cell? ⟨g,3,none⟩=some (.int .i64 n)/\Rc W V):=fun V hV=>⟨af (ag h hV) rfl,hV⟩
 have hz:(s.extract b a).size=a-b:=az s b a ha;have e:decide (65535<a+n-b)=decide (((s.extract b a).size:Int)+n>65535):=by rw [SW,hz];omega
 rw [e];have hwr:IntKind.i64.wrap (((s.extract b a).size:Int)+(n:Int))=((s.extract b a).size:Int)+(n:Int):=by rw [RQ,hz];omega
 clear e h hz
 generalize s.extract b a=t at *
 go_enter Tryz.func85,Tryz.ntmps85
 go_wp2_with fail
 go_region_held3 (fun w'=>w'.cell? ⟨g,3,none⟩=some (.int .i64 n)/\Below W.heap.size W w') (first|(exact HK.out _ (by assumption))|(exact HK.out _ (hH _ _).drew)|go_keep) (first|(go_at_call 91;refine (HB.out _ (by first|assumption|exact (hH _ _).drew)).mono ?_;rintro e w1 ⟨rfl,hb1⟩;have hbW:=(by first|exact (hH W.heap.size W).drew.trans (hb1.mono (gt _))|exact (by assumption:Below W.heap.size W _).trans (hb1.mono (T4 (by assumption))):Below W.heap.size W w1)))
 all_goals (
  go_wp2_with fail
  go_ret
  exact ⟨rfl,hbW⟩)
theorem vK (h:RB W g s a p n b f v) (hs:s.size<=2147483647) (hba:b<=a) (hb:bd s b) (ha:bd s a) :
  Ra 43 #[.pointer (some ⟨g,0,none⟩)] W fun e w'=>e=.returned (PP a (pL s a) (pC s a))/\Below W.heap.size W w':=by
 have hal:=Gy ha;obtain ⟨j1,j2,j3⟩:=GW hb ha hba hs;obtain ⟨W1,hW1⟩:∃W1,W.alloc (.cells #[.int .i64 0,.int .i64 0,.int .i64 0] 30)=W1:=⟨_,rfl⟩;have hB0:Below W.heap.size W W1:=by rw [<-hW1];exact (hH _ _).alloc (gt _) _
 have k0:bV W1 W.heap.size 0 0 0:=by rw [<-hW1];exact bV.new W 0 0 0
 have HB:Hid (∀V,Rc W V->Ra 91 #[.pointer (some ⟨g,0,none⟩)] V fun e w'=>e=.returned (.string (s.extract b a))/\Rc V w'):=fun V hV=>by
  refine (jz (ag h hV) hs hba hal).mono ?_;rintro e w' ⟨rfl,m,rfl⟩;exact ⟨rfl,dZ _ _⟩
 have HA:Hid (∀V,Ra 90 #[.agg #[.int .i64 b,.int .i64 (pL s b),.int .i64 (pC s b)],.string (s.extract b a)] V fun e w'=>e=.returned (.agg #[.int .i64 a,.int .i64 (pL s a),.int .i64 (pC s a)])/\Rc V w'):=fun V=>by
  have:=AF b (pL s b) (pC s b) (s.extract b a) V (by rw [az s b a hal];omega) (Oz s b);rw [j1,j2,j3] at this;exact this
 have HK:Hid (∀V,Rc W V->V.cell? ⟨g,4,none⟩=some (.int .i64 b)/\V.cell? ⟨g,5,none⟩=some (.int .i64 (pL s b))/\V.cell? ⟨g,6,none⟩=some (.int .i64 (pC s b))/\Rc W V):=fun V hV=>⟨af (ag h hV) rfl,af (ag h hV) rfl,af (ag h hV) rfl,hV⟩
 clear h j1 j2 j3;unfold PP
 generalize s.extract b a=t at *
 generalize pL s a=L2 at *
 generalize pC s a=C2 at *
 generalize pL s b=L at *
 generalize pC s b=C at *
 go_enter Tryz.func43,Tryz.ntmps43
 go_wp2_with fail
 try rw [hW1]
 clear hW1
 go_region_held3 (fun w'=>w'.cell? ⟨g,4,none⟩=some (.int .i64 b)/\w'.cell? ⟨g,5,none⟩=some (.int .i64 L)/\w'.cell? ⟨g,6,none⟩=some (.int .i64 C)/\Below W.heap.size W w') (first|(exact HK.out _ (by assumption))|(exact HK.out _ hB0.drew)|(exact HK.out _ (((hbX.setCell (p:=⟨W.heap.size,0,none⟩) (gt _) _).setCell (p:=⟨W.heap.size,1,none⟩) (gt _) _).setCell (p:=⟨W.heap.size,2,none⟩) (gt _) _))|go_keep) (first|(go_at_call 91;refine (HB.out _ (by first|assumption|exact hB0.drew)).mono ?_;rintro e w1 ⟨rfl,hb1⟩;have k1:=k0.drew.below hb1;have hbW:=hB0.drew.trans (hb1.mono hB0.size))|(go_at_call 90;refine (HA.out _).mono ?_;rintro e w2 ⟨rfl,hb2⟩;have hbX:=hbW.trans (hb2.mono hbW.size);have k2:=k1.below hb2;have g0:=k2.cell0;have g1:=k2.cell1;have g2:=k2.cell2;have f0:=k2.frozen 0;have f1:=k2.frozen 1;have f2:=k2.frozen 2))
 all_goals (
  go_wp2_with fail
  have hb5:=((k2.set0 a).set1 L2).set2 C2;have m0:=hb5.cell0;have m1:=hb5.cell1;have m2:=hb5.cell2;refine Rg (v:=.agg #[.int .i64 a,.int .i64 L2,.int .i64 C2]) (by simp [results,Tryz.f43,go_sem,m0,m1,m2]) rfl ?_;refine ⟨rfl,?_⟩;exact ((hbX.setCell (p:=⟨W.heap.size,0,none⟩) (gt _) _).setCell (p:=⟨W.heap.size,1,none⟩) (gt _) _).setCell (p:=⟨W.heap.size,2,none⟩) (gt _) _)
theorem Ii (h:Rs w0 W g s a b f l) (hs:s.size<=2147483647) (hba:b<=a) (hb:bd s b) (ha:bd s a) :
  Ra 35 #[.pointer (some ⟨g,0,none⟩)] W fun e w'=>e=.returned (.tuple #[])/\Rs w0 w' g s a a f l:=by
 obtain ⟨h1,h2,v,h3,h4⟩:=h;have HH:Hid (Ra 43 #[.pointer (some ⟨g,0,none⟩)] W fun e w'=>e=.returned (.agg #[.int .i64 a,.int .i64 (pL s a),.int .i64 (pC s a)])/\Rc W w'):=vK h3 hs hba hb ha
 have HR:Hid (∀w',Rc W w'->(∀k,w'.frozen? ⟨g,k,none⟩=false)/\(w'.cell? ⟨g,4,none⟩=some (.int .i64 b)/\w'.cell? ⟨g,5,none⟩=some (.int .i64 (pL s b))/\w'.cell? ⟨g,6,none⟩=some (.int .i64 (pC s b)))/\Rs w0 (((w'.setCell ⟨g,4,none⟩ (.int .i64 a)).setCell ⟨g,5,none⟩ (.int .i64 (pL s a))).setCell ⟨g,6,none⟩ (.int .i64 (pC s a))) g s a a f l):=fun w' hb=>by
  have k1:=h1.trans (hb.mono h1.size);have k3:RB w' g s a (bj s a) (fj s a) b f v:=ag h3 hb;have k4:=h4.below hb;obtain ⟨c0,c1,c2,c3,c4,c5,c6,c7,c8⟩:=Rq.cells k3;refine ⟨fun k=>k3.frozen k,⟨c4,c5,c6⟩,?_⟩;have hne:=k4.ne k3 (by decide);refine ⟨((k1.setCell (p:=⟨g,4,none⟩) h2 _).setCell (p:=⟨g,5,none⟩) h2 _).setCell (p:=⟨g,6,none⟩) h2 _,h2,v,?_,?_⟩
  ·exact aj (aj (aj k3 4 _) 5 _) 6 _
  ·exact ((k4.kp (Kp.set _ g 4 _) hne).kp (Kp.set _ g 5 _) hne).kp (Kp.set _ g 6 _) hne
 clear h1 h3 h4
 generalize pL s a=L2 at *
 generalize pC s a=C2 at *
 go_enter Tryz.func35,Tryz.ntmps35
 go_wp2_with (go_at_call 43;refine HH.out.mono ?_;rintro e w1 ⟨rfl,hb1⟩;obtain ⟨fz,⟨c4,c5,c6⟩,h7⟩:=HR.out _ hb1;have HF:Hid (Rs w0 (((w1.setCell ⟨g,4,none⟩ (.int .i64 a)).setCell ⟨g,5,none⟩ (.int .i64 L2)).setCell ⟨g,6,none⟩ (.int .i64 C2)) g s a a f l):=h7;clear h7;have z4:=fz 4;have z5:=fz 5;have z6:=fz 6)
 go_end0
 exact ⟨rfl,HF.out⟩
theorem uX (h:Rs w0 W g s a b f l) (hs:s.size<=2147483647) (ha:a<=s.size) (hf:f<=s.size) :
  Ra 34 #[.pointer (some ⟨g,0,none⟩)] W fun e w'=>e=.returned (.tuple #[])/\Rs w0 w' g s (a+fj s a) b (if bj s a=10 then f+1 else f) l:=by
 by_cases h10:bj s a=10
 ·rw [IO h10];obtain ⟨h1,h2,v,h3,h4⟩:=h;obtain ⟨c0,c1,c2,c3,c4,c5,c6,c7,c8⟩:=Rq.cells h3;have z7:=h3.frozen 7;obtain ⟨m1,m3,m4⟩:=Rq.set h1 h2 h3 h4 7 (.int .i64 ((f+1:Nat):Int)) (f':=f+1) rfl rfl;rw [Vs] at m1 m3 m4;have HL:Hid (Ra 80 #[.pointer (some ⟨g,0,none⟩)] (W.setCell ⟨g,7,none⟩ (.int .i64 ((f:Int)+1))) fun e w'=>e=.returned (.tuple #[])/\Rs w0 w' g s (a+fj s a) b (f+1) l):=cu ⟨m1,h2,v,m3,m4⟩ hs ha;rw [h10] at c2;clear h1 h3 h4 m1 m3 m4 h10
  go_enter Tryz.func34,Tryz.ntmps34
  go_wp2_with (go_at_call 80;refine HL.out.mono ?_;rintro e w1 ⟨rfl,h5⟩)
  go_end0
  exact ⟨rfl,h5⟩
 ·rw [Eq h10];have HL:Hid (Ra 80 #[.pointer (some ⟨g,0,none⟩)] W fun e w'=>e=.returned (.tuple #[])/\Rs w0 w' g s (a+fj s a) b f l):=cu h hs ha;obtain ⟨h1,h2,v,h3,h4⟩:=h;obtain ⟨c0,c1,c2,c3,c4,c5,c6,c7,c8⟩:=Rq.cells h3;have q1:(bj s a == 10)=false:=by simpa using h10
  clear h1 h3 h4 h10
  go_enter Tryz.func34,Tryz.ntmps34
  go_wp2_with (go_at_call 80;refine HL.out.mono ?_;rintro e w1 ⟨rfl,h5⟩)
  go_end0
  exact ⟨rfl,h5⟩
theorem rJ (h:RB W g s a p n b f v) (hT:qk W) (hs:s.size<=2147483647) (hba:b<=a) (ha:a<=s.size) :
  Ra 84 #[.pointer (some ⟨g,0,none⟩)] W fun e w'=>e=.returned (.int .u8 (if ky (s.extract b a)=true then 2 else 1))/\Below W.heap.size W w':=by
 have HB:Hid (Ra 91 #[.pointer (some ⟨g,0,none⟩)] W fun e w'=>e=.returned (.string (s.extract b a))/\∃m,w'=W.drewN m):=jz h hs hba ha
 have HI:Hid (∀m,Ra 131 #[.string (s.extract b a)] (W.drewN m) fun e w'=>e=.returned (.bool (ky (s.extract b a)))/\Rc W w'):=fun m=>by
  refine (BU (s.extract b a) (W.drewN m) (hT.below (dZ W m)).2.1).mono ?_;rintro e w' ⟨rfl,rfl⟩;exact ⟨rfl,dZ W m⟩
 clear h hT
 generalize ky (s.extract b a)=k at *
 generalize s.extract b a=t at *
 cases k
 ·go_enter Tryz.func84,Tryz.ntmps84
  go_wp2_with (first|(go_at_call 91;refine HB.out.mono ?_;rintro e w1 ⟨rfl,m,rfl⟩)|(go_at_call 131;refine (HI.out _).mono ?_;rintro e w2 ⟨rfl,hb2⟩))
  go_ret
  exact ⟨rfl,hb2⟩
 ·go_enter Tryz.func84,Tryz.ntmps84
  go_wp2_with (first|(go_at_call 91;refine HB.out.mono ?_;rintro e w1 ⟨rfl,m,rfl⟩)|(go_at_call 131;refine (HI.out _).mono ?_;rintro e w2 ⟨rfl,hb2⟩))
  go_ret
  exact ⟨rfl,hb2⟩
end Go.Proofs.YtnljjdhodelhdaaGreatDoor.Lx
namespace Go.Proofs.YtnljjdhodelhdaaGreatDoor.Lx
open Go.RowKit Go.Shelf
def Tryz.lays162_ren:Go.Shelf.Ren:=⟨fun|162=>129|232=>177|227=>178|234=>179|236=>180|228=>218|271=>219|151=>79|120=>246|197=>247|152=>128|260=>254|137=>173|119=>174|224=>175|225=>176|217=>217|266=>245|n=>n,fun|9=>9|4=>4|3=>3|5=>5|117=>253|116=>252|0=>0|124=>256|21=>21|105=>141|46=>187|119=>282|139=>285|138=>284|n=>n,fun|3=>6|4=>7|n=>n⟩
theorem Tryz.lays162:Go.Proofs.Lays.n162 Tryz.prog Tryz.lays162_ren:={
 mixed:=by kernel_rfl
 f119:=Tryz.func174.trans (Rj some (by kernel_rfl))
 f120:=Tryz.func246.trans (Rj some (by kernel_rfl))
 f137:=Tryz.func173.trans (Rj some (by kernel_rfl))
 f151:=Tryz.func79.trans (Rj some (by kernel_rfl))
 f152:=Tryz.func128.trans (Rj some (by kernel_rfl))
 f162:=Tryz.func129.trans (Rj some (by kernel_rfl))
 f197:=Tryz.func247.trans (Rj some (by kernel_rfl))
 f217:=Tryz.func217.trans (Rj some (by kernel_rfl))
 f224:=Tryz.func175.trans (Rj some (by kernel_rfl))
 f225:=Tryz.func176.trans (Rj some (by kernel_rfl))
 f227:=Tryz.func178.trans (Rj some (by kernel_rfl))
 f228:=Tryz.func218.trans (Rj some (by kernel_rfl))
 f232:=Tryz.func177.trans (Rj some (by kernel_rfl))
 f234:=Tryz.func179.trans (Rj some (by kernel_rfl))
 f236:=Tryz.func180.trans (Rj some (by kernel_rfl))
 f260:=Tryz.func254.trans (Rj some (by kernel_rfl))
 f266:=Tryz.func245.trans (Rj some (by kernel_rfl))
 f271:=Tryz.func219.trans (Rj some (by kernel_rfl))
 t0:=TC
 a0:=UM
 z0:=Uv
 v0:=TG
 t3:=RM
 a3:=T1
 z3:=TH
 v3:=Td
 t4:=SX
 a4:=Un
 z4:=T5
 v4:=Tr
 t5:=SI
 a5:=TI
 z5:=Tu
 v5:=SR
 t9:=RO
 a9:=T2
 z9:=TJ
 v9:=Te
 t21:=U9
 a21:=Tryz.isAgg21
 z21:=Tryz.sizeOf21
 v21:=Vn
 t46:=Ub
 a46:=Vg
 z46:=U5
 v46:=Uo
 t105:=Tryz.underlying141
 a105:=Tryz.isAgg141
 z105:=Tryz.sizeOf141
 v105:=Tryz.zeroValue141
 t116:=Tryz.underlying252
 a116:=Tryz.isAgg252
 z116:=Tryz.sizeOf252
 t117:=Tryz.underlying253
 a117:=Tryz.isAgg253
 z117:=Tryz.sizeOf253
 v117:=Tryz.zeroValue253
 t119:=Tryz.underlying282
 a119:=Tryz.isAgg282
 z119:=Tryz.sizeOf282
 t124:=Tryz.underlying256
 a124:=Tryz.isAgg256
 z124:=Tryz.sizeOf256
 v124:=Tryz.zeroValue256
 t138:=Tryz.underlying284
 a138:=Tryz.isAgg284
 z138:=Tryz.sizeOf284
 v138:=Tryz.zeroValue284
 t139:=Tryz.underlying285
 a139:=Tryz.isAgg285
 z139:=Tryz.sizeOf285
 v139:=Tryz.zeroValue285
 g3:=by kernel_rfl
 g4:=by kernel_rfl }
def Tryz.lays119_ren:Go.Shelf.Ren:=⟨fun|119=>174|n=>n,fun|21=>21|4=>4|n=>n,fun|n=>n⟩
theorem Tryz.lays119:Go.Proofs.Lays.n119 Tryz.prog Tryz.lays119_ren:={
 mixed:=by kernel_rfl
 f119:=Tryz.func174.trans (Rj some (by kernel_rfl))
 t4:=SX
 a4:=Un
 z4:=T5
 v4:=Tr
 t21:=U9
 a21:=Tryz.isAgg21
 z21:=Tryz.sizeOf21
 v21:=Vn }
theorem Tryz.utf8_ValidRune (r:Int) (w:World) :
  Ra 174 #[.int .i32 r] w fun e w'=>e=.returned (.bool (Lib.validRune r))/\w'=w:=Any.utf8_ValidRune Tryz.lays119 r w
def Tryz.lays137_ren:Go.Shelf.Ren:=⟨fun|137=>173|217=>217|266=>245|n=>n,fun|9=>9|5=>5|3=>3|n=>n,fun|n=>n⟩
theorem Tryz.lays137:Go.Proofs.Lays.n137 Tryz.prog Tryz.lays137_ren:={
 mixed:=by kernel_rfl
 f137:=Tryz.func173.trans (Rj some (by kernel_rfl))
 f217:=Tryz.func217.trans (Rj some (by kernel_rfl))
 f266:=Tryz.func245.trans (Rj some (by kernel_rfl))
 t3:=RM
 a3:=T1
 z3:=TH
 v3:=Td
 t5:=SI
 a5:=TI
 z5:=Tu
 v5:=SR
 t9:=RO
 a9:=T2
 z9:=TJ
 v9:=Te }
theorem Tryz.strings_IndexByte (s:ByteArray) (c:Int) (w:World) :
  Ra 173 #[.string s,.int .u8 c] w fun e w'=>e=.returned (.int .i64 (Lib.indexByte s.data.toList c.toNat.toUInt8))/\w'=w:=Any.strings_IndexByte Tryz.lays137 s c w
def Tryz.laysM316_ren:Go.Shelf.Ren:=⟨fun|316=>181|n=>n,fun|9=>9|3=>3|4=>4|37=>124|0=>0|127=>190|5=>5|n=>n,fun|n=>n⟩
theorem Tryz.laysM316:Go.Proofs.LaysM.n316 Tryz.prog Tryz.laysM316_ren:={
 mixed:=by kernel_rfl
 f316:=Tryz.func181.trans (Rj some (by kernel_rfl))
 t0:=TC
 a0:=UM
 z0:=Uv
 v0:=TG
 t3:=RM
 a3:=T1
 z3:=TH
 v3:=Td
 t4:=SX
 a4:=Un
 z4:=T5
 v4:=Tr
 t9:=RO
 a9:=T2
 z9:=TJ
 v9:=Te
 t37:=SF
 a37:=Vh
 z37:=U6
 v37:=Up
 t127:=UX
 a127:=Tryz.isAgg190
 z127:=Tryz.sizeOf190
 v127:=Va
 t5:=SI
 a5:=TI
 z5:=Tu
 v5:=SR
 i0:=by kernel_rfl
 i3:=by kernel_rfl
 i4:=by kernel_rfl
 i5:=by kernel_rfl
 i9:=by kernel_rfl
 i37:=by kernel_rfl
 i127:=by kernel_rfl }
theorem Tryz.stringslite_Clone (s:ByteArray) (w:World) (hlim:s.size<=281474976710656) :
  Ra 181 #[.string s] w fun e w'=>e=.returned (.string s)/\Below w.heap.size w w':=Any.stringslite_Clone Tryz.laysM316 s w hlim
def Tryz.lays151_ren:Go.Shelf.Ren:=⟨fun|151=>79|152=>128|137=>173|119=>174|224=>175|225=>176|217=>217|266=>245|n=>n,fun|9=>9|21=>21|4=>4|3=>3|5=>5|0=>0|46=>187|n=>n,fun|n=>n⟩
theorem Tryz.lays151:Go.Proofs.Lays.n151 Tryz.prog Tryz.lays151_ren:={
 mixed:=by kernel_rfl
 f119:=Tryz.func174.trans (Rj some (by kernel_rfl))
 f137:=Tryz.func173.trans (Rj some (by kernel_rfl))
 f151:=Tryz.func79.trans (Rj some (by kernel_rfl))
 f152:=Tryz.func128.trans (Rj some (by kernel_rfl))
 f217:=Tryz.func217.trans (Rj some (by kernel_rfl))
 f224:=Tryz.func175.trans (Rj some (by kernel_rfl))
 f225:=Tryz.func176.trans (Rj some (by kernel_rfl))
 f266:=Tryz.func245.trans (Rj some (by kernel_rfl))
 t0:=TC
 a0:=UM
 z0:=Uv
 v0:=TG
 t3:=RM
 a3:=T1
 z3:=TH
 v3:=Td
 t4:=SX
 a4:=Un
 z4:=T5
 v4:=Tr
 t5:=SI
 a5:=TI
 z5:=Tu
 v5:=SR
 t9:=RO
 a9:=T2
 z9:=TJ
 v9:=Te
 t21:=U9
 a21:=Tryz.isAgg21
 z21:=Tryz.sizeOf21
 v21:=Vn
 t46:=Ub
 a46:=Vg
 z46:=U5
 v46:=Uo }
theorem Tryz.strings_ContainsRune_ascii (s:ByteArray) (r:Int) (w:World) (h0:0<=r) (h1:r<128) :
  Ra 79 #[.string s,.int .i32 r] w fun e w'=>e=.returned (.bool (decide (0<=Lib.indexByte s.data.toList r.toNat.toUInt8)))/\w'=w:=Any.strings_ContainsRune_ascii Tryz.lays151 s r w h0 h1
theorem Cx (s:ByteArray) (w:World) (hlim:s.size<=2147483647) :
  Ra 130 #[.string s] w fun e w'=>e=.returned (.string s)/\Below w.heap.size w w':=by
 have HC:Hid (Ra 181 #[.string s] w fun e w'=>e=.returned (.string s)/\Rc w w'):=Tryz.stringslite_Clone s w (by omega)
 go_enter Tryz.func130,Tryz.ntmps130
 go_wp2_with (go_at_call 181;refine HC.out.mono ?_;rintro e w1 ⟨rfl,hb⟩)
 go_ret
 exact ⟨rfl,hb⟩
theorem De (s:ByteArray) (w:World) (hs:s.size<=2147483647) :
  Ra 129 #[.string s,.string ⟨#[32,9,13]⟩] w fun e w'=>e=.returned (.string ⟨(Lib.trimRightS s.data.toList [32,9,13]).toArray⟩)/\Below w.heap.size w w':=
 Any.strings_TrimRight_laid Tryz.lays162 (by kernel_rfl) s ⟨#[32,9,13]⟩ w (by omega) (by decide) (ascii_of_all (by decide))
theorem M7 (x:UInt8) (h:128<=x.toNat):Lib.indexByte [13] x=-1:=by
 have h1:(13:UInt8)≠x:=by rintro rfl;exact absurd h (by decide)
 have h2:((13:UInt8) == x)=false:=by simpa using h1
 unfold Lib.indexByte;rw [h2];rfl
theorem Qz (p:Int) (x0 x1:UInt8) (w:World) (h0:128<=p) (h2:p≠65533) (hv:Lib.validRune p=true) (hR:Utf8.encode p=⟨#[x0,x1]⟩) (hL:128<=x1.toNat) :
  Ra 128 #[.string ⟨#[32,9,13]⟩,.int .i32 p] w fun e w'=>e=.returned (.int .i64 (-1))/\Below w.heap.size w w':=by
 have HV:Hid (Ra 174 #[.int .i32 p] w fun e w'=>e=.returned (.bool true)/\w'=w):=by
  have:=Tryz.utf8_ValidRune p w;rw [hv] at this;exact this
 have q1:¬p<128:=by omega
 have q2:(p == 65533)=false:=by simpa using h2
 have q0:(0:Int)<=p:=by omega
 have w2:IntKind.i64.wrap 2=2:=by decide
 have w3:IntKind.i64.wrap 3=3:=by decide
 have hcv:∀w,(convert 21 9 (.int .i32 p)).run Tryz.prog w=.ok (.string ⟨#[x0,x1]⟩) w:=fun w=>by rw [<-hR];exact Uj w _ _ _ _ rfl RO
 have HX:Hid (∀(r:ByteArray) (W:World),r=⟨#[13]⟩->Ra 173 #[.string r,.int .u8 (x1.toNat:Int)] W fun e w'=>e=.returned (.int .i64 (-1))/\w'=W):=by
  rintro r W rfl;have:=Tryz.strings_IndexByte ⟨#[13]⟩ (x1.toNat:Int) W;rw [TO] at this
  have e:Lib.indexByte (⟨#[13]⟩:ByteArray).data.toList x1.toNat.toUInt8=-1:=by
   rw [show x1.toNat.toUInt8=x1 from UInt8.ofNat_toNat];exact M7 x1 hL
  rw [e] at this;exact this
 have q4:((((⟨#[32,9,13]⟩:ByteArray)[1]'(by decide)).toNat:Int) != (((⟨#[x0,x1]⟩:ByteArray)[1]'(by show 1<2;decide)).toNat:Int))=true:=by
  show ((9:Int) != (x1.toNat:Int))=true
  simp;omega
 clear hR
 go_enter UY,UE
 go_wp2_with (first|(go_at_call 174;refine HV.out.mono ?_;rintro e w1 ⟨rfl,hw⟩;replace hw:=hw.symm;subst hw))
 go_step3
 go_wp2_with fail
 go_loopw [9] (fun i wr=>i=.int .i64 1/\wr=w) (fun _ _=>0)
 case atStart=>exact ⟨rfl,rfl⟩
 case round=>
  obtain ⟨rfl,hw⟩:=hrel;subst hw
  go_wp2_with fail
  go_step3
  go_wp2_with fail
  go_quiet (fail)
  go_wp2_with fail
  go_region_law (go_simp;go_at_call 173;refine (HX.out _ _ rfl).mono ?_;rintro e w2 ⟨rfl,hw⟩;replace hw:=hw.symm;subst hw)
  all_goals (
   go_wp2_with fail
   (repeat (first|rw [TK]|simp only [Exit.inBlock]|simp (config:={ zetaDelta:=true }) only [Exit.then,Exit.inBlock,TK]))
   go_ret
   exact ⟨rfl,dZ _ _⟩)
theorem Qy (p:Int) (x0 x1 x2:UInt8) (w:World) (h0:128<=p) (h2:p≠65533) (hv:Lib.validRune p=true) (hR:Utf8.encode p=⟨#[x0,x1,x2]⟩) (hL:128<=x2.toNat) :
  Ra 128 #[.string ⟨#[32,9,13]⟩,.int .i32 p] w fun e w'=>e=.returned (.int .i64 (-1))/\Below w.heap.size w w':=by
 have HV:Hid (Ra 174 #[.int .i32 p] w fun e w'=>e=.returned (.bool true)/\w'=w):=by
  have:=Tryz.utf8_ValidRune p w;rw [hv] at this;exact this
 have q1:¬p<128:=by omega
 have q2:(p == 65533)=false:=by simpa using h2
 have q0:(0:Int)<=p:=by omega
 have w2:IntKind.i64.wrap 2=2:=by decide
 have w3:IntKind.i64.wrap 3=3:=by decide
 have hcv:∀w,(convert 21 9 (.int .i32 p)).run Tryz.prog w=.ok (.string ⟨#[x0,x1,x2]⟩) w:=fun w=>by rw [<-hR];exact Uj w _ _ _ _ rfl RO
 have HX:Hid (∀(r:ByteArray) (W:World),r=⟨#[]⟩->Ra 173 #[.string r,.int .u8 (x2.toNat:Int)] W fun e w'=>e=.returned (.int .i64 (-1))/\w'=W):=by
  rintro r W rfl;have:=Tryz.strings_IndexByte ⟨#[]⟩ (x2.toNat:Int) W;rw [TO] at this
  have e:Lib.indexByte (⟨#[]⟩:ByteArray).data.toList x2.toNat.toUInt8=-1:=by
   rw [show x2.toNat.toUInt8=x2 from UInt8.ofNat_toNat];rfl
  rw [e] at this;exact this
 have q4:((((⟨#[32,9,13]⟩:ByteArray)[2]'(by decide)).toNat:Int) != (((⟨#[x0,x1,x2]⟩:ByteArray)[2]'(by show 2<3;decide)).toNat:Int))=true:=by
  show ((13:Int) != (x2.toNat:Int))=true
  simp;omega
 clear hR
 go_enter UY,UE
 go_wp2_with (first|(go_at_call 174;refine HV.out.mono ?_;rintro e w1 ⟨rfl,hw⟩;replace hw:=hw.symm;subst hw))
 go_step3
 go_wp2_with fail
 go_loopw [9] (fun i wr=>i=.int .i64 2/\wr=w) (fun _ _=>0)
 case atStart=>exact ⟨rfl,rfl⟩
 case round=>
  obtain ⟨rfl,hw⟩:=hrel;subst hw
  go_wp2_with fail
  go_step3
  go_wp2_with fail
  go_quiet (fail)
  go_wp2_with fail
  go_region_law (go_simp;go_at_call 173;refine (HX.out _ _ rfl).mono ?_;rintro e w2 ⟨rfl,hw⟩;replace hw:=hw.symm;subst hw)
  all_goals (
   go_wp2_with fail
   (repeat (first|rw [TK]|simp only [Exit.inBlock]|simp (config:={ zetaDelta:=true }) only [Exit.then,Exit.inBlock,TK]))
   go_ret
   exact ⟨rfl,dZ _ _⟩)
theorem Qx (p:Int) (x0 x1 x2 x3:UInt8) (w:World) (h0:128<=p) (h2:p≠65533) (hv:Lib.validRune p=true) (hR:Utf8.encode p=⟨#[x0,x1,x2,x3]⟩) (hL:128<=x3.toNat) :
  Ra 128 #[.string ⟨#[32,9,13]⟩,.int .i32 p] w fun e w'=>e=.returned (.int .i64 (-1))/\Below w.heap.size w w':=by
 have HV:Hid (Ra 174 #[.int .i32 p] w fun e w'=>e=.returned (.bool true)/\w'=w):=by
  have:=Tryz.utf8_ValidRune p w;rw [hv] at this;exact this
 have q1:¬p<128:=by omega
 have q2:(p == 65533)=false:=by simpa using h2
 have q0:(0:Int)<=p:=by omega
 have w2:IntKind.i64.wrap 2=2:=by decide
 have w3:IntKind.i64.wrap 3=3:=by decide
 have hcv:∀w,(convert 21 9 (.int .i32 p)).run Tryz.prog w=.ok (.string ⟨#[x0,x1,x2,x3]⟩) w:=fun w=>by rw [<-hR];exact Uj w _ _ _ _ rfl RO
 clear hR
 go_enter UY,UE
 go_wp2_with (first|(go_at_call 174;refine HV.out.mono ?_;rintro e w1 ⟨rfl,hw⟩;replace hw:=hw.symm;subst hw))
 go_step3
 go_wp2_with fail
 go_loopw [9] (fun i wr=>i=.int .i64 3/\wr=w) (fun _ _=>0)
 case atStart=>exact ⟨rfl,rfl⟩
 case round=>
  obtain ⟨rfl,hw⟩:=hrel;subst hw
  go_wp2_with fail
  (repeat (first|rw [TK]|simp only [Exit.inBlock]))
  go_ret
  exact ⟨rfl,hH _ _⟩
theorem J4 (p:Int) (w:World) (h0:128<=p) (h2:p≠65533) (hv:Lib.validRune p=false) :
  Ra 128 #[.string ⟨#[32,9,13]⟩,.int .i32 p] w fun e w'=>e=.returned (.int .i64 (-1))/\Below w.heap.size w w':=by
 have HV:Hid (Ra 174 #[.int .i32 p] w fun e w'=>e=.returned (.bool false)/\w'=w):=by
  have:=Tryz.utf8_ValidRune p w;rw [hv] at this;exact this
 have q1:¬p<128:=by omega
 have q2:(p == 65533)=false:=by simpa using h2
 have q0:(0:Int)<=p:=by omega
 go_enter UY,UE
 go_wp2_with (first|(go_at_call 174;refine HV.out.mono ?_;rintro e w1 ⟨rfl,hw⟩;replace hw:=hw.symm;subst hw))
 (repeat (first|rw [TK]|simp only [Exit.inBlock]))
 go_ret
 exact ⟨rfl,hH _ _⟩
theorem Nx:∀pos,pos<3->Utf8.decode ⟨#[32,9,13]⟩ pos=((⟨#[32,9,13]⟩:ByteArray).get! pos |>.toNat,1)/\((⟨#[32,9,13]⟩:ByteArray).get! pos).toNat<128:=by decide
theorem J3 (w:World) :
  Ra 128 #[.string ⟨#[32,9,13]⟩,.int .i32 65533] w fun e w'=>e=.returned (.int .i64 (-1))/\Below w.heap.size w w':=by
 obtain ⟨s,hs⟩:∃s:ByteArray,s=⟨#[32,9,13]⟩:=⟨_,rfl⟩;have hz:s.size=3:=by rw [hs];rfl
 have hd:∀pos,pos<3->dw s pos=1/\dp s pos<128:=fun pos hp=>by
  obtain ⟨e1,e2⟩:=Nx pos hp;unfold dw dp;rw [hs,e1];exact ⟨rfl,e2⟩
 rw [<-hs];clear hs
 go_enter UY,UE
 go_wp2_with fail
 go_loopw [] (fun w'=>∃pos:Nat,pos<=3/\w'=w.iter s pos) (fun w'=>s.size-w'.iterPos w.heap.size)
 case atStart=>exact ⟨0,by omega,rfl⟩
 case round=>
  obtain ⟨pos,hp3,rfl⟩:=hrel
  by_cases hp:pos<s.size
  ·have hnx:∀ty,(Instr.next (.pointer (some ⟨w.heap.size,0,none⟩)) true ty).run Tryz.prog (w.iter s pos)=_:=fun ty=>UU w s pos ty hp
   obtain ⟨d1,d2⟩:=hd pos (by omega);unfold dw at d1;unfold dp at d2;have q9:(((Utf8.decode s pos).1:Int) == 65533)=false:=by simp;omega
   go_wp2_with fail
   exact ⟨⟨pos+1,by omega,rfl⟩,by simp;omega⟩
  ·have hnx:∀ty,(Instr.next (.pointer (some ⟨w.heap.size,0,none⟩)) true ty).run Tryz.prog (w.iter s pos)=_:=fun ty=>Vq w s pos ty hp
   go_wp2_with fail
   go_ret
   exact ⟨rfl,dY _ _ _⟩
end Go.Proofs.YtnljjdhodelhdaaGreatDoor.Lx
namespace Go.Proofs.YtnljjdhodelhdaaGreatDoor.Lx
open Go.RowKit
variable {R:ByteArray}
theorem QG (h:R.size=2):∃x0 x1,R=⟨#[x0,x1]⟩:=by
 obtain ⟨⟨l⟩⟩:=R
 match l,h with
 |[x0,x1],_=>exact ⟨x0,x1,rfl⟩
theorem QF (h:R.size=3):∃x0 x1 x2,R=⟨#[x0,x1,x2]⟩:=by
 obtain ⟨⟨l⟩⟩:=R
 match l,h with
 |[x0,x1,x2],_=>exact ⟨x0,x1,x2,rfl⟩
theorem QE (h:R.size=4):∃x0 x1 x2 x3,R=⟨#[x0,x1,x2,x3]⟩:=by
 obtain ⟨⟨l⟩⟩:=R
 match l,h with
 |[x0,x1,x2,x3],_=>exact ⟨x0,x1,x2,x3,rfl⟩
theorem J5 (p:Int) (w:World) (h0:128<=p) :
  Ra 128 #[.string ⟨#[32,9,13]⟩,.int .i32 p] w fun e w'=>e=.returned (.int .i64 (-1))/\Below w.heap.size w w':=by
 by_cases h2:p=65533
 ·subst h2;exact J3 w
 ·cases hv:Lib.validRune p with
  |false=>exact J4 p w h0 h2 hv
  |true=>
   obtain ⟨f1,f2,f3⟩:=encode_facts p (by rw [validRune_eq];exact hv) h0;have f4:=f3 (by omega);obtain ⟨R,hR⟩:∃R,Utf8.encode p=R:=⟨_,rfl⟩;simp only [hR] at f1 f2 f3 f4
   rcases (show R.size=2\/R.size=3\/R.size=4 by omega) with h|h|h
   ·obtain ⟨x0,x1,rfl⟩:=QG h;exact Qz p x0 x1 w h0 h2 hv hR f4
   ·obtain ⟨x0,x1,x2,rfl⟩:=QF h;exact Qy p x0 x1 x2 w h0 h2 hv hR f4
   ·obtain ⟨x0,x1,x2,x3,rfl⟩:=QE h;exact Qx p x0 x1 x2 x3 w h0 h2 hv hR f4
theorem Jo:∀n:Nat,n<128->decide ((0:Int)<=Lib.indexByte [32,9,13] n.toUInt8)=decide (n=32\/n=9\/n=13):=by decide
def qr (p:Int):Bool:=decide (p=32\/p=9\/p=13)
theorem tD (p:Int) (w:World) (h0:0<=p) :
  Ra 79 #[.string ⟨#[32,9,13]⟩,.int .i32 p] w fun e w'=>e=.returned (.bool (qr p))/\Below w.heap.size w w':=by
 by_cases h:p<128
 ·refine (Tryz.strings_ContainsRune_ascii ⟨#[32,9,13]⟩ p w h0 h).mono ?_;rintro e w' ⟨rfl,rfl⟩;refine ⟨?_,hH _ _⟩;have e:=Jo p.toNat (by omega);have e2:decide (p.toNat=32\/p.toNat=9\/p.toNat=13)=qr p:=by unfold qr;rw [SW];omega
  rw [<-e2,<-e]
 ·have HF:Hid (Ra 128 #[.string ⟨#[32,9,13]⟩,.int .i32 p] w fun e w'=>e=.returned (.int .i64 (-1))/\Rc w w'):=J5 p w (by omega);have e2:qr p=false:=by unfold qr;rw [Sj];omega
  rw [e2];clear e2
  go_enter Tryz.func79,Tryz.ntmps79
  go_wp2_with (go_at_call 128;refine HF.out.mono ?_;rintro e w1 ⟨rfl,hb⟩)
  go_ret
  exact ⟨rfl,hb⟩
theorem mD (p:Int) (w:World) (h0:0<=p) :
  Ra 33 #[.int .i32 p] w fun e w'=>e=.returned (.bool (qr p))/\Below w.heap.size w w':=by
 have HF:Hid (Ra 79 #[.string ⟨#[32,9,13]⟩,.int .i32 p] w fun e w'=>e=.returned (.bool (qr p))/\Rc w w'):=tD p w h0
 generalize qr p=r at *
 go_enter Tryz.func33,Tryz.ntmps33
 go_wp2_with (go_at_call 79;refine HF.out.mono ?_;rintro e w1 ⟨rfl,hb⟩)
 go_ret
 exact ⟨rfl,hb⟩
theorem Gs (b:UInt8):[(32:UInt8),9,13].contains b=cV b.toNat:=by
 unfold cV;simp only [List.contains_cons,List.contains_nil,Bool.or_false];rw [SE];simp only [Ri,R5,<-UL];constructor
 ·rintro (h|h|h)
  ·exact .inl (.inl h)
  ·exact .inl (.inr h)
  ·exact .inr h
 ·rintro ((h|h)|h)
  ·exact .inl h
  ·exact .inr (.inl h)
  ·exact .inr (.inr h)
theorem zZ (s:ByteArray) (a p j:Nat) (b:UInt8) (hp:p<=s.size) (h:(s.extract a p).data.toList[j]?=some b):j<p-a/\ay s (a+j)=b.toNat:=by
 have hz:=az s a p hp;have hj:j<(s.extract a p).data.toList.length:=(Q7.1 h).1;have hl:(s.extract a p).data.toList.length=(s.extract a p).size:=by rw [RU];rfl
 refine ⟨by omega,?_⟩;have e:=aS s a p j (by omega);rw [<-e];unfold ay;have h2:=(Q7.1 h).2
 have:(s.extract a p).get! j=b:=by
  show (s.extract a p).data[j]! = b
  rw [Ut (s.extract a p).data j (by rw [RU] at hj;exact hj)]
  simpa using h2
 rw [this]
theorem Hm (s:ByteArray) (a p:Nat) (hap:a<p) (hp:p<=s.size) (ha:cV (ay s a)=false):(⟨(Lib.trimRightS (s.extract a p).data.toList [32,9,13]).toArray⟩:ByteArray)=s.extract a (be s p):=by
 have h1:=fS s p;have h2:=ja s a ha p hap;have h3:=ox s p;have hz:=az s a p hp;have hl:(s.extract a p).data.toList.length=(s.extract a p).size:=by rw [RU];rfl
 have e:Lib.trimRightS (s.extract a p).data.toList [32,9,13]=(s.extract a p).data.toList.take (be s p-a):=by
  refine Lib.trimRightS_take _ _ _ (by omega) (fun j b hj hb=>?_) (fun b h0 hb=>?_)
  ·obtain ⟨e1,e2⟩:=zZ s a p j b hp hb;rw [Gs,<-e2];exact h3 (a+j) (by omega) (by omega)
  ·obtain ⟨e1,e2⟩:=zZ s a p _ b hp hb;rw [Gs,<-e2];have h4:a+(be s p-a-1)=be s p-1:=by omega
   rw [h4]
   have key:∀q,0<be s q->cV (ay s (be s q-1))=false:=by
    intro q
    induction q with
    |zero=>intro h;exact absurd h (by simp [be])
    |succ q ih=>
     intro h;unfold be at h ⊢
     by_cases e:cV (ay s q)=true
     ·rw [IO e] at h ⊢;exact ih h
     ·rw [Eq e] at h ⊢;simpa using e
   exact key p (by omega)
 rw [e];refine fh _ _ ?_ (fun j hj=>?_)
 ·rw [az s a _ (by omega)];show ((s.extract a p).data.toList.take (be s p-a)).toArray.size=_;simp;omega
 ·have hj2:j<be s p-a:=by
   have:(⟨((s.extract a p).data.toList.take (be s p-a)).toArray⟩:ByteArray).size=((s.extract a p).data.toList.take (be s p-a)).length:=by show Array.size _=_;simp
   rw [this,Ry] at hj;omega
  rw [aS s a _ j (by omega)];rw [<-aS s a p j (by omega)];unfold ay
  congr 1
  show ((s.extract a p).data.toList.take (be s p-a)).toArray[j]! = (s.extract a p).data[j]!
  rw [Ut _ j (by simp;omega),Ut _ j (by have:(s.extract a p).data.size=(s.extract a p).size:=rfl;omega)];simp
end Go.Proofs.YtnljjdhodelhdaaGreatDoor.Lx
