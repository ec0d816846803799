import Derived.Deep.RegionHeld3
import Derived.WalkMore
import Derived.ScopeJumps
import Derived.Test.YtpdlohfdjiaegaaGreatDoorM06
set_option linter.unusedVariables false
set_option linter.unusedSimpArgs false
namespace Go.Proofs.YtpdlohfdjiaegaaGreatDoor.Lx
open Go.RowKit
variable {s:ByteArray}{a g b f:Nat}{W w0:World}{p n:Int}{l:List Tv}{v:Value}
def rpt (s:ByteArray) (a:Nat):Int:=if a<s.size then (dp s a:Int) else -1
def rsz (s:ByteArray) (a:Nat):Nat:=if a<s.size then dw s a else 0
theorem ei (h:a<s.size):rpt s a=dp s a:=by unfold rpt;rw [if_pos h]
theorem gr (h:s.size<=a):rpt s a=-1:=by unfold rpt;rw [if_neg (by omega)]
theorem bh (h:a<s.size):rsz s a=dw s a:=by unfold rsz;rw [if_pos h]
theorem dZ (h:s.size<=a):rsz s a=0:=by unfold rsz;rw [if_neg (by omega)]
theorem uE (s:ByteArray) (a:Nat) (h:a<=s.size):a+rsz s a<=s.size:=by
 by_cases e:a<s.size
 ·rw [bh e];exact (aG s a e).2.2
 ·rw [dZ (by omega)];exact h
theorem lx (s:ByteArray) (a:Nat):-1<=rpt s a/\rpt s a<=1114111:=by
 unfold rpt;have:=od s a
 split <;> omega
def RB (W:World) (g:Nat) (s:ByteArray) (a:Nat) (p n:Int) (b:Nat) (f:Nat) (v:Value):Prop:=
 W.heap[g]?=some (.cells #[.string s,.int .i64 a,.int .i32 p,.int .i64 n,.int .i64 b,.int .i64 (pL s b),.int .i64 (pC s b),.int .i64 f,v] 100 (0,0))
structure Rq (w0 W:World) (g:Nat) (s:ByteArray) (a:Nat) (p n:Int) (b f:Nat) (l:List Tv):Prop where
 bel:Below w0.heap.size w0 W
 g0:w0.heap.size<=g
 blk:∃v,RB W g s a p n b f v/\Rt w0.heap.size W v l
def Rs (w0 W:World) (g:Nat) (s:ByteArray) (a b f:Nat) (l:List Tv):Prop:=Rq w0 W g s a (rpt s a) (rsz s a) b f l
theorem Rq.below {W':World}(h:Rq w0 W g s a p n b f l) (hb:Below W.heap.size W W'):Rq w0 W' g s a p n b f l:=by
 obtain ⟨h1,h2,v,h3,h4⟩:=h;exact ⟨h1.trans (hb.mono h1.size),h2,v,ab h3 hb,h4.below hb⟩
theorem Rq.set (h1:Below w0.heap.size w0 W) (h2:w0.heap.size<=g) (h3:RB W g s a p n b f v) (h4:Rt w0.heap.size W v l) (k:Nat) (u:Value)
  {s':ByteArray} {a':Nat} {p' n':Int} {b' f':Nat} {v':Value} (he:#[.string s,.int .i64 a,.int .i32 p,.int .i64 n,.int .i64 b,.int .i64 (pL s b),.int .i64 (pC s b),.int .i64 f,v].setIfInBounds k u=#[.string s',.int .i64 a',.int .i32 p',.int .i64 n',.int .i64 b',.int .i64 (pL s' b'),.int .i64 (pC s' b'),.int .i64 f',v']) (hv:v'=v) :
  Below w0.heap.size w0 (W.setCell ⟨g,k,none⟩ u)/\RB (W.setCell ⟨g,k,none⟩ u) g s' a' p' n' b' f' v'/\Rt w0.heap.size (W.setCell ⟨g,k,none⟩ u) v' l:=by
 refine ⟨h1.setCell (p:=⟨g,k,none⟩) h2 u,?_,?_⟩
 ·have:=af h3 k u;rw [he] at this;exact this
 ·rw [hv];exact h4.kp (Kp.set W g k u) (h4.ne h3 (by decide))
theorem Rq.cells {W:World}{g:Nat}{s:ByteArray}{a:Nat}{p n:Int}{b f:Nat}{v:Value}(h:RB W g s a p n b f v) :
  W.cell? ⟨g,0,none⟩=some (.string s)/\W.cell? ⟨g,1,none⟩=some (.int .i64 a)/\W.cell? ⟨g,2,none⟩=some (.int .i32 p)/\W.cell? ⟨g,3,none⟩=some (.int .i64 n)/\W.cell? ⟨g,4,none⟩=some (.int .i64 b) /\
  W.cell? ⟨g,5,none⟩=some (.int .i64 (pL s b))/\W.cell? ⟨g,6,none⟩=some (.int .i64 (pC s b))/\W.cell? ⟨g,7,none⟩=some (.int .i64 f)/\W.cell? ⟨g,8,none⟩=some v:=
 ⟨aa h rfl,aa h rfl,aa h rfl,aa h rfl,aa h rfl,aa h rfl,aa h rfl,aa h rfl,aa h rfl⟩
theorem RB.frozen (h:RB W g s a p n b f v) (k:Nat):W.frozen? ⟨g,k,none⟩=false:=ak h
theorem Ct (p q:Int):(false || decide (p=q))=(p == q):=by rw [Bool.eq_iff_iff];simp
theorem bf (p:Int) (w:World) :
  Da 87 #[.int .i32 p] w fun e w'=>e=.returned (.bool (decide (48<=p) && decide (p<=57)))/\w'=w:=by
 by_cases h:48<=p
 ·have e:(decide (48<=p) && decide (p<=57))=decide (p<=57):=by rw [decide_eq_true h];rfl
  rw [e];clear e
  go_enter Tryz.func87,Tryz.ntmps87
  go_wp2_with fail
  go_ret
  exact ⟨rfl,rfl⟩
 ·have e:(decide (48<=p) && decide (p<=57))=false:=by rw [decide_eq_false h];rfl
  rw [e];clear e
  go_enter Tryz.func87,Tryz.ntmps87
  go_wp2_with fail
  go_ret
  exact ⟨rfl,rfl⟩
theorem bU (p:Int) (w:World) :
  Da 140 #[.int .i32 p] w fun e w'=>e=.returned (.bool (decide (p<32) || decide (p=127)))/\w'=w:=by
 by_cases h:p<32
 ·have e:(decide (p<32) || decide (p=127))=true:=by rw [decide_eq_true h];rfl
  rw [e];clear e
  go_enter Tryz.func140,Tryz.ntmps140
  go_wp2_with fail
  go_ret
  exact ⟨rfl,rfl⟩
 ·have e:(decide (p<32) || decide (p=127))=(p == 127):=by rw [decide_eq_false h];exact Ct _ _
  rw [e];clear e
  go_enter Tryz.func140,Tryz.ntmps140
  go_wp2_with fail
  go_ret
  exact ⟨rfl,rfl⟩
theorem bJ (p:Int) (w:World) :
  Da 139 #[.int .i32 p] w fun e w'=>e=.returned (.bool (decide (p=10) || decide (p=-1)))/\w'=w:=by
 by_cases h:p=10
 ·subst h
  go_enter Tryz.func139,Tryz.ntmps139
  go_wp2_with fail
  go_ret
  exact ⟨rfl,rfl⟩
 ·have e:(decide (p=10) || decide (p=-1))=(p == -1):=by rw [decide_eq_false h];exact Ct _ _
  have h1:(p == 10)=false:=by simpa using h
  rw [e];clear e h
  go_enter Tryz.func139,Tryz.ntmps139
  go_wp2_with fail
  go_ret
  exact ⟨rfl,rfl⟩
theorem nC (h:Rq w0 W g s a p n b f l) (hs:s.size<=2147483647) (ha:a<=s.size) :
  Da 50 #[.pointer (some ⟨g,0,none⟩)] W fun e w'=>e=.returned (.tuple #[])/\Rs w0 w' g s a b f l:=by
 obtain ⟨h1,h2,v,h3,h4⟩:=h;obtain ⟨c0,c1,c2,c3,c4,c5,c6,c7,c8⟩:=Rq.cells h3
 by_cases hlt:a<s.size
 ·have hd:=od s a;obtain ⟨hw1,hw2,hw3⟩:=aG s a hlt
  have HN:Hid (∀w,Da 82 #[.string s,.int .i64 a] w fun e w'=>e=.returned (.tuple #[.int .i64 (dp s a),.int .i64 (dw s a),.bool (gd s a)])/\Db w w'):=fun w=>by
   have:=qK s a w (by unfold maxLen;omega) (by omega) (by omega);rw [Int.toNat_natCast] at this;exact this
  have HR:Hid (∀w',Db W w'->Db w0 w'/\RB w' g s a p n b f v/\Rt w0.heap.size w' v l):=fun w' hb=>⟨h1.trans (hb.mono h1.size),ab h3 hb,h4.below hb⟩
  have HK:Hid (∀V,Db W V->V.cell? ⟨g,0,none⟩=some (.string s)/\V.cell? ⟨g,1,none⟩=some (.int .i64 a)/\Db W V):=fun V hV=>⟨aa (ab h3 hV) rfl,aa (ab h3 hV) rfl,hV⟩
  have e1:=ei hlt;have e2:=bh hlt;have HE:Hid (rpt s a=dp s a/\rsz s a=dw s a):=⟨e1,e2⟩
  generalize dp s a=x at *
  generalize dw s a=y at *
  generalize gd s a=z at *
  clear e1 e2 h1 h3 h4 c0 c1 c2 c3 c4 c5 c6 c7 c8
  go_enter Tryz.func50,Tryz.ntmps50
  go_wp2_with fail
  go_region_held3 (fun w'=>w'.cell? ⟨g,0,none⟩=some (.string s)/\w'.cell? ⟨g,1,none⟩=some (.int .i64 a)/\Below W.heap.size W w') (first|(exact HK.out _ (by assumption))|(exact HK.out _ (Below.refl _ _).drew)|go_keep) (first|(go_at_call 82;refine (HN.out _).mono ?_;rintro e w1 ⟨rfl,hb1⟩;have hbW:=(by first|exact (Below.refl W.heap.size W).drew.trans (hb1.mono (Nat.le_refl _))|exact (by assumption:Below W.heap.size W _).trans (hb1.mono (Below.size (by assumption))):Below W.heap.size W w1)))
  all_goals (
   obtain ⟨k1,k3,k4⟩:=HR.out _ hbW;have z2:=k3.frozen 2;have z3:=k3.frozen 3;obtain ⟨_,_,c2,c3,_⟩:=Rq.cells k3;obtain ⟨m1,m3,m4⟩:=Rq.set k1 h2 k3 k4 2 (.int .i32 x) (p':=x) rfl rfl;obtain ⟨n1,n3,n4⟩:=Rq.set m1 h2 m3 m4 3 (.int .i64 y) (n':=y) rfl rfl;have HF:Hid (Rs w0 ((w1.setCell ⟨g,2,none⟩ (.int .i32 x)).setCell ⟨g,3,none⟩ (.int .i64 y)) g s a b f l):=⟨n1,h2,v,by rw [HE.out.1,HE.out.2];exact n3,n4⟩;clear k1 k3 k4 m1 m3 m4 n1 n3 n4
   go_wp2_with fail
   go_end0
   exact ⟨rfl,HF.out⟩)
 ·have HN:Hid (∀w,Da 82 #[.string s,.int .i64 a] w fun e w'=>e=.returned (.tuple #[.int .i64 0,.int .i64 0,.bool false])/\Db w w'):=fun w=>nz s a w (by unfold maxLen;omega) (.inr (by omega))
  have HR:Hid (∀w',Db W w'->Db w0 w'/\RB w' g s a p n b f v/\Rt w0.heap.size w' v l):=fun w' hb=>⟨h1.trans (hb.mono h1.size),ab h3 hb,h4.below hb⟩
  have HK:Hid (∀V,Db W V->V.cell? ⟨g,0,none⟩=some (.string s)/\V.cell? ⟨g,1,none⟩=some (.int .i64 a)/\Db W V):=fun V hV=>⟨aa (ab h3 hV) rfl,aa (ab h3 hV) rfl,hV⟩
  have HE:Hid (rpt s a=-1/\rsz s a=0):=⟨gr (by omega),dZ (by omega)⟩;clear h1 h3 h4 c0 c1 c2 c3 c4 c5 c6 c7 c8
  go_enter Tryz.func50,Tryz.ntmps50
  go_wp2_with fail
  go_region_held3 (fun w'=>w'.cell? ⟨g,0,none⟩=some (.string s)/\w'.cell? ⟨g,1,none⟩=some (.int .i64 a)/\Below W.heap.size W w') (first|(exact HK.out _ (by assumption))|(exact HK.out _ (Below.refl _ _).drew)|go_keep) (first|(go_at_call 82;refine (HN.out _).mono ?_;rintro e w1 ⟨rfl,hb1⟩;have hbW:=(by first|exact (Below.refl W.heap.size W).drew.trans (hb1.mono (Nat.le_refl _))|exact (by assumption:Below W.heap.size W _).trans (hb1.mono (Below.size (by assumption))):Below W.heap.size W w1)))
  all_goals (
   obtain ⟨k1,k3,k4⟩:=HR.out _ hbW;have z2:=k3.frozen 2;have z3:=k3.frozen 3;obtain ⟨_,_,c2,c3,_⟩:=Rq.cells k3;obtain ⟨m1,m3,m4⟩:=Rq.set k1 h2 k3 k4 2 (.int .i32 0) (p':=0) rfl rfl;obtain ⟨n1,n3,n4⟩:=Rq.set m1 h2 m3 m4 3 (.int .i64 0) (n':=0) rfl rfl;obtain ⟨o1,o3,o4⟩:=Rq.set n1 h2 n3 n4 2 (.int .i32 (-1)) (p':=-1) rfl rfl;have HF:Hid (Rs w0 (((w1.setCell ⟨g,2,none⟩ (.int .i32 0)).setCell ⟨g,3,none⟩ (.int .i64 0)).setCell ⟨g,2,none⟩ (.int .i32 (-1))) g s a b f l):=⟨o1,h2,v,by rw [HE.out.1,HE.out.2];exact o3,o4⟩;clear k1 k3 k4 m1 m3 m4 n1 n3 n4 o1 o3 o4
   go_wp2_with fail
   go_end0
   exact ⟨rfl,HF.out⟩)
theorem bR (W:World) (m:Nat):Below W.heap.size W (W.drewN m):=gP (Below.refl _ _) m
theorem fP (h:RB W g s a p n b f v) (hs:s.size<=2147483647) (hba:b<=a) (ha:a<=s.size) :
  Da 144 #[.pointer (some ⟨g,0,none⟩)] W fun e w'=>e=.returned (.string (s.extract b a))/\∃m,w'=W.drewN m:=by
 obtain ⟨c0,c1,c2,c3,c4,c5,c6,c7,c8⟩:=Rq.cells h;have q1:(b:Int)<=a:=by omega
 have q2:(a:Int)<=s.size:=by omega
 clear h
 go_enter Tryz.func144,Tryz.ntmps144
 go_wp2_with fail
 go_quiet (fail)
 go_wp2_with fail
 go_ret
 exact ⟨rfl,_,rfl⟩
theorem bD (h:Rs w0 W g s a b f l) (hs:s.size<=2147483647) (ha:a<=s.size) :
  Da 133 #[.pointer (some ⟨g,0,none⟩)] W fun e w'=>e=.returned (.tuple #[])/\Rs w0 w' g s (a+rsz s a) b f l:=by
 have hle:=uE s a ha;obtain ⟨h1,h2,v,h3,h4⟩:=h;obtain ⟨c0,c1,c2,c3,c4,c5,c6,c7,c8⟩:=Rq.cells h3;have z1:=h3.frozen 1;obtain ⟨m1,m3,m4⟩:=Rq.set h1 h2 h3 h4 1 (.int .i64 ((a+rsz s a:Nat):Int)) (a':=a+rsz s a) rfl rfl;have hwr:IntKind.i64.wrap ((a:Int)+(rsz s a:Int))=(a:Int)+(rsz s a:Int):=by rw [IntKind.wrap_i64];omega
 have HL:Hid (∀V,Below (W.setCell ⟨g,1,none⟩ (.int .i64 ((a:Int)+(rsz s a:Int)))).heap.size (W.setCell ⟨g,1,none⟩ (.int .i64 ((a:Int)+(rsz s a:Int)))) V->Da 50 #[.pointer (some ⟨g,0,none⟩)] V fun e w'=>e=.returned (.tuple #[])/\Rs w0 w' g s (a+rsz s a) b f l):=by
  intro V hV;rw [Int.natCast_add] at m1 m3 m4;exact nC (Rq.below ⟨m1,h2,v,m3,m4⟩ hV) hs hle
 generalize rsz s a=y at *
 clear h1 h3 h4 m1 m3 m4
 go_enter Tryz.func133,Tryz.ntmps133
 go_wp2_with fail
 go_region_law (fail)
 all_goals (
  go_wp2_with (go_at_call 50;refine (HL.out _ (Below.refl _ _).drew).mono ?_;rintro e w1 ⟨rfl,h5⟩)
  go_end0
  exact ⟨rfl,h5⟩)
theorem dO {n:Nat}(h:RB W g s a p n b f v) (hs:s.size<=2147483647) (hba:b<=a) (ha:a<=s.size) (hn:n<=4) :
  Da 138 #[.pointer (some ⟨g,0,none⟩)] W fun e w'=>e=.returned (.bool (decide (65535<a+n-b)))/\Below W.heap.size W w':=by
 have HB:Hid (∀V,Db W V->Da 144 #[.pointer (some ⟨g,0,none⟩)] V fun e w'=>e=.returned (.string (s.extract b a))/\Db V w'):=fun V hV=>by
  refine (fP (ab h hV) hs hba ha).mono ?_;rintro e w' ⟨rfl,m,rfl⟩;exact ⟨rfl,bR _ _⟩
 have HK:Hid (∀V,Db W V->V.cell? ⟨g,3,none⟩=some (.int .i64 n)/\Db W V):=fun V hV=>⟨aa (ab h hV) rfl,hV⟩
 have hz:(s.extract b a).size=a-b:=aj s b a ha;have e:decide (65535<a+n-b)=decide (((s.extract b a).size:Int)+n>65535):=by rw [decide_eq_decide,hz];omega
 rw [e];have hwr:IntKind.i64.wrap (((s.extract b a).size:Int)+(n:Int))=((s.extract b a).size:Int)+(n:Int):=by rw [IntKind.wrap_i64,hz];omega
 clear e h hz
 generalize s.extract b a=t at *
 go_enter Tryz.func138,Tryz.ntmps138
 go_wp2_with fail
 go_region_held3 (fun w'=>w'.cell? ⟨g,3,none⟩=some (.int .i64 n)/\Below W.heap.size W w') (first|(exact HK.out _ (by assumption))|(exact HK.out _ (Below.refl _ _).drew)|go_keep) (first|(go_at_call 144;refine (HB.out _ (by first|assumption|exact (Below.refl _ _).drew)).mono ?_;rintro e w1 ⟨rfl,hb1⟩;have hbW:=(by first|exact (Below.refl W.heap.size W).drew.trans (hb1.mono (Nat.le_refl _))|exact (by assumption:Below W.heap.size W _).trans (hb1.mono (Below.size (by assumption))):Below W.heap.size W w1)))
 all_goals (
  go_wp2_with fail
  go_ret
  exact ⟨rfl,hbW⟩)
theorem nO (h:RB W g s a p n b f v) (hs:s.size<=2147483647) (hba:b<=a) (hb:bd s b) (ha:bd s a) :
  Da 93 #[.pointer (some ⟨g,0,none⟩)] W fun e w'=>e=.returned (plV a (pL s a) (pC s a))/\Below W.heap.size W w':=by
 have hal:=wS ha;obtain ⟨j1,j2,j3⟩:=xe hb ha hba hs;obtain ⟨W1,hW1⟩:∃W1,W.alloc (.cells #[.int .i64 0,.int .i64 0,.int .i64 0] 35)=W1:=⟨_,rfl⟩;have hB0:Below W.heap.size W W1:=by rw [<-hW1];exact (Below.refl _ _).alloc (Nat.le_refl _) _
 have k0:bu W1 W.heap.size 0 0 0:=by rw [<-hW1];exact bu.new W 0 0 0
 have HB:Hid (∀V,Db W V->Da 144 #[.pointer (some ⟨g,0,none⟩)] V fun e w'=>e=.returned (.string (s.extract b a))/\Db V w'):=fun V hV=>by
  refine (fP (ab h hV) hs hba hal).mono ?_;rintro e w' ⟨rfl,m,rfl⟩;exact ⟨rfl,bR _ _⟩
 have HA:Hid (∀V,Da 143 #[.agg #[.int .i64 b,.int .i64 (pL s b),.int .i64 (pC s b)],.string (s.extract b a)] V fun e w'=>e=.returned (.agg #[.int .i64 a,.int .i64 (pL s a),.int .i64 (pC s a)])/\Db V w'):=fun V=>by
  have:=zz b (pL s b) (pC s b) (s.extract b a) V (by rw [aj s b a hal];omega) (B7 s b);rw [j1,j2,j3] at this;exact this
 have HK:Hid (∀V,Db W V->V.cell? ⟨g,4,none⟩=some (.int .i64 b)/\V.cell? ⟨g,5,none⟩=some (.int .i64 (pL s b))/\V.cell? ⟨g,6,none⟩=some (.int .i64 (pC s b))/\Db W V):=fun V hV=>⟨aa (ab h hV) rfl,aa (ab h hV) rfl,aa (ab h hV) rfl,hV⟩
 clear h j1 j2 j3;unfold plV
 generalize s.extract b a=t at *
 generalize pL s a=L2 at *
 generalize pC s a=C2 at *
 generalize pL s b=L at *
 generalize pC s b=C at *
 go_enter Tryz.func93,Tryz.ntmps93
 go_wp2_with fail
 try rw [hW1]
 clear hW1
 go_region_held3 (fun w'=>w'.cell? ⟨g,4,none⟩=some (.int .i64 b)/\w'.cell? ⟨g,5,none⟩=some (.int .i64 L)/\w'.cell? ⟨g,6,none⟩=some (.int .i64 C)/\Below W.heap.size W w') (first|(exact HK.out _ (by assumption))|(exact HK.out _ hB0.drew)|(exact HK.out _ (((hbX.setCell (p:=⟨W.heap.size,0,none⟩) (Nat.le_refl _) _).setCell (p:=⟨W.heap.size,1,none⟩) (Nat.le_refl _) _).setCell (p:=⟨W.heap.size,2,none⟩) (Nat.le_refl _) _))|go_keep) (first|(go_at_call 144;refine (HB.out _ (by first|assumption|exact hB0.drew)).mono ?_;rintro e w1 ⟨rfl,hb1⟩;have k1:=k0.drew.below hb1;have hbW:=hB0.drew.trans (hb1.mono hB0.size))|(go_at_call 143;refine (HA.out _).mono ?_;rintro e w2 ⟨rfl,hb2⟩;have hbX:=hbW.trans (hb2.mono hbW.size);have k2:=k1.below hb2;have g0:=k2.cell0;have g1:=k2.cell1;have g2:=k2.cell2;have f0:=k2.frozen 0;have f1:=k2.frozen 1;have f2:=k2.frozen 2))
 all_goals (
  go_wp2_with fail
  have hb5:=((k2.set0 a).set1 L2).set2 C2;have m0:=hb5.cell0;have m1:=hb5.cell1;have m2:=hb5.cell2;refine bodyPost_ret (v:=.agg #[.int .i64 a,.int .i64 L2,.int .i64 C2]) (by simp [results,Tryz.f93,go_sem,m0,m1,m2]) rfl ?_;refine ⟨rfl,?_⟩;exact ((hbX.setCell (p:=⟨W.heap.size,0,none⟩) (Nat.le_refl _) _).setCell (p:=⟨W.heap.size,1,none⟩) (Nat.le_refl _) _).setCell (p:=⟨W.heap.size,2,none⟩) (Nat.le_refl _) _)
theorem xE (h:Rs w0 W g s a b f l) (hs:s.size<=2147483647) (hba:b<=a) (hb:bd s b) (ha:bd s a) :
  Da 85 #[.pointer (some ⟨g,0,none⟩)] W fun e w'=>e=.returned (.tuple #[])/\Rs w0 w' g s a a f l:=by
 obtain ⟨h1,h2,v,h3,h4⟩:=h;have HH:Hid (Da 93 #[.pointer (some ⟨g,0,none⟩)] W fun e w'=>e=.returned (.agg #[.int .i64 a,.int .i64 (pL s a),.int .i64 (pC s a)])/\Db W w'):=nO h3 hs hba hb ha
 have HR:Hid (∀w',Db W w'->(∀k,w'.frozen? ⟨g,k,none⟩=false)/\(w'.cell? ⟨g,4,none⟩=some (.int .i64 b)/\w'.cell? ⟨g,5,none⟩=some (.int .i64 (pL s b))/\w'.cell? ⟨g,6,none⟩=some (.int .i64 (pC s b)))/\Rs w0 (((w'.setCell ⟨g,4,none⟩ (.int .i64 a)).setCell ⟨g,5,none⟩ (.int .i64 (pL s a))).setCell ⟨g,6,none⟩ (.int .i64 (pC s a))) g s a a f l):=fun w' hb=>by
  have k1:=h1.trans (hb.mono h1.size);have k3:RB w' g s a (rpt s a) (rsz s a) b f v:=ab h3 hb;have k4:=h4.below hb;obtain ⟨c0,c1,c2,c3,c4,c5,c6,c7,c8⟩:=Rq.cells k3;refine ⟨fun k=>k3.frozen k,⟨c4,c5,c6⟩,?_⟩;have hne:=k4.ne k3 (by decide);refine ⟨((k1.setCell (p:=⟨g,4,none⟩) h2 _).setCell (p:=⟨g,5,none⟩) h2 _).setCell (p:=⟨g,6,none⟩) h2 _,h2,v,?_,?_⟩
  ·exact af (af (af k3 4 _) 5 _) 6 _
  ·exact ((k4.kp (Kp.set _ g 4 _) hne).kp (Kp.set _ g 5 _) hne).kp (Kp.set _ g 6 _) hne
 clear h1 h3 h4
 generalize pL s a=L2 at *
 generalize pC s a=C2 at *
 go_enter Tryz.func85,Tryz.ntmps85
 go_wp2_with (go_at_call 93;refine HH.out.mono ?_;rintro e w1 ⟨rfl,hb1⟩;obtain ⟨fz,⟨c4,c5,c6⟩,h7⟩:=HR.out _ hb1;have HF:Hid (Rs w0 (((w1.setCell ⟨g,4,none⟩ (.int .i64 a)).setCell ⟨g,5,none⟩ (.int .i64 L2)).setCell ⟨g,6,none⟩ (.int .i64 C2)) g s a a f l):=h7;clear h7;have z4:=fz 4;have z5:=fz 5;have z6:=fz 6)
 go_end0
 exact ⟨rfl,HF.out⟩
theorem nv (h:Rs w0 W g s a b f l) (hs:s.size<=2147483647) (ha:a<=s.size) (hf:f<=s.size) :
  Da 84 #[.pointer (some ⟨g,0,none⟩)] W fun e w'=>e=.returned (.tuple #[])/\Rs w0 w' g s (a+rsz s a) b (if rpt s a=10 then f+1 else f) l:=by
 by_cases h10:rpt s a=10
 ·rw [if_pos h10];obtain ⟨h1,h2,v,h3,h4⟩:=h;obtain ⟨c0,c1,c2,c3,c4,c5,c6,c7,c8⟩:=Rq.cells h3;have z7:=h3.frozen 7;obtain ⟨m1,m3,m4⟩:=Rq.set h1 h2 h3 h4 7 (.int .i64 ((f+1:Nat):Int)) (f':=f+1) rfl rfl;rw [Int.natCast_add] at m1 m3 m4;have HL:Hid (Da 133 #[.pointer (some ⟨g,0,none⟩)] (W.setCell ⟨g,7,none⟩ (.int .i64 ((f:Int)+1))) fun e w'=>e=.returned (.tuple #[])/\Rs w0 w' g s (a+rsz s a) b (f+1) l):=bD ⟨m1,h2,v,m3,m4⟩ hs ha;rw [h10] at c2;clear h1 h3 h4 m1 m3 m4 h10
  go_enter Tryz.func84,Tryz.ntmps84
  go_wp2_with (go_at_call 133;refine HL.out.mono ?_;rintro e w1 ⟨rfl,h5⟩)
  go_end0
  exact ⟨rfl,h5⟩
 ·rw [if_neg h10];have HL:Hid (Da 133 #[.pointer (some ⟨g,0,none⟩)] W fun e w'=>e=.returned (.tuple #[])/\Rs w0 w' g s (a+rsz s a) b f l):=bD h hs ha;obtain ⟨h1,h2,v,h3,h4⟩:=h;obtain ⟨c0,c1,c2,c3,c4,c5,c6,c7,c8⟩:=Rq.cells h3;have q1:(rpt s a == 10)=false:=by simpa using h10
  clear h1 h3 h4 h10
  go_enter Tryz.func84,Tryz.ntmps84
  go_wp2_with (go_at_call 133;refine HL.out.mono ?_;rintro e w1 ⟨rfl,h5⟩)
  go_end0
  exact ⟨rfl,h5⟩
theorem gh (h:RB W g s a p n b f v) (hT:Kab W) (hs:s.size<=2147483647) (hba:b<=a) (ha:a<=s.size) :
  Da 137 #[.pointer (some ⟨g,0,none⟩)] W fun e w'=>e=.returned (.int .u8 (if ky (s.extract b a)=true then 2 else 1))/\Below W.heap.size W w':=by
 have HB:Hid (Da 144 #[.pointer (some ⟨g,0,none⟩)] W fun e w'=>e=.returned (.string (s.extract b a))/\∃m,w'=W.drewN m):=fP h hs hba ha
 have HI:Hid (∀m,Da 184 #[.string (s.extract b a)] (W.drewN m) fun e w'=>e=.returned (.bool (ky (s.extract b a)))/\Db W w'):=fun m=>by
  refine (sU (s.extract b a) (W.drewN m) (hT.below (bR W m)).2.1).mono ?_;rintro e w' ⟨rfl,rfl⟩;exact ⟨rfl,bR W m⟩
 clear h hT
 generalize ky (s.extract b a)=k at *
 generalize s.extract b a=t at *
 cases k
 ·go_enter Tryz.func137,Tryz.ntmps137
  go_wp2_with (first|(go_at_call 144;refine HB.out.mono ?_;rintro e w1 ⟨rfl,m,rfl⟩)|(go_at_call 184;refine (HI.out _).mono ?_;rintro e w2 ⟨rfl,hb2⟩))
  go_ret
  exact ⟨rfl,hb2⟩
 ·go_enter Tryz.func137,Tryz.ntmps137
  go_wp2_with (first|(go_at_call 144;refine HB.out.mono ?_;rintro e w1 ⟨rfl,m,rfl⟩)|(go_at_call 184;refine (HI.out _).mono ?_;rintro e w2 ⟨rfl,hb2⟩))
  go_ret
  exact ⟨rfl,hb2⟩
end Go.Proofs.YtpdlohfdjiaegaaGreatDoor.Lx
