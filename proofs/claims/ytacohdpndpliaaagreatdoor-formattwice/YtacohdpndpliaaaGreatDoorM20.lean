import Derived.Shelf.Abstract
import Derived.Test.YtacohdpndpliaaaGreatDoorM19
set_option linter.all false
set_option maxHeartbeats 2000000
namespace Go.Proofs.YtacohdpndpliaaaGreatDoor
open Go.Proofs.Tryz
open Go.RowKit
variable {d1 d2 d':D}{X:Sx}{r n:Nat}{W W1:World}{x:Fl}{i:It}
def Mb (X:Sx) (r:Nat) (x:Fl) (d:D) (e:Ending) (w:World):Prop:=(qn (aF X.l) d (fun t=>x.takes t)=false/\e=.returned (.bool false)/\SD X r d w)\/(qn (aF X.l) d (fun t=>x.takes t)=true/\li X (.bool true) (jb (aF X.l) x d) e w)
theorem lw {d:D}(h:SD X r d W) (hr:r<=100) {x:Fl}{b:Bool}(hq:qn (aF X.l) d (fun t=>x.takes t)=b) :
  Qu 255 #[pg X.g,.bool b] W fun e w'=>Mb X r x d e w':=by
 cases b with
 |false=>
  have HX:Hid (Mb X r x d (.returned (.bool false)) W):=.inl ⟨hq,rfl,h⟩;clear h hq
  go_enter func255,ntmps255
  go_wp2_with fail
  go_ret
  exact HX.out
 |true=>
  have HT:Hid (Qu 331 #[pg X.g] W fun e w'=>li X (.tuple #[]) (jb (aF X.l) x d) e w'):=yC h hr hq;have HX:Hid (∀e w',li X (.bool true) (jb (aF X.l) x d) e w'->Mb X r x d e w'):=fun e w' ho=>.inr ⟨hq,ho⟩
  clear h hq
  generalize jb (aF X.l) x d=d' at *
  go_enter func255,ntmps255
  go_wp2_with fail
  refine HT.out.mono ?_;rintro e w1 (⟨z,rfl,h1⟩|⟨z,rfl,h1⟩)
  ·have H1:=ai h1;clear h1
   go_wp2_with fail
   go_ret
   exact HX.out _ _ (.inl ⟨z,rfl,H1.out⟩)
  ·have H1:=ai h1;clear h1
   go_wp2_with fail
   exact ⟨rfl,HX.out _ _ (.inr ⟨z,rfl,H1.out⟩)⟩
theorem EO {k:Int}{ts:List ByteArray}{t:Tv}(hz:lj ts ⟨#[]⟩=false):lj ts (kt k t)=Fl.takes t (.wd k ts):=by
 unfold kt;simp only [Fl.takes];cases h:(t.k == k) with
 |true=>simp
 |false=>simp [hz]
theorem mH {X:Sx}{r:Nat}{d:D}{W:World}(h:SD X r d W) (hr:r<=100) {ao:Option Addr}{ts:List ByteArray}{cap:Nat}(hl:Ls W ao ts) (hn:ts.length<=1000) (hz:lj ts ⟨#[]⟩=false) :
  Qu 181 #[pg X.g,.slice ao ts.length cap] W fun e w'=>Mb X r (.wd 2 ts) d e w':=by
 have HK:Hid (Qu 257 #[pg X.g] W fun e w'=>e=.returned (.string (kt 2 (nx X (ps X.l d.i))))/\Qv W w'):=ko h.sv (fB _ _)
 have HC:Hid (∀V,Qv W V->Qu 256 #[.slice ao ts.length cap,.string (kt 2 (nx X (ps X.l d.i)))] V fun r w'=>r=.returned (.bool (qn (aF X.l) d (fun t=>Fl.takes t (.wd 2 ts))))/\w'=V):=fun V hb=>by
  rw [h.hqn (by simp [Fl.takes,aB]),<-EO hz];exact jM ao ts cap _ V (hl.below hb) hn
 have HT:Hid (∀V,Qv W V->Qu 255 #[pg X.g,.bool (qn (aF X.l) d (fun t=>Fl.takes t (.wd 2 ts)))] V fun e w'=>Mb X r (.wd 2 ts) d e w'):=fun V hb=>lw (h.below hb) hr rfl
 clear h hl
 generalize (kt 2 (nx X (ps X.l d.i)))=s at *
 obtain ⟨b,hb⟩:∃b,qn (aF X.l) d (fun t=>Fl.takes t (.wd 2 ts))=b:=⟨_,rfl⟩;rw [hb] at HC HT;have HQ:=ai hb;clear hb
 go_enter func181,ntmps181
 go_wp2_with fail
 refine HK.out.mono ?_;rintro e w1 ⟨rfl,hb1⟩;have HB1:=ai hb1;clear hb1
 go_wp2_with fail
 refine (HC.out _ HB1.out).mono ?_;rintro e w2 ⟨rfl,hw2⟩;subst hw2
 go_wp2_with fail
 refine (HT.out _ HB1.out).mono ?_;rintro e w3 (⟨z,rfl,h3⟩|⟨z,⟨z2,rfl,h3⟩|⟨z2,rfl,h3⟩⟩)
 ·have H3:=ai h3;have HZ:=ai z;clear h3 z
  go_wp2_with fail
  go_ret
  exact .inl ⟨HZ.out,rfl,H3.out⟩
 ·have H3:=ai h3;have HZ:=ai z;have HY:=ai z2;clear h3 z z2
  go_wp2_with fail
  go_ret
  exact .inr ⟨HZ.out,.inl ⟨HY.out,rfl,H3.out⟩⟩
 ·have H3:=ai h3;have HZ:=ai z;have HY:=ai z2;clear h3 z z2
  go_wp2_with fail
  exact ⟨rfl,.inr ⟨HZ.out,.inr ⟨HY.out,rfl,H3.out⟩⟩⟩
theorem kF {X:Sx}{r:Nat}{d:D}{W:World}(h:SD X r d W) (hr:r<=100) {ao:Option Addr}{ts:List ByteArray}{cap:Nat}(hl:Ls W ao ts) (hn:ts.length<=1000) (hz:lj ts ⟨#[]⟩=false) :
  Qu 183 #[pg X.g,.slice ao ts.length cap] W fun e w'=>Mb X r (.wd 6 ts) d e w':=by
 have HK:Hid (Qu 258 #[pg X.g] W fun e w'=>e=.returned (.string (kt 6 (nx X (ps X.l d.i))))/\Qv W w'):=lC h.sv (fB _ _)
 have HC:Hid (∀V,Qv W V->Qu 256 #[.slice ao ts.length cap,.string (kt 6 (nx X (ps X.l d.i)))] V fun r w'=>r=.returned (.bool (qn (aF X.l) d (fun t=>Fl.takes t (.wd 6 ts))))/\w'=V):=fun V hb=>by
  rw [h.hqn (by simp [Fl.takes,aB]),<-EO hz];exact jM ao ts cap _ V (hl.below hb) hn
 have HT:Hid (∀V,Qv W V->Qu 255 #[pg X.g,.bool (qn (aF X.l) d (fun t=>Fl.takes t (.wd 6 ts)))] V fun e w'=>Mb X r (.wd 6 ts) d e w'):=fun V hb=>lw (h.below hb) hr rfl
 clear h hl
 generalize (kt 6 (nx X (ps X.l d.i)))=s at *
 obtain ⟨b,hb⟩:∃b,qn (aF X.l) d (fun t=>Fl.takes t (.wd 6 ts))=b:=⟨_,rfl⟩;rw [hb] at HC HT;have HQ:=ai hb;clear hb
 go_enter func183,ntmps183
 go_wp2_with fail
 refine HK.out.mono ?_;rintro e w1 ⟨rfl,hb1⟩;have HB1:=ai hb1;clear hb1
 go_wp2_with fail
 refine (HC.out _ HB1.out).mono ?_;rintro e w2 ⟨rfl,hw2⟩;subst hw2
 go_wp2_with fail
 refine (HT.out _ HB1.out).mono ?_;rintro e w3 (⟨z,rfl,h3⟩|⟨z,⟨z2,rfl,h3⟩|⟨z2,rfl,h3⟩⟩)
 ·have H3:=ai h3;have HZ:=ai z;clear h3 z
  go_wp2_with fail
  go_ret
  exact .inl ⟨HZ.out,rfl,H3.out⟩
 ·have H3:=ai h3;have HZ:=ai z;have HY:=ai z2;clear h3 z z2
  go_wp2_with fail
  go_ret
  exact .inr ⟨HZ.out,.inl ⟨HY.out,rfl,H3.out⟩⟩
 ·have H3:=ai h3;have HZ:=ai z;have HY:=ai z2;clear h3 z z2
  go_wp2_with fail
  exact ⟨rfl,.inr ⟨HZ.out,.inr ⟨HY.out,rfl,H3.out⟩⟩⟩
theorem MG (k:Int) (t:ByteArray) (a l c f:Int) (w:World):(Instr.field 53 (.agg #[.int .u8 k,.string t,.int .i64 a,.int .i64 l,.int .i64 c,.int .i64 f]) 0).run Tryz.prog w=.ok (.int .u8 k) w:=by kernel_rfl
theorem sM {d:D}(h:SD X r d W) (hr:r<=100) :
  Qu 182 #[pg X.g] W fun e w'=>Mb X r .nm d e w':=by
 have HK:Hid (Qu 180 #[pg X.g] W fun e w'=>e=.returned (nx X (ps X.l d.i)).v/\Qv W w'):=eL h.sv (fB _ _);have HE:qn (aF X.l) d (fun t=>Fl.takes t .nm)=((nx X (ps X.l d.i)).k == 1):=h.hqn (by simp [Fl.takes,aB]);have HT:Hid (∀V,Qv W V->Qu 255 #[pg X.g,.bool (qn (aF X.l) d (fun t=>Fl.takes t .nm))] V fun e w'=>Mb X r .nm d e w'):=fun V hb=>lw (h.below hb) hr rfl
 rw [HE] at HT;clear h HE
 generalize nx X (ps X.l d.i)=t at *
 have hfd:∀w:World,(Instr.field 53 (.agg #[.int .u8 t.k,.string t.t,.int .i64 t.a,.int .i64 t.l,.int .i64 t.c,.int .i64 t.f]) 0).run Tryz.prog w=.ok (.int .u8 t.k) w:=fun w=>MG _ _ _ _ _ _ w
 dsimp only [Tv.v] at HK
 cases hb:(t.k == 1) with
 |true=>
  rw [hb] at HT
  go_enter func182,ntmps182
  go_wp2_with fail
  refine HK.out.mono ?_;rintro e w1 ⟨rfl,hb1⟩;have HB1:=ai hb1;clear hb1
  go_wp2_with fail
  refine (HT.out _ HB1.out).mono ?_;rintro e w3 (⟨z,rfl,h3⟩|⟨z,⟨z2,rfl,h3⟩|⟨z2,rfl,h3⟩⟩)
  ·have H3:=ai h3;have HZ:=ai z;clear h3 z
   go_wp2_with fail
   go_ret
   exact .inl ⟨HZ.out,rfl,H3.out⟩
  ·have H3:=ai h3;have HZ:=ai z;have HY:=ai z2;clear h3 z z2
   go_wp2_with fail
   go_ret
   exact .inr ⟨HZ.out,.inl ⟨HY.out,rfl,H3.out⟩⟩
  ·have H3:=ai h3;have HZ:=ai z;have HY:=ai z2;clear h3 z z2
   go_wp2_with fail
   exact ⟨rfl,.inr ⟨HZ.out,.inr ⟨HY.out,rfl,H3.out⟩⟩⟩
 |false=>
  rw [hb] at HT
  go_enter func182,ntmps182
  go_wp2_with fail
  refine HK.out.mono ?_;rintro e w1 ⟨rfl,hb1⟩;have HB1:=ai hb1;clear hb1
  go_wp2_with fail
  refine (HT.out _ HB1.out).mono ?_;rintro e w3 (⟨z,rfl,h3⟩|⟨z,⟨z2,rfl,h3⟩|⟨z2,rfl,h3⟩⟩)
  ·have H3:=ai h3;have HZ:=ai z;clear h3 z
   go_wp2_with fail
   go_ret
   exact .inl ⟨HZ.out,rfl,H3.out⟩
  ·have H3:=ai h3;have HZ:=ai z;have HY:=ai z2;clear h3 z z2
   go_wp2_with fail
   go_ret
   exact .inr ⟨HZ.out,.inl ⟨HY.out,rfl,H3.out⟩⟩
  ·have H3:=ai h3;have HZ:=ai z;have HY:=ai z2;clear h3 z z2
   go_wp2_with fail
   exact ⟨rfl,.inr ⟨HZ.out,.inr ⟨HY.out,rfl,H3.out⟩⟩⟩
theorem EG (W:World) (s:ByteArray):Ls (W.alloc (.cells #[.string s] 9)) (some ⟨W.heap.size,0,none⟩) [s]:=by
 intro j x hj
 have hj0:j=0:=by
  cases j with
  |zero=>rfl
  |succ j=>simp at hj
 subst hj0;simp at hj;subst hj;exact ⟨_,_,rfl,af (au W _) rfl⟩
theorem xc {L:List Tv}{d:D}(h:qn L d (fun t=>x.takes t)=false):jb L x d=eU L false d:=by unfold jb;rw [h]
theorem Ms {d:D}(h:SD X r d W) (hr:r<=100) {s:ByteArray}(hz:lj [s] ⟨#[]⟩=false) :
  Qu 97 #[pg X.g,.string s] W fun e w'=>li X (.tuple #[]) (jb (aF X.l) (.wd 2 [s]) d) e w':=by
 have HM:Hid (Qu 181 #[pg X.g,.slice (some ⟨W.heap.size,0,none⟩) 1 1] (W.alloc (.cells #[.string s] 9)) fun e w'=>Mb X r (.wd 2 [s]) d e w'):=mH (ts:=[s]) (h.below ((hH _ _).alloc (gt _) _)) hr (EG W s) (by simp) hz;clear h
 go_enter func97,ntmps97
 go_wp2_with fail
 refine HM.out.mono ?_;rintro e w1 (⟨z,rfl,h1⟩|⟨z,⟨z2,rfl,h1⟩|⟨z2,rfl,h1⟩⟩)
 ·have HR:Hid (Qu 101 #[pg X.g] w1 fun e w'=>li X (.tuple #[]) (jb (aF X.l) (.wd 2 [s]) d) e w'/\(jb (aF X.l) (.wd 2 [s]) d).e≠0/\e=.panicked (stop (jb (aF X.l) (.wd 2 [s]) d).e (ps X.l (jb (aF X.l) (.wd 2 [s]) d).i))/\Below X.w0.heap.size X.w0 w'):=by rw [xc z];exact ji h1 _
  clear z h1 HM
  go_wp2_with fail
  refine HR.out.mono ?_;rintro e w2 ⟨ho,hz2,rfl,hb2⟩;have HO:=ai hz2;have HB:=ai hb2;clear ho hz2 hb2
  go_wp2_with fail
  exact ⟨rfl,.inr ⟨HO.out,rfl,HB.out⟩⟩
 ·have H1:=ai h1;have HY:=ai z2;clear h1 z z2
  go_wp2_with fail
  go_end0
  exact .inl ⟨HY.out,rfl,H1.out⟩
 ·have H1:=ai h1;have HY:=ai z2;clear h1 z z2
  go_wp2_with fail
  exact ⟨rfl,.inr ⟨HY.out,rfl,H1.out⟩⟩
theorem Ia {d:D}(h:SD X r d W) (hr:r<=100) {s:ByteArray}(hz:lj [s] ⟨#[]⟩=false) :
  Qu 99 #[pg X.g,.string s] W fun e w'=>li X (.tuple #[]) (jb (aF X.l) (.wd 6 [s]) d) e w':=by
 have HM:Hid (Qu 183 #[pg X.g,.slice (some ⟨W.heap.size,0,none⟩) 1 1] (W.alloc (.cells #[.string s] 9)) fun e w'=>Mb X r (.wd 6 [s]) d e w'):=kF (ts:=[s]) (h.below ((hH _ _).alloc (gt _) _)) hr (EG W s) (by simp) hz;clear h
 go_enter func99,ntmps99
 go_wp2_with fail
 refine HM.out.mono ?_;rintro e w1 (⟨z,rfl,h1⟩|⟨z,⟨z2,rfl,h1⟩|⟨z2,rfl,h1⟩⟩)
 ·have HR:Hid (Qu 101 #[pg X.g] w1 fun e w'=>li X (.tuple #[]) (jb (aF X.l) (.wd 6 [s]) d) e w'/\(jb (aF X.l) (.wd 6 [s]) d).e≠0/\e=.panicked (stop (jb (aF X.l) (.wd 6 [s]) d).e (ps X.l (jb (aF X.l) (.wd 6 [s]) d).i))/\Below X.w0.heap.size X.w0 w'):=by rw [xc z];exact ji h1 _
  clear z h1 HM
  go_wp2_with fail
  refine HR.out.mono ?_;rintro e w2 ⟨ho,hz2,rfl,hb2⟩;have HO:=ai hz2;have HB:=ai hb2;clear ho hz2 hb2
  go_wp2_with fail
  exact ⟨rfl,.inr ⟨HO.out,rfl,HB.out⟩⟩
 ·have H1:=ai h1;have HY:=ai z2;clear h1 z z2
  go_wp2_with fail
  go_end0
  exact .inl ⟨HY.out,rfl,H1.out⟩
 ·have H1:=ai h1;have HY:=ai z2;clear h1 z z2
  go_wp2_with fail
  exact ⟨rfl,.inr ⟨HY.out,rfl,H1.out⟩⟩
theorem Jb {d:D}(h:SD X r d W) (hr:r<=100) :
  Qu 98 #[pg X.g] W fun e w'=>li X (.tuple #[]) (jb (aF X.l) (.nm) d) e w':=by
 have HM:Hid (Qu 182 #[pg X.g] W fun e w'=>Mb X r (.nm) d e w'):=sM h hr;clear h
 go_enter func98,ntmps98
 go_wp2_with fail
 refine HM.out.mono ?_;rintro e w1 (⟨z,rfl,h1⟩|⟨z,⟨z2,rfl,h1⟩|⟨z2,rfl,h1⟩⟩)
 ·have HR:Hid (Qu 101 #[pg X.g] w1 fun e w'=>li X (.tuple #[]) (jb (aF X.l) (.nm) d) e w'/\(jb (aF X.l) (.nm) d).e≠0/\e=.panicked (stop (jb (aF X.l) (.nm) d).e (ps X.l (jb (aF X.l) (.nm) d).i))/\Below X.w0.heap.size X.w0 w'):=by rw [xc z];exact ji h1 _
  clear z h1 HM
  go_wp2_with fail
  refine HR.out.mono ?_;rintro e w2 ⟨ho,hz2,rfl,hb2⟩;have HO:=ai hz2;have HB:=ai hb2;clear ho hz2 hb2
  go_wp2_with fail
  exact ⟨rfl,.inr ⟨HO.out,rfl,HB.out⟩⟩
 ·have H1:=ai h1;have HY:=ai z2;clear h1 z z2
  go_wp2_with fail
  go_end0
  exact .inl ⟨HY.out,rfl,H1.out⟩
 ·have H1:=ai h1;have HY:=ai z2;clear h1 z z2
  go_wp2_with fail
  exact ⟨rfl,.inr ⟨HY.out,rfl,H1.out⟩⟩
abbrev dh (f:Nat):Prop:=∀(args:Array Value) (w:World),(callFunc f args).run Tryz.prog w=.ok (.enter f args) w
abbrev fv (f g:Nat):Value:=.func (.func f) #[pg g] #[]
theorem va {i:Nat}{E:List Ev}(h:dP X i n E W) (hl:E.length<=1000000000) (hn:n<=1000000000) (nd:Int) {f:Nat}(hf:dh f) {Q:Ending->World->Prop}
  (hrow:∀W1,dP X i (n+1) (E++[⟨1,nd,aB⟩]) W1->Qu f #[pg X.g] W1 fun e w'=>(e=.returned (.tuple #[])/\∃i' n' E',dP X i' (n'+1) E' w'/\E'.length<=1000000000/\n'<=1000000000/\∀w2,dP X i' n' (E'++[⟨3,nd,aB⟩]) w2->Q (.returned (.tuple #[])) w2)\/(∃c,e=.panicked c/\Q (.panicked c) w')) :
  Qu 40 #[pg X.g,.int .u8 nd,fv f X.g] W Q:=by
 obtain ⟨z0,z1,z2,z3⟩:=h.deep (n+1);obtain ⟨W1,e1⟩:∃W1,W.setCell ⟨X.g,2,none⟩ (.int .i64 ((n:Int)+1))=W1:=⟨_,rfl⟩
 have HT:Hid (Qu 95 #[pg X.g,(⟨1,nd,aB⟩:Ev).v] W1 fun r w'=>r=.returned (.tuple #[])/\dP X i (n+1) (E++[⟨1,nd,aB⟩]) w'/\Lh X W1 w'):=by
  rw [show ((n+1:Nat):Int)=(n:Int)+1 by omega,e1] at z3;exact jc z3 _ hl
 have HR:Hid (∀W1,dP X i (n+1) (E++[⟨1,nd,aB⟩]) W1->Qu f #[pg X.g] W1 fun e w'=>(e=.returned (.tuple #[])/\∃i' n' E',dP X i' (n'+1) E' w'/\E'.length<=1000000000/\n'<=1000000000/\∀w2,dP X i' n' (E'++[⟨3,nd,aB⟩]) w2->Q (.returned (.tuple #[])) w2)\/(∃c,e=.panicked c/\Q (.panicked c) w')):=hrow;have HS:Hid (∀i' n' E' w2,dP X i' (n'+1) E' w2->E'.length<=1000000000->Qu 95 #[pg X.g,(⟨3,nd,aB⟩:Ev).v] w2 fun r w'=>r=.returned (.tuple #[])/\dP X i' (n'+1) (E'++[⟨3,nd,aB⟩]) w'/\Lh X w2 w'):=fun i' n' E' w2 h2 hl2=>jc h2 _ hl2
 have HD:Hid (∀i' n' E' w3,dP X i' (n'+1) E' w3->w3.cell? ⟨X.g,2,none⟩=some (.int .i64 ((n':Int)+1))/\w3.frozen? ⟨X.g,2,none⟩=false/\X.g<w3.heap.size/\∃w4,w3.setCell ⟨X.g,2,none⟩ (.int .i64 (n':Int))=w4/\Hid (dP X i' n' E' w4)):=fun i' n' E' w3 h3=>by
  obtain ⟨a,b,c,d⟩:=h3.deep n';exact ⟨by rw [a];simp,b,c,_,rfl,d⟩
 clear h hrow z3
 dsimp only [Ev.v,aB] at HT HS
 go_enter func40,ntmps40
 go_wp2_with fail
 refine HT.out.mono ?_;rintro r w2 ⟨rfl,h2,_⟩;have H2:=ai h2;clear h2 z0 z1 z2 e1 HT
 go_wp2_with fail
 refine (HR.out _ H2.out).mono ?_;rintro e w3 (⟨rfl,i',n',E',h3,hl3,hn3,hq⟩|⟨c,rfl,hq⟩)
 ·have H3:=ai h3;have HQ:=ai hq;clear h3 hq
  go_wp2_with fail
  refine (HS.out _ _ _ _ H3.out hl3).mono ?_;rintro r w4 ⟨rfl,h4,_⟩;obtain ⟨y0,y1,y2,w5,e5,h5⟩:=HD.out _ _ _ _ h4;clear h4
  go_wp2_with fail
  go_end0
  exact HQ.out _ h5.out
 ·have HQ:=ai hq;clear hq
  go_wp2_with fail
  exact ⟨rfl,HQ.out⟩
section
variable {L:List Tv} {d:D}
theorem iV (he:d.e≠0):cR L d=none:=by unfold cR;rw [Eq he]
theorem Aa (he:d.e≠0):eU L false d=d:=by simp [eU,he]
theorem tC (he:d.e≠0) {x:Fl}(hx:∀m,x≠.mt m):Ib L (.fl x) d d:=by
 have h:=iL (L:=L) (d:=d) hx;have hq:qn L d (fun t=>x.takes t)=false:=by unfold qn;rw [iV he];rfl
 rw [hq,Aa he] at h;exact h
theorem zZ (he:d.e≠0) {k:Int}{ts:List ByteArray}:Ib L (.fl (.wd k ts)) d d:=tC he aC
theorem Ab (he:d.e≠0):Ib L (.fl .nm) d d:=tC he cV
theorem oc (he:d.e≠0) {n:Int}:Ib L (.lv n) d d:=by
 have h:=KQ (L:=L) (d:=d) (n:=n);rw [wB he] at h;exact h
theorem rF (he:d.e≠0) {p:Pk}:bu (cR L d) p=none:=by rw [iV he];rfl
theorem rG (he:d.e≠0) {p:Pk}:Ib L (.once p) d d:=be (rF he)
theorem aS (he:d.e≠0) {p:Pk}:Ib L (.again p) d d:=rq (rF he)
theorem cZ {r s:List It}{d3:D}(h:Rb L r d1 d2) (h':Rb L s d2 d3):Rb L (r++s) d1 d3:=fun K=>by
 rw [Qz];exact (h (s++K)).trans (h' K)
theorem bT (h:Ib L i d1 d2):Rb L [i] d1 d2:=aa h aE
theorem cC (he:d.e≠0) {m:M}{nd:Int}{r:List It}(h:cK none m=.op nd r) (hr:Rb L r d d):Ib L (.fl (.mt m)) d d:=by
 refine aT (nd:=nd) (r:=r) (by rw [iV he];exact h) ?_;rw [uZ he];exact cZ hr (bT (oc he))
theorem Ad (he:d.e≠0) {m:M}{r:List It}(h:cK none m=.ex r) (hr:Rb L r d d):Ib L (.fl (.mt m)) d d:=rp (r:=r) (by rw [iV he];exact h) hr
theorem wl (he:d.e≠0) {m:M}(h:cK none m=.ref):Ib L (.fl (.mt m)) d d:=by
 have:=sQ (L:=L) (d:=d) (m:=m) (by rw [iV he];exact h);rw [Aa he] at this;exact this
theorem JV (he:d.e≠0) (m:M):Ib L (.fl (.mt m)) d d:=by
 have w:∀k ts,Ib L (.fl (.wd k ts)) d d:=fun k ts=>zZ he
 have n:Ib L (.fl .nm) d d:=Ab he;have a:∀p,Ib L (.again p) d d:=fun p=>aS he
 have o:∀p,Ib L (.once p) d d:=fun p=>rG he
 have factor:Ib L (.fl (.mt .factor)) d d:=wl he rfl;have statement:Ib L (.fl (.mt .statement)) d d:=wl he rfl;have kind:Ib L (.fl (.mt .kind)) d d:=cC he rfl (bT n);have term:Ib L (.fl (.mt .term)) d d:=cC he rfl (aa factor (bT (a _)));have sum:Ib L (.fl (.mt .sum)) d d:=cC he rfl (aa term (bT (a _)));have rel:Ib L (.fl (.mt .rel)) d d:=cC he rfl (aa sum (bT (o _)));have expr:Ib L (.fl (.mt .expr)) d d:=cC he rfl (aa rel (bT (a _)));have list:Ib L (.fl (.mt .list)) d d:=Ad he rfl (aa expr (bT (a _)));have typed:Ib L (.fl (.mt .typed)) d d:=Ad he rfl (aa n (aa (a _) (aa (w _ _) (bT kind))));have param:Ib L (.fl (.mt .param)) d d:=cC he rfl (bT typed);have body:Ib L (.fl (.mt .body)) d d:=cC he rfl (aa statement (bT (a _)));have block:Ib L (.fl (.mt .block)) d d:=cC he rfl (aa (a _) (aa (w _ _) (aa body (bT (w _ _)))));cases m with
 |block=>exact block
 |variables=>exact cC he rfl (aa (w _ _) (aa typed (bT (w _ _))))
 |constants=>exact cC he rfl (aa (w _ _) (aa n (aa (w _ _) (aa expr (bT (w _ _))))))
 |procedure=>exact cC he rfl (aa (w _ _) (aa n (aa (o _) (aa (o _) (aa (w _ _) (aa block (bT (w _ _))))))))
 |params=>exact cC he rfl (aa (w _ _) (aa param (aa (a _) (bT (w _ _)))))
 |param=>exact param
 |typed=>exact typed
 |kind=>exact kind
 |member=>exact cC he rfl (bT typed)
 |body=>exact body
 |statement=>exact statement
 |expr=>exact expr
 |rel=>exact rel
 |sum=>exact sum
 |term=>exact term
 |factor=>exact factor
 |object=>exact cC he rfl (aa n (bT (a _)))
 |index=>exact cC he rfl (aa (w _ _) (aa list (bT (w _ _))))
 |selection=>exact cC he rfl (aa (w _ _) (bT n))
 |args=>exact cC he rfl (aa (w _ _) (aa (o _) (bT (w _ _))))
 |list=>exact list
theorem Ac (he:d.e≠0) (x:Fl):Ib L (.fl x) d d:=by
 cases x with
 |mt m=>exact JV he m
 |wd k ts=>exact zZ he
 |nm=>exact Ab he
 |cs=>exact tC he Ey
theorem FL (he:d.e≠0) (i:It):Ib L i d d:=by
 cases i with
 |fl x=>exact Ac he x
 |lv n=>exact oc he
 |once p=>exact rG he
 |again p=>exact aS he
 |all r=>
  refine aN ?_
  induction r with
  |nil=>exact aE
  |cons x r ih=>exact aa (Ac he x) ih
theorem ah (he:d.e≠0):∀(r:List It),Rb L r d d
 |[]=>aE
 |i :: r=>aa (FL he i) (ah he r)
theorem Mz {d:D}(h:Ib L i d d1) (h':Ib L i d d2):d1=d2:=by
 have:=(h []).det (h' []);cases this;rfl
theorem av (hx:∀m,x≠.mt m) {d':D}(h:Ib L (.fl x) d d') (he:d.e=0) (he':d'.e=0):ms L d' < ms L d:=by
 have h1:=Mz h (iL hx);have h2:=ED (L:=L) (d:=d) (f:=fun t=>x.takes t) rfl;rw [h1];refine h2.2 ?_;unfold ms;rw [IO he];omega
theorem yS {r:List It}{d':D}(hr:bJ r=[]) (h:Rb L r d d') (hl:d'.e=0):d.e=0/\d'.p=d.p:=by
 obtain ⟨h1,h2⟩:=o0 (h []) hl;obtain ⟨q,e1,e2⟩:=h2 d.p [] (by simp) (by rw [Q6,hr];rfl);have:q=[]:=by simpa [bJ] using e2
 exact ⟨h1,by rw [e1,this];simp⟩
end
theorem bU {d:D}(h:SD X r d W) (hr:r<=100) {s:ByteArray}(hz:lj [s] ⟨#[]⟩=false) :
  Qu 97 #[pg X.g,.string s] W fun e w'=>∃d',Ib (aF X.l) (.fl (.wd 2 [s])) d d'/\li X (.tuple #[]) d' e w':=
 (Ms h hr hz).mono (fun e w' ho=>⟨_,Of,ho⟩)
theorem bp {d:D}(h:SD X r d W) (hr:r<=100) {s:ByteArray}(hz:lj [s] ⟨#[]⟩=false) :
  Qu 99 #[pg X.g,.string s] W fun e w'=>∃d',Ib (aF X.l) (.fl (.wd 6 [s])) d d'/\li X (.tuple #[]) d' e w':=
 (Ia h hr hz).mono (fun e w' ho=>⟨_,Of,ho⟩)
theorem fJ {d:D}(h:SD X r d W) (hr:r<=100) :
  Qu 98 #[pg X.g] W fun e w'=>∃d',Ib (aF X.l) (.fl .nm) d d'/\li X (.tuple #[]) d' e w':=
 (Jb h hr).mono (fun e w' ho=>⟨_,PW,ho⟩)
def Mi (X:Sx) (r:Nat) (x:Fl) (d:D) (e:Ending) (w:World):Prop:=(qn (aF X.l) d (fun t=>x.takes t)=false/\e=.returned (.bool false)/\SD X r d w)\/(qn (aF X.l) d (fun t=>x.takes t)=true/\∃d',Ib (aF X.l) (.fl x) d d'/\li X (.bool true) d' e w)
theorem Mb.mi (hx:∀m,x≠.mt m) {d:D}{e:Ending}{w:World}(h:Mb X r x d e w):Mi X r x d e w:=h.imp id (fun h=>⟨h.1,_,iL hx,h.2⟩)
theorem EH (W:World) (ts:List ByteArray):Ls (W.alloc (.cells (ts.map Value.string).toArray 9)) (some ⟨W.heap.size,0,none⟩) ts:=by
 intro j x hj;refine ⟨_,_,rfl,af (au W _) ?_⟩;simp [hj]
theorem iE {d:D}(h:SD X r d W) (hr:r<=100) (ts:List ByteArray) (hn:ts.length<=1000) (hz:lj ts ⟨#[]⟩=false) {n:Nat}(hnl:n=ts.length) {a:Array Value}(ha:a=(ts.map Value.string).toArray) :
  Qu 181 #[pg X.g,.slice (some ⟨W.heap.size,0,none⟩) n n] (W.alloc (.cells a 9)) fun e w'=>Mi X r (.wd 2 ts) d e w':=by
 subst hnl ha;exact (mH (h.below ((hH _ _).alloc (gt _) _)) hr (EH W ts) hn hz).mono (fun e w' hm=>hm.mi aC)
theorem bL {d:D}(h:SD X r d W) (hr:r<=100) (ts:List ByteArray) (hn:ts.length<=1000) (hz:lj ts ⟨#[]⟩=false) {n:Nat}(hnl:n=ts.length) {a:Array Value}(ha:a=(ts.map Value.string).toArray) :
  Qu 183 #[pg X.g,.slice (some ⟨W.heap.size,0,none⟩) n n] (W.alloc (.cells a 9)) fun e w'=>Mi X r (.wd 6 ts) d e w':=by
 subst hnl ha;exact (kF (h.below ((hH _ _).alloc (gt _) _)) hr (EH W ts) hn hz).mono (fun e w' hm=>hm.mi aC)
def bH (f:Nat) (row:List It) (b n:Nat):Prop:=∀(X:Sx) (r:Nat) (d:D) (W:World),SD X r d W->r<=b->ms (aF X.l) d<=n ->
 Qu f #[pg X.g] W fun e w'=>∃d',Rb (aF X.l) row d d'/\li X (.tuple #[]) d' e w'
theorem SD.op {d:D}(h:SD X r d W) (nd:Int) (h1:dP X (ps X.l d.i) (d.p.length+1) (nY X d++[⟨1,nd,aB⟩]) W1):SD X (r+1) (ep nd d) W1:=by
 have e:ep nd d={ d with p:=d.p++[(nd,d.s+1)],s:=d.s+1,v:=d.v++[⟨1,nd,aB⟩] }:=by unfold ep;rw [IO h.e0]
 have ev:nY X (ep nd d)=nY X d++[⟨1,nd,aB⟩]:=by
  rw [e];unfold nY;simp only [kh h.v0,QW,Qz]
 have pl:(ep nd d).p.length=d.p.length+1:=by rw [e];simp
 refine ⟨?_,by rw [e];exact h.e0,by rw [e];exact h.il,by rw [e];exact h.nn,by rw [e];simp,?_,?_⟩
 ·rw [ev,pl];rw [e];exact h1
 ·have:=h.sm;rw [e];show d.s+1<=100*d.i+(r+1);omega
 ·have:=h.el;rw [ev,pl];rw [e];simp only [Or,Sz];omega
theorem SD.cl {d:D}(h:SD X r d W) (nd:Int) {n:Nat}(hp:d.p.length=n+1) (h1:dP X (ps X.l d.i) n (nY X d++[⟨3,nd,aB⟩]) W1):SD X r (mY nd d) W1:=by
 have e:mY nd d={ d with p:=d.p.dropLast,v:=d.v++[⟨3,nd,aB⟩] }:=by unfold mY;rw [IO h.e0]
 have ev:nY X (mY nd d)=nY X d++[⟨3,nd,aB⟩]:=by
  rw [e];unfold nY;simp only [kh h.v0,QW,Qz]
 have pl:(mY nd d).p.length=n:=by rw [e];simp [hp]
 refine ⟨?_,by rw [e];exact h.e0,by rw [e];exact h.il,by rw [e];exact h.nn,by rw [e];simp,?_,?_⟩
 ·rw [ev,pl];rw [e];exact h1
 ·rw [e];exact h.sm
 ·have:=h.el;rw [ev,pl];rw [e];simp only [Or,Sz];omega
theorem zu {d:D}(h:SD X r d W) (nd:Int) {b:Nat}(hr:r+1<=b) (hb:b<=100) {f:Nat}{row:List It}(hrc:∀W1,SD X (r+1) (ep nd d) W1->Qu f #[pg X.g] W1 fun e w'=>∃d',Rb (aF X.l) row (ep nd d) d'/\li X (.tuple #[]) d' e w') (hf:dh f) (hlv:bJ row=[]) :
  Qu 40 #[pg X.g,.int .u8 nd,fv f X.g] W fun e w'=>∃d',Rb (aF X.l) (row++[.lv nd]) (ep nd d) d'/\li X (.tuple #[]) d' e w':=by
 have hlen:=h.len (by omega);have hel:=h.el;have hsm:=h.sm;have hil:=h.il;have h4:=C5 X.l;have h5:=h.sv.hl;have h6:=fB X.l d.i;refine va h.sv (by omega) (by omega) nd hf ?_;intro W1 h1;have hop:=h.op nd h1;refine (hrc W1 hop).mono ?_;rintro e w' ⟨d1,i1,ho⟩
 rcases ho with ⟨z,rfl,h2⟩|⟨z,rfl,h2⟩
 ·obtain ⟨_,hp⟩:=yS hlv i1 z
  have hp2:d1.p.length=d.p.length+1:=by
   rw [hp];unfold ep;rw [IO h.e0];simp
  have hlen2:=h2.len (by omega);refine .inl ⟨rfl,_,d.p.length,_,by rw [<-hp2];exact h2.sv,by omega,by omega,fun w2 h3=>⟨mY nd d1,cZ i1 (bT KQ),.inl ⟨by rw [wA];exact z,rfl,h2.cl nd hp2 h3⟩⟩⟩
 ·exact .inr ⟨_,rfl,d1,cZ i1 (bT (oc z)),.inr ⟨z,rfl,h2⟩⟩
theorem aP {d:D}(h:SD X r d W) {b n:Nat}(hr:r+1<=b) (hb:b<=100) (hm:ms (aF X.l) d<=n) {f:Nat}{row:List It}(hrc:bH f row b n) (hf:dh f) (hlv:bJ row=[]) {nd:Int}{i:It}(hop:∀d',Rb (aF X.l) (row++[.lv nd]) (ep nd d) d'->Ib (aF X.l) i d d') :
  Qu 40 #[pg X.g,.int .u8 nd,fv f X.g] W fun e w'=>∃d',Ib (aF X.l) i d d'/\li X (.tuple #[]) d' e w':=
 (zu h nd hr hb (fun W1 h1=>hrc X (r+1) (ep nd d) W1 h1 hr (by rw [vk];exact hm)) hf hlv).mono (fun e w' ⟨d',h1,h2⟩=>⟨d',hop d' h1,h2⟩)
def Qs (X:Sx) (f:Nat) (row:List It) (n:Nat) (d:D):Prop:=∀(r:Nat) (W:World),SD X r d W->r<=90->ms (aF X.l) d<=n ->
 Qu f #[pg X.g] W fun e w'=>∃d',Rb (aF X.l) row d d'/\li X (.tuple #[]) d' e w'
def OR (X:Sx) (m:M) (n:Nat) (d:D) (u v:Value):Prop:=
 (∃nd f row,u=.int .u8 nd/\v=fv f X.g/\dh f/\bJ row=[]/\Qs X f row n (ep nd d)/\∀d',Rb (aF X.l) (row++[.lv nd]) (ep nd d) d'->Ib (aF X.l) (.fl (.mt m)) d d') \/
 (u=.int .u8 0/\v=.nilFunc/\∃d',Ib (aF X.l) (.fl (.mt m)) d d'/\d'.e=(eU (aF X.l) false d).e/\d'.i=d.i)
theorem Fk (w:World):(binOp .eql 1 .nilFunc .nilFunc).run Tryz.prog w=.ok (.bool true) w:=by kernel_rfl
theorem JE (f g:Nat) (w:World):(binOp .eql 1 (fv f g) .nilFunc).run Tryz.prog w=.ok (.bool false) w:=by kernel_rfl
theorem pO (w:World):(binOp .neq 1 .nilFunc .nilFunc).run Tryz.prog w=.ok (.bool false) w:=by kernel_rfl
theorem te (f g:Nat) (w:World):(binOp .neq 1 (fv f g) .nilFunc).run Tryz.prog w=.ok (.bool true) w:=by kernel_rfl
theorem dL {d:D}(h:SD X r d W) (hr:r+1<=90) {n:Nat}(hm:ms (aF X.l) d<=n) {m:M}{u v:Value}(hp:OR X m n d u v) :
  Qu 262 #[pg X.g,u,v] W fun e w'=>∃d',Ib (aF X.l) (.fl (.mt m)) d d'/\li X (.tuple #[]) d' e w':=by
 rcases hp with ⟨nd,f,row,rfl,rfl,hf,hlv,hrc,hop⟩|⟨rfl,rfl,d',h1,h2,h3⟩
 ·have HN:Hid (Qu 40 #[pg X.g,.int .u8 nd,fv f X.g] W fun e w'=>∃d',Ib (aF X.l) (.fl (.mt m)) d d'/\li X (.tuple #[]) d' e w'):=(zu h nd hr (by omega) (fun W1 h1=>hrc (r+1) W1 h1 hr (by rw [vk];exact hm)) hf hlv).mono (fun e w' ⟨d',h1,h2⟩=>⟨d',hop d' h1,h2⟩);have hef:=JE f X.g;clear h hrc hop hf
  go_enter func262,ntmps262
  go_wp2_with fail
  refine HN.out.mono ?_;rintro e w1 ⟨d1,i1,⟨z,rfl,h1⟩|⟨z,rfl,h1⟩⟩
  ·have HX:Hid (∃d',Ib (aF X.l) (.fl (.mt m)) d d'/\li X (.tuple #[]) d' (.returned (.tuple #[])) w1):=⟨d1,i1,.inl ⟨z,rfl,h1⟩⟩;clear i1 z h1
   go_wp2_with fail
   go_end0
   exact HX.out
  ·have HX:Hid (∃d',Ib (aF X.l) (.fl (.mt m)) d d'/\li X (.tuple #[]) d' (.panicked (stop d1.e (ps X.l d1.i))) w1):=⟨d1,i1,.inr ⟨z,rfl,h1⟩⟩;clear i1 z h1
   go_wp2_with fail
   exact ⟨rfl,HX.out⟩
 ·have HR:Hid (Qu 101 #[pg X.g] W fun e w'=>∃c,e=.panicked c/\∃d',Ib (aF X.l) (.fl (.mt m)) d d'/\li X (.tuple #[]) d' (.panicked c) w'):=(ji h (.tuple #[])).mono (fun e w' ⟨_,a,b,c⟩=>by
   have hi:(eU (aF X.l) false d).i=d.i:=by unfold eU;simp only [QR,RM];(repeat' split) <;> rfl
   refine ⟨_,b,d',h1,.inr ⟨by rw [h2];exact a,by rw [h2,h3,hi],c⟩⟩)
  have hef:=Fk;clear h h1 h2 h3
  go_enter func262,ntmps262
  go_wp2_with fail
  refine HR.out.mono ?_;rintro e w1 ⟨c,rfl,hx⟩;have HX:=ai hx;clear hx
  go_wp2_with fail
  exact ⟨rfl,HX.out⟩
abbrev pE:List It:=[.again (.fn .declaration),.fl (.wd 2 [⟨#[98,101,103,105,110]⟩]),.fl (.mt .body),.fl (.wd 2 [⟨#[101,110,100]⟩])]
abbrev fK:List It:=[.fl (.wd 2 [⟨#[118,97,114]⟩]),.fl (.mt .typed),.fl (.wd 6 [⟨#[59]⟩])]
abbrev gn:List It:=[.fl (.wd 2 [⟨#[99,111,110,115,116]⟩]),.fl .nm,.fl (.wd 6 [⟨#[61]⟩]),.fl (.mt .expr),.fl (.wd 6 [⟨#[59]⟩])]
abbrev fM:List It:=[.fl (.wd 2 [⟨#[112,114,111,99]⟩]),.fl .nm,.once (.fn .bracket),.once (.row [.wd 6 [⟨#[58]⟩],.mt .kind]),.fl (.wd 6 [⟨#[59]⟩]),.fl (.mt .block),.fl (.wd 6 [⟨#[59]⟩])]
abbrev lR:List It:=[.fl (.wd 6 [⟨#[40]⟩]),.fl (.mt .param),.again (.row [.wd 6 [⟨#[59]⟩],.mt .param]),.fl (.wd 6 [⟨#[41]⟩])]
abbrev gN:List It:=[.fl .nm,.again (.row [.wd 6 [⟨#[44]⟩],.nm]),.fl (.wd 6 [⟨#[58]⟩]),.fl (.mt .kind)]
abbrev iN:List It:=[.fl (.wd 2 [⟨#[97,114,114,97,121]⟩]),.fl (.wd 6 [⟨#[91]⟩]),.fl (.mt .expr),.fl (.wd 6 [⟨#[46,46]⟩]),.fl (.mt .expr),.fl (.wd 6 [⟨#[93]⟩]),.fl (.wd 2 [⟨#[111,102]⟩]),.fl (.mt .kind)]
abbrev gO:List It:=[.fl (.wd 2 [⟨#[114,101,99,111,114,100]⟩]),.fl (.mt .member),.again (.row [.wd 6 [⟨#[59]⟩],.mt .member]),.fl (.wd 2 [⟨#[101,110,100]⟩])]
abbrev gu:List It:=[.fl (.mt .statement),.again (.row [.wd 6 [⟨#[59]⟩],.mt .statement])]
abbrev nP:List It:=[.fl (.wd 2 [⟨#[115,107,105,112]⟩])]
abbrev pF:List It:=[.fl (.mt .object),.once (.row [.wd 6 [⟨#[58,61]⟩],.mt .expr])]
abbrev lS:List It:=[.fl (.mt .expr),.fl (.wd 2 [⟨#[116,104,101,110]⟩]),.fl (.mt .body)]
abbrev nR:List It:=[.fl (.wd 2 [⟨#[100,111]⟩]),.fl (.mt .body),.fl (.wd 2 [⟨#[101,110,100]⟩])]
abbrev gr:List It:=[.fl (.wd 2 [⟨#[105,102]⟩]),.fl (.mt .expr),.fl (.wd 2 [⟨#[116,104,101,110]⟩]),.fl (.mt .body),.again (.row [.wd 2 [⟨#[101,108,105,102]⟩],.mt .expr,.wd 2 [⟨#[116,104,101,110]⟩],.mt .body]),.once (.row [.wd 2 [⟨#[101,108,115,101]⟩],.mt .body]),.fl (.wd 2 [⟨#[101,110,100]⟩])]
abbrev kH:List It:=[.fl (.wd 2 [⟨#[119,104,105,108,101]⟩]),.fl (.mt .expr),.fl (.wd 2 [⟨#[100,111]⟩]),.fl (.mt .body),.fl (.wd 2 [⟨#[101,110,100]⟩])]
abbrev kL:List It:=[.fl (.wd 2 [⟨#[102,111,114]⟩]),.fl .nm,.fl (.wd 6 [⟨#[58,61]⟩]),.fl (.mt .expr),.fl (.wd 2 [⟨#[116,111]⟩]),.fl (.mt .expr),.fl (.wd 2 [⟨#[100,111]⟩]),.fl (.mt .body),.fl (.wd 2 [⟨#[101,110,100]⟩])]
abbrev jq:List It:=[.fl (.wd 2 [⟨#[114,101,112,101,97,116]⟩]),.fl (.mt .body),.fl (.wd 2 [⟨#[117,110,116,105,108]⟩]),.fl (.mt .expr)]
abbrev jr:List It:=[.fl (.wd 2 [⟨#[114,101,116,117,114,110]⟩]),.once (.ex .expr)]
abbrev gq:List It:=[.fl (.wd 2 [⟨#[98,101,103,105,110]⟩]),.fl (.mt .body),.fl (.wd 2 [⟨#[101,110,100]⟩])]
abbrev dv:List It:=[.fl (.mt .rel),.again (.row [.wd 2 [⟨#[97,110,100]⟩,⟨#[111,114]⟩],.mt .rel])]
abbrev sU:List It:=[.fl (.mt .sum),.once (.row [.wd 6 [⟨#[61]⟩,⟨#[35]⟩,⟨#[60]⟩,⟨#[60,61]⟩,⟨#[62]⟩,⟨#[62,61]⟩],.mt .sum])]
abbrev sS:List It:=[.fl (.mt .term),.again (.row [.wd 6 [⟨#[43]⟩,⟨#[45]⟩],.mt .term])]
abbrev nO:List It:=[.fl (.mt .factor),.again (.row [.wd 6 [⟨#[42]⟩,⟨#[47]⟩,⟨#[37]⟩],.mt .factor])]
abbrev kI:List It:=[.fl (.wd 6 [⟨#[45]⟩]),.fl (.mt .factor)]
abbrev sV:List It:=[.fl (.wd 2 [⟨#[110,111,116]⟩]),.fl (.mt .factor)]
abbrev kK:List It:=[.fl (.wd 6 [⟨#[40]⟩]),.fl (.mt .expr),.fl (.wd 6 [⟨#[41]⟩])]
abbrev gP:List It:=[.fl .nm,.again (.fn .detail)]
abbrev nQ:List It:=[.fl (.mt .expr),.again (.row [.wd 6 [⟨#[44]⟩],.mt .expr])]
abbrev kJ:List It:=[.fl (.wd 6 [⟨#[91]⟩]),.fl (.mt .list),.fl (.wd 6 [⟨#[93]⟩])]
abbrev fL:List It:=[.fl (.wd 6 [⟨#[46]⟩]),.fl .nm]
abbrev nS:List It:=[.fl (.wd 6 [⟨#[40]⟩]),.once (.ex .list),.fl (.wd 6 [⟨#[41]⟩])]
theorem iP:dh 100:=enters_of func100 (by kernel_rfl) rfl
theorem tg:dh 259:=enters_of func259 (by kernel_rfl) rfl
theorem vU:dh 260:=enters_of func260 (by kernel_rfl) rfl
theorem ti:dh 261:=enters_of func261 (by kernel_rfl) rfl
theorem Cb:dh 336:=enters_of func336 (by kernel_rfl) rfl
theorem kS:dh 334:=enters_of func334 (by kernel_rfl) rfl
theorem Fy:dh 386:=enters_of func386 (by kernel_rfl) rfl
theorem Ca:dh 387:=enters_of func387 (by kernel_rfl) rfl
theorem jw:dh 185:=enters_of func185 (by kernel_rfl) rfl
theorem JM:dh 339:=enters_of func339 (by kernel_rfl) rfl
theorem MO:dh 338:=enters_of func338 (by kernel_rfl) rfl
theorem vW:dh 340:=enters_of func340 (by kernel_rfl) rfl
theorem Fp:dh 341:=enters_of func341 (by kernel_rfl) rfl
theorem Fw:dh 342:=enters_of func342 (by kernel_rfl) rfl
theorem B9:dh 343:=enters_of func343 (by kernel_rfl) rfl
theorem Cc:dh 344:=enters_of func344 (by kernel_rfl) rfl
theorem vV:dh 345:=enters_of func345 (by kernel_rfl) rfl
theorem dA:dh 335:=enters_of func335 (by kernel_rfl) rfl
theorem Fs:dh 385:=enters_of func385 (by kernel_rfl) rfl
theorem Fq:dh 406:=enters_of func406 (by kernel_rfl) rfl
theorem zS:dh 415:=enters_of func415 (by kernel_rfl) rfl
theorem Ft:dh 420:=enters_of func420 (by kernel_rfl) rfl
theorem MN:dh 419:=enters_of func419 (by kernel_rfl) rfl
theorem Fv:dh 421:=enters_of func421 (by kernel_rfl) rfl
theorem rC:dh 388:=enters_of func388 (by kernel_rfl) rfl
theorem Fu:dh 416:=enters_of func416 (by kernel_rfl) rfl
theorem th:dh 417:=enters_of func417 (by kernel_rfl) rfl
theorem JP:dh 418:=enters_of func418 (by kernel_rfl) rfl
theorem JO:dh 98:=enters_of func98 (by kernel_rfl) rfl
theorem JL:dh 331:=enters_of func331 (by kernel_rfl) rfl
theorem kr {b:Nat}(h:bH 334 gN b n):bH 334 [.fl (.mt .typed)] b n:=fun X r d W hs hr hm=>(h X r d W hs hr hm).mono (fun e w' ⟨d',h1,h2⟩=>⟨d',bT (rp rfl h1),h2⟩)
theorem Ig (n:Nat):bH 98 [.fl .nm] 90 n:=fun X r d W hs hr hm=>(fJ hs (by omega)).mono (fun e w' ⟨d',h1,h2⟩=>⟨d',bT h1,h2⟩)
def mW (X:Sx) (W:World):Nat:=(aF (X.l.drop (O5 X.g W))).length
theorem oz:∀(l:List Tv) (i:Nat),aF (l.drop (ps l i))=(aF l).drop i
 |[],i=>by simp [aF,ps]
 |t :: r,i=>by
  cases h:ip t with
  |true=>rw [rR h,xy h,R6];exact oz r i
  |false=>
   cases i with
   |zero=>rw [qY h];rfl
   |succ i=>rw [rQ h,xx h,R6,R6];exact oz r i
theorem KN {d:D}(h:SD X r d W):mW X W=(aF X.l).length-d.i:=by
 obtain ⟨ve,hs,_,_⟩:=h.sv.ex;unfold mW;rw [qo hs.cells.2.1];simp [oz]
theorem iD {r':Nat}{d:D}{W':World}(h:SD X r d W) (h':SD X r' d' W') (hl:ms (aF X.l) d' < ms (aF X.l) d):mW X W' < mW X W:=by
 rw [KN h,KN h'];unfold ms at hl;rw [IO h.e0,IO h'.e0] at hl;have:=h'.il;omega
def PC (m:M) (f n:Nat):Prop:=∀(X:Sx) (r:Nat) (d:D) (W:World),SD X r d W ->
 Qu f #[pg X.g] W fun e w'=>∃u v,e=.returned (.tuple #[u,v])/\OR X m n d u v/\Below W.heap.size W w'
def GH (X:Sx) (k:Dk) (n:Nat) (d:D) (u v:Value):Prop:=
 (∃nd f row i,u=.int .u8 nd/\v=fv f X.g/\dh f/\bJ row=[]/\bH f row 90 n/\bu (cR (aF X.l) d) (.fn k)=some i/\∀d',Rb (aF X.l) (row++[.lv nd]) (ep nd d) d'->Ib (aF X.l) i d d') \/
 (u=.int .u8 0/\v=.nilFunc/\bu (cR (aF X.l) d) (.fn k)=none)
def PD (k:Dk) (f n:Nat):Prop:=∀(X:Sx) (r:Nat) (d:D) (W:World),SD X r d W ->
 Qu f #[pg X.g] W fun e w'=>∃u v,e=.returned (.tuple #[u,v])/\GH X k n d u v/\Below W.heap.size W w'
theorem iQ (o:Option Tv) (k:Dk):bu o (.fn k)=if (o.getD aB).k == k.kd then (k.pick (o.getD aB)).map (fun m=>.fl (.mt m)) else none:=by
 cases o with
 |none=>cases k <;> rfl
 |some t=>rfl
theorem FJ (o:Option Tv) (m:M):bu o (.ex m)=if cH (o.getD aB) == 0 then none else some (.fl (.mt m)):=by
 cases o with
 |none=>rfl
 |some t=>rfl
theorem vY (o:Option Tv):cK o .factor=M.row (o.getD aB) .factor:=by
 cases o with
 |none=>rfl
 |some t=>rfl
theorem fi (k:Int) (t:Tv) {l:List UInt8}(hl:l≠[]):((kt k t).toList == l)=(t.k == k && t.is l):=by
 unfold kt Tv.is;cases h:(t.k == k) with
 |true=>simp
 |false=>
  have e:(ByteArray.mk #[]).toList=[]:=by decide +kernel
  simp only [QR,RM,e,Ti];cases l with
  |nil=>exact absurd rfl hl
  |cons a l=>rfl
theorem M5 {d:D}(h:SD X r d W) {a:ByteArray}(ea:kt 6 (nx X (ps X.l d.i))=a) (hq:(a.toList == [40])=true):bu (cR (aF X.l) d) (.fn .bracket)=some (.fl (.mt .params)):=by
 rw [<-ea,fi 6 _ (by simp),Qx] at hq;rw [iQ,<-h.hnx];simp [Dk.kd,Dk.pick,hq.2,show ((nx X (ps X.l d.i)).k == 6)=true from hq.1]
theorem Oz {d:D}(h:SD X r d W) {a:ByteArray}(ea:kt 6 (nx X (ps X.l d.i))=a) (hq:(a.toList == [40])=false):bu (cR (aF X.l) d) (.fn .bracket)=none:=by
 rw [<-ea,fi 6 _ (by simp)] at hq;rw [iQ,<-h.hnx];cases h6:((nx X (ps X.l d.i)).k == 6) with
 |false=>simp [Dk.kd,h6]
 |true=>
  rw [h6,RC] at hq;simp [Dk.kd,Dk.pick,hq]
theorem DN {L:List Tv}{m:M}{nd:Int}{rest:List It}{d:D}(hd:cK (cR L d) m=.op nd (.fl x :: rest)) (hx:∀m,x≠.mt m) (h:Ib L (.fl (.mt m)) d d') (he:d.e=0) (he':d'.e=0):ms L d' < ms L d:=by
 have h1:=h []
 have h2:mf L [.fl (.mt m)] d (.fl x :: (rest++[.lv nd])) (ep nd d):=by
  refine .step ?_;have e:dst L (.fl (.mt m)) d=((.fl x :: rest)++[.lv nd],ep nd d):=by simp only [dst,hd]
  rw [e];simp only [QW,Q6];exact .refl
 have h3:mf L [.fl (.mt m)] d (rest++[.lv nd]) (jb L x (ep nd d)):=h2.trans (iL hx _);have h4:=lH (h3.det h1)
 have h5:=(Mm (L:=L) (x:=x) (d:=ep nd d)).2 (by
  rw [vk];unfold ms;rw [IO he];omega)
 rw [vk] at h5;omega
theorem zi {L:List Tv}{k:Dk}{d:D}(hp:bu (cR L d) (.fn k)=some i) (h:Ib L i d d') (he:d.e=0) (he':d'.e=0):ms L d' < ms L d:=by
 rw [iQ] at hp
 split at hp
 ·simp only [QT] at hp;obtain ⟨m,hm,rfl⟩:=hp
  rcases oa hm with rfl|rfl|rfl|rfl|rfl|rfl|rfl <;> exact DN rfl aC h he he'
 ·cases hp
def lW (g:Nat) (t:Tv):Value:=if cH t == 25 then fv 420 g else if cH t == 26 then fv 419 g else if cH t == 27 then fv 421 g else if cH t == 32 then fv 331 g else if cH t == 28 then fv 388 g else .nilFunc
theorem pV {d:D}(h:SD X r d W) :
  Qu 408 #[pg X.g] W fun e w'=>e=.returned (.tuple #[.int .u8 (cH (nx X (ps X.l d.i))),lW X.g (nx X (ps X.l d.i))])/\Qv W w':=by
 have HK:Hid (Qu 180 #[pg X.g] W fun e w'=>e=.returned (nx X (ps X.l d.i)).v/\Qv W w'):=eL h.sv (fB _ _);clear h
 generalize nx X (ps X.l d.i)=t at *
 have hmf:=mkfn;obtain ⟨uv,hu⟩:∃uv,(.tuple #[.int .u8 (cH t),lW X.g t]:Value)=uv:=⟨_,rfl⟩;have HU:=ai hu;rw [hu];clear hu;have HB:Hid (∀w1,Qv W w1->Qv W (w1.alloc (jG t))):=fun w1 hb=>hb.alloc hb.size _
 dsimp only [Tv.v] at HK
 go_enter func408,ntmps408
 go_wp2_with (go_at_call 180;refine HK.out.mono ?_;rintro e w1 ⟨rfl,hb1⟩;have HB1:=show Hid _ from HB.out _ hb1;clear hb1)
 all_goals (
  go_ret2
  refine ⟨?_,HB1.out⟩;rw [<-HU.out];clear HU HK HB HB1 hmf
  simp_all [cH,lW,Tv.is])
end Go.Proofs.YtacohdpndpliaaaGreatDoor
