import Derived.Shelf.Abstract
import Derived.Test.YtjiepkenkcgkhaaGreatDoorM19
set_option linter.unusedVariables false
set_option linter.unusedSimpArgs false
set_option maxHeartbeats 2000000
namespace Go.Proofs.YtjiepkenkcgkhaaGreatDoor
open Go.RowKit
variable {d1 d2 d':D}{X:Sx}{r n:Nat}{W W1:World}{x:Fl}{i:It}
def Mb (X:Sx) (r:Nat) (x:Fl) (d:D) (e:Ending) (w:World):Prop:=(qn (aF X.l) d (fun t=>x.takes t)=false/\e=.returned (.bool false)/\SD X r d w)\/(qn (aF X.l) d (fun t=>x.takes t)=true/\kX X (.bool true) (iY (aF X.l) x d) e w)
theorem ll {d:D}(h:SD X r d W) (hr:r<=100) {x:Fl}{b:Bool}(hq:qn (aF X.l) d (fun t=>x.takes t)=b) :
  Ra 213 #[pg X.g,.bool b] W fun e w'=>Mb X r x d e w':=by
 cases b with
 |false=>
  have HX:Hid (Mb X r x d (.returned (.bool false)) W):=.inl ⟨hq,rfl,h⟩;clear h hq
  go_enter Tryz.func213,Tryz.ntmps213
  go_wp2_with fail
  go_ret
  exact HX.out
 |true=>
  have HT:Hid (Ra 228 #[pg X.g] W fun e w'=>kX X (.tuple #[]) (iY (aF X.l) x d) e w'):=yw h hr hq;have HX:Hid (∀e w',kX X (.bool true) (iY (aF X.l) x d) e w'->Mb X r x d e w'):=fun e w' ho=>.inr ⟨hq,ho⟩
  clear h hq
  generalize iY (aF X.l) x d=d' at *
  go_enter Tryz.func213,Tryz.ntmps213
  go_wp2_with fail
  refine HT.out.mono ?_;rintro e w1 (⟨z,rfl,h1⟩|⟨z,rfl,h1⟩)
  ·have H1:=ai h1;clear h1
   go_wp2_with fail
   go_ret
   exact HX.out _ _ (.inl ⟨z,rfl,H1.out⟩)
  ·have H1:=ai h1;clear h1
   go_wp2_with fail
   exact ⟨rfl,HX.out _ _ (.inr ⟨z,rfl,H1.out⟩)⟩
theorem ED {k:Int}{ts:List ByteArray}{t:Tv}(hz:kY ts ⟨#[]⟩=false):kY ts (kt k t)=Fl.takes t (.wd k ts):=by
 unfold kt;simp only [Fl.takes];cases h:(t.k == k) with
 |true=>simp
 |false=>simp [hz]
theorem mp {X:Sx}{r:Nat}{d:D}{W:World}(h:SD X r d W) (hr:r<=100) {ao:Option Addr}{ts:List ByteArray}{cap:Nat}(hl:Ls W ao ts) (hn:ts.length<=1000) (hz:kY ts ⟨#[]⟩=false) :
  Ra 187 #[pg X.g,.slice ao ts.length cap] W fun e w'=>Mb X r (.wd 2 ts) d e w':=by
 have HK:Hid (Ra 215 #[pg X.g] W fun e w'=>e=.returned (.string (kt 2 (nx X (ps X.l d.i))))/\Rc W w'):=kj h.sv (fB _ _)
 have HC:Hid (∀V,Rc W V->Ra 214 #[.slice ao ts.length cap,.string (kt 2 (nx X (ps X.l d.i)))] V fun r w'=>r=.returned (.bool (qn (aF X.l) d (fun t=>Fl.takes t (.wd 2 ts))))/\w'=V):=fun V hb=>by
  rw [h.hqn (by simp [Fl.takes,aB]),<-ED hz];exact jL ao ts cap _ V (hl.below hb) hn
 have HT:Hid (∀V,Rc W V->Ra 213 #[pg X.g,.bool (qn (aF X.l) d (fun t=>Fl.takes t (.wd 2 ts)))] V fun e w'=>Mb X r (.wd 2 ts) d e w'):=fun V hb=>ll (h.below hb) hr rfl
 clear h hl
 generalize (kt 2 (nx X (ps X.l d.i)))=s at *
 obtain ⟨b,hb⟩:∃b,qn (aF X.l) d (fun t=>Fl.takes t (.wd 2 ts))=b:=⟨_,rfl⟩;rw [hb] at HC HT;have HQ:=ai hb;clear hb
 go_enter Tryz.func187,Tryz.ntmps187
 go_wp2_with fail
 refine HK.out.mono ?_;rintro e w1 ⟨rfl,hb1⟩;have HB1:=ai hb1;clear hb1
 go_wp2_with fail
 refine (HC.out _ HB1.out).mono ?_;rintro e w2 ⟨rfl,hw2⟩;subst hw2
 go_wp2_with fail
 refine (HT.out _ HB1.out).mono ?_;rintro e w3 (⟨z,rfl,h3⟩|⟨z,⟨z2,rfl,h3⟩|⟨z2,rfl,h3⟩⟩)
 ·have H3:=ai h3;have HZ:=ai z;clear h3 z
  go_wp2_with fail
  go_ret
  exact .inl ⟨HZ.out,rfl,H3.out⟩
 ·have H3:=ai h3;have HZ:=ai z;have HY:=ai z2;clear h3 z z2
  go_wp2_with fail
  go_ret
  exact .inr ⟨HZ.out,.inl ⟨HY.out,rfl,H3.out⟩⟩
 ·have H3:=ai h3;have HZ:=ai z;have HY:=ai z2;clear h3 z z2
  go_wp2_with fail
  exact ⟨rfl,.inr ⟨HZ.out,.inr ⟨HY.out,rfl,H3.out⟩⟩⟩
theorem kA {X:Sx}{r:Nat}{d:D}{W:World}(h:SD X r d W) (hr:r<=100) {ao:Option Addr}{ts:List ByteArray}{cap:Nat}(hl:Ls W ao ts) (hn:ts.length<=1000) (hz:kY ts ⟨#[]⟩=false) :
  Ra 189 #[pg X.g,.slice ao ts.length cap] W fun e w'=>Mb X r (.wd 6 ts) d e w':=by
 have HK:Hid (Ra 216 #[pg X.g] W fun e w'=>e=.returned (.string (kt 6 (nx X (ps X.l d.i))))/\Rc W w'):=ls h.sv (fB _ _)
 have HC:Hid (∀V,Rc W V->Ra 214 #[.slice ao ts.length cap,.string (kt 6 (nx X (ps X.l d.i)))] V fun r w'=>r=.returned (.bool (qn (aF X.l) d (fun t=>Fl.takes t (.wd 6 ts))))/\w'=V):=fun V hb=>by
  rw [h.hqn (by simp [Fl.takes,aB]),<-ED hz];exact jL ao ts cap _ V (hl.below hb) hn
 have HT:Hid (∀V,Rc W V->Ra 213 #[pg X.g,.bool (qn (aF X.l) d (fun t=>Fl.takes t (.wd 6 ts)))] V fun e w'=>Mb X r (.wd 6 ts) d e w'):=fun V hb=>ll (h.below hb) hr rfl
 clear h hl
 generalize (kt 6 (nx X (ps X.l d.i)))=s at *
 obtain ⟨b,hb⟩:∃b,qn (aF X.l) d (fun t=>Fl.takes t (.wd 6 ts))=b:=⟨_,rfl⟩;rw [hb] at HC HT;have HQ:=ai hb;clear hb
 go_enter Tryz.func189,Tryz.ntmps189
 go_wp2_with fail
 refine HK.out.mono ?_;rintro e w1 ⟨rfl,hb1⟩;have HB1:=ai hb1;clear hb1
 go_wp2_with fail
 refine (HC.out _ HB1.out).mono ?_;rintro e w2 ⟨rfl,hw2⟩;subst hw2
 go_wp2_with fail
 refine (HT.out _ HB1.out).mono ?_;rintro e w3 (⟨z,rfl,h3⟩|⟨z,⟨z2,rfl,h3⟩|⟨z2,rfl,h3⟩⟩)
 ·have H3:=ai h3;have HZ:=ai z;clear h3 z
  go_wp2_with fail
  go_ret
  exact .inl ⟨HZ.out,rfl,H3.out⟩
 ·have H3:=ai h3;have HZ:=ai z;have HY:=ai z2;clear h3 z z2
  go_wp2_with fail
  go_ret
  exact .inr ⟨HZ.out,.inl ⟨HY.out,rfl,H3.out⟩⟩
 ·have H3:=ai h3;have HZ:=ai z;have HY:=ai z2;clear h3 z z2
  go_wp2_with fail
  exact ⟨rfl,.inr ⟨HZ.out,.inr ⟨HY.out,rfl,H3.out⟩⟩⟩
theorem MK (k:Int) (t:ByteArray) (a l c f:Int) (w:World):(Instr.field 51 (.agg #[.int .u8 k,.string t,.int .i64 a,.int .i64 l,.int .i64 c,.int .i64 f]) 0).run Tryz.prog w=.ok (.int .u8 k) w:=by kernel_rfl
theorem sC {d:D}(h:SD X r d W) (hr:r<=100) :
  Ra 188 #[pg X.g] W fun e w'=>Mb X r .nm d e w':=by
 have HK:Hid (Ra 186 #[pg X.g] W fun e w'=>e=.returned (nx X (ps X.l d.i)).v/\Rc W w'):=eG h.sv (fB _ _);have HE:qn (aF X.l) d (fun t=>Fl.takes t .nm)=((nx X (ps X.l d.i)).k == 1):=h.hqn (by simp [Fl.takes,aB]);have HT:Hid (∀V,Rc W V->Ra 213 #[pg X.g,.bool (qn (aF X.l) d (fun t=>Fl.takes t .nm))] V fun e w'=>Mb X r .nm d e w'):=fun V hb=>ll (h.below hb) hr rfl
 rw [HE] at HT;clear h HE
 generalize nx X (ps X.l d.i)=t at *
 have hfd:∀w:World,(Instr.field 51 (.agg #[.int .u8 t.k,.string t.t,.int .i64 t.a,.int .i64 t.l,.int .i64 t.c,.int .i64 t.f]) 0).run Tryz.prog w=.ok (.int .u8 t.k) w:=fun w=>MK _ _ _ _ _ _ w
 dsimp only [Tv.v] at HK
 cases hb:(t.k == 1) with
 |true=>
  rw [hb] at HT
  go_enter Tryz.func188,Tryz.ntmps188
  go_wp2_with fail
  refine HK.out.mono ?_;rintro e w1 ⟨rfl,hb1⟩;have HB1:=ai hb1;clear hb1
  go_wp2_with fail
  refine (HT.out _ HB1.out).mono ?_;rintro e w3 (⟨z,rfl,h3⟩|⟨z,⟨z2,rfl,h3⟩|⟨z2,rfl,h3⟩⟩)
  ·have H3:=ai h3;have HZ:=ai z;clear h3 z
   go_wp2_with fail
   go_ret
   exact .inl ⟨HZ.out,rfl,H3.out⟩
  ·have H3:=ai h3;have HZ:=ai z;have HY:=ai z2;clear h3 z z2
   go_wp2_with fail
   go_ret
   exact .inr ⟨HZ.out,.inl ⟨HY.out,rfl,H3.out⟩⟩
  ·have H3:=ai h3;have HZ:=ai z;have HY:=ai z2;clear h3 z z2
   go_wp2_with fail
   exact ⟨rfl,.inr ⟨HZ.out,.inr ⟨HY.out,rfl,H3.out⟩⟩⟩
 |false=>
  rw [hb] at HT
  go_enter Tryz.func188,Tryz.ntmps188
  go_wp2_with fail
  refine HK.out.mono ?_;rintro e w1 ⟨rfl,hb1⟩;have HB1:=ai hb1;clear hb1
  go_wp2_with fail
  refine (HT.out _ HB1.out).mono ?_;rintro e w3 (⟨z,rfl,h3⟩|⟨z,⟨z2,rfl,h3⟩|⟨z2,rfl,h3⟩⟩)
  ·have H3:=ai h3;have HZ:=ai z;clear h3 z
   go_wp2_with fail
   go_ret
   exact .inl ⟨HZ.out,rfl,H3.out⟩
  ·have H3:=ai h3;have HZ:=ai z;have HY:=ai z2;clear h3 z z2
   go_wp2_with fail
   go_ret
   exact .inr ⟨HZ.out,.inl ⟨HY.out,rfl,H3.out⟩⟩
  ·have H3:=ai h3;have HZ:=ai z;have HY:=ai z2;clear h3 z z2
   go_wp2_with fail
   exact ⟨rfl,.inr ⟨HZ.out,.inr ⟨HY.out,rfl,H3.out⟩⟩⟩
theorem Ex (W:World) (s:ByteArray):Ls (W.alloc (.cells #[.string s] 9)) (some ⟨W.heap.size,0,none⟩) [s]:=by
 intro j x hj
 have hj0:j=0:=by
  cases j with
  |zero=>rfl
  |succ j=>simp at hj
 subst hj0;simp at hj;subst hj;exact ⟨_,_,rfl,af (au W _) rfl⟩
theorem wV {L:List Tv}{d:D}(h:qn L d (fun t=>x.takes t)=false):iY L x d=eM L false d:=by unfold iY;rw [h]
theorem Mz {d:D}(h:SD X r d W) (hr:r<=100) {s:ByteArray}(hz:kY [s] ⟨#[]⟩=false) :
  Ra 151 #[pg X.g,.string s] W fun e w'=>kX X (.tuple #[]) (iY (aF X.l) (.wd 2 [s]) d) e w':=by
 have HM:Hid (Ra 187 #[pg X.g,.slice (some ⟨W.heap.size,0,none⟩) 1 1] (W.alloc (.cells #[.string s] 9)) fun e w'=>Mb X r (.wd 2 [s]) d e w'):=mp (ts:=[s]) (h.below ((hH _ _).alloc (gt _) _)) hr (Ex W s) (by simp) hz;clear h
 go_enter Tryz.func151,Tryz.ntmps151
 go_wp2_with fail
 refine HM.out.mono ?_;rintro e w1 (⟨z,rfl,h1⟩|⟨z,⟨z2,rfl,h1⟩|⟨z2,rfl,h1⟩⟩)
 ·have HR:Hid (Ra 155 #[pg X.g] w1 fun e w'=>kX X (.tuple #[]) (iY (aF X.l) (.wd 2 [s]) d) e w'/\(iY (aF X.l) (.wd 2 [s]) d).e≠0/\e=.panicked (stop (iY (aF X.l) (.wd 2 [s]) d).e (ps X.l (iY (aF X.l) (.wd 2 [s]) d).i))/\Below X.w0.heap.size X.w0 w'):=by rw [wV z];exact jf h1 _
  clear z h1 HM
  go_wp2_with fail
  refine HR.out.mono ?_;rintro e w2 ⟨ho,hz2,rfl,hb2⟩;have HO:=ai hz2;have HB:=ai hb2;clear ho hz2 hb2
  go_wp2_with fail
  exact ⟨rfl,.inr ⟨HO.out,rfl,HB.out⟩⟩
 ·have H1:=ai h1;have HY:=ai z2;clear h1 z z2
  go_wp2_with fail
  go_end0
  exact .inl ⟨HY.out,rfl,H1.out⟩
 ·have H1:=ai h1;have HY:=ai z2;clear h1 z z2
  go_wp2_with fail
  exact ⟨rfl,.inr ⟨HY.out,rfl,H1.out⟩⟩
theorem Hx {d:D}(h:SD X r d W) (hr:r<=100) {s:ByteArray}(hz:kY [s] ⟨#[]⟩=false) :
  Ra 153 #[pg X.g,.string s] W fun e w'=>kX X (.tuple #[]) (iY (aF X.l) (.wd 6 [s]) d) e w':=by
 have HM:Hid (Ra 189 #[pg X.g,.slice (some ⟨W.heap.size,0,none⟩) 1 1] (W.alloc (.cells #[.string s] 9)) fun e w'=>Mb X r (.wd 6 [s]) d e w'):=kA (ts:=[s]) (h.below ((hH _ _).alloc (gt _) _)) hr (Ex W s) (by simp) hz;clear h
 go_enter Tryz.func153,Tryz.ntmps153
 go_wp2_with fail
 refine HM.out.mono ?_;rintro e w1 (⟨z,rfl,h1⟩|⟨z,⟨z2,rfl,h1⟩|⟨z2,rfl,h1⟩⟩)
 ·have HR:Hid (Ra 155 #[pg X.g] w1 fun e w'=>kX X (.tuple #[]) (iY (aF X.l) (.wd 6 [s]) d) e w'/\(iY (aF X.l) (.wd 6 [s]) d).e≠0/\e=.panicked (stop (iY (aF X.l) (.wd 6 [s]) d).e (ps X.l (iY (aF X.l) (.wd 6 [s]) d).i))/\Below X.w0.heap.size X.w0 w'):=by rw [wV z];exact jf h1 _
  clear z h1 HM
  go_wp2_with fail
  refine HR.out.mono ?_;rintro e w2 ⟨ho,hz2,rfl,hb2⟩;have HO:=ai hz2;have HB:=ai hb2;clear ho hz2 hb2
  go_wp2_with fail
  exact ⟨rfl,.inr ⟨HO.out,rfl,HB.out⟩⟩
 ·have H1:=ai h1;have HY:=ai z2;clear h1 z z2
  go_wp2_with fail
  go_end0
  exact .inl ⟨HY.out,rfl,H1.out⟩
 ·have H1:=ai h1;have HY:=ai z2;clear h1 z z2
  go_wp2_with fail
  exact ⟨rfl,.inr ⟨HY.out,rfl,H1.out⟩⟩
theorem Jb {d:D}(h:SD X r d W) (hr:r<=100) :
  Ra 152 #[pg X.g] W fun e w'=>kX X (.tuple #[]) (iY (aF X.l) (.nm) d) e w':=by
 have HM:Hid (Ra 188 #[pg X.g] W fun e w'=>Mb X r (.nm) d e w'):=sC h hr;clear h
 go_enter Tryz.func152,Tryz.ntmps152
 go_wp2_with fail
 refine HM.out.mono ?_;rintro e w1 (⟨z,rfl,h1⟩|⟨z,⟨z2,rfl,h1⟩|⟨z2,rfl,h1⟩⟩)
 ·have HR:Hid (Ra 155 #[pg X.g] w1 fun e w'=>kX X (.tuple #[]) (iY (aF X.l) (.nm) d) e w'/\(iY (aF X.l) (.nm) d).e≠0/\e=.panicked (stop (iY (aF X.l) (.nm) d).e (ps X.l (iY (aF X.l) (.nm) d).i))/\Below X.w0.heap.size X.w0 w'):=by rw [wV z];exact jf h1 _
  clear z h1 HM
  go_wp2_with fail
  refine HR.out.mono ?_;rintro e w2 ⟨ho,hz2,rfl,hb2⟩;have HO:=ai hz2;have HB:=ai hb2;clear ho hz2 hb2
  go_wp2_with fail
  exact ⟨rfl,.inr ⟨HO.out,rfl,HB.out⟩⟩
 ·have H1:=ai h1;have HY:=ai z2;clear h1 z z2
  go_wp2_with fail
  go_end0
  exact .inl ⟨HY.out,rfl,H1.out⟩
 ·have H1:=ai h1;have HY:=ai z2;clear h1 z z2
  go_wp2_with fail
  exact ⟨rfl,.inr ⟨HY.out,rfl,H1.out⟩⟩
abbrev cZ (f:Nat):Prop:=∀(args:Array Value) (w:World),(callFunc f args).run Tryz.prog w=.ok (.enter f args) w
abbrev fv (f g:Nat):Value:=.func (.func f) #[pg g] #[]
theorem uT {i:Nat}{E:List Ev}(h:dM X i n E W) (hl:E.length<=1000000000) (hn:n<=1000000000) (nd:Int) {f:Nat}(hf:cZ f) {Q:Ending->World->Prop}
  (hrow:∀W1,dM X i (n+1) (E++[⟨1,nd,aB⟩]) W1->Ra f #[pg X.g] W1 fun e w'=>(e=.returned (.tuple #[])/\∃i' n' E',dM X i' (n'+1) E' w'/\E'.length<=1000000000/\n'<=1000000000/\∀w2,dM X i' n' (E'++[⟨3,nd,aB⟩]) w2->Q (.returned (.tuple #[])) w2)\/(∃c,e=.panicked c/\Q (.panicked c) w')) :
  Ra 110 #[pg X.g,.int .u8 nd,fv f X.g] W Q:=by
 obtain ⟨z0,z1,z2,z3⟩:=h.deep (n+1);obtain ⟨W1,e1⟩:∃W1,W.setCell ⟨X.g,2,none⟩ (.int .i64 ((n:Int)+1))=W1:=⟨_,rfl⟩
 have HT:Hid (Ra 149 #[pg X.g,(⟨1,nd,aB⟩:Ev).v] W1 fun r w'=>r=.returned (.tuple #[])/\dM X i (n+1) (E++[⟨1,nd,aB⟩]) w'/\Lh X W1 w'):=by
  rw [show ((n+1:Nat):Int)=(n:Int)+1 by omega,e1] at z3;exact iZ z3 _ hl
 have HR:Hid (∀W1,dM X i (n+1) (E++[⟨1,nd,aB⟩]) W1->Ra f #[pg X.g] W1 fun e w'=>(e=.returned (.tuple #[])/\∃i' n' E',dM X i' (n'+1) E' w'/\E'.length<=1000000000/\n'<=1000000000/\∀w2,dM X i' n' (E'++[⟨3,nd,aB⟩]) w2->Q (.returned (.tuple #[])) w2)\/(∃c,e=.panicked c/\Q (.panicked c) w')):=hrow;have HS:Hid (∀i' n' E' w2,dM X i' (n'+1) E' w2->E'.length<=1000000000->Ra 149 #[pg X.g,(⟨3,nd,aB⟩:Ev).v] w2 fun r w'=>r=.returned (.tuple #[])/\dM X i' (n'+1) (E'++[⟨3,nd,aB⟩]) w'/\Lh X w2 w'):=fun i' n' E' w2 h2 hl2=>iZ h2 _ hl2
 have HD:Hid (∀i' n' E' w3,dM X i' (n'+1) E' w3->w3.cell? ⟨X.g,2,none⟩=some (.int .i64 ((n':Int)+1))/\w3.frozen? ⟨X.g,2,none⟩=false/\X.g<w3.heap.size/\∃w4,w3.setCell ⟨X.g,2,none⟩ (.int .i64 (n':Int))=w4/\Hid (dM X i' n' E' w4)):=fun i' n' E' w3 h3=>by
  obtain ⟨a,b,c,d⟩:=h3.deep n';exact ⟨by rw [a];simp,b,c,_,rfl,d⟩
 clear h hrow z3
 dsimp only [Ev.v,aB] at HT HS
 go_enter Tryz.func110,Tryz.ntmps110
 go_wp2_with fail
 refine HT.out.mono ?_;rintro r w2 ⟨rfl,h2,_⟩;have H2:=ai h2;clear h2 z0 z1 z2 e1 HT
 go_wp2_with fail
 refine (HR.out _ H2.out).mono ?_;rintro e w3 (⟨rfl,i',n',E',h3,hl3,hn3,hq⟩|⟨c,rfl,hq⟩)
 ·have H3:=ai h3;have HQ:=ai hq;clear h3 hq
  go_wp2_with fail
  refine (HS.out _ _ _ _ H3.out hl3).mono ?_;rintro r w4 ⟨rfl,h4,_⟩;obtain ⟨y0,y1,y2,w5,e5,h5⟩:=HD.out _ _ _ _ h4;clear h4
  go_wp2_with fail
  go_end0
  exact HQ.out _ h5.out
 ·have HQ:=ai hq;clear hq
  go_wp2_with fail
  exact ⟨rfl,HQ.out⟩
section
variable {L:List Tv} {d:D}
theorem iS (he:d.e≠0):cL L d=none:=by unfold cL;rw [Eq he]
theorem zR (he:d.e≠0):eM L false d=d:=by simp [eM,he]
theorem te (he:d.e≠0) {x:Fl}(hx:∀m,x≠.mt m):Ib L (.fl x) d d:=by
 have h:=iI (L:=L) (d:=d) hx;have hq:qn L d (fun t=>x.takes t)=false:=by unfold qn;rw [iS he];rfl
 rw [hq,zR he] at h;exact h
theorem zQ (he:d.e≠0) {k:Int}{ts:List ByteArray}:Ib L (.fl (.wd k ts)) d d:=te he aC
theorem zS (he:d.e≠0):Ib L (.fl .nm) d d:=te he cP
theorem nR (he:d.e≠0) {n:Int}:Ib L (.lv n) d d:=by
 have h:=KN (L:=L) (d:=d) (n:=n);rw [wm he] at h;exact h
theorem rk (he:d.e≠0) {p:Pk}:bu (cL L d) p=none:=by rw [iS he];rfl
theorem rm (he:d.e≠0) {p:Pk}:Ib L (.once p) d d:=aZ (rk he)
theorem aS (he:d.e≠0) {p:Pk}:Ib L (.again p) d d:=qX (rk he)
theorem cR {r s:List It}{d3:D}(h:Rb L r d1 d2) (h':Rb L s d2 d3):Rb L (r++s) d1 d3:=fun K=>by
 rw [QM];exact (h (s++K)).trans (h' K)
theorem bR (h:Ib L i d1 d2):Rb L [i] d1 d2:=aa h aE
theorem cu (he:d.e≠0) {m:M}{nd:Int}{r:List It}(h:cH none m=.op nd r) (hr:Rb L r d d):Ib L (.fl (.mt m)) d d:=by
 refine aT (nd:=nd) (r:=r) (by rw [iS he];exact h) ?_;rw [uS he];exact cR hr (bR (nR he))
theorem zW (he:d.e≠0) {m:M}{r:List It}(h:cH none m=.ex r) (hr:Rb L r d d):Ib L (.fl (.mt m)) d d:=qW (r:=r) (by rw [iS he];exact h) hr
theorem vY (he:d.e≠0) {m:M}(h:cH none m=.ref):Ib L (.fl (.mt m)) d d:=by
 have:=sH (L:=L) (d:=d) (m:=m) (by rw [iS he];exact h);rw [zR he] at this;exact this
theorem JV (he:d.e≠0) (m:M):Ib L (.fl (.mt m)) d d:=by
 have w:∀k ts,Ib L (.fl (.wd k ts)) d d:=fun k ts=>zQ he
 have n:Ib L (.fl .nm) d d:=zS he;have a:∀p,Ib L (.again p) d d:=fun p=>aS he
 have o:∀p,Ib L (.once p) d d:=fun p=>rm he
 have factor:Ib L (.fl (.mt .factor)) d d:=vY he rfl;have statement:Ib L (.fl (.mt .statement)) d d:=vY he rfl;have kind:Ib L (.fl (.mt .kind)) d d:=cu he rfl (bR n);have term:Ib L (.fl (.mt .term)) d d:=cu he rfl (aa factor (bR (a _)));have sum:Ib L (.fl (.mt .sum)) d d:=cu he rfl (aa term (bR (a _)));have rel:Ib L (.fl (.mt .rel)) d d:=cu he rfl (aa sum (bR (o _)));have expr:Ib L (.fl (.mt .expr)) d d:=cu he rfl (aa rel (bR (a _)));have list:Ib L (.fl (.mt .list)) d d:=zW he rfl (aa expr (bR (a _)));have typed:Ib L (.fl (.mt .typed)) d d:=zW he rfl (aa n (aa (a _) (aa (w _ _) (bR kind))));have param:Ib L (.fl (.mt .param)) d d:=cu he rfl (bR typed);have body:Ib L (.fl (.mt .body)) d d:=cu he rfl (aa statement (bR (a _)));have block:Ib L (.fl (.mt .block)) d d:=cu he rfl (aa (a _) (aa (w _ _) (aa body (bR (w _ _)))));cases m with
 |block=>exact block
 |variables=>exact cu he rfl (aa (w _ _) (aa typed (bR (w _ _))))
 |constants=>exact cu he rfl (aa (w _ _) (aa n (aa (w _ _) (aa expr (bR (w _ _))))))
 |procedure=>exact cu he rfl (aa (w _ _) (aa n (aa (o _) (aa (o _) (aa (w _ _) (aa block (bR (w _ _))))))))
 |params=>exact cu he rfl (aa (w _ _) (aa param (aa (a _) (bR (w _ _)))))
 |param=>exact param
 |typed=>exact typed
 |kind=>exact kind
 |member=>exact cu he rfl (bR typed)
 |body=>exact body
 |statement=>exact statement
 |expr=>exact expr
 |rel=>exact rel
 |sum=>exact sum
 |term=>exact term
 |factor=>exact factor
 |object=>exact cu he rfl (aa n (bR (a _)))
 |index=>exact cu he rfl (aa (w _ _) (aa list (bR (w _ _))))
 |selection=>exact cu he rfl (aa (w _ _) (bR n))
 |args=>exact cu he rfl (aa (w _ _) (aa (o _) (bR (w _ _))))
 |list=>exact list
theorem zV (he:d.e≠0) (x:Fl):Ib L (.fl x) d d:=by
 cases x with
 |mt m=>exact JV he m
 |wd k ts=>exact zQ he
 |nm=>exact zS he
 |cs=>exact te he Em
theorem FB (he:d.e≠0) (i:It):Ib L i d d:=by
 cases i with
 |fl x=>exact zV he x
 |lv n=>exact nR he
 |once p=>exact rm he
 |again p=>exact aS he
 |all r=>
  refine aN ?_
  induction r with
  |nil=>exact aE
  |cons x r ih=>exact aa (zV he x) ih
theorem ah (he:d.e≠0):∀(r:List It),Rb L r d d
 |[]=>aE
 |i :: r=>aa (FB he i) (ah he r)
theorem MD {d:D}(h:Ib L i d d1) (h':Ib L i d d2):d1=d2:=by
 have:=(h []).det (h' []);cases this;rfl
theorem av (hx:∀m,x≠.mt m) {d':D}(h:Ib L (.fl x) d d') (he:d.e=0) (he':d'.e=0):ms L d' < ms L d:=by
 have h1:=MD h (iI hx);have h2:=Et (L:=L) (d:=d) (f:=fun t=>x.takes t) rfl;rw [h1];refine h2.2 ?_;unfold ms;rw [IO he];omega
theorem yN {r:List It}{d':D}(hr:bJ r=[]) (h:Rb L r d d') (hl:d'.e=0):d.e=0/\d'.p=d.p:=by
 obtain ⟨h1,h2⟩:=oO (h []) hl;obtain ⟨q,e1,e2⟩:=h2 d.p [] (by simp) (by rw [Rx,hr];rfl);have:q=[]:=by simpa [bJ] using e2
 exact ⟨h1,by rw [e1,this];simp⟩
end
theorem bS {d:D}(h:SD X r d W) (hr:r<=100) {s:ByteArray}(hz:kY [s] ⟨#[]⟩=false) :
  Ra 151 #[pg X.g,.string s] W fun e w'=>∃d',Ib (aF X.l) (.fl (.wd 2 [s])) d d'/\kX X (.tuple #[]) d' e w':=
 (Mz h hr hz).mono (fun e w' ho=>⟨_,Ou,ho⟩)
theorem bm {d:D}(h:SD X r d W) (hr:r<=100) {s:ByteArray}(hz:kY [s] ⟨#[]⟩=false) :
  Ra 153 #[pg X.g,.string s] W fun e w'=>∃d',Ib (aF X.l) (.fl (.wd 6 [s])) d d'/\kX X (.tuple #[]) d' e w':=
 (Hx h hr hz).mono (fun e w' ho=>⟨_,Ou,ho⟩)
theorem fJ {d:D}(h:SD X r d W) (hr:r<=100) :
  Ra 152 #[pg X.g] W fun e w'=>∃d',Ib (aF X.l) (.fl .nm) d d'/\kX X (.tuple #[]) d' e w':=
 (Jb h hr).mono (fun e w' ho=>⟨_,Qi,ho⟩)
def Mi (X:Sx) (r:Nat) (x:Fl) (d:D) (e:Ending) (w:World):Prop:=(qn (aF X.l) d (fun t=>x.takes t)=false/\e=.returned (.bool false)/\SD X r d w)\/(qn (aF X.l) d (fun t=>x.takes t)=true/\∃d',Ib (aF X.l) (.fl x) d d'/\kX X (.bool true) d' e w)
theorem Mb.mi (hx:∀m,x≠.mt m) {d:D}{e:Ending}{w:World}(h:Mb X r x d e w):Mi X r x d e w:=h.imp id (fun h=>⟨h.1,_,iI hx,h.2⟩)
theorem Ey (W:World) (ts:List ByteArray):Ls (W.alloc (.cells (ts.map Value.string).toArray 9)) (some ⟨W.heap.size,0,none⟩) ts:=by
 intro j x hj;refine ⟨_,_,rfl,af (au W _) ?_⟩;simp [hj]
theorem iB {d:D}(h:SD X r d W) (hr:r<=100) (ts:List ByteArray) (hn:ts.length<=1000) (hz:kY ts ⟨#[]⟩=false) {n:Nat}(hnl:n=ts.length) {a:Array Value}(ha:a=(ts.map Value.string).toArray) :
  Ra 187 #[pg X.g,.slice (some ⟨W.heap.size,0,none⟩) n n] (W.alloc (.cells a 9)) fun e w'=>Mi X r (.wd 2 ts) d e w':=by
 subst hnl ha;exact (mp (h.below ((hH _ _).alloc (gt _) _)) hr (Ey W ts) hn hz).mono (fun e w' hm=>hm.mi aC)
theorem bL {d:D}(h:SD X r d W) (hr:r<=100) (ts:List ByteArray) (hn:ts.length<=1000) (hz:kY ts ⟨#[]⟩=false) {n:Nat}(hnl:n=ts.length) {a:Array Value}(ha:a=(ts.map Value.string).toArray) :
  Ra 189 #[pg X.g,.slice (some ⟨W.heap.size,0,none⟩) n n] (W.alloc (.cells a 9)) fun e w'=>Mi X r (.wd 6 ts) d e w':=by
 subst hnl ha;exact (kA (h.below ((hH _ _).alloc (gt _) _)) hr (Ey W ts) hn hz).mono (fun e w' hm=>hm.mi aC)
def bG (f:Nat) (row:List It) (b n:Nat):Prop:=∀(X:Sx) (r:Nat) (d:D) (W:World),SD X r d W->r<=b->ms (aF X.l) d<=n ->
 Ra f #[pg X.g] W fun e w'=>∃d',Rb (aF X.l) row d d'/\kX X (.tuple #[]) d' e w'
theorem SD.op {d:D}(h:SD X r d W) (nd:Int) (h1:dM X (ps X.l d.i) (d.p.length+1) (nO X d++[⟨1,nd,aB⟩]) W1):SD X (r+1) (ei nd d) W1:=by
 have e:ei nd d={ d with p:=d.p++[(nd,d.s+1)],s:=d.s+1,v:=d.v++[⟨1,nd,aB⟩] }:=by unfold ei;rw [IO h.e0]
 have ev:nO X (ei nd d)=nO X d++[⟨1,nd,aB⟩]:=by
  rw [e];unfold nO;simp only [kb h.v0,Rh,QM]
 have pl:(ei nd d).p.length=d.p.length+1:=by rw [e];simp
 refine ⟨?_,by rw [e];exact h.e0,by rw [e];exact h.il,by rw [e];exact h.nn,by rw [e];simp,?_,?_⟩
 ·rw [ev,pl];rw [e];exact h1
 ·have:=h.sm;rw [e];show d.s+1<=100*d.i+(r+1);omega
 ·have:=h.el;rw [ev,pl];rw [e];simp only [Or,ST];omega
theorem SD.cl {d:D}(h:SD X r d W) (nd:Int) {n:Nat}(hp:d.p.length=n+1) (h1:dM X (ps X.l d.i) n (nO X d++[⟨3,nd,aB⟩]) W1):SD X r (mN nd d) W1:=by
 have e:mN nd d={ d with p:=d.p.dropLast,v:=d.v++[⟨3,nd,aB⟩] }:=by unfold mN;rw [IO h.e0]
 have ev:nO X (mN nd d)=nO X d++[⟨3,nd,aB⟩]:=by
  rw [e];unfold nO;simp only [kb h.v0,Rh,QM]
 have pl:(mN nd d).p.length=n:=by rw [e];simp [hp]
 refine ⟨?_,by rw [e];exact h.e0,by rw [e];exact h.il,by rw [e];exact h.nn,by rw [e];simp,?_,?_⟩
 ·rw [ev,pl];rw [e];exact h1
 ·rw [e];exact h.sm
 ·have:=h.el;rw [ev,pl];rw [e];simp only [Or,ST];omega
theorem zk {d:D}(h:SD X r d W) (nd:Int) {b:Nat}(hr:r+1<=b) (hb:b<=100) {f:Nat}{row:List It}(hrc:∀W1,SD X (r+1) (ei nd d) W1->Ra f #[pg X.g] W1 fun e w'=>∃d',Rb (aF X.l) row (ei nd d) d'/\kX X (.tuple #[]) d' e w') (hf:cZ f) (hlv:bJ row=[]) :
  Ra 110 #[pg X.g,.int .u8 nd,fv f X.g] W fun e w'=>∃d',Rb (aF X.l) (row++[.lv nd]) (ei nd d) d'/\kX X (.tuple #[]) d' e w':=by
 have hlen:=h.len (by omega);have hel:=h.el;have hsm:=h.sm;have hil:=h.il;have h4:=CU X.l;have h5:=h.sv.hl;have h6:=fB X.l d.i;refine uT h.sv (by omega) (by omega) nd hf ?_;intro W1 h1;have hop:=h.op nd h1;refine (hrc W1 hop).mono ?_;rintro e w' ⟨d1,i1,ho⟩
 rcases ho with ⟨z,rfl,h2⟩|⟨z,rfl,h2⟩
 ·obtain ⟨_,hp⟩:=yN hlv i1 z
  have hp2:d1.p.length=d.p.length+1:=by
   rw [hp];unfold ei;rw [IO h.e0];simp
  have hlen2:=h2.len (by omega);refine .inl ⟨rfl,_,d.p.length,_,by rw [<-hp2];exact h2.sv,by omega,by omega,fun w2 h3=>⟨mN nd d1,cR i1 (bR KN),.inl ⟨by rw [wl];exact z,rfl,h2.cl nd hp2 h3⟩⟩⟩
 ·exact .inr ⟨_,rfl,d1,cR i1 (bR (nR z)),.inr ⟨z,rfl,h2⟩⟩
theorem aP {d:D}(h:SD X r d W) {b n:Nat}(hr:r+1<=b) (hb:b<=100) (hm:ms (aF X.l) d<=n) {f:Nat}{row:List It}(hrc:bG f row b n) (hf:cZ f) (hlv:bJ row=[]) {nd:Int}{i:It}(hop:∀d',Rb (aF X.l) (row++[.lv nd]) (ei nd d) d'->Ib (aF X.l) i d d') :
  Ra 110 #[pg X.g,.int .u8 nd,fv f X.g] W fun e w'=>∃d',Ib (aF X.l) i d d'/\kX X (.tuple #[]) d' e w':=
 (zk h nd hr hb (fun W1 h1=>hrc X (r+1) (ei nd d) W1 h1 hr (by rw [uY];exact hm)) hf hlv).mono (fun e w' ⟨d',h1,h2⟩=>⟨d',hop d' h1,h2⟩)
def QI (X:Sx) (f:Nat) (row:List It) (n:Nat) (d:D):Prop:=∀(r:Nat) (W:World),SD X r d W->r<=90->ms (aF X.l) d<=n ->
 Ra f #[pg X.g] W fun e w'=>∃d',Rb (aF X.l) row d d'/\kX X (.tuple #[]) d' e w'
def O1 (X:Sx) (m:M) (n:Nat) (d:D) (u v:Value):Prop:=
 (∃nd f row,u=.int .u8 nd/\v=fv f X.g/\cZ f/\bJ row=[]/\QI X f row n (ei nd d)/\∀d',Rb (aF X.l) (row++[.lv nd]) (ei nd d) d'->Ib (aF X.l) (.fl (.mt m)) d d') \/
 (u=.int .u8 0/\v=.nilFunc/\∃d',Ib (aF X.l) (.fl (.mt m)) d d'/\d'.e=(eM (aF X.l) false d).e/\d'.i=d.i)
theorem E9 (w:World):(binOp .eql 1 .nilFunc .nilFunc).run Tryz.prog w=.ok (.bool true) w:=by kernel_rfl
theorem JE (f g:Nat) (w:World):(binOp .eql 1 (fv f g) .nilFunc).run Tryz.prog w=.ok (.bool false) w:=by kernel_rfl
theorem pD (w:World):(binOp .neq 1 .nilFunc .nilFunc).run Tryz.prog w=.ok (.bool false) w:=by kernel_rfl
theorem sS (f g:Nat) (w:World):(binOp .neq 1 (fv f g) .nilFunc).run Tryz.prog w=.ok (.bool true) w:=by kernel_rfl
theorem dJ {d:D}(h:SD X r d W) (hr:r+1<=90) {n:Nat}(hm:ms (aF X.l) d<=n) {m:M}{u v:Value}(hp:O1 X m n d u v) :
  Ra 220 #[pg X.g,u,v] W fun e w'=>∃d',Ib (aF X.l) (.fl (.mt m)) d d'/\kX X (.tuple #[]) d' e w':=by
 rcases hp with ⟨nd,f,row,rfl,rfl,hf,hlv,hrc,hop⟩|⟨rfl,rfl,d',h1,h2,h3⟩
 ·have HN:Hid (Ra 110 #[pg X.g,.int .u8 nd,fv f X.g] W fun e w'=>∃d',Ib (aF X.l) (.fl (.mt m)) d d'/\kX X (.tuple #[]) d' e w'):=(zk h nd hr (by omega) (fun W1 h1=>hrc (r+1) W1 h1 hr (by rw [uY];exact hm)) hf hlv).mono (fun e w' ⟨d',h1,h2⟩=>⟨d',hop d' h1,h2⟩);have hef:=JE f X.g;clear h hrc hop hf
  go_enter Tryz.func220,Tryz.ntmps220
  go_wp2_with fail
  refine HN.out.mono ?_;rintro e w1 ⟨d1,i1,⟨z,rfl,h1⟩|⟨z,rfl,h1⟩⟩
  ·have HX:Hid (∃d',Ib (aF X.l) (.fl (.mt m)) d d'/\kX X (.tuple #[]) d' (.returned (.tuple #[])) w1):=⟨d1,i1,.inl ⟨z,rfl,h1⟩⟩;clear i1 z h1
   go_wp2_with fail
   go_end0
   exact HX.out
  ·have HX:Hid (∃d',Ib (aF X.l) (.fl (.mt m)) d d'/\kX X (.tuple #[]) d' (.panicked (stop d1.e (ps X.l d1.i))) w1):=⟨d1,i1,.inr ⟨z,rfl,h1⟩⟩;clear i1 z h1
   go_wp2_with fail
   exact ⟨rfl,HX.out⟩
 ·have HR:Hid (Ra 155 #[pg X.g] W fun e w'=>∃c,e=.panicked c/\∃d',Ib (aF X.l) (.fl (.mt m)) d d'/\kX X (.tuple #[]) d' (.panicked c) w'):=(jf h (.tuple #[])).mono (fun e w' ⟨_,a,b,c⟩=>by
   have hi:(eM (aF X.l) false d).i=d.i:=by unfold eM;simp only [Q8,R8];(repeat' split) <;> rfl
   refine ⟨_,b,d',h1,.inr ⟨by rw [h2];exact a,by rw [h2,h3,hi],c⟩⟩)
  have hef:=E9;clear h h1 h2 h3
  go_enter Tryz.func220,Tryz.ntmps220
  go_wp2_with fail
  refine HR.out.mono ?_;rintro e w1 ⟨c,rfl,hx⟩;have HX:=ai hx;clear hx
  go_wp2_with fail
  exact ⟨rfl,HX.out⟩
abbrev pk:List It:=[.again (.fn .declaration),.fl (.wd 2 [⟨#[98,101,103,105,110]⟩]),.fl (.mt .body),.fl (.wd 2 [⟨#[101,110,100]⟩])]
abbrev fK:List It:=[.fl (.wd 2 [⟨#[118,97,114]⟩]),.fl (.mt .typed),.fl (.wd 6 [⟨#[59]⟩])]
abbrev gn:List It:=[.fl (.wd 2 [⟨#[99,111,110,115,116]⟩]),.fl .nm,.fl (.wd 6 [⟨#[61]⟩]),.fl (.mt .expr),.fl (.wd 6 [⟨#[59]⟩])]
abbrev fM:List It:=[.fl (.wd 2 [⟨#[112,114,111,99]⟩]),.fl .nm,.once (.fn .bracket),.once (.row [.wd 6 [⟨#[58]⟩],.mt .kind]),.fl (.wd 6 [⟨#[59]⟩]),.fl (.mt .block),.fl (.wd 6 [⟨#[59]⟩])]
abbrev lI:List It:=[.fl (.wd 6 [⟨#[40]⟩]),.fl (.mt .param),.again (.row [.wd 6 [⟨#[59]⟩],.mt .param]),.fl (.wd 6 [⟨#[41]⟩])]
abbrev gK:List It:=[.fl .nm,.again (.row [.wd 6 [⟨#[44]⟩],.nm]),.fl (.wd 6 [⟨#[58]⟩]),.fl (.mt .kind)]
abbrev iK:List It:=[.fl (.wd 2 [⟨#[97,114,114,97,121]⟩]),.fl (.wd 6 [⟨#[91]⟩]),.fl (.mt .expr),.fl (.wd 6 [⟨#[46,46]⟩]),.fl (.mt .expr),.fl (.wd 6 [⟨#[93]⟩]),.fl (.wd 2 [⟨#[111,102]⟩]),.fl (.mt .kind)]
abbrev gM:List It:=[.fl (.wd 2 [⟨#[114,101,99,111,114,100]⟩]),.fl (.mt .member),.again (.row [.wd 6 [⟨#[59]⟩],.mt .member]),.fl (.wd 2 [⟨#[101,110,100]⟩])]
abbrev gu:List It:=[.fl (.mt .statement),.again (.row [.wd 6 [⟨#[59]⟩],.mt .statement])]
abbrev nF:List It:=[.fl (.wd 2 [⟨#[115,107,105,112]⟩])]
abbrev pm:List It:=[.fl (.mt .object),.once (.row [.wd 6 [⟨#[58,61]⟩],.mt .expr])]
abbrev lJ:List It:=[.fl (.mt .expr),.fl (.wd 2 [⟨#[116,104,101,110]⟩]),.fl (.mt .body)]
abbrev nI:List It:=[.fl (.wd 2 [⟨#[100,111]⟩]),.fl (.mt .body),.fl (.wd 2 [⟨#[101,110,100]⟩])]
abbrev gr:List It:=[.fl (.wd 2 [⟨#[105,102]⟩]),.fl (.mt .expr),.fl (.wd 2 [⟨#[116,104,101,110]⟩]),.fl (.mt .body),.again (.row [.wd 2 [⟨#[101,108,105,102]⟩],.mt .expr,.wd 2 [⟨#[116,104,101,110]⟩],.mt .body]),.once (.row [.wd 2 [⟨#[101,108,115,101]⟩],.mt .body]),.fl (.wd 2 [⟨#[101,110,100]⟩])]
abbrev kC:List It:=[.fl (.wd 2 [⟨#[119,104,105,108,101]⟩]),.fl (.mt .expr),.fl (.wd 2 [⟨#[100,111]⟩]),.fl (.mt .body),.fl (.wd 2 [⟨#[101,110,100]⟩])]
abbrev kG:List It:=[.fl (.wd 2 [⟨#[102,111,114]⟩]),.fl .nm,.fl (.wd 6 [⟨#[58,61]⟩]),.fl (.mt .expr),.fl (.wd 2 [⟨#[116,111]⟩]),.fl (.mt .expr),.fl (.wd 2 [⟨#[100,111]⟩]),.fl (.mt .body),.fl (.wd 2 [⟨#[101,110,100]⟩])]
abbrev jo:List It:=[.fl (.wd 2 [⟨#[114,101,112,101,97,116]⟩]),.fl (.mt .body),.fl (.wd 2 [⟨#[117,110,116,105,108]⟩]),.fl (.mt .expr)]
abbrev jp:List It:=[.fl (.wd 2 [⟨#[114,101,116,117,114,110]⟩]),.once (.ex .expr)]
abbrev gq:List It:=[.fl (.wd 2 [⟨#[98,101,103,105,110]⟩]),.fl (.mt .body),.fl (.wd 2 [⟨#[101,110,100]⟩])]
abbrev dq:List It:=[.fl (.mt .rel),.again (.row [.wd 2 [⟨#[97,110,100]⟩,⟨#[111,114]⟩],.mt .rel])]
abbrev sK:List It:=[.fl (.mt .sum),.once (.row [.wd 6 [⟨#[61]⟩,⟨#[35]⟩,⟨#[60]⟩,⟨#[60,61]⟩,⟨#[62]⟩,⟨#[62,61]⟩],.mt .sum])]
abbrev sJ:List It:=[.fl (.mt .term),.again (.row [.wd 6 [⟨#[43]⟩,⟨#[45]⟩],.mt .term])]
abbrev nD:List It:=[.fl (.mt .factor),.again (.row [.wd 6 [⟨#[42]⟩,⟨#[47]⟩,⟨#[37]⟩],.mt .factor])]
abbrev kD:List It:=[.fl (.wd 6 [⟨#[45]⟩]),.fl (.mt .factor)]
abbrev sL:List It:=[.fl (.wd 2 [⟨#[110,111,116]⟩]),.fl (.mt .factor)]
abbrev kF:List It:=[.fl (.wd 6 [⟨#[40]⟩]),.fl (.mt .expr),.fl (.wd 6 [⟨#[41]⟩])]
abbrev gN:List It:=[.fl .nm,.again (.fn .detail)]
abbrev nG:List It:=[.fl (.mt .expr),.again (.row [.wd 6 [⟨#[44]⟩],.mt .expr])]
abbrev kE:List It:=[.fl (.wd 6 [⟨#[91]⟩]),.fl (.mt .list),.fl (.wd 6 [⟨#[93]⟩])]
abbrev fL:List It:=[.fl (.wd 6 [⟨#[46]⟩]),.fl .nm]
abbrev nJ:List It:=[.fl (.wd 6 [⟨#[40]⟩]),.once (.ex .list),.fl (.wd 6 [⟨#[41]⟩])]
theorem iM:cZ 154:=enters_of Tryz.func154 (by kernel_rfl) rfl
theorem sV:cZ 217:=enters_of Tryz.func217 (by kernel_rfl) rfl
theorem vN:cZ 218:=enters_of Tryz.func218 (by kernel_rfl) rfl
theorem sX:cZ 219:=enters_of Tryz.func219 (by kernel_rfl) rfl
theorem B3:cZ 233:=enters_of Tryz.func233 (by kernel_rfl) rfl
theorem kN:cZ 231:=enters_of Tryz.func231 (by kernel_rfl) rfl
theorem Fk:cZ 246:=enters_of Tryz.func246 (by kernel_rfl) rfl
theorem B2:cZ 247:=enters_of Tryz.func247 (by kernel_rfl) rfl
theorem ju:cZ 191:=enters_of Tryz.func191 (by kernel_rfl) rfl
theorem JM:cZ 236:=enters_of Tryz.func236 (by kernel_rfl) rfl
theorem MS:cZ 235:=enters_of Tryz.func235 (by kernel_rfl) rfl
theorem vP:cZ 237:=enters_of Tryz.func237 (by kernel_rfl) rfl
theorem Fc:cZ 238:=enters_of Tryz.func238 (by kernel_rfl) rfl
theorem Fj:cZ 239:=enters_of Tryz.func239 (by kernel_rfl) rfl
theorem BZ:cZ 240:=enters_of Tryz.func240 (by kernel_rfl) rfl
theorem B4:cZ 241:=enters_of Tryz.func241 (by kernel_rfl) rfl
theorem vO:cZ 242:=enters_of Tryz.func242 (by kernel_rfl) rfl
theorem dv:cZ 232:=enters_of Tryz.func232 (by kernel_rfl) rfl
theorem Ff:cZ 245:=enters_of Tryz.func245 (by kernel_rfl) rfl
theorem Fe:cZ 252:=enters_of Tryz.func252 (by kernel_rfl) rfl
theorem zM:cZ 255:=enters_of Tryz.func255 (by kernel_rfl) rfl
theorem Fg:cZ 260:=enters_of Tryz.func260 (by kernel_rfl) rfl
theorem MR:cZ 259:=enters_of Tryz.func259 (by kernel_rfl) rfl
theorem Fi:cZ 261:=enters_of Tryz.func261 (by kernel_rfl) rfl
theorem rf:cZ 248:=enters_of Tryz.func248 (by kernel_rfl) rfl
theorem Fh:cZ 256:=enters_of Tryz.func256 (by kernel_rfl) rfl
theorem sW:cZ 257:=enters_of Tryz.func257 (by kernel_rfl) rfl
theorem JP:cZ 258:=enters_of Tryz.func258 (by kernel_rfl) rfl
theorem JO:cZ 152:=enters_of Tryz.func152 (by kernel_rfl) rfl
theorem JL:cZ 228:=enters_of Tryz.func228 (by kernel_rfl) rfl
theorem km {b:Nat}(h:bG 231 gK b n):bG 231 [.fl (.mt .typed)] b n:=fun X r d W hs hr hm=>(h X r d W hs hr hm).mono (fun e w' ⟨d',h1,h2⟩=>⟨d',bR (qW rfl h1),h2⟩)
theorem Id (n:Nat):bG 152 [.fl .nm] 90 n:=fun X r d W hs hr hm=>(fJ hs (by omega)).mono (fun e w' ⟨d',h1,h2⟩=>⟨d',bR h1,h2⟩)
def mW (X:Sx) (W:World):Nat:=(aF (X.l.drop (Pg X.g W))).length
theorem om:∀(l:List Tv) (i:Nat),aF (l.drop (ps l i))=(aF l).drop i
 |[],i=>by simp [aF,ps]
 |t :: r,i=>by
  cases h:ii t with
  |true=>rw [rH h,xq h,St];exact om r i
  |false=>
   cases i with
   |zero=>rw [qM h];rfl
   |succ i=>rw [rG h,xp h,St,St];exact om r i
theorem KJ {d:D}(h:SD X r d W):mW X W=(aF X.l).length-d.i:=by
 obtain ⟨ve,hs,_,_⟩:=h.sv.ex;unfold mW;rw [qa hs.cells.2.1];simp [om]
theorem iA {r':Nat}{d:D}{W':World}(h:SD X r d W) (h':SD X r' d' W') (hl:ms (aF X.l) d' < ms (aF X.l) d):mW X W' < mW X W:=by
 rw [KJ h,KJ h'];unfold ms at hl;rw [IO h.e0,IO h'.e0] at hl;have:=h'.il;omega
def PC (m:M) (f n:Nat):Prop:=∀(X:Sx) (r:Nat) (d:D) (W:World),SD X r d W ->
 Ra f #[pg X.g] W fun e w'=>∃u v,e=.returned (.tuple #[u,v])/\O1 X m n d u v/\Below W.heap.size W w'
def GC (X:Sx) (k:Dk) (n:Nat) (d:D) (u v:Value):Prop:=
 (∃nd f row i,u=.int .u8 nd/\v=fv f X.g/\cZ f/\bJ row=[]/\bG f row 90 n/\bu (cL (aF X.l) d) (.fn k)=some i/\∀d',Rb (aF X.l) (row++[.lv nd]) (ei nd d) d'->Ib (aF X.l) i d d') \/
 (u=.int .u8 0/\v=.nilFunc/\bu (cL (aF X.l) d) (.fn k)=none)
def PD (k:Dk) (f n:Nat):Prop:=∀(X:Sx) (r:Nat) (d:D) (W:World),SD X r d W ->
 Ra f #[pg X.g] W fun e w'=>∃u v,e=.returned (.tuple #[u,v])/\GC X k n d u v/\Below W.heap.size W w'
theorem iN (o:Option Tv) (k:Dk):bu o (.fn k)=if (o.getD aB).k == k.kd then (k.pick (o.getD aB)).map (fun m=>.fl (.mt m)) else none:=by
 cases o with
 |none=>cases k <;> rfl
 |some t=>rfl
theorem Fy (o:Option Tv) (m:M):bu o (.ex m)=if cC (o.getD aB) == 0 then none else some (.fl (.mt m)):=by
 cases o with
 |none=>rfl
 |some t=>rfl
theorem vR (o:Option Tv):cH o .factor=M.row (o.getD aB) .factor:=by
 cases o with
 |none=>rfl
 |some t=>rfl
theorem fh (k:Int) (t:Tv) {l:List UInt8}(hl:l≠[]):((kt k t).toList == l)=(t.k == k && t.is l):=by
 unfold kt Tv.is;cases h:(t.k == k) with
 |true=>simp
 |false=>
  have e:(ByteArray.mk #[]).toList=[]:=by decide +kernel
  simp only [Q8,R8,e,TE];cases l with
  |nil=>exact absurd rfl hl
  |cons a l=>rfl
theorem M9 {d:D}(h:SD X r d W) {a:ByteArray}(ea:kt 6 (nx X (ps X.l d.i))=a) (hq:(a.toList == [40])=true):bu (cL (aF X.l) d) (.fn .bracket)=some (.fl (.mt .params)):=by
 rw [<-ea,fh 6 _ (by simp),QR] at hq;rw [iN,<-h.hnx];simp [Dk.kd,Dk.pick,hq.2,show ((nx X (ps X.l d.i)).k == 6)=true from hq.1]
theorem OK {d:D}(h:SD X r d W) {a:ByteArray}(ea:kt 6 (nx X (ps X.l d.i))=a) (hq:(a.toList == [40])=false):bu (cL (aF X.l) d) (.fn .bracket)=none:=by
 rw [<-ea,fh 6 _ (by simp)] at hq;rw [iN,<-h.hnx];cases h6:((nx X (ps X.l d.i)).k == 6) with
 |false=>simp [Dk.kd,h6]
 |true=>
  rw [h6,R4] at hq;simp [Dk.kd,Dk.pick,hq]
theorem DE {L:List Tv}{m:M}{nd:Int}{rest:List It}{d:D}(hd:cH (cL L d) m=.op nd (.fl x :: rest)) (hx:∀m,x≠.mt m) (h:Ib L (.fl (.mt m)) d d') (he:d.e=0) (he':d'.e=0):ms L d' < ms L d:=by
 have h1:=h []
 have h2:lV L [.fl (.mt m)] d (.fl x :: (rest++[.lv nd])) (ei nd d):=by
  refine .step ?_;have e:dst L (.fl (.mt m)) d=((.fl x :: rest)++[.lv nd],ei nd d):=by simp only [dst,hd]
  rw [e];simp only [Rh,Rx];exact .refl
 have h3:lV L [.fl (.mt m)] d (rest++[.lv nd]) (iY L x (ei nd d)):=h2.trans (iI hx _);have h4:=lB (h3.det h1)
 have h5:=(Ms (L:=L) (x:=x) (d:=ei nd d)).2 (by
  rw [uY];unfold ms;rw [IO he];omega)
 rw [uY] at h5;omega
theorem yX {L:List Tv}{k:Dk}{d:D}(hp:bu (cL L d) (.fn k)=some i) (h:Ib L i d d') (he:d.e=0) (he':d'.e=0):ms L d' < ms L d:=by
 rw [iN] at hp
 split at hp
 ·simp only [Q9] at hp;obtain ⟨m,hm,rfl⟩:=hp
  rcases nQ hm with rfl|rfl|rfl|rfl|rfl|rfl|rfl <;> exact DE rfl aC h he he'
 ·cases hp
def lP (g:Nat) (t:Tv):Value:=if cC t == 25 then fv 260 g else if cC t == 26 then fv 259 g else if cC t == 27 then fv 261 g else if cC t == 32 then fv 228 g else if cC t == 28 then fv 248 g else .nilFunc
theorem pJ {d:D}(h:SD X r d W) :
  Ra 254 #[pg X.g] W fun e w'=>e=.returned (.tuple #[.int .u8 (cC (nx X (ps X.l d.i))),lP X.g (nx X (ps X.l d.i))])/\Below W.heap.size W w':=by
 have HK:Hid (Ra 186 #[pg X.g] W fun e w'=>e=.returned (nx X (ps X.l d.i)).v/\Rc W w'):=eG h.sv (fB _ _);clear h
 generalize nx X (ps X.l d.i)=t at *
 have hmf:=mkfn;obtain ⟨uv,hu⟩:∃uv,(.tuple #[.int .u8 (cC t),lP X.g t]:Value)=uv:=⟨_,rfl⟩;have HU:=ai hu;rw [hu];clear hu;have HB:Hid (∀w1,Rc W w1->Rc W (w1.alloc (jE t))):=fun w1 hb=>hb.alloc hb.size _
 dsimp only [Tv.v] at HK
 go_enter Tryz.func254,Tryz.ntmps254
 go_wp2_with (go_at_call 186;refine HK.out.mono ?_;rintro e w1 ⟨rfl,hb1⟩;have HB1:=show Hid _ from HB.out _ hb1;clear hb1)
 all_goals (
  go_ret2
  refine ⟨?_,HB1.out⟩;rw [<-HU.out];clear HU HK HB HB1 hmf
  simp_all [cC,lP,Tv.is])
end Go.Proofs.YtjiepkenkcgkhaaGreatDoor
