import Derived.Shelf.Abstract
import Derived.Test.YtnljjdhodelhdaaGreatDoorM18
set_option linter.unusedVariables false
set_option linter.unusedSimpArgs false
set_option maxHeartbeats 2000000
namespace Go.Proofs.YtnljjdhodelhdaaGreatDoor
open Go.RowKit
variable {d1 d2 d':D}{X:Sx}{r n:Nat}{W W1:World}{x:Fl}{i:It}
def Mb (X:Sx) (r:Nat) (x:Fl) (d:D) (e:Ending) (w:World):Prop:=(qn (aG X.l) d (fun t=>x.takes t)=false/\e=.returned (.bool false)/\SD X r d w)\/(qn (aG X.l) d (fun t=>x.takes t)=true/\kZ X (.bool true) (jb (aG X.l) x d) e w)
theorem lq {d:D}(h:SD X r d W) (hr:r<=100) {x:Fl}{b:Bool}(hq:qn (aG X.l) d (fun t=>x.takes t)=b) :
  Ra 134 #[pg X.g,.bool b] W fun e w'=>Mb X r x d e w':=by
 cases b with
 |false=>
  have HX:Hid (Mb X r x d (.returned (.bool false)) W):=.inl ⟨hq,rfl,h⟩;clear h hq
  go_enter Tryz.func134,Tryz.ntmps134
  go_wp2_with fail
  go_ret
  exact HX.out
 |true=>
  have HT:Hid (Ra 184 #[pg X.g] W fun e w'=>kZ X (.tuple #[]) (jb (aG X.l) x d) e w'):=yK h hr hq;have HX:Hid (∀e w',kZ X (.bool true) (jb (aG X.l) x d) e w'->Mb X r x d e w'):=fun e w' ho=>.inr ⟨hq,ho⟩
  clear h hq
  generalize jb (aG X.l) x d=d' at *
  go_enter Tryz.func134,Tryz.ntmps134
  go_wp2_with fail
  refine HT.out.mono ?_;rintro e w1 (⟨z,rfl,h1⟩|⟨z,rfl,h1⟩)
  ·have H1:=ai h1;clear h1
   go_wp2_with fail
   go_ret
   exact HX.out _ _ (.inl ⟨z,rfl,H1.out⟩)
  ·have H1:=ai h1;clear h1
   go_wp2_with fail
   exact ⟨rfl,HX.out _ _ (.inr ⟨z,rfl,H1.out⟩)⟩
theorem EX {k:Int}{ts:List ByteArray}{t:Tv}(hz:k9 ts ⟨#[]⟩=false):k9 ts (kt k t)=Fl.takes t (.wd k ts):=by
 unfold kt;simp only [Fl.takes];cases h:(t.k == k) with
 |true=>simp
 |false=>simp [hz]
theorem mz {X:Sx}{r:Nat}{d:D}{W:World}(h:SD X r d W) (hr:r<=100) {ao:Option Addr}{ts:List ByteArray}{cap:Nat}(hl:Ls W ao ts) (hn:ts.length<=1000) (hz:k9 ts ⟨#[]⟩=false) :
  Ra 93 #[pg X.g,.slice ao ts.length cap] W fun e w'=>Mb X r (.wd 2 ts) d e w':=by
 have HK:Hid (Ra 136 #[pg X.g] W fun e w'=>e=.returned (.string (kt 2 (nx X (ps X.l d.i))))/\Rc W w'):=km h.sv (fF _ _)
 have HC:Hid (∀V,Rc W V->Ra 135 #[.slice ao ts.length cap,.string (kt 2 (nx X (ps X.l d.i)))] V fun r w'=>r=.returned (.bool (qn (aG X.l) d (fun t=>Fl.takes t (.wd 2 ts))))/\w'=V):=fun V hb=>by
  rw [h.hqn (by simp [Fl.takes,aC]),<-EX hz];exact jL ao ts cap _ V (hl.below hb) hn
 have HT:Hid (∀V,Rc W V->Ra 134 #[pg X.g,.bool (qn (aG X.l) d (fun t=>Fl.takes t (.wd 2 ts)))] V fun e w'=>Mb X r (.wd 2 ts) d e w'):=fun V hb=>lq (h.below hb) hr rfl
 clear h hl
 generalize (kt 2 (nx X (ps X.l d.i)))=s at *
 obtain ⟨b,hb⟩:∃b,qn (aG X.l) d (fun t=>Fl.takes t (.wd 2 ts))=b:=⟨_,rfl⟩;rw [hb] at HC HT;have HQ:=ai hb;clear hb
 go_enter Tryz.func93,Tryz.ntmps93
 go_wp2_with fail
 refine HK.out.mono ?_;rintro e w1 ⟨rfl,hb1⟩;have HB1:=ai hb1;clear hb1
 go_wp2_with fail
 refine (HC.out _ HB1.out).mono ?_;rintro e w2 ⟨rfl,hw2⟩;subst hw2
 go_wp2_with fail
 refine (HT.out _ HB1.out).mono ?_;rintro e w3 (⟨z,rfl,h3⟩|⟨z,⟨z2,rfl,h3⟩|⟨z2,rfl,h3⟩⟩)
 ·have H3:=ai h3;have HZ:=ai z;clear h3 z
  go_wp2_with fail
  go_ret
  exact .inl ⟨HZ.out,rfl,H3.out⟩
 ·have H3:=ai h3;have HZ:=ai z;have HY:=ai z2;clear h3 z z2
  go_wp2_with fail
  go_ret
  exact .inr ⟨HZ.out,.inl ⟨HY.out,rfl,H3.out⟩⟩
 ·have H3:=ai h3;have HZ:=ai z;have HY:=ai z2;clear h3 z z2
  go_wp2_with fail
  exact ⟨rfl,.inr ⟨HZ.out,.inr ⟨HY.out,rfl,H3.out⟩⟩⟩
theorem kD {X:Sx}{r:Nat}{d:D}{W:World}(h:SD X r d W) (hr:r<=100) {ao:Option Addr}{ts:List ByteArray}{cap:Nat}(hl:Ls W ao ts) (hn:ts.length<=1000) (hz:k9 ts ⟨#[]⟩=false) :
  Ra 95 #[pg X.g,.slice ao ts.length cap] W fun e w'=>Mb X r (.wd 6 ts) d e w':=by
 have HK:Hid (Ra 137 #[pg X.g] W fun e w'=>e=.returned (.string (kt 6 (nx X (ps X.l d.i))))/\Rc W w'):=lw h.sv (fF _ _)
 have HC:Hid (∀V,Rc W V->Ra 135 #[.slice ao ts.length cap,.string (kt 6 (nx X (ps X.l d.i)))] V fun r w'=>r=.returned (.bool (qn (aG X.l) d (fun t=>Fl.takes t (.wd 6 ts))))/\w'=V):=fun V hb=>by
  rw [h.hqn (by simp [Fl.takes,aC]),<-EX hz];exact jL ao ts cap _ V (hl.below hb) hn
 have HT:Hid (∀V,Rc W V->Ra 134 #[pg X.g,.bool (qn (aG X.l) d (fun t=>Fl.takes t (.wd 6 ts)))] V fun e w'=>Mb X r (.wd 6 ts) d e w'):=fun V hb=>lq (h.below hb) hr rfl
 clear h hl
 generalize (kt 6 (nx X (ps X.l d.i)))=s at *
 obtain ⟨b,hb⟩:∃b,qn (aG X.l) d (fun t=>Fl.takes t (.wd 6 ts))=b:=⟨_,rfl⟩;rw [hb] at HC HT;have HQ:=ai hb;clear hb
 go_enter Tryz.func95,Tryz.ntmps95
 go_wp2_with fail
 refine HK.out.mono ?_;rintro e w1 ⟨rfl,hb1⟩;have HB1:=ai hb1;clear hb1
 go_wp2_with fail
 refine (HC.out _ HB1.out).mono ?_;rintro e w2 ⟨rfl,hw2⟩;subst hw2
 go_wp2_with fail
 refine (HT.out _ HB1.out).mono ?_;rintro e w3 (⟨z,rfl,h3⟩|⟨z,⟨z2,rfl,h3⟩|⟨z2,rfl,h3⟩⟩)
 ·have H3:=ai h3;have HZ:=ai z;clear h3 z
  go_wp2_with fail
  go_ret
  exact .inl ⟨HZ.out,rfl,H3.out⟩
 ·have H3:=ai h3;have HZ:=ai z;have HY:=ai z2;clear h3 z z2
  go_wp2_with fail
  go_ret
  exact .inr ⟨HZ.out,.inl ⟨HY.out,rfl,H3.out⟩⟩
 ·have H3:=ai h3;have HZ:=ai z;have HY:=ai z2;clear h3 z z2
  go_wp2_with fail
  exact ⟨rfl,.inr ⟨HZ.out,.inr ⟨HY.out,rfl,H3.out⟩⟩⟩
theorem M4 (k:Int) (t:ByteArray) (a l c f:Int) (w:World):(Instr.field 35 (.agg #[.int .u8 k,.string t,.int .i64 a,.int .i64 l,.int .i64 c,.int .i64 f]) 0).run Tryz.prog w=.ok (.int .u8 k) w:=by kernel_rfl
theorem sI {d:D}(h:SD X r d W) (hr:r<=100) :
  Ra 94 #[pg X.g] W fun e w'=>Mb X r .nm d e w':=by
 have HK:Hid (Ra 92 #[pg X.g] W fun e w'=>e=.returned (nx X (ps X.l d.i)).v/\Rc W w'):=eL h.sv (fF _ _);have HE:qn (aG X.l) d (fun t=>Fl.takes t .nm)=((nx X (ps X.l d.i)).k == 1):=h.hqn (by simp [Fl.takes,aC]);have HT:Hid (∀V,Rc W V->Ra 134 #[pg X.g,.bool (qn (aG X.l) d (fun t=>Fl.takes t .nm))] V fun e w'=>Mb X r .nm d e w'):=fun V hb=>lq (h.below hb) hr rfl
 rw [HE] at HT;clear h HE
 generalize nx X (ps X.l d.i)=t at *
 have hfd:∀w:World,(Instr.field 35 (.agg #[.int .u8 t.k,.string t.t,.int .i64 t.a,.int .i64 t.l,.int .i64 t.c,.int .i64 t.f]) 0).run Tryz.prog w=.ok (.int .u8 t.k) w:=fun w=>M4 _ _ _ _ _ _ w
 dsimp only [Tv.v] at HK
 cases hb:(t.k == 1) with
 |true=>
  rw [hb] at HT
  go_enter Tryz.func94,Tryz.ntmps94
  go_wp2_with fail
  refine HK.out.mono ?_;rintro e w1 ⟨rfl,hb1⟩;have HB1:=ai hb1;clear hb1
  go_wp2_with fail
  refine (HT.out _ HB1.out).mono ?_;rintro e w3 (⟨z,rfl,h3⟩|⟨z,⟨z2,rfl,h3⟩|⟨z2,rfl,h3⟩⟩)
  ·have H3:=ai h3;have HZ:=ai z;clear h3 z
   go_wp2_with fail
   go_ret
   exact .inl ⟨HZ.out,rfl,H3.out⟩
  ·have H3:=ai h3;have HZ:=ai z;have HY:=ai z2;clear h3 z z2
   go_wp2_with fail
   go_ret
   exact .inr ⟨HZ.out,.inl ⟨HY.out,rfl,H3.out⟩⟩
  ·have H3:=ai h3;have HZ:=ai z;have HY:=ai z2;clear h3 z z2
   go_wp2_with fail
   exact ⟨rfl,.inr ⟨HZ.out,.inr ⟨HY.out,rfl,H3.out⟩⟩⟩
 |false=>
  rw [hb] at HT
  go_enter Tryz.func94,Tryz.ntmps94
  go_wp2_with fail
  refine HK.out.mono ?_;rintro e w1 ⟨rfl,hb1⟩;have HB1:=ai hb1;clear hb1
  go_wp2_with fail
  refine (HT.out _ HB1.out).mono ?_;rintro e w3 (⟨z,rfl,h3⟩|⟨z,⟨z2,rfl,h3⟩|⟨z2,rfl,h3⟩⟩)
  ·have H3:=ai h3;have HZ:=ai z;clear h3 z
   go_wp2_with fail
   go_ret
   exact .inl ⟨HZ.out,rfl,H3.out⟩
  ·have H3:=ai h3;have HZ:=ai z;have HY:=ai z2;clear h3 z z2
   go_wp2_with fail
   go_ret
   exact .inr ⟨HZ.out,.inl ⟨HY.out,rfl,H3.out⟩⟩
  ·have H3:=ai h3;have HZ:=ai z;have HY:=ai z2;clear h3 z z2
   go_wp2_with fail
   exact ⟨rfl,.inr ⟨HZ.out,.inr ⟨HY.out,rfl,H3.out⟩⟩⟩
theorem EQ (W:World) (s:ByteArray):Ls (W.alloc (.cells #[.string s] 9)) (some ⟨W.heap.size,0,none⟩) [s]:=by
 intro j x hj
 have hj0:j=0:=by
  cases j with
  |zero=>rfl
  |succ j=>simp at hj
 subst hj0;simp at hj;subst hj;exact ⟨_,_,rfl,af (aq W _) rfl⟩
theorem xg {L:List Tv}{d:D}(h:qn L d (fun t=>x.takes t)=false):jb L x d=eU L false d:=by unfold jb;rw [h]
theorem MR {d:D}(h:SD X r d W) (hr:r<=100) {s:ByteArray}(hz:k9 [s] ⟨#[]⟩=false) :
  Ra 46 #[pg X.g,.string s] W fun e w'=>kZ X (.tuple #[]) (jb (aG X.l) (.wd 2 [s]) d) e w':=by
 have HM:Hid (Ra 93 #[pg X.g,.slice (some ⟨W.heap.size,0,none⟩) 1 1] (W.alloc (.cells #[.string s] 9)) fun e w'=>Mb X r (.wd 2 [s]) d e w'):=mz (ts:=[s]) (h.below ((hH _ _).alloc (gt _) _)) hr (EQ W s) (by simp) hz;clear h
 go_enter Tryz.func46,Tryz.ntmps46
 go_wp2_with fail
 refine HM.out.mono ?_;rintro e w1 (⟨z,rfl,h1⟩|⟨z,⟨z2,rfl,h1⟩|⟨z2,rfl,h1⟩⟩)
 ·have HR:Hid (Ra 50 #[pg X.g] w1 fun e w'=>kZ X (.tuple #[]) (jb (aG X.l) (.wd 2 [s]) d) e w'/\(jb (aG X.l) (.wd 2 [s]) d).e≠0/\e=.panicked (stop (jb (aG X.l) (.wd 2 [s]) d).e (ps X.l (jb (aG X.l) (.wd 2 [s]) d).i))/\Below X.w0.heap.size X.w0 w'):=by rw [xg z];exact ji h1 _
  clear z h1 HM
  go_wp2_with fail
  refine HR.out.mono ?_;rintro e w2 ⟨ho,hz2,rfl,hb2⟩;have HO:=ai hz2;have HB:=ai hb2;clear ho hz2 hb2
  go_wp2_with fail
  exact ⟨rfl,.inr ⟨HO.out,rfl,HB.out⟩⟩
 ·have H1:=ai h1;have HY:=ai z2;clear h1 z z2
  go_wp2_with fail
  go_end0
  exact .inl ⟨HY.out,rfl,H1.out⟩
 ·have H1:=ai h1;have HY:=ai z2;clear h1 z z2
  go_wp2_with fail
  exact ⟨rfl,.inr ⟨HY.out,rfl,H1.out⟩⟩
theorem Iq {d:D}(h:SD X r d W) (hr:r<=100) {s:ByteArray}(hz:k9 [s] ⟨#[]⟩=false) :
  Ra 48 #[pg X.g,.string s] W fun e w'=>kZ X (.tuple #[]) (jb (aG X.l) (.wd 6 [s]) d) e w':=by
 have HM:Hid (Ra 95 #[pg X.g,.slice (some ⟨W.heap.size,0,none⟩) 1 1] (W.alloc (.cells #[.string s] 9)) fun e w'=>Mb X r (.wd 6 [s]) d e w'):=kD (ts:=[s]) (h.below ((hH _ _).alloc (gt _) _)) hr (EQ W s) (by simp) hz;clear h
 go_enter Tryz.func48,Tryz.ntmps48
 go_wp2_with fail
 refine HM.out.mono ?_;rintro e w1 (⟨z,rfl,h1⟩|⟨z,⟨z2,rfl,h1⟩|⟨z2,rfl,h1⟩⟩)
 ·have HR:Hid (Ra 50 #[pg X.g] w1 fun e w'=>kZ X (.tuple #[]) (jb (aG X.l) (.wd 6 [s]) d) e w'/\(jb (aG X.l) (.wd 6 [s]) d).e≠0/\e=.panicked (stop (jb (aG X.l) (.wd 6 [s]) d).e (ps X.l (jb (aG X.l) (.wd 6 [s]) d).i))/\Below X.w0.heap.size X.w0 w'):=by rw [xg z];exact ji h1 _
  clear z h1 HM
  go_wp2_with fail
  refine HR.out.mono ?_;rintro e w2 ⟨ho,hz2,rfl,hb2⟩;have HO:=ai hz2;have HB:=ai hb2;clear ho hz2 hb2
  go_wp2_with fail
  exact ⟨rfl,.inr ⟨HO.out,rfl,HB.out⟩⟩
 ·have H1:=ai h1;have HY:=ai z2;clear h1 z z2
  go_wp2_with fail
  go_end0
  exact .inl ⟨HY.out,rfl,H1.out⟩
 ·have H1:=ai h1;have HY:=ai z2;clear h1 z z2
  go_wp2_with fail
  exact ⟨rfl,.inr ⟨HY.out,rfl,H1.out⟩⟩
theorem Ju {d:D}(h:SD X r d W) (hr:r<=100) :
  Ra 47 #[pg X.g] W fun e w'=>kZ X (.tuple #[]) (jb (aG X.l) (.nm) d) e w':=by
 have HM:Hid (Ra 94 #[pg X.g] W fun e w'=>Mb X r (.nm) d e w'):=sI h hr;clear h
 go_enter Tryz.func47,Tryz.ntmps47
 go_wp2_with fail
 refine HM.out.mono ?_;rintro e w1 (⟨z,rfl,h1⟩|⟨z,⟨z2,rfl,h1⟩|⟨z2,rfl,h1⟩⟩)
 ·have HR:Hid (Ra 50 #[pg X.g] w1 fun e w'=>kZ X (.tuple #[]) (jb (aG X.l) (.nm) d) e w'/\(jb (aG X.l) (.nm) d).e≠0/\e=.panicked (stop (jb (aG X.l) (.nm) d).e (ps X.l (jb (aG X.l) (.nm) d).i))/\Below X.w0.heap.size X.w0 w'):=by rw [xg z];exact ji h1 _
  clear z h1 HM
  go_wp2_with fail
  refine HR.out.mono ?_;rintro e w2 ⟨ho,hz2,rfl,hb2⟩;have HO:=ai hz2;have HB:=ai hb2;clear ho hz2 hb2
  go_wp2_with fail
  exact ⟨rfl,.inr ⟨HO.out,rfl,HB.out⟩⟩
 ·have H1:=ai h1;have HY:=ai z2;clear h1 z z2
  go_wp2_with fail
  go_end0
  exact .inl ⟨HY.out,rfl,H1.out⟩
 ·have H1:=ai h1;have HY:=ai z2;clear h1 z z2
  go_wp2_with fail
  exact ⟨rfl,.inr ⟨HY.out,rfl,H1.out⟩⟩
abbrev df (f:Nat):Prop:=∀(args:Array Value) (w:World),(callFunc f args).run Tryz.prog w=.ok (.enter f args) w
abbrev fv (f g:Nat):Value:=.func (.func f) #[pg g] #[]
theorem vg {i:Nat}{E:List Ev}(h:dR X i n E W) (hl:E.length<=1000000000) (hn:n<=1000000000) (nd:Int) {f:Nat}(hf:df f) {Q:Ending->World->Prop}
  (hrow:∀W1,dR X i (n+1) (E++[⟨1,nd,aC⟩]) W1->Ra f #[pg X.g] W1 fun e w'=>(e=.returned (.tuple #[])/\∃i' n' E',dR X i' (n'+1) E' w'/\E'.length<=1000000000/\n'<=1000000000/\∀w2,dR X i' n' (E'++[⟨3,nd,aC⟩]) w2->Q (.returned (.tuple #[])) w2)\/(∃c,e=.panicked c/\Q (.panicked c) w')) :
  Ra 18 #[pg X.g,.int .u8 nd,fv f X.g] W Q:=by
 obtain ⟨z0,z1,z2,z3⟩:=h.deep (n+1);obtain ⟨W1,e1⟩:∃W1,W.setCell ⟨X.g,2,none⟩ (.int .i64 ((n:Int)+1))=W1:=⟨_,rfl⟩
 have HT:Hid (Ra 44 #[pg X.g,(⟨1,nd,aC⟩:Ev).v] W1 fun r w'=>r=.returned (.tuple #[])/\dR X i (n+1) (E++[⟨1,nd,aC⟩]) w'/\LK X W1 w'):=by
  rw [show ((n+1:Nat):Int)=(n:Int)+1 by omega,e1] at z3;exact jc z3 _ hl
 have HR:Hid (∀W1,dR X i (n+1) (E++[⟨1,nd,aC⟩]) W1->Ra f #[pg X.g] W1 fun e w'=>(e=.returned (.tuple #[])/\∃i' n' E',dR X i' (n'+1) E' w'/\E'.length<=1000000000/\n'<=1000000000/\∀w2,dR X i' n' (E'++[⟨3,nd,aC⟩]) w2->Q (.returned (.tuple #[])) w2)\/(∃c,e=.panicked c/\Q (.panicked c) w')):=hrow;have HS:Hid (∀i' n' E' w2,dR X i' (n'+1) E' w2->E'.length<=1000000000->Ra 44 #[pg X.g,(⟨3,nd,aC⟩:Ev).v] w2 fun r w'=>r=.returned (.tuple #[])/\dR X i' (n'+1) (E'++[⟨3,nd,aC⟩]) w'/\LK X w2 w'):=fun i' n' E' w2 h2 hl2=>jc h2 _ hl2
 have HD:Hid (∀i' n' E' w3,dR X i' (n'+1) E' w3->w3.cell? ⟨X.g,2,none⟩=some (.int .i64 ((n':Int)+1))/\w3.frozen? ⟨X.g,2,none⟩=false/\X.g<w3.heap.size/\∃w4,w3.setCell ⟨X.g,2,none⟩ (.int .i64 (n':Int))=w4/\Hid (dR X i' n' E' w4)):=fun i' n' E' w3 h3=>by
  obtain ⟨a,b,c,d⟩:=h3.deep n';exact ⟨by rw [a];simp,b,c,_,rfl,d⟩
 clear h hrow z3
 dsimp only [Ev.v,aC] at HT HS
 go_enter Tryz.func18,Tryz.ntmps18
 go_wp2_with fail
 refine HT.out.mono ?_;rintro r w2 ⟨rfl,h2,_⟩;have H2:=ai h2;clear h2 z0 z1 z2 e1 HT
 go_wp2_with fail
 refine (HR.out _ H2.out).mono ?_;rintro e w3 (⟨rfl,i',n',E',h3,hl3,hn3,hq⟩|⟨c,rfl,hq⟩)
 ·have H3:=ai h3;have HQ:=ai hq;clear h3 hq
  go_wp2_with fail
  refine (HS.out _ _ _ _ H3.out hl3).mono ?_;rintro r w4 ⟨rfl,h4,_⟩;obtain ⟨y0,y1,y2,w5,e5,h5⟩:=HD.out _ _ _ _ h4;clear h4
  go_wp2_with fail
  go_end0
  exact HQ.out _ h5.out
 ·have HQ:=ai hq;clear hq
  go_wp2_with fail
  exact ⟨rfl,HQ.out⟩
section
variable {L:List Tv} {d:D}
theorem iV (he:d.e≠0):cP L d=none:=by unfold cP;rw [Eq he]
theorem Am (he:d.e≠0):eU L false d=d:=by simp [eU,he]
theorem tu (he:d.e≠0) {x:Fl}(hx:∀m,x≠.mt m):Ib L (.fl x) d d:=by
 have h:=iK (L:=L) (d:=d) hx;have hq:qn L d (fun t=>x.takes t)=false:=by unfold qn;rw [iV he];rfl
 rw [hq,Am he] at h;exact h
theorem Al (he:d.e≠0) {k:Int}{ts:List ByteArray}:Ib L (.fl (.wd k ts)) d d:=tu he aD
theorem Ao (he:d.e≠0):Ib L (.fl .nm) d d:=tu he cU
theorem nW (he:d.e≠0) {n:Int}:Ib L (.lv n) d d:=by
 have h:=Lg (L:=L) (d:=d) (n:=n);rw [wF he] at h;exact h
theorem ry (he:d.e≠0) {p:Pk}:bz (cP L d) p=none:=by rw [iV he];rfl
theorem rz (he:d.e≠0) {p:Pk}:Ib L (.once p) d d:=bh (ry he)
theorem aT (he:d.e≠0) {p:Pk}:Ib L (.again p) d d:=rf (ry he)
theorem cX {r s:List It}{d3:D}(h:Rb L r d1 d2) (h':Rb L s d2 d3):Rb L (r++s) d1 d3:=fun K=>by
 rw [QW];exact (h (s++K)).trans (h' K)
theorem bT (h:Ib L i d1 d2):Rb L [i] d1 d2:=aa h aF
theorem cA (he:d.e≠0) {m:M}{nd:Int}{r:List It}(h:cJ none m=.op nd r) (hr:Rb L r d d):Ib L (.fl (.mt m)) d d:=by
 refine aU (nd:=nd) (r:=r) (by rw [iV he];exact h) ?_;rw [uZ he];exact cX hr (bT (nW he))
theorem Ar (he:d.e≠0) {m:M}{r:List It}(h:cJ none m=.ex r) (hr:Rb L r d d):Ib L (.fl (.mt m)) d d:=rc (r:=r) (by rw [iV he];exact h) hr
theorem wu (he:d.e≠0) {m:M}(h:cJ none m=.ref):Ib L (.fl (.mt m)) d d:=by
 have:=sN (L:=L) (d:=d) (m:=m) (by rw [iV he];exact h);rw [Am he] at this;exact this
theorem Kg (he:d.e≠0) (m:M):Ib L (.fl (.mt m)) d d:=by
 have w:∀k ts,Ib L (.fl (.wd k ts)) d d:=fun k ts=>Al he
 have n:Ib L (.fl .nm) d d:=Ao he;have a:∀p,Ib L (.again p) d d:=fun p=>aT he
 have o:∀p,Ib L (.once p) d d:=fun p=>rz he
 have factor:Ib L (.fl (.mt .factor)) d d:=wu he rfl;have statement:Ib L (.fl (.mt .statement)) d d:=wu he rfl;have kind:Ib L (.fl (.mt .kind)) d d:=cA he rfl (bT n);have term:Ib L (.fl (.mt .term)) d d:=cA he rfl (aa factor (bT (a _)));have sum:Ib L (.fl (.mt .sum)) d d:=cA he rfl (aa term (bT (a _)));have rel:Ib L (.fl (.mt .rel)) d d:=cA he rfl (aa sum (bT (o _)));have expr:Ib L (.fl (.mt .expr)) d d:=cA he rfl (aa rel (bT (a _)));have list:Ib L (.fl (.mt .list)) d d:=Ar he rfl (aa expr (bT (a _)));have typed:Ib L (.fl (.mt .typed)) d d:=Ar he rfl (aa n (aa (a _) (aa (w _ _) (bT kind))));have param:Ib L (.fl (.mt .param)) d d:=cA he rfl (bT typed);have body:Ib L (.fl (.mt .body)) d d:=cA he rfl (aa statement (bT (a _)));have block:Ib L (.fl (.mt .block)) d d:=cA he rfl (aa (a _) (aa (w _ _) (aa body (bT (w _ _)))));cases m with
 |block=>exact block
 |variables=>exact cA he rfl (aa (w _ _) (aa typed (bT (w _ _))))
 |constants=>exact cA he rfl (aa (w _ _) (aa n (aa (w _ _) (aa expr (bT (w _ _))))))
 |procedure=>exact cA he rfl (aa (w _ _) (aa n (aa (o _) (aa (o _) (aa (w _ _) (aa block (bT (w _ _))))))))
 |params=>exact cA he rfl (aa (w _ _) (aa param (aa (a _) (bT (w _ _)))))
 |param=>exact param
 |typed=>exact typed
 |kind=>exact kind
 |member=>exact cA he rfl (bT typed)
 |body=>exact body
 |statement=>exact statement
 |expr=>exact expr
 |rel=>exact rel
 |sum=>exact sum
 |term=>exact term
 |factor=>exact factor
 |object=>exact cA he rfl (aa n (bT (a _)))
 |index=>exact cA he rfl (aa (w _ _) (aa list (bT (w _ _))))
 |selection=>exact cA he rfl (aa (w _ _) (bT n))
 |args=>exact cA he rfl (aa (w _ _) (aa (o _) (bT (w _ _))))
 |list=>exact list
theorem Ap (he:d.e≠0) (x:Fl):Ib L (.fl x) d d:=by
 cases x with
 |mt m=>exact Kg he m
 |wd k ts=>exact Al he
 |nm=>exact Ao he
 |cs=>exact tu he EG
theorem FX (he:d.e≠0) (i:It):Ib L i d d:=by
 cases i with
 |fl x=>exact Ap he x
 |lv n=>exact nW he
 |once p=>exact rz he
 |again p=>exact aT he
 |all r=>
  refine aO ?_
  induction r with
  |nil=>exact aF
  |cons x r ih=>exact aa (Ap he x) ih
theorem ah (he:d.e≠0):∀(r:List It),Rb L r d d
 |[]=>aF
 |i :: r=>aa (FX he i) (ah he r)
theorem MV {d:D}(h:Ib L i d d1) (h':Ib L i d d2):d1=d2:=by
 have:=(h []).det (h' []);cases this;rfl
theorem av (hx:∀m,x≠.mt m) {d':D}(h:Ib L (.fl x) d d') (he:d.e=0) (he':d'.e=0):ms L d' < ms L d:=by
 have h1:=MV h (iK hx);have h2:=EM (L:=L) (d:=d) (f:=fun t=>x.takes t) rfl;rw [h1];refine h2.2 ?_;unfold ms;rw [IO he];omega
theorem ze {r:List It}{d':D}(hr:bM r=[]) (h:Rb L r d d') (hl:d'.e=0):d.e=0/\d'.p=d.p:=by
 obtain ⟨h1,h2⟩:=oR (h []) hl;obtain ⟨q,e1,e2⟩:=h2 d.p [] (by simp) (by rw [RI,hr];rfl);have:q=[]:=by simpa [bM] using e2
 exact ⟨h1,by rw [e1,this];simp⟩
end
theorem bU {d:D}(h:SD X r d W) (hr:r<=100) {s:ByteArray}(hz:k9 [s] ⟨#[]⟩=false) :
  Ra 46 #[pg X.g,.string s] W fun e w'=>∃d',Ib (aG X.l) (.fl (.wd 2 [s])) d d'/\kZ X (.tuple #[]) d' e w':=
 (MR h hr hz).mono (fun e w' ho=>⟨_,OL,ho⟩)
theorem br {d:D}(h:SD X r d W) (hr:r<=100) {s:ByteArray}(hz:k9 [s] ⟨#[]⟩=false) :
  Ra 48 #[pg X.g,.string s] W fun e w'=>∃d',Ib (aG X.l) (.fl (.wd 6 [s])) d d'/\kZ X (.tuple #[]) d' e w':=
 (Iq h hr hz).mono (fun e w' ho=>⟨_,OL,ho⟩)
theorem fN {d:D}(h:SD X r d W) (hr:r<=100) :
  Ra 47 #[pg X.g] W fun e w'=>∃d',Ib (aG X.l) (.fl .nm) d d'/\kZ X (.tuple #[]) d' e w':=
 (Ju h hr).mono (fun e w' ho=>⟨_,Qv,ho⟩)
def Mi (X:Sx) (r:Nat) (x:Fl) (d:D) (e:Ending) (w:World):Prop:=(qn (aG X.l) d (fun t=>x.takes t)=false/\e=.returned (.bool false)/\SD X r d w)\/(qn (aG X.l) d (fun t=>x.takes t)=true/\∃d',Ib (aG X.l) (.fl x) d d'/\kZ X (.bool true) d' e w)
theorem Mb.mi (hx:∀m,x≠.mt m) {d:D}{e:Ending}{w:World}(h:Mb X r x d e w):Mi X r x d e w:=h.imp id (fun h=>⟨h.1,_,iK hx,h.2⟩)
theorem ER (W:World) (ts:List ByteArray):Ls (W.alloc (.cells (ts.map Value.string).toArray 9)) (some ⟨W.heap.size,0,none⟩) ts:=by
 intro j x hj;refine ⟨_,_,rfl,af (aq W _) ?_⟩;simp [hj]
theorem iD {d:D}(h:SD X r d W) (hr:r<=100) (ts:List ByteArray) (hn:ts.length<=1000) (hz:k9 ts ⟨#[]⟩=false) {n:Nat}(hnl:n=ts.length) {a:Array Value}(ha:a=(ts.map Value.string).toArray) :
  Ra 93 #[pg X.g,.slice (some ⟨W.heap.size,0,none⟩) n n] (W.alloc (.cells a 9)) fun e w'=>Mi X r (.wd 2 ts) d e w':=by
 subst hnl ha;exact (mz (h.below ((hH _ _).alloc (gt _) _)) hr (ER W ts) hn hz).mono (fun e w' hm=>hm.mi aD)
theorem bO {d:D}(h:SD X r d W) (hr:r<=100) (ts:List ByteArray) (hn:ts.length<=1000) (hz:k9 ts ⟨#[]⟩=false) {n:Nat}(hnl:n=ts.length) {a:Array Value}(ha:a=(ts.map Value.string).toArray) :
  Ra 95 #[pg X.g,.slice (some ⟨W.heap.size,0,none⟩) n n] (W.alloc (.cells a 9)) fun e w'=>Mi X r (.wd 6 ts) d e w':=by
 subst hnl ha;exact (kD (h.below ((hH _ _).alloc (gt _) _)) hr (ER W ts) hn hz).mono (fun e w' hm=>hm.mi aD)
def bJ (f:Nat) (row:List It) (b n:Nat):Prop:=∀(X:Sx) (r:Nat) (d:D) (W:World),SD X r d W->r<=b->ms (aG X.l) d<=n ->
 Ra f #[pg X.g] W fun e w'=>∃d',Rb (aG X.l) row d d'/\kZ X (.tuple #[]) d' e w'
theorem SD.op {d:D}(h:SD X r d W) (nd:Int) (h1:dR X (ps X.l d.i) (d.p.length+1) (nR X d++[⟨1,nd,aC⟩]) W1):SD X (r+1) (eu nd d) W1:=by
 have e:eu nd d={ d with p:=d.p++[(nd,d.s+1)],s:=d.s+1,v:=d.v++[⟨1,nd,aC⟩] }:=by unfold eu;rw [IO h.e0]
 have ev:nR X (eu nd d)=nR X d++[⟨1,nd,aC⟩]:=by
  rw [e];unfold nR;simp only [ke h.v0,RA,QW]
 have pl:(eu nd d).p.length=d.p.length+1:=by rw [e];simp
 refine ⟨?_,by rw [e];exact h.e0,by rw [e];exact h.il,by rw [e];exact h.nn,by rw [e];simp,?_,?_⟩
 ·rw [ev,pl];rw [e];exact h1
 ·have:=h.sm;rw [e];show d.s+1<=100*d.i+(r+1);omega
 ·have:=h.el;rw [ev,pl];rw [e];simp only [Or,Tl];omega
theorem SD.cl {d:D}(h:SD X r d W) (nd:Int) {n:Nat}(hp:d.p.length=n+1) (h1:dR X (ps X.l d.i) n (nR X d++[⟨3,nd,aC⟩]) W1):SD X r (mT nd d) W1:=by
 have e:mT nd d={ d with p:=d.p.dropLast,v:=d.v++[⟨3,nd,aC⟩] }:=by unfold mT;rw [IO h.e0]
 have ev:nR X (mT nd d)=nR X d++[⟨3,nd,aC⟩]:=by
  rw [e];unfold nR;simp only [ke h.v0,RA,QW]
 have pl:(mT nd d).p.length=n:=by rw [e];simp [hp]
 refine ⟨?_,by rw [e];exact h.e0,by rw [e];exact h.il,by rw [e];exact h.nn,by rw [e];simp,?_,?_⟩
 ·rw [ev,pl];rw [e];exact h1
 ·rw [e];exact h.sm
 ·have:=h.el;rw [ev,pl];rw [e];simp only [Or,Tl];omega
theorem zC {d:D}(h:SD X r d W) (nd:Int) {b:Nat}(hr:r+1<=b) (hb:b<=100) {f:Nat}{row:List It}(hrc:∀W1,SD X (r+1) (eu nd d) W1->Ra f #[pg X.g] W1 fun e w'=>∃d',Rb (aG X.l) row (eu nd d) d'/\kZ X (.tuple #[]) d' e w') (hf:df f) (hlv:bM row=[]) :
  Ra 18 #[pg X.g,.int .u8 nd,fv f X.g] W fun e w'=>∃d',Rb (aG X.l) (row++[.lv nd]) (eu nd d) d'/\kZ X (.tuple #[]) d' e w':=by
 have hlen:=h.len (by omega);have hel:=h.el;have hsm:=h.sm;have hil:=h.il;have h4:=Df X.l;have h5:=h.sv.hl;have h6:=fF X.l d.i;refine vg h.sv (by omega) (by omega) nd hf ?_;intro W1 h1;have hop:=h.op nd h1;refine (hrc W1 hop).mono ?_;rintro e w' ⟨d1,i1,ho⟩
 rcases ho with ⟨z,rfl,h2⟩|⟨z,rfl,h2⟩
 ·obtain ⟨_,hp⟩:=ze hlv i1 z
  have hp2:d1.p.length=d.p.length+1:=by
   rw [hp];unfold eu;rw [IO h.e0];simp
  have hlen2:=h2.len (by omega);refine .inl ⟨rfl,_,d.p.length,_,by rw [<-hp2];exact h2.sv,by omega,by omega,fun w2 h3=>⟨mT nd d1,cX i1 (bT Lg),.inl ⟨by rw [wE];exact z,rfl,h2.cl nd hp2 h3⟩⟩⟩
 ·exact .inr ⟨_,rfl,d1,cX i1 (bT (nW z)),.inr ⟨z,rfl,h2⟩⟩
theorem aP {d:D}(h:SD X r d W) {b n:Nat}(hr:r+1<=b) (hb:b<=100) (hm:ms (aG X.l) d<=n) {f:Nat}{row:List It}(hrc:bJ f row b n) (hf:df f) (hlv:bM row=[]) {nd:Int}{i:It}(hop:∀d',Rb (aG X.l) (row++[.lv nd]) (eu nd d) d'->Ib (aG X.l) i d d') :
  Ra 18 #[pg X.g,.int .u8 nd,fv f X.g] W fun e w'=>∃d',Ib (aG X.l) i d d'/\kZ X (.tuple #[]) d' e w':=
 (zC h nd hr hb (fun W1 h1=>hrc X (r+1) (eu nd d) W1 h1 hr (by rw [vq];exact hm)) hf hlv).mono (fun e w' ⟨d',h1,h2⟩=>⟨d',hop d' h1,h2⟩)
def QS (X:Sx) (f:Nat) (row:List It) (n:Nat) (d:D):Prop:=∀(r:Nat) (W:World),SD X r d W->r<=90->ms (aG X.l) d<=n ->
 Ra f #[pg X.g] W fun e w'=>∃d',Rb (aG X.l) row d d'/\kZ X (.tuple #[]) d' e w'
def Pj (X:Sx) (m:M) (n:Nat) (d:D) (u v:Value):Prop:=
 (∃nd f row,u=.int .u8 nd/\v=fv f X.g/\df f/\bM row=[]/\QS X f row n (eu nd d)/\∀d',Rb (aG X.l) (row++[.lv nd]) (eu nd d) d'->Ib (aG X.l) (.fl (.mt m)) d d') \/
 (u=.int .u8 0/\v=.nilFunc/\∃d',Ib (aG X.l) (.fl (.mt m)) d d'/\d'.e=(eU (aG X.l) false d).e/\d'.i=d.i)
theorem Fy (w:World):(binOp .eql 1 .nilFunc .nilFunc).run Tryz.prog w=.ok (.bool true) w:=by kernel_rfl
theorem J1 (f g:Nat) (w:World):(binOp .eql 1 (fv f g) .nilFunc).run Tryz.prog w=.ok (.bool false) w:=by kernel_rfl
theorem pG (w:World):(binOp .neq 1 .nilFunc .nilFunc).run Tryz.prog w=.ok (.bool false) w:=by kernel_rfl
theorem sZ (f g:Nat) (w:World):(binOp .neq 1 (fv f g) .nilFunc).run Tryz.prog w=.ok (.bool true) w:=by kernel_rfl
theorem dN {d:D}(h:SD X r d W) (hr:r+1<=90) {n:Nat}(hm:ms (aG X.l) d<=n) {m:M}{u v:Value}(hp:Pj X m n d u v) :
  Ra 141 #[pg X.g,u,v] W fun e w'=>∃d',Ib (aG X.l) (.fl (.mt m)) d d'/\kZ X (.tuple #[]) d' e w':=by
 rcases hp with ⟨nd,f,row,rfl,rfl,hf,hlv,hrc,hop⟩|⟨rfl,rfl,d',h1,h2,h3⟩
 ·have HN:Hid (Ra 18 #[pg X.g,.int .u8 nd,fv f X.g] W fun e w'=>∃d',Ib (aG X.l) (.fl (.mt m)) d d'/\kZ X (.tuple #[]) d' e w'):=(zC h nd hr (by omega) (fun W1 h1=>hrc (r+1) W1 h1 hr (by rw [vq];exact hm)) hf hlv).mono (fun e w' ⟨d',h1,h2⟩=>⟨d',hop d' h1,h2⟩);have hef:=J1 f X.g;clear h hrc hop hf
  go_enter Tryz.func141,Tryz.ntmps141
  go_wp2_with fail
  refine HN.out.mono ?_;rintro e w1 ⟨d1,i1,⟨z,rfl,h1⟩|⟨z,rfl,h1⟩⟩
  ·have HX:Hid (∃d',Ib (aG X.l) (.fl (.mt m)) d d'/\kZ X (.tuple #[]) d' (.returned (.tuple #[])) w1):=⟨d1,i1,.inl ⟨z,rfl,h1⟩⟩;clear i1 z h1
   go_wp2_with fail
   go_end0
   exact HX.out
  ·have HX:Hid (∃d',Ib (aG X.l) (.fl (.mt m)) d d'/\kZ X (.tuple #[]) d' (.panicked (stop d1.e (ps X.l d1.i))) w1):=⟨d1,i1,.inr ⟨z,rfl,h1⟩⟩;clear i1 z h1
   go_wp2_with fail
   exact ⟨rfl,HX.out⟩
 ·have HR:Hid (Ra 50 #[pg X.g] W fun e w'=>∃c,e=.panicked c/\∃d',Ib (aG X.l) (.fl (.mt m)) d d'/\kZ X (.tuple #[]) d' (.panicked c) w'):=(ji h (.tuple #[])).mono (fun e w' ⟨_,a,b,c⟩=>by
   have hi:(eU (aG X.l) false d).i=d.i:=by unfold eU;simp only [Rp,R7];(repeat' split) <;> rfl
   refine ⟨_,b,d',h1,.inr ⟨by rw [h2];exact a,by rw [h2,h3,hi],c⟩⟩)
  have hef:=Fy;clear h h1 h2 h3
  go_enter Tryz.func141,Tryz.ntmps141
  go_wp2_with fail
  refine HR.out.mono ?_;rintro e w1 ⟨c,rfl,hx⟩;have HX:=ai hx;clear hx
  go_wp2_with fail
  exact ⟨rfl,HX.out⟩
abbrev po:List It:=[.again (.fn .declaration),.fl (.wd 2 [⟨#[98,101,103,105,110]⟩]),.fl (.mt .body),.fl (.wd 2 [⟨#[101,110,100]⟩])]
abbrev fO:List It:=[.fl (.wd 2 [⟨#[118,97,114]⟩]),.fl (.mt .typed),.fl (.wd 6 [⟨#[59]⟩])]
abbrev gu:List It:=[.fl (.wd 2 [⟨#[99,111,110,115,116]⟩]),.fl .nm,.fl (.wd 6 [⟨#[61]⟩]),.fl (.mt .expr),.fl (.wd 6 [⟨#[59]⟩])]
abbrev fQ:List It:=[.fl (.wd 2 [⟨#[112,114,111,99]⟩]),.fl .nm,.once (.fn .bracket),.once (.row [.wd 6 [⟨#[58]⟩],.mt .kind]),.fl (.wd 6 [⟨#[59]⟩]),.fl (.mt .block),.fl (.wd 6 [⟨#[59]⟩])]
abbrev lM:List It:=[.fl (.wd 6 [⟨#[40]⟩]),.fl (.mt .param),.again (.row [.wd 6 [⟨#[59]⟩],.mt .param]),.fl (.wd 6 [⟨#[41]⟩])]
abbrev gM:List It:=[.fl .nm,.again (.row [.wd 6 [⟨#[44]⟩],.nm]),.fl (.wd 6 [⟨#[58]⟩]),.fl (.mt .kind)]
abbrev iM:List It:=[.fl (.wd 2 [⟨#[97,114,114,97,121]⟩]),.fl (.wd 6 [⟨#[91]⟩]),.fl (.mt .expr),.fl (.wd 6 [⟨#[46,46]⟩]),.fl (.mt .expr),.fl (.wd 6 [⟨#[93]⟩]),.fl (.wd 2 [⟨#[111,102]⟩]),.fl (.mt .kind)]
abbrev gN:List It:=[.fl (.wd 2 [⟨#[114,101,99,111,114,100]⟩]),.fl (.mt .member),.again (.row [.wd 6 [⟨#[59]⟩],.mt .member]),.fl (.wd 2 [⟨#[101,110,100]⟩])]
abbrev gy:List It:=[.fl (.mt .statement),.again (.row [.wd 6 [⟨#[59]⟩],.mt .statement])]
abbrev nJ:List It:=[.fl (.wd 2 [⟨#[115,107,105,112]⟩])]
abbrev pq:List It:=[.fl (.mt .object),.once (.row [.wd 6 [⟨#[58,61]⟩],.mt .expr])]
abbrev lO:List It:=[.fl (.mt .expr),.fl (.wd 2 [⟨#[116,104,101,110]⟩]),.fl (.mt .body)]
abbrev nL:List It:=[.fl (.wd 2 [⟨#[100,111]⟩]),.fl (.mt .body),.fl (.wd 2 [⟨#[101,110,100]⟩])]
abbrev gx:List It:=[.fl (.wd 2 [⟨#[105,102]⟩]),.fl (.mt .expr),.fl (.wd 2 [⟨#[116,104,101,110]⟩]),.fl (.mt .body),.again (.row [.wd 2 [⟨#[101,108,105,102]⟩],.mt .expr,.wd 2 [⟨#[116,104,101,110]⟩],.mt .body]),.once (.row [.wd 2 [⟨#[101,108,115,101]⟩],.mt .body]),.fl (.wd 2 [⟨#[101,110,100]⟩])]
abbrev kF:List It:=[.fl (.wd 2 [⟨#[119,104,105,108,101]⟩]),.fl (.mt .expr),.fl (.wd 2 [⟨#[100,111]⟩]),.fl (.mt .body),.fl (.wd 2 [⟨#[101,110,100]⟩])]
abbrev kJ:List It:=[.fl (.wd 2 [⟨#[102,111,114]⟩]),.fl .nm,.fl (.wd 6 [⟨#[58,61]⟩]),.fl (.mt .expr),.fl (.wd 2 [⟨#[116,111]⟩]),.fl (.mt .expr),.fl (.wd 2 [⟨#[100,111]⟩]),.fl (.mt .body),.fl (.wd 2 [⟨#[101,110,100]⟩])]
abbrev jq:List It:=[.fl (.wd 2 [⟨#[114,101,112,101,97,116]⟩]),.fl (.mt .body),.fl (.wd 2 [⟨#[117,110,116,105,108]⟩]),.fl (.mt .expr)]
abbrev jr:List It:=[.fl (.wd 2 [⟨#[114,101,116,117,114,110]⟩]),.once (.ex .expr)]
abbrev gw:List It:=[.fl (.wd 2 [⟨#[98,101,103,105,110]⟩]),.fl (.mt .body),.fl (.wd 2 [⟨#[101,110,100]⟩])]
abbrev dy:List It:=[.fl (.mt .rel),.again (.row [.wd 2 [⟨#[97,110,100]⟩,⟨#[111,114]⟩],.mt .rel])]
abbrev sQ:List It:=[.fl (.mt .sum),.once (.row [.wd 6 [⟨#[61]⟩,⟨#[35]⟩,⟨#[60]⟩,⟨#[60,61]⟩,⟨#[62]⟩,⟨#[62,61]⟩],.mt .sum])]
abbrev sP:List It:=[.fl (.mt .term),.again (.row [.wd 6 [⟨#[43]⟩,⟨#[45]⟩],.mt .term])]
abbrev nI:List It:=[.fl (.mt .factor),.again (.row [.wd 6 [⟨#[42]⟩,⟨#[47]⟩,⟨#[37]⟩],.mt .factor])]
abbrev kG:List It:=[.fl (.wd 6 [⟨#[45]⟩]),.fl (.mt .factor)]
abbrev sR:List It:=[.fl (.wd 2 [⟨#[110,111,116]⟩]),.fl (.mt .factor)]
abbrev kI:List It:=[.fl (.wd 6 [⟨#[40]⟩]),.fl (.mt .expr),.fl (.wd 6 [⟨#[41]⟩])]
abbrev gO:List It:=[.fl .nm,.again (.fn .detail)]
abbrev nK:List It:=[.fl (.mt .expr),.again (.row [.wd 6 [⟨#[44]⟩],.mt .expr])]
abbrev kH:List It:=[.fl (.wd 6 [⟨#[91]⟩]),.fl (.mt .list),.fl (.wd 6 [⟨#[93]⟩])]
abbrev fP:List It:=[.fl (.wd 6 [⟨#[46]⟩]),.fl .nm]
abbrev nM:List It:=[.fl (.wd 6 [⟨#[40]⟩]),.once (.ex .list),.fl (.wd 6 [⟨#[41]⟩])]
theorem iP:df 49:=enters_of Tryz.func49 (by kernel_rfl) rfl
theorem td:df 138:=enters_of Tryz.func138 (by kernel_rfl) rfl
theorem vY:df 139:=enters_of Tryz.func139 (by kernel_rfl) rfl
theorem tf:df 140:=enters_of Tryz.func140 (by kernel_rfl) rfl
theorem Ck:df 189:=enters_of Tryz.func189 (by kernel_rfl) rfl
theorem kP:df 187:=enters_of Tryz.func187 (by kernel_rfl) rfl
theorem FK:df 222:=enters_of Tryz.func222 (by kernel_rfl) rfl
theorem Cj:df 223:=enters_of Tryz.func223 (by kernel_rfl) rfl
theorem jw:df 97:=enters_of Tryz.func97 (by kernel_rfl) rfl
theorem Ka:df 192:=enters_of Tryz.func192 (by kernel_rfl) rfl
theorem Ng:df 191:=enters_of Tryz.func191 (by kernel_rfl) rfl
theorem wb:df 193:=enters_of Tryz.func193 (by kernel_rfl) rfl
theorem FD:df 194:=enters_of Tryz.func194 (by kernel_rfl) rfl
theorem FJ:df 195:=enters_of Tryz.func195 (by kernel_rfl) rfl
theorem Ci:df 196:=enters_of Tryz.func196 (by kernel_rfl) rfl
theorem Cm:df 197:=enters_of Tryz.func197 (by kernel_rfl) rfl
theorem vZ:df 198:=enters_of Tryz.func198 (by kernel_rfl) rfl
theorem dD:df 188:=enters_of Tryz.func188 (by kernel_rfl) rfl
theorem FF:df 221:=enters_of Tryz.func221 (by kernel_rfl) rfl
theorem FE:df 248:=enters_of Tryz.func248 (by kernel_rfl) rfl
theorem Ah:df 255:=enters_of Tryz.func255 (by kernel_rfl) rfl
theorem FG:df 260:=enters_of Tryz.func260 (by kernel_rfl) rfl
theorem Nc:df 259:=enters_of Tryz.func259 (by kernel_rfl) rfl
theorem FI:df 261:=enters_of Tryz.func261 (by kernel_rfl) rfl
theorem rp:df 224:=enters_of Tryz.func224 (by kernel_rfl) rfl
theorem FH:df 256:=enters_of Tryz.func256 (by kernel_rfl) rfl
theorem te:df 257:=enters_of Tryz.func257 (by kernel_rfl) rfl
theorem Kc:df 258:=enters_of Tryz.func258 (by kernel_rfl) rfl
theorem Kb:df 47:=enters_of Tryz.func47 (by kernel_rfl) rfl
theorem J9:df 184:=enters_of Tryz.func184 (by kernel_rfl) rfl
theorem ko {b:Nat}(h:bJ 187 gM b n):bJ 187 [.fl (.mt .typed)] b n:=fun X r d W hs hr hm=>(h X r d W hs hr hm).mono (fun e w' ⟨d',h1,h2⟩=>⟨d',bT (rc rfl h1),h2⟩)
theorem Ix (n:Nat):bJ 47 [.fl .nm] 90 n:=fun X r d W hs hr hm=>(fN hs (by omega)).mono (fun e w' ⟨d',h1,h2⟩=>⟨d',bT h1,h2⟩)
def mW (X:Sx) (W:World):Nat:=(aG (X.l.drop (PE X.g W))).length
theorem ov:∀(l:List Tv) (i:Nat),aG (l.drop (ps l i))=(aG l).drop i
 |[],i=>by simp [aG,ps]
 |t :: r,i=>by
  cases h:ij t with
  |true=>rw [rM h,xF h,SM];exact ov r i
  |false=>
   cases i with
   |zero=>rw [qS h];rfl
   |succ i=>rw [rL h,xE h,SM,SM];exact ov r i
theorem La {d:D}(h:SD X r d W):mW X W=(aG X.l).length-d.i:=by
 obtain ⟨ve,hs,_,_⟩:=h.sv.ex;unfold mW;rw [qd hs.cells.2.1];simp [ov]
theorem iC {r':Nat}{d:D}{W':World}(h:SD X r d W) (h':SD X r' d' W') (hl:ms (aG X.l) d' < ms (aG X.l) d):mW X W' < mW X W:=by
 rw [La h,La h'];unfold ms at hl;rw [IO h.e0,IO h'.e0] at hl;have:=h'.il;omega
def PC (m:M) (f n:Nat):Prop:=∀(X:Sx) (r:Nat) (d:D) (W:World),SD X r d W ->
 Ra f #[pg X.g] W fun e w'=>∃u v,e=.returned (.tuple #[u,v])/\Pj X m n d u v/\Below W.heap.size W w'
def GY (X:Sx) (k:Dk) (n:Nat) (d:D) (u v:Value):Prop:=
 (∃nd f row i,u=.int .u8 nd/\v=fv f X.g/\df f/\bM row=[]/\bJ f row 90 n/\bz (cP (aG X.l) d) (.fn k)=some i/\∀d',Rb (aG X.l) (row++[.lv nd]) (eu nd d) d'->Ib (aG X.l) i d d') \/
 (u=.int .u8 0/\v=.nilFunc/\bz (cP (aG X.l) d) (.fn k)=none)
def PD (k:Dk) (f n:Nat):Prop:=∀(X:Sx) (r:Nat) (d:D) (W:World),SD X r d W ->
 Ra f #[pg X.g] W fun e w'=>∃u v,e=.returned (.tuple #[u,v])/\GY X k n d u v/\Below W.heap.size W w'
theorem iQ (o:Option Tv) (k:Dk):bz o (.fn k)=if (o.getD aC).k == k.kd then (k.pick (o.getD aC)).map (fun m=>.fl (.mt m)) else none:=by
 cases o with
 |none=>cases k <;> rfl
 |some t=>rfl
theorem FV (o:Option Tv) (m:M):bz o (.ex m)=if cG (o.getD aC) == 0 then none else some (.fl (.mt m)):=by
 cases o with
 |none=>rfl
 |some t=>rfl
theorem wg (o:Option Tv):cJ o .factor=M.row (o.getD aC) .factor:=by
 cases o with
 |none=>rfl
 |some t=>rfl
theorem fm (k:Int) (t:Tv) {l:List UInt8}(hl:l≠[]):((kt k t).toList == l)=(t.k == k && t.is l):=by
 unfold kt Tv.is;cases h:(t.k == k) with
 |true=>simp
 |false=>
  have e:(ByteArray.mk #[]).toList=[]:=by decide +kernel
  simp only [Rp,R7,e,Tp];cases l with
  |nil=>exact absurd rfl hl
  |cons a l=>rfl
theorem Nw {d:D}(h:SD X r d W) {a:ByteArray}(ea:kt 6 (nx X (ps X.l d.i))=a) (hq:(a.toList == [40])=true):bz (cP (aG X.l) d) (.fn .bracket)=some (.fl (.mt .params)):=by
 rw [<-ea,fm 6 _ (by simp),Q1] at hq;rw [iQ,<-h.hnx];simp [Dk.kd,Dk.pick,hq.2,show ((nx X (ps X.l d.i)).k == 6)=true from hq.1]
theorem O1 {d:D}(h:SD X r d W) {a:ByteArray}(ea:kt 6 (nx X (ps X.l d.i))=a) (hq:(a.toList == [40])=false):bz (cP (aG X.l) d) (.fn .bracket)=none:=by
 rw [<-ea,fm 6 _ (by simp)] at hq;rw [iQ,<-h.hnx];cases h6:((nx X (ps X.l d.i)).k == 6) with
 |false=>simp [Dk.kd,h6]
 |true=>
  rw [h6,R6] at hq;simp [Dk.kd,Dk.pick,hq]
theorem DV {L:List Tv}{m:M}{nd:Int}{rest:List It}{d:D}(hd:cJ (cP L d) m=.op nd (.fl x :: rest)) (hx:∀m,x≠.mt m) (h:Ib L (.fl (.mt m)) d d') (he:d.e=0) (he':d'.e=0):ms L d' < ms L d:=by
 have h1:=h []
 have h2:lY L [.fl (.mt m)] d (.fl x :: (rest++[.lv nd])) (eu nd d):=by
  refine .step ?_;have e:dst L (.fl (.mt m)) d=((.fl x :: rest)++[.lv nd],eu nd d):=by simp only [dst,hd]
  rw [e];simp only [RA,RI];exact .refl
 have h3:lY L [.fl (.mt m)] d (rest++[.lv nd]) (jb L x (eu nd d)):=h2.trans (iK hx _);have h4:=lE (h3.det h1)
 have h5:=(MM (L:=L) (x:=x) (d:=eu nd d)).2 (by
  rw [vq];unfold ms;rw [IO he];omega)
 rw [vq] at h5;omega
theorem zu {L:List Tv}{k:Dk}{d:D}(hp:bz (cP L d) (.fn k)=some i) (h:Ib L i d d') (he:d.e=0) (he':d'.e=0):ms L d' < ms L d:=by
 rw [iQ] at hp
 split at hp
 ·simp only [Rv] at hp;obtain ⟨m,hm,rfl⟩:=hp
  rcases nT hm with rfl|rfl|rfl|rfl|rfl|rfl|rfl <;> exact DV rfl aD h he he'
 ·cases hp
def lS (g:Nat) (t:Tv):Value:=if cG t == 25 then fv 260 g else if cG t == 26 then fv 259 g else if cG t == 27 then fv 261 g else if cG t == 32 then fv 184 g else if cG t == 28 then fv 224 g else .nilFunc
theorem pN {d:D}(h:SD X r d W) :
  Ra 250 #[pg X.g] W fun e w'=>e=.returned (.tuple #[.int .u8 (cG (nx X (ps X.l d.i))),lS X.g (nx X (ps X.l d.i))])/\Below W.heap.size W w':=by
 have HK:Hid (Ra 92 #[pg X.g] W fun e w'=>e=.returned (nx X (ps X.l d.i)).v/\Rc W w'):=eL h.sv (fF _ _);clear h
 generalize nx X (ps X.l d.i)=t at *
 have hmf:=mkfn;obtain ⟨uv,hu⟩:∃uv,(.tuple #[.int .u8 (cG t),lS X.g t]:Value)=uv:=⟨_,rfl⟩;have HU:=ai hu;rw [hu];clear hu;have HB:Hid (∀w1,Rc W w1->Rc W (w1.alloc (jF t))):=fun w1 hb=>hb.alloc hb.size _
 dsimp only [Tv.v] at HK
 go_enter Tryz.func250,Tryz.ntmps250
 go_wp2_with (go_at_call 92;refine HK.out.mono ?_;rintro e w1 ⟨rfl,hb1⟩;have HB1:=show Hid _ from HB.out _ hb1;clear hb1)
 all_goals (
  go_ret2
  refine ⟨?_,HB1.out⟩;rw [<-HU.out];clear HU HK HB HB1 hmf
  simp_all [cG,lS,Tv.is])
end Go.Proofs.YtnljjdhodelhdaaGreatDoor
