import Derived.Shelf.Abstract
import Derived.Test.YtcjiapphbpiffaaGreatDoorM19
set_option linter.unusedVariables false
set_option linter.unusedSimpArgs false
set_option maxHeartbeats 2000000
namespace Go.Proofs.YtcjiapphbpiffaaGreatDoor
open Go.RowKit
variable {d1 d2 d':D}{X:Sx}{r n:Nat}{W W1:World}{x:Fl}{i:It}
def Mb (X:Sx) (r:Nat) (x:Fl) (d:D) (e:Ending) (w:World):Prop:=(qn (aG X.l) d (fun t=>x.takes t)=false/\e=.returned (.bool false)/\SD X r d w)\/(qn (aG X.l) d (fun t=>x.takes t)=true/\lA X (.bool true) (jn (aG X.l) x d) e w)
theorem lI {d:D}(h:SD X r d W) (M:r<=100) {x:Fl}{b:Bool}(F:qn (aG X.l) d (fun t=>x.takes t)=b) :
  Ta 217 #[pg X.g,.bool b] W fun e w'=>Mb X r x d e w':=by
 cases b with
 |false=>
  have G:Hid (Mb X r x d (.returned (.bool false)) W):=.inl ⟨F,rfl,h⟩;clear h F
  go_enter Tryz.func217,Tryz.ntmps217
  go_wp2_with fail
  go_ret
  exact G.out
 |true=>
  have I:Hid (Ta 232 #[pg X.g] W fun e w'=>lA X (.tuple #[]) (jn (aG X.l) x d) e w'):=zJ h M F;have G:Hid (∀e w',lA X (.bool true) (jn (aG X.l) x d) e w'->Mb X r x d e w'):=fun e w' J=>.inr ⟨F,J⟩
  clear h F
  generalize jn (aG X.l) x d=d' at *
  go_enter Tryz.func217,Tryz.ntmps217
  go_wp2_with fail
  refine I.out.mono ?_;rintro e O (⟨z,rfl,C⟩|⟨z,rfl,C⟩)
  ·have H:=ai C;clear C
   go_wp2_with fail
   go_ret
   exact G.out _ _ (.inl ⟨z,rfl,H.out⟩)
  ·have H:=ai C;clear C
   go_wp2_with fail
   exact ⟨rfl,G.out _ _ (.inr ⟨z,rfl,H.out⟩)⟩
theorem F3 {k:Int}{ts:List ByteArray}{t:Tv}(C:kS ts ⟨#[]⟩=false):kS ts (kt k t)=Fl.takes t (.wd k ts):=by
 unfold kt;simp only [Fl.takes];cases h:(t.k == k) with
 |true=>simp
 |false=>simp [C]
theorem mR {X:Sx}{r:Nat}{d:D}{W:World}(h:SD X r d W) (hr:r<=100) {ao:Option Addr}{ts:List ByteArray}{cap:Nat}(Y:Ls W ao ts) (hn:ts.length<=1000) (hz:kS ts ⟨#[]⟩=false) :
  Ta 191 #[pg X.g,.slice ao ts.length cap] W fun e w'=>Mb X r (.wd 2 ts) d e w':=by
 have Z:Hid (Ta 219 #[pg X.g] W fun e w'=>e=.returned (.string (kt 2 (nx X (ps X.l d.i))))/\Tb W w'):=kE h.sv (fN _ _)
 have S:Hid (∀V,Tb W V->Ta 218 #[.slice ao ts.length cap,.string (kt 2 (nx X (ps X.l d.i)))] V fun r w'=>r=.returned (.bool (qn (aG X.l) d (fun t=>Fl.takes t (.wd 2 ts))))/\w'=V):=fun V F=>by
  rw [h.hqn (by simp [Fl.takes,aB]),<-F3 hz];exact jU ao ts cap _ V (Y.below F) hn
 have U:Hid (∀V,Tb W V->Ta 217 #[pg X.g,.bool (qn (aG X.l) d (fun t=>Fl.takes t (.wd 2 ts)))] V fun e w'=>Mb X r (.wd 2 ts) d e w'):=fun V F=>lI (h.below F) hr rfl
 clear h Y
 generalize (kt 2 (nx X (ps X.l d.i)))=s at *
 obtain ⟨b,F⟩:∃b,qn (aG X.l) d (fun t=>Fl.takes t (.wd 2 ts))=b:=⟨_,rfl⟩;rw [F] at S U;have HQ:=ai F;clear F
 go_enter Tryz.func191,Tryz.ntmps191
 go_wp2_with fail
 refine Z.out.mono ?_;rintro e w1 ⟨rfl,M⟩;have J:=ai M;clear M
 go_wp2_with fail
 refine (S.out _ J.out).mono ?_;rintro e w2 ⟨rfl,Q⟩;subst Q
 go_wp2_with fail
 refine (U.out _ J.out).mono ?_;rintro e w3 (⟨z,rfl,C⟩|⟨z,⟨I,rfl,C⟩|⟨I,rfl,C⟩⟩)
 ·have G:=ai C;have H:=ai z;clear C z
  go_wp2_with fail
  go_ret
  exact .inl ⟨H.out,rfl,G.out⟩
 ·have G:=ai C;have H:=ai z;have O:=ai I;clear C z I
  go_wp2_with fail
  go_ret
  exact .inr ⟨H.out,.inl ⟨O.out,rfl,G.out⟩⟩
 ·have G:=ai C;have H:=ai z;have O:=ai I;clear C z I
  go_wp2_with fail
  exact ⟨rfl,.inr ⟨H.out,.inr ⟨O.out,rfl,G.out⟩⟩⟩
theorem kQ {X:Sx}{r:Nat}{d:D}{W:World}(h:SD X r d W) (hr:r<=100) {ao:Option Addr}{ts:List ByteArray}{cap:Nat}(Y:Ls W ao ts) (hn:ts.length<=1000) (hz:kS ts ⟨#[]⟩=false) :
  Ta 193 #[pg X.g,.slice ao ts.length cap] W fun e w'=>Mb X r (.wd 6 ts) d e w':=by
 have Z:Hid (Ta 220 #[pg X.g] W fun e w'=>e=.returned (.string (kt 6 (nx X (ps X.l d.i))))/\Tb W w'):=lO h.sv (fN _ _)
 have S:Hid (∀V,Tb W V->Ta 218 #[.slice ao ts.length cap,.string (kt 6 (nx X (ps X.l d.i)))] V fun r w'=>r=.returned (.bool (qn (aG X.l) d (fun t=>Fl.takes t (.wd 6 ts))))/\w'=V):=fun V F=>by
  rw [h.hqn (by simp [Fl.takes,aB]),<-F3 hz];exact jU ao ts cap _ V (Y.below F) hn
 have U:Hid (∀V,Tb W V->Ta 217 #[pg X.g,.bool (qn (aG X.l) d (fun t=>Fl.takes t (.wd 6 ts)))] V fun e w'=>Mb X r (.wd 6 ts) d e w'):=fun V F=>lI (h.below F) hr rfl
 clear h Y
 generalize (kt 6 (nx X (ps X.l d.i)))=s at *
 obtain ⟨b,F⟩:∃b,qn (aG X.l) d (fun t=>Fl.takes t (.wd 6 ts))=b:=⟨_,rfl⟩;rw [F] at S U;have HQ:=ai F;clear F
 go_enter Tryz.func193,Tryz.ntmps193
 go_wp2_with fail
 refine Z.out.mono ?_;rintro e w1 ⟨rfl,M⟩;have J:=ai M;clear M
 go_wp2_with fail
 refine (S.out _ J.out).mono ?_;rintro e w2 ⟨rfl,Q⟩;subst Q
 go_wp2_with fail
 refine (U.out _ J.out).mono ?_;rintro e w3 (⟨z,rfl,C⟩|⟨z,⟨I,rfl,C⟩|⟨I,rfl,C⟩⟩)
 ·have G:=ai C;have H:=ai z;clear C z
  go_wp2_with fail
  go_ret
  exact .inl ⟨H.out,rfl,G.out⟩
 ·have G:=ai C;have H:=ai z;have O:=ai I;clear C z I
  go_wp2_with fail
  go_ret
  exact .inr ⟨H.out,.inl ⟨O.out,rfl,G.out⟩⟩
 ·have G:=ai C;have H:=ai z;have O:=ai I;clear C z I
  go_wp2_with fail
  exact ⟨rfl,.inr ⟨H.out,.inr ⟨O.out,rfl,G.out⟩⟩⟩
theorem Ou (k:Int) (t:ByteArray) (a l c f:Int) (w:World):(Instr.field 49 (.agg #[.int .u8 k,.string t,.int .i64 a,.int .i64 l,.int .i64 c,.int .i64 f]) 0).run Tryz.prog w=.ok (.int .u8 k) w:=by kernel_rfl
theorem tH {d:D}(h:SD X r d W) (Y:r<=100) :
  Ta 192 #[pg X.g] W fun e w'=>Mb X r .nm d e w':=by
 have S:Hid (Ta 190 #[pg X.g] W fun e w'=>e=.returned (nx X (ps X.l d.i)).v/\Tb W w'):=eS h.sv (fN _ _);have U:qn (aG X.l) d (fun t=>Fl.takes t .nm)=((nx X (ps X.l d.i)).k == 1):=h.hqn (by simp [Fl.takes,aB]);have O:Hid (∀V,Tb W V->Ta 217 #[pg X.g,.bool (qn (aG X.l) d (fun t=>Fl.takes t .nm))] V fun e w'=>Mb X r .nm d e w'):=fun V Q=>lI (h.below Q) Y rfl
 rw [U] at O;clear h U
 generalize nx X (ps X.l d.i)=t at *
 have aa:∀w:World,(Instr.field 49 (.agg #[.int .u8 t.k,.string t.t,.int .i64 t.a,.int .i64 t.l,.int .i64 t.c,.int .i64 t.f]) 0).run Tryz.prog w=.ok (.int .u8 t.k) w:=fun w=>Ou _ _ _ _ _ _ w
 dsimp only [Tv.v] at S
 cases Q:(t.k == 1) with
 |true=>
  rw [Q] at O
  go_enter Tryz.func192,Tryz.ntmps192
  go_wp2_with fail
  refine S.out.mono ?_;rintro e Z ⟨rfl,I⟩;have M:=ai I;clear I
  go_wp2_with fail
  refine (O.out _ M.out).mono ?_;rintro e w3 (⟨z,rfl,C⟩|⟨z,⟨H,rfl,C⟩|⟨H,rfl,C⟩⟩)
  ·have F:=ai C;have G:=ai z;clear C z
   go_wp2_with fail
   go_ret
   exact .inl ⟨G.out,rfl,F.out⟩
  ·have F:=ai C;have G:=ai z;have J:=ai H;clear C z H
   go_wp2_with fail
   go_ret
   exact .inr ⟨G.out,.inl ⟨J.out,rfl,F.out⟩⟩
  ·have F:=ai C;have G:=ai z;have J:=ai H;clear C z H
   go_wp2_with fail
   exact ⟨rfl,.inr ⟨G.out,.inr ⟨J.out,rfl,F.out⟩⟩⟩
 |false=>
  rw [Q] at O
  go_enter Tryz.func192,Tryz.ntmps192
  go_wp2_with fail
  refine S.out.mono ?_;rintro e Z ⟨rfl,I⟩;have M:=ai I;clear I
  go_wp2_with fail
  refine (O.out _ M.out).mono ?_;rintro e w3 (⟨z,rfl,C⟩|⟨z,⟨H,rfl,C⟩|⟨H,rfl,C⟩⟩)
  ·have F:=ai C;have G:=ai z;clear C z
   go_wp2_with fail
   go_ret
   exact .inl ⟨G.out,rfl,F.out⟩
  ·have F:=ai C;have G:=ai z;have J:=ai H;clear C z H
   go_wp2_with fail
   go_ret
   exact .inr ⟨G.out,.inl ⟨J.out,rfl,F.out⟩⟩
  ·have F:=ai C;have G:=ai z;have J:=ai H;clear C z H
   go_wp2_with fail
   exact ⟨rfl,.inr ⟨G.out,.inr ⟨J.out,rfl,F.out⟩⟩⟩
theorem FX (W:World) (s:ByteArray):Ls (W.alloc (.cells #[.string s] 9)) (some ⟨W.heap.size,0,none⟩) [s]:=by
 intro j x C
 have F:j=0:=by
  cases j with
  |zero=>rfl
  |succ j=>simp at C
 subst F;simp at C;subst C;exact ⟨_,_,rfl,af (aq W _) rfl⟩
theorem xV {L:List Tv}{d:D}(h:qn L d (fun t=>x.takes t)=false):jn L x d=fj L false d:=by unfold jn;rw [h]
theorem Oe {d:D}(h:SD X r d W) (Y:r<=100) {s:ByteArray}(Z:kS [s] ⟨#[]⟩=false) :
  Ta 155 #[pg X.g,.string s] W fun e w'=>lA X (.tuple #[]) (jn (aG X.l) (.wd 2 [s]) d) e w':=by
 have M:Hid (Ta 191 #[pg X.g,.slice (some ⟨W.heap.size,0,none⟩) 1 1] (W.alloc (.cells #[.string s] 9)) fun e w'=>Mb X r (.wd 2 [s]) d e w'):=mR (ts:=[s]) (h.below ((hH _ _).alloc (gt _) _)) Y (FX W s) (by simp) Z;clear h
 go_enter Tryz.func155,Tryz.ntmps155
 go_wp2_with fail
 refine M.out.mono ?_;rintro e w1 (⟨z,rfl,C⟩|⟨z,⟨F,rfl,C⟩|⟨F,rfl,C⟩⟩)
 ·have S:Hid (Ta 159 #[pg X.g] w1 fun e w'=>lA X (.tuple #[]) (jn (aG X.l) (.wd 2 [s]) d) e w'/\(jn (aG X.l) (.wd 2 [s]) d).e≠0/\e=.panicked (stop (jn (aG X.l) (.wd 2 [s]) d).e (ps X.l (jn (aG X.l) (.wd 2 [s]) d).i))/\Below X.w0.heap.size X.w0 w'):=by rw [xV z];exact jt C _
  clear z C M
  go_wp2_with fail
  refine S.out.mono ?_;rintro e w2 ⟨U,H,rfl,G⟩;have Q:=ai H;have O:=ai G;clear U H G
  go_wp2_with fail
  exact ⟨rfl,.inr ⟨Q.out,rfl,O.out⟩⟩
 ·have I:=ai C;have J:=ai F;clear C z F
  go_wp2_with fail
  go_end0
  exact .inl ⟨J.out,rfl,I.out⟩
 ·have I:=ai C;have J:=ai F;clear C z F
  go_wp2_with fail
  exact ⟨rfl,.inr ⟨J.out,rfl,I.out⟩⟩
theorem JD {d:D}(h:SD X r d W) (Y:r<=100) {s:ByteArray}(Z:kS [s] ⟨#[]⟩=false) :
  Ta 157 #[pg X.g,.string s] W fun e w'=>lA X (.tuple #[]) (jn (aG X.l) (.wd 6 [s]) d) e w':=by
 have M:Hid (Ta 193 #[pg X.g,.slice (some ⟨W.heap.size,0,none⟩) 1 1] (W.alloc (.cells #[.string s] 9)) fun e w'=>Mb X r (.wd 6 [s]) d e w'):=kQ (ts:=[s]) (h.below ((hH _ _).alloc (gt _) _)) Y (FX W s) (by simp) Z;clear h
 go_enter Tryz.func157,Tryz.ntmps157
 go_wp2_with fail
 refine M.out.mono ?_;rintro e w1 (⟨z,rfl,C⟩|⟨z,⟨F,rfl,C⟩|⟨F,rfl,C⟩⟩)
 ·have S:Hid (Ta 159 #[pg X.g] w1 fun e w'=>lA X (.tuple #[]) (jn (aG X.l) (.wd 6 [s]) d) e w'/\(jn (aG X.l) (.wd 6 [s]) d).e≠0/\e=.panicked (stop (jn (aG X.l) (.wd 6 [s]) d).e (ps X.l (jn (aG X.l) (.wd 6 [s]) d).i))/\Below X.w0.heap.size X.w0 w'):=by rw [xV z];exact jt C _
  clear z C M
  go_wp2_with fail
  refine S.out.mono ?_;rintro e w2 ⟨U,H,rfl,G⟩;have Q:=ai H;have O:=ai G;clear U H G
  go_wp2_with fail
  exact ⟨rfl,.inr ⟨Q.out,rfl,O.out⟩⟩
 ·have I:=ai C;have J:=ai F;clear C z F
  go_wp2_with fail
  go_end0
  exact .inl ⟨J.out,rfl,I.out⟩
 ·have I:=ai C;have J:=ai F;clear C z F
  go_wp2_with fail
  exact ⟨rfl,.inr ⟨J.out,rfl,I.out⟩⟩
theorem Ky {d:D}(h:SD X r d W) (Y:r<=100) :
  Ta 156 #[pg X.g] W fun e w'=>lA X (.tuple #[]) (jn (aG X.l) (.nm) d) e w':=by
 have M:Hid (Ta 192 #[pg X.g] W fun e w'=>Mb X r (.nm) d e w'):=tH h Y;clear h
 go_enter Tryz.func156,Tryz.ntmps156
 go_wp2_with fail
 refine M.out.mono ?_;rintro e Z (⟨z,rfl,C⟩|⟨z,⟨F,rfl,C⟩|⟨F,rfl,C⟩⟩)
 ·have S:Hid (Ta 159 #[pg X.g] Z fun e w'=>lA X (.tuple #[]) (jn (aG X.l) (.nm) d) e w'/\(jn (aG X.l) (.nm) d).e≠0/\e=.panicked (stop (jn (aG X.l) (.nm) d).e (ps X.l (jn (aG X.l) (.nm) d).i))/\Below X.w0.heap.size X.w0 w'):=by rw [xV z];exact jt C _
  clear z C M
  go_wp2_with fail
  refine S.out.mono ?_;rintro e w2 ⟨U,H,rfl,G⟩;have Q:=ai H;have O:=ai G;clear U H G
  go_wp2_with fail
  exact ⟨rfl,.inr ⟨Q.out,rfl,O.out⟩⟩
 ·have I:=ai C;have J:=ai F;clear C z F
  go_wp2_with fail
  go_end0
  exact .inl ⟨J.out,rfl,I.out⟩
 ·have I:=ai C;have J:=ai F;clear C z F
  go_wp2_with fail
  exact ⟨rfl,.inr ⟨J.out,rfl,I.out⟩⟩
abbrev dv (f:Nat):Prop:=∀(args:Array Value) (w:World),(callFunc f args).run Tryz.prog w=.ok (.enter f args) w
abbrev fv (f g:Nat):Value:=.func (.func f) #[pg g] #[]
theorem wb {i:Nat}{E:List Ev}(h:ej X i n E W) (hl:E.length<=1000000000) (hn:n<=1000000000) (nd:Int) {f:Nat}(hf:dv f) {Q:Ending->World->Prop}
  (I:∀W1,ej X i (n+1) (E++[⟨1,nd,aB⟩]) W1->Ta f #[pg X.g] W1 fun e w'=>(e=.returned (.tuple #[])/\∃G C F,ej X G (C+1) F w'/\F.length<=1000000000/\C<=1000000000/\∀H,ej X G C (F++[⟨3,nd,aB⟩]) H->Q (.returned (.tuple #[])) H)\/(∃c,e=.panicked c/\Q (.panicked c) w')) :
  Ta 115 #[pg X.g,.int .u8 nd,fv f X.g] W Q:=by
 obtain ⟨z0,z1,z2,z3⟩:=h.deep (n+1);obtain ⟨W1,e1⟩:∃W1,W.setCell ⟨X.g,2,none⟩ (.int .i64 ((n:Int)+1))=W1:=⟨_,rfl⟩
 have Y:Hid (Ta 153 #[pg X.g,(⟨1,nd,aB⟩:Ev).v] W1 fun r w'=>r=.returned (.tuple #[])/\ej X i (n+1) (E++[⟨1,nd,aB⟩]) w'/\MW X W1 w'):=by
  rw [show ((n+1:Nat):Int)=(n:Int)+1 by omega,e1] at z3;exact jo z3 _ hl
 have HR:Hid (∀W1,ej X i (n+1) (E++[⟨1,nd,aB⟩]) W1->Ta f #[pg X.g] W1 fun e w'=>(e=.returned (.tuple #[])/\∃G C F,ej X G (C+1) F w'/\F.length<=1000000000/\C<=1000000000/\∀H,ej X G C (F++[⟨3,nd,aB⟩]) H->Q (.returned (.tuple #[])) H)\/(∃c,e=.panicked c/\Q (.panicked c) w')):=I;have HS:Hid (∀G C F H,ej X G (C+1) F H->F.length<=1000000000->Ta 153 #[pg X.g,(⟨3,nd,aB⟩:Ev).v] H fun r w'=>r=.returned (.tuple #[])/\ej X G (C+1) (F++[⟨3,nd,aB⟩]) w'/\MW X H w'):=fun G C F H O aa=>jo O _ aa
 have HD:Hid (∀G C F J,ej X G (C+1) F J->J.cell? ⟨X.g,2,none⟩=some (.int .i64 ((C:Int)+1))/\J.frozen? ⟨X.g,2,none⟩=false/\X.g<J.heap.size/\∃Z,J.setCell ⟨X.g,2,none⟩ (.int .i64 (C:Int))=Z/\Hid (ej X G C F Z)):=fun G C F J S=>by
  obtain ⟨a,b,c,d⟩:=S.deep C;exact ⟨by rw [a];simp,b,c,_,rfl,d⟩
 clear h I z3
 dsimp only [Ev.v,aB] at Y HS
 go_enter Tryz.func115,Tryz.ntmps115
 go_wp2_with fail
 refine Y.out.mono ?_;rintro r H ⟨rfl,O,_⟩;have H2:=ai O;clear O z0 z1 z2 e1 Y
 go_wp2_with fail
 refine (HR.out _ H2.out).mono ?_;rintro e J (⟨rfl,G,C,F,S,ab,ac,M⟩|⟨c,rfl,M⟩)
 ·have H3:=ai S;have U:=ai M;clear S M
  go_wp2_with fail
  refine (HS.out _ _ _ _ H3.out ab).mono ?_;rintro r Z ⟨rfl,h4,_⟩;obtain ⟨y0,y1,y2,w5,e5,h5⟩:=HD.out _ _ _ _ h4;clear h4
  go_wp2_with fail
  go_end0
  exact U.out _ h5.out
 ·have U:=ai M;clear M
  go_wp2_with fail
  exact ⟨rfl,U.out⟩
section
variable {L:List Tv} {d:D}
theorem jg (C:d.e≠0):cZ L d=none:=by unfold cZ;rw [Eq C]
theorem A9 (C:d.e≠0):fj L false d=d:=by simp [fj,C]
theorem um (C:d.e≠0) {x:Fl}(G:∀m,x≠.mt m):Ib L (.fl x) d d:=by
 have h:=iW (L:=L) (d:=d) G;have F:qn L d (fun t=>x.takes t)=false:=by unfold qn;rw [jg C];rfl
 rw [F,A9 C] at h;exact h
theorem A8 (C:d.e≠0) {k:Int}{ts:List ByteArray}:Ib L (.fl (.wd k ts)) d d:=um C aC
theorem Ba (C:d.e≠0):Ib L (.fl .nm) d d:=um C df
theorem ow (C:d.e≠0) {n:Int}:Ib L (.lv n) d d:=by
 have h:=MC (L:=L) (d:=d) (n:=n);rw [xu C] at h;exact h
theorem rV (C:d.e≠0) {p:Pk}:bw (cZ L d) p=none:=by rw [jg C];rfl
theorem rW (C:d.e≠0) {p:Pk}:Ib L (.once p) d d:=bi (rV C)
theorem aT (C:d.e≠0) {p:Pk}:Ib L (.again p) d d:=rL (rV C)
theorem dh {r s:List It}{C:D}(h:Rb L r d1 d2) (F:Rb L s d2 C):Rb L (r++s) d1 C:=fun K=>by
 rw [S5];exact (h (s++K)).trans (F K)
theorem bV (h:Ib L i d1 d2):Rb L [i] d1 d2:=aa h aF
theorem cF (C:d.e≠0) {m:M}{nd:Int}{r:List It}(h:cR none m=.op nd r) (F:Rb L r d d):Ib L (.fl (.mt m)) d d:=by
 refine aU (nd:=nd) (r:=r) (by rw [jg C];exact h) ?_;rw [vZ C];exact dh F (bV (ow C))
theorem Bc (C:d.e≠0) {m:M}{r:List It}(h:cR none m=.ex r) (F:Rb L r d d):Ib L (.fl (.mt m)) d d:=rK (r:=r) (by rw [jg C];exact h) F
theorem xg (C:d.e≠0) {m:M}(h:cR none m=.ref):Ib L (.fl (.mt m)) d d:=by
 have:=tM (L:=L) (d:=d) (m:=m) (by rw [jg C];exact h);rw [A9 C] at this;exact this
theorem Ly (C:d.e≠0) (m:M):Ib L (.fl (.mt m)) d d:=by
 have w:∀k ts,Ib L (.fl (.wd k ts)) d d:=fun k ts=>A8 C
 have n:Ib L (.fl .nm) d d:=Ba C;have a:∀p,Ib L (.again p) d d:=fun p=>aT C
 have o:∀p,Ib L (.once p) d d:=fun p=>rW C
 have factor:Ib L (.fl (.mt .factor)) d d:=xg C rfl;have statement:Ib L (.fl (.mt .statement)) d d:=xg C rfl;have kind:Ib L (.fl (.mt .kind)) d d:=cF C rfl (bV n);have term:Ib L (.fl (.mt .term)) d d:=cF C rfl (aa factor (bV (a _)));have sum:Ib L (.fl (.mt .sum)) d d:=cF C rfl (aa term (bV (a _)));have rel:Ib L (.fl (.mt .rel)) d d:=cF C rfl (aa sum (bV (o _)));have expr:Ib L (.fl (.mt .expr)) d d:=cF C rfl (aa rel (bV (a _)));have list:Ib L (.fl (.mt .list)) d d:=Bc C rfl (aa expr (bV (a _)));have typed:Ib L (.fl (.mt .typed)) d d:=Bc C rfl (aa n (aa (a _) (aa (w _ _) (bV kind))));have param:Ib L (.fl (.mt .param)) d d:=cF C rfl (bV typed);have body:Ib L (.fl (.mt .body)) d d:=cF C rfl (aa statement (bV (a _)));have block:Ib L (.fl (.mt .block)) d d:=cF C rfl (aa (a _) (aa (w _ _) (aa body (bV (w _ _)))));cases m with
 |block=>exact block
 |variables=>exact cF C rfl (aa (w _ _) (aa typed (bV (w _ _))))
 |constants=>exact cF C rfl (aa (w _ _) (aa n (aa (w _ _) (aa expr (bV (w _ _))))))
 |procedure=>exact cF C rfl (aa (w _ _) (aa n (aa (o _) (aa (o _) (aa (w _ _) (aa block (bV (w _ _))))))))
 |params=>exact cF C rfl (aa (w _ _) (aa param (aa (a _) (bV (w _ _)))))
 |param=>exact param
 |typed=>exact typed
 |kind=>exact kind
 |member=>exact cF C rfl (bV typed)
 |body=>exact body
 |statement=>exact statement
 |expr=>exact expr
 |rel=>exact rel
 |sum=>exact sum
 |term=>exact term
 |factor=>exact factor
 |object=>exact cF C rfl (aa n (bV (a _)))
 |index=>exact cF C rfl (aa (w _ _) (aa list (bV (w _ _))))
 |selection=>exact cF C rfl (aa (w _ _) (bV n))
 |args=>exact cF C rfl (aa (w _ _) (aa (o _) (bV (w _ _))))
 |list=>exact list
theorem Bb (C:d.e≠0) (x:Fl):Ib L (.fl x) d d:=by
 cases x with
 |mt m=>exact Ly C m
 |wd k ts=>exact A8 C
 |nm=>exact Ba C
 |cs=>exact um C FO
theorem GW (C:d.e≠0) (i:It):Ib L i d d:=by
 cases i with
 |fl x=>exact Bb C x
 |lv n=>exact ow C
 |once p=>exact rW C
 |again p=>exact aT C
 |all r=>
  refine aO ?_
  induction r with
  |nil=>exact aF
  |cons x r ih=>exact aa (Bb C x) ih
theorem ah (C:d.e≠0):∀(r:List It),Rb L r d d
 |[]=>aF
 |i :: r=>aa (GW C i) (ah C r)
theorem Oi {d:D}(h:Ib L i d d1) (C:Ib L i d d2):d1=d2:=by
 have:=(h []).det (C []);cases this;rfl
theorem az (H:∀m,x≠.mt m) {d':D}(h:Ib L (.fl x) d d') (G:d.e=0) (I:d'.e=0):ms L d' < ms L d:=by
 have C:=Oi h (iW H);have F:=FU (L:=L) (d:=d) (f:=fun t=>x.takes t) rfl;rw [C];refine F.2 ?_;unfold ms;rw [IO G];omega
theorem Ah {r:List It}{d':D}(H:bM r=[]) (h:Rb L r d d') (G:d'.e=0):d.e=0/\d'.p=d.p:=by
 obtain ⟨C,F⟩:=pj (h []) G;obtain ⟨q,e1,e2⟩:=F d.p [] (by simp) (by rw [TG,H];rfl);have:q=[]:=by simpa [bM] using e2
 exact ⟨C,by rw [e1,this];simp⟩
end
theorem bW {d:D}(h:SD X r d W) (F:r<=100) {s:ByteArray}(G:kS [s] ⟨#[]⟩=false) :
  Ta 155 #[pg X.g,.string s] W fun e w'=>∃d',Ib (aG X.l) (.fl (.wd 2 [s])) d d'/\lA X (.tuple #[]) d' e w':=
 (Oe h F G).mono (fun e w' C=>⟨_,Qm,C⟩)
theorem bu {d:D}(h:SD X r d W) (F:r<=100) {s:ByteArray}(G:kS [s] ⟨#[]⟩=false) :
  Ta 157 #[pg X.g,.string s] W fun e w'=>∃d',Ib (aG X.l) (.fl (.wd 6 [s])) d d'/\lA X (.tuple #[]) d' e w':=
 (JD h F G).mono (fun e w' C=>⟨_,Qm,C⟩)
theorem fU {d:D}(h:SD X r d W) (F:r<=100) :
  Ta 156 #[pg X.g] W fun e w'=>∃d',Ib (aG X.l) (.fl .nm) d d'/\lA X (.tuple #[]) d' e w':=
 (Ky h F).mono (fun e w' C=>⟨_,R9,C⟩)
def Mi (X:Sx) (r:Nat) (x:Fl) (d:D) (e:Ending) (w:World):Prop:=(qn (aG X.l) d (fun t=>x.takes t)=false/\e=.returned (.bool false)/\SD X r d w)\/(qn (aG X.l) d (fun t=>x.takes t)=true/\∃d',Ib (aG X.l) (.fl x) d d'/\lA X (.bool true) d' e w)
theorem Mb.mi (C:∀m,x≠.mt m) {d:D}{e:Ending}{w:World}(h:Mb X r x d e w):Mi X r x d e w:=h.imp id (fun h=>⟨h.1,_,iW C,h.2⟩)
theorem FY (W:World) (ts:List ByteArray):Ls (W.alloc (.cells (ts.map Value.string).toArray 9)) (some ⟨W.heap.size,0,none⟩) ts:=by
 intro j x C;refine ⟨_,_,rfl,af (aq W _) ?_⟩;simp [C]
theorem iN {d:D}(h:SD X r d W) (I:r<=100) (ts:List ByteArray) (H:ts.length<=1000) (J:kS ts ⟨#[]⟩=false) {n:Nat}(C:n=ts.length) {a:Array Value}(F:a=(ts.map Value.string).toArray) :
  Ta 191 #[pg X.g,.slice (some ⟨W.heap.size,0,none⟩) n n] (W.alloc (.cells a 9)) fun e w'=>Mi X r (.wd 2 ts) d e w':=by
 subst C F;exact (mR (h.below ((hH _ _).alloc (gt _) _)) I (FY W ts) H J).mono (fun e w' G=>G.mi aC)
theorem bN {d:D}(h:SD X r d W) (I:r<=100) (ts:List ByteArray) (H:ts.length<=1000) (J:kS ts ⟨#[]⟩=false) {n:Nat}(C:n=ts.length) {a:Array Value}(F:a=(ts.map Value.string).toArray) :
  Ta 193 #[pg X.g,.slice (some ⟨W.heap.size,0,none⟩) n n] (W.alloc (.cells a 9)) fun e w'=>Mi X r (.wd 6 ts) d e w':=by
 subst C F;exact (kQ (h.below ((hH _ _).alloc (gt _) _)) I (FY W ts) H J).mono (fun e w' G=>G.mi aC)
def bJ (f:Nat) (row:List It) (b n:Nat):Prop:=∀(X:Sx) (r:Nat) (d:D) (W:World),SD X r d W->r<=b->ms (aG X.l) d<=n ->
 Ta f #[pg X.g] W fun e w'=>∃d',Rb (aG X.l) row d d'/\lA X (.tuple #[]) d' e w'
theorem SD.op {d:D}(h:SD X r d W) (nd:Int) (C:ej X (ps X.l d.i) (d.p.length+1) (oq X d++[⟨1,nd,aB⟩]) W1):SD X (r+1) (eI nd d) W1:=by
 have e:eI nd d={ d with p:=d.p++[(nd,d.s+1)],s:=d.s+1,v:=d.v++[⟨1,nd,aB⟩] }:=by unfold eI;rw [IO h.e0]
 have ev:oq X (eI nd d)=oq X d++[⟨1,nd,aB⟩]:=by
  rw [e];unfold oq;simp only [kw h.v0,Tr,S5]
 have pl:(eI nd d).p.length=d.p.length+1:=by rw [e];simp
 refine ⟨?_,by rw [e];exact h.e0,by rw [e];exact h.il,by rw [e];exact h.nn,by rw [e];simp,?_,?_⟩
 ·rw [ev,pl];rw [e];exact C
 ·have:=h.sm;rw [e];show d.s+1<=100*d.i+(r+1);omega
 ·have:=h.el;rw [ev,pl];rw [e];simp only [Or,UX];omega
theorem SD.cl {d:D}(h:SD X r d W) (nd:Int) {n:Nat}(F:d.p.length=n+1) (C:ej X (ps X.l d.i) n (oq X d++[⟨3,nd,aB⟩]) W1):SD X r (nr nd d) W1:=by
 have e:nr nd d={ d with p:=d.p.dropLast,v:=d.v++[⟨3,nd,aB⟩] }:=by unfold nr;rw [IO h.e0]
 have ev:oq X (nr nd d)=oq X d++[⟨3,nd,aB⟩]:=by
  rw [e];unfold oq;simp only [kw h.v0,Tr,S5]
 have pl:(nr nd d).p.length=n:=by rw [e];simp [F]
 refine ⟨?_,by rw [e];exact h.e0,by rw [e];exact h.il,by rw [e];exact h.nn,by rw [e];simp,?_,?_⟩
 ·rw [ev,pl];rw [e];exact C
 ·rw [e];exact h.sm
 ·have:=h.el;rw [ev,pl];rw [e];simp only [Or,UX];omega
theorem AE {d:D}(h:SD X r d W) (nd:Int) {b:Nat}(hr:r+1<=b) (hb:b<=100) {f:Nat}{row:List It}(J:∀W1,SD X (r+1) (eI nd d) W1->Ta f #[pg X.g] W1 fun e w'=>∃d',Rb (aG X.l) row (eI nd d) d'/\lA X (.tuple #[]) d' e w') (U:dv f) (H:bM row=[]) :
  Ta 115 #[pg X.g,.int .u8 nd,fv f X.g] W fun e w'=>∃d',Rb (aG X.l) (row++[.lv nd]) (eI nd d) d'/\lA X (.tuple #[]) d' e w':=by
 have O:=h.len (by omega);have aa:=h.el;have ac:=h.sm;have ab:=h.il;have h4:=D9 X.l;have h5:=h.sv.hl;have h6:=fN X.l d.i;refine wb h.sv (by omega) (by omega) nd U ?_;intro W1 Q;have I:=h.op nd Q;refine (J W1 I).mono ?_;rintro e w' ⟨d1,G,Y⟩
 rcases Y with ⟨z,rfl,C⟩|⟨z,rfl,C⟩
 ·obtain ⟨_,Z⟩:=Ah H G z
  have F:d1.p.length=d.p.length+1:=by
   rw [Z];unfold eI;rw [IO h.e0];simp
  have M:=C.len (by omega);refine .inl ⟨rfl,_,d.p.length,_,by rw [<-F];exact C.sv,by omega,by omega,fun w2 S=>⟨nr nd d1,dh G (bV MC),.inl ⟨by rw [xt];exact z,rfl,C.cl nd F S⟩⟩⟩
 ·exact .inr ⟨_,rfl,d1,dh G (bV (ow z)),.inr ⟨z,rfl,C⟩⟩
theorem aQ {d:D}(h:SD X r d W) {b n:Nat}(I:r+1<=b) (M:b<=100) (Q:ms (aG X.l) d<=n) {f:Nat}{row:List It}(H:bJ f row b n) (O:dv f) (F:bM row=[]) {nd:Int}{i:It}(G:∀d',Rb (aG X.l) (row++[.lv nd]) (eI nd d) d'->Ib (aG X.l) i d d') :
  Ta 115 #[pg X.g,.int .u8 nd,fv f X.g] W fun e w'=>∃d',Ib (aG X.l) i d d'/\lA X (.tuple #[]) d' e w':=
 (AE h nd I M (fun W1 C=>H X (r+1) (eI nd d) W1 C I (by rw [wl];exact Q)) O F).mono (fun e w' ⟨d',C,J⟩=>⟨d',G d' C,J⟩)
def SQ (X:Sx) (f:Nat) (row:List It) (n:Nat) (d:D):Prop:=∀(r:Nat) (W:World),SD X r d W->r<=90->ms (aG X.l) d<=n ->
 Ta f #[pg X.g] W fun e w'=>∃d',Rb (aG X.l) row d d'/\lA X (.tuple #[]) d' e w'
def QL (X:Sx) (m:M) (n:Nat) (d:D) (u v:Value):Prop:=
 (∃nd f row,u=.int .u8 nd/\v=fv f X.g/\dv f/\bM row=[]/\SQ X f row n (eI nd d)/\∀d',Rb (aG X.l) (row++[.lv nd]) (eI nd d) d'->Ib (aG X.l) (.fl (.mt m)) d d') \/
 (u=.int .u8 0/\v=.nilFunc/\∃d',Ib (aG X.l) (.fl (.mt m)) d d'/\d'.e=(fj (aG X.l) false d).e/\d'.i=d.i)
theorem Gx (w:World):(binOp .eql 1 .nilFunc .nilFunc).run Tryz.prog w=.ok (.bool true) w:=by kernel_rfl
theorem K8 (f g:Nat) (w:World):(binOp .eql 1 (fv f g) .nilFunc).run Tryz.prog w=.ok (.bool false) w:=by kernel_rfl
theorem qa (w:World):(binOp .neq 1 .nilFunc .nilFunc).run Tryz.prog w=.ok (.bool false) w:=by kernel_rfl
theorem tZ (f g:Nat) (w:World):(binOp .neq 1 (fv f g) .nilFunc).run Tryz.prog w=.ok (.bool true) w:=by kernel_rfl
theorem dY {d:D}(h:SD X r d W) (Z:r+1<=90) {n:Nat}(hm:ms (aG X.l) d<=n) {m:M}{u v:Value}(hp:QL X m n d u v) :
  Ta 224 #[pg X.g,u,v] W fun e w'=>∃d',Ib (aG X.l) (.fl (.mt m)) d d'/\lA X (.tuple #[]) d' e w':=by
 rcases hp with ⟨nd,f,row,rfl,rfl,Y,S,I,H⟩|⟨rfl,rfl,d',C,G,U⟩
 ·have HN:Hid (Ta 115 #[pg X.g,.int .u8 nd,fv f X.g] W fun e w'=>∃d',Ib (aG X.l) (.fl (.mt m)) d d'/\lA X (.tuple #[]) d' e w'):=(AE h nd Z (by omega) (fun W1 C=>I (r+1) W1 C Z (by rw [wl];exact hm)) Y S).mono (fun e w' ⟨d',C,G⟩=>⟨d',H d' C,G⟩);have Q:=K8 f X.g;clear h I H Y
  go_enter Tryz.func224,Tryz.ntmps224
  go_wp2_with fail
  refine HN.out.mono ?_;rintro e O ⟨d1,J,⟨z,rfl,C⟩|⟨z,rfl,C⟩⟩
  ·have F:Hid (∃d',Ib (aG X.l) (.fl (.mt m)) d d'/\lA X (.tuple #[]) d' (.returned (.tuple #[])) O):=⟨d1,J,.inl ⟨z,rfl,C⟩⟩;clear J z C
   go_wp2_with fail
   go_end0
   exact F.out
  ·have F:Hid (∃d',Ib (aG X.l) (.fl (.mt m)) d d'/\lA X (.tuple #[]) d' (.panicked (stop d1.e (ps X.l d1.i))) O):=⟨d1,J,.inr ⟨z,rfl,C⟩⟩;clear J z C
   go_wp2_with fail
   exact ⟨rfl,F.out⟩
 ·have HR:Hid (Ta 159 #[pg X.g] W fun e w'=>∃c,e=.panicked c/\∃d',Ib (aG X.l) (.fl (.mt m)) d d'/\lA X (.tuple #[]) d' (.panicked c) w'):=(jt h (.tuple #[])).mono (fun e w' ⟨_,a,b,c⟩=>by
   have hi:(fj (aG X.l) false d).i=d.i:=by unfold fj;simp only [Tu,Ui];(repeat' split) <;> rfl
   refine ⟨_,b,d',C,.inr ⟨by rw [G];exact a,by rw [G,U,hi],c⟩⟩)
  have Q:=Gx;clear h C G U
  go_enter Tryz.func224,Tryz.ntmps224
  go_wp2_with fail
  refine HR.out.mono ?_;rintro e O ⟨c,rfl,hx⟩;have F:=ai hx;clear hx
  go_wp2_with fail
  exact ⟨rfl,F.out⟩
abbrev pQ:List It:=[.again (.fn .declaration),.fl (.wd 2 [⟨#[98,101,103,105,110]⟩]),.fl (.mt .body),.fl (.wd 2 [⟨#[101,110,100]⟩])]
abbrev fV:List It:=[.fl (.wd 2 [⟨#[118,97,114]⟩]),.fl (.mt .typed),.fl (.wd 6 [⟨#[59]⟩])]
abbrev gF:List It:=[.fl (.wd 2 [⟨#[99,111,110,115,116]⟩]),.fl .nm,.fl (.wd 6 [⟨#[61]⟩]),.fl (.mt .expr),.fl (.wd 6 [⟨#[59]⟩])]
abbrev fX:List It:=[.fl (.wd 2 [⟨#[112,114,111,99]⟩]),.fl .nm,.once (.fn .bracket),.once (.row [.wd 6 [⟨#[58]⟩],.mt .kind]),.fl (.wd 6 [⟨#[59]⟩]),.fl (.mt .block),.fl (.wd 6 [⟨#[59]⟩])]
abbrev me:List It:=[.fl (.wd 6 [⟨#[40]⟩]),.fl (.mt .param),.again (.row [.wd 6 [⟨#[59]⟩],.mt .param]),.fl (.wd 6 [⟨#[41]⟩])]
abbrev g9:List It:=[.fl .nm,.again (.row [.wd 6 [⟨#[44]⟩],.nm]),.fl (.wd 6 [⟨#[58]⟩]),.fl (.mt .kind)]
abbrev iY:List It:=[.fl (.wd 2 [⟨#[97,114,114,97,121]⟩]),.fl (.wd 6 [⟨#[91]⟩]),.fl (.mt .expr),.fl (.wd 6 [⟨#[46,46]⟩]),.fl (.mt .expr),.fl (.wd 6 [⟨#[93]⟩]),.fl (.wd 2 [⟨#[111,102]⟩]),.fl (.mt .kind)]
abbrev ia:List It:=[.fl (.wd 2 [⟨#[114,101,99,111,114,100]⟩]),.fl (.mt .member),.again (.row [.wd 6 [⟨#[59]⟩],.mt .member]),.fl (.wd 2 [⟨#[101,110,100]⟩])]
abbrev gI:List It:=[.fl (.mt .statement),.again (.row [.wd 6 [⟨#[59]⟩],.mt .statement])]
abbrev oc:List It:=[.fl (.wd 2 [⟨#[115,107,105,112]⟩])]
abbrev pR:List It:=[.fl (.mt .object),.once (.row [.wd 6 [⟨#[58,61]⟩],.mt .expr])]
abbrev mf:List It:=[.fl (.mt .expr),.fl (.wd 2 [⟨#[116,104,101,110]⟩]),.fl (.mt .body)]
abbrev oe:List It:=[.fl (.wd 2 [⟨#[100,111]⟩]),.fl (.mt .body),.fl (.wd 2 [⟨#[101,110,100]⟩])]
abbrev gH:List It:=[.fl (.wd 2 [⟨#[105,102]⟩]),.fl (.mt .expr),.fl (.wd 2 [⟨#[116,104,101,110]⟩]),.fl (.mt .body),.again (.row [.wd 2 [⟨#[101,108,105,102]⟩],.mt .expr,.wd 2 [⟨#[116,104,101,110]⟩],.mt .body]),.once (.row [.wd 2 [⟨#[101,108,115,101]⟩],.mt .body]),.fl (.wd 2 [⟨#[101,110,100]⟩])]
abbrev kT:List It:=[.fl (.wd 2 [⟨#[119,104,105,108,101]⟩]),.fl (.mt .expr),.fl (.wd 2 [⟨#[100,111]⟩]),.fl (.mt .body),.fl (.wd 2 [⟨#[101,110,100]⟩])]
abbrev kX:List It:=[.fl (.wd 2 [⟨#[102,111,114]⟩]),.fl .nm,.fl (.wd 6 [⟨#[58,61]⟩]),.fl (.mt .expr),.fl (.wd 2 [⟨#[116,111]⟩]),.fl (.mt .expr),.fl (.wd 2 [⟨#[100,111]⟩]),.fl (.mt .body),.fl (.wd 2 [⟨#[101,110,100]⟩])]
abbrev jB:List It:=[.fl (.wd 2 [⟨#[114,101,112,101,97,116]⟩]),.fl (.mt .body),.fl (.wd 2 [⟨#[117,110,116,105,108]⟩]),.fl (.mt .expr)]
abbrev jC:List It:=[.fl (.wd 2 [⟨#[114,101,116,117,114,110]⟩]),.once (.ex .expr)]
abbrev gG:List It:=[.fl (.wd 2 [⟨#[98,101,103,105,110]⟩]),.fl (.mt .body),.fl (.wd 2 [⟨#[101,110,100]⟩])]
abbrev dK:List It:=[.fl (.mt .rel),.again (.row [.wd 2 [⟨#[97,110,100]⟩,⟨#[111,114]⟩],.mt .rel])]
abbrev tR:List It:=[.fl (.mt .sum),.once (.row [.wd 6 [⟨#[61]⟩,⟨#[35]⟩,⟨#[60]⟩,⟨#[60,61]⟩,⟨#[62]⟩,⟨#[62,61]⟩],.mt .sum])]
abbrev tQ:List It:=[.fl (.mt .term),.again (.row [.wd 6 [⟨#[43]⟩,⟨#[45]⟩],.mt .term])]
abbrev oa:List It:=[.fl (.mt .factor),.again (.row [.wd 6 [⟨#[42]⟩,⟨#[47]⟩,⟨#[37]⟩],.mt .factor])]
abbrev kU:List It:=[.fl (.wd 6 [⟨#[45]⟩]),.fl (.mt .factor)]
abbrev tS:List It:=[.fl (.wd 2 [⟨#[110,111,116]⟩]),.fl (.mt .factor)]
abbrev kW:List It:=[.fl (.wd 6 [⟨#[40]⟩]),.fl (.mt .expr),.fl (.wd 6 [⟨#[41]⟩])]
abbrev ib:List It:=[.fl .nm,.again (.fn .detail)]
abbrev od:List It:=[.fl (.mt .expr),.again (.row [.wd 6 [⟨#[44]⟩],.mt .expr])]
abbrev kV:List It:=[.fl (.wd 6 [⟨#[91]⟩]),.fl (.mt .list),.fl (.wd 6 [⟨#[93]⟩])]
abbrev fW:List It:=[.fl (.wd 6 [⟨#[46]⟩]),.fl .nm]
abbrev og:List It:=[.fl (.wd 6 [⟨#[40]⟩]),.once (.ex .list),.fl (.wd 6 [⟨#[41]⟩])]
theorem ja:dv 158:=enters_of Tryz.func158 (by kernel_rfl) rfl
theorem ub:dv 221:=enters_of Tryz.func221 (by kernel_rfl) rfl
theorem wU:dv 222:=enters_of Tryz.func222 (by kernel_rfl) rfl
theorem ue:dv 223:=enters_of Tryz.func223 (by kernel_rfl) rfl
theorem Dn:dv 237:=enters_of Tryz.func237 (by kernel_rfl) rfl
theorem lh:dv 235:=enters_of Tryz.func235 (by kernel_rfl) rfl
theorem GH:dv 250:=enters_of Tryz.func250 (by kernel_rfl) rfl
theorem Dm:dv 251:=enters_of Tryz.func251 (by kernel_rfl) rfl
theorem jH:dv 195:=enters_of Tryz.func195 (by kernel_rfl) rfl
theorem Lj:dv 240:=enters_of Tryz.func240 (by kernel_rfl) rfl
theorem OC:dv 239:=enters_of Tryz.func239 (by kernel_rfl) rfl
theorem wW:dv 241:=enters_of Tryz.func241 (by kernel_rfl) rfl
theorem GA:dv 242:=enters_of Tryz.func242 (by kernel_rfl) rfl
theorem GG:dv 243:=enters_of Tryz.func243 (by kernel_rfl) rfl
theorem Dl:dv 244:=enters_of Tryz.func244 (by kernel_rfl) rfl
theorem Do:dv 245:=enters_of Tryz.func245 (by kernel_rfl) rfl
theorem wV:dv 246:=enters_of Tryz.func246 (by kernel_rfl) rfl
theorem dN:dv 236:=enters_of Tryz.func236 (by kernel_rfl) rfl
theorem GC:dv 249:=enters_of Tryz.func249 (by kernel_rfl) rfl
theorem GB:dv 256:=enters_of Tryz.func256 (by kernel_rfl) rfl
theorem A4:dv 259:=enters_of Tryz.func259 (by kernel_rfl) rfl
theorem GD:dv 264:=enters_of Tryz.func264 (by kernel_rfl) rfl
theorem OB:dv 263:=enters_of Tryz.func263 (by kernel_rfl) rfl
theorem GF:dv 265:=enters_of Tryz.func265 (by kernel_rfl) rfl
theorem rS:dv 252:=enters_of Tryz.func252 (by kernel_rfl) rfl
theorem GE:dv 260:=enters_of Tryz.func260 (by kernel_rfl) rfl
theorem uc:dv 261:=enters_of Tryz.func261 (by kernel_rfl) rfl
theorem Lo:dv 262:=enters_of Tryz.func262 (by kernel_rfl) rfl
theorem Ll:dv 156:=enters_of Tryz.func156 (by kernel_rfl) rfl
theorem Li:dv 232:=enters_of Tryz.func232 (by kernel_rfl) rfl
theorem kG {b:Nat}(h:bJ 235 g9 b n):bJ 235 [.fl (.mt .typed)] b n:=fun X r d W I H G=>(h X r d W I H G).mono (fun e w' ⟨d',C,F⟩=>⟨d',bV (rK rfl C),F⟩)
theorem JJ (n:Nat):bJ 156 [.fl .nm] 90 n:=fun X r d W G I H=>(fU G (by omega)).mono (fun e w' ⟨d',C,F⟩=>⟨d',bV C,F⟩)
def mW (X:Sx) (W:World):Nat:=(aG (X.l.drop (Q0 X.g W))).length
theorem oM:∀(l:List Tv) (i:Nat),aG (l.drop (ps l i))=(aG l).drop i
 |[],i=>by simp [aG,ps]
 |t :: r,i=>by
  cases h:iB t with
  |true=>rw [su h,yu h,Uw];exact oM r i
  |false=>
   cases i with
   |zero=>rw [rA h];rfl
   |succ i=>rw [ss h,yt h,Uw,Uw];exact oM r i
theorem My {d:D}(h:SD X r d W):mW X W=(aG X.l).length-d.i:=by
 obtain ⟨ve,C,_,_⟩:=h.sv.ex;unfold mW;rw [qB C.cells.2.1];simp [oM]
theorem iM {r':Nat}{d:D}{W':World}(h:SD X r d W) (C:SD X r' d' W') (F:ms (aG X.l) d' < ms (aG X.l) d):mW X W' < mW X W:=by
 rw [My h,My C];unfold ms at F;rw [IO h.e0,IO C.e0] at F;have:=C.il;omega
def PC (m:M) (f n:Nat):Prop:=∀(X:Sx) (r:Nat) (d:D) (W:World),SD X r d W ->
 Ta f #[pg X.g] W fun e w'=>∃u v,e=.returned (.tuple #[u,v])/\QL X m n d u v/\Below W.heap.size W w'
def IC (X:Sx) (k:Dk) (n:Nat) (d:D) (u v:Value):Prop:=
 (∃nd f row i,u=.int .u8 nd/\v=fv f X.g/\dv f/\bM row=[]/\bJ f row 90 n/\bw (cZ (aG X.l) d) (.fn k)=some i/\∀d',Rb (aG X.l) (row++[.lv nd]) (eI nd d) d'->Ib (aG X.l) i d d') \/
 (u=.int .u8 0/\v=.nilFunc/\bw (cZ (aG X.l) d) (.fn k)=none)
def PD (k:Dk) (f n:Nat):Prop:=∀(X:Sx) (r:Nat) (d:D) (W:World),SD X r d W ->
 Ta f #[pg X.g] W fun e w'=>∃u v,e=.returned (.tuple #[u,v])/\IC X k n d u v/\Below W.heap.size W w'
theorem jb (o:Option Tv) (k:Dk):bw o (.fn k)=if (o.getD aB).k == k.kd then (k.pick (o.getD aB)).map (fun m=>.fl (.mt m)) else none:=by
 cases o with
 |none=>cases k <;> rfl
 |some t=>rfl
theorem GU (o:Option Tv) (m:M):bw o (.ex m)=if cL (o.getD aB) == 0 then none else some (.fl (.mt m)):=by
 cases o with
 |none=>rfl
 |some t=>rfl
theorem wY (o:Option Tv):cR o .factor=M.row (o.getD aB) .factor:=by
 cases o with
 |none=>rfl
 |some t=>rfl
theorem fy (k:Int) (t:Tv) {l:List UInt8}(C:l≠[]):((kt k t).toList == l)=(t.k == k && t.is l):=by
 unfold kt Tv.is;cases h:(t.k == k) with
 |true=>simp
 |false=>
  have e:(ByteArray.mk #[]).toList=[]:=by decide +kernel
  simp only [Tu,Ui,e,Vr];cases l with
  |nil=>exact absurd rfl C
  |cons a l=>rfl
theorem OR {d:D}(h:SD X r d W) {a:ByteArray}(F:kt 6 (nx X (ps X.l d.i))=a) (C:(a.toList == [40])=true):bw (cZ (aG X.l) d) (.fn .bracket)=some (.fl (.mt .params)):=by
 rw [<-F,fy 6 _ (by simp),Tc] at C;rw [jb,<-h.hnx];simp [Dk.kd,Dk.pick,C.2,show ((nx X (ps X.l d.i)).k == 6)=true from C.1]
theorem Qu {d:D}(h:SD X r d W) {a:ByteArray}(G:kt 6 (nx X (ps X.l d.i))=a) (C:(a.toList == [40])=false):bw (cZ (aG X.l) d) (.fn .bracket)=none:=by
 rw [<-G,fy 6 _ (by simp)] at C;rw [jb,<-h.hnx];cases F:((nx X (ps X.l d.i)).k == 6) with
 |false=>simp [Dk.kd,F]
 |true=>
  rw [F,T6] at C;simp [Dk.kd,Dk.pick,C]
theorem ER {L:List Tv}{m:M}{nd:Int}{rest:List It}{d:D}(hd:cR (cZ L d) m=.op nd (.fl x :: rest)) (J:∀m,x≠.mt m) (h:Ib L (.fl (.mt m)) d d') (I:d.e=0) (O:d'.e=0):ms L d' < ms L d:=by
 have C:=h []
 have F:mz L [.fl (.mt m)] d (.fl x :: (rest++[.lv nd])) (eI nd d):=by
  refine .step ?_;have e:dst L (.fl (.mt m)) d=((.fl x :: rest)++[.lv nd],eI nd d):=by simp only [dst,hd]
  rw [e];simp only [Tr,TG];exact .refl
 have G:mz L [.fl (.mt m)] d (rest++[.lv nd]) (jn L x (eI nd d)):=F.trans (iW J _);have Q:=lT (G.det C)
 have H:=(N9 (L:=L) (x:=x) (d:=eI nd d)).2 (by
  rw [wl];unfold ms;rw [IO I];omega)
 rw [wl] at H;omega
theorem At {L:List Tv}{k:Dk}{d:D}(C:bw (cZ L d) (.fn k)=some i) (h:Ib L i d d') (G:d.e=0) (F:d'.e=0):ms L d' < ms L d:=by
 rw [jb] at C
 split at C
 ·simp only [Ts] at C;obtain ⟨m,H,rfl⟩:=C
  rcases ov H with rfl|rfl|rfl|rfl|rfl|rfl|rfl <;> exact ER rfl aC h G F
 ·cases C
def mn (g:Nat) (t:Tv):Value:=if cL t == 25 then fv 264 g else if cL t == 26 then fv 263 g else if cL t == 27 then fv 265 g else if cL t == 32 then fv 232 g else if cL t == 28 then fv 252 g else .nilFunc
theorem qi {d:D}(h:SD X r d W) :
  Ta 258 #[pg X.g] W fun e w'=>e=.returned (.tuple #[.int .u8 (cL (nx X (ps X.l d.i))),mn X.g (nx X (ps X.l d.i))])/\Below W.heap.size W w':=by
 have H:Hid (Ta 190 #[pg X.g] W fun e w'=>e=.returned (nx X (ps X.l d.i)).v/\Tb W w'):=eS h.sv (fN _ _);clear h
 generalize nx X (ps X.l d.i)=t at *
 have J:=mkfn;obtain ⟨S,I⟩:∃S,(.tuple #[.int .u8 (cL t),mn X.g t]:Value)=S:=⟨_,rfl⟩;have O:=ai I;rw [I];clear I;have M:Hid (∀G,Tb W G->Tb W (G.alloc (jP t))):=fun G Q=>Q.alloc Q.size _
 dsimp only [Tv.v] at H
 go_enter Tryz.func258,Tryz.ntmps258
 go_wp2_with (go_at_call 190;refine H.out.mono ?_;rintro e G ⟨rfl,F⟩;have C:=show Hid _ from M.out _ F;clear F)
 all_goals (
  go_ret2
  refine ⟨?_,C.out⟩;rw [<-O.out];clear O H M C J
  simp_all [cL,mn,Tv.is])
end Go.Proofs.YtcjiapphbpiffaaGreatDoor
