import Derived.Shelf.Abstract
import Derived.Test.YthfjlkfeeglfmaaGreatDoorM26
set_option linter.all false
set_option maxHeartbeats 2000000
namespace Go.Proofs.YthfjlkfeeglfmaaGreatDoor
open Go.Proofs.Tryz
open Go.RowKit
section
variable {d1 d2 d':D}{X:Sx}{r n:Nat}{W W1:World}{x:Fl}{i:It}
def Mb (X:Sx) (r:Nat) (x:Fl) (d:D) (e:Ending) (w:World):Prop:=(qn (aD X.l) d (λt=>x.takes t)=false/\Uk e (.bool false)/\SD X r d w)\/(qn (aD X.l) d (λt=>x.takes t)=true/\jA X (.bool true) (iW (aD X.l) x d) e w)
def lB {d:D}(h:SD X r d W) (O:r<=100) {x:Fl}{b:Bool}(G:qn (aD X.l) d (λt=>x.takes t)=b) :
  Sa 262 #[pg X.g,.bool b] W λe w'=>Mb X r x d e w':=by
 cases b with
 |false=>
  have H:Hid (Mb X r x d (.returned (.bool false)) W):=.inl ⟨G,rfl,h⟩;clear h G;go_enter func262,ntmps262;(go_wp2_with fail);go_ret;exact H.out
 |true=>
  have J:=aW (zF h O G);have H:Hid (∀e w',jA X (.bool true) (iW (aD X.l) x d) e w'->Mb X r x d e w'):=λe w' M=>.inr ⟨G,M⟩
  clear h G;generalize iW (aD X.l) x d=d' at *;go_enter func262,ntmps262;(go_wp2_with fail);refine J.out.mono ?_;rintro e Q (⟨z,rfl,u⟩|⟨z,rfl,u⟩)
  ·have I:=aW u;clear u;(go_wp2_with fail);go_ret;exact H.out _ _ (.inl ⟨z,rfl,I.out⟩)
  ·have I:=aW u;clear u;(go_wp2_with fail);exact⟨rfl,H.out _ _ (.inr ⟨z,rfl,I.out⟩)⟩
def Gk {k:Int}{ts:List ByteArray}{t:Tv}(u:ll ts ⟨#[]⟩=false):ll ts (kt k t)=Fl.takes t (.wd k ts):=by
 unfold kt;simp only[Fl.takes];cases h:(t.k==k)with
 |true=>simp
 |false=>simp[u]
def mF {X:Sx}{r:Nat}{d:D}{W:World}(h:SD X r d W) (hr:r<=100) {ao:Option Addr}{ts:List ByteArray}{cap:Nat}(hl:Ls W ao ts) (hn:ts.length<=1000) (hz:ll ts ⟨#[]⟩=false) :
  Sa 230 #[pg X.g,.slice ao ts.length cap] W λe w'=>Mb X r (.wd 2 ts) d e w':=by
 have Z:=aW (kl h.sv (fd _ _))
 have HC:Hid (∀V,Se W V->Sa 263 #[.slice ao ts.length cap,.string (kt 2 (nx X (ps X.l d.i)))] V λr w'=>Uk r (.bool (qn (aD X.l) d (λt=>Fl.takes t (.wd 2 ts))))/\w'=V):=λV G=>by
  rw[h.hqn (by simp[Fl.takes,av]),<-Gk hz];exact jJ ao ts cap _ V (hl.below G) hn
 have Y:Hid (∀V,Se W V->Sa 262 #[pg X.g,.bool (qn (aD X.l) d (λt=>Fl.takes t (.wd 2 ts)))] V λe w'=>Mb X r (.wd 2 ts) d e w'):=λV G=>lB (h.below G) hr rfl
 clear h hl;generalize(kt 2 (nx X (ps X.l d.i)))=s at *;obtain⟨b,G⟩:=ea (qn (aD X.l) d (λt=>Fl.takes t (.wd 2 ts)));rw[G]at HC Y;have HQ:=aW G;clear G;go_enter func230,ntmps230;(go_wp2_with fail);refine Z.out.mono ?_;rintro e w1⟨rfl,O⟩;have M:=aW O;clear O;(go_wp2_with fail);refine(HC.out _ M.out).mono ?_;rintro e w2⟨rfl,S⟩;subst S;(go_wp2_with fail);refine(Y.out _ M.out).mono ?_;rintro e w3 (⟨z,rfl,u⟩|⟨z,⟨J,rfl,u⟩|⟨J,rfl,u⟩⟩)
 ·have H:=aW u;have I:=aW z;clear u z;(go_wp2_with fail);go_ret;exact .inl ⟨I.out,rfl,H.out⟩
 ·have H:=aW u;have I:=aW z;have Q:=aW J;clear u z J;(go_wp2_with fail);go_ret;exact .inr ⟨I.out,.inl ⟨Q.out,rfl,H.out⟩⟩
 ·have H:=aW u;have I:=aW z;have Q:=aW J;clear u z J;(go_wp2_with fail);exact⟨rfl,.inr ⟨I.out,.inr ⟨Q.out,rfl,H.out⟩⟩⟩
def kB {X:Sx}{r:Nat}{d:D}{W:World}(h:SD X r d W) (hr:r<=100) {ao:Option Addr}{ts:List ByteArray}{cap:Nat}(hl:Ls W ao ts) (hn:ts.length<=1000) (hz:ll ts ⟨#[]⟩=false) :
  Sa 232 #[pg X.g,.slice ao ts.length cap] W λe w'=>Mb X r (.wd 6 ts) d e w':=by
 have Z:=aW (lG h.sv (fd _ _))
 have HC:Hid (∀V,Se W V->Sa 263 #[.slice ao ts.length cap,.string (kt 6 (nx X (ps X.l d.i)))] V λr w'=>Uk r (.bool (qn (aD X.l) d (λt=>Fl.takes t (.wd 6 ts))))/\w'=V):=λV G=>by
  rw[h.hqn (by simp[Fl.takes,av]),<-Gk hz];exact jJ ao ts cap _ V (hl.below G) hn
 have Y:Hid (∀V,Se W V->Sa 262 #[pg X.g,.bool (qn (aD X.l) d (λt=>Fl.takes t (.wd 6 ts)))] V λe w'=>Mb X r (.wd 6 ts) d e w'):=λV G=>lB (h.below G) hr rfl
 clear h hl;generalize(kt 6 (nx X (ps X.l d.i)))=s at *;obtain⟨b,G⟩:=ea (qn (aD X.l) d (λt=>Fl.takes t (.wd 6 ts)));rw[G]at HC Y;have HQ:=aW G;clear G;go_enter func232,ntmps232;(go_wp2_with fail);refine Z.out.mono ?_;rintro e w1⟨rfl,O⟩;have M:=aW O;clear O;(go_wp2_with fail);refine(HC.out _ M.out).mono ?_;rintro e w2⟨rfl,S⟩;subst S;(go_wp2_with fail);refine(Y.out _ M.out).mono ?_;rintro e w3 (⟨z,rfl,u⟩|⟨z,⟨J,rfl,u⟩|⟨J,rfl,u⟩⟩)
 ·have H:=aW u;have I:=aW z;clear u z;(go_wp2_with fail);go_ret;exact .inl ⟨I.out,rfl,H.out⟩
 ·have H:=aW u;have I:=aW z;have Q:=aW J;clear u z J;(go_wp2_with fail);go_ret;exact .inr ⟨I.out,.inl ⟨Q.out,rfl,H.out⟩⟩
 ·have H:=aW u;have I:=aW z;have Q:=aW J;clear u z J;(go_wp2_with fail);exact⟨rfl,.inr ⟨I.out,.inr ⟨Q.out,rfl,H.out⟩⟩⟩
def N4 (k:Int) (t:ByteArray) (a l c f:Int) (w:World):(Instr.field 49 (.agg #[.int .u8 k,.string t,Tu a,Tu l,Tu c,Tu f]) 0).run Tryz.prog w=.ok (.int .u8 k) w:=by kernel_rfl
def sV {d:D}(h:SD X r d W) (hr:r<=100) :
  Sa 231 #[pg X.g] W λe w'=>Mb X r .nm d e w':=by
 have Y:=aW (ec h.sv (fd _ _));have Z:qn (aD X.l) d (λt=>Fl.takes t .nm)=((nx X (ps X.l d.i)).k==1):=h.hqn (by simp[Fl.takes,av]);have Q:Hid (∀V,Se W V->Sa 262 #[pg X.g,.bool (qn (aD X.l) d (λt=>Fl.takes t .nm))] V λe w'=>Mb X r .nm d e w'):=λV S=>lB (h.below S) hr rfl
 rw[Z]at Q;clear h Z;generalize nx X (ps X.l d.i)=t at *;have aa:∀w:World,(Instr.field 49 (.agg #[.int .u8 t.k,.string t.t,Tu t.a,Tu t.l,Tu t.c,Tu t.f]) 0).run Tryz.prog w=.ok (.int .u8 t.k) w:=λw=>N4 _ _ _ _ _ _ w
 dsimp only[Tv.v]at Y
 cases S:(t.k==1)with
 |true=>
  rw[S]at Q;go_enter func231,ntmps231;(go_wp2_with fail);refine Y.out.mono ?_;rintro e w1⟨rfl,J⟩;have O:=aW J;clear J;(go_wp2_with fail);refine(Q.out _ O.out).mono ?_;rintro e w3 (⟨z,rfl,u⟩|⟨z,⟨I,rfl,u⟩|⟨I,rfl,u⟩⟩)
  ·have G:=aW u;have H:=aW z;clear u z;(go_wp2_with fail);go_ret;exact .inl ⟨H.out,rfl,G.out⟩
  ·have G:=aW u;have H:=aW z;have M:=aW I;clear u z I;(go_wp2_with fail);go_ret;exact .inr ⟨H.out,.inl ⟨M.out,rfl,G.out⟩⟩
  ·have G:=aW u;have H:=aW z;have M:=aW I;clear u z I;(go_wp2_with fail);exact⟨rfl,.inr ⟨H.out,.inr ⟨M.out,rfl,G.out⟩⟩⟩
 |false=>
  rw[S]at Q;go_enter func231,ntmps231;(go_wp2_with fail);refine Y.out.mono ?_;rintro e w1⟨rfl,J⟩;have O:=aW J;clear J;(go_wp2_with fail);refine(Q.out _ O.out).mono ?_;rintro e w3 (⟨z,rfl,u⟩|⟨z,⟨I,rfl,u⟩|⟨I,rfl,u⟩⟩)
  ·have G:=aW u;have H:=aW z;clear u z;(go_wp2_with fail);go_ret;exact .inl ⟨H.out,rfl,G.out⟩
  ·have G:=aW u;have H:=aW z;have M:=aW I;clear u z I;(go_wp2_with fail);go_ret;exact .inr ⟨H.out,.inl ⟨M.out,rfl,G.out⟩⟩
  ·have G:=aW u;have H:=aW z;have M:=aW I;clear u z I;(go_wp2_with fail);exact⟨rfl,.inr ⟨H.out,.inr ⟨M.out,rfl,G.out⟩⟩⟩
def F7 (W:World) (s:ByteArray):Ls (W.alloc (.cells #[.string s] 9)) (some ⟨W.heap.size,0,none⟩) [s]:=by
 intro j x u
 have G:j=0:=by
  cases j with
  |zero=>rfl
  |succ j=>simp at u
 subst G;simp at u;subst u;exact⟨_,_,rfl,aa (ak W _) rfl⟩
def xN {L:List Tv}{d:D}(h:qn L d (λt=>x.takes t)=false):iW L x d=eu L false d:=by unfold iW;rw[h]
def NP {d:D}(h:SD X r d W) (hr:r<=100) {s:ByteArray}(hz:ll [s] ⟨#[]⟩=false) :
  Sa 200 #[pg X.g,.string s] W λe w'=>jA X (.tuple #[]) (iW (aD X.l) (.wd 2 [s]) d) e w':=by
 have O:Hid (Sa 230 #[pg X.g,.slice (some ⟨W.heap.size,0,none⟩) 1 1] (W.alloc (.cells #[.string s] 9)) λe w'=>Mb X r (.wd 2 [s]) d e w'):=mF (ts:=[s]) (h.below ((gt _ _).alloc (ge _) _)) hr (F7 W s) (by simp) hz;clear h;go_enter func200,ntmps200;(go_wp2_with fail);refine O.out.mono ?_;rintro e w1 (⟨z,rfl,u⟩|⟨z,⟨G,rfl,u⟩|⟨G,rfl,u⟩⟩)
 ·have Y:Hid (Sa 204 #[pg X.g] w1 λe w'=>jA X (.tuple #[]) (iW (aD X.l) (.wd 2 [s]) d) e w'/\(iW (aD X.l) (.wd 2 [s]) d).e≠0/\e=.panicked (stop (iW (aD X.l) (.wd 2 [s]) d).e (ps X.l (iW (aD X.l) (.wd 2 [s]) d).i))/\Below X.w0.heap.size X.w0 w'):=by rw[xN z];exact jb u _
  clear z u O;(go_wp2_with fail);refine Y.out.mono ?_;rintro e w2⟨Z,I,rfl,H⟩;have S:=aW I;have Q:=aW H;clear Z I H;(go_wp2_with fail);exact⟨rfl,.inr ⟨S.out,rfl,Q.out⟩⟩
 ·have J:=aW u;have M:=aW G;clear u z G;(go_wp2_with fail);go_end0;exact .inl ⟨M.out,rfl,J.out⟩
 ·have J:=aW u;have M:=aW G;clear u z G;(go_wp2_with fail);exact⟨rfl,.inr ⟨M.out,rfl,J.out⟩⟩
def JM {d:D}(h:SD X r d W) (hr:r<=100) {s:ByteArray}(hz:ll [s] ⟨#[]⟩=false) :
  Sa 202 #[pg X.g,.string s] W λe w'=>jA X (.tuple #[]) (iW (aD X.l) (.wd 6 [s]) d) e w':=by
 have O:Hid (Sa 232 #[pg X.g,.slice (some ⟨W.heap.size,0,none⟩) 1 1] (W.alloc (.cells #[.string s] 9)) λe w'=>Mb X r (.wd 6 [s]) d e w'):=kB (ts:=[s]) (h.below ((gt _ _).alloc (ge _) _)) hr (F7 W s) (by simp) hz;clear h;go_enter func202,ntmps202;(go_wp2_with fail);refine O.out.mono ?_;rintro e w1 (⟨z,rfl,u⟩|⟨z,⟨G,rfl,u⟩|⟨G,rfl,u⟩⟩)
 ·have Y:Hid (Sa 204 #[pg X.g] w1 λe w'=>jA X (.tuple #[]) (iW (aD X.l) (.wd 6 [s]) d) e w'/\(iW (aD X.l) (.wd 6 [s]) d).e≠0/\e=.panicked (stop (iW (aD X.l) (.wd 6 [s]) d).e (ps X.l (iW (aD X.l) (.wd 6 [s]) d).i))/\Below X.w0.heap.size X.w0 w'):=by rw[xN z];exact jb u _
  clear z u O;(go_wp2_with fail);refine Y.out.mono ?_;rintro e w2⟨Z,I,rfl,H⟩;have S:=aW I;have Q:=aW H;clear Z I H;(go_wp2_with fail);exact⟨rfl,.inr ⟨S.out,rfl,Q.out⟩⟩
 ·have J:=aW u;have M:=aW G;clear u z G;(go_wp2_with fail);go_end0;exact .inl ⟨M.out,rfl,J.out⟩
 ·have J:=aW u;have M:=aW G;clear u z G;(go_wp2_with fail);exact⟨rfl,.inr ⟨M.out,rfl,J.out⟩⟩
def KC {d:D}(h:SD X r d W) (hr:r<=100) :
  Sa 201 #[pg X.g] W λe w'=>jA X (.tuple #[]) (iW (aD X.l) (.nm) d) e w':=by
 have O:=aW (sV h hr);clear h;go_enter func201,ntmps201;(go_wp2_with fail);refine O.out.mono ?_;rintro e w1 (⟨z,rfl,u⟩|⟨z,⟨G,rfl,u⟩|⟨G,rfl,u⟩⟩)
 ·have Y:Hid (Sa 204 #[pg X.g] w1 λe w'=>jA X (.tuple #[]) (iW (aD X.l) (.nm) d) e w'/\(iW (aD X.l) (.nm) d).e≠0/\e=.panicked (stop (iW (aD X.l) (.nm) d).e (ps X.l (iW (aD X.l) (.nm) d).i))/\Below X.w0.heap.size X.w0 w'):=by rw[xN z];exact jb u _
  clear z u O;(go_wp2_with fail);refine Y.out.mono ?_;rintro e w2⟨Z,I,rfl,H⟩;have S:=aW I;have Q:=aW H;clear Z I H;(go_wp2_with fail);exact⟨rfl,.inr ⟨S.out,rfl,Q.out⟩⟩
 ·have J:=aW u;have M:=aW G;clear u z G;(go_wp2_with fail);go_end0;exact .inl ⟨M.out,rfl,J.out⟩
 ·have J:=aW u;have M:=aW G;clear u z G;(go_wp2_with fail);exact⟨rfl,.inr ⟨M.out,rfl,J.out⟩⟩
abbrev cG (f:Nat):Prop:=∀(args:Array Value) (w:World),(callFunc f args).run Tryz.prog w=.ok (.enter f args) w
abbrev fv (f g:Nat):Value:=.func (.func f) #[pg g] #[]
def vU {i:Nat}{E:List Ev}(h:dj X i n E W) (hl:E.length<=1000000000) (hn:n<=1000000000) (nd:Int) {f:Nat}(hf:cG f) {Q:Ending->World->Prop}
  (I:∀W1,dj X i (n+1) (E++[⟨1,nd,av⟩]) W1->Sa f #[pg X.g] W1 λe w'=>(Uk e (.tuple #[])/\∃H u G,dj X H (u+1) G w'/\G.length<=1000000000/\u<=1000000000/\∀w2,dj X H u (G++[⟨3,nd,av⟩]) w2->Q (.returned (.tuple #[])) w2)\/(∃c,e=.panicked c/\Q (.panicked c) w')) :
  Sa 135 #[pg X.g,.int .u8 nd,fv f X.g] W Q:=by
 obtain⟨z0,z1,z2,z3⟩:=h.deep (n+1);obtain⟨W1,e1⟩:=ea (W.setCell ⟨X.g,2,none⟩ (Tu ((n:Int)+1)))
 have Z:Hid (Sa 198 #[pg X.g,(⟨1,nd,av⟩:Ev).v] W1 λr w'=>Uk r (.tuple #[])/\dj X i (n+1) (E++[⟨1,nd,av⟩]) w'/\ME X W1 w'):=by
  rw[show((n+1:Nat):Int)=(n:Int)+1 by omega,e1]at z3;exact iY z3 _ hl
 have HR:=aW I;have HS:Hid (∀H u G w2,dj X H (u+1) G w2->G.length<=1000000000->Sa 198 #[pg X.g,(⟨3,nd,av⟩:Ev).v] w2 λr w'=>Uk r (.tuple #[])/\dj X H (u+1) (G++[⟨3,nd,av⟩]) w'/\ME X w2 w'):=λH u G w2 O aa=>iY O _ aa
 have HD:Hid (∀H u G J,dj X H (u+1) G J->J.cell? ⟨X.g,2,none⟩=some (Tu ((u:Int)+1))/\J.frozen? ⟨X.g,2,none⟩=false/\X.g<J.heap.size/\∃w4,J.setCell ⟨X.g,2,none⟩ (Tu (u:Int))=w4/\Hid (dj X H u G w4)):=λH u G J S=>by
  obtain⟨a,b,c,d⟩:=S.deep u;exact⟨by rw[a];simp,b,c,_,rfl,d⟩
 clear h I z3;dsimp only[Ev.v,av]at Z HS;go_enter func135,ntmps135;(go_wp2_with fail);refine Z.out.mono ?_;rintro r w2⟨rfl,O,_⟩;have H2:=aW O;clear O z0 z1 z2 e1 Z;(go_wp2_with fail);refine(HR.out _ H2.out).mono ?_;rintro e J (⟨rfl,H,u,G,S,ab,ac,M⟩|⟨c,rfl,M⟩)
 ·have H3:=aW S;have Y:=aW M;clear S M;(go_wp2_with fail);refine(HS.out _ _ _ _ H3.out ab).mono ?_;rintro r w4⟨rfl,h4,_⟩;obtain⟨y0,y1,y2,w5,e5,h5⟩:=HD.out _ _ _ _ h4;clear h4;(go_wp2_with fail);go_end0;exact Y.out _ h5.out
 ·have Y:=aW M;clear M;(go_wp2_with fail);exact⟨rfl,Y.out⟩
section
variable {L:List Tv} {d:D}
def iO (u:d.e≠0):cB L d=none:=by unfold cB;rw[Eq u]
def Bb (u:d.e≠0):eu L false d=d:=by simp[eu,u]
def tK (u:d.e≠0) {x:Fl}(H:∀m,x≠.mt m):Ib L (.fl x) d d:=by
 have h:=iC (L:=L) (d:=d) H;have G:qn L d (λt=>x.takes t)=false:=by unfold qn;rw[iO u];rfl
 rw[G,Bb u]at h;exact h
def Ba (u:d.e≠0) {k:Int}{ts:List ByteArray}:Ib L (.fl (.wd k ts)) d d:=tK u aB
def Bc (u:d.e≠0):Ib L (.fl .nm) d d:=tK u cE
def nY (u:d.e≠0) {n:Int}:Ib L (.lv n) d d:=by
 have h:=Mq (L:=L) (d:=d) (n:=n);rw[xn u]at h;exact h
def ru (u:d.e≠0) {p:Pk}:bk (cB L d) p=none:=by rw[iO u];rfl
def ry (u:d.e≠0) {p:Pk}:Ib L (.once p) d d:=dR (ru u)
def aN (u:d.e≠0) {p:Pk}:Ib L (.again p) d d:=qW (ru u)
def sw {r s:List It}{u:D}(h:Rb L r d1 d2) (G:Rb L s d2 u):Rb L (r++s) d1 u:=λK=>by
 rw[RW];exact(h (s++K)).trans (G K)
def bK (h:Ib L i d1 d2):Rb L [i] d1 d2:=aA h oR
def cf (u:d.e≠0) {m:M}{nd:Int}{r:List It}(h:cj none m=.op nd r) (G:Rb L r d d):Ib L (.fl (.mt m)) d d:=by
 refine aO (nd:=nd) (r:=r) (by rw[iO u];exact h) ?_;rw[vT u];exact sw G (bK (nY u))
def Bf (u:d.e≠0) {m:M}{r:List It}(h:cj none m=.ex r) (G:Rb L r d d):Ib L (.fl (.mt m)) d d:=wA (r:=r) (by rw[iO u];exact h) G
def xa (u:d.e≠0) {m:M}(h:cj none m=.ref):Ib L (.fl (.mt m)) d d:=by
 have:=sX (L:=L) (d:=d) (m:=m) (by rw[iO u];exact h);rw[Bb u]at this;exact this
def Lj (u:d.e≠0) (m:M):Ib L (.fl (.mt m)) d d:=by
 have w:∀k ts,Ib L (.fl (.wd k ts)) d d:=λk ts=>Ba u
 have n:Ib L (.fl .nm) d d:=Bc u;have a:∀p,Ib L (.again p) d d:=λp=>aN u
 have o:∀p,Ib L (.once p) d d:=λp=>ry u
 have factor:Ib L (.fl (.mt .factor)) d d:=xa u rfl;have statement:Ib L (.fl (.mt .statement)) d d:=xa u rfl;have kind:Ib L (.fl (.mt .kind)) d d:=cf u rfl (bK n);have term:Ib L (.fl (.mt .term)) d d:=cf u rfl (aA factor (bK (a _)));have sum:Ib L (.fl (.mt .sum)) d d:=cf u rfl (aA term (bK (a _)));have rel:Ib L (.fl (.mt .rel)) d d:=cf u rfl (aA sum (bK (o _)));have expr:Ib L (.fl (.mt .expr)) d d:=cf u rfl (aA rel (bK (a _)));have list:Ib L (.fl (.mt .list)) d d:=Bf u rfl (aA expr (bK (a _)));have typed:Ib L (.fl (.mt .typed)) d d:=Bf u rfl (aA n (aA (a _) (aA (w _ _) (bK kind))));have param:Ib L (.fl (.mt .param)) d d:=cf u rfl (bK typed);have body:Ib L (.fl (.mt .body)) d d:=cf u rfl (aA statement (bK (a _)));have block:Ib L (.fl (.mt .block)) d d:=cf u rfl (aA (a _) (aA (w _ _) (aA body (bK (w _ _)))));cases m with
 |block=>exact block
 |variables=>exact cf u rfl (aA (w _ _) (aA typed (bK (w _ _))))
 |constants=>exact cf u rfl (aA (w _ _) (aA n (aA (w _ _) (aA expr (bK (w _ _))))))
 |procedure=>exact cf u rfl (aA (w _ _) (aA n (aA (o _) (aA (o _) (aA (w _ _) (aA block (bK (w _ _))))))))
 |params=>exact cf u rfl (aA (w _ _) (aA param (aA (a _) (bK (w _ _)))))
 |param=>exact param
 |typed=>exact typed
 |kind=>exact kind
 |member=>exact cf u rfl (bK typed)
 |body=>exact body
 |statement=>exact statement
 |expr=>exact expr
 |rel=>exact rel
 |sum=>exact sum
 |term=>exact term
 |factor=>exact factor
 |object=>exact cf u rfl (aA n (bK (a _)))
 |index=>exact cf u rfl (aA (w _ _) (aA list (bK (w _ _))))
 |selection=>exact cf u rfl (aA (w _ _) (bK n))
 |args=>exact cf u rfl (aA (w _ _) (aA (o _) (bK (w _ _))))
 |list=>exact list
def Be (u:d.e≠0) (x:Fl):Ib L (.fl x) d d:=by
 cases x with
 |mt m=>exact Lj u m
 |wd k ts=>exact Ba u
 |nm=>exact Bc u
 |cs=>exact tK u F0
def Hf (u:d.e≠0) (i:It):Ib L i d d:=by
 cases i with
 |fl x=>exact Be u x
 |lv n=>exact nY u
 |once p=>exact ry u
 |again p=>exact aN u
 |all r=>
  refine aR ?_
  induction r with
  |nil=>exact oR
  |cons x r ih=>exact aA (Be u x) ih
def gU (u:d.e≠0):∀(r:List It),Rb L r d d
 |[]=>oR
 |i :: r=>aA (Hf u i) (gU u r)
def NU {d:D}(h:Ib L i d d1) (u:Ib L i d d2):d1=d2:=by
 have:=(h []).det (u []);cases this;rfl
def am (I:∀m,x≠.mt m) {d':D}(h:Ib L (.fl x) d d') (H:d.e=0) (J:d'.e=0):ms L d' < ms L d:=by
 have u:=NU h (iC I);have G:=F5 (L:=L) (d:=d) (f:=λt=>x.takes t) rfl;rw[u];refine G.2 ?_;unfold ms;rw[Or H];omega
def Ad {r:List It}{d':D}(H:bV r=[]) (h:Rb L r d d') (hl:d'.e=0):d.e=0/\d'.p=d.p:=by
 obtain⟨u,G⟩:=oQ (h []) hl;obtain⟨q,e1,e2⟩:=G d.p [] (by simp) (by rw[Sg,H];rfl);have:q=[]:=by simpa[bV]using e2
 exact⟨u,by rw[e1,this];simp⟩
end
def bN {d:D}(h:SD X r d W) (G:r<=100) {s:ByteArray}(H:ll [s] ⟨#[]⟩=false) :
  Sa 200 #[pg X.g,.string s] W λe w'=>∃d',Ib (aD X.l) (.fl (.wd 2 [s])) d d'/\jA X (.tuple #[]) d' e w':=
 (NP h G H).mono (λe w' u=>⟨_,Pt,u⟩)
def bh {d:D}(h:SD X r d W) (G:r<=100) {s:ByteArray}(H:ll [s] ⟨#[]⟩=false) :
  Sa 202 #[pg X.g,.string s] W λe w'=>∃d',Ib (aD X.l) (.fl (.wd 6 [s])) d d'/\jA X (.tuple #[]) d' e w':=
 (JM h G H).mono (λe w' u=>⟨_,Pt,u⟩)
def fh {d:D}(h:SD X r d W) (G:r<=100) :
  Sa 201 #[pg X.g] W λe w'=>∃d',Ib (aD X.l) (.fl .nm) d d'/\jA X (.tuple #[]) d' e w':=
 (KC h G).mono (λe w' u=>⟨_,Rj,u⟩)
def Mi (X:Sx) (r:Nat) (x:Fl) (d:D) (e:Ending) (w:World):Prop:=(qn (aD X.l) d (λt=>x.takes t)=false/\Uk e (.bool false)/\SD X r d w)\/(qn (aD X.l) d (λt=>x.takes t)=true/\∃d',Ib (aD X.l) (.fl x) d d'/\jA X (.bool true) d' e w)
def Mb.mi (u:∀m,x≠.mt m) {d:D}{e:Ending}{w:World}(h:Mb X r x d e w):Mi X r x d e w:=h.imp id (λh=>⟨h.1,_,iC u,h.2⟩)
def F8 (W:World) (ts:List ByteArray):Ls (W.alloc (.cells (ts.map Value.string).toArray 9)) (some ⟨W.heap.size,0,none⟩) ts:=by
 intro j x u;refine⟨_,_,rfl,aa (ak W _) ?_⟩;simp[u]
def iw {d:D}(h:SD X r d W) (J:r<=100) (ts:List ByteArray) (I:ts.length<=1000) (M:ll ts ⟨#[]⟩=false) {n:Nat}(u:n=ts.length) {a:Array Value}(G:a=(ts.map Value.string).toArray) :
  Sa 230 #[pg X.g,.slice (some ⟨W.heap.size,0,none⟩) n n] (W.alloc (.cells a 9)) λe w'=>Mi X r (.wd 2 ts) d e w':=by
 subst u G;exact(mF (h.below ((gt _ _).alloc (ge _) _)) J (F8 W ts) I M).mono (λe w' H=>H.mi aB)
def bC {d:D}(h:SD X r d W) (J:r<=100) (ts:List ByteArray) (I:ts.length<=1000) (M:ll ts ⟨#[]⟩=false) {n:Nat}(u:n=ts.length) {a:Array Value}(G:a=(ts.map Value.string).toArray) :
  Sa 232 #[pg X.g,.slice (some ⟨W.heap.size,0,none⟩) n n] (W.alloc (.cells a 9)) λe w'=>Mi X r (.wd 6 ts) d e w':=by
 subst u G;exact(kB (h.below ((gt _ _).alloc (ge _) _)) J (F8 W ts) I M).mono (λe w' H=>H.mi aB)
def bz (f:Nat) (row:List It) (b n:Nat):Prop:=∀(X:Sx) (r:Nat) (d:D) (W:World),SD X r d W->r<=b->ms (aD X.l) d<=n ->
 Sa f #[pg X.g] W λe w'=>∃d',Rb (aD X.l) row d d'/\jA X (.tuple #[]) d' e w'
def SD.op {d:D}(h:SD X r d W) (nd:Int) (u:dj X (ps X.l d.i) (d.p.length+1) (nW X d++[⟨1,nd,av⟩]) W1):SD X (r+1) (dG nd d) W1:=by
 have e:dG nd d={ d with p:=d.p++[(nd,d.s+1)],s:=d.s+1,v:=d.v++[⟨1,nd,av⟩] }:=by unfold dG;rw[Or h.e0]
 have ev:nW X (dG nd d)=nW X d++[⟨1,nd,av⟩]:=by
  rw[e];unfold nW;simp only[kh h.v0,R7,RW]
 have pl:(dG nd d).p.length=d.p.length+1:=by rw[e];simp
 refine⟨?_,by rw[e];exact h.e0,by rw[e];exact h.il,by rw[e];exact h.nn,by rw[e];simp,?_,?_⟩
 ·rw[ev,pl];rw[e];exact u
 ·have:=h.sm;rw[e];show d.s+1<=100*d.i+(r+1);omega
 ·have:=h.el;rw[ev,pl];rw[e];simp only[IO,SR];omega
def SD.cl {d:D}(h:SD X r d W) (nd:Int) {n:Nat}(G:d.p.length=n+1) (u:dj X (ps X.l d.i) n (nW X d++[⟨3,nd,av⟩]) W1):SD X r (mY nd d) W1:=by
 have e:mY nd d={ d with p:=d.p.dropLast,v:=d.v++[⟨3,nd,av⟩] }:=by unfold mY;rw[Or h.e0]
 have ev:nW X (mY nd d)=nW X d++[⟨3,nd,av⟩]:=by
  rw[e];unfold nW;simp only[kh h.v0,R7,RW]
 have pl:(mY nd d).p.length=n:=by rw[e];simp[G]
 refine⟨?_,by rw[e];exact h.e0,by rw[e];exact h.il,by rw[e];exact h.nn,by rw[e];simp,?_,?_⟩
 ·rw[ev,pl];rw[e];exact u
 ·rw[e];exact h.sm
 ·have:=h.el;rw[ev,pl];rw[e];simp only[IO,SR];omega
def Az {d:D}(h:SD X r d W) (nd:Int) {b:Nat}(hr:r+1<=b) (hb:b<=100) {f:Nat}{row:List It}(M:∀W1,SD X (r+1) (dG nd d) W1->Sa f #[pg X.g] W1 λe w'=>∃d',Rb (aD X.l) row (dG nd d) d'/\jA X (.tuple #[]) d' e w') (Z:cG f) (I:bV row=[]) :
  Sa 135 #[pg X.g,.int .u8 nd,fv f X.g] W λe w'=>∃d',Rb (aD X.l) (row++[.lv nd]) (dG nd d) d'/\jA X (.tuple #[]) d' e w':=by
 have Q:=h.len (by omega);have aa:=h.el;have ac:=h.sm;have ab:=h.il;have h4:=Ee X.l;have h5:=h.sv.hl;have h6:=fd X.l d.i;refine vU h.sv (by omega) (by omega) nd Z ?_;intro W1 S;have J:=h.op nd S;refine(M W1 J).mono ?_;rintro e w'⟨d1,H,ho⟩
 rcases ho with⟨z,rfl,u⟩|⟨z,rfl,u⟩
 ·obtain⟨_,hp⟩:=Ad I H z
  have G:d1.p.length=d.p.length+1:=by
   rw[hp];unfold dG;rw[Or h.e0];simp
  have O:=u.len (by omega);refine .inl ⟨rfl,_,d.p.length,_,by rw[<-G];exact u.sv,by omega,by omega,λw2 Y=>⟨mY nd d1,sw H (bK Mq),.inl ⟨by rw[xm];exact z,rfl,u.cl nd G Y⟩⟩⟩
 ·exact .inr ⟨_,rfl,d1,sw H (bK (nY z)),.inr ⟨z,rfl,u⟩⟩
def aM {d:D}(h:SD X r d W) {b n:Nat}(J:r+1<=b) (O:b<=100) (S:ms (aD X.l) d<=n) {f:Nat}{row:List It}(I:bz f row b n) (Q:cG f) (G:bV row=[]) {nd:Int}{i:It}(H:∀d',Rb (aD X.l) (row++[.lv nd]) (dG nd d) d'->Ib (aD X.l) i d d') :
  Sa 135 #[pg X.g,.int .u8 nd,fv f X.g] W λe w'=>∃d',Ib (aD X.l) i d d'/\jA X (.tuple #[]) d' e w':=
 (Az h nd J O (λW1 u=>I X (r+1) (dG nd d) W1 u J (by rw[wb];exact S)) Q G).mono (λe w' ⟨d',u,M⟩=>⟨d',H d' u,M⟩)
def RQ (X:Sx) (f:Nat) (row:List It) (n:Nat) (d:D):Prop:=∀(r:Nat) (W:World),SD X r d W->r<=90->ms (aD X.l) d<=n ->
 Sa f #[pg X.g] W λe w'=>∃d',Rb (aD X.l) row d d'/\jA X (.tuple #[]) d' e w'
def Qa (X:Sx) (m:M) (n:Nat) (d:D) (u v:Value):Prop:=
 (∃nd f row,u=.int .u8 nd/\v=fv f X.g/\cG f/\bV row=[]/\RQ X f row n (dG nd d)/\∀d',Rb (aD X.l) (row++[.lv nd]) (dG nd d) d'->Ib (aD X.l) (.fl (.mt m)) d d') \/
 (u=.int .u8 0/\v=.nilFunc/\∃d',Ib (aD X.l) (.fl (.mt m)) d d'/\d'.e=(eu (aD X.l) false d).e/\d'.i=d.i)
def GO (w:World):(binOp .eql 1 .nilFunc .nilFunc).run Tryz.prog w=.ok (.bool true) w:=by kernel_rfl
def KZ (f g:Nat) (w:World):(binOp .eql 1 (fv f g) .nilFunc).run Tryz.prog w=.ok (.bool false) w:=by kernel_rfl
def pA (w:World):(binOp .neq 1 .nilFunc .nilFunc).run Tryz.prog w=.ok (.bool false) w:=by kernel_rfl
def tt (f g:Nat) (w:World):(binOp .neq 1 (fv f g) .nilFunc).run Tryz.prog w=.ok (.bool true) w:=by kernel_rfl
def dd {d:D}(h:SD X r d W) (hr:r+1<=90) {n:Nat}(hm:ms (aD X.l) d<=n) {m:M}{u v:Value}(hp:Qa X m n d u v) :
  Sa 269 #[pg X.g,u,v] W λe w'=>∃d',Ib (aD X.l) (.fl (.mt m)) d d'/\jA X (.tuple #[]) d' e w':=by
 rcases hp with⟨nd,f,row,rfl,rfl,hf,Z,O,J⟩|⟨rfl,rfl,d',G,I,h3⟩
 ·have HN:Hid (Sa 135 #[pg X.g,.int .u8 nd,fv f X.g] W λe w'=>∃d',Ib (aD X.l) (.fl (.mt m)) d d'/\jA X (.tuple #[]) d' e w'):=(Az h nd hr (by omega) (λW1 G=>O (r+1) W1 G hr (by rw[wb];exact hm)) hf Z).mono (λe w' ⟨d',G,I⟩=>⟨d',J d' G,I⟩);have Y:=KZ f X.g;clear h O J hf;go_enter func269,ntmps269;(go_wp2_with fail);refine HN.out.mono ?_;rintro e S⟨d1,Q,⟨z,rfl,G⟩|⟨z,rfl,G⟩⟩
  ·have H:Hid (∃d',Ib (aD X.l) (.fl (.mt m)) d d'/\jA X (.tuple #[]) d' (.returned (.tuple #[])) S):=⟨d1,Q,.inl ⟨z,rfl,G⟩⟩;clear Q z G;(go_wp2_with fail);go_end0;exact H.out
  ·have H:Hid (∃d',Ib (aD X.l) (.fl (.mt m)) d d'/\jA X (.tuple #[]) d' (.panicked (stop d1.e (ps X.l d1.i))) S):=⟨d1,Q,.inr ⟨z,rfl,G⟩⟩;clear Q z G;(go_wp2_with fail);exact⟨rfl,H.out⟩
 ·have HR:Hid (Sa 204 #[pg X.g] W λe w'=>∃c,e=.panicked c/\∃d',Ib (aD X.l) (.fl (.mt m)) d d'/\jA X (.tuple #[]) d' (.panicked c) w'):=(jb h (.tuple #[])).mono (λe w' ⟨_,a,b,c⟩=>by
   have hi:(eu (aD X.l) false d).i=d.i:=by unfold eu;simp only[R5,SW];(repeat' split)<;>rfl
   refine⟨_,b,d',G,.inr ⟨by rw[I];exact a,by rw[I,h3,hi],c⟩⟩)
  have Y:=GO;clear h G I h3;go_enter func269,ntmps269;(go_wp2_with fail);refine HR.out.mono ?_;rintro e S⟨c,rfl,hx⟩;have H:=aW hx;clear hx;(go_wp2_with fail);exact⟨rfl,H.out⟩
abbrev ph:List It:=[.again (.fn .declaration),.fl (.wd 2 [⟨#[98,101,103,105,110]⟩]),.fl (.mt .body),.fl (.wd 2 [⟨#[101,110,100]⟩])]
abbrev fj:List It:=[.fl (.wd 2 [⟨#[118,97,114]⟩]),.fl (.mt .typed),.fl (.wd 6 [⟨#[59]⟩])]
abbrev fQ:List It:=[.fl (.wd 2 [⟨#[99,111,110,115,116]⟩]),.fl .nm,.fl (.wd 6 [⟨#[61]⟩]),.fl (.mt .expr),.fl (.wd 6 [⟨#[59]⟩])]
abbrev fm:List It:=[.fl (.wd 2 [⟨#[112,114,111,99]⟩]),.fl .nm,.once (.fn .bracket),.once (.row [.wd 6 [⟨#[58]⟩],.mt .kind]),.fl (.wd 6 [⟨#[59]⟩]),.fl (.mt .block),.fl (.wd 6 [⟨#[59]⟩])]
abbrev lR:List It:=[.fl (.wd 6 [⟨#[40]⟩]),.fl (.mt .param),.again (.row [.wd 6 [⟨#[59]⟩],.mt .param]),.fl (.wd 6 [⟨#[41]⟩])]
abbrev gA:List It:=[.fl .nm,.again (.row [.wd 6 [⟨#[44]⟩],.nm]),.fl (.wd 6 [⟨#[58]⟩]),.fl (.mt .kind)]
abbrev iE:List It:=[.fl (.wd 2 [⟨#[97,114,114,97,121]⟩]),.fl (.wd 6 [⟨#[91]⟩]),.fl (.mt .expr),.fl (.wd 6 [⟨#[46,46]⟩]),.fl (.mt .expr),.fl (.wd 6 [⟨#[93]⟩]),.fl (.wd 2 [⟨#[111,102]⟩]),.fl (.mt .kind)]
abbrev gC:List It:=[.fl (.wd 2 [⟨#[114,101,99,111,114,100]⟩]),.fl (.mt .member),.again (.row [.wd 6 [⟨#[59]⟩],.mt .member]),.fl (.wd 2 [⟨#[101,110,100]⟩])]
abbrev fT:List It:=[.fl (.mt .statement),.again (.row [.wd 6 [⟨#[59]⟩],.mt .statement])]
abbrev nL:List It:=[.fl (.wd 2 [⟨#[115,107,105,112]⟩])]
abbrev pi:List It:=[.fl (.mt .object),.once (.row [.wd 6 [⟨#[58,61]⟩],.mt .expr])]
abbrev lS:List It:=[.fl (.mt .expr),.fl (.wd 2 [⟨#[116,104,101,110]⟩]),.fl (.mt .body)]
abbrev nN:List It:=[.fl (.wd 2 [⟨#[100,111]⟩]),.fl (.mt .body),.fl (.wd 2 [⟨#[101,110,100]⟩])]
abbrev fS:List It:=[.fl (.wd 2 [⟨#[105,102]⟩]),.fl (.mt .expr),.fl (.wd 2 [⟨#[116,104,101,110]⟩]),.fl (.mt .body),.again (.row [.wd 2 [⟨#[101,108,105,102]⟩],.mt .expr,.wd 2 [⟨#[116,104,101,110]⟩],.mt .body]),.once (.row [.wd 2 [⟨#[101,108,115,101]⟩],.mt .body]),.fl (.wd 2 [⟨#[101,110,100]⟩])]
abbrev kF:List It:=[.fl (.wd 2 [⟨#[119,104,105,108,101]⟩]),.fl (.mt .expr),.fl (.wd 2 [⟨#[100,111]⟩]),.fl (.mt .body),.fl (.wd 2 [⟨#[101,110,100]⟩])]
abbrev kJ:List It:=[.fl (.wd 2 [⟨#[102,111,114]⟩]),.fl .nm,.fl (.wd 6 [⟨#[58,61]⟩]),.fl (.mt .expr),.fl (.wd 2 [⟨#[116,111]⟩]),.fl (.mt .expr),.fl (.wd 2 [⟨#[100,111]⟩]),.fl (.mt .body),.fl (.wd 2 [⟨#[101,110,100]⟩])]
abbrev jp:List It:=[.fl (.wd 2 [⟨#[114,101,112,101,97,116]⟩]),.fl (.mt .body),.fl (.wd 2 [⟨#[117,110,116,105,108]⟩]),.fl (.mt .expr)]
abbrev jq:List It:=[.fl (.wd 2 [⟨#[114,101,116,117,114,110]⟩]),.once (.ex .expr)]
abbrev fR:List It:=[.fl (.wd 2 [⟨#[98,101,103,105,110]⟩]),.fl (.mt .body),.fl (.wd 2 [⟨#[101,110,100]⟩])]
abbrev cO:List It:=[.fl (.mt .rel),.again (.row [.wd 2 [⟨#[97,110,100]⟩,⟨#[111,114]⟩],.mt .rel])]
abbrev td:List It:=[.fl (.mt .sum),.once (.row [.wd 6 [⟨#[61]⟩,⟨#[35]⟩,⟨#[60]⟩,⟨#[60,61]⟩,⟨#[62]⟩,⟨#[62,61]⟩],.mt .sum])]
abbrev tc:List It:=[.fl (.mt .term),.again (.row [.wd 6 [⟨#[43]⟩,⟨#[45]⟩],.mt .term])]
abbrev nK:List It:=[.fl (.mt .factor),.again (.row [.wd 6 [⟨#[42]⟩,⟨#[47]⟩,⟨#[37]⟩],.mt .factor])]
abbrev kG:List It:=[.fl (.wd 6 [⟨#[45]⟩]),.fl (.mt .factor)]
abbrev te:List It:=[.fl (.wd 2 [⟨#[110,111,116]⟩]),.fl (.mt .factor)]
abbrev kI:List It:=[.fl (.wd 6 [⟨#[40]⟩]),.fl (.mt .expr),.fl (.wd 6 [⟨#[41]⟩])]
abbrev gE:List It:=[.fl .nm,.again (.fn .detail)]
abbrev nM:List It:=[.fl (.mt .expr),.again (.row [.wd 6 [⟨#[44]⟩],.mt .expr])]
abbrev kH:List It:=[.fl (.wd 6 [⟨#[91]⟩]),.fl (.mt .list),.fl (.wd 6 [⟨#[93]⟩])]
abbrev fk:List It:=[.fl (.wd 6 [⟨#[46]⟩]),.fl .nm]
abbrev nO:List It:=[.fl (.wd 6 [⟨#[40]⟩]),.once (.ex .list),.fl (.wd 6 [⟨#[41]⟩])]
def iH:cG 203:=enters_of func203 (by kernel_rfl) rfl
def tz:cG 266:=enters_of func266 (by kernel_rfl) rfl
def wP:cG 267:=enters_of func267 (by kernel_rfl) rfl
def tB:cG 268:=enters_of func268 (by kernel_rfl) rfl
def Dt:cG 282:=enters_of func282 (by kernel_rfl) rfl
def kQ:cG 280:=enters_of func280 (by kernel_rfl) rfl
def GY:cG 295:=enters_of func295 (by kernel_rfl) rfl
def Ds:cG 296:=enters_of func296 (by kernel_rfl) rfl
def jw:cG 234:=enters_of func234 (by kernel_rfl) rfl
def Lb:cG 285:=enters_of func285 (by kernel_rfl) rfl
def Oc:cG 284:=enters_of func284 (by kernel_rfl) rfl
def wR:cG 286:=enters_of func286 (by kernel_rfl) rfl
def GR:cG 287:=enters_of func287 (by kernel_rfl) rfl
def GX:cG 288:=enters_of func288 (by kernel_rfl) rfl
def Dr:cG 289:=enters_of func289 (by kernel_rfl) rfl
def Du:cG 290:=enters_of func290 (by kernel_rfl) rfl
def wQ:cG 291:=enters_of func291 (by kernel_rfl) rfl
def cU:cG 281:=enters_of func281 (by kernel_rfl) rfl
def GT:cG 294:=enters_of func294 (by kernel_rfl) rfl
def GS:cG 302:=enters_of func302 (by kernel_rfl) rfl
def A5:cG 305:=enters_of func305 (by kernel_rfl) rfl
def GU:cG 310:=enters_of func310 (by kernel_rfl) rfl
def Ob:cG 309:=enters_of func309 (by kernel_rfl) rfl
def GW:cG 311:=enters_of func311 (by kernel_rfl) rfl
def ro:cG 297:=enters_of func297 (by kernel_rfl) rfl
def GV:cG 306:=enters_of func306 (by kernel_rfl) rfl
def tA:cG 307:=enters_of func307 (by kernel_rfl) rfl
def Lf:cG 308:=enters_of func308 (by kernel_rfl) rfl
def Lc:cG 201:=enters_of func201 (by kernel_rfl) rfl
def La:cG 277:=enters_of func277 (by kernel_rfl) rfl
def ko {b:Nat}(h:bz 280 gA b n):bz 280 [.fl (.mt .typed)] b n:=λX r d W J I H=>(h X r d W J I H).mono (λe w' ⟨d',u,G⟩=>⟨d',bK (wA rfl u),G⟩)
def JT (n:Nat):bz 201 [.fl .nm] 90 n:=λX r d W H J I=>(fh H (by omega)).mono (λe w' ⟨d',u,G⟩=>⟨d',bK u,G⟩)
def mW (X:Sx) (W:World):Nat:=(aD (X.l.drop (Qn X.g W))).length
def ox:∀(l:List Tv) (i:Nat),aD (l.drop (ps l i))=(aD l).drop i
 |[],i=>by simp[aD,ps]
 |t :: r,i=>by
  cases h:ia t with
  |true=>rw[rN h,yj h,TM];exact ox r i
  |false=>
   cases i with
   |zero=>rw[qO h];rfl
   |succ i=>rw[rM h,yi h,TM,TM];exact ox r i
def Ml {d:D}(h:SD X r d W):mW X W=(aD X.l).length-d.i:=by
 obtain⟨ve,u,_,_⟩:=h.sv.ex;unfold mW;rw[pS u.cells.2.1];simp[ox]
def iu {r':Nat}{d:D}{W':World}(h:SD X r d W) (u:SD X r' d' W') (hl:ms (aD X.l) d' < ms (aD X.l) d):mW X W' < mW X W:=by
 rw[Ml h,Ml u];unfold ms at hl;rw[Or h.e0,Or u.e0]at hl;have:=u.il;omega
def PC (m:M) (f n:Nat):Prop:=∀(X:Sx) (r:Nat) (d:D) (W:World),SD X r d W ->
 Sa f #[pg X.g] W λe w'=>∃u v,Uk e (.tuple #[u,v])/\Qa X m n d u v/\Below W.heap.size W w'
def IM (X:Sx) (k:Dk) (n:Nat) (d:D) (u v:Value):Prop:=
 (∃nd f row i,u=.int .u8 nd/\v=fv f X.g/\cG f/\bV row=[]/\bz f row 90 n/\bk (cB (aD X.l) d) (.fn k)=some i/\∀d',Rb (aD X.l) (row++[.lv nd]) (dG nd d) d'->Ib (aD X.l) i d d') \/
 (u=.int .u8 0/\v=.nilFunc/\bk (cB (aD X.l) d) (.fn k)=none)
def PD (k:Dk) (f n:Nat):Prop:=∀(X:Sx) (r:Nat) (d:D) (W:World),SD X r d W ->
 Sa f #[pg X.g] W λe w'=>∃u v,Uk e (.tuple #[u,v])/\IM X k n d u v/\Below W.heap.size W w'
def iI (o:Option Tv) (k:Dk):bk o (.fn k)=if(o.getD av).k==k.kd then(k.pick (o.getD av)).map (λm=>.fl (.mt m))else none:=by
 cases o with
 |none=>cases k<;>rfl
 |some t=>rfl
def Hb (o:Option Tv) (m:M):bk o (.ex m)=if ci (o.getD av)==0 then none else some (.fl (.mt m)):=by
 cases o with
 |none=>rfl
 |some t=>rfl
def wU (o:Option Tv):cj o .factor=M.row (o.getD av) .factor:=by
 cases o with
 |none=>rfl
 |some t=>rfl
def eJ (k:Int) (t:Tv) {l:List UInt8}(hl:l≠[]):((kt k t).toList==l)=(t.k==k&&t.is l):=by
 unfold kt Tv.is;cases h:(t.k==k)with
 |true=>simp
 |false=>
  have e:(ByteArray.mk #[]).toList=[]:=by decide +kernel
  simp only[R5,SW,e,Wd];cases l with
  |nil=>exact absurd rfl hl
  |cons a l=>rfl
def Oq {d:D}(h:SD X r d W) {a:ByteArray}(G:kt 6 (nx X (ps X.l d.i))=a) (u:(a.toList==[40])=true):bk (cB (aD X.l) d) (.fn .bracket)=some (.fl (.mt .params)):=by
 rw[<-G,eJ 6 _ (by simp),Sf]at u;rw[iI,<-h.hnx];simp[Dk.kd,Dk.pick,u.2,show((nx X (ps X.l d.i)).k==6)=true from u.1]
def PO {d:D}(h:SD X r d W) {a:ByteArray}(H:kt 6 (nx X (ps X.l d.i))=a) (u:(a.toList==[40])=false):bk (cB (aD X.l) d) (.fn .bracket)=none:=by
 rw[<-H,eJ 6 _ (by simp)]at u;rw[iI,<-h.hnx];cases G:((nx X (ps X.l d.i)).k==6)with
 |false=>simp[Dk.kd,G]
 |true=>
  rw[G,TB]at u;simp[Dk.kd,Dk.pick,u]
def E7 {L:List Tv}{m:M}{nd:Int}{rest:List It}{d:D}(hd:cj (cB L d) m=.op nd (.fl x :: rest)) (O:∀m,x≠.mt m) (h:Ib L (.fl (.mt m)) d d') (J:d.e=0) (Q:d'.e=0):ms L d' < ms L d:=by
 have u:=h []
 have G:me L [.fl (.mt m)] d (.fl x :: (rest++[.lv nd])) (dG nd d):=by
  refine .step ?_;have e:dst L (.fl (.mt m)) d=((.fl x :: rest)++[.lv nd],dG nd d):=by simp only[dst,hd]
  rw[e];simp only[R7,Sg];exact .refl
 have H:me L [.fl (.mt m)] d (rest++[.lv nd]) (iW L x (dG nd d)):=G.trans (iC O _);have S:=lM (H.det u)
 have I:=(NH (L:=L) (x:=x) (d:=dG nd d)).2 (by
  rw[wb];unfold ms;rw[Or J];omega)
 rw[wb]at I;omega
def As {L:List Tv}{k:Dk}{d:D}(u:bk (cB L d) (.fn k)=some i) (h:Ib L i d d') (H:d.e=0) (G:d'.e=0):ms L d' < ms L d:=by
 rw[iI]at u
 split at u
 ·simp only[SX]at u;obtain⟨m,I,rfl⟩:=u
  rcases tI I with rfl|rfl|rfl|rfl|rfl|rfl|rfl<;>exact E7 rfl aB h H G
 ·cases u
def lX (g:Nat) (t:Tv):Value:=if ci t==25 then fv 310 g else if ci t==26 then fv 309 g else if ci t==27 then fv 311 g else if ci t==32 then fv 277 g else if ci t==28 then fv 297 g else .nilFunc
def pG {d:D}(h:SD X r d W) :
  Sa 304 #[pg X.g] W λe w'=>Uk e (.tuple #[.int .u8 (ci (nx X (ps X.l d.i))),lX X.g (nx X (ps X.l d.i))])/\Se W w':=by
 have I:=aW (ec h.sv (fd _ _));clear h;generalize nx X (ps X.l d.i)=t at *;have M:=mkfn;obtain⟨Y,J⟩:=ea (.tuple #[.int .u8 (ci t),lX X.g t]:Value);have Q:=aW J;rw[J];clear J;have O:Hid (∀H,Se W H->Se W (H.alloc (jD t))):=λH S=>S.alloc S.size _
 dsimp only[Tv.v]at I;go_enter func304,ntmps304
 go_wp2_with(go_at_call 229;refine I.out.mono ?_;rintro e H⟨rfl,G⟩;have u:=show Hid _ from O.out _ G;clear G)
 all_goals(
  go_ret2;refine⟨?_,u.out⟩;rw[<-Q.out];clear Q I O u M
  simp_all[ci,lX,Tv.is])
end
variable {r:Nat}
def pf {X:Sx}{d:D}{W:World}(h:SD X r d W) :
  Sa 300 #[pg X.g] W λe w'=>∃b:Bool,Uk e (.bool b)/\(∀m,bk (cB (aD X.l) d) (.ex m)=if b then some (.fl (.mt m))else none)/\Se W w':=by
 have M:=aW (pG h);have O:Hid (∀m,bk (cB (aD X.l) d) (.ex m)=if ci (nx X (ps X.l d.i))==0 then none else some (.fl (.mt m))):=λm=>by rw[h.hnx];exact Hb _ m
 clear h;generalize nx X (ps X.l d.i)=t at *
 have Y:(ci t==0)=true/\lX X.g t=.nilFunc\/(ci t==0)=false/\∃f,lX X.g t=fv f X.g:=by
  unfold lX;have S:ci t=25\/ci t=26\/ci t=27\/ci t=32\/ci t=28\/ci t=0:=by unfold ci;(repeat' split)<;>simp
  rcases S with e|e|e|e|e|e<;>rw[e]
  ·exact .inr ⟨rfl,_,rfl⟩
  ·exact .inr ⟨rfl,_,rfl⟩
  ·exact .inr ⟨rfl,_,rfl⟩
  ·exact .inr ⟨rfl,_,rfl⟩
  ·exact .inr ⟨rfl,_,rfl⟩
  ·exact .inl ⟨rfl,rfl⟩
 rcases Y with⟨I,J⟩|⟨I,f,J⟩
 ·rw[J]at M;have H:Hid (∀m,bk (cB (aD X.l) d) (.ex m)=none):=λm=>by rw[O.out m,Or I]
  clear O I J;have Q:=pA;go_enter func300,ntmps300;(go_wp2_with fail);refine M.out.mono ?_;rintro e Z⟨rfl,u⟩;have G:=aW u;clear u;(go_wp2_with fail);go_ret;exact⟨false,rfl,H.out,G.out⟩
 ·rw[J]at M;have H:Hid (∀m,bk (cB (aD X.l) d) (.ex m)=some (.fl (.mt m))):=λm=>by rw[O.out m,Eq (by rw[I];decide)]
  clear O I J;have Q:=tt f X.g;go_enter func300,ntmps300;(go_wp2_with fail);refine M.out.mono ?_;rintro e Z⟨rfl,u⟩;have G:=aW u;clear u;(go_wp2_with fail);go_ret;exact⟨true,rfl,H.out,G.out⟩
def JS {n:Nat}{X:Sx}{r:Nat}{d:D}{W:World}(h:SD X r d W) (H:r<=90) (G:qn (aD X.l) d (λt=>Fl.takes t .cs)=true):Sa 277 #[pg X.g] W λe w'=>∃d',Rb (aD X.l) [.fl .cs] d d'/\jA X (.tuple #[]) d' e w':=
 (zF h (by omega) G).mono (λe w' u=>⟨_,bK Rk,u⟩)
def iN (t:Tv):Value:=if t.k==2&&t.is [118,97,114]then .int .u8 3 else if t.k==2&&t.is [99,111,110,115,116]then .int .u8 4 else if t.k==2&&t.is [112,114,111,99]then .int .u8 5 else .int .u8 0
def iM (g:Nat) (t:Tv):Value:=if t.k==2&&t.is [118,97,114]then fv 266 g else if t.k==2&&t.is [99,111,110,115,116]then fv 267 g else if t.k==2&&t.is [112,114,111,99]then fv 268 g else .nilFunc
theorem mX {X:Sx}{d:D}{W:World}(h:SD X r d W) :
  Sa 233 #[pg X.g] W fun e w'=>e=.returned (.tuple #[iN (nx X (ps X.l d.i)),iM X.g (nx X (ps X.l d.i))])/\Se W w':=by
 have Y:Hid (∀V,Se W V->Sa 264 #[pg X.g] V fun e w'=>e=.returned (.string (kt 2 (nx X (ps X.l d.i))))/\Se W w'):=fun V hb=>(kl (h.sv.below hb) (fd _ _)).mono (fun e w' ⟨h1,h2⟩=>⟨h1,hb.trans (h2.mono hb.size)⟩)
 clear h
 generalize nx X (ps X.l d.i)=t at *
 have I:Hid (((kt 2 t).toList == [118,97,114])=(t.k == 2 && t.is [118,97,114])):=eJ 2 t (by simp);have Q:Hid (((kt 2 t).toList == [99,111,110,115,116])=(t.k == 2 && t.is [99,111,110,115,116])):=eJ 2 t (by simp);have aa:Hid (((kt 2 t).toList == [112,114,111,99])=(t.k == 2 && t.is [112,114,111,99])):=eJ 2 t (by simp)
 generalize kt 2 t=a at *
 have J:=mkfn;obtain ⟨uv,hu⟩:∃uv,(.tuple #[iN t,iM X.g t]:Value)=uv:=⟨_,rfl⟩;have M:=aW hu;rw [hu];clear hu;have H:Hid (Se W W):=gt _ _
 go_enter func233,ntmps233
 go_wp2_with fail
 refine (Y.out _ H.out).mono ?_;rintro e w2 ⟨rfl,ac⟩;have u:=aW ac;clear ac
 by_cases g0:(a.toList == [118,97,114])=true
 ·go_wp2_with fail
  go_ret2
  refine ⟨?_,u.out⟩;rw [<-M.out];have G:=I.out;clear M Y u H J;rw [g0] at G;simp only [iN,iM,<-G];rfl
 ·have S:(a.toList == [118,97,114])=false:=by simpa using g0
  clear g0
  by_cases g1:(a.toList == [99,111,110,115,116])=true
  ·go_wp2_with fail
   go_ret2
   refine ⟨?_,u.out⟩;rw [<-M.out];have G:=I.out;have O:=Q.out;clear M Y u H J;rw [S] at G;rw [g1] at O;simp only [iN,iM,<-G,<-O];rfl
  ·have ab:(a.toList == [99,111,110,115,116])=false:=by simpa using g1
   clear g1
   by_cases g2:(a.toList == [112,114,111,99])=true
   ·go_wp2_with fail
    go_ret2
    refine ⟨?_,u.out⟩;rw [<-M.out];have G:=I.out;have O:=Q.out;have Z:=aa.out;clear M Y u H J;rw [S] at G;rw [ab] at O;rw [g2] at Z;simp only [iN,iM,<-G,<-O,<-Z];rfl
   ·have ad:(a.toList == [112,114,111,99])=false:=by simpa using g2
    clear g2
    go_wp2_with fail
    go_ret2
    refine ⟨?_,u.out⟩;rw [<-M.out];have G:=I.out;have O:=Q.out;have Z:=aa.out;clear M Y u H J;rw [S] at G;rw [ab] at O;rw [ad] at Z;simp only [iN,iM,<-G,<-O,<-Z];rfl
def iK (t:Tv):Value:=if t.k==6&&t.is [91]then .int .u8 29 else if t.k==6&&t.is [46]then .int .u8 30 else if t.k==6&&t.is [40]then .int .u8 31 else .int .u8 0
def iJ (g:Nat) (t:Tv):Value:=if t.k==6&&t.is [91]then fv 306 g else if t.k==6&&t.is [46]then fv 307 g else if t.k==6&&t.is [40]then fv 308 g else .nilFunc
theorem yO {X:Sx}{d:D}{W:World}(h:SD X r d W) :
  Sa 303 #[pg X.g] W fun e w'=>e=.returned (.tuple #[iK (nx X (ps X.l d.i)),iJ X.g (nx X (ps X.l d.i))])/\Se W w':=by
 have Y:Hid (∀V,Se W V->Sa 265 #[pg X.g] V fun e w'=>e=.returned (.string (kt 6 (nx X (ps X.l d.i))))/\Se W w'):=fun V hb=>(lG (h.sv.below hb) (fd _ _)).mono (fun e w' ⟨h1,h2⟩=>⟨h1,hb.trans (h2.mono hb.size)⟩)
 clear h
 generalize nx X (ps X.l d.i)=t at *
 have I:Hid (((kt 6 t).toList == [91])=(t.k == 6 && t.is [91])):=eJ 6 t (by simp);have Q:Hid (((kt 6 t).toList == [46])=(t.k == 6 && t.is [46])):=eJ 6 t (by simp);have aa:Hid (((kt 6 t).toList == [40])=(t.k == 6 && t.is [40])):=eJ 6 t (by simp)
 generalize kt 6 t=a at *
 have J:=mkfn;obtain ⟨uv,hu⟩:∃uv,(.tuple #[iK t,iJ X.g t]:Value)=uv:=⟨_,rfl⟩;have M:=aW hu;rw [hu];clear hu;have H:Hid (Se W W):=gt _ _
 go_enter func303,ntmps303
 go_wp2_with fail
 refine (Y.out _ H.out).mono ?_;rintro e w2 ⟨rfl,ac⟩;have u:=aW ac;clear ac
 by_cases g0:(a.toList == [91])=true
 ·go_wp2_with fail
  go_ret2
  refine ⟨?_,u.out⟩;rw [<-M.out];have G:=I.out;clear M Y u H J;rw [g0] at G;simp only [iK,iJ,<-G];rfl
 ·have S:(a.toList == [91])=false:=by simpa using g0
  clear g0
  by_cases g1:(a.toList == [46])=true
  ·go_wp2_with fail
   go_ret2
   refine ⟨?_,u.out⟩;rw [<-M.out];have G:=I.out;have O:=Q.out;clear M Y u H J;rw [S] at G;rw [g1] at O;simp only [iK,iJ,<-G,<-O];rfl
  ·have ab:(a.toList == [46])=false:=by simpa using g1
   clear g1
   by_cases g2:(a.toList == [40])=true
   ·go_wp2_with fail
    go_ret2
    refine ⟨?_,u.out⟩;rw [<-M.out];have G:=I.out;have O:=Q.out;have Z:=aa.out;clear M Y u H J;rw [S] at G;rw [ab] at O;rw [g2] at Z;simp only [iK,iJ,<-G,<-O,<-Z];rfl
   ·have ad:(a.toList == [40])=false:=by simpa using g2
    clear g2
    go_wp2_with fail
    go_ret2
    refine ⟨?_,u.out⟩;rw [<-M.out];have G:=I.out;have O:=Q.out;have Z:=aa.out;clear M Y u H J;rw [S] at G;rw [ab] at O;rw [ad] at Z;simp only [iK,iJ,<-G,<-O,<-Z];rfl
def jO (t:Tv):Value:=if t.k==1 then .int .u8 8 else if t.k==2&&t.is [97,114,114,97,121]then .int .u8 9 else if t.k==2&&t.is [114,101,99,111,114,100]then .int .u8 10 else .int .u8 0
def jN (g:Nat) (t:Tv):Value:=if t.k==1 then fv 201 g else if t.k==2&&t.is [97,114,114,97,121]then fv 295 g else if t.k==2&&t.is [114,101,99,111,114,100]then fv 296 g else .nilFunc
theorem Gl {X:Sx}{d:D}{W:World}(h:SD X r d W) :
  Sa 283 #[pg X.g] W fun e w'=>e=.returned (.tuple #[jO (nx X (ps X.l d.i)),jN X.g (nx X (ps X.l d.i))])/\Se W w':=by
 have HN:Hid (Sa 229 #[pg X.g] W fun e w'=>e=.returned (nx X (ps X.l d.i)).v/\Se W w'):=ec h.sv (fd _ _);have Y:Hid (∀V,Se W V->Sa 264 #[pg X.g] V fun e w'=>e=.returned (.string (kt 2 (nx X (ps X.l d.i))))/\Se W w'):=fun V hb=>(kl (h.sv.below hb) (fd _ _)).mono (fun e w' ⟨h1,h2⟩=>⟨h1,hb.trans (h2.mono hb.size)⟩)
 clear h
 generalize nx X (ps X.l d.i)=t at *
 have S:Hid (((kt 2 t).toList == [97,114,114,97,121])=(t.k == 2 && t.is [97,114,114,97,121])):=eJ 2 t (by simp);have aa:Hid (((kt 2 t).toList == [114,101,99,111,114,100])=(t.k == 2 && t.is [114,101,99,111,114,100])):=eJ 2 t (by simp)
 generalize kt 2 t=a at *
 have M:=mkfn;obtain ⟨uv,hu⟩:∃uv,(.tuple #[jO t,jN X.g t]:Value)=uv:=⟨_,rfl⟩;have O:=aW hu;rw [hu];clear hu;have J:∀w:World,(Instr.field 49 (.agg #[.int .u8 t.k,.string t.t,.int .i64 t.a,.int .i64 t.l,.int .i64 t.c,.int .i64 t.f]) 0).run Tryz.prog w=.ok (.int .u8 t.k) w:=fun w=>N4 _ _ _ _ _ _ w
 dsimp only [Tv.v] at HN
 have H:Hid (Se W W):=gt _ _
 go_enter func283,ntmps283
 go_wp2_with fail
 refine HN.out.mono ?_;rintro e w1 ⟨rfl,ac⟩;have u:=aW ac;clear ac;cases h1:(t.k == 1) with
 |true=>
  go_wp2_with fail
  go_ret2
  refine ⟨?_,u.out⟩;rw [<-O.out];clear O Y HN u H M J
  simp_all [jO,jN]
 |false=>
  go_wp2_with fail
  refine (Y.out _ u.out).mono ?_;rintro e w2 ⟨rfl,ad⟩;have G:=aW ad;clear ad
  by_cases h2:(a.toList == [97,114,114,97,121])=true
  ·go_wp2_with fail
   go_ret2
   refine ⟨?_,G.out⟩;rw [<-O.out];have Q:=S.out;clear O Y HN u G H M J;rw [h2] at Q
   simp_all [jO,jN]
  ·have ab:(a.toList == [97,114,114,97,121])=false:=by simpa using h2
   clear h2
   go_wp2_with fail
   refine (Y.out _ G.out).mono ?_;rintro e w3 ⟨rfl,ae⟩;have I:=aW ae;clear ae
   by_cases h3:(a.toList == [114,101,99,111,114,100])=true
   ·go_wp2_with fail
    go_ret2
    refine ⟨?_,I.out⟩;rw [<-O.out];have Q:=S.out;have Z:=aa.out;clear O Y HN u G I H M J;rw [ab] at Q;rw [h3] at Z;simp only [jO,jN,h1,<-Q,<-Z];rfl
   ·have af:(a.toList == [114,101,99,111,114,100])=false:=by simpa using h3
    clear h3
    go_wp2_with fail
    go_ret2
    refine ⟨?_,I.out⟩;rw [<-O.out];have Q:=S.out;have Z:=aa.out;clear O Y HN u G I H M J;rw [ab] at Q;rw [af] at Z;simp only [jO,jN,h1,<-Q,<-Z];rfl
def da (t:Tv):Value:=if t.k==1 then .int .u8 14 else if t.k==2&&t.is [115,107,105,112]then .int .u8 13 else if t.k==2&&t.is [105,102]then .int .u8 15 else if t.k==2&&t.is [119,104,105,108,101]then .int .u8 16 else if t.k==2&&t.is [102,111,114]then .int .u8 17 else if t.k==2&&t.is [114,101,112,101,97,116]then .int .u8 18 else if t.k==2&&t.is [114,101,116,117,114,110]then .int .u8 19 else if t.k==2&&t.is [98,101,103,105,110]then .int .u8 20 else .int .u8 0
def cZ (g:Nat) (t:Tv):Value:=if t.k==1 then fv 284 g else if t.k==2&&t.is [115,107,105,112]then fv 285 g else if t.k==2&&t.is [105,102]then fv 286 g else if t.k==2&&t.is [119,104,105,108,101]then fv 287 g else if t.k==2&&t.is [102,111,114]then fv 288 g else if t.k==2&&t.is [114,101,112,101,97,116]then fv 289 g else if t.k==2&&t.is [114,101,116,117,114,110]then fv 290 g else if t.k==2&&t.is [98,101,103,105,110]then fv 291 g else .nilFunc
theorem qd {X:Sx}{d:D}{W:World}(h:SD X r d W) :
  Sa 270 #[pg X.g] W fun e w'=>e=.returned (.tuple #[da (nx X (ps X.l d.i)),cZ X.g (nx X (ps X.l d.i))])/\Se W w':=by
 have HN:Hid (Sa 229 #[pg X.g] W fun e w'=>e=.returned (nx X (ps X.l d.i)).v/\Se W w'):=ec h.sv (fd _ _);have HK:Hid (∀V,Se W V->Sa 264 #[pg X.g] V fun e w'=>e=.returned (.string (kt 2 (nx X (ps X.l d.i))))/\Se W w'):=fun V hb=>(kl (h.sv.below hb) (fd _ _)).mono (fun e w' ⟨h1,h2⟩=>⟨h1,hb.trans (h2.mono hb.size)⟩)
 clear h
 generalize nx X (ps X.l d.i)=t at *
 have Y:Hid (((kt 2 t).toList == [115,107,105,112])=(t.k == 2 && t.is [115,107,105,112])):=eJ 2 t (by simp);have Z:Hid (((kt 2 t).toList == [105,102])=(t.k == 2 && t.is [105,102])):=eJ 2 t (by simp);have ab:Hid (((kt 2 t).toList == [119,104,105,108,101])=(t.k == 2 && t.is [119,104,105,108,101])):=eJ 2 t (by simp);have ad:Hid (((kt 2 t).toList == [102,111,114])=(t.k == 2 && t.is [102,111,114])):=eJ 2 t (by simp);have af:Hid (((kt 2 t).toList == [114,101,112,101,97,116])=(t.k == 2 && t.is [114,101,112,101,97,116])):=eJ 2 t (by simp);have ah:Hid (((kt 2 t).toList == [114,101,116,117,114,110])=(t.k == 2 && t.is [114,101,116,117,114,110])):=eJ 2 t (by simp);have aj:Hid (((kt 2 t).toList == [98,101,103,105,110])=(t.k == 2 && t.is [98,101,103,105,110])):=eJ 2 t (by simp)
 generalize kt 2 t=a at *
 have O:=mkfn;obtain ⟨uv,hu⟩:∃uv,(.tuple #[da t,cZ X.g t]:Value)=uv:=⟨_,rfl⟩;have Q:=aW hu;rw [hu];clear hu;have M:∀w:World,(Instr.field 49 (.agg #[.int .u8 t.k,.string t.t,.int .i64 t.a,.int .i64 t.l,.int .i64 t.c,.int .i64 t.f]) 0).run Tryz.prog w=.ok (.int .u8 t.k) w:=fun w=>N4 _ _ _ _ _ _ w
 dsimp only [Tv.v] at HN
 have J:Hid (Se W W):=gt _ _
 go_enter func270,ntmps270
 go_wp2_with fail
 refine HN.out.mono ?_;rintro e w1 ⟨rfl,al⟩;have H:=aW al;clear al;cases h1:(t.k == 1) with
 |true=>
  go_wp2_with fail
  go_ret2
  refine ⟨?_,H.out⟩;rw [<-Q.out];clear Q HK HN H J O M
  simp_all [da,cZ]
 |false=>
  go_wp2_with fail
  refine (HK.out _ H.out).mono ?_;rintro e w2 ⟨rfl,am⟩;have u:=aW am;clear am
  by_cases g0:(a.toList == [115,107,105,112])=true
  ·go_wp2_with fail
   go_ret2
   refine ⟨?_,u.out⟩;rw [<-Q.out];have G:=Y.out;clear Q HK HN H u J O M;rw [g0] at G;simp only [da,cZ,h1,<-G];rfl
  ·have aa:(a.toList == [115,107,105,112])=false:=by simpa using g0
   clear g0
   by_cases g1:(a.toList == [105,102])=true
   ·go_wp2_with fail
    go_ret2
    refine ⟨?_,u.out⟩;rw [<-Q.out];have G:=Y.out;have I:=Z.out;clear Q HK HN H u J O M;rw [aa] at G;rw [g1] at I;simp only [da,cZ,h1,<-G,<-I];rfl
   ·have ac:(a.toList == [105,102])=false:=by simpa using g1
    clear g1
    by_cases g2:(a.toList == [119,104,105,108,101])=true
    ·go_wp2_with fail
     go_ret2
     refine ⟨?_,u.out⟩;rw [<-Q.out];have G:=Y.out;have I:=Z.out;have S:=ab.out;clear Q HK HN H u J O M;rw [aa] at G;rw [ac] at I;rw [g2] at S;simp only [da,cZ,h1,<-G,<-I,<-S];rfl
    ·have ae:(a.toList == [119,104,105,108,101])=false:=by simpa using g2
     clear g2
     by_cases g3:(a.toList == [102,111,114])=true
     ·go_wp2_with fail
      go_ret2
      refine ⟨?_,u.out⟩;rw [<-Q.out];have G:=Y.out;have I:=Z.out;have S:=ab.out;have e3:=ad.out;clear Q HK HN H u J O M;rw [aa] at G;rw [ac] at I;rw [ae] at S;rw [g3] at e3;simp only [da,cZ,h1,<-G,<-I,<-S,<-e3];rfl
     ·have ag:(a.toList == [102,111,114])=false:=by simpa using g3
      clear g3
      by_cases g4:(a.toList == [114,101,112,101,97,116])=true
      ·go_wp2_with fail
       go_ret2
       refine ⟨?_,u.out⟩;rw [<-Q.out];have G:=Y.out;have I:=Z.out;have S:=ab.out;have e3:=ad.out;have e4:=af.out;clear Q HK HN H u J O M;rw [aa] at G;rw [ac] at I;rw [ae] at S;rw [ag] at e3;rw [g4] at e4;simp only [da,cZ,h1,<-G,<-I,<-S,<-e3,<-e4];rfl
      ·have ai:(a.toList == [114,101,112,101,97,116])=false:=by simpa using g4
       clear g4
       by_cases g5:(a.toList == [114,101,116,117,114,110])=true
       ·go_wp2_with fail
        go_ret2
        refine ⟨?_,u.out⟩;rw [<-Q.out];have G:=Y.out;have I:=Z.out;have S:=ab.out;have e3:=ad.out;have e4:=af.out;have e5:=ah.out;clear Q HK HN H u J O M;rw [aa] at G;rw [ac] at I;rw [ae] at S;rw [ag] at e3;rw [ai] at e4;rw [g5] at e5;simp only [da,cZ,h1,<-G,<-I,<-S,<-e3,<-e4,<-e5];rfl
       ·have ak:(a.toList == [114,101,116,117,114,110])=false:=by simpa using g5
        clear g5
        by_cases g6:(a.toList == [98,101,103,105,110])=true
        ·go_wp2_with fail
         go_ret2
         refine ⟨?_,u.out⟩;rw [<-Q.out];have G:=Y.out;have I:=Z.out;have S:=ab.out;have e3:=ad.out;have e4:=af.out;have e5:=ah.out;have e6:=aj.out;clear Q HK HN H u J O M;rw [aa] at G;rw [ac] at I;rw [ae] at S;rw [ag] at e3;rw [ai] at e4;rw [ak] at e5;rw [g6] at e6;simp only [da,cZ,h1,<-G,<-I,<-S,<-e3,<-e4,<-e5,<-e6];rfl
        ·have an:(a.toList == [98,101,103,105,110])=false:=by simpa using g6
         clear g6
         go_wp2_with fail
         go_ret2
         refine ⟨?_,u.out⟩;rw [<-Q.out];have G:=Y.out;have I:=Z.out;have S:=ab.out;have e3:=ad.out;have e4:=af.out;have e5:=ah.out;have e6:=aj.out;clear Q HK HN H u J O M;rw [aa] at G;rw [ac] at I;rw [ae] at S;rw [ag] at e3;rw [ai] at e4;rw [ak] at e5;rw [an] at e6;simp only [da,cZ,h1,<-G,<-I,<-S,<-e3,<-e4,<-e5,<-e6];rfl
def zj (L:List Tv) (d0 d:D) (F:List It->List It):Prop:=∀r d',Rb L r d d'->Rb L (F r) d0 d'
section
variable {X:Sx} {v:Value} {d0 d d1:D} {it:It} {s:List It} {F:List It->List It} {f:Nat} {args:Array Value} {W:World} {P:Ending->World->Prop} {L:List Tv}
def c0:zj L d d (λr=>r):=λ_ _ h=>h
def ck (C:zj L d0 d F) (h:Ib L it d d1):zj L d0 d1 (λr=>F (it :: r)):=λ_ _ u=>C _ _ (aA h u)
def LD (C:zj L d0 d F) (h:Rb L s d d1):zj L d0 d1 (λr=>F (s++r)):=λ_ _ u=>C _ _ (sw h u)
def zj.nil (C:zj L d0 d F):Rb L (F []) d0 d:=C _ _ oR
def zj.dead (C:zj L d0 d F) (z:d.e≠0) (r:List It):Rb L (F r) d0 d:=C _ _ (gU z r)
def o3 {w:World}(z:Hid (d.e≠0)) (b:Hid (Below X.w0.heap.size X.w0 w)):jA X v d (.panicked (stop d.e (ps X.l d.i))) w:=.inr ⟨z.out,rfl,b.out⟩
def bM (C:zj (aD X.l) d0 d F) (h:Sa f args W λe w'=>∃d',Ib (aD X.l) it d d'/\jA X v d' e w')
  (hd:∀d' w',zj (aD X.l) d0 d' (λr=>F (it :: r))->Ib (aD X.l) it d d'->Hid (d'.e≠0)->Hid (Below X.w0.heap.size X.w0 w')->P (.panicked (stop d'.e (ps X.l d'.i))) w')
  (hl:∀d' w',zj (aD X.l) d0 d' (λr=>F (it :: r))->Hid (Ib (aD X.l) it d d')->Hid (SD X 0 d' w')->P (.returned v) w'):Sa f args W P:=by
 refine h.mono ?_;rintro e w'⟨d',i,⟨z,rfl,h⟩|⟨z,rfl,h⟩⟩
 ·exact hl d' w' (ck C i) i h
 ·exact hd d' w' (ck C i) i z h
def JA (C:zj (aD X.l) d0 d F) (h:Sa f args W λe w'=>∃d',Rb (aD X.l) s d d'/\jA X v d' e w')
  (hd:∀d' w',zj (aD X.l) d0 d' (λr=>F (s++r))->Hid (d'.e≠0)->Hid (Below X.w0.heap.size X.w0 w')->P (.panicked (stop d'.e (ps X.l d'.i))) w')
  (hl:∀d' w',zj (aD X.l) d0 d' (λr=>F (s++r))->Hid (Rb (aD X.l) s d d')->Hid (SD X 0 d' w')->P (.returned v) w'):Sa f args W P:=by
 refine h.mono ?_;rintro e w'⟨d',i,⟨z,rfl,h⟩|⟨z,rfl,h⟩⟩
 ·exact hl d' w' (LD C i) i h
 ·exact hd d' w' (LD C i) z h
def RJ {m:M}(u:cj (cB (aD X.l) d) m=.ex s) (h:Sa f args W λe w'=>∃d',Rb (aD X.l) s d d'/\jA X v d' e w'):Sa f args W λe w'=>∃d',Ib (aD X.l) (.fl (.mt m)) d d'/\jA X v d' e w':=
 h.mono λ_ _ ⟨d',a,b⟩=>⟨d',wA u a,b⟩
def zL {x:Fl}(h:Sa f args W λe w'=>Mi X r x d e w')
  (hd:∀d' w',Hid (qn (aD X.l) d (λt=>x.takes t)=true)->Ib (aD X.l) (.fl x) d d'->Hid (d'.e≠0)->Hid (Below X.w0.heap.size X.w0 w')->P (.panicked (stop d'.e (ps X.l d'.i))) w')
  (hl:∀d' w',Hid (qn (aD X.l) d (λt=>x.takes t)=true)->Hid (Ib (aD X.l) (.fl x) d d')->Hid (SD X 0 d' w')->P (.returned (.bool true)) w')
  (u:∀w',Hid (qn (aD X.l) d (λt=>x.takes t)=false)->Hid (SD X r d w')->P (.returned (.bool false)) w'):Sa f args W P:=by
 refine h.mono ?_;rintro e w' (⟨q,rfl,h⟩|⟨q,d',i,⟨z,rfl,h⟩|⟨z,rfl,h⟩⟩)
 ·exact u w' q h
 ·exact hl d' w' q i h
 ·exact hd d' w' q i z h
end
