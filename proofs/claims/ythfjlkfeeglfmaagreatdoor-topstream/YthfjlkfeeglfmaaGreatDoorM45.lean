import Derived.Test.YthfjlkfeeglfmaaGreatDoorM22
import Derived.Test.YthfjlkfeeglfmaaGreatDoorM44
set_option linter.all false
set_option maxHeartbeats 4000000
namespace Go.Proofs.YthfjlkfeeglfmaaGreatDoor
open Go.Proofs.Tryz
open Go.RowKit
open Lw (Dc bE rt bQ cq gK kq kC ud fF)
variable {s:ByteArray}{E:List Ev}{L:List Dc}{W:World}
def MF (W:World) (v:Value) (Q:Int->Int->Int->Int->Prop) (r:Ending) (w':World):Prop:=∃g c x y u,Q c x y u/\Uk r (.tuple #[v,pE g])/\w'.heap[g]?=some (ri c x y u)/\Below W.heap.size W w'
structure Fd (s:ByteArray) (E:List Ev) (L:List Dc):Prop where
 sz:s.size<=262144
 sc:(Lx.fY s).2.1=0
 al:∃a,gM (.live [] 0) (ib s) E 0 a
 ly:eX qB E=some L
abbrev wo (n:Int) (L:List Dc):ByteArray:=⟨(Lw.lq n.toNat L).toArray⟩
def pF (h:Fd s E L):E.length<=8000000/\(∀e∈E,e.d.t.size<=9223372036854775807)/\bQ 0 0 L=none/\fF L<=2147483647/\(∀d∈L,rt d=true)/\(ib s).length<=262144:=by
 obtain⟨a,u⟩:=h.al;have G:=rP s;have hsz:=h.sz;have J:E.length<=0+23*(ib s).length+1:=ue (ib s) [] 0 E a u dU;obtain⟨hU,hr⟩:=D8 u h.ly hsz G;have I:bQ 0 0 L=none:=by have h:=oJ E rV h.ly;rw[SI]at h;exact h
 refine⟨by omega,λe H=>?_,I,hU,hr,by omega⟩
 rcases IF (ib s) [] 0 E a u dU e H with h|h
 ·rw[h];exact RU _
 ·have:=Et s _ h;omega
def mH (h:Fd s E L) {W:World}(hT:Lx.pT W) (hE:mh W) :
  Sa 5 #[.string s] W λr w'=>∃p c,Uk r (.tuple #[.slice p L.length c,.nilIface])/\Rd w' (.slice p L.length c) L/\Below W.heap.size W w'/\L.length<=100000000:=by
 obtain⟨a,Z⟩:=h.al;obtain⟨f1,f2,f3,f4,f5,f6⟩:=pF h;have hsz:=h.sz;have q1:¬((s.size:Int)>262144):=by omega
 have HR:=aW (qL hT hE (by omega) (z:=0) (by rw[h.sc];rfl) (by omega) Z rfl)
 have HL:Hid (∀n p u V,TN (λj=>W.heap.size<=j) V n (.slice p n.c.length u)->fA E []=some n->Sa 14 #[dm n.k n.d (.slice p n.c.length u)] V λr w'=>∃p c,Uk r (.tuple #[.slice p L.length c,Tu 0])/\Rd w' (.slice p L.length c) L/\Below V.heap.size V w'/\L.length<=100000000):=λn p u V ht hb=>by
  have aa:mV n=E:=by rw[(rm hb).1,(xv Z).2]
  refine((by rw[<-h.ly];exact wh n p u V ht aa (by omega) f2:Sa 14 #[dm n.k n.d (.slice p n.c.length u)] V (RD V E.length (some L))).mono ?_);rintro r w'⟨p,c,e1,e2,e3,e4⟩;exact⟨p,c,e1,e2,e3,by omega⟩
 have HF:Hid (∀V,Sa 12 #[Tu 0,.agg #[Tu 0,Tu 0,Tu 0]] V λr w'=>Uk r .nilIface/\Below V.heap.size V w'):=λV=>rj 0 0 0 V
 clear h hT hE Z f1 f2 f3 f4 f5 f6 hsz;go_enter func5,ntmps5;(go_wp2_with fail);refine HR.out.mono ?_;rintro r Q⟨n,p,u,rfl,ht,J,I⟩;obtain⟨G,eV1⟩:=ea (Q.alloc (bj n.k n.d (.slice p n.c.length u)));obtain⟨Y,hg1⟩:=ea Q.heap.size;have hx:Below Q.heap.size Q G:=by rw[<-eV1];exact(gt _ _).alloc (ge _) _
 have M:Hid (Below W.heap.size W G/\TN (λj=>W.heap.size<=j) G n (.slice p n.c.length u)/\fA E []=some n):=⟨I.trans (hx.mono I.size),TN.kp (Kp.of_below (S:=λ_=>False) hx) (λ_ _ h=>h) n _ ht,J⟩;have hk:G.heap[Y]?=some (bj n.k n.d (.slice p n.c.length u)):=by rw[<-eV1,<-hg1];exact ak _ _
 obtain⟨⟨c0,c1,c2,c3,c4,c5,c6,c7⟩,cl⟩:=aC hk;dsimp only[bj]at eV1;clear ht J I hx hk HR;(go_wp2_with fail)
 try rw[eV1]
 try rw[hg1]
 clear eV1 hg1;(go_wp2_with fail);refine(HL.out n p u G M.out.2.1 M.out.2.2).mono ?_;rintro r w2⟨p2,H,rfl,y1,y2,y3⟩;have O:Hid (Rd w2 (.slice p2 L.length H) L/\Below W.heap.size W w2/\L.length<=100000000):=⟨y1,M.out.1.trans (y2.mono M.out.1.size),y3⟩;clear y1 y2 y3;(go_wp2_with fail);refine(HF.out _).mono ?_;rintro r w3⟨rfl,y4⟩;have H3:=aW y4;clear y4;(go_wp2_with fail);refine R0 (v:=.tuple #[.slice p2 L.length H,.nilIface]) (by simp[results,Tryz.f5,go_sem]) rfl ?_;exact⟨p2,H,rfl,aU O.out.1 H3.out,O.out.2.1.trans (H3.out.mono O.out.2.1.size),O.out.2.2⟩
def wi (M:262144<s.size) (Q:s.size<=maxLen):Sa 5 #[.string s] W (MF W (.slice none 0 0) (λ_ _ _ _=>True)):=by
 have S:(s.size:Int)>262144:=by omega
 have J:Hid (∀V,Sa 12 #[Tu 2,.agg #[Tu 0,Tu 0,Tu 0]] V λr w'=>∃g,Uk r (pE g)/\w'.heap[g]?=some (ri 2 0 0 0)/\V.heap.size<=g/\Se V w'):=λV=>jv 2 0 0 0 (by decide) V
 clear M;go_enter func5,ntmps5;(go_wp2_with fail);refine(J.out _).mono ?_;rintro r G⟨g,rfl,H,O,I⟩;have u:Hid (G.heap[g]?=some (ri 2 0 0 0)/\Se W G):=⟨H,I⟩;clear H O I;(go_wp2_with fail);refine R0 (v:=.tuple #[.slice none 0 0,pE g]) (by simp[results,Tryz.f5,go_sem]) rfl ?_;exact⟨g,2,0,0,0,trivial,rfl,u.out.1,u.out.2⟩
def pb {Q:Int->Int->Int->Int->Prop}(Y:s.size<=262144) (J:Sa 13 #[.string s] W (MF W (dm 0 av (.slice none 0 0)) Q)) :
  Sa 5 #[.string s] W (MF W (.slice none 0 0) Q):=by
 have Z:¬((s.size:Int)>262144):=by omega
 have S:=aW J;clear Y J;go_enter func5,ntmps5;(go_wp2_with fail);refine S.out.mono ?_;rintro r O⟨g,c,x,y,u,M,rfl,H,I⟩;have G:Hid (Q c x y u/\O.heap[g]?=some (ri c x y u)/\Se W O):=⟨M,H,I⟩;clear M H I;(go_wp2_with fail);refine R0 (v:=.tuple #[.slice none 0 0,pE g]) (by simp[results,Tryz.f5,go_sem]) rfl ?_;exact⟨g,c,x,y,u,G.out.1,rfl,af G.out.2.1 ((gt _ _).alloc (ge _) _),G.out.2.2.alloc G.out.2.2.size _⟩
def CV {a:Nat}(hsz:s.size<=262144) (M:(Lx.fY s).2.1=0) (I:gM (.live [] 0) (ib s) E 0 a) (hn:eX qB E=none) {W:World}(hT:Lx.pT W) (hE:mh W) :
  Sa 5 #[.string s] W (MF W (.slice none 0 0) (λ_ _ _ _=>True)):=by
 have ac:=rP s;have aa:E.length<=0+23*(ib s).length+1:=ue (ib s) [] 0 E a I dU
 have f2:∀e∈E,e.d.t.size<=9223372036854775807:=λe he=>by
  rcases IF (ib s) [] 0 E a I dU e he with h|h
  ·rw[h];exact RU _
  ·have:=Et s _ h;omega
 have q1:¬((s.size:Int)>262144):=by omega
 have HR:=aW (qL hT hE (by omega) (z:=0) (by rw[M];rfl) (by omega) I rfl)
 have HL:Hid (∀n p u V,TN (λj=>W.heap.size<=j) V n (.slice p n.c.length u)->fA E []=some n->Sa 14 #[dm n.k n.d (.slice p n.c.length u)] V (RD V E.length none)):=λn p u V ht hb=>by
  have ab:mV n=E:=by rw[(rm hb).1,(xv I).2]
  rw[<-hn];exact wh n p u V ht ab (by omega) f2
 have HF:Hid (∀(c:Int) V,c≠0->Sa 12 #[Tu c,.agg #[Tu 0,Tu 0,Tu 0]] V λr w'=>∃g,Uk r (pE g)/\w'.heap[g]?=some (ri c 0 0 0)/\V.heap.size<=g/\Below V.heap.size V w'):=λc V hc=>jv c 0 0 0 hc V
 clear hn hT hE I f2 ac aa M hsz;go_enter func5,ntmps5;(go_wp2_with fail);refine HR.out.mono ?_;rintro r Q⟨n,p,u,rfl,ht,J,H⟩;obtain⟨G,eV1⟩:=ea (Q.alloc (bj n.k n.d (.slice p n.c.length u)));obtain⟨Z,hg1⟩:=ea Q.heap.size;have hx:Below Q.heap.size Q G:=by rw[<-eV1];exact(gt _ _).alloc (ge _) _
 have O:Hid (Below W.heap.size W G/\TN (λj=>W.heap.size<=j) G n (.slice p n.c.length u)/\fA E []=some n):=⟨H.trans (hx.mono H.size),TN.kp (Kp.of_below (S:=λ_=>False) hx) (λ_ _ h=>h) n _ ht,J⟩;have hk:G.heap[Z]?=some (bj n.k n.d (.slice p n.c.length u)):=by rw[<-eV1,<-hg1];exact ak _ _
 obtain⟨⟨c0,c1,c2,c3,c4,c5,c6,c7⟩,cl⟩:=aC hk;dsimp only[bj]at eV1;clear ht J H hx hk HR;(go_wp2_with fail)
 try rw[eV1]
 try rw[hg1]
 clear eV1 hg1;(go_wp2_with fail);refine(HL.out n p u G O.out.2.1 O.out.2.2).mono ?_;rintro r w2⟨c,hc,rfl,y1⟩;have Y:Hid (Below W.heap.size W w2/\c≠0):=⟨O.out.1.trans (y1.mono O.out.1.size),hc⟩;clear y1 hc;(go_wp2_with fail);refine(HF.out c _ Y.out.2).mono ?_;rintro r w3⟨g,rfl,y4,y5,y6⟩;have H3:Hid (w3.heap[g]?=some (ri c 0 0 0)/\Below W.heap.size W w3):=⟨y4,Y.out.1.trans (y6.mono Y.out.1.size)⟩;clear y4 y5 y6;(go_wp2_with fail);refine R0 (v:=.tuple #[.slice none 0 0,pE g]) (by simp[results,Tryz.f5,go_sem]) rfl ?_;exact⟨g,c,0,0,0,trivial,rfl,H3.out.1,H3.out.2⟩
def CW (s:ByteArray) (hm:s.size<=maxLen):(∃E L,Fd s E L)\/∀W,Lx.pT W->mh W->Sa 5 #[.string s] W (MF W (.slice none 0 0) (λ_ _ _ _=>True)):=by
 by_cases h2:262144<s.size
 ·exact .inr λW _ _=>wi h2 hm
 ·obtain⟨E,code,a,I⟩:=IE (ib s) (.live [] 0) dU;have aa:=rP s
  have J:∀{W:World},Lx.pT W->mh W->(code=0/\((Lx.fY s).2.1:Int)≠0\/code=121/\a=(ib s).length)->Sa 5 #[.string s] W (MF W (.slice none 0 0) (λ_ _ _ _=>True)):=fun {W} G H h=>by
   refine pb (by omega) ((Fi G H (by omega) rfl (by omega) I h).mono ?_);rintro r w'⟨g,c,x,y,u,M,O,e3,Q⟩;exact⟨g,c,x,y,u,trivial,M,O,Q⟩
  by_cases hc:code=0
  ·subst hc
   by_cases Z:(Lx.fY s).2.1=0
   ·cases S:eX qB E with
    |none=>exact .inr λW G H=>CV (by omega) Z I S G H
    |some L=>exact .inl ⟨E,L,by omega,Z,⟨a,I⟩,S⟩
   ·exact .inr λW G H=>J G H (.inl ⟨rfl,by omega⟩)
  ·obtain⟨a1,a2⟩:=IG dU KL I hc
   by_cases Y:a=(ib s).length
   ·exact .inr λW G H=>J G H (.inr ⟨a1.2 Y,Y⟩)
   ·obtain⟨t,ht⟩:∃t,(ib s)[a]?=some t:=⟨_,Pi (by omega)⟩;refine .inr λW G H=>pb (by omega) ((Fh G H (by omega) rfl (by omega) I hc ht).mono ?_)
    rintro r w'⟨g,M,O,e3,Q⟩;exact⟨g,_,_,_,_,trivial,M,O,Q⟩
def L8 {d:Dc}(h:rt d=true):d.t.size<=9223372036854775807:=by
 cases Lw.gu h with
 |text t hq=>have:=(Lw.fN hq).2;show t.size<=_;omega
 |_=>show(bE).size<=_;exact RU _
def wJ (h:Fd s E L) {n:Int}(h1:1<=n) (h2:n<=4096) {W:World}(hT:Lx.pT W) (hW:Lw.gj W) (hE:mh W) :
  Sa 11 #[Tu n,.string s] W λr w'=>Uk r (.tuple #[.string (wo n L),.nilIface])/\Se W w':=by
 obtain⟨f1,f2,S,Y,Z,f6⟩:=pF h;have q1:¬(n<1):=by omega
 have q2:¬(n>4096):=by omega
 have hd:∀d∈L,d.t.size<=9223372036854775807:=λd hd=>L8 (Z d hd)
 have M:Lw.mQ n L=(wo n L,0):=by
  unfold Lw.mQ;rw[Eq (by omega),Eq (by rw[S];simp)]
 have HL:Hid (Sa 5 #[.string s] W λr w'=>∃p c,Uk r (.tuple #[.slice p L.length c,.nilIface])/\Lw.Lay w' p L/\Se W w'/\L.length<=100000000):=by
  refine(mH h hT hE).mono ?_;rintro r w'⟨p,c,rfl,H,I,J⟩;obtain⟨ao,cap,e1,e2,e3,_⟩:=Lw.Lay.row H hd;cases e1;exact⟨p,c,rfl,e3,I,J⟩
 obtain⟨T,G⟩:=ea (wo n L);rw[G]at M ⊢
 have HP:Hid (∀V p c,Lw.Lay V p L->L.length<=100000000->Se W V->Sa 7 #[Tu n,.slice p L.length c] V λe w'=>Uk e (.tuple #[.string T,Tu 0])/\Se V w'):=λV p c h h1 hb=>by
  have:=Lw.je n p L c V h (hW.below hb) h1 Y;rw[M]at this;exact this
 have HF:Hid (∀V,Sa 12 #[Tu 0,.agg #[Tu 0,Tu 0,Tu 0]] V λr w'=>Uk r .nilIface/\Se V w'):=λV=>rj 0 0 0 V
 clear h hT hE hW f1 f2 S Y Z f6 hd M G;go_enter func11,ntmps11;(go_wp2_with fail);refine HL.out.mono ?_;rintro r O⟨p,c,rfl,H,I,J⟩;have u:Hid (Lw.Lay O p L/\Se W O/\L.length<=100000000):=⟨H,I,J⟩;clear H I J;(go_wp2_with fail);refine(HP.out O p c u.out.1 u.out.2.2 u.out.2.1).mono ?_;rintro r w2⟨rfl,y4⟩;have Q:=aW (u.out.2.1.trans (y4.mono u.out.2.1.size));clear y4;(go_wp2_with fail);refine(HF.out _).mono ?_;rintro r w3⟨rfl,y5⟩;have H3:=aW (Q.out.trans (y5.mono Q.out.size));clear y5;(go_wp2_with fail);refine R0 (v:=.tuple #[.string T,.nilIface]) (by simp[results,Tryz.f11,go_sem]) rfl ?_;exact⟨rfl,H3.out⟩
def M6 (n:Nat) (s o:ByteArray):Bool:=
 decide (s.size<=1000)&&decide ((Lx.fY s).2.1=0)&&match ze (ib s) (.live [] 0)with
 |some (E,c,_)=>decide (c=0)&&match eX qB E with
  |some L=>decide (Lw.lq n L=o.data.toList)
  |none=>false
 |none=>false
abbrev O2:ByteArray:=⟨#[112,114,111,103,114,97,109,32,112,59,98,101,103,105,110,32,120,58,61,49,59,121,58,61,102,40,97,44,98,41,101,110,100,46]⟩
abbrev Nt:ByteArray:=⟨#[112,114,111,103,114,97,109,32,112,59,10,98,101,103,105,110,10,32,32,120,32,58,61,32,49,59,10,32,32,121,32,58,61,32,102,40,97,44,32,98,41,10,101,110,100,46,10]⟩
def O6:M6 20 O2 Nt=true:=by kernel_rfl
def JU {n:Nat}{o:ByteArray}(h:M6 n s o=true):∃E L,Fd s E L/\wo n L=o:=by
 unfold M6 at h;rw[Sf,Sf]at h;obtain⟨⟨I,J⟩,u⟩:=h;cases H:ze (ib s) (.live [] 0)with
 |none=>rw[H]at u;cases u
 |some x=>
  obtain⟨E,c,k⟩:=x;rw[H]at u;simp only at u;rw[Sf]at u;obtain⟨h5,h8⟩:=u;have hc:=SE h5;subst hc;cases G:eX qB E with
  |none=>rw[G]at h8;cases h8
  |some L=>
   rw[G]at h8;simp only at h8;have hsz:=SE I;refine⟨E,L,⟨by omega,SE J,⟨k,BF _ _ _ _ _ H⟩,G⟩,?_⟩;have:=SE h8;obtain⟨⟨y⟩⟩:=o;show(⟨(Lw.lq n L).toArray⟩:ByteArray)=_;rw[this]
def Gj (W:World) (J:Lx.pT W) (M:Lw.gj W) (I:mh W):Sa 4 #[] W λr w'=>Uk r (.bool true)/\Se W w':=by
 obtain⟨E,L,hF,O⟩:=JU O6
 have H:Hid (Sa 11 #[Tu 20,.string O2] W λr w'=>Uk r (.tuple #[.string Nt,.nilIface])/\Se W w'):=by
  have:=wJ hF (n:=20) (by decide) (by decide) J M I;have e:wo (20:Int) L=Nt:=O;rw[e]at this;exact this
 clear J M I hF O;go_enter func4,ntmps4;(go_wp2_with fail);refine H.out.mono ?_;rintro S Q⟨rfl,u⟩;have G:=aW u;clear u H;(go_wp2_with fail);go_ret;exact⟨rfl,G.out⟩
def AY {O:List UInt8}{t u:ByteArray}(h:O++kC t <+: kC u):O.length+t.size<=u.size/\u.extract O.length (O.length+t.size)=t:=by
 obtain⟨x,G⟩:=h;have hl:=Sh List.length G;rw[IO,IO,Lw.eY,Lw.eY]at hl;refine⟨by omega,?_⟩
 apply Lw.o6
 show(u.extract O.length (O.length+t.size)).data.toList=_;rw[Va];have e:u.data.toList=O++(kC t++x):=by rw[<-RW];exact G.symm
 have:(u.data.extract O.length (O.length+t.size)).toList=((u.data.toList.drop O.length).take t.size):=by simp[List.extract_eq_drop_take]
 rw[this,e,Vk,<-Lw.eY t,List.take_left]
def Gh (V:World):Lw.Lay V none []:=λj d h=>by simp at h
set_option maxRecDepth 100000 in
def uD (s:ByteArray) (n:Int) (hs:s.size<=maxLen) (W:World) (hT:Lx.pT W) (hW:Lw.gj W) (hE:mh W) :
  Sa 3 #[.string s,Tu n] W λr w'=>Uk r (.bool true)/\Se W w':=by
 have ag:=aW (Gj W hT hW hE)
 by_cases J:131072<s.size
 ·have q:(s.size:Int)>131072:=by omega
  clear hT hW hE J;go_enter func3,ntmps3;(go_wp2_with fail);refine ag.out.mono ?_;rintro r w1⟨rfl,H⟩;have H1:=aW H;clear H;(go_wp2_with fail);go_ret;exact⟨rfl,H1.out⟩
 have q:¬((s.size:Int)>131072):=by omega
 have hsz:s.size<=131072:=by omega
 clear J
 rcases CW s hs with⟨E,L,hF⟩|hX
 rotate_left
 ·have HX:=aW λV (J:Se W V)=>hX V (hT.below J) (hE.below J)
  have HN:Hid (∀V,Se W V->Sa 6 #[Tu n] V λe w'=>∃v c,Uk e (.tuple #[v,Tu c])/\Se V w'):=λV J=>by
   by_cases hn:n<1\/4096<n
   ·refine(Lw.tQ.bad n V hn (hW.below J)).mono ?_;rintro e w'⟨rfl,h⟩;exact⟨_,_,rfl,h⟩
   ·obtain⟨N,rfl⟩:∃N:Nat,n=(N:Int):=⟨n.toNat,by omega⟩;refine(Lw.Pl Lw.tQ N (by omega) (by omega) V V (hW.below J) (gt _ _)).mono ?_;rintro e w'⟨g,own,rfl,_,_,h⟩;exact⟨_,_,rfl,h⟩
  have HP:Hid (∀V,Se W V->Sa 7 #[Tu n,.slice none 0 0] V λe w'=>∃t c,Uk e (.tuple #[.string t,Tu c])/\Se V w'):=λV J=>by
   refine(Lw.je n none [] 0 V (Gh V) (hW.below J) (by decide) (by decide)).mono ?_;rintro e w'⟨rfl,h⟩;exact⟨_,_,rfl,h⟩
  clear hX hT hW hE;go_enter func3,ntmps3;(go_wp2_with fail);refine ag.out.mono ?_;rintro r w1⟨rfl,H⟩;have H1:=aW H;clear H;(go_wp2_with fail);refine(HX.out _ H1.out).mono ?_;rintro r w2⟨g,c,x,y,u,_,rfl,_,ar⟩;have M:=aW (H1.out.trans (ar.mono H1.out.size));clear ar;(go_wp2_with fail);refine(HN.out _ M.out).mono ?_;rintro r w3⟨v,k,rfl,aa⟩;have Z:=aW (M.out.trans (aa.mono M.out.size));clear aa;(go_wp2_with fail);refine(HP.out _ Z.out).mono ?_;rintro r w4⟨t,k2,rfl,Q⟩;have H4:=aW (Z.out.trans (Q.mono Z.out.size));clear Q;(go_wp2_with fail);go_ret;exact⟨rfl,H4.out⟩
 obtain⟨f1,f2,f3,f4,f5,f6⟩:=pF hF;have hd:∀d∈L,d.t.size<=9223372036854775807:=λd hd=>L8 (f5 d hd)
 have am:=hd
 have HL:Hid (∀V,Se W V->Sa 5 #[.string s] V λr w'=>∃p c,Uk r (.tuple #[.slice p L.length c,.nilIface])/\Lw.Lay w' p L/\Se V w'/\L.length<=100000000):=λV J=>by
  refine(mH hF (hT.below J) (hE.below J)).mono ?_;rintro r w'⟨p,c,rfl,y1,y2,y3⟩;obtain⟨ao,cap,e1,e2,e3,_⟩:=Lw.Lay.row y1 hd;cases e1;exact⟨p,c,rfl,e3,y2,y3⟩
 clear hF hT hE f1 f2 f5 f6 hs hd
 by_cases hn:n<1\/4096<n
 ·have HN:=aW λV (J:Se W V)=>Lw.tQ.bad n V hn (hW.below J)
  have HP:Hid (∀V p c,Se W V->Lw.Lay V p L->L.length<=100000000->Sa 7 #[Tu n,.slice p L.length c] V λe w'=>Uk e (.tuple #[.string ⟨#[]⟩,Tu 1])/\Se V w'):=λV p c J hl h1=>by
   have:=Lw.je n p L c V hl (hW.below J) h1 f4;rw[show Lw.mQ n L=(⟨#[]⟩,1)from Or hn]at this;exact this
  clear hn hW f3 f4 am;go_enter func3,ntmps3;(go_wp2_with fail);refine ag.out.mono ?_;rintro r w1⟨rfl,H⟩;have H1:=aW H;clear H;(go_wp2_with fail);refine(HL.out _ H1.out).mono ?_;rintro r w2⟨p,c,rfl,a1,a2,a3⟩;have M:Hid (Se W w2/\Lw.Lay w2 p L/\L.length<=100000000):=⟨H1.out.trans (a2.mono H1.out.size),a1,a3⟩;clear a1 a2 a3;(go_wp2_with fail);refine(HN.out _ M.out.1).mono ?_;rintro r w3⟨rfl,aa⟩;have Z:Hid (Se W w3/\Lw.Lay w3 p L/\L.length<=100000000):=⟨M.out.1.trans (aa.mono M.out.1.size),M.out.2.1.below aa,M.out.2.2⟩;clear aa M;(go_wp2_with fail);refine(HP.out _ p c Z.out.1 Z.out.2.1 Z.out.2.2).mono ?_;rintro r w4⟨rfl,Q⟩;have H4:=aW (Z.out.1.trans (Q.mono Z.out.1.size));clear Q Z;(go_wp2_with fail);go_ret;exact⟨rfl,H4.out⟩
 obtain⟨N,rfl⟩:∃N:Nat,n=(N:Int):=⟨n.toNat,by omega⟩;have bf:1<=N:=by omega
 have ad:N<=4096:=by omega
 obtain⟨WT,al⟩:∃WT:ByteArray,⟨(Lw.lq N L).toArray⟩=WT:=⟨_,rfl⟩;have an:kC WT=Lw.lq N L:=by rw[<-al];exact Lw.F9 _
 have ba:Hid (∀k s,Lw.od N (L.take k) s->s.pr.sk.out <+: kC WT):=λk s h=>by
  have:=Lw.JL h (L.drop k) (by rw[Tm];exact f3);rw[Tm,<-an]at this;exact this
 have az:Hid (∀s,Lw.od N L s->s.dp=0->(s.close N).2=0/\(s.close N).1.wt=[]/\(s.close N).1.pr.sk.out=kC WT):=λs h h0=>by
  obtain⟨e1,e2,e3,e4⟩:=Lw.Cb ad h h0;exact⟨e1,e3,by rw[e2,Lw.sD,an]⟩
 have ah:Hid (Lw.gj W/\bQ 0 0 L=none/\fF L<=2147483647/\∀d∈L,d.t.size<=9223372036854775807):=⟨hW,f3,f4,am⟩
 have HN:Hid (∀V,Se W V->Sa 6 #[Tu (N:Int)] V λe w'=>∃g own,Uk e (.tuple #[.pointer (some (Tw g 0)),Tu 0])/\Lw.A9 Lw.Rc V w' own g N Lw.JP):=λV J=>by
  refine(Lw.Pl Lw.tQ N bf ad V V (hW.below J) (gt _ _)).mono ?_;rintro e w'⟨g,own,rfl,h,_,_⟩;exact⟨_,_,rfl,h⟩
 have HP:Hid (∀V p c,Se W V->Lw.Lay V p L->L.length<=100000000->Sa 7 #[Tu (N:Int),.slice p L.length c] V λe w'=>Uk e (.tuple #[.string WT,Tu 0])/\Se V w'):=λV p c J hl h1=>by
  have:=Lw.je N p L c V hl (hW.below J) h1 f4;rw[show Lw.mQ N L=(WT,0)by unfold Lw.mQ;rw[Eq (by omega),Eq (by rw[f3];simp),<-al];rfl]at this;exact this
 clear hW f3 f4 am al an hn;go_enter func3,ntmps3;(go_wp2_with fail);refine ag.out.mono ?_;rintro r w1⟨rfl,H⟩;have H1:=aW H;clear H;(go_wp2_with fail);refine(HL.out _ H1.out).mono ?_;rintro r w2⟨p,c,rfl,a1,a2,a3⟩;have M:Hid (Se W w2/\Lw.Lay w2 p L/\L.length<=100000000):=⟨H1.out.trans (a2.mono H1.out.size),a1,a3⟩;clear a1 a2 a3 H1;(go_wp2_with fail);refine(HN.out _ M.out.1).mono ?_;rintro r w3⟨g,af,rfl,h3⟩;have Z:=aW h3;clear h3;(go_wp2_with fail);refine(HP.out _ p c (M.out.1.trans (Z.out.be.mono M.out.1.size)) (M.out.2.1.below Z.out.be) M.out.2.2).mono ?_;rintro r w4⟨rfl,Q⟩;have H4:=aW (Z.out.below Lw.tQ Q);clear Q Z;(go_wp2_with fail)
 go_loopw [12,13] (λv i wr=>∃k:Nat,k<=L.length/\i=Tu k/\Hid (∃own s,v=Tu (s.pr.sk.out.length:Nat)/\Lw.A9 Lw.Rc w2 wr own g N s/\Lw.od N (L.take k) s/\Lw.eS s (fF (L.take k)) k)) (λ_ i _=>L.length-(intOf i).toNat)
 case atStart=>exact⟨0,RU _,rfl,af,Lw.JP,rfl,H4.out,by rw[List.take_zero];exact Lw.O3 N,by rw[List.take_zero];exact Lw.eS.zero⟩
 case round=>
  obtain⟨k,hk,rfl,HI⟩:=hrel;obtain⟨own,s9,rfl,h9,hsin,hbu⟩:=HI.out;obtain⟨hz,hat⟩:=Lw.Ol ah.out.2.1 hsin hk;have ai:fF (L.take k)<=2147483647:=by have:=Lw.ot L k;have:=ah.out.2.2.1;omega
  have au:=M.out.2.2
  by_cases av:k<L.length
  ·have q1:(k:Int)<L.length:=by omega
   have q2:(0:Int)<=k:=by omega
   obtain⟨d,hd⟩:∃d,L[k]?=some d:=⟨_,Pi av⟩;have ap:L.take (k+1)=L.take k++[d]:=by rw[T2,hd];rfl
   have bg:=ah.out.2.2.2 d (SF hd);obtain⟨ht,b,bh,rfl,c0,c1,c2,c3,c4⟩:=(M.out.2.1.below h9.be) k d hd;obtain⟨he0,hsin'⟩:=Lw.zT ad hsin (hat d hd);have S:=hbu.put (N:=N) d;have ax:fF (L.take k)+ud d=fF (L.take (k+1)):=by rw[ap,Lw.D6]
   have bc:fF (L.take (k+1))<=2147483647:=by have:=Lw.ot L (k+1);have:=ah.out.2.2.1;omega
   rw[ax]at S;rw[<-ap]at hsin';have ac:=h9.put Lw.tQ ad hbu d (by omega) (by omega) (by omega);rw[he0]at ac;have G:=Lw.uE (s9.put_pre N d);obtain⟨s',ae⟩:=ea ((s9.put N d).1);rw[ae]at ac hsin' S G;have ay:=hsin'.len;rw[Sk]at ay;obtain⟨TL,hTL⟩:∃TL:ByteArray,⟨(s9.told s').toArray⟩=TL:=⟨_,rfl⟩;rw[hTL]at ac;have Y:kC TL=s9.told s':=by rw[<-hTL];exact Lw.F9 _
   rw[<-Y]at G;have bb:=S.outb;have I:=Sh List.length G;rw[IO,Lw.eY]at I;obtain⟨x1,x2⟩:=AY (by rw[<-G];exact ba.out _ _ hsin');obtain⟨wl,hwle⟩:=ea s'.wt.length;obtain⟨O,hO⟩:=ea s9.pr.sk.out.length;rw[hO]at I x1 x2 ⊢;have ak:Hid (Lw.od N (L.take (k+1)) s'/\Lw.eS s' (fF (L.take (k+1))) (k+1)/\s'.pr.sk.out.length=O+TL.size):=⟨hsin',S,I⟩
   have aq:Hid (Sa 8 #[.pointer (some (Tw g 0)),.agg #[.int .u8 d.k,.string d.t,Tu d.b,Tu d.i,.bool d.e]] wr λe w'=>Uk e (.tuple #[.string TL,Tu 0])/\Hid (∃own',Lw.A9 Lw.Rc w2 w' own' g N s')):=by
    refine ac.mono ?_;rintro e w'⟨rfl,own',a1,a2⟩;exact⟨rfl,own',a1⟩
   have aj:Hid (∀V,Hid (∃own',Lw.A9 Lw.Rc w2 V own' g N s')->Sa 9 #[.pointer (some (Tw g 0))] V λe w'=>Uk e (Tu (wl:Nat))/\Hid (∃own',Lw.A9 Lw.Rc w2 w' own' g N s')):=λV hV=>by
    obtain⟨own',h⟩:=hV.out;refine(h.held Lw.tQ (by omega)).mono ?_;rintro e w'⟨rfl,a1,a2⟩;exact⟨by rw[hwle],own',a1⟩
   have q3:¬((k:Int)+1<wl):=by omega
   have q4:¬((WT.size:Int)<(O:Int)+TL.size):=by omega
   have q5:wrap64 ((O:Int)+TL.size)=(O:Int)+TL.size:=by unfold wrap64;omega
   have Q8:=aW ((by unfold wrap64;omega:wrap64 ((k:Int)+1)=(k:Int)+1));clear HI h9 hsin hbu hz hat hd ap he0 hsin' S ax ac G ae ay hTL Y bb hwle ai bc hO I au;obtain⟨dk,dt,db,di,de⟩:=d;simp only at c0 c1 c2 c3 c4 aq
   go_wp2_with(first|(go_at_call 8;refine aq.out.mono ?_;rintro e w5⟨rfl,K5⟩)|(go_at_call 9;refine(aj.out _ K5).mono ?_;rintro e w6⟨rfl,K6⟩))
   all_goals try(exfalso;rename_i hh;rw[Q8.out]at hh;omega)
   obtain⟨bd,k6⟩:=K6.out;exact⟨⟨k+1,av,by rw[Q8.out];rfl,bd,s',by rw[ak.out.2.2,q5];rfl,k6,ak.out.1,ak.out.2.1⟩,by rw[Q8.out];simp[intOf];omega⟩
  ·obtain rfl:k=L.length:=by omega
   have q1:¬((L.length:Int)<L.length):=by omega
   rw[Te]at hsin hbu ai;obtain⟨e1,e3,e2⟩:=az.out s9 hsin (hz rfl);have ab:=h9.close Lw.tQ ad hbu ai (by omega);rw[e1]at ab;have G:=Lw.uE (s9.close_pre N);rw[e2]at G;obtain⟨s',ae⟩:=ea ((s9.close N).1);rw[ae]at ab G e3;obtain⟨TL,hTL⟩:∃TL:ByteArray,⟨(s9.told s').toArray⟩=TL:=⟨_,rfl⟩;rw[hTL]at ab;have Y:kC TL=s9.told s':=by rw[<-hTL];exact Lw.F9 _
   rw[<-Y]at G;have I:=Sh List.length G;rw[IO,Lw.eY,Lw.eY]at I;obtain⟨x1,x2⟩:=AY (t:=TL) (by rw[<-G];exact Sw _);have aw:=(hbu.close (N:=N)).outb;rw[e2,Lw.eY]at aw;obtain⟨O,hO⟩:=ea s9.pr.sk.out.length;rw[hO]at I x1 x2 ⊢
   have be:Hid (Sa 10 #[.pointer (some (Tw g 0))] wr λe w'=>Uk e (.tuple #[.string TL,Tu 0])/\Hid (∃own',Lw.A9 Lw.Rc w2 w' own' g N s')):=by
    refine ab.mono ?_;rintro e w'⟨rfl,own',a1,a2⟩;exact⟨rfl,own',a1⟩
   have aj:Hid (∀V,Hid (∃own',Lw.A9 Lw.Rc w2 V own' g N s')->Sa 9 #[.pointer (some (Tw g 0))] V λe w'=>Uk e (Tu 0)/\Se W w'):=λV hV=>by
    obtain⟨own',h⟩:=hV.out;refine(h.held Lw.tQ (by rw[e3];decide)).mono ?_;rintro e w'⟨rfl,a1,a2⟩;exact⟨by rw[e3];rfl,M.out.1.trans (a1.be.mono M.out.1.size)⟩
   have q5:wrap64 ((O:Int)+TL.size)=WT.size:=by unfold wrap64;omega
   clear HI h9 hsin hbu hz hat e1 e2 e3 ab G ae hTL Y aw hO ai au
   go_wp2_with(first|(go_at_call 10;refine be.out.mono ?_;rintro e w5⟨rfl,K5⟩)|(go_at_call 9;refine(aj.out _ K5).mono ?_;rintro e w6⟨rfl,K6⟩))
   all_goals try(exfalso;rename_i hh;omega)
   go_ret;exact⟨rfl,K6⟩
