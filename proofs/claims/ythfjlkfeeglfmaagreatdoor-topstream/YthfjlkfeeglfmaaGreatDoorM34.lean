import Derived.Test.YthfjlkfeeglfmaaGreatDoorM07
import Derived.Test.YthfjlkfeeglfmaaGreatDoorM33
set_option linter.all false
set_option maxHeartbeats 2000000
set_option maxRecDepth 100000
namespace Go.Proofs.YthfjlkfeeglfmaaGreatDoor
open Go.RowKit
variable {s:ByteArray}{W:World}
abbrev ib (s:ByteArray):List Tv:=(Lx.fY s).1.map (Lx.tv s)
def qI (M:Lx.pT W) (S:s.size<=2147483647) {T:List Tv}(G:ib s=T) {z:Int}(Y:(Lx.fY s).2.1=z) :
  Sa 28 #[.string s] W λe w'=>∃p c x y u,Uk e (.tuple #[.slice p T.length c,Tu z,.agg #[Tu x,Tu y,Tu u]])/\Lt w' p T/\Below W.heap.size W w':=by
 refine(Lx.LU s W M S).mono ?_;rintro e w'⟨⟨v,rfl,Q⟩,O⟩;rw[Y];have H:Rt W.heap.size w' v T:=by rw[<-G];exact Q
 obtain⟨p,c,I,J,_⟩:=Lt.row H;subst I;exact⟨p,c,_,_,_,rfl,J,O⟩
abbrev Kh (x y z:Int):Obj:=.cells #[Tu x,Tu y,Tu z] 45
abbrev Mc (p:Option Addr):Obj:=.cells #[.pointer p] 86
def OR (W:World) (r:Ending) (w':World):Prop:=∃g c x y u,Uk r (.tuple #[dm 0 av (.slice none 0 0),pE g])/\w'.heap[g]?=some (ri c x y u)/\W.heap.size<=g/\Below W.heap.size W w'
def RdG (W:World) (X:bF->Prop) (r:Ending) (w':World):Prop:=∃n p cv,Uk r (.tuple #[dm n.k n.d (.slice p n.c.length cv),.nilIface])/\TN (λj=>W.heap.size<=j) w' n (.slice p n.c.length cv)/\X n/\Below W.heap.size W w'
def RR (W:World) (A B:Prop) (X:bF->Prop) (r:Ending) (w':World):Prop:=(A/\OR W r w')\/(B/\RdG W X r w')
def FlP (V:World) (c x y u:Int) (r:Ending) (w':World):Prop:=∃g,Uk r (pE g)/\w'.heap[g]?=some (ri c x y u)/\V.heap.size<=g/\Below V.heap.size V w'
def su (hT:Lx.pT W) (hE:mh W) (hs:s.size<=1000000000) {z:Int}(hz:(Lx.fY s).2.1=z) {ev:Value}{X:bF->Prop}{A B:Prop}
  (ac:∀V p c,Lt V p (ib s)->Sa 29 #[.slice p (ib s).length c] V (λr w'=>∃n p J,Uk r (.tuple #[dm n.k n.d (.slice p n.c.length J),ev])/\TN (λj=>V.heap.size<=j) w' n (.slice p n.c.length J)/\X n/\Below V.heap.size V w'))
  (am:∀V b,mh V->V.heap[b]?=some (Mc none)->Sa 30 #[ev,.iface 94 (.pointer (some (Tw b 0)))] V λe w'=>Uk e (.bool false)/\Below V.heap.size V w')
  (az:(z≠0/\A)\/(z=0/\s.size<=2147483647/\A/\∀V,Sa 31 #[ev,.iface 29 (Tu 121)] V λe w'=>Uk e (.bool true)/\w'=V)\/(z=0/\B/\∀V,Sa 31 #[ev,.iface 29 (Tu 121)] V λe w'=>Uk e (.bool false)/\w'=V)) :
  Sa 13 #[.string s] W (RR W A B X):=by
 obtain⟨T,ad⟩:=ea (ib s);obtain⟨W0,e0⟩:=ea (W.alloc (bj 0 av (.slice none 0 0)));have h0:Below W.heap.size W W0:=by rw[<-e0];exact(gt _ _).alloc (ge _) _
 have au:W0.heap.size=W.heap.size+1:=by rw[<-e0];simp
 have an:W0.heap[W.heap.size]?=some (bj 0 av (.slice none 0 0)):=by rw[<-e0];exact ak _ _
 obtain⟨g,hg⟩:=ea W.heap.size;have HS:=aW (qI (hT.below h0) (by omega) ad hz);have H0:Hid (Below W.heap.size W W0/\W0.heap.size=g+1/\W0.heap[g]?=some (bj 0 av (.slice none 0 0))/\mh W0):=by rw[<-hg];exact⟨h0,au,an,hE.below h0⟩
 rw[ad]at ac;have ay:=aW ac;have aw:=aW am;have HF:=aW λV c x y u (h:c≠0)=>jv c x y u h V
 have ax:Hid (∀V,s.size<=2147483647->Sa 32 #[.string s,Tu (s.size:Nat)] V λe w'=>∃x y u,Uk e (.tuple #[.agg #[Tu x,Tu y,Tu u],Tu 0])/\Below V.heap.size V w'):=λV h=>(Lx.Pe s s.size V h (ge _)).mono (λe w' ⟨a1,a2⟩=>⟨_,_,_,a1,a2⟩)
 clear am;dsimp only[bj,av]at e0;clear h0 au an hT hE ad ac hs hz;go_enter Tryz.func13,Tryz.ntmps13;(go_wp2_with fail)
 try rw[e0]
 try rw[hg]
 clear e0;refine HS.out.mono ?_;rintro e w1⟨p,c,x,y,u,rfl,hL,ae⟩;obtain⟨H,eV1⟩:=ea (w1.alloc (Kh x y u));obtain⟨g1,hg1⟩:=ea w1.heap.size
 have H1:Hid (Below W0.heap.size W0 H/\H.heap[g1]?=some (Kh x y u)/\Lt H p T):=by
  have hx:Below w1.heap.size w1 H:=by rw[<-eV1];exact(gt _ _).alloc (ge _) _
  exact⟨ae.trans (hx.mono ae.size),by rw[<-eV1,<-hg1];exact ak _ _,hL.below hx⟩
 clear hL ae HS;(go_wp2_with fail)
 try rw[eV1]
 try rw[hg1]
 clear eV1 hg1;refine(ay.out _ _ _ H1.out.2.2).mono ?_;rintro e w2⟨n,pn,J,rfl,ht,ap,ab⟩;obtain⟨Q,eV3⟩:=ea ((w2.alloc (bj n.k n.d (.slice pn n.c.length J))).alloc (Mc none));obtain⟨g2,hg2⟩:=ea w2.heap.size
 have H3:Hid (Below H.heap.size H Q/\Q.heap[g2]?=some (bj n.k n.d (.slice pn n.c.length J))/\Q.heap[g2+1]?=some (Mc none)/\Q.heap[g]?=some (bj 0 av (.slice none 0 0))/\Q.heap[g1]?=some (Kh x y u)/\mh Q/\Below w2.heap.size w2 Q/\g<H.heap.size/\g1<H.heap.size/\H.heap.size<=g2):=by
  have aq:Below w2.heap.size w2 (w2.alloc (bj n.k n.d (.slice pn n.c.length J))):=(gt _ _).alloc (ge _) _;have ar:Below (w2.alloc (bj n.k n.d (.slice pn n.c.length J))).heap.size (w2.alloc (bj n.k n.d (.slice pn n.c.length J))) Q:=by rw[<-eV3];exact(gt _ _).alloc (ge _) _
  have hx:Below w2.heap.size w2 Q:=aq.trans (ar.mono aq.size);have hy:Below H.heap.size H Q:=ab.trans (hx.mono ab.size);have hw:Below W0.heap.size W0 Q:=H1.out.1.trans (hy.mono H1.out.1.size);refine⟨hy,af (by rw[<-hg2];exact ak _ _) ar,?_,af H0.out.2.2.1 hw,af H1.out.2.1 hy,H0.out.2.2.2.below hw,hx,R4 (ai H0.out.2.2.1) H1.out.1.size,ai H1.out.2.1,by rw[<-hg2];exact ab.size⟩;have hn:=ak (w2.alloc (bj n.k n.d (.slice pn n.c.length J))) (Mc none);rw[eV3,RT,hg2]at hn;exact hn
 have al:Hid (Below W.heap.size W Q):=by
  have M:Below W0.heap.size W0 Q:=H1.out.1.trans (H3.out.1.mono H1.out.1.size);exact H0.out.1.trans (M.mono H0.out.1.size)
 have aj:Hid (TN (λj=>H.heap.size<=j) Q n (.slice pn n.c.length J)/\X n):=⟨TN.kp (Kp.of_below (S:=λ_=>False) H3.out.2.2.2.2.2.2.1) (λ_ _ h=>h) n _ ht,ap⟩;dsimp only[bj]at eV3;clear ab ht ap;(go_wp2_with fail)
 try rw[hg2]
 try rw[eV3]
 clear eV3 hg2;refine(aw.out _ _ H3.out.2.2.2.2.2.1 H3.out.2.2.1).mono ?_;rintro e w5⟨rfl,Y⟩;have I:Hid (Below H.heap.size H w5/\Below W.heap.size W w5/\w5.heap[g]?=some (bj 0 av (.slice none 0 0))/\w5.heap[g1]?=some (Kh x y u)/\w5.heap[g2]?=some (bj n.k n.d (.slice pn n.c.length J))/\TN (λj=>H.heap.size<=j) w5 n (.slice pn n.c.length J)):=⟨H3.out.1.trans (Y.mono H3.out.1.size),al.out.trans (Y.mono al.out.size),af H3.out.2.2.2.1 Y,af H3.out.2.2.2.2.1 Y,af H3.out.2.1 Y,TN.kp (Kp.of_below (S:=λ_=>False) Y) (λ_ _ h=>h) n _ aj.out.1⟩;clear Y
 have ah:Hid (∀w6 g5 c x y u,w6.heap[g5]?=some (ri c x y u)->Below W.heap.size W w6->w6.heap[g]?=some (bj 0 av (.slice none 0 0))->w5.heap.size<=g5->∀G,aH w6 g 0 av (.slice none 0 0)=G->OR W (.returned (.tuple #[dm 0 av (.slice none 0 0),pE g5])) G/\G.heap[g]?=some (bj 0 av (.slice none 0 0))):=by
  intro w6 g5 c x y u k1 k2 k3 k4 G Z;have M:=Cv (W:=W) (g:=g) k3 k2 (by omega) 0 av (.slice none 0 0);rw[Z]at M;refine⟨⟨g5,c,x,y,u,rfl,?_,by have:=I.out.1.size;have:=H1.out.1.size;have:=H0.out.2.1;omega,M.2.1⟩,M.1⟩;rw[M.2.2.block g5 (ai k1) (λe=>by have e':g5=g:=e;have:=I.out.1.size;have:=H3.out.2.2.2.2.2.2.2;omega)];exact k1
 rcases az with⟨hz,hA⟩|⟨hz,ba,hA,hI⟩|⟨hz,hB,hI⟩
 ·have q5:(z != 0)=true:=by simpa using hz
  have HZ:=aW hz;have HA:Hid A:=hA;have y0:w5.cell? (Tw g1 0)=some (Tu x):=aa I.out.2.2.2.1 rfl;have y1:w5.cell? (Tw g1 1)=some (Tu y):=aa I.out.2.2.2.1 rfl;have y2:w5.cell? (Tw g1 2)=some (Tu u):=aa I.out.2.2.2.1 rfl;clear hz hA
  go_wp2_with(go_at_call 12;refine(HF.out _ _ _ _ _ HZ.out).mono ?_;rintro r w6⟨g5,rfl,z1,z2,z3⟩;have H6:Hid (w6.heap[g]?=some (bj 0 av (.slice none 0 0))/\∀G,aH w6 g 0 av (.slice none 0 0)=G->OR W (.returned (.tuple #[dm 0 av (.slice none 0 0),pE g5])) G/\G.heap[g]?=some (bj 0 av (.slice none 0 0))):=⟨af I.out.2.2.1 z3,ah.out _ _ _ _ _ _ z1 (I.out.2.1.trans (z3.mono I.out.2.1.size)) (af I.out.2.2.1 z3) z2⟩;clear z1 z2 z3;obtain⟨⟨r0,r1,r2,r3,r4,r5,r6,r7⟩,rl⟩:=aC H6.out.1;obtain⟨f0,f1,f2,f3,f4,f5,f6,f7⟩:=bw H6.out.1)
  obtain⟨G,Z⟩:=ea (aH w6 g 0 av (.slice none 0 0));have M:=H6.out.2 G Z;dsimp only[aH,av]at Z;rw[Z];obtain⟨⟨x0,x1,x2,x3,x4,x5,x6,x7⟩,xl⟩:=aC M.2;refine R0 (v:=.tuple #[dm 0 av (.slice none 0 0),pE g5]) (by simp[results,Tryz.f13,go_sem,x0,x1,x2,x3,x4,x5,x6,x7]) rfl ?_;exact .inl ⟨HA.out,M.1⟩
 ·subst hz;have HI:=aW hI;have HA:Hid A:=hA;clear hI hA;(go_wp2_with fail);refine(HI.out _).mono ?_;rintro e w'⟨rfl,hw⟩;replace hw:=hw.symm;subst hw;(go_wp2_with fail);refine(ax.out _ ba).mono ?_;rintro e w7⟨xo,yo,uo,rfl,ag⟩;obtain⟨V7,eV7⟩:=ea (w7.alloc (Kh xo yo uo));obtain⟨g7,hg7⟩:=ea w7.heap.size
  have H7:Hid (Below w5.heap.size w5 V7/\V7.heap[g7]?=some (Kh xo yo uo)):=by
   have hx:Below w7.heap.size w7 V7:=by rw[<-eV7];exact(gt _ _).alloc (ge _) _
   exact⟨ag.trans (hx.mono ag.size),by rw[<-eV7,<-hg7];exact ak _ _⟩
  have y0:V7.cell? (Tw g7 0)=some (Tu xo):=aa H7.out.2 rfl;have y1:V7.cell? (Tw g7 1)=some (Tu yo):=aa H7.out.2 rfl;have y2:V7.cell? (Tw g7 2)=some (Tu uo):=aa H7.out.2 rfl;clear ag;(go_wp2_with fail)
  try rw[eV7]
  try rw[hg7]
  clear eV7 hg7
  go_wp2_with(go_at_call 12;refine(HF.out _ _ _ _ _ (by decide)).mono ?_;rintro r w6⟨g5,rfl,z1,z2,z3⟩;have z4:=H7.out.1.trans (z3.mono H7.out.1.size);have H6:Hid (w6.heap[g]?=some (bj 0 av (.slice none 0 0))/\∀G,aH w6 g 0 av (.slice none 0 0)=G->OR W (.returned (.tuple #[dm 0 av (.slice none 0 0),pE g5])) G/\G.heap[g]?=some (bj 0 av (.slice none 0 0))):=⟨af I.out.2.2.1 z4,ah.out _ _ _ _ _ _ z1 (I.out.2.1.trans (z4.mono I.out.2.1.size)) (af I.out.2.2.1 z4) (PI H7.out.1.size z2)⟩;clear z1 z2 z3 z4;obtain⟨⟨r0,r1,r2,r3,r4,r5,r6,r7⟩,rl⟩:=aC H6.out.1;obtain⟨f0,f1,f2,f3,f4,f5,f6,f7⟩:=bw H6.out.1)
  obtain⟨G,Z⟩:=ea (aH w6 g 0 av (.slice none 0 0));have M:=H6.out.2 G Z;dsimp only[aH,av]at Z;rw[Z];obtain⟨⟨x0,x1,x2,x3,x4,x5,x6,x7⟩,xl⟩:=aC M.2;refine R0 (v:=.tuple #[dm 0 av (.slice none 0 0),pE g5]) (by simp[results,Tryz.f13,go_sem,x0,x1,x2,x3,x4,x5,x6,x7]) rfl ?_;exact .inl ⟨HA.out,M.1⟩
 ·subst hz;have HI:=aW hI;obtain⟨⟨c0,c1,c2,c3,c4,c5,c6,c7⟩,cl⟩:=aC I.out.2.2.2.2.1;obtain⟨⟨r0,r1,r2,r3,r4,r5,r6,r7⟩,rl⟩:=aC I.out.2.2.1;obtain⟨f0,f1,f2,f3,f4,f5,f6,f7⟩:=bw I.out.2.2.1;have HB:Hid B:=hB;clear hI hB;(go_wp2_with fail);refine(HI.out _).mono ?_;rintro e w'⟨rfl,hw⟩;replace hw:=hw.symm;subst hw;(go_wp2_with fail);have M:=Cv (W:=W) (g:=g) I.out.2.2.1 I.out.2.1 (by omega) n.k n.d (.slice pn n.c.length J);obtain⟨G,Z⟩:=ea (aH w5 g n.k n.d (.slice pn n.c.length J));rw[Z]at M;dsimp only[aH]at Z;rw[Z];obtain⟨⟨x0,x1,x2,x3,x4,x5,x6,x7⟩,xl⟩:=aC M.1;refine R0 (v:=.tuple #[dm n.k n.d (.slice pn n.c.length J),.nilIface]) (by simp[results,Tryz.f13,go_sem,x0,x1,x2,x3,x4,x5,x6,x7]) rfl ?_;have hq:=H3.out.2.2.2.2.2.2.2.1;have hV:=H1.out.1.size;have bb:=H0.out.2.1;refine .inr ⟨HB.out,n,pn,J,rfl,TN.sub (O:=λj=>H.heap.size<=j) (λk _ h=>?_) n _ (TN.kp M.2.2 (λk h e=>?_) n _ I.out.2.2.2.2.2),aj.out.2,M.2.1⟩
  ·show W.heap.size<=k;have h':H.heap.size<=k:=h;omega
  ·have h':H.heap.size<=k:=h;have e':k=g:=e;omega
def qL (J:Lx.pT W) (I:mh W) (O:s.size<=1000000000) {z:Int}(Q:(Lx.fY s).2.1=z) (hl:(ib s).length<=4194304) {E:List Ev}{a:Nat}(M:gM (.live [] 0) (ib s) E 0 a) (u:z=0):Sa 13 #[.string s] W (Qq W E):=by
 refine(su J I O Q (ev:=.nilIface) (X:=λn=>fA E []=some n) (A:=False) (B:=True) (λV p c h=>py h hl M) (λV b _ _=>(Iw _ _).mono (λr w' ⟨G,H⟩=>⟨G,by rw[H];exact gt _ _⟩)) (.inr (.inr ⟨u,trivial,λV=>NQ 121 V⟩))).mono ?_;rintro r w' (⟨h,_⟩|⟨_,h⟩)
 ·exact h.elim
 ·exact h
def Fi (J:Lx.pT W) (I:mh W) (hs:s.size<=2147483) {z:Int}(O:(Lx.fY s).2.1=z) (hl:(ib s).length<=4194304) {E:List Ev}{a:Nat}{code:Int}(M:gM (.live [] 0) (ib s) E code a) (hc:code=0/\z≠0\/code=121/\a=(ib s).length):Sa 13 #[.string s] W (OR W):=by
 have u:∀{ev:Value} {X:bF->Prop},Sa 13 #[.string s] W (RR W True False X)->Sa 13 #[.string s] W (OR W):=λh=>h.mono (by
  rintro r w' (⟨_,h⟩|⟨h,_⟩)
  ·exact h
  ·exact h.elim)
 rcases hc with⟨rfl,G⟩|⟨rfl,H⟩
 ·exact u (ev:=.nilIface) (su J I (by omega) O (ev:=.nilIface) (X:=λn=>fA E []=some n) (λV p c h=>py h hl M) (λV b _ _=>(Iw _ _).mono (λr w' ⟨Q,S⟩=>⟨Q,by rw[S];exact gt _ _⟩)) (.inl ⟨G,trivial⟩))
 ·refine u (ev:=.nilIface) (su J I (by omega) O (ev:=.iface 29 (Tu 121)) (X:=λ_=>True) (λV p c h=>(Df h hl M (by decide) H).mono (λr w' ⟨Y,Z⟩=>⟨.mk 0 av [],none,0,Y,lx _ _ _ _,trivial,Z⟩)) (λV b h1 h2=>LR _ _ (.pointer none) _ h1 (aa h2 rfl)) ?_)
  by_cases G:z=0
  ·exact .inr (.inl ⟨G,by omega,trivial,λV=>NR 121 V⟩)
  ·exact .inl ⟨G,trivial⟩
def Fg (hT:Lx.pT W) (hE:mh W) (hs:s.size<=1000000000) {z:Int}(hz:(Lx.fY s).2.1=z) {code:Int}{t:Tv}(ad:∀V p c,Lt V p (ib s)->Sa 29 #[.slice p (ib s).length c] V (λr w'=>∃g,Uk r (.tuple #[dm 0 av (.slice none 0 0),pE g])/\w'.heap[g]?=some (ri code t.a t.l t.c)/\V.heap.size<=g/\Below V.heap.size V w')) :
  Sa 13 #[.string s] W λr w'=>∃g,Uk r (.tuple #[dm 0 av (.slice none 0 0),pE g])/\w'.heap[g]?=some (ri code t.a t.l t.c)/\W.heap.size<=g/\Below W.heap.size W w':=by
 obtain⟨T,ae⟩:=ea (ib s);obtain⟨W0,e0⟩:=ea (W.alloc (bj 0 av (.slice none 0 0)));have h0:Below W.heap.size W W0:=by rw[<-e0];exact(gt _ _).alloc (ge _) _
 have au:W0.heap.size=W.heap.size+1:=by rw[<-e0];simp
 have an:W0.heap[W.heap.size]?=some (bj 0 av (.slice none 0 0)):=by rw[<-e0];exact ak _ _
 obtain⟨g,hg⟩:=ea W.heap.size;have HS:=aW (qI (hT.below h0) (by omega) ae hz);have H0:Hid (Below W.heap.size W W0/\W0.heap.size=g+1/\W0.heap[g]?=some (bj 0 av (.slice none 0 0))/\mh W0):=by rw[<-hg];exact⟨h0,au,an,hE.below h0⟩
 rw[ae]at ad;have ba:=aW ad;dsimp only[bj,av]at e0;clear h0 au an hT hE ae ad hs hz;go_enter Tryz.func13,Tryz.ntmps13;(go_wp2_with fail)
 try rw[e0]
 try rw[hg]
 clear e0;refine HS.out.mono ?_;rintro e w1⟨p,c,x,y,u,rfl,hL,ah⟩;obtain⟨H,eV1⟩:=ea (w1.alloc (Kh x y u));obtain⟨g1,hg1⟩:=ea w1.heap.size
 have S:Hid (Below W0.heap.size W0 H/\H.heap[g1]?=some (Kh x y u)/\Lt H p T):=by
  have hx:Below w1.heap.size w1 H:=by rw[<-eV1];exact(gt _ _).alloc (ge _) _
  exact⟨ah.trans (hx.mono ah.size),by rw[<-eV1,<-hg1];exact ak _ _,hL.below hx⟩
 clear hL ah HS;(go_wp2_with fail)
 try rw[eV1]
 try rw[hg1]
 clear eV1 hg1;refine(ba.out _ _ _ S.out.2.2).mono ?_;rintro e w2⟨I,rfl,al,ap,Z⟩;obtain⟨G,eV3⟩:=ea ((w2.alloc (bj 0 av (.slice none 0 0))).alloc (Mc none));obtain⟨J,hg2⟩:=ea w2.heap.size
 have O:Hid (Below H.heap.size H G/\G.heap[J]?=some (bj 0 av (.slice none 0 0))/\G.heap[J+1]?=some (Mc none)/\G.heap[g]?=some (bj 0 av (.slice none 0 0))/\G.heap[g1]?=some (Kh x y u)/\mh G/\Below w2.heap.size w2 G/\g<H.heap.size/\g1<H.heap.size/\H.heap.size<=J):=by
  have aq:Below w2.heap.size w2 (w2.alloc (bj 0 av (.slice none 0 0))):=(gt _ _).alloc (ge _) _;have ar:Below (w2.alloc (bj 0 av (.slice none 0 0))).heap.size (w2.alloc (bj 0 av (.slice none 0 0))) G:=by rw[<-eV3];exact(gt _ _).alloc (ge _) _
  have hx:Below w2.heap.size w2 G:=aq.trans (ar.mono aq.size);have hy:Below H.heap.size H G:=Z.trans (hx.mono Z.size);have hw:Below W0.heap.size W0 G:=S.out.1.trans (hy.mono S.out.1.size);refine⟨hy,af (by rw[<-hg2];exact ak _ _) ar,?_,af H0.out.2.2.1 hw,af S.out.2.1 hy,H0.out.2.2.2.below hw,hx,R4 (ai H0.out.2.2.1) S.out.1.size,ai S.out.2.1,by rw[<-hg2];exact Z.size⟩;have hn:=ak (w2.alloc (bj 0 av (.slice none 0 0))) (Mc none);rw[eV3,RT,hg2]at hn;exact hn
 have ac:Hid (Below W.heap.size W G):=by
  have h9:Below W0.heap.size W0 G:=S.out.1.trans (O.out.1.mono S.out.1.size);exact H0.out.1.trans (h9.mono H0.out.1.size)
 have H5:Hid (G.heap[I]?=some (ri code t.a t.l t.c)/\H.heap.size<=I/\I<J):=⟨af al O.out.2.2.2.2.2.2.1,ap,by rw[<-hg2];exact ai al⟩;have ay:Hid (Sa 30 #[pE I,.iface 94 (.pointer (some ⟨J+1,0,none⟩))] G λev w'=>Uk ev (.bool true)/\∃w1,Below G.heap.size G w1/\w'=w1.setCell ⟨J+1,0,none⟩ (.pointer (some (Tw I 0)))):=OA _ _ (.pointer none) _ O.out.2.2.2.2.2.1 (aa O.out.2.2.1 rfl) (aj O.out.2.2.1);dsimp only[bj]at eV3;clear al ap Z;(go_wp2_with fail)
 try rw[hg2]
 try rw[eV3]
 clear eV3 hg2;refine ay.out.mono ?_;rintro e w5⟨rfl,w6,M,Q⟩
 have ab:w5.heap[g]?=some (bj 0 av (.slice none 0 0)):=by
  rw[Q];exact az (af O.out.2.2.2.1 M) (by have:=O.out;omega) _
 have am:w5.heap[I]?=some (ri code t.a t.l t.c):=by
  rw[Q];exact az (af H5.out.1 M) (by have:=H5.out;omega) _
 have aw:w5.cell? ⟨J+1,0,none⟩=some (.pointer (some (Tw I 0))):=by
  rw[Q];exact aa (ag (af O.out.2.2.1 M) 0 _) (by simp)
 have ax:Below W.heap.size W w5:=by
  rw[Q];exact Kp.low (ac.out.trans (M.mono ac.out.size)) (Kp.set _ _ _ _) (λk e=>by subst e;have:=O.out;have:=S.out.1.size;have:=H0.out.2.1;omega) (PI ac.out.size M.size)
 have h9:=Cv (W:=W) (g:=g) ab ax (by omega) 0 av (.slice none 0 0)
 have bb:(aH w5 g 0 av (.slice none 0 0)).cell? ⟨J+1,0,none⟩=some (.pointer (some (Tw I 0))):=by
  have hb:=h9.2.2.block (J+1) (RV _ _ aw) (λe=>by have e':J+1=g:=e;have:=O.out;omega);exact(RX (a:=⟨J+1,0,none⟩) hb).trans aw
 have H9:Hid (∀Y,aH w5 g 0 av (.slice none 0 0)=Y->Below W.heap.size W Y.drew/\Y.drew.heap[I]?=some (ri code t.a t.l t.c)/\W.heap.size<=I/\Y.drew.heap[g]?=some (bj 0 av (.slice none 0 0))):=λY ez=>by
  subst ez;refine⟨h9.2.1.drew,?_,by have:=H5.out;have:=S.out.1.size;have:=H0.out.2.1;omega,af h9.1 (gt _ _).drew⟩;refine af ?_ (gt _ _).drew;rw[h9.2.2.block I (ai am) (λe=>by have e':I=g:=e;have:=H5.out;have:=O.out;omega)];exact am
 obtain⟨⟨r0,r1,r2,r3,r4,r5,r6,r7⟩,rl⟩:=aC ab;obtain⟨f0,f1,f2,f3,f4,f5,f6,f7⟩:=bw ab;dsimp only[aH,av]at bb;clear Q ab am ax h9 M;(go_wp2_with fail)
 go_region_law (fail)
 all_goals(
  (go_wp2_with fail);obtain⟨Y,ez⟩:=ea (aH w5 g 0 av (.slice none 0 0));obtain⟨k1,k2,k3,k4⟩:=H9.out Y ez;dsimp only[aH,av]at ez;rw[ez];obtain⟨⟨x0,x1,x2,x3,x4,x5,x6,x7⟩,xl⟩:=aC k4;refine R0 (v:=.tuple #[dm 0 av (.slice none 0 0),pE I]) (by simp[results,Tryz.f13,go_sem,x0,x1,x2,x3,x4,x5,x6,x7]) rfl ?_;exact⟨I,rfl,k2,k3,k1⟩)
def Fh (H:Lx.pT W) (G:mh W) (J:s.size<=1000000000) {z:Int}(M:(Lx.fY s).2.1=z) (hl:(ib s).length<=4194304) {E:List Ev}{a:Nat}{code:Int}(I:gM (.live [] 0) (ib s) E code a) (hc:code≠0) {t:Tv}(u:(ib s)[a]?=some t) :
  Sa 13 #[.string s] W λr w'=>∃g,Uk r (.tuple #[dm 0 av (.slice none 0 0),pE g])/\w'.heap[g]?=some (ri code t.a t.l t.c)/\W.heap.size<=g/\Se W w':=Fg H G J M (λV p c h=>Dg h hl I hc u)
