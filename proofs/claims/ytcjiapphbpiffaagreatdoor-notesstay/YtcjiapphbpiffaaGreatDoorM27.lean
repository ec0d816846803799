import Derived.Test.YtcjiapphbpiffaaGreatDoorM08
import Derived.Test.YtcjiapphbpiffaaGreatDoorM26
set_option linter.unusedVariables false
set_option linter.unusedSimpArgs false
set_option maxHeartbeats 2000000
set_option maxRecDepth 100000
namespace Go.Proofs.YtcjiapphbpiffaaGreatDoor
open Go.RowKit
variable {s:ByteArray}{W:World}
abbrev gR (s:ByteArray):List Tv:=(Lx.cV s).1.map (Lx.tv s)
theorem rq (I:Lx.nt W) (O:s.size<=2147483647) {T:List Tv}(C:gR s=T) {z:Int}(Q:(Lx.cV s).2.1=z) :
  Ta 17 #[.string s] W fun e w'=>∃p c x y u,e=.returned (.tuple #[.slice p T.length c,.int .i64 z,.agg #[.int .i64 x,.int .i64 y,.int .i64 u]])/\Lt w' p T/\Below W.heap.size W w':=by
 refine (Lx.uL s W I O).mono ?_;rintro e w' ⟨⟨v,rfl,M⟩,J⟩;rw [Q];have F:Rt W.heap.size w' v T:=by rw [<-C];exact M
 obtain ⟨p,c,G,H,_⟩:=Lt.row F;subst G;exact ⟨p,c,_,_,_,rfl,H,J⟩
abbrev J9 (x y z:Int):Obj:=.cells #[.int .i64 x,.int .i64 y,.int .i64 z] 47
abbrev Mq (p:Option Addr):Obj:=.cells #[.pointer p] 63
def Ps (W:World) (r:Ending) (w':World):Prop:=∃g c x y u,r=.returned (.tuple #[eF 0 aB (.slice none 0 0),oj g])/\w'.heap[g]?=some (qQ c x y u)/\W.heap.size<=g/\Below W.heap.size W w'
def RdG (W:World) (X:bQ->Prop) (r:Ending) (w':World):Prop:=∃n p cv,r=.returned (.tuple #[eF n.k n.d (.slice p n.c.length cv),.nilIface])/\TN (fun j=>W.heap.size<=j) w' n (.slice p n.c.length cv)/\X n/\Below W.heap.size W w'
def SR (W:World) (A B:Prop) (X:bQ->Prop) (r:Ending) (w':World):Prop:=(A/\Ps W r w')\/(B/\RdG W X r w')
def FlP (V:World) (c x y u:Int) (r:Ending) (w':World):Prop:=∃g,r=.returned (oj g)/\w'.heap[g]?=some (qQ c x y u)/\V.heap.size<=g/\Below V.heap.size V w'
theorem sU (hT:Lx.nt W) (hE:nu W) (hs:s.size<=1000000000) {z:Int}(hz:(Lx.cV s).2.1=z) {ev:Value}{X:bQ->Prop}{A B:Prop}
  (ab:∀V p c,Lt V p (gR s)->Ta 33 #[.slice p (gR s).length c] V (fun r w'=>∃n p H,r=.returned (.tuple #[eF n.k n.d (.slice p n.c.length H),ev])/\TN (fun j=>V.heap.size<=j) w' n (.slice p n.c.length H)/\X n/\Below V.heap.size V w'))
  (ak:∀V b,nu V->V.heap[b]?=some (Mq none)->Ta 34 #[ev,.iface 100 (.pointer (some ⟨b,0,none⟩))] V fun e w'=>e=.returned (.bool false)/\Below V.heap.size V w')
  (ay:(z≠0/\A)\/(z=0/\s.size<=2147483647/\A/\∀V,Ta 35 #[ev,.iface 55 (.int .i64 121)] V fun e w'=>e=.returned (.bool true)/\w'=V)\/(z=0/\B/\∀V,Ta 35 #[ev,.iface 55 (.int .i64 121)] V fun e w'=>e=.returned (.bool false)/\w'=V)) :
  Ta 21 #[.string s] W (SR W A B X):=by
 obtain ⟨T,ac⟩:∃T,gR s=T:=⟨_,rfl⟩;obtain ⟨I,e0⟩:∃I,W.alloc (bz 0 aB (.slice none 0 0))=I:=⟨_,rfl⟩;have h0:Below W.heap.size W I:=by rw [<-e0];exact (hH _ _).alloc (gt _) _
 have ar:I.heap.size=W.heap.size+1:=by rw [<-e0];simp
 have al:I.heap[W.heap.size]?=some (bz 0 aB (.slice none 0 0)):=by rw [<-e0];exact aq _ _
 obtain ⟨g,hg⟩:∃g,W.heap.size=g:=⟨_,rfl⟩;have HS:Hid (Ta 17 #[.string s] I fun e w'=>∃p c x y u,e=.returned (.tuple #[.slice p T.length c,.int .i64 z,.agg #[.int .i64 x,.int .i64 y,.int .i64 u]])/\Lt w' p T/\Below I.heap.size I w'):=rq (hT.below h0) (by omega) ac hz;have H0:Hid (Below W.heap.size W I/\I.heap.size=g+1/\I.heap[g]?=some (bz 0 aB (.slice none 0 0))/\nu I):=by rw [<-hg];exact ⟨h0,ar,al,hE.below h0⟩
 rw [ac] at ab;have ax:Hid (∀V p c,Lt V p T->Ta 33 #[.slice p T.length c] V (fun r w'=>∃n p H,r=.returned (.tuple #[eF n.k n.d (.slice p n.c.length H),ev])/\TN (fun j=>V.heap.size<=j) w' n (.slice p n.c.length H)/\X n/\Below V.heap.size V w')):=ab;have av:Hid (∀V b,nu V->V.heap[b]?=some (Mq none)->Ta 34 #[ev,.iface 100 (.pointer (some ⟨b,0,none⟩))] V fun e w'=>e=.returned (.bool false)/\Below V.heap.size V w'):=ak;have HF:Hid (∀V c x y u,c≠0->Ta 14 #[.int .i64 c,.agg #[.int .i64 x,.int .i64 y,.int .i64 u]] V (FlP V c x y u)):=fun V c x y u h=>jG c x y u h V
 have aw:Hid (∀V,s.size<=2147483647->Ta 36 #[.string s,.int .i64 (s.size:Nat)] V fun e w'=>∃x y u,e=.returned (.tuple #[.agg #[.int .i64 x,.int .i64 y,.int .i64 u],.int .i64 0])/\Below V.heap.size V w'):=fun V h=>(Lx.P7 s s.size V h (gt _)).mono (fun e w' ⟨a1,a2⟩=>⟨_,_,_,a1,a2⟩)
 clear ak
 dsimp only [bz,aB] at e0
 clear h0 ar al hT hE ac ab hs hz
 go_enter Tryz.func21,Tryz.ntmps21
 go_wp2_with fail
 try rw [e0]
 try rw [hg]
 clear e0;refine HS.out.mono ?_;rintro e w1 ⟨p,c,x,y,u,rfl,hL,ad⟩;obtain ⟨F,eV1⟩:∃F,w1.alloc (J9 x y u)=F:=⟨_,rfl⟩;obtain ⟨g1,hg1⟩:∃g1,w1.heap.size=g1:=⟨_,rfl⟩
 have H1:Hid (Below I.heap.size I F/\F.heap[g1]?=some (J9 x y u)/\Lt F p T):=by
  have hx:Below w1.heap.size w1 F:=by rw [<-eV1];exact (hH _ _).alloc (gt _) _
  exact ⟨ad.trans (hx.mono ad.size),by rw [<-eV1,<-hg1];exact aq _ _,hL.below hx⟩
 clear hL ad HS
 go_wp2_with fail
 try rw [eV1]
 try rw [hg1]
 clear eV1 hg1;refine (ax.out _ _ _ H1.out.2.2).mono ?_;rintro e w2 ⟨n,Z,H,rfl,ht,am,aa⟩;obtain ⟨M,eV3⟩:∃M,(w2.alloc (bz n.k n.d (.slice Z n.c.length H))).alloc (Mq none)=M:=⟨_,rfl⟩;obtain ⟨g2,hg2⟩:∃g2,w2.heap.size=g2:=⟨_,rfl⟩
 have H3:Hid (Below F.heap.size F M/\M.heap[g2]?=some (bz n.k n.d (.slice Z n.c.length H))/\M.heap[g2+1]?=some (Mq none)/\M.heap[g]?=some (bz 0 aB (.slice none 0 0))/\M.heap[g1]?=some (J9 x y u)/\nu M/\Below w2.heap.size w2 M/\g<F.heap.size/\g1<F.heap.size/\F.heap.size<=g2):=by
  have an:Below w2.heap.size w2 (w2.alloc (bz n.k n.d (.slice Z n.c.length H))):=(hH _ _).alloc (gt _) _;have ap:Below (w2.alloc (bz n.k n.d (.slice Z n.c.length H))).heap.size (w2.alloc (bz n.k n.d (.slice Z n.c.length H))) M:=by rw [<-eV3];exact (hH _ _).alloc (gt _) _
  have hx:Below w2.heap.size w2 M:=an.trans (ap.mono an.size);have hy:Below F.heap.size F M:=aa.trans (hx.mono aa.size);have hw:Below I.heap.size I M:=H1.out.1.trans (hy.mono H1.out.1.size);refine ⟨hy,ag (by rw [<-hg2];exact aq _ _) ap,?_,ag H0.out.2.2.1 hw,ag H1.out.2.1 hy,H0.out.2.2.2.below hw,hx,Tn (au H0.out.2.2.1) H1.out.1.size,au H1.out.2.1,by rw [<-hg2];exact aa.size⟩;have hn:=aq (w2.alloc (bz n.k n.d (.slice Z n.c.length H))) (Mq none);rw [eV3,SX,hg2] at hn;exact hn
 have aj:Hid (Below W.heap.size W M):=by
  have J:Below I.heap.size I M:=H1.out.1.trans (H3.out.1.mono H1.out.1.size);exact H0.out.1.trans (J.mono H0.out.1.size)
 have ai:Hid (TN (fun j=>F.heap.size<=j) M n (.slice Z n.c.length H)/\X n):=⟨TN.kp (Kp.of_below (S:=fun _=>False) H3.out.2.2.2.2.2.2.1) (fun _ _ h=>h) n _ ht,am⟩
 dsimp only [bz] at eV3
 clear aa ht am
 go_wp2_with fail
 try rw [hg2]
 try rw [eV3]
 clear eV3 hg2;refine (av.out _ _ H3.out.2.2.2.2.2.1 H3.out.2.2.1).mono ?_;rintro e w5 ⟨rfl,Q⟩;have G:Hid (Below F.heap.size F w5/\Below W.heap.size W w5/\w5.heap[g]?=some (bz 0 aB (.slice none 0 0))/\w5.heap[g1]?=some (J9 x y u)/\w5.heap[g2]?=some (bz n.k n.d (.slice Z n.c.length H))/\TN (fun j=>F.heap.size<=j) w5 n (.slice Z n.c.length H)):=⟨H3.out.1.trans (Q.mono H3.out.1.size),aj.out.trans (Q.mono aj.out.size),ag H3.out.2.2.2.1 Q,ag H3.out.2.2.2.2.1 Q,ag H3.out.2.1 Q,TN.kp (Kp.of_below (S:=fun _=>False) Q) (fun _ _ h=>h) n _ ai.out.1⟩;clear Q
 have ah:Hid (∀w6 Y c x y u,w6.heap[Y]?=some (qQ c x y u)->Below W.heap.size W w6->w6.heap[g]?=some (bz 0 aB (.slice none 0 0))->w5.heap.size<=Y->∀C,aJ w6 g 0 aB (.slice none 0 0)=C->Ps W (.returned (.tuple #[eF 0 aB (.slice none 0 0),oj Y])) C/\C.heap[g]?=some (bz 0 aB (.slice none 0 0))):=by
  intro w6 Y c x y u k1 k2 k3 k4 C U;have J:=Cp (W:=W) (g:=g) k3 k2 (by omega) 0 aB (.slice none 0 0);rw [U] at J;refine ⟨⟨Y,c,x,y,u,rfl,?_,by have:=G.out.1.size;have:=H1.out.1.size;have:=H0.out.2.1;omega,J.2.1⟩,J.1⟩;rw [J.2.2.block Y (au k1) (fun e=>by have e':Y=g:=e;have:=G.out.1.size;have:=H3.out.2.2.2.2.2.2.2;omega)];exact k1
 rcases ay with ⟨hz,hA⟩|⟨hz,az,hA,hI⟩|⟨hz,hB,hI⟩
 ·have q5:(z != 0)=true:=by simpa using hz
  have HZ:Hid (z≠0):=hz;have HA:Hid A:=hA;have y0:w5.cell? ⟨g1,0,none⟩=some (.int .i64 x):=af G.out.2.2.2.1 rfl;have y1:w5.cell? ⟨g1,1,none⟩=some (.int .i64 y):=af G.out.2.2.2.1 rfl;have y2:w5.cell? ⟨g1,2,none⟩=some (.int .i64 u):=af G.out.2.2.2.1 rfl;clear hz hA
  go_wp2_with (go_at_call 14;refine (HF.out _ _ _ _ _ HZ.out).mono ?_;rintro r w6 ⟨Y,rfl,z1,z2,z3⟩;have H6:Hid (w6.heap[g]?=some (bz 0 aB (.slice none 0 0))/\∀C,aJ w6 g 0 aB (.slice none 0 0)=C->Ps W (.returned (.tuple #[eF 0 aB (.slice none 0 0),oj Y])) C/\C.heap[g]?=some (bz 0 aB (.slice none 0 0))):=⟨ag G.out.2.2.1 z3,ah.out _ _ _ _ _ _ z1 (G.out.2.1.trans (z3.mono G.out.2.1.size)) (ag G.out.2.2.1 z3) z2⟩;clear z1 z2 z3;obtain ⟨⟨r0,r1,r2,r3,r4,r5,r6,r7⟩,rl⟩:=aE H6.out.1;obtain ⟨f0,f1,f2,f3,f4,f5,f6,f7⟩:=bH H6.out.1)
  obtain ⟨C,U⟩:∃C,aJ w6 g 0 aB (.slice none 0 0)=C:=⟨_,rfl⟩;have J:=H6.out.2 C U
  dsimp only [aJ,aB] at U
  rw [U];obtain ⟨⟨x0,x1,x2,x3,x4,x5,x6,x7⟩,xl⟩:=aE J.2;refine Ti (v:=.tuple #[eF 0 aB (.slice none 0 0),oj Y]) (by simp [results,Tryz.f21,go_sem,x0,x1,x2,x3,x4,x5,x6,x7]) rfl ?_;exact .inl ⟨HA.out,J.1⟩
 ·subst hz;have HI:Hid (∀V,Ta 35 #[ev,.iface 55 (.int .i64 121)] V fun e w'=>e=.returned (.bool true)/\w'=V):=hI;have HA:Hid A:=hA;clear hI hA
  go_wp2_with fail
  refine (HI.out _).mono ?_;rintro e w' ⟨rfl,hw⟩;replace hw:=hw.symm;subst hw
  go_wp2_with fail
  refine (aw.out _ az).mono ?_;rintro e w7 ⟨xo,yo,uo,rfl,ae⟩;obtain ⟨V7,eV7⟩:∃V7,w7.alloc (J9 xo yo uo)=V7:=⟨_,rfl⟩;obtain ⟨g7,hg7⟩:∃g7,w7.heap.size=g7:=⟨_,rfl⟩
  have H7:Hid (Below w5.heap.size w5 V7/\V7.heap[g7]?=some (J9 xo yo uo)):=by
   have hx:Below w7.heap.size w7 V7:=by rw [<-eV7];exact (hH _ _).alloc (gt _) _
   exact ⟨ae.trans (hx.mono ae.size),by rw [<-eV7,<-hg7];exact aq _ _⟩
  have y0:V7.cell? ⟨g7,0,none⟩=some (.int .i64 xo):=af H7.out.2 rfl;have y1:V7.cell? ⟨g7,1,none⟩=some (.int .i64 yo):=af H7.out.2 rfl;have y2:V7.cell? ⟨g7,2,none⟩=some (.int .i64 uo):=af H7.out.2 rfl;clear ae
  go_wp2_with fail
  try rw [eV7]
  try rw [hg7]
  clear eV7 hg7
  go_wp2_with (go_at_call 14;refine (HF.out _ _ _ _ _ (by decide)).mono ?_;rintro r w6 ⟨Y,rfl,z1,z2,z3⟩;have z4:=H7.out.1.trans (z3.mono H7.out.1.size);have H6:Hid (w6.heap[g]?=some (bz 0 aB (.slice none 0 0))/\∀C,aJ w6 g 0 aB (.slice none 0 0)=C->Ps W (.returned (.tuple #[eF 0 aB (.slice none 0 0),oj Y])) C/\C.heap[g]?=some (bz 0 aB (.slice none 0 0))):=⟨ag G.out.2.2.1 z4,ah.out _ _ _ _ _ _ z1 (G.out.2.1.trans (z4.mono G.out.2.1.size)) (ag G.out.2.2.1 z4) (SY H7.out.1.size z2)⟩;clear z1 z2 z3 z4;obtain ⟨⟨r0,r1,r2,r3,r4,r5,r6,r7⟩,rl⟩:=aE H6.out.1;obtain ⟨f0,f1,f2,f3,f4,f5,f6,f7⟩:=bH H6.out.1)
  obtain ⟨C,U⟩:∃C,aJ w6 g 0 aB (.slice none 0 0)=C:=⟨_,rfl⟩;have J:=H6.out.2 C U
  dsimp only [aJ,aB] at U
  rw [U];obtain ⟨⟨x0,x1,x2,x3,x4,x5,x6,x7⟩,xl⟩:=aE J.2;refine Ti (v:=.tuple #[eF 0 aB (.slice none 0 0),oj Y]) (by simp [results,Tryz.f21,go_sem,x0,x1,x2,x3,x4,x5,x6,x7]) rfl ?_;exact .inl ⟨HA.out,J.1⟩
 ·subst hz;have HI:Hid (∀V,Ta 35 #[ev,.iface 55 (.int .i64 121)] V fun e w'=>e=.returned (.bool false)/\w'=V):=hI;obtain ⟨⟨c0,c1,c2,c3,c4,c5,c6,c7⟩,cl⟩:=aE G.out.2.2.2.2.1;obtain ⟨⟨r0,r1,r2,r3,r4,r5,r6,r7⟩,rl⟩:=aE G.out.2.2.1;obtain ⟨f0,f1,f2,f3,f4,f5,f6,f7⟩:=bH G.out.2.2.1;have HB:Hid B:=hB;clear hI hB
  go_wp2_with fail
  refine (HI.out _).mono ?_;rintro e w' ⟨rfl,hw⟩;replace hw:=hw.symm;subst hw
  go_wp2_with fail
  have J:=Cp (W:=W) (g:=g) G.out.2.2.1 G.out.2.1 (by omega) n.k n.d (.slice Z n.c.length H);obtain ⟨C,U⟩:∃C,aJ w5 g n.k n.d (.slice Z n.c.length H)=C:=⟨_,rfl⟩;rw [U] at J
  dsimp only [aJ] at U
  rw [U];obtain ⟨⟨x0,x1,x2,x3,x4,x5,x6,x7⟩,xl⟩:=aE J.1;refine Ti (v:=.tuple #[eF n.k n.d (.slice Z n.c.length H),.nilIface]) (by simp [results,Tryz.f21,go_sem,x0,x1,x2,x3,x4,x5,x6,x7]) rfl ?_;have hq:=H3.out.2.2.2.2.2.2.2.1;have hV:=H1.out.1.size;have ba:=H0.out.2.1;refine .inr ⟨HB.out,n,Z,H,rfl,TN.sub (O:=fun j=>F.heap.size<=j) (fun k _ h=>?_) n _ (TN.kp J.2.2 (fun k h e=>?_) n _ G.out.2.2.2.2.2),ai.out.2,J.2.1⟩
  ·show W.heap.size<=k
   have h':F.heap.size<=k:=h;omega
  ·have h':F.heap.size<=k:=h;have e':k=g:=e;omega
theorem Ck (I:Lx.nt W) (H:nu W) (O:s.size<=1000000000) {z:Int}(Q:(Lx.cV s).2.1=z) (M:(gR s).length<=4194304) {E:List Ev}{a:Nat}(J:gS (.live [] 0) (gR s) E 0 a) (C:z=0):Ta 21 #[.string s] W (Sw W E):=by
 refine (sU I H O Q (ev:=.nilIface) (X:=fun n=>gx E []=some n) (A:=False) (B:=True) (fun V p c h=>pY h M J) (fun V b _ _=>(Il _ _).mono (fun r w' ⟨F,G⟩=>⟨F,by rw [G];exact hH _ _⟩)) (.inr (.inr ⟨C,trivial,fun V=>Of 121 V⟩))).mono ?_;rintro r w' (⟨h,_⟩|⟨_,h⟩)
 ·exact h.elim
 ·exact h
theorem E7 (I:Lx.nt W) (H:nu W) (hs:s.size<=2147483) {z:Int}(O:(Lx.cV s).2.1=z) (M:(gR s).length<=4194304) {E:List Ev}{a:Nat}{code:Int}(J:gS (.live [] 0) (gR s) E code a) (hc:code=0/\z≠0\/code=121/\a=(gR s).length):Ta 21 #[.string s] W (Ps W):=by
 have C:∀{ev:Value} {X:bQ->Prop},Ta 21 #[.string s] W (SR W True False X)->Ta 21 #[.string s] W (Ps W):=fun h=>h.mono (by
  rintro r w' (⟨_,h⟩|⟨h,_⟩)
  ·exact h
  ·exact h.elim)
 rcases hc with ⟨rfl,F⟩|⟨rfl,G⟩
 ·exact C (ev:=.nilIface) (sU I H (by omega) O (ev:=.nilIface) (X:=fun n=>gx E []=some n) (fun V p c h=>pY h M J) (fun V b _ _=>(Il _ _).mono (fun r w' ⟨Q,S⟩=>⟨Q,by rw [S];exact hH _ _⟩)) (.inl ⟨F,trivial⟩))
 ·refine C (ev:=.nilIface) (sU I H (by omega) O (ev:=.iface 55 (.int .i64 121)) (X:=fun _=>True) (fun V p c h=>(C3 h M J (by decide) G).mono (fun r w' ⟨U,Y⟩=>⟨.mk 0 aB [],none,0,U,lH _ _ _ _,trivial,Y⟩)) (fun V b Z h2=>LZ _ _ (.pointer none) _ Z (af h2 rfl)) ?_)
  by_cases F:z=0
  ·exact .inr (.inl ⟨F,by omega,trivial,fun V=>Og 121 V⟩)
  ·exact .inl ⟨F,trivial⟩
theorem E5 (hT:Lx.nt W) (hE:nu W) (hs:s.size<=1000000000) {z:Int}(hz:(Lx.cV s).2.1=z) {code:Int}{t:Tv}(ab:∀V p c,Lt V p (gR s)->Ta 33 #[.slice p (gR s).length c] V (fun r w'=>∃g,r=.returned (.tuple #[eF 0 aB (.slice none 0 0),oj g])/\w'.heap[g]?=some (qQ code t.a t.l t.c)/\V.heap.size<=g/\Below V.heap.size V w')) :
  Ta 21 #[.string s] W fun r w'=>∃g,r=.returned (.tuple #[eF 0 aB (.slice none 0 0),oj g])/\w'.heap[g]?=some (qQ code t.a t.l t.c)/\W.heap.size<=g/\Below W.heap.size W w':=by
 obtain ⟨T,ac⟩:∃T,gR s=T:=⟨_,rfl⟩;obtain ⟨F,e0⟩:∃F,W.alloc (bz 0 aB (.slice none 0 0))=F:=⟨_,rfl⟩;have h0:Below W.heap.size W F:=by rw [<-e0];exact (hH _ _).alloc (gt _) _
 have ap:F.heap.size=W.heap.size+1:=by rw [<-e0];simp
 have ai:F.heap[W.heap.size]?=some (bz 0 aB (.slice none 0 0)):=by rw [<-e0];exact aq _ _
 obtain ⟨g,hg⟩:∃g,W.heap.size=g:=⟨_,rfl⟩;have HS:Hid (Ta 17 #[.string s] F fun e w'=>∃p c x y u,e=.returned (.tuple #[.slice p T.length c,.int .i64 z,.agg #[.int .i64 x,.int .i64 y,.int .i64 u]])/\Lt w' p T/\Below F.heap.size F w'):=rq (hT.below h0) (by omega) ac hz;have H0:Hid (Below W.heap.size W F/\F.heap.size=g+1/\F.heap[g]?=some (bz 0 aB (.slice none 0 0))/\nu F):=by rw [<-hg];exact ⟨h0,ap,ai,hE.below h0⟩
 rw [ac] at ab;have ax:Hid (∀V p c,Lt V p T->Ta 33 #[.slice p T.length c] V (fun r w'=>∃g,r=.returned (.tuple #[eF 0 aB (.slice none 0 0),oj g])/\w'.heap[g]?=some (qQ code t.a t.l t.c)/\V.heap.size<=g/\Below V.heap.size V w')):=ab
 dsimp only [bz,aB] at e0
 clear h0 ap ai hT hE ac ab hs hz
 go_enter Tryz.func21,Tryz.ntmps21
 go_wp2_with fail
 try rw [e0]
 try rw [hg]
 clear e0;refine HS.out.mono ?_;rintro e w1 ⟨p,c,x,y,u,rfl,hL,ad⟩;obtain ⟨G,eV1⟩:∃G,w1.alloc (J9 x y u)=G:=⟨_,rfl⟩;obtain ⟨g1,hg1⟩:∃g1,w1.heap.size=g1:=⟨_,rfl⟩
 have S:Hid (Below F.heap.size F G/\G.heap[g1]?=some (J9 x y u)/\Lt G p T):=by
  have hx:Below w1.heap.size w1 G:=by rw [<-eV1];exact (hH _ _).alloc (gt _) _
  exact ⟨ad.trans (hx.mono ad.size),by rw [<-eV1,<-hg1];exact aq _ _,hL.below hx⟩
 clear hL ad HS
 go_wp2_with fail
 try rw [eV1]
 try rw [hg1]
 clear eV1 hg1;refine (ax.out _ _ _ S.out.2.2).mono ?_;rintro e M ⟨H,rfl,ae,ak,Y⟩;obtain ⟨C,eV3⟩:∃C,(M.alloc (bz 0 aB (.slice none 0 0))).alloc (Mq none)=C:=⟨_,rfl⟩;obtain ⟨I,hg2⟩:∃I,M.heap.size=I:=⟨_,rfl⟩
 have O:Hid (Below G.heap.size G C/\C.heap[I]?=some (bz 0 aB (.slice none 0 0))/\C.heap[I+1]?=some (Mq none)/\C.heap[g]?=some (bz 0 aB (.slice none 0 0))/\C.heap[g1]?=some (J9 x y u)/\nu C/\Below M.heap.size M C/\g<G.heap.size/\g1<G.heap.size/\G.heap.size<=I):=by
  have al:Below M.heap.size M (M.alloc (bz 0 aB (.slice none 0 0))):=(hH _ _).alloc (gt _) _;have an:Below (M.alloc (bz 0 aB (.slice none 0 0))).heap.size (M.alloc (bz 0 aB (.slice none 0 0))) C:=by rw [<-eV3];exact (hH _ _).alloc (gt _) _
  have hx:Below M.heap.size M C:=al.trans (an.mono al.size);have hy:Below G.heap.size G C:=Y.trans (hx.mono Y.size);have hw:Below F.heap.size F C:=S.out.1.trans (hy.mono S.out.1.size);refine ⟨hy,ag (by rw [<-hg2];exact aq _ _) an,?_,ag H0.out.2.2.1 hw,ag S.out.2.1 hy,H0.out.2.2.2.below hw,hx,Tn (au H0.out.2.2.1) S.out.1.size,au S.out.2.1,by rw [<-hg2];exact Y.size⟩;have hn:=aq (M.alloc (bz 0 aB (.slice none 0 0))) (Mq none);rw [eV3,SX,hg2] at hn;exact hn
 have aa:Hid (Below W.heap.size W C):=by
  have h9:Below F.heap.size F C:=S.out.1.trans (O.out.1.mono S.out.1.size);exact H0.out.1.trans (h9.mono H0.out.1.size)
 have H5:Hid (C.heap[H]?=some (qQ code t.a t.l t.c)/\G.heap.size<=H/\H<I):=⟨ag ae O.out.2.2.2.2.2.2.1,ak,by rw [<-hg2];exact au ae⟩;have aw:Hid (Ta 34 #[oj H,.iface 100 (.pointer (some ⟨I+1,0,none⟩))] C fun ev w'=>ev=.returned (.bool true)/\∃w1,Below C.heap.size C w1/\w'=w1.setCell ⟨I+1,0,none⟩ (.pointer (some ⟨H,0,none⟩))):=O2 _ _ (.pointer none) _ O.out.2.2.2.2.2.1 (af O.out.2.2.1 rfl) (am O.out.2.2.1)
 dsimp only [bz] at eV3
 clear ae ak Y
 go_wp2_with fail
 try rw [hg2]
 try rw [eV3]
 clear eV3 hg2;refine aw.out.mono ?_;rintro e w5 ⟨rfl,w6,J,Q⟩
 have Z:w5.heap[g]?=some (bz 0 aB (.slice none 0 0)):=by
  rw [Q];exact bh (ag O.out.2.2.2.1 J) (by have:=O.out;omega) _
 have ah:w5.heap[H]?=some (qQ code t.a t.l t.c):=by
  rw [Q];exact bh (ag H5.out.1 J) (by have:=H5.out;omega) _
 have ar:w5.cell? ⟨I+1,0,none⟩=some (.pointer (some ⟨H,0,none⟩)):=by
  rw [Q];exact af (aj (ag O.out.2.2.1 J) 0 _) (by simp)
 have av:Below W.heap.size W w5:=by
  rw [Q];exact Kp.low (aa.out.trans (J.mono aa.out.size)) (Kp.set _ _ _ _) (fun k e=>by subst e;have:=O.out;have:=S.out.1.size;have:=H0.out.2.1;omega) (SY aa.out.size J.size)
 have h9:=Cp (W:=W) (g:=g) Z av (by omega) 0 aB (.slice none 0 0)
 have ay:(aJ w5 g 0 aB (.slice none 0 0)).cell? ⟨I+1,0,none⟩=some (.pointer (some ⟨H,0,none⟩)):=by
  have hb:=h9.2.2.block (I+1) (S9 _ _ ar) (fun e=>by have e':I+1=g:=e;have:=O.out;omega);exact (S8 (a:=⟨I+1,0,none⟩) hb).trans ar
 have H9:Hid (∀U,aJ w5 g 0 aB (.slice none 0 0)=U->Below W.heap.size W U.drew/\U.drew.heap[H]?=some (qQ code t.a t.l t.c)/\W.heap.size<=H/\U.drew.heap[g]?=some (bz 0 aB (.slice none 0 0))):=fun U ez=>by
  subst ez;refine ⟨h9.2.1.drew,?_,by have:=H5.out;have:=S.out.1.size;have:=H0.out.2.1;omega,ag h9.1 (hH _ _).drew⟩;refine ag ?_ (hH _ _).drew;rw [h9.2.2.block H (au ah) (fun e=>by have e':H=g:=e;have:=H5.out;have:=O.out;omega)];exact ah
 obtain ⟨⟨r0,r1,r2,r3,r4,r5,r6,r7⟩,rl⟩:=aE Z;obtain ⟨f0,f1,f2,f3,f4,f5,f6,f7⟩:=bH Z
 dsimp only [aJ,aB] at ay
 clear Q Z ah av h9 J
 go_wp2_with fail
 go_region_law (fail)
 all_goals (
  go_wp2_with fail
  obtain ⟨U,ez⟩:∃U,aJ w5 g 0 aB (.slice none 0 0)=U:=⟨_,rfl⟩;obtain ⟨k1,k2,k3,k4⟩:=H9.out U ez
  dsimp only [aJ,aB] at ez
  rw [ez];obtain ⟨⟨x0,x1,x2,x3,x4,x5,x6,x7⟩,xl⟩:=aE k4;refine Ti (v:=.tuple #[eF 0 aB (.slice none 0 0),oj H]) (by simp [results,Tryz.f21,go_sem,x0,x1,x2,x3,x4,x5,x6,x7]) rfl ?_;exact ⟨H,rfl,k2,k3,k1⟩)
theorem E6 (G:Lx.nt W) (F:nu W) (J:s.size<=1000000000) {z:Int}(M:(Lx.cV s).2.1=z) (I:(gR s).length<=4194304) {E:List Ev}{a:Nat}{code:Int}(H:gS (.live [] 0) (gR s) E code a) (hc:code≠0) {t:Tv}(C:(gR s)[a]?=some t) :
  Ta 21 #[.string s] W fun r w'=>∃g,r=.returned (.tuple #[eF 0 aB (.slice none 0 0),oj g])/\w'.heap[g]?=some (qQ code t.a t.l t.c)/\W.heap.size<=g/\Below W.heap.size W w':=E5 G F J M (fun V p c h=>C4 h I H hc C)
end Go.Proofs.YtcjiapphbpiffaaGreatDoor
