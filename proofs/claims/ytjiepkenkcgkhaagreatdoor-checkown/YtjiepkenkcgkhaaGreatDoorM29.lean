import Derived.Test.YtjiepkenkcgkhaaGreatDoorM08
import Derived.Test.YtjiepkenkcgkhaaGreatDoorM28
set_option linter.unusedVariables false
set_option linter.unusedSimpArgs false
set_option maxHeartbeats 2000000
set_option maxRecDepth 100000
namespace Go.Proofs.YtjiepkenkcgkhaaGreatDoor
open Go.RowKit
variable {s:ByteArray}{W:World}
abbrev eY (s:ByteArray):List Tv:=(Lx.fu s).1.map (Lx.tv s)
theorem jc (hT:Lx.nX W) (hs:s.size<=2147483647) {T:List Tv}(hTT:eY s=T) {z:Int}(hz:(Lx.fu s).2.1=z) :
  Ra 11 #[.string s] W fun e w'=>∃p c x y u,e=.returned (.tuple #[.slice p T.length c,.int .i64 z,.agg #[.int .i64 x,.int .i64 y,.int .i64 u]])/\Lt w' p T/\Below W.heap.size W w':=by
 refine (Lx.Kl s W hT hs).mono ?_;rintro e w' ⟨⟨v,rfl,hr⟩,hb⟩;rw [hz];have hr':Rt W.heap.size w' v T:=by rw [<-hTT];exact hr
 obtain ⟨p,c,e1,h1,_⟩:=Lt.row hr';subst e1;exact ⟨p,c,_,_,_,rfl,h1,hb⟩
abbrev IF (x y z:Int):Obj:=.cells #[.int .i64 x,.int .i64 y,.int .i64 z] 34
abbrev KF (p:Option Addr):Obj:=.cells #[.pointer p] 45
def NN (W:World) (r:Ending) (w':World):Prop:=∃g c x y u,r=.returned (.tuple #[dY 0 aB (.slice none 0 0),nL g])/\w'.heap[g]?=some (qq c x y u)/\W.heap.size<=g/\Below W.heap.size W w'
def RdG (W:World) (X:bO->Prop) (r:Ending) (w':World):Prop:=∃n p cv,r=.returned (.tuple #[dY n.k n.d (.slice p n.c.length cv),.nilIface])/\TN (fun j=>W.heap.size<=j) w' n (.slice p n.c.length cv)/\X n/\Below W.heap.size W w'
def QJ (W:World) (A B:Prop) (X:bO->Prop) (r:Ending) (w':World):Prop:=(A/\NN W r w')\/(B/\RdG W X r w')
def FlP (V:World) (c x y u:Int) (r:Ending) (w':World):Prop:=∃g,r=.returned (nL g)/\w'.heap[g]?=some (qq c x y u)/\V.heap.size<=g/\Below V.heap.size V w'
theorem rY (hT:Lx.nX W) (hE:k9 W) (hs:s.size<=1000000000) {z:Int}(hz:(Lx.fu s).2.1=z) {ev:Value}{X:bO->Prop}{A B:Prop}
  (hPg:∀V p c,Lt V p (eY s)->Ra 25 #[.slice p (eY s).length c] V (fun r w'=>∃n p cv,r=.returned (.tuple #[dY n.k n.d (.slice p n.c.length cv),ev])/\TN (fun j=>V.heap.size<=j) w' n (.slice p n.c.length cv)/\X n/\Below V.heap.size V w'))
  (hAs:∀V b,k9 V->V.heap[b]?=some (KF none)->Ra 26 #[ev,.iface 84 (.pointer (some ⟨b,0,none⟩))] V fun e w'=>e=.returned (.bool false)/\Below V.heap.size V w')
  (hIs:(z≠0/\A)\/(z=0/\s.size<=2147483647/\A/\∀V,Ra 27 #[ev,.iface 32 (.int .i64 121)] V fun e w'=>e=.returned (.bool true)/\w'=V)\/(z=0/\B/\∀V,Ra 27 #[ev,.iface 32 (.int .i64 121)] V fun e w'=>e=.returned (.bool false)/\w'=V)) :
  Ra 13 #[.string s] W (QJ W A B X):=by
 obtain ⟨T,hTT⟩:∃T,eY s=T:=⟨_,rfl⟩;obtain ⟨W0,e0⟩:∃W0,W.alloc (bv 0 aB (.slice none 0 0))=W0:=⟨_,rfl⟩;have h0:Below W.heap.size W W0:=by rw [<-e0];exact (hH _ _).alloc (gt _) _
 have hz0:W0.heap.size=W.heap.size+1:=by rw [<-e0];simp
 have hb0:W0.heap[W.heap.size]?=some (bv 0 aB (.slice none 0 0)):=by rw [<-e0];exact au _ _
 obtain ⟨g,hg⟩:∃g,W.heap.size=g:=⟨_,rfl⟩;have HS:Hid (Ra 11 #[.string s] W0 fun e w'=>∃p c x y u,e=.returned (.tuple #[.slice p T.length c,.int .i64 z,.agg #[.int .i64 x,.int .i64 y,.int .i64 u]])/\Lt w' p T/\Below W0.heap.size W0 w'):=jc (hT.below h0) (by omega) hTT hz;have H0:Hid (Below W.heap.size W W0/\W0.heap.size=g+1/\W0.heap[g]?=some (bv 0 aB (.slice none 0 0))/\k9 W0):=by rw [<-hg];exact ⟨h0,hz0,hb0,hE.below h0⟩
 rw [hTT] at hPg;have HPg:Hid (∀V p c,Lt V p T->Ra 25 #[.slice p T.length c] V (fun r w'=>∃n p cv,r=.returned (.tuple #[dY n.k n.d (.slice p n.c.length cv),ev])/\TN (fun j=>V.heap.size<=j) w' n (.slice p n.c.length cv)/\X n/\Below V.heap.size V w')):=hPg;have HAs:Hid (∀V b,k9 V->V.heap[b]?=some (KF none)->Ra 26 #[ev,.iface 84 (.pointer (some ⟨b,0,none⟩))] V fun e w'=>e=.returned (.bool false)/\Below V.heap.size V w'):=hAs;have HF:Hid (∀V c x y u,c≠0->Ra 8 #[.int .i64 c,.agg #[.int .i64 x,.int .i64 y,.int .i64 u]] V (FlP V c x y u)):=fun V c x y u h=>jt c x y u h V
 have HOf:Hid (∀V,s.size<=2147483647->Ra 28 #[.string s,.int .i64 (s.size:Nat)] V fun e w'=>∃x y u,e=.returned (.tuple #[.agg #[.int .i64 x,.int .i64 y,.int .i64 u],.int .i64 0])/\Below V.heap.size V w'):=fun V h=>(Lx.Oi s s.size V h (gt _)).mono (fun e w' ⟨a1,a2⟩=>⟨_,_,_,a1,a2⟩)
 clear hAs
 dsimp only [bv,aB] at e0
 clear h0 hz0 hb0 hT hE hTT hPg hs hz
 go_enter Tryz.func13,Tryz.ntmps13
 go_wp2_with fail
 try rw [e0]
 try rw [hg]
 clear e0;refine HS.out.mono ?_;rintro e w1 ⟨p,c,x,y,u,rfl,hL,hb1⟩;obtain ⟨V1,eV1⟩:∃V1,w1.alloc (IF x y u)=V1:=⟨_,rfl⟩;obtain ⟨g1,hg1⟩:∃g1,w1.heap.size=g1:=⟨_,rfl⟩
 have H1:Hid (Below W0.heap.size W0 V1/\V1.heap[g1]?=some (IF x y u)/\Lt V1 p T):=by
  have hx:Below w1.heap.size w1 V1:=by rw [<-eV1];exact (hH _ _).alloc (gt _) _
  exact ⟨hb1.trans (hx.mono hb1.size),by rw [<-eV1,<-hg1];exact au _ _,hL.below hx⟩
 clear hL hb1 HS
 go_wp2_with fail
 try rw [eV1]
 try rw [hg1]
 clear eV1 hg1;refine (HPg.out _ _ _ H1.out.2.2).mono ?_;rintro e w2 ⟨n,pn,cv,rfl,ht,hbl,hb2⟩;obtain ⟨V3,eV3⟩:∃V3,(w2.alloc (bv n.k n.d (.slice pn n.c.length cv))).alloc (KF none)=V3:=⟨_,rfl⟩;obtain ⟨g2,hg2⟩:∃g2,w2.heap.size=g2:=⟨_,rfl⟩
 have H3:Hid (Below V1.heap.size V1 V3/\V3.heap[g2]?=some (bv n.k n.d (.slice pn n.c.length cv))/\V3.heap[g2+1]?=some (KF none)/\V3.heap[g]?=some (bv 0 aB (.slice none 0 0))/\V3.heap[g1]?=some (IF x y u)/\k9 V3/\Below w2.heap.size w2 V3/\g<V1.heap.size/\g1<V1.heap.size/\V1.heap.size<=g2):=by
  have hx1:Below w2.heap.size w2 (w2.alloc (bv n.k n.d (.slice pn n.c.length cv))):=(hH _ _).alloc (gt _) _;have hx2:Below (w2.alloc (bv n.k n.d (.slice pn n.c.length cv))).heap.size (w2.alloc (bv n.k n.d (.slice pn n.c.length cv))) V3:=by rw [<-eV3];exact (hH _ _).alloc (gt _) _
  have hx:Below w2.heap.size w2 V3:=hx1.trans (hx2.mono hx1.size);have hy:Below V1.heap.size V1 V3:=hb2.trans (hx.mono hb2.size);have hw:Below W0.heap.size W0 V3:=H1.out.1.trans (hy.mono H1.out.1.size);refine ⟨hy,ag (by rw [<-hg2];exact au _ _) hx2,?_,ag H0.out.2.2.1 hw,ag H1.out.2.1 hy,H0.out.2.2.2.below hw,hx,Q1 (aq H0.out.2.2.1) H1.out.1.size,aq H1.out.2.1,by rw [<-hg2];exact hb2.size⟩;have hn:=au (w2.alloc (bv n.k n.d (.slice pn n.c.length cv))) (KF none);rw [eV3,QL,hg2] at hn;exact hn
 have HW3:Hid (Below W.heap.size W V3):=by
  have h9:Below W0.heap.size W0 V3:=H1.out.1.trans (H3.out.1.mono H1.out.1.size);exact H0.out.1.trans (h9.mono H0.out.1.size)
 have HTn:Hid (TN (fun j=>V1.heap.size<=j) V3 n (.slice pn n.c.length cv)/\X n):=⟨TN.kp (Kp.of_below (S:=fun _=>False) H3.out.2.2.2.2.2.2.1) (fun _ _ h=>h) n _ ht,hbl⟩
 dsimp only [bv] at eV3
 clear hb2 ht hbl
 go_wp2_with fail
 try rw [hg2]
 try rw [eV3]
 clear eV3 hg2;refine (HAs.out _ _ H3.out.2.2.2.2.2.1 H3.out.2.2.1).mono ?_;rintro e w5 ⟨rfl,hb5⟩;have H5:Hid (Below V1.heap.size V1 w5/\Below W.heap.size W w5/\w5.heap[g]?=some (bv 0 aB (.slice none 0 0))/\w5.heap[g1]?=some (IF x y u)/\w5.heap[g2]?=some (bv n.k n.d (.slice pn n.c.length cv))/\TN (fun j=>V1.heap.size<=j) w5 n (.slice pn n.c.length cv)):=⟨H3.out.1.trans (hb5.mono H3.out.1.size),HW3.out.trans (hb5.mono HW3.out.size),ag H3.out.2.2.2.1 hb5,ag H3.out.2.2.2.2.1 hb5,ag H3.out.2.1 hb5,TN.kp (Kp.of_below (S:=fun _=>False) hb5) (fun _ _ h=>h) n _ HTn.out.1⟩;clear hb5
 have HFn:Hid (∀w6 g5 c x y u,w6.heap[g5]?=some (qq c x y u)->Below W.heap.size W w6->w6.heap[g]?=some (bv 0 aB (.slice none 0 0))->w5.heap.size<=g5->∀w9,aH w6 g 0 aB (.slice none 0 0)=w9->NN W (.returned (.tuple #[dY 0 aB (.slice none 0 0),nL g5])) w9/\w9.heap[g]?=some (bv 0 aB (.slice none 0 0))):=by
  intro w6 g5 c x y u k1 k2 k3 k4 w9 e9;have h9:=Bb (W:=W) (g:=g) k3 k2 (by omega) 0 aB (.slice none 0 0);rw [e9] at h9;refine ⟨⟨g5,c,x,y,u,rfl,?_,by have:=H5.out.1.size;have:=H1.out.1.size;have:=H0.out.2.1;omega,h9.2.1⟩,h9.1⟩;rw [h9.2.2.block g5 (aq k1) (fun e=>by have e':g5=g:=e;have:=H5.out.1.size;have:=H3.out.2.2.2.2.2.2.2;omega)];exact k1
 rcases hIs with ⟨hz,hA⟩|⟨hz,hs2,hA,hI⟩|⟨hz,hB,hI⟩
 ·have q5:(z != 0)=true:=by simpa using hz
  have HZ:Hid (z≠0):=hz;have HA:Hid A:=hA;have y0:w5.cell? ⟨g1,0,none⟩=some (.int .i64 x):=af H5.out.2.2.2.1 rfl;have y1:w5.cell? ⟨g1,1,none⟩=some (.int .i64 y):=af H5.out.2.2.2.1 rfl;have y2:w5.cell? ⟨g1,2,none⟩=some (.int .i64 u):=af H5.out.2.2.2.1 rfl;clear hz hA
  go_wp2_with (go_at_call 8;refine (HF.out _ _ _ _ _ HZ.out).mono ?_;rintro r w6 ⟨g5,rfl,z1,z2,z3⟩;have H6:Hid (w6.heap[g]?=some (bv 0 aB (.slice none 0 0))/\∀w9,aH w6 g 0 aB (.slice none 0 0)=w9->NN W (.returned (.tuple #[dY 0 aB (.slice none 0 0),nL g5])) w9/\w9.heap[g]?=some (bv 0 aB (.slice none 0 0))):=⟨ag H5.out.2.2.1 z3,HFn.out _ _ _ _ _ _ z1 (H5.out.2.1.trans (z3.mono H5.out.2.1.size)) (ag H5.out.2.2.1 z3) z2⟩;clear z1 z2 z3;obtain ⟨⟨r0,r1,r2,r3,r4,r5,r6,r7⟩,rl⟩:=aD H6.out.1;obtain ⟨f0,f1,f2,f3,f4,f5,f6,f7⟩:=bC H6.out.1)
  obtain ⟨w9,e9⟩:∃w9,aH w6 g 0 aB (.slice none 0 0)=w9:=⟨_,rfl⟩;have h9:=H6.out.2 w9 e9
  dsimp only [aH,aB] at e9
  rw [e9];obtain ⟨⟨x0,x1,x2,x3,x4,x5,x6,x7⟩,xl⟩:=aD h9.2;refine QV (v:=.tuple #[dY 0 aB (.slice none 0 0),nL g5]) (by simp [results,Tryz.f13,go_sem,x0,x1,x2,x3,x4,x5,x6,x7]) rfl ?_;exact .inl ⟨HA.out,h9.1⟩
 ·subst hz;have HI:Hid (∀V,Ra 27 #[ev,.iface 32 (.int .i64 121)] V fun e w'=>e=.returned (.bool true)/\w'=V):=hI;have HA:Hid A:=hA;clear hI hA
  go_wp2_with fail
  refine (HI.out _).mono ?_;rintro e w' ⟨rfl,hw⟩;replace hw:=hw.symm;subst hw
  go_wp2_with fail
  refine (HOf.out _ hs2).mono ?_;rintro e w7 ⟨xo,yo,uo,rfl,hb7⟩;obtain ⟨V7,eV7⟩:∃V7,w7.alloc (IF xo yo uo)=V7:=⟨_,rfl⟩;obtain ⟨g7,hg7⟩:∃g7,w7.heap.size=g7:=⟨_,rfl⟩
  have H7:Hid (Below w5.heap.size w5 V7/\V7.heap[g7]?=some (IF xo yo uo)):=by
   have hx:Below w7.heap.size w7 V7:=by rw [<-eV7];exact (hH _ _).alloc (gt _) _
   exact ⟨hb7.trans (hx.mono hb7.size),by rw [<-eV7,<-hg7];exact au _ _⟩
  have y0:V7.cell? ⟨g7,0,none⟩=some (.int .i64 xo):=af H7.out.2 rfl;have y1:V7.cell? ⟨g7,1,none⟩=some (.int .i64 yo):=af H7.out.2 rfl;have y2:V7.cell? ⟨g7,2,none⟩=some (.int .i64 uo):=af H7.out.2 rfl;clear hb7
  go_wp2_with fail
  try rw [eV7]
  try rw [hg7]
  clear eV7 hg7
  go_wp2_with (go_at_call 8;refine (HF.out _ _ _ _ _ (by decide)).mono ?_;rintro r w6 ⟨g5,rfl,z1,z2,z3⟩;have z4:=H7.out.1.trans (z3.mono H7.out.1.size);have H6:Hid (w6.heap[g]?=some (bv 0 aB (.slice none 0 0))/\∀w9,aH w6 g 0 aB (.slice none 0 0)=w9->NN W (.returned (.tuple #[dY 0 aB (.slice none 0 0),nL g5])) w9/\w9.heap[g]?=some (bv 0 aB (.slice none 0 0))):=⟨ag H5.out.2.2.1 z4,HFn.out _ _ _ _ _ _ z1 (H5.out.2.1.trans (z4.mono H5.out.2.1.size)) (ag H5.out.2.2.1 z4) (QQ H7.out.1.size z2)⟩;clear z1 z2 z3 z4;obtain ⟨⟨r0,r1,r2,r3,r4,r5,r6,r7⟩,rl⟩:=aD H6.out.1;obtain ⟨f0,f1,f2,f3,f4,f5,f6,f7⟩:=bC H6.out.1)
  obtain ⟨w9,e9⟩:∃w9,aH w6 g 0 aB (.slice none 0 0)=w9:=⟨_,rfl⟩;have h9:=H6.out.2 w9 e9
  dsimp only [aH,aB] at e9
  rw [e9];obtain ⟨⟨x0,x1,x2,x3,x4,x5,x6,x7⟩,xl⟩:=aD h9.2;refine QV (v:=.tuple #[dY 0 aB (.slice none 0 0),nL g5]) (by simp [results,Tryz.f13,go_sem,x0,x1,x2,x3,x4,x5,x6,x7]) rfl ?_;exact .inl ⟨HA.out,h9.1⟩
 ·subst hz;have HI:Hid (∀V,Ra 27 #[ev,.iface 32 (.int .i64 121)] V fun e w'=>e=.returned (.bool false)/\w'=V):=hI;obtain ⟨⟨c0,c1,c2,c3,c4,c5,c6,c7⟩,cl⟩:=aD H5.out.2.2.2.2.1;obtain ⟨⟨r0,r1,r2,r3,r4,r5,r6,r7⟩,rl⟩:=aD H5.out.2.2.1;obtain ⟨f0,f1,f2,f3,f4,f5,f6,f7⟩:=bC H5.out.2.2.1;have HB:Hid B:=hB;clear hI hB
  go_wp2_with fail
  refine (HI.out _).mono ?_;rintro e w' ⟨rfl,hw⟩;replace hw:=hw.symm;subst hw
  go_wp2_with fail
  have h9:=Bb (W:=W) (g:=g) H5.out.2.2.1 H5.out.2.1 (by omega) n.k n.d (.slice pn n.c.length cv);obtain ⟨w9,e9⟩:∃w9,aH w5 g n.k n.d (.slice pn n.c.length cv)=w9:=⟨_,rfl⟩;rw [e9] at h9
  dsimp only [aH] at e9
  rw [e9];obtain ⟨⟨x0,x1,x2,x3,x4,x5,x6,x7⟩,xl⟩:=aD h9.1;refine QV (v:=.tuple #[dY n.k n.d (.slice pn n.c.length cv),.nilIface]) (by simp [results,Tryz.f13,go_sem,x0,x1,x2,x3,x4,x5,x6,x7]) rfl ?_;have hq:=H3.out.2.2.2.2.2.2.2.1;have hV:=H1.out.1.size;have hV0:=H0.out.2.1;refine .inr ⟨HB.out,n,pn,cv,rfl,TN.sub (O:=fun j=>V1.heap.size<=j) (fun k _ h=>?_) n _ (TN.kp h9.2.2 (fun k h e=>?_) n _ H5.out.2.2.2.2.2),HTn.out.2,h9.2.1⟩
  ·show W.heap.size<=k
   have h':V1.heap.size<=k:=h;omega
  ·have h':V1.heap.size<=k:=h;have e':k=g:=e;omega
theorem A7 (hT:Lx.nX W) (hE:k9 W) (hs:s.size<=1000000000) {z:Int}(hz:(Lx.fu s).2.1=z) (hl:(eY s).length<=4194304) {E:List Ev}{a:Nat}(ha:gA (.live [] 0) (eY s) E 0 a) (h00:z=0):Ra 13 #[.string s] W (Qv W E):=by
 refine (rY hT hE hs hz (ev:=.nilIface) (X:=fun n=>fZ E []=some n) (A:=False) (B:=True) (fun V p c h=>pB h hl ha) (fun V b _ _=>(Gm _ _).mono (fun r w' ⟨a1,a2⟩=>⟨a1,by rw [a2];exact hH _ _⟩)) (.inr (.inr ⟨h00,trivial,fun V=>MA 121 V⟩))).mono ?_;rintro r w' (⟨h,_⟩|⟨_,h⟩)
 ·exact h.elim
 ·exact h
theorem DO (hT:Lx.nX W) (hE:k9 W) (hs:s.size<=2147483) {z:Int}(hz:(Lx.fu s).2.1=z) (hl:(eY s).length<=4194304) {E:List Ev}{a:Nat}{code:Int}(ha:gA (.live [] 0) (eY s) E code a) (hc:code=0/\z≠0\/code=121/\a=(eY s).length):Ra 13 #[.string s] W (NN W):=by
 have key:∀{ev:Value} {X:bO->Prop},Ra 13 #[.string s] W (QJ W True False X)->Ra 13 #[.string s] W (NN W):=fun h=>h.mono (by
  rintro r w' (⟨_,h⟩|⟨h,_⟩)
  ·exact h
  ·exact h.elim)
 rcases hc with ⟨rfl,h0⟩|⟨rfl,hat⟩
 ·exact key (ev:=.nilIface) (rY hT hE (by omega) hz (ev:=.nilIface) (X:=fun n=>fZ E []=some n) (fun V p c h=>pB h hl ha) (fun V b _ _=>(Gm _ _).mono (fun r w' ⟨a1,a2⟩=>⟨a1,by rw [a2];exact hH _ _⟩)) (.inl ⟨h0,trivial⟩))
 ·refine key (ev:=.nilIface) (rY hT hE (by omega) hz (ev:=.iface 32 (.int .i64 121)) (X:=fun _=>True) (fun V p c h=>(BL h hl ha (by decide) hat).mono (fun r w' ⟨e1,e2⟩=>⟨.mk 0 aB [],none,0,e1,lk _ _ _ _,trivial,e2⟩)) (fun V b h1 h2=>Ki _ _ (.pointer none) _ h1 (af h2 rfl)) ?_)
  by_cases h0:z=0
  ·exact .inr (.inl ⟨h0,by omega,trivial,fun V=>MB 121 V⟩)
  ·exact .inl ⟨h0,trivial⟩
theorem DM (hT:Lx.nX W) (hE:k9 W) (hs:s.size<=1000000000) {z:Int}(hz:(Lx.fu s).2.1=z) {code:Int}{t:Tv}(hPg:∀V p c,Lt V p (eY s)->Ra 25 #[.slice p (eY s).length c] V (fun r w'=>∃g,r=.returned (.tuple #[dY 0 aB (.slice none 0 0),nL g])/\w'.heap[g]?=some (qq code t.a t.l t.c)/\V.heap.size<=g/\Below V.heap.size V w')) :
  Ra 13 #[.string s] W fun r w'=>∃g,r=.returned (.tuple #[dY 0 aB (.slice none 0 0),nL g])/\w'.heap[g]?=some (qq code t.a t.l t.c)/\W.heap.size<=g/\Below W.heap.size W w':=by
 obtain ⟨T,hTT⟩:∃T,eY s=T:=⟨_,rfl⟩;obtain ⟨W0,e0⟩:∃W0,W.alloc (bv 0 aB (.slice none 0 0))=W0:=⟨_,rfl⟩;have h0:Below W.heap.size W W0:=by rw [<-e0];exact (hH _ _).alloc (gt _) _
 have hz0:W0.heap.size=W.heap.size+1:=by rw [<-e0];simp
 have hb0:W0.heap[W.heap.size]?=some (bv 0 aB (.slice none 0 0)):=by rw [<-e0];exact au _ _
 obtain ⟨g,hg⟩:∃g,W.heap.size=g:=⟨_,rfl⟩;have HS:Hid (Ra 11 #[.string s] W0 fun e w'=>∃p c x y u,e=.returned (.tuple #[.slice p T.length c,.int .i64 z,.agg #[.int .i64 x,.int .i64 y,.int .i64 u]])/\Lt w' p T/\Below W0.heap.size W0 w'):=jc (hT.below h0) (by omega) hTT hz;have H0:Hid (Below W.heap.size W W0/\W0.heap.size=g+1/\W0.heap[g]?=some (bv 0 aB (.slice none 0 0))/\k9 W0):=by rw [<-hg];exact ⟨h0,hz0,hb0,hE.below h0⟩
 rw [hTT] at hPg;have HPg:Hid (∀V p c,Lt V p T->Ra 25 #[.slice p T.length c] V (fun r w'=>∃g,r=.returned (.tuple #[dY 0 aB (.slice none 0 0),nL g])/\w'.heap[g]?=some (qq code t.a t.l t.c)/\V.heap.size<=g/\Below V.heap.size V w')):=hPg
 dsimp only [bv,aB] at e0
 clear h0 hz0 hb0 hT hE hTT hPg hs hz
 go_enter Tryz.func13,Tryz.ntmps13
 go_wp2_with fail
 try rw [e0]
 try rw [hg]
 clear e0;refine HS.out.mono ?_;rintro e w1 ⟨p,c,x,y,u,rfl,hL,hb1⟩;obtain ⟨V1,eV1⟩:∃V1,w1.alloc (IF x y u)=V1:=⟨_,rfl⟩;obtain ⟨g1,hg1⟩:∃g1,w1.heap.size=g1:=⟨_,rfl⟩
 have H1:Hid (Below W0.heap.size W0 V1/\V1.heap[g1]?=some (IF x y u)/\Lt V1 p T):=by
  have hx:Below w1.heap.size w1 V1:=by rw [<-eV1];exact (hH _ _).alloc (gt _) _
  exact ⟨hb1.trans (hx.mono hb1.size),by rw [<-eV1,<-hg1];exact au _ _,hL.below hx⟩
 clear hL hb1 HS
 go_wp2_with fail
 try rw [eV1]
 try rw [hg1]
 clear eV1 hg1;refine (HPg.out _ _ _ H1.out.2.2).mono ?_;rintro e w2 ⟨g5,rfl,hf5,hg5,hb2⟩;obtain ⟨V3,eV3⟩:∃V3,(w2.alloc (bv 0 aB (.slice none 0 0))).alloc (KF none)=V3:=⟨_,rfl⟩;obtain ⟨g2,hg2⟩:∃g2,w2.heap.size=g2:=⟨_,rfl⟩
 have H3:Hid (Below V1.heap.size V1 V3/\V3.heap[g2]?=some (bv 0 aB (.slice none 0 0))/\V3.heap[g2+1]?=some (KF none)/\V3.heap[g]?=some (bv 0 aB (.slice none 0 0))/\V3.heap[g1]?=some (IF x y u)/\k9 V3/\Below w2.heap.size w2 V3/\g<V1.heap.size/\g1<V1.heap.size/\V1.heap.size<=g2):=by
  have hx1:Below w2.heap.size w2 (w2.alloc (bv 0 aB (.slice none 0 0))):=(hH _ _).alloc (gt _) _;have hx2:Below (w2.alloc (bv 0 aB (.slice none 0 0))).heap.size (w2.alloc (bv 0 aB (.slice none 0 0))) V3:=by rw [<-eV3];exact (hH _ _).alloc (gt _) _
  have hx:Below w2.heap.size w2 V3:=hx1.trans (hx2.mono hx1.size);have hy:Below V1.heap.size V1 V3:=hb2.trans (hx.mono hb2.size);have hw:Below W0.heap.size W0 V3:=H1.out.1.trans (hy.mono H1.out.1.size);refine ⟨hy,ag (by rw [<-hg2];exact au _ _) hx2,?_,ag H0.out.2.2.1 hw,ag H1.out.2.1 hy,H0.out.2.2.2.below hw,hx,Q1 (aq H0.out.2.2.1) H1.out.1.size,aq H1.out.2.1,by rw [<-hg2];exact hb2.size⟩;have hn:=au (w2.alloc (bv 0 aB (.slice none 0 0))) (KF none);rw [eV3,QL,hg2] at hn;exact hn
 have HW3:Hid (Below W.heap.size W V3):=by
  have h9:Below W0.heap.size W0 V3:=H1.out.1.trans (H3.out.1.mono H1.out.1.size);exact H0.out.1.trans (h9.mono H0.out.1.size)
 have H5:Hid (V3.heap[g5]?=some (qq code t.a t.l t.c)/\V1.heap.size<=g5/\g5<g2):=⟨ag hf5 H3.out.2.2.2.2.2.2.1,hg5,by rw [<-hg2];exact aq hf5⟩;have HAs:Hid (Ra 26 #[nL g5,.iface 84 (.pointer (some ⟨g2+1,0,none⟩))] V3 fun ev w'=>ev=.returned (.bool true)/\∃w1,Below V3.heap.size V3 w1/\w'=w1.setCell ⟨g2+1,0,none⟩ (.pointer (some ⟨g5,0,none⟩))):=Nm _ _ (.pointer none) _ H3.out.2.2.2.2.2.1 (af H3.out.2.2.1 rfl) (am H3.out.2.2.1)
 dsimp only [bv] at eV3
 clear hf5 hg5 hb2
 go_wp2_with fail
 try rw [hg2]
 try rw [eV3]
 clear eV3 hg2;refine HAs.out.mono ?_;rintro e w5 ⟨rfl,w6,hb6,hw5⟩
 have hz1:w5.heap[g]?=some (bv 0 aB (.slice none 0 0)):=by
  rw [hw5];exact aX (ag H3.out.2.2.2.1 hb6) (by have:=H3.out;omega) _
 have hz2:w5.heap[g5]?=some (qq code t.a t.l t.c):=by
  rw [hw5];exact aX (ag H5.out.1 hb6) (by have:=H5.out;omega) _
 have hz3:w5.cell? ⟨g2+1,0,none⟩=some (.pointer (some ⟨g5,0,none⟩)):=by
  rw [hw5];exact af (aj (ag H3.out.2.2.1 hb6) 0 _) (by simp)
 have hz4:Below W.heap.size W w5:=by
  rw [hw5];exact Kp.low (HW3.out.trans (hb6.mono HW3.out.size)) (Kp.set _ _ _ _) (fun k e=>by subst e;have:=H3.out;have:=H1.out.1.size;have:=H0.out.2.1;omega) (QQ HW3.out.size hb6.size)
 have h9:=Bb (W:=W) (g:=g) hz1 hz4 (by omega) 0 aB (.slice none 0 0)
 have hz5:(aH w5 g 0 aB (.slice none 0 0)).cell? ⟨g2+1,0,none⟩=some (.pointer (some ⟨g5,0,none⟩)):=by
  have hb:=h9.2.2.block (g2+1) (QP _ _ hz3) (fun e=>by have e':g2+1=g:=e;have:=H3.out;omega);exact (QS (a:=⟨g2+1,0,none⟩) hb).trans hz3
 have H9:Hid (∀wz,aH w5 g 0 aB (.slice none 0 0)=wz->Below W.heap.size W wz.drew/\wz.drew.heap[g5]?=some (qq code t.a t.l t.c)/\W.heap.size<=g5/\wz.drew.heap[g]?=some (bv 0 aB (.slice none 0 0))):=fun wz ez=>by
  subst ez;refine ⟨h9.2.1.drew,?_,by have:=H5.out;have:=H1.out.1.size;have:=H0.out.2.1;omega,ag h9.1 (hH _ _).drew⟩;refine ag ?_ (hH _ _).drew;rw [h9.2.2.block g5 (aq hz2) (fun e=>by have e':g5=g:=e;have:=H5.out;have:=H3.out;omega)];exact hz2
 obtain ⟨⟨r0,r1,r2,r3,r4,r5,r6,r7⟩,rl⟩:=aD hz1;obtain ⟨f0,f1,f2,f3,f4,f5,f6,f7⟩:=bC hz1
 dsimp only [aH,aB] at hz5
 clear hw5 hz1 hz2 hz4 h9 hb6
 go_wp2_with fail
 go_region_law (fail)
 all_goals (
  go_wp2_with fail
  obtain ⟨wz,ez⟩:∃wz,aH w5 g 0 aB (.slice none 0 0)=wz:=⟨_,rfl⟩;obtain ⟨k1,k2,k3,k4⟩:=H9.out wz ez
  dsimp only [aH,aB] at ez
  rw [ez];obtain ⟨⟨x0,x1,x2,x3,x4,x5,x6,x7⟩,xl⟩:=aD k4;refine QV (v:=.tuple #[dY 0 aB (.slice none 0 0),nL g5]) (by simp [results,Tryz.f13,go_sem,x0,x1,x2,x3,x4,x5,x6,x7]) rfl ?_;exact ⟨g5,rfl,k2,k3,k1⟩)
theorem DN (hT:Lx.nX W) (hE:k9 W) (hs:s.size<=1000000000) {z:Int}(hz:(Lx.fu s).2.1=z) (hl:(eY s).length<=4194304) {E:List Ev}{a:Nat}{code:Int}(ha:gA (.live [] 0) (eY s) E code a) (hc:code≠0) {t:Tv}(hat:(eY s)[a]?=some t) :
  Ra 13 #[.string s] W fun r w'=>∃g,r=.returned (.tuple #[dY 0 aB (.slice none 0 0),nL g])/\w'.heap[g]?=some (qq code t.a t.l t.c)/\W.heap.size<=g/\Below W.heap.size W w':=DM hT hE hs hz (fun V p c h=>BM h hl ha hc hat)
end Go.Proofs.YtjiepkenkcgkhaaGreatDoor
