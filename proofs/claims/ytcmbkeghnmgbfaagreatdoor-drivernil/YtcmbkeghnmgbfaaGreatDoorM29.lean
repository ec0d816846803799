import Derived.Laws.EntriesVeiled
import Derived.Test.YtcmbkeghnmgbfaaGreatDoorM28
set_option linter.all false
set_option maxHeartbeats 2000000
set_option maxRecDepth 100000
namespace Go.Proofs.YtcmbkeghnmgbfaaGreatDoor
open Go.Proofs.Tryz
open Go.RowKit
open Lw (Dc bE rt cH cY iA me bD aQ bO)
variable {st:Sy}{W:World}{g:Nat}{n:Nd}{r:List Nd}{α:Type}
theorem Mw.below {S:Nat->Prop}{W1 u:World}(h:Mw S g W W1 st) (F:Below W1.heap.size W1 u):Mw S g W u st:=by
 obtain⟨G,H,u1⟩:=Mw.seq h;exact u1 _ _ ⟨⟨G,H.below F,fun _ h=>.inl h⟩,Kp.of_below F⟩
def fV (st:Sy) (n:Nd) (r:List Nd) (j:Nat):Sy:={ st with ns:=⟨n.k,n.b-j,n.s⟩ :: r,ws:=st.ws++List.replicate j dX }
theorem yz (e:st.ns=n :: r):fV st n r 0=st:=by
 unfold fV;rw[List.replicate_zero,KP,Oj,<-e]
theorem yA {j:Nat}(G:j<n.b):(fV st n r j).aw .X=fV st n r (j+1):=by
 unfold Sy.aw fV
 have u:lZ .X ((⟨n.k,n.b-j,n.s⟩:Nd) :: r)=⟨n.k,n.b-(j+1),n.s⟩ :: r:=by
  simp only[lZ];rw[Kd trivial];show(⟨n.k,n.b-j-1,n.s⟩:Nd) :: r=_;rw[Nat.sub_sub]
 have F:pk .X ((⟨n.k,n.b-j,n.s⟩:Nd) :: r)=[dX]:=by
  unfold pk;rw[IO (by simp;omega)];rfl
 show({ st with ns:=lZ .X ((⟨n.k,n.b-j,n.s⟩:Nd) :: r),ws:=(st.ws++List.replicate j dX)++pk .X ((⟨n.k,n.b-j,n.s⟩:Nd) :: r) }:Sy)=_
 rw[u,F,Ks,List.replicate_succ']
theorem vR {m:Nat}(e:st.ns=n :: r) (h:Bz m st) (j:Nat) (I:j<=n.b):Bz (2*m) (fV st n r j):=by
 obtain⟨H,G,u⟩:=h;rw[e]at G u;have J:=u n Ko;refine⟨?_,?_,?_⟩
 ·show(st.ws++List.replicate j dX).length<=_
  rw[Kf,Le];omega
 ·show((⟨n.k,n.b-j,n.s⟩:Nd) :: r).length<=_
  simp at G ⊢;omega
 ·intro x F
  rcases KL.1 (show x∈(⟨n.k,n.b-j,n.s⟩:Nd) :: r from F)with rfl|F
  ·show n.b-j<=_;omega
  ·have:=u x (KA _ F);omega
theorem SS.pop {S:Nat->Prop}(h:SS S W g st) {b cap:Nat}{n:Nd}{r:List Nd}(e:st.ns=n :: r) (hc:W.cell? ⟨g,1,none⟩=some (.slice (some ⟨b,0,none⟩) (r.length+1) cap)) :
  W.frozen? ⟨g,1,none⟩=false/\r.length+1<=cap/\Mw S g W (W.setCell ⟨g,1,none⟩ (.slice (some ⟨b,0,none⟩) r.length cap)) { st with ns:=r }:=by
 obtain⟨vn,vw,u,M,O⟩:=h.ex;have F:vn=.slice (some ⟨b,0,none⟩) (r.length+1) cap:=by have:=u.sb.cells.2.1;rw[hc]at this;exact(KH this).symm
 subst F;have I:Rn tN W (.slice (some ⟨b,0,none⟩) (r.length+1) cap) (n :: r):=by rw[<-e];exact u.rn
 have J:=GG I;obtain⟨_,_,G,_,H⟩:=ke I;cases G;refine⟨u.sb.frozen 1,H,Mw.mk' (vn:=.slice (some ⟨b,0,none⟩) r.length cap) (vw:=vw) ⟨ab u.sb 1 _,(Kp.set _ _ _ _).row J (fun k F G=>aE J u.sb (by decide) (by rw[F,G])),(Kp.set _ _ _ _).row u.rd (fun k F G=>aE u.rd u.sb (by decide) (by rw[F,G]))⟩ h.sg (fun k e=>.inl (M k e)) (fun k e=>.inl (O k e)) ((Kp.set _ _ _ _).sub (fun k e=>by rw[e];exact h.sg))⟩
theorem ye {S:Nat->Prop}(h:SS S W g st) (hz:Bz 400000000 st) {n:Nd}{r:List Nd}(e:st.ns=n :: r) :
  Kb 89 #[bv g] W fun G w'=>G=.returned (.tuple #[])/\Mw S g W w' st.leaves:=by
 obtain⟨b,cap,hc,_⟩:=h.nodes e;have ad:r.length<=900000000:=by have:=hz.2.1;rw[e]at this;simp at this;omega
 have ac:n.b<=400000000:=hz.2.2 n (by rw[e];exact Ko);have HI:=ku (er hc (by omega))
 have HE:Hid (∀j V,j<n.b->Mv S g W V (fV st n r j)->Kb 127 #[bv g] V fun G w'=>G=.returned (.tuple #[])/\Mv S g W w' (fV st n r (j+1))):=fun j V hj F=>by
  obtain⟨S1,I,u1⟩:=Mv.seq F;refine(kx I (by show(_ :: _:List Nd)≠[];simp) ((vR e hz j (by omega)).mono (by omega))).mono ?_;rintro G w'⟨rfl,m⟩;rw[yA hj]at m;exact⟨rfl,u1 _ _ m⟩
 have HH:Hid (∀V,Mv S g W V (fV st n r n.b)->Kb 128 #[bv g] V fun G w'=>G=.returned (.tuple #[])/\Mv S g W w' ((fV st n r n.b).aw .H)):=fun V F=>by
  obtain⟨S1,I,u1⟩:=Mv.seq F;refine(lF I (by show(_ :: _:List Nd)≠[];simp) ((vR e hz n.b (ge _)).mono (by omega))).mono ?_;rintro G w'⟨rfl,m⟩;exact⟨rfl,u1 _ _ m⟩
 have HC:Hid (∀j V,Mv S g W V (fV st n r j)->V.cell? ⟨b,r.length*3+1,none⟩=some (.int .i64 ((n.b-j:Nat):Int))/\V.cell? ⟨b,r.length*3,none⟩=some (.int .u8 n.k)):=fun j V F=>by
  obtain⟨S1,I,u1⟩:=Mv.seq F;obtain⟨a0,a1,a2⟩:=I.cells2 (n:=⟨n.k,n.b-j,n.s⟩) (r:=r) rfl (F.2.2.trans hc);exact⟨a1,a0⟩
 have HF:Hid (∀V st',Mv S g W V st'->(∃n',st'.ns=n' :: r)->V.cell? ⟨g,1,none⟩=some (.slice (some ⟨b,0,none⟩) (r.length+1) cap)/\V.frozen? ⟨g,1,none⟩=false/\r.length+1<=cap/\Mw S g W (V.setCell ⟨g,1,none⟩ (.slice (some ⟨b,0,none⟩) r.length cap)) { st' with ns:=r }):=fun V st' F ⟨n',en⟩=>by
  obtain⟨S1,I,u1⟩:=Mw.seq F.w;have ab:=F.2.2.trans hc;obtain⟨a1,a2,a3⟩:=I.pop en ab;exact⟨ab,a1,a2,u1 _ _ a3⟩
 have M:Hid (n.k=1->({ ((fV st n r n.b).aw .H)with ns:=r }:Sy)=st.leaves):=fun u=>by
  unfold Sy.leaves;rw[e];simp only;rw[Kd u];rfl
 have O:Hid (n.k≠1->({ (fV st n r n.b)with ns:=r }:Sy)=st.leaves):=fun u=>by
  unfold Sy.leaves;rw[e];simp only;rw[IO u,KP];rfl
 have HS:Hid (∀V,Kc W V->Mv S g W V (fV st n r 0)):=fun V hb=>by rw[yz e];exact Mv.quiet h hb
 clear h hz e hc;have q3:IntKind.i64.wrap (r.length:Int)=r.length:=by rw[Ki];omega
 go_enter func89,ntmps89
 go_wp2_with(go_at_call 121;refine HI.out.mono ?_;rintro r1 w1⟨rfl,aa⟩;have HB:=show Hid (Kc W w1)from aa;clear aa)
 go_loopw [] (fun wr=>∃j:Nat,j<=n.b/\Hid (Mv S g W wr (fV st n r j))) (fun wr=>match wr.cell? ⟨b,r.length*3+1,none⟩with|some v=>(intOf v).toNat|none=>0)
 case atStart=>exact⟨0,Kj _,HS.out _ HB.out⟩
 case round=>
  obtain⟨j,hj,HJ⟩:=hrel;obtain⟨x1,x0⟩:=HC.out j _ HJ.out
  by_cases H:j<n.b
  ·have q1:(0:Int)<((n.b-j:Nat):Int):=by omega
   go_wp2_with(go_at_call 127;refine(HE.out j _ H HJ.out).mono ?_;rintro r2 w2⟨rfl,m2⟩;have HM:=show Hid (Mv S g W w2 (fV st n r (j+1)))from m2;clear m2)
   refine⟨⟨j+1,H,HM⟩,?_⟩;rw[(HC.out (j+1) _ HM.out).1,x1];simp[intOf];omega
  ·obtain rfl:j=n.b:=by omega
   have x2:wr.cell? ⟨b,r.length*3+1,none⟩=some (.int .i64 0):=by rw[x1];simp
   clear x1
   by_cases u:n.k=1
   ·have q2:(n.k==1)=true:=by simpa using u
    have HL:=show Hid (({ ((fV st n r n.b).aw .H)with ns:=r }:Sy)=st.leaves)from M.out u
    clear M O u H;have y6:(0:Int)<=(r.length:Int):=by omega
    go_upto_region 5 with(go_at_call 128;refine(HH.out _ HJ.out).mono ?_;rintro r2 w2⟨rfl,m2⟩;obtain⟨y1,y2,y3,J⟩:=HF.out _ _ m2 ⟨_,rfl⟩;rw[HL.out]at J;have HY:=show Hid (Mw S g W (w2.setCell ⟨g,1,none⟩ (.slice (some ⟨b,0,none⟩) r.length cap)).drew st.leaves)from J.below ((gt _ _).drew);clear J m2)
    have y5:(r.length:Int)<=(cap:Int):=by omega
    go_region_law (fail)
    all_goals(
     go_wp2_with fail
     go_end0
     exact⟨rfl,HY.out⟩)
   ·have q2:(n.k==1)=false:=by simpa using u
    have HL:=show Hid (({ (fV st n r n.b)with ns:=r }:Sy)=st.leaves)from O.out u
    obtain⟨y1,y2,y3,J⟩:=HF.out _ _ HJ.out ⟨_,rfl⟩;rw[HL.out]at J;have HY:=show Hid (Mw S g W (wr.setCell ⟨g,1,none⟩ (.slice (some ⟨b,0,none⟩) r.length cap)).drew st.leaves)from J.below ((gt _ _).drew)
    clear J M O u H HL;have y5:(r.length:Int)<=(cap:Int):=by omega
    have y6:(0:Int)<=(r.length:Int):=by omega
    go_wp2_with fail
    go_region_law (fail)
    all_goals(
     go_wp2_with fail
     go_end0
     exact⟨rfl,HY.out⟩)
def Eb (W:World) (E:Nat) (e:Ev):Prop:=W.heap[E]?=some (.cells #[.int .u8 e.k,.int .u8 e.n,.int .u8 e.d.k,.string e.d.t,.int .i64 e.d.a,.int .i64 e.d.l,.int .i64 e.d.c,.int .i64 e.d.f] 135 (0,0))
theorem Eb.cells {W:World}{E:Nat}{e:Ev}(h:Eb W E e):W.cell? ⟨E,0,none⟩=some (.int .u8 e.k)/\W.cell? ⟨E,1,none⟩=some (.int .u8 e.n)/\W.cell? ⟨E,2,none⟩=some (.int .u8 e.d.k)/\W.cell? ⟨E,3,none⟩=some (.string e.d.t)/\W.cell? ⟨E,4,none⟩=some (.int .i64 e.d.a)/\W.cell? ⟨E,5,none⟩=some (.int .i64 e.d.l)/\W.cell? ⟨E,6,none⟩=some (.int .i64 e.d.c)/\W.cell? ⟨E,7,none⟩=some (.int .i64 e.d.f):=
 ⟨aa h rfl,aa h rfl,aa h rfl,aa h rfl,aa h rfl,aa h rfl,aa h rfl,aa h rfl⟩
theorem wO {S:Nat->Prop}(h:SS S W g st) (hz:st.ns.length<=900000000) (e:Ev) (ht:e.d.t.size<=9223372036854775807) :
  Kb 87 #[bv g,.agg #[.int .u8 e.k,.int .u8 e.n,.int .u8 e.d.k,.string e.d.t,.int .i64 e.d.a,.int .i64 e.d.l,.int .i64 e.d.c,.int .i64 e.d.f]] W fun rr w'=>rr=.returned (.bool (st.may e))/\Kc W w':=by
 obtain⟨V,hV⟩:∃V,W.alloc (.cells #[.int .u8 e.k,.int .u8 e.n,.int .u8 e.d.k,.string e.d.t,.int .i64 e.d.a,.int .i64 e.d.l,.int .i64 e.d.c,.int .i64 e.d.f] 135)=V:=⟨_,rfl⟩;have hB:Kc W V:=by rw[<-hV];exact(gt _ _).alloc (ge _) _
 have hE:Eb V W.heap.size e:=by rw[<-hV];exact am _ _
 have O:=ku hV;have hs:=h.below hB;obtain⟨m0,m1,m2,m3,m4,m5,m6,m7⟩:=hE.cells;have HF:=ku fun X (hX:Kc V X)=>hB.trans (hX.mono hB.size)
 have HD:Hid (∀m,Kc W (V.drewN m)):=fun m=>pf hB m
 have HT:=ku (wR e.d.t ht);have HC:=ku (A8 e.d);have I:=ku hB;cases hn:st.ns with
 |nil=>
  have aa:∃p c,V.cell? ⟨g,1,none⟩=some (.slice p 0 c):=by
   obtain⟨vn,vw,hv,_⟩:=hs.ex;obtain⟨p,c,ee,_⟩:=az hv.rn;rw[hn]at ee;exact⟨p,c,by rw[<-show vn=.slice p 0 c from ee];exact hv.sb.cells.2.1⟩
  obtain⟨p,c,c1⟩:=aa
  have F:Hid (st.may e=(if e.k=1 then decide (1<=e.n)&&decide (e.n<=32)else false)):=by
   show _=_
   unfold Sy.may;rw[hn]
   by_cases G:e.k=1<;>by_cases H:e.k=3<;>by_cases J:e.k=2<;>by_cases M:e.k=4<;>simp[G,H,J,M]
  clear h hs hB hE hn hV hz
  by_cases G:e.k=1
  ·have q1:(e.k==1)=true:=by simpa using G
   have u:Hid (st.may e=(decide (1<=e.n)&&decide (e.n<=32))):=by rw[F.out,Kd G];exact rfl
   clear F G
   go_enter func87,ntmps87
   go_upto_region 1 with fail
   rw[O.out]
   go_wp2_with fail
   all_goals(go_ret;rw[u.out];refine⟨?_,I.out⟩;simp_all<;>omega)
  ·have u:Hid (st.may e=false):=by rw[F.out,IO G];exact rfl
   have q1:(e.k==1)=false:=by simpa using G
   clear F G
   by_cases H:e.k=3
   ·have q2:(e.k==3)=true:=by simpa using H
    clear H
    go_enter func87,ntmps87
    go_upto_region 1 with fail
    rw[O.out]
    go_wp2_with fail
    go_quiet (fail)
    go_wp2_with fail
    go_ret
    rw[u.out];exact⟨rfl,HD.out _⟩
   ·have q2:(e.k==3)=false:=by simpa using H
    by_cases J:e.k=2
    ·have q3:(e.k==2)=true:=by simpa using J
     clear H J
     go_enter func87,ntmps87
     go_upto_region 1 with fail
     rw[O.out]
     go_wp2_with fail
     go_ret
     rw[u.out];exact⟨rfl,I.out⟩
    ·have q3:(e.k==2)=false:=by simpa using J
     by_cases M:e.k=4
     ·have q4:(e.k==4)=true:=by simpa using M
      clear H J M
      go_enter func87,ntmps87
      go_upto_region 1 with fail
      rw[O.out]
      go_wp2_with fail
      go_ret
      rw[u.out];exact⟨rfl,I.out⟩
     ·have q4:(e.k==4)=false:=by simpa using M
      clear H J M
      go_enter func87,ntmps87
      go_upto_region 1 with fail
      rw[O.out]
      go_wp2_with fail
      go_ret
      rw[u.out];exact⟨rfl,I.out⟩
 |cons n r=>
  obtain⟨b,cap,hc,y0,y1,y2,y3⟩:=hs.nodes hn;have HI:=ku fun X (hX:Kc V X)=>er (bP hc hX) (by rw[hn]at hz;simp at hz;omega)
  have q0:(0:Int)<(r.length:Int)+1:=by omega
  have F:Hid (st.may e=(if e.k=1 then decide (1<=e.n)&&decide (e.n<=32)else if e.k=3 then decide (n.k=e.n)else if e.k=2 then iA e.d.t else if e.k=4 then(iA e.d.t&&decide (e.d.k=7\/e.d.k=8))else false)):=by
   show _=_
   unfold Sy.may;rw[hn]
   by_cases G:e.k=1<;>by_cases H:e.k=3<;>by_cases J:e.k=2<;>by_cases M:e.k=4<;>simp[G,H,J,M]
  clear h hs hB hE hn hV hz y3
  by_cases G:e.k=1
  ·have q1:(e.k==1)=true:=by simpa using G
   have u:Hid (st.may e=(decide (1<=e.n)&&decide (e.n<=32))):=by rw[F.out,Kd G];exact rfl
   clear F G
   go_enter func87,ntmps87
   go_upto_region 1 with fail
   rw[O.out]
   go_wp2_with fail
   all_goals(go_ret;rw[u.out];refine⟨?_,I.out⟩;simp_all<;>omega)
  ·rw[IO G]at F;have q1:(e.k==1)=false:=by simpa using G
   clear G
   by_cases H:e.k=3
   ·rw[Kd H]at F;have q2:(e.k==3)=true:=by simpa using H
    clear H;have u:Hid (st.may e=(n.k==e.n)):=by rw[F.out];show _=_;by_cases a:n.k=e.n<;>simp[a]
    have aa:∀x:HW (SG V),x.W.cell? ⟨W.heap.size,1,none⟩=some (.int .u8 e.n):=fun x=>bP m1 x.h
    have ae:∀x:HW (SG V),x.W.cell? ⟨b,r.length*3,none⟩=some (.int .u8 n.k):=fun x=>bP y0 x.h
    have ag:Nonempty (HW (SG V)):=⟨⟨V.drew,(gt _ _).drew⟩⟩;have af:∀x:HW (SG V),∃y:HW (SG V),x.W=y.W:=fun x=>⟨x,rfl⟩
    have KT:Hid (∀x:HW (SG V),Kb 121 #[bv g] x.W fun rr w'=>rr=.returned (.pointer (some ⟨b,r.length*3,none⟩))/\Below x.W.heap.size x.W w'):=fun x=>HI.out x.W x.h
    go_enter func87,ntmps87
    go_upto_region 1 with fail
    rw[O.out]
    go_upto_region 6 with fail
    refine cA (S:=SG V) (by kernel_rfl) (by kernel_rfl) (gt _ _).drew ?_
    repeat(go_big_quiet_step ((go_at_call 121;exact Calls.quiet_in _ (KT.out _) (fun _ _=>SG.keep))))
    refine wpQuiet_nil ?_;rintro w5⟨⟨W5,ab⟩,rfl⟩;have ad:=ku ab;clear ae aa ab ag af
    go_wp2_with fail
    go_ret
    rw[u.out];exact⟨rfl,HF.out _ ad.out⟩
   ·rw[IO H]at F;have q2:(e.k==3)=false:=by simpa using H
    clear H
    by_cases J:e.k=2
    ·rw[Kd J]at F;have q3:(e.k==2)=true:=by simpa using J
     clear J
     go_enter func87,ntmps87
     go_upto_region 1 with fail
     rw[O.out]
     go_wp2_with(go_at_call 122;refine(HT.out _).mono ?_;rintro r2 w2⟨rfl,rfl⟩)
     go_ret
     rw[F.out];exact⟨rfl,I.out⟩
    ·rw[IO J]at F;have q3:(e.k==2)=false:=by simpa using J
     clear J
     by_cases M:e.k=4
     ·rw[Kd M]at F;have q4:(e.k==4)=true:=by simpa using M
      clear M
      generalize iA e.d.t=bt at *
      generalize decide (e.d.k=7\/e.d.k=8)=bc at *
      cases bt
      ·go_enter func87,ntmps87
       go_upto_region 1 with fail
       rw[O.out]
       go_wp2_with(go_at_call 122;refine(HT.out _).mono ?_;rintro r2 w2⟨rfl,rfl⟩)
       go_ret
       rw[F.out];exact⟨rfl,I.out⟩
      ·go_enter func87,ntmps87
       go_upto_region 1 with fail
       rw[O.out]
       go_wp2_with(first|(go_at_call 122;refine(HT.out _).mono ?_;rintro r2 w2⟨rfl,rfl⟩)|(go_at_call 123;refine(HC.out _).mono ?_;rintro r3 w3⟨rfl,hb3⟩;have ac:=show Hid (Kc W w3)from HF.out _ hb3;clear hb3))
       go_ret
       rw[F.out];exact⟨rfl,ac.out⟩
     ·rw[IO M]at F;have q4:(e.k==4)=false:=by simpa using M
      clear M
      go_enter func87,ntmps87
      go_upto_region 1 with fail
      rw[O.out]
      go_wp2_with fail
      go_ret
      rw[F.out];exact⟨rfl,I.out⟩
theorem uF:tab.length=40:=by decide
theorem uE:∀r∈tab,r.ns.length=6:=by decide
theorem J6 {l:List Int}(h:l.length=6):∃a b c d e f,l=[a,b,c,d,e,f]:=by
 match l,h with
 |[a,b,c,d,e,f],_=>exact⟨a,b,c,d,e,f,rfl⟩
def Rw.v (r:Rw):Value:=.agg r.cs.toArray
theorem Er (w:World):∀k,k<40->(Instr.index 270 (Value.agg fL.toArray) (.int .i64 (k:Nat))).run Tryz.prog w=.ok (tab.getD k IL).v w
 |0,_=>by kernel_rfl
 |1,_=>by kernel_rfl
 |2,_=>by kernel_rfl
 |3,_=>by kernel_rfl
 |4,_=>by kernel_rfl
 |5,_=>by kernel_rfl
 |6,_=>by kernel_rfl
 |7,_=>by kernel_rfl
 |8,_=>by kernel_rfl
 |9,_=>by kernel_rfl
 |10,_=>by kernel_rfl
 |11,_=>by kernel_rfl
 |12,_=>by kernel_rfl
 |13,_=>by kernel_rfl
 |14,_=>by kernel_rfl
 |15,_=>by kernel_rfl
 |16,_=>by kernel_rfl
 |17,_=>by kernel_rfl
 |18,_=>by kernel_rfl
 |19,_=>by kernel_rfl
 |20,_=>by kernel_rfl
 |21,_=>by kernel_rfl
 |22,_=>by kernel_rfl
 |23,_=>by kernel_rfl
 |24,_=>by kernel_rfl
 |25,_=>by kernel_rfl
 |26,_=>by kernel_rfl
 |27,_=>by kernel_rfl
 |28,_=>by kernel_rfl
 |29,_=>by kernel_rfl
 |30,_=>by kernel_rfl
 |31,_=>by kernel_rfl
 |32,_=>by kernel_rfl
 |33,_=>by kernel_rfl
 |34,_=>by kernel_rfl
 |35,_=>by kernel_rfl
 |36,_=>by kernel_rfl
 |37,_=>by kernel_rfl
 |38,_=>by kernel_rfl
 |39,_=>by kernel_rfl
 |k+40,h=>absurd h (by omega)
theorem FF (a b c d e f:Int) (t:List UInt8) (x y:Fx):(Rw.mk [a,b,c,d,e,f] t x y).v=.agg #[.int .u8 a,.int .u8 b,.int .u8 c,.int .u8 d,.int .u8 e,.int .u8 f,.string ⟨t.toArray⟩,.func (.func x.id) #[] #[],.func (.func y.id) #[] #[]]:=rfl
theorem BB (r:Rw) {a b c d e f:Int}(I:r.ns=[a,b,c,d,e,f]) (n:Nd) (u:ByteArray) (W:World) :
  Kb 169 #[.agg #[.int .u8 a,.int .u8 b,.int .u8 c,.int .u8 d,.int .u8 e,.int .u8 f,.string ⟨r.t.toArray⟩,.func (.func r.a.id) #[] #[],.func (.func r.b.id) #[] #[]],.agg #[.int .u8 n.k,.int .i64 n.b,.bool n.s],.string u] W fun e w'=>e=.returned (.bool (r.fits n u))/\Below W.heap.size W w':=by
 have F:(⟨r.t.toArray⟩:ByteArray).toList=r.t:=by rw[Lib.toList_data]
 have G:u.toList=u.data.toList:=Lib.toList_data u
 have H:r.fits n u=(((⟨r.t.toArray⟩:ByteArray).toList==[]||(⟨r.t.toArray⟩:ByteArray).toList==u.toList)&&[a,b,c,d,e,f].any n.is):=by
  unfold Rw.fits;rw[F,G,I]
  congr 2
  ·by_cases q:r.t=[]<;>simp[q]
  ·by_cases q:r.t=u.data.toList<;>simp[q]
 rw[H];exact yv a b c d e f ⟨r.t.toArray⟩ r.a.id r.b.id n u W
theorem yw (p:α->Bool) (l:List α) (k:Nat) (x:α) (F:l[k]?=some x) (h:(l.take k).find? p=none) (u:p x=false):(l.take (k+1)).find? p=none:=by
 rw[NK,F,List.find?_append,h];simp[u]
theorem ED (p:α->Bool) (l:List α) (k:Nat) (x:α) (F:l[k]?=some x) (h:(l.take k).find? p=none) (G:p x=true):l.find? p=some x:=by
 have u:=(Kq.1 F).1
 have e:l=l.take k++x :: l.drop (k+1):=by
  have:=KO u;rw[(Kq.1 F).2]at this;rw[<-this,List.take_append_drop]
 rw[e,List.find?_append,h];simp[G]
theorem xb (n:Nd) (t:Tv) (W:World) (hk:t.k=2\/t.k=6) :
  Kb 129 #[.agg #[.int .u8 n.k,.int .i64 n.b,.bool n.s],.agg #[.int .u8 t.k,.string t.t,.int .i64 t.a,.int .i64 t.l,.int .i64 t.c,.int .i64 t.f]] W fun e w'=>e=.returned (dU n t).v/\Below W.heap.size W w':=by
 have O:=ku wP;have q1:(t.k==2)=true\/((t.k==2)=false/\(t.k==6)=true):=by rcases hk with h|h<;>simp[h]
 go_enter func129,ntmps129
 go_upto_region 1 with fail
 go_cut [14]from 7 to 14 (fun t9 wx=>t9=.bool true/\wx=(((W.alloc (.cells #[.int .u8 n.k,.int .i64 n.b,.bool n.s] 213)).alloc (.cells #[.int .u8 t.k,.string t.t,.int .i64 t.a,.int .i64 t.l,.int .i64 t.c,.int .i64 t.f] 76)).alloc (.cells #[.int .u8 0,.int .u8 0,.int .u8 0,.int .u8 0,.int .u8 0,.int .u8 0,.string ⟨#[]⟩,.nilFunc,.nilFunc] 224)))
 case first=>
  rcases q1 with q1|⟨q1,q2⟩
  ·go_wp2_with fail
   go_meet
   exact⟨rfl,rfl⟩
  ·go_wp2_with fail
   go_meet
   exact⟨rfl,rfl⟩
 case rest=>
 obtain⟨rfl,al⟩:=hcut;obtain⟨V,hV⟩:∃V,V=wc:=⟨wc,rfl⟩;subst hV;have au:(W.alloc (.cells #[.int .u8 n.k,.int .i64 n.b,.bool n.s] 213)).heap.size=W.heap.size+1:=by show(W.heap.push _).size=_;simp
 have av:((W.alloc (.cells #[.int .u8 n.k,.int .i64 n.b,.bool n.s] 213)).alloc (.cells #[.int .u8 t.k,.string t.t,.int .i64 t.a,.int .i64 t.l,.int .i64 t.c,.int .i64 t.f] 76)).heap.size=W.heap.size+1+1:=by show((W.heap.push _).push _).size=_;simp
 have hN:V.heap[W.heap.size]?=some (.cells #[.int .u8 n.k,.int .i64 n.b,.bool n.s] 213 (0,0)):=by rw[al];exact bB (bB (am _ _) _) _
 have aq:V.heap[W.heap.size+1]?=some (.cells #[.int .u8 t.k,.string t.t,.int .i64 t.a,.int .i64 t.l,.int .i64 t.c,.int .i64 t.f] 76 (0,0)):=by rw[al,<-au];exact bB (am _ _) _
 have ai:V.heap[W.heap.size+1+1]?=some (.cells #[.int .u8 0,.int .u8 0,.int .u8 0,.int .u8 0,.int .u8 0,.int .u8 0,.string ⟨#[]⟩,.nilFunc,.nilFunc] 224 (0,0)):=by rw[al,<-av];exact am _ _
 have ac:Below W.heap.size W V:=by rw[al];exact(((gt _ _).alloc (ge _) _).alloc (by omega) _).alloc (by omega) _
 clear au av al
 go_upto_if 14 with fail
 go_wp2_with(go_at_call 168;refine(O.out _).mono ?_;rintro e w1⟨rfl,bg⟩;have bj:=show Hid (Below V.heap.size V w1)from bg;clear bg)
 go_loopw [6,16] (fun _ i wr=>∃k:Nat,k<=40/\i=.int .i64 k/\Hid ((tab.take k).find? (fun r=>r.fits n t.t)=none)/\Hid (Below V.heap.size V wr)) (fun _ i _=>40-(intOf i).toNat)
 case atStart=>exact⟨0,by omega,rfl,by show _=_;simp,bj.out⟩
 case round=>
  obtain⟨k,bo,rfl,HI,HB⟩:=hrel
  by_cases bc:k<40
  ·have q3:(k:Int)<40:=by omega
   have q4:(0:Int)<=k:=by omega
   obtain⟨x,hx⟩:∃x,tab[k]?=some x:=⟨_,Ke (by rw[uF];exact bc)⟩;obtain⟨a,b,c,d,e,f,hsix⟩:=J6 (uE x (LF hx))
   have ar:x.v=.agg #[.int .u8 a,.int .u8 b,.int .u8 c,.int .u8 d,.int .u8 e,.int .u8 f,.string ⟨x.t.toArray⟩,.func (.func x.a.id) #[] #[],.func (.func x.b.id) #[] #[]]:=by
    have:x=⟨[a,b,c,d,e,f],x.t,x.a,x.b⟩:=by rw[<-hsix]
    rw[this];exact FF _ _ _ _ _ _ _ _ _
   have bh:(Instr.index 270 (Value.agg fL.toArray) (.int .i64 (k:Nat))).run Tryz.prog wr=.ok (.agg #[.int .u8 a,.int .u8 b,.int .u8 c,.int .u8 d,.int .u8 e,.int .u8 f,.string ⟨x.t.toArray⟩,.func (.func x.a.id) #[] #[],.func (.func x.b.id) #[] #[]]) wr:=by
    rw[Er wr k bc,MV,hx,<-ar];rfl
   have ag:=ku (BB x hsix n t.t);obtain⟨U,hU⟩:∃U,wr.alloc (.cells #[.int .u8 a,.int .u8 b,.int .u8 c,.int .u8 d,.int .u8 e,.int .u8 f,.string ⟨x.t.toArray⟩,.func (.func x.a.id) #[] #[],.func (.func x.b.id) #[] #[]] 224)=U:=⟨_,rfl⟩;have bf:Below wr.heap.size wr U:=by rw[<-hU];exact(gt _ _).alloc (ge _) _
   have H:U.heap[wr.heap.size]?=some (.cells #[.int .u8 a,.int .u8 b,.int .u8 c,.int .u8 d,.int .u8 e,.int .u8 f,.string ⟨x.t.toArray⟩,.func (.func x.a.id) #[] #[],.func (.func x.b.id) #[] #[]] 224 (0,0)):=by rw[<-hU];exact am _ _
   have ae:Below V.heap.size V U:=HB.out.trans (bf.mono HB.out.size);have ah:=af hN ae;have az:=af aq ae;have ay:=af ai ae;have bn:=show Hid (wr.alloc (.cells #[.int .u8 a,.int .u8 b,.int .u8 c,.int .u8 d,.int .u8 e,.int .u8 f,.string ⟨x.t.toArray⟩,.func (.func x.a.id) #[] #[],.func (.func x.b.id) #[] #[]] 224)=U)from hU
   clear hU bf
   go_upto_region 5 with fail
   rw[bn.out];have l0:=aa (k:=0) H rfl;have l1:=aa (k:=1) H rfl;have l2:=aa (k:=2) H rfl;have l3:=aa (k:=3) H rfl;have l4:=aa (k:=4) H rfl;have l5:=aa (k:=5) H rfl;have l6:=aa (k:=6) H rfl;have l7:=aa (k:=7) H rfl;have l8:=aa (k:=8) H rfl;have n0:=aa (k:=0) ah rfl;have n1:=aa (k:=1) ah rfl;have n2:=aa (k:=2) ah rfl;have k1:=aa (k:=1) az rfl;have ap:=show Hid (Below V.heap.size V U)from ae
   by_cases I:x.fits n t.t=true
   ·have ak:dU n t=x:=by unfold dU;rw[Kd hk,ED _ tab k x hx HI.out I];rfl
    have ax:=show Hid ((dU n t).v=.agg #[.int .u8 a,.int .u8 b,.int .u8 c,.int .u8 d,.int .u8 e,.int .u8 f,.string ⟨x.t.toArray⟩,.func (.func x.a.id) #[] #[],.func (.func x.b.id) #[] #[]])from(by rw[ak];exact ar)
    rw[I]at ag;have bi:=show Hid (U.heap[wr.heap.size]?=some (.cells #[.int .u8 a,.int .u8 b,.int .u8 c,.int .u8 d,.int .u8 e,.int .u8 f,.string ⟨x.t.toArray⟩,.func (.func x.a.id) #[] #[],.func (.func x.b.id) #[] #[]] 224 (0,0))/\U.heap[W.heap.size+1+1]?=some (.cells #[.int .u8 0,.int .u8 0,.int .u8 0,.int .u8 0,.int .u8 0,.int .u8 0,.string ⟨#[]⟩,.nilFunc,.nilFunc] 224 (0,0)))from⟨H,ay⟩
    have aw:=show Hid (Below W.heap.size W V/\W.heap.size<=W.heap.size+1+1)from⟨ac,by omega⟩
    clear ar hsix bh H ae ah az ay hN aq ai ac ak hx HI I O
    go_upto_region 6 with(go_at_call 169;refine(ag.out _).mono ?_;rintro e9 w9⟨rfl,J⟩)
    obtain⟨bd,be⟩:=bi.out;have G:=af bd J;have u:=af be J;have an:=show Hid (w9.heap[W.heap.size+1+1]?=some (.cells #[.int .u8 0,.int .u8 0,.int .u8 0,.int .u8 0,.int .u8 0,.int .u8 0,.string ⟨#[]⟩,.nilFunc,.nilFunc] 224 (0,0))/\Below W.heap.size W w9)from⟨u,aw.out.1.trans ((ap.out.trans (J.mono ap.out.size)).mono aw.out.1.size)⟩
    have p0:=aa (k:=0) G rfl;have p1:=aa (k:=1) G rfl;have p2:=aa (k:=2) G rfl;have p3:=aa (k:=3) G rfl;have p4:=aa (k:=4) G rfl;have p5:=aa (k:=5) G rfl;have p6:=aa (k:=6) G rfl;have p7:=aa (k:=7) G rfl;have p8:=aa (k:=8) G rfl;have s0:=aa (k:=0) u rfl;have s1:=aa (k:=1) u rfl;have s2:=aa (k:=2) u rfl;have s3:=aa (k:=3) u rfl;have s4:=aa (k:=4) u rfl;have s5:=aa (k:=5) u rfl;have s6:=aa (k:=6) u rfl;have s7:=aa (k:=7) u rfl;have s8:=aa (k:=8) u rfl;have f0:=fun j=>aj (k:=j) u
    clear bd be G u J l0 l1 l2 l3 l4 l5 l6 l7 l8 n0 n1 n2 k1 ag
    go_wp2_with fail
    obtain⟨u,ba⟩:=an.out;have h9:=ab (ab (ab (ab (ab (ab (ab (ab (ab u 0 (.int .u8 a)) 1 (.int .u8 b)) 2 (.int .u8 c)) 3 (.int .u8 d)) 4 (.int .u8 e)) 5 (.int .u8 f)) 6 (.string ⟨x.t.toArray⟩)) 7 (.func (.func x.a.id) #[] #[])) 8 (.func (.func x.b.id) #[] #[]);have h9:=h9.trans (show _=some (Obj.cells #[.int .u8 a,.int .u8 b,.int .u8 c,.int .u8 d,.int .u8 e,.int .u8 f,.string ⟨x.t.toArray⟩,.func (.func x.a.id) #[] #[],.func (.func x.b.id) #[] #[]] 224 (0,0))by kernel_rfl);have bb:=Od (P:=Tryz.prog) _ (W.heap.size+1+1) 224 224 _ (0,0) _ h9 underlying224 (by first|rfl|kernel_rfl) (by first|rfl|kernel_rfl);refine Kv (v:=.agg #[.int .u8 a,.int .u8 b,.int .u8 c,.int .u8 d,.int .u8 e,.int .u8 f,.string ⟨x.t.toArray⟩,.func (.func x.a.id) #[] #[],.func (.func x.b.id) #[] #[]]) (dW (a:=4) (t:=224) (ad:=⟨W.heap.size+1+1,0,none⟩) (by kernel_rfl) (by rfl) bb) rfl ?_;refine⟨by rw[ax.out],?_⟩;have F:=aw.out.2;exact((((((((ba.setCell (p:=⟨W.heap.size+1+1,0,none⟩) F _).setCell (p:=⟨W.heap.size+1+1,1,none⟩) F _).setCell (p:=⟨W.heap.size+1+1,2,none⟩) F _).setCell (p:=⟨W.heap.size+1+1,3,none⟩) F _).setCell (p:=⟨W.heap.size+1+1,4,none⟩) F _).setCell (p:=⟨W.heap.size+1+1,5,none⟩) F _).setCell (p:=⟨W.heap.size+1+1,6,none⟩) F _).setCell (p:=⟨W.heap.size+1+1,7,none⟩) F _).setCell (p:=⟨W.heap.size+1+1,8,none⟩) F _
   ·have M:x.fits n t.t=false:=by simpa using I
    have bm:=show Hid ((tab.take (k+1)).find? (fun r=>r.fits n t.t)=none)from yw _ tab k x hx HI.out M
    rw[M]at ag;clear ar hsix bh H ae ah az ay hN aq ai ac hx HI I M O
    go_wp2_with(go_at_call 169;refine(ag.out _).mono ?_;rintro e9 w9⟨rfl,J⟩;have bk:=show Hid (Below V.heap.size V w9)from ap.out.trans (J.mono ap.out.size);clear J)
    exact⟨⟨k+1,bc,by go_num,bm,bk⟩,by simp[intOf];omega⟩
  ·obtain rfl:k=40:=by omega
   have ak:dU n t=IL:=by
    unfold dU;rw[Kd hk];have:=HI.out;rw[Ly (by rw[uF];omega)]at this;rw[this];rfl
   have ax:=show Hid ((dU n t).v=.agg #[.int .u8 0,.int .u8 0,.int .u8 0,.int .u8 0,.int .u8 0,.int .u8 0,.string ⟨#[]⟩,.func (.func 170) #[] #[],.func (.func 170) #[] #[]])from(by rw[ak];rfl)
   have u:=af ai HB.out;have an:=show Hid (wr.heap[W.heap.size+1+1]?=some (.cells #[.int .u8 0,.int .u8 0,.int .u8 0,.int .u8 0,.int .u8 0,.int .u8 0,.string ⟨#[]⟩,.nilFunc,.nilFunc] 224 (0,0))/\Below W.heap.size W wr)from⟨u,ac.trans (HB.out.mono ac.size)⟩
   have s0:=aa (k:=0) u rfl;have s1:=aa (k:=1) u rfl;have s2:=aa (k:=2) u rfl;have s3:=aa (k:=3) u rfl;have s4:=aa (k:=4) u rfl;have s5:=aa (k:=5) u rfl;have s6:=aa (k:=6) u rfl;have s7:=aa (k:=7) u rfl;have s8:=aa (k:=8) u rfl;have f0:=fun j=>aj (k:=j) u
   clear u ak hN aq ai ac O HI
   go_wp2_with fail
   obtain⟨u,ba⟩:=an.out;have h9:=ab (ab (ab (ab (ab (ab (ab (ab (ab u 0 (.int .u8 0)) 1 (.int .u8 0)) 2 (.int .u8 0)) 3 (.int .u8 0)) 4 (.int .u8 0)) 5 (.int .u8 0)) 6 (.string ⟨#[]⟩)) 7 (.func (.func 170) #[] #[])) 8 (.func (.func 170) #[] #[]);have h9:=h9.trans (show _=some (Obj.cells #[.int .u8 0,.int .u8 0,.int .u8 0,.int .u8 0,.int .u8 0,.int .u8 0,.string ⟨#[]⟩,.func (.func 170) #[] #[],.func (.func 170) #[] #[]] 224 (0,0))by kernel_rfl);have bb:=Od (P:=Tryz.prog) _ (W.heap.size+1+1) 224 224 _ (0,0) _ h9 underlying224 (by first|rfl|kernel_rfl) (by first|rfl|kernel_rfl);refine Kv (v:=.agg #[.int .u8 0,.int .u8 0,.int .u8 0,.int .u8 0,.int .u8 0,.int .u8 0,.string ⟨#[]⟩,.func (.func 170) #[] #[],.func (.func 170) #[] #[]]) (dW (a:=4) (t:=224) (ad:=⟨W.heap.size+1+1,0,none⟩) (by kernel_rfl) (by rfl) bb) rfl ?_;refine⟨by rw[ax.out],?_⟩;have F:W.heap.size<=W.heap.size+1+1:=by omega
   exact((((((((ba.setCell (p:=⟨W.heap.size+1+1,0,none⟩) F _).setCell (p:=⟨W.heap.size+1+1,1,none⟩) F _).setCell (p:=⟨W.heap.size+1+1,2,none⟩) F _).setCell (p:=⟨W.heap.size+1+1,3,none⟩) F _).setCell (p:=⟨W.heap.size+1+1,4,none⟩) F _).setCell (p:=⟨W.heap.size+1+1,5,none⟩) F _).setCell (p:=⟨W.heap.size+1+1,6,none⟩) F _).setCell (p:=⟨W.heap.size+1+1,7,none⟩) F _).setCell (p:=⟨W.heap.size+1+1,8,none⟩) F _
theorem xc (n:Nd) (t:Tv) (W:World) :
  Kb 129 #[.agg #[.int .u8 n.k,.int .i64 n.b,.bool n.s],.agg #[.int .u8 t.k,.string t.t,.int .i64 t.a,.int .i64 t.l,.int .i64 t.c,.int .i64 t.f]] W fun e w'=>e=.returned (dU n t).v/\Below W.heap.size W w':=by
 by_cases H:t.k=2\/t.k=6
 ·exact xb n t W H
 ·have I:dU n t=IL:=by unfold dU;rw[IO H]
  have ab:=show Hid ((dU n t).v=.agg #[.int .u8 0,.int .u8 0,.int .u8 0,.int .u8 0,.int .u8 0,.int .u8 0,.string ⟨#[]⟩,.func (.func 170) #[] #[],.func (.func 170) #[] #[]])from(by rw[I];rfl)
  have q1:(t.k==2)=false:=by simp;exact fun h=>H (.inl h)
  have q2:(t.k==6)=false:=by simp;exact fun h=>H (.inr h)
  obtain⟨U,J⟩:∃U,(W.alloc (.cells #[.int .u8 n.k,.int .i64 n.b,.bool n.s] 213)).alloc (.cells #[.int .u8 t.k,.string t.t,.int .i64 t.a,.int .i64 t.l,.int .i64 t.c,.int .i64 t.f] 76)=U:=⟨_,rfl⟩;have hsz:U.heap.size=W.heap.size+1+1:=by rw[<-J];show((W.heap.push _).push _).size=_;simp
  have F:Below W.heap.size W U:=by rw[<-J];exact((gt _ _).alloc (ge _) _).alloc (by show _<=(W.heap.push _).size;simp) _
  have M:=am U (.cells #[.int .u8 0,.int .u8 0,.int .u8 0,.int .u8 0,.int .u8 0,.int .u8 0,.string ⟨#[]⟩,.func (.func 170) #[] #[],.func (.func 170) #[] #[]] 224);rw[hsz]at M;have G:=Od (P:=Tryz.prog) _ (W.heap.size+1+1) 224 224 _ (0,0) _ M underlying224 (by first|rfl|kernel_rfl) (by first|rfl|kernel_rfl);have u:Below W.heap.size W (U.alloc (.cells #[.int .u8 0,.int .u8 0,.int .u8 0,.int .u8 0,.int .u8 0,.int .u8 0,.string ⟨#[]⟩,.func (.func 170) #[] #[],.func (.func 170) #[] #[]] 224)):=F.alloc F.size _;rw[<-J]at G u;have aa:=ku G;have O:=ku u;clear G u M hsz F J I H
  go_enter func129,ntmps129
  go_wp2_with fail
  refine Kv (v:=.agg #[.int .u8 0,.int .u8 0,.int .u8 0,.int .u8 0,.int .u8 0,.int .u8 0,.string ⟨#[]⟩,.func (.func 170) #[] #[],.func (.func 170) #[] #[]]) (dW (a:=4) (t:=224) (ad:=⟨W.heap.size+1+1,0,none⟩) (by kernel_rfl) (by rfl) aa.out) rfl ?_;exact⟨by rw[ab.out],O.out⟩
