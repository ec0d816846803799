import Derived.Laws.EntriesVeiled
import Derived.Test.YthfjlkfeeglfmaaGreatDoorM39
set_option linter.all false
set_option maxHeartbeats 4000000
set_option maxRecDepth 100000
namespace Go.Proofs.YthfjlkfeeglfmaaGreatDoor
open Go.Proofs.Tryz
open Go.RowKit
open Lw (Dc bE rt bQ cq gK kq bR aS bY)
section
variable {st:Sy}{W:World}{g:Nat}{n:Nd}{r:List Nd}{α:Type}
def Mw.below {S:Nat->Prop}{W1 u:World}(h:Mw S g W W1 st) (G:Below W1.heap.size W1 u):Mw S g W u st:=by
 obtain⟨H,I,u1⟩:=Mw.seq h;exact u1 _ _ ⟨⟨H,I.below G,λ_ h=>.inl h⟩,Kp.of_below G⟩
def g9 (st:Sy) (n:Nd) (r:List Nd) (j:Nat):Sy:={ st with ns:=⟨n.k,n.b-j,n.s⟩ :: r,ws:=st.ws++List.replicate j dX }
def Dp (e:st.ns=n :: r):g9 st n r 0=st:=by
 unfold g9;rw[List.replicate_zero,Sg,Nat.sub_zero,<-e]
def Dq {j:Nat}(H:j<n.b):(g9 st n r j).aw .X=g9 st n r (j+1):=by
 unfold Sy.aw g9
 have u:gX .X ((⟨n.k,n.b-j,n.s⟩:Nd) :: r)=⟨n.k,n.b-(j+1),n.s⟩ :: r:=by
  simp only[gX];rw[Or trivial];show(⟨n.k,n.b-j-1,n.s⟩:Nd) :: r=_;rw[Nat.sub_sub]
 have G:jQ .X ((⟨n.k,n.b-j,n.s⟩:Nd) :: r)=[dX]:=by
  unfold jQ;rw[Eq (by simp;omega)];rfl
 show({ st with ns:=gX .X ((⟨n.k,n.b-j,n.s⟩:Nd) :: r),ws:=(st.ws++List.replicate j dX)++jQ .X ((⟨n.k,n.b-j,n.s⟩:Nd) :: r) }:Sy)=_;rw[u,G,RW,List.replicate_succ']
def A4 {m:Nat}(e:st.ns=n :: r) (h:Bz m st) (j:Nat) (J:j<=n.b):Bz (2*m) (g9 st n r j):=by
 obtain⟨I,H,u⟩:=h;rw[e]at H u;have M:=u n RZ;refine⟨?_,?_,?_⟩
 ·show(st.ws++List.replicate j dX).length<=_;rw[IO,SP];omega
 ·show((⟨n.k,n.b-j,n.s⟩:Nd) :: r).length<=_;simp at H ⊢;omega
 ·intro x G
  rcases Sm.1 (show x∈(⟨n.k,n.b-j,n.s⟩:Nd) :: r from G)with rfl|G
  ·show n.b-j<=_;omega
  ·have:=u x (R1 _ G);omega
def SS.pop {S:Nat->Prop}(h:SS S W g st) {b cap:Nat}{n:Nd}{r:List Nd}(e:st.ns=n :: r) (hc:W.cell? (Tw g 1)=some (.slice (some (Tw b 0)) (r.length+1) cap)) :
  W.frozen? (Tw g 1)=false/\r.length+1<=cap/\Mw S g W (W.setCell ⟨g,1,none⟩ (.slice (some (Tw b 0)) r.length cap)) { st with ns:=r }:=by
 obtain⟨vn,vw,u,O,Q⟩:=h.ex;have G:vn=.slice (some (Tw b 0)) (r.length+1) cap:=by have:=u.sb.cells.2.1;rw[hc]at this;exact(SJ this).symm
 subst G;have J:Rn tN W (.slice (some (Tw b 0)) (r.length+1) cap) (n :: r):=by rw[<-e];exact u.rn
 have M:=Ni J;obtain⟨_,_,H,_,I⟩:=np J;cases H;refine⟨u.sb.frozen 1,I,Mw.mk' (vn:=.slice (some (Tw b 0)) r.length cap) (vw:=vw) ⟨ag u.sb 1 _,(Kp.set _ _ _ _).row M (λk G H=>aF M u.sb (by decide) (by rw[G,H])),(Kp.set _ _ _ _).row u.rd (λk G H=>aF u.rd u.sb (by decide) (by rw[G,H]))⟩ h.sg (λk e=>.inl (O k e)) (λk e=>.inl (Q k e)) ((Kp.set _ _ _ _).sub (λk e=>by rw[e];exact h.sg))⟩
def CT {S:Nat->Prop}(h:SS S W g st) (Y:Bz 400000000 st) {n:Nd}{r:List Nd}(e:st.ns=n :: r) :
  Sa 83 #[bP g] W λH w'=>H=.returned (.tuple #[])/\Mw S g W w' st.leaves:=by
 obtain⟨b,cap,hc,_⟩:=h.nodes e;have ad:r.length<=900000000:=by have:=Y.2.1;rw[e]at this;simp at this;omega
 have ac:n.b<=400000000:=Y.2.2 n (by rw[e];exact RZ);have HI:=aW (fu hc (by omega))
 have HE:Hid (∀j V,j<n.b->Mv S g W V (g9 st n r j)->Sa 148 #[bP g] V λH w'=>H=.returned (.tuple #[])/\Mv S g W w' (g9 st n r (j+1))):=λj V hj G=>by
  obtain⟨S1,J,u1⟩:=Mv.seq G;refine(nX J (by show(_ :: _:List Nd)≠[];simp) ((A4 e Y j (by omega)).mono (by omega))).mono ?_;rintro H w'⟨rfl,m⟩;rw[Dq hj]at m;exact⟨rfl,u1 _ _ m⟩
 have HH:Hid (∀V,Mv S g W V (g9 st n r n.b)->Sa 149 #[bP g] V λH w'=>H=.returned (.tuple #[])/\Mv S g W w' ((g9 st n r n.b).aw .H)):=λV G=>by
  obtain⟨S1,J,u1⟩:=Mv.seq G;refine(po J (by show(_ :: _:List Nd)≠[];simp) ((A4 e Y n.b (ge _)).mono (by omega))).mono ?_;rintro H w'⟨rfl,m⟩;exact⟨rfl,u1 _ _ m⟩
 have HC:Hid (∀j V,Mv S g W V (g9 st n r j)->V.cell? ⟨b,r.length*3+1,none⟩=some (Tu ((n.b-j:Nat):Int))/\V.cell? ⟨b,r.length*3,none⟩=some (.int .u8 n.k)):=λj V G=>by
  obtain⟨S1,J,u1⟩:=Mv.seq G;obtain⟨a0,a1,a2⟩:=J.cells2 (n:=⟨n.k,n.b-j,n.s⟩) (r:=r) rfl (G.2.2.trans hc);exact⟨a1,a0⟩
 have HF:Hid (∀V st',Mv S g W V st'->(∃n',st'.ns=n' :: r)->V.cell? (Tw g 1)=some (.slice (some (Tw b 0)) (r.length+1) cap)/\V.frozen? (Tw g 1)=false/\r.length+1<=cap/\Mw S g W (V.setCell ⟨g,1,none⟩ (.slice (some (Tw b 0)) r.length cap)) { st' with ns:=r }):=λV st' G ⟨n',en⟩=>by
  obtain⟨S1,J,u1⟩:=Mw.seq G.w;have ab:=G.2.2.trans hc;obtain⟨a1,a2,a3⟩:=J.pop en ab;exact⟨ab,a1,a2,u1 _ _ a3⟩
 have O:Hid (n.k=1->({ ((g9 st n r n.b).aw .H)with ns:=r }:Sy)=st.leaves):=λu=>by
  unfold Sy.leaves;rw[e];simp only;rw[Or u];rfl
 have Q:Hid (n.k≠1->({ (g9 st n r n.b)with ns:=r }:Sy)=st.leaves):=λu=>by
  unfold Sy.leaves;rw[e];simp only;rw[Eq u,Sg];rfl
 have HS:Hid (∀V,Se W V->Mv S g W V (g9 st n r 0)):=λV hb=>by rw[Dp e];exact Mv.quiet h hb
 clear h Y e hc;have q3:IntKind.i64.wrap (r.length:Int)=r.length:=by rw[Sn];omega
 go_enter func83,ntmps83
 go_wp2_with(go_at_call 142;refine HI.out.mono ?_;rintro r1 w1⟨rfl,aa⟩;have HB:=show Hid (Se W w1)from aa;clear aa)
 go_loopw [] (λwr=>∃j:Nat,j<=n.b/\Hid (Mv S g W wr (g9 st n r j))) (λwr=>match wr.cell? ⟨b,r.length*3+1,none⟩with|some v=>(intOf v).toNat|none=>0)
 case atStart=>exact⟨0,RU _,HS.out _ HB.out⟩
 case round=>
  obtain⟨j,hj,HJ⟩:=hrel;obtain⟨x1,x0⟩:=HC.out j _ HJ.out
  by_cases I:j<n.b
  ·have q1:(0:Int)<((n.b-j:Nat):Int):=by omega
   go_wp2_with(go_at_call 148;refine(HE.out j _ I HJ.out).mono ?_;rintro r2 w2⟨rfl,Z⟩;have HM:=show Hid (Mv S g W w2 (g9 st n r (j+1)))from Z;clear Z)
   refine⟨⟨j+1,I,HM⟩,?_⟩;rw[(HC.out (j+1) _ HM.out).1,x1];simp[intOf];omega
  ·obtain rfl:j=n.b:=by omega
   have x2:wr.cell? ⟨b,r.length*3+1,none⟩=some (Tu 0):=by rw[x1];simp
   clear x1
   by_cases u:n.k=1
   ·have q2:(n.k==1)=true:=by simpa using u
    have HL:=show Hid (({ ((g9 st n r n.b).aw .H)with ns:=r }:Sy)=st.leaves)from O.out u
    clear O Q u I;have y6:(0:Int)<=(r.length:Int):=by omega
    go_upto_region 5 with(go_at_call 149;refine(HH.out _ HJ.out).mono ?_;rintro r2 w2⟨rfl,Z⟩;obtain⟨y1,y2,y3,M⟩:=HF.out _ _ Z ⟨_,rfl⟩;rw[HL.out]at M;have HY:=show Hid (Mw S g W (w2.setCell ⟨g,1,none⟩ (.slice (some (Tw b 0)) r.length cap)).drew st.leaves)from M.below ((gt _ _).drew);clear M Z)
    have y5:(r.length:Int)<=(cap:Int):=by omega
    go_region_law (fail)
    all_goals(
     (go_wp2_with fail);go_end0;exact⟨rfl,HY.out⟩)
   ·have q2:(n.k==1)=false:=by simpa using u
    have HL:=show Hid (({ (g9 st n r n.b)with ns:=r }:Sy)=st.leaves)from Q.out u
    obtain⟨y1,y2,y3,M⟩:=HF.out _ _ HJ.out ⟨_,rfl⟩;rw[HL.out]at M;have HY:=show Hid (Mw S g W (wr.setCell ⟨g,1,none⟩ (.slice (some (Tw b 0)) r.length cap)).drew st.leaves)from M.below ((gt _ _).drew)
    clear M O Q u I HL;have y5:(r.length:Int)<=(cap:Int):=by omega
    have y6:(0:Int)<=(r.length:Int):=by omega
    go_wp2_with fail
    go_region_law (fail)
    all_goals(
     (go_wp2_with fail);go_end0;exact⟨rfl,HY.out⟩)
def Eb (W:World) (E:Nat) (e:Ev):Prop:=W.heap[E]?=some (.cells #[.int .u8 e.k,.int .u8 e.n,.int .u8 e.d.k,.string e.d.t,Tu e.d.a,Tu e.d.l,Tu e.d.c,Tu e.d.f] 104 (0,0))
def Eb.cells {W:World}{E:Nat}{e:Ev}(h:Eb W E e):W.cell? (Tw E 0)=some (.int .u8 e.k)/\W.cell? (Tw E 1)=some (.int .u8 e.n)/\W.cell? (Tw E 2)=some (.int .u8 e.d.k)/\W.cell? (Tw E 3)=some (.string e.d.t)/\W.cell? (Tw E 4)=some (Tu e.d.a)/\W.cell? (Tw E 5)=some (Tu e.d.l)/\W.cell? (Tw E 6)=some (Tu e.d.c)/\W.cell? (Tw E 7)=some (Tu e.d.f):=
 ⟨aa h rfl,aa h rfl,aa h rfl,aa h rfl,aa h rfl,aa h rfl,aa h rfl,aa h rfl⟩
def BW {S:Nat->Prop}(h:SS S W g st) (hz:st.ns.length<=900000000) (e:Ev) (ht:e.d.t.size<=9223372036854775807) :
  Sa 81 #[bP g,.agg #[.int .u8 e.k,.int .u8 e.n,.int .u8 e.d.k,.string e.d.t,Tu e.d.a,Tu e.d.l,Tu e.d.c,Tu e.d.f]] W λrr w'=>Uk rr (.bool (st.may e))/\Se W w':=by
 obtain⟨V,hV⟩:=ea (W.alloc (.cells #[.int .u8 e.k,.int .u8 e.n,.int .u8 e.d.k,.string e.d.t,Tu e.d.a,Tu e.d.l,Tu e.d.c,Tu e.d.f] 104));have Y:Se W V:=by rw[<-hV];exact(gt _ _).alloc (ge _) _
 have hE:Eb V W.heap.size e:=by rw[<-hV];exact ak _ _
 have Q:=aW hV;have hs:=h.below Y;obtain⟨m0,m1,m2,m3,m4,m5,m6,m7⟩:=hE.cells;have HF:=aW λX (hX:Se V X)=>Y.trans (hX.mono Y.size)
 have HD:Hid (∀m,Se W (V.drewN m)):=λm=>dv Y m
 have HT:=aW (BZ e.d.t ht);have HC:=aW (Gs e.d);have J:=aW Y;cases Z:st.ns with
 |nil=>
  have aa:∃p c,V.cell? (Tw g 1)=some (.slice p 0 c):=by
   obtain⟨vn,vw,hv,_⟩:=hs.ex;obtain⟨p,c,ee,_⟩:=aG hv.rn;rw[Z]at ee;exact⟨p,c,by rw[<-show vn=.slice p 0 c from ee];exact hv.sb.cells.2.1⟩
  obtain⟨p,c,c1⟩:=aa
  have G:Hid (st.may e=(if e.k=1 then decide (1<=e.n)&&decide (e.n<=32)else false)):=by
   show _=_;unfold Sy.may;rw[Z]
   by_cases H:e.k=1<;>by_cases I:e.k=3<;>by_cases M:e.k=2<;>by_cases O:e.k=4<;>simp[H,I,M,O]
  clear h hs Y hE Z hV hz
  by_cases H:e.k=1
  ·have q1:(e.k==1)=true:=by simpa using H
   have u:Hid (st.may e=(decide (1<=e.n)&&decide (e.n<=32))):=by rw[G.out,Or H];exact rfl
   clear G H;go_enter func81,ntmps81;go_upto_region 1 with fail
   rw[Q.out];(go_wp2_with fail)
   all_goals(go_ret;rw[u.out];refine⟨?_,J.out⟩;simp_all<;>omega)
  ·have u:Hid (st.may e=false):=by rw[G.out,Eq H];exact rfl
   have q1:(e.k==1)=false:=by simpa using H
   clear G H
   by_cases I:e.k=3
   ·have q2:(e.k==3)=true:=by simpa using I
    clear I;go_enter func81,ntmps81;go_upto_region 1 with fail
    rw[Q.out];(go_wp2_with fail)
    go_quiet (fail)
    (go_wp2_with fail);go_ret;rw[u.out];exact⟨rfl,HD.out _⟩
   ·have q2:(e.k==3)=false:=by simpa using I
    by_cases M:e.k=2
    ·have q3:(e.k==2)=true:=by simpa using M
     clear I M;go_enter func81,ntmps81;go_upto_region 1 with fail
     rw[Q.out];(go_wp2_with fail);go_ret;rw[u.out];exact⟨rfl,J.out⟩
    ·have q3:(e.k==2)=false:=by simpa using M
     by_cases O:e.k=4
     ·have q4:(e.k==4)=true:=by simpa using O
      clear I M O;go_enter func81,ntmps81;go_upto_region 1 with fail
      rw[Q.out];(go_wp2_with fail);go_ret;rw[u.out];exact⟨rfl,J.out⟩
     ·have q4:(e.k==4)=false:=by simpa using O
      clear I M O;go_enter func81,ntmps81;go_upto_region 1 with fail
      rw[Q.out];(go_wp2_with fail);go_ret;rw[u.out];exact⟨rfl,J.out⟩
 |cons n r=>
  obtain⟨b,cap,hc,y0,y1,y2,y3⟩:=hs.nodes Z;have HI:=aW λX (hX:Se V X)=>fu (cr hc hX) (by rw[Z]at hz;simp at hz;omega)
  have q0:(0:Int)<(r.length:Int)+1:=by omega
  have G:Hid (st.may e=(if e.k=1 then decide (1<=e.n)&&decide (e.n<=32)else if e.k=3 then decide (n.k=e.n)else if e.k=2 then gK e.d.t else if e.k=4 then(gK e.d.t&&decide (e.d.k=7\/e.d.k=8))else false)):=by
   show _=_;unfold Sy.may;rw[Z]
   by_cases H:e.k=1<;>by_cases I:e.k=3<;>by_cases M:e.k=2<;>by_cases O:e.k=4<;>simp[H,I,M,O]
  clear h hs Y hE Z hV hz y3
  by_cases H:e.k=1
  ·have q1:(e.k==1)=true:=by simpa using H
   have u:Hid (st.may e=(decide (1<=e.n)&&decide (e.n<=32))):=by rw[G.out,Or H];exact rfl
   clear G H;go_enter func81,ntmps81;go_upto_region 1 with fail
   rw[Q.out];(go_wp2_with fail)
   all_goals(go_ret;rw[u.out];refine⟨?_,J.out⟩;simp_all<;>omega)
  ·rw[Eq H]at G;have q1:(e.k==1)=false:=by simpa using H
   clear H
   by_cases I:e.k=3
   ·rw[Or I]at G;have q2:(e.k==3)=true:=by simpa using I
    clear I;have u:Hid (st.may e=(n.k==e.n)):=by rw[G.out];show _=_;by_cases a:n.k=e.n<;>simp[a]
    have aa:∀x:HW (SG V),x.W.cell? ⟨W.heap.size,1,none⟩=some (.int .u8 e.n):=λx=>cr m1 x.h
    have ae:∀x:HW (SG V),x.W.cell? ⟨b,r.length*3,none⟩=some (.int .u8 n.k):=λx=>cr y0 x.h
    have ag:Nonempty (HW (SG V)):=⟨⟨V.drew,(gt _ _).drew⟩⟩;have af:∀x:HW (SG V),∃y:HW (SG V),x.W=y.W:=λx=>⟨x,rfl⟩
    have KT:Hid (∀x:HW (SG V),Sa 142 #[bP g] x.W λrr w'=>Uk rr (.pointer (some ⟨b,r.length*3,none⟩))/\Below x.W.heap.size x.W w'):=λx=>HI.out x.W x.h
    go_enter func81,ntmps81;go_upto_region 1 with fail
    rw[Q.out];go_upto_region 6 with fail
    refine dq (S:=SG V) (by kernel_rfl) (by kernel_rfl) (gt _ _).drew ?_
    repeat(go_big_quiet_step ((go_at_call 142;exact Calls.quiet_in _ (KT.out _) (λ_ _=>SG.keep))))
    refine wpQuiet_nil ?_;rintro w5⟨⟨W5,ab⟩,rfl⟩;have ad:=aW ab;clear ae aa ab ag af;(go_wp2_with fail);go_ret;rw[u.out];exact⟨rfl,HF.out _ ad.out⟩
   ·rw[Eq I]at G;have q2:(e.k==3)=false:=by simpa using I
    clear I
    by_cases M:e.k=2
    ·rw[Or M]at G;have q3:(e.k==2)=true:=by simpa using M
     clear M;go_enter func81,ntmps81;go_upto_region 1 with fail
     rw[Q.out]
     go_wp2_with(go_at_call 143;refine(HT.out _).mono ?_;rintro r2 w2⟨rfl,rfl⟩)
     go_ret;rw[G.out];exact⟨rfl,J.out⟩
    ·rw[Eq M]at G;have q3:(e.k==2)=false:=by simpa using M
     clear M
     by_cases O:e.k=4
     ·rw[Or O]at G;have q4:(e.k==4)=true:=by simpa using O
      clear O;generalize gK e.d.t=bt at *;generalize decide (e.d.k=7\/e.d.k=8)=bc at *
      cases bt
      ·go_enter func81,ntmps81;go_upto_region 1 with fail
       rw[Q.out]
       go_wp2_with(go_at_call 143;refine(HT.out _).mono ?_;rintro r2 w2⟨rfl,rfl⟩)
       go_ret;rw[G.out];exact⟨rfl,J.out⟩
      ·go_enter func81,ntmps81;go_upto_region 1 with fail
       rw[Q.out]
       go_wp2_with(first|(go_at_call 143;refine(HT.out _).mono ?_;rintro r2 w2⟨rfl,rfl⟩)|(go_at_call 144;refine(HC.out _).mono ?_;rintro r3 w3⟨rfl,hb3⟩;have ac:=show Hid (Se W w3)from HF.out _ hb3;clear hb3))
       go_ret;rw[G.out];exact⟨rfl,ac.out⟩
     ·rw[Eq O]at G;have q4:(e.k==4)=false:=by simpa using O
      clear O;go_enter func81,ntmps81;go_upto_region 1 with fail
      rw[Q.out];(go_wp2_with fail);go_ret;rw[G.out];exact⟨rfl,J.out⟩
def zI:tab.length=40:=by decide
def zH:∀r∈tab,r.ns.length=6:=by decide
def RH {l:List Int}(h:l.length=6):∃a b c d e f,l=[a,b,c,d,e,f]:=by
 match l,h with
 |[a,b,c,d,e,f],_=>exact⟨a,b,c,d,e,f,rfl⟩
def Rw.v (r:Rw):Value:=.agg r.cs.toArray
def KM (w:World):∀k,k<40->(Instr.index 287 (Value.agg gO.toArray) (Tu (k:Nat))).run Tryz.prog w=.ok (tab.getD k M5).v w
 |0,_=>by kernel_rfl
 |1,_=>by kernel_rfl
 |2,_=>by kernel_rfl
 |3,_=>by kernel_rfl
 |4,_=>by kernel_rfl
 |5,_=>by kernel_rfl
 |6,_=>by kernel_rfl
 |7,_=>by kernel_rfl
 |8,_=>by kernel_rfl
 |9,_=>by kernel_rfl
 |10,_=>by kernel_rfl
 |11,_=>by kernel_rfl
 |12,_=>by kernel_rfl
 |13,_=>by kernel_rfl
 |14,_=>by kernel_rfl
 |15,_=>by kernel_rfl
 |16,_=>by kernel_rfl
 |17,_=>by kernel_rfl
 |18,_=>by kernel_rfl
 |19,_=>by kernel_rfl
 |20,_=>by kernel_rfl
 |21,_=>by kernel_rfl
 |22,_=>by kernel_rfl
 |23,_=>by kernel_rfl
 |24,_=>by kernel_rfl
 |25,_=>by kernel_rfl
 |26,_=>by kernel_rfl
 |27,_=>by kernel_rfl
 |28,_=>by kernel_rfl
 |29,_=>by kernel_rfl
 |30,_=>by kernel_rfl
 |31,_=>by kernel_rfl
 |32,_=>by kernel_rfl
 |33,_=>by kernel_rfl
 |34,_=>by kernel_rfl
 |35,_=>by kernel_rfl
 |36,_=>by kernel_rfl
 |37,_=>by kernel_rfl
 |38,_=>by kernel_rfl
 |39,_=>by kernel_rfl
 |k+40,h=>absurd h (by omega)
def LY (a b c d e f:Int) (t:List UInt8) (x y:Fx):(Rw.mk [a,b,c,d,e,f] t x y).v=.agg #[.int .u8 a,.int .u8 b,.int .u8 c,.int .u8 d,.int .u8 e,.int .u8 f,.string ⟨t.toArray⟩,.func (.func x.id) #[] #[],.func (.func y.id) #[] #[]]:=rfl
def GN (r:Rw) {a b c d e f:Int}(J:r.ns=[a,b,c,d,e,f]) (n:Nd) (u:ByteArray) (W:World) :
  Sa 212 #[.agg #[.int .u8 a,.int .u8 b,.int .u8 c,.int .u8 d,.int .u8 e,.int .u8 f,.string ⟨r.t.toArray⟩,.func (.func r.a.id) #[] #[],.func (.func r.b.id) #[] #[]],.agg #[.int .u8 n.k,Tu n.b,.bool n.s],.string u] W λe w'=>Uk e (.bool (r.fits n u))/\Below W.heap.size W w':=by
 have G:(⟨r.t.toArray⟩:ByteArray).toList=r.t:=by rw[Lib.toList_data]
 have H:u.toList=u.data.toList:=Lib.toList_data u
 have I:r.fits n u=(((⟨r.t.toArray⟩:ByteArray).toList==[]||(⟨r.t.toArray⟩:ByteArray).toList==u.toList)&&[a,b,c,d,e,f].any n.is):=by
  unfold Rw.fits;rw[G,H,J]
  congr 2
  ·by_cases q:r.t=[]<;>simp[q]
  ·by_cases q:r.t=u.data.toList<;>simp[q]
 rw[I];exact Dj a b c d e f ⟨r.t.toArray⟩ r.a.id r.b.id n u W
def Dl (p:α->Bool) (l:List α) (k:Nat) (x:α) (G:l[k]?=some x) (h:(l.take k).find? p=none) (u:p x=false):(l.take (k+1)).find? p=none:=by
 rw[T2,G,List.find?_append,h];simp[u]
def KY (p:α->Bool) (l:List α) (k:Nat) (x:α) (G:l[k]?=some x) (h:(l.take k).find? p=none) (H:p x=true):l.find? p=some x:=by
 have u:=(RY.1 G).1
 have e:l=l.take k++x :: l.drop (k+1):=by
  have:=Sz u;rw[(RY.1 G).2]at this;rw[<-this,Tm]
 rw[e,List.find?_append,h];simp[H]
def Ci (n:Nd) (t:Tv) (W:World) (hk:t.k=2\/t.k=6) :
  Sa 150 #[.agg #[.int .u8 n.k,Tu n.b,.bool n.s],.agg #[.int .u8 t.k,.string t.t,Tu t.a,Tu t.l,Tu t.c,Tu t.f]] W λe w'=>Uk e (bi n t).v/\Below W.heap.size W w':=by
 have Q:=aW BX;have q1:(t.k==2)=true\/((t.k==2)=false/\(t.k==6)=true):=by rcases hk with h|h<;>simp[h]
 go_enter func150,ntmps150;go_upto_region 1 with fail
 go_cut [14]from 7 to 14 (λt9 wx=>t9=.bool true/\wx=(((W.alloc (.cells #[.int .u8 n.k,Tu n.b,.bool n.s] 238)).alloc (.cells #[.int .u8 t.k,.string t.t,Tu t.a,Tu t.l,Tu t.c,Tu t.f] 49)).alloc (.cells #[.int .u8 0,.int .u8 0,.int .u8 0,.int .u8 0,.int .u8 0,.int .u8 0,.string ⟨#[]⟩,.nilFunc,.nilFunc] 250)))
 case first=>
  rcases q1 with q1|⟨q1,q2⟩
  ·go_wp2_with fail
   go_meet
   exact⟨rfl,rfl⟩
  ·go_wp2_with fail
   go_meet
   exact⟨rfl,rfl⟩
 case rest=>
 obtain⟨rfl,ah⟩:=hcut;obtain⟨V,hV⟩:∃V,V=wc:=⟨wc,rfl⟩;subst hV;have ap:(W.alloc (.cells #[.int .u8 n.k,Tu n.b,.bool n.s] 238)).heap.size=W.heap.size+1:=by show(W.heap.push _).size=_;simp
 have aq:((W.alloc (.cells #[.int .u8 n.k,Tu n.b,.bool n.s] 238)).alloc (.cells #[.int .u8 t.k,.string t.t,Tu t.a,Tu t.l,Tu t.c,Tu t.f] 49)).heap.size=W.heap.size+1+1:=by show((W.heap.push _).push _).size=_;simp
 have hN:V.heap[W.heap.size]?=some (.cells #[.int .u8 n.k,Tu n.b,.bool n.s] 238 (0,0)):=by rw[ah];exact aI (aI (ak _ _) _) _
 have am:V.heap[W.heap.size+1]?=some (.cells #[.int .u8 t.k,.string t.t,Tu t.a,Tu t.l,Tu t.c,Tu t.f] 49 (0,0)):=by rw[ah,<-ap];exact aI (ak _ _) _
 have ac:V.heap[W.heap.size+1+1]?=some (.cells #[.int .u8 0,.int .u8 0,.int .u8 0,.int .u8 0,.int .u8 0,.int .u8 0,.string ⟨#[]⟩,.nilFunc,.nilFunc] 250 (0,0)):=by rw[ah,<-aq];exact ak _ _
 have S:Below W.heap.size W V:=by rw[ah];exact(((gt _ _).alloc (ge _) _).alloc (by omega) _).alloc (by omega) _
 clear ap aq ah
 go_upto_if 14 with fail
 go_wp2_with(go_at_call 211;refine(Q.out _).mono ?_;rintro e w1⟨rfl,bd⟩;have bg:=show Hid (Below V.heap.size V w1)from bd;clear bd)
 go_loopw [6,16] (λ_ i wr=>∃k:Nat,k<=40/\i=Tu k/\Hid ((tab.take k).find? (λr=>r.fits n t.t)=none)/\Hid (Below V.heap.size V wr)) (λ_ i _=>40-(intOf i).toNat)
 case atStart=>exact⟨0,by omega,rfl,by show _=_;simp,bg.out⟩
 case round=>
  obtain⟨k,bm,rfl,HI,HB⟩:=hrel
  by_cases az:k<40
  ·have q3:(k:Int)<40:=by omega
   have q4:(0:Int)<=k:=by omega
   obtain⟨x,hx⟩:∃x,tab[k]?=some x:=⟨_,Pi (by rw[zI];exact az)⟩;obtain⟨a,b,c,d,e,f,hsix⟩:=RH (zH x (SF hx))
   have an:x.v=.agg #[.int .u8 a,.int .u8 b,.int .u8 c,.int .u8 d,.int .u8 e,.int .u8 f,.string ⟨x.t.toArray⟩,.func (.func x.a.id) #[] #[],.func (.func x.b.id) #[] #[]]:=by
    have:x=⟨[a,b,c,d,e,f],x.t,x.a,x.b⟩:=by rw[<-hsix]
    rw[this];exact LY _ _ _ _ _ _ _ _ _
   have be:(Instr.index 287 (Value.agg gO.toArray) (Tu (k:Nat))).run Tryz.prog wr=.ok (.agg #[.int .u8 a,.int .u8 b,.int .u8 c,.int .u8 d,.int .u8 e,.int .u8 f,.string ⟨x.t.toArray⟩,.func (.func x.a.id) #[] #[],.func (.func x.b.id) #[] #[]]) wr:=by
    rw[KM wr k az,UK,hx,<-an];rfl
   have Z:=aW (GN x hsix n t.t);obtain⟨U,hU⟩:=ea (wr.alloc (.cells #[.int .u8 a,.int .u8 b,.int .u8 c,.int .u8 d,.int .u8 e,.int .u8 f,.string ⟨x.t.toArray⟩,.func (.func x.a.id) #[] #[],.func (.func x.b.id) #[] #[]] 250));have bc:Below wr.heap.size wr U:=by rw[<-hU];exact(gt _ _).alloc (ge _) _
   have I:U.heap[wr.heap.size]?=some (.cells #[.int .u8 a,.int .u8 b,.int .u8 c,.int .u8 d,.int .u8 e,.int .u8 f,.string ⟨x.t.toArray⟩,.func (.func x.a.id) #[] #[],.func (.func x.b.id) #[] #[]] 250 (0,0)):=by rw[<-hU];exact ak _ _
   have Y:Below V.heap.size V U:=HB.out.trans (bc.mono HB.out.size);have ab:=af hN Y;have aw:=af am Y;have av:=af ac Y;have bk:=show Hid (wr.alloc (.cells #[.int .u8 a,.int .u8 b,.int .u8 c,.int .u8 d,.int .u8 e,.int .u8 f,.string ⟨x.t.toArray⟩,.func (.func x.a.id) #[] #[],.func (.func x.b.id) #[] #[]] 250)=U)from hU
   clear hU bc;go_upto_region 5 with fail
   rw[bk.out];have l0:=aa (k:=0) I rfl;have l1:=aa (k:=1) I rfl;have l2:=aa (k:=2) I rfl;have l3:=aa (k:=3) I rfl;have l4:=aa (k:=4) I rfl;have l5:=aa (k:=5) I rfl;have l6:=aa (k:=6) I rfl;have l7:=aa (k:=7) I rfl;have l8:=aa (k:=8) I rfl;have n0:=aa (k:=0) ab rfl;have n1:=aa (k:=1) ab rfl;have n2:=aa (k:=2) ab rfl;have k1:=aa (k:=1) aw rfl;have al:=show Hid (Below V.heap.size V U)from Y
   by_cases J:x.fits n t.t=true
   ·have ae:bi n t=x:=by unfold bi;rw[Or hk,KY _ tab k x hx HI.out J];rfl
    have au:=show Hid ((bi n t).v=.agg #[.int .u8 a,.int .u8 b,.int .u8 c,.int .u8 d,.int .u8 e,.int .u8 f,.string ⟨x.t.toArray⟩,.func (.func x.a.id) #[] #[],.func (.func x.b.id) #[] #[]])from(by rw[ae];exact an)
    rw[J]at Z;have bf:=show Hid (U.heap[wr.heap.size]?=some (.cells #[.int .u8 a,.int .u8 b,.int .u8 c,.int .u8 d,.int .u8 e,.int .u8 f,.string ⟨x.t.toArray⟩,.func (.func x.a.id) #[] #[],.func (.func x.b.id) #[] #[]] 250 (0,0))/\U.heap[W.heap.size+1+1]?=some (.cells #[.int .u8 0,.int .u8 0,.int .u8 0,.int .u8 0,.int .u8 0,.int .u8 0,.string ⟨#[]⟩,.nilFunc,.nilFunc] 250 (0,0)))from⟨I,av⟩
    have ar:=show Hid (Below W.heap.size W V/\W.heap.size<=W.heap.size+1+1)from⟨S,by omega⟩
    clear an hsix be I Y ab aw av hN am ac S ae hx HI J Q
    go_upto_region 6 with(go_at_call 212;refine(Z.out _).mono ?_;rintro e9 w9⟨rfl,M⟩)
    obtain⟨ba,bb⟩:=bf.out;have H:=af ba M;have u:=af bb M;have ai:=show Hid (w9.heap[W.heap.size+1+1]?=some (.cells #[.int .u8 0,.int .u8 0,.int .u8 0,.int .u8 0,.int .u8 0,.int .u8 0,.string ⟨#[]⟩,.nilFunc,.nilFunc] 250 (0,0))/\Below W.heap.size W w9)from⟨u,ar.out.1.trans ((al.out.trans (M.mono al.out.size)).mono ar.out.1.size)⟩
    have p0:=aa (k:=0) H rfl;have p1:=aa (k:=1) H rfl;have p2:=aa (k:=2) H rfl;have p3:=aa (k:=3) H rfl;have p4:=aa (k:=4) H rfl;have p5:=aa (k:=5) H rfl;have p6:=aa (k:=6) H rfl;have p7:=aa (k:=7) H rfl;have p8:=aa (k:=8) H rfl;have s0:=aa (k:=0) u rfl;have s1:=aa (k:=1) u rfl;have s2:=aa (k:=2) u rfl;have s3:=aa (k:=3) u rfl;have s4:=aa (k:=4) u rfl;have s5:=aa (k:=5) u rfl;have s6:=aa (k:=6) u rfl;have s7:=aa (k:=7) u rfl;have s8:=aa (k:=8) u rfl;have f0:=λj=>aj (k:=j) u
    clear ba bb H u M l0 l1 l2 l3 l4 l5 l6 l7 l8 n0 n1 n2 k1 Z;(go_wp2_with fail);obtain⟨u,ax⟩:=ai.out;have h9:=ag (ag (ag (ag (ag (ag (ag (ag (ag u 0 (.int .u8 a)) 1 (.int .u8 b)) 2 (.int .u8 c)) 3 (.int .u8 d)) 4 (.int .u8 e)) 5 (.int .u8 f)) 6 (.string ⟨x.t.toArray⟩)) 7 (.func (.func x.a.id) #[] #[])) 8 (.func (.func x.b.id) #[] #[]);have h9:=h9.trans (show _=some (Obj.cells #[.int .u8 a,.int .u8 b,.int .u8 c,.int .u8 d,.int .u8 e,.int .u8 f,.string ⟨x.t.toArray⟩,.func (.func x.a.id) #[] #[],.func (.func x.b.id) #[] #[]] 250 (0,0))by kernel_rfl);have ay:=VP (P:=Tryz.prog) _ (W.heap.size+1+1) 250 250 _ (0,0) _ h9 underlying250 (by first|rfl|kernel_rfl) (by first|rfl|kernel_rfl);refine R0 (v:=.agg #[.int .u8 a,.int .u8 b,.int .u8 c,.int .u8 d,.int .u8 e,.int .u8 f,.string ⟨x.t.toArray⟩,.func (.func x.a.id) #[] #[],.func (.func x.b.id) #[] #[]]) (fg (a:=4) (t:=250) (ad:=⟨W.heap.size+1+1,0,none⟩) (by kernel_rfl) (by rfl) ay) rfl ?_;refine⟨by rw[au.out],?_⟩;have G:=ar.out.2;exact((((((((ax.setCell (p:=⟨W.heap.size+1+1,0,none⟩) G _).setCell (p:=⟨W.heap.size+1+1,1,none⟩) G _).setCell (p:=⟨W.heap.size+1+1,2,none⟩) G _).setCell (p:=⟨W.heap.size+1+1,3,none⟩) G _).setCell (p:=⟨W.heap.size+1+1,4,none⟩) G _).setCell (p:=⟨W.heap.size+1+1,5,none⟩) G _).setCell (p:=⟨W.heap.size+1+1,6,none⟩) G _).setCell (p:=⟨W.heap.size+1+1,7,none⟩) G _).setCell (p:=⟨W.heap.size+1+1,8,none⟩) G _
   ·have O:x.fits n t.t=false:=by simpa using J
    have bj:=show Hid ((tab.take (k+1)).find? (λr=>r.fits n t.t)=none)from Dl _ tab k x hx HI.out O
    rw[O]at Z;clear an hsix be I Y ab aw av hN am ac S hx HI J O Q
    go_wp2_with(go_at_call 212;refine(Z.out _).mono ?_;rintro e9 w9⟨rfl,M⟩;have bh:=show Hid (Below V.heap.size V w9)from al.out.trans (M.mono al.out.size);clear M)
    exact⟨⟨k+1,az,by go_num,bj,bh⟩,by simp[intOf];omega⟩
  ·obtain rfl:k=40:=by omega
   have ae:bi n t=M5:=by
    unfold bi;rw[Or hk];have:=HI.out;rw[S5 (by rw[zI];omega)]at this;rw[this];rfl
   have au:=show Hid ((bi n t).v=.agg #[.int .u8 0,.int .u8 0,.int .u8 0,.int .u8 0,.int .u8 0,.int .u8 0,.string ⟨#[]⟩,.func (.func 213) #[] #[],.func (.func 213) #[] #[]])from(by rw[ae];rfl)
   have u:=af ac HB.out;have ai:=show Hid (wr.heap[W.heap.size+1+1]?=some (.cells #[.int .u8 0,.int .u8 0,.int .u8 0,.int .u8 0,.int .u8 0,.int .u8 0,.string ⟨#[]⟩,.nilFunc,.nilFunc] 250 (0,0))/\Below W.heap.size W wr)from⟨u,S.trans (HB.out.mono S.size)⟩
   have s0:=aa (k:=0) u rfl;have s1:=aa (k:=1) u rfl;have s2:=aa (k:=2) u rfl;have s3:=aa (k:=3) u rfl;have s4:=aa (k:=4) u rfl;have s5:=aa (k:=5) u rfl;have s6:=aa (k:=6) u rfl;have s7:=aa (k:=7) u rfl;have s8:=aa (k:=8) u rfl;have f0:=λj=>aj (k:=j) u
   clear u ae hN am ac S Q HI;(go_wp2_with fail);obtain⟨u,ax⟩:=ai.out;have h9:=ag (ag (ag (ag (ag (ag (ag (ag (ag u 0 (.int .u8 0)) 1 (.int .u8 0)) 2 (.int .u8 0)) 3 (.int .u8 0)) 4 (.int .u8 0)) 5 (.int .u8 0)) 6 (.string ⟨#[]⟩)) 7 (.func (.func 213) #[] #[])) 8 (.func (.func 213) #[] #[]);have h9:=h9.trans (show _=some (Obj.cells #[.int .u8 0,.int .u8 0,.int .u8 0,.int .u8 0,.int .u8 0,.int .u8 0,.string ⟨#[]⟩,.func (.func 213) #[] #[],.func (.func 213) #[] #[]] 250 (0,0))by kernel_rfl);have ay:=VP (P:=Tryz.prog) _ (W.heap.size+1+1) 250 250 _ (0,0) _ h9 underlying250 (by first|rfl|kernel_rfl) (by first|rfl|kernel_rfl);refine R0 (v:=.agg #[.int .u8 0,.int .u8 0,.int .u8 0,.int .u8 0,.int .u8 0,.int .u8 0,.string ⟨#[]⟩,.func (.func 213) #[] #[],.func (.func 213) #[] #[]]) (fg (a:=4) (t:=250) (ad:=⟨W.heap.size+1+1,0,none⟩) (by kernel_rfl) (by rfl) ay) rfl ?_;refine⟨by rw[au.out],?_⟩;have G:W.heap.size<=W.heap.size+1+1:=by omega
   exact((((((((ax.setCell (p:=⟨W.heap.size+1+1,0,none⟩) G _).setCell (p:=⟨W.heap.size+1+1,1,none⟩) G _).setCell (p:=⟨W.heap.size+1+1,2,none⟩) G _).setCell (p:=⟨W.heap.size+1+1,3,none⟩) G _).setCell (p:=⟨W.heap.size+1+1,4,none⟩) G _).setCell (p:=⟨W.heap.size+1+1,5,none⟩) G _).setCell (p:=⟨W.heap.size+1+1,6,none⟩) G _).setCell (p:=⟨W.heap.size+1+1,7,none⟩) G _).setCell (p:=⟨W.heap.size+1+1,8,none⟩) G _
def Cj (n:Nd) (t:Tv) (W:World) :
  Sa 150 #[.agg #[.int .u8 n.k,Tu n.b,.bool n.s],.agg #[.int .u8 t.k,.string t.t,Tu t.a,Tu t.l,Tu t.c,Tu t.f]] W λe w'=>Uk e (bi n t).v/\Below W.heap.size W w':=by
 by_cases I:t.k=2\/t.k=6
 ·exact Ci n t W I
 ·have J:bi n t=M5:=by unfold bi;rw[Eq I]
  have Y:=show Hid ((bi n t).v=.agg #[.int .u8 0,.int .u8 0,.int .u8 0,.int .u8 0,.int .u8 0,.int .u8 0,.string ⟨#[]⟩,.func (.func 213) #[] #[],.func (.func 213) #[] #[]])from(by rw[J];rfl)
  have Z:(t.k==2)=false:=by simp;exact λh=>I (.inl h)
  have q2:(t.k==6)=false:=by simp;exact λh=>I (.inr h)
  obtain⟨U,M⟩:=ea ((W.alloc (.cells #[.int .u8 n.k,Tu n.b,.bool n.s] 238)).alloc (.cells #[.int .u8 t.k,.string t.t,Tu t.a,Tu t.l,Tu t.c,Tu t.f] 49));have hsz:U.heap.size=W.heap.size+1+1:=by rw[<-M];show((W.heap.push _).push _).size=_;simp
  have G:Below W.heap.size W U:=by rw[<-M];exact((gt _ _).alloc (ge _) _).alloc (by show _<=(W.heap.push _).size;simp) _
  have O:=ak U (.cells #[.int .u8 0,.int .u8 0,.int .u8 0,.int .u8 0,.int .u8 0,.int .u8 0,.string ⟨#[]⟩,.func (.func 213) #[] #[],.func (.func 213) #[] #[]] 250);rw[hsz]at O;have H:=VP (P:=Tryz.prog) _ (W.heap.size+1+1) 250 250 _ (0,0) _ O underlying250 (by first|rfl|kernel_rfl) (by first|rfl|kernel_rfl);have u:Below W.heap.size W (U.alloc (.cells #[.int .u8 0,.int .u8 0,.int .u8 0,.int .u8 0,.int .u8 0,.int .u8 0,.string ⟨#[]⟩,.func (.func 213) #[] #[],.func (.func 213) #[] #[]] 250)):=G.alloc G.size _;rw[<-M]at H u;have S:=aW H;have Q:=aW u;clear H u O hsz G M J I;go_enter func150,ntmps150;(go_wp2_with fail);refine R0 (v:=.agg #[.int .u8 0,.int .u8 0,.int .u8 0,.int .u8 0,.int .u8 0,.int .u8 0,.string ⟨#[]⟩,.func (.func 213) #[] #[],.func (.func 213) #[] #[]]) (fg (a:=4) (t:=250) (ad:=⟨W.heap.size+1+1,0,none⟩) (by kernel_rfl) (by rfl) S.out) rfl ?_;exact⟨by rw[Y.out],Q.out⟩
end
section
variable {st st':Sy}{g T q a b n:Nat}{W V V':World}{t:Tv}{v:Value}{l:List Dc}
def MD (W:World) (T:Nat) (t:Tv):Prop:=W.heap[T]?=some (.cells #[.int .u8 t.k,.string t.t,Tu t.a,Tu t.l,Tu t.c,Tu t.f] 49 (0,0))
def MD.cells {W:World}{T:Nat}{t:Tv}(h:MD W T t):W.cell? (Tw T 0)=some (.int .u8 t.k)/\W.cell? (Tw T 1)=some (.string t.t)/\W.cell? (Tw T 2)=some (Tu t.a)/\W.cell? (Tw T 3)=some (Tu t.l)/\W.cell? (Tw T 4)=some (Tu t.c)/\W.cell? (Tw T 5)=some (Tu t.f):=
 ⟨aa h rfl,aa h rfl,aa h rfl,aa h rfl,aa h rfl,aa h rfl⟩
structure NC (S:Nat->Prop) (g:Nat) (W:World) (T:Nat) (t:Tv) (V:World) (v:Value) (l:List Dc) (st:Sy):Prop where
 an:An S g W V v l st
 tb:MD V T t
 tn:¬S T/\T<V.heap.size/\T≠g/\v.ownBlock≠some T
def An.below {S:Nat->Prop}(h:An S g W V v l st) (u:Below V.heap.size V V'):An S g W V' v l st:=by
 obtain⟨⟨G,H,I,J⟩,M,O⟩:=h;exact⟨⟨G,H.below u,I,J⟩,eI M u,O.step (Kp.of_below (S:=λ_=>False) u) (λ_ _ h=>h.elim)⟩
def NC.below {S:Nat->Prop}(h:NC S g W T t V v l st) (u:Below V.heap.size V V'):NC S g W T t V' v l st:=
 ⟨h.an.below u,af h.tb u,h.tn.1,R4 h.tn.2.1 u.size,h.tn.2.2⟩
def NC.app {S:Nat->Prop}{G w':World}{v':Value}{l':List Dc}(h:NC S g W T t V v l st) (hb:Below V.heap.size V G) (hr:Rd w' v' l') (hg:G.grownBy w' v.ownBlock) (J:Nb G v v'):NC S g W T t w' v' l' st:=by
 obtain⟨⟨⟨Q,Y,a2,H⟩,a4,Z⟩,b1,b2,b3,b4,b5⟩:=h.below hb;have I:Kp (λk=>v.ownBlock=some k) G w':=(Kp.of_grown hg).sub (λk e=>e.symm)
 have u:∀k,v'.ownBlock=some k->(S k\/W.heap.size<=k)/\¬Q k/\k≠T:=λk e=>by
  rcases J with J|⟨q,hq,O⟩
  ·rw[J]at e;exact⟨(H k e).1,(H k e).2,λek=>b5 (by rw[<-ek];exact e)⟩
  ·rw[hq]at e;cases e;refine⟨.inr (PI Z.size O),λM=>?_,λek=>by omega⟩;have:=Y.lt k M;omega
 refine⟨⟨⟨Q,Y.kp I (λk M e=>(H k e).2 M),a2,λk e=>⟨(u k e).1,(u k e).2.1⟩⟩,hr,Z.step I (λk aa e=>?_)⟩,I.blk b1 (λe=>b5 e),b2,R4 b3 I.size,b4,λe=>(u T e).2.2 rfl⟩
 rcases(H k e).1 with h1|h1
 ·exact h1
 ·omega
def SS.gset {S:Nat->Prop}{W':World}(h:SS S W g st) (I:Kp (λk=>k=g) W W') (J:∀vn vw,SB W g false vn vw st.mr.isSome (st.mr.getD 0:Nat) st.wr st.en st.pt->SB W' g false vn vw st'.mr.isSome (st'.mr.getD 0:Nat) st'.wr st'.en st'.pt) (M:st'.ns=st.ns) (Q:st'.ws=st.ws):SS S W' g st':=by
 obtain⟨vn,vw,u,Y,Z⟩:=h.ex;refine⟨⟨vn,vw,⟨J _ _ u.sb,?_,?_⟩,Y,Z⟩,h.sg,λk O=>R4 (h.lt k O) I.size⟩
 ·rw[M];exact I.row u.rn (λk G H=>aF u.rn u.sb (by decide) (by rw[G,H]))
 ·rw[Q];exact I.row u.rd (λk G H=>aF u.rd u.sb (by decide) (by rw[G,H]))
def NC.gset {S:Nat->Prop}(h:NC S g W T t V v l st) (hS:S g) (u:Kp (λk=>k=g) V V') (hb:∀vn vw,SB V g false vn vw st.mr.isSome (st.mr.getD 0:Nat) st.wr st.en st.pt->SB V' g false vn vw st'.mr.isSome (st'.mr.getD 0:Nat) st'.wr st'.en st'.pt) (hn:st'.ns=st.ns) (hw:st'.ws=st.ws):NC S g W T t V' v l st':=by
 obtain⟨⟨⟨J,G,M,O⟩,H,Q⟩,Y,Z,b3,I,b5⟩:=h;obtain⟨vn,vw,hv,_⟩:=G.ex;exact⟨⟨⟨J,G.gset u hb hn hw,M,O⟩,Ac H u (λk e1 e2=>aF H hv.sb (by decide) (by rw[e1,e2])),Q.step u (λk _ e=>by rw[e];exact hS)⟩,u.blk Y I,Z,R4 b3 u.size,I,b5⟩
def NC.cells {S:Nat->Prop}{g:Nat}{W V:World}{T:Nat}{t:Tv}{v:Value}{l:List Dc}{st:Sy}(h:NC S g W T t V v l st) :
  (V.cell? (Tw g 3)=some (.bool st.mr.isSome)/\V.cell? (Tw g 4)=some (Tu (st.mr.getD 0:Nat))/\V.cell? (Tw g 5)=some (.bool st.wr)/\V.cell? (Tw g 6)=some (.bool st.en)/\V.cell? (Tw g 7)=some (.bool st.pt))/\(V.frozen? (Tw g 3)=false/\V.frozen? (Tw g 4)=false/\V.frozen? (Tw g 5)=false/\V.frozen? (Tw g 6)=false/\V.frozen? (Tw g 7)=false)/\g<V.heap.size:=by
 obtain⟨⟨⟨G,u,H,I⟩,J,M⟩,O,Q,Y,Z,b5⟩:=h;obtain⟨vn,vw,hv,_⟩:=u.ex;obtain⟨c0,c1,c2,c3,c4,c5,c6,c7⟩:=hv.sb.cells;exact⟨⟨c3,c4,c5,c6,c7⟩,⟨hv.sb.frozen 3,hv.sb.frozen 4,hv.sb.frozen 5,hv.sb.frozen 6,hv.sb.frozen 7⟩,hv.sb.lt⟩
abbrev zy (x:ByteArray):Obj:=.cells #[.int .u8 2,.string ⟨#[]⟩,Tu 0,Tu 0,.bool false,.int .u8 1,.string x,Tu 0,Tu 0,.bool false] 37
def na (x:ByteArray) (w:World):(w.alloc (zy x)).heap[w.heap.size]?=some (.cells (bR [dS,dT x]).toArray 37 (0,0)):=ak w _
def sM (d:Dc) (w:World):(w.alloc (.cells #[.int .u8 d.k,.string d.t,Tu d.b,Tu d.i,.bool d.e] 37)).heap[w.heap.size]?=some (.cells (bR [d]).toArray 37 (0,0)):=ak w _
def B9 {S:Nat->Prop}(h:SS S W g st) (hl:st.ws.length<=900000000) (t:Tv) :
  Sa 85 #[bP g,.agg #[.int .u8 t.k,.string t.t,Tu t.a,Tu t.l,Tu t.c,Tu t.f]] W λr w'=>∃v,Uk r v/\An S g W w' v (st.note t).2 (st.note t).1:=by
 obtain⟨V,hV⟩:=ea (W.alloc (.cells #[.int .u8 t.k,.string t.t,Tu t.a,Tu t.l,Tu t.c,Tu t.f] 49));have hB:Below W.heap.size W V:=by rw[<-hV];exact(gt _ _).alloc (ge _) _
 have hT:MD V W.heap.size t:=by rw[<-hV];exact ak _ _
 have bt:V.heap.size=W.heap.size+1:=by rw[<-hV];show(W.heap.push _).size=_;simp
 have HV:=aW hV;have ca:=h.lt g h.sg
 have bf:Hid (Sa 156 #[bP g] V λr w'=>∃v,Uk r v/\NC S g W W.heap.size t w' v (st.ws.takeWhile br) { st with ws:=st.ws.dropWhile br }):=by
  refine(oC (h.below hB) (by omega)).mono ?_;rintro r w'⟨v,rfl,⟨S',I,Q,J⟩,a4,a5⟩;have be:¬S W.heap.size:=λhs=>by have:=h.lt _ hs;omega
  refine⟨v,rfl,⟨⟨S',I,λk hk=>(Q k hk).imp id (λe=>PI hB.size e),λk e=>⟨(J k e).1.imp id (λe=>PI hB.size e),(J k e).2⟩⟩,a4,(Kp.of_below hB).step a5 (λ_ _ h=>h)⟩,a5.blk hT be,be,?_,by omega,λe=>?_⟩
  ·have:=a5.size;omega
  ·rcases(J _ e).1 with h1|h1
   ·exact be h1
   ·omega
 have bd:=h.sg;have bh:=aW (oB t);obtain⟨bg,aa⟩:=ea (st.ws.takeWhile br);obtain⟨rs,hrs⟩:=ea (st.ws.dropWhile br);have bw:bg.length<=900000000:=by have:=(List.takeWhile_prefix (p:=br) (l:=st.ws)).length_le;rw[aa]at this;omega
 have ar:Hid (st.note t=(if t.f=0/\st.wr=true then(⟨st.ns,rs,none,true,st.en||decide (t.k=7),st.pt||decide (t.k=8)⟩,bg++[dS,dT t.t])else(⟨st.ns,rs,none,true,true,st.pt⟩,bg++dH :: ((if 2<=t.f/\st.wr=true/\bg=[]then[dE]else[])++[dT t.t])))):=by
  show _=_;unfold Sy.note;simp only;rw[aa,hrs]
 rw[aa,hrs]at bf;clear h hl hV hB hT bt aa hrs;go_enter Tryz.func85,Tryz.ntmps85;go_upto_region 1 with fail
 rw[HV.out]
 go_upto_region 3 with(go_at_call 156;refine bf.out.mono ?_;rintro r1 w1⟨v1,rfl,bc⟩;obtain⟨p1,c1,ev,_⟩:=bv bc.an.2.1;subst ev;have aw:=show Hid (NC S g W W.heap.size t w1 (.slice p1 bg.length c1) bg { st with ws:=rs })from bc;clear bc)
 obtain⟨⟨c3,c4,c5,c6,c7⟩,⟨f3,f4,f5,f6,f7⟩,ac⟩:=aw.out.cells;go_upto_region 4 with fail
 have ai:NC S g W W.heap.size t ((w1.setCell ⟨g,3,none⟩ (.bool false)).setCell ⟨g,4,none⟩ (Tu 0)) (.slice p1 bg.length c1) bg { st with ws:=rs,mr:=none }:=aw.out.gset bd ((Kp.set _ _ _ _).trans (Kp.set _ _ _ _)) (λvn vw hb=>ag (ag hb 3 _) 4 _) rfl rfl;obtain⟨w2,bo⟩:=ea ((w1.setCell ⟨g,3,none⟩ (.bool false)).setCell ⟨g,4,none⟩ (Tu 0));rw[bo]at ai ⊢;clear c3 c4 c5 c6 c7 f3 f4 f5 f6 f7 bo ac aw;obtain⟨⟨c3,c4,c5,c6,c7⟩,⟨f3,f4,f5,f6,f7⟩,ac⟩:=ai.cells;obtain⟨t0,t1,t2,t3,t4,t5⟩:=ai.tb.cells;have an:=show Hid (NC S g W W.heap.size t w2 (.slice p1 bg.length c1) bg { st with ws:=rs,mr:=none })from ai
 have bz:g≠W.heap.size:=by omega
 have bk:=ai.tn.2.1;clear ai
 by_cases au:t.f=0/\st.wr=true
 ·obtain⟨ab,hw⟩:=au;have u:=show Hid (st.note t=(⟨st.ns,rs,none,true,st.en||decide (t.k=7),st.pt||decide (t.k=8)⟩,bg++[dS,dT t.t]))from(by rw[ar.out,Or ⟨ab,hw⟩];exact rfl)
  have q1:(t.f==0)=true:=by simpa using ab
  have Y:w2.cell? (Tw g 5)=some (.bool true):=by rw[c5];show some (Value.bool st.wr)=_;rw[hw]
  have G:=show Hid (∀x y:Bool,(st.en||decide (t.k=7))=x->(st.pt||decide (t.k=8))=y->∃H,Hid ((w2.setCell ⟨g,6,none⟩ (.bool x)).setCell ⟨g,7,none⟩ (.bool y)=H)/\NC S g W W.heap.size t H (.slice p1 bg.length c1) bg (st.note t).1)from(λx y e1 e2=>by
   refine⟨_,rfl,an.out.gset bd ((Kp.set _ _ _ _).trans (Kp.set _ _ _ _)) (λvn vw hb=>?_) (by rw[u.out]) (by rw[u.out])⟩;have:=ag (ag hb 6 (.bool x)) 7 (.bool y);rw[u.out];simp only[e1,e2];rw[show({ st with ws:=rs,mr:=none }:Sy).wr=true from hw]at this;exact this)
  clear ar c5 an ab hw;cases al:st.en<;>cases am:st.pt
  case' false.false=>obtain⟨H,ap,Z⟩:=G.out (t.k==7) (t.k==8) (by rw[al];rfl) (by rw[am];rfl)
  case' false.true=>obtain⟨H,ap,Z⟩:=G.out (t.k==7) true (by rw[al];rfl) (by rw[am];rfl)
  case' true.false=>obtain⟨H,ap,Z⟩:=G.out true (t.k==8) (by rw[al];rfl) (by rw[am];rfl)
  case' true.true=>obtain⟨H,ap,Z⟩:=G.out true true (by rw[al];rfl) (by rw[am];rfl)
  all_goals(
   simp only[al]at c6;simp only[am]at c7;clear al am G;go_upto_region 7 with fail
   rw[ap.out];clear ap t0 t1 t2 t3 t4 t5 c3 c4 c6 c7 Y f3 f4 f5 f6 f7 ac bk;obtain⟨t0,t1,t2,t3,t4,t5⟩:=Z.tb.cells
   have ae:=show Hid (∀X,Below H.heap.size H X->Rd (X.alloc (zy t.t)) (.slice p1 bg.length c1) bg/\∀v' w',Rd w' v' (bg++[dS,dT t.t])->(X.alloc (zy t.t)).grownBy w' (Value.slice p1 bg.length c1).ownBlock->Nb (X.alloc (zy t.t)) (.slice p1 bg.length c1) v'->An S g W w' v' (st.note t).2 (st.note t).1)from(λX hX=>by
    have O:Below H.heap.size H (X.alloc (zy t.t)):=hX.alloc hX.size _;refine⟨eI Z.an.2.1 O,λv' w' I Q J=>?_⟩;have:=(Z.app O I Q J).an;rw[show(st.note t).2=bg++[dS,dT t.t]by rw[u.out]];exact this)
   clear Z
   go_wp2_with(first|(go_at_call 155;refine(bh.out _).mono ?_;rintro r4 w4⟨rfl,bm⟩;obtain⟨x1,x2⟩:=ae.out _ bm;have az:=aW x1;have ba:=aW x2;clear bm x1 x2)|(at_builtin;refine rE rfl _ _ rfl (.slice p1 bg.length c1) bg [dS,dT t.t] rfl az.out w4.heap.size 2 rfl (na t.t w4) (by simp;omega) ?_;intro v' w' I Q J;have HX:=show Hid _ from ba.out v' w' I Q J;clear I Q J))
   go_ret;exact⟨_,rfl,HX.out⟩)
 ·have u:=show Hid (st.note t=(⟨st.ns,rs,none,true,true,st.pt⟩,bg++dH :: ((if 2<=t.f/\st.wr=true/\bg=[]then[dE]else[])++[dT t.t])))from(by rw[ar.out,Eq au];exact rfl)
  have Y:w2.cell? (Tw g 5)=some (.bool st.wr):=c5;have av:=show Hid (¬(t.f=0/\st.wr=true))from au
  clear ar c5 au
  go_cut [26]from 18 to 26 (λt9 wx=>t9=.bool false/\wx=w2)
  case first=>
   by_cases ab:t.f=0
   ·have hw:st.wr=false:=by cases hq:st.wr with|false=>rfl|true=>exact absurd ⟨ab,hq⟩ av.out
    have q1:(t.f==0)=true:=by simpa using ab
    rw[hw]at Y;clear ab hw av;(go_wp2_with fail)
    go_meet
    exact⟨rfl,rfl⟩
   ·have q1:(t.f==0)=false:=by simpa using ab
    clear ab av;(go_wp2_with fail)
    go_meet
    exact⟨rfl,rfl⟩
  case rest=>
  obtain⟨rfl,ad⟩:=hcut;replace ad:=ad.symm;subst ad
  have af:=show Hid (Rd (w2.alloc (.cells #[.int .u8 4,.string ⟨#[]⟩,Tu 0,Tu 0,.bool false] 37)) (.slice p1 bg.length c1) bg/\∀v' w',Rd w' v' (bg++[dH])->(w2.alloc (.cells #[.int .u8 4,.string ⟨#[]⟩,Tu 0,Tu 0,.bool false] 37)).grownBy w' (Value.slice p1 bg.length c1).ownBlock->Nb (w2.alloc (.cells #[.int .u8 4,.string ⟨#[]⟩,Tu 0,Tu 0,.bool false] 37)) (.slice p1 bg.length c1) v'->NC S g W W.heap.size t w' v' (bg++[dH]) { st with ws:=rs,mr:=none })from(by
   have O:Below w2.heap.size w2 (w2.alloc (.cells #[.int .u8 4,.string ⟨#[]⟩,Tu 0,Tu 0,.bool false] 37)):=(gt _ _).alloc (ge _) _;exact⟨eI an.out.an.2.1 O,λv' w' I Q J=>an.out.app O I Q J⟩)
  clear t0 t1 t2 t3 t4 t5 c3 c4 c6 c7 Y f3 f4 f5 f6 f7 ac bk an
  go_upto_region 9 with(at_builtin;refine rE rfl _ _ rfl (.slice p1 bg.length c1) bg [dH] rfl af.out.1 w2.heap.size 1 rfl (sM dH w2) (by simp;omega) ?_;intro v' H I Q J;have Z:=af.out.2 v' H I Q J;obtain⟨p3,c3,ev,_⟩:=bv I;subst ev;have G:=show Hid (NC S g W W.heap.size t H (.slice p3 (bg++[dH]).length c3) (bg++[dH]) { st with ws:=rs,mr:=none })from Z;clear I Q J Z)
  clear af;obtain⟨⟨bb,c4,c5,c6,c7⟩,⟨f3,f4,f5,f6,f7⟩,ac⟩:=G.out.cells;obtain⟨t0,t1,t2,t3,t4,t5⟩:=G.out.tb.cells;have Y:H.cell? (Tw g 5)=some (.bool st.wr):=c5;clear c5 bb c4;obtain⟨b9,hb9⟩:∃b9:Bool,decide (2<=t.f/\st.wr=true/\bg=[])=b9:=⟨_,rfl⟩;have M:=show Hid (decide (2<=t.f/\st.wr=true/\bg=[])=b9)from hb9
  clear hb9
  go_cut [73]from 61 to 73 (λt9 wx=>t9=.bool b9/\wx=H)
  case first=>
   by_cases aq:2<=t.f
   ·cases hw:st.wr with
    |false=>
     have HY:Hid (false=b9):=by rw[<-M.out,R9 (λh=>by rw[hw]at h;cases h.2.1)];exact rfl
     have q1:(t.f<2)=False:=by simp;omega
     have q2:decide (2<=t.f)=true:=R8 aq;rw[hw]at Y;clear M hw;(go_wp2_with fail)
     go_meet
     exact⟨by rw[HY.out],rfl⟩
    |true=>
     have q2:decide (2<=t.f)=true:=R8 aq;rw[hw]at Y;cases aa:bg with
     |nil=>
      have HY:Hid (true=b9):=by rw[<-M.out,R8 ⟨aq,hw,aa⟩];exact rfl
      clear M hw;subst aa;(go_wp2_with fail)
      go_meet
      exact⟨by rw[HY.out],rfl⟩
     |cons x y=>
      have HY:Hid (false=b9):=by rw[<-M.out,R9 (λh=>by rw[aa]at h;cases h.2.2)];exact rfl
      clear M hw;subst aa;have q3:decide ((0:Int)<((x :: y).length:Int))=true:=by simp
      have q4:(0:Int)<(y.length:Int)+1:=by omega
      go_wp2_with fail
      go_meet
      exact⟨by rw[HY.out],rfl⟩
   ·have HY:Hid (false=b9):=by rw[<-M.out,R9 (λh=>aq h.1)];exact rfl
    have q2:decide (2<=t.f)=false:=R9 aq;clear M;(go_wp2_with fail)
    go_meet
    exact⟨by rw[HY.out],rfl⟩
  case rest=>
  obtain⟨rfl,ad⟩:=hcut;replace ad:=ad.symm;subst ad;obtain⟨em,hem⟩:=ea (if 2<=t.f/\st.wr=true/\bg=[]then[dE]else[])
  have ah:=show Hid ((b9=true->em=[dE])/\(b9=false->em=[])/\em.length<=1)from(by
   refine⟨λhb=>?_,λhb=>?_,?_⟩
   ·rw[<-hem,Or (SE (M.out.trans hb))]
   ·rw[<-hem,Eq (Uy (M.out.trans hb))]
   ·rw[<-hem];split<;>simp)
  rw[hem]at u;clear hem M t0 t1 t2 t3 t4 t5 c6 c7 Y f3 f4 f5 f6 f7 ac
  go_upto_if 73 with fail
  go_cut [5]from 74 to 77 (λt9 wx=>∃p n c,t9=.slice p n c/\Hid (NC S g W W.heap.size t wx (.slice p n c) (bg++dH :: em) { st with ws:=rs,mr:=none }))
  case first=>
   cases b9 with
   |true=>
    obtain rfl:em=[dE]:=ah.out.1 rfl
    have af:=show Hid (Rd (H.alloc (.cells #[.int .u8 5,.string ⟨#[]⟩,Tu 0,Tu 0,.bool false] 37)) (.slice p3 (bg++[dH]).length c3) (bg++[dH])/\∀v' w',Rd w' v' ((bg++[dH])++[dE])->(H.alloc (.cells #[.int .u8 5,.string ⟨#[]⟩,Tu 0,Tu 0,.bool false] 37)).grownBy w' (Value.slice p3 (bg++[dH]).length c3).ownBlock->Nb (H.alloc (.cells #[.int .u8 5,.string ⟨#[]⟩,Tu 0,Tu 0,.bool false] 37)) (.slice p3 (bg++[dH]).length c3) v'->NC S g W W.heap.size t w' v' ((bg++[dH])++[dE]) { st with ws:=rs,mr:=none })from(by
     have O:Below H.heap.size H (H.alloc (.cells #[.int .u8 5,.string ⟨#[]⟩,Tu 0,Tu 0,.bool false] 37)):=(gt _ _).alloc (ge _) _;exact⟨eI G.out.an.2.1 O,λv' w' I Q J=>G.out.app O I Q J⟩)
    have bu:(bg++[dH]).length<=900000001:=by simp;omega
    clear G ah
    go_wp2_with(at_builtin;refine rE rfl _ _ rfl (.slice p3 (bg++[dH]).length c3) (bg++[dH]) [dE] (by simp[Act.eval,Act.put]) af.out.1 H.heap.size 1 rfl (sM dE H) (by simp at bu ⊢;omega) ?_;intro v' w4 I Q J;have bi:=af.out.2 v' w4 I Q J;obtain⟨p4,c4,ev,_⟩:=bv I;subst ev;have ax:=show Hid (NC S g W W.heap.size t w4 (.slice p4 ((bg++[dH])++[dE]).length c4) ((bg++[dH])++[dE]) { st with ws:=rs,mr:=none })from bi;clear I Q J bi)
    go_meet
    refine⟨_,_,_,rfl,?_⟩;have:=ax.out;rw[show((bg++[dH])++[dE]).length=bg.length+1+1 by simp,RW]at this;exact this
   |false=>
    obtain rfl:em=[]:=ah.out.2.1 rfl;have ax:=show Hid (NC S g W W.heap.size t H (.slice p3 (bg++[dH]).length c3) (bg++[dH]) { st with ws:=rs,mr:=none })from G.out
    clear G ah;(go_wp2_with fail)
    go_meet
    refine⟨_,_,_,rfl,?_⟩;have:=ax.out;rw[show(bg++[dH]).length=bg.length+1 by simp]at this;exact this
  case rest=>
  obtain⟨p5,n5,c5,rfl,bj⟩:=hcut;obtain⟨w5,hw5⟩:∃w5,w5=wc:=⟨wc,rfl⟩;subst hw5;have ay:=show Hid (NC S g W W.heap.size t w5 (.slice p5 n5 c5) (bg++dH :: em) { st with ws:=rs,mr:=none })from bj.out
  obtain⟨⟨bb,c4,Y,c6,c7⟩,⟨f3,f4,f5,f6,f7⟩,ac⟩:=ay.out.cells;have bx:=ah.out.2.2
  have aj:NC S g W W.heap.size t ((w5.setCell ⟨g,5,none⟩ (.bool true)).setCell ⟨g,6,none⟩ (.bool true)) (.slice p5 n5 c5) (bg++dH :: em) (st.note t).1:=by
   refine ay.out.gset bd ((Kp.set _ _ _ _).trans (Kp.set _ _ _ _)) (λvn vw hb=>?_) (by rw[u.out]) (by rw[u.out]);rw[u.out];exact ag (ag hb 5 (.bool true)) 6 (.bool true)
  clear bj G ah;go_upto_region 12 with fail
  obtain⟨w6,bp⟩:=ea ((w5.setCell ⟨g,5,none⟩ (.bool true)).setCell ⟨g,6,none⟩ (.bool true));rw[bp]at aj ⊢;clear bp bb c4 Y c6 c7 f3 f4 f5 f6 f7 ac ay;obtain⟨t0,t1,t2,t3,t4,t5⟩:=aj.tb.cells;obtain⟨p7,c7,ev7,_⟩:=bv aj.an.2.1;cases ev7
  have ae:=show Hid (∀X,Below w6.heap.size w6 X->Rd (X.alloc (.cells #[.int .u8 1,.string t.t,Tu 0,Tu 0,.bool false] 37)) (.slice p5 (bg++dH :: em).length c5) (bg++dH :: em)/\∀v' w',Rd w' v' ((bg++dH :: em)++[dT t.t])->(X.alloc (.cells #[.int .u8 1,.string t.t,Tu 0,Tu 0,.bool false] 37)).grownBy w' (Value.slice p5 (bg++dH :: em).length c5).ownBlock->Nb (X.alloc (.cells #[.int .u8 1,.string t.t,Tu 0,Tu 0,.bool false] 37)) (.slice p5 (bg++dH :: em).length c5) v'->An S g W w' v' (st.note t).2 (st.note t).1)from(λX hX=>by
   have O:Below w6.heap.size w6 (X.alloc (.cells #[.int .u8 1,.string t.t,Tu 0,Tu 0,.bool false] 37)):=hX.alloc hX.size _;refine⟨eI aj.an.2.1 O,λv' w' I Q J=>?_⟩;have:=(aj.app O I Q J).an;rw[show(st.note t).2=(bg++dH :: em)++[dT t.t]by rw[u.out];simp];exact this)
  have bq:(bg++dH :: em).length<=900000002:=by simp;omega
  obtain⟨L,hL⟩:=ea (bg++dH :: em);rw[hL]at ae bq ⊢;clear aj u hL
  go_wp2_with(first|(go_at_call 155;refine(bh.out _).mono ?_;rintro r8 w8⟨rfl,bn⟩;obtain⟨x1,x2⟩:=ae.out _ bn;have az:=show Hid (Rd (w8.alloc (.cells #[.int .u8 1,.string t.t,Tu 0,Tu 0,.bool false] 37)) (.slice p5 L.length c5) L)from x1;have ba:=show Hid (∀v' w',Rd w' v' (L++[dT t.t])->(w8.alloc (.cells #[.int .u8 1,.string t.t,Tu 0,Tu 0,.bool false] 37)).grownBy w' (Value.slice p5 L.length c5).ownBlock->Nb (w8.alloc (.cells #[.int .u8 1,.string t.t,Tu 0,Tu 0,.bool false] 37)) (.slice p5 L.length c5) v'->An S g W w' v' (st.note t).2 (st.note t).1)from x2;clear bn x1 x2)|(at_builtin;refine rE rfl _ _ rfl (.slice p5 L.length c5) L [dT t.t] rfl az.out w8.heap.size 1 rfl (sM (dT t.t) w8) (by simp;omega) ?_;intro v' w' I Q J;have HX:=show Hid _ from ba.out v' w' I Q J;clear I Q J))
  go_ret;exact⟨_,rfl,HX.out⟩
def OQ (W:World) (q:Nat) (a b:Nat):Prop:=∃c0 c1 c2 c3 c4 c5 c6,W.heap[q]?=some (.cells #[c0,c1,c2,c3,c4,c5,c6,.func (.func a) #[] #[],.func (.func b) #[] #[]] 250 (0,0))
def OQ.cells {W:World}{q a b:Nat}(h:OQ W q a b):W.cell? (Tw q 7)=some (.func (.func a) #[] #[])/\W.cell? (Tw q 8)=some (.func (.func b) #[] #[]):=by
 obtain⟨c0,c1,c2,c3,c4,c5,c6,h⟩:=h;exact⟨aa h rfl,aa h rfl⟩
structure LC (S:Nat->Prop) (g:Nat) (W:World) (T:Nat) (t:Tv) (q a b:Nat) (V:World) (st:Sy):Prop where
 ex:∃Si,SS Si V g st/\(∀k,Si k->S k\/W.heap.size<=k)/\¬Si T/\¬Si q
 kp:Kp S W V
 tb:MD V T t
 rb:OQ V q a b
 tq:T<V.heap.size/\q<V.heap.size/\S g
def LC.step {S:Nat->Prop}{g:Nat}{W:World}{T:Nat}{t:Tv}{q a b:Nat}{V V':World}{st st':Sy}(h:LC S g W T t q a b V st) {H:Nat->Prop}(J:∀k,H k->S k\/W.heap.size<=k) (M:¬H T) (O:¬H q) (m:Mw H g V V' st'):LC S g W T t q a b V' st':=by
 obtain⟨⟨Q,Y,I⟩,G⟩:=m;obtain⟨b1,b2,b3⟩:=h.tq;refine⟨⟨Q,Y,λk u=>?_,λu=>?_,λu=>?_⟩,h.kp.step G (λk aa u=>?_),G.blk h.tb M,?_,R4 b1 G.size,R4 b2 G.size,b3⟩
 ·rcases I k u with e|e
  ·exact J k e
  ·exact .inr (PI h.kp.size e)
 ·rcases I T u with e|e
  ·exact M e
  ·omega
 ·rcases I q u with e|e
  ·exact O e
  ·omega
 ·rcases J k u with e|e
  ·exact e
  ·omega
 ·obtain⟨c0,c1,c2,c3,c4,c5,c6,Z⟩:=h.rb;exact⟨c0,c1,c2,c3,c4,c5,c6,G.blk Z O⟩
def LC.below {S:Nat->Prop}(h:LC S g W T t q a b V st) (u:Below V.heap.size V V'):LC S g W T t q a b V' st:=by
 obtain⟨G,H,I,J,M⟩:=h.ex;exact h.step I J M ⟨⟨G,H.below u,λ_ h=>.inl h⟩,Kp.of_below u⟩
def GH (f:Fx) (args:Array Value) (w:World):(callFunc f.id args).run Tryz.prog w=.ok (.enter f.id args) w:=by
 cases f<;>kernel_rfl
def Bz.aws {n:Nat}{st:Sy}(h:Bz n st) (l:List Pz):Bz (n+l.length) (st.aws l):=by
 induction l generalizing n st with
 |nil=>exact h
 |cons p l ih=>
  have:=ih (h.aw p);rw[eO,List.length_cons];exact this.mono (by omega)
def Is (st:Sy) (l:List Pz):(st.aws l).mr=st.mr/\st.ws.length<=(st.aws l).ws.length/\(st.aws l).ns.length=st.ns.length:=by
 induction l generalizing st with
 |nil=>exact⟨rfl,ge _,rfl⟩
 |cons p l ih=>
  obtain⟨u,H,G⟩:=ih (st.aw p);rw[eO];refine⟨u,?_,G.trans (oa p st.ns)⟩;have:st.ws.length<=(st.aw p).ws.length:=by rw[Iu,IO];omega
  omega
def Bz.emp (h:Bz n st) (f:Int):Bz (n+1) (st.emp f):=by
 unfold Sy.emp
 split
 ·exact h.mono (by omega)
 ·split
  ·exact h.mono (by omega)
  ·refine⟨?_,by have:=h.2.1;show st.ns.length<=_;omega,λx u=>by have:=h.2.2 x u;omega⟩;have:=h.1
   rename_i m _ _
   show(st.ws.take m++dE :: st.ws.drop m).length<=n+1;simp only[IO,Sk,List.length_cons,Sj];omega
def Bz.endl (h:Bz n st):Bz (n+1) st.endl:=by
 unfold Sy.endl
 split
 ·exact⟨by have:=h.1;show(dH :: st.ws).length<=_;simp;omega,by have:=h.2.1;show st.ns.length<=_;omega,λx u=>by have:=h.2.2 x u;omega⟩
 ·exact h.mono (by omega)
def tC (st:Sy) (f:Int):(st.emp f).ns=st.ns:=by unfold Sy.emp;split;rfl;split<;>rfl
def kP (st:Sy):st.endl.ns=st.ns:=by unfold Sy.endl;split<;>rfl
def nD (st:Sy):st.part.ns=st.ns:=by unfold Sy.part;split<;>rfl
def yG (f:Fx):f.pz.length<=2:=by cases f<;>decide
def LC.lay {S:Nat->Prop}(h:LC S g W T t q a b V st) :
  ∃vw,V.cell? (Tw g 2)=some vw/\(∃p c,vw=.slice p st.ws.length c)/\Rd V vw st.ws/\∀Z Y v' l,Below V.heap.size V Z->Rd Y v' l->Z.grownBy Y vw.ownBlock->Nb Z vw v' ->
   (SB Y g false (V.cell? (Tw g 1) |>.getD undef) vw st.mr.isSome (st.mr.getD 0:Nat) st.wr st.en st.pt) /\
   ∀J,Kp (λk=>k=g) Y J->SB J g false (V.cell? (Tw g 1) |>.getD undef) (.slice none 0 0) false 0 true false false ->
    ∃Si,SS Si J g ⟨st.ns,[],none,true,false,false⟩/\OQ J q a b/\∀w6 O,Mw Si g J w6 O->An S g W w6 v' l O:=by
 obtain⟨Si,s1,s2,s3,s4⟩:=h.ex;obtain⟨vn,vw,hv,v1,v2⟩:=s1.ex;obtain⟨p,c,ew,_⟩:=bv hv.rd;have af:=hv.sb.cells.2.1;refine⟨vw,hv.sb.cells.2.2.1,⟨p,c,ew⟩,hv.rd,λZ Y v' l hb hr hg Q=>?_⟩;rw[af,Vu];have I:=hv.below hb;have hk:Kp (λk=>vw.ownBlock=some k) Z Y:=(Kp.of_grown hg).sub (λk e=>e.symm);have ah:¬vw.ownBlock=some g:=aF I.rd I.sb (by decide);have h3:=I.sb.kp hk ah;have n3:=hk.row I.rn (λk e1 u=>ku I.rn I.rd (by decide) k e1 u);refine⟨h3,λJ G ad=>?_⟩;have n5:Rn tN J vn st.ns:=G.row n3 (λk e1 u=>aF n3 h3 (by decide) (by rw[e1,u]));have r5:Rd J v' l:=G.row hr (λk e1 u=>aF hr h3 (by decide) (by rw[e1,u]));have M:=h.below hb
 have ai:∀k,v'.ownBlock=some k->S k\/W.heap.size<=k:=λk e=>by
  rcases Q with Q|⟨q',hq,ac⟩
  ·exact s2 k (v2 k (by rw[<-Q];exact e))
  ·rw[hq]at e;cases e;exact .inr (PI M.kp.size ac)
 have ae:∀k,vn.ownBlock=some k->v'.ownBlock≠some k:=λk e u=>by
  rcases Q with Q|⟨q',hq,ac⟩
  ·exact ku I.rn I.rd (by decide) k e (by rw[<-Q];exact u)
  ·rw[hq]at u;cases u;have:=gQ I.rn k e;omega
 have aj:v'.ownBlock≠some g:=aF hr h3 (by decide);refine⟨λk=>Si k/\v'.ownBlock≠some k,⟨⟨vn,.slice none 0 0,⟨ad,n5,lL _⟩,λk e=>⟨v1 k e,ae k e⟩,λk e=>by cases e⟩,⟨s1.sg,aj⟩,λk H=>?_⟩,?_,?_⟩
 ·exact R4 (s1.lt k H.1) (PI hb.size (PI hk.size G.size))
 ·obtain⟨c0,c1,c2,c3,c4,c5,c6,h9⟩:=M.rb;exact⟨c0,c1,c2,c3,c4,c5,c6,G.blk (hk.blk h9 (λe=>s4 (v2 q e))) (λe=>s4 (by rw[e];exact s1.sg))⟩
 ·rintro w6 O⟨⟨S6,a1,a2⟩,aa⟩
  have ab:Kp S W J:=(M.kp.step hk (λk ag e=>by
   rcases s2 k (v2 k e)with u|u
   ·exact u
   ·omega)).step G (λk _ e=>by rw[e];exact h.tq.2.2)
  refine⟨⟨S6,a1,λk H=>?_,λk e=>⟨ai k e,λH=>?_⟩⟩,Ac r5 aa (λk e H=>H.2 e),ab.step aa (λk ag H=>?_)⟩
  ·rcases a2 k H with e|e
   ·exact s2 k e.1
   ·exact .inr (PI ab.size e)
  ·rcases a2 k H with u|u
   ·exact u.2 e
   ·have:=gQ r5 k e;omega
  ·rcases s2 k H.1 with e|e
   ·exact e
   ·omega
set_option maxRecDepth 100000 in
def Gf {S:Nat->Prop}(h:SS S W g st) (hz:Bz 900000000 st) (hm:∀m,st.mr=some m->m<=st.ws.length) {n:Nd}{r:List Nd}(e:st.ns=n :: r) (t:Tv) :
  Sa 84 #[bP g,.agg #[.int .u8 t.k,.string t.t,Tu t.a,Tu t.l,Tu t.c,Tu t.f]] W λM w'=>∃v,M=.returned v/\An S g W w' v (st.leaf t).2 (st.leaf t).1:=by
 obtain⟨V,hV⟩:=ea (W.alloc (.cells #[.int .u8 t.k,.string t.t,Tu t.a,Tu t.l,Tu t.c,Tu t.f] 49));have hB:Below W.heap.size W V:=by rw[<-hV];exact(gt _ _).alloc (ge _) _
 have hT:MD V W.heap.size t:=by rw[<-hV];exact ak _ _
 have cb:V.heap.size=W.heap.size+1:=by rw[<-hV];show(W.heap.push _).size=_;simp
 have HV:=aW hV;obtain⟨b,cap,hc,y0,y1,y2,y3⟩:=(h.below hB).nodes e;obtain⟨R,hR⟩:=ea (bi n t)
 obtain⟨a,b',c,d,e',f',aw⟩:∃a b c d e f,R.ns=[a,b,c,d,e,f]:=by
  rw[<-hR];unfold bi
  split
  ·cases hq:tab.find? (λr=>r.fits n t.t)with
   |none=>exact⟨0,0,0,0,0,0,rfl⟩
   |some x=>exact RH (zH x (List.mem_of_find?_eq_some hq))
  ·exact⟨0,0,0,0,0,0,rfl⟩
 have bg:R.v=.agg #[.int .u8 a,.int .u8 b',.int .u8 c,.int .u8 d,.int .u8 e',.int .u8 f',.string ⟨R.t.toArray⟩,.func (.func R.a.id) #[] #[],.func (.func R.b.id) #[] #[]]:=by
  have:R=⟨[a,b',c,d,e',f'],R.t,R.a,R.b⟩:=by rw[<-aw]
  rw[this];exact LY _ _ _ _ _ _ _ _ _
 have ba:Hid (∀X,Sa 150 #[.agg #[.int .u8 n.k,Tu n.b,.bool n.s],.agg #[.int .u8 t.k,.string t.t,Tu t.a,Tu t.l,Tu t.c,Tu t.f]] X λe w'=>Uk e (.agg #[.int .u8 a,.int .u8 b',.int .u8 c,.int .u8 d,.int .u8 e',.int .u8 f',.string ⟨R.t.toArray⟩,.func (.func R.a.id) #[] #[],.func (.func R.b.id) #[] #[]])/\Below X.heap.size X w'):=λX=>by rw[<-bg,<-hR];exact Cj n t X
 have HI:=aW λX (O:Below V.heap.size V X)=>fu (cr hc O) (by have:=hz.2.1;rw[e]at this;simp at this;omega)
 have HK:Hid (∀X,Below V.heap.size V X->(X.cell? ⟨b,r.length*3,none⟩=some (.int .u8 n.k)/\X.cell? ⟨b,r.length*3+1,none⟩=some (Tu n.b)/\X.cell? ⟨b,r.length*3+2,none⟩=some (.bool n.s))/\MD X W.heap.size t):=λX O=>⟨⟨cr y0 O,cr y1 O,cr y2 O⟩,af hT O⟩
 obtain⟨t0,t1,t2,t3,t4,t5⟩:=hT.cells;have cv:=RV _ _ y0;have co:=show Hid (V.heap.size=W.heap.size+1)from cb
 have cn:W.heap.size<V.heap.size:=by omega
 clear y3 hV cb;go_enter Tryz.func84,Tryz.ntmps84;go_upto_region 1 with fail
 rw[HV.out];have ay:Hid (Below V.heap.size V (V.alloc (.cells #[.int .u8 0,.int .u8 0,.int .u8 0,.int .u8 0,.int .u8 0,.int .u8 0,.string ⟨#[]⟩,.nilFunc,.nilFunc] 250)).drew):=((gt _ V).alloc (ge _) _).drew;have bu:=aW λw' (hw:Below (V.alloc (.cells #[.int .u8 0,.int .u8 0,.int .u8 0,.int .u8 0,.int .u8 0,.int .u8 0,.string ⟨#[]⟩,.nilFunc,.nilFunc] 250)).drew.heap.size (V.alloc (.cells #[.int .u8 0,.int .u8 0,.int .u8 0,.int .u8 0,.int .u8 0,.int .u8 0,.string ⟨#[]⟩,.nilFunc,.nilFunc] 250)).drew w')=>af (W:=(V.alloc (.cells #[.int .u8 0,.int .u8 0,.int .u8 0,.int .u8 0,.int .u8 0,.int .u8 0,.string ⟨#[]⟩,.nilFunc,.nilFunc] 250)).drew) (ak V _) hw
 have bt:Hid (∀I w',Below (I.alloc (.cells #[.int .u8 0,.int .u8 0,.int .u8 0,.int .u8 0,.int .u8 0,.int .u8 0,.string ⟨#[]⟩,.nilFunc,.nilFunc] 250)).heap.size (I.alloc (.cells #[.int .u8 0,.int .u8 0,.int .u8 0,.int .u8 0,.int .u8 0,.int .u8 0,.string ⟨#[]⟩,.nilFunc,.nilFunc] 250)) w'->w'.heap[I.heap.size]?=some (.cells #[.int .u8 0,.int .u8 0,.int .u8 0,.int .u8 0,.int .u8 0,.int .u8 0,.string ⟨#[]⟩,.nilFunc,.nilFunc] 250 (0,0))/\Below I.heap.size I w'):=λI w' hw=>⟨af (ak I _) hw,((gt _ I).alloc (ge _) _).trans (hw.mono (by show _<=(I.heap.push _).size;simp))⟩
 go_cut [5]from 7 to 12 (λt9 wx=>∃q,t9=.pointer (some (Tw q 0))/\Hid (Below V.heap.size V wx/\V.heap.size<=q/\wx.heap[q]?=some (.cells #[.int .u8 a,.int .u8 b',.int .u8 c,.int .u8 d,.int .u8 e',.int .u8 f',.string ⟨R.t.toArray⟩,.func (.func R.a.id) #[] #[],.func (.func R.b.id) #[] #[]] 250 (0,0))))
 case first=>
  clear h hz hm e hB hc hR aw bg
  go_region_law (first|(go_simp;go_at_call 142;refine(HI.out _ (by first|exact(gt _ _).drew|exact ay.out)).mono ?_;rintro r1 I⟨rfl,az⟩;have ax:=show Hid (Below V.heap.size V I)from(by first|exact(gt V.heap.size V).drew.trans (az.mono (ge _))|exact ay.out.trans (az.mono ay.out.size));obtain⟨⟨z0,z1,z2⟩,zt⟩:=HK.out _ ax.out;obtain⟨u0,u1,u2,u3,u4,u5⟩:=zt.cells;have bh:=RV _ _ z0;have dl:=RV _ _ u0;(try(have ch:=bu.out _ az));clear az zt)|(go_simp;go_at_call 150;refine(ba.out _).mono ?_;rintro r2 w2⟨rfl,hb2⟩;first|(have u:=af ch hb2;have bb:=show Hid (Below I.heap.size I w2)from hb2;have db:=aa (k:=0) u rfl;have dc:=aa (k:=1) u rfl;have dd:=aa (k:=2) u rfl;have de:=aa (k:=3) u rfl;have df:=aa (k:=4) u rfl;have dg:=aa (k:=5) u rfl;have dh:=aa (k:=6) u rfl;have di:=aa (k:=7) u rfl;have dj:=aa (k:=8) u rfl;have zf:=λj=>aj (k:=j) u;clear hb2 ch)|(have bj:=bt.out _ _ hb2;have u:=bj.1;have bb:=show Hid (Below I.heap.size I w2)from bj.2;have db:=aa (k:=0) u rfl;have dc:=aa (k:=1) u rfl;have dd:=aa (k:=2) u rfl;have de:=aa (k:=3) u rfl;have df:=aa (k:=4) u rfl;have dg:=aa (k:=5) u rfl;have dh:=aa (k:=6) u rfl;have di:=aa (k:=7) u rfl;have dj:=aa (k:=8) u rfl;have zf:=λj=>aj (k:=j) u;clear hb2 bj)|(have bb:=show Hid (Below I.heap.size I w2)from hb2;clear hb2)))
  all_goals(
   go_wp2_with fail
   go_meet
   have ae:=ax.out.trans (bb.out.mono ax.out.size)
   first
    | (refine⟨w2.heap.size,rfl,?_⟩;exact⟨ae.alloc ae.size _,ae.size,ak w2 _⟩)
    | (refine⟨V.heap.size,rfl,?_⟩;have H:V.heap.size<=V.heap.size:=ge _;exact⟨(((((((((ae.setCell (p:=⟨V.heap.size,0,none⟩) H _).setCell (p:=⟨V.heap.size,1,none⟩) H _).setCell (p:=⟨V.heap.size,2,none⟩) H _).setCell (p:=⟨V.heap.size,3,none⟩) H _).setCell (p:=⟨V.heap.size,4,none⟩) H _).setCell (p:=⟨V.heap.size,5,none⟩) H _).setCell (p:=⟨V.heap.size,6,none⟩) H _).setCell (p:=⟨V.heap.size,7,none⟩) H _).setCell (p:=⟨V.heap.size,8,none⟩) H _),H,(ag (ag (ag (ag (ag (ag (ag (ag (ag u 0 (.int .u8 a)) 1 (.int .u8 b')) 2 (.int .u8 c)) 3 (.int .u8 d)) 4 (.int .u8 e')) 5 (.int .u8 f')) 6 (.string ⟨R.t.toArray⟩)) 7 (.func (.func R.a.id) #[] #[])) 8 (.func (.func R.b.id) #[] #[])).trans (by kernel_rfl)⟩)
    | (refine⟨I.heap.size,rfl,?_⟩;have H:V.heap.size<=I.heap.size:=ax.out.size;exact⟨(((((((((ae.setCell (p:=⟨I.heap.size,0,none⟩) H _).setCell (p:=⟨I.heap.size,1,none⟩) H _).setCell (p:=⟨I.heap.size,2,none⟩) H _).setCell (p:=⟨I.heap.size,3,none⟩) H _).setCell (p:=⟨I.heap.size,4,none⟩) H _).setCell (p:=⟨I.heap.size,5,none⟩) H _).setCell (p:=⟨I.heap.size,6,none⟩) H _).setCell (p:=⟨I.heap.size,7,none⟩) H _).setCell (p:=⟨I.heap.size,8,none⟩) H _),H,(ag (ag (ag (ag (ag (ag (ag (ag (ag u 0 (.int .u8 a)) 1 (.int .u8 b')) 2 (.int .u8 c)) 3 (.int .u8 d)) 4 (.int .u8 e')) 5 (.int .u8 f')) 6 (.string ⟨R.t.toArray⟩)) 7 (.func (.func R.a.id) #[] #[])) 8 (.func (.func R.b.id) #[] #[])).trans (by kernel_rfl)⟩))
 case rest=>
  obtain⟨q,rfl,HQ⟩:=hcut;obtain⟨I,hw1⟩:∃I,I=wc:=⟨wc,rfl⟩;subst hw1;obtain⟨s1,hs1⟩:=ea (st.aws R.a.pz);obtain⟨s2,hs2⟩:=ea (s1.emp t.f);obtain⟨J,hs3⟩:=ea s2.endl;obtain⟨G,hs4⟩:=ea J.part;have z1:Bz 900000002 s1:=by rw[<-hs1];exact(hz.aws _).mono (by have:=yG R.a;omega)
  have z2:Bz 900000003 s2:=by rw[<-hs2];exact z1.emp _
  have z3:Bz 900000004 J:=by rw[<-hs3];exact z2.endl
  have z4:G.ws.length<=900000005:=by
   rw[<-hs4];unfold Sy.part
   split
   ·have:=z3.1;show(J.ws++[dS]).length<=_;simp;omega
   ·have:=z3.1;omega
  have e1:s1.ns≠[]:=by
   intro h0;have:=(Is st R.a.pz).2.2;rw[hs1,h0,e]at this;simp at this
  have e3:J.ns=s1.ns:=by rw[<-hs3,kP,<-hs2,tC]
  have e4:G.ns=s1.ns:=by rw[<-hs4,nD,e3]
  have cm:∀x∈G.ns,x.b<=900000005:=λx hx=>by rw[e4]at hx;have:=z1.2.2 x hx;omega
  have cl:G.ns.length<=900000005:=by rw[e4];have:=z1.2.1;omega
  have cg:∀m,s1.mr=some m->m<=s1.ws.length:=λm h0=>by
   obtain⟨x1,x2,_⟩:=Is st R.a.pz;rw[hs1]at x1 x2;have:=hm m (by rw[<-x1];exact h0);omega
  have bd:Hid (LC S g W W.heap.size t q R.a.id R.b.id I st):=by
   have cd:Below W.heap.size W I:=hB.trans (HQ.out.1.mono hB.size);have cx:¬S W.heap.size:=λhs=>by have:=h.lt _ hs;omega
   have cy:¬S q:=λhs=>by have:=h.lt _ hs;have:=HQ.out.2.1;omega
   exact⟨⟨S,h.below cd,λ_ h=>.inl h,cx,cy⟩,Kp.of_below cd,af hT HQ.out.1,⟨_,_,_,_,_,_,_,HQ.out.2.2⟩,by have:=HQ.out.1.size;omega,ai HQ.out.2.2,h.sg⟩
  have HA:Hid (∀X,LC S g W W.heap.size t q R.a.id R.b.id X st->Sa R.a.id #[bP g] X λM w'=>M=.returned (.tuple #[])/\LC S g W W.heap.size t q R.a.id R.b.id w' s1):=λX O=>by
   obtain⟨Si,x1,x2,x3,x4⟩:=O.ex;refine(GJ R.a x1 (by rw[e];simp) (hz.mono (by omega))).mono ?_;rintro M w'⟨rfl,m⟩;rw[hs1]at m;exact⟨rfl,O.step x2 x3 x4 m.w⟩
  have HP:Hid (∀X,LC S g W W.heap.size t q R.a.id R.b.id X s1->Sa 151 #[bP g,Tu t.f] X λM w'=>M=.returned (.tuple #[])/\LC S g W W.heap.size t q R.a.id R.b.id w' s2):=λX O=>by
   obtain⟨Si,x1,x2,x3,x4⟩:=O.ex;refine(gR x1 (by have:=z1.1;omega) cg t.f).mono ?_;rintro M w'⟨rfl,m⟩;rw[hs2]at m;exact⟨rfl,O.step x2 x3 x4 m.w⟩
  have bm:Hid (∀X,LC S g W W.heap.size t q R.a.id R.b.id X s2->Sa 86 #[bP g] X λM w'=>M=.returned (.tuple #[])/\LC S g W W.heap.size t q R.a.id R.b.id w' J):=λX O=>by
   obtain⟨Si,x1,x2,x3,x4⟩:=O.ex;refine(mN x1 (by have:=z2.1;omega)).mono ?_;rintro M w'⟨rfl,m⟩;rw[hs3]at m;exact⟨rfl,O.step x2 x3 x4 m.w⟩
  have ab:Hid (∀X,LC S g W W.heap.size t q R.a.id R.b.id X J->Sa 152 #[bP g,.func (.func 153) #[] #[]] X λM w'=>M=.returned (.bool (J.ws.any eh))/\LC S g W W.heap.size t q R.a.id R.b.id w' J):=λX O=>by
   obtain⟨Si,x1,x2,x3,x4⟩:=O.ex;obtain⟨vn,vw,hv,_⟩:=x1.ex;refine(DN hv (by have:=z3.1;omega)).mono ?_;rintro M w'⟨rfl,hb⟩;exact⟨rfl,O.below hb⟩
  have ah:Hid (∀X,LC S g W W.heap.size t q R.a.id R.b.id X J->J.pt=true/\J.ws.any eh=false->Sa 154 #[bP g] X λM w'=>M=.returned (.tuple #[])/\LC S g W W.heap.size t q R.a.id R.b.id w' G):=λX O hd=>by
   obtain⟨Si,x1,x2,x3,x4⟩:=O.ex;refine(js x1 (by rw[e3];exact e1) (z3.mono (by omega))).mono ?_;rintro M w'⟨rfl,m⟩
   have e9:J.aw .S=G:=by
    rw[<-hs4];unfold Sy.part;rw[Or hd];unfold Sy.aw;have:gX .S J.ns=J.ns:=by cases J.ns with|nil=>rfl|cons x y=>rfl
    rw[this];rfl
   rw[e9]at m;exact⟨rfl,O.step x2 x3 x4 m.w⟩
  have an:Hid (¬(J.pt=true/\J.ws.any eh=false)->J=G):=λhd=>by rw[<-hs4];unfold Sy.part;rw[Eq hd]
  have al:Hid (∀X,LC S g W W.heap.size t q R.a.id R.b.id X J->X.cell? (Tw g 7)=some (.bool J.pt)):=λX O=>by
   obtain⟨Si,x1,x2,x3,x4⟩:=O.ex;obtain⟨vn,vw,hv,_⟩:=x1.ex;exact hv.sb.cells.2.2.2.2.2.2.2
  have be:Hid ((st.leaf t).2=G.ws++[dT t.t]/\(st.leaf t).1=Sy.aws ⟨G.ns,[],none,true,false,false⟩ R.b.pz):=by
   unfold Sy.leaf;rw[e];simp only;rw[hR];have:st.ready R.a t.f=G:=by unfold Sy.ready;rw[hs1,hs2,hs3,hs4]
   rw[this];exact⟨rfl,rfl⟩
  have bw:=aW (oB t);have bx:=show Hid (G.ns≠[]/\G.ws.length<=900000005/\(∀x∈G.ns,x.b<=900000005)/\G.ns.length<=900000005)from⟨by rw[e4];exact e1,z4,cm,cl⟩
  have eA:=GH R.a;have eB:=GH R.b;clear h hz hm e hB hT hc y0 y1 y2 hR aw bg ba HI HK t0 t1 t2 t3 t4 t5 cv cn HV co ay bu bt hs1 hs2 hs3 hs4 z1 z2 z3 z4 e1 e3 e4 cm cl cg;obtain⟨r7,r8⟩:=bd.out.rb.cells;(go_wp2_with fail);refine(HA.out _ bd.out).mono ?_;rintro M w2⟨rfl,bf⟩;obtain⟨t0,t1,t2,t3,t4,t5⟩:=bf.tb.cells;have bq:=show Hid (LC S g W W.heap.size t q R.a.id R.b.id w2 s1)from bf
  clear bf HA bd r7 r8 eA
  go_upto_region 5 with(first|(go_at_call 151;refine(HP.out _ bq.out).mono ?_;rintro M w3⟨rfl,bz⟩;have br:=show Hid (LC S g W W.heap.size t q R.a.id R.b.id w3 s2)from bz;clear bz)|(go_at_call 86;refine(bm.out _ br.out).mono ?_;rintro M w4⟨rfl,hL4⟩;have ar:=show Hid (LC S g W W.heap.size t q R.a.id R.b.id w4 J)from hL4;clear hL4))
  clear t0 t1 t2 t3 t4 t5 HP bm bq br;have c7:=al.out _ ar.out;obtain⟨b9,bh⟩:∃b9:Bool,decide (J.pt=true/\J.ws.any eh=false)=b9:=⟨_,rfl⟩;have Y:=show Hid (decide (J.pt=true/\J.ws.any eh=false)=b9)from bh
  clear bh
  go_cut [31]from 23 to 31 (λt9 wx=>t9=.bool b9/\Hid (LC S g W W.heap.size t q R.a.id R.b.id wx J))
  case first=>
   cases hp:J.pt with
   |false=>
    have HY:Hid (false=b9):=by rw[<-Y.out,R9 (λh=>by rw[hp]at h;cases h.1)];exact rfl
    rw[hp]at c7;clear Y hp ah an al;(go_wp2_with fail)
    go_meet
    exact⟨by rw[HY.out],ar⟩
   |true=>
    rw[hp]at c7;cases ha:J.ws.any eh with
    |true=>
     have HY:Hid (false=b9):=by rw[<-Y.out,R9 (λh=>by rw[ha]at h;cases h.2)];exact rfl
     rw[ha]at ab;clear Y hp ha ah an al
     go_wp2_with(go_at_call 152;refine(ab.out _ ar.out).mono ?_;rintro M Z⟨rfl,au⟩;have am:=show Hid (LC S g W W.heap.size t q R.a.id R.b.id Z J)from au;clear au)
     go_meet
     exact⟨by rw[HY.out],am⟩
    |false=>
     have HY:Hid (true=b9):=by rw[<-Y.out,R8 ⟨hp,ha⟩];exact rfl
     rw[ha]at ab;clear Y hp ha ah an al
     go_wp2_with(go_at_call 152;refine(ab.out _ ar.out).mono ?_;rintro M Z⟨rfl,au⟩;have am:=show Hid (LC S g W W.heap.size t q R.a.id R.b.id Z J)from au;clear au)
     go_meet
     exact⟨by rw[HY.out],am⟩
  case rest=>
  obtain⟨rfl,am⟩:=hcut;obtain⟨Z,hw5⟩:∃Z,Z=wc:=⟨wc,rfl⟩;subst hw5;clear ar c7
  go_upto_if 31 with fail
  go_cut []from 32 to 33 (λwx=>Hid (LC S g W W.heap.size t q R.a.id R.b.id wx G))
  case first=>
   cases b9 with
   |true=>
    have HB:=show Hid (Sa 154 #[bP g] Z λM w'=>M=.returned (.tuple #[])/\LC S g W W.heap.size t q R.a.id R.b.id w' G)from ah.out _ am.out (SE Y.out)
    clear Y ah an al ab
    go_wp2_with(go_at_call 154;refine HB.out.mono ?_;rintro M Q⟨rfl,ca⟩;have ac:=show Hid (LC S g W W.heap.size t q R.a.id R.b.id Q G)from ca;clear ca)
    go_meet
    exact ac
   |false=>
    have ac:=show Hid (LC S g W W.heap.size t q R.a.id R.b.id Z G)from(by have:=an.out (Uy Y.out);rw[<-this];exact am.out)
    clear Y ah an al ab;(go_wp2_with fail)
    go_meet
    exact ac
  case rest=>
  have ac:=hcut;obtain⟨Q,cz⟩:∃Q,Q=wc:=⟨wc,rfl⟩;subst cz;clear hcut am Y ah an al ab;obtain⟨vw,k1,⟨pw,cw,evw⟩,k3,k4⟩:=ac.out.lay;subst evw;obtain⟨ap,hvn⟩:=ea ((Q.cell? (Tw g 1)).getD undef);rw[hvn]at k4;have bp:=show Hid (∀V1 w3 v' l,Below Q.heap.size Q V1->Rd w3 v' l->V1.grownBy w3 (Value.slice pw G.ws.length cw).ownBlock->Nb V1 (.slice pw G.ws.length cw) v'->(SB w3 g false ap (.slice pw G.ws.length cw) G.mr.isSome (G.mr.getD 0:Nat) G.wr G.en G.pt)/\∀Z,Kp (λk=>k=g) w3 Z->SB Z g false ap (.slice none 0 0) false 0 true false false->∃Si,SS Si Z g ⟨G.ns,[],none,true,false,false⟩/\OQ Z q R.a.id R.b.id/\∀Q av,Mw Si g Z Q av->An S g W Q v' l av)from k4
  have bo:=show Hid (∀X,Below Q.heap.size Q X->Rd X (.slice pw G.ws.length cw) G.ws)from(λX O=>eI k3 O)
  obtain⟨t0,t1,t2,t3,t4,t5⟩:=ac.out.tb.cells;have cu:=ac.out.tq.1;have dp:=bx.out.2.1;have bc:=show Hid (∀X,Below Q.heap.size Q X->X.cell? (Tw g 2)=some (.slice pw G.ws.length cw)/\MD X W.heap.size t)from(λX O=>⟨cr k1 O,af ac.out.tb O⟩)
  clear k3 k4 hvn;go_upto_region 7 with fail
  go_cut [6]from 34 to 41 (λt9 wx=>∃p n c,t9=.slice p n c/\Hid ((SB wx g false ap (.slice pw G.ws.length cw) G.mr.isSome (G.mr.getD 0:Nat) G.wr G.en G.pt)/\∀Z,Kp (λk=>k=g) wx Z->SB Z g false ap (.slice none 0 0) false 0 true false false->∃Si,SS Si Z g ⟨G.ns,[],none,true,false,false⟩/\OQ Z q R.a.id R.b.id/\∀Q av,Mw Si g Z Q av->An S g W Q (.slice p n c) (G.ws++[dT t.t]) av))
  case first=>
   have dk:=show Hid (Below Q.heap.size Q Q.drew)from(gt _ _).drew
   go_region_law (first|(go_simp;go_at_call 155;refine(bw.out _).mono ?_;rintro M w7⟨rfl,cc⟩;have aq:=show Hid (Below Q.heap.size Q w7)from(gt Q.heap.size Q).drew.trans (cc.mono (ge _));have y1:=(bc.out _ aq.out).1;obtain⟨u0,u1,u2,u3,u4,u5⟩:=(bc.out _ aq.out).2.cells;have dm:=RV _ _ y1;clear cc)|(refine Ex (by rfl) _ _ (by rfl) (.slice pw G.ws.length cw) G.ws (dT t.t) (by rfl) (bo.out _ (aq.out.alloc aq.out.size _)) w7.heap.size 1 (by rfl) (ak w7 _) (by omega) ?_;intro q9 cp w8 cj ce ci;have ct:=show Hid _ from bp.out _ _ _ _ (aq.out.alloc aq.out.size _) cj ce (by rcases ci with h|h;exact .inl h.symm;exact .inr ⟨q9,rfl,by omega⟩);clear cj ce ci))
   all_goals(
    go_wp2_with fail
    go_meet
    exact⟨_,_,_,rfl,ct⟩)
  case rest=>
  obtain⟨p9,n9,c9,rfl,HX⟩:=hcut;obtain⟨w8,hw8⟩:∃w8,w8=wc:=⟨wc,rfl⟩;subst hw8;have ad:=HX.out.1;obtain⟨c0,c1,c2,c3,c4,c5,c6,c7⟩:=ad.cells;have f2:=ad.frozen 2;have f3:=ad.frozen 3;have f4:=ad.frozen 4;have f5:=ad.frozen 5;have f6:=ad.frozen 6;have f7:=ad.frozen 7;have cf:Kp (λk=>k=g) w8 ((((((w8.setCell ⟨g,2,none⟩ (.slice none 0 0)).setCell ⟨g,3,none⟩ (.bool false)).setCell ⟨g,4,none⟩ (Tu 0)).setCell ⟨g,6,none⟩ (.bool false)).setCell ⟨g,7,none⟩ (.bool false)).setCell ⟨g,5,none⟩ (.bool true)):=(((((Kp.set _ _ _ _).trans (Kp.set _ _ _ _)).trans (Kp.set _ _ _ _)).trans (Kp.set _ _ _ _)).trans (Kp.set _ _ _ _)).trans (Kp.set _ _ _ _);have ck:SB ((((((w8.setCell ⟨g,2,none⟩ (.slice none 0 0)).setCell ⟨g,3,none⟩ (.bool false)).setCell ⟨g,4,none⟩ (Tu 0)).setCell ⟨g,6,none⟩ (.bool false)).setCell ⟨g,7,none⟩ (.bool false)).setCell ⟨g,5,none⟩ (.bool true)) g false ap (.slice none 0 0) false 0 true false false:=ag (ag (ag (ag (ag (ag ad 2 _) 3 _) 4 _) 6 _) 7 _) 5 _;obtain⟨Si,x1,x2,x3⟩:=HX.out.2 _ cf ck;have bv:=aW x1;have bn:=aW x3;have r8:=x2.cells.2;obtain⟨w9,hw9⟩:=ea ((((((w8.setCell ⟨g,2,none⟩ (.slice none 0 0)).setCell ⟨g,3,none⟩ (.bool false)).setCell ⟨g,4,none⟩ (Tu 0)).setCell ⟨g,6,none⟩ (.bool false)).setCell ⟨g,7,none⟩ (.bool false)).setCell ⟨g,5,none⟩ (.bool true));rw[hw9]at r8;have cq:=show Hid ((((((w8.setCell ⟨g,2,none⟩ (.slice none 0 0)).setCell ⟨g,3,none⟩ (.bool false)).setCell ⟨g,4,none⟩ (Tu 0)).setCell ⟨g,6,none⟩ (.bool false)).setCell ⟨g,7,none⟩ (.bool false)).setCell ⟨g,5,none⟩ (.bool true)=w9)from hw9
  have bk:Hid (Sa R.b.id #[bP g] w9 λM w'=>M=.returned (.tuple #[])/\An S g W w' (.slice p9 n9 c9) (st.leaf t).2 (st.leaf t).1):=by
   rw[<-hw9];obtain⟨y1,y2,y3,y4⟩:=bx.out;refine(GJ R.b bv.out y1 ⟨by simp,by show G.ns.length<=_;omega,λx hx=>by have:=y3 x hx;omega⟩).mono ?_;rintro M w'⟨rfl,m⟩;rw[be.out.1,be.out.2];exact⟨rfl,bn.out _ _ m.w⟩
  clear hw9 cf ck x1 x2 x3 ad HX bv bn be bo bp bc ac t0 t1 t2 t3 t4 t5 k1 cu bw;go_upto_region 10 with fail
  rw[cq.out];clear c0 c1 c2 c3 c4 c5 c6 c7 f2 f3 f4 f5 f6 f7;(go_wp2_with fail);refine bk.out.mono ?_;rintro M da⟨rfl,hA⟩;have ab:=show Hid (An S g W da (.slice p9 n9 c9) (st.leaf t).2 (st.leaf t).1)from hA
  clear hA bk;(go_wp2_with fail);go_ret;exact⟨_,rfl,ab.out⟩
end
variable {s s':Sy}{W W':World}{g:Nat}{l:List Dc}
inductive xx|live (s:Sy)|done
def Sq (S:Nat->Prop) (W:World) (g:Nat):xx->Prop
 |.live s=>SS S W g s
 |.done=>SB W g true (.slice none 0 0) (.slice none 0 0) false 0 false false false/\S g/\∀k,S k->k<W.heap.size
def Sq.below {S:Nat->Prop}{st:xx}(h:Sq S W g st) (u:Below W.heap.size W W'):Sq S W' g st:=by
 cases st with
 |live s=>exact SS.below h u
 |done=>exact⟨h.1.below u,h.2.1,λk G=>R4 (h.2.2 k G) u.size⟩
def Sq.kp {S T:Nat->Prop}{W W':World}{g:Nat}{st:xx}(h:Sq S W g st) (u:Kp T W W') (G:∀k,S k->¬T k):Sq S W' g st:=by
 cases st with
 |live s=>exact SS.kp h u G
 |done=>exact⟨h.1.kp u (G _ h.2.1),h.2.1,λk H=>R4 (h.2.2 k H) u.size⟩
def Sq.lt {S:Nat->Prop}{st:xx}(h:Sq S W g st):∀k,S k->k<W.heap.size:=by cases st with|live s=>exact SS.lt h|done=>exact h.2.2
def Aq (S:Nat->Prop) (g:Nat) (W W':World) (v:Value) (l:List Dc) (st:xx):Prop:=
 (∃S',Sq S' W' g st/\(∀k,S' k->S k\/W.heap.size<=k)/\∀k,v.ownBlock=some k->(S k\/W.heap.size<=k)/\¬S' k)/\Rd W' v l/\Kp S W W'
def uc {S:Nat->Prop}{g:Nat}{W W':World}{st:xx}(h:Sq S W g st) (u:Se W W'):Aq S g W W' (.slice none 0 0) [] st:=
 ⟨⟨S,h.below u,λ_ h=>.inl h,λk e=>by cases e⟩,lL _,Kp.of_below u⟩
def MA {S:Nat->Prop}{g:Nat}{W V W':World}{s s':Sy}(u:Se W V) (m:Mw S g V W' s'):Aq S g W W' (.slice none 0 0) [] (.live s'):=by
 obtain⟨⟨G,H,I⟩,J⟩:=m;exact⟨⟨G,H,λk M=>(I k M).imp id (λe=>PI u.size e),λk e=>by cases e⟩,lL _,(Kp.of_below u).step J (λ_ _ h=>h)⟩
def MB {S:Nat->Prop}{V:World}{v:Value}(u:Se W V) (m:An S g V W' v l s'):Aq S g W W' v l (.live s'):=by
 obtain⟨⟨H,I,J,G⟩,O,M⟩:=m;exact⟨⟨H,I,λk Q=>(J k Q).imp id (λe=>PI u.size e),λk e=>⟨(G k e).1.imp id (λe=>PI u.size e),(G k e).2⟩⟩,O,(Kp.of_below u).step M (λ_ _ h=>h)⟩
def yn (e:Ev):xx->Int × List Dc × xx
 |.done=>(4,[],.done)
 |.live s=>match gq s e with
  |none=>(130,[],.live s)
  |some (s',l)=>(0,l,.live s')
def yu:xx->Int × List Dc × xx
 |.done=>(4,[],.done)
 |.live s=>match kn s with
  |none=>(130,[],.live s)
  |some l=>(0,l,.done)
def Qo:xx->Prop
 |.done=>True
 |.live s=>Bz 400000000 s/\∀m,s.mr=some m->m<=s.ws.length
def yw (W:World):Sa 33 #[] W λG w'=>G=.returned (bP W.heap.size)/\Sq (λk=>k=W.heap.size) w' W.heap.size (.live qB)/\Below W.heap.size W w':=by
 have u:Hid (Sq (λk=>k=W.heap.size) (W.alloc (.cells #[.bool false,.slice none 0 0,.slice none 0 0,.bool false,Tu 0,.bool false,.bool false,.bool false] 168)) W.heap.size (.live qB)/\Below W.heap.size W (W.alloc (.cells #[.bool false,.slice none 0 0,.slice none 0 0,.bool false,Tu 0,.bool false,.bool false,.bool false] 168))):=by
  refine⟨show SS _ _ _ _ from⟨⟨.slice none 0 0,.slice none 0 0,⟨ak W _,SU _ 0 tN 3,lL _⟩,(λk e=>by cases e),(λk e=>by cases e)⟩,rfl,(λk (e:k=W.heap.size)=>by rw[e];show _<(W.heap.push _).size;simp)⟩,(gt _ _).alloc (ge _) _⟩
 go_enter func33,ntmps33;(go_wp2_with fail)
 go_ret;exact⟨rfl,u.out⟩
def EC {S:Nat->Prop}{st:xx}(h:Sq S W g st) (hz:Qo st) (e:Ev) (ht:e.d.t.size<=9223372036854775807) :
  Sa 35 #[bP g,.agg #[.int .u8 e.k,.int .u8 e.n,.int .u8 e.d.k,.string e.d.t,Tu e.d.a,Tu e.d.l,Tu e.d.c,Tu e.d.f]] W λO w'=>∃v,O=.returned (.tuple #[v,Tu (yn e st).1])/\Aq S g W w' v (yn e st).2.1 (yn e st).2.2:=by
 obtain⟨V,hV⟩:=ea (W.alloc (.cells #[.int .u8 e.k,.int .u8 e.n,.int .u8 e.d.k,.string e.d.t,Tu e.d.a,Tu e.d.l,Tu e.d.c,Tu e.d.f] 104));have hB:Below W.heap.size W V:=by rw[<-hV];exact(gt _ _).alloc (ge _) _
 have hE:Eb V W.heap.size e:=by rw[<-hV];exact ak _ _
 have HV:=aW hV;have HB:=show Hid (Below W.heap.size W V)from hB
 clear hV;cases st with
 |done=>
  have c0:V.cell? (Tw g 0)=some (.bool true):=(h.below hB).1.cells.1;have HR:=aW (fe c0);have HX:=aW (uc h hB);clear h hB hE c0;go_enter func35,ntmps35;go_upto_region 1 with fail
  rw[HV.out]
  go_wp2_with(go_at_call 80;refine HR.out.mono ?_;rintro r1 Q⟨rfl,rfl⟩)
  refine R0 (v:=.tuple #[.slice none 0 0,Tu 4]) (by simp[results,Tryz.f35,go_sem]) rfl ?_;exact⟨_,rfl,HX.out⟩
 |live s=>
  have hs:SS S V g s:=SS.below h hB;obtain⟨Z,aa⟩:=hz;obtain⟨vn0,vw0,hv0,_⟩:=hs.ex;have HR:=aW (fe hv0.sb.cells.1);have HT:=aW (BW hs (by have:=Z.2.1;omega) e ht);obtain⟨m0,m1,m2,m3,m4,m5,m6,m7⟩:=hE.cells
  by_cases u:s.may e=true
  ·have J:yn e (.live s)=(0,(s.step e).2,.live (s.step e).1):=by show(match gq s e with|none=>_|some (s',l)=>_)=_;unfold gq;rw[Or u]
   rw[J];rw[u]at HT;have G:=show Hid (∀X,Below V.heap.size V X->Eb X W.heap.size e/\SS S X g s/\Below W.heap.size W X)from λX I=>⟨af hE I,hs.below I,hB.trans (I.mono hB.size)⟩
   have ab:=show Hid (Bz 400000000 s/\∀m,s.mr=some m->m<=s.ws.length)from⟨Z,aa⟩
   by_cases M:e.k=1
   ·have HO:Hid (∀X,Se V X->Sa 82 #[bP g,.int .u8 e.n] X λO w'=>O=.returned (.tuple #[])/\Aq S g W w' (.slice none 0 0) (s.step e).2 (.live (s.step e).1)):=λX I=>by
     refine(FN (G.out X I).2.1 (ab.out.1.mono (by omega)) e.n).mono ?_;rintro O w'⟨rfl,m⟩;have Y:s.step e=(s.opens e.n,[]):=by unfold Sy.step;rw[Or M]
     rw[Y];exact⟨rfl,MA (s:=s) (G.out X I).2.2 m⟩
    have q1:(e.k==1)=true:=by simpa using M
    clear h hB hE hs hv0 Z aa J u M;go_enter func35,ntmps35;go_upto_region 1 with fail
    rw[HV.out]
    go_wp2_with(first|(go_at_call 80;refine HR.out.mono ?_;rintro r1 Q⟨rfl,hw⟩;subst hw)|(go_at_call 81;refine HT.out.mono ?_;rintro r2 w2⟨rfl,hb2⟩;have H:=show Hid (Below Q.heap.size Q w2)from hb2;obtain⟨n0,n1,n2,n3,n4,n5,n6,n7⟩:=(G.out _ hb2).1.cells;clear hb2)|(go_at_call 82;refine(HO.out _ H.out).mono ?_;rintro r3 w3⟨rfl,hA⟩;have HX:=aW hA;clear hA))
    refine R0 (v:=.tuple #[.slice none 0 0,Tu 0]) (by simp[results,Tryz.f35,go_sem]) rfl ?_;exact⟨_,rfl,HX.out⟩
   ·by_cases a2:e.k=3
    ·obtain⟨n,r,ac⟩:∃n r,s.ns=n :: r:=by
      unfold Sy.may at u;rw[Eq M,Or a2]at u;cases hq:s.ns with
      |nil=>rw[hq]at u;cases u
      |cons n r=>exact⟨n,r,rfl⟩
     have HO:Hid (∀X,Se V X->Sa 83 #[bP g] X λO w'=>O=.returned (.tuple #[])/\Aq S g W w' (.slice none 0 0) (s.step e).2 (.live (s.step e).1)):=λX I=>by
      refine(CT (G.out X I).2.1 ab.out.1 ac).mono ?_;rintro O w'⟨rfl,m⟩;have Y:s.step e=(s.leaves,[]):=by unfold Sy.step;rw[Eq M,Or a2]
      rw[Y];exact⟨rfl,MA (s:=s) (G.out X I).2.2 m⟩
     have q1:(e.k==1)=false:=by simpa using M
     have q2:(e.k==3)=true:=by simpa using a2
     clear h hB hE hs hv0 Z aa J u M a2 ac;go_enter func35,ntmps35;go_upto_region 1 with fail
     rw[HV.out]
     go_wp2_with(first|(go_at_call 80;refine HR.out.mono ?_;rintro r1 Q⟨rfl,hw⟩;subst hw)|(go_at_call 81;refine HT.out.mono ?_;rintro r2 w2⟨rfl,hb2⟩;have H:=show Hid (Below Q.heap.size Q w2)from hb2;obtain⟨n0,n1,n2,n3,n4,n5,n6,n7⟩:=(G.out _ hb2).1.cells;clear hb2)|(go_at_call 83;refine(HO.out _ H.out).mono ?_;rintro r3 w3⟨rfl,hA⟩;have HX:=aW hA;clear hA))
     refine R0 (v:=.tuple #[.slice none 0 0,Tu 0]) (by simp[results,Tryz.f35,go_sem]) rfl ?_;exact⟨_,rfl,HX.out⟩
    ·by_cases a3:e.k=2
     ·obtain⟨n,r,ac⟩:∃n r,s.ns=n :: r:=by
       unfold Sy.may at u;rw[Eq M,Eq a2,Or a3]at u;cases hq:s.ns with
       |nil=>rw[hq]at u;cases u
       |cons n r=>exact⟨n,r,rfl⟩
      have HO:Hid (∀X,Se V X->Sa 84 #[bP g,.agg #[.int .u8 e.d.k,.string e.d.t,Tu e.d.a,Tu e.d.l,Tu e.d.c,Tu e.d.f]] X λO w'=>∃v,O=.returned v/\Aq S g W w' v (s.step e).2 (.live (s.step e).1)):=λX I=>by
       refine(Gf (G.out X I).2.1 (ab.out.1.mono (by omega)) ab.out.2 ac e.d).mono ?_;rintro O w'⟨v,rfl,m⟩;have Y:s.step e=s.leaf e.d:=by unfold Sy.step;rw[Eq M,Eq a2,Or a3]
       rw[Y];exact⟨v,rfl,MB (G.out X I).2.2 m⟩
      have q1:(e.k==1)=false:=by simpa using M
      have q2:(e.k==3)=false:=by simpa using a2
      have q3:(e.k==2)=true:=by simpa using a3
      clear h hB hE hs hv0 Z aa J u M a2 a3 ac;go_enter func35,ntmps35;go_upto_region 1 with fail
      rw[HV.out]
      go_wp2_with(first|(go_at_call 80;refine HR.out.mono ?_;rintro r1 Q⟨rfl,hw⟩;subst hw)|(go_at_call 81;refine HT.out.mono ?_;rintro r2 w2⟨rfl,hb2⟩;have H:=show Hid (Below Q.heap.size Q w2)from hb2;obtain⟨n0,n1,n2,n3,n4,n5,n6,n7⟩:=(G.out _ hb2).1.cells;clear hb2)|(go_at_call 84;refine(HO.out _ H.out).mono ?_;rintro r3 w3⟨v3,rfl,hA⟩;have HX:=aW hA;clear hA))
      refine R0 (v:=.tuple #[v3,Tu 0]) (by simp[results,Tryz.f35,go_sem]) rfl ?_;exact⟨_,rfl,HX.out⟩
     ·have a4:e.k=4:=by
       apply SQ
       intro a4;unfold Sy.may at u;rw[Eq M,Eq a2,Eq a3,Eq a4]at u;cases u
      have HO:Hid (∀X,Se V X->Sa 85 #[bP g,.agg #[.int .u8 e.d.k,.string e.d.t,Tu e.d.a,Tu e.d.l,Tu e.d.c,Tu e.d.f]] X λO w'=>∃v,O=.returned v/\Aq S g W w' v (s.step e).2 (.live (s.step e).1)):=λX I=>by
       refine(B9 (G.out X I).2.1 (by have:=ab.out.1.1;omega) e.d).mono ?_;rintro O w'⟨v,rfl,m⟩;have Y:s.step e=s.note e.d:=by unfold Sy.step;rw[Eq M,Eq a2,Eq a3]
       rw[Y];exact⟨v,rfl,MB (G.out X I).2.2 m⟩
      have q1:(e.k==1)=false:=by simpa using M
      have q2:(e.k==3)=false:=by simpa using a2
      have q3:(e.k==2)=false:=by simpa using a3
      have q4:(e.k==4)=true:=by simpa using a4
      clear h hB hE hs hv0 Z aa J u M a2 a3 a4;go_enter func35,ntmps35;go_upto_region 1 with fail
      rw[HV.out]
      go_wp2_with(first|(go_at_call 80;refine HR.out.mono ?_;rintro r1 Q⟨rfl,hw⟩;subst hw)|(go_at_call 81;refine HT.out.mono ?_;rintro r2 w2⟨rfl,hb2⟩;have H:=show Hid (Below Q.heap.size Q w2)from hb2;obtain⟨n0,n1,n2,n3,n4,n5,n6,n7⟩:=(G.out _ hb2).1.cells;clear hb2)|(go_at_call 85;refine(HO.out _ H.out).mono ?_;rintro r3 w3⟨v3,rfl,hA⟩;have HX:=aW hA;clear hA))
      refine R0 (v:=.tuple #[v3,Tu 0]) (by simp[results,Tryz.f35,go_sem]) rfl ?_;exact⟨_,rfl,HX.out⟩
  ·have ad:s.may e=false:=by simpa using u
   have J:yn e (.live s)=(130,[],.live s):=by show(match gq s e with|none=>_|some (s',l)=>_)=_;unfold gq;rw[Eq u]
   rw[J];rw[ad]at HT;have HX:=aW λX (I:Se V X)=>uc (st:=.live s) h (hB.trans (I.mono hB.size))
   clear h hB hE hs hv0 Z aa J u ad;go_enter func35,ntmps35;go_upto_region 1 with fail
   rw[HV.out]
   go_wp2_with(first|(go_at_call 80;refine HR.out.mono ?_;rintro r1 Q⟨rfl,hw⟩;subst hw)|(go_at_call 81;refine HT.out.mono ?_;rintro r2 w2⟨rfl,hb2⟩;have H:=show Hid (Below Q.heap.size Q w2)from hb2;clear hb2))
   refine R0 (v:=.tuple #[.slice none 0 0,Tu 130]) (by simp[results,Tryz.f35,go_sem]) rfl ?_;exact⟨_,rfl,HX.out _ H.out⟩
def xV {S:Nat->Prop}{st:xx}(h:Sq S W g st) (hz:Qo st) :
  Sa 36 #[bP g] W λrr w'=>∃v,Uk rr (.tuple #[v,Tu (yu st).1])/\Aq S g W w' v (yu st).2.1 (yu st).2.2:=by
 cases st with
 |done=>
  have I:=aW (fe h.1.cells.1);have HX:=aW (uc (st:=.done) h (gt _ _));clear h;go_enter func36,ntmps36
  go_wp2_with(go_at_call 80;refine I.out.mono ?_;rintro r1 w1⟨rfl,J⟩;subst J)
  refine R0 (v:=.tuple #[.slice none 0 0,Tu 4]) (by simp[results,Tryz.f36,go_sem]) rfl ?_;exact⟨_,rfl,HX.out⟩
 |live s=>
  have H:SS S W g s:=h;obtain⟨vn,vw,hv,v1,v2⟩:=H.ex;obtain⟨c0,c1,c2,c3,c4,c5,c6,c7⟩:=hv.sb.cells;have I:=aW (fe c0);obtain⟨pn,cn,en,_⟩:=aG hv.rn
  by_cases G:s.ns=[]
  ·have u:yu (.live s)=(0,s.endl.ws,.done):=by show(match kn s with|none=>_|some l=>_)=_;unfold kn;rw[Or G]
   rw[u];have ab:W.cell? (Tw g 1)=some (.slice pn 0 cn):=by rw[c1,en,G];rfl
   have HE:Hid (Sa 86 #[bP g] W λrr w'=>Uk rr (.tuple #[])/\∃p n c,w'.cell? (Tw g 2)=some (.slice p n c)/\(∃Y Z,SB w' g false Y Z s.endl.mr.isSome (s.endl.mr.getD 0:Nat) s.endl.wr s.endl.en s.endl.pt)/\∀M,Kp (λk=>k=g) w' M->SB M g true (.slice none 0 0) (.slice none 0 0) false 0 false false false->Aq S g W M (.slice p n c) s.endl.ws .done):=by
    refine(mN H (by have:=hz.1.1;omega)).mono ?_;rintro rr w'⟨rfl,⟨S1,a1,a2⟩,hk,_⟩;obtain⟨Y,Z,hv1,x1,x2⟩:=a1.ex;obtain⟨p,c,e1,_⟩:=bv hv1.rd;subst e1;refine⟨rfl,p,_,c,hv1.sb.cells.2.2.1,⟨_,_,hv1.sb⟩,λM O Q=>?_⟩;have r5:Rd M (.slice p s.endl.ws.length c) s.endl.ws:=O.row hv1.rd (λk e1 e2=>aF hv1.rd hv1.sb (by decide) (by rw[e1,e2]));have aa:(Value.slice p s.endl.ws.length c).ownBlock≠some g:=aF hv1.rd hv1.sb (by decide);refine⟨⟨λk=>k=g,⟨Q,rfl,λk e=>by rw[e];exact Q.lt⟩,λk e=>.inl (by rw[e];exact H.sg),λk e=>⟨a2 k (x2 k e),λe2=>aa (by rw[<-e2];exact e)⟩⟩,r5,hk.step O (λk _ e=>by rw[e];exact H.sg)⟩
   have q1:¬(0:Int)<0:=by omega
   clear h H hv v1 v2 c0 c1 c2 c3 c4 c5 c6 c7 en G u hz;go_enter func36,ntmps36
   go_upto_region 8 with(first|(go_at_call 80;refine I.out.mono ?_;rintro r1 w1⟨rfl,J⟩;subst J)|(go_at_call 86;refine HE.out.mono ?_;rintro r2 w2⟨rfl,p2,n2,c2,y1,⟨vn2,vw2,y2⟩,y3⟩;have HY:=aW y3;clear y3))
   obtain⟨d0,d1,d2,d3,d4,d5,d6,d7⟩:=y2.cells;have f0:=y2.frozen 0;have f1:=y2.frozen 1;have f2:=y2.frozen 2;have f3:=y2.frozen 3;have f4:=y2.frozen 4;have f5:=y2.frozen 5;have f6:=y2.frozen 6;have f7:=y2.frozen 7;have HZ:=show Hid _ from HY.out ((((((((w2.setCell ⟨g,0,none⟩ (.bool true)).setCell ⟨g,1,none⟩ (.slice none 0 0)).setCell ⟨g,2,none⟩ (.slice none 0 0)).setCell ⟨g,3,none⟩ (.bool false)).setCell ⟨g,4,none⟩ (Tu 0)).setCell ⟨g,5,none⟩ (.bool false)).setCell ⟨g,6,none⟩ (.bool false)).setCell ⟨g,7,none⟩ (.bool false)) ((((((((Kp.set _ _ _ _).trans (Kp.set _ _ _ _)).trans (Kp.set _ _ _ _)).trans (Kp.set _ _ _ _)).trans (Kp.set _ _ _ _)).trans (Kp.set _ _ _ _)).trans (Kp.set _ _ _ _)).trans (Kp.set _ _ _ _)) (ag (ag (ag (ag (ag (ag (ag (ag y2 0 _) 1 _) 2 _) 3 _) 4 _) 5 _) 6 _) 7 _)
   clear HY y2 HE I;(go_wp2_with fail);refine R0 (v:=.tuple #[.slice p2 n2 c2,Tu 0]) (by simp[results,Tryz.f36,go_sem]) rfl ?_;exact⟨_,rfl,HZ.out⟩
  ·have u:yu (.live s)=(130,[],.live s):=by show(match kn s with|none=>_|some l=>_)=_;unfold kn;rw[Eq G]
   rw[u];have ab:W.cell? (Tw g 1)=some (.slice pn s.ns.length cn):=by rw[c1,en]
   have q1:(0:Int)<(s.ns.length:Int):=by have:s.ns.length≠0:=λh0=>G (R6 h0);omega
   have HX:=aW (uc (st:=.live s) h (gt _ _));clear h H hv v1 v2 c0 c1 c2 c3 c4 c5 c6 c7 en G u hz;go_enter func36,ntmps36
   go_wp2_with(go_at_call 80;refine I.out.mono ?_;rintro r1 w1⟨rfl,J⟩;subst J)
   refine R0 (v:=.tuple #[.slice none 0 0,Tu 130]) (by simp[results,Tryz.f36,go_sem]) rfl ?_;exact⟨_,rfl,HX.out⟩
def cy (l:List Nd):Nat:=(l.map (·.b)).sum
def bf (n:Nd) (l:List Nd):cy (n :: l)=n.b+cy l:=by simp[cy]
def eU (s:Sy):Nat:=s.ws.length+cy s.ns
def Nr (s:Sy) (p:Pz):eU (s.aw p)<=eU s+2/\(s.aw p).ns.length=s.ns.length/\(s.aw p).mr=s.mr/\s.ws.length<=(s.aw p).ws.length:=by
 refine⟨?_,oa p s.ns,rfl,by rw[Iu,IO];omega⟩;have u:=fW p s.ns
 have G:cy (gX p s.ns)<=cy s.ns+1:=by
  cases hc:s.ns with
  |nil=>simp[gX,cy]
  |cons n r=>
   have H:p.n<=1:=by cases p<;>simp[Pz.n]
   simp only[gX];rw[bf]
   split
   ·rw[bf];show n.b-1+cy r<=_;omega
   ·rw[bf];show n.b+p.n+cy r<=_;omega
 show(s.ws++jQ p s.ns).length+cy (gX p s.ns)<=_;rw[IO];unfold eU;omega
def jf (s:Sy) (l:List Pz):eU (s.aws l)<=eU s+2*l.length/\(s.aws l).ns.length=s.ns.length/\(s.aws l).mr=s.mr/\s.ws.length<=(s.aws l).ws.length:=by
 induction l generalizing s with
 |nil=>exact⟨by simp[Sy.aws],rfl,rfl,ge _⟩
 |cons p l ih=>
  obtain⟨H,u,G,I⟩:=ih (s.aw p);obtain⟨b1,b2,b3,b4⟩:=Nr s p;rw[eO];exact⟨by simp only[List.length_cons];omega,u.trans b2,G.trans b3,by omega⟩
def Mo (s:Sy):Prop:=∀m,s.mr=some m->m<=s.ws.length
def Mo.aws {s:Sy}(h:Mo s) (l:List Pz):Mo (s.aws l):=λm G=>by
 obtain⟨_,_,u,H⟩:=jf s l;have:=h m (by rw[<-u];exact G);omega
def jT (s:Sy):eU s.exprIn<=eU s+4/\s.exprIn.ns.length=s.ns.length/\s.exprIn.mr=s.mr/\s.ws.length<=s.exprIn.ws.length:=by
 unfold Sy.exprIn
 split
 ·exact⟨by omega,rfl,rfl,ge _⟩
 ·rename_i n r e
  have J:cy s.ns=n.b+cy r:=by rw[e,bf]
  have S:∀l:List Pz,(∀p∈l,jQ p s.ns=[p.d])->True:=λ_ _=>trivial
  by_cases u:n.k=19
  ·obtain⟨M,O,H,I⟩:=jf s [.S,.I 3];simp only[Or u];refine⟨?_,by show((_:Nd) :: r).length=_;rw[e];rfl,H,I⟩
   have Q:(s.aws [.S,.I 3]).ws.length<=s.ws.length+2:=by
    show((s.ws++jQ .S s.ns)++jQ (.I 3) (gX .S s.ns)).length<=_;have:=fW .S s.ns;have:=fW (.I 3) (gX .S s.ns);rw[IO,IO];omega
   show(s.aws [.S,.I 3]).ws.length+cy (⟨n.k,n.b+1,true⟩ :: r)<=_;rw[bf];unfold eU;rw[J];show _+(n.b+1+cy r)<=_;omega
  ·by_cases G:n.k=31/\n.s=false
   ·obtain⟨M,O,H,I⟩:=jf s [.B0];simp only[Eq u,Or G];refine⟨?_,by show((_:Nd) :: r).length=_;rw[e];rfl,H,I⟩
    have Q:(s.aws [.B0]).ws.length<=s.ws.length+1:=by
     show(s.ws++jQ .B0 s.ns).length<=_;have:=fW .B0 s.ns;rw[IO];omega
    show(s.aws [.B0]).ws.length+cy (⟨n.k,n.b,true⟩ :: r)<=_;rw[bf];unfold eU;rw[J];show _+(n.b+cy r)<=_;omega
   ·simp only[Eq u,Eq G];refine⟨?_,by show((_:Nd) :: r).length=_;rw[e];rfl,by first|rfl|trivial,by first|exact ge _|trivial⟩;show s.ws.length+cy (⟨n.k,n.b,true⟩ :: r)<=_;rw[bf];unfold eU;rw[J];show _+(n.b+cy r)<=_;omega
def Mo.exprIn (h:Mo s):Mo s.exprIn:=λm G=>by
 obtain⟨_,_,u,H⟩:=jT s;have:=h m (by rw[<-u];exact G);omega
def Mo.mark (h:Mo s) (k:Int):Mo (s.mark k):=by
 unfold Sy.mark
 split
 ·intro m u;cases u;exact ge _
 ·exact h
def qR (s:Sy) (k:Int):eU (s.opens k)<=eU s+12/\(s.opens k).ns.length<=s.ns.length+1:=by
 obtain⟨u,G⟩:=ea (if k=21 then s.exprIn else s)
 have J:eU u<=eU s+4/\u.ns.length=s.ns.length:=by
  rw[<-G];split
  ·exact⟨(jT s).1,(jT s).2.1⟩
  ·exact⟨by omega,rfl⟩
 have M:eU (u.mark k)=eU u/\(u.mark k).ns=u.ns:=by unfold Sy.mark;split<;>exact⟨rfl,rfl⟩
 have hl:(uk k).length<=1:=by unfold uk;split;simp;split<;>simp
 obtain⟨H,I,_,_⟩:=jf { (u.mark k)with ns:=⟨k,0,false⟩ :: (u.mark k).ns } (uk k)
 have O:eU ({ (u.mark k)with ns:=⟨k,0,false⟩ :: (u.mark k).ns }:Sy)=eU (u.mark k):=by
  show(u.mark k).ws.length+cy (⟨k,0,false⟩ :: (u.mark k).ns)=_;rw[bf];show _+(0+_)=_;unfold eU;omega
 have e:s.opens k=Sy.aws { (u.mark k)with ns:=⟨k,0,false⟩ :: (u.mark k).ns } (uk k):=by unfold Sy.opens;simp only;rw[G]
 rw[e];refine⟨by rw[O]at H;omega,?_⟩;rw[I];show((⟨k,0,false⟩:Nd) :: (u.mark k).ns).length<=_;rw[List.length_cons,M.2,J.2];omega
def Mo.opens (h:Mo s) (k:Int):Mo (s.opens k):=by
 unfold Sy.opens;simp only;refine Mo.aws ?_ _;have:Mo ((if k=21 then s.exprIn else s).mark k):=Mo.mark (by split;exact h.exprIn;exact h) k;exact this
def oU (s:Sy):eU s.leaves<=eU s+12/\s.leaves.ns.length<=s.ns.length:=by
 unfold Sy.leaves
 split
 ·exact⟨by omega,ge _⟩
 ·rename_i n r e
  refine⟨?_,by rw[e];simp⟩;show(s.ws++List.replicate n.b dX++(if n.k=1 then[dH]else[])).length+cy r<=_;unfold eU;rw[e,bf,IO,IO,SP]
  split<;>simp<;>omega
def Mo.leaves (h:Mo s):Mo s.leaves:=by
 unfold Sy.leaves
 split
 ·exact h
 ·intro m u;have:=h m u;show m<=(s.ws++List.replicate _ dX++_).length;rw[IO,IO];omega
def CJ (s:Sy) (a:Fx) (f:Int):eU (s.ready a f)<=eU s+7/\(s.ready a f).ns.length=s.ns.length:=by
 obtain⟨J,G,_,_⟩:=jf s a.pz;have hl:=yG a
 have M:eU ((s.aws a.pz).emp f)<=eU (s.aws a.pz)+1:=by
  unfold Sy.emp
  split
  ·omega
  ·split
   ·omega
   ·rename_i m _ _
    show((s.aws a.pz).ws.take m++dE :: (s.aws a.pz).ws.drop m).length+cy (s.aws a.pz).ns<=_;unfold eU;simp only[IO,Sk,List.length_cons,Sj];omega
 have H:∀u:Sy,eU u.endl<=eU u+1:=λu=>by
  unfold Sy.endl
  split
  ·show(dH :: u.ws).length+cy u.ns<=_;unfold eU;simp;omega
  ·omega
 have I:∀u:Sy,eU u.part<=eU u+1:=λu=>by
  unfold Sy.part
  split
  ·show(u.ws++[dS]).length+cy u.ns<=_;unfold eU;simp;omega
  ·omega
 unfold Sy.ready;refine⟨?_,by rw[nD,kP,tC,G]⟩;have:=I ((s.aws a.pz).emp f).endl;have:=H ((s.aws a.pz).emp f);omega
def vP (s:Sy) (t:Tv):(s.leaf t).2.length+eU (s.leaf t).1<=eU s+12/\(s.leaf t).1.ns.length=s.ns.length:=by
 unfold Sy.leaf
 split
 ·exact⟨by simp,rfl⟩
 ·rename_i n r e
  obtain⟨u,G⟩:=CJ s (bi n t).a t.f;obtain⟨b1,b2,_,_⟩:=jf ⟨(s.ready (bi n t).a t.f).ns,[],none,true,false,false⟩ (bi n t).b.pz;have hl:=yG (bi n t).b;refine⟨?_,?_⟩
  ·show((s.ready (bi n t).a t.f).ws++[dT t.t]).length+eU (Sy.aws ⟨(s.ready (bi n t).a t.f).ns,[],none,true,false,false⟩ (bi n t).b.pz)<=_;have:eU ⟨(s.ready (bi n t).a t.f).ns,[],none,true,false,false⟩=cy (s.ready (bi n t).a t.f).ns:=by unfold eU;simp
   rw[this]at b1;unfold eU at u;rw[IO];simp only[List.length_cons,List.length_nil];unfold eU at b1 ⊢;omega
  ·show(Sy.aws ⟨(s.ready (bi n t).a t.f).ns,[],none,true,false,false⟩ (bi n t).b.pz).ns.length=_;rw[b2];exact G
def Mo.leaf (h:Mo s) (t:Tv):Mo (s.leaf t).1:=by
 unfold Sy.leaf
 split
 ·exact h
 ·show Mo (Sy.aws ⟨_,[],none,true,false,false⟩ _);exact Mo.aws (λm u=>by cases u) _
def vO (s:Sy) (t:Tv):(s.note t).2.length+eU (s.note t).1<=eU s+12/\(s.note t).1.ns.length=s.ns.length:=by
 have u:(s.ws.takeWhile br).length+(s.ws.dropWhile br).length=s.ws.length:=by
  rw[<-IO,Un]
 unfold Sy.note;simp only
 split
 ·refine⟨?_,rfl⟩;show(s.ws.takeWhile br++[dS,dT t.t]).length+((s.ws.dropWhile br).length+cy s.ns)<=_;unfold eU;simp;omega
 ·refine⟨?_,rfl⟩;show(s.ws.takeWhile br++dH :: ((if _ then[dE]else[])++[dT t.t])).length+((s.ws.dropWhile br).length+cy s.ns)<=_;unfold eU
  split<;>simp<;>omega
def Mo.note {s:Sy}(t:Tv):Mo (s.note t).1:=by
 unfold Sy.note;simp only
 split<;>(intro m u;cases u)
def Ki {e:Ev}(h:gq s e=some (s',l)):l.length+eU s'<=eU s+12/\s'.ns.length<=s.ns.length+1/\(Mo s->Mo s'):=by
 unfold gq at h
 split at h
 ·have u:=SJ h;obtain⟨G,H⟩:(s.step e).1=s'/\(s.step e).2=l:=⟨by rw[u],by rw[u]⟩;rw[<-G,<-H];unfold Sy.step
  split
  ·exact⟨by have:=(qR s e.n).1;simpa using this,(qR s e.n).2,λh=>h.opens _⟩
  ·split
   ·exact⟨by have:=(oU s).1;simpa using this,by have:=(oU s).2;show s.leaves.ns.length<=_;omega,λh=>h.leaves⟩
   ·split
    ·exact⟨(vP s e.d).1,by rw[(vP s e.d).2];omega,λh=>h.leaf _⟩
    ·exact⟨(vO s e.d).1,by rw[(vO s e.d).2];omega,λ_=>Mo.note _⟩
 ·cases h
def Ij {l:List Nd}{x:Nd}(h:x∈l):x.b<=cy l:=by
 induction l with
 |nil=>cases h
 |cons n r ih=>
  rw[bf]
  rcases Sm.1 h with rfl|h
  ·omega
  ·have:=ih h;omega
def M4 {s:Sy}{j:Nat}(u:eU s<=12*j) (I:s.ns.length<=j) (G:Mo s) (J:j<=30000000):Qo (.live s):=by
 unfold eU at u;exact⟨⟨by omega,by omega,λx H=>by have:=Ij H;omega⟩,G⟩
