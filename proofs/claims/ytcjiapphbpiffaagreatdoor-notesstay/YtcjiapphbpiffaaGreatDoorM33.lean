import Derived.Laws.EntriesVeiled
import Derived.Test.YtcjiapphbpiffaaGreatDoorM32
set_option linter.unusedVariables false
set_option linter.unusedSimpArgs false
set_option maxHeartbeats 2000000
set_option maxRecDepth 100000
namespace Go.Proofs.YtcjiapphbpiffaaGreatDoor
open Go.RowKit
open Lw (Dc bE rt cG dD fu iC bZ aX cy)
variable {st:Sy}{W:World}{g:Nat}{n:Nd}{r:List Nd}{α:Type}
theorem Mw.below {S:Nat->Prop}{W1 C:World}(h:Mw S g W W1 st) (F:Below W1.heap.size W1 C):Mw S g W C st:=by
 obtain ⟨G,H,u1⟩:=Mw.seq h;exact u1 _ _ ⟨⟨G,H.below F,fun _ h=>.inl h⟩,Kp.of_below F⟩
def iA (st:Sy) (n:Nd) (r:List Nd) (j:Nat):Sy:={ st with ns:=⟨n.k,n.b-j,n.s⟩ :: r,ws:=st.ws++List.replicate j dX }
theorem Di (e:st.ns=n :: r):iA st n r 0=st:=by
 unfold iA;rw [List.replicate_zero,TG,WB,<-e]
theorem Dj {j:Nat}(G:j<n.b):(iA st n r j).aw .X=iA st n r (j+1):=by
 unfold Sy.aw iA
 have C:iw .X ((⟨n.k,n.b-j,n.s⟩:Nd) :: r)=⟨n.k,n.b-(j+1),n.s⟩ :: r:=by
  simp only [iw];rw [IO trivial];show (⟨n.k,n.b-j-1,n.s⟩:Nd) :: r=_;rw [Nat.sub_sub]
 have F:jN .X ((⟨n.k,n.b-j,n.s⟩:Nd) :: r)=[dX]:=by
  unfold jN;rw [Eq (by simp;omega)];rfl
 show ({ st with ns:=iw .X ((⟨n.k,n.b-j,n.s⟩:Nd) :: r),ws:=(st.ws++List.replicate j dX)++jN .X ((⟨n.k,n.b-j,n.s⟩:Nd) :: r) }:Sy)=_
 rw [C,F,S5,List.replicate_succ']
theorem A2 {m:Nat}(e:st.ns=n :: r) (h:Bz m st) (j:Nat) (I:j<=n.b):Bz (2*m) (iA st n r j):=by
 obtain ⟨H,G,C⟩:=h;rw [e] at G C;have J:=C n S4;refine ⟨?_,?_,?_⟩
 ·show (st.ws++List.replicate j dX).length<=_
  rw [Or,UW];omega
 ·show ((⟨n.k,n.b-j,n.s⟩:Nd) :: r).length<=_
  simp at G ⊢;omega
 ·intro x F
  rcases Tt.1 (show x∈(⟨n.k,n.b-j,n.s⟩:Nd) :: r from F) with rfl|F
  ·show n.b-j<=_;omega
  ·have:=C x (SZ _ F);omega
theorem SS.pop {S:Nat->Prop}(h:SS S W g st) {b cap:Nat}{n:Nd}{r:List Nd}(e:st.ns=n :: r) (hc:W.cell? ⟨g,1,none⟩=some (.slice (some ⟨b,0,none⟩) (r.length+1) cap)) :
  W.frozen? ⟨g,1,none⟩=false/\r.length+1<=cap/\Mw S g W (W.setCell ⟨g,1,none⟩ (.slice (some ⟨b,0,none⟩) r.length cap)) { st with ns:=r }:=by
 obtain ⟨vn,vw,C,M,O⟩:=h.ex;have F:vn=.slice (some ⟨b,0,none⟩) (r.length+1) cap:=by have:=C.sb.cells.2.1;rw [hc] at this;exact (TE this).symm
 subst F;have I:Rn tN W (.slice (some ⟨b,0,none⟩) (r.length+1) cap) (n :: r):=by rw [<-e];exact C.rn
 have J:=Nx I;obtain ⟨_,_,G,_,H⟩:=nI I;cases G;refine ⟨C.sb.frozen 1,H,Mw.mk' (vn:=.slice (some ⟨b,0,none⟩) r.length cap) (vw:=vw) ⟨aj C.sb 1 _,(Kp.set _ _ _ _).row J (fun k F G=>aN J C.sb (by decide) (by rw [F,G])),(Kp.set _ _ _ _).row C.rd (fun k F G=>aN C.rd C.sb (by decide) (by rw [F,G]))⟩ h.sg (fun k e=>.inl (M k e)) (fun k e=>.inl (O k e)) ((Kp.set _ _ _ _).sub (fun k e=>by rw [e];exact h.sg))⟩
theorem CN {S:Nat->Prop}(h:SS S W g st) (Q:Bz 400000000 st) {n:Nd}{r:List Nd}(e:st.ns=n :: r) :
  Ta 81 #[cd g] W fun G w'=>G=.returned (.tuple #[])/\Mw S g W w' st.leaves:=by
 obtain ⟨b,cap,hc,_⟩:=h.nodes e;have ab:r.length<=900000000:=by have:=Q.2.1;rw [e] at this;simp at this;omega
 have aa:n.b<=400000000:=Q.2.2 n (by rw [e];exact S4);have HI:Hid (Ta 122 #[cd g] W fun G w'=>G=.returned (.pointer (some ⟨b,r.length*3,none⟩))/\Tb W w'):=gh hc (by omega)
 have HE:Hid (∀j V,j<n.b->Mv S g W V (iA st n r j)->Ta 128 #[cd g] V fun G w'=>G=.returned (.tuple #[])/\Mv S g W w' (iA st n r (j+1))):=fun j V hj F=>by
  obtain ⟨S1,I,u1⟩:=Mv.seq F;refine (ou I (by show (_ :: _:List Nd)≠[];simp) ((A2 e Q j (by omega)).mono (by omega))).mono ?_;rintro G w' ⟨rfl,m⟩;rw [Dj hj] at m;exact ⟨rfl,u1 _ _ m⟩
 have HH:Hid (∀V,Mv S g W V (iA st n r n.b)->Ta 129 #[cd g] V fun G w'=>G=.returned (.tuple #[])/\Mv S g W w' ((iA st n r n.b).aw .H)):=fun V F=>by
  obtain ⟨S1,I,u1⟩:=Mv.seq F;refine (pV I (by show (_ :: _:List Nd)≠[];simp) ((A2 e Q n.b (gt _)).mono (by omega))).mono ?_;rintro G w' ⟨rfl,m⟩;exact ⟨rfl,u1 _ _ m⟩
 have HC:Hid (∀j V,Mv S g W V (iA st n r j)->V.cell? ⟨b,r.length*3+1,none⟩=some (.int .i64 ((n.b-j:Nat):Int))/\V.cell? ⟨b,r.length*3,none⟩=some (.int .u8 n.k)):=fun j V F=>by
  obtain ⟨S1,I,u1⟩:=Mv.seq F;obtain ⟨a0,a1,a2⟩:=I.cells2 (n:=⟨n.k,n.b-j,n.s⟩) (r:=r) rfl (F.2.2.trans hc);exact ⟨a1,a0⟩
 have HF:Hid (∀V st',Mv S g W V st'->(∃n',st'.ns=n' :: r)->V.cell? ⟨g,1,none⟩=some (.slice (some ⟨b,0,none⟩) (r.length+1) cap)/\V.frozen? ⟨g,1,none⟩=false/\r.length+1<=cap/\Mw S g W (V.setCell ⟨g,1,none⟩ (.slice (some ⟨b,0,none⟩) r.length cap)) { st' with ns:=r }):=fun V st' F ⟨n',en⟩=>by
  obtain ⟨S1,I,u1⟩:=Mw.seq F.w;have Z:=F.2.2.trans hc;obtain ⟨a1,a2,a3⟩:=I.pop en Z;exact ⟨Z,a1,a2,u1 _ _ a3⟩
 have M:Hid (n.k=1->({ ((iA st n r n.b).aw .H) with ns:=r }:Sy)=st.leaves):=fun C=>by
  unfold Sy.leaves;rw [e];simp only;rw [IO C];rfl
 have O:Hid (n.k≠1->({ (iA st n r n.b) with ns:=r }:Sy)=st.leaves):=fun C=>by
  unfold Sy.leaves;rw [e];simp only;rw [Eq C,TG];rfl
 have HS:Hid (∀V,Tb W V->Mv S g W V (iA st n r 0)):=fun V hb=>by rw [Di e];exact Mv.quiet h hb
 clear h Q e hc;have q3:IntKind.i64.wrap (r.length:Int)=r.length:=by rw [TJ];omega
 go_enter Tryz.func81,Tryz.ntmps81
 go_wp2_with (go_at_call 122;refine HI.out.mono ?_;rintro r1 w1 ⟨rfl,Y⟩;have HB:=show Hid (Below W.heap.size W w1) from Y;clear Y)
 go_loopw [] (fun wr=>∃j:Nat,j<=n.b/\Hid (Mv S g W wr (iA st n r j))) (fun wr=>match wr.cell? ⟨b,r.length*3+1,none⟩ with|some v=>(intOf v).toNat|none=>0)
 case atStart=>exact ⟨0,SW _,HS.out _ HB.out⟩
 case round=>
  obtain ⟨j,hj,HJ⟩:=hrel;obtain ⟨x1,x0⟩:=HC.out j _ HJ.out
  by_cases H:j<n.b
  ·have q1:(0:Int)<((n.b-j:Nat):Int):=by omega
   go_wp2_with (go_at_call 128;refine (HE.out j _ H HJ.out).mono ?_;rintro r2 w2 ⟨rfl,U⟩;have HM:=show Hid (Mv S g W w2 (iA st n r (j+1))) from U;clear U)
   refine ⟨⟨j+1,H,HM⟩,?_⟩;rw [(HC.out (j+1) _ HM.out).1,x1];simp [intOf];omega
  ·obtain rfl:j=n.b:=by omega
   have x2:wr.cell? ⟨b,r.length*3+1,none⟩=some (.int .i64 0):=by rw [x1];simp
   clear x1
   by_cases C:n.k=1
   ·have q2:(n.k == 1)=true:=by simpa using C
    have HL:=show Hid (({ ((iA st n r n.b).aw .H) with ns:=r }:Sy)=st.leaves) from M.out C
    clear M O C H;have y6:(0:Int)<=(r.length:Int):=by omega
    go_upto_region 5 with (go_at_call 129;refine (HH.out _ HJ.out).mono ?_;rintro r2 w2 ⟨rfl,U⟩;obtain ⟨y1,y2,y3,J⟩:=HF.out _ _ U ⟨_,rfl⟩;rw [HL.out] at J;have HY:=show Hid (Mw S g W (w2.setCell ⟨g,1,none⟩ (.slice (some ⟨b,0,none⟩) r.length cap)).drew st.leaves) from J.below ((hH _ _).drew);clear J U)
    have y5:(r.length:Int)<=(cap:Int):=by omega
    go_region_law (fail)
    all_goals (
     go_wp2_with fail
     go_end0
     exact ⟨rfl,HY.out⟩)
   ·have q2:(n.k == 1)=false:=by simpa using C
    have HL:=show Hid (({ (iA st n r n.b) with ns:=r }:Sy)=st.leaves) from O.out C
    obtain ⟨y1,y2,y3,J⟩:=HF.out _ _ HJ.out ⟨_,rfl⟩;rw [HL.out] at J;have HY:=show Hid (Mw S g W (wr.setCell ⟨g,1,none⟩ (.slice (some ⟨b,0,none⟩) r.length cap)).drew st.leaves) from J.below ((hH _ _).drew)
    clear J M O C H HL;have y5:(r.length:Int)<=(cap:Int):=by omega
    have y6:(0:Int)<=(r.length:Int):=by omega
    go_wp2_with fail
    go_region_law (fail)
    all_goals (
     go_wp2_with fail
     go_end0
     exact ⟨rfl,HY.out⟩)
def Eb (W:World) (E:Nat) (e:Ev):Prop:=W.heap[E]?=some (.cells #[.int .u8 e.k,.int .u8 e.n,.int .u8 e.d.k,.string e.d.t,.int .i64 e.d.a,.int .i64 e.d.l,.int .i64 e.d.c,.int .i64 e.d.f] 110 (0,0))
theorem Eb.cells {W:World}{E:Nat}{e:Ev}(h:Eb W E e):W.cell? ⟨E,0,none⟩=some (.int .u8 e.k)/\W.cell? ⟨E,1,none⟩=some (.int .u8 e.n)/\W.cell? ⟨E,2,none⟩=some (.int .u8 e.d.k)/\W.cell? ⟨E,3,none⟩=some (.string e.d.t)/\W.cell? ⟨E,4,none⟩=some (.int .i64 e.d.a)/\W.cell? ⟨E,5,none⟩=some (.int .i64 e.d.l)/\W.cell? ⟨E,6,none⟩=some (.int .i64 e.d.c)/\W.cell? ⟨E,7,none⟩=some (.int .i64 e.d.f):=
 ⟨af h rfl,af h rfl,af h rfl,af h rfl,af h rfl,af h rfl,af h rfl,af h rfl⟩
theorem BR {S:Nat->Prop}(h:SS S W g st) (hz:st.ns.length<=900000000) (e:Ev) (ht:e.d.t.size<=9223372036854775807) :
  Ta 79 #[cd g,.agg #[.int .u8 e.k,.int .u8 e.n,.int .u8 e.d.k,.string e.d.t,.int .i64 e.d.a,.int .i64 e.d.l,.int .i64 e.d.c,.int .i64 e.d.f]] W fun rr w'=>rr=.returned (.bool (st.may e))/\Below W.heap.size W w':=by
 obtain ⟨V,Z⟩:∃V,W.alloc (.cells #[.int .u8 e.k,.int .u8 e.n,.int .u8 e.d.k,.string e.d.t,.int .i64 e.d.a,.int .i64 e.d.l,.int .i64 e.d.c,.int .i64 e.d.f] 110)=V:=⟨_,rfl⟩;have Q:Below W.heap.size W V:=by rw [<-Z];exact (hH _ _).alloc (gt _) _
 have hE:Eb V W.heap.size e:=by rw [<-Z];exact aq _ _
 have O:Hid (W.alloc (.cells #[.int .u8 e.k,.int .u8 e.n,.int .u8 e.d.k,.string e.d.t,.int .i64 e.d.a,.int .i64 e.d.l,.int .i64 e.d.c,.int .i64 e.d.f] 110)=V):=Z;have hs:=h.below Q;obtain ⟨m0,m1,m2,m3,m4,m5,m6,m7⟩:=hE.cells;have HF:Hid (∀X,Tb V X->Tb W X):=fun X hX=>Q.trans (hX.mono Q.size)
 have HD:Hid (∀m,Tb W (V.drewN m)):=fun m=>eD Q m
 have HT:Hid (∀X,Ta 123 #[.string e.d.t] X fun r w'=>r=.returned (.bool (fu e.d.t))/\w'=X):=BV e.d.t ht;have HC:Hid (∀X,Ta 124 #[.agg #[.int .u8 e.d.k,.string e.d.t,.int .i64 e.d.a,.int .i64 e.d.l,.int .i64 e.d.c,.int .i64 e.d.f]] X fun r w'=>r=.returned (.bool (decide (e.d.k=7\/e.d.k=8)))/\Tb X w'):=Gc e.d;have I:Hid (Tb W V):=Q;cases U:st.ns with
 |nil=>
  have Y:∃p c,V.cell? ⟨g,1,none⟩=some (.slice p 0 c):=by
   obtain ⟨vn,vw,hv,_⟩:=hs.ex;obtain ⟨p,c,ee,_⟩:=aK hv.rn;rw [U] at ee;exact ⟨p,c,by rw [<-show vn=.slice p 0 c from ee];exact hv.sb.cells.2.1⟩
  obtain ⟨p,c,c1⟩:=Y
  have F:Hid (st.may e=(if e.k=1 then decide (1<=e.n) && decide (e.n<=32) else false)):=by
   show _=_
   unfold Sy.may;rw [U]
   by_cases G:e.k=1 <;> by_cases H:e.k=3 <;> by_cases J:e.k=2 <;> by_cases M:e.k=4 <;> simp [G,H,J,M]
  clear h hs Q hE U Z hz
  by_cases G:e.k=1
  ·have q1:(e.k == 1)=true:=by simpa using G
   have C:Hid (st.may e=(decide (1<=e.n) && decide (e.n<=32))):=by rw [F.out,IO G];exact rfl
   clear F G
   go_enter U2,UH
   go_upto_region 1 with fail
   rw [O.out]
   go_wp2_with fail
   all_goals (go_ret;rw [C.out];refine ⟨?_,I.out⟩;simp_all <;> omega)
  ·have C:Hid (st.may e=false):=by rw [F.out,Eq G];exact rfl
   have q1:(e.k == 1)=false:=by simpa using G
   clear F G
   by_cases H:e.k=3
   ·have q2:(e.k == 3)=true:=by simpa using H
    clear H
    go_enter U2,UH
    go_upto_region 1 with fail
    rw [O.out]
    go_wp2_with fail
    go_quiet (fail)
    go_wp2_with fail
    go_ret
    rw [C.out];exact ⟨rfl,HD.out _⟩
   ·have q2:(e.k == 3)=false:=by simpa using H
    by_cases J:e.k=2
    ·have q3:(e.k == 2)=true:=by simpa using J
     clear H J
     go_enter U2,UH
     go_upto_region 1 with fail
     rw [O.out]
     go_wp2_with fail
     go_ret
     rw [C.out];exact ⟨rfl,I.out⟩
    ·have q3:(e.k == 2)=false:=by simpa using J
     by_cases M:e.k=4
     ·have q4:(e.k == 4)=true:=by simpa using M
      clear H J M
      go_enter U2,UH
      go_upto_region 1 with fail
      rw [O.out]
      go_wp2_with fail
      go_ret
      rw [C.out];exact ⟨rfl,I.out⟩
     ·have q4:(e.k == 4)=false:=by simpa using M
      clear H J M
      go_enter U2,UH
      go_upto_region 1 with fail
      rw [O.out]
      go_wp2_with fail
      go_ret
      rw [C.out];exact ⟨rfl,I.out⟩
 |cons n r=>
  obtain ⟨b,cap,hc,y0,y1,y2,y3⟩:=hs.nodes U;have HI:Hid (∀X,Tb V X->Ta 122 #[cd g] X fun rr w'=>rr=.returned (.pointer (some ⟨b,r.length*3,none⟩))/\Tb X w'):=fun X hX=>gh (cM hc hX) (by rw [U] at hz;simp at hz;omega)
  have q0:(0:Int)<(r.length:Int)+1:=by omega
  have F:Hid (st.may e=(if e.k=1 then decide (1<=e.n) && decide (e.n<=32) else if e.k=3 then decide (n.k=e.n) else if e.k=2 then fu e.d.t else if e.k=4 then (fu e.d.t && decide (e.d.k=7\/e.d.k=8)) else false)):=by
   show _=_
   unfold Sy.may;rw [U]
   by_cases G:e.k=1 <;> by_cases H:e.k=3 <;> by_cases J:e.k=2 <;> by_cases M:e.k=4 <;> simp [G,H,J,M]
  clear h hs Q hE U Z hz y3
  by_cases G:e.k=1
  ·have q1:(e.k == 1)=true:=by simpa using G
   have C:Hid (st.may e=(decide (1<=e.n) && decide (e.n<=32))):=by rw [F.out,IO G];exact rfl
   clear F G
   go_enter U2,UH
   go_upto_region 1 with fail
   rw [O.out]
   go_wp2_with fail
   all_goals (go_ret;rw [C.out];refine ⟨?_,I.out⟩;simp_all <;> omega)
  ·rw [Eq G] at F;have q1:(e.k == 1)=false:=by simpa using G
   clear G
   by_cases H:e.k=3
   ·rw [IO H] at F;have q2:(e.k == 3)=true:=by simpa using H
    clear H;have C:Hid (st.may e=(n.k == e.n)):=by rw [F.out];show _=_;by_cases a:n.k=e.n <;> simp [a]
    have Y:∀x:HW (SG V),x.W.cell? ⟨W.heap.size,1,none⟩=some (.int .u8 e.n):=fun x=>cM m1 x.h
    have ad:∀x:HW (SG V),x.W.cell? ⟨b,r.length*3,none⟩=some (.int .u8 n.k):=fun x=>cM y0 x.h
    have af:Nonempty (HW (SG V)):=⟨⟨V.drew,(hH _ _).drew⟩⟩;have ae:∀x:HW (SG V),∃y:HW (SG V),x.W=y.W:=fun x=>⟨x,rfl⟩
    have KT:Hid (∀x:HW (SG V),Ta 122 #[cd g] x.W fun rr w'=>rr=.returned (.pointer (some ⟨b,r.length*3,none⟩))/\Below x.W.heap.size x.W w'):=fun x=>HI.out x.W x.h
    go_enter U2,UH
    go_upto_region 1 with fail
    rw [O.out]
    go_upto_region 6 with fail
    refine et (S:=SG V) (by kernel_rfl) (by kernel_rfl) (hH _ _).drew ?_
    repeat (go_big_quiet_step ((go_at_call 122;exact Calls.quiet_in _ (KT.out _) (fun _ _=>SG.keep))))
    refine wpQuiet_nil ?_;rintro w5 ⟨⟨W5,aa⟩,rfl⟩;have ac:Hid (Tb V w5):=aa;clear ad Y aa af ae
    go_wp2_with fail
    go_ret
    rw [C.out];exact ⟨rfl,HF.out _ ac.out⟩
   ·rw [Eq H] at F;have q2:(e.k == 3)=false:=by simpa using H
    clear H
    by_cases J:e.k=2
    ·rw [IO J] at F;have q3:(e.k == 2)=true:=by simpa using J
     clear J
     go_enter U2,UH
     go_upto_region 1 with fail
     rw [O.out]
     go_wp2_with (go_at_call 123;refine (HT.out _).mono ?_;rintro r2 w2 ⟨rfl,rfl⟩)
     go_ret
     rw [F.out];exact ⟨rfl,I.out⟩
    ·rw [Eq J] at F;have q3:(e.k == 2)=false:=by simpa using J
     clear J
     by_cases M:e.k=4
     ·rw [IO M] at F;have q4:(e.k == 4)=true:=by simpa using M
      clear M
      generalize fu e.d.t=bt at *
      generalize decide (e.d.k=7\/e.d.k=8)=bc at *
      cases bt
      ·go_enter U2,UH
       go_upto_region 1 with fail
       rw [O.out]
       go_wp2_with (go_at_call 123;refine (HT.out _).mono ?_;rintro r2 w2 ⟨rfl,rfl⟩)
       go_ret
       rw [F.out];exact ⟨rfl,I.out⟩
      ·go_enter U2,UH
       go_upto_region 1 with fail
       rw [O.out]
       go_wp2_with (first|(go_at_call 123;refine (HT.out _).mono ?_;rintro r2 w2 ⟨rfl,rfl⟩)|(go_at_call 124;refine (HC.out _).mono ?_;rintro r3 w3 ⟨rfl,hb3⟩;have ab:=show Hid (Below W.heap.size W w3) from HF.out _ hb3;clear hb3))
       go_ret
       rw [F.out];exact ⟨rfl,ab.out⟩
     ·rw [Eq M] at F;have q4:(e.k == 4)=false:=by simpa using M
      clear M
      go_enter U2,UH
      go_upto_region 1 with fail
      rw [O.out]
      go_wp2_with fail
      go_ret
      rw [F.out];exact ⟨rfl,I.out⟩
theorem zN:tab.length=40:=by decide
theorem zM:∀r∈tab,r.ns.length=6:=by decide
theorem SH {l:List Int}(h:l.length=6):∃a b c d e f,l=[a,b,c,d,e,f]:=by
 match l,h with
 |[a,b,c,d,e,f],_=>exact ⟨a,b,c,d,e,f,rfl⟩
def Rw.v (r:Rw):Value:=.agg r.cs.toArray
theorem KP (w:World):∀k,k<40->(Instr.index 256 (Value.agg im.toArray) (.int .i64 (k:Nat))).run Tryz.prog w=.ok (tab.getD k Nl).v w
 |0,_=>by kernel_rfl
 |1,_=>by kernel_rfl
 |2,_=>by kernel_rfl
 |3,_=>by kernel_rfl
 |4,_=>by kernel_rfl
 |5,_=>by kernel_rfl
 |6,_=>by kernel_rfl
 |7,_=>by kernel_rfl
 |8,_=>by kernel_rfl
 |9,_=>by kernel_rfl
 |10,_=>by kernel_rfl
 |11,_=>by kernel_rfl
 |12,_=>by kernel_rfl
 |13,_=>by kernel_rfl
 |14,_=>by kernel_rfl
 |15,_=>by kernel_rfl
 |16,_=>by kernel_rfl
 |17,_=>by kernel_rfl
 |18,_=>by kernel_rfl
 |19,_=>by kernel_rfl
 |20,_=>by kernel_rfl
 |21,_=>by kernel_rfl
 |22,_=>by kernel_rfl
 |23,_=>by kernel_rfl
 |24,_=>by kernel_rfl
 |25,_=>by kernel_rfl
 |26,_=>by kernel_rfl
 |27,_=>by kernel_rfl
 |28,_=>by kernel_rfl
 |29,_=>by kernel_rfl
 |30,_=>by kernel_rfl
 |31,_=>by kernel_rfl
 |32,_=>by kernel_rfl
 |33,_=>by kernel_rfl
 |34,_=>by kernel_rfl
 |35,_=>by kernel_rfl
 |36,_=>by kernel_rfl
 |37,_=>by kernel_rfl
 |38,_=>by kernel_rfl
 |39,_=>by kernel_rfl
 |k+40,h=>absurd h (by omega)
theorem Md (a b c d e f:Int) (t:List UInt8) (x y:Fx):(Rw.mk [a,b,c,d,e,f] t x y).v=.agg #[.int .u8 a,.int .u8 b,.int .u8 c,.int .u8 d,.int .u8 e,.int .u8 f,.string ⟨t.toArray⟩,.func (.func x.id) #[] #[],.func (.func y.id) #[] #[]]:=rfl
theorem Gu (r:Rw) {a b c d e f:Int}(I:r.ns=[a,b,c,d,e,f]) (n:Nd) (C:ByteArray) (W:World) :
  Ta 167 #[.agg #[.int .u8 a,.int .u8 b,.int .u8 c,.int .u8 d,.int .u8 e,.int .u8 f,.string ⟨r.t.toArray⟩,.func (.func r.a.id) #[] #[],.func (.func r.b.id) #[] #[]],.agg #[.int .u8 n.k,.int .i64 n.b,.bool n.s],.string C] W fun e w'=>e=.returned (.bool (r.fits n C))/\Below W.heap.size W w':=by
 have F:(⟨r.t.toArray⟩:ByteArray).toList=r.t:=by rw [Lib.toList_data]
 have G:C.toList=C.data.toList:=Lib.toList_data C
 have H:r.fits n C=(((⟨r.t.toArray⟩:ByteArray).toList == [] || (⟨r.t.toArray⟩:ByteArray).toList == C.toList) && [a,b,c,d,e,f].any n.is):=by
  unfold Rw.fits;rw [F,G,I]
  congr 2
  ·by_cases q:r.t=[] <;> simp [q]
  ·by_cases q:r.t=C.data.toList <;> simp [q]
 rw [H];exact C6 a b c d e f ⟨r.t.toArray⟩ r.a.id r.b.id n C W
theorem Da (p:α->Bool) (l:List α) (k:Nat) (x:α) (F:l[k]?=some x) (h:(l.take k).find? p=none) (C:p x=false):(l.take (k+1)).find? p=none:=by
 rw [UK,F,VR,h];simp [C]
theorem K7 (p:α->Bool) (l:List α) (k:Nat) (x:α) (F:l[k]?=some x) (h:(l.take k).find? p=none) (G:p x=true):l.find? p=some x:=by
 have C:=(Te.1 F).1
 have e:l=l.take k++x :: l.drop (k+1):=by
  have:=TD C;rw [(Te.1 F).2] at this;rw [<-this,TR]
 rw [e,VR,h];simp [G]
theorem Ca (n:Nd) (t:Tv) (W:World) (hk:t.k=2\/t.k=6) :
  Ta 130 #[.agg #[.int .u8 n.k,.int .i64 n.b,.bool n.s],.agg #[.int .u8 t.k,.string t.t,.int .i64 t.a,.int .i64 t.l,.int .i64 t.c,.int .i64 t.f]] W fun e w'=>e=.returned (aH n t).v/\Below W.heap.size W w':=by
 have O:Hid (∀V,Ta 166 #[] V fun e w'=>e=.returned (.agg im.toArray)/\Below V.heap.size V w'):=BS;have q1:(t.k == 2)=true\/((t.k == 2)=false/\(t.k == 6)=true):=by rcases hk with h|h <;> simp [h]
 go_enter Tryz.func130,Tryz.ntmps130
 go_upto_region 1 with fail
 go_cut [14] from 7 to 14 (fun t9 wx=>t9=.bool true/\wx=(((W.alloc (.cells #[.int .u8 n.k,.int .i64 n.b,.bool n.s] 216)).alloc (.cells #[.int .u8 t.k,.string t.t,.int .i64 t.a,.int .i64 t.l,.int .i64 t.c,.int .i64 t.f] 49)).alloc (.cells #[.int .u8 0,.int .u8 0,.int .u8 0,.int .u8 0,.int .u8 0,.int .u8 0,.string ⟨#[]⟩,.nilFunc,.nilFunc] 227)))
 case first=>
  rcases q1 with q1|⟨q1,q2⟩
  ·go_wp2_with fail
   go_meet
   exact ⟨rfl,rfl⟩
  ·go_wp2_with fail
   go_meet
   exact ⟨rfl,rfl⟩
 case rest=>
 obtain ⟨rfl,ac⟩:=hcut;obtain ⟨V,hV⟩:∃V,V=wc:=⟨wc,rfl⟩;subst hV;have al:(W.alloc (.cells #[.int .u8 n.k,.int .i64 n.b,.bool n.s] 216)).heap.size=W.heap.size+1:=by show (W.heap.push _).size=_;simp
 have an:((W.alloc (.cells #[.int .u8 n.k,.int .i64 n.b,.bool n.s] 216)).alloc (.cells #[.int .u8 t.k,.string t.t,.int .i64 t.a,.int .i64 t.l,.int .i64 t.c,.int .i64 t.f] 49)).heap.size=W.heap.size+1+1:=by show ((W.heap.push _).push _).size=_;simp
 have hN:V.heap[W.heap.size]?=some (.cells #[.int .u8 n.k,.int .i64 n.b,.bool n.s] 216 (0,0)):=by rw [ac];exact aD (aD (aq _ _) _) _
 have ai:V.heap[W.heap.size+1]?=some (.cells #[.int .u8 t.k,.string t.t,.int .i64 t.a,.int .i64 t.l,.int .i64 t.c,.int .i64 t.f] 49 (0,0)):=by rw [ac,<-al];exact aD (aq _ _) _
 have aa:V.heap[W.heap.size+1+1]?=some (.cells #[.int .u8 0,.int .u8 0,.int .u8 0,.int .u8 0,.int .u8 0,.int .u8 0,.string ⟨#[]⟩,.nilFunc,.nilFunc] 227 (0,0)):=by rw [ac,<-an];exact aq _ _
 have Q:Below W.heap.size W V:=by rw [ac];exact (((hH _ _).alloc (gt _) _).alloc (by omega) _).alloc (by omega) _
 clear al an ac
 go_upto_if 14 with fail
 go_wp2_with (go_at_call 166;refine (O.out _).mono ?_;rintro e w1 ⟨rfl,bc⟩;have bf:=show Hid (Below V.heap.size V w1) from bc;clear bc)
 go_loopw [6,16] (fun _ i wr=>∃k:Nat,k<=40/\i=.int .i64 k/\Hid ((tab.take k).find? (fun r=>r.fits n t.t)=none)/\Hid (Below V.heap.size V wr)) (fun _ i _=>40-(intOf i).toNat)
 case atStart=>exact ⟨0,by omega,rfl,by show _=_;simp,bf.out⟩
 case round=>
  obtain ⟨k,bj,rfl,HI,HB⟩:=hrel
  by_cases ay:k<40
  ·have q3:(k:Int)<40:=by omega
   have q4:(0:Int)<=k:=by omega
   obtain ⟨x,hx⟩:∃x,tab[k]?=some x:=⟨_,Pi (by rw [zN];exact ay)⟩;obtain ⟨a,b,c,d,e,f,hsix⟩:=SH (zM x (T3 hx))
   have ak:x.v=.agg #[.int .u8 a,.int .u8 b,.int .u8 c,.int .u8 d,.int .u8 e,.int .u8 f,.string ⟨x.t.toArray⟩,.func (.func x.a.id) #[] #[],.func (.func x.b.id) #[] #[]]:=by
    have:x=⟨[a,b,c,d,e,f],x.t,x.a,x.b⟩:=by rw [<-hsix]
    rw [this];exact Md _ _ _ _ _ _ _ _ _
   have bd:(Instr.index 256 (Value.agg im.toArray) (.int .i64 (k:Nat))).run Tryz.prog wr=.ok (.agg #[.int .u8 a,.int .u8 b,.int .u8 c,.int .u8 d,.int .u8 e,.int .u8 f,.string ⟨x.t.toArray⟩,.func (.func x.a.id) #[] #[],.func (.func x.b.id) #[] #[]]) wr:=by
    rw [KP wr k ay,UR,hx,<-ak];rfl
   have Y:Hid (∀X,Ta 167 #[.agg #[.int .u8 a,.int .u8 b,.int .u8 c,.int .u8 d,.int .u8 e,.int .u8 f,.string ⟨x.t.toArray⟩,.func (.func x.a.id) #[] #[],.func (.func x.b.id) #[] #[]],.agg #[.int .u8 n.k,.int .i64 n.b,.bool n.s],.string t.t] X fun e w'=>e=.returned (.bool (x.fits n t.t))/\Below X.heap.size X w'):=Gu x hsix n t.t;obtain ⟨U,hU⟩:∃U,wr.alloc (.cells #[.int .u8 a,.int .u8 b,.int .u8 c,.int .u8 d,.int .u8 e,.int .u8 f,.string ⟨x.t.toArray⟩,.func (.func x.a.id) #[] #[],.func (.func x.b.id) #[] #[]] 227)=U:=⟨_,rfl⟩;have bb:Below wr.heap.size wr U:=by rw [<-hU];exact (hH _ _).alloc (gt _) _
   have H:U.heap[wr.heap.size]?=some (.cells #[.int .u8 a,.int .u8 b,.int .u8 c,.int .u8 d,.int .u8 e,.int .u8 f,.string ⟨x.t.toArray⟩,.func (.func x.a.id) #[] #[],.func (.func x.b.id) #[] #[]] 227 (0,0)):=by rw [<-hU];exact aq _ _
   have S:Below V.heap.size V U:=HB.out.trans (bb.mono HB.out.size);have Z:=ag hN S;have av:=ag ai S;have au:=ag aa S;have bi:=show Hid (wr.alloc (.cells #[.int .u8 a,.int .u8 b,.int .u8 c,.int .u8 d,.int .u8 e,.int .u8 f,.string ⟨x.t.toArray⟩,.func (.func x.a.id) #[] #[],.func (.func x.b.id) #[] #[]] 227)=U) from hU
   clear hU bb
   go_upto_region 5 with fail
   rw [bi.out];have l0:=af (k:=0) H rfl;have l1:=af (k:=1) H rfl;have l2:=af (k:=2) H rfl;have l3:=af (k:=3) H rfl;have l4:=af (k:=4) H rfl;have l5:=af (k:=5) H rfl;have l6:=af (k:=6) H rfl;have l7:=af (k:=7) H rfl;have l8:=af (k:=8) H rfl;have n0:=af (k:=0) Z rfl;have n1:=af (k:=1) Z rfl;have n2:=af (k:=2) Z rfl;have k1:=af (k:=1) av rfl;have ah:=show Hid (Below V.heap.size V U) from S
   by_cases I:x.fits n t.t=true
   ·have ab:aH n t=x:=by unfold aH;rw [IO hk,K7 _ tab k x hx HI.out I];rfl
    have ar:=show Hid ((aH n t).v=.agg #[.int .u8 a,.int .u8 b,.int .u8 c,.int .u8 d,.int .u8 e,.int .u8 f,.string ⟨x.t.toArray⟩,.func (.func x.a.id) #[] #[],.func (.func x.b.id) #[] #[]]) from (by rw [ab];exact ak)
    rw [I] at Y;have be:=show Hid (U.heap[wr.heap.size]?=some (.cells #[.int .u8 a,.int .u8 b,.int .u8 c,.int .u8 d,.int .u8 e,.int .u8 f,.string ⟨x.t.toArray⟩,.func (.func x.a.id) #[] #[],.func (.func x.b.id) #[] #[]] 227 (0,0))/\U.heap[W.heap.size+1+1]?=some (.cells #[.int .u8 0,.int .u8 0,.int .u8 0,.int .u8 0,.int .u8 0,.int .u8 0,.string ⟨#[]⟩,.nilFunc,.nilFunc] 227 (0,0))) from ⟨H,au⟩
    have ap:=show Hid (Below W.heap.size W V/\W.heap.size<=W.heap.size+1+1) from ⟨Q,by omega⟩
    clear ak hsix bd H S Z av au hN ai aa Q ab hx HI I O
    go_upto_region 6 with (go_at_call 167;refine (Y.out _).mono ?_;rintro e9 w9 ⟨rfl,J⟩)
    obtain ⟨az,ba⟩:=be.out;have G:=ag az J;have C:=ag ba J;have ae:=show Hid (w9.heap[W.heap.size+1+1]?=some (.cells #[.int .u8 0,.int .u8 0,.int .u8 0,.int .u8 0,.int .u8 0,.int .u8 0,.string ⟨#[]⟩,.nilFunc,.nilFunc] 227 (0,0))/\Below W.heap.size W w9) from ⟨C,ap.out.1.trans ((ah.out.trans (J.mono ah.out.size)).mono ap.out.1.size)⟩
    have p0:=af (k:=0) G rfl;have p1:=af (k:=1) G rfl;have p2:=af (k:=2) G rfl;have p3:=af (k:=3) G rfl;have p4:=af (k:=4) G rfl;have p5:=af (k:=5) G rfl;have p6:=af (k:=6) G rfl;have p7:=af (k:=7) G rfl;have p8:=af (k:=8) G rfl;have s0:=af (k:=0) C rfl;have s1:=af (k:=1) C rfl;have s2:=af (k:=2) C rfl;have s3:=af (k:=3) C rfl;have s4:=af (k:=4) C rfl;have s5:=af (k:=5) C rfl;have s6:=af (k:=6) C rfl;have s7:=af (k:=7) C rfl;have s8:=af (k:=8) C rfl;have f0:=fun j=>am (k:=j) C
    clear az ba G C J l0 l1 l2 l3 l4 l5 l6 l7 l8 n0 n1 n2 k1 Y
    go_wp2_with fail
    obtain ⟨C,aw⟩:=ae.out;have h9:=aj (aj (aj (aj (aj (aj (aj (aj (aj C 0 (.int .u8 a)) 1 (.int .u8 b)) 2 (.int .u8 c)) 3 (.int .u8 d)) 4 (.int .u8 e)) 5 (.int .u8 f)) 6 (.string ⟨x.t.toArray⟩)) 7 (.func (.func x.a.id) #[] #[])) 8 (.func (.func x.b.id) #[] #[]);have h9:=h9.trans (show _=some (Obj.cells #[.int .u8 a,.int .u8 b,.int .u8 c,.int .u8 d,.int .u8 e,.int .u8 f,.string ⟨x.t.toArray⟩,.func (.func x.a.id) #[] #[],.func (.func x.b.id) #[] #[]] 227 (0,0)) by kernel_rfl);have ax:=Wu (P:=Tryz.prog) _ (W.heap.size+1+1) 227 227 _ (0,0) _ h9 WE (by first|rfl|kernel_rfl) (by first|rfl|kernel_rfl);refine Ti (v:=.agg #[.int .u8 a,.int .u8 b,.int .u8 c,.int .u8 d,.int .u8 e,.int .u8 f,.string ⟨x.t.toArray⟩,.func (.func x.a.id) #[] #[],.func (.func x.b.id) #[] #[]]) (fS (a:=4) (t:=227) (ad:=⟨W.heap.size+1+1,0,none⟩) (by kernel_rfl) (by rfl) ax) rfl ?_;refine ⟨by rw [ar.out],?_⟩;have F:=ap.out.2;exact ((((((((aw.setCell (p:=⟨W.heap.size+1+1,0,none⟩) F _).setCell (p:=⟨W.heap.size+1+1,1,none⟩) F _).setCell (p:=⟨W.heap.size+1+1,2,none⟩) F _).setCell (p:=⟨W.heap.size+1+1,3,none⟩) F _).setCell (p:=⟨W.heap.size+1+1,4,none⟩) F _).setCell (p:=⟨W.heap.size+1+1,5,none⟩) F _).setCell (p:=⟨W.heap.size+1+1,6,none⟩) F _).setCell (p:=⟨W.heap.size+1+1,7,none⟩) F _).setCell (p:=⟨W.heap.size+1+1,8,none⟩) F _
   ·have M:x.fits n t.t=false:=by simpa using I
    have bh:=show Hid ((tab.take (k+1)).find? (fun r=>r.fits n t.t)=none) from Da _ tab k x hx HI.out M
    rw [M] at Y;clear ak hsix bd H S Z av au hN ai aa Q hx HI I M O
    go_wp2_with (go_at_call 167;refine (Y.out _).mono ?_;rintro e9 w9 ⟨rfl,J⟩;have bg:=show Hid (Below V.heap.size V w9) from ah.out.trans (J.mono ah.out.size);clear J)
    exact ⟨⟨k+1,ay,by go_num,bh,bg⟩,by simp [intOf];omega⟩
  ·obtain rfl:k=40:=by omega
   have ab:aH n t=Nl:=by
    unfold aH;rw [IO hk];have:=HI.out;rw [TZ (by rw [zN];omega)] at this;rw [this];rfl
   have ar:=show Hid ((aH n t).v=.agg #[.int .u8 0,.int .u8 0,.int .u8 0,.int .u8 0,.int .u8 0,.int .u8 0,.string ⟨#[]⟩,.func (.func 168) #[] #[],.func (.func 168) #[] #[]]) from (by rw [ab];rfl)
   have C:=ag aa HB.out;have ae:=show Hid (wr.heap[W.heap.size+1+1]?=some (.cells #[.int .u8 0,.int .u8 0,.int .u8 0,.int .u8 0,.int .u8 0,.int .u8 0,.string ⟨#[]⟩,.nilFunc,.nilFunc] 227 (0,0))/\Below W.heap.size W wr) from ⟨C,Q.trans (HB.out.mono Q.size)⟩
   have s0:=af (k:=0) C rfl;have s1:=af (k:=1) C rfl;have s2:=af (k:=2) C rfl;have s3:=af (k:=3) C rfl;have s4:=af (k:=4) C rfl;have s5:=af (k:=5) C rfl;have s6:=af (k:=6) C rfl;have s7:=af (k:=7) C rfl;have s8:=af (k:=8) C rfl;have f0:=fun j=>am (k:=j) C
   clear C ab hN ai aa Q O HI
   go_wp2_with fail
   obtain ⟨C,aw⟩:=ae.out;have h9:=aj (aj (aj (aj (aj (aj (aj (aj (aj C 0 (.int .u8 0)) 1 (.int .u8 0)) 2 (.int .u8 0)) 3 (.int .u8 0)) 4 (.int .u8 0)) 5 (.int .u8 0)) 6 (.string ⟨#[]⟩)) 7 (.func (.func 168) #[] #[])) 8 (.func (.func 168) #[] #[]);have h9:=h9.trans (show _=some (Obj.cells #[.int .u8 0,.int .u8 0,.int .u8 0,.int .u8 0,.int .u8 0,.int .u8 0,.string ⟨#[]⟩,.func (.func 168) #[] #[],.func (.func 168) #[] #[]] 227 (0,0)) by kernel_rfl);have ax:=Wu (P:=Tryz.prog) _ (W.heap.size+1+1) 227 227 _ (0,0) _ h9 WE (by first|rfl|kernel_rfl) (by first|rfl|kernel_rfl);refine Ti (v:=.agg #[.int .u8 0,.int .u8 0,.int .u8 0,.int .u8 0,.int .u8 0,.int .u8 0,.string ⟨#[]⟩,.func (.func 168) #[] #[],.func (.func 168) #[] #[]]) (fS (a:=4) (t:=227) (ad:=⟨W.heap.size+1+1,0,none⟩) (by kernel_rfl) (by rfl) ax) rfl ?_;refine ⟨by rw [ar.out],?_⟩;have F:W.heap.size<=W.heap.size+1+1:=by omega
   exact ((((((((aw.setCell (p:=⟨W.heap.size+1+1,0,none⟩) F _).setCell (p:=⟨W.heap.size+1+1,1,none⟩) F _).setCell (p:=⟨W.heap.size+1+1,2,none⟩) F _).setCell (p:=⟨W.heap.size+1+1,3,none⟩) F _).setCell (p:=⟨W.heap.size+1+1,4,none⟩) F _).setCell (p:=⟨W.heap.size+1+1,5,none⟩) F _).setCell (p:=⟨W.heap.size+1+1,6,none⟩) F _).setCell (p:=⟨W.heap.size+1+1,7,none⟩) F _).setCell (p:=⟨W.heap.size+1+1,8,none⟩) F _
theorem Cb (n:Nd) (t:Tv) (W:World) :
  Ta 130 #[.agg #[.int .u8 n.k,.int .i64 n.b,.bool n.s],.agg #[.int .u8 t.k,.string t.t,.int .i64 t.a,.int .i64 t.l,.int .i64 t.c,.int .i64 t.f]] W fun e w'=>e=.returned (aH n t).v/\Below W.heap.size W w':=by
 by_cases H:t.k=2\/t.k=6
 ·exact Ca n t W H
 ·have I:aH n t=Nl:=by unfold aH;rw [Eq H]
  have S:=show Hid ((aH n t).v=.agg #[.int .u8 0,.int .u8 0,.int .u8 0,.int .u8 0,.int .u8 0,.int .u8 0,.string ⟨#[]⟩,.func (.func 168) #[] #[],.func (.func 168) #[] #[]]) from (by rw [I];rfl)
  have Y:(t.k == 2)=false:=by simp;exact fun h=>H (.inl h)
  have Z:(t.k == 6)=false:=by simp;exact fun h=>H (.inr h)
  obtain ⟨U,J⟩:∃U,(W.alloc (.cells #[.int .u8 n.k,.int .i64 n.b,.bool n.s] 216)).alloc (.cells #[.int .u8 t.k,.string t.t,.int .i64 t.a,.int .i64 t.l,.int .i64 t.c,.int .i64 t.f] 49)=U:=⟨_,rfl⟩;have hsz:U.heap.size=W.heap.size+1+1:=by rw [<-J];show ((W.heap.push _).push _).size=_;simp
  have F:Below W.heap.size W U:=by rw [<-J];exact ((hH _ _).alloc (gt _) _).alloc (by show _<=(W.heap.push _).size;simp) _
  have M:=aq U (.cells #[.int .u8 0,.int .u8 0,.int .u8 0,.int .u8 0,.int .u8 0,.int .u8 0,.string ⟨#[]⟩,.func (.func 168) #[] #[],.func (.func 168) #[] #[]] 227);rw [hsz] at M;have G:=Wu (P:=Tryz.prog) _ (W.heap.size+1+1) 227 227 _ (0,0) _ M WE (by first|rfl|kernel_rfl) (by first|rfl|kernel_rfl);have C:Below W.heap.size W (U.alloc (.cells #[.int .u8 0,.int .u8 0,.int .u8 0,.int .u8 0,.int .u8 0,.int .u8 0,.string ⟨#[]⟩,.func (.func 168) #[] #[],.func (.func 168) #[] #[]] 227)):=F.alloc F.size _;rw [<-J] at G C;have Q:=ai G;have O:=ai C;clear G C M hsz F J I H
  go_enter Tryz.func130,Tryz.ntmps130
  go_wp2_with fail
  refine Ti (v:=.agg #[.int .u8 0,.int .u8 0,.int .u8 0,.int .u8 0,.int .u8 0,.int .u8 0,.string ⟨#[]⟩,.func (.func 168) #[] #[],.func (.func 168) #[] #[]]) (fS (a:=4) (t:=227) (ad:=⟨W.heap.size+1+1,0,none⟩) (by kernel_rfl) (by rfl) Q.out) rfl ?_;exact ⟨by rw [S.out],O.out⟩
end Go.Proofs.YtcjiapphbpiffaaGreatDoor
