import Derived.Test.YtpdlohfdjiaegaaGreatDoorR29
set_option linter.unusedVariables false
set_option linter.unusedSimpArgs false
set_option maxHeartbeats 2000000
namespace Go.Proofs.YtpdlohfdjiaegaaGreatDoor
open Go.RowKit
open Lw (Dc bE rt frm dep rtT rtN dcs au aH)
variable {st s:Sy}{W W1:World}{g B:Nat}{n:Nd}{r:List Nd}
theorem Mw.below {S:Nat->Prop}{W2:World}(h:Mw S g W W1 st) (hb:Below W1.heap.size W1 W2):Mw S g W W2 st:=by
 obtain ⟨S1,t1,u1⟩:=Mw.seq h;exact u1 _ _ ⟨⟨S1,t1.below hb,fun _ h=>.inl h⟩,Kp.of_below hb⟩
def ei (st:Sy) (n:Nd) (r:List Nd) (j:Nat):Sy:={ st with ns:=⟨n.k,n.b-j,n.s⟩ :: r,ws:=st.ws++List.replicate j dX }
theorem qt (e:st.ns=n :: r):ei st n r 0=st:=by
 unfold ei;rw [List.replicate_zero,AQ,DT,<-e]
theorem qu {j:Nat}(hj:j<n.b):(ei st n r j).aw .X=ei st n r (j+1):=by
 unfold Sy.aw ei
 have h1:awN .X ((⟨n.k,n.b-j,n.s⟩:Nd) :: r)=⟨n.k,n.b-(j+1),n.s⟩ :: r:=by
  simp only [awN];rw [zw trivial];show (⟨n.k,n.b-j-1,n.s⟩:Nd) :: r=_;rw [Nat.sub_sub]
 have h2:awW .X ((⟨n.k,n.b-j,n.s⟩:Nd) :: r)=[dX]:=by
  unfold awW;rw [zu (by simp;omega)];rfl
 show ({ st with ns:=awN .X ((⟨n.k,n.b-j,n.s⟩:Nd) :: r),ws:=(st.ws++List.replicate j dX)++awW .X ((⟨n.k,n.b-j,n.s⟩:Nd) :: r) }:Sy)=_
 rw [h1,h2,zJ,CT]
theorem oE {m:Nat}(e:st.ns=n :: r) (h:Bz m st) (j:Nat) (hj:j<=n.b):Bz (2*m) (ei st n r j):=by
 obtain ⟨h1,h2,h3⟩:=h;rw [e] at h2 h3;have hm:=h3 n zV;refine ⟨?_,?_,?_⟩
 ·show (st.ws++List.replicate j dX).length<=_
  rw [zq,Bl];omega
 ·show ((⟨n.k,n.b-j,n.s⟩:Nd) :: r).length<=_
  simp at h2 ⊢;omega
 ·intro x hx
  rcases zK.1 (show x∈(⟨n.k,n.b-j,n.s⟩:Nd) :: r from hx) with rfl|hx
  ·show n.b-j<=_;omega
  ·have:=h3 x (zX _ hx);omega
theorem SS.pop {S:Nat->Prop}(h:SS S W g st) {b cap:Nat}{n:Nd}{r:List Nd}(e:st.ns=n :: r) (hc:W.cell? ⟨g,1,none⟩=some (.slice (some ⟨b,0,none⟩) (r.length+1) cap)) :
  W.frozen? ⟨g,1,none⟩=false/\r.length+1<=cap/\Mw S g W (W.setCell ⟨g,1,none⟩ (.slice (some ⟨b,0,none⟩) r.length cap)) { st with ns:=r }:=by
 obtain ⟨vn,vw,hv,s1,s2⟩:=h.ex;have e1:vn=.slice (some ⟨b,0,none⟩) (r.length+1) cap:=by have:=hv.sb.cells.2.1;rw [hc] at this;exact (zT this).symm
 subst e1;have hn:Rn tN W (.slice (some ⟨b,0,none⟩) (r.length+1) cap) (n :: r):=by rw [<-e];exact hv.rn
 have hp:=mG hn;obtain ⟨_,_,e2,_,hcc⟩:=ea hn;cases e2;refine ⟨hv.sb.frozen 1,hcc,Mw.mk' (vn:=.slice (some ⟨b,0,none⟩) r.length cap) (vw:=vw) ⟨af hv.sb 1 _,(Kp.set _ _ _ _).row hp (fun k e1 e2=>ay hp hv.sb (by decide) (by rw [e1,e2])),(Kp.set _ _ _ _).row hv.rd (fun k e1 e2=>ay hv.rd hv.sb (by decide) (by rw [e1,e2]))⟩ h.sg (fun k e=>.inl (s1 k e)) (fun k e=>.inl (s2 k e)) ((Kp.set _ _ _ _).sub (fun k e=>by rw [e];exact h.sg))⟩
theorem qa {S:Nat->Prop}(h:SS S W g st) (hz:Bz 400000000 st) {n:Nd}{r:List Nd}(e:st.ns=n :: r) :
  Aa 36 #[spg g] W fun rr w'=>rr=.returned (.tuple #[])/\Mw S g W w' st.leaves:=by
 obtain ⟨b,cap,hc,_⟩:=h.nodes e;have hr9:r.length<=900000000:=by have:=hz.2.1;rw [e] at this;simp at this;omega
 have hb9:n.b<=400000000:=hz.2.2 n (by rw [e];exact zV);have HI:Hid (Aa 62 #[spg g] W fun rr w'=>rr=.returned (.pointer (some ⟨b,r.length*3,none⟩))/\Ab W w'):=cY hc (by omega)
 have HE:Hid (∀j V,j<n.b->Mv S g W V (ei st n r j)->Aa 68 #[spg g] V fun rr w'=>rr=.returned (.tuple #[])/\Mv S g W w' (ei st n r (j+1))):=fun j V hj hV=>by
  obtain ⟨S1,t1,u1⟩:=Mv.seq hV;refine (ia t1 (by show (_ :: _:List Nd)≠[];simp) ((oE e hz j (by omega)).mono (by omega))).mono ?_;rintro rr w' ⟨rfl,m⟩;rw [qu hj] at m;exact ⟨rfl,u1 _ _ m⟩
 have HH:Hid (∀V,Mv S g W V (ei st n r n.b)->Aa 69 #[spg g] V fun rr w'=>rr=.returned (.tuple #[])/\Mv S g W w' ((ei st n r n.b).aw .H)):=fun V hV=>by
  obtain ⟨S1,t1,u1⟩:=Mv.seq hV;refine (iT t1 (by show (_ :: _:List Nd)≠[];simp) ((oE e hz n.b (eq _)).mono (by omega))).mono ?_;rintro rr w' ⟨rfl,m⟩;exact ⟨rfl,u1 _ _ m⟩
 have HC:Hid (∀j V,Mv S g W V (ei st n r j)->V.cell? ⟨b,r.length*3+1,none⟩=some (.int .i64 ((n.b-j:Nat):Int))/\V.cell? ⟨b,r.length*3,none⟩=some (.int .u8 n.k)):=fun j V hV=>by
  obtain ⟨S1,t1,u1⟩:=Mv.seq hV;obtain ⟨a0,a1,a2⟩:=t1.cells2 (n:=⟨n.k,n.b-j,n.s⟩) (r:=r) rfl (hV.2.2.trans hc);exact ⟨a1,a0⟩
 have HF:Hid (∀V st',Mv S g W V st'->(∃n',st'.ns=n' :: r)->V.cell? ⟨g,1,none⟩=some (.slice (some ⟨b,0,none⟩) (r.length+1) cap)/\V.frozen? ⟨g,1,none⟩=false/\r.length+1<=cap/\Mw S g W (V.setCell ⟨g,1,none⟩ (.slice (some ⟨b,0,none⟩) r.length cap)) { st' with ns:=r }):=fun V st' hV ⟨n',en⟩=>by
  obtain ⟨S1,t1,u1⟩:=Mw.seq hV.w;have hc1:=hV.2.2.trans hc;obtain ⟨a1,a2,a3⟩:=t1.pop en hc1;exact ⟨hc1,a1,a2,u1 _ _ a3⟩
 have HL1:Hid (n.k=1->({ ((ei st n r n.b).aw .H) with ns:=r }:Sy)=st.leaves):=fun h1=>by
  unfold Sy.leaves;rw [e];simp only;rw [zw h1];rfl
 have HL2:Hid (n.k≠1->({ (ei st n r n.b) with ns:=r }:Sy)=st.leaves):=fun h1=>by
  unfold Sy.leaves;rw [e];simp only;rw [zu h1,AQ];rfl
 have HS:Hid (∀V,Ab W V->Mv S g W V (ei st n r 0)):=fun V hb=>by rw [qt e];exact Mv.quiet h hb
 clear h hz e hc;have q3:IntKind.i64.wrap (r.length:Int)=r.length:=by rw [zF];omega
 go_enter Tryz.func36,Tryz.ntmps36
 go_wp2_with (go_at_call 62;refine HI.out.mono ?_;rintro r1 w1 ⟨rfl,hb1⟩;have HB:=show Hid (Below W.heap.size W w1) from hb1;clear hb1)
 go_loopw [] (fun wr=>∃j:Nat,j<=n.b/\Hid (Mv S g W wr (ei st n r j))) (fun wr=>match wr.cell? ⟨b,r.length*3+1,none⟩ with|some v=>(intOf v).toNat|none=>0)
 case atStart=>exact ⟨0,zx _,HS.out _ HB.out⟩
 case round=>
  obtain ⟨j,hj,HJ⟩:=hrel;obtain ⟨x1,x0⟩:=HC.out j _ HJ.out
  by_cases hlt:j<n.b
  ·have q1:(0:Int)<((n.b-j:Nat):Int):=by omega
   go_wp2_with (go_at_call 68;refine (HE.out j _ hlt HJ.out).mono ?_;rintro r2 w2 ⟨rfl,m2⟩;have HM:=show Hid (Mv S g W w2 (ei st n r (j+1))) from m2;clear m2)
   refine ⟨⟨j+1,hlt,HM⟩,?_⟩;rw [(HC.out (j+1) _ HM.out).1,x1];simp [intOf];omega
  ·obtain rfl:j=n.b:=by omega
   have x2:wr.cell? ⟨b,r.length*3+1,none⟩=some (.int .i64 0):=by rw [x1];simp
   clear x1
   by_cases h1:n.k=1
   ·have q2:(n.k == 1)=true:=by simpa using h1
    have HL:=show Hid (({ ((ei st n r n.b).aw .H) with ns:=r }:Sy)=st.leaves) from HL1.out h1
    clear HL1 HL2 h1 hlt;have y6:(0:Int)<=(r.length:Int):=by omega
    go_upto_region 5 with (go_at_call 69;refine (HH.out _ HJ.out).mono ?_;rintro r2 w2 ⟨rfl,m2⟩;obtain ⟨y1,y2,y3,y4⟩:=HF.out _ _ m2 ⟨_,rfl⟩;rw [HL.out] at y4;have HY:=show Hid (Mw S g W (w2.setCell ⟨g,1,none⟩ (.slice (some ⟨b,0,none⟩) r.length cap)).drew st.leaves) from y4.below ((gt _ _).drew);clear y4 m2)
    have y5:(r.length:Int)<=(cap:Int):=by omega
    go_region_law (fail)
    all_goals (
     go_wp2_with fail
     go_end0
     exact ⟨rfl,HY.out⟩)
   ·have q2:(n.k == 1)=false:=by simpa using h1
    have HL:=show Hid (({ (ei st n r n.b) with ns:=r }:Sy)=st.leaves) from HL2.out h1
    obtain ⟨y1,y2,y3,y4⟩:=HF.out _ _ HJ.out ⟨_,rfl⟩;rw [HL.out] at y4;have HY:=show Hid (Mw S g W (wr.setCell ⟨g,1,none⟩ (.slice (some ⟨b,0,none⟩) r.length cap)).drew st.leaves) from y4.below ((gt _ _).drew)
    clear y4 HL1 HL2 h1 hlt HL;have y5:(r.length:Int)<=(cap:Int):=by omega
    have y6:(0:Int)<=(r.length:Int):=by omega
    go_wp2_with fail
    go_region_law (fail)
    all_goals (
     go_wp2_with fail
     go_end0
     exact ⟨rfl,HY.out⟩)
def Eb (W:World) (E:Nat) (e:Ev):Prop:=W.heap[E]?=some (.cells #[.int .u8 e.k,.int .u8 e.n,.int .u8 e.d.k,.string e.d.t,.int .i64 e.d.a,.int .i64 e.d.l,.int .i64 e.d.c,.int .i64 e.d.f] 39 (0,0))
theorem Eb.cells {W:World}{E:Nat}{e:Ev}(h:Eb W E e):W.cell? ⟨E,0,none⟩=some (.int .u8 e.k)/\W.cell? ⟨E,1,none⟩=some (.int .u8 e.n)/\W.cell? ⟨E,2,none⟩=some (.int .u8 e.d.k)/\W.cell? ⟨E,3,none⟩=some (.string e.d.t)/\W.cell? ⟨E,4,none⟩=some (.int .i64 e.d.a)/\W.cell? ⟨E,5,none⟩=some (.int .i64 e.d.l)/\W.cell? ⟨E,6,none⟩=some (.int .i64 e.d.c)/\W.cell? ⟨E,7,none⟩=some (.int .i64 e.d.f):=
 ⟨aa h rfl,aa h rfl,aa h rfl,aa h rfl,aa h rfl,aa h rfl,aa h rfl,aa h rfl⟩
theorem oZ {S:Nat->Prop}(h:SS S W g st) (hz:st.ns.length<=900000000) (e:Ev) (ht:e.d.t.size<=9223372036854775807) :
  Aa 34 #[spg g,.agg #[.int .u8 e.k,.int .u8 e.n,.int .u8 e.d.k,.string e.d.t,.int .i64 e.d.a,.int .i64 e.d.l,.int .i64 e.d.c,.int .i64 e.d.f]] W fun rr w'=>rr=.returned (.bool (st.may e))/\Below W.heap.size W w':=by
 obtain ⟨V,hV⟩:∃V,W.alloc (.cells #[.int .u8 e.k,.int .u8 e.n,.int .u8 e.d.k,.string e.d.t,.int .i64 e.d.a,.int .i64 e.d.l,.int .i64 e.d.c,.int .i64 e.d.f] 39)=V:=⟨_,rfl⟩;have hB:Below W.heap.size W V:=by rw [<-hV];exact (gt _ _).alloc (eq _) _
 have hE:Eb V W.heap.size e:=by rw [<-hV];exact ag _ _
 have HV:Hid (W.alloc (.cells #[.int .u8 e.k,.int .u8 e.n,.int .u8 e.d.k,.string e.d.t,.int .i64 e.d.a,.int .i64 e.d.l,.int .i64 e.d.c,.int .i64 e.d.f] 39)=V):=hV;have hs:=h.below hB;obtain ⟨m0,m1,m2,m3,m4,m5,m6,m7⟩:=hE.cells;have HF:Hid (∀X,Ab V X->Ab W X):=fun X hX=>hB.trans (hX.mono hB.size)
 have HD:Hid (∀m,Ab W (V.drewN m)):=fun m=>bG hB m
 have HT:Hid (∀X,Aa 63 #[.string e.d.t] X fun r w'=>r=.returned (.bool (rtT e.d.t))/\w'=X):=o7 e.d.t ht;have HC:Hid (∀X,Aa 64 #[.agg #[.int .u8 e.d.k,.string e.d.t,.int .i64 e.d.a,.int .i64 e.d.l,.int .i64 e.d.c,.int .i64 e.d.f]] X fun r w'=>r=.returned (.bool (decide (e.d.k=7\/e.d.k=8)))/\Ab X w'):=sI e.d;have HB0:Hid (Ab W V):=hB;cases hn:st.ns with
 |nil=>
  have hc1:∃p c,V.cell? ⟨g,1,none⟩=some (.slice p 0 c):=by
   obtain ⟨vn,vw,hv,_⟩:=hs.ex;obtain ⟨p,c,ee,_⟩:=av hv.rn;rw [hn] at ee;exact ⟨p,c,by rw [<-show vn=.slice p 0 c from ee];exact hv.sb.cells.2.1⟩
  obtain ⟨p,c,c1⟩:=hc1
  have HM:Hid (st.may e=(if e.k=1 then decide (1<=e.n) && decide (e.n<=32) else false)):=by
   show _=_
   unfold Sy.may;rw [hn]
   by_cases a1:e.k=1 <;> by_cases a2:e.k=3 <;> by_cases a3:e.k=2 <;> by_cases a4:e.k=4 <;> simp [a1,a2,a3,a4]
  clear h hs hB hE hn hV hz
  by_cases a1:e.k=1
  ·have q1:(e.k == 1)=true:=by simpa using a1
   have HM2:Hid (st.may e=(decide (1<=e.n) && decide (e.n<=32))):=by rw [HM.out,zw a1];exact rfl
   clear HM a1
   go_enter Bt,Ba
   go_upto_region 1 with fail
   rw [HV.out]
   go_wp2_with fail
   all_goals (go_ret;rw [HM2.out];refine ⟨?_,HB0.out⟩;simp_all <;> omega)
  ·have HM2:Hid (st.may e=false):=by rw [HM.out,zu a1];exact rfl
   have q1:(e.k == 1)=false:=by simpa using a1
   clear HM a1
   by_cases a2:e.k=3
   ·have q2:(e.k == 3)=true:=by simpa using a2
    clear a2
    go_enter Bt,Ba
    go_upto_region 1 with fail
    rw [HV.out]
    go_wp2_with fail
    go_quiet (fail)
    go_wp2_with fail
    go_ret
    rw [HM2.out];exact ⟨rfl,HD.out _⟩
   ·have q2:(e.k == 3)=false:=by simpa using a2
    by_cases a3:e.k=2
    ·have q3:(e.k == 2)=true:=by simpa using a3
     clear a2 a3
     go_enter Bt,Ba
     go_upto_region 1 with fail
     rw [HV.out]
     go_wp2_with fail
     go_ret
     rw [HM2.out];exact ⟨rfl,HB0.out⟩
    ·have q3:(e.k == 2)=false:=by simpa using a3
     by_cases a4:e.k=4
     ·have q4:(e.k == 4)=true:=by simpa using a4
      clear a2 a3 a4
      go_enter Bt,Ba
      go_upto_region 1 with fail
      rw [HV.out]
      go_wp2_with fail
      go_ret
      rw [HM2.out];exact ⟨rfl,HB0.out⟩
     ·have q4:(e.k == 4)=false:=by simpa using a4
      clear a2 a3 a4
      go_enter Bt,Ba
      go_upto_region 1 with fail
      rw [HV.out]
      go_wp2_with fail
      go_ret
      rw [HM2.out];exact ⟨rfl,HB0.out⟩
 |cons n r=>
  obtain ⟨b,cap,hc,y0,y1,y2,y3⟩:=hs.nodes hn;have HI:Hid (∀X,Ab V X->Aa 62 #[spg g] X fun rr w'=>rr=.returned (.pointer (some ⟨b,r.length*3,none⟩))/\Ab X w'):=fun X hX=>cY (aR hc hX) (by rw [hn] at hz;simp at hz;omega)
  have q0:(0:Int)<(r.length:Int)+1:=by omega
  have HM:Hid (st.may e=(if e.k=1 then decide (1<=e.n) && decide (e.n<=32) else if e.k=3 then decide (n.k=e.n) else if e.k=2 then rtT e.d.t else if e.k=4 then (rtT e.d.t && decide (e.d.k=7\/e.d.k=8)) else false)):=by
   show _=_
   unfold Sy.may;rw [hn]
   by_cases a1:e.k=1 <;> by_cases a2:e.k=3 <;> by_cases a3:e.k=2 <;> by_cases a4:e.k=4 <;> simp [a1,a2,a3,a4]
  clear h hs hB hE hn hV hz y3
  by_cases a1:e.k=1
  ·have q1:(e.k == 1)=true:=by simpa using a1
   have HM2:Hid (st.may e=(decide (1<=e.n) && decide (e.n<=32))):=by rw [HM.out,zw a1];exact rfl
   clear HM a1
   go_enter Bt,Ba
   go_upto_region 1 with fail
   rw [HV.out]
   go_wp2_with fail
   all_goals (go_ret;rw [HM2.out];refine ⟨?_,HB0.out⟩;simp_all <;> omega)
  ·rw [zu a1] at HM;have q1:(e.k == 1)=false:=by simpa using a1
   clear a1
   by_cases a2:e.k=3
   ·rw [zw a2] at HM;have q2:(e.k == 3)=true:=by simpa using a2
    clear a2;have HM2:Hid (st.may e=(n.k == e.n)):=by rw [HM.out];show _=_;by_cases a:n.k=e.n <;> simp [a]
    have hc1:∀x:HW (SG V),x.W.cell? ⟨W.heap.size,1,none⟩=some (.int .u8 e.n):=fun x=>aR m1 x.h
    have hc0:∀x:HW (SG V),x.W.cell? ⟨b,r.length*3,none⟩=some (.int .u8 n.k):=fun x=>aR y0 x.h
    have hne:Nonempty (HW (SG V)):=⟨⟨V.drew,(gt _ _).drew⟩⟩;have hex:∀x:HW (SG V),∃y:HW (SG V),x.W=y.W:=fun x=>⟨x,rfl⟩
    have KT:Hid (∀x:HW (SG V),Aa 62 #[spg g] x.W fun rr w'=>rr=.returned (.pointer (some ⟨b,r.length*3,none⟩))/\Below x.W.heap.size x.W w'):=fun x=>HI.out x.W x.h
    go_enter Bt,Ba
    go_upto_region 1 with fail
    rw [HV.out]
    go_upto_region 6 with fail
    refine bF (S:=SG V) (by kernel_rfl) (by kernel_rfl) (gt _ _).drew ?_
    repeat (go_big_quiet_step ((go_at_call 62;exact Calls.quiet_in _ (KT.out _) (fun _ _=>SG.keep))))
    refine wpQuiet_nil ?_;rintro w5 ⟨⟨W5,hS5⟩,rfl⟩;have HS5:Hid (Ab V w5):=hS5;clear hc0 hc1 hS5 hne hex
    go_wp2_with fail
    go_ret
    rw [HM2.out];exact ⟨rfl,HF.out _ HS5.out⟩
   ·rw [zu a2] at HM;have q2:(e.k == 3)=false:=by simpa using a2
    clear a2
    by_cases a3:e.k=2
    ·rw [zw a3] at HM;have q3:(e.k == 2)=true:=by simpa using a3
     clear a3
     go_enter Bt,Ba
     go_upto_region 1 with fail
     rw [HV.out]
     go_wp2_with (go_at_call 63;refine (HT.out _).mono ?_;rintro r2 w2 ⟨rfl,rfl⟩)
     go_ret
     rw [HM.out];exact ⟨rfl,HB0.out⟩
    ·rw [zu a3] at HM;have q3:(e.k == 2)=false:=by simpa using a3
     clear a3
     by_cases a4:e.k=4
     ·rw [zw a4] at HM;have q4:(e.k == 4)=true:=by simpa using a4
      clear a4
      generalize rtT e.d.t=bt at *
      generalize decide (e.d.k=7\/e.d.k=8)=bc at *
      cases bt
      ·go_enter Bt,Ba
       go_upto_region 1 with fail
       rw [HV.out]
       go_wp2_with (go_at_call 63;refine (HT.out _).mono ?_;rintro r2 w2 ⟨rfl,rfl⟩)
       go_ret
       rw [HM.out];exact ⟨rfl,HB0.out⟩
      ·go_enter Bt,Ba
       go_upto_region 1 with fail
       rw [HV.out]
       go_wp2_with (first|(go_at_call 63;refine (HT.out _).mono ?_;rintro r2 w2 ⟨rfl,rfl⟩)|(go_at_call 64;refine (HC.out _).mono ?_;rintro r3 w3 ⟨rfl,hb3⟩;have HB3:=show Hid (Below W.heap.size W w3) from HF.out _ hb3;clear hb3))
       go_ret
       rw [HM.out];exact ⟨rfl,HB3.out⟩
     ·rw [zu a4] at HM;have q4:(e.k == 4)=false:=by simpa using a4
      clear a4
      go_enter Bt,Ba
      go_upto_region 1 with fail
      rw [HV.out]
      go_wp2_with fail
      go_ret
      rw [HM.out];exact ⟨rfl,HB0.out⟩
theorem DS.bare {S:Nat->Prop}(h:DS S W g st) (hn:st.ns=[]):∃p c,W.cell? ⟨g,0,none⟩=some (.slice p 0 c):=by
 obtain ⟨vn,vw,hv,_⟩:=h.ex;obtain ⟨p,c,ee,_⟩:=av hv.rn;rw [hn] at ee;exact ⟨p,c,by rw [<-show vn=.slice p 0 c from ee];exact hv.sb.cells.1⟩
theorem DS.nodes {S:Nat->Prop}(h:DS S W g st) {n:Nd}{r:List Nd}(hn:st.ns=n :: r):∃b cap,W.cell? ⟨g,0,none⟩=some (.slice (some ⟨b,0,none⟩) (r.length+1) cap)/\W.cell? ⟨b,r.length*3,none⟩=some (.int .u8 n.k)/\W.cell? ⟨b,r.length*3+1,none⟩=some (.int .i64 n.b)/\W.cell? ⟨b,r.length*3+2,none⟩=some (.bool n.s)/\b<W.heap.size:=by
 obtain ⟨vn,vw,hv,_⟩:=h.ex;have h1:=hv.rn;rw [hn] at h1;obtain ⟨b,cap,rfl,_,_⟩:=ea h1;obtain ⟨x0,x1,x2⟩:=dM h1;exact ⟨b,cap,hv.sb.cells.1,x0,x1,x2,bS h1 b rfl⟩
theorem DS.glt {S:Nat->Prop}(h:DS S W g st):g<W.heap.size:=h.lt g h.sg
theorem vu {S:Nat->Prop}(h:DS S W g st) (hz:st.ns.length<=900000000) (e:Ev) (ht:e.d.t.size<=9223372036854775807) :
  Aa 41 #[spg g,.agg #[.int .u8 e.k,.int .u8 e.n,.int .u8 e.d.k,.string e.d.t,.int .i64 e.d.a,.int .i64 e.d.l,.int .i64 e.d.c,.int .i64 e.d.f]] W fun rr w'=>rr=.returned (.bool (st.may e))/\Below W.heap.size W w':=by
 obtain ⟨V,hV⟩:∃V,W.alloc (.cells #[.int .u8 e.k,.int .u8 e.n,.int .u8 e.d.k,.string e.d.t,.int .i64 e.d.a,.int .i64 e.d.l,.int .i64 e.d.c,.int .i64 e.d.f] 39)=V:=⟨_,rfl⟩;have hB:Below W.heap.size W V:=by rw [<-hV];exact (gt _ _).alloc (eq _) _
 have hE:Eb V W.heap.size e:=by rw [<-hV];exact ag _ _
 have HV:Hid (W.alloc (.cells #[.int .u8 e.k,.int .u8 e.n,.int .u8 e.d.k,.string e.d.t,.int .i64 e.d.a,.int .i64 e.d.l,.int .i64 e.d.c,.int .i64 e.d.f] 39)=V):=hV;have hs:=h.below hB;obtain ⟨m0,m1,m2,m3,m4,m5,m6,m7⟩:=hE.cells;have HF:Hid (∀X,Ab V X->Ab W X):=fun X hX=>hB.trans (hX.mono hB.size)
 have HC:Hid (∀X,Ab V X->X.cell? ⟨W.heap.size,0,none⟩=some (.int .u8 e.k)):=fun X hX=>(ab hE hX |> fun (hq:Eb X W.heap.size e)=>hq.cells.1)
 have HT:Hid (∀X,Aa 27 #[.agg #[.int .u8 1,.string e.d.t,.int .i64 0,.int .i64 0,.bool false]] X fun r w'=>r=.returned (.bool (rtT e.d.t))/\Ab X w'):=fun X=>(Lw.uL e.d.t 0 0 false ht X).mono (fun r w' ⟨h1,h2⟩=>⟨by rw [h1];simp,h2⟩)
 have HB0:Hid (Ab W V):=hB;have hgV:=hs.glt;cases hn:st.ns with
 |nil=>
  obtain ⟨p,c,c1⟩:=hs.bare hn
  have HM:Hid (st.may e=(if e.k=1 then decide (1<=e.n) && decide (e.n<=32) else false)):=by
   show _=_
   unfold Sy.may;rw [hn]
   by_cases a1:e.k=1 <;> by_cases a2:e.k=3 <;> by_cases a3:e.k=2 <;> by_cases a4:e.k=4 <;> simp [a1,a2,a3,a4]
  clear h hs hB hE hn hV hz
  by_cases a1:e.k=1
  ·have q1:(e.k == 1)=true:=by simpa using a1
   have HM2:Hid (st.may e=(decide (1<=e.n) && decide (e.n<=32))):=by rw [HM.out,zw a1];exact rfl
   clear HM a1
   go_enter BF,Br
   go_upto_region 1 with fail
   rw [HV.out]
   go_wp2_with fail
   all_goals (go_ret;rw [HM2.out];refine ⟨?_,HB0.out⟩;simp_all <;> omega)
  ·have HM2:Hid (st.may e=false):=by rw [HM.out,zu a1];exact rfl
   have q1:(e.k == 1)=false:=by simpa using a1
   clear HM a1
   by_cases a2:e.k=3
   ·have q2:(e.k == 3)=true:=by simpa using a2
    clear a2
    go_enter BF,Br
    go_upto_region 1 with fail
    rw [HV.out]
    go_wp2_with fail
    first|(go_quiet (fail);go_wp2_with fail)|skip
    go_ret
    rw [HM2.out];exact ⟨rfl,by first|exact HB0.out|exact bz HB0.out _⟩
   ·have q2:(e.k == 3)=false:=by simpa using a2
    by_cases a3:e.k=2
    ·have q3:(e.k == 2)=true:=by simpa using a3
     clear a2 a3
     go_enter BF,Br
     go_upto_region 1 with fail
     rw [HV.out]
     go_wp2_with fail
     all_goals (go_ret;rw [HM2.out];exact ⟨rfl,HB0.out⟩)
    ·have q3:(e.k == 2)=false:=by simpa using a3
     by_cases a4:e.k=4
     ·have q4:(e.k == 4)=true:=by simpa using a4
      clear a2 a3 a4
      go_enter BF,Br
      go_upto_region 1 with fail
      rw [HV.out]
      go_wp2_with fail
      all_goals (go_ret;rw [HM2.out];exact ⟨rfl,HB0.out⟩)
     ·have q4:(e.k == 4)=false:=by simpa using a4
      clear a2 a3 a4
      go_enter BF,Br
      go_upto_region 1 with fail
      rw [HV.out]
      go_wp2_with fail
      all_goals (go_ret;rw [HM2.out];exact ⟨rfl,HB0.out⟩)
 |cons n r=>
  obtain ⟨b,cap,c1,x0,x1,x2,hbl⟩:=hs.nodes hn;have hrl:r.length<=900000000:=by rw [hn] at hz;simp at hz;omega
  have q5:(0:Int)<=r.length:=by omega
  have q6:(r.length:Int)<(r.length:Int)+1:=by omega
  have HM:Hid (st.may e=(if e.k=1 then decide (1<=e.n) && decide (e.n<=32) else if e.k=3 then decide (n.k=e.n) else if e.k=2 then rtT e.d.t else if e.k=4 then (rtT e.d.t && decide (e.d.k=7\/e.d.k=8)) else false)):=by
   show _=_
   unfold Sy.may;rw [hn]
   by_cases a1:e.k=1 <;> by_cases a2:e.k=3 <;> by_cases a3:e.k=2 <;> by_cases a4:e.k=4 <;> simp [a1,a2,a3,a4]
  clear h hs hB hE hn hV hz
  by_cases a1:e.k=1
  ·have q1:(e.k == 1)=true:=by simpa using a1
   have HM2:Hid (st.may e=(decide (1<=e.n) && decide (e.n<=32))):=by rw [HM.out,zw a1];exact rfl
   clear HM a1
   go_enter BF,Br
   go_upto_region 1 with fail
   rw [HV.out]
   go_wp2_with fail
   all_goals (go_ret;rw [HM2.out];refine ⟨?_,HB0.out⟩;simp_all <;> omega)
  ·have q1:(e.k == 1)=false:=by simpa using a1
   by_cases a2:e.k=3
   ·have q2:(e.k == 3)=true:=by simpa using a2
    have HM2:Hid (st.may e=(n.k == e.n)):=by rw [HM.out,zu a1,zw a2];show _=_;by_cases h:n.k=e.n <;> simp [h]
    clear a1 a2 HM
    go_enter BF,Br
    go_upto_region 1 with fail
    rw [HV.out]
    go_wp2_with fail
    first|(go_quiet (fail);go_wp2_with fail)|skip
    go_ret
    rw [HM2.out];exact ⟨rfl,by first|exact HB0.out|exact bz HB0.out _⟩
   ·have q2:(e.k == 3)=false:=by simpa using a2
    by_cases a3:e.k=2
    ·have q3:(e.k == 2)=true:=by simpa using a3
     have HM2:Hid (st.may e=rtT e.d.t):=by rw [HM.out,zu a1,zu a2,zw a3];exact rfl
     obtain ⟨rT,hrT⟩:∃x,rtT e.d.t=x:=⟨_,rfl⟩;rw [hrT] at HM2 HT;clear a1 a2 a3 HM hrT;cases rT
     all_goals (
      go_enter BF,Br
      go_upto_region 1 with fail
      rw [HV.out]
      go_wp2_with (go_at_call 27;refine (HT.out _).mono ?_;rintro r1 w1 ⟨rfl,hb1⟩;have n0:=HC.out _ hb1;have HB1:Hid (Ab W w1):=HF.out _ hb1;clear hb1)
      all_goals (go_ret;rw [HM2.out];refine ⟨?_,by first|exact HB1.out|exact HB0.out⟩;first|rfl|simp_all))
    ·have q3:(e.k == 2)=false:=by simpa using a3
     by_cases a4:e.k=4
     ·have q4:(e.k == 4)=true:=by simpa using a4
      have HM2:Hid (st.may e=(rtT e.d.t && (e.d.k == 7 || e.d.k == 8))):=by
       rw [HM.out,zu a1,zu a2,zu a3,zw a4];show _=_
       by_cases h7:e.d.k=7 <;> by_cases h8:e.d.k=8 <;> simp [h7,h8]
      obtain ⟨rT,hrT⟩:∃x,rtT e.d.t=x:=⟨_,rfl⟩;rw [hrT] at HM2 HT;clear a1 a2 a3 a4 HM hrT;cases rT
      all_goals (
       go_enter BF,Br
       go_upto_region 1 with fail
       rw [HV.out]
       go_wp2_with (go_at_call 27;refine (HT.out _).mono ?_;rintro r1 w1 ⟨rfl,hb1⟩;have n0:=HC.out _ hb1;have HB1:Hid (Ab W w1):=HF.out _ hb1;clear hb1)
       all_goals (go_ret;rw [HM2.out];refine ⟨?_,by first|exact HB1.out|exact HB0.out⟩;first|rfl|simp_all))
     ·have q4:(e.k == 4)=false:=by simpa using a4
      have HM2:Hid (st.may e=false):=by rw [HM.out,zu a1,zu a2,zu a3,zu a4];exact rfl
      clear a1 a2 a3 a4 HM
      go_enter BF,Br
      go_upto_region 1 with fail
      rw [HV.out]
      go_wp2_with fail
      all_goals (go_ret;rw [HM2.out];exact ⟨rfl,HB0.out⟩)
theorem DM.seq {S:Nat->Prop}(h:DM S g W W1 st):∃S1,DS S1 W1 g st/\∀W2 st2,DM S1 g W1 W2 st2->DM S g W W2 st2:=by
 obtain ⟨⟨S1,s1,s2⟩,hk⟩:=h;refine ⟨S1,s1,?_⟩;rintro W2 st2 ⟨⟨S2,t1,t2⟩,hk2⟩;refine ⟨⟨S2,t1,fun k hk'=>?_⟩,hk.step hk2 (fun k hlt hs=>?_)⟩
 ·rcases t2 k hk' with a|a
  ·exact s2 k a
  ·exact .inr (zr hk.size a)
 ·rcases s2 k hs with a|a
  ·exact a
  ·omega
def Bdd (B:Nat) (s:Sy):Prop:=s.ws.length<=B/\s.ns.length<=B/\∀x∈s.ns,x.b<=B
theorem Bdd.aws (h:Bdd B s) (l:List Pz):Bdd (B+l.length) (s.aws l):=by
 obtain ⟨a1,a2,a3⟩:=yN s l;exact ⟨by have:=h.1;omega,by have:=h.2.1;omega,a3 B h.2.2⟩
theorem Bdd.mono {B':Nat}(h:Bdd B s) (hB:B<=B'):Bdd B' s:=⟨zr h.1 hB,zr h.2.1 hB,fun x hx=>zr (h.2.2 x hx) hB⟩
theorem cM {S:Nat->Prop}(h:DS S W g st) {n:Nd}{r:List Nd}(hne:st.ns=n :: r) (l:List Pz) (hf:∀p∈l,p.few=true) (t:ByteArray) (ht:t.data.toList=l.map pzb) (hl:l.length<=10) (hb:Bdd 1000000000 st) :
  Aa 76 #[spg g,.string t] W fun r w'=>r=.returned (.tuple #[])/\DM S g W w' (st.aws l):=oU h (by rw [hne];simp) l hf t ht hl hb.1 hb.2.1 hb.2.2
def Sy.ends (s:Sy) (m:Nat):Sy:=match s.ns with
 |[]=>s
 |n :: r=>{ s with ns:=⟨n.k,n.b-m,n.s⟩ :: r,ws:=s.ws++List.replicate m dX }
theorem qr (e:s.ns=n :: r) {m:Nat}(hm:m<n.b):(s.ends m).aws [.X]=s.ends (m+1):=by
 unfold Sy.ends;rw [e];simp only [Sy.aws,List.foldl,Sy.aw,awN,awW,List.head?_cons,BN,Bi,if_true];rw [zu (by simp;omega)];simp [CT,Pz.d];omega
theorem qq (s:Sy):s.ends 0=s:=by
 unfold Sy.ends
 split
 ·rfl
 ·rename_i n r e
  obtain ⟨ns,ws,mr,wr,en,pt⟩:=s;simp only at e;subst e;simp
theorem DS.pop {S:Nat->Prop}(h:DS S W g st) {n:Nd}{r:List Nd}(e:st.ns=n :: r) {b cap:Nat}(hc:W.cell? ⟨g,0,none⟩=some (.slice (some ⟨b,0,none⟩) (r.length+1) cap)):W.frozen? ⟨g,0,none⟩=false/\DM S g W (W.setCell ⟨g,0,none⟩ (.slice (some ⟨b,0,none⟩) r.length cap)) { st with ns:=r }:=by
 obtain ⟨vn,vw,hv,s1,s2⟩:=h.ex;have e1:vn=.slice (some ⟨b,0,none⟩) (r.length+1) cap:=zT (hv.sb.cells.1.symm.trans hc);subst e1;have hn:=hv.rn;rw [e] at hn;have hk:=Kp.set W g 0 (.slice (some ⟨b,0,none⟩) r.length cap);refine ⟨hv.sb.frozen 0,DM.mk' (vn:=.slice (some ⟨b,0,none⟩) r.length cap) (vw:=vw) ⟨af hv.sb 0 _,hk.row (mG hn) (fun k e1 e2=>ay (mG hn) hv.sb (by decide) (by rw [e1,e2])),hv.ro.kp hk (fun k e1 e2=>hv.ro.ne hv.sb (by decide) (by rw [e1,e2]))⟩ h.sg (fun k e2=>.inl (s1 k e2)) (fun k e2=>.inl (s2 k e2)) (hk.sub (fun k e2=>by rw [e2];exact h.sg))⟩
theorem DS.capOk {S:Nat->Prop}(h:DS S W g st) {p:Option Addr}{n cap:Nat}(hc:W.cell? ⟨g,0,none⟩=some (.slice p n cap)):n<=cap:=by
 obtain ⟨vn,vw,hv,_⟩:=h.ex;have e1:vn=.slice p n cap:=zT (hv.sb.cells.1.symm.trans hc);subst e1;obtain ⟨p',c',e,h1,_⟩:=av hv.rn;cases e;exact h1
def mB (g:Nat) (W:World):Nat:=match W.cell? ⟨g,0,none⟩ with
 |some (.slice (some a) (k+1) _)=>(match W.cell? ⟨a.block,k*3+1,none⟩ with|some v=>(intOf v).toNat|none=>0)
 |_=>0
theorem wL {S:Nat->Prop}(h:DS S W g st) {n:Nd}{r:List Nd}(e:st.ns=n :: r):mB g W=n.b:=by
 obtain ⟨b,cap,c0,x0,x1,x2,hbl⟩:=h.nodes e;unfold mB;rw [c0];simp only [x1];simp [intOf]
theorem nw {S:Nat->Prop}(h:DS S W g st) {n:Nd}{r:List Nd}(hne:st.ns=n :: r) (hb:Bdd 400000000 st) :
  Aa 43 #[spg g] W fun rr w'=>rr=.returned (.tuple #[])/\DM S g W w' st.leaves:=by
 obtain ⟨b,cap,c0,x0,x1,x2,hbl⟩:=h.nodes hne;have hrl:r.length<=900000000:=by have:=hb.2.1;rw [hne] at this;simp at this;omega
 have q5:(0:Int)<=r.length:=by omega
 have q6:(r.length:Int)<(r.length:Int)+1:=by omega
 have hnb:n.b<=400000000:=hb.2.2 n (by rw [hne];exact zV);have HS0:Hid (DM S g W W (st.ends 0)):=by rw [qq];exact DM.refl h
 have HB:Hid (Bdd 400000000 st/\st.ns=n :: r):=⟨hb,hne⟩;clear x0 x1 x2 h hb hne
 go_enter Tryz.func43,Tryz.ntmps43
 go_wp2_with fail
 clear c0 hbl
 go_loopw [] (fun wr=>∃j:Nat,j<=n.b/\Hid (DM S g W wr (st.ends j))) (fun wr=>mB g wr)
 case atStart=>exact ⟨0,zx _,HS0.out⟩
 case round=>
  obtain ⟨j,hj,HI⟩:=hrel;obtain ⟨S1,hS1,hseq⟩:=HI.out.seq;have e1:(st.ends j).ns=⟨n.k,n.b-j,n.s⟩ :: r:=by unfold Sy.ends;rw [HB.out.2]
  obtain ⟨b1,cap1,d0,y0,y1,y2,hbl1⟩:=hS1.nodes e1;have hm:=wL hS1 e1;have hg1:=hS1.glt
  by_cases hlt:j<n.b
  ·have q7:(0:Int)<((n.b-j:Nat):Int):=by omega
   have hbd:Bdd 1000000000 (st.ends j):=by
    obtain ⟨h1,h2,h3⟩:=HB.out.1;refine ⟨?_,?_,?_⟩
    ·unfold Sy.ends;rw [HB.out.2];simp;omega
    ·rw [e1];rw [HB.out.2] at h2;simp at h2 ⊢;omega
    ·rw [e1];intro x hx
     rcases zK.1 hx with rfl|hx
     ·show n.b-j<=_;omega
     ·have:=h3 x (by rw [HB.out.2];exact zX _ hx);omega
   have HW:Hid (Aa 76 #[spg g,.string ⟨#[93]⟩] wr fun rr w'=>rr=.returned (.tuple #[])/\DM S g W w' (st.ends (j+1))/\mB g w' < mB g wr):=by
    refine (cM hS1 e1 [.X] (by simp [Pz.few]) ⟨#[93]⟩ rfl (by decide) hbd).mono ?_;rintro rr w' ⟨hr,hD⟩;rw [qr HB.out.2 hlt] at hD;have hD2:=hseq _ _ hD;obtain ⟨S2,hS2,_⟩:=hD2.seq;refine ⟨hr,hD2,?_⟩;have e2:(st.ends (j+1)).ns=⟨n.k,n.b-(j+1),n.s⟩ :: r:=by unfold Sy.ends;rw [HB.out.2]
    rw [hm,wL hS2 e2];show n.b-(j+1)<n.b-j;omega
   clear HI hS1 hseq hm e1 hbd
   go_wp2_with (go_at_call 76;refine HW.out.mono ?_;rintro r1 w1 ⟨rfl,hD,hM⟩;have HX:Hid (DM S g W w1 (st.ends (j+1))/\mB g w1<mB g wr):=⟨hD,hM⟩;clear hD hM)
   exact ⟨⟨j+1,hlt,HX.out.1⟩,HX.out.2⟩
  ·obtain rfl:j=n.b:=by omega
   have q7:¬(0:Int)<((n.b-n.b:Nat):Int):=by omega
   have q8:n.b-n.b=0:=by omega
   rw [q8] at y1
   have hbd:Bdd 1000000000 (st.ends n.b):=by
    obtain ⟨h1,h2,h3⟩:=HB.out.1;refine ⟨?_,?_,?_⟩
    ·unfold Sy.ends;rw [HB.out.2];simp;omega
    ·rw [e1];rw [HB.out.2] at h2;simp at h2 ⊢;omega
    ·rw [e1];intro x hx
     rcases zK.1 hx with rfl|hx
     ·show n.b-n.b<=_;omega
     ·have:=h3 x (by rw [HB.out.2];exact zX _ hx);omega
   by_cases hk1:n.k=1
   ·have HL:Hid (st.leaves={ (st.ends n.b).aws [.H] with ns:=r }):=by
     show _=_
     unfold Sy.leaves Sy.ends;rw [HB.out.2];simp [Sy.aws,Sy.aw,awN,awW,hk1,Pz.d]
    have HW:Hid (Aa 76 #[spg g,.string ⟨#[72]⟩] wr fun rr w'=>rr=.returned (.tuple #[])/\∃b2 c2,w'.cell? ⟨g,0,none⟩=some (.slice (some ⟨b2,0,none⟩) (r.length+1) c2)/\g<w'.heap.size/\r.length+1<=c2/\w'.frozen? ⟨g,0,none⟩=false/\DM S g W (w'.setCell ⟨g,0,none⟩ (.slice (some ⟨b2,0,none⟩) r.length c2)) st.leaves):=by
     refine (cM hS1 e1 [.H] (by simp [Pz.few]) ⟨#[72]⟩ rfl (by decide) hbd).mono ?_;rintro rr w' ⟨hr,hD⟩;obtain ⟨S2,hS2,hseq2⟩:=(hseq _ _ hD).seq
     have e2:((st.ends n.b).aws [.H]).ns=⟨n.k,n.b-n.b+0,n.s⟩ :: r:=by
      show awN .H (st.ends n.b).ns=_
      rw [e1];rfl
     obtain ⟨b2,cap2,z0,_,_,_,_⟩:=hS2.nodes e2;obtain ⟨z1,z2⟩:=hS2.pop e2 z0;refine ⟨hr,b2,cap2,z0,hS2.glt,hS2.capOk z0,z1,?_⟩;rw [HL.out];exact hseq2 _ _ z2
    have q9:(n.k == 1)=true:=by simpa using hk1
    have q10:(r.length:Int)<=(r.length:Int)+1:=by omega
    clear HI hS1 hseq hm e1 hbd hk1 HL
    go_wp2_with (go_at_call 76;refine HW.out.mono ?_;rintro r1 w1 ⟨rfl,b2,c2,z0,z1,z2,z3,z4⟩;have q11:(r.length:Int)<=c2:=(by omega);have HX:=show Hid (DM S g W (w1.setCell ⟨g,0,none⟩ (.slice (some ⟨b2,0,none⟩) r.length c2)) st.leaves) from z4;clear z4)
    go_end0
    exact ⟨rfl,HX.out⟩
   ·have HL:Hid (st.leaves={ (st.ends n.b) with ns:=r }):=by
     show _=_
     unfold Sy.leaves Sy.ends;rw [HB.out.2];simp [hk1]
    obtain ⟨z1,z2⟩:=hS1.pop e1 d0;have z3:=hS1.capOk d0;have HX:Hid (DM S g W (wr.setCell ⟨g,0,none⟩ (.slice (some ⟨b1,0,none⟩) r.length cap1)) st.leaves):=by rw [HL.out];exact hseq _ _ z2
    have q9:(n.k == 1)=false:=by simpa using hk1
    have q11:(r.length:Int)<=cap1:=by omega
    clear HI hS1 hseq hm e1 hbd hk1 HL z2
    go_wp2_with fail
    go_end0
    exact ⟨rfl,HX.out⟩
end Go.Proofs.YtpdlohfdjiaegaaGreatDoor
