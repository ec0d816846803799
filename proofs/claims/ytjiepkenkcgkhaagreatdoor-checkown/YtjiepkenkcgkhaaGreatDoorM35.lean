import Derived.Laws.EntriesVeiled
import Derived.Test.YtjiepkenkcgkhaaGreatDoorM34
set_option linter.unusedVariables false
set_option linter.unusedSimpArgs false
set_option maxHeartbeats 2000000
set_option maxRecDepth 100000
namespace Go.Proofs.YtjiepkenkcgkhaaGreatDoor
open Go.RowKit
open Lw (Dc bE rt cy dh eZ ij bU aW cg)
variable {st:Sy}{W:World}{g:Nat}{n:Nd}{r:List Nd}{α:Type}
theorem Mw.below {S:Nat->Prop}{W1 W2:World}(h:Mw S g W W1 st) (hb:Below W1.heap.size W1 W2):Mw S g W W2 st:=by
 obtain ⟨S1,t1,u1⟩:=Mw.seq h;exact u1 _ _ ⟨⟨S1,t1.below hb,fun _ h=>.inl h⟩,Kp.of_below hb⟩
def ig (st:Sy) (n:Nd) (r:List Nd) (j:Nat):Sy:={ st with ns:=⟨n.k,n.b-j,n.s⟩ :: r,ws:=st.ws++List.replicate j dX }
theorem BX (e:st.ns=n :: r):ig st n r 0=st:=by
 unfold ig;rw [List.replicate_zero,Rx,UI,<-e]
theorem BY {j:Nat}(hj:j<n.b):(ig st n r j).aw .X=ig st n r (j+1):=by
 unfold Sy.aw ig
 have h1:ia .X ((⟨n.k,n.b-j,n.s⟩:Nd) :: r)=⟨n.k,n.b-(j+1),n.s⟩ :: r:=by
  simp only [ia];rw [IO trivial];show (⟨n.k,n.b-j-1,n.s⟩:Nd) :: r=_;rw [Nat.sub_sub]
 have h2:jB .X ((⟨n.k,n.b-j,n.s⟩:Nd) :: r)=[dX]:=by
  unfold jB;rw [Eq (by simp;omega)];rfl
 show ({ st with ns:=ia .X ((⟨n.k,n.b-j,n.s⟩:Nd) :: r),ws:=(st.ws++List.replicate j dX)++jB .X ((⟨n.k,n.b-j,n.s⟩:Nd) :: r) }:Sy)=_
 rw [h1,h2,QM,List.replicate_succ']
theorem zK {m:Nat}(e:st.ns=n :: r) (h:Bz m st) (j:Nat) (hj:j<=n.b):Bz (2*m) (ig st n r j):=by
 obtain ⟨h1,h2,h3⟩:=h;rw [e] at h2 h3;have hm:=h3 n QN;refine ⟨?_,?_,?_⟩
 ·show (st.ws++List.replicate j dX).length<=_
  rw [Or,SR];omega
 ·show ((⟨n.k,n.b-j,n.s⟩:Nd) :: r).length<=_
  simp at h2 ⊢;omega
 ·intro x hx
  rcases Rg.1 (show x∈(⟨n.k,n.b-j,n.s⟩:Nd) :: r from hx) with rfl|hx
  ·show n.b-j<=_;omega
  ·have:=h3 x (QO _ hx);omega
theorem SS.pop {S:Nat->Prop}(h:SS S W g st) {b cap:Nat}{n:Nd}{r:List Nd}(e:st.ns=n :: r) (hc:W.cell? ⟨g,1,none⟩=some (.slice (some ⟨b,0,none⟩) (r.length+1) cap)) :
  W.frozen? ⟨g,1,none⟩=false/\r.length+1<=cap/\Mw S g W (W.setCell ⟨g,1,none⟩ (.slice (some ⟨b,0,none⟩) r.length cap)) { st with ns:=r }:=by
 obtain ⟨vn,vw,hv,s1,s2⟩:=h.ex;have e1:vn=.slice (some ⟨b,0,none⟩) (r.length+1) cap:=by have:=hv.sb.cells.2.1;rw [hc] at this;exact (Ry this).symm
 subst e1;have hn:Rn tN W (.slice (some ⟨b,0,none⟩) (r.length+1) cap) (n :: r):=by rw [<-e];exact hv.rn
 have hp:=LY hn;obtain ⟨_,_,e2,_,hcc⟩:=mX hn;cases e2;refine ⟨hv.sb.frozen 1,hcc,Mw.mk' (vn:=.slice (some ⟨b,0,none⟩) r.length cap) (vw:=vw) ⟨aj hv.sb 1 _,(Kp.set _ _ _ _).row hp (fun k e1 e2=>aM hp hv.sb (by decide) (by rw [e1,e2])),(Kp.set _ _ _ _).row hv.rd (fun k e1 e2=>aM hv.rd hv.sb (by decide) (by rw [e1,e2]))⟩ h.sg (fun k e=>.inl (s1 k e)) (fun k e=>.inl (s2 k e)) ((Kp.set _ _ _ _).sub (fun k e=>by rw [e];exact h.sg))⟩
theorem BA {S:Nat->Prop}(h:SS S W g st) (hz:Bz 400000000 st) {n:Nd}{r:List Nd}(e:st.ns=n :: r) :
  Ra 75 #[bV g] W fun rr w'=>rr=.returned (.tuple #[])/\Mw S g W w' st.leaves:=by
 obtain ⟨b,cap,hc,_⟩:=h.nodes e;have hr9:r.length<=900000000:=by have:=hz.2.1;rw [e] at this;simp at this;omega
 have hb9:n.b<=400000000:=hz.2.2 n (by rw [e];exact QN);have HI:Hid (Ra 117 #[bV g] W fun rr w'=>rr=.returned (.pointer (some ⟨b,r.length*3,none⟩))/\Rc W w'):=fQ hc (by omega)
 have HE:Hid (∀j V,j<n.b->Mv S g W V (ig st n r j)->Ra 123 #[bV g] V fun rr w'=>rr=.returned (.tuple #[])/\Mv S g W w' (ig st n r (j+1))):=fun j V hj hV=>by
  obtain ⟨S1,t1,u1⟩:=Mv.seq hV;refine (nP t1 (by show (_ :: _:List Nd)≠[];simp) ((zK e hz j (by omega)).mono (by omega))).mono ?_;rintro rr w' ⟨rfl,m⟩;rw [BY hj] at m;exact ⟨rfl,u1 _ _ m⟩
 have HH:Hid (∀V,Mv S g W V (ig st n r n.b)->Ra 124 #[bV g] V fun rr w'=>rr=.returned (.tuple #[])/\Mv S g W w' ((ig st n r n.b).aw .H)):=fun V hV=>by
  obtain ⟨S1,t1,u1⟩:=Mv.seq hV;refine (py t1 (by show (_ :: _:List Nd)≠[];simp) ((zK e hz n.b (gt _)).mono (by omega))).mono ?_;rintro rr w' ⟨rfl,m⟩;exact ⟨rfl,u1 _ _ m⟩
 have HC:Hid (∀j V,Mv S g W V (ig st n r j)->V.cell? ⟨b,r.length*3+1,none⟩=some (.int .i64 ((n.b-j:Nat):Int))/\V.cell? ⟨b,r.length*3,none⟩=some (.int .u8 n.k)):=fun j V hV=>by
  obtain ⟨S1,t1,u1⟩:=Mv.seq hV;obtain ⟨a0,a1,a2⟩:=t1.cells2 (n:=⟨n.k,n.b-j,n.s⟩) (r:=r) rfl (hV.2.2.trans hc);exact ⟨a1,a0⟩
 have HF:Hid (∀V st',Mv S g W V st'->(∃n',st'.ns=n' :: r)->V.cell? ⟨g,1,none⟩=some (.slice (some ⟨b,0,none⟩) (r.length+1) cap)/\V.frozen? ⟨g,1,none⟩=false/\r.length+1<=cap/\Mw S g W (V.setCell ⟨g,1,none⟩ (.slice (some ⟨b,0,none⟩) r.length cap)) { st' with ns:=r }):=fun V st' hV ⟨n',en⟩=>by
  obtain ⟨S1,t1,u1⟩:=Mw.seq hV.w;have hc1:=hV.2.2.trans hc;obtain ⟨a1,a2,a3⟩:=t1.pop en hc1;exact ⟨hc1,a1,a2,u1 _ _ a3⟩
 have HL1:Hid (n.k=1->({ ((ig st n r n.b).aw .H) with ns:=r }:Sy)=st.leaves):=fun h1=>by
  unfold Sy.leaves;rw [e];simp only;rw [IO h1];rfl
 have HL2:Hid (n.k≠1->({ (ig st n r n.b) with ns:=r }:Sy)=st.leaves):=fun h1=>by
  unfold Sy.leaves;rw [e];simp only;rw [Eq h1,Rx];rfl
 have HS:Hid (∀V,Rc W V->Mv S g W V (ig st n r 0)):=fun V hb=>by rw [BX e];exact Mv.quiet h hb
 clear h hz e hc;have q3:IntKind.i64.wrap (r.length:Int)=r.length:=by rw [RA];omega
 go_enter Tryz.func75,Tryz.ntmps75
 go_wp2_with (go_at_call 117;refine HI.out.mono ?_;rintro r1 w1 ⟨rfl,hb1⟩;have HB:=show Hid (Below W.heap.size W w1) from hb1;clear hb1)
 go_loopw [] (fun wr=>∃j:Nat,j<=n.b/\Hid (Mv S g W wr (ig st n r j))) (fun wr=>match wr.cell? ⟨b,r.length*3+1,none⟩ with|some v=>(intOf v).toNat|none=>0)
 case atStart=>exact ⟨0,QK _,HS.out _ HB.out⟩
 case round=>
  obtain ⟨j,hj,HJ⟩:=hrel;obtain ⟨x1,x0⟩:=HC.out j _ HJ.out
  by_cases hlt:j<n.b
  ·have q1:(0:Int)<((n.b-j:Nat):Int):=by omega
   go_wp2_with (go_at_call 123;refine (HE.out j _ hlt HJ.out).mono ?_;rintro r2 w2 ⟨rfl,m2⟩;have HM:=show Hid (Mv S g W w2 (ig st n r (j+1))) from m2;clear m2)
   refine ⟨⟨j+1,hlt,HM⟩,?_⟩;rw [(HC.out (j+1) _ HM.out).1,x1];simp [intOf];omega
  ·obtain rfl:j=n.b:=by omega
   have x2:wr.cell? ⟨b,r.length*3+1,none⟩=some (.int .i64 0):=by rw [x1];simp
   clear x1
   by_cases h1:n.k=1
   ·have q2:(n.k == 1)=true:=by simpa using h1
    have HL:=show Hid (({ ((ig st n r n.b).aw .H) with ns:=r }:Sy)=st.leaves) from HL1.out h1
    clear HL1 HL2 h1 hlt;have y6:(0:Int)<=(r.length:Int):=by omega
    go_upto_region 5 with (go_at_call 124;refine (HH.out _ HJ.out).mono ?_;rintro r2 w2 ⟨rfl,m2⟩;obtain ⟨y1,y2,y3,y4⟩:=HF.out _ _ m2 ⟨_,rfl⟩;rw [HL.out] at y4;have HY:=show Hid (Mw S g W (w2.setCell ⟨g,1,none⟩ (.slice (some ⟨b,0,none⟩) r.length cap)).drew st.leaves) from y4.below ((hH _ _).drew);clear y4 m2)
    have y5:(r.length:Int)<=(cap:Int):=by omega
    go_region_law (fail)
    all_goals (
     go_wp2_with fail
     go_end0
     exact ⟨rfl,HY.out⟩)
   ·have q2:(n.k == 1)=false:=by simpa using h1
    have HL:=show Hid (({ (ig st n r n.b) with ns:=r }:Sy)=st.leaves) from HL2.out h1
    obtain ⟨y1,y2,y3,y4⟩:=HF.out _ _ HJ.out ⟨_,rfl⟩;rw [HL.out] at y4;have HY:=show Hid (Mw S g W (wr.setCell ⟨g,1,none⟩ (.slice (some ⟨b,0,none⟩) r.length cap)).drew st.leaves) from y4.below ((hH _ _).drew)
    clear y4 HL1 HL2 h1 hlt HL;have y5:(r.length:Int)<=(cap:Int):=by omega
    have y6:(0:Int)<=(r.length:Int):=by omega
    go_wp2_with fail
    go_region_law (fail)
    all_goals (
     go_wp2_with fail
     go_end0
     exact ⟨rfl,HY.out⟩)
def Eb (W:World) (E:Nat) (e:Ev):Prop:=W.heap[E]?=some (.cells #[.int .u8 e.k,.int .u8 e.n,.int .u8 e.d.k,.string e.d.t,.int .i64 e.d.a,.int .i64 e.d.l,.int .i64 e.d.c,.int .i64 e.d.f] 94 (0,0))
theorem Eb.cells {W:World}{E:Nat}{e:Ev}(h:Eb W E e):W.cell? ⟨E,0,none⟩=some (.int .u8 e.k)/\W.cell? ⟨E,1,none⟩=some (.int .u8 e.n)/\W.cell? ⟨E,2,none⟩=some (.int .u8 e.d.k)/\W.cell? ⟨E,3,none⟩=some (.string e.d.t)/\W.cell? ⟨E,4,none⟩=some (.int .i64 e.d.a)/\W.cell? ⟨E,5,none⟩=some (.int .i64 e.d.l)/\W.cell? ⟨E,6,none⟩=some (.int .i64 e.d.c)/\W.cell? ⟨E,7,none⟩=some (.int .i64 e.d.f):=
 ⟨af h rfl,af h rfl,af h rfl,af h rfl,af h rfl,af h rfl,af h rfl,af h rfl⟩
theorem AE {S:Nat->Prop}(h:SS S W g st) (hz:st.ns.length<=900000000) (e:Ev) (ht:e.d.t.size<=9223372036854775807) :
  Ra 73 #[bV g,.agg #[.int .u8 e.k,.int .u8 e.n,.int .u8 e.d.k,.string e.d.t,.int .i64 e.d.a,.int .i64 e.d.l,.int .i64 e.d.c,.int .i64 e.d.f]] W fun rr w'=>rr=.returned (.bool (st.may e))/\Below W.heap.size W w':=by
 obtain ⟨V,hV⟩:∃V,W.alloc (.cells #[.int .u8 e.k,.int .u8 e.n,.int .u8 e.d.k,.string e.d.t,.int .i64 e.d.a,.int .i64 e.d.l,.int .i64 e.d.c,.int .i64 e.d.f] 94)=V:=⟨_,rfl⟩;have hB:Below W.heap.size W V:=by rw [<-hV];exact (hH _ _).alloc (gt _) _
 have hE:Eb V W.heap.size e:=by rw [<-hV];exact au _ _
 have HV:Hid (W.alloc (.cells #[.int .u8 e.k,.int .u8 e.n,.int .u8 e.d.k,.string e.d.t,.int .i64 e.d.a,.int .i64 e.d.l,.int .i64 e.d.c,.int .i64 e.d.f] 94)=V):=hV;have hs:=h.below hB;obtain ⟨m0,m1,m2,m3,m4,m5,m6,m7⟩:=hE.cells;have HF:Hid (∀X,Rc V X->Rc W X):=fun X hX=>hB.trans (hX.mono hB.size)
 have HD:Hid (∀m,Rc W (V.drewN m)):=fun m=>dR hB m
 have HT:Hid (∀X,Ra 118 #[.string e.d.t] X fun r w'=>r=.returned (.bool (eZ e.d.t))/\w'=X):=AH e.d.t ht;have HC:Hid (∀X,Ra 119 #[.agg #[.int .u8 e.d.k,.string e.d.t,.int .i64 e.d.a,.int .i64 e.d.l,.int .i64 e.d.c,.int .i64 e.d.f]] X fun r w'=>r=.returned (.bool (decide (e.d.k=7\/e.d.k=8)))/\Rc X w'):=EL e.d;have HB0:Hid (Rc W V):=hB;cases hn:st.ns with
 |nil=>
  have hc1:∃p c,V.cell? ⟨g,1,none⟩=some (.slice p 0 c):=by
   obtain ⟨vn,vw,hv,_⟩:=hs.ex;obtain ⟨p,c,ee,_⟩:=aJ hv.rn;rw [hn] at ee;exact ⟨p,c,by rw [<-show vn=.slice p 0 c from ee];exact hv.sb.cells.2.1⟩
  obtain ⟨p,c,c1⟩:=hc1
  have HM:Hid (st.may e=(if e.k=1 then decide (1<=e.n) && decide (e.n<=32) else false)):=by
   show _=_
   unfold Sy.may;rw [hn]
   by_cases a1:e.k=1 <;> by_cases a2:e.k=3 <;> by_cases a3:e.k=2 <;> by_cases a4:e.k=4 <;> simp [a1,a2,a3,a4]
  clear h hs hB hE hn hV hz
  by_cases a1:e.k=1
  ·have q1:(e.k == 1)=true:=by simpa using a1
   have HM2:Hid (st.may e=(decide (1<=e.n) && decide (e.n<=32))):=by rw [HM.out,IO a1];exact rfl
   clear HM a1
   go_enter SY,SF
   go_upto_region 1 with fail
   rw [HV.out]
   go_wp2_with fail
   all_goals (go_ret;rw [HM2.out];refine ⟨?_,HB0.out⟩;simp_all <;> omega)
  ·have HM2:Hid (st.may e=false):=by rw [HM.out,Eq a1];exact rfl
   have q1:(e.k == 1)=false:=by simpa using a1
   clear HM a1
   by_cases a2:e.k=3
   ·have q2:(e.k == 3)=true:=by simpa using a2
    clear a2
    go_enter SY,SF
    go_upto_region 1 with fail
    rw [HV.out]
    go_wp2_with fail
    go_quiet (fail)
    go_wp2_with fail
    go_ret
    rw [HM2.out];exact ⟨rfl,HD.out _⟩
   ·have q2:(e.k == 3)=false:=by simpa using a2
    by_cases a3:e.k=2
    ·have q3:(e.k == 2)=true:=by simpa using a3
     clear a2 a3
     go_enter SY,SF
     go_upto_region 1 with fail
     rw [HV.out]
     go_wp2_with fail
     go_ret
     rw [HM2.out];exact ⟨rfl,HB0.out⟩
    ·have q3:(e.k == 2)=false:=by simpa using a3
     by_cases a4:e.k=4
     ·have q4:(e.k == 4)=true:=by simpa using a4
      clear a2 a3 a4
      go_enter SY,SF
      go_upto_region 1 with fail
      rw [HV.out]
      go_wp2_with fail
      go_ret
      rw [HM2.out];exact ⟨rfl,HB0.out⟩
     ·have q4:(e.k == 4)=false:=by simpa using a4
      clear a2 a3 a4
      go_enter SY,SF
      go_upto_region 1 with fail
      rw [HV.out]
      go_wp2_with fail
      go_ret
      rw [HM2.out];exact ⟨rfl,HB0.out⟩
 |cons n r=>
  obtain ⟨b,cap,hc,y0,y1,y2,y3⟩:=hs.nodes hn;have HI:Hid (∀X,Rc V X->Ra 117 #[bV g] X fun rr w'=>rr=.returned (.pointer (some ⟨b,r.length*3,none⟩))/\Rc X w'):=fun X hX=>fQ (cE hc hX) (by rw [hn] at hz;simp at hz;omega)
  have q0:(0:Int)<(r.length:Int)+1:=by omega
  have HM:Hid (st.may e=(if e.k=1 then decide (1<=e.n) && decide (e.n<=32) else if e.k=3 then decide (n.k=e.n) else if e.k=2 then eZ e.d.t else if e.k=4 then (eZ e.d.t && decide (e.d.k=7\/e.d.k=8)) else false)):=by
   show _=_
   unfold Sy.may;rw [hn]
   by_cases a1:e.k=1 <;> by_cases a2:e.k=3 <;> by_cases a3:e.k=2 <;> by_cases a4:e.k=4 <;> simp [a1,a2,a3,a4]
  clear h hs hB hE hn hV hz y3
  by_cases a1:e.k=1
  ·have q1:(e.k == 1)=true:=by simpa using a1
   have HM2:Hid (st.may e=(decide (1<=e.n) && decide (e.n<=32))):=by rw [HM.out,IO a1];exact rfl
   clear HM a1
   go_enter SY,SF
   go_upto_region 1 with fail
   rw [HV.out]
   go_wp2_with fail
   all_goals (go_ret;rw [HM2.out];refine ⟨?_,HB0.out⟩;simp_all <;> omega)
  ·rw [Eq a1] at HM;have q1:(e.k == 1)=false:=by simpa using a1
   clear a1
   by_cases a2:e.k=3
   ·rw [IO a2] at HM;have q2:(e.k == 3)=true:=by simpa using a2
    clear a2;have HM2:Hid (st.may e=(n.k == e.n)):=by rw [HM.out];show _=_;by_cases a:n.k=e.n <;> simp [a]
    have hc1:∀x:HW (SG V),x.W.cell? ⟨W.heap.size,1,none⟩=some (.int .u8 e.n):=fun x=>cE m1 x.h
    have hc0:∀x:HW (SG V),x.W.cell? ⟨b,r.length*3,none⟩=some (.int .u8 n.k):=fun x=>cE y0 x.h
    have hne:Nonempty (HW (SG V)):=⟨⟨V.drew,(hH _ _).drew⟩⟩;have hex:∀x:HW (SG V),∃y:HW (SG V),x.W=y.W:=fun x=>⟨x,rfl⟩
    have KT:Hid (∀x:HW (SG V),Ra 117 #[bV g] x.W fun rr w'=>rr=.returned (.pointer (some ⟨b,r.length*3,none⟩))/\Below x.W.heap.size x.W w'):=fun x=>HI.out x.W x.h
    go_enter SY,SF
    go_upto_region 1 with fail
    rw [HV.out]
    go_upto_region 6 with fail
    refine dN (S:=SG V) (by kernel_rfl) (by kernel_rfl) (hH _ _).drew ?_
    repeat (go_big_quiet_step ((go_at_call 117;exact Calls.quiet_in _ (KT.out _) (fun _ _=>SG.keep))))
    refine wpQuiet_nil ?_;rintro w5 ⟨⟨W5,hS5⟩,rfl⟩;have HS5:Hid (Rc V w5):=hS5;clear hc0 hc1 hS5 hne hex
    go_wp2_with fail
    go_ret
    rw [HM2.out];exact ⟨rfl,HF.out _ HS5.out⟩
   ·rw [Eq a2] at HM;have q2:(e.k == 3)=false:=by simpa using a2
    clear a2
    by_cases a3:e.k=2
    ·rw [IO a3] at HM;have q3:(e.k == 2)=true:=by simpa using a3
     clear a3
     go_enter SY,SF
     go_upto_region 1 with fail
     rw [HV.out]
     go_wp2_with (go_at_call 118;refine (HT.out _).mono ?_;rintro r2 w2 ⟨rfl,rfl⟩)
     go_ret
     rw [HM.out];exact ⟨rfl,HB0.out⟩
    ·rw [Eq a3] at HM;have q3:(e.k == 2)=false:=by simpa using a3
     clear a3
     by_cases a4:e.k=4
     ·rw [IO a4] at HM;have q4:(e.k == 4)=true:=by simpa using a4
      clear a4
      generalize eZ e.d.t=bt at *
      generalize decide (e.d.k=7\/e.d.k=8)=bc at *
      cases bt
      ·go_enter SY,SF
       go_upto_region 1 with fail
       rw [HV.out]
       go_wp2_with (go_at_call 118;refine (HT.out _).mono ?_;rintro r2 w2 ⟨rfl,rfl⟩)
       go_ret
       rw [HM.out];exact ⟨rfl,HB0.out⟩
      ·go_enter SY,SF
       go_upto_region 1 with fail
       rw [HV.out]
       go_wp2_with (first|(go_at_call 118;refine (HT.out _).mono ?_;rintro r2 w2 ⟨rfl,rfl⟩)|(go_at_call 119;refine (HC.out _).mono ?_;rintro r3 w3 ⟨rfl,hb3⟩;have HB3:=show Hid (Below W.heap.size W w3) from HF.out _ hb3;clear hb3))
       go_ret
       rw [HM.out];exact ⟨rfl,HB3.out⟩
     ·rw [Eq a4] at HM;have q4:(e.k == 4)=false:=by simpa using a4
      clear a4
      go_enter SY,SF
      go_upto_region 1 with fail
      rw [HV.out]
      go_wp2_with fail
      go_ret
      rw [HM.out];exact ⟨rfl,HB0.out⟩
theorem yz:tab.length=40:=by decide
theorem yy:∀r∈tab,r.ns.length=6:=by decide
theorem Qz {l:List Int}(h:l.length=6):∃a b c d e f,l=[a,b,c,d,e,f]:=by
 match l,h with
 |[a,b,c,d,e,f],_=>exact ⟨a,b,c,d,e,f,rfl⟩
def Rw.v (r:Rw):Value:=.agg r.cs.toArray
theorem Jo (w:World):∀k,k<40->(Instr.index 250 (Value.agg gU.toArray) (.int .i64 (k:Nat))).run Tryz.prog w=.ok (tab.getD k LP).v w
 |0,_=>by kernel_rfl
 |1,_=>by kernel_rfl
 |2,_=>by kernel_rfl
 |3,_=>by kernel_rfl
 |4,_=>by kernel_rfl
 |5,_=>by kernel_rfl
 |6,_=>by kernel_rfl
 |7,_=>by kernel_rfl
 |8,_=>by kernel_rfl
 |9,_=>by kernel_rfl
 |10,_=>by kernel_rfl
 |11,_=>by kernel_rfl
 |12,_=>by kernel_rfl
 |13,_=>by kernel_rfl
 |14,_=>by kernel_rfl
 |15,_=>by kernel_rfl
 |16,_=>by kernel_rfl
 |17,_=>by kernel_rfl
 |18,_=>by kernel_rfl
 |19,_=>by kernel_rfl
 |20,_=>by kernel_rfl
 |21,_=>by kernel_rfl
 |22,_=>by kernel_rfl
 |23,_=>by kernel_rfl
 |24,_=>by kernel_rfl
 |25,_=>by kernel_rfl
 |26,_=>by kernel_rfl
 |27,_=>by kernel_rfl
 |28,_=>by kernel_rfl
 |29,_=>by kernel_rfl
 |30,_=>by kernel_rfl
 |31,_=>by kernel_rfl
 |32,_=>by kernel_rfl
 |33,_=>by kernel_rfl
 |34,_=>by kernel_rfl
 |35,_=>by kernel_rfl
 |36,_=>by kernel_rfl
 |37,_=>by kernel_rfl
 |38,_=>by kernel_rfl
 |39,_=>by kernel_rfl
 |k+40,h=>absurd h (by omega)
theorem Ku (a b c d e f:Int) (t:List UInt8) (x y:Fx):(Rw.mk [a,b,c,d,e,f] t x y).v=.agg #[.int .u8 a,.int .u8 b,.int .u8 c,.int .u8 d,.int .u8 e,.int .u8 f,.string ⟨t.toArray⟩,.func (.func x.id) #[] #[],.func (.func y.id) #[] #[]]:=rfl
theorem E6 (r:Rw) {a b c d e f:Int}(hr:r.ns=[a,b,c,d,e,f]) (n:Nd) (tx:ByteArray) (W:World) :
  Ra 163 #[.agg #[.int .u8 a,.int .u8 b,.int .u8 c,.int .u8 d,.int .u8 e,.int .u8 f,.string ⟨r.t.toArray⟩,.func (.func r.a.id) #[] #[],.func (.func r.b.id) #[] #[]],.agg #[.int .u8 n.k,.int .i64 n.b,.bool n.s],.string tx] W fun e w'=>e=.returned (.bool (r.fits n tx))/\Below W.heap.size W w':=by
 have h1:(⟨r.t.toArray⟩:ByteArray).toList=r.t:=by rw [Lib.toList_data]
 have h2:tx.toList=tx.data.toList:=Lib.toList_data tx
 have he:r.fits n tx=(((⟨r.t.toArray⟩:ByteArray).toList == [] || (⟨r.t.toArray⟩:ByteArray).toList == tx.toList) && [a,b,c,d,e,f].any n.is):=by
  unfold Rw.fits;rw [h1,h2,hr]
  congr 2
  ·by_cases q:r.t=[] <;> simp [q]
  ·by_cases q:r.t=tx.data.toList <;> simp [q]
 rw [he];exact BO a b c d e f ⟨r.t.toArray⟩ r.a.id r.b.id n tx W
theorem BQ (p:α->Bool) (l:List α) (k:Nat) (x:α) (hx:l[k]?=some x) (h:(l.take k).find? p=none) (hp:p x=false):(l.take (k+1)).find? p=none:=by
 rw [S5,hx,UX,h];simp [hp]
theorem JD (p:α->Bool) (l:List α) (k:Nat) (x:α) (hx:l[k]?=some x) (h:(l.take k).find? p=none) (hp:p x=true):l.find? p=some x:=by
 have hlt:=(QT.1 hx).1
 have e:l=l.take k++x :: l.drop (k+1):=by
  have:=RF hlt;rw [(QT.1 hx).2] at this;rw [<-this,RJ]
 rw [e,UX,h];simp [hp]
theorem AW (n:Nd) (t:Tv) (W:World) (hk:t.k=2\/t.k=6) :
  Ra 125 #[.agg #[.int .u8 n.k,.int .i64 n.b,.bool n.s],.agg #[.int .u8 t.k,.string t.t,.int .i64 t.a,.int .i64 t.l,.int .i64 t.c,.int .i64 t.f]] W fun e w'=>e=.returned (aG n t).v/\Below W.heap.size W w':=by
 have HTab:Hid (∀V,Ra 162 #[] V fun e w'=>e=.returned (.agg gU.toArray)/\Below V.heap.size V w'):=AF;have q1:(t.k == 2)=true\/((t.k == 2)=false/\(t.k == 6)=true):=by rcases hk with h|h <;> simp [h]
 go_enter Tryz.func125,Tryz.ntmps125
 go_upto_region 1 with fail
 go_cut [14] from 7 to 14 (fun t9 wx=>t9=.bool true/\wx=(((W.alloc (.cells #[.int .u8 n.k,.int .i64 n.b,.bool n.s] 208)).alloc (.cells #[.int .u8 t.k,.string t.t,.int .i64 t.a,.int .i64 t.l,.int .i64 t.c,.int .i64 t.f] 51)).alloc (.cells #[.int .u8 0,.int .u8 0,.int .u8 0,.int .u8 0,.int .u8 0,.int .u8 0,.string ⟨#[]⟩,.nilFunc,.nilFunc] 220)))
 case first=>
  rcases q1 with q1|⟨q1,q2⟩
  ·go_wp2_with fail
   go_meet
   exact ⟨rfl,rfl⟩
  ·go_wp2_with fail
   go_meet
   exact ⟨rfl,rfl⟩
 case rest=>
 obtain ⟨rfl,hwc⟩:=hcut;obtain ⟨V,hV⟩:∃V,V=wc:=⟨wc,rfl⟩;subst hV;have hsz1:(W.alloc (.cells #[.int .u8 n.k,.int .i64 n.b,.bool n.s] 208)).heap.size=W.heap.size+1:=by show (W.heap.push _).size=_;simp
 have hsz2:((W.alloc (.cells #[.int .u8 n.k,.int .i64 n.b,.bool n.s] 208)).alloc (.cells #[.int .u8 t.k,.string t.t,.int .i64 t.a,.int .i64 t.l,.int .i64 t.c,.int .i64 t.f] 51)).heap.size=W.heap.size+1+1:=by show ((W.heap.push _).push _).size=_;simp
 have hN:V.heap[W.heap.size]?=some (.cells #[.int .u8 n.k,.int .i64 n.b,.bool n.s] 208 (0,0)):=by rw [hwc];exact aI (aI (au _ _) _) _
 have hTk:V.heap[W.heap.size+1]?=some (.cells #[.int .u8 t.k,.string t.t,.int .i64 t.a,.int .i64 t.l,.int .i64 t.c,.int .i64 t.f] 51 (0,0)):=by rw [hwc,<-hsz1];exact aI (au _ _) _
 have hRs:V.heap[W.heap.size+1+1]?=some (.cells #[.int .u8 0,.int .u8 0,.int .u8 0,.int .u8 0,.int .u8 0,.int .u8 0,.string ⟨#[]⟩,.nilFunc,.nilFunc] 220 (0,0)):=by rw [hwc,<-hsz2];exact au _ _
 have hBV:Below W.heap.size W V:=by rw [hwc];exact (((hH _ _).alloc (gt _) _).alloc (by omega) _).alloc (by omega) _
 clear hsz1 hsz2 hwc
 go_upto_if 14 with fail
 go_wp2_with (go_at_call 162;refine (HTab.out _).mono ?_;rintro e w1 ⟨rfl,hb1⟩;have HB1:=show Hid (Below V.heap.size V w1) from hb1;clear hb1)
 go_loopw [6,16] (fun _ i wr=>∃k:Nat,k<=40/\i=.int .i64 k/\Hid ((tab.take k).find? (fun r=>r.fits n t.t)=none)/\Hid (Below V.heap.size V wr)) (fun _ i _=>40-(intOf i).toNat)
 case atStart=>exact ⟨0,by omega,rfl,by show _=_;simp,HB1.out⟩
 case round=>
  obtain ⟨k,hk40,rfl,HI,HB⟩:=hrel
  by_cases hlt:k<40
  ·have q3:(k:Int)<40:=by omega
   have q4:(0:Int)<=k:=by omega
   obtain ⟨x,hx⟩:∃x,tab[k]?=some x:=⟨_,Pi (by rw [yz];exact hlt)⟩;obtain ⟨a,b,c,d,e,f,hsix⟩:=Qz (yy x (RU hx))
   have hxv:x.v=.agg #[.int .u8 a,.int .u8 b,.int .u8 c,.int .u8 d,.int .u8 e,.int .u8 f,.string ⟨x.t.toArray⟩,.func (.func x.a.id) #[] #[],.func (.func x.b.id) #[] #[]]:=by
    have:x=⟨[a,b,c,d,e,f],x.t,x.a,x.b⟩:=by rw [<-hsix]
    rw [this];exact Ku _ _ _ _ _ _ _ _ _
   have hix:(Instr.index 250 (Value.agg gU.toArray) (.int .i64 (k:Nat))).run Tryz.prog wr=.ok (.agg #[.int .u8 a,.int .u8 b,.int .u8 c,.int .u8 d,.int .u8 e,.int .u8 f,.string ⟨x.t.toArray⟩,.func (.func x.a.id) #[] #[],.func (.func x.b.id) #[] #[]]) wr:=by
    rw [Jo wr k hlt,SP,hx,<-hxv];rfl
   have HFt:Hid (∀X,Ra 163 #[.agg #[.int .u8 a,.int .u8 b,.int .u8 c,.int .u8 d,.int .u8 e,.int .u8 f,.string ⟨x.t.toArray⟩,.func (.func x.a.id) #[] #[],.func (.func x.b.id) #[] #[]],.agg #[.int .u8 n.k,.int .i64 n.b,.bool n.s],.string t.t] X fun e w'=>e=.returned (.bool (x.fits n t.t))/\Below X.heap.size X w'):=E6 x hsix n t.t;obtain ⟨U,hU⟩:∃U,wr.alloc (.cells #[.int .u8 a,.int .u8 b,.int .u8 c,.int .u8 d,.int .u8 e,.int .u8 f,.string ⟨x.t.toArray⟩,.func (.func x.a.id) #[] #[],.func (.func x.b.id) #[] #[]] 220)=U:=⟨_,rfl⟩;have hUb:Below wr.heap.size wr U:=by rw [<-hU];exact (hH _ _).alloc (gt _) _
   have hUr:U.heap[wr.heap.size]?=some (.cells #[.int .u8 a,.int .u8 b,.int .u8 c,.int .u8 d,.int .u8 e,.int .u8 f,.string ⟨x.t.toArray⟩,.func (.func x.a.id) #[] #[],.func (.func x.b.id) #[] #[]] 220 (0,0)):=by rw [<-hU];exact au _ _
   have hVU:Below V.heap.size V U:=HB.out.trans (hUb.mono HB.out.size);have hNU:=ag hN hVU;have hTU:=ag hTk hVU;have hRU:=ag hRs hVU;have HUU:=show Hid (wr.alloc (.cells #[.int .u8 a,.int .u8 b,.int .u8 c,.int .u8 d,.int .u8 e,.int .u8 f,.string ⟨x.t.toArray⟩,.func (.func x.a.id) #[] #[],.func (.func x.b.id) #[] #[]] 220)=U) from hU
   clear hU hUb
   go_upto_region 5 with fail
   rw [HUU.out];have l0:=af (k:=0) hUr rfl;have l1:=af (k:=1) hUr rfl;have l2:=af (k:=2) hUr rfl;have l3:=af (k:=3) hUr rfl;have l4:=af (k:=4) hUr rfl;have l5:=af (k:=5) hUr rfl;have l6:=af (k:=6) hUr rfl;have l7:=af (k:=7) hUr rfl;have l8:=af (k:=8) hUr rfl;have n0:=af (k:=0) hNU rfl;have n1:=af (k:=1) hNU rfl;have n2:=af (k:=2) hNU rfl;have k1:=af (k:=1) hTU rfl;have HVU:=show Hid (Below V.heap.size V U) from hVU
   by_cases hfit:x.fits n t.t=true
   ·have hro:aG n t=x:=by unfold aG;rw [IO hk,JD _ tab k x hx HI.out hfit];rfl
    have HRo:=show Hid ((aG n t).v=.agg #[.int .u8 a,.int .u8 b,.int .u8 c,.int .u8 d,.int .u8 e,.int .u8 f,.string ⟨x.t.toArray⟩,.func (.func x.a.id) #[] #[],.func (.func x.b.id) #[] #[]]) from (by rw [hro];exact hxv)
    rw [hfit] at HFt;have HAll:=show Hid (U.heap[wr.heap.size]?=some (.cells #[.int .u8 a,.int .u8 b,.int .u8 c,.int .u8 d,.int .u8 e,.int .u8 f,.string ⟨x.t.toArray⟩,.func (.func x.a.id) #[] #[],.func (.func x.b.id) #[] #[]] 220 (0,0))/\U.heap[W.heap.size+1+1]?=some (.cells #[.int .u8 0,.int .u8 0,.int .u8 0,.int .u8 0,.int .u8 0,.int .u8 0,.string ⟨#[]⟩,.nilFunc,.nilFunc] 220 (0,0))) from ⟨hUr,hRU⟩
    have HBV:=show Hid (Below W.heap.size W V/\W.heap.size<=W.heap.size+1+1) from ⟨hBV,by omega⟩
    clear hxv hsix hix hUr hVU hNU hTU hRU hN hTk hRs hBV hro hx HI hfit HTab
    go_upto_region 6 with (go_at_call 163;refine (HFt.out _).mono ?_;rintro e9 w9 ⟨rfl,hb9⟩)
    obtain ⟨hA1,hA2⟩:=HAll.out;have hA1':=ag hA1 hb9;have hA2':=ag hA2 hb9;have HFin:=show Hid (w9.heap[W.heap.size+1+1]?=some (.cells #[.int .u8 0,.int .u8 0,.int .u8 0,.int .u8 0,.int .u8 0,.int .u8 0,.string ⟨#[]⟩,.nilFunc,.nilFunc] 220 (0,0))/\Below W.heap.size W w9) from ⟨hA2',HBV.out.1.trans ((HVU.out.trans (hb9.mono HVU.out.size)).mono HBV.out.1.size)⟩
    have p0:=af (k:=0) hA1' rfl;have p1:=af (k:=1) hA1' rfl;have p2:=af (k:=2) hA1' rfl;have p3:=af (k:=3) hA1' rfl;have p4:=af (k:=4) hA1' rfl;have p5:=af (k:=5) hA1' rfl;have p6:=af (k:=6) hA1' rfl;have p7:=af (k:=7) hA1' rfl;have p8:=af (k:=8) hA1' rfl;have s0:=af (k:=0) hA2' rfl;have s1:=af (k:=1) hA2' rfl;have s2:=af (k:=2) hA2' rfl;have s3:=af (k:=3) hA2' rfl;have s4:=af (k:=4) hA2' rfl;have s5:=af (k:=5) hA2' rfl;have s6:=af (k:=6) hA2' rfl;have s7:=af (k:=7) hA2' rfl;have s8:=af (k:=8) hA2' rfl;have f0:=fun j=>am (k:=j) hA2'
    clear hA1 hA2 hA1' hA2' hb9 l0 l1 l2 l3 l4 l5 l6 l7 l8 n0 n1 n2 k1 HFt
    go_wp2_with fail
    obtain ⟨hA2',hbF⟩:=HFin.out;have h9:=aj (aj (aj (aj (aj (aj (aj (aj (aj hA2' 0 (.int .u8 a)) 1 (.int .u8 b)) 2 (.int .u8 c)) 3 (.int .u8 d)) 4 (.int .u8 e)) 5 (.int .u8 f)) 6 (.string ⟨x.t.toArray⟩)) 7 (.func (.func x.a.id) #[] #[])) 8 (.func (.func x.b.id) #[] #[]);have h9:=h9.trans (show _=some (Obj.cells #[.int .u8 a,.int .u8 b,.int .u8 c,.int .u8 d,.int .u8 e,.int .u8 f,.string ⟨x.t.toArray⟩,.func (.func x.a.id) #[] #[],.func (.func x.b.id) #[] #[]] 220 (0,0)) by kernel_rfl);have hld:=UD (P:=Tryz.prog) _ (W.heap.size+1+1) 220 220 _ (0,0) _ h9 UP (by first|rfl|kernel_rfl) (by first|rfl|kernel_rfl);refine QV (v:=.agg #[.int .u8 a,.int .u8 b,.int .u8 c,.int .u8 d,.int .u8 e,.int .u8 f,.string ⟨x.t.toArray⟩,.func (.func x.a.id) #[] #[],.func (.func x.b.id) #[] #[]]) (fH (a:=4) (t:=220) (ad:=⟨W.heap.size+1+1,0,none⟩) (by kernel_rfl) (by rfl) hld) rfl ?_;refine ⟨by rw [HRo.out],?_⟩;have hle:=HBV.out.2;exact ((((((((hbF.setCell (p:=⟨W.heap.size+1+1,0,none⟩) hle _).setCell (p:=⟨W.heap.size+1+1,1,none⟩) hle _).setCell (p:=⟨W.heap.size+1+1,2,none⟩) hle _).setCell (p:=⟨W.heap.size+1+1,3,none⟩) hle _).setCell (p:=⟨W.heap.size+1+1,4,none⟩) hle _).setCell (p:=⟨W.heap.size+1+1,5,none⟩) hle _).setCell (p:=⟨W.heap.size+1+1,6,none⟩) hle _).setCell (p:=⟨W.heap.size+1+1,7,none⟩) hle _).setCell (p:=⟨W.heap.size+1+1,8,none⟩) hle _
   ·have hfit':x.fits n t.t=false:=by simpa using hfit
    have HNx:=show Hid ((tab.take (k+1)).find? (fun r=>r.fits n t.t)=none) from BQ _ tab k x hx HI.out hfit'
    rw [hfit'] at HFt;clear hxv hsix hix hUr hVU hNU hTU hRU hN hTk hRs hBV hx HI hfit hfit' HTab
    go_wp2_with (go_at_call 163;refine (HFt.out _).mono ?_;rintro e9 w9 ⟨rfl,hb9⟩;have HB9:=show Hid (Below V.heap.size V w9) from HVU.out.trans (hb9.mono HVU.out.size);clear hb9)
    exact ⟨⟨k+1,hlt,by go_num,HNx,HB9⟩,by simp [intOf];omega⟩
  ·obtain rfl:k=40:=by omega
   have hro:aG n t=LP:=by
    unfold aG;rw [IO hk];have:=HI.out;rw [RK (by rw [yz];omega)] at this;rw [this];rfl
   have HRo:=show Hid ((aG n t).v=.agg #[.int .u8 0,.int .u8 0,.int .u8 0,.int .u8 0,.int .u8 0,.int .u8 0,.string ⟨#[]⟩,.func (.func 164) #[] #[],.func (.func 164) #[] #[]]) from (by rw [hro];rfl)
   have hA2':=ag hRs HB.out;have HFin:=show Hid (wr.heap[W.heap.size+1+1]?=some (.cells #[.int .u8 0,.int .u8 0,.int .u8 0,.int .u8 0,.int .u8 0,.int .u8 0,.string ⟨#[]⟩,.nilFunc,.nilFunc] 220 (0,0))/\Below W.heap.size W wr) from ⟨hA2',hBV.trans (HB.out.mono hBV.size)⟩
   have s0:=af (k:=0) hA2' rfl;have s1:=af (k:=1) hA2' rfl;have s2:=af (k:=2) hA2' rfl;have s3:=af (k:=3) hA2' rfl;have s4:=af (k:=4) hA2' rfl;have s5:=af (k:=5) hA2' rfl;have s6:=af (k:=6) hA2' rfl;have s7:=af (k:=7) hA2' rfl;have s8:=af (k:=8) hA2' rfl;have f0:=fun j=>am (k:=j) hA2'
   clear hA2' hro hN hTk hRs hBV HTab HI
   go_wp2_with fail
   obtain ⟨hA2',hbF⟩:=HFin.out;have h9:=aj (aj (aj (aj (aj (aj (aj (aj (aj hA2' 0 (.int .u8 0)) 1 (.int .u8 0)) 2 (.int .u8 0)) 3 (.int .u8 0)) 4 (.int .u8 0)) 5 (.int .u8 0)) 6 (.string ⟨#[]⟩)) 7 (.func (.func 164) #[] #[])) 8 (.func (.func 164) #[] #[]);have h9:=h9.trans (show _=some (Obj.cells #[.int .u8 0,.int .u8 0,.int .u8 0,.int .u8 0,.int .u8 0,.int .u8 0,.string ⟨#[]⟩,.func (.func 164) #[] #[],.func (.func 164) #[] #[]] 220 (0,0)) by kernel_rfl);have hld:=UD (P:=Tryz.prog) _ (W.heap.size+1+1) 220 220 _ (0,0) _ h9 UP (by first|rfl|kernel_rfl) (by first|rfl|kernel_rfl);refine QV (v:=.agg #[.int .u8 0,.int .u8 0,.int .u8 0,.int .u8 0,.int .u8 0,.int .u8 0,.string ⟨#[]⟩,.func (.func 164) #[] #[],.func (.func 164) #[] #[]]) (fH (a:=4) (t:=220) (ad:=⟨W.heap.size+1+1,0,none⟩) (by kernel_rfl) (by rfl) hld) rfl ?_;refine ⟨by rw [HRo.out],?_⟩;have hle:W.heap.size<=W.heap.size+1+1:=by omega
   exact ((((((((hbF.setCell (p:=⟨W.heap.size+1+1,0,none⟩) hle _).setCell (p:=⟨W.heap.size+1+1,1,none⟩) hle _).setCell (p:=⟨W.heap.size+1+1,2,none⟩) hle _).setCell (p:=⟨W.heap.size+1+1,3,none⟩) hle _).setCell (p:=⟨W.heap.size+1+1,4,none⟩) hle _).setCell (p:=⟨W.heap.size+1+1,5,none⟩) hle _).setCell (p:=⟨W.heap.size+1+1,6,none⟩) hle _).setCell (p:=⟨W.heap.size+1+1,7,none⟩) hle _).setCell (p:=⟨W.heap.size+1+1,8,none⟩) hle _
theorem AX (n:Nd) (t:Tv) (W:World) :
  Ra 125 #[.agg #[.int .u8 n.k,.int .i64 n.b,.bool n.s],.agg #[.int .u8 t.k,.string t.t,.int .i64 t.a,.int .i64 t.l,.int .i64 t.c,.int .i64 t.f]] W fun e w'=>e=.returned (aG n t).v/\Below W.heap.size W w':=by
 by_cases hk:t.k=2\/t.k=6
 ·exact AW n t W hk
 ·have hro:aG n t=LP:=by unfold aG;rw [Eq hk]
  have HRo:=show Hid ((aG n t).v=.agg #[.int .u8 0,.int .u8 0,.int .u8 0,.int .u8 0,.int .u8 0,.int .u8 0,.string ⟨#[]⟩,.func (.func 164) #[] #[],.func (.func 164) #[] #[]]) from (by rw [hro];rfl)
  have q1:(t.k == 2)=false:=by simp;exact fun h=>hk (.inl h)
  have q2:(t.k == 6)=false:=by simp;exact fun h=>hk (.inr h)
  obtain ⟨U,hU⟩:∃U,(W.alloc (.cells #[.int .u8 n.k,.int .i64 n.b,.bool n.s] 208)).alloc (.cells #[.int .u8 t.k,.string t.t,.int .i64 t.a,.int .i64 t.l,.int .i64 t.c,.int .i64 t.f] 51)=U:=⟨_,rfl⟩;have hsz:U.heap.size=W.heap.size+1+1:=by rw [<-hU];show ((W.heap.push _).push _).size=_;simp
  have hUb:Below W.heap.size W U:=by rw [<-hU];exact ((hH _ _).alloc (gt _) _).alloc (by show _<=(W.heap.push _).size;simp) _
  have h9:=au U (.cells #[.int .u8 0,.int .u8 0,.int .u8 0,.int .u8 0,.int .u8 0,.int .u8 0,.string ⟨#[]⟩,.func (.func 164) #[] #[],.func (.func 164) #[] #[]] 220);rw [hsz] at h9;have hld:=UD (P:=Tryz.prog) _ (W.heap.size+1+1) 220 220 _ (0,0) _ h9 UP (by first|rfl|kernel_rfl) (by first|rfl|kernel_rfl);have hBf:Below W.heap.size W (U.alloc (.cells #[.int .u8 0,.int .u8 0,.int .u8 0,.int .u8 0,.int .u8 0,.int .u8 0,.string ⟨#[]⟩,.func (.func 164) #[] #[],.func (.func 164) #[] #[]] 220)):=hUb.alloc hUb.size _;rw [<-hU] at hld hBf;have HLd:=ai hld;have HBf:=ai hBf;clear hld hBf h9 hsz hUb hU hro hk
  go_enter Tryz.func125,Tryz.ntmps125
  go_wp2_with fail
  refine QV (v:=.agg #[.int .u8 0,.int .u8 0,.int .u8 0,.int .u8 0,.int .u8 0,.int .u8 0,.string ⟨#[]⟩,.func (.func 164) #[] #[],.func (.func 164) #[] #[]]) (fH (a:=4) (t:=220) (ad:=⟨W.heap.size+1+1,0,none⟩) (by kernel_rfl) (by rfl) HLd.out) rfl ?_;exact ⟨by rw [HRo.out],HBf.out⟩
end Go.Proofs.YtjiepkenkcgkhaaGreatDoor
