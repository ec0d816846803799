import Derived.Test.YtpdlohfdjiaegaaGreatDoorM32
set_option linter.unusedVariables false
set_option linter.unusedSimpArgs false
namespace Go.Proofs.YtpdlohfdjiaegaaGreatDoor
open Go.RowKit
open Lw (Dc bE rt frm dep rtT rtN dcs dcs_len dcs_one)
theorem Mw.below {S:Nat→Prop}{W W1 W2:World}{g:Nat}{st:Sy}(h:Mw S g W W1 st) (hb:Below W1.heap.size W1 W2):Mw S g W W2 st:=by
 obtain ⟨S1,t1,u1⟩:=Mw.seq h
 exact u1 _ _ ⟨⟨S1,t1.below hb,fun _ h=>.inl h⟩,Kp.of_below hb⟩
def endN (st:Sy) (n:Nd) (r:List Nd) (j:Nat):Sy:={ st with ns:=⟨n.k,n.b-j,n.s⟩ :: r,ws:=st.ws++List.replicate j dX }
theorem endN_zero {st:Sy}{n:Nd}{r:List Nd}(e:st.ns=n :: r):endN st n r 0=st:=by
 unfold endN
 rw [List.replicate_zero,List.append_nil,Nat.sub_zero,←e]
theorem endN_succ {st:Sy}{n:Nd}{r:List Nd}{j:Nat}(hj:j<n.b):(endN st n r j).aw .X=endN st n r (j+1):=by
 unfold Sy.aw endN
 have h1:awN .X ((⟨n.k,n.b-j,n.s⟩:Nd) :: r)=⟨n.k,n.b-(j+1),n.s⟩ :: r:=by
  simp only [awN];rw [if_pos trivial];show (⟨n.k,n.b-j-1,n.s⟩:Nd) :: r=_;rw [Nat.sub_sub]
 have h2:awW .X ((⟨n.k,n.b-j,n.s⟩:Nd) :: r)=[dX]:=by
  unfold awW;rw [if_neg (by simp;omega)];rfl
 show ({ st with ns:=awN .X ((⟨n.k,n.b-j,n.s⟩:Nd) :: r),ws:=(st.ws++List.replicate j dX)++awW .X ((⟨n.k,n.b-j,n.s⟩:Nd) :: r) }:Sy)=_
 rw [h1,h2,List.append_assoc,List.replicate_succ']
theorem endN_bz {m:Nat}{st:Sy}{n:Nd}{r:List Nd}(e:st.ns=n :: r) (h:Bz m st) (j:Nat) (hj:j≤n.b):Bz (2*m) (endN st n r j):=by
 obtain ⟨h1,h2,h3⟩:=h
 rw [e] at h2 h3
 have hm:=h3 n List.mem_cons_self
 refine ⟨?_,?_,?_⟩
 ·show (st.ws++List.replicate j dX).length≤_
  rw [List.length_append,List.length_replicate];omega
 ·show ((⟨n.k,n.b-j,n.s⟩:Nd) :: r).length≤_
  simp at h2 ⊢;omega
 ·intro x hx
  rcases List.mem_cons.1 (show x∈(⟨n.k,n.b-j,n.s⟩:Nd) :: r from hx) with rfl|hx
  ·show n.b-j≤_;omega
  ·have:=h3 x (List.mem_cons_of_mem _ hx);omega
theorem SS.pop {S:Nat→Prop}{W:World}{g:Nat}{st:Sy}(h:SS S W g st) {b cap:Nat}{n:Nd}{r:List Nd}(e:st.ns=n :: r) (hc:W.cell? ⟨g,1,none⟩=some (.slice (some ⟨b,0,none⟩) (r.length+1) cap)) :
  W.frozen? ⟨g,1,none⟩=false∧r.length+1≤cap∧Mw S g W (W.setCell ⟨g,1,none⟩ (.slice (some ⟨b,0,none⟩) r.length cap)) { st with ns:=r }:=by
 obtain ⟨vn,vw,hv,s1,s2⟩:=h.ex
 have e1:vn=.slice (some ⟨b,0,none⟩) (r.length+1) cap:=by have:=hv.sb.cells.2.1;rw [hc] at this;exact (Option.some.inj this).symm
 subst e1
 have hn:Rn tN W (.slice (some ⟨b,0,none⟩) (r.length+1) cap) (n :: r):=by rw [←e];exact hv.rn
 have hp:=rn_pop hn
 obtain ⟨_,_,e2,_,hcc⟩:=rn_some hn
 cases e2
 refine ⟨hv.sb.frozen 1,hcc,Mw.mk' (vn:=.slice (some ⟨b,0,none⟩) r.length cap) (vw:=vw) ⟨blk_set hv.sb 1 _,(Kp.set _ _ _ _).row hp (fun k e1 e2=>row_ne hp hv.sb (by decide) (by rw [e1,e2])),(Kp.set _ _ _ _).row hv.rd (fun k e1 e2=>row_ne hv.rd hv.sb (by decide) (by rw [e1,e2]))⟩ h.sg (fun k e=>.inl (s1 k e)) (fun k e=>.inl (s2 k e)) ((Kp.set _ _ _ _).sub (fun k e=>by rw [e];exact h.sg))⟩
set_option maxHeartbeats 2000000 in
theorem leave_any {S:Nat→Prop}{W:World}{g:Nat}{st:Sy}(h:SS S W g st) (hz:Bz 400000000 st) {n:Nd}{r:List Nd}(e:st.ns=n :: r) :
  Calls Tryz.prog 36 #[spg g] W fun rr w'=>rr=.returned (.tuple #[])∧Mw S g W w' st.leaves:=by
 obtain ⟨b,cap,hc,_⟩:=h.nodes e
 have hr9:r.length≤900000000:=by have:=hz.2.1;rw [e] at this;simp at this;omega
 have hb9:n.b≤400000000:=hz.2.2 n (by rw [e];exact List.mem_cons_self)
 have HI:Hid (Calls Tryz.prog 62 #[spg g] W fun rr w'=>rr=.returned (.pointer (some ⟨b,r.length*3,none⟩))∧Below W.heap.size W w'):=inner_any hc (by omega)
 have HE:Hid (∀j V,j<n.b→Mv S g W V (endN st n r j)→Calls Tryz.prog 68 #[spg g] V fun rr w'=>rr=.returned (.tuple #[])∧Mv S g W w' (endN st n r (j+1))):=fun j V hj hV=>by
  obtain ⟨S1,t1,u1⟩:=Mv.seq hV
  refine (end_any t1 (by show (_ :: _:List Nd)≠[];simp) ((endN_bz e hz j (by omega)).mono (by omega))).mono ?_
  rintro rr w' ⟨rfl,m⟩
  rw [endN_succ hj] at m
  exact ⟨rfl,u1 _ _ m⟩
 have HH:Hid (∀V,Mv S g W V (endN st n r n.b)→Calls Tryz.prog 69 #[spg g] V fun rr w'=>rr=.returned (.tuple #[])∧Mv S g W w' ((endN st n r n.b).aw .H)):=fun V hV=>by
  obtain ⟨S1,t1,u1⟩:=Mv.seq hV
  refine (fx_hard0 t1 (by show (_ :: _:List Nd)≠[];simp) ((endN_bz e hz n.b (Nat.le_refl _)).mono (by omega))).mono ?_
  rintro rr w' ⟨rfl,m⟩
  exact ⟨rfl,u1 _ _ m⟩
 have HC:Hid (∀j V,Mv S g W V (endN st n r j)→V.cell? ⟨b,r.length*3+1,none⟩=some (.int .i64 ((n.b-j:Nat):Int))∧V.cell? ⟨b,r.length*3,none⟩=some (.int .u8 n.k)):=fun j V hV=>by
  obtain ⟨S1,t1,u1⟩:=Mv.seq hV
  obtain ⟨a0,a1,a2⟩:=t1.cells2 (n:=⟨n.k,n.b-j,n.s⟩) (r:=r) rfl (hV.2.2.trans hc)
  exact ⟨a1,a0⟩
 have HF:Hid (∀V st',Mv S g W V st'→(∃n',st'.ns=n' :: r)→V.cell? ⟨g,1,none⟩=some (.slice (some ⟨b,0,none⟩) (r.length+1) cap)∧V.frozen? ⟨g,1,none⟩=false∧r.length+1≤cap∧Mw S g W (V.setCell ⟨g,1,none⟩ (.slice (some ⟨b,0,none⟩) r.length cap)) { st' with ns:=r }):=fun V st' hV ⟨n',en⟩=>by
  obtain ⟨S1,t1,u1⟩:=Mw.seq hV.w
  have hc1:=hV.2.2.trans hc
  obtain ⟨a1,a2,a3⟩:=t1.pop en hc1
  exact ⟨hc1,a1,a2,u1 _ _ a3⟩
 have HL1:Hid (n.k=1→({ ((endN st n r n.b).aw .H) with ns:=r }:Sy)=st.leaves):=fun h1=>by
  unfold Sy.leaves;rw [e];simp only;rw [if_pos h1];rfl
 have HL2:Hid (n.k≠1→({ (endN st n r n.b) with ns:=r }:Sy)=st.leaves):=fun h1=>by
  unfold Sy.leaves;rw [e];simp only;rw [if_neg h1,List.append_nil];rfl
 have HS:Hid (∀V,Below W.heap.size W V→Mv S g W V (endN st n r 0)):=fun V hb=>by rw [endN_zero e];exact Mv.quiet h hb
 clear h hz e hc
 have q3:IntKind.i64.wrap (r.length:Int)=r.length:=by rw [IntKind.wrap_i64];omega
 go_enter Tryz.func36,Tryz.ntmps36
 go_wp2_with (go_at_call 62;refine HI.out.mono ?_;rintro r1 w1 ⟨rfl,hb1⟩;have HB:=show Hid (Below W.heap.size W w1) from hb1;clear hb1)
 go_loopw [] (fun wr=>∃j:Nat,j≤n.b∧Hid (Mv S g W wr (endN st n r j))) (fun wr=>match wr.cell? ⟨b,r.length*3+1,none⟩ with|some v=>(intOf v).toNat|none=>0)
 case atStart=>exact ⟨0,Nat.zero_le _,HS.out _ HB.out⟩
 case round=>
  obtain ⟨j,hj,HJ⟩:=hrel
  obtain ⟨x1,x0⟩:=HC.out j _ HJ.out
  by_cases hlt:j<n.b
  ·have q1:(0:Int)<((n.b-j:Nat):Int):=by omega
   go_wp2_with (go_at_call 68;refine (HE.out j _ hlt HJ.out).mono ?_;rintro r2 w2 ⟨rfl,m2⟩;have HM:=show Hid (Mv S g W w2 (endN st n r (j+1))) from m2;clear m2)
   refine ⟨⟨j+1,hlt,HM⟩,?_⟩
   rw [(HC.out (j+1) _ HM.out).1,x1]
   simp [intOf]
   omega
  ·obtain rfl:j=n.b:=by omega
   have x2:wr.cell? ⟨b,r.length*3+1,none⟩=some (.int .i64 0):=by rw [x1];simp
   clear x1
   by_cases h1:n.k=1
   ·have q2:(n.k == 1)=true:=by simpa using h1
    have HL:=show Hid (({ ((endN st n r n.b).aw .H) with ns:=r }:Sy)=st.leaves) from HL1.out h1
    clear HL1 HL2 h1 hlt
    have y6:(0:Int)≤(r.length:Int):=by omega
    go_upto_region 5 with (go_at_call 69;refine (HH.out _ HJ.out).mono ?_;rintro r2 w2 ⟨rfl,m2⟩;obtain ⟨y1,y2,y3,y4⟩:=HF.out _ _ m2 ⟨_,rfl⟩;rw [HL.out] at y4;have HY:=show Hid (Mw S g W (w2.setCell ⟨g,1,none⟩ (.slice (some ⟨b,0,none⟩) r.length cap)).drew st.leaves) from y4.below ((Below.refl _ _).drew);clear y4 m2)
    have y5:(r.length:Int)≤(cap:Int):=by omega
    go_region_law (fail)
    all_goals (
     go_wp2_with fail
     go_end0
     exact ⟨rfl,HY.out⟩)
   ·have q2:(n.k == 1)=false:=by simpa using h1
    have HL:=show Hid (({ (endN st n r n.b) with ns:=r }:Sy)=st.leaves) from HL2.out h1
    obtain ⟨y1,y2,y3,y4⟩:=HF.out _ _ HJ.out ⟨_,rfl⟩
    rw [HL.out] at y4
    have HY:=show Hid (Mw S g W (wr.setCell ⟨g,1,none⟩ (.slice (some ⟨b,0,none⟩) r.length cap)).drew st.leaves) from y4.below ((Below.refl _ _).drew)
    clear y4 HL1 HL2 h1 hlt HL
    have y5:(r.length:Int)≤(cap:Int):=by omega
    have y6:(0:Int)≤(r.length:Int):=by omega
    go_wp2_with fail
    go_region_law (fail)
    all_goals (
     go_wp2_with fail
     go_end0
     exact ⟨rfl,HY.out⟩)
def Eb (W:World) (E:Nat) (e:Ev):Prop:=W.heap[E]?=some (.cells #[.int .u8 e.k,.int .u8 e.n,.int .u8 e.d.k,.string e.d.t,.int .i64 e.d.a,.int .i64 e.d.l,.int .i64 e.d.c,.int .i64 e.d.f] 39 (0,0))
theorem Eb.cells {W:World}{E:Nat}{e:Ev}(h:Eb W E e):W.cell? ⟨E,0,none⟩=some (.int .u8 e.k)∧W.cell? ⟨E,1,none⟩=some (.int .u8 e.n)∧W.cell? ⟨E,2,none⟩=some (.int .u8 e.d.k)∧W.cell? ⟨E,3,none⟩=some (.string e.d.t)∧W.cell? ⟨E,4,none⟩=some (.int .i64 e.d.a)∧W.cell? ⟨E,5,none⟩=some (.int .i64 e.d.l)∧W.cell? ⟨E,6,none⟩=some (.int .i64 e.d.c)∧W.cell? ⟨E,7,none⟩=some (.int .i64 e.d.f):=
 ⟨blk_cell h rfl,blk_cell h rfl,blk_cell h rfl,blk_cell h rfl,blk_cell h rfl,blk_cell h rfl,blk_cell h rfl,blk_cell h rfl⟩
set_option maxHeartbeats 2000000 in
theorem takes_any {S:Nat→Prop}{W:World}{g:Nat}{st:Sy}(h:SS S W g st) (hz:st.ns.length≤900000000) (e:Ev) (ht:e.d.t.size≤9223372036854775807) :
  Calls Tryz.prog 34 #[spg g,.agg #[.int .u8 e.k,.int .u8 e.n,.int .u8 e.d.k,.string e.d.t,.int .i64 e.d.a,.int .i64 e.d.l,.int .i64 e.d.c,.int .i64 e.d.f]] W fun rr w'=>rr=.returned (.bool (st.may e))∧Below W.heap.size W w':=by
 obtain ⟨V,hV⟩:∃V,W.alloc (.cells #[.int .u8 e.k,.int .u8 e.n,.int .u8 e.d.k,.string e.d.t,.int .i64 e.d.a,.int .i64 e.d.l,.int .i64 e.d.c,.int .i64 e.d.f] 39)=V:=⟨_,rfl⟩
 have hB:Below W.heap.size W V:=by rw [←hV];exact (Below.refl _ _).alloc (Nat.le_refl _) _
 have hE:Eb V W.heap.size e:=by rw [←hV];exact new_at _ _
 have HV:Hid (W.alloc (.cells #[.int .u8 e.k,.int .u8 e.n,.int .u8 e.d.k,.string e.d.t,.int .i64 e.d.a,.int .i64 e.d.l,.int .i64 e.d.c,.int .i64 e.d.f] 39)=V):=hV
 have hs:=h.below hB
 obtain ⟨m0,m1,m2,m3,m4,m5,m6,m7⟩:=hE.cells
 have HF:Hid (∀X,Below V.heap.size V X→Below W.heap.size W X):=fun X hX=>hB.trans (hX.mono hB.size)
 have HD:Hid (∀m,Below W.heap.size W (V.drewN m)):=fun m=>bel_dn hB m
 have HT:Hid (∀X,Calls Tryz.prog 63 #[.string e.d.t] X fun r w'=>r=.returned (.bool (rtT e.d.t))∧w'=X):=stext_any e.d.t ht
 have HC:Hid (∀X,Calls Tryz.prog 64 #[.agg #[.int .u8 e.d.k,.string e.d.t,.int .i64 e.d.a,.int .i64 e.d.l,.int .i64 e.d.c,.int .i64 e.d.f]] X fun r w'=>r=.returned (.bool (decide (e.d.k=7∨e.d.k=8)))∧Below X.heap.size X w'):=isCm_any e.d
 have HB0:Hid (Below W.heap.size W V):=hB
 cases hn:st.ns with
 |nil=>
  have hc1:∃p c,V.cell? ⟨g,1,none⟩=some (.slice p 0 c):=by
   obtain ⟨vn,vw,hv,_⟩:=hs.ex
   obtain ⟨p,c,ee,_⟩:=row_shape hv.rn
   rw [hn] at ee
   exact ⟨p,c,by rw [←show vn=.slice p 0 c from ee];exact hv.sb.cells.2.1⟩
  obtain ⟨p,c,c1⟩:=hc1
  have HM:Hid (st.may e=(if e.k=1 then decide (1≤e.n) && decide (e.n≤32) else false)):=by
   show _=_
   unfold Sy.may
   rw [hn]
   by_cases a1:e.k=1 <;> by_cases a2:e.k=3 <;> by_cases a3:e.k=2 <;> by_cases a4:e.k=4 <;> simp [a1,a2,a3,a4]
  clear h hs hB hE hn hV hz
  by_cases a1:e.k=1
  ·have q1:(e.k == 1)=true:=by simpa using a1
   have HM2:Hid (st.may e=(decide (1≤e.n) && decide (e.n≤32))):=by rw [HM.out,if_pos a1];exact rfl
   clear HM a1
   go_enter Tryz.func34,Tryz.ntmps34
   go_upto_region 1 with fail
   rw [HV.out]
   go_wp2_with fail
   all_goals (go_ret;rw [HM2.out];refine ⟨?_,HB0.out⟩;simp_all <;> omega)
  ·have HM2:Hid (st.may e=false):=by rw [HM.out,if_neg a1];exact rfl
   have q1:(e.k == 1)=false:=by simpa using a1
   clear HM a1
   by_cases a2:e.k=3
   ·have q2:(e.k == 3)=true:=by simpa using a2
    clear a2
    go_enter Tryz.func34,Tryz.ntmps34
    go_upto_region 1 with fail
    rw [HV.out]
    go_wp2_with fail
    go_quiet (fail)
    go_wp2_with fail
    go_ret
    rw [HM2.out]
    exact ⟨rfl,HD.out _⟩
   ·have q2:(e.k == 3)=false:=by simpa using a2
    by_cases a3:e.k=2
    ·have q3:(e.k == 2)=true:=by simpa using a3
     clear a2 a3
     go_enter Tryz.func34,Tryz.ntmps34
     go_upto_region 1 with fail
     rw [HV.out]
     go_wp2_with fail
     go_ret
     rw [HM2.out]
     exact ⟨rfl,HB0.out⟩
    ·have q3:(e.k == 2)=false:=by simpa using a3
     by_cases a4:e.k=4
     ·have q4:(e.k == 4)=true:=by simpa using a4
      clear a2 a3 a4
      go_enter Tryz.func34,Tryz.ntmps34
      go_upto_region 1 with fail
      rw [HV.out]
      go_wp2_with fail
      go_ret
      rw [HM2.out]
      exact ⟨rfl,HB0.out⟩
     ·have q4:(e.k == 4)=false:=by simpa using a4
      clear a2 a3 a4
      go_enter Tryz.func34,Tryz.ntmps34
      go_upto_region 1 with fail
      rw [HV.out]
      go_wp2_with fail
      go_ret
      rw [HM2.out]
      exact ⟨rfl,HB0.out⟩
 |cons n r=>
  obtain ⟨b,cap,hc,y0,y1,y2,y3⟩:=hs.nodes hn
  have HI:Hid (∀X,Below V.heap.size V X→Calls Tryz.prog 62 #[spg g] X fun rr w'=>rr=.returned (.pointer (some ⟨b,r.length*3,none⟩))∧Below X.heap.size X w'):=fun X hX=>inner_any (cell_up hc hX) (by rw [hn] at hz;simp at hz;omega)
  have q0:(0:Int)<(r.length:Int)+1:=by omega
  have HM:Hid (st.may e=(if e.k=1 then decide (1≤e.n) && decide (e.n≤32) else if e.k=3 then decide (n.k=e.n) else if e.k=2 then rtT e.d.t else if e.k=4 then (rtT e.d.t && decide (e.d.k=7∨e.d.k=8)) else false)):=by
   show _=_
   unfold Sy.may
   rw [hn]
   by_cases a1:e.k=1 <;> by_cases a2:e.k=3 <;> by_cases a3:e.k=2 <;> by_cases a4:e.k=4 <;> simp [a1,a2,a3,a4]
  clear h hs hB hE hn hV hz y3
  by_cases a1:e.k=1
  ·have q1:(e.k == 1)=true:=by simpa using a1
   have HM2:Hid (st.may e=(decide (1≤e.n) && decide (e.n≤32))):=by rw [HM.out,if_pos a1];exact rfl
   clear HM a1
   go_enter Tryz.func34,Tryz.ntmps34
   go_upto_region 1 with fail
   rw [HV.out]
   go_wp2_with fail
   all_goals (go_ret;rw [HM2.out];refine ⟨?_,HB0.out⟩;simp_all <;> omega)
  ·rw [if_neg a1] at HM
   have q1:(e.k == 1)=false:=by simpa using a1
   clear a1
   by_cases a2:e.k=3
   ·rw [if_pos a2] at HM
    have q2:(e.k == 3)=true:=by simpa using a2
    clear a2
    have HM2:Hid (st.may e=(n.k == e.n)):=by rw [HM.out];show _=_;by_cases a:n.k=e.n <;> simp [a]
    have hc1:∀x:HW (SG V),x.W.cell? ⟨W.heap.size,1,none⟩=some (.int .u8 e.n):=fun x=>cell_up m1 x.h
    have hc0:∀x:HW (SG V),x.W.cell? ⟨b,r.length*3,none⟩=some (.int .u8 n.k):=fun x=>cell_up y0 x.h
    have hne:Nonempty (HW (SG V)):=⟨⟨V.drew,(Below.refl _ _).drew⟩⟩
    have hex:∀x:HW (SG V),∃y:HW (SG V),x.W=y.W:=fun x=>⟨x,rfl⟩
    have KT:Hid (∀x:HW (SG V),Calls Tryz.prog 62 #[spg g] x.W fun rr w'=>rr=.returned (.pointer (some ⟨b,r.length*3,none⟩))∧Below x.W.heap.size x.W w'):=fun x=>HI.out x.W x.h
    go_enter Tryz.func34,Tryz.ntmps34
    go_upto_region 1 with fail
    rw [HV.out]
    go_upto_region 6 with fail
    refine wp_region_quiet_in (S:=SG V) (by kernel_rfl) (by kernel_rfl) (Below.refl _ _).drew ?_
    repeat (go_big_quiet_step ((go_at_call 62;exact Calls.quiet_in _ (KT.out _) (fun _ _=>SG.keep))))
    refine wpQuiet_nil ?_
    rintro w5 ⟨⟨W5,hS5⟩,rfl⟩
    have HS5:Hid (Below V.heap.size V w5):=hS5
    clear hc0 hc1 hS5 hne hex
    go_wp2_with fail
    go_ret
    rw [HM2.out]
    exact ⟨rfl,HF.out _ HS5.out⟩
   ·rw [if_neg a2] at HM
    have q2:(e.k == 3)=false:=by simpa using a2
    clear a2
    by_cases a3:e.k=2
    ·rw [if_pos a3] at HM
     have q3:(e.k == 2)=true:=by simpa using a3
     clear a3
     go_enter Tryz.func34,Tryz.ntmps34
     go_upto_region 1 with fail
     rw [HV.out]
     go_wp2_with (go_at_call 63;refine (HT.out _).mono ?_;rintro r2 w2 ⟨rfl,rfl⟩)
     go_ret
     rw [HM.out]
     exact ⟨rfl,HB0.out⟩
    ·rw [if_neg a3] at HM
     have q3:(e.k == 2)=false:=by simpa using a3
     clear a3
     by_cases a4:e.k=4
     ·rw [if_pos a4] at HM
      have q4:(e.k == 4)=true:=by simpa using a4
      clear a4
      generalize rtT e.d.t=bt at *
      generalize decide (e.d.k=7∨e.d.k=8)=bc at *
      cases bt
      ·go_enter Tryz.func34,Tryz.ntmps34
       go_upto_region 1 with fail
       rw [HV.out]
       go_wp2_with (go_at_call 63;refine (HT.out _).mono ?_;rintro r2 w2 ⟨rfl,rfl⟩)
       go_ret
       rw [HM.out]
       exact ⟨rfl,HB0.out⟩
      ·go_enter Tryz.func34,Tryz.ntmps34
       go_upto_region 1 with fail
       rw [HV.out]
       go_wp2_with (first|(go_at_call 63;refine (HT.out _).mono ?_;rintro r2 w2 ⟨rfl,rfl⟩)|(go_at_call 64;refine (HC.out _).mono ?_;rintro r3 w3 ⟨rfl,hb3⟩;have HB3:=show Hid (Below W.heap.size W w3) from HF.out _ hb3;clear hb3))
       go_ret
       rw [HM.out]
       exact ⟨rfl,HB3.out⟩
     ·rw [if_neg a4] at HM
      have q4:(e.k == 4)=false:=by simpa using a4
      clear a4
      go_enter Tryz.func34,Tryz.ntmps34
      go_upto_region 1 with fail
      rw [HV.out]
      go_wp2_with fail
      go_ret
      rw [HM.out]
      exact ⟨rfl,HB0.out⟩
end Go.Proofs.YtpdlohfdjiaegaaGreatDoor
