import Derived.Test.YtpdlohfdjiaegaaGreatDoorM27
set_option linter.unusedVariables false
set_option linter.unusedSimpArgs false
namespace Go.Proofs.YtpdlohfdjiaegaaGreatDoor
open Go.RowKit
open Lw (Dc bE rt frm dep rtT rtN dcs dcs_len dcs_one)
def Bz (n:Nat) (st:Sy):Prop:=st.ws.length≤n∧st.ns.length≤n∧∀x∈st.ns,x.b≤n
theorem Bz.mono {n m:Nat}{st:Sy}(h:Bz n st) (hm:n≤m):Bz m st:=⟨by have:=h.1;omega,by have:=h.2.1;omega,fun x hx=>by have:=h.2.2 x hx;omega⟩
theorem awN_len (p:Pz) (l:List Nd):(awN p l).length=l.length:=by cases l <;> rfl
theorem awW_len (p:Pz) (l:List Nd):(awW p l).length≤1:=by unfold awW;split <;> simp
theorem Bz.aw {n:Nat}{st:Sy}(h:Bz n st) (p:Pz):Bz (n+1) (st.aw p):=by
 obtain ⟨h1,h2,h3⟩:=h
 refine ⟨?_,?_,?_⟩
 ·show (st.ws++awW p st.ns).length≤_
  have:=awW_len p st.ns
  rw [List.length_append];omega
 ·show (awN p st.ns).length≤_
  rw [awN_len];omega
 ·intro x hx
  have hx':x∈awN p st.ns:=hx
  cases hc:st.ns with
  |nil=>rw [hc] at hx';simp [awN] at hx'
  |cons m r=>
   rw [hc] at hx' h3
   simp only [awN,List.mem_cons] at hx'
   have hm:=h3 m List.mem_cons_self
   have hp:p.n≤1:=by cases p <;> simp [Pz.n]
   rcases hx' with rfl|hx'
   ·split
    ·show m.b-1≤_;omega
    ·show m.b+p.n≤_;omega
   ·have:=h3 x (List.mem_cons_of_mem _ hx');omega
theorem aw_ne {st:Sy}(h:st.ns≠[]) (p:Pz):(st.aw p).ns≠[]:=by
 intro e
 have:(awN p st.ns).length=0:=by rw [show awN p st.ns=[] from e];rfl
 rw [awN_len] at this
 exact h (List.eq_nil_of_length_eq_zero this)
theorem Mv.seq {S:Nat→Prop}{W W1:World}{g:Nat}{st:Sy}(h:Mv S g W W1 st):∃S1,SS S1 W1 g st∧∀W2 st2,Mv S1 g W1 W2 st2→Mv S g W W2 st2:=by
 obtain ⟨⟨S1,s1,s2⟩,hk,hc⟩:=h
 refine ⟨S1,s1,?_⟩
 rintro W2 st2 ⟨⟨S2,t1,t2⟩,hk2,hc2⟩
 refine ⟨⟨S2,t1,fun k hk'=>?_⟩,hk.step hk2 (fun k hlt hs=>?_),hc2.trans hc⟩
 ·rcases t2 k hk' with a|a
  ·exact s2 k a
  ·exact .inr (Nat.le_trans hk.size a)
 ·rcases s2 k hs with a|a
  ·exact a
  ·omega
set_option maxHeartbeats 1000000 in
theorem end_any {S:Nat→Prop}{W:World}{g:Nat}{st:Sy}(h:SS S W g st) (hns:st.ns≠[]) (hz:Bz 1000000000 st) :
  Calls Tryz.prog 68 #[spg g] W fun r w'=>r=.returned (.tuple #[])∧Mv S g W w' (st.aw .X):=by
 obtain ⟨vn,vw,hv,s1,s2⟩:=h.ex
 obtain ⟨n,r,en⟩:∃n r,st.ns=n :: r:=by
  cases hc:st.ns with
  |nil=>exact absurd hc hns
  |cons n r=>exact ⟨n,r,rfl⟩
 have hn1:=hv.rn
 rw [en] at hn1
 obtain ⟨b,cap,rfl,hc1,hc2⟩:=rn_some hn1
 have hnl:=hz.2.1
 rw [en] at hnl
 have HI:Hid (Calls Tryz.prog 62 #[spg g] W fun r' w'=>r'=.returned (.pointer (some ⟨b,r.length*3,none⟩))∧Below W.heap.size W w'):=inner_any hv.sb.cells.2.1 (by simp at hnl;omega)
 have hnb:n.b≤1000000000:=hz.2.2 n (by rw [en];exact List.mem_cons_self)
 have eN:awN .X st.ns=⟨n.k,n.b-1,n.s⟩ :: r:=by rw [en];rfl
 have hsg:=h.sg
 have HV:Hid (∀V,Below W.heap.size W V→SV V g st (.slice (some ⟨b,0,none⟩) (r.length+1) cap) vw∧V.cell? ⟨b,r.length*3+1,none⟩=some (.int .i64 n.b)):=fun V hb=>by
  have a3:=hv.below hb
  refine ⟨a3,?_⟩
  have a4:=a3.rn
  rw [en] at a4
  exact (rn_cells a4).2.1
 by_cases h0:n.b=0
 ·have eW:awW .X st.ns=[]:=by unfold awW;rw [en];simp [h0]
  have HX:Hid (∀V,Below W.heap.size W V→Mv S g W V (st.aw .X)):=fun V hb=>by
   have e9:st.aw .X=st:=by
    unfold Sy.aw
    rw [eN,eW,List.append_nil,h0]
    have:(⟨n.k,0-1,n.s⟩:Nd)=n:=by cases n;simp at h0;subst h0;rfl
    rw [this,←en]
   rw [e9]
   exact Mv.quiet h hb
  rw [h0] at HV
  clear hv hn1 h s1 s2 eN eW hz hnl hnb en hns h0
  go_enter Tryz.func68,Tryz.ntmps68
  go_wp2_with (go_at_call 62;refine HI.out.mono ?_;rintro r2 w2 ⟨rfl,hb2⟩;have x1:=(HV.out _ hb2).2;have HM:=show Hid (Mv S g W w2 (st.aw .X)) from HX.out _ hb2;clear hb2)
  go_end0
  exact ⟨rfl,HM.out⟩
 ·have eW:awW .X st.ns=[dX]:=by unfold awW;rw [en];simp [h0,Pz.d]
  have q0:decide ((0:Int)<(n.b:Int))=true:=by simp;omega
  have q1:(0:Int)<(n.b:Int):=by omega
  have q2:IntKind.i64.wrap ((n.b:Int)-1)=((n.b-1:Nat):Int):=by rw [IntKind.wrap_i64];omega
  have HW:Hid (∀V,Below W.heap.size W V→Calls Tryz.prog 119 #[spg g,.agg #[.int .u8 7,.string ⟨#[]⟩,.int .i64 0,.int .i64 0,.bool false]] V fun rr w'=>rr=.returned (.tuple #[])∧WP V w' g st (.slice (some ⟨b,0,none⟩) (r.length+1) cap) vw (st.ws++[dX])):=fun V hb=>wait_any (HV.out V hb).1 dX hz.1
  have HE:Hid (∀V w2,Below W.heap.size W V→WP V w2 g st (.slice (some ⟨b,0,none⟩) (r.length+1) cap) vw (st.ws++[dX])→(w2.cell? ⟨b,r.length*3+1,none⟩=some (.int .i64 n.b)∧w2.frozen? ⟨b,r.length*3+1,none⟩=false)∧Mv S g W (w2.setCell ⟨b,r.length*3+1,none⟩ (.int .i64 ((n.b-1:Nat):Int))) (st.aw .X)):=fun V w2 hb hp1=>by
   obtain ⟨vw',a3,a2⟩:=hp1.ex
   have a4:Rn tN w2 (.slice (some ⟨b,0,none⟩) (r.length+1) cap) (n :: r):=by have:=a3.rn;rw [show ({ st with ws:=st.ws++[dX] }:Sy).ns=n :: r from en] at this;exact this
   refine ⟨⟨(rn_cells a4).2.1,World.ownsRow.frozenAt a4 _⟩,?_⟩
   have a5:=SV.nd (n:=n) (m:=⟨n.k,n.b-1,n.s⟩) (show ({ st with ws:=st.ws++[dX] }:Sy).ns=n :: r from en) a3 1 (.int .i64 ((n.b-1:Nat):Int)) (by omega) rfl
   have e9:({ ({ st with ws:=st.ws++[dX] }:Sy) with ns:=⟨n.k,n.b-1,n.s⟩ :: r }:Sy)=st.aw .X:=by unfold Sy.aw;rw [eN,eW]
   rw [e9] at a5
   have hk:Kp S W (w2.setCell ⟨b,r.length*3+1,none⟩ (.int .i64 ((n.b-1:Nat):Int))):=(((Kp.of_below hb).step (hp1.kp.sub (S:=S) (by rintro k (e|e);rw [e];exact hsg;exact s2 k e)) (fun _ _ h=>h)).step (Kp.set _ _ _ _) (fun k _ e=>by rw [e];exact s1 b rfl))
   refine Mv.mk' a5 hsg (fun k e=>.inl (s1 k e)) (fun k e=>?_) hk hv.sb.cells.2.1
   rcases a2 with a2|⟨q,hq,hq2⟩
   ·exact .inl (s2 k (by rw [←a2];exact e))
   ·rw [hq] at e
    cases e
    exact .inr (Nat.le_trans hb.size hq2)
  clear hv hn1 h s1 s2 eN eW hz hnl hnb en hns h0
  go_enter Tryz.func68,Tryz.ntmps68
  go_wp2_with (first|(go_at_call 62;refine HI.out.mono ?_;rintro r2 w2 ⟨rfl,hb2⟩;have x1:=(HV.out _ hb2).2;have HB:=show Hid (Below W.heap.size W w2) from hb2;clear hb2)|(go_at_call 119;refine (HW.out _ HB.out).mono ?_;rintro r3 w3 ⟨rfl,hp3⟩;obtain ⟨⟨y1,y2⟩,y3⟩:=HE.out _ _ HB.out hp3;have HX:=hid y3;clear y3 hp3))
  go_end0
  exact ⟨rfl,HX.out⟩
theorem waitp {S:Nat→Prop}{W:World}{g:Nat}{st:Sy}(h:SS S W g st) (p:Pz) (hp:p.n=0∧p≠.X) (hz:Bz 1000000000 st) (hns:st.ns≠[]∨True) :
  Calls Tryz.prog 119 #[spg g,.agg #[.int .u8 p.d.k,.string p.d.t,.int .i64 p.d.b,.int .i64 p.d.i,.bool p.d.e]] W fun r w'=>r=.returned (.tuple #[])∧Mv S g W w' (st.aw p):=by
 obtain ⟨vn,vw,hv,s1,s2⟩:=h.ex
 refine (wait_any hv p.d hz.1).mono ?_
 rintro r w' ⟨rfl,hp1⟩
 refine ⟨rfl,?_⟩
 have:=hp1.mv hv h.sg s1 s2
 have e:({ st with ws:=st.ws++[p.d] }:Sy)=st.aw p:=by
  have eN:awN p st.ns=st.ns:=by
   cases st.ns with
   |nil=>rfl
   |cons n r=>simp only [awN];rw [if_neg hp.2,hp.1];rfl
  have eW:awW p st.ns=[p.d]:=by unfold awW;rw [if_neg (fun h=>hp.2 h.1)]
  unfold Sy.aw
  rw [eN,eW]
 rw [e] at this
 exact this
set_option maxHeartbeats 1000000 in
theorem fx_blank {S:Nat→Prop}{W:World}{g:Nat}{st:Sy}(h:SS S W g st) (hns:st.ns≠[]) (hz:Bz 999999990 st) :
  Calls Tryz.prog 73 #[spg g] W fun r w'=>r=.returned (.tuple #[])∧Mv S g W w' (st.aws Fx.blank.pz):=by
 have H0:Hid (∀S V,SS S V g st→Calls Tryz.prog 119 #[spg g,.agg #[.int .u8 2,.string ⟨#[]⟩,.int .i64 0,.int .i64 0,.bool false]] V fun r w'=>r=.returned (.tuple #[])∧Mv S g V w' (st.aw .S)):=fun S V hS=>waitp hS .S ⟨rfl,by decide⟩ (hz.mono (by omega)) (.inr trivial)
 have HE:Hid (st.aws Fx.blank.pz=(st.aw .S)):=rfl
 have HS:Hid (SS S W g st):=h
 clear h hz hns
 go_enter Tryz.func73,Tryz.ntmps73
 go_wp2_with (first|(go_at_call 119;refine (H0.out _ _ HS.out).mono ?_;rintro r0 w0 ⟨rfl,m0⟩;obtain ⟨S0,t0,u0⟩:=Mv.seq m0;have T0:=show Hid (SS S0 w0 g (st.aw .S)) from t0;have U0:=show Hid (∀W2 st2,Mv S0 g w0 W2 st2→Mv S g W W2 st2) from u0;have M0:=show Hid (Mv S g W w0 (st.aw .S)) from m0;clear t0 u0 m0))
 go_end0
 rw [HE.out]
 exact ⟨rfl,M0.out⟩
theorem fx_blank0 {S:Nat→Prop}{W:World}{g:Nat}{st:Sy}(h:SS S W g st) (hns:st.ns≠[]) (hz:Bz 999999999 st) :
  Calls Tryz.prog 73 #[spg g] W fun r w'=>r=.returned (.tuple #[])∧Mv S g W w' (st.aw .S):=by
 have H0:Hid (∀S V,SS S V g st→Calls Tryz.prog 119 #[spg g,.agg #[.int .u8 2,.string ⟨#[]⟩,.int .i64 0,.int .i64 0,.bool false]] V fun r w'=>r=.returned (.tuple #[])∧Mv S g V w' (st.aw .S)):=fun S V hS=>waitp hS .S ⟨rfl,by decide⟩ (hz.mono (by omega)) (.inr trivial)
 have HS:Hid (SS S W g st):=h
 clear h hz hns
 go_enter Tryz.func73,Tryz.ntmps73
 go_wp2_with (go_at_call 119;refine (H0.out _ _ HS.out).mono ?_;rintro r0 w0 ⟨rfl,m0⟩;have M0:=show Hid (Mv S g W w0 (st.aw .S)) from m0;clear m0)
 go_end0
 exact ⟨rfl,M0.out⟩
set_option maxHeartbeats 1000000 in
theorem fx_break1 {S:Nat→Prop}{W:World}{g:Nat}{st:Sy}(h:SS S W g st) (hns:st.ns≠[]) (hz:Bz 999999990 st) :
  Calls Tryz.prog 171 #[spg g] W fun r w'=>r=.returned (.tuple #[])∧Mv S g W w' (st.aws Fx.break1.pz):=by
 have H0:Hid (∀S V,SS S V g st→Calls Tryz.prog 119 #[spg g,.agg #[.int .u8 3,.string ⟨#[]⟩,.int .i64 1,.int .i64 0,.bool false]] V fun r w'=>r=.returned (.tuple #[])∧Mv S g V w' (st.aw .B1)):=fun S V hS=>waitp hS .B1 ⟨rfl,by decide⟩ (hz.mono (by omega)) (.inr trivial)
 have HE:Hid (st.aws Fx.break1.pz=(st.aw .B1)):=rfl
 have HS:Hid (SS S W g st):=h
 clear h hz hns
 go_enter Tryz.func171,Tryz.ntmps171
 go_wp2_with (first|(go_at_call 119;refine (H0.out _ _ HS.out).mono ?_;rintro r0 w0 ⟨rfl,m0⟩;obtain ⟨S0,t0,u0⟩:=Mv.seq m0;have T0:=show Hid (SS S0 w0 g (st.aw .B1)) from t0;have U0:=show Hid (∀W2 st2,Mv S0 g w0 W2 st2→Mv S g W W2 st2) from u0;have M0:=show Hid (Mv S g W w0 (st.aw .B1)) from m0;clear t0 u0 m0))
 go_end0
 rw [HE.out]
 exact ⟨rfl,M0.out⟩
theorem fx_break10 {S:Nat→Prop}{W:World}{g:Nat}{st:Sy}(h:SS S W g st) (hns:st.ns≠[]) (hz:Bz 999999999 st) :
  Calls Tryz.prog 171 #[spg g] W fun r w'=>r=.returned (.tuple #[])∧Mv S g W w' (st.aw .B1):=by
 have H0:Hid (∀S V,SS S V g st→Calls Tryz.prog 119 #[spg g,.agg #[.int .u8 3,.string ⟨#[]⟩,.int .i64 1,.int .i64 0,.bool false]] V fun r w'=>r=.returned (.tuple #[])∧Mv S g V w' (st.aw .B1)):=fun S V hS=>waitp hS .B1 ⟨rfl,by decide⟩ (hz.mono (by omega)) (.inr trivial)
 have HS:Hid (SS S W g st):=h
 clear h hz hns
 go_enter Tryz.func171,Tryz.ntmps171
 go_wp2_with (go_at_call 119;refine (H0.out _ _ HS.out).mono ?_;rintro r0 w0 ⟨rfl,m0⟩;have M0:=show Hid (Mv S g W w0 (st.aw .B1)) from m0;clear m0)
 go_end0
 exact ⟨rfl,M0.out⟩
set_option maxHeartbeats 1000000 in
theorem fx_hard {S:Nat→Prop}{W:World}{g:Nat}{st:Sy}(h:SS S W g st) (hns:st.ns≠[]) (hz:Bz 999999990 st) :
  Calls Tryz.prog 69 #[spg g] W fun r w'=>r=.returned (.tuple #[])∧Mv S g W w' (st.aws Fx.hard.pz):=by
 have H0:Hid (∀S V,SS S V g st→Calls Tryz.prog 119 #[spg g,.agg #[.int .u8 4,.string ⟨#[]⟩,.int .i64 0,.int .i64 0,.bool false]] V fun r w'=>r=.returned (.tuple #[])∧Mv S g V w' (st.aw .H)):=fun S V hS=>waitp hS .H ⟨rfl,by decide⟩ (hz.mono (by omega)) (.inr trivial)
 have HE:Hid (st.aws Fx.hard.pz=(st.aw .H)):=rfl
 have HS:Hid (SS S W g st):=h
 clear h hz hns
 go_enter Tryz.func69,Tryz.ntmps69
 go_wp2_with (first|(go_at_call 119;refine (H0.out _ _ HS.out).mono ?_;rintro r0 w0 ⟨rfl,m0⟩;obtain ⟨S0,t0,u0⟩:=Mv.seq m0;have T0:=show Hid (SS S0 w0 g (st.aw .H)) from t0;have U0:=show Hid (∀W2 st2,Mv S0 g w0 W2 st2→Mv S g W W2 st2) from u0;have M0:=show Hid (Mv S g W w0 (st.aw .H)) from m0;clear t0 u0 m0))
 go_end0
 rw [HE.out]
 exact ⟨rfl,M0.out⟩
theorem fx_hard0 {S:Nat→Prop}{W:World}{g:Nat}{st:Sy}(h:SS S W g st) (hns:st.ns≠[]) (hz:Bz 999999999 st) :
  Calls Tryz.prog 69 #[spg g] W fun r w'=>r=.returned (.tuple #[])∧Mv S g W w' (st.aw .H):=by
 have H0:Hid (∀S V,SS S V g st→Calls Tryz.prog 119 #[spg g,.agg #[.int .u8 4,.string ⟨#[]⟩,.int .i64 0,.int .i64 0,.bool false]] V fun r w'=>r=.returned (.tuple #[])∧Mv S g V w' (st.aw .H)):=fun S V hS=>waitp hS .H ⟨rfl,by decide⟩ (hz.mono (by omega)) (.inr trivial)
 have HS:Hid (SS S W g st):=h
 clear h hz hns
 go_enter Tryz.func69,Tryz.ntmps69
 go_wp2_with (go_at_call 119;refine (H0.out _ _ HS.out).mono ?_;rintro r0 w0 ⟨rfl,m0⟩;have M0:=show Hid (Mv S g W w0 (st.aw .H)) from m0;clear m0)
 go_end0
 exact ⟨rfl,M0.out⟩
set_option maxHeartbeats 1000000 in
theorem fx_fend {S:Nat→Prop}{W:World}{g:Nat}{st:Sy}(h:SS S W g st) (hns:st.ns≠[]) (hz:Bz 999999990 st) :
  Calls Tryz.prog 172 #[spg g] W fun r w'=>r=.returned (.tuple #[])∧Mv S g W w' (st.aws Fx.fend.pz):=by
 have H0:Hid (∀S V,SS S V g st→Calls Tryz.prog 68 #[spg g] V fun r w'=>r=.returned (.tuple #[])∧Mv S g V w' (st.aw .X)):=fun S V hS=>end_any hS hns (hz.mono (by omega))
 have HE:Hid (st.aws Fx.fend.pz=(st.aw .X)):=rfl
 have HS:Hid (SS S W g st):=h
 clear h hz hns
 go_enter Tryz.func172,Tryz.ntmps172
 go_wp2_with (first|(go_at_call 68;refine (H0.out _ _ HS.out).mono ?_;rintro r0 w0 ⟨rfl,m0⟩;obtain ⟨S0,t0,u0⟩:=Mv.seq m0;have T0:=show Hid (SS S0 w0 g (st.aw .X)) from t0;have U0:=show Hid (∀W2 st2,Mv S0 g w0 W2 st2→Mv S g W W2 st2) from u0;have M0:=show Hid (Mv S g W w0 (st.aw .X)) from m0;clear t0 u0 m0))
 go_end0
 rw [HE.out]
 exact ⟨rfl,M0.out⟩
set_option maxHeartbeats 1000000 in
theorem fx_in1 {S:Nat→Prop}{W:World}{g:Nat}{st:Sy}(h:SS S W g st) (hns:st.ns≠[]) (hz:Bz 999999990 st) :
  Calls Tryz.prog 176 #[spg g] W fun r w'=>r=.returned (.tuple #[])∧Mv S g W w' (st.aws Fx.in1.pz):=by
 have H0:Hid (∀S V,SS S V g st→Calls Tryz.prog 67 #[spg g,.int .i64 1,.bool false] V fun r w'=>r=.returned (.tuple #[])∧Mv S g V w' (st.aw (.I 1))):=fun S V hS=>begin_any hS (.I 1) ⟨rfl,rfl⟩ hns (by have:=(hz).1;omega) (by have:=(hz).2.1;omega) (fun n hn=>by have:=(hz).2.2 n hn;omega)
 have HE:Hid (st.aws Fx.in1.pz=(st.aw (.I 1))):=rfl
 have HS:Hid (SS S W g st):=h
 clear h hz hns
 go_enter Tryz.func176,Tryz.ntmps176
 go_wp2_with (first|(go_at_call 67;refine (H0.out _ _ HS.out).mono ?_;rintro r0 w0 ⟨rfl,m0⟩;obtain ⟨S0,t0,u0⟩:=Mv.seq m0;have T0:=show Hid (SS S0 w0 g (st.aw (.I 1))) from t0;have U0:=show Hid (∀W2 st2,Mv S0 g w0 W2 st2→Mv S g W W2 st2) from u0;have M0:=show Hid (Mv S g W w0 (st.aw (.I 1))) from m0;clear t0 u0 m0))
 go_end0
 rw [HE.out]
 exact ⟨rfl,M0.out⟩
set_option maxHeartbeats 1000000 in
theorem fx_in2 {S:Nat→Prop}{W:World}{g:Nat}{st:Sy}(h:SS S W g st) (hns:st.ns≠[]) (hz:Bz 999999990 st) :
  Calls Tryz.prog 177 #[spg g] W fun r w'=>r=.returned (.tuple #[])∧Mv S g W w' (st.aws Fx.in2.pz):=by
 have H0:Hid (∀S V,SS S V g st→Calls Tryz.prog 67 #[spg g,.int .i64 2,.bool false] V fun r w'=>r=.returned (.tuple #[])∧Mv S g V w' (st.aw (.I 2))):=fun S V hS=>begin_any hS (.I 2) ⟨rfl,rfl⟩ hns (by have:=(hz).1;omega) (by have:=(hz).2.1;omega) (fun n hn=>by have:=(hz).2.2 n hn;omega)
 have HE:Hid (st.aws Fx.in2.pz=(st.aw (.I 2))):=rfl
 have HS:Hid (SS S W g st):=h
 clear h hz hns
 go_enter Tryz.func177,Tryz.ntmps177
 go_wp2_with (first|(go_at_call 67;refine (H0.out _ _ HS.out).mono ?_;rintro r0 w0 ⟨rfl,m0⟩;obtain ⟨S0,t0,u0⟩:=Mv.seq m0;have T0:=show Hid (SS S0 w0 g (st.aw (.I 2))) from t0;have U0:=show Hid (∀W2 st2,Mv S0 g w0 W2 st2→Mv S g W W2 st2) from u0;have M0:=show Hid (Mv S g W w0 (st.aw (.I 2))) from m0;clear t0 u0 m0))
 go_end0
 rw [HE.out]
 exact ⟨rfl,M0.out⟩
theorem fx_in20 {S:Nat→Prop}{W:World}{g:Nat}{st:Sy}(h:SS S W g st) (hns:st.ns≠[]) (hz:Bz 999999999 st) :
  Calls Tryz.prog 177 #[spg g] W fun r w'=>r=.returned (.tuple #[])∧Mv S g W w' (st.aw (.I 2)):=by
 have H0:Hid (∀S V,SS S V g st→Calls Tryz.prog 67 #[spg g,.int .i64 2,.bool false] V fun r w'=>r=.returned (.tuple #[])∧Mv S g V w' (st.aw (.I 2))):=fun S V hS=>begin_any hS (.I 2) ⟨rfl,rfl⟩ hns (by have:=hz.1;omega) (by have:=hz.2.1;omega) (fun n hn=>by have:=hz.2.2 n hn;omega)
 have HS:Hid (SS S W g st):=h
 clear h hz hns
 go_enter Tryz.func177,Tryz.ntmps177
 go_wp2_with (go_at_call 67;refine (H0.out _ _ HS.out).mono ?_;rintro r0 w0 ⟨rfl,m0⟩;have M0:=show Hid (Mv S g W w0 (st.aw (.I 2))) from m0;clear m0)
 go_end0
 exact ⟨rfl,M0.out⟩
set_option maxHeartbeats 1000000 in
theorem fx_endBlank {S:Nat→Prop}{W:World}{g:Nat}{st:Sy}(h:SS S W g st) (hns:st.ns≠[]) (hz:Bz 999999990 st) :
  Calls Tryz.prog 175 #[spg g] W fun r w'=>r=.returned (.tuple #[])∧Mv S g W w' (st.aws Fx.endBlank.pz):=by
 have H0:Hid (∀S V,SS S V g st→Calls Tryz.prog 68 #[spg g] V fun r w'=>r=.returned (.tuple #[])∧Mv S g V w' (st.aw .X)):=fun S V hS=>end_any hS hns (hz.mono (by omega))
 have H1:Hid (∀S V,SS S V g (st.aw .X)→Calls Tryz.prog 73 #[spg g] V fun r w'=>r=.returned (.tuple #[])∧Mv S g V w' ((st.aw .X).aw (.S))):=fun S V hS=>fx_blank0 hS (aw_ne hns .X) ((hz.aw .X).mono (by omega))
 have HE:Hid (st.aws Fx.endBlank.pz=((st.aw .X).aw (.S))):=rfl
 have HS:Hid (SS S W g st):=h
 clear h hz hns
 go_enter Tryz.func175,Tryz.ntmps175
 go_wp2_with (first|(go_at_call 73;refine (H1.out _ _ T0.out).mono ?_;rintro r1 w1 ⟨rfl,m1⟩;have M1:=show Hid (Mv S0 g w0 w1 ((st.aw .X).aw (.S))) from m1;clear m1)|(go_at_call 68;refine (H0.out _ _ HS.out).mono ?_;rintro r0 w0 ⟨rfl,m0⟩;obtain ⟨S0,t0,u0⟩:=Mv.seq m0;have T0:=show Hid (SS S0 w0 g (st.aw .X)) from t0;have U0:=show Hid (∀W2 st2,Mv S0 g w0 W2 st2→Mv S g W W2 st2) from u0;have M0:=show Hid (Mv S g W w0 (st.aw .X)) from m0;clear t0 u0 m0))
 go_end0
 rw [HE.out]
 exact ⟨rfl,U0.out _ _ M1.out⟩
set_option maxHeartbeats 1000000 in
theorem fx_endHard {S:Nat→Prop}{W:World}{g:Nat}{st:Sy}(h:SS S W g st) (hns:st.ns≠[]) (hz:Bz 999999990 st) :
  Calls Tryz.prog 169 #[spg g] W fun r w'=>r=.returned (.tuple #[])∧Mv S g W w' (st.aws Fx.endHard.pz):=by
 have H0:Hid (∀S V,SS S V g st→Calls Tryz.prog 68 #[spg g] V fun r w'=>r=.returned (.tuple #[])∧Mv S g V w' (st.aw .X)):=fun S V hS=>end_any hS hns (hz.mono (by omega))
 have H1:Hid (∀S V,SS S V g (st.aw .X)→Calls Tryz.prog 69 #[spg g] V fun r w'=>r=.returned (.tuple #[])∧Mv S g V w' ((st.aw .X).aw (.H))):=fun S V hS=>fx_hard0 hS (aw_ne hns .X) ((hz.aw .X).mono (by omega))
 have HE:Hid (st.aws Fx.endHard.pz=((st.aw .X).aw (.H))):=rfl
 have HS:Hid (SS S W g st):=h
 clear h hz hns
 go_enter Tryz.func169,Tryz.ntmps169
 go_wp2_with (first|(go_at_call 69;refine (H1.out _ _ T0.out).mono ?_;rintro r1 w1 ⟨rfl,m1⟩;have M1:=show Hid (Mv S0 g w0 w1 ((st.aw .X).aw (.H))) from m1;clear m1)|(go_at_call 68;refine (H0.out _ _ HS.out).mono ?_;rintro r0 w0 ⟨rfl,m0⟩;obtain ⟨S0,t0,u0⟩:=Mv.seq m0;have T0:=show Hid (SS S0 w0 g (st.aw .X)) from t0;have U0:=show Hid (∀W2 st2,Mv S0 g w0 W2 st2→Mv S g W W2 st2) from u0;have M0:=show Hid (Mv S g W w0 (st.aw .X)) from m0;clear t0 u0 m0))
 go_end0
 rw [HE.out]
 exact ⟨rfl,U0.out _ _ M1.out⟩
set_option maxHeartbeats 1000000 in
theorem fx_in2Break0 {S:Nat→Prop}{W:World}{g:Nat}{st:Sy}(h:SS S W g st) (hns:st.ns≠[]) (hz:Bz 999999990 st) :
  Calls Tryz.prog 174 #[spg g] W fun r w'=>r=.returned (.tuple #[])∧Mv S g W w' (st.aws Fx.in2Break0.pz):=by
 have H0:Hid (∀S V,SS S V g st→Calls Tryz.prog 177 #[spg g] V fun r w'=>r=.returned (.tuple #[])∧Mv S g V w' (st.aw (.I 2))):=fun S V hS=>fx_in20 hS hns (hz.mono (by omega))
 have H1:Hid (∀S V,SS S V g (st.aw (.I 2))→Calls Tryz.prog 119 #[spg g,.agg #[.int .u8 3,.string ⟨#[]⟩,.int .i64 0,.int .i64 0,.bool false]] V fun r w'=>r=.returned (.tuple #[])∧Mv S g V w' ((st.aw (.I 2)).aw .B0)):=fun S V hS=>waitp hS .B0 ⟨rfl,by decide⟩ ((hz.aw (.I 2)).mono (by omega)) (.inr trivial)
 have HE:Hid (st.aws Fx.in2Break0.pz=((st.aw (.I 2)).aw .B0)):=rfl
 have HS:Hid (SS S W g st):=h
 clear h hz hns
 go_enter Tryz.func174,Tryz.ntmps174
 go_wp2_with (first|(go_at_call 119;refine (H1.out _ _ T0.out).mono ?_;rintro r1 w1 ⟨rfl,m1⟩;have M1:=show Hid (Mv S0 g w0 w1 ((st.aw (.I 2)).aw .B0)) from m1;clear m1)|(go_at_call 177;refine (H0.out _ _ HS.out).mono ?_;rintro r0 w0 ⟨rfl,m0⟩;obtain ⟨S0,t0,u0⟩:=Mv.seq m0;have T0:=show Hid (SS S0 w0 g (st.aw (.I 2))) from t0;have U0:=show Hid (∀W2 st2,Mv S0 g w0 W2 st2→Mv S g W W2 st2) from u0;have M0:=show Hid (Mv S g W w0 (st.aw (.I 2))) from m0;clear t0 u0 m0))
 go_end0
 rw [HE.out]
 exact ⟨rfl,U0.out _ _ M1.out⟩
set_option maxHeartbeats 1000000 in
theorem fx_in2Break1 {S:Nat→Prop}{W:World}{g:Nat}{st:Sy}(h:SS S W g st) (hns:st.ns≠[]) (hz:Bz 999999990 st) :
  Calls Tryz.prog 173 #[spg g] W fun r w'=>r=.returned (.tuple #[])∧Mv S g W w' (st.aws Fx.in2Break1.pz):=by
 have H0:Hid (∀S V,SS S V g st→Calls Tryz.prog 177 #[spg g] V fun r w'=>r=.returned (.tuple #[])∧Mv S g V w' (st.aw (.I 2))):=fun S V hS=>fx_in20 hS hns (hz.mono (by omega))
 have H1:Hid (∀S V,SS S V g (st.aw (.I 2))→Calls Tryz.prog 171 #[spg g] V fun r w'=>r=.returned (.tuple #[])∧Mv S g V w' ((st.aw (.I 2)).aw (.B1))):=fun S V hS=>fx_break10 hS (aw_ne hns (.I 2)) ((hz.aw (.I 2)).mono (by omega))
 have HE:Hid (st.aws Fx.in2Break1.pz=((st.aw (.I 2)).aw (.B1))):=rfl
 have HS:Hid (SS S W g st):=h
 clear h hz hns
 go_enter Tryz.func173,Tryz.ntmps173
 go_wp2_with (first|(go_at_call 171;refine (H1.out _ _ T0.out).mono ?_;rintro r1 w1 ⟨rfl,m1⟩;have M1:=show Hid (Mv S0 g w0 w1 ((st.aw (.I 2)).aw (.B1))) from m1;clear m1)|(go_at_call 177;refine (H0.out _ _ HS.out).mono ?_;rintro r0 w0 ⟨rfl,m0⟩;obtain ⟨S0,t0,u0⟩:=Mv.seq m0;have T0:=show Hid (SS S0 w0 g (st.aw (.I 2))) from t0;have U0:=show Hid (∀W2 st2,Mv S0 g w0 W2 st2→Mv S g W W2 st2) from u0;have M0:=show Hid (Mv S g W w0 (st.aw (.I 2))) from m0;clear t0 u0 m0))
 go_end0
 rw [HE.out]
 exact ⟨rfl,U0.out _ _ M1.out⟩
set_option maxHeartbeats 1000000 in
theorem fx_even2Hard {S:Nat→Prop}{W:World}{g:Nat}{st:Sy}(h:SS S W g st) (hns:st.ns≠[]) (hz:Bz 999999990 st) :
  Calls Tryz.prog 168 #[spg g] W fun r w'=>r=.returned (.tuple #[])∧Mv S g W w' (st.aws Fx.even2Hard.pz):=by
 have H0:Hid (∀S V,SS S V g st→Calls Tryz.prog 67 #[spg g,.int .i64 2,.bool true] V fun r w'=>r=.returned (.tuple #[])∧Mv S g V w' (st.aw (.J))):=fun S V hS=>begin_any hS (.J) ⟨rfl,rfl⟩ hns (by have:=(hz).1;omega) (by have:=(hz).2.1;omega) (fun n hn=>by have:=(hz).2.2 n hn;omega)
 have H1:Hid (∀S V,SS S V g (st.aw (.J))→Calls Tryz.prog 69 #[spg g] V fun r w'=>r=.returned (.tuple #[])∧Mv S g V w' ((st.aw (.J)).aw (.H))):=fun S V hS=>fx_hard0 hS (aw_ne hns (.J)) ((hz.aw (.J)).mono (by omega))
 have HE:Hid (st.aws Fx.even2Hard.pz=((st.aw (.J)).aw (.H))):=rfl
 have HS:Hid (SS S W g st):=h
 clear h hz hns
 go_enter Tryz.func168,Tryz.ntmps168
 go_wp2_with (first|(go_at_call 69;refine (H1.out _ _ T0.out).mono ?_;rintro r1 w1 ⟨rfl,m1⟩;have M1:=show Hid (Mv S0 g w0 w1 ((st.aw (.J)).aw (.H))) from m1;clear m1)|(go_at_call 67;refine (H0.out _ _ HS.out).mono ?_;rintro r0 w0 ⟨rfl,m0⟩;obtain ⟨S0,t0,u0⟩:=Mv.seq m0;have T0:=show Hid (SS S0 w0 g (st.aw (.J))) from t0;have U0:=show Hid (∀W2 st2,Mv S0 g w0 W2 st2→Mv S g W W2 st2) from u0;have M0:=show Hid (Mv S g W w0 (st.aw (.J))) from m0;clear t0 u0 m0))
 go_end0
 rw [HE.out]
 exact ⟨rfl,U0.out _ _ M1.out⟩
set_option maxHeartbeats 1000000 in
theorem fx_blankIn3 {S:Nat→Prop}{W:World}{g:Nat}{st:Sy}(h:SS S W g st) (hns:st.ns≠[]) (hz:Bz 999999990 st) :
  Calls Tryz.prog 118 #[spg g] W fun r w'=>r=.returned (.tuple #[])∧Mv S g W w' (st.aws Fx.blankIn3.pz):=by
 have H0:Hid (∀S V,SS S V g st→Calls Tryz.prog 73 #[spg g] V fun r w'=>r=.returned (.tuple #[])∧Mv S g V w' (st.aw (.S))):=fun S V hS=>fx_blank0 hS hns (hz.mono (by omega))
 have H1:Hid (∀S V,SS S V g (st.aw (.S))→Calls Tryz.prog 67 #[spg g,.int .i64 3,.bool false] V fun r w'=>r=.returned (.tuple #[])∧Mv S g V w' ((st.aw (.S)).aw (.I 3))):=fun S V hS=>begin_any hS (.I 3) ⟨rfl,rfl⟩ (aw_ne hns (.S)) (by have:=((hz.aw (.S))).1;omega) (by have:=((hz.aw (.S))).2.1;omega) (fun n hn=>by have:=((hz.aw (.S))).2.2 n hn;omega)
 have HE:Hid (st.aws Fx.blankIn3.pz=((st.aw (.S)).aw (.I 3))):=rfl
 have HS:Hid (SS S W g st):=h
 clear h hz hns
 go_enter Tryz.func118,Tryz.ntmps118
 go_wp2_with (first|(go_at_call 67;refine (H1.out _ _ T0.out).mono ?_;rintro r1 w1 ⟨rfl,m1⟩;have M1:=show Hid (Mv S0 g w0 w1 ((st.aw (.S)).aw (.I 3))) from m1;clear m1)|(go_at_call 73;refine (H0.out _ _ HS.out).mono ?_;rintro r0 w0 ⟨rfl,m0⟩;obtain ⟨S0,t0,u0⟩:=Mv.seq m0;have T0:=show Hid (SS S0 w0 g (st.aw (.S))) from t0;have U0:=show Hid (∀W2 st2,Mv S0 g w0 W2 st2→Mv S g W W2 st2) from u0;have M0:=show Hid (Mv S g W w0 (st.aw (.S))) from m0;clear t0 u0 m0))
 go_end0
 rw [HE.out]
 exact ⟨rfl,U0.out _ _ M1.out⟩
set_option maxHeartbeats 1000000 in
theorem fx_blankIn4 {S:Nat→Prop}{W:World}{g:Nat}{st:Sy}(h:SS S W g st) (hns:st.ns≠[]) (hz:Bz 999999990 st) :
  Calls Tryz.prog 170 #[spg g] W fun r w'=>r=.returned (.tuple #[])∧Mv S g W w' (st.aws Fx.blankIn4.pz):=by
 have H0:Hid (∀S V,SS S V g st→Calls Tryz.prog 73 #[spg g] V fun r w'=>r=.returned (.tuple #[])∧Mv S g V w' (st.aw (.S))):=fun S V hS=>fx_blank0 hS hns (hz.mono (by omega))
 have H1:Hid (∀S V,SS S V g (st.aw (.S))→Calls Tryz.prog 67 #[spg g,.int .i64 4,.bool false] V fun r w'=>r=.returned (.tuple #[])∧Mv S g V w' ((st.aw (.S)).aw (.I 4))):=fun S V hS=>begin_any hS (.I 4) ⟨rfl,rfl⟩ (aw_ne hns (.S)) (by have:=((hz.aw (.S))).1;omega) (by have:=((hz.aw (.S))).2.1;omega) (fun n hn=>by have:=((hz.aw (.S))).2.2 n hn;omega)
 have HE:Hid (st.aws Fx.blankIn4.pz=((st.aw (.S)).aw (.I 4))):=rfl
 have HS:Hid (SS S W g st):=h
 clear h hz hns
 go_enter Tryz.func170,Tryz.ntmps170
 go_wp2_with (first|(go_at_call 67;refine (H1.out _ _ T0.out).mono ?_;rintro r1 w1 ⟨rfl,m1⟩;have M1:=show Hid (Mv S0 g w0 w1 ((st.aw (.S)).aw (.I 4))) from m1;clear m1)|(go_at_call 73;refine (H0.out _ _ HS.out).mono ?_;rintro r0 w0 ⟨rfl,m0⟩;obtain ⟨S0,t0,u0⟩:=Mv.seq m0;have T0:=show Hid (SS S0 w0 g (st.aw (.S))) from t0;have U0:=show Hid (∀W2 st2,Mv S0 g w0 W2 st2→Mv S g W W2 st2) from u0;have M0:=show Hid (Mv S g W w0 (st.aw (.S))) from m0;clear t0 u0 m0))
 go_end0
 rw [HE.out]
 exact ⟨rfl,U0.out _ _ M1.out⟩
theorem fx_nothing {S:Nat→Prop}{W:World}{g:Nat}{st:Sy}(h:SS S W g st) :
  Calls Tryz.prog 122 #[spg g] W fun r w'=>r=.returned (.tuple #[])∧Mv S g W w' (st.aws Fx.nothing.pz):=by
 have HM:Hid (Mv S g W W (st.aws Fx.nothing.pz)):=Mv.refl h
 clear h
 go_enter Tryz.func122,Tryz.ntmps122
 go_wp2_with fail
 go_end0
 exact ⟨rfl,HM.out⟩
def Fx.id:Fx→Nat
 |.nothing=>122
 |.blank=>73
 |.break1=>171
 |.hard=>69
 |.fend=>172
 |.in1=>176
 |.in2=>177
 |.endBlank=>175
 |.endHard=>169
 |.in2Break0=>174
 |.in2Break1=>173
 |.even2Hard=>168
 |.blankIn3=>118
 |.blankIn4=>170
theorem fx_any (f:Fx) {S:Nat→Prop}{W:World}{g:Nat}{st:Sy}(h:SS S W g st) (hns:st.ns≠[]) (hz:Bz 999999990 st) :
  Calls Tryz.prog f.id #[spg g] W fun r w'=>r=.returned (.tuple #[])∧Mv S g W w' (st.aws f.pz):=by
 cases f with
 |nothing=>exact fx_nothing h
 |blank=>exact fx_blank h hns hz
 |break1=>exact fx_break1 h hns hz
 |hard=>exact fx_hard h hns hz
 |fend=>exact fx_fend h hns hz
 |in1=>exact fx_in1 h hns hz
 |in2=>exact fx_in2 h hns hz
 |endBlank=>exact fx_endBlank h hns hz
 |endHard=>exact fx_endHard h hns hz
 |in2Break0=>exact fx_in2Break0 h hns hz
 |in2Break1=>exact fx_in2Break1 h hns hz
 |even2Hard=>exact fx_even2Hard h hns hz
 |blankIn3=>exact fx_blankIn3 h hns hz
 |blankIn4=>exact fx_blankIn4 h hns hz
end Go.Proofs.YtpdlohfdjiaegaaGreatDoor
