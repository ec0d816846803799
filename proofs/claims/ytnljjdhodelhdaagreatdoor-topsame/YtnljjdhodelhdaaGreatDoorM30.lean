import Derived.Test.YtnljjdhodelhdaaGreatDoorM29
set_option linter.unusedVariables false
set_option linter.unusedSimpArgs false
set_option maxHeartbeats 1000000
namespace Go.Proofs.YtnljjdhodelhdaaGreatDoor
open Go.RowKit
open Lw (Dc bE rt cB dq fi ik bW aX cj)
variable {st:Sy}{W:World}{g n:Nat}
def Bz (n:Nat) (st:Sy):Prop:=st.ws.length<=n/\st.ns.length<=n/\∀x∈st.ns,x.b<=n
theorem Bz.mono {m:Nat}(h:Bz n st) (hm:n<=m):Bz m st:=⟨by have:=h.1;omega,by have:=h.2.1;omega,fun x hx=>by have:=h.2.2 x hx;omega⟩
theorem nY (p:Pz) (l:List Nd):(ib p l).length=l.length:=by cases l <;> rfl
theorem gE (p:Pz) (l:List Nd):(jC p l).length<=1:=by unfold jC;split <;> simp
theorem Bz.aw (h:Bz n st) (p:Pz):Bz (n+1) (st.aw p):=by
 obtain ⟨h1,h2,h3⟩:=h;refine ⟨?_,?_,?_⟩
 ·show (st.ws++jC p st.ns).length<=_
  have:=gE p st.ns;rw [Or];omega
 ·show (ib p st.ns).length<=_
  rw [nY];omega
 ·intro x hx;have hx':x∈ib p st.ns:=hx;cases hc:st.ns with
  |nil=>rw [hc] at hx';simp [ib] at hx'
  |cons m r=>
   rw [hc] at hx' h3;simp only [ib,Rz] at hx';have hm:=h3 m QY;have hp:p.n<=1:=by cases p <;> simp [Pz.n]
   rcases hx' with rfl|hx'
   ·split
    ·show m.b-1<=_;omega
    ·show m.b+p.n<=_;omega
   ·have:=h3 x (QZ _ hx');omega
theorem mL (h:st.ns≠[]) (p:Pz):(st.aw p).ns≠[]:=by
 intro e;have:(ib p st.ns).length=0:=by rw [show ib p st.ns=[] from e];rfl
 rw [nY] at this;exact h (Rh this)
theorem Mv.seq {S:Nat->Prop}{W1:World}(h:Mv S g W W1 st):∃S1,SS S1 W1 g st/\∀W2 st2,Mv S1 g W1 W2 st2->Mv S g W W2 st2:=by
 obtain ⟨⟨S1,s1,s2⟩,hk,hc⟩:=h;refine ⟨S1,s1,?_⟩;rintro W2 st2 ⟨⟨S2,t1,t2⟩,hk2,hc2⟩;refine ⟨⟨S2,t1,fun k hk'=>?_⟩,hk.step hk2 (fun k hlt hs=>?_),hc2.trans hc⟩
 ·rcases t2 k hk' with a|a
  ·exact s2 k a
  ·exact .inr (Q0 hk.size a)
 ·rcases s2 k hs with a|a
  ·exact a
  ·omega
theorem nS {S:Nat->Prop}(h:SS S W g st) (hns:st.ns≠[]) (hz:Bz 1000000000 st) :
  Ra 151 #[bX g] W fun r w'=>r=.returned (.tuple #[])/\Mv S g W w' (st.aw .X):=by
 obtain ⟨vn,vw,hv,s1,s2⟩:=h.ex
 obtain ⟨n,r,en⟩:∃n r,st.ns=n :: r:=by
  cases hc:st.ns with
  |nil=>exact absurd hc hns
  |cons n r=>exact ⟨n,r,rfl⟩
 have hn1:=hv.rn;rw [en] at hn1;obtain ⟨b,cap,rfl,hc1,hc2⟩:=m9 hn1;have hnl:=hz.2.1;rw [en] at hnl;have HI:Hid (Ra 145 #[bX g] W fun r' w'=>r'=.returned (.pointer (some ⟨b,r.length*3,none⟩))/\Rc W w'):=fU hv.sb.cells.2.1 (by simp at hnl;omega);have hnb:n.b<=1000000000:=hz.2.2 n (by rw [en];exact QY);have eN:ib .X st.ns=⟨n.k,n.b-1,n.s⟩ :: r:=by rw [en];rfl
 have hsg:=h.sg
 have HV:Hid (∀V,Rc W V->SV V g st (.slice (some ⟨b,0,none⟩) (r.length+1) cap) vw/\V.cell? ⟨b,r.length*3+1,none⟩=some (.int .i64 n.b)):=fun V hb=>by
  have a3:=hv.below hb;refine ⟨a3,?_⟩;have a4:=a3.rn;rw [en] at a4;exact (kv a4).2.1
 by_cases h0:n.b=0
 ·have eW:jC .X st.ns=[]:=by unfold jC;rw [en];simp [h0]
  have HX:Hid (∀V,Rc W V->Mv S g W V (st.aw .X)):=fun V hb=>by
   have e9:st.aw .X=st:=by
    unfold Sy.aw;rw [eN,eW,RI,h0];have:(⟨n.k,0-1,n.s⟩:Nd)=n:=by cases n;simp at h0;subst h0;rfl
    rw [this,<-en]
   rw [e9];exact Mv.quiet h hb
  rw [h0] at HV;clear hv hn1 h s1 s2 eN eW hz hnl hnb en hns h0
  go_enter Tryz.func151,Tryz.ntmps151
  go_wp2_with (go_at_call 145;refine HI.out.mono ?_;rintro r2 w2 ⟨rfl,hb2⟩;have x1:=(HV.out _ hb2).2;have HM:=show Hid (Mv S g W w2 (st.aw .X)) from HX.out _ hb2;clear hb2)
  go_end0
  exact ⟨rfl,HM.out⟩
 ·have eW:jC .X st.ns=[dX]:=by unfold jC;rw [en];simp [h0,Pz.d]
  have q0:decide ((0:Int)<(n.b:Int))=true:=by simp;omega
  have q1:(0:Int)<(n.b:Int):=by omega
  have q2:IntKind.i64.wrap ((n.b:Int)-1)=((n.b-1:Nat):Int):=by rw [RQ];omega
  have HW:Hid (∀V,Rc W V->Ra 201 #[bX g,.agg #[.int .u8 7,.string ⟨#[]⟩,.int .i64 0,.int .i64 0,.bool false]] V fun rr w'=>rr=.returned (.tuple #[])/\WP V w' g st (.slice (some ⟨b,0,none⟩) (r.length+1) cap) vw (st.ws++[dX])):=fun V hb=>oj (HV.out V hb).1 dX hz.1
  have HE:Hid (∀V w2,Rc W V->WP V w2 g st (.slice (some ⟨b,0,none⟩) (r.length+1) cap) vw (st.ws++[dX])->(w2.cell? ⟨b,r.length*3+1,none⟩=some (.int .i64 n.b)/\w2.frozen? ⟨b,r.length*3+1,none⟩=false)/\Mv S g W (w2.setCell ⟨b,r.length*3+1,none⟩ (.int .i64 ((n.b-1:Nat):Int))) (st.aw .X)):=fun V w2 hb hp1=>by
   obtain ⟨vw',a3,a2⟩:=hp1.ex;have a4:Rn tN w2 (.slice (some ⟨b,0,none⟩) (r.length+1) cap) (n :: r):=by have:=a3.rn;rw [show ({ st with ws:=st.ws++[dX] }:Sy).ns=n :: r from en] at this;exact this
   refine ⟨⟨(kv a4).2.1,Uk a4 _⟩,?_⟩;have a5:=SV.nd (n:=n) (m:=⟨n.k,n.b-1,n.s⟩) (show ({ st with ws:=st.ws++[dX] }:Sy).ns=n :: r from en) a3 1 (.int .i64 ((n.b-1:Nat):Int)) (by omega) rfl;have e9:({ ({ st with ws:=st.ws++[dX] }:Sy) with ns:=⟨n.k,n.b-1,n.s⟩ :: r }:Sy)=st.aw .X:=by unfold Sy.aw;rw [eN,eW]
   rw [e9] at a5;have hk:Kp S W (w2.setCell ⟨b,r.length*3+1,none⟩ (.int .i64 ((n.b-1:Nat):Int))):=(((Kp.of_below hb).step (hp1.kp.sub (S:=S) (by rintro k (e|e);rw [e];exact hsg;exact s2 k e)) (fun _ _ h=>h)).step (Kp.set _ _ _ _) (fun k _ e=>by rw [e];exact s1 b rfl));refine Mv.mk' a5 hsg (fun k e=>.inl (s1 k e)) (fun k e=>?_) hk hv.sb.cells.2.1
   rcases a2 with a2|⟨q,hq,hq2⟩
   ·exact .inl (s2 k (by rw [<-a2];exact e))
   ·rw [hq] at e;cases e;exact .inr (Q0 hb.size hq2)
  clear hv hn1 h s1 s2 eN eW hz hnl hnb en hns h0
  go_enter Tryz.func151,Tryz.ntmps151
  go_wp2_with (first|(go_at_call 145;refine HI.out.mono ?_;rintro r2 w2 ⟨rfl,hb2⟩;have x1:=(HV.out _ hb2).2;have HB:=show Hid (Below W.heap.size W w2) from hb2;clear hb2)|(go_at_call 201;refine (HW.out _ HB.out).mono ?_;rintro r3 w3 ⟨rfl,hp3⟩;obtain ⟨⟨y1,y2⟩,y3⟩:=HE.out _ _ HB.out hp3;have HX:=ai y3;clear y3 hp3))
  go_end0
  exact ⟨rfl,HX.out⟩
theorem mj {S:Nat->Prop}(h:SS S W g st) (p:Pz) (hp:p.n=0/\p≠.X) (hz:Bz 1000000000 st) (hns:st.ns≠[]\/True) :
  Ra 201 #[bX g,.agg #[.int .u8 p.d.k,.string p.d.t,.int .i64 p.d.b,.int .i64 p.d.i,.bool p.d.e]] W fun r w'=>r=.returned (.tuple #[])/\Mv S g W w' (st.aw p):=by
 obtain ⟨vn,vw,hv,s1,s2⟩:=h.ex;refine (oj hv p.d hz.1).mono ?_;rintro r w' ⟨rfl,hp1⟩;refine ⟨rfl,?_⟩;have:=hp1.mv hv h.sg s1 s2
 have e:({ st with ws:=st.ws++[p.d] }:Sy)=st.aw p:=by
  have eN:ib p st.ns=st.ns:=by
   cases st.ns with
   |nil=>rfl
   |cons n r=>simp only [ib];rw [Eq hp.2,hp.1];rfl
  have eW:jC p st.ns=[p.d]:=by unfold jC;rw [Eq (fun h=>hp.2 h.1)]
  unfold Sy.aw;rw [eN,eW]
 rw [e] at this;exact this
theorem Fo {S:Nat->Prop}(h:SS S W g st) (hns:st.ns≠[]) (hz:Bz 999999990 st) :
  Ra 157 #[bX g] W fun r w'=>r=.returned (.tuple #[])/\Mv S g W w' (st.aws Fx.blank.pz):=by
 have H0:Hid (∀S V,SS S V g st->Ra 201 #[bX g,.agg #[.int .u8 2,.string ⟨#[]⟩,.int .i64 0,.int .i64 0,.bool false]] V fun r w'=>r=.returned (.tuple #[])/\Mv S g V w' (st.aw .S)):=fun S V hS=>mj hS .S ⟨rfl,by decide⟩ (hz.mono (by omega)) (.inr trivial)
 have HE:Hid (st.aws Fx.blank.pz=(st.aw .S)):=rfl;have HS:Hid (SS S W g st):=h;clear h hz hns
 go_enter Tryz.func157,Tryz.ntmps157
 go_wp2_with (first|(go_at_call 201;refine (H0.out _ _ HS.out).mono ?_;rintro r0 w0 ⟨rfl,m0⟩;obtain ⟨S0,t0,u0⟩:=Mv.seq m0;have T0:=show Hid (SS S0 w0 g (st.aw .S)) from t0;have U0:=show Hid (∀W2 st2,Mv S0 g w0 W2 st2->Mv S g W W2 st2) from u0;have M0:=show Hid (Mv S g W w0 (st.aw .S)) from m0;clear t0 u0 m0))
 go_end0
 rw [HE.out];exact ⟨rfl,M0.out⟩
theorem jt {S:Nat->Prop}(h:SS S W g st) (hns:st.ns≠[]) (hz:Bz 999999999 st) :
  Ra 157 #[bX g] W fun r w'=>r=.returned (.tuple #[])/\Mv S g W w' (st.aw .S):=by
 have H0:Hid (∀S V,SS S V g st->Ra 201 #[bX g,.agg #[.int .u8 2,.string ⟨#[]⟩,.int .i64 0,.int .i64 0,.bool false]] V fun r w'=>r=.returned (.tuple #[])/\Mv S g V w' (st.aw .S)):=fun S V hS=>mj hS .S ⟨rfl,by decide⟩ (hz.mono (by omega)) (.inr trivial)
 have HS:Hid (SS S W g st):=h;clear h hz hns
 go_enter Tryz.func157,Tryz.ntmps157
 go_wp2_with (go_at_call 201;refine (H0.out _ _ HS.out).mono ?_;rintro r0 w0 ⟨rfl,m0⟩;have M0:=show Hid (Mv S g W w0 (st.aw .S)) from m0;clear m0)
 go_end0
 exact ⟨rfl,M0.out⟩
theorem BX {S:Nat->Prop}(h:SS S W g st) (hns:st.ns≠[]) (hz:Bz 999999990 st) :
  Ra 231 #[bX g] W fun r w'=>r=.returned (.tuple #[])/\Mv S g W w' (st.aws Fx.break1.pz):=by
 have H0:Hid (∀S V,SS S V g st->Ra 201 #[bX g,.agg #[.int .u8 3,.string ⟨#[]⟩,.int .i64 1,.int .i64 0,.bool false]] V fun r w'=>r=.returned (.tuple #[])/\Mv S g V w' (st.aw .B1)):=fun S V hS=>mj hS .B1 ⟨rfl,by decide⟩ (hz.mono (by omega)) (.inr trivial)
 have HE:Hid (st.aws Fx.break1.pz=(st.aw .B1)):=rfl;have HS:Hid (SS S W g st):=h;clear h hz hns
 go_enter Tryz.func231,Tryz.ntmps231
 go_wp2_with (first|(go_at_call 201;refine (H0.out _ _ HS.out).mono ?_;rintro r0 w0 ⟨rfl,m0⟩;obtain ⟨S0,t0,u0⟩:=Mv.seq m0;have T0:=show Hid (SS S0 w0 g (st.aw .B1)) from t0;have U0:=show Hid (∀W2 st2,Mv S0 g w0 W2 st2->Mv S g W W2 st2) from u0;have M0:=show Hid (Mv S g W w0 (st.aw .B1)) from m0;clear t0 u0 m0))
 go_end0
 rw [HE.out];exact ⟨rfl,M0.out⟩
theorem xY {S:Nat->Prop}(h:SS S W g st) (hns:st.ns≠[]) (hz:Bz 999999999 st) :
  Ra 231 #[bX g] W fun r w'=>r=.returned (.tuple #[])/\Mv S g W w' (st.aw .B1):=by
 have H0:Hid (∀S V,SS S V g st->Ra 201 #[bX g,.agg #[.int .u8 3,.string ⟨#[]⟩,.int .i64 1,.int .i64 0,.bool false]] V fun r w'=>r=.returned (.tuple #[])/\Mv S g V w' (st.aw .B1)):=fun S V hS=>mj hS .B1 ⟨rfl,by decide⟩ (hz.mono (by omega)) (.inr trivial)
 have HS:Hid (SS S W g st):=h;clear h hz hns
 go_enter Tryz.func231,Tryz.ntmps231
 go_wp2_with (go_at_call 201;refine (H0.out _ _ HS.out).mono ?_;rintro r0 w0 ⟨rfl,m0⟩;have M0:=show Hid (Mv S g W w0 (st.aw .B1)) from m0;clear m0)
 go_end0
 exact ⟨rfl,M0.out⟩
theorem JV {S:Nat->Prop}(h:SS S W g st) (hns:st.ns≠[]) (hz:Bz 999999990 st) :
  Ra 152 #[bX g] W fun r w'=>r=.returned (.tuple #[])/\Mv S g W w' (st.aws Fx.hard.pz):=by
 have H0:Hid (∀S V,SS S V g st->Ra 201 #[bX g,.agg #[.int .u8 4,.string ⟨#[]⟩,.int .i64 0,.int .i64 0,.bool false]] V fun r w'=>r=.returned (.tuple #[])/\Mv S g V w' (st.aw .H)):=fun S V hS=>mj hS .H ⟨rfl,by decide⟩ (hz.mono (by omega)) (.inr trivial)
 have HE:Hid (st.aws Fx.hard.pz=(st.aw .H)):=rfl;have HS:Hid (SS S W g st):=h;clear h hz hns
 go_enter Tryz.func152,Tryz.ntmps152
 go_wp2_with (first|(go_at_call 201;refine (H0.out _ _ HS.out).mono ?_;rintro r0 w0 ⟨rfl,m0⟩;obtain ⟨S0,t0,u0⟩:=Mv.seq m0;have T0:=show Hid (SS S0 w0 g (st.aw .H)) from t0;have U0:=show Hid (∀W2 st2,Mv S0 g w0 W2 st2->Mv S g W W2 st2) from u0;have M0:=show Hid (Mv S g W w0 (st.aw .H)) from m0;clear t0 u0 m0))
 go_end0
 rw [HE.out];exact ⟨rfl,M0.out⟩
theorem pB {S:Nat->Prop}(h:SS S W g st) (hns:st.ns≠[]) (hz:Bz 999999999 st) :
  Ra 152 #[bX g] W fun r w'=>r=.returned (.tuple #[])/\Mv S g W w' (st.aw .H):=by
 have H0:Hid (∀S V,SS S V g st->Ra 201 #[bX g,.agg #[.int .u8 4,.string ⟨#[]⟩,.int .i64 0,.int .i64 0,.bool false]] V fun r w'=>r=.returned (.tuple #[])/\Mv S g V w' (st.aw .H)):=fun S V hS=>mj hS .H ⟨rfl,by decide⟩ (hz.mono (by omega)) (.inr trivial)
 have HS:Hid (SS S W g st):=h;clear h hz hns
 go_enter Tryz.func152,Tryz.ntmps152
 go_wp2_with (go_at_call 201;refine (H0.out _ _ HS.out).mono ?_;rintro r0 w0 ⟨rfl,m0⟩;have M0:=show Hid (Mv S g W w0 (st.aw .H)) from m0;clear m0)
 go_end0
 exact ⟨rfl,M0.out⟩
theorem JW {S:Nat->Prop}(h:SS S W g st) (hns:st.ns≠[]) (hz:Bz 999999990 st) :
  Ra 232 #[bX g] W fun r w'=>r=.returned (.tuple #[])/\Mv S g W w' (st.aws Fx.fend.pz):=by
 have H0:Hid (∀S V,SS S V g st->Ra 151 #[bX g] V fun r w'=>r=.returned (.tuple #[])/\Mv S g V w' (st.aw .X)):=fun S V hS=>nS hS hns (hz.mono (by omega))
 have HE:Hid (st.aws Fx.fend.pz=(st.aw .X)):=rfl;have HS:Hid (SS S W g st):=h;clear h hz hns
 go_enter Tryz.func232,Tryz.ntmps232
 go_wp2_with (first|(go_at_call 151;refine (H0.out _ _ HS.out).mono ?_;rintro r0 w0 ⟨rfl,m0⟩;obtain ⟨S0,t0,u0⟩:=Mv.seq m0;have T0:=show Hid (SS S0 w0 g (st.aw .X)) from t0;have U0:=show Hid (∀W2 st2,Mv S0 g w0 W2 st2->Mv S g W W2 st2) from u0;have M0:=show Hid (Mv S g W w0 (st.aw .X)) from m0;clear t0 u0 m0))
 go_end0
 rw [HE.out];exact ⟨rfl,M0.out⟩
theorem M2 {S:Nat->Prop}(h:SS S W g st) (hns:st.ns≠[]) (hz:Bz 999999990 st) :
  Ra 236 #[bX g] W fun r w'=>r=.returned (.tuple #[])/\Mv S g W w' (st.aws Fx.in1.pz):=by
 have H0:Hid (∀S V,SS S V g st->Ra 150 #[bX g,.int .i64 1,.bool false] V fun r w'=>r=.returned (.tuple #[])/\Mv S g V w' (st.aw (.I 1))):=fun S V hS=>eP hS (.I 1) ⟨rfl,rfl⟩ hns (by have:=(hz).1;omega) (by have:=(hz).2.1;omega) (fun n hn=>by have:=(hz).2.2 n hn;omega)
 have HE:Hid (st.aws Fx.in1.pz=(st.aw (.I 1))):=rfl;have HS:Hid (SS S W g st):=h;clear h hz hns
 go_enter Tryz.func236,Tryz.ntmps236
 go_wp2_with (first|(go_at_call 150;refine (H0.out _ _ HS.out).mono ?_;rintro r0 w0 ⟨rfl,m0⟩;obtain ⟨S0,t0,u0⟩:=Mv.seq m0;have T0:=show Hid (SS S0 w0 g (st.aw (.I 1))) from t0;have U0:=show Hid (∀W2 st2,Mv S0 g w0 W2 st2->Mv S g W W2 st2) from u0;have M0:=show Hid (Mv S g W w0 (st.aw (.I 1))) from m0;clear t0 u0 m0))
 go_end0
 rw [HE.out];exact ⟨rfl,M0.out⟩
theorem MZ {S:Nat->Prop}(h:SS S W g st) (hns:st.ns≠[]) (hz:Bz 999999990 st) :
  Ra 237 #[bX g] W fun r w'=>r=.returned (.tuple #[])/\Mv S g W w' (st.aws Fx.in2.pz):=by
 have H0:Hid (∀S V,SS S V g st->Ra 150 #[bX g,.int .i64 2,.bool false] V fun r w'=>r=.returned (.tuple #[])/\Mv S g V w' (st.aw (.I 2))):=fun S V hS=>eP hS (.I 2) ⟨rfl,rfl⟩ hns (by have:=(hz).1;omega) (by have:=(hz).2.1;omega) (fun n hn=>by have:=(hz).2.2 n hn;omega)
 have HE:Hid (st.aws Fx.in2.pz=(st.aw (.I 2))):=rfl;have HS:Hid (SS S W g st):=h;clear h hz hns
 go_enter Tryz.func237,Tryz.ntmps237
 go_wp2_with (first|(go_at_call 150;refine (H0.out _ _ HS.out).mono ?_;rintro r0 w0 ⟨rfl,m0⟩;obtain ⟨S0,t0,u0⟩:=Mv.seq m0;have T0:=show Hid (SS S0 w0 g (st.aw (.I 2))) from t0;have U0:=show Hid (∀W2 st2,Mv S0 g w0 W2 st2->Mv S g W W2 st2) from u0;have M0:=show Hid (Mv S g W w0 (st.aw (.I 2))) from m0;clear t0 u0 m0))
 go_end0
 rw [HE.out];exact ⟨rfl,M0.out⟩
theorem zV {S:Nat->Prop}(h:SS S W g st) (hns:st.ns≠[]) (hz:Bz 999999999 st) :
  Ra 237 #[bX g] W fun r w'=>r=.returned (.tuple #[])/\Mv S g W w' (st.aw (.I 2)):=by
 have H0:Hid (∀S V,SS S V g st->Ra 150 #[bX g,.int .i64 2,.bool false] V fun r w'=>r=.returned (.tuple #[])/\Mv S g V w' (st.aw (.I 2))):=fun S V hS=>eP hS (.I 2) ⟨rfl,rfl⟩ hns (by have:=hz.1;omega) (by have:=hz.2.1;omega) (fun n hn=>by have:=hz.2.2 n hn;omega)
 have HS:Hid (SS S W g st):=h;clear h hz hns
 go_enter Tryz.func237,Tryz.ntmps237
 go_wp2_with (go_at_call 150;refine (H0.out _ _ HS.out).mono ?_;rintro r0 w0 ⟨rfl,m0⟩;have M0:=show Hid (Mv S g W w0 (st.aw (.I 2))) from m0;clear m0)
 go_end0
 exact ⟨rfl,M0.out⟩
theorem vO {S:Nat->Prop}(h:SS S W g st) (hns:st.ns≠[]) (hz:Bz 999999990 st) :
  Ra 235 #[bX g] W fun r w'=>r=.returned (.tuple #[])/\Mv S g W w' (st.aws Fx.endBlank.pz):=by
 have H0:Hid (∀S V,SS S V g st->Ra 151 #[bX g] V fun r w'=>r=.returned (.tuple #[])/\Mv S g V w' (st.aw .X)):=fun S V hS=>nS hS hns (hz.mono (by omega))
 have H1:Hid (∀S V,SS S V g (st.aw .X)->Ra 157 #[bX g] V fun r w'=>r=.returned (.tuple #[])/\Mv S g V w' ((st.aw .X).aw (.S))):=fun S V hS=>jt hS (mL hns .X) ((hz.aw .X).mono (by omega))
 have HE:Hid (st.aws Fx.endBlank.pz=((st.aw .X).aw (.S))):=rfl;have HS:Hid (SS S W g st):=h;clear h hz hns
 go_enter Tryz.func235,Tryz.ntmps235
 go_wp2_with (first|(go_at_call 157;refine (H1.out _ _ T0.out).mono ?_;rintro r1 w1 ⟨rfl,m1⟩;have M1:=show Hid (Mv S0 g w0 w1 ((st.aw .X).aw (.S))) from m1;clear m1)|(go_at_call 151;refine (H0.out _ _ HS.out).mono ?_;rintro r0 w0 ⟨rfl,m0⟩;obtain ⟨S0,t0,u0⟩:=Mv.seq m0;have T0:=show Hid (SS S0 w0 g (st.aw .X)) from t0;have U0:=show Hid (∀W2 st2,Mv S0 g w0 W2 st2->Mv S g W W2 st2) from u0;have M0:=show Hid (Mv S g W w0 (st.aw .X)) from m0;clear t0 u0 m0))
 go_end0
 rw [HE.out];exact ⟨rfl,U0.out _ _ M1.out⟩
theorem xX {S:Nat->Prop}(h:SS S W g st) (hns:st.ns≠[]) (hz:Bz 999999990 st) :
  Ra 229 #[bX g] W fun r w'=>r=.returned (.tuple #[])/\Mv S g W w' (st.aws Fx.endHard.pz):=by
 have H0:Hid (∀S V,SS S V g st->Ra 151 #[bX g] V fun r w'=>r=.returned (.tuple #[])/\Mv S g V w' (st.aw .X)):=fun S V hS=>nS hS hns (hz.mono (by omega))
 have H1:Hid (∀S V,SS S V g (st.aw .X)->Ra 152 #[bX g] V fun r w'=>r=.returned (.tuple #[])/\Mv S g V w' ((st.aw .X).aw (.H))):=fun S V hS=>pB hS (mL hns .X) ((hz.aw .X).mono (by omega))
 have HE:Hid (st.aws Fx.endHard.pz=((st.aw .X).aw (.H))):=rfl;have HS:Hid (SS S W g st):=h;clear h hz hns
 go_enter Tryz.func229,Tryz.ntmps229
 go_wp2_with (first|(go_at_call 152;refine (H1.out _ _ T0.out).mono ?_;rintro r1 w1 ⟨rfl,m1⟩;have M1:=show Hid (Mv S0 g w0 w1 ((st.aw .X).aw (.H))) from m1;clear m1)|(go_at_call 151;refine (H0.out _ _ HS.out).mono ?_;rintro r0 w0 ⟨rfl,m0⟩;obtain ⟨S0,t0,u0⟩:=Mv.seq m0;have T0:=show Hid (SS S0 w0 g (st.aw .X)) from t0;have U0:=show Hid (∀W2 st2,Mv S0 g w0 W2 st2->Mv S g W W2 st2) from u0;have M0:=show Hid (Mv S g W w0 (st.aw .X)) from m0;clear t0 u0 m0))
 go_end0
 rw [HE.out];exact ⟨rfl,U0.out _ _ M1.out⟩
theorem sU {S:Nat->Prop}(h:SS S W g st) (hns:st.ns≠[]) (hz:Bz 999999990 st) :
  Ra 234 #[bX g] W fun r w'=>r=.returned (.tuple #[])/\Mv S g W w' (st.aws Fx.in2Break0.pz):=by
 have H0:Hid (∀S V,SS S V g st->Ra 237 #[bX g] V fun r w'=>r=.returned (.tuple #[])/\Mv S g V w' (st.aw (.I 2))):=fun S V hS=>zV hS hns (hz.mono (by omega))
 have H1:Hid (∀S V,SS S V g (st.aw (.I 2))->Ra 201 #[bX g,.agg #[.int .u8 3,.string ⟨#[]⟩,.int .i64 0,.int .i64 0,.bool false]] V fun r w'=>r=.returned (.tuple #[])/\Mv S g V w' ((st.aw (.I 2)).aw .B0)):=fun S V hS=>mj hS .B0 ⟨rfl,by decide⟩ ((hz.aw (.I 2)).mono (by omega)) (.inr trivial)
 have HE:Hid (st.aws Fx.in2Break0.pz=((st.aw (.I 2)).aw .B0)):=rfl;have HS:Hid (SS S W g st):=h;clear h hz hns
 go_enter Tryz.func234,Tryz.ntmps234
 go_wp2_with (first|(go_at_call 201;refine (H1.out _ _ T0.out).mono ?_;rintro r1 w1 ⟨rfl,m1⟩;have M1:=show Hid (Mv S0 g w0 w1 ((st.aw (.I 2)).aw .B0)) from m1;clear m1)|(go_at_call 237;refine (H0.out _ _ HS.out).mono ?_;rintro r0 w0 ⟨rfl,m0⟩;obtain ⟨S0,t0,u0⟩:=Mv.seq m0;have T0:=show Hid (SS S0 w0 g (st.aw (.I 2))) from t0;have U0:=show Hid (∀W2 st2,Mv S0 g w0 W2 st2->Mv S g W W2 st2) from u0;have M0:=show Hid (Mv S g W w0 (st.aw (.I 2))) from m0;clear t0 u0 m0))
 go_end0
 rw [HE.out];exact ⟨rfl,U0.out _ _ M1.out⟩
theorem sS {S:Nat->Prop}(h:SS S W g st) (hns:st.ns≠[]) (hz:Bz 999999990 st) :
  Ra 233 #[bX g] W fun r w'=>r=.returned (.tuple #[])/\Mv S g W w' (st.aws Fx.in2Break1.pz):=by
 have H0:Hid (∀S V,SS S V g st->Ra 237 #[bX g] V fun r w'=>r=.returned (.tuple #[])/\Mv S g V w' (st.aw (.I 2))):=fun S V hS=>zV hS hns (hz.mono (by omega))
 have H1:Hid (∀S V,SS S V g (st.aw (.I 2))->Ra 231 #[bX g] V fun r w'=>r=.returned (.tuple #[])/\Mv S g V w' ((st.aw (.I 2)).aw (.B1))):=fun S V hS=>xY hS (mL hns (.I 2)) ((hz.aw (.I 2)).mono (by omega))
 have HE:Hid (st.aws Fx.in2Break1.pz=((st.aw (.I 2)).aw (.B1))):=rfl;have HS:Hid (SS S W g st):=h;clear h hz hns
 go_enter Tryz.func233,Tryz.ntmps233
 go_wp2_with (first|(go_at_call 231;refine (H1.out _ _ T0.out).mono ?_;rintro r1 w1 ⟨rfl,m1⟩;have M1:=show Hid (Mv S0 g w0 w1 ((st.aw (.I 2)).aw (.B1))) from m1;clear m1)|(go_at_call 237;refine (H0.out _ _ HS.out).mono ?_;rintro r0 w0 ⟨rfl,m0⟩;obtain ⟨S0,t0,u0⟩:=Mv.seq m0;have T0:=show Hid (SS S0 w0 g (st.aw (.I 2))) from t0;have U0:=show Hid (∀W2 st2,Mv S0 g w0 W2 st2->Mv S g W W2 st2) from u0;have M0:=show Hid (Mv S g W w0 (st.aw (.I 2))) from m0;clear t0 u0 m0))
 go_end0
 rw [HE.out];exact ⟨rfl,U0.out _ _ M1.out⟩
theorem sW {S:Nat->Prop}(h:SS S W g st) (hns:st.ns≠[]) (hz:Bz 999999990 st) :
  Ra 228 #[bX g] W fun r w'=>r=.returned (.tuple #[])/\Mv S g W w' (st.aws Fx.even2Hard.pz):=by
 have H0:Hid (∀S V,SS S V g st->Ra 150 #[bX g,.int .i64 2,.bool true] V fun r w'=>r=.returned (.tuple #[])/\Mv S g V w' (st.aw (.J))):=fun S V hS=>eP hS (.J) ⟨rfl,rfl⟩ hns (by have:=(hz).1;omega) (by have:=(hz).2.1;omega) (fun n hn=>by have:=(hz).2.2 n hn;omega)
 have H1:Hid (∀S V,SS S V g (st.aw (.J))->Ra 152 #[bX g] V fun r w'=>r=.returned (.tuple #[])/\Mv S g V w' ((st.aw (.J)).aw (.H))):=fun S V hS=>pB hS (mL hns (.J)) ((hz.aw (.J)).mono (by omega))
 have HE:Hid (st.aws Fx.even2Hard.pz=((st.aw (.J)).aw (.H))):=rfl;have HS:Hid (SS S W g st):=h;clear h hz hns
 go_enter Tryz.func228,Tryz.ntmps228
 go_wp2_with (first|(go_at_call 152;refine (H1.out _ _ T0.out).mono ?_;rintro r1 w1 ⟨rfl,m1⟩;have M1:=show Hid (Mv S0 g w0 w1 ((st.aw (.J)).aw (.H))) from m1;clear m1)|(go_at_call 150;refine (H0.out _ _ HS.out).mono ?_;rintro r0 w0 ⟨rfl,m0⟩;obtain ⟨S0,t0,u0⟩:=Mv.seq m0;have T0:=show Hid (SS S0 w0 g (st.aw (.J))) from t0;have U0:=show Hid (∀W2 st2,Mv S0 g w0 W2 st2->Mv S g W W2 st2) from u0;have M0:=show Hid (Mv S g W w0 (st.aw (.J))) from m0;clear t0 u0 m0))
 go_end0
 rw [HE.out];exact ⟨rfl,U0.out _ _ M1.out⟩
theorem mF {S:Nat->Prop}(h:SS S W g st) (hns:st.ns≠[]) (hz:Bz 999999990 st) :
  Ra 200 #[bX g] W fun r w'=>r=.returned (.tuple #[])/\Mv S g W w' (st.aws Fx.blankIn3.pz):=by
 have H0:Hid (∀S V,SS S V g st->Ra 157 #[bX g] V fun r w'=>r=.returned (.tuple #[])/\Mv S g V w' (st.aw (.S))):=fun S V hS=>jt hS hns (hz.mono (by omega))
 have H1:Hid (∀S V,SS S V g (st.aw (.S))->Ra 150 #[bX g,.int .i64 3,.bool false] V fun r w'=>r=.returned (.tuple #[])/\Mv S g V w' ((st.aw (.S)).aw (.I 3))):=fun S V hS=>eP hS (.I 3) ⟨rfl,rfl⟩ (mL hns (.S)) (by have:=((hz.aw (.S))).1;omega) (by have:=((hz.aw (.S))).2.1;omega) (fun n hn=>by have:=((hz.aw (.S))).2.2 n hn;omega)
 have HE:Hid (st.aws Fx.blankIn3.pz=((st.aw (.S)).aw (.I 3))):=rfl;have HS:Hid (SS S W g st):=h;clear h hz hns
 go_enter Tryz.func200,Tryz.ntmps200
 go_wp2_with (first|(go_at_call 150;refine (H1.out _ _ T0.out).mono ?_;rintro r1 w1 ⟨rfl,m1⟩;have M1:=show Hid (Mv S0 g w0 w1 ((st.aw (.S)).aw (.I 3))) from m1;clear m1)|(go_at_call 157;refine (H0.out _ _ HS.out).mono ?_;rintro r0 w0 ⟨rfl,m0⟩;obtain ⟨S0,t0,u0⟩:=Mv.seq m0;have T0:=show Hid (SS S0 w0 g (st.aw (.S))) from t0;have U0:=show Hid (∀W2 st2,Mv S0 g w0 W2 st2->Mv S g W W2 st2) from u0;have M0:=show Hid (Mv S g W w0 (st.aw (.S))) from m0;clear t0 u0 m0))
 go_end0
 rw [HE.out];exact ⟨rfl,U0.out _ _ M1.out⟩
theorem vP {S:Nat->Prop}(h:SS S W g st) (hns:st.ns≠[]) (hz:Bz 999999990 st) :
  Ra 230 #[bX g] W fun r w'=>r=.returned (.tuple #[])/\Mv S g W w' (st.aws Fx.blankIn4.pz):=by
 have H0:Hid (∀S V,SS S V g st->Ra 157 #[bX g] V fun r w'=>r=.returned (.tuple #[])/\Mv S g V w' (st.aw (.S))):=fun S V hS=>jt hS hns (hz.mono (by omega))
 have H1:Hid (∀S V,SS S V g (st.aw (.S))->Ra 150 #[bX g,.int .i64 4,.bool false] V fun r w'=>r=.returned (.tuple #[])/\Mv S g V w' ((st.aw (.S)).aw (.I 4))):=fun S V hS=>eP hS (.I 4) ⟨rfl,rfl⟩ (mL hns (.S)) (by have:=((hz.aw (.S))).1;omega) (by have:=((hz.aw (.S))).2.1;omega) (fun n hn=>by have:=((hz.aw (.S))).2.2 n hn;omega)
 have HE:Hid (st.aws Fx.blankIn4.pz=((st.aw (.S)).aw (.I 4))):=rfl;have HS:Hid (SS S W g st):=h;clear h hz hns
 go_enter Tryz.func230,Tryz.ntmps230
 go_wp2_with (first|(go_at_call 150;refine (H1.out _ _ T0.out).mono ?_;rintro r1 w1 ⟨rfl,m1⟩;have M1:=show Hid (Mv S0 g w0 w1 ((st.aw (.S)).aw (.I 4))) from m1;clear m1)|(go_at_call 157;refine (H0.out _ _ HS.out).mono ?_;rintro r0 w0 ⟨rfl,m0⟩;obtain ⟨S0,t0,u0⟩:=Mv.seq m0;have T0:=show Hid (SS S0 w0 g (st.aw (.S))) from t0;have U0:=show Hid (∀W2 st2,Mv S0 g w0 W2 st2->Mv S g W W2 st2) from u0;have M0:=show Hid (Mv S g W w0 (st.aw (.S))) from m0;clear t0 u0 m0))
 go_end0
 rw [HE.out];exact ⟨rfl,U0.out _ _ M1.out⟩
theorem xV {S:Nat->Prop}(h:SS S W g st) :
  Ra 204 #[bX g] W fun r w'=>r=.returned (.tuple #[])/\Mv S g W w' (st.aws Fx.nothing.pz):=by
 have HM:Hid (Mv S g W W (st.aws Fx.nothing.pz)):=Mv.refl h;clear h
 go_enter Tryz.func204,Tryz.ntmps204
 go_wp2_with fail
 go_end0
 exact ⟨rfl,HM.out⟩
def Fx.id:Fx->Nat
 |.nothing=>204
 |.blank=>157
 |.break1=>231
 |.hard=>152
 |.fend=>232
 |.in1=>236
 |.in2=>237
 |.endBlank=>235
 |.endHard=>229
 |.in2Break0=>234
 |.in2Break1=>233
 |.even2Hard=>228
 |.blankIn3=>200
 |.blankIn4=>230
theorem Fp (f:Fx) {S:Nat->Prop}{W:World}{g:Nat}{st:Sy}(h:SS S W g st) (hns:st.ns≠[]) (hz:Bz 999999990 st) :
  Ra f.id #[bX g] W fun r w'=>r=.returned (.tuple #[])/\Mv S g W w' (st.aws f.pz):=by
 cases f with
 |nothing=>exact xV h
 |blank=>exact Fo h hns hz
 |break1=>exact BX h hns hz
 |hard=>exact JV h hns hz
 |fend=>exact JW h hns hz
 |in1=>exact M2 h hns hz
 |in2=>exact MZ h hns hz
 |endBlank=>exact vO h hns hz
 |endHard=>exact xX h hns hz
 |in2Break0=>exact sU h hns hz
 |in2Break1=>exact sS h hns hz
 |even2Hard=>exact sW h hns hz
 |blankIn3=>exact mF h hns hz
 |blankIn4=>exact vP h hns hz
end Go.Proofs.YtnljjdhodelhdaaGreatDoor
namespace Go.Proofs.YtnljjdhodelhdaaGreatDoor
open Go.RowKit
open Lw (Dc bE rt cB dq fi ik bW aX cj Aj jm sL pd GU)
theorem A9 (c:UInt8) (w:World):Ra 199 #[.int .u8 (c.toNat:Int)] w fun e w'=>e=.returned (.bool (Aj c))/\w'=w:=by
 have h1:((c.toNat:Int) == 32)=(c == 32):=by revert c;exact GU (by decide +kernel)
 have h2:((c.toNat:Int) == 10)=(c == 10):=by revert c;exact GU (by decide +kernel)
 have e:Aj c=((c.toNat:Int) == 32 || (c.toNat:Int) == 10):=by rw [h1,h2];rfl
 rw [e];clear e h1 h2
 generalize (c.toNat:Int)=z
 go_enter Tryz.func199,Tryz.ntmps199
 go_wp2_with fail
 all_goals (go_ret;simp_all)
theorem AY (t:ByteArray) (ht:t.size<=9223372036854775807) (w:World):Ra 146 #[.string t] w fun e w'=>e=.returned (.bool (fi t))/\w'=w:=by
 by_cases h0:t.size=0
 ·have e0:t=⟨#[]⟩:=by
   apply sL
   exact Rh (by rw [pd];exact h0)
  subst e0
  go_enter Tryz.func146,Tryz.ntmps146
  go_wp2_with fail
  go_ret
  exact ⟨rfl,rfl⟩
 ·have hne:¬t.toList=[]:=by
   rw [Lib.toList_data];intro hl;exact absurd (by have:=pd t;rw [jm,hl] at this;simpa using this.symm) h0
  by_cases h1:t.size<=65535
  ·have hlt:0<t.size:=by omega
   have hlt2:t.size-1<t.size:=by omega
   have HE:Hid (fi t=(!Aj t[0] && !Aj (t[t.size-1]))):=by
    show _=_
    unfold fi;have a0:(jm t).getD 0 0=t[0]:=(Lib.getD_at t 0 hlt).symm;have a1:(jm t).getD (t.size-1) 0=t[t.size-1]:=(Lib.getD_at t (t.size-1) hlt2).symm;rw [a0,a1];simp [h1,show 1<=t.size by omega]
   go_enter Tryz.func146,Tryz.ntmps146
   go_wp2_with (go_at_call 199;refine (A9 _ _).mono ?_;rintro e w1 ⟨rfl,rfl⟩)
   all_goals (go_ret;rw [HE.out];clear HE;refine ⟨?_,rfl⟩;simp_all)
  ·go_enter Tryz.func146,Tryz.ntmps146
   go_wp2_with fail
   go_ret
   refine ⟨?_,rfl⟩;simp [fi,h1]
theorem vE (d:Dc) (w:World):Ra 206 #[.agg #[.int .u8 d.k,.string d.t,.int .i64 d.b,.int .i64 d.i,.bool d.e]] w fun e w'=>e=.returned (.bool (bi d))/\Below w.heap.size w w':=by
 have HQ:Hid (bi d=(d.k == 6)):=by show _=_;unfold bi;by_cases h:d.k=6 <;> simp [h]
 have HB:Hid (∀o,Rc w (w.alloc o)):=fun o=>(hH _ _).alloc (gt _) _
 go_enter Tryz.func206,Tryz.ntmps206
 go_wp2_with fail
 go_ret
 rw [HQ.out];exact ⟨rfl,HB.out _⟩
theorem E6 (d:Dc) (w:World):Ra 160 #[.agg #[.int .u8 d.k,.string d.t,.int .i64 d.b,.int .i64 d.i,.bool d.e]] w fun e w'=>e=.returned (.bool (bH d))/\Below w.heap.size w w':=by
 have HQ:Hid (bH d=(d.k == 4)):=by show _=_;unfold bH;by_cases h:d.k=4 <;> simp [h]
 have HB:Hid (∀o,Rc w (w.alloc o)):=fun o=>(hH _ _).alloc (gt _) _
 go_enter Tryz.func160,Tryz.ntmps160
 go_wp2_with fail
 go_ret
 rw [HQ.out];exact ⟨rfl,HB.out _⟩
theorem E7 (d:Dc) (w:World):Ra 156 #[.agg #[.int .u8 d.k,.string d.t,.int .i64 d.b,.int .i64 d.i,.bool d.e]] w fun e w'=>e=.returned (.bool (bS d))/\Below w.heap.size w w':=by
 have HB:Hid (∀o,Rc w (w.alloc o)):=fun o=>(hH _ _).alloc (gt _) _
 obtain ⟨k,t,b,i,e⟩:=d
 dsimp only
 by_cases h2:k=2
 ·subst h2
  go_enter Tryz.func156,Tryz.ntmps156
  go_wp2_with fail
  go_ret
  exact ⟨rfl,HB.out _⟩
 ·have q2:(k == 2)=false:=by simpa using h2
  by_cases h4:k=4
  ·subst h4
   go_enter Tryz.func156,Tryz.ntmps156
   go_wp2_with fail
   go_ret
   exact ⟨rfl,HB.out _⟩
  ·have q4:(k == 4)=false:=by simpa using h4
   have HQ:Hid (bS ⟨k,t,b,i,e⟩=(k == 3 && (t.toList == [] && (b == 1 && (i == 0 && !e))))):=by
    show _=_
    unfold bS dB;rw [Rf h2,Rf h4,Vj,Vj];have ht:=Lw.Ho t;have hE0:bE.toList=[]:=by rw [Lib.toList_data];rfl
    by_cases a1:k=3 <;> by_cases a2:t=bE <;> by_cases a3:b=1 <;> by_cases a4:i=0 <;> cases e <;> simp [a1,a2,a3,a4,ht,hE0]
   clear h2 h4
   go_enter Tryz.func156,Tryz.ntmps156
   go_wp2_with fail
   all_goals (go_ret;rw [HQ.out];refine ⟨?_,HB.out _⟩;simp_all)
theorem E9 (t:Tv) (w:World):Ra 147 #[.agg #[.int .u8 t.k,.string t.t,.int .i64 t.a,.int .i64 t.l,.int .i64 t.c,.int .i64 t.f]] w fun e w'=>e=.returned (.bool (decide (t.k=7\/t.k=8)))/\Below w.heap.size w w':=by
 have HB:Hid (∀o,Rc w (w.alloc o)):=fun o=>(hH _ _).alloc (gt _) _
 have HQ:Hid (decide (t.k=7\/t.k=8)=(t.k == 7 || t.k == 8)):=by show _=_;by_cases a:t.k=7 <;> by_cases b:t.k=8 <;> simp [a,b]
 go_enter Tryz.func147,Tryz.ntmps147
 go_wp2_with fail
 all_goals (go_ret;rw [HQ.out];refine ⟨?_,HB.out _⟩;simp_all)
theorem oz (t:Tv) (w:World):Ra 158 #[.agg #[.int .u8 t.k,.string t.t,.int .i64 t.a,.int .i64 t.l,.int .i64 t.c,.int .i64 t.f]] w fun e w'=>e=.returned (.agg #[.int .u8 1,.string t.t,.int .i64 0,.int .i64 0,.bool false])/\Below w.heap.size w w':=by
 obtain ⟨V,e1⟩:∃V,w.alloc (.cells #[.int .u8 t.k,.string t.t,.int .i64 t.a,.int .i64 t.l,.int .i64 t.c,.int .i64 t.f] 35)=V:=⟨_,rfl⟩;have hb:Below w.heap.size w V:=by rw [<-e1];exact (hH _ _).alloc (gt _) _
 have hs:V.heap.size=w.heap.size+1:=by rw [<-e1];show (w.heap.push _).size=_;simp
 have hn:=aq V (.cells #[.int .u8 1,.string t.t,.int .i64 0,.int .i64 0,.bool false] 88);rw [hs,<-e1] at hn;have HN:Hid ((V.alloc (.cells #[.int .u8 1,.string t.t,.int .i64 0,.int .i64 0,.bool false] 88))=(V.alloc (.cells #[.int .u8 1,.string t.t,.int .i64 0,.int .i64 0,.bool false] 88))/\∀o,Below w.heap.size w (V.alloc o)):=⟨rfl,fun o=>hb.alloc hb.size _⟩;rw [<-e1] at HN;have m0:=af (k:=0) hn rfl;have m1:=af (k:=1) hn rfl;have m2:=af (k:=2) hn rfl;have m3:=af (k:=3) hn rfl;have m4:=af (k:=4) hn rfl;have HM:Hid _:=And.intro m0 (And.intro m1 (And.intro m2 (And.intro m3 m4)));clear e1 hs hn hb m0 m1 m2 m3 m4
 go_enter Tryz.func158,Tryz.ntmps158
 go_wp2_with fail
 obtain ⟨m0,m1,m2,m3,m4⟩:=HM.out;refine Rg (v:=.agg #[.int .u8 1,.string t.t,.int .i64 0,.int .i64 0,.bool false]) (by simp [results,Tryz.f158,go_sem,m0,m1,m2,m3,m4]) rfl ?_;exact ⟨rfl,HN.out.2 _⟩
theorem BW (k:Int) (w:World):Ra 149 #[.int .u8 k] w fun e w'=>e=.returned (.bool (fo k))/\w'=w:=by
 by_cases h:fo k=true
 ·have h2:=RE h;rw [h]
  rcases h2 with rfl|rfl|rfl|rfl|rfl|rfl|rfl|rfl|rfl|rfl|rfl|rfl
  all_goals (
   go_enter Tryz.func149,Tryz.ntmps149
   go_wp2_with fail
   go_ret
   exact ⟨rfl,rfl⟩)
 ·have h2:¬_:=fun e=>h (Q9 e)
  rw [Bool.eq_false_iff.2 h];simp only [not_or] at h2;obtain ⟨a1,a2,a3,a4,a5,a6,a7,a8,a9,b1,b2,b3⟩:=h2;have p1:(k == 3)=false:=by simpa using a1
  have p2:(k == 4)=false:=by simpa using a2
  have p3:(k == 5)=false:=by simpa using a3
  have p4:(k == 11)=false:=by simpa using a4
  have p5:(k == 13)=false:=by simpa using a5
  have p6:(k == 14)=false:=by simpa using a6
  have p7:(k == 15)=false:=by simpa using a7
  have p8:(k == 16)=false:=by simpa using a8
  have p9:(k == 17)=false:=by simpa using a9
  have r1:(k == 18)=false:=by simpa using b1
  have r2:(k == 19)=false:=by simpa using b2
  have r3:(k == 20)=false:=by simpa using b3
  clear h a1 a2 a3 a4 a5 a6 a7 a8 a9 b1 b2 b3
  go_enter Tryz.func149,Tryz.ntmps149
  go_wp2_with fail
  go_ret
  exact ⟨rfl,rfl⟩
theorem fK {W:World}{g:Nat}{dn:Bool}(c0:W.cell? ⟨g,0,none⟩=some (.bool dn)):Ra 105 #[bX g] W fun r w'=>r=.returned (.int .i64 (if dn then 4 else 0))/\w'=W:=by
 cases dn
 all_goals (
  go_enter Tryz.func105,Tryz.ntmps105
  go_wp2_with fail
  go_ret
  exact ⟨rfl,rfl⟩)
end Go.Proofs.YtnljjdhodelhdaaGreatDoor
namespace Go.Proofs.YtnljjdhodelhdaaGreatDoor
open Go.RowKit
open Lw (Dc bE rt cB dq fi ik bW aX cj)
variable {w W:World}{l:List Dc}{ao:Option Addr}{α:Type}{g:Nat}{st:Sy}{vn vw:Value}
def Ld (w:World) (ao:Option Addr) (l:List Dc):Prop:=∀j d,l[j]?=some d->∃b off,ao=some ⟨b,off,none⟩ /\
 w.cell? ⟨b,off+j*5,none⟩=some (.int .u8 d.k)/\w.cell? ⟨b,off+j*5+1,none⟩=some (.string d.t)/\w.cell? ⟨b,off+j*5+2,none⟩=some (.int .i64 d.b)/\w.cell? ⟨b,off+j*5+3,none⟩=some (.int .i64 d.i)/\w.cell? ⟨b,off+j*5+4,none⟩=some (.bool d.e)
theorem Ld.kp {S:Nat->Prop}{w w':World}{ao:Option Addr}{l:List Dc}(h:Ld w ao l) (hb:Kp S w w') (hS:∀a,ao=some a->¬S a.block):Ld w' ao l:=by
 intro j a ha;obtain ⟨b,off,h1,c0,c1,c2,c3,c4⟩:=h j a ha;have hlt:=QV _ _ c0;have e:w'.heap[b]?=w.heap[b]?:=hb.block b hlt (hS _ h1);exact ⟨b,off,h1,(Q6 (a:=⟨b,_,none⟩) e).trans c0,(Q6 (a:=⟨b,_,none⟩) e).trans c1,(Q6 (a:=⟨b,_,none⟩) e).trans c2,(Q6 (a:=⟨b,_,none⟩) e).trans c3,(Q6 (a:=⟨b,_,none⟩) e).trans c4⟩
theorem Ld.below {w':World}(h:Ld w ao l) (hb:Below w.heap.size w w'):Ld w' ao l:=h.kp (Kp.of_below (S:=fun _=>False) hb) (fun _ _ h=>h)
theorem Ld.take (h:Ld w ao l) (n:Nat):Ld w ao (l.take n):=by
 intro j d hj;rw [RX] at hj
 split at hj
 ·exact h j d hj
 ·cases hj
theorem uK {p:Option Addr}{n cap:Nat}(h:Rd w (.slice p n cap) l):Ld w p l:=by
 intro j d hj
 rcases h.2 with ⟨h1,h0⟩|⟨g,cap',cur,h1,_⟩
 ·have:l=[]:=Rh h0;subst this;simp at hj
 ·cases h1
  have hc:∀(k:Nat) (u:Value),(bW l)[k]?=some u->w.cell? ⟨g,k,none⟩=some u:=fun k u hu=>by
   have:=Tz h (g:=g) rfl k u hu;rw [SZ,Q8] at this;exact this
  refine ⟨g,0,rfl,?_,?_,?_,?_,?_⟩
  ·rw [Q8];exact hc _ _ (aV Dc.cs 5 Lw.Dc.cs_len l j 0 d _ hj rfl)
  ·rw [Q8];exact hc _ _ (aV Dc.cs 5 Lw.Dc.cs_len l j 1 d _ hj rfl)
  ·rw [Q8];exact hc _ _ (aV Dc.cs 5 Lw.Dc.cs_len l j 2 d _ hj rfl)
  ·rw [Q8];exact hc _ _ (aV Dc.cs 5 Lw.Dc.cs_len l j 3 d _ hj rfl)
  ·rw [Q8];exact hc _ _ (aV Dc.cs 5 Lw.Dc.cs_len l j 4 d _ hj rfl)
theorem kY (p:α->Bool) (l:List α) (k:Nat) (x:α) (hx:l[k]?=some x) (h:(l.take k).any p=false):(l.take (k+1)).any p=p x:=by
 rw [S9,hx,RD,h];simp
theorem kX (p:α->Bool) (l:List α) (k:Nat) (h:(l.take k).any p=true):l.any p=true:=by
 rw [Sz] at h ⊢;obtain ⟨x,hx,e⟩:=h;exact ⟨x,UC hx,e⟩
theorem E5 (ao:Option Addr) (l:List Dc) (cap:Nat) (W:World) (h:Ld W ao l) (hl:l.length<=1000000000) :
  Ra 240 #[.slice ao l.length cap,.func (.func 206) #[] #[]] W fun r w'=>(∃z:Int,r=.returned (.int .i64 z)/\(decide (0<=z)=l.any bi))/\Below W.heap.size W w':=by
 have H:Hid (Ld W ao l):=h;clear h;have HP:Hid (∀(d:Dc) (V:World),Ra 206 #[.agg #[.int .u8 d.k,.string d.t,.int .i64 d.b,.int .i64 d.i,.bool d.e]] V fun e w'=>e=.returned (.bool (bi d))/\Rc V w'):=vE
 go_enter Tryz.func240,Tryz.ntmps240
 go_wp2_with fail
 go_loopw [5,8] (fun _ i wr=>∃k:Nat,k<=l.length/\i=.int .i64 k/\Hid ((l.take k).any bi=false)/\Hid (Below W.heap.size W wr)) (fun _ i _=>l.length-(intOf i).toNat)
 case atStart=>exact ⟨0,QU _,rfl,by show _=_;simp,hH _ _⟩
 case round=>
  obtain ⟨k,hk,rfl,HI,HB⟩:=hrel
  by_cases hlt:k<l.length
  ·have q1:(k:Int)<l.length:=by omega
   have q0:(0:Int)<=k:=by omega
   obtain ⟨x,hx⟩:∃x,l[k]?=some x:=⟨_,Pi hlt⟩;obtain ⟨b,off,rfl,c0,c1,c2,c3,c4⟩:=(H.out.below HB.out) k x hx;have HS:Hid ((l.take (k+1)).any bi=bi x):=kY bi l k x hx HI.out;have HT:Hid ((l.take (k+1)).any bi=true->l.any bi=true):=kX bi l _;clear hx
   by_cases he:bi x=true
   ·go_wp2_with (go_at_call 206;refine (HP.out x _).mono ?_;rintro e w1 ⟨rfl,hb1⟩;rw [he];have HC:Hid (Rc W w1):=HB.out.trans (hb1.mono HB.out.size);clear hb1)
    go_ret
    exact ⟨⟨_,rfl,by rw [HT.out (HS.out.trans he)];simp⟩,HC.out⟩
   ·have he':bi x=false:=by simpa using he
    clear he
    go_wp2_with (go_at_call 206;refine (HP.out x _).mono ?_;rintro e w1 ⟨rfl,hb1⟩;rw [he'];have HC:Hid (Rc W w1):=HB.out.trans (hb1.mono HB.out.size);clear hb1)
    exact ⟨⟨k+1,hlt,by go_num,HS.out.trans he',HC⟩,by simp [intOf];omega⟩
  ·obtain rfl:k=l.length:=by omega
   have q1:¬((l.length:Int)<l.length):=by omega
   go_wp2_with fail
   go_ret
   refine ⟨⟨_,rfl,?_⟩,HB.out⟩;have:=HI.out;rw [R3] at this;rw [this];rfl
theorem F2 (ao:Option Addr) (l:List Dc) (cap:Nat) (W:World) (h:Ld W ao l) (hl:l.length<=1000000000) :
  Ra 205 #[.slice ao l.length cap,.func (.func 206) #[] #[]] W fun r w'=>r=.returned (.bool (l.any bi))/\Below W.heap.size W w':=by
 have H:Hid (Ra 240 #[.slice ao l.length cap,.func (.func 206) #[] #[]] W fun r w'=>(∃z:Int,r=.returned (.int .i64 z)/\(decide (0<=z)=l.any bi))/\Rc W w'):=E5 ao l cap W h hl;clear h
 generalize l.any bi=b at *
 go_enter Tryz.func205,Tryz.ntmps205
 go_wp2_with (go_at_call 240;refine H.out.mono ?_;rintro r w1 ⟨⟨z,rfl,hz⟩,hb1⟩;have HB:Hid (Rc W w1):=hb1;clear hb1;subst hz)
 go_ret
 exact ⟨by simp,HB.out⟩
theorem EZ (ao:Option Addr) (l:List Dc) (cap:Nat) (W:World) (h:Ld W ao l) (hl:l.length<=1000000000) :
  Ra 240 #[.slice ao l.length cap,.func (.func 160) #[] #[]] W fun r w'=>(∃z:Int,r=.returned (.int .i64 z)/\(decide (0<=z)=l.any bH))/\Below W.heap.size W w':=by
 have H:Hid (Ld W ao l):=h;clear h;have HP:Hid (∀(d:Dc) (V:World),Ra 160 #[.agg #[.int .u8 d.k,.string d.t,.int .i64 d.b,.int .i64 d.i,.bool d.e]] V fun e w'=>e=.returned (.bool (bH d))/\Rc V w'):=E6
 go_enter Tryz.func240,Tryz.ntmps240
 go_wp2_with fail
 go_loopw [5,8] (fun _ i wr=>∃k:Nat,k<=l.length/\i=.int .i64 k/\Hid ((l.take k).any bH=false)/\Hid (Below W.heap.size W wr)) (fun _ i _=>l.length-(intOf i).toNat)
 case atStart=>exact ⟨0,QU _,rfl,by show _=_;simp,hH _ _⟩
 case round=>
  obtain ⟨k,hk,rfl,HI,HB⟩:=hrel
  by_cases hlt:k<l.length
  ·have q1:(k:Int)<l.length:=by omega
   have q0:(0:Int)<=k:=by omega
   obtain ⟨x,hx⟩:∃x,l[k]?=some x:=⟨_,Pi hlt⟩;obtain ⟨b,off,rfl,c0,c1,c2,c3,c4⟩:=(H.out.below HB.out) k x hx;have HS:Hid ((l.take (k+1)).any bH=bH x):=kY bH l k x hx HI.out;have HT:Hid ((l.take (k+1)).any bH=true->l.any bH=true):=kX bH l _;clear hx
   by_cases he:bH x=true
   ·go_wp2_with (go_at_call 160;refine (HP.out x _).mono ?_;rintro e w1 ⟨rfl,hb1⟩;rw [he];have HC:Hid (Rc W w1):=HB.out.trans (hb1.mono HB.out.size);clear hb1)
    go_ret
    exact ⟨⟨_,rfl,by rw [HT.out (HS.out.trans he)];simp⟩,HC.out⟩
   ·have he':bH x=false:=by simpa using he
    clear he
    go_wp2_with (go_at_call 160;refine (HP.out x _).mono ?_;rintro e w1 ⟨rfl,hb1⟩;rw [he'];have HC:Hid (Rc W w1):=HB.out.trans (hb1.mono HB.out.size);clear hb1)
    exact ⟨⟨k+1,hlt,by go_num,HS.out.trans he',HC⟩,by simp [intOf];omega⟩
  ·obtain rfl:k=l.length:=by omega
   have q1:¬((l.length:Int)<l.length):=by omega
   go_wp2_with fail
   go_ret
   refine ⟨⟨_,rfl,?_⟩,HB.out⟩;have:=HI.out;rw [R3] at this;rw [this];rfl
theorem F0 (ao:Option Addr) (l:List Dc) (cap:Nat) (W:World) (h:Ld W ao l) (hl:l.length<=1000000000) :
  Ra 205 #[.slice ao l.length cap,.func (.func 160) #[] #[]] W fun r w'=>r=.returned (.bool (l.any bH))/\Below W.heap.size W w':=by
 have H:Hid (Ra 240 #[.slice ao l.length cap,.func (.func 160) #[] #[]] W fun r w'=>(∃z:Int,r=.returned (.int .i64 z)/\(decide (0<=z)=l.any bH))/\Rc W w'):=EZ ao l cap W h hl;clear h
 generalize l.any bH=b at *
 go_enter Tryz.func205,Tryz.ntmps205
 go_wp2_with (go_at_call 240;refine H.out.mono ?_;rintro r w1 ⟨⟨z,rfl,hz⟩,hb1⟩;have HB:Hid (Rc W w1):=hb1;clear hb1;subst hz)
 go_ret
 exact ⟨by simp,HB.out⟩
theorem CJ (h:SV W g st vn vw) (hl:st.ws.length<=1000000000) :
  Ra 155 #[bX g,.func (.func 160) #[] #[]] W fun r w'=>r=.returned (.bool (st.ws.any bH))/\Below W.heap.size W w':=by
 obtain ⟨p,cap,e,_⟩:=bF h.rd;subst e;have H:Hid (Ra 205 #[.slice p st.ws.length cap,.func (.func 160) #[] #[]] W fun r w'=>r=.returned (.bool (st.ws.any bH))/\Rc W w'):=F0 p st.ws cap W (uK h.rd) hl;obtain ⟨c0,c1,c2,c3,c4,c5,c6,c7⟩:=h.sb.cells
 generalize st.ws.any bH=b at *
 generalize st.ws.length=n at *
 clear h c0 c1 c3 c4 c5 c6 c7
 go_enter Tryz.func155,Tryz.ntmps155
 go_wp2_with (go_at_call 205;refine H.out.mono ?_;rintro r w1 ⟨rfl,hb1⟩;have HB:Hid (Rc W w1):=hb1;clear hb1)
 go_ret
 exact ⟨rfl,HB.out⟩
theorem E4 (ao:Option Addr) (l:List Dc) (cap:Nat) (W:World) (h:Ld W ao l) (hl:l.length<=1000000000) :
  Ra 240 #[.slice ao l.length cap,.func (.func 156) #[] #[]] W fun r w'=>(∃z:Int,r=.returned (.int .i64 z)/\(decide (0<=z)=l.any bS))/\Below W.heap.size W w':=by
 have H:Hid (Ld W ao l):=h;clear h;have HP:Hid (∀(d:Dc) (V:World),Ra 156 #[.agg #[.int .u8 d.k,.string d.t,.int .i64 d.b,.int .i64 d.i,.bool d.e]] V fun e w'=>e=.returned (.bool (bS d))/\Rc V w'):=E7
 go_enter Tryz.func240,Tryz.ntmps240
 go_wp2_with fail
 go_loopw [5,8] (fun _ i wr=>∃k:Nat,k<=l.length/\i=.int .i64 k/\Hid ((l.take k).any bS=false)/\Hid (Below W.heap.size W wr)) (fun _ i _=>l.length-(intOf i).toNat)
 case atStart=>exact ⟨0,QU _,rfl,by show _=_;simp,hH _ _⟩
 case round=>
  obtain ⟨k,hk,rfl,HI,HB⟩:=hrel
  by_cases hlt:k<l.length
  ·have q1:(k:Int)<l.length:=by omega
   have q0:(0:Int)<=k:=by omega
   obtain ⟨x,hx⟩:∃x,l[k]?=some x:=⟨_,Pi hlt⟩;obtain ⟨b,off,rfl,c0,c1,c2,c3,c4⟩:=(H.out.below HB.out) k x hx;have HS:Hid ((l.take (k+1)).any bS=bS x):=kY bS l k x hx HI.out;have HT:Hid ((l.take (k+1)).any bS=true->l.any bS=true):=kX bS l _;clear hx
   by_cases he:bS x=true
   ·go_wp2_with (go_at_call 156;refine (HP.out x _).mono ?_;rintro e w1 ⟨rfl,hb1⟩;rw [he];have HC:Hid (Rc W w1):=HB.out.trans (hb1.mono HB.out.size);clear hb1)
    go_ret
    exact ⟨⟨_,rfl,by rw [HT.out (HS.out.trans he)];simp⟩,HC.out⟩
   ·have he':bS x=false:=by simpa using he
    clear he
    go_wp2_with (go_at_call 156;refine (HP.out x _).mono ?_;rintro e w1 ⟨rfl,hb1⟩;rw [he'];have HC:Hid (Rc W w1):=HB.out.trans (hb1.mono HB.out.size);clear hb1)
    exact ⟨⟨k+1,hlt,by go_num,HS.out.trans he',HC⟩,by simp [intOf];omega⟩
  ·obtain rfl:k=l.length:=by omega
   have q1:¬((l.length:Int)<l.length):=by omega
   go_wp2_with fail
   go_ret
   refine ⟨⟨_,rfl,?_⟩,HB.out⟩;have:=HI.out;rw [R3] at this;rw [this];rfl
theorem F1 (ao:Option Addr) (l:List Dc) (cap:Nat) (W:World) (h:Ld W ao l) (hl:l.length<=1000000000) :
  Ra 205 #[.slice ao l.length cap,.func (.func 156) #[] #[]] W fun r w'=>r=.returned (.bool (l.any bS))/\Below W.heap.size W w':=by
 have H:Hid (Ra 240 #[.slice ao l.length cap,.func (.func 156) #[] #[]] W fun r w'=>(∃z:Int,r=.returned (.int .i64 z)/\(decide (0<=z)=l.any bS))/\Rc W w'):=E4 ao l cap W h hl;clear h
 generalize l.any bS=b at *
 go_enter Tryz.func205,Tryz.ntmps205
 go_wp2_with (go_at_call 240;refine H.out.mono ?_;rintro r w1 ⟨⟨z,rfl,hz⟩,hb1⟩;have HB:Hid (Rc W w1):=hb1;clear hb1;subst hz)
 go_ret
 exact ⟨by simp,HB.out⟩
theorem CK (h:SV W g st vn vw) (hl:st.ws.length<=1000000000) :
  Ra 155 #[bX g,.func (.func 156) #[] #[]] W fun r w'=>r=.returned (.bool (st.ws.any bS))/\Below W.heap.size W w':=by
 obtain ⟨p,cap,e,_⟩:=bF h.rd;subst e;have H:Hid (Ra 205 #[.slice p st.ws.length cap,.func (.func 156) #[] #[]] W fun r w'=>r=.returned (.bool (st.ws.any bS))/\Rc W w'):=F1 p st.ws cap W (uK h.rd) hl;obtain ⟨c0,c1,c2,c3,c4,c5,c6,c7⟩:=h.sb.cells
 generalize st.ws.any bS=b at *
 generalize st.ws.length=n at *
 clear h c0 c1 c3 c4 c5 c6 c7
 go_enter Tryz.func155,Tryz.ntmps155
 go_wp2_with (go_at_call 205;refine H.out.mono ?_;rintro r w1 ⟨rfl,hb1⟩;have HB:Hid (Rc W w1):=hb1;clear hb1)
 go_ret
 exact ⟨rfl,HB.out⟩
end Go.Proofs.YtnljjdhodelhdaaGreatDoor
