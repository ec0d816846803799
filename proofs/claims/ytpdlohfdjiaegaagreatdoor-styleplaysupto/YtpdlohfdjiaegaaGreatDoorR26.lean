import Derived.Test.YtpdlohfdjiaegaaGreatDoorR25
set_option linter.unusedVariables false
set_option linter.unusedSimpArgs false
set_option maxHeartbeats 1000000
namespace Go.Proofs.YtpdlohfdjiaegaaGreatDoor
open Go.RowKit
open Lw (Dc bE rt frm dep rtT rtN dcs au aH)
variable {st:Sy}{W:World}{g n:Nat}
def Bz (n:Nat) (st:Sy):Prop:=st.ws.length<=n/\st.ns.length<=n/\∀x∈st.ns,x.b<=n
theorem Bz.mono {m:Nat}(h:Bz n st) (hm:n<=m):Bz m st:=⟨by have:=h.1;omega,by have:=h.2.1;omega,fun x hx=>by have:=h.2.2 x hx;omega⟩
theorem ie (p:Pz) (l:List Nd):(awN p l).length=l.length:=by cases l <;> rfl
theorem dA (p:Pz) (l:List Nd):(awW p l).length<=1:=by unfold awW;split <;> simp
theorem Bz.aw (h:Bz n st) (p:Pz):Bz (n+1) (st.aw p):=by
 obtain ⟨h1,h2,h3⟩:=h;refine ⟨?_,?_,?_⟩
 ·show (st.ws++awW p st.ns).length<=_
  have:=dA p st.ns;rw [zq];omega
 ·show (awN p st.ns).length<=_
  rw [ie];omega
 ·intro x hx;have hx':x∈awN p st.ns:=hx;cases hc:st.ns with
  |nil=>rw [hc] at hx';simp [awN] at hx'
  |cons m r=>
   rw [hc] at hx' h3;simp only [awN,zK] at hx';have hm:=h3 m zV;have hp:p.n<=1:=by cases p <;> simp [Pz.n]
   rcases hx' with rfl|hx'
   ·split
    ·show m.b-1<=_;omega
    ·show m.b+p.n<=_;omega
   ·have:=h3 x (zX _ hx');omega
theorem jG (h:st.ns≠[]) (p:Pz):(st.aw p).ns≠[]:=by
 intro e;have:(awN p st.ns).length=0:=by rw [show awN p st.ns=[] from e];rfl
 rw [ie] at this;exact h (zI this)
theorem Mv.seq {S:Nat->Prop}{W1:World}(h:Mv S g W W1 st):∃S1,SS S1 W1 g st/\∀W2 st2,Mv S1 g W1 W2 st2->Mv S g W W2 st2:=by
 obtain ⟨⟨S1,s1,s2⟩,hk,hc⟩:=h;refine ⟨S1,s1,?_⟩;rintro W2 st2 ⟨⟨S2,t1,t2⟩,hk2,hc2⟩;refine ⟨⟨S2,t1,fun k hk'=>?_⟩,hk.step hk2 (fun k hlt hs=>?_),hc2.trans hc⟩
 ·rcases t2 k hk' with a|a
  ·exact s2 k a
  ·exact .inr (zr hk.size a)
 ·rcases s2 k hs with a|a
  ·exact a
  ·omega
theorem ia {S:Nat->Prop}(h:SS S W g st) (hns:st.ns≠[]) (hz:Bz 1000000000 st) :
  Aa 68 #[spg g] W fun r w'=>r=.returned (.tuple #[])/\Mv S g W w' (st.aw .X):=by
 obtain ⟨vn,vw,hv,s1,s2⟩:=h.ex
 obtain ⟨n,r,en⟩:∃n r,st.ns=n :: r:=by
  cases hc:st.ns with
  |nil=>exact absurd hc hns
  |cons n r=>exact ⟨n,r,rfl⟩
 have hn1:=hv.rn;rw [en] at hn1;obtain ⟨b,cap,rfl,hc1,hc2⟩:=ea hn1;have hnl:=hz.2.1;rw [en] at hnl;have HI:Hid (Aa 62 #[spg g] W fun r' w'=>r'=.returned (.pointer (some ⟨b,r.length*3,none⟩))/\Ab W w'):=cY hv.sb.cells.2.1 (by simp at hnl;omega);have hnb:n.b<=1000000000:=hz.2.2 n (by rw [en];exact zV);have eN:awN .X st.ns=⟨n.k,n.b-1,n.s⟩ :: r:=by rw [en];rfl
 have hsg:=h.sg
 have HV:Hid (∀V,Ab W V->SV V g st (.slice (some ⟨b,0,none⟩) (r.length+1) cap) vw/\V.cell? ⟨b,r.length*3+1,none⟩=some (.int .i64 n.b)):=fun V hb=>by
  have a3:=hv.below hb;refine ⟨a3,?_⟩;have a4:=a3.rn;rw [en] at a4;exact (dM a4).2.1
 by_cases h0:n.b=0
 ·have eW:awW .X st.ns=[]:=by unfold awW;rw [en];simp [h0]
  have HX:Hid (∀V,Ab W V->Mv S g W V (st.aw .X)):=fun V hb=>by
   have e9:st.aw .X=st:=by
    unfold Sy.aw;rw [eN,eW,AQ,h0];have:(⟨n.k,0-1,n.s⟩:Nd)=n:=by cases n;simp at h0;subst h0;rfl
    rw [this,<-en]
   rw [e9];exact Mv.quiet h hb
  rw [h0] at HV;clear hv hn1 h s1 s2 eN eW hz hnl hnb en hns h0
  go_enter Tryz.func68,Tryz.ntmps68
  go_wp2_with (go_at_call 62;refine HI.out.mono ?_;rintro r2 w2 ⟨rfl,hb2⟩;have x1:=(HV.out _ hb2).2;have HM:=show Hid (Mv S g W w2 (st.aw .X)) from HX.out _ hb2;clear hb2)
  go_end0
  exact ⟨rfl,HM.out⟩
 ·have eW:awW .X st.ns=[dX]:=by unfold awW;rw [en];simp [h0,Pz.d]
  have q0:decide ((0:Int)<(n.b:Int))=true:=by simp;omega
  have q1:(0:Int)<(n.b:Int):=by omega
  have q2:IntKind.i64.wrap ((n.b:Int)-1)=((n.b-1:Nat):Int):=by rw [zF];omega
  have HW:Hid (∀V,Ab W V->Aa 119 #[spg g,.agg #[.int .u8 7,.string ⟨#[]⟩,.int .i64 0,.int .i64 0,.bool false]] V fun rr w'=>rr=.returned (.tuple #[])/\WP V w' g st (.slice (some ⟨b,0,none⟩) (r.length+1) cap) vw (st.ws++[dX])):=fun V hb=>ik (HV.out V hb).1 dX hz.1
  have HE:Hid (∀V w2,Ab W V->WP V w2 g st (.slice (some ⟨b,0,none⟩) (r.length+1) cap) vw (st.ws++[dX])->(w2.cell? ⟨b,r.length*3+1,none⟩=some (.int .i64 n.b)/\w2.frozen? ⟨b,r.length*3+1,none⟩=false)/\Mv S g W (w2.setCell ⟨b,r.length*3+1,none⟩ (.int .i64 ((n.b-1:Nat):Int))) (st.aw .X)):=fun V w2 hb hp1=>by
   obtain ⟨vw',a3,a2⟩:=hp1.ex;have a4:Rn tN w2 (.slice (some ⟨b,0,none⟩) (r.length+1) cap) (n :: r):=by have:=a3.rn;rw [show ({ st with ws:=st.ws++[dX] }:Sy).ns=n :: r from en] at this;exact this
   refine ⟨⟨(dM a4).2.1,Bg a4 _⟩,?_⟩;have a5:=SV.nd (n:=n) (m:=⟨n.k,n.b-1,n.s⟩) (show ({ st with ws:=st.ws++[dX] }:Sy).ns=n :: r from en) a3 1 (.int .i64 ((n.b-1:Nat):Int)) (by omega) rfl;have e9:({ ({ st with ws:=st.ws++[dX] }:Sy) with ns:=⟨n.k,n.b-1,n.s⟩ :: r }:Sy)=st.aw .X:=by unfold Sy.aw;rw [eN,eW]
   rw [e9] at a5;have hk:Kp S W (w2.setCell ⟨b,r.length*3+1,none⟩ (.int .i64 ((n.b-1:Nat):Int))):=(((Kp.of_below hb).step (hp1.kp.sub (S:=S) (by rintro k (e|e);rw [e];exact hsg;exact s2 k e)) (fun _ _ h=>h)).step (Kp.set _ _ _ _) (fun k _ e=>by rw [e];exact s1 b rfl));refine Mv.mk' a5 hsg (fun k e=>.inl (s1 k e)) (fun k e=>?_) hk hv.sb.cells.2.1
   rcases a2 with a2|⟨q,hq,hq2⟩
   ·exact .inl (s2 k (by rw [<-a2];exact e))
   ·rw [hq] at e;cases e;exact .inr (zr hb.size hq2)
  clear hv hn1 h s1 s2 eN eW hz hnl hnb en hns h0
  go_enter Tryz.func68,Tryz.ntmps68
  go_wp2_with (first|(go_at_call 62;refine HI.out.mono ?_;rintro r2 w2 ⟨rfl,hb2⟩;have x1:=(HV.out _ hb2).2;have HB:=show Hid (Below W.heap.size W w2) from hb2;clear hb2)|(go_at_call 119;refine (HW.out _ HB.out).mono ?_;rintro r3 w3 ⟨rfl,hp3⟩;obtain ⟨⟨y1,y2⟩,y3⟩:=HE.out _ _ HB.out hp3;have HX:=hid y3;clear y3 hp3))
  go_end0
  exact ⟨rfl,HX.out⟩
theorem gz {S:Nat->Prop}(h:SS S W g st) (p:Pz) (hp:p.n=0/\p≠.X) (hz:Bz 1000000000 st) (hns:st.ns≠[]\/True) :
  Aa 119 #[spg g,.agg #[.int .u8 p.d.k,.string p.d.t,.int .i64 p.d.b,.int .i64 p.d.i,.bool p.d.e]] W fun r w'=>r=.returned (.tuple #[])/\Mv S g W w' (st.aw p):=by
 obtain ⟨vn,vw,hv,s1,s2⟩:=h.ex;refine (ik hv p.d hz.1).mono ?_;rintro r w' ⟨rfl,hp1⟩;refine ⟨rfl,?_⟩;have:=hp1.mv hv h.sg s1 s2
 have e:({ st with ws:=st.ws++[p.d] }:Sy)=st.aw p:=by
  have eN:awN p st.ns=st.ns:=by
   cases st.ns with
   |nil=>rfl
   |cons n r=>simp only [awN];rw [zu hp.2,hp.1];rfl
  have eW:awW p st.ns=[p.d]:=by unfold awW;rw [zu (fun h=>hp.2 h.1)]
  unfold Sy.aw;rw [eN,eW]
 rw [e] at this;exact this
theorem sX {S:Nat->Prop}(h:SS S W g st) (hns:st.ns≠[]) (hz:Bz 999999990 st) :
  Aa 73 #[spg g] W fun r w'=>r=.returned (.tuple #[])/\Mv S g W w' (st.aws Fx.blank.pz):=by
 have H0:Hid (∀S V,SS S V g st->Aa 119 #[spg g,.agg #[.int .u8 2,.string ⟨#[]⟩,.int .i64 0,.int .i64 0,.bool false]] V fun r w'=>r=.returned (.tuple #[])/\Mv S g V w' (st.aw .S)):=fun S V hS=>gz hS .S ⟨rfl,by decide⟩ (hz.mono (by omega)) (.inr trivial)
 have HE:Hid (st.aws Fx.blank.pz=(st.aw .S)):=rfl;have HS:Hid (SS S W g st):=h;clear h hz hns
 go_enter Tryz.func73,Tryz.ntmps73
 go_wp2_with (first|(go_at_call 119;refine (H0.out _ _ HS.out).mono ?_;rintro r0 w0 ⟨rfl,m0⟩;obtain ⟨S0,t0,u0⟩:=Mv.seq m0;have T0:=show Hid (SS S0 w0 g (st.aw .S)) from t0;have U0:=show Hid (∀W2 st2,Mv S0 g w0 W2 st2->Mv S g W W2 st2) from u0;have M0:=show Hid (Mv S g W w0 (st.aw .S)) from m0;clear t0 u0 m0))
 go_end0
 rw [HE.out];exact ⟨rfl,M0.out⟩
theorem eS {S:Nat->Prop}(h:SS S W g st) (hns:st.ns≠[]) (hz:Bz 999999999 st) :
  Aa 73 #[spg g] W fun r w'=>r=.returned (.tuple #[])/\Mv S g W w' (st.aw .S):=by
 have H0:Hid (∀S V,SS S V g st->Aa 119 #[spg g,.agg #[.int .u8 2,.string ⟨#[]⟩,.int .i64 0,.int .i64 0,.bool false]] V fun r w'=>r=.returned (.tuple #[])/\Mv S g V w' (st.aw .S)):=fun S V hS=>gz hS .S ⟨rfl,by decide⟩ (hz.mono (by omega)) (.inr trivial)
 have HS:Hid (SS S W g st):=h;clear h hz hns
 go_enter Tryz.func73,Tryz.ntmps73
 go_wp2_with (go_at_call 119;refine (H0.out _ _ HS.out).mono ?_;rintro r0 w0 ⟨rfl,m0⟩;have M0:=show Hid (Mv S g W w0 (st.aw .S)) from m0;clear m0)
 go_end0
 exact ⟨rfl,M0.out⟩
theorem qh {S:Nat->Prop}(h:SS S W g st) (hns:st.ns≠[]) (hz:Bz 999999990 st) :
  Aa 171 #[spg g] W fun r w'=>r=.returned (.tuple #[])/\Mv S g W w' (st.aws Fx.break1.pz):=by
 have H0:Hid (∀S V,SS S V g st->Aa 119 #[spg g,.agg #[.int .u8 3,.string ⟨#[]⟩,.int .i64 1,.int .i64 0,.bool false]] V fun r w'=>r=.returned (.tuple #[])/\Mv S g V w' (st.aw .B1)):=fun S V hS=>gz hS .B1 ⟨rfl,by decide⟩ (hz.mono (by omega)) (.inr trivial)
 have HE:Hid (st.aws Fx.break1.pz=(st.aw .B1)):=rfl;have HS:Hid (SS S W g st):=h;clear h hz hns
 go_enter Tryz.func171,Tryz.ntmps171
 go_wp2_with (first|(go_at_call 119;refine (H0.out _ _ HS.out).mono ?_;rintro r0 w0 ⟨rfl,m0⟩;obtain ⟨S0,t0,u0⟩:=Mv.seq m0;have T0:=show Hid (SS S0 w0 g (st.aw .B1)) from t0;have U0:=show Hid (∀W2 st2,Mv S0 g w0 W2 st2->Mv S g W W2 st2) from u0;have M0:=show Hid (Mv S g W w0 (st.aw .B1)) from m0;clear t0 u0 m0))
 go_end0
 rw [HE.out];exact ⟨rfl,M0.out⟩
theorem m8 {S:Nat->Prop}(h:SS S W g st) (hns:st.ns≠[]) (hz:Bz 999999999 st) :
  Aa 171 #[spg g] W fun r w'=>r=.returned (.tuple #[])/\Mv S g W w' (st.aw .B1):=by
 have H0:Hid (∀S V,SS S V g st->Aa 119 #[spg g,.agg #[.int .u8 3,.string ⟨#[]⟩,.int .i64 1,.int .i64 0,.bool false]] V fun r w'=>r=.returned (.tuple #[])/\Mv S g V w' (st.aw .B1)):=fun S V hS=>gz hS .B1 ⟨rfl,by decide⟩ (hz.mono (by omega)) (.inr trivial)
 have HS:Hid (SS S W g st):=h;clear h hz hns
 go_enter Tryz.func171,Tryz.ntmps171
 go_wp2_with (go_at_call 119;refine (H0.out _ _ HS.out).mono ?_;rintro r0 w0 ⟨rfl,m0⟩;have M0:=show Hid (Mv S g W w0 (st.aw .B1)) from m0;clear m0)
 go_end0
 exact ⟨rfl,M0.out⟩
theorem vN {S:Nat->Prop}(h:SS S W g st) (hns:st.ns≠[]) (hz:Bz 999999990 st) :
  Aa 69 #[spg g] W fun r w'=>r=.returned (.tuple #[])/\Mv S g W w' (st.aws Fx.hard.pz):=by
 have H0:Hid (∀S V,SS S V g st->Aa 119 #[spg g,.agg #[.int .u8 4,.string ⟨#[]⟩,.int .i64 0,.int .i64 0,.bool false]] V fun r w'=>r=.returned (.tuple #[])/\Mv S g V w' (st.aw .H)):=fun S V hS=>gz hS .H ⟨rfl,by decide⟩ (hz.mono (by omega)) (.inr trivial)
 have HE:Hid (st.aws Fx.hard.pz=(st.aw .H)):=rfl;have HS:Hid (SS S W g st):=h;clear h hz hns
 go_enter Tryz.func69,Tryz.ntmps69
 go_wp2_with (first|(go_at_call 119;refine (H0.out _ _ HS.out).mono ?_;rintro r0 w0 ⟨rfl,m0⟩;obtain ⟨S0,t0,u0⟩:=Mv.seq m0;have T0:=show Hid (SS S0 w0 g (st.aw .H)) from t0;have U0:=show Hid (∀W2 st2,Mv S0 g w0 W2 st2->Mv S g W W2 st2) from u0;have M0:=show Hid (Mv S g W w0 (st.aw .H)) from m0;clear t0 u0 m0))
 go_end0
 rw [HE.out];exact ⟨rfl,M0.out⟩
theorem iT {S:Nat->Prop}(h:SS S W g st) (hns:st.ns≠[]) (hz:Bz 999999999 st) :
  Aa 69 #[spg g] W fun r w'=>r=.returned (.tuple #[])/\Mv S g W w' (st.aw .H):=by
 have H0:Hid (∀S V,SS S V g st->Aa 119 #[spg g,.agg #[.int .u8 4,.string ⟨#[]⟩,.int .i64 0,.int .i64 0,.bool false]] V fun r w'=>r=.returned (.tuple #[])/\Mv S g V w' (st.aw .H)):=fun S V hS=>gz hS .H ⟨rfl,by decide⟩ (hz.mono (by omega)) (.inr trivial)
 have HS:Hid (SS S W g st):=h;clear h hz hns
 go_enter Tryz.func69,Tryz.ntmps69
 go_wp2_with (go_at_call 119;refine (H0.out _ _ HS.out).mono ?_;rintro r0 w0 ⟨rfl,m0⟩;have M0:=show Hid (Mv S g W w0 (st.aw .H)) from m0;clear m0)
 go_end0
 exact ⟨rfl,M0.out⟩
theorem vO {S:Nat->Prop}(h:SS S W g st) (hns:st.ns≠[]) (hz:Bz 999999990 st) :
  Aa 172 #[spg g] W fun r w'=>r=.returned (.tuple #[])/\Mv S g W w' (st.aws Fx.fend.pz):=by
 have H0:Hid (∀S V,SS S V g st->Aa 68 #[spg g] V fun r w'=>r=.returned (.tuple #[])/\Mv S g V w' (st.aw .X)):=fun S V hS=>ia hS hns (hz.mono (by omega))
 have HE:Hid (st.aws Fx.fend.pz=(st.aw .X)):=rfl;have HS:Hid (SS S W g st):=h;clear h hz hns
 go_enter Tryz.func172,Tryz.ntmps172
 go_wp2_with (first|(go_at_call 68;refine (H0.out _ _ HS.out).mono ?_;rintro r0 w0 ⟨rfl,m0⟩;obtain ⟨S0,t0,u0⟩:=Mv.seq m0;have T0:=show Hid (SS S0 w0 g (st.aw .X)) from t0;have U0:=show Hid (∀W2 st2,Mv S0 g w0 W2 st2->Mv S g W W2 st2) from u0;have M0:=show Hid (Mv S g W w0 (st.aw .X)) from m0;clear t0 u0 m0))
 go_end0
 rw [HE.out];exact ⟨rfl,M0.out⟩
theorem xS {S:Nat->Prop}(h:SS S W g st) (hns:st.ns≠[]) (hz:Bz 999999990 st) :
  Aa 176 #[spg g] W fun r w'=>r=.returned (.tuple #[])/\Mv S g W w' (st.aws Fx.in1.pz):=by
 have H0:Hid (∀S V,SS S V g st->Aa 67 #[spg g,.int .i64 1,.bool false] V fun r w'=>r=.returned (.tuple #[])/\Mv S g V w' (st.aw (.I 1))):=fun S V hS=>cD hS (.I 1) ⟨rfl,rfl⟩ hns (by have:=(hz).1;omega) (by have:=(hz).2.1;omega) (fun n hn=>by have:=(hz).2.2 n hn;omega)
 have HE:Hid (st.aws Fx.in1.pz=(st.aw (.I 1))):=rfl;have HS:Hid (SS S W g st):=h;clear h hz hns
 go_enter Tryz.func176,Tryz.ntmps176
 go_wp2_with (first|(go_at_call 67;refine (H0.out _ _ HS.out).mono ?_;rintro r0 w0 ⟨rfl,m0⟩;obtain ⟨S0,t0,u0⟩:=Mv.seq m0;have T0:=show Hid (SS S0 w0 g (st.aw (.I 1))) from t0;have U0:=show Hid (∀W2 st2,Mv S0 g w0 W2 st2->Mv S g W W2 st2) from u0;have M0:=show Hid (Mv S g W w0 (st.aw (.I 1))) from m0;clear t0 u0 m0))
 go_end0
 rw [HE.out];exact ⟨rfl,M0.out⟩
theorem xR {S:Nat->Prop}(h:SS S W g st) (hns:st.ns≠[]) (hz:Bz 999999990 st) :
  Aa 177 #[spg g] W fun r w'=>r=.returned (.tuple #[])/\Mv S g W w' (st.aws Fx.in2.pz):=by
 have H0:Hid (∀S V,SS S V g st->Aa 67 #[spg g,.int .i64 2,.bool false] V fun r w'=>r=.returned (.tuple #[])/\Mv S g V w' (st.aw (.I 2))):=fun S V hS=>cD hS (.I 2) ⟨rfl,rfl⟩ hns (by have:=(hz).1;omega) (by have:=(hz).2.1;omega) (fun n hn=>by have:=(hz).2.2 n hn;omega)
 have HE:Hid (st.aws Fx.in2.pz=(st.aw (.I 2))):=rfl;have HS:Hid (SS S W g st):=h;clear h hz hns
 go_enter Tryz.func177,Tryz.ntmps177
 go_wp2_with (first|(go_at_call 67;refine (H0.out _ _ HS.out).mono ?_;rintro r0 w0 ⟨rfl,m0⟩;obtain ⟨S0,t0,u0⟩:=Mv.seq m0;have T0:=show Hid (SS S0 w0 g (st.aw (.I 2))) from t0;have U0:=show Hid (∀W2 st2,Mv S0 g w0 W2 st2->Mv S g W W2 st2) from u0;have M0:=show Hid (Mv S g W w0 (st.aw (.I 2))) from m0;clear t0 u0 m0))
 go_end0
 rw [HE.out];exact ⟨rfl,M0.out⟩
theorem oz {S:Nat->Prop}(h:SS S W g st) (hns:st.ns≠[]) (hz:Bz 999999999 st) :
  Aa 177 #[spg g] W fun r w'=>r=.returned (.tuple #[])/\Mv S g W w' (st.aw (.I 2)):=by
 have H0:Hid (∀S V,SS S V g st->Aa 67 #[spg g,.int .i64 2,.bool false] V fun r w'=>r=.returned (.tuple #[])/\Mv S g V w' (st.aw (.I 2))):=fun S V hS=>cD hS (.I 2) ⟨rfl,rfl⟩ hns (by have:=hz.1;omega) (by have:=hz.2.1;omega) (fun n hn=>by have:=hz.2.2 n hn;omega)
 have HS:Hid (SS S W g st):=h;clear h hz hns
 go_enter Tryz.func177,Tryz.ntmps177
 go_wp2_with (go_at_call 67;refine (H0.out _ _ HS.out).mono ?_;rintro r0 w0 ⟨rfl,m0⟩;have M0:=show Hid (Mv S g W w0 (st.aw (.I 2))) from m0;clear m0)
 go_end0
 exact ⟨rfl,M0.out⟩
theorem lL {S:Nat->Prop}(h:SS S W g st) (hns:st.ns≠[]) (hz:Bz 999999990 st) :
  Aa 175 #[spg g] W fun r w'=>r=.returned (.tuple #[])/\Mv S g W w' (st.aws Fx.endBlank.pz):=by
 have H0:Hid (∀S V,SS S V g st->Aa 68 #[spg g] V fun r w'=>r=.returned (.tuple #[])/\Mv S g V w' (st.aw .X)):=fun S V hS=>ia hS hns (hz.mono (by omega))
 have H1:Hid (∀S V,SS S V g (st.aw .X)->Aa 73 #[spg g] V fun r w'=>r=.returned (.tuple #[])/\Mv S g V w' ((st.aw .X).aw (.S))):=fun S V hS=>eS hS (jG hns .X) ((hz.aw .X).mono (by omega))
 have HE:Hid (st.aws Fx.endBlank.pz=((st.aw .X).aw (.S))):=rfl;have HS:Hid (SS S W g st):=h;clear h hz hns
 go_enter Tryz.func175,Tryz.ntmps175
 go_wp2_with (first|(go_at_call 73;refine (H1.out _ _ T0.out).mono ?_;rintro r1 w1 ⟨rfl,m1⟩;have M1:=show Hid (Mv S0 g w0 w1 ((st.aw .X).aw (.S))) from m1;clear m1)|(go_at_call 68;refine (H0.out _ _ HS.out).mono ?_;rintro r0 w0 ⟨rfl,m0⟩;obtain ⟨S0,t0,u0⟩:=Mv.seq m0;have T0:=show Hid (SS S0 w0 g (st.aw .X)) from t0;have U0:=show Hid (∀W2 st2,Mv S0 g w0 W2 st2->Mv S g W W2 st2) from u0;have M0:=show Hid (Mv S g W w0 (st.aw .X)) from m0;clear t0 u0 m0))
 go_end0
 rw [HE.out];exact ⟨rfl,U0.out _ _ M1.out⟩
theorem mZ {S:Nat->Prop}(h:SS S W g st) (hns:st.ns≠[]) (hz:Bz 999999990 st) :
  Aa 169 #[spg g] W fun r w'=>r=.returned (.tuple #[])/\Mv S g W w' (st.aws Fx.endHard.pz):=by
 have H0:Hid (∀S V,SS S V g st->Aa 68 #[spg g] V fun r w'=>r=.returned (.tuple #[])/\Mv S g V w' (st.aw .X)):=fun S V hS=>ia hS hns (hz.mono (by omega))
 have H1:Hid (∀S V,SS S V g (st.aw .X)->Aa 69 #[spg g] V fun r w'=>r=.returned (.tuple #[])/\Mv S g V w' ((st.aw .X).aw (.H))):=fun S V hS=>iT hS (jG hns .X) ((hz.aw .X).mono (by omega))
 have HE:Hid (st.aws Fx.endHard.pz=((st.aw .X).aw (.H))):=rfl;have HS:Hid (SS S W g st):=h;clear h hz hns
 go_enter Tryz.func169,Tryz.ntmps169
 go_wp2_with (first|(go_at_call 69;refine (H1.out _ _ T0.out).mono ?_;rintro r1 w1 ⟨rfl,m1⟩;have M1:=show Hid (Mv S0 g w0 w1 ((st.aw .X).aw (.H))) from m1;clear m1)|(go_at_call 68;refine (H0.out _ _ HS.out).mono ?_;rintro r0 w0 ⟨rfl,m0⟩;obtain ⟨S0,t0,u0⟩:=Mv.seq m0;have T0:=show Hid (SS S0 w0 g (st.aw .X)) from t0;have U0:=show Hid (∀W2 st2,Mv S0 g w0 W2 st2->Mv S g W W2 st2) from u0;have M0:=show Hid (Mv S g W w0 (st.aw .X)) from m0;clear t0 u0 m0))
 go_end0
 rw [HE.out];exact ⟨rfl,U0.out _ _ M1.out⟩
theorem kg {S:Nat->Prop}(h:SS S W g st) (hns:st.ns≠[]) (hz:Bz 999999990 st) :
  Aa 174 #[spg g] W fun r w'=>r=.returned (.tuple #[])/\Mv S g W w' (st.aws Fx.in2Break0.pz):=by
 have H0:Hid (∀S V,SS S V g st->Aa 177 #[spg g] V fun r w'=>r=.returned (.tuple #[])/\Mv S g V w' (st.aw (.I 2))):=fun S V hS=>oz hS hns (hz.mono (by omega))
 have H1:Hid (∀S V,SS S V g (st.aw (.I 2))->Aa 119 #[spg g,.agg #[.int .u8 3,.string ⟨#[]⟩,.int .i64 0,.int .i64 0,.bool false]] V fun r w'=>r=.returned (.tuple #[])/\Mv S g V w' ((st.aw (.I 2)).aw .B0)):=fun S V hS=>gz hS .B0 ⟨rfl,by decide⟩ ((hz.aw (.I 2)).mono (by omega)) (.inr trivial)
 have HE:Hid (st.aws Fx.in2Break0.pz=((st.aw (.I 2)).aw .B0)):=rfl;have HS:Hid (SS S W g st):=h;clear h hz hns
 go_enter Tryz.func174,Tryz.ntmps174
 go_wp2_with (first|(go_at_call 119;refine (H1.out _ _ T0.out).mono ?_;rintro r1 w1 ⟨rfl,m1⟩;have M1:=show Hid (Mv S0 g w0 w1 ((st.aw (.I 2)).aw .B0)) from m1;clear m1)|(go_at_call 177;refine (H0.out _ _ HS.out).mono ?_;rintro r0 w0 ⟨rfl,m0⟩;obtain ⟨S0,t0,u0⟩:=Mv.seq m0;have T0:=show Hid (SS S0 w0 g (st.aw (.I 2))) from t0;have U0:=show Hid (∀W2 st2,Mv S0 g w0 W2 st2->Mv S g W W2 st2) from u0;have M0:=show Hid (Mv S g W w0 (st.aw (.I 2))) from m0;clear t0 u0 m0))
 go_end0
 rw [HE.out];exact ⟨rfl,U0.out _ _ M1.out⟩
theorem kf {S:Nat->Prop}(h:SS S W g st) (hns:st.ns≠[]) (hz:Bz 999999990 st) :
  Aa 173 #[spg g] W fun r w'=>r=.returned (.tuple #[])/\Mv S g W w' (st.aws Fx.in2Break1.pz):=by
 have H0:Hid (∀S V,SS S V g st->Aa 177 #[spg g] V fun r w'=>r=.returned (.tuple #[])/\Mv S g V w' (st.aw (.I 2))):=fun S V hS=>oz hS hns (hz.mono (by omega))
 have H1:Hid (∀S V,SS S V g (st.aw (.I 2))->Aa 171 #[spg g] V fun r w'=>r=.returned (.tuple #[])/\Mv S g V w' ((st.aw (.I 2)).aw (.B1))):=fun S V hS=>m8 hS (jG hns (.I 2)) ((hz.aw (.I 2)).mono (by omega))
 have HE:Hid (st.aws Fx.in2Break1.pz=((st.aw (.I 2)).aw (.B1))):=rfl;have HS:Hid (SS S W g st):=h;clear h hz hns
 go_enter Tryz.func173,Tryz.ntmps173
 go_wp2_with (first|(go_at_call 171;refine (H1.out _ _ T0.out).mono ?_;rintro r1 w1 ⟨rfl,m1⟩;have M1:=show Hid (Mv S0 g w0 w1 ((st.aw (.I 2)).aw (.B1))) from m1;clear m1)|(go_at_call 177;refine (H0.out _ _ HS.out).mono ?_;rintro r0 w0 ⟨rfl,m0⟩;obtain ⟨S0,t0,u0⟩:=Mv.seq m0;have T0:=show Hid (SS S0 w0 g (st.aw (.I 2))) from t0;have U0:=show Hid (∀W2 st2,Mv S0 g w0 W2 st2->Mv S g W W2 st2) from u0;have M0:=show Hid (Mv S g W w0 (st.aw (.I 2))) from m0;clear t0 u0 m0))
 go_end0
 rw [HE.out];exact ⟨rfl,U0.out _ _ M1.out⟩
theorem kh {S:Nat->Prop}(h:SS S W g st) (hns:st.ns≠[]) (hz:Bz 999999990 st) :
  Aa 168 #[spg g] W fun r w'=>r=.returned (.tuple #[])/\Mv S g W w' (st.aws Fx.even2Hard.pz):=by
 have H0:Hid (∀S V,SS S V g st->Aa 67 #[spg g,.int .i64 2,.bool true] V fun r w'=>r=.returned (.tuple #[])/\Mv S g V w' (st.aw (.J))):=fun S V hS=>cD hS (.J) ⟨rfl,rfl⟩ hns (by have:=(hz).1;omega) (by have:=(hz).2.1;omega) (fun n hn=>by have:=(hz).2.2 n hn;omega)
 have H1:Hid (∀S V,SS S V g (st.aw (.J))->Aa 69 #[spg g] V fun r w'=>r=.returned (.tuple #[])/\Mv S g V w' ((st.aw (.J)).aw (.H))):=fun S V hS=>iT hS (jG hns (.J)) ((hz.aw (.J)).mono (by omega))
 have HE:Hid (st.aws Fx.even2Hard.pz=((st.aw (.J)).aw (.H))):=rfl;have HS:Hid (SS S W g st):=h;clear h hz hns
 go_enter Tryz.func168,Tryz.ntmps168
 go_wp2_with (first|(go_at_call 69;refine (H1.out _ _ T0.out).mono ?_;rintro r1 w1 ⟨rfl,m1⟩;have M1:=show Hid (Mv S0 g w0 w1 ((st.aw (.J)).aw (.H))) from m1;clear m1)|(go_at_call 67;refine (H0.out _ _ HS.out).mono ?_;rintro r0 w0 ⟨rfl,m0⟩;obtain ⟨S0,t0,u0⟩:=Mv.seq m0;have T0:=show Hid (SS S0 w0 g (st.aw (.J))) from t0;have U0:=show Hid (∀W2 st2,Mv S0 g w0 W2 st2->Mv S g W W2 st2) from u0;have M0:=show Hid (Mv S g W w0 (st.aw (.J))) from m0;clear t0 u0 m0))
 go_end0
 rw [HE.out];exact ⟨rfl,U0.out _ _ M1.out⟩
theorem gF {S:Nat->Prop}(h:SS S W g st) (hns:st.ns≠[]) (hz:Bz 999999990 st) :
  Aa 118 #[spg g] W fun r w'=>r=.returned (.tuple #[])/\Mv S g W w' (st.aws Fx.blankIn3.pz):=by
 have H0:Hid (∀S V,SS S V g st->Aa 73 #[spg g] V fun r w'=>r=.returned (.tuple #[])/\Mv S g V w' (st.aw (.S))):=fun S V hS=>eS hS hns (hz.mono (by omega))
 have H1:Hid (∀S V,SS S V g (st.aw (.S))->Aa 67 #[spg g,.int .i64 3,.bool false] V fun r w'=>r=.returned (.tuple #[])/\Mv S g V w' ((st.aw (.S)).aw (.I 3))):=fun S V hS=>cD hS (.I 3) ⟨rfl,rfl⟩ (jG hns (.S)) (by have:=((hz.aw (.S))).1;omega) (by have:=((hz.aw (.S))).2.1;omega) (fun n hn=>by have:=((hz.aw (.S))).2.2 n hn;omega)
 have HE:Hid (st.aws Fx.blankIn3.pz=((st.aw (.S)).aw (.I 3))):=rfl;have HS:Hid (SS S W g st):=h;clear h hz hns
 go_enter Tryz.func118,Tryz.ntmps118
 go_wp2_with (first|(go_at_call 67;refine (H1.out _ _ T0.out).mono ?_;rintro r1 w1 ⟨rfl,m1⟩;have M1:=show Hid (Mv S0 g w0 w1 ((st.aw (.S)).aw (.I 3))) from m1;clear m1)|(go_at_call 73;refine (H0.out _ _ HS.out).mono ?_;rintro r0 w0 ⟨rfl,m0⟩;obtain ⟨S0,t0,u0⟩:=Mv.seq m0;have T0:=show Hid (SS S0 w0 g (st.aw (.S))) from t0;have U0:=show Hid (∀W2 st2,Mv S0 g w0 W2 st2->Mv S g W W2 st2) from u0;have M0:=show Hid (Mv S g W w0 (st.aw (.S))) from m0;clear t0 u0 m0))
 go_end0
 rw [HE.out];exact ⟨rfl,U0.out _ _ M1.out⟩
theorem lM {S:Nat->Prop}(h:SS S W g st) (hns:st.ns≠[]) (hz:Bz 999999990 st) :
  Aa 170 #[spg g] W fun r w'=>r=.returned (.tuple #[])/\Mv S g W w' (st.aws Fx.blankIn4.pz):=by
 have H0:Hid (∀S V,SS S V g st->Aa 73 #[spg g] V fun r w'=>r=.returned (.tuple #[])/\Mv S g V w' (st.aw (.S))):=fun S V hS=>eS hS hns (hz.mono (by omega))
 have H1:Hid (∀S V,SS S V g (st.aw (.S))->Aa 67 #[spg g,.int .i64 4,.bool false] V fun r w'=>r=.returned (.tuple #[])/\Mv S g V w' ((st.aw (.S)).aw (.I 4))):=fun S V hS=>cD hS (.I 4) ⟨rfl,rfl⟩ (jG hns (.S)) (by have:=((hz.aw (.S))).1;omega) (by have:=((hz.aw (.S))).2.1;omega) (fun n hn=>by have:=((hz.aw (.S))).2.2 n hn;omega)
 have HE:Hid (st.aws Fx.blankIn4.pz=((st.aw (.S)).aw (.I 4))):=rfl;have HS:Hid (SS S W g st):=h;clear h hz hns
 go_enter Tryz.func170,Tryz.ntmps170
 go_wp2_with (first|(go_at_call 67;refine (H1.out _ _ T0.out).mono ?_;rintro r1 w1 ⟨rfl,m1⟩;have M1:=show Hid (Mv S0 g w0 w1 ((st.aw (.S)).aw (.I 4))) from m1;clear m1)|(go_at_call 73;refine (H0.out _ _ HS.out).mono ?_;rintro r0 w0 ⟨rfl,m0⟩;obtain ⟨S0,t0,u0⟩:=Mv.seq m0;have T0:=show Hid (SS S0 w0 g (st.aw (.S))) from t0;have U0:=show Hid (∀W2 st2,Mv S0 g w0 W2 st2->Mv S g W W2 st2) from u0;have M0:=show Hid (Mv S g W w0 (st.aw (.S))) from m0;clear t0 u0 m0))
 go_end0
 rw [HE.out];exact ⟨rfl,U0.out _ _ M1.out⟩
theorem mX {S:Nat->Prop}(h:SS S W g st) :
  Aa 122 #[spg g] W fun r w'=>r=.returned (.tuple #[])/\Mv S g W w' (st.aws Fx.nothing.pz):=by
 have HM:Hid (Mv S g W W (st.aws Fx.nothing.pz)):=Mv.refl h;clear h
 go_enter Tryz.func122,Tryz.ntmps122
 go_wp2_with fail
 go_end0
 exact ⟨rfl,HM.out⟩
def Fx.id:Fx->Nat
 |.nothing=>122
 |.blank=>73
 |.break1=>171
 |.hard=>69
 |.fend=>172
 |.in1=>176
 |.in2=>177
 |.endBlank=>175
 |.endHard=>169
 |.in2Break0=>174
 |.in2Break1=>173
 |.even2Hard=>168
 |.blankIn3=>118
 |.blankIn4=>170
theorem sY (f:Fx) {S:Nat->Prop}{W:World}{g:Nat}{st:Sy}(h:SS S W g st) (hns:st.ns≠[]) (hz:Bz 999999990 st) :
  Aa f.id #[spg g] W fun r w'=>r=.returned (.tuple #[])/\Mv S g W w' (st.aws f.pz):=by
 cases f with
 |nothing=>exact mX h
 |blank=>exact sX h hns hz
 |break1=>exact qh h hns hz
 |hard=>exact vN h hns hz
 |fend=>exact vO h hns hz
 |in1=>exact xS h hns hz
 |in2=>exact xR h hns hz
 |endBlank=>exact lL h hns hz
 |endHard=>exact mZ h hns hz
 |in2Break0=>exact kg h hns hz
 |in2Break1=>exact kf h hns hz
 |even2Hard=>exact kh h hns hz
 |blankIn3=>exact gF h hns hz
 |blankIn4=>exact lM h hns hz
end Go.Proofs.YtpdlohfdjiaegaaGreatDoor
namespace Go.Proofs.YtpdlohfdjiaegaaGreatDoor
open Go.RowKit
open Lw (Dc bE rt frm dep rtT rtN dcs au aH edg lsb fp iO qN)
theorem pg (c:UInt8) (w:World):Aa 117 #[.int .u8 (c.toNat:Int)] w fun e w'=>e=.returned (.bool (edg c))/\w'=w:=by
 have h1:((c.toNat:Int) == 32)=(c == 32):=by revert c;exact qN (by decide +kernel)
 have h2:((c.toNat:Int) == 10)=(c == 10):=by revert c;exact qN (by decide +kernel)
 have e:edg c=((c.toNat:Int) == 32 || (c.toNat:Int) == 10):=by rw [h1,h2];rfl
 rw [e];clear e h1 h2
 generalize (c.toNat:Int)=z
 go_enter Tryz.func117,Tryz.ntmps117
 go_wp2_with fail
 all_goals (go_ret;simp_all)
theorem o7 (t:ByteArray) (ht:t.size<=9223372036854775807) (w:World):Aa 63 #[.string t] w fun e w'=>e=.returned (.bool (rtT t))/\w'=w:=by
 by_cases h0:t.size=0
 ·have e0:t=⟨#[]⟩:=by
   apply fp
   exact zI (by rw [iO];exact h0)
  subst e0
  go_enter Tryz.func63,Tryz.ntmps63
  go_wp2_with fail
  go_ret
  exact ⟨rfl,rfl⟩
 ·have hne:¬t.toList=[]:=by
   rw [Lib.toList_data];intro hl;exact absurd (by have:=iO t;rw [lsb,hl] at this;simpa using this.symm) h0
  by_cases h1:t.size<=65535
  ·have hlt:0<t.size:=by omega
   have hlt2:t.size-1<t.size:=by omega
   have HE:Hid (rtT t=(!edg t[0] && !edg (t[t.size-1]))):=by
    show _=_
    unfold rtT;have a0:(lsb t).getD 0 0=t[0]:=(Lib.getD_at t 0 hlt).symm;have a1:(lsb t).getD (t.size-1) 0=t[t.size-1]:=(Lib.getD_at t (t.size-1) hlt2).symm;rw [a0,a1];simp [h1,show 1<=t.size by omega]
   go_enter Tryz.func63,Tryz.ntmps63
   go_wp2_with (go_at_call 117;refine (pg _ _).mono ?_;rintro e w1 ⟨rfl,rfl⟩)
   all_goals (go_ret;rw [HE.out];clear HE;refine ⟨?_,rfl⟩;simp_all)
  ·go_enter Tryz.func63,Tryz.ntmps63
   go_wp2_with fail
   go_ret
   refine ⟨?_,rfl⟩;simp [rtT,h1]
theorem lC (d:Dc) (w:World):Aa 123 #[.agg #[.int .u8 d.k,.string d.t,.int .i64 d.b,.int .i64 d.i,.bool d.e]] w fun e w'=>e=.returned (.bool (aK d))/\Below w.heap.size w w':=by
 have HQ:Hid (aK d=(d.k == 6)):=by show _=_;unfold aK;by_cases h:d.k=6 <;> simp [h]
 have HB:Hid (∀o,Ab w (w.alloc o)):=fun o=>(gt _ _).alloc (eq _) _
 go_enter Tryz.func123,Tryz.ntmps123
 go_wp2_with fail
 go_ret
 rw [HQ.out];exact ⟨rfl,HB.out _⟩
theorem sF (d:Dc) (w:World):Aa 47 #[.agg #[.int .u8 d.k,.string d.t,.int .i64 d.b,.int .i64 d.i,.bool d.e]] w fun e w'=>e=.returned (.bool (cq d))/\Below w.heap.size w w':=by
 have HQ:Hid (cq d=(d.k == 4)):=by show _=_;unfold cq;by_cases h:d.k=4 <;> simp [h]
 have HB:Hid (∀o,Ab w (w.alloc o)):=fun o=>(gt _ _).alloc (eq _) _
 go_enter Tryz.func47,Tryz.ntmps47
 go_wp2_with fail
 go_ret
 rw [HQ.out];exact ⟨rfl,HB.out _⟩
theorem sG (d:Dc) (w:World):Aa 72 #[.agg #[.int .u8 d.k,.string d.t,.int .i64 d.b,.int .i64 d.i,.bool d.e]] w fun e w'=>e=.returned (.bool (bZ d))/\Below w.heap.size w w':=by
 have HB:Hid (∀o,Ab w (w.alloc o)):=fun o=>(gt _ _).alloc (eq _) _
 obtain ⟨k,t,b,i,e⟩:=d
 dsimp only
 by_cases h2:k=2
 ·subst h2
  go_enter Tryz.func72,Tryz.ntmps72
  go_wp2_with fail
  go_ret
  exact ⟨rfl,HB.out _⟩
 ·have q2:(k == 2)=false:=by simpa using h2
  by_cases h4:k=4
  ·subst h4
   go_enter Tryz.func72,Tryz.ntmps72
   go_wp2_with fail
   go_ret
   exact ⟨rfl,HB.out _⟩
  ·have q4:(k == 4)=false:=by simpa using h4
   have HQ:Hid (bZ ⟨k,t,b,i,e⟩=(k == 3 && (t.toList == [] && (b == 1 && (i == 0 && !e))))):=by
    show _=_
    unfold bZ dB;rw [zA h2,zA h4,Bq,Bq];have ht:=Lw.uq t;have hE0:bE.toList=[]:=by rw [Lib.toList_data];rfl
    by_cases a1:k=3 <;> by_cases a2:t=bE <;> by_cases a3:b=1 <;> by_cases a4:i=0 <;> cases e <;> simp [a1,a2,a3,a4,ht,hE0]
   clear h2 h4
   go_enter Tryz.func72,Tryz.ntmps72
   go_wp2_with fail
   all_goals (go_ret;rw [HQ.out];refine ⟨?_,HB.out _⟩;simp_all)
theorem sI (t:Tv) (w:World):Aa 64 #[.agg #[.int .u8 t.k,.string t.t,.int .i64 t.a,.int .i64 t.l,.int .i64 t.c,.int .i64 t.f]] w fun e w'=>e=.returned (.bool (decide (t.k=7\/t.k=8)))/\Below w.heap.size w w':=by
 have HB:Hid (∀o,Ab w (w.alloc o)):=fun o=>(gt _ _).alloc (eq _) _
 have HQ:Hid (decide (t.k=7\/t.k=8)=(t.k == 7 || t.k == 8)):=by show _=_;by_cases a:t.k=7 <;> by_cases b:t.k=8 <;> simp [a,b]
 go_enter Tryz.func64,Tryz.ntmps64
 go_wp2_with fail
 all_goals (go_ret;rw [HQ.out];refine ⟨?_,HB.out _⟩;simp_all)
theorem ir (t:Tv) (w:World):Aa 74 #[.agg #[.int .u8 t.k,.string t.t,.int .i64 t.a,.int .i64 t.l,.int .i64 t.c,.int .i64 t.f]] w fun e w'=>e=.returned (.agg #[.int .u8 1,.string t.t,.int .i64 0,.int .i64 0,.bool false])/\Below w.heap.size w w':=by
 obtain ⟨V,e1⟩:∃V,w.alloc (.cells #[.int .u8 t.k,.string t.t,.int .i64 t.a,.int .i64 t.l,.int .i64 t.c,.int .i64 t.f] 37)=V:=⟨_,rfl⟩;have hb:Below w.heap.size w V:=by rw [<-e1];exact (gt _ _).alloc (eq _) _
 have hs:V.heap.size=w.heap.size+1:=by rw [<-e1];show (w.heap.push _).size=_;simp
 have hn:=ag V (.cells #[.int .u8 1,.string t.t,.int .i64 0,.int .i64 0,.bool false] 57);rw [hs,<-e1] at hn;have HN:Hid ((V.alloc (.cells #[.int .u8 1,.string t.t,.int .i64 0,.int .i64 0,.bool false] 57))=(V.alloc (.cells #[.int .u8 1,.string t.t,.int .i64 0,.int .i64 0,.bool false] 57))/\∀o,Below w.heap.size w (V.alloc o)):=⟨rfl,fun o=>hb.alloc hb.size _⟩;rw [<-e1] at HN;have m0:=aa (k:=0) hn rfl;have m1:=aa (k:=1) hn rfl;have m2:=aa (k:=2) hn rfl;have m3:=aa (k:=3) hn rfl;have m4:=aa (k:=4) hn rfl;have HM:Hid _:=And.intro m0 (And.intro m1 (And.intro m2 (And.intro m3 m4)));clear e1 hs hn hb m0 m1 m2 m3 m4
 go_enter Tryz.func74,Tryz.ntmps74
 go_wp2_with fail
 obtain ⟨m0,m1,m2,m3,m4⟩:=HM.out;refine zE (v:=.agg #[.int .u8 1,.string t.t,.int .i64 0,.int .i64 0,.bool false]) (by simp [results,Tryz.f74,go_sem,m0,m1,m2,m3,m4]) rfl ?_;exact ⟨rfl,HN.out.2 _⟩
theorem qg (k:Int) (w:World):Aa 66 #[.int .u8 k] w fun e w'=>e=.returned (.bool (dR k))/\w'=w:=by
 by_cases h:dR k=true
 ·have h2:=zQ h;rw [h]
  rcases h2 with rfl|rfl|rfl|rfl|rfl|rfl|rfl|rfl|rfl|rfl|rfl|rfl
  all_goals (
   go_enter Tryz.func66,Tryz.ntmps66
   go_wp2_with fail
   go_ret
   exact ⟨rfl,rfl⟩)
 ·have h2:¬_:=fun e=>h (zB e)
  rw [B3.2 h];simp only [not_or] at h2;obtain ⟨a1,a2,a3,a4,a5,a6,a7,a8,a9,b1,b2,b3⟩:=h2;have p1:(k == 3)=false:=by simpa using a1
  have p2:(k == 4)=false:=by simpa using a2
  have p3:(k == 5)=false:=by simpa using a3
  have p4:(k == 11)=false:=by simpa using a4
  have p5:(k == 13)=false:=by simpa using a5
  have p6:(k == 14)=false:=by simpa using a6
  have p7:(k == 15)=false:=by simpa using a7
  have p8:(k == 16)=false:=by simpa using a8
  have p9:(k == 17)=false:=by simpa using a9
  have r1:(k == 18)=false:=by simpa using b1
  have r2:(k == 19)=false:=by simpa using b2
  have r3:(k == 20)=false:=by simpa using b3
  clear h a1 a2 a3 a4 a5 a6 a7 a8 a9 b1 b2 b3
  go_enter Tryz.func66,Tryz.ntmps66
  go_wp2_with fail
  go_ret
  exact ⟨rfl,rfl⟩
theorem cV {W:World}{g:Nat}{dn:Bool}(c0:W.cell? ⟨g,0,none⟩=some (.bool dn)):Aa 25 #[spg g] W fun r w'=>r=.returned (.int .i64 (if dn then 4 else 0))/\w'=W:=by
 cases dn
 all_goals (
  go_enter Tryz.func25,Tryz.ntmps25
  go_wp2_with fail
  go_ret
  exact ⟨rfl,rfl⟩)
end Go.Proofs.YtpdlohfdjiaegaaGreatDoor
