import Derived.Test.YtacohdpndpliaaaGreatDoorM30
set_option linter.all false
set_option maxHeartbeats 1000000
namespace Go.Proofs.YtacohdpndpliaaaGreatDoor
open Go.Proofs.Tryz
open Go.RowKit
open Lw (Dc bE rt cM dN fT j9 bW aY cr)
variable {st:Sy}{W w:World}{g n:Nat}{l:List Dc}{ao:Option Addr}{α:Type}{vn vw:Value}
def Bz (n:Nat) (st:Sy):Prop:=st.ws.length<=n/\st.ns.length<=n/\∀x∈st.ns,x.b<=n
theorem Bz.mono {m:Nat}(h:Bz n st) (hm:n<=m):Bz m st:=⟨by have:=h.1;omega,by have:=h.2.1;omega,fun x hx=>by have:=h.2.2 x hx;omega⟩
theorem oe (p:Pz) (l:List Nd):(ig p l).length=l.length:=by cases l <;> rfl
theorem gA (p:Pz) (l:List Nd):(jC p l).length<=1:=by unfold jC;split <;> simp
theorem Bz.aw (h:Bz n st) (p:Pz):Bz (n+1) (st.aw p):=by
 obtain ⟨h1,h2,h3⟩:=h;refine ⟨?_,?_,?_⟩
 ·show (st.ws++jC p st.ns).length<=_
  have:=gA p st.ns;rw [Or];omega
 ·show (ig p st.ns).length<=_
  rw [oe];omega
 ·intro x hx;have hx':x∈ig p st.ns:=hx;cases hc:st.ns with
  |nil=>rw [hc] at hx';simp [ig] at hx'
  |cons m r=>
   rw [hc] at hx' h3;simp only [ig,QV] at hx';have hm:=h3 m QA;have hp:p.n<=1:=by cases p <;> simp [Pz.n]
   rcases hx' with rfl|hx'
   ·split
    ·show m.b-1<=_;omega
    ·show m.b+p.n<=_;omega
   ·have:=h3 x (QB _ hx');omega
theorem mP (h:st.ns≠[]) (p:Pz):(st.aw p).ns≠[]:=by
 intro e;have:(ig p st.ns).length=0:=by rw [show ig p st.ns=[] from e];rfl
 rw [oe] at this;exact h (QL this)
theorem Mv.seq {S:Nat->Prop}{W1:World}(h:Mv S g W W1 st):∃S1,SS S1 W1 g st/\∀W2 st2,Mv S1 g W1 W2 st2->Mv S g W W2 st2:=by
 obtain ⟨⟨S1,s1,s2⟩,hk,hc⟩:=h;refine ⟨S1,s1,?_⟩;rintro W2 st2 ⟨⟨S2,t1,t2⟩,hk2,hc2⟩;refine ⟨⟨S2,t1,fun k hk'=>?_⟩,hk.step hk2 (fun k hlt hs=>?_),hc2.trans hc⟩
 ·rcases t2 k hk' with a|a
  ·exact s2 k a
  ·exact .inr (QC hk.size a)
 ·rcases s2 k hs with a|a
  ·exact a
  ·omega
theorem nZ {S:Nat->Prop}(h:SS S W g st) (hns:st.ns≠[]) (hz:Bz 1000000000 st) :
  Qu 239 #[bX g] W fun r w'=>r=.returned (.tuple #[])/\Mv S g W w' (st.aw .X):=by
 obtain ⟨vn,vw,hv,s1,s2⟩:=h.ex
 obtain ⟨n,r,en⟩:∃n r,st.ns=n :: r:=by
  cases hc:st.ns with
  |nil=>exact absurd hc hns
  |cons n r=>exact ⟨n,r,rfl⟩
 have hn1:=hv.rn;rw [en] at hn1;obtain ⟨b,cap,rfl,hc1,hc2⟩:=nr hn1;have hnl:=hz.2.1;rw [en] at hnl;have HI:Hid (Qu 233 #[bX g] W fun r' w'=>r'=.returned (.pointer (some ⟨b,r.length*3,none⟩))/\Qv W w'):=fQ hv.sb.cells.2.1 (by simp at hnl;omega);have hnb:n.b<=1000000000:=hz.2.2 n (by rw [en];exact QA);have eN:ig .X st.ns=⟨n.k,n.b-1,n.s⟩ :: r:=by rw [en];rfl
 have hsg:=h.sg
 have HV:Hid (∀V,Qv W V->SV V g st (.slice (some ⟨b,0,none⟩) (r.length+1) cap) vw/\V.cell? ⟨b,r.length*3+1,none⟩=some (.int .i64 n.b)):=fun V hb=>by
  have a3:=hv.below hb;refine ⟨a3,?_⟩;have a4:=a3.rn;rw [en] at a4;exact (kx a4).2.1
 by_cases h0:n.b=0
 ·have eW:jC .X st.ns=[]:=by unfold jC;rw [en];simp [h0]
  have HX:Hid (∀V,Qv W V->Mv S g W V (st.aw .X)):=fun V hb=>by
   have e9:st.aw .X=st:=by
    unfold Sy.aw;rw [eN,eW,Q6,h0];have:(⟨n.k,0-1,n.s⟩:Nd)=n:=by cases n;simp at h0;subst h0;rfl
    rw [this,<-en]
   rw [e9];exact Mv.quiet h hb
  rw [h0] at HV;clear hv hn1 h s1 s2 eN eW hz hnl hnb en hns h0
  go_enter func239,ntmps239
  go_wp2_with (go_at_call 233;refine HI.out.mono ?_;rintro r2 w2 ⟨rfl,hb2⟩;have x1:=(HV.out _ hb2).2;have HM:=show Hid (Mv S g W w2 (st.aw .X)) from HX.out _ hb2;clear hb2)
  go_end0
  exact ⟨rfl,HM.out⟩
 ·have eW:jC .X st.ns=[dX]:=by unfold jC;rw [en];simp [h0,Pz.d]
  have q0:decide ((0:Int)<(n.b:Int))=true:=by simp;omega
  have q1:(0:Int)<(n.b:Int):=by omega
  have q2:IntKind.i64.wrap ((n.b:Int)-1)=((n.b-1:Nat):Int):=by rw [Q9];omega
  have HW:Hid (∀V,Qv W V->Qu 310 #[bX g,.agg #[.int .u8 7,.string ⟨#[]⟩,.int .i64 0,.int .i64 0,.bool false]] V fun rr w'=>rr=.returned (.tuple #[])/\WP V w' g st (.slice (some ⟨b,0,none⟩) (r.length+1) cap) vw (st.ws++[dX])):=fun V hb=>ou (HV.out V hb).1 dX hz.1
  have HE:Hid (∀V w2,Qv W V->WP V w2 g st (.slice (some ⟨b,0,none⟩) (r.length+1) cap) vw (st.ws++[dX])->(w2.cell? ⟨b,r.length*3+1,none⟩=some (.int .i64 n.b)/\w2.frozen? ⟨b,r.length*3+1,none⟩=false)/\Mv S g W (w2.setCell ⟨b,r.length*3+1,none⟩ (.int .i64 ((n.b-1:Nat):Int))) (st.aw .X)):=fun V w2 hb hp1=>by
   obtain ⟨vw',a3,a2⟩:=hp1.ex;have a4:Rn tN w2 (.slice (some ⟨b,0,none⟩) (r.length+1) cap) (n :: r):=by have:=a3.rn;rw [show ({ st with ws:=st.ws++[dX] }:Sy).ns=n :: r from en] at this;exact this
   refine ⟨⟨(kx a4).2.1,TO a4 _⟩,?_⟩;have a5:=SV.nd (n:=n) (m:=⟨n.k,n.b-1,n.s⟩) (show ({ st with ws:=st.ws++[dX] }:Sy).ns=n :: r from en) a3 1 (.int .i64 ((n.b-1:Nat):Int)) (by omega) rfl;have e9:({ ({ st with ws:=st.ws++[dX] }:Sy) with ns:=⟨n.k,n.b-1,n.s⟩ :: r }:Sy)=st.aw .X:=by unfold Sy.aw;rw [eN,eW]
   rw [e9] at a5;have hk:Kp S W (w2.setCell ⟨b,r.length*3+1,none⟩ (.int .i64 ((n.b-1:Nat):Int))):=(((Kp.of_below hb).step (hp1.kp.sub (S:=S) (by rintro k (e|e);rw [e];exact hsg;exact s2 k e)) (fun _ _ h=>h)).step (Kp.set _ _ _ _) (fun k _ e=>by rw [e];exact s1 b rfl));refine Mv.mk' a5 hsg (fun k e=>.inl (s1 k e)) (fun k e=>?_) hk hv.sb.cells.2.1
   rcases a2 with a2|⟨q,hq,hq2⟩
   ·exact .inl (s2 k (by rw [<-a2];exact e))
   ·rw [hq] at e;cases e;exact .inr (QC hb.size hq2)
  clear hv hn1 h s1 s2 eN eW hz hnl hnb en hns h0
  go_enter func239,ntmps239
  go_wp2_with (first|(go_at_call 233;refine HI.out.mono ?_;rintro r2 w2 ⟨rfl,hb2⟩;have x1:=(HV.out _ hb2).2;have HB:=show Hid (Qv W w2) from hb2;clear hb2)|(go_at_call 310;refine (HW.out _ HB.out).mono ?_;rintro r3 w3 ⟨rfl,hp3⟩;obtain ⟨⟨y1,y2⟩,y3⟩:=HE.out _ _ HB.out hp3;have HX:=ai y3;clear y3 hp3))
  go_end0
  exact ⟨rfl,HX.out⟩
theorem mu {S:Nat->Prop}(h:SS S W g st) (p:Pz) (hp:p.n=0/\p≠.X) (hz:Bz 1000000000 st) (hns:st.ns≠[]\/True) :
  Qu 310 #[bX g,.agg #[.int .u8 p.d.k,.string p.d.t,.int .i64 p.d.b,.int .i64 p.d.i,.bool p.d.e]] W fun r w'=>r=.returned (.tuple #[])/\Mv S g W w' (st.aw p):=by
 obtain ⟨vn,vw,hv,s1,s2⟩:=h.ex;refine (ou hv p.d hz.1).mono ?_;rintro r w' ⟨rfl,hp1⟩;refine ⟨rfl,?_⟩;have:=hp1.mv hv h.sg s1 s2
 have e:({ st with ws:=st.ws++[p.d] }:Sy)=st.aw p:=by
  have eN:ig p st.ns=st.ns:=by
   cases st.ns with
   |nil=>rfl
   |cons n r=>simp only [ig];rw [Eq hp.2,hp.1];rfl
  have eW:jC p st.ns=[p.d]:=by unfold jC;rw [Eq (fun h=>hp.2 h.1)]
  unfold Sy.aw;rw [eN,eW]
 rw [e] at this;exact this
theorem Fb {S:Nat->Prop}(h:SS S W g st) (hns:st.ns≠[]) (hz:Bz 999999990 st) :
  Qu 245 #[bX g] W fun r w'=>r=.returned (.tuple #[])/\Mv S g W w' (st.aws Fx.blank.pz):=by
 have H0:Hid (∀S V,SS S V g st->Qu 310 #[bX g,.agg #[.int .u8 2,.string ⟨#[]⟩,.int .i64 0,.int .i64 0,.bool false]] V fun r w'=>r=.returned (.tuple #[])/\Mv S g V w' (st.aw .S)):=fun S V hS=>mu hS .S ⟨rfl,by decide⟩ (hz.mono (by omega)) (.inr trivial)
 have HE:Hid (st.aws Fx.blank.pz=(st.aw .S)):=rfl;have HS:Hid (SS S W g st):=h;clear h hz hns
 go_enter func245,ntmps245
 go_wp2_with (first|(go_at_call 310;refine (H0.out _ _ HS.out).mono ?_;rintro r0 w0 ⟨rfl,m0⟩;obtain ⟨S0,t0,u0⟩:=Mv.seq m0;have T0:=show Hid (SS S0 w0 g (st.aw .S)) from t0;have U0:=show Hid (∀W2 st2,Mv S0 g w0 W2 st2->Mv S g W W2 st2) from u0;have M0:=show Hid (Mv S g W w0 (st.aw .S)) from m0;clear t0 u0 m0))
 go_end0
 rw [HE.out];exact ⟨rfl,M0.out⟩
theorem jt {S:Nat->Prop}(h:SS S W g st) (hns:st.ns≠[]) (hz:Bz 999999999 st) :
  Qu 245 #[bX g] W fun r w'=>r=.returned (.tuple #[])/\Mv S g W w' (st.aw .S):=by
 have H0:Hid (∀S V,SS S V g st->Qu 310 #[bX g,.agg #[.int .u8 2,.string ⟨#[]⟩,.int .i64 0,.int .i64 0,.bool false]] V fun r w'=>r=.returned (.tuple #[])/\Mv S g V w' (st.aw .S)):=fun S V hS=>mu hS .S ⟨rfl,by decide⟩ (hz.mono (by omega)) (.inr trivial)
 have HS:Hid (SS S W g st):=h;clear h hz hns
 go_enter func245,ntmps245
 go_wp2_with (go_at_call 310;refine (H0.out _ _ HS.out).mono ?_;rintro r0 w0 ⟨rfl,m0⟩;have M0:=show Hid (Mv S g W w0 (st.aw .S)) from m0;clear m0)
 go_end0
 exact ⟨rfl,M0.out⟩
theorem BP {S:Nat->Prop}(h:SS S W g st) (hns:st.ns≠[]) (hz:Bz 999999990 st) :
  Qu 370 #[bX g] W fun r w'=>r=.returned (.tuple #[])/\Mv S g W w' (st.aws Fx.break1.pz):=by
 have H0:Hid (∀S V,SS S V g st->Qu 310 #[bX g,.agg #[.int .u8 3,.string ⟨#[]⟩,.int .i64 1,.int .i64 0,.bool false]] V fun r w'=>r=.returned (.tuple #[])/\Mv S g V w' (st.aw .B1)):=fun S V hS=>mu hS .B1 ⟨rfl,by decide⟩ (hz.mono (by omega)) (.inr trivial)
 have HE:Hid (st.aws Fx.break1.pz=(st.aw .B1)):=rfl;have HS:Hid (SS S W g st):=h;clear h hz hns
 go_enter func370,ntmps370
 go_wp2_with (first|(go_at_call 310;refine (H0.out _ _ HS.out).mono ?_;rintro r0 w0 ⟨rfl,m0⟩;obtain ⟨S0,t0,u0⟩:=Mv.seq m0;have T0:=show Hid (SS S0 w0 g (st.aw .B1)) from t0;have U0:=show Hid (∀W2 st2,Mv S0 g w0 W2 st2->Mv S g W W2 st2) from u0;have M0:=show Hid (Mv S g W w0 (st.aw .B1)) from m0;clear t0 u0 m0))
 go_end0
 rw [HE.out];exact ⟨rfl,M0.out⟩
theorem xQ {S:Nat->Prop}(h:SS S W g st) (hns:st.ns≠[]) (hz:Bz 999999999 st) :
  Qu 370 #[bX g] W fun r w'=>r=.returned (.tuple #[])/\Mv S g W w' (st.aw .B1):=by
 have H0:Hid (∀S V,SS S V g st->Qu 310 #[bX g,.agg #[.int .u8 3,.string ⟨#[]⟩,.int .i64 1,.int .i64 0,.bool false]] V fun r w'=>r=.returned (.tuple #[])/\Mv S g V w' (st.aw .B1)):=fun S V hS=>mu hS .B1 ⟨rfl,by decide⟩ (hz.mono (by omega)) (.inr trivial)
 have HS:Hid (SS S W g st):=h;clear h hz hns
 go_enter func370,ntmps370
 go_wp2_with (go_at_call 310;refine (H0.out _ _ HS.out).mono ?_;rintro r0 w0 ⟨rfl,m0⟩;have M0:=show Hid (Mv S g W w0 (st.aw .B1)) from m0;clear m0)
 go_end0
 exact ⟨rfl,M0.out⟩
theorem Jw {S:Nat->Prop}(h:SS S W g st) (hns:st.ns≠[]) (hz:Bz 999999990 st) :
  Qu 240 #[bX g] W fun r w'=>r=.returned (.tuple #[])/\Mv S g W w' (st.aws Fx.hard.pz):=by
 have H0:Hid (∀S V,SS S V g st->Qu 310 #[bX g,.agg #[.int .u8 4,.string ⟨#[]⟩,.int .i64 0,.int .i64 0,.bool false]] V fun r w'=>r=.returned (.tuple #[])/\Mv S g V w' (st.aw .H)):=fun S V hS=>mu hS .H ⟨rfl,by decide⟩ (hz.mono (by omega)) (.inr trivial)
 have HE:Hid (st.aws Fx.hard.pz=(st.aw .H)):=rfl;have HS:Hid (SS S W g st):=h;clear h hz hns
 go_enter func240,ntmps240
 go_wp2_with (first|(go_at_call 310;refine (H0.out _ _ HS.out).mono ?_;rintro r0 w0 ⟨rfl,m0⟩;obtain ⟨S0,t0,u0⟩:=Mv.seq m0;have T0:=show Hid (SS S0 w0 g (st.aw .H)) from t0;have U0:=show Hid (∀W2 st2,Mv S0 g w0 W2 st2->Mv S g W W2 st2) from u0;have M0:=show Hid (Mv S g W w0 (st.aw .H)) from m0;clear t0 u0 m0))
 go_end0
 rw [HE.out];exact ⟨rfl,M0.out⟩
theorem pJ {S:Nat->Prop}(h:SS S W g st) (hns:st.ns≠[]) (hz:Bz 999999999 st) :
  Qu 240 #[bX g] W fun r w'=>r=.returned (.tuple #[])/\Mv S g W w' (st.aw .H):=by
 have H0:Hid (∀S V,SS S V g st->Qu 310 #[bX g,.agg #[.int .u8 4,.string ⟨#[]⟩,.int .i64 0,.int .i64 0,.bool false]] V fun r w'=>r=.returned (.tuple #[])/\Mv S g V w' (st.aw .H)):=fun S V hS=>mu hS .H ⟨rfl,by decide⟩ (hz.mono (by omega)) (.inr trivial)
 have HS:Hid (SS S W g st):=h;clear h hz hns
 go_enter func240,ntmps240
 go_wp2_with (go_at_call 310;refine (H0.out _ _ HS.out).mono ?_;rintro r0 w0 ⟨rfl,m0⟩;have M0:=show Hid (Mv S g W w0 (st.aw .H)) from m0;clear m0)
 go_end0
 exact ⟨rfl,M0.out⟩
theorem Jy {S:Nat->Prop}(h:SS S W g st) (hns:st.ns≠[]) (hz:Bz 999999990 st) :
  Qu 371 #[bX g] W fun r w'=>r=.returned (.tuple #[])/\Mv S g W w' (st.aws Fx.fend.pz):=by
 have H0:Hid (∀S V,SS S V g st->Qu 239 #[bX g] V fun r w'=>r=.returned (.tuple #[])/\Mv S g V w' (st.aw .X)):=fun S V hS=>nZ hS hns (hz.mono (by omega))
 have HE:Hid (st.aws Fx.fend.pz=(st.aw .X)):=rfl;have HS:Hid (SS S W g st):=h;clear h hz hns
 go_enter func371,ntmps371
 go_wp2_with (first|(go_at_call 239;refine (H0.out _ _ HS.out).mono ?_;rintro r0 w0 ⟨rfl,m0⟩;obtain ⟨S0,t0,u0⟩:=Mv.seq m0;have T0:=show Hid (SS S0 w0 g (st.aw .X)) from t0;have U0:=show Hid (∀W2 st2,Mv S0 g w0 W2 st2->Mv S g W W2 st2) from u0;have M0:=show Hid (Mv S g W w0 (st.aw .X)) from m0;clear t0 u0 m0))
 go_end0
 rw [HE.out];exact ⟨rfl,M0.out⟩
theorem ME {S:Nat->Prop}(h:SS S W g st) (hns:st.ns≠[]) (hz:Bz 999999990 st) :
  Qu 375 #[bX g] W fun r w'=>r=.returned (.tuple #[])/\Mv S g W w' (st.aws Fx.in1.pz):=by
 have H0:Hid (∀S V,SS S V g st->Qu 238 #[bX g,.int .i64 1,.bool false] V fun r w'=>r=.returned (.tuple #[])/\Mv S g V w' (st.aw (.I 1))):=fun S V hS=>eP hS (.I 1) ⟨rfl,rfl⟩ hns (by have:=(hz).1;omega) (by have:=(hz).2.1;omega) (fun n hn=>by have:=(hz).2.2 n hn;omega)
 have HE:Hid (st.aws Fx.in1.pz=(st.aw (.I 1))):=rfl;have HS:Hid (SS S W g st):=h;clear h hz hns
 go_enter func375,ntmps375
 go_wp2_with (first|(go_at_call 238;refine (H0.out _ _ HS.out).mono ?_;rintro r0 w0 ⟨rfl,m0⟩;obtain ⟨S0,t0,u0⟩:=Mv.seq m0;have T0:=show Hid (SS S0 w0 g (st.aw (.I 1))) from t0;have U0:=show Hid (∀W2 st2,Mv S0 g w0 W2 st2->Mv S g W W2 st2) from u0;have M0:=show Hid (Mv S g W w0 (st.aw (.I 1))) from m0;clear t0 u0 m0))
 go_end0
 rw [HE.out];exact ⟨rfl,M0.out⟩
theorem MD {S:Nat->Prop}(h:SS S W g st) (hns:st.ns≠[]) (hz:Bz 999999990 st) :
  Qu 376 #[bX g] W fun r w'=>r=.returned (.tuple #[])/\Mv S g W w' (st.aws Fx.in2.pz):=by
 have H0:Hid (∀S V,SS S V g st->Qu 238 #[bX g,.int .i64 2,.bool false] V fun r w'=>r=.returned (.tuple #[])/\Mv S g V w' (st.aw (.I 2))):=fun S V hS=>eP hS (.I 2) ⟨rfl,rfl⟩ hns (by have:=(hz).1;omega) (by have:=(hz).2.1;omega) (fun n hn=>by have:=(hz).2.2 n hn;omega)
 have HE:Hid (st.aws Fx.in2.pz=(st.aw (.I 2))):=rfl;have HS:Hid (SS S W g st):=h;clear h hz hns
 go_enter func376,ntmps376
 go_wp2_with (first|(go_at_call 238;refine (H0.out _ _ HS.out).mono ?_;rintro r0 w0 ⟨rfl,m0⟩;obtain ⟨S0,t0,u0⟩:=Mv.seq m0;have T0:=show Hid (SS S0 w0 g (st.aw (.I 2))) from t0;have U0:=show Hid (∀W2 st2,Mv S0 g w0 W2 st2->Mv S g W W2 st2) from u0;have M0:=show Hid (Mv S g W w0 (st.aw (.I 2))) from m0;clear t0 u0 m0))
 go_end0
 rw [HE.out];exact ⟨rfl,M0.out⟩
theorem zM {S:Nat->Prop}(h:SS S W g st) (hns:st.ns≠[]) (hz:Bz 999999999 st) :
  Qu 376 #[bX g] W fun r w'=>r=.returned (.tuple #[])/\Mv S g W w' (st.aw (.I 2)):=by
 have H0:Hid (∀S V,SS S V g st->Qu 238 #[bX g,.int .i64 2,.bool false] V fun r w'=>r=.returned (.tuple #[])/\Mv S g V w' (st.aw (.I 2))):=fun S V hS=>eP hS (.I 2) ⟨rfl,rfl⟩ hns (by have:=hz.1;omega) (by have:=hz.2.1;omega) (fun n hn=>by have:=hz.2.2 n hn;omega)
 have HS:Hid (SS S W g st):=h;clear h hz hns
 go_enter func376,ntmps376
 go_wp2_with (go_at_call 238;refine (H0.out _ _ HS.out).mono ?_;rintro r0 w0 ⟨rfl,m0⟩;have M0:=show Hid (Mv S g W w0 (st.aw (.I 2))) from m0;clear m0)
 go_end0
 exact ⟨rfl,M0.out⟩
theorem vK {S:Nat->Prop}(h:SS S W g st) (hns:st.ns≠[]) (hz:Bz 999999990 st) :
  Qu 374 #[bX g] W fun r w'=>r=.returned (.tuple #[])/\Mv S g W w' (st.aws Fx.endBlank.pz):=by
 have H0:Hid (∀S V,SS S V g st->Qu 239 #[bX g] V fun r w'=>r=.returned (.tuple #[])/\Mv S g V w' (st.aw .X)):=fun S V hS=>nZ hS hns (hz.mono (by omega))
 have H1:Hid (∀S V,SS S V g (st.aw .X)->Qu 245 #[bX g] V fun r w'=>r=.returned (.tuple #[])/\Mv S g V w' ((st.aw .X).aw (.S))):=fun S V hS=>jt hS (mP hns .X) ((hz.aw .X).mono (by omega))
 have HE:Hid (st.aws Fx.endBlank.pz=((st.aw .X).aw (.S))):=rfl;have HS:Hid (SS S W g st):=h;clear h hz hns
 go_enter func374,ntmps374
 go_wp2_with (first|(go_at_call 245;refine (H1.out _ _ T0.out).mono ?_;rintro r1 w1 ⟨rfl,m1⟩;have M1:=show Hid (Mv S0 g w0 w1 ((st.aw .X).aw (.S))) from m1;clear m1)|(go_at_call 239;refine (H0.out _ _ HS.out).mono ?_;rintro r0 w0 ⟨rfl,m0⟩;obtain ⟨S0,t0,u0⟩:=Mv.seq m0;have T0:=show Hid (SS S0 w0 g (st.aw .X)) from t0;have U0:=show Hid (∀W2 st2,Mv S0 g w0 W2 st2->Mv S g W W2 st2) from u0;have M0:=show Hid (Mv S g W w0 (st.aw .X)) from m0;clear t0 u0 m0))
 go_end0
 rw [HE.out];exact ⟨rfl,U0.out _ _ M1.out⟩
theorem xP {S:Nat->Prop}(h:SS S W g st) (hns:st.ns≠[]) (hz:Bz 999999990 st) :
  Qu 368 #[bX g] W fun r w'=>r=.returned (.tuple #[])/\Mv S g W w' (st.aws Fx.endHard.pz):=by
 have H0:Hid (∀S V,SS S V g st->Qu 239 #[bX g] V fun r w'=>r=.returned (.tuple #[])/\Mv S g V w' (st.aw .X)):=fun S V hS=>nZ hS hns (hz.mono (by omega))
 have H1:Hid (∀S V,SS S V g (st.aw .X)->Qu 240 #[bX g] V fun r w'=>r=.returned (.tuple #[])/\Mv S g V w' ((st.aw .X).aw (.H))):=fun S V hS=>pJ hS (mP hns .X) ((hz.aw .X).mono (by omega))
 have HE:Hid (st.aws Fx.endHard.pz=((st.aw .X).aw (.H))):=rfl;have HS:Hid (SS S W g st):=h;clear h hz hns
 go_enter func368,ntmps368
 go_wp2_with (first|(go_at_call 240;refine (H1.out _ _ T0.out).mono ?_;rintro r1 w1 ⟨rfl,m1⟩;have M1:=show Hid (Mv S0 g w0 w1 ((st.aw .X).aw (.H))) from m1;clear m1)|(go_at_call 239;refine (H0.out _ _ HS.out).mono ?_;rintro r0 w0 ⟨rfl,m0⟩;obtain ⟨S0,t0,u0⟩:=Mv.seq m0;have T0:=show Hid (SS S0 w0 g (st.aw .X)) from t0;have U0:=show Hid (∀W2 st2,Mv S0 g w0 W2 st2->Mv S g W W2 st2) from u0;have M0:=show Hid (Mv S g W w0 (st.aw .X)) from m0;clear t0 u0 m0))
 go_end0
 rw [HE.out];exact ⟨rfl,U0.out _ _ M1.out⟩
theorem sX {S:Nat->Prop}(h:SS S W g st) (hns:st.ns≠[]) (hz:Bz 999999990 st) :
  Qu 373 #[bX g] W fun r w'=>r=.returned (.tuple #[])/\Mv S g W w' (st.aws Fx.in2Break0.pz):=by
 have H0:Hid (∀S V,SS S V g st->Qu 376 #[bX g] V fun r w'=>r=.returned (.tuple #[])/\Mv S g V w' (st.aw (.I 2))):=fun S V hS=>zM hS hns (hz.mono (by omega))
 have H1:Hid (∀S V,SS S V g (st.aw (.I 2))->Qu 310 #[bX g,.agg #[.int .u8 3,.string ⟨#[]⟩,.int .i64 0,.int .i64 0,.bool false]] V fun r w'=>r=.returned (.tuple #[])/\Mv S g V w' ((st.aw (.I 2)).aw .B0)):=fun S V hS=>mu hS .B0 ⟨rfl,by decide⟩ ((hz.aw (.I 2)).mono (by omega)) (.inr trivial)
 have HE:Hid (st.aws Fx.in2Break0.pz=((st.aw (.I 2)).aw .B0)):=rfl;have HS:Hid (SS S W g st):=h;clear h hz hns
 go_enter func373,ntmps373
 go_wp2_with (first|(go_at_call 310;refine (H1.out _ _ T0.out).mono ?_;rintro r1 w1 ⟨rfl,m1⟩;have M1:=show Hid (Mv S0 g w0 w1 ((st.aw (.I 2)).aw .B0)) from m1;clear m1)|(go_at_call 376;refine (H0.out _ _ HS.out).mono ?_;rintro r0 w0 ⟨rfl,m0⟩;obtain ⟨S0,t0,u0⟩:=Mv.seq m0;have T0:=show Hid (SS S0 w0 g (st.aw (.I 2))) from t0;have U0:=show Hid (∀W2 st2,Mv S0 g w0 W2 st2->Mv S g W W2 st2) from u0;have M0:=show Hid (Mv S g W w0 (st.aw (.I 2))) from m0;clear t0 u0 m0))
 go_end0
 rw [HE.out];exact ⟨rfl,U0.out _ _ M1.out⟩
theorem sW {S:Nat->Prop}(h:SS S W g st) (hns:st.ns≠[]) (hz:Bz 999999990 st) :
  Qu 372 #[bX g] W fun r w'=>r=.returned (.tuple #[])/\Mv S g W w' (st.aws Fx.in2Break1.pz):=by
 have H0:Hid (∀S V,SS S V g st->Qu 376 #[bX g] V fun r w'=>r=.returned (.tuple #[])/\Mv S g V w' (st.aw (.I 2))):=fun S V hS=>zM hS hns (hz.mono (by omega))
 have H1:Hid (∀S V,SS S V g (st.aw (.I 2))->Qu 370 #[bX g] V fun r w'=>r=.returned (.tuple #[])/\Mv S g V w' ((st.aw (.I 2)).aw (.B1))):=fun S V hS=>xQ hS (mP hns (.I 2)) ((hz.aw (.I 2)).mono (by omega))
 have HE:Hid (st.aws Fx.in2Break1.pz=((st.aw (.I 2)).aw (.B1))):=rfl;have HS:Hid (SS S W g st):=h;clear h hz hns
 go_enter func372,ntmps372
 go_wp2_with (first|(go_at_call 370;refine (H1.out _ _ T0.out).mono ?_;rintro r1 w1 ⟨rfl,m1⟩;have M1:=show Hid (Mv S0 g w0 w1 ((st.aw (.I 2)).aw (.B1))) from m1;clear m1)|(go_at_call 376;refine (H0.out _ _ HS.out).mono ?_;rintro r0 w0 ⟨rfl,m0⟩;obtain ⟨S0,t0,u0⟩:=Mv.seq m0;have T0:=show Hid (SS S0 w0 g (st.aw (.I 2))) from t0;have U0:=show Hid (∀W2 st2,Mv S0 g w0 W2 st2->Mv S g W W2 st2) from u0;have M0:=show Hid (Mv S g W w0 (st.aw (.I 2))) from m0;clear t0 u0 m0))
 go_end0
 rw [HE.out];exact ⟨rfl,U0.out _ _ M1.out⟩
theorem sZ {S:Nat->Prop}(h:SS S W g st) (hns:st.ns≠[]) (hz:Bz 999999990 st) :
  Qu 367 #[bX g] W fun r w'=>r=.returned (.tuple #[])/\Mv S g W w' (st.aws Fx.even2Hard.pz):=by
 have H0:Hid (∀S V,SS S V g st->Qu 238 #[bX g,.int .i64 2,.bool true] V fun r w'=>r=.returned (.tuple #[])/\Mv S g V w' (st.aw (.J))):=fun S V hS=>eP hS (.J) ⟨rfl,rfl⟩ hns (by have:=(hz).1;omega) (by have:=(hz).2.1;omega) (fun n hn=>by have:=(hz).2.2 n hn;omega)
 have H1:Hid (∀S V,SS S V g (st.aw (.J))->Qu 240 #[bX g] V fun r w'=>r=.returned (.tuple #[])/\Mv S g V w' ((st.aw (.J)).aw (.H))):=fun S V hS=>pJ hS (mP hns (.J)) ((hz.aw (.J)).mono (by omega))
 have HE:Hid (st.aws Fx.even2Hard.pz=((st.aw (.J)).aw (.H))):=rfl;have HS:Hid (SS S W g st):=h;clear h hz hns
 go_enter func367,ntmps367
 go_wp2_with (first|(go_at_call 240;refine (H1.out _ _ T0.out).mono ?_;rintro r1 w1 ⟨rfl,m1⟩;have M1:=show Hid (Mv S0 g w0 w1 ((st.aw (.J)).aw (.H))) from m1;clear m1)|(go_at_call 238;refine (H0.out _ _ HS.out).mono ?_;rintro r0 w0 ⟨rfl,m0⟩;obtain ⟨S0,t0,u0⟩:=Mv.seq m0;have T0:=show Hid (SS S0 w0 g (st.aw (.J))) from t0;have U0:=show Hid (∀W2 st2,Mv S0 g w0 W2 st2->Mv S g W W2 st2) from u0;have M0:=show Hid (Mv S g W w0 (st.aw (.J))) from m0;clear t0 u0 m0))
 go_end0
 rw [HE.out];exact ⟨rfl,U0.out _ _ M1.out⟩
theorem mL {S:Nat->Prop}(h:SS S W g st) (hns:st.ns≠[]) (hz:Bz 999999990 st) :
  Qu 309 #[bX g] W fun r w'=>r=.returned (.tuple #[])/\Mv S g W w' (st.aws Fx.blankIn3.pz):=by
 have H0:Hid (∀S V,SS S V g st->Qu 245 #[bX g] V fun r w'=>r=.returned (.tuple #[])/\Mv S g V w' (st.aw (.S))):=fun S V hS=>jt hS hns (hz.mono (by omega))
 have H1:Hid (∀S V,SS S V g (st.aw (.S))->Qu 238 #[bX g,.int .i64 3,.bool false] V fun r w'=>r=.returned (.tuple #[])/\Mv S g V w' ((st.aw (.S)).aw (.I 3))):=fun S V hS=>eP hS (.I 3) ⟨rfl,rfl⟩ (mP hns (.S)) (by have:=((hz.aw (.S))).1;omega) (by have:=((hz.aw (.S))).2.1;omega) (fun n hn=>by have:=((hz.aw (.S))).2.2 n hn;omega)
 have HE:Hid (st.aws Fx.blankIn3.pz=((st.aw (.S)).aw (.I 3))):=rfl;have HS:Hid (SS S W g st):=h;clear h hz hns
 go_enter func309,ntmps309
 go_wp2_with (first|(go_at_call 238;refine (H1.out _ _ T0.out).mono ?_;rintro r1 w1 ⟨rfl,m1⟩;have M1:=show Hid (Mv S0 g w0 w1 ((st.aw (.S)).aw (.I 3))) from m1;clear m1)|(go_at_call 245;refine (H0.out _ _ HS.out).mono ?_;rintro r0 w0 ⟨rfl,m0⟩;obtain ⟨S0,t0,u0⟩:=Mv.seq m0;have T0:=show Hid (SS S0 w0 g (st.aw (.S))) from t0;have U0:=show Hid (∀W2 st2,Mv S0 g w0 W2 st2->Mv S g W W2 st2) from u0;have M0:=show Hid (Mv S g W w0 (st.aw (.S))) from m0;clear t0 u0 m0))
 go_end0
 rw [HE.out];exact ⟨rfl,U0.out _ _ M1.out⟩
theorem vL {S:Nat->Prop}(h:SS S W g st) (hns:st.ns≠[]) (hz:Bz 999999990 st) :
  Qu 369 #[bX g] W fun r w'=>r=.returned (.tuple #[])/\Mv S g W w' (st.aws Fx.blankIn4.pz):=by
 have H0:Hid (∀S V,SS S V g st->Qu 245 #[bX g] V fun r w'=>r=.returned (.tuple #[])/\Mv S g V w' (st.aw (.S))):=fun S V hS=>jt hS hns (hz.mono (by omega))
 have H1:Hid (∀S V,SS S V g (st.aw (.S))->Qu 238 #[bX g,.int .i64 4,.bool false] V fun r w'=>r=.returned (.tuple #[])/\Mv S g V w' ((st.aw (.S)).aw (.I 4))):=fun S V hS=>eP hS (.I 4) ⟨rfl,rfl⟩ (mP hns (.S)) (by have:=((hz.aw (.S))).1;omega) (by have:=((hz.aw (.S))).2.1;omega) (fun n hn=>by have:=((hz.aw (.S))).2.2 n hn;omega)
 have HE:Hid (st.aws Fx.blankIn4.pz=((st.aw (.S)).aw (.I 4))):=rfl;have HS:Hid (SS S W g st):=h;clear h hz hns
 go_enter func369,ntmps369
 go_wp2_with (first|(go_at_call 238;refine (H1.out _ _ T0.out).mono ?_;rintro r1 w1 ⟨rfl,m1⟩;have M1:=show Hid (Mv S0 g w0 w1 ((st.aw (.S)).aw (.I 4))) from m1;clear m1)|(go_at_call 245;refine (H0.out _ _ HS.out).mono ?_;rintro r0 w0 ⟨rfl,m0⟩;obtain ⟨S0,t0,u0⟩:=Mv.seq m0;have T0:=show Hid (SS S0 w0 g (st.aw (.S))) from t0;have U0:=show Hid (∀W2 st2,Mv S0 g w0 W2 st2->Mv S g W W2 st2) from u0;have M0:=show Hid (Mv S g W w0 (st.aw (.S))) from m0;clear t0 u0 m0))
 go_end0
 rw [HE.out];exact ⟨rfl,U0.out _ _ M1.out⟩
theorem xN {S:Nat->Prop}(h:SS S W g st) :
  Qu 313 #[bX g] W fun r w'=>r=.returned (.tuple #[])/\Mv S g W w' (st.aws Fx.nothing.pz):=by
 have HM:Hid (Mv S g W W (st.aws Fx.nothing.pz)):=Mv.refl h;clear h
 go_enter func313,ntmps313
 go_wp2_with fail
 go_end0
 exact ⟨rfl,HM.out⟩
def Fx.id:Fx->Nat
 |.nothing=>313
 |.blank=>245
 |.break1=>370
 |.hard=>240
 |.fend=>371
 |.in1=>375
 |.in2=>376
 |.endBlank=>374
 |.endHard=>368
 |.in2Break0=>373
 |.in2Break1=>372
 |.even2Hard=>367
 |.blankIn3=>309
 |.blankIn4=>369
theorem Fc (f:Fx) {S:Nat->Prop}{W:World}{g:Nat}{st:Sy}(h:SS S W g st) (hns:st.ns≠[]) (hz:Bz 999999990 st) :
  Qu f.id #[bX g] W fun r w'=>r=.returned (.tuple #[])/\Mv S g W w' (st.aws f.pz):=by
 cases f with
 |nothing=>exact xN h
 |blank=>exact Fb h hns hz
 |break1=>exact BP h hns hz
 |hard=>exact Jw h hns hz
 |fend=>exact Jy h hns hz
 |in1=>exact ME h hns hz
 |in2=>exact MD h hns hz
 |endBlank=>exact vK h hns hz
 |endHard=>exact xP h hns hz
 |in2Break0=>exact sX h hns hz
 |in2Break1=>exact sW h hns hz
 |even2Hard=>exact sZ h hns hz
 |blankIn3=>exact mL h hns hz
 |blankIn4=>exact vL h hns hz
open Lw (Dc bE rt cM dN fT j9 bW aY cr zW jD sO lO GE)
theorem A0 (c:UInt8) (w:World):Qu 308 #[.int .u8 (c.toNat:Int)] w fun e w'=>e=.returned (.bool (zW c))/\w'=w:=by
 have h1:((c.toNat:Int) == 32)=(c == 32):=by revert c;exact GE (by decide +kernel)
 have h2:((c.toNat:Int) == 10)=(c == 10):=by revert c;exact GE (by decide +kernel)
 have e:zW c=((c.toNat:Int) == 32 || (c.toNat:Int) == 10):=by rw [h1,h2];rfl
 rw [e];clear e h1 h2
 generalize (c.toNat:Int)=z
 go_enter func308,ntmps308
 go_wp2_with fail
 all_goals (go_ret;simp_all)
theorem AP (t:ByteArray) (ht:t.size<=9223372036854775807) (w:World):Qu 234 #[.string t] w fun e w'=>e=.returned (.bool (fT t))/\w'=w:=by
 by_cases h0:t.size=0
 ·have e0:t=⟨#[]⟩:=by
   apply sO
   exact QL (by rw [lO];exact h0)
  subst e0
  go_enter func234,ntmps234
  go_wp2_with fail
  go_ret
  exact ⟨rfl,rfl⟩
 ·have hne:¬t.toList=[]:=by
   rw [Lib.toList_data];intro hl;exact absurd (by have:=lO t;rw [jD,hl] at this;simpa using this.symm) h0
  by_cases h1:t.size<=65535
  ·have hlt:0<t.size:=by omega
   have hlt2:t.size-1<t.size:=by omega
   have HE:Hid (fT t=(!zW t[0] && !zW (t[t.size-1]))):=by
    show _=_
    unfold fT;have a0:(jD t).getD 0 0=t[0]:=(Lib.getD_at t 0 hlt).symm;have a1:(jD t).getD (t.size-1) 0=t[t.size-1]:=(Lib.getD_at t (t.size-1) hlt2).symm;rw [a0,a1];simp [h1,show 1<=t.size by omega]
   go_enter func234,ntmps234
   go_wp2_with (go_at_call 308;refine (A0 _ _).mono ?_;rintro e w1 ⟨rfl,rfl⟩)
   all_goals (go_ret;rw [HE.out];clear HE;refine ⟨?_,rfl⟩;simp_all)
  ·go_enter func234,ntmps234
   go_wp2_with fail
   go_ret
   refine ⟨?_,rfl⟩;simp [fT,h1]
theorem vz (d:Dc) (w:World):Qu 315 #[.agg #[.int .u8 d.k,.string d.t,.int .i64 d.b,.int .i64 d.i,.bool d.e]] w fun e w'=>e=.returned (.bool (bf d))/\Qv w w':=by
 have HQ:Hid (bf d=(d.k == 6)):=by show _=_;unfold bf;by_cases h:d.k=6 <;> simp [h]
 have HB:Hid (∀o,Qv w (w.alloc o)):=fun o=>(hH _ _).alloc (gt _) _
 go_enter func315,ntmps315
 go_wp2_with fail
 go_ret
 rw [HQ.out];exact ⟨rfl,HB.out _⟩
theorem ET (d:Dc) (w:World):Qu 248 #[.agg #[.int .u8 d.k,.string d.t,.int .i64 d.b,.int .i64 d.i,.bool d.e]] w fun e w'=>e=.returned (.bool (bG d))/\Qv w w':=by
 have HQ:Hid (bG d=(d.k == 4)):=by show _=_;unfold bG;by_cases h:d.k=4 <;> simp [h]
 have HB:Hid (∀o,Qv w (w.alloc o)):=fun o=>(hH _ _).alloc (gt _) _
 go_enter func248,ntmps248
 go_wp2_with fail
 go_ret
 rw [HQ.out];exact ⟨rfl,HB.out _⟩
theorem EU (d:Dc) (w:World):Qu 244 #[.agg #[.int .u8 d.k,.string d.t,.int .i64 d.b,.int .i64 d.i,.bool d.e]] w fun e w'=>e=.returned (.bool (bS d))/\Qv w w':=by
 have HB:Hid (∀o,Qv w (w.alloc o)):=fun o=>(hH _ _).alloc (gt _) _
 obtain ⟨k,t,b,i,e⟩:=d
 dsimp only
 by_cases h2:k=2
 ·subst h2
  go_enter func244,ntmps244
  go_wp2_with fail
  go_ret
  exact ⟨rfl,HB.out _⟩
 ·have q2:(k == 2)=false:=by simpa using h2
  by_cases h4:k=4
  ·subst h4
   go_enter func244,ntmps244
   go_wp2_with fail
   go_ret
   exact ⟨rfl,HB.out _⟩
  ·have q4:(k == 4)=false:=by simpa using h4
   have HQ:Hid (bS ⟨k,t,b,i,e⟩=(k == 3 && (t.toList == [] && (b == 1 && (i == 0 && !e))))):=by
    show _=_
    unfold bS dB;rw [QH h2,QH h4,US,US];have ht:=Lw.G9 t;have hE0:bE.toList=[]:=by rw [Lib.toList_data];rfl
    by_cases a1:k=3 <;> by_cases a2:t=bE <;> by_cases a3:b=1 <;> by_cases a4:i=0 <;> cases e <;> simp [a1,a2,a3,a4,ht,hE0]
   clear h2 h4
   go_enter func244,ntmps244
   go_wp2_with fail
   all_goals (go_ret;rw [HQ.out];refine ⟨?_,HB.out _⟩;simp_all)
theorem EV (t:Tv) (w:World):Qu 235 #[.agg #[.int .u8 t.k,.string t.t,.int .i64 t.a,.int .i64 t.l,.int .i64 t.c,.int .i64 t.f]] w fun e w'=>e=.returned (.bool (decide (t.k=7\/t.k=8)))/\Qv w w':=by
 have HB:Hid (∀o,Qv w (w.alloc o)):=fun o=>(hH _ _).alloc (gt _) _
 have HQ:Hid (decide (t.k=7\/t.k=8)=(t.k == 7 || t.k == 8)):=by show _=_;by_cases a:t.k=7 <;> by_cases b:t.k=8 <;> simp [a,b]
 go_enter func235,ntmps235
 go_wp2_with fail
 all_goals (go_ret;rw [HQ.out];refine ⟨?_,HB.out _⟩;simp_all)
theorem oE (t:Tv) (w:World):Qu 246 #[.agg #[.int .u8 t.k,.string t.t,.int .i64 t.a,.int .i64 t.l,.int .i64 t.c,.int .i64 t.f]] w fun e w'=>e=.returned (.agg #[.int .u8 1,.string t.t,.int .i64 0,.int .i64 0,.bool false])/\Below w.heap.size w w':=by
 obtain ⟨V,e1⟩:∃V,w.alloc (.cells #[.int .u8 t.k,.string t.t,.int .i64 t.a,.int .i64 t.l,.int .i64 t.c,.int .i64 t.f] 53)=V:=⟨_,rfl⟩;have hb:Below w.heap.size w V:=by rw [<-e1];exact (hH _ _).alloc (gt _) _
 have hs:V.heap.size=w.heap.size+1:=by rw [<-e1];show (w.heap.push _).size=_;simp
 have hn:=au V (.cells #[.int .u8 1,.string t.t,.int .i64 0,.int .i64 0,.bool false] 39);rw [hs,<-e1] at hn;have HN:Hid ((V.alloc (.cells #[.int .u8 1,.string t.t,.int .i64 0,.int .i64 0,.bool false] 39))=(V.alloc (.cells #[.int .u8 1,.string t.t,.int .i64 0,.int .i64 0,.bool false] 39))/\∀o,Below w.heap.size w (V.alloc o)):=⟨rfl,fun o=>hb.alloc hb.size _⟩;rw [<-e1] at HN;have m0:=af (k:=0) hn rfl;have m1:=af (k:=1) hn rfl;have m2:=af (k:=2) hn rfl;have m3:=af (k:=3) hn rfl;have m4:=af (k:=4) hn rfl;have HM:Hid _:=And.intro m0 (And.intro m1 (And.intro m2 (And.intro m3 m4)));clear e1 hs hn hb m0 m1 m2 m3 m4
 go_enter func246,ntmps246
 go_wp2_with fail
 obtain ⟨m0,m1,m2,m3,m4⟩:=HM.out;refine QK (v:=.agg #[.int .u8 1,.string t.t,.int .i64 0,.int .i64 0,.bool false]) (by simp [results,Tryz.f246,go_sem,m0,m1,m2,m3,m4]) rfl ?_;exact ⟨rfl,HN.out.2 _⟩
theorem BO (k:Int) (w:World):Qu 237 #[.int .u8 k] w fun e w'=>e=.returned (.bool (fj k))/\w'=w:=by
 by_cases h:fj k=true
 ·have h2:=QS h;rw [h]
  rcases h2 with rfl|rfl|rfl|rfl|rfl|rfl|rfl|rfl|rfl|rfl|rfl|rfl
  all_goals (
   go_enter func237,ntmps237
   go_wp2_with fail
   go_ret
   exact ⟨rfl,rfl⟩)
 ·have h2:¬_:=fun e=>h (QF e)
  rw [Bool.eq_false_iff.2 h];simp only [not_or] at h2;obtain ⟨a1,a2,a3,a4,a5,a6,a7,a8,a9,b1,b2,b3⟩:=h2;have p1:(k == 3)=false:=by simpa using a1
  have p2:(k == 4)=false:=by simpa using a2
  have p3:(k == 5)=false:=by simpa using a3
  have p4:(k == 11)=false:=by simpa using a4
  have p5:(k == 13)=false:=by simpa using a5
  have p6:(k == 14)=false:=by simpa using a6
  have p7:(k == 15)=false:=by simpa using a7
  have p8:(k == 16)=false:=by simpa using a8
  have p9:(k == 17)=false:=by simpa using a9
  have r1:(k == 18)=false:=by simpa using b1
  have r2:(k == 19)=false:=by simpa using b2
  have r3:(k == 20)=false:=by simpa using b3
  clear h a1 a2 a3 a4 a5 a6 a7 a8 a9 b1 b2 b3
  go_enter func237,ntmps237
  go_wp2_with fail
  go_ret
  exact ⟨rfl,rfl⟩
theorem fG {dn:Bool}(c0:W.cell? ⟨g,0,none⟩=some (.bool dn)):Qu 149 #[bX g] W fun r w'=>r=.returned (.int .i64 (if dn then 4 else 0))/\w'=W:=by
 cases dn
 all_goals (
  go_enter func149,ntmps149
  go_wp2_with fail
  go_ret
  exact ⟨rfl,rfl⟩)
def Ld (w:World) (ao:Option Addr) (l:List Dc):Prop:=∀j d,l[j]?=some d->∃b off,ao=some ⟨b,off,none⟩ /\
 w.cell? ⟨b,off+j*5,none⟩=some (.int .u8 d.k)/\w.cell? ⟨b,off+j*5+1,none⟩=some (.string d.t)/\w.cell? ⟨b,off+j*5+2,none⟩=some (.int .i64 d.b)/\w.cell? ⟨b,off+j*5+3,none⟩=some (.int .i64 d.i)/\w.cell? ⟨b,off+j*5+4,none⟩=some (.bool d.e)
theorem Ld.kp {S:Nat->Prop}{w w':World}{ao:Option Addr}{l:List Dc}(h:Ld w ao l) (hb:Kp S w w') (hS:∀a,ao=some a->¬S a.block):Ld w' ao l:=by
 intro j a ha;obtain ⟨b,off,h1,c0,c1,c2,c3,c4⟩:=h j a ha;have hlt:=QD _ _ c0;have e:w'.heap[b]?=w.heap[b]?:=hb.block b hlt (hS _ h1);exact ⟨b,off,h1,(QE (a:=⟨b,_,none⟩) e).trans c0,(QE (a:=⟨b,_,none⟩) e).trans c1,(QE (a:=⟨b,_,none⟩) e).trans c2,(QE (a:=⟨b,_,none⟩) e).trans c3,(QE (a:=⟨b,_,none⟩) e).trans c4⟩
theorem Ld.below {w':World}(h:Ld w ao l) (hb:Below w.heap.size w w'):Ld w' ao l:=h.kp (Kp.of_below (S:=fun _=>False) hb) (fun _ _ h=>h)
theorem Ld.take (h:Ld w ao l) (n:Nat):Ld w ao (l.take n):=by
 intro j d hj;rw [Rm] at hj
 split at hj
 ·exact h j d hj
 ·cases hj
theorem uJ {p:Option Addr}{cap:Nat}(h:Rd w (.slice p n cap) l):Ld w p l:=by
 intro j d hj
 rcases h.2 with ⟨h1,h0⟩|⟨g,cap',cur,h1,_⟩
 ·have:l=[]:=QL h0;subst this;simp at hj
 ·cases h1
  have hc:∀(k:Nat) (u:Value),(bW l)[k]?=some u->w.cell? ⟨g,k,none⟩=some u:=fun k u hu=>by
   have:=ST h (g:=g) rfl k u hu;rw [Sg,QG] at this;exact this
  refine ⟨g,0,rfl,?_,?_,?_,?_,?_⟩
  ·rw [QG];exact hc _ _ (aW Dc.cs 5 Lw.Dc.cs_len l j 0 d _ hj rfl)
  ·rw [QG];exact hc _ _ (aW Dc.cs 5 Lw.Dc.cs_len l j 1 d _ hj rfl)
  ·rw [QG];exact hc _ _ (aW Dc.cs 5 Lw.Dc.cs_len l j 2 d _ hj rfl)
  ·rw [QG];exact hc _ _ (aW Dc.cs 5 Lw.Dc.cs_len l j 3 d _ hj rfl)
  ·rw [QG];exact hc _ _ (aW Dc.cs 5 Lw.Dc.cs_len l j 4 d _ hj rfl)
theorem lh (p:α->Bool) (l:List α) (k:Nat) (x:α) (hx:l[k]?=some x) (h:(l.take k).any p=false):(l.take (k+1)).any p=p x:=by
 rw [SJ,hx,QY,h];simp
theorem lg (p:α->Bool) (l:List α) (k:Nat) (h:(l.take k).any p=true):l.any p=true:=by
 rw [RW] at h ⊢;obtain ⟨x,hx,e⟩:=h;exact ⟨x,T8 hx,e⟩
theorem ES (ao:Option Addr) (l:List Dc) (cap:Nat) (W:World) (h:Ld W ao l) (hl:l.length<=1000000000) :
  Qu 379 #[.slice ao l.length cap,.func (.func 315) #[] #[]] W fun r w'=>(∃z:Int,r=.returned (.int .i64 z)/\(decide (0<=z)=l.any bf))/\Qv W w':=by
 have H:Hid (Ld W ao l):=h;clear h;have HP:Hid (∀(d:Dc) (V:World),Qu 315 #[.agg #[.int .u8 d.k,.string d.t,.int .i64 d.b,.int .i64 d.i,.bool d.e]] V fun e w'=>e=.returned (.bool (bf d))/\Qv V w'):=vz
 go_enter func379,ntmps379
 go_wp2_with fail
 go_loopw [5,8] (fun _ i wr=>∃k:Nat,k<=l.length/\i=.int .i64 k/\Hid ((l.take k).any bf=false)/\Hid (Qv W wr)) (fun _ i _=>l.length-(intOf i).toNat)
 case atStart=>exact ⟨0,Qw _,rfl,by show _=_;simp,hH _ _⟩
 case round=>
  obtain ⟨k,hk,rfl,HI,HB⟩:=hrel
  by_cases hlt:k<l.length
  ·have q1:(k:Int)<l.length:=by omega
   have q0:(0:Int)<=k:=by omega
   obtain ⟨x,hx⟩:∃x,l[k]?=some x:=⟨_,Pi hlt⟩;obtain ⟨b,off,rfl,c0,c1,c2,c3,c4⟩:=(H.out.below HB.out) k x hx;have HS:Hid ((l.take (k+1)).any bf=bf x):=lh bf l k x hx HI.out;have HT:Hid ((l.take (k+1)).any bf=true->l.any bf=true):=lg bf l _;clear hx
   by_cases he:bf x=true
   ·go_wp2_with (go_at_call 315;refine (HP.out x _).mono ?_;rintro e w1 ⟨rfl,hb1⟩;rw [he];have HC:Hid (Qv W w1):=HB.out.trans (hb1.mono HB.out.size);clear hb1)
    go_ret
    exact ⟨⟨_,rfl,by rw [HT.out (HS.out.trans he)];simp⟩,HC.out⟩
   ·have he':bf x=false:=by simpa using he
    clear he
    go_wp2_with (go_at_call 315;refine (HP.out x _).mono ?_;rintro e w1 ⟨rfl,hb1⟩;rw [he'];have HC:Hid (Qv W w1):=HB.out.trans (hb1.mono HB.out.size);clear hb1)
    exact ⟨⟨k+1,hlt,by go_num,HS.out.trans he',HC⟩,by simp [intOf];omega⟩
  ·obtain rfl:k=l.length:=by omega
   have q1:¬((l.length:Int)<l.length):=by omega
   go_wp2_with fail
   go_ret
   refine ⟨⟨_,rfl,?_⟩,HB.out⟩;have:=HI.out;rw [Rv] at this;rw [this];rfl
theorem FP (ao:Option Addr) (l:List Dc) (cap:Nat) (W:World) (h:Ld W ao l) (hl:l.length<=1000000000) :
  Qu 314 #[.slice ao l.length cap,.func (.func 315) #[] #[]] W fun r w'=>r=.returned (.bool (l.any bf))/\Qv W w':=by
 have H:Hid (Qu 379 #[.slice ao l.length cap,.func (.func 315) #[] #[]] W fun r w'=>(∃z:Int,r=.returned (.int .i64 z)/\(decide (0<=z)=l.any bf))/\Qv W w'):=ES ao l cap W h hl;clear h
 generalize l.any bf=b at *
 go_enter func314,ntmps314
 go_wp2_with (go_at_call 379;refine H.out.mono ?_;rintro r w1 ⟨⟨z,rfl,hz⟩,hb1⟩;have HB:Hid (Qv W w1):=hb1;clear hb1;subst hz)
 go_ret
 exact ⟨by simp,HB.out⟩
theorem EQ (ao:Option Addr) (l:List Dc) (cap:Nat) (W:World) (h:Ld W ao l) (hl:l.length<=1000000000) :
  Qu 379 #[.slice ao l.length cap,.func (.func 248) #[] #[]] W fun r w'=>(∃z:Int,r=.returned (.int .i64 z)/\(decide (0<=z)=l.any bG))/\Qv W w':=by
 have H:Hid (Ld W ao l):=h;clear h;have HP:Hid (∀(d:Dc) (V:World),Qu 248 #[.agg #[.int .u8 d.k,.string d.t,.int .i64 d.b,.int .i64 d.i,.bool d.e]] V fun e w'=>e=.returned (.bool (bG d))/\Qv V w'):=ET
 go_enter func379,ntmps379
 go_wp2_with fail
 go_loopw [5,8] (fun _ i wr=>∃k:Nat,k<=l.length/\i=.int .i64 k/\Hid ((l.take k).any bG=false)/\Hid (Qv W wr)) (fun _ i _=>l.length-(intOf i).toNat)
 case atStart=>exact ⟨0,Qw _,rfl,by show _=_;simp,hH _ _⟩
 case round=>
  obtain ⟨k,hk,rfl,HI,HB⟩:=hrel
  by_cases hlt:k<l.length
  ·have q1:(k:Int)<l.length:=by omega
   have q0:(0:Int)<=k:=by omega
   obtain ⟨x,hx⟩:∃x,l[k]?=some x:=⟨_,Pi hlt⟩;obtain ⟨b,off,rfl,c0,c1,c2,c3,c4⟩:=(H.out.below HB.out) k x hx;have HS:Hid ((l.take (k+1)).any bG=bG x):=lh bG l k x hx HI.out;have HT:Hid ((l.take (k+1)).any bG=true->l.any bG=true):=lg bG l _;clear hx
   by_cases he:bG x=true
   ·go_wp2_with (go_at_call 248;refine (HP.out x _).mono ?_;rintro e w1 ⟨rfl,hb1⟩;rw [he];have HC:Hid (Qv W w1):=HB.out.trans (hb1.mono HB.out.size);clear hb1)
    go_ret
    exact ⟨⟨_,rfl,by rw [HT.out (HS.out.trans he)];simp⟩,HC.out⟩
   ·have he':bG x=false:=by simpa using he
    clear he
    go_wp2_with (go_at_call 248;refine (HP.out x _).mono ?_;rintro e w1 ⟨rfl,hb1⟩;rw [he'];have HC:Hid (Qv W w1):=HB.out.trans (hb1.mono HB.out.size);clear hb1)
    exact ⟨⟨k+1,hlt,by go_num,HS.out.trans he',HC⟩,by simp [intOf];omega⟩
  ·obtain rfl:k=l.length:=by omega
   have q1:¬((l.length:Int)<l.length):=by omega
   go_wp2_with fail
   go_ret
   refine ⟨⟨_,rfl,?_⟩,HB.out⟩;have:=HI.out;rw [Rv] at this;rw [this];rfl
theorem FN (ao:Option Addr) (l:List Dc) (cap:Nat) (W:World) (h:Ld W ao l) (hl:l.length<=1000000000) :
  Qu 314 #[.slice ao l.length cap,.func (.func 248) #[] #[]] W fun r w'=>r=.returned (.bool (l.any bG))/\Qv W w':=by
 have H:Hid (Qu 379 #[.slice ao l.length cap,.func (.func 248) #[] #[]] W fun r w'=>(∃z:Int,r=.returned (.int .i64 z)/\(decide (0<=z)=l.any bG))/\Qv W w'):=EQ ao l cap W h hl;clear h
 generalize l.any bG=b at *
 go_enter func314,ntmps314
 go_wp2_with (go_at_call 379;refine H.out.mono ?_;rintro r w1 ⟨⟨z,rfl,hz⟩,hb1⟩;have HB:Hid (Qv W w1):=hb1;clear hb1;subst hz)
 go_ret
 exact ⟨by simp,HB.out⟩
theorem CA (h:SV W g st vn vw) (hl:st.ws.length<=1000000000) :
  Qu 243 #[bX g,.func (.func 248) #[] #[]] W fun r w'=>r=.returned (.bool (st.ws.any bG))/\Qv W w':=by
 obtain ⟨p,cap,e,_⟩:=bD h.rd;subst e;have H:Hid (Qu 314 #[.slice p st.ws.length cap,.func (.func 248) #[] #[]] W fun r w'=>r=.returned (.bool (st.ws.any bG))/\Qv W w'):=FN p st.ws cap W (uJ h.rd) hl;obtain ⟨c0,c1,c2,c3,c4,c5,c6,c7⟩:=h.sb.cells
 generalize st.ws.any bG=b at *
 generalize st.ws.length=n at *
 clear h c0 c1 c3 c4 c5 c6 c7
 go_enter func243,ntmps243
 go_wp2_with (go_at_call 314;refine H.out.mono ?_;rintro r w1 ⟨rfl,hb1⟩;have HB:Hid (Qv W w1):=hb1;clear hb1)
 go_ret
 exact ⟨rfl,HB.out⟩
theorem ER (ao:Option Addr) (l:List Dc) (cap:Nat) (W:World) (h:Ld W ao l) (hl:l.length<=1000000000) :
  Qu 379 #[.slice ao l.length cap,.func (.func 244) #[] #[]] W fun r w'=>(∃z:Int,r=.returned (.int .i64 z)/\(decide (0<=z)=l.any bS))/\Qv W w':=by
 have H:Hid (Ld W ao l):=h;clear h;have HP:Hid (∀(d:Dc) (V:World),Qu 244 #[.agg #[.int .u8 d.k,.string d.t,.int .i64 d.b,.int .i64 d.i,.bool d.e]] V fun e w'=>e=.returned (.bool (bS d))/\Qv V w'):=EU
 go_enter func379,ntmps379
 go_wp2_with fail
 go_loopw [5,8] (fun _ i wr=>∃k:Nat,k<=l.length/\i=.int .i64 k/\Hid ((l.take k).any bS=false)/\Hid (Qv W wr)) (fun _ i _=>l.length-(intOf i).toNat)
 case atStart=>exact ⟨0,Qw _,rfl,by show _=_;simp,hH _ _⟩
 case round=>
  obtain ⟨k,hk,rfl,HI,HB⟩:=hrel
  by_cases hlt:k<l.length
  ·have q1:(k:Int)<l.length:=by omega
   have q0:(0:Int)<=k:=by omega
   obtain ⟨x,hx⟩:∃x,l[k]?=some x:=⟨_,Pi hlt⟩;obtain ⟨b,off,rfl,c0,c1,c2,c3,c4⟩:=(H.out.below HB.out) k x hx;have HS:Hid ((l.take (k+1)).any bS=bS x):=lh bS l k x hx HI.out;have HT:Hid ((l.take (k+1)).any bS=true->l.any bS=true):=lg bS l _;clear hx
   by_cases he:bS x=true
   ·go_wp2_with (go_at_call 244;refine (HP.out x _).mono ?_;rintro e w1 ⟨rfl,hb1⟩;rw [he];have HC:Hid (Qv W w1):=HB.out.trans (hb1.mono HB.out.size);clear hb1)
    go_ret
    exact ⟨⟨_,rfl,by rw [HT.out (HS.out.trans he)];simp⟩,HC.out⟩
   ·have he':bS x=false:=by simpa using he
    clear he
    go_wp2_with (go_at_call 244;refine (HP.out x _).mono ?_;rintro e w1 ⟨rfl,hb1⟩;rw [he'];have HC:Hid (Qv W w1):=HB.out.trans (hb1.mono HB.out.size);clear hb1)
    exact ⟨⟨k+1,hlt,by go_num,HS.out.trans he',HC⟩,by simp [intOf];omega⟩
  ·obtain rfl:k=l.length:=by omega
   have q1:¬((l.length:Int)<l.length):=by omega
   go_wp2_with fail
   go_ret
   refine ⟨⟨_,rfl,?_⟩,HB.out⟩;have:=HI.out;rw [Rv] at this;rw [this];rfl
theorem FO (ao:Option Addr) (l:List Dc) (cap:Nat) (W:World) (h:Ld W ao l) (hl:l.length<=1000000000) :
  Qu 314 #[.slice ao l.length cap,.func (.func 244) #[] #[]] W fun r w'=>r=.returned (.bool (l.any bS))/\Qv W w':=by
 have H:Hid (Qu 379 #[.slice ao l.length cap,.func (.func 244) #[] #[]] W fun r w'=>(∃z:Int,r=.returned (.int .i64 z)/\(decide (0<=z)=l.any bS))/\Qv W w'):=ER ao l cap W h hl;clear h
 generalize l.any bS=b at *
 go_enter func314,ntmps314
 go_wp2_with (go_at_call 379;refine H.out.mono ?_;rintro r w1 ⟨⟨z,rfl,hz⟩,hb1⟩;have HB:Hid (Qv W w1):=hb1;clear hb1;subst hz)
 go_ret
 exact ⟨by simp,HB.out⟩
theorem CC (h:SV W g st vn vw) (hl:st.ws.length<=1000000000) :
  Qu 243 #[bX g,.func (.func 244) #[] #[]] W fun r w'=>r=.returned (.bool (st.ws.any bS))/\Below W.heap.size W w':=by
 obtain ⟨p,cap,e,_⟩:=bD h.rd;subst e;have H:Hid (Qu 314 #[.slice p st.ws.length cap,.func (.func 244) #[] #[]] W fun r w'=>r=.returned (.bool (st.ws.any bS))/\Qv W w'):=FO p st.ws cap W (uJ h.rd) hl;obtain ⟨c0,c1,c2,c3,c4,c5,c6,c7⟩:=h.sb.cells
 generalize st.ws.any bS=b at *
 generalize st.ws.length=n at *
 clear h c0 c1 c3 c4 c5 c6 c7
 go_enter func243,ntmps243
 go_wp2_with (go_at_call 314;refine H.out.mono ?_;rintro r w1 ⟨rfl,hb1⟩;have HB:Hid (Qv W w1):=hb1;clear hb1)
 go_ret
 exact ⟨rfl,HB.out⟩
end Go.Proofs.YtacohdpndpliaaaGreatDoor
