import Derived.Test.YtjiepkenkcgkhaaGreatDoorM31
set_option linter.unusedVariables false
set_option linter.unusedSimpArgs false
set_option maxHeartbeats 1000000
namespace Go.Proofs.YtjiepkenkcgkhaaGreatDoor
open Go.RowKit
open Lw (Dc bE rt cy dh eZ ij bU aW cg)
variable {st:Sy}{W:World}{g n:Nat}
def Bz (n:Nat) (st:Sy):Prop:=st.ws.length<=n/\st.ns.length<=n/\∀x∈st.ns,x.b<=n
theorem Bz.mono {m:Nat}(h:Bz n st) (hm:n<=m):Bz m st:=⟨by have:=h.1;omega,by have:=h.2.1;omega,fun x hx=>by have:=h.2.2 x hx;omega⟩
theorem nT (p:Pz) (l:List Nd):(ia p l).length=l.length:=by cases l <;> rfl
theorem gz (p:Pz) (l:List Nd):(jB p l).length<=1:=by unfold jB;split <;> simp
theorem Bz.aw (h:Bz n st) (p:Pz):Bz (n+1) (st.aw p):=by
 obtain ⟨h1,h2,h3⟩:=h;refine ⟨?_,?_,?_⟩
 ·show (st.ws++jB p st.ns).length<=_
  have:=gz p st.ns;rw [Or];omega
 ·show (ia p st.ns).length<=_
  rw [nT];omega
 ·intro x hx;have hx':x∈ia p st.ns:=hx;cases hc:st.ns with
  |nil=>rw [hc] at hx';simp [ia] at hx'
  |cons m r=>
   rw [hc] at hx' h3;simp only [ia,Rg] at hx';have hm:=h3 m QN;have hp:p.n<=1:=by cases p <;> simp [Pz.n]
   rcases hx' with rfl|hx'
   ·split
    ·show m.b-1<=_;omega
    ·show m.b+p.n<=_;omega
   ·have:=h3 x (QO _ hx');omega
theorem mF (h:st.ns≠[]) (p:Pz):(st.aw p).ns≠[]:=by
 intro e;have:(ia p st.ns).length=0:=by rw [show ia p st.ns=[] from e];rfl
 rw [nT] at this;exact h (QZ this)
theorem Mv.seq {S:Nat->Prop}{W1:World}(h:Mv S g W W1 st):∃S1,SS S1 W1 g st/\∀W2 st2,Mv S1 g W1 W2 st2->Mv S g W W2 st2:=by
 obtain ⟨⟨S1,s1,s2⟩,hk,hc⟩:=h;refine ⟨S1,s1,?_⟩;rintro W2 st2 ⟨⟨S2,t1,t2⟩,hk2,hc2⟩;refine ⟨⟨S2,t1,fun k hk'=>?_⟩,hk.step hk2 (fun k hlt hs=>?_),hc2.trans hc⟩
 ·rcases t2 k hk' with a|a
  ·exact s2 k a
  ·exact .inr (QQ hk.size a)
 ·rcases s2 k hs with a|a
  ·exact a
  ·omega
theorem nP {S:Nat->Prop}(h:SS S W g st) (hns:st.ns≠[]) (hz:Bz 1000000000 st) :
  Ra 123 #[bV g] W fun r w'=>r=.returned (.tuple #[])/\Mv S g W w' (st.aw .X):=by
 obtain ⟨vn,vw,hv,s1,s2⟩:=h.ex
 obtain ⟨n,r,en⟩:∃n r,st.ns=n :: r:=by
  cases hc:st.ns with
  |nil=>exact absurd hc hns
  |cons n r=>exact ⟨n,r,rfl⟩
 have hn1:=hv.rn;rw [en] at hn1;obtain ⟨b,cap,rfl,hc1,hc2⟩:=mX hn1;have hnl:=hz.2.1;rw [en] at hnl;have HI:Hid (Ra 117 #[bV g] W fun r' w'=>r'=.returned (.pointer (some ⟨b,r.length*3,none⟩))/\Rc W w'):=fQ hv.sb.cells.2.1 (by simp at hnl;omega);have hnb:n.b<=1000000000:=hz.2.2 n (by rw [en];exact QN);have eN:ia .X st.ns=⟨n.k,n.b-1,n.s⟩ :: r:=by rw [en];rfl
 have hsg:=h.sg
 have HV:Hid (∀V,Rc W V->SV V g st (.slice (some ⟨b,0,none⟩) (r.length+1) cap) vw/\V.cell? ⟨b,r.length*3+1,none⟩=some (.int .i64 n.b)):=fun V hb=>by
  have a3:=hv.below hb;refine ⟨a3,?_⟩;have a4:=a3.rn;rw [en] at a4;exact (kq a4).2.1
 by_cases h0:n.b=0
 ·have eW:jB .X st.ns=[]:=by unfold jB;rw [en];simp [h0]
  have HX:Hid (∀V,Rc W V->Mv S g W V (st.aw .X)):=fun V hb=>by
   have e9:st.aw .X=st:=by
    unfold Sy.aw;rw [eN,eW,Rx,h0];have:(⟨n.k,0-1,n.s⟩:Nd)=n:=by cases n;simp at h0;subst h0;rfl
    rw [this,<-en]
   rw [e9];exact Mv.quiet h hb
  rw [h0] at HV;clear hv hn1 h s1 s2 eN eW hz hnl hnb en hns h0
  go_enter Tryz.func123,Tryz.ntmps123
  go_wp2_with (go_at_call 117;refine HI.out.mono ?_;rintro r2 w2 ⟨rfl,hb2⟩;have x1:=(HV.out _ hb2).2;have HM:=show Hid (Mv S g W w2 (st.aw .X)) from HX.out _ hb2;clear hb2)
  go_end0
  exact ⟨rfl,HM.out⟩
 ·have eW:jB .X st.ns=[dX]:=by unfold jB;rw [en];simp [h0,Pz.d]
  have q0:decide ((0:Int)<(n.b:Int))=true:=by simp;omega
  have q1:(0:Int)<(n.b:Int):=by omega
  have q2:IntKind.i64.wrap ((n.b:Int)-1)=((n.b-1:Nat):Int):=by rw [RA];omega
  have HW:Hid (∀V,Rc W V->Ra 161 #[bV g,.agg #[.int .u8 7,.string ⟨#[]⟩,.int .i64 0,.int .i64 0,.bool false]] V fun rr w'=>rr=.returned (.tuple #[])/\WP V w' g st (.slice (some ⟨b,0,none⟩) (r.length+1) cap) vw (st.ws++[dX])):=fun V hb=>og (HV.out V hb).1 dX hz.1
  have HE:Hid (∀V w2,Rc W V->WP V w2 g st (.slice (some ⟨b,0,none⟩) (r.length+1) cap) vw (st.ws++[dX])->(w2.cell? ⟨b,r.length*3+1,none⟩=some (.int .i64 n.b)/\w2.frozen? ⟨b,r.length*3+1,none⟩=false)/\Mv S g W (w2.setCell ⟨b,r.length*3+1,none⟩ (.int .i64 ((n.b-1:Nat):Int))) (st.aw .X)):=fun V w2 hb hp1=>by
   obtain ⟨vw',a3,a2⟩:=hp1.ex;have a4:Rn tN w2 (.slice (some ⟨b,0,none⟩) (r.length+1) cap) (n :: r):=by have:=a3.rn;rw [show ({ st with ws:=st.ws++[dX] }:Sy).ns=n :: r from en] at this;exact this
   refine ⟨⟨(kq a4).2.1,T5 a4 _⟩,?_⟩;have a5:=SV.nd (n:=n) (m:=⟨n.k,n.b-1,n.s⟩) (show ({ st with ws:=st.ws++[dX] }:Sy).ns=n :: r from en) a3 1 (.int .i64 ((n.b-1:Nat):Int)) (by omega) rfl;have e9:({ ({ st with ws:=st.ws++[dX] }:Sy) with ns:=⟨n.k,n.b-1,n.s⟩ :: r }:Sy)=st.aw .X:=by unfold Sy.aw;rw [eN,eW]
   rw [e9] at a5;have hk:Kp S W (w2.setCell ⟨b,r.length*3+1,none⟩ (.int .i64 ((n.b-1:Nat):Int))):=(((Kp.of_below hb).step (hp1.kp.sub (S:=S) (by rintro k (e|e);rw [e];exact hsg;exact s2 k e)) (fun _ _ h=>h)).step (Kp.set _ _ _ _) (fun k _ e=>by rw [e];exact s1 b rfl));refine Mv.mk' a5 hsg (fun k e=>.inl (s1 k e)) (fun k e=>?_) hk hv.sb.cells.2.1
   rcases a2 with a2|⟨q,hq,hq2⟩
   ·exact .inl (s2 k (by rw [<-a2];exact e))
   ·rw [hq] at e;cases e;exact .inr (QQ hb.size hq2)
  clear hv hn1 h s1 s2 eN eW hz hnl hnb en hns h0
  go_enter Tryz.func123,Tryz.ntmps123
  go_wp2_with (first|(go_at_call 117;refine HI.out.mono ?_;rintro r2 w2 ⟨rfl,hb2⟩;have x1:=(HV.out _ hb2).2;have HB:=show Hid (Below W.heap.size W w2) from hb2;clear hb2)|(go_at_call 161;refine (HW.out _ HB.out).mono ?_;rintro r3 w3 ⟨rfl,hp3⟩;obtain ⟨⟨y1,y2⟩,y3⟩:=HE.out _ _ HB.out hp3;have HX:=ai y3;clear y3 hp3))
  go_end0
  exact ⟨rfl,HX.out⟩
theorem me {S:Nat->Prop}(h:SS S W g st) (p:Pz) (hp:p.n=0/\p≠.X) (hz:Bz 1000000000 st) (hns:st.ns≠[]\/True) :
  Ra 161 #[bV g,.agg #[.int .u8 p.d.k,.string p.d.t,.int .i64 p.d.b,.int .i64 p.d.i,.bool p.d.e]] W fun r w'=>r=.returned (.tuple #[])/\Mv S g W w' (st.aw p):=by
 obtain ⟨vn,vw,hv,s1,s2⟩:=h.ex;refine (og hv p.d hz.1).mono ?_;rintro r w' ⟨rfl,hp1⟩;refine ⟨rfl,?_⟩;have:=hp1.mv hv h.sg s1 s2
 have e:({ st with ws:=st.ws++[p.d] }:Sy)=st.aw p:=by
  have eN:ia p st.ns=st.ns:=by
   cases st.ns with
   |nil=>rfl
   |cons n r=>simp only [ia];rw [Eq hp.2,hp.1];rfl
  have eW:jB p st.ns=[p.d]:=by unfold jB;rw [Eq (fun h=>hp.2 h.1)]
  unfold Sy.aw;rw [eN,eW]
 rw [e] at this;exact this
theorem EW {S:Nat->Prop}(h:SS S W g st) (hns:st.ns≠[]) (hz:Bz 999999990 st) :
  Ra 129 #[bV g] W fun r w'=>r=.returned (.tuple #[])/\Mv S g W w' (st.aws Fx.blank.pz):=by
 have H0:Hid (∀S V,SS S V g st->Ra 161 #[bV g,.agg #[.int .u8 2,.string ⟨#[]⟩,.int .i64 0,.int .i64 0,.bool false]] V fun r w'=>r=.returned (.tuple #[])/\Mv S g V w' (st.aw .S)):=fun S V hS=>me hS .S ⟨rfl,by decide⟩ (hz.mono (by omega)) (.inr trivial)
 have HE:Hid (st.aws Fx.blank.pz=(st.aw .S)):=rfl;have HS:Hid (SS S W g st):=h;clear h hz hns
 go_enter Tryz.func129,Tryz.ntmps129
 go_wp2_with (first|(go_at_call 161;refine (H0.out _ _ HS.out).mono ?_;rintro r0 w0 ⟨rfl,m0⟩;obtain ⟨S0,t0,u0⟩:=Mv.seq m0;have T0:=show Hid (SS S0 w0 g (st.aw .S)) from t0;have U0:=show Hid (∀W2 st2,Mv S0 g w0 W2 st2->Mv S g W W2 st2) from u0;have M0:=show Hid (Mv S g W w0 (st.aw .S)) from m0;clear t0 u0 m0))
 go_end0
 rw [HE.out];exact ⟨rfl,M0.out⟩
theorem jr {S:Nat->Prop}(h:SS S W g st) (hns:st.ns≠[]) (hz:Bz 999999999 st) :
  Ra 129 #[bV g] W fun r w'=>r=.returned (.tuple #[])/\Mv S g W w' (st.aw .S):=by
 have H0:Hid (∀S V,SS S V g st->Ra 161 #[bV g,.agg #[.int .u8 2,.string ⟨#[]⟩,.int .i64 0,.int .i64 0,.bool false]] V fun r w'=>r=.returned (.tuple #[])/\Mv S g V w' (st.aw .S)):=fun S V hS=>me hS .S ⟨rfl,by decide⟩ (hz.mono (by omega)) (.inr trivial)
 have HS:Hid (SS S W g st):=h;clear h hz hns
 go_enter Tryz.func129,Tryz.ntmps129
 go_wp2_with (go_at_call 161;refine (H0.out _ _ HS.out).mono ?_;rintro r0 w0 ⟨rfl,m0⟩;have M0:=show Hid (Mv S g W w0 (st.aw .S)) from m0;clear m0)
 go_end0
 exact ⟨rfl,M0.out⟩
theorem BH {S:Nat->Prop}(h:SS S W g st) (hns:st.ns≠[]) (hz:Bz 999999990 st) :
  Ra 196 #[bV g] W fun r w'=>r=.returned (.tuple #[])/\Mv S g W w' (st.aws Fx.break1.pz):=by
 have H0:Hid (∀S V,SS S V g st->Ra 161 #[bV g,.agg #[.int .u8 3,.string ⟨#[]⟩,.int .i64 1,.int .i64 0,.bool false]] V fun r w'=>r=.returned (.tuple #[])/\Mv S g V w' (st.aw .B1)):=fun S V hS=>me hS .B1 ⟨rfl,by decide⟩ (hz.mono (by omega)) (.inr trivial)
 have HE:Hid (st.aws Fx.break1.pz=(st.aw .B1)):=rfl;have HS:Hid (SS S W g st):=h;clear h hz hns
 go_enter Tryz.func196,Tryz.ntmps196
 go_wp2_with (first|(go_at_call 161;refine (H0.out _ _ HS.out).mono ?_;rintro r0 w0 ⟨rfl,m0⟩;obtain ⟨S0,t0,u0⟩:=Mv.seq m0;have T0:=show Hid (SS S0 w0 g (st.aw .B1)) from t0;have U0:=show Hid (∀W2 st2,Mv S0 g w0 W2 st2->Mv S g W W2 st2) from u0;have M0:=show Hid (Mv S g W w0 (st.aw .B1)) from m0;clear t0 u0 m0))
 go_end0
 rw [HE.out];exact ⟨rfl,M0.out⟩
theorem xJ {S:Nat->Prop}(h:SS S W g st) (hns:st.ns≠[]) (hz:Bz 999999999 st) :
  Ra 196 #[bV g] W fun r w'=>r=.returned (.tuple #[])/\Mv S g W w' (st.aw .B1):=by
 have H0:Hid (∀S V,SS S V g st->Ra 161 #[bV g,.agg #[.int .u8 3,.string ⟨#[]⟩,.int .i64 1,.int .i64 0,.bool false]] V fun r w'=>r=.returned (.tuple #[])/\Mv S g V w' (st.aw .B1)):=fun S V hS=>me hS .B1 ⟨rfl,by decide⟩ (hz.mono (by omega)) (.inr trivial)
 have HS:Hid (SS S W g st):=h;clear h hz hns
 go_enter Tryz.func196,Tryz.ntmps196
 go_wp2_with (go_at_call 161;refine (H0.out _ _ HS.out).mono ?_;rintro r0 w0 ⟨rfl,m0⟩;have M0:=show Hid (Mv S g W w0 (st.aw .B1)) from m0;clear m0)
 go_end0
 exact ⟨rfl,M0.out⟩
theorem Jw {S:Nat->Prop}(h:SS S W g st) (hns:st.ns≠[]) (hz:Bz 999999990 st) :
  Ra 124 #[bV g] W fun r w'=>r=.returned (.tuple #[])/\Mv S g W w' (st.aws Fx.hard.pz):=by
 have H0:Hid (∀S V,SS S V g st->Ra 161 #[bV g,.agg #[.int .u8 4,.string ⟨#[]⟩,.int .i64 0,.int .i64 0,.bool false]] V fun r w'=>r=.returned (.tuple #[])/\Mv S g V w' (st.aw .H)):=fun S V hS=>me hS .H ⟨rfl,by decide⟩ (hz.mono (by omega)) (.inr trivial)
 have HE:Hid (st.aws Fx.hard.pz=(st.aw .H)):=rfl;have HS:Hid (SS S W g st):=h;clear h hz hns
 go_enter Tryz.func124,Tryz.ntmps124
 go_wp2_with (first|(go_at_call 161;refine (H0.out _ _ HS.out).mono ?_;rintro r0 w0 ⟨rfl,m0⟩;obtain ⟨S0,t0,u0⟩:=Mv.seq m0;have T0:=show Hid (SS S0 w0 g (st.aw .H)) from t0;have U0:=show Hid (∀W2 st2,Mv S0 g w0 W2 st2->Mv S g W W2 st2) from u0;have M0:=show Hid (Mv S g W w0 (st.aw .H)) from m0;clear t0 u0 m0))
 go_end0
 rw [HE.out];exact ⟨rfl,M0.out⟩
theorem py {S:Nat->Prop}(h:SS S W g st) (hns:st.ns≠[]) (hz:Bz 999999999 st) :
  Ra 124 #[bV g] W fun r w'=>r=.returned (.tuple #[])/\Mv S g W w' (st.aw .H):=by
 have H0:Hid (∀S V,SS S V g st->Ra 161 #[bV g,.agg #[.int .u8 4,.string ⟨#[]⟩,.int .i64 0,.int .i64 0,.bool false]] V fun r w'=>r=.returned (.tuple #[])/\Mv S g V w' (st.aw .H)):=fun S V hS=>me hS .H ⟨rfl,by decide⟩ (hz.mono (by omega)) (.inr trivial)
 have HS:Hid (SS S W g st):=h;clear h hz hns
 go_enter Tryz.func124,Tryz.ntmps124
 go_wp2_with (go_at_call 161;refine (H0.out _ _ HS.out).mono ?_;rintro r0 w0 ⟨rfl,m0⟩;have M0:=show Hid (Mv S g W w0 (st.aw .H)) from m0;clear m0)
 go_end0
 exact ⟨rfl,M0.out⟩
theorem Jy {S:Nat->Prop}(h:SS S W g st) (hns:st.ns≠[]) (hz:Bz 999999990 st) :
  Ra 197 #[bV g] W fun r w'=>r=.returned (.tuple #[])/\Mv S g W w' (st.aws Fx.fend.pz):=by
 have H0:Hid (∀S V,SS S V g st->Ra 123 #[bV g] V fun r w'=>r=.returned (.tuple #[])/\Mv S g V w' (st.aw .X)):=fun S V hS=>nP hS hns (hz.mono (by omega))
 have HE:Hid (st.aws Fx.fend.pz=(st.aw .X)):=rfl;have HS:Hid (SS S W g st):=h;clear h hz hns
 go_enter Tryz.func197,Tryz.ntmps197
 go_wp2_with (first|(go_at_call 123;refine (H0.out _ _ HS.out).mono ?_;rintro r0 w0 ⟨rfl,m0⟩;obtain ⟨S0,t0,u0⟩:=Mv.seq m0;have T0:=show Hid (SS S0 w0 g (st.aw .X)) from t0;have U0:=show Hid (∀W2 st2,Mv S0 g w0 W2 st2->Mv S g W W2 st2) from u0;have M0:=show Hid (Mv S g W w0 (st.aw .X)) from m0;clear t0 u0 m0))
 go_end0
 rw [HE.out];exact ⟨rfl,M0.out⟩
theorem MI {S:Nat->Prop}(h:SS S W g st) (hns:st.ns≠[]) (hz:Bz 999999990 st) :
  Ra 201 #[bV g] W fun r w'=>r=.returned (.tuple #[])/\Mv S g W w' (st.aws Fx.in1.pz):=by
 have H0:Hid (∀S V,SS S V g st->Ra 122 #[bV g,.int .i64 1,.bool false] V fun r w'=>r=.returned (.tuple #[])/\Mv S g V w' (st.aw (.I 1))):=fun S V hS=>eI hS (.I 1) ⟨rfl,rfl⟩ hns (by have:=(hz).1;omega) (by have:=(hz).2.1;omega) (fun n hn=>by have:=(hz).2.2 n hn;omega)
 have HE:Hid (st.aws Fx.in1.pz=(st.aw (.I 1))):=rfl;have HS:Hid (SS S W g st):=h;clear h hz hns
 go_enter Tryz.func201,Tryz.ntmps201
 go_wp2_with (first|(go_at_call 122;refine (H0.out _ _ HS.out).mono ?_;rintro r0 w0 ⟨rfl,m0⟩;obtain ⟨S0,t0,u0⟩:=Mv.seq m0;have T0:=show Hid (SS S0 w0 g (st.aw (.I 1))) from t0;have U0:=show Hid (∀W2 st2,Mv S0 g w0 W2 st2->Mv S g W W2 st2) from u0;have M0:=show Hid (Mv S g W w0 (st.aw (.I 1))) from m0;clear t0 u0 m0))
 go_end0
 rw [HE.out];exact ⟨rfl,M0.out⟩
theorem MH {S:Nat->Prop}(h:SS S W g st) (hns:st.ns≠[]) (hz:Bz 999999990 st) :
  Ra 202 #[bV g] W fun r w'=>r=.returned (.tuple #[])/\Mv S g W w' (st.aws Fx.in2.pz):=by
 have H0:Hid (∀S V,SS S V g st->Ra 122 #[bV g,.int .i64 2,.bool false] V fun r w'=>r=.returned (.tuple #[])/\Mv S g V w' (st.aw (.I 2))):=fun S V hS=>eI hS (.I 2) ⟨rfl,rfl⟩ hns (by have:=(hz).1;omega) (by have:=(hz).2.1;omega) (fun n hn=>by have:=(hz).2.2 n hn;omega)
 have HE:Hid (st.aws Fx.in2.pz=(st.aw (.I 2))):=rfl;have HS:Hid (SS S W g st):=h;clear h hz hns
 go_enter Tryz.func202,Tryz.ntmps202
 go_wp2_with (first|(go_at_call 122;refine (H0.out _ _ HS.out).mono ?_;rintro r0 w0 ⟨rfl,m0⟩;obtain ⟨S0,t0,u0⟩:=Mv.seq m0;have T0:=show Hid (SS S0 w0 g (st.aw (.I 2))) from t0;have U0:=show Hid (∀W2 st2,Mv S0 g w0 W2 st2->Mv S g W W2 st2) from u0;have M0:=show Hid (Mv S g W w0 (st.aw (.I 2))) from m0;clear t0 u0 m0))
 go_end0
 rw [HE.out];exact ⟨rfl,M0.out⟩
theorem zE {S:Nat->Prop}(h:SS S W g st) (hns:st.ns≠[]) (hz:Bz 999999999 st) :
  Ra 202 #[bV g] W fun r w'=>r=.returned (.tuple #[])/\Mv S g W w' (st.aw (.I 2)):=by
 have H0:Hid (∀S V,SS S V g st->Ra 122 #[bV g,.int .i64 2,.bool false] V fun r w'=>r=.returned (.tuple #[])/\Mv S g V w' (st.aw (.I 2))):=fun S V hS=>eI hS (.I 2) ⟨rfl,rfl⟩ hns (by have:=hz.1;omega) (by have:=hz.2.1;omega) (fun n hn=>by have:=hz.2.2 n hn;omega)
 have HS:Hid (SS S W g st):=h;clear h hz hns
 go_enter Tryz.func202,Tryz.ntmps202
 go_wp2_with (go_at_call 122;refine (H0.out _ _ HS.out).mono ?_;rintro r0 w0 ⟨rfl,m0⟩;have M0:=show Hid (Mv S g W w0 (st.aw (.I 2))) from m0;clear m0)
 go_end0
 exact ⟨rfl,M0.out⟩
theorem vC {S:Nat->Prop}(h:SS S W g st) (hns:st.ns≠[]) (hz:Bz 999999990 st) :
  Ra 200 #[bV g] W fun r w'=>r=.returned (.tuple #[])/\Mv S g W w' (st.aws Fx.endBlank.pz):=by
 have H0:Hid (∀S V,SS S V g st->Ra 123 #[bV g] V fun r w'=>r=.returned (.tuple #[])/\Mv S g V w' (st.aw .X)):=fun S V hS=>nP hS hns (hz.mono (by omega))
 have H1:Hid (∀S V,SS S V g (st.aw .X)->Ra 129 #[bV g] V fun r w'=>r=.returned (.tuple #[])/\Mv S g V w' ((st.aw .X).aw (.S))):=fun S V hS=>jr hS (mF hns .X) ((hz.aw .X).mono (by omega))
 have HE:Hid (st.aws Fx.endBlank.pz=((st.aw .X).aw (.S))):=rfl;have HS:Hid (SS S W g st):=h;clear h hz hns
 go_enter Tryz.func200,Tryz.ntmps200
 go_wp2_with (first|(go_at_call 129;refine (H1.out _ _ T0.out).mono ?_;rintro r1 w1 ⟨rfl,m1⟩;have M1:=show Hid (Mv S0 g w0 w1 ((st.aw .X).aw (.S))) from m1;clear m1)|(go_at_call 123;refine (H0.out _ _ HS.out).mono ?_;rintro r0 w0 ⟨rfl,m0⟩;obtain ⟨S0,t0,u0⟩:=Mv.seq m0;have T0:=show Hid (SS S0 w0 g (st.aw .X)) from t0;have U0:=show Hid (∀W2 st2,Mv S0 g w0 W2 st2->Mv S g W W2 st2) from u0;have M0:=show Hid (Mv S g W w0 (st.aw .X)) from m0;clear t0 u0 m0))
 go_end0
 rw [HE.out];exact ⟨rfl,U0.out _ _ M1.out⟩
theorem xI {S:Nat->Prop}(h:SS S W g st) (hns:st.ns≠[]) (hz:Bz 999999990 st) :
  Ra 194 #[bV g] W fun r w'=>r=.returned (.tuple #[])/\Mv S g W w' (st.aws Fx.endHard.pz):=by
 have H0:Hid (∀S V,SS S V g st->Ra 123 #[bV g] V fun r w'=>r=.returned (.tuple #[])/\Mv S g V w' (st.aw .X)):=fun S V hS=>nP hS hns (hz.mono (by omega))
 have H1:Hid (∀S V,SS S V g (st.aw .X)->Ra 124 #[bV g] V fun r w'=>r=.returned (.tuple #[])/\Mv S g V w' ((st.aw .X).aw (.H))):=fun S V hS=>py hS (mF hns .X) ((hz.aw .X).mono (by omega))
 have HE:Hid (st.aws Fx.endHard.pz=((st.aw .X).aw (.H))):=rfl;have HS:Hid (SS S W g st):=h;clear h hz hns
 go_enter Tryz.func194,Tryz.ntmps194
 go_wp2_with (first|(go_at_call 124;refine (H1.out _ _ T0.out).mono ?_;rintro r1 w1 ⟨rfl,m1⟩;have M1:=show Hid (Mv S0 g w0 w1 ((st.aw .X).aw (.H))) from m1;clear m1)|(go_at_call 123;refine (H0.out _ _ HS.out).mono ?_;rintro r0 w0 ⟨rfl,m0⟩;obtain ⟨S0,t0,u0⟩:=Mv.seq m0;have T0:=show Hid (SS S0 w0 g (st.aw .X)) from t0;have U0:=show Hid (∀W2 st2,Mv S0 g w0 W2 st2->Mv S g W W2 st2) from u0;have M0:=show Hid (Mv S g W w0 (st.aw .X)) from m0;clear t0 u0 m0))
 go_end0
 rw [HE.out];exact ⟨rfl,U0.out _ _ M1.out⟩
theorem sN {S:Nat->Prop}(h:SS S W g st) (hns:st.ns≠[]) (hz:Bz 999999990 st) :
  Ra 199 #[bV g] W fun r w'=>r=.returned (.tuple #[])/\Mv S g W w' (st.aws Fx.in2Break0.pz):=by
 have H0:Hid (∀S V,SS S V g st->Ra 202 #[bV g] V fun r w'=>r=.returned (.tuple #[])/\Mv S g V w' (st.aw (.I 2))):=fun S V hS=>zE hS hns (hz.mono (by omega))
 have H1:Hid (∀S V,SS S V g (st.aw (.I 2))->Ra 161 #[bV g,.agg #[.int .u8 3,.string ⟨#[]⟩,.int .i64 0,.int .i64 0,.bool false]] V fun r w'=>r=.returned (.tuple #[])/\Mv S g V w' ((st.aw (.I 2)).aw .B0)):=fun S V hS=>me hS .B0 ⟨rfl,by decide⟩ ((hz.aw (.I 2)).mono (by omega)) (.inr trivial)
 have HE:Hid (st.aws Fx.in2Break0.pz=((st.aw (.I 2)).aw .B0)):=rfl;have HS:Hid (SS S W g st):=h;clear h hz hns
 go_enter Tryz.func199,Tryz.ntmps199
 go_wp2_with (first|(go_at_call 161;refine (H1.out _ _ T0.out).mono ?_;rintro r1 w1 ⟨rfl,m1⟩;have M1:=show Hid (Mv S0 g w0 w1 ((st.aw (.I 2)).aw .B0)) from m1;clear m1)|(go_at_call 202;refine (H0.out _ _ HS.out).mono ?_;rintro r0 w0 ⟨rfl,m0⟩;obtain ⟨S0,t0,u0⟩:=Mv.seq m0;have T0:=show Hid (SS S0 w0 g (st.aw (.I 2))) from t0;have U0:=show Hid (∀W2 st2,Mv S0 g w0 W2 st2->Mv S g W W2 st2) from u0;have M0:=show Hid (Mv S g W w0 (st.aw (.I 2))) from m0;clear t0 u0 m0))
 go_end0
 rw [HE.out];exact ⟨rfl,U0.out _ _ M1.out⟩
theorem sM {S:Nat->Prop}(h:SS S W g st) (hns:st.ns≠[]) (hz:Bz 999999990 st) :
  Ra 198 #[bV g] W fun r w'=>r=.returned (.tuple #[])/\Mv S g W w' (st.aws Fx.in2Break1.pz):=by
 have H0:Hid (∀S V,SS S V g st->Ra 202 #[bV g] V fun r w'=>r=.returned (.tuple #[])/\Mv S g V w' (st.aw (.I 2))):=fun S V hS=>zE hS hns (hz.mono (by omega))
 have H1:Hid (∀S V,SS S V g (st.aw (.I 2))->Ra 196 #[bV g] V fun r w'=>r=.returned (.tuple #[])/\Mv S g V w' ((st.aw (.I 2)).aw (.B1))):=fun S V hS=>xJ hS (mF hns (.I 2)) ((hz.aw (.I 2)).mono (by omega))
 have HE:Hid (st.aws Fx.in2Break1.pz=((st.aw (.I 2)).aw (.B1))):=rfl;have HS:Hid (SS S W g st):=h;clear h hz hns
 go_enter Tryz.func198,Tryz.ntmps198
 go_wp2_with (first|(go_at_call 196;refine (H1.out _ _ T0.out).mono ?_;rintro r1 w1 ⟨rfl,m1⟩;have M1:=show Hid (Mv S0 g w0 w1 ((st.aw (.I 2)).aw (.B1))) from m1;clear m1)|(go_at_call 202;refine (H0.out _ _ HS.out).mono ?_;rintro r0 w0 ⟨rfl,m0⟩;obtain ⟨S0,t0,u0⟩:=Mv.seq m0;have T0:=show Hid (SS S0 w0 g (st.aw (.I 2))) from t0;have U0:=show Hid (∀W2 st2,Mv S0 g w0 W2 st2->Mv S g W W2 st2) from u0;have M0:=show Hid (Mv S g W w0 (st.aw (.I 2))) from m0;clear t0 u0 m0))
 go_end0
 rw [HE.out];exact ⟨rfl,U0.out _ _ M1.out⟩
theorem sP {S:Nat->Prop}(h:SS S W g st) (hns:st.ns≠[]) (hz:Bz 999999990 st) :
  Ra 193 #[bV g] W fun r w'=>r=.returned (.tuple #[])/\Mv S g W w' (st.aws Fx.even2Hard.pz):=by
 have H0:Hid (∀S V,SS S V g st->Ra 122 #[bV g,.int .i64 2,.bool true] V fun r w'=>r=.returned (.tuple #[])/\Mv S g V w' (st.aw (.J))):=fun S V hS=>eI hS (.J) ⟨rfl,rfl⟩ hns (by have:=(hz).1;omega) (by have:=(hz).2.1;omega) (fun n hn=>by have:=(hz).2.2 n hn;omega)
 have H1:Hid (∀S V,SS S V g (st.aw (.J))->Ra 124 #[bV g] V fun r w'=>r=.returned (.tuple #[])/\Mv S g V w' ((st.aw (.J)).aw (.H))):=fun S V hS=>py hS (mF hns (.J)) ((hz.aw (.J)).mono (by omega))
 have HE:Hid (st.aws Fx.even2Hard.pz=((st.aw (.J)).aw (.H))):=rfl;have HS:Hid (SS S W g st):=h;clear h hz hns
 go_enter Tryz.func193,Tryz.ntmps193
 go_wp2_with (first|(go_at_call 124;refine (H1.out _ _ T0.out).mono ?_;rintro r1 w1 ⟨rfl,m1⟩;have M1:=show Hid (Mv S0 g w0 w1 ((st.aw (.J)).aw (.H))) from m1;clear m1)|(go_at_call 122;refine (H0.out _ _ HS.out).mono ?_;rintro r0 w0 ⟨rfl,m0⟩;obtain ⟨S0,t0,u0⟩:=Mv.seq m0;have T0:=show Hid (SS S0 w0 g (st.aw (.J))) from t0;have U0:=show Hid (∀W2 st2,Mv S0 g w0 W2 st2->Mv S g W W2 st2) from u0;have M0:=show Hid (Mv S g W w0 (st.aw (.J))) from m0;clear t0 u0 m0))
 go_end0
 rw [HE.out];exact ⟨rfl,U0.out _ _ M1.out⟩
theorem mw {S:Nat->Prop}(h:SS S W g st) (hns:st.ns≠[]) (hz:Bz 999999990 st) :
  Ra 160 #[bV g] W fun r w'=>r=.returned (.tuple #[])/\Mv S g W w' (st.aws Fx.blankIn3.pz):=by
 have H0:Hid (∀S V,SS S V g st->Ra 129 #[bV g] V fun r w'=>r=.returned (.tuple #[])/\Mv S g V w' (st.aw (.S))):=fun S V hS=>jr hS hns (hz.mono (by omega))
 have H1:Hid (∀S V,SS S V g (st.aw (.S))->Ra 122 #[bV g,.int .i64 3,.bool false] V fun r w'=>r=.returned (.tuple #[])/\Mv S g V w' ((st.aw (.S)).aw (.I 3))):=fun S V hS=>eI hS (.I 3) ⟨rfl,rfl⟩ (mF hns (.S)) (by have:=((hz.aw (.S))).1;omega) (by have:=((hz.aw (.S))).2.1;omega) (fun n hn=>by have:=((hz.aw (.S))).2.2 n hn;omega)
 have HE:Hid (st.aws Fx.blankIn3.pz=((st.aw (.S)).aw (.I 3))):=rfl;have HS:Hid (SS S W g st):=h;clear h hz hns
 go_enter Tryz.func160,Tryz.ntmps160
 go_wp2_with (first|(go_at_call 122;refine (H1.out _ _ T0.out).mono ?_;rintro r1 w1 ⟨rfl,m1⟩;have M1:=show Hid (Mv S0 g w0 w1 ((st.aw (.S)).aw (.I 3))) from m1;clear m1)|(go_at_call 129;refine (H0.out _ _ HS.out).mono ?_;rintro r0 w0 ⟨rfl,m0⟩;obtain ⟨S0,t0,u0⟩:=Mv.seq m0;have T0:=show Hid (SS S0 w0 g (st.aw (.S))) from t0;have U0:=show Hid (∀W2 st2,Mv S0 g w0 W2 st2->Mv S g W W2 st2) from u0;have M0:=show Hid (Mv S g W w0 (st.aw (.S))) from m0;clear t0 u0 m0))
 go_end0
 rw [HE.out];exact ⟨rfl,U0.out _ _ M1.out⟩
theorem vD {S:Nat->Prop}(h:SS S W g st) (hns:st.ns≠[]) (hz:Bz 999999990 st) :
  Ra 195 #[bV g] W fun r w'=>r=.returned (.tuple #[])/\Mv S g W w' (st.aws Fx.blankIn4.pz):=by
 have H0:Hid (∀S V,SS S V g st->Ra 129 #[bV g] V fun r w'=>r=.returned (.tuple #[])/\Mv S g V w' (st.aw (.S))):=fun S V hS=>jr hS hns (hz.mono (by omega))
 have H1:Hid (∀S V,SS S V g (st.aw (.S))->Ra 122 #[bV g,.int .i64 4,.bool false] V fun r w'=>r=.returned (.tuple #[])/\Mv S g V w' ((st.aw (.S)).aw (.I 4))):=fun S V hS=>eI hS (.I 4) ⟨rfl,rfl⟩ (mF hns (.S)) (by have:=((hz.aw (.S))).1;omega) (by have:=((hz.aw (.S))).2.1;omega) (fun n hn=>by have:=((hz.aw (.S))).2.2 n hn;omega)
 have HE:Hid (st.aws Fx.blankIn4.pz=((st.aw (.S)).aw (.I 4))):=rfl;have HS:Hid (SS S W g st):=h;clear h hz hns
 go_enter Tryz.func195,Tryz.ntmps195
 go_wp2_with (first|(go_at_call 122;refine (H1.out _ _ T0.out).mono ?_;rintro r1 w1 ⟨rfl,m1⟩;have M1:=show Hid (Mv S0 g w0 w1 ((st.aw (.S)).aw (.I 4))) from m1;clear m1)|(go_at_call 129;refine (H0.out _ _ HS.out).mono ?_;rintro r0 w0 ⟨rfl,m0⟩;obtain ⟨S0,t0,u0⟩:=Mv.seq m0;have T0:=show Hid (SS S0 w0 g (st.aw (.S))) from t0;have U0:=show Hid (∀W2 st2,Mv S0 g w0 W2 st2->Mv S g W W2 st2) from u0;have M0:=show Hid (Mv S g W w0 (st.aw (.S))) from m0;clear t0 u0 m0))
 go_end0
 rw [HE.out];exact ⟨rfl,U0.out _ _ M1.out⟩
theorem xG {S:Nat->Prop}(h:SS S W g st) :
  Ra 164 #[bV g] W fun r w'=>r=.returned (.tuple #[])/\Mv S g W w' (st.aws Fx.nothing.pz):=by
 have HM:Hid (Mv S g W W (st.aws Fx.nothing.pz)):=Mv.refl h;clear h
 go_enter Tryz.func164,Tryz.ntmps164
 go_wp2_with fail
 go_end0
 exact ⟨rfl,HM.out⟩
def Fx.id:Fx->Nat
 |.nothing=>164
 |.blank=>129
 |.break1=>196
 |.hard=>124
 |.fend=>197
 |.in1=>201
 |.in2=>202
 |.endBlank=>200
 |.endHard=>194
 |.in2Break0=>199
 |.in2Break1=>198
 |.even2Hard=>193
 |.blankIn3=>160
 |.blankIn4=>195
theorem EX (f:Fx) {S:Nat->Prop}{W:World}{g:Nat}{st:Sy}(h:SS S W g st) (hns:st.ns≠[]) (hz:Bz 999999990 st) :
  Ra f.id #[bV g] W fun r w'=>r=.returned (.tuple #[])/\Mv S g W w' (st.aws f.pz):=by
 cases f with
 |nothing=>exact xG h
 |blank=>exact EW h hns hz
 |break1=>exact BH h hns hz
 |hard=>exact Jw h hns hz
 |fend=>exact Jy h hns hz
 |in1=>exact MI h hns hz
 |in2=>exact MH h hns hz
 |endBlank=>exact vC h hns hz
 |endHard=>exact xI h hns hz
 |in2Break0=>exact sN h hns hz
 |in2Break1=>exact sM h hns hz
 |even2Hard=>exact sP h hns hz
 |blankIn3=>exact mw h hns hz
 |blankIn4=>exact vD h hns hz
end Go.Proofs.YtjiepkenkcgkhaaGreatDoor
namespace Go.Proofs.YtjiepkenkcgkhaaGreatDoor
open Go.RowKit
open Lw (Dc bE rt cy dh eZ ij bU aW cg zO ji sF o0 Gy)
theorem AR (c:UInt8) (w:World):Ra 159 #[.int .u8 (c.toNat:Int)] w fun e w'=>e=.returned (.bool (zO c))/\w'=w:=by
 have h1:((c.toNat:Int) == 32)=(c == 32):=by revert c;exact Gy (by decide +kernel)
 have h2:((c.toNat:Int) == 10)=(c == 10):=by revert c;exact Gy (by decide +kernel)
 have e:zO c=((c.toNat:Int) == 32 || (c.toNat:Int) == 10):=by rw [h1,h2];rfl
 rw [e];clear e h1 h2
 generalize (c.toNat:Int)=z
 go_enter Tryz.func159,Tryz.ntmps159
 go_wp2_with fail
 all_goals (go_ret;simp_all)
theorem AH (t:ByteArray) (ht:t.size<=9223372036854775807) (w:World):Ra 118 #[.string t] w fun e w'=>e=.returned (.bool (eZ t))/\w'=w:=by
 by_cases h0:t.size=0
 ·have e0:t=⟨#[]⟩:=by
   apply sF
   exact QZ (by rw [o0];exact h0)
  subst e0
  go_enter Tryz.func118,Tryz.ntmps118
  go_wp2_with fail
  go_ret
  exact ⟨rfl,rfl⟩
 ·have hne:¬t.toList=[]:=by
   rw [Lib.toList_data];intro hl;exact absurd (by have:=o0 t;rw [ji,hl] at this;simpa using this.symm) h0
  by_cases h1:t.size<=65535
  ·have hlt:0<t.size:=by omega
   have hlt2:t.size-1<t.size:=by omega
   have HE:Hid (eZ t=(!zO t[0] && !zO (t[t.size-1]))):=by
    show _=_
    unfold eZ;have a0:(ji t).getD 0 0=t[0]:=(Lib.getD_at t 0 hlt).symm;have a1:(ji t).getD (t.size-1) 0=t[t.size-1]:=(Lib.getD_at t (t.size-1) hlt2).symm;rw [a0,a1];simp [h1,show 1<=t.size by omega]
   go_enter Tryz.func118,Tryz.ntmps118
   go_wp2_with (go_at_call 159;refine (AR _ _).mono ?_;rintro e w1 ⟨rfl,rfl⟩)
   all_goals (go_ret;rw [HE.out];clear HE;refine ⟨?_,rfl⟩;simp_all)
  ·go_enter Tryz.func118,Tryz.ntmps118
   go_wp2_with fail
   go_ret
   refine ⟨?_,rfl⟩;simp [eZ,h1]
theorem vh (d:Dc) (w:World):Ra 166 #[.agg #[.int .u8 d.k,.string d.t,.int .i64 d.b,.int .i64 d.i,.bool d.e]] w fun e w'=>e=.returned (.bool (be d))/\Below w.heap.size w w':=by
 have HQ:Hid (be d=(d.k == 6)):=by show _=_;unfold be;by_cases h:d.k=6 <;> simp [h]
 have HB:Hid (∀o,Rc w (w.alloc o)):=fun o=>(hH _ _).alloc (gt _) _
 go_enter Tryz.func166,Tryz.ntmps166
 go_wp2_with fail
 go_ret
 rw [HQ.out];exact ⟨rfl,HB.out _⟩
theorem EJ (d:Dc) (w:World):Ra 132 #[.agg #[.int .u8 d.k,.string d.t,.int .i64 d.b,.int .i64 d.i,.bool d.e]] w fun e w'=>e=.returned (.bool (bD d))/\Below w.heap.size w w':=by
 have HQ:Hid (bD d=(d.k == 4)):=by show _=_;unfold bD;by_cases h:d.k=4 <;> simp [h]
 have HB:Hid (∀o,Rc w (w.alloc o)):=fun o=>(hH _ _).alloc (gt _) _
 go_enter Tryz.func132,Tryz.ntmps132
 go_wp2_with fail
 go_ret
 rw [HQ.out];exact ⟨rfl,HB.out _⟩
theorem EK (d:Dc) (w:World):Ra 128 #[.agg #[.int .u8 d.k,.string d.t,.int .i64 d.b,.int .i64 d.i,.bool d.e]] w fun e w'=>e=.returned (.bool (bQ d))/\Below w.heap.size w w':=by
 have HB:Hid (∀o,Rc w (w.alloc o)):=fun o=>(hH _ _).alloc (gt _) _
 obtain ⟨k,t,b,i,e⟩:=d
 dsimp only
 by_cases h2:k=2
 ·subst h2
  go_enter Tryz.func128,Tryz.ntmps128
  go_wp2_with fail
  go_ret
  exact ⟨rfl,HB.out _⟩
 ·have q2:(k == 2)=false:=by simpa using h2
  by_cases h4:k=4
  ·subst h4
   go_enter Tryz.func128,Tryz.ntmps128
   go_wp2_with fail
   go_ret
   exact ⟨rfl,HB.out _⟩
  ·have q4:(k == 4)=false:=by simpa using h4
   have HQ:Hid (bQ ⟨k,t,b,i,e⟩=(k == 3 && (t.toList == [] && (b == 1 && (i == 0 && !e))))):=by
    show _=_
    unfold bQ dB;rw [QX h2,QX h4,U6,U6];have ht:=Lw.G5 t;have hE0:bE.toList=[]:=by rw [Lib.toList_data];rfl
    by_cases a1:k=3 <;> by_cases a2:t=bE <;> by_cases a3:b=1 <;> by_cases a4:i=0 <;> cases e <;> simp [a1,a2,a3,a4,ht,hE0]
   clear h2 h4
   go_enter Tryz.func128,Tryz.ntmps128
   go_wp2_with fail
   all_goals (go_ret;rw [HQ.out];refine ⟨?_,HB.out _⟩;simp_all)
theorem EL (t:Tv) (w:World):Ra 119 #[.agg #[.int .u8 t.k,.string t.t,.int .i64 t.a,.int .i64 t.l,.int .i64 t.c,.int .i64 t.f]] w fun e w'=>e=.returned (.bool (decide (t.k=7\/t.k=8)))/\Below w.heap.size w w':=by
 have HB:Hid (∀o,Rc w (w.alloc o)):=fun o=>(hH _ _).alloc (gt _) _
 have HQ:Hid (decide (t.k=7\/t.k=8)=(t.k == 7 || t.k == 8)):=by show _=_;by_cases a:t.k=7 <;> by_cases b:t.k=8 <;> simp [a,b]
 go_enter Tryz.func119,Tryz.ntmps119
 go_wp2_with fail
 all_goals (go_ret;rw [HQ.out];refine ⟨?_,HB.out _⟩;simp_all)
theorem ov (t:Tv) (w:World):Ra 130 #[.agg #[.int .u8 t.k,.string t.t,.int .i64 t.a,.int .i64 t.l,.int .i64 t.c,.int .i64 t.f]] w fun e w'=>e=.returned (.agg #[.int .u8 1,.string t.t,.int .i64 0,.int .i64 0,.bool false])/\Below w.heap.size w w':=by
 obtain ⟨V,e1⟩:∃V,w.alloc (.cells #[.int .u8 t.k,.string t.t,.int .i64 t.a,.int .i64 t.l,.int .i64 t.c,.int .i64 t.f] 51)=V:=⟨_,rfl⟩;have hb:Below w.heap.size w V:=by rw [<-e1];exact (hH _ _).alloc (gt _) _
 have hs:V.heap.size=w.heap.size+1:=by rw [<-e1];show (w.heap.push _).size=_;simp
 have hn:=au V (.cells #[.int .u8 1,.string t.t,.int .i64 0,.int .i64 0,.bool false] 71);rw [hs,<-e1] at hn;have HN:Hid ((V.alloc (.cells #[.int .u8 1,.string t.t,.int .i64 0,.int .i64 0,.bool false] 71))=(V.alloc (.cells #[.int .u8 1,.string t.t,.int .i64 0,.int .i64 0,.bool false] 71))/\∀o,Below w.heap.size w (V.alloc o)):=⟨rfl,fun o=>hb.alloc hb.size _⟩;rw [<-e1] at HN;have m0:=af (k:=0) hn rfl;have m1:=af (k:=1) hn rfl;have m2:=af (k:=2) hn rfl;have m3:=af (k:=3) hn rfl;have m4:=af (k:=4) hn rfl;have HM:Hid _:=And.intro m0 (And.intro m1 (And.intro m2 (And.intro m3 m4)));clear e1 hs hn hb m0 m1 m2 m3 m4
 go_enter Tryz.func130,Tryz.ntmps130
 go_wp2_with fail
 obtain ⟨m0,m1,m2,m3,m4⟩:=HM.out;refine QV (v:=.agg #[.int .u8 1,.string t.t,.int .i64 0,.int .i64 0,.bool false]) (by simp [results,Tryz.f130,go_sem,m0,m1,m2,m3,m4]) rfl ?_;exact ⟨rfl,HN.out.2 _⟩
theorem BG (k:Int) (w:World):Ra 121 #[.int .u8 k] w fun e w'=>e=.returned (.bool (fi k))/\w'=w:=by
 by_cases h:fi k=true
 ·have h2:=Rm h;rw [h]
  rcases h2 with rfl|rfl|rfl|rfl|rfl|rfl|rfl|rfl|rfl|rfl|rfl|rfl
  all_goals (
   go_enter Tryz.func121,Tryz.ntmps121
   go_wp2_with fail
   go_ret
   exact ⟨rfl,rfl⟩)
 ·have h2:¬_:=fun e=>h (QW e)
  rw [Bool.eq_false_iff.2 h];simp only [not_or] at h2;obtain ⟨a1,a2,a3,a4,a5,a6,a7,a8,a9,b1,b2,b3⟩:=h2;have p1:(k == 3)=false:=by simpa using a1
  have p2:(k == 4)=false:=by simpa using a2
  have p3:(k == 5)=false:=by simpa using a3
  have p4:(k == 11)=false:=by simpa using a4
  have p5:(k == 13)=false:=by simpa using a5
  have p6:(k == 14)=false:=by simpa using a6
  have p7:(k == 15)=false:=by simpa using a7
  have p8:(k == 16)=false:=by simpa using a8
  have p9:(k == 17)=false:=by simpa using a9
  have r1:(k == 18)=false:=by simpa using b1
  have r2:(k == 19)=false:=by simpa using b2
  have r3:(k == 20)=false:=by simpa using b3
  clear h a1 a2 a3 a4 a5 a6 a7 a8 a9 b1 b2 b3
  go_enter Tryz.func121,Tryz.ntmps121
  go_wp2_with fail
  go_ret
  exact ⟨rfl,rfl⟩
theorem fG {W:World}{g:Nat}{dn:Bool}(c0:W.cell? ⟨g,0,none⟩=some (.bool dn)):Ra 72 #[bV g] W fun r w'=>r=.returned (.int .i64 (if dn then 4 else 0))/\w'=W:=by
 cases dn
 all_goals (
  go_enter Tryz.func72,Tryz.ntmps72
  go_wp2_with fail
  go_ret
  exact ⟨rfl,rfl⟩)
end Go.Proofs.YtjiepkenkcgkhaaGreatDoor
namespace Go.Proofs.YtjiepkenkcgkhaaGreatDoor
open Go.RowKit
open Lw (Dc bE rt cy dh eZ ij bU aW cg)
variable {w W:World}{l:List Dc}{ao:Option Addr}{α:Type}{g:Nat}{st:Sy}{vn vw:Value}
def Ld (w:World) (ao:Option Addr) (l:List Dc):Prop:=∀j d,l[j]?=some d->∃b off,ao=some ⟨b,off,none⟩ /\
 w.cell? ⟨b,off+j*5,none⟩=some (.int .u8 d.k)/\w.cell? ⟨b,off+j*5+1,none⟩=some (.string d.t)/\w.cell? ⟨b,off+j*5+2,none⟩=some (.int .i64 d.b)/\w.cell? ⟨b,off+j*5+3,none⟩=some (.int .i64 d.i)/\w.cell? ⟨b,off+j*5+4,none⟩=some (.bool d.e)
theorem Ld.kp {S:Nat->Prop}{w w':World}{ao:Option Addr}{l:List Dc}(h:Ld w ao l) (hb:Kp S w w') (hS:∀a,ao=some a->¬S a.block):Ld w' ao l:=by
 intro j a ha;obtain ⟨b,off,h1,c0,c1,c2,c3,c4⟩:=h j a ha;have hlt:=QP _ _ c0;have e:w'.heap[b]?=w.heap[b]?:=hb.block b hlt (hS _ h1);exact ⟨b,off,h1,(QS (a:=⟨b,_,none⟩) e).trans c0,(QS (a:=⟨b,_,none⟩) e).trans c1,(QS (a:=⟨b,_,none⟩) e).trans c2,(QS (a:=⟨b,_,none⟩) e).trans c3,(QS (a:=⟨b,_,none⟩) e).trans c4⟩
theorem Ld.below {w':World}(h:Ld w ao l) (hb:Below w.heap.size w w'):Ld w' ao l:=h.kp (Kp.of_below (S:=fun _=>False) hb) (fun _ _ h=>h)
theorem Ld.take (h:Ld w ao l) (n:Nat):Ld w ao (l.take n):=by
 intro j d hj;rw [RI] at hj
 split at hj
 ·exact h j d hj
 ·cases hj
theorem uC {p:Option Addr}{n cap:Nat}(h:Rd w (.slice p n cap) l):Ld w p l:=by
 intro j d hj
 rcases h.2 with ⟨h1,h0⟩|⟨g,cap',cur,h1,_⟩
 ·have:l=[]:=QZ h0;subst this;simp at hj
 ·cases h1
  have hc:∀(k:Nat) (u:Value),(bU l)[k]?=some u->w.cell? ⟨g,k,none⟩=some u:=fun k u hu=>by
   have:=Tf h (g:=g) rfl k u hu;rw [SE,QU] at this;exact this
  refine ⟨g,0,rfl,?_,?_,?_,?_,?_⟩
  ·rw [QU];exact hc _ _ (aU Dc.cs 5 Lw.Dc.cs_len l j 0 d _ hj rfl)
  ·rw [QU];exact hc _ _ (aU Dc.cs 5 Lw.Dc.cs_len l j 1 d _ hj rfl)
  ·rw [QU];exact hc _ _ (aU Dc.cs 5 Lw.Dc.cs_len l j 2 d _ hj rfl)
  ·rw [QU];exact hc _ _ (aU Dc.cs 5 Lw.Dc.cs_len l j 3 d _ hj rfl)
  ·rw [QU];exact hc _ _ (aU Dc.cs 5 Lw.Dc.cs_len l j 4 d _ hj rfl)
theorem kW (p:α->Bool) (l:List α) (k:Nat) (x:α) (hx:l[k]?=some x) (h:(l.take k).any p=false):(l.take (k+1)).any p=p x:=by
 rw [S5,hx,Rk,h];simp
theorem kV (p:α->Bool) (l:List α) (k:Nat) (h:(l.take k).any p=true):l.any p=true:=by
 rw [Sj] at h ⊢;obtain ⟨x,hx,e⟩:=h;exact ⟨x,Un hx,e⟩
theorem EH (ao:Option Addr) (l:List Dc) (cap:Nat) (W:World) (h:Ld W ao l) (hl:l.length<=1000000000) :
  Ra 205 #[.slice ao l.length cap,.func (.func 166) #[] #[]] W fun r w'=>(∃z:Int,r=.returned (.int .i64 z)/\(decide (0<=z)=l.any be))/\Below W.heap.size W w':=by
 have H:Hid (Ld W ao l):=h;clear h;have HP:Hid (∀(d:Dc) (V:World),Ra 166 #[.agg #[.int .u8 d.k,.string d.t,.int .i64 d.b,.int .i64 d.i,.bool d.e]] V fun e w'=>e=.returned (.bool (be d))/\Rc V w'):=vh
 go_enter Tryz.func205,Tryz.ntmps205
 go_wp2_with fail
 go_loopw [5,8] (fun _ i wr=>∃k:Nat,k<=l.length/\i=.int .i64 k/\Hid ((l.take k).any be=false)/\Hid (Below W.heap.size W wr)) (fun _ i _=>l.length-(intOf i).toNat)
 case atStart=>exact ⟨0,QK _,rfl,by show _=_;simp,hH _ _⟩
 case round=>
  obtain ⟨k,hk,rfl,HI,HB⟩:=hrel
  by_cases hlt:k<l.length
  ·have q1:(k:Int)<l.length:=by omega
   have q0:(0:Int)<=k:=by omega
   obtain ⟨x,hx⟩:∃x,l[k]?=some x:=⟨_,Pi hlt⟩;obtain ⟨b,off,rfl,c0,c1,c2,c3,c4⟩:=(H.out.below HB.out) k x hx;have HS:Hid ((l.take (k+1)).any be=be x):=kW be l k x hx HI.out;have HT:Hid ((l.take (k+1)).any be=true->l.any be=true):=kV be l _;clear hx
   by_cases he:be x=true
   ·go_wp2_with (go_at_call 166;refine (HP.out x _).mono ?_;rintro e w1 ⟨rfl,hb1⟩;rw [he];have HC:Hid (Rc W w1):=HB.out.trans (hb1.mono HB.out.size);clear hb1)
    go_ret
    exact ⟨⟨_,rfl,by rw [HT.out (HS.out.trans he)];simp⟩,HC.out⟩
   ·have he':be x=false:=by simpa using he
    clear he
    go_wp2_with (go_at_call 166;refine (HP.out x _).mono ?_;rintro e w1 ⟨rfl,hb1⟩;rw [he'];have HC:Hid (Rc W w1):=HB.out.trans (hb1.mono HB.out.size);clear hb1)
    exact ⟨⟨k+1,hlt,by go_num,HS.out.trans he',HC⟩,by simp [intOf];omega⟩
  ·obtain rfl:k=l.length:=by omega
   have q1:¬((l.length:Int)<l.length):=by omega
   go_wp2_with fail
   go_ret
   refine ⟨⟨_,rfl,?_⟩,HB.out⟩;have:=HI.out;rw [RQ] at this;rw [this];rfl
theorem FG (ao:Option Addr) (l:List Dc) (cap:Nat) (W:World) (h:Ld W ao l) (hl:l.length<=1000000000) :
  Ra 165 #[.slice ao l.length cap,.func (.func 166) #[] #[]] W fun r w'=>r=.returned (.bool (l.any be))/\Below W.heap.size W w':=by
 have H:Hid (Ra 205 #[.slice ao l.length cap,.func (.func 166) #[] #[]] W fun r w'=>(∃z:Int,r=.returned (.int .i64 z)/\(decide (0<=z)=l.any be))/\Rc W w'):=EH ao l cap W h hl;clear h
 generalize l.any be=b at *
 go_enter Tryz.func165,Tryz.ntmps165
 go_wp2_with (go_at_call 205;refine H.out.mono ?_;rintro r w1 ⟨⟨z,rfl,hz⟩,hb1⟩;have HB:Hid (Rc W w1):=hb1;clear hb1;subst hz)
 go_ret
 exact ⟨by simp,HB.out⟩
theorem EF (ao:Option Addr) (l:List Dc) (cap:Nat) (W:World) (h:Ld W ao l) (hl:l.length<=1000000000) :
  Ra 205 #[.slice ao l.length cap,.func (.func 132) #[] #[]] W fun r w'=>(∃z:Int,r=.returned (.int .i64 z)/\(decide (0<=z)=l.any bD))/\Below W.heap.size W w':=by
 have H:Hid (Ld W ao l):=h;clear h;have HP:Hid (∀(d:Dc) (V:World),Ra 132 #[.agg #[.int .u8 d.k,.string d.t,.int .i64 d.b,.int .i64 d.i,.bool d.e]] V fun e w'=>e=.returned (.bool (bD d))/\Rc V w'):=EJ
 go_enter Tryz.func205,Tryz.ntmps205
 go_wp2_with fail
 go_loopw [5,8] (fun _ i wr=>∃k:Nat,k<=l.length/\i=.int .i64 k/\Hid ((l.take k).any bD=false)/\Hid (Below W.heap.size W wr)) (fun _ i _=>l.length-(intOf i).toNat)
 case atStart=>exact ⟨0,QK _,rfl,by show _=_;simp,hH _ _⟩
 case round=>
  obtain ⟨k,hk,rfl,HI,HB⟩:=hrel
  by_cases hlt:k<l.length
  ·have q1:(k:Int)<l.length:=by omega
   have q0:(0:Int)<=k:=by omega
   obtain ⟨x,hx⟩:∃x,l[k]?=some x:=⟨_,Pi hlt⟩;obtain ⟨b,off,rfl,c0,c1,c2,c3,c4⟩:=(H.out.below HB.out) k x hx;have HS:Hid ((l.take (k+1)).any bD=bD x):=kW bD l k x hx HI.out;have HT:Hid ((l.take (k+1)).any bD=true->l.any bD=true):=kV bD l _;clear hx
   by_cases he:bD x=true
   ·go_wp2_with (go_at_call 132;refine (HP.out x _).mono ?_;rintro e w1 ⟨rfl,hb1⟩;rw [he];have HC:Hid (Rc W w1):=HB.out.trans (hb1.mono HB.out.size);clear hb1)
    go_ret
    exact ⟨⟨_,rfl,by rw [HT.out (HS.out.trans he)];simp⟩,HC.out⟩
   ·have he':bD x=false:=by simpa using he
    clear he
    go_wp2_with (go_at_call 132;refine (HP.out x _).mono ?_;rintro e w1 ⟨rfl,hb1⟩;rw [he'];have HC:Hid (Rc W w1):=HB.out.trans (hb1.mono HB.out.size);clear hb1)
    exact ⟨⟨k+1,hlt,by go_num,HS.out.trans he',HC⟩,by simp [intOf];omega⟩
  ·obtain rfl:k=l.length:=by omega
   have q1:¬((l.length:Int)<l.length):=by omega
   go_wp2_with fail
   go_ret
   refine ⟨⟨_,rfl,?_⟩,HB.out⟩;have:=HI.out;rw [RQ] at this;rw [this];rfl
theorem FE (ao:Option Addr) (l:List Dc) (cap:Nat) (W:World) (h:Ld W ao l) (hl:l.length<=1000000000) :
  Ra 165 #[.slice ao l.length cap,.func (.func 132) #[] #[]] W fun r w'=>r=.returned (.bool (l.any bD))/\Below W.heap.size W w':=by
 have H:Hid (Ra 205 #[.slice ao l.length cap,.func (.func 132) #[] #[]] W fun r w'=>(∃z:Int,r=.returned (.int .i64 z)/\(decide (0<=z)=l.any bD))/\Rc W w'):=EF ao l cap W h hl;clear h
 generalize l.any bD=b at *
 go_enter Tryz.func165,Tryz.ntmps165
 go_wp2_with (go_at_call 205;refine H.out.mono ?_;rintro r w1 ⟨⟨z,rfl,hz⟩,hb1⟩;have HB:Hid (Rc W w1):=hb1;clear hb1;subst hz)
 go_ret
 exact ⟨by simp,HB.out⟩
theorem Cr (h:SV W g st vn vw) (hl:st.ws.length<=1000000000) :
  Ra 127 #[bV g,.func (.func 132) #[] #[]] W fun r w'=>r=.returned (.bool (st.ws.any bD))/\Below W.heap.size W w':=by
 obtain ⟨p,cap,e,_⟩:=bB h.rd;subst e;have H:Hid (Ra 165 #[.slice p st.ws.length cap,.func (.func 132) #[] #[]] W fun r w'=>r=.returned (.bool (st.ws.any bD))/\Rc W w'):=FE p st.ws cap W (uC h.rd) hl;obtain ⟨c0,c1,c2,c3,c4,c5,c6,c7⟩:=h.sb.cells
 generalize st.ws.any bD=b at *
 generalize st.ws.length=n at *
 clear h c0 c1 c3 c4 c5 c6 c7
 go_enter Tryz.func127,Tryz.ntmps127
 go_wp2_with (go_at_call 165;refine H.out.mono ?_;rintro r w1 ⟨rfl,hb1⟩;have HB:Hid (Rc W w1):=hb1;clear hb1)
 go_ret
 exact ⟨rfl,HB.out⟩
theorem EG (ao:Option Addr) (l:List Dc) (cap:Nat) (W:World) (h:Ld W ao l) (hl:l.length<=1000000000) :
  Ra 205 #[.slice ao l.length cap,.func (.func 128) #[] #[]] W fun r w'=>(∃z:Int,r=.returned (.int .i64 z)/\(decide (0<=z)=l.any bQ))/\Below W.heap.size W w':=by
 have H:Hid (Ld W ao l):=h;clear h;have HP:Hid (∀(d:Dc) (V:World),Ra 128 #[.agg #[.int .u8 d.k,.string d.t,.int .i64 d.b,.int .i64 d.i,.bool d.e]] V fun e w'=>e=.returned (.bool (bQ d))/\Rc V w'):=EK
 go_enter Tryz.func205,Tryz.ntmps205
 go_wp2_with fail
 go_loopw [5,8] (fun _ i wr=>∃k:Nat,k<=l.length/\i=.int .i64 k/\Hid ((l.take k).any bQ=false)/\Hid (Below W.heap.size W wr)) (fun _ i _=>l.length-(intOf i).toNat)
 case atStart=>exact ⟨0,QK _,rfl,by show _=_;simp,hH _ _⟩
 case round=>
  obtain ⟨k,hk,rfl,HI,HB⟩:=hrel
  by_cases hlt:k<l.length
  ·have q1:(k:Int)<l.length:=by omega
   have q0:(0:Int)<=k:=by omega
   obtain ⟨x,hx⟩:∃x,l[k]?=some x:=⟨_,Pi hlt⟩;obtain ⟨b,off,rfl,c0,c1,c2,c3,c4⟩:=(H.out.below HB.out) k x hx;have HS:Hid ((l.take (k+1)).any bQ=bQ x):=kW bQ l k x hx HI.out;have HT:Hid ((l.take (k+1)).any bQ=true->l.any bQ=true):=kV bQ l _;clear hx
   by_cases he:bQ x=true
   ·go_wp2_with (go_at_call 128;refine (HP.out x _).mono ?_;rintro e w1 ⟨rfl,hb1⟩;rw [he];have HC:Hid (Rc W w1):=HB.out.trans (hb1.mono HB.out.size);clear hb1)
    go_ret
    exact ⟨⟨_,rfl,by rw [HT.out (HS.out.trans he)];simp⟩,HC.out⟩
   ·have he':bQ x=false:=by simpa using he
    clear he
    go_wp2_with (go_at_call 128;refine (HP.out x _).mono ?_;rintro e w1 ⟨rfl,hb1⟩;rw [he'];have HC:Hid (Rc W w1):=HB.out.trans (hb1.mono HB.out.size);clear hb1)
    exact ⟨⟨k+1,hlt,by go_num,HS.out.trans he',HC⟩,by simp [intOf];omega⟩
  ·obtain rfl:k=l.length:=by omega
   have q1:¬((l.length:Int)<l.length):=by omega
   go_wp2_with fail
   go_ret
   refine ⟨⟨_,rfl,?_⟩,HB.out⟩;have:=HI.out;rw [RQ] at this;rw [this];rfl
theorem FF (ao:Option Addr) (l:List Dc) (cap:Nat) (W:World) (h:Ld W ao l) (hl:l.length<=1000000000) :
  Ra 165 #[.slice ao l.length cap,.func (.func 128) #[] #[]] W fun r w'=>r=.returned (.bool (l.any bQ))/\Below W.heap.size W w':=by
 have H:Hid (Ra 205 #[.slice ao l.length cap,.func (.func 128) #[] #[]] W fun r w'=>(∃z:Int,r=.returned (.int .i64 z)/\(decide (0<=z)=l.any bQ))/\Rc W w'):=EG ao l cap W h hl;clear h
 generalize l.any bQ=b at *
 go_enter Tryz.func165,Tryz.ntmps165
 go_wp2_with (go_at_call 205;refine H.out.mono ?_;rintro r w1 ⟨⟨z,rfl,hz⟩,hb1⟩;have HB:Hid (Rc W w1):=hb1;clear hb1;subst hz)
 go_ret
 exact ⟨by simp,HB.out⟩
theorem Cs (h:SV W g st vn vw) (hl:st.ws.length<=1000000000) :
  Ra 127 #[bV g,.func (.func 128) #[] #[]] W fun r w'=>r=.returned (.bool (st.ws.any bQ))/\Below W.heap.size W w':=by
 obtain ⟨p,cap,e,_⟩:=bB h.rd;subst e;have H:Hid (Ra 165 #[.slice p st.ws.length cap,.func (.func 128) #[] #[]] W fun r w'=>r=.returned (.bool (st.ws.any bQ))/\Rc W w'):=FF p st.ws cap W (uC h.rd) hl;obtain ⟨c0,c1,c2,c3,c4,c5,c6,c7⟩:=h.sb.cells
 generalize st.ws.any bQ=b at *
 generalize st.ws.length=n at *
 clear h c0 c1 c3 c4 c5 c6 c7
 go_enter Tryz.func127,Tryz.ntmps127
 go_wp2_with (go_at_call 165;refine H.out.mono ?_;rintro r w1 ⟨rfl,hb1⟩;have HB:Hid (Rc W w1):=hb1;clear hb1)
 go_ret
 exact ⟨rfl,HB.out⟩
end Go.Proofs.YtjiepkenkcgkhaaGreatDoor
