import Derived.Test.YtcjiapphbpiffaaGreatDoorM29
set_option linter.unusedVariables false
set_option linter.unusedSimpArgs false
set_option maxHeartbeats 1000000
namespace Go.Proofs.YtcjiapphbpiffaaGreatDoor
open Go.RowKit
open Lw (Dc bE rt cG dD fu iC bZ aX cy)
variable {st:Sy}{W:World}{g n:Nat}
def Bz (n:Nat) (st:Sy):Prop:=st.ws.length<=n/\st.ns.length<=n/\∀x∈st.ns,x.b<=n
theorem Bz.mono {m:Nat}(h:Bz n st) (F:n<=m):Bz m st:=⟨by have:=h.1;omega,by have:=h.2.1;omega,fun x C=>by have:=h.2.2 x C;omega⟩
theorem oy (p:Pz) (l:List Nd):(iw p l).length=l.length:=by cases l <;> rfl
theorem gN (p:Pz) (l:List Nd):(jN p l).length<=1:=by unfold jN;split <;> simp
theorem Bz.aw (h:Bz n st) (p:Pz):Bz (n+1) (st.aw p):=by
 obtain ⟨I,J,F⟩:=h;refine ⟨?_,?_,?_⟩
 ·show (st.ws++jN p st.ns).length<=_
  have:=gN p st.ns;rw [Or];omega
 ·show (iw p st.ns).length<=_
  rw [oy];omega
 ·intro x H;have C:x∈iw p st.ns:=H;cases G:st.ns with
  |nil=>rw [G] at C;simp [iw] at C
  |cons m r=>
   rw [G] at C F;simp only [iw,Tt] at C;have M:=F m S4;have O:p.n<=1:=by cases p <;> simp [Pz.n]
   rcases C with rfl|C
   ·split
    ·show m.b-1<=_;omega
    ·show m.b+p.n<=_;omega
   ·have:=F x (SZ _ C);omega
theorem mY (h:st.ns≠[]) (p:Pz):(st.aw p).ns≠[]:=by
 intro e;have:(iw p st.ns).length=0:=by rw [show iw p st.ns=[] from e];rfl
 rw [oy] at this;exact h (Tl this)
theorem Mv.seq {S:Nat->Prop}{W1:World}(h:Mv S g W W1 st):∃F,SS F W1 g st/\∀G C,Mv F g W1 G C->Mv S g W G C:=by
 obtain ⟨⟨F,Q,J⟩,I,M⟩:=h;refine ⟨F,Q,?_⟩;rintro G C ⟨⟨S2,t1,t2⟩,hk2,hc2⟩;refine ⟨⟨S2,t1,fun k H=>?_⟩,I.step hk2 (fun k U O=>?_),hc2.trans M⟩
 ·rcases t2 k H with a|a
  ·exact J k a
  ·exact .inr (SY I.size a)
 ·rcases J k O with a|a
  ·exact a
  ·omega
theorem ou {S:Nat->Prop}(h:SS S W g st) (M:st.ns≠[]) (Z:Bz 1000000000 st) :
  Ta 128 #[cd g] W fun r w'=>r=.returned (.tuple #[])/\Mv S g W w' (st.aw .X):=by
 obtain ⟨vn,vw,O,s1,s2⟩:=h.ex
 obtain ⟨n,r,en⟩:∃n r,st.ns=n :: r:=by
  cases hc:st.ns with
  |nil=>exact absurd hc M
  |cons n r=>exact ⟨n,r,rfl⟩
 have G:=O.rn;rw [en] at G;obtain ⟨b,cap,rfl,ae,af⟩:=nI G;have H:=Z.2.1;rw [en] at H;have HI:Hid (Ta 122 #[cd g] W fun r' w'=>r'=.returned (.pointer (some ⟨b,r.length*3,none⟩))/\Tb W w'):=gh O.sb.cells.2.1 (by simp at H;omega);have aa:n.b<=1000000000:=Z.2.2 n (by rw [en];exact S4);have eN:iw .X st.ns=⟨n.k,n.b-1,n.s⟩ :: r:=by rw [en];rfl
 have ac:=h.sg
 have HV:Hid (∀V,Tb W V->SV V g st (.slice (some ⟨b,0,none⟩) (r.length+1) cap) vw/\V.cell? ⟨b,r.length*3+1,none⟩=some (.int .i64 n.b)):=fun V J=>by
  have Q:=O.below J;refine ⟨Q,?_⟩;have U:=Q.rn;rw [en] at U;exact (kJ U).2.1
 by_cases I:n.b=0
 ·have Y:jN .X st.ns=[]:=by unfold jN;rw [en];simp [I]
  have HX:Hid (∀V,Tb W V->Mv S g W V (st.aw .X)):=fun V J=>by
   have e9:st.aw .X=st:=by
    unfold Sy.aw;rw [eN,Y,TG,I];have:(⟨n.k,0-1,n.s⟩:Nd)=n:=by cases n;simp at I;subst I;rfl
    rw [this,<-en]
   rw [e9];exact Mv.quiet h J
  rw [I] at HV;clear O G h s1 s2 eN Y Z H aa en M I
  go_enter Tryz.func128,Tryz.ntmps128
  go_wp2_with (go_at_call 122;refine HI.out.mono ?_;rintro r2 F ⟨rfl,C⟩;have x1:=(HV.out _ C).2;have HM:=show Hid (Mv S g W F (st.aw .X)) from HX.out _ C;clear C)
  go_end0
  exact ⟨rfl,HM.out⟩
 ·have Y:jN .X st.ns=[dX]:=by unfold jN;rw [en];simp [I,Pz.d]
  have q0:decide ((0:Int)<(n.b:Int))=true:=by simp;omega
  have q1:(0:Int)<(n.b:Int):=by omega
  have q2:IntKind.i64.wrap ((n.b:Int)-1)=((n.b-1:Nat):Int):=by rw [TJ];omega
  have HW:Hid (∀V,Tb W V->Ta 165 #[cd g,.agg #[.int .u8 7,.string ⟨#[]⟩,.int .i64 0,.int .i64 0,.bool false]] V fun rr w'=>rr=.returned (.tuple #[])/\WP V w' g st (.slice (some ⟨b,0,none⟩) (r.length+1) cap) vw (st.ws++[dX])):=fun V J=>oH (HV.out V J).1 dX Z.1
  have HE:Hid (∀V F,Tb W V->WP V F g st (.slice (some ⟨b,0,none⟩) (r.length+1) cap) vw (st.ws++[dX])->(F.cell? ⟨b,r.length*3+1,none⟩=some (.int .i64 n.b)/\F.frozen? ⟨b,r.length*3+1,none⟩=false)/\Mv S g W (F.setCell ⟨b,r.length*3+1,none⟩ (.int .i64 ((n.b-1:Nat):Int))) (st.aw .X)):=fun V F J ab=>by
   obtain ⟨ag,Q,a2⟩:=ab.ex;have U:Rn tN F (.slice (some ⟨b,0,none⟩) (r.length+1) cap) (n :: r):=by have:=Q.rn;rw [show ({ st with ws:=st.ws++[dX] }:Sy).ns=n :: r from en] at this;exact this
   refine ⟨⟨(kJ U).2.1,VN U _⟩,?_⟩;have a5:=SV.nd (n:=n) (m:=⟨n.k,n.b-1,n.s⟩) (show ({ st with ws:=st.ws++[dX] }:Sy).ns=n :: r from en) Q 1 (.int .i64 ((n.b-1:Nat):Int)) (by omega) rfl;have e9:({ ({ st with ws:=st.ws++[dX] }:Sy) with ns:=⟨n.k,n.b-1,n.s⟩ :: r }:Sy)=st.aw .X:=by unfold Sy.aw;rw [eN,Y]
   rw [e9] at a5;have hk:Kp S W (F.setCell ⟨b,r.length*3+1,none⟩ (.int .i64 ((n.b-1:Nat):Int))):=(((Kp.of_below J).step (ab.kp.sub (S:=S) (by rintro k (e|e);rw [e];exact ac;exact s2 k e)) (fun _ _ h=>h)).step (Kp.set _ _ _ _) (fun k _ e=>by rw [e];exact s1 b rfl));refine Mv.mk' a5 ac (fun k e=>.inl (s1 k e)) (fun k e=>?_) hk O.sb.cells.2.1
   rcases a2 with a2|⟨q,hq,ad⟩
   ·exact .inl (s2 k (by rw [<-a2];exact e))
   ·rw [hq] at e;cases e;exact .inr (SY J.size ad)
  clear O G h s1 s2 eN Y Z H aa en M I
  go_enter Tryz.func128,Tryz.ntmps128
  go_wp2_with (first|(go_at_call 122;refine HI.out.mono ?_;rintro r2 F ⟨rfl,C⟩;have x1:=(HV.out _ C).2;have HB:=show Hid (Below W.heap.size W F) from C;clear C)|(go_at_call 165;refine (HW.out _ HB.out).mono ?_;rintro r3 w3 ⟨rfl,hp3⟩;obtain ⟨⟨y1,y2⟩,y3⟩:=HE.out _ _ HB.out hp3;have HX:=ai y3;clear y3 hp3))
  go_end0
  exact ⟨rfl,HX.out⟩
theorem mJ {S:Nat->Prop}(h:SS S W g st) (p:Pz) (C:p.n=0/\p≠.X) (H:Bz 1000000000 st) (M:st.ns≠[]\/True) :
  Ta 165 #[cd g,.agg #[.int .u8 p.d.k,.string p.d.t,.int .i64 p.d.b,.int .i64 p.d.i,.bool p.d.e]] W fun r w'=>r=.returned (.tuple #[])/\Mv S g W w' (st.aw p):=by
 obtain ⟨vn,vw,F,I,J⟩:=h.ex;refine (oH F p.d H.1).mono ?_;rintro r w' ⟨rfl,hp1⟩;refine ⟨rfl,?_⟩;have:=hp1.mv F h.sg I J
 have e:({ st with ws:=st.ws++[p.d] }:Sy)=st.aw p:=by
  have eN:iw p st.ns=st.ns:=by
   cases st.ns with
   |nil=>rfl
   |cons n r=>simp only [iw];rw [Eq C.2,C.1];rfl
  have G:jN p st.ns=[p.d]:=by unfold jN;rw [Eq (fun h=>C.2 h.1)]
  unfold Sy.aw;rw [eN,G]
 rw [e] at this;exact this
theorem Gp {S:Nat->Prop}(h:SS S W g st) (G:st.ns≠[]) (I:Bz 999999990 st) :
  Ta 134 #[cd g] W fun r w'=>r=.returned (.tuple #[])/\Mv S g W w' (st.aws Fx.blank.pz):=by
 have J:Hid (∀S V,SS S V g st->Ta 165 #[cd g,.agg #[.int .u8 2,.string ⟨#[]⟩,.int .i64 0,.int .i64 0,.bool false]] V fun r w'=>r=.returned (.tuple #[])/\Mv S g V w' (st.aw .S)):=fun S V U=>mJ U .S ⟨rfl,by decide⟩ (I.mono (by omega)) (.inr trivial)
 have M:Hid (st.aws Fx.blank.pz=(st.aw .S)):=rfl;have O:Hid (SS S W g st):=h;clear h I G
 go_enter Tryz.func134,Tryz.ntmps134
 go_wp2_with (first|(go_at_call 165;refine (J.out _ _ O.out).mono ?_;rintro r0 w0 ⟨rfl,F⟩;obtain ⟨S0,t0,u0⟩:=Mv.seq F;have Y:=show Hid (SS S0 w0 g (st.aw .S)) from t0;have Z:=show Hid (∀H C,Mv S0 g w0 H C->Mv S g W H C) from u0;have Q:=show Hid (Mv S g W w0 (st.aw .S)) from F;clear t0 u0 F))
 go_end0
 rw [M.out];exact ⟨rfl,Q.out⟩
theorem jE {S:Nat->Prop}(h:SS S W g st) (C:st.ns≠[]) (F:Bz 999999999 st) :
  Ta 134 #[cd g] W fun r w'=>r=.returned (.tuple #[])/\Mv S g W w' (st.aw .S):=by
 have H:Hid (∀S V,SS S V g st->Ta 165 #[cd g,.agg #[.int .u8 2,.string ⟨#[]⟩,.int .i64 0,.int .i64 0,.bool false]] V fun r w'=>r=.returned (.tuple #[])/\Mv S g V w' (st.aw .S)):=fun S V M=>mJ M .S ⟨rfl,by decide⟩ (F.mono (by omega)) (.inr trivial)
 have I:Hid (SS S W g st):=h;clear h F C
 go_enter Tryz.func134,Tryz.ntmps134
 go_wp2_with (go_at_call 165;refine (H.out _ _ I.out).mono ?_;rintro O w0 ⟨rfl,G⟩;have J:=show Hid (Mv S g W w0 (st.aw .S)) from G;clear G)
 go_end0
 exact ⟨rfl,J.out⟩
theorem CZ {S:Nat->Prop}(h:SS S W g st) (G:st.ns≠[]) (I:Bz 999999990 st) :
  Ta 200 #[cd g] W fun r w'=>r=.returned (.tuple #[])/\Mv S g W w' (st.aws Fx.break1.pz):=by
 have J:Hid (∀S V,SS S V g st->Ta 165 #[cd g,.agg #[.int .u8 3,.string ⟨#[]⟩,.int .i64 1,.int .i64 0,.bool false]] V fun r w'=>r=.returned (.tuple #[])/\Mv S g V w' (st.aw .B1)):=fun S V U=>mJ U .B1 ⟨rfl,by decide⟩ (I.mono (by omega)) (.inr trivial)
 have M:Hid (st.aws Fx.break1.pz=(st.aw .B1)):=rfl;have O:Hid (SS S W g st):=h;clear h I G
 go_enter Tryz.func200,Tryz.ntmps200
 go_wp2_with (first|(go_at_call 165;refine (J.out _ _ O.out).mono ?_;rintro r0 w0 ⟨rfl,F⟩;obtain ⟨S0,t0,u0⟩:=Mv.seq F;have Y:=show Hid (SS S0 w0 g (st.aw .B1)) from t0;have Z:=show Hid (∀H C,Mv S0 g w0 H C->Mv S g W H C) from u0;have Q:=show Hid (Mv S g W w0 (st.aw .B1)) from F;clear t0 u0 F))
 go_end0
 rw [M.out];exact ⟨rfl,Q.out⟩
theorem yQ {S:Nat->Prop}(h:SS S W g st) (C:st.ns≠[]) (F:Bz 999999999 st) :
  Ta 200 #[cd g] W fun r w'=>r=.returned (.tuple #[])/\Mv S g W w' (st.aw .B1):=by
 have H:Hid (∀S V,SS S V g st->Ta 165 #[cd g,.agg #[.int .u8 3,.string ⟨#[]⟩,.int .i64 1,.int .i64 0,.bool false]] V fun r w'=>r=.returned (.tuple #[])/\Mv S g V w' (st.aw .B1)):=fun S V M=>mJ M .B1 ⟨rfl,by decide⟩ (F.mono (by omega)) (.inr trivial)
 have I:Hid (SS S W g st):=h;clear h F C
 go_enter Tryz.func200,Tryz.ntmps200
 go_wp2_with (go_at_call 165;refine (H.out _ _ I.out).mono ?_;rintro O w0 ⟨rfl,G⟩;have J:=show Hid (Mv S g W w0 (st.aw .B1)) from G;clear G)
 go_end0
 exact ⟨rfl,J.out⟩
theorem KY {S:Nat->Prop}(h:SS S W g st) (G:st.ns≠[]) (I:Bz 999999990 st) :
  Ta 129 #[cd g] W fun r w'=>r=.returned (.tuple #[])/\Mv S g W w' (st.aws Fx.hard.pz):=by
 have J:Hid (∀S V,SS S V g st->Ta 165 #[cd g,.agg #[.int .u8 4,.string ⟨#[]⟩,.int .i64 0,.int .i64 0,.bool false]] V fun r w'=>r=.returned (.tuple #[])/\Mv S g V w' (st.aw .H)):=fun S V U=>mJ U .H ⟨rfl,by decide⟩ (I.mono (by omega)) (.inr trivial)
 have M:Hid (st.aws Fx.hard.pz=(st.aw .H)):=rfl;have O:Hid (SS S W g st):=h;clear h I G
 go_enter Tryz.func129,Tryz.ntmps129
 go_wp2_with (first|(go_at_call 165;refine (J.out _ _ O.out).mono ?_;rintro r0 w0 ⟨rfl,F⟩;obtain ⟨S0,t0,u0⟩:=Mv.seq F;have Y:=show Hid (SS S0 w0 g (st.aw .H)) from t0;have Z:=show Hid (∀H C,Mv S0 g w0 H C->Mv S g W H C) from u0;have Q:=show Hid (Mv S g W w0 (st.aw .H)) from F;clear t0 u0 F))
 go_end0
 rw [M.out];exact ⟨rfl,Q.out⟩
theorem pV {S:Nat->Prop}(h:SS S W g st) (C:st.ns≠[]) (F:Bz 999999999 st) :
  Ta 129 #[cd g] W fun r w'=>r=.returned (.tuple #[])/\Mv S g W w' (st.aw .H):=by
 have H:Hid (∀S V,SS S V g st->Ta 165 #[cd g,.agg #[.int .u8 4,.string ⟨#[]⟩,.int .i64 0,.int .i64 0,.bool false]] V fun r w'=>r=.returned (.tuple #[])/\Mv S g V w' (st.aw .H)):=fun S V M=>mJ M .H ⟨rfl,by decide⟩ (F.mono (by omega)) (.inr trivial)
 have I:Hid (SS S W g st):=h;clear h F C
 go_enter Tryz.func129,Tryz.ntmps129
 go_wp2_with (go_at_call 165;refine (H.out _ _ I.out).mono ?_;rintro O w0 ⟨rfl,G⟩;have J:=show Hid (Mv S g W w0 (st.aw .H)) from G;clear G)
 go_end0
 exact ⟨rfl,J.out⟩
theorem KZ {S:Nat->Prop}(h:SS S W g st) (C:st.ns≠[]) (I:Bz 999999990 st) :
  Ta 201 #[cd g] W fun r w'=>r=.returned (.tuple #[])/\Mv S g W w' (st.aws Fx.fend.pz):=by
 have J:Hid (∀S V,SS S V g st->Ta 128 #[cd g] V fun r w'=>r=.returned (.tuple #[])/\Mv S g V w' (st.aw .X)):=fun S V U=>ou U C (I.mono (by omega))
 have M:Hid (st.aws Fx.fend.pz=(st.aw .X)):=rfl;have O:Hid (SS S W g st):=h;clear h I C
 go_enter Tryz.func201,Tryz.ntmps201
 go_wp2_with (first|(go_at_call 128;refine (J.out _ _ O.out).mono ?_;rintro r0 w0 ⟨rfl,G⟩;obtain ⟨S0,t0,u0⟩:=Mv.seq G;have Y:=show Hid (SS S0 w0 g (st.aw .X)) from t0;have Z:=show Hid (∀H F,Mv S0 g w0 H F->Mv S g W H F) from u0;have Q:=show Hid (Mv S g W w0 (st.aw .X)) from G;clear t0 u0 G))
 go_end0
 rw [M.out];exact ⟨rfl,Q.out⟩
theorem Oq {S:Nat->Prop}(h:SS S W g st) (C:st.ns≠[]) (G:Bz 999999990 st) :
  Ta 205 #[cd g] W fun r w'=>r=.returned (.tuple #[])/\Mv S g W w' (st.aws Fx.in1.pz):=by
 have J:Hid (∀S V,SS S V g st->Ta 127 #[cd g,.int .i64 1,.bool false] V fun r w'=>r=.returned (.tuple #[])/\Mv S g V w' (st.aw (.I 1))):=fun S V U=>fg U (.I 1) ⟨rfl,rfl⟩ C (by have:=(G).1;omega) (by have:=(G).2.1;omega) (fun n Y=>by have:=(G).2.2 n Y;omega)
 have M:Hid (st.aws Fx.in1.pz=(st.aw (.I 1))):=rfl;have O:Hid (SS S W g st):=h;clear h G C
 go_enter Tryz.func205,Tryz.ntmps205
 go_wp2_with (first|(go_at_call 127;refine (J.out _ _ O.out).mono ?_;rintro r0 w0 ⟨rfl,H⟩;obtain ⟨S0,t0,u0⟩:=Mv.seq H;have Z:=show Hid (SS S0 w0 g (st.aw (.I 1))) from t0;have U0:=show Hid (∀I F,Mv S0 g w0 I F->Mv S g W I F) from u0;have Q:=show Hid (Mv S g W w0 (st.aw (.I 1))) from H;clear t0 u0 H))
 go_end0
 rw [M.out];exact ⟨rfl,Q.out⟩
theorem Oo {S:Nat->Prop}(h:SS S W g st) (C:st.ns≠[]) (G:Bz 999999990 st) :
  Ta 206 #[cd g] W fun r w'=>r=.returned (.tuple #[])/\Mv S g W w' (st.aws Fx.in2.pz):=by
 have J:Hid (∀S V,SS S V g st->Ta 127 #[cd g,.int .i64 2,.bool false] V fun r w'=>r=.returned (.tuple #[])/\Mv S g V w' (st.aw (.I 2))):=fun S V U=>fg U (.I 2) ⟨rfl,rfl⟩ C (by have:=(G).1;omega) (by have:=(G).2.1;omega) (fun n Y=>by have:=(G).2.2 n Y;omega)
 have M:Hid (st.aws Fx.in2.pz=(st.aw (.I 2))):=rfl;have O:Hid (SS S W g st):=h;clear h G C
 go_enter Tryz.func206,Tryz.ntmps206
 go_wp2_with (first|(go_at_call 127;refine (J.out _ _ O.out).mono ?_;rintro r0 w0 ⟨rfl,H⟩;obtain ⟨S0,t0,u0⟩:=Mv.seq H;have Z:=show Hid (SS S0 w0 g (st.aw (.I 2))) from t0;have U0:=show Hid (∀I F,Mv S0 g w0 I F->Mv S g W I F) from u0;have Q:=show Hid (Mv S g W w0 (st.aw (.I 2))) from H;clear t0 u0 H))
 go_end0
 rw [M.out];exact ⟨rfl,Q.out⟩
theorem AW {S:Nat->Prop}(h:SS S W g st) (C:st.ns≠[]) (F:Bz 999999999 st) :
  Ta 206 #[cd g] W fun r w'=>r=.returned (.tuple #[])/\Mv S g W w' (st.aw (.I 2)):=by
 have H:Hid (∀S V,SS S V g st->Ta 127 #[cd g,.int .i64 2,.bool false] V fun r w'=>r=.returned (.tuple #[])/\Mv S g V w' (st.aw (.I 2))):=fun S V M=>fg M (.I 2) ⟨rfl,rfl⟩ C (by have:=F.1;omega) (by have:=F.2.1;omega) (fun n O=>by have:=F.2.2 n O;omega)
 have I:Hid (SS S W g st):=h;clear h F C
 go_enter Tryz.func206,Tryz.ntmps206
 go_wp2_with (go_at_call 127;refine (H.out _ _ I.out).mono ?_;rintro Q w0 ⟨rfl,G⟩;have J:=show Hid (Mv S g W w0 (st.aw (.I 2))) from G;clear G)
 go_end0
 exact ⟨rfl,J.out⟩
theorem wL {S:Nat->Prop}(h:SS S W g st) (C:st.ns≠[]) (H:Bz 999999990 st) :
  Ta 204 #[cd g] W fun r w'=>r=.returned (.tuple #[])/\Mv S g W w' (st.aws Fx.endBlank.pz):=by
 have M:Hid (∀S V,SS S V g st->Ta 128 #[cd g] V fun r w'=>r=.returned (.tuple #[])/\Mv S g V w' (st.aw .X)):=fun S V G=>ou G C (H.mono (by omega))
 have O:Hid (∀S V,SS S V g (st.aw .X)->Ta 134 #[cd g] V fun r w'=>r=.returned (.tuple #[])/\Mv S g V w' ((st.aw .X).aw (.S))):=fun S V G=>jE G (mY C .X) ((H.aw .X).mono (by omega))
 have Q:Hid (st.aws Fx.endBlank.pz=((st.aw .X).aw (.S))):=rfl;have U:Hid (SS S W g st):=h;clear h H C
 go_enter Tryz.func204,Tryz.ntmps204
 go_wp2_with (first|(go_at_call 134;refine (O.out _ _ Z.out).mono ?_;rintro r1 w1 ⟨rfl,J⟩;have Y:=show Hid (Mv S0 g w0 w1 ((st.aw .X).aw (.S))) from J;clear J)|(go_at_call 128;refine (M.out _ _ U.out).mono ?_;rintro r0 w0 ⟨rfl,m0⟩;obtain ⟨S0,t0,u0⟩:=Mv.seq m0;have Z:=show Hid (SS S0 w0 g (st.aw .X)) from t0;have U0:=show Hid (∀I F,Mv S0 g w0 I F->Mv S g W I F) from u0;have M0:=show Hid (Mv S g W w0 (st.aw .X)) from m0;clear t0 u0 m0))
 go_end0
 rw [Q.out];exact ⟨rfl,U0.out _ _ Y.out⟩
theorem yP {S:Nat->Prop}(h:SS S W g st) (C:st.ns≠[]) (H:Bz 999999990 st) :
  Ta 198 #[cd g] W fun r w'=>r=.returned (.tuple #[])/\Mv S g W w' (st.aws Fx.endHard.pz):=by
 have M:Hid (∀S V,SS S V g st->Ta 128 #[cd g] V fun r w'=>r=.returned (.tuple #[])/\Mv S g V w' (st.aw .X)):=fun S V G=>ou G C (H.mono (by omega))
 have O:Hid (∀S V,SS S V g (st.aw .X)->Ta 129 #[cd g] V fun r w'=>r=.returned (.tuple #[])/\Mv S g V w' ((st.aw .X).aw (.H))):=fun S V G=>pV G (mY C .X) ((H.aw .X).mono (by omega))
 have Q:Hid (st.aws Fx.endHard.pz=((st.aw .X).aw (.H))):=rfl;have U:Hid (SS S W g st):=h;clear h H C
 go_enter Tryz.func198,Tryz.ntmps198
 go_wp2_with (first|(go_at_call 129;refine (O.out _ _ Z.out).mono ?_;rintro r1 w1 ⟨rfl,J⟩;have Y:=show Hid (Mv S0 g w0 w1 ((st.aw .X).aw (.H))) from J;clear J)|(go_at_call 128;refine (M.out _ _ U.out).mono ?_;rintro r0 w0 ⟨rfl,m0⟩;obtain ⟨S0,t0,u0⟩:=Mv.seq m0;have Z:=show Hid (SS S0 w0 g (st.aw .X)) from t0;have U0:=show Hid (∀I F,Mv S0 g w0 I F->Mv S g W I F) from u0;have M0:=show Hid (Mv S g W w0 (st.aw .X)) from m0;clear t0 u0 m0))
 go_end0
 rw [Q.out];exact ⟨rfl,U0.out _ _ Y.out⟩
theorem tU {S:Nat->Prop}(h:SS S W g st) (C:st.ns≠[]) (H:Bz 999999990 st) :
  Ta 203 #[cd g] W fun r w'=>r=.returned (.tuple #[])/\Mv S g W w' (st.aws Fx.in2Break0.pz):=by
 have M:Hid (∀S V,SS S V g st->Ta 206 #[cd g] V fun r w'=>r=.returned (.tuple #[])/\Mv S g V w' (st.aw (.I 2))):=fun S V G=>AW G C (H.mono (by omega))
 have O:Hid (∀S V,SS S V g (st.aw (.I 2))->Ta 165 #[cd g,.agg #[.int .u8 3,.string ⟨#[]⟩,.int .i64 0,.int .i64 0,.bool false]] V fun r w'=>r=.returned (.tuple #[])/\Mv S g V w' ((st.aw (.I 2)).aw .B0)):=fun S V G=>mJ G .B0 ⟨rfl,by decide⟩ ((H.aw (.I 2)).mono (by omega)) (.inr trivial)
 have Q:Hid (st.aws Fx.in2Break0.pz=((st.aw (.I 2)).aw .B0)):=rfl;have U:Hid (SS S W g st):=h;clear h H C
 go_enter Tryz.func203,Tryz.ntmps203
 go_wp2_with (first|(go_at_call 165;refine (O.out _ _ Z.out).mono ?_;rintro r1 w1 ⟨rfl,J⟩;have Y:=show Hid (Mv S0 g w0 w1 ((st.aw (.I 2)).aw .B0)) from J;clear J)|(go_at_call 206;refine (M.out _ _ U.out).mono ?_;rintro r0 w0 ⟨rfl,m0⟩;obtain ⟨S0,t0,u0⟩:=Mv.seq m0;have Z:=show Hid (SS S0 w0 g (st.aw (.I 2))) from t0;have U0:=show Hid (∀I F,Mv S0 g w0 I F->Mv S g W I F) from u0;have M0:=show Hid (Mv S g W w0 (st.aw (.I 2))) from m0;clear t0 u0 m0))
 go_end0
 rw [Q.out];exact ⟨rfl,U0.out _ _ Y.out⟩
theorem tT {S:Nat->Prop}(h:SS S W g st) (C:st.ns≠[]) (H:Bz 999999990 st) :
  Ta 202 #[cd g] W fun r w'=>r=.returned (.tuple #[])/\Mv S g W w' (st.aws Fx.in2Break1.pz):=by
 have M:Hid (∀S V,SS S V g st->Ta 206 #[cd g] V fun r w'=>r=.returned (.tuple #[])/\Mv S g V w' (st.aw (.I 2))):=fun S V G=>AW G C (H.mono (by omega))
 have O:Hid (∀S V,SS S V g (st.aw (.I 2))->Ta 200 #[cd g] V fun r w'=>r=.returned (.tuple #[])/\Mv S g V w' ((st.aw (.I 2)).aw (.B1))):=fun S V G=>yQ G (mY C (.I 2)) ((H.aw (.I 2)).mono (by omega))
 have Q:Hid (st.aws Fx.in2Break1.pz=((st.aw (.I 2)).aw (.B1))):=rfl;have U:Hid (SS S W g st):=h;clear h H C
 go_enter Tryz.func202,Tryz.ntmps202
 go_wp2_with (first|(go_at_call 200;refine (O.out _ _ Z.out).mono ?_;rintro r1 w1 ⟨rfl,J⟩;have Y:=show Hid (Mv S0 g w0 w1 ((st.aw (.I 2)).aw (.B1))) from J;clear J)|(go_at_call 206;refine (M.out _ _ U.out).mono ?_;rintro r0 w0 ⟨rfl,m0⟩;obtain ⟨S0,t0,u0⟩:=Mv.seq m0;have Z:=show Hid (SS S0 w0 g (st.aw (.I 2))) from t0;have U0:=show Hid (∀I F,Mv S0 g w0 I F->Mv S g W I F) from u0;have M0:=show Hid (Mv S g W w0 (st.aw (.I 2))) from m0;clear t0 u0 m0))
 go_end0
 rw [Q.out];exact ⟨rfl,U0.out _ _ Y.out⟩
theorem tW {S:Nat->Prop}(h:SS S W g st) (C:st.ns≠[]) (F:Bz 999999990 st) :
  Ta 197 #[cd g] W fun r w'=>r=.returned (.tuple #[])/\Mv S g W w' (st.aws Fx.even2Hard.pz):=by
 have M:Hid (∀S V,SS S V g st->Ta 127 #[cd g,.int .i64 2,.bool true] V fun r w'=>r=.returned (.tuple #[])/\Mv S g V w' (st.aw (.J))):=fun S V H=>fg H (.J) ⟨rfl,rfl⟩ C (by have:=(F).1;omega) (by have:=(F).2.1;omega) (fun n hn=>by have:=(F).2.2 n hn;omega)
 have O:Hid (∀S V,SS S V g (st.aw (.J))->Ta 129 #[cd g] V fun r w'=>r=.returned (.tuple #[])/\Mv S g V w' ((st.aw (.J)).aw (.H))):=fun S V H=>pV H (mY C (.J)) ((F.aw (.J)).mono (by omega))
 have Q:Hid (st.aws Fx.even2Hard.pz=((st.aw (.J)).aw (.H))):=rfl;have U:Hid (SS S W g st):=h;clear h F C
 go_enter Tryz.func197,Tryz.ntmps197
 go_wp2_with (first|(go_at_call 129;refine (O.out _ _ Z.out).mono ?_;rintro r1 w1 ⟨rfl,J⟩;have Y:=show Hid (Mv S0 g w0 w1 ((st.aw (.J)).aw (.H))) from J;clear J)|(go_at_call 127;refine (M.out _ _ U.out).mono ?_;rintro r0 w0 ⟨rfl,m0⟩;obtain ⟨S0,t0,u0⟩:=Mv.seq m0;have Z:=show Hid (SS S0 w0 g (st.aw (.J))) from t0;have U0:=show Hid (∀I G,Mv S0 g w0 I G->Mv S g W I G) from u0;have M0:=show Hid (Mv S g W w0 (st.aw (.J))) from m0;clear t0 u0 m0))
 go_end0
 rw [Q.out];exact ⟨rfl,U0.out _ _ Y.out⟩
theorem mT {S:Nat->Prop}(h:SS S W g st) (C:st.ns≠[]) (F:Bz 999999990 st) :
  Ta 164 #[cd g] W fun r w'=>r=.returned (.tuple #[])/\Mv S g W w' (st.aws Fx.blankIn3.pz):=by
 have M:Hid (∀S V,SS S V g st->Ta 134 #[cd g] V fun r w'=>r=.returned (.tuple #[])/\Mv S g V w' (st.aw (.S))):=fun S V H=>jE H C (F.mono (by omega))
 have O:Hid (∀S V,SS S V g (st.aw (.S))->Ta 127 #[cd g,.int .i64 3,.bool false] V fun r w'=>r=.returned (.tuple #[])/\Mv S g V w' ((st.aw (.S)).aw (.I 3))):=fun S V H=>fg H (.I 3) ⟨rfl,rfl⟩ (mY C (.S)) (by have:=((F.aw (.S))).1;omega) (by have:=((F.aw (.S))).2.1;omega) (fun n hn=>by have:=((F.aw (.S))).2.2 n hn;omega)
 have Q:Hid (st.aws Fx.blankIn3.pz=((st.aw (.S)).aw (.I 3))):=rfl;have U:Hid (SS S W g st):=h;clear h F C
 go_enter Tryz.func164,Tryz.ntmps164
 go_wp2_with (first|(go_at_call 127;refine (O.out _ _ Z.out).mono ?_;rintro r1 w1 ⟨rfl,J⟩;have Y:=show Hid (Mv S0 g w0 w1 ((st.aw (.S)).aw (.I 3))) from J;clear J)|(go_at_call 134;refine (M.out _ _ U.out).mono ?_;rintro r0 w0 ⟨rfl,m0⟩;obtain ⟨S0,t0,u0⟩:=Mv.seq m0;have Z:=show Hid (SS S0 w0 g (st.aw (.S))) from t0;have U0:=show Hid (∀I G,Mv S0 g w0 I G->Mv S g W I G) from u0;have M0:=show Hid (Mv S g W w0 (st.aw (.S))) from m0;clear t0 u0 m0))
 go_end0
 rw [Q.out];exact ⟨rfl,U0.out _ _ Y.out⟩
theorem wM {S:Nat->Prop}(h:SS S W g st) (C:st.ns≠[]) (F:Bz 999999990 st) :
  Ta 199 #[cd g] W fun r w'=>r=.returned (.tuple #[])/\Mv S g W w' (st.aws Fx.blankIn4.pz):=by
 have M:Hid (∀S V,SS S V g st->Ta 134 #[cd g] V fun r w'=>r=.returned (.tuple #[])/\Mv S g V w' (st.aw (.S))):=fun S V H=>jE H C (F.mono (by omega))
 have O:Hid (∀S V,SS S V g (st.aw (.S))->Ta 127 #[cd g,.int .i64 4,.bool false] V fun r w'=>r=.returned (.tuple #[])/\Mv S g V w' ((st.aw (.S)).aw (.I 4))):=fun S V H=>fg H (.I 4) ⟨rfl,rfl⟩ (mY C (.S)) (by have:=((F.aw (.S))).1;omega) (by have:=((F.aw (.S))).2.1;omega) (fun n hn=>by have:=((F.aw (.S))).2.2 n hn;omega)
 have Q:Hid (st.aws Fx.blankIn4.pz=((st.aw (.S)).aw (.I 4))):=rfl;have U:Hid (SS S W g st):=h;clear h F C
 go_enter Tryz.func199,Tryz.ntmps199
 go_wp2_with (first|(go_at_call 127;refine (O.out _ _ Z.out).mono ?_;rintro r1 w1 ⟨rfl,J⟩;have Y:=show Hid (Mv S0 g w0 w1 ((st.aw (.S)).aw (.I 4))) from J;clear J)|(go_at_call 134;refine (M.out _ _ U.out).mono ?_;rintro r0 w0 ⟨rfl,m0⟩;obtain ⟨S0,t0,u0⟩:=Mv.seq m0;have Z:=show Hid (SS S0 w0 g (st.aw (.S))) from t0;have U0:=show Hid (∀I G,Mv S0 g w0 I G->Mv S g W I G) from u0;have M0:=show Hid (Mv S g W w0 (st.aw (.S))) from m0;clear t0 u0 m0))
 go_end0
 rw [Q.out];exact ⟨rfl,U0.out _ _ Y.out⟩
theorem yN {S:Nat->Prop}(h:SS S W g st) :
  Ta 168 #[cd g] W fun r w'=>r=.returned (.tuple #[])/\Mv S g W w' (st.aws Fx.nothing.pz):=by
 have C:Hid (Mv S g W W (st.aws Fx.nothing.pz)):=Mv.refl h;clear h
 go_enter Tryz.func168,Tryz.ntmps168
 go_wp2_with fail
 go_end0
 exact ⟨rfl,C.out⟩
def Fx.id:Fx->Nat
 |.nothing=>168
 |.blank=>134
 |.break1=>200
 |.hard=>129
 |.fend=>201
 |.in1=>205
 |.in2=>206
 |.endBlank=>204
 |.endHard=>198
 |.in2Break0=>203
 |.in2Break1=>202
 |.even2Hard=>197
 |.blankIn3=>164
 |.blankIn4=>199
theorem Gq (f:Fx) {S:Nat->Prop}{W:World}{g:Nat}{st:Sy}(h:SS S W g st) (C:st.ns≠[]) (F:Bz 999999990 st) :
  Ta f.id #[cd g] W fun r w'=>r=.returned (.tuple #[])/\Mv S g W w' (st.aws f.pz):=by
 cases f with
 |nothing=>exact yN h
 |blank=>exact Gp h C F
 |break1=>exact CZ h C F
 |hard=>exact KY h C F
 |fend=>exact KZ h C F
 |in1=>exact Oq h C F
 |in2=>exact Oo h C F
 |endBlank=>exact wL h C F
 |endHard=>exact yP h C F
 |in2Break0=>exact tU h C F
 |in2Break1=>exact tT h C F
 |even2Hard=>exact tW h C F
 |blankIn3=>exact mT h C F
 |blankIn4=>exact wM h C F
end Go.Proofs.YtcjiapphbpiffaaGreatDoor
namespace Go.Proofs.YtcjiapphbpiffaaGreatDoor
open Go.RowKit
open Lw (Dc bE rt cG dD fu iC bZ aX cy A6 jw tK pG Ix)
theorem B7 (c:UInt8) (w:World):Ta 163 #[.int .u8 (c.toNat:Int)] w fun e w'=>e=.returned (.bool (A6 c))/\w'=w:=by
 have C:((c.toNat:Int) == 32)=(c == 32):=by revert c;exact Ix (by decide +kernel)
 have F:((c.toNat:Int) == 10)=(c == 10):=by revert c;exact Ix (by decide +kernel)
 have e:A6 c=((c.toNat:Int) == 32 || (c.toNat:Int) == 10):=by rw [C,F];rfl
 rw [e];clear e C F
 generalize (c.toNat:Int)=z
 go_enter Tryz.func163,Tryz.ntmps163
 go_wp2_with fail
 all_goals (go_ret;simp_all)
theorem BV (t:ByteArray) (ht:t.size<=9223372036854775807) (w:World):Ta 123 #[.string t] w fun e w'=>e=.returned (.bool (fu t))/\w'=w:=by
 by_cases H:t.size=0
 ·have O:t=⟨#[]⟩:=by
   apply tK
   exact Tl (by rw [pG];exact H)
  subst O
  go_enter Tryz.func123,Tryz.ntmps123
  go_wp2_with fail
  go_ret
  exact ⟨rfl,rfl⟩
 ·have S:¬t.toList=[]:=by
   rw [Lib.toList_data];intro Q;exact absurd (by have:=pG t;rw [jw,Q] at this;simpa using this.symm) H
  by_cases I:t.size<=65535
  ·have F:0<t.size:=by omega
   have C:t.size-1<t.size:=by omega
   have G:Hid (fu t=(!A6 t[0] && !A6 (t[t.size-1]))):=by
    show _=_
    unfold fu;have J:(jw t).getD 0 0=t[0]:=(Lib.getD_at t 0 F).symm;have M:(jw t).getD (t.size-1) 0=t[t.size-1]:=(Lib.getD_at t (t.size-1) C).symm;rw [J,M];simp [I,show 1<=t.size by omega]
   go_enter Tryz.func123,Tryz.ntmps123
   go_wp2_with (go_at_call 163;refine (B7 _ _).mono ?_;rintro e U ⟨rfl,rfl⟩)
   all_goals (go_ret;rw [G.out];clear G;refine ⟨?_,rfl⟩;simp_all)
  ·go_enter Tryz.func123,Tryz.ntmps123
   go_wp2_with fail
   go_ret
   refine ⟨?_,rfl⟩;simp [fu,I]
theorem wy (d:Dc) (w:World):Ta 170 #[.agg #[.int .u8 d.k,.string d.t,.int .i64 d.b,.int .i64 d.i,.bool d.e]] w fun e w'=>e=.returned (.bool (bj d))/\Below w.heap.size w w':=by
 have F:Hid (bj d=(d.k == 6)):=by show _=_;unfold bj;by_cases h:d.k=6 <;> simp [h]
 have C:Hid (∀o,Tb w (w.alloc o)):=fun o=>(hH _ _).alloc (gt _) _
 go_enter Tryz.func170,Tryz.ntmps170
 go_wp2_with fail
 go_ret
 rw [F.out];exact ⟨rfl,C.out _⟩
theorem F9 (d:Dc) (w:World):Ta 137 #[.agg #[.int .u8 d.k,.string d.t,.int .i64 d.b,.int .i64 d.i,.bool d.e]] w fun e w'=>e=.returned (.bool (bI d))/\Below w.heap.size w w':=by
 have F:Hid (bI d=(d.k == 4)):=by show _=_;unfold bI;by_cases h:d.k=4 <;> simp [h]
 have C:Hid (∀o,Tb w (w.alloc o)):=fun o=>(hH _ _).alloc (gt _) _
 go_enter Tryz.func137,Tryz.ntmps137
 go_wp2_with fail
 go_ret
 rw [F.out];exact ⟨rfl,C.out _⟩
theorem Gb (d:Dc) (w:World):Ta 133 #[.agg #[.int .u8 d.k,.string d.t,.int .i64 d.b,.int .i64 d.i,.bool d.e]] w fun e w'=>e=.returned (.bool (bU d))/\Below w.heap.size w w':=by
 have G:Hid (∀o,Tb w (w.alloc o)):=fun o=>(hH _ _).alloc (gt _) _
 obtain ⟨k,t,b,i,e⟩:=d
 dsimp only
 by_cases C:k=2
 ·subst C
  go_enter Tryz.func133,Tryz.ntmps133
  go_wp2_with fail
  go_ret
  exact ⟨rfl,G.out _⟩
 ·have S:(k == 2)=false:=by simpa using C
  by_cases F:k=4
  ·subst F
   go_enter Tryz.func133,Tryz.ntmps133
   go_wp2_with fail
   go_ret
   exact ⟨rfl,G.out _⟩
  ·have U:(k == 4)=false:=by simpa using F
   have I:Hid (bU ⟨k,t,b,i,e⟩=(k == 3 && (t.toList == [] && (b == 1 && (i == 0 && !e))))):=by
    show _=_
    unfold bU dB;rw [Tg C,Tg F,WQ,WQ];have ht:=Lw.Jd t;have H:bE.toList=[]:=by rw [Lib.toList_data];rfl
    by_cases J:k=3 <;> by_cases M:t=bE <;> by_cases O:b=1 <;> by_cases Q:i=0 <;> cases e <;> simp [J,M,O,Q,ht,H]
   clear C F
   go_enter Tryz.func133,Tryz.ntmps133
   go_wp2_with fail
   all_goals (go_ret;rw [I.out];refine ⟨?_,G.out _⟩;simp_all)
theorem Gc (t:Tv) (w:World):Ta 124 #[.agg #[.int .u8 t.k,.string t.t,.int .i64 t.a,.int .i64 t.l,.int .i64 t.c,.int .i64 t.f]] w fun e w'=>e=.returned (.bool (decide (t.k=7\/t.k=8)))/\Below w.heap.size w w':=by
 have C:Hid (∀o,Tb w (w.alloc o)):=fun o=>(hH _ _).alloc (gt _) _
 have F:Hid (decide (t.k=7\/t.k=8)=(t.k == 7 || t.k == 8)):=by show _=_;by_cases a:t.k=7 <;> by_cases b:t.k=8 <;> simp [a,b]
 go_enter Tryz.func124,Tryz.ntmps124
 go_wp2_with fail
 all_goals (go_ret;rw [F.out];refine ⟨?_,C.out _⟩;simp_all)
theorem oQ (t:Tv) (w:World):Ta 135 #[.agg #[.int .u8 t.k,.string t.t,.int .i64 t.a,.int .i64 t.l,.int .i64 t.c,.int .i64 t.f]] w fun e w'=>e=.returned (.agg #[.int .u8 1,.string t.t,.int .i64 0,.int .i64 0,.bool false])/\Below w.heap.size w w':=by
 obtain ⟨V,F⟩:∃V,w.alloc (.cells #[.int .u8 t.k,.string t.t,.int .i64 t.a,.int .i64 t.l,.int .i64 t.c,.int .i64 t.f] 49)=V:=⟨_,rfl⟩;have O:Below w.heap.size w V:=by rw [<-F];exact (hH _ _).alloc (gt _) _
 have Q:V.heap.size=w.heap.size+1:=by rw [<-F];show (w.heap.push _).size=_;simp
 have C:=aq V (.cells #[.int .u8 1,.string t.t,.int .i64 0,.int .i64 0,.bool false] 89);rw [Q,<-F] at C;have HN:Hid ((V.alloc (.cells #[.int .u8 1,.string t.t,.int .i64 0,.int .i64 0,.bool false] 89))=(V.alloc (.cells #[.int .u8 1,.string t.t,.int .i64 0,.int .i64 0,.bool false] 89))/\∀o,Below w.heap.size w (V.alloc o)):=⟨rfl,fun o=>O.alloc O.size _⟩;rw [<-F] at HN;have G:=af (k:=0) C rfl;have H:=af (k:=1) C rfl;have I:=af (k:=2) C rfl;have J:=af (k:=3) C rfl;have M:=af (k:=4) C rfl;have S:Hid _:=And.intro G (And.intro H (And.intro I (And.intro J M)));clear F Q C O G H I J M
 go_enter Tryz.func135,Tryz.ntmps135
 go_wp2_with fail
 obtain ⟨G,H,I,J,M⟩:=S.out;refine Ti (v:=.agg #[.int .u8 1,.string t.t,.int .i64 0,.int .i64 0,.bool false]) (by simp [results,Tryz.f135,go_sem,G,H,I,J,M]) rfl ?_;exact ⟨rfl,HN.out.2 _⟩
theorem CX (k:Int) (w:World):Ta 126 #[.int .u8 k] w fun e w'=>e=.returned (.bool (fA k))/\w'=w:=by
 by_cases h:fA k=true
 ·have C:=TI h;rw [h]
  rcases C with rfl|rfl|rfl|rfl|rfl|rfl|rfl|rfl|rfl|rfl|rfl|rfl
  all_goals (
   go_enter Tryz.func126,Tryz.ntmps126
   go_wp2_with fail
   go_ret
   exact ⟨rfl,rfl⟩)
 ·have C:¬_:=fun e=>h (Tf e)
  rw [Bool.eq_false_iff.2 h];simp only [not_or] at C;obtain ⟨F,G,H,I,J,M,O,Q,S,U,Y,Z⟩:=C;have p1:(k == 3)=false:=by simpa using F
  have p2:(k == 4)=false:=by simpa using G
  have p3:(k == 5)=false:=by simpa using H
  have p4:(k == 11)=false:=by simpa using I
  have p5:(k == 13)=false:=by simpa using J
  have p6:(k == 14)=false:=by simpa using M
  have p7:(k == 15)=false:=by simpa using O
  have p8:(k == 16)=false:=by simpa using Q
  have p9:(k == 17)=false:=by simpa using S
  have r1:(k == 18)=false:=by simpa using U
  have r2:(k == 19)=false:=by simpa using Y
  have r3:(k == 20)=false:=by simpa using Z
  clear h F G H I J M O Q S U Y Z
  go_enter Tryz.func126,Tryz.ntmps126
  go_wp2_with fail
  go_ret
  exact ⟨rfl,rfl⟩
theorem fR {W:World}{g:Nat}{dn:Bool}(c0:W.cell? ⟨g,0,none⟩=some (.bool dn)):Ta 78 #[cd g] W fun r w'=>r=.returned (.int .i64 (if dn then 4 else 0))/\w'=W:=by
 cases dn
 all_goals (
  go_enter Tryz.func78,Tryz.ntmps78
  go_wp2_with fail
  go_ret
  exact ⟨rfl,rfl⟩)
end Go.Proofs.YtcjiapphbpiffaaGreatDoor
namespace Go.Proofs.YtcjiapphbpiffaaGreatDoor
open Go.RowKit
open Lw (Dc bE rt cG dD fu iC bZ aX cy)
variable {w W:World}{l:List Dc}{ao:Option Addr}{α:Type}{g:Nat}{st:Sy}{vn vw:Value}
def Ld (w:World) (ao:Option Addr) (l:List Dc):Prop:=∀j d,l[j]?=some d->∃b off,ao=some ⟨b,off,none⟩ /\
 w.cell? ⟨b,off+j*5,none⟩=some (.int .u8 d.k)/\w.cell? ⟨b,off+j*5+1,none⟩=some (.string d.t)/\w.cell? ⟨b,off+j*5+2,none⟩=some (.int .i64 d.b)/\w.cell? ⟨b,off+j*5+3,none⟩=some (.int .i64 d.i)/\w.cell? ⟨b,off+j*5+4,none⟩=some (.bool d.e)
theorem Ld.kp {S:Nat->Prop}{w w':World}{ao:Option Addr}{l:List Dc}(h:Ld w ao l) (J:Kp S w w') (H:∀a,ao=some a->¬S a.block):Ld w' ao l:=by
 intro j a I;obtain ⟨b,F,G,c0,c1,c2,c3,c4⟩:=h j a I;have C:=S9 _ _ c0;have e:w'.heap[b]?=w.heap[b]?:=J.block b C (H _ G);exact ⟨b,F,G,(S8 (a:=⟨b,_,none⟩) e).trans c0,(S8 (a:=⟨b,_,none⟩) e).trans c1,(S8 (a:=⟨b,_,none⟩) e).trans c2,(S8 (a:=⟨b,_,none⟩) e).trans c3,(S8 (a:=⟨b,_,none⟩) e).trans c4⟩
theorem Ld.below {w':World}(h:Ld w ao l) (C:Below w.heap.size w w'):Ld w' ao l:=h.kp (Kp.of_below (S:=fun _=>False) C) (fun _ _ h=>h)
theorem Ld.take (h:Ld w ao l) (n:Nat):Ld w ao (l.take n):=by
 intro j d C;rw [TV] at C
 split at C
 ·exact h j d C
 ·cases C
theorem vJ {p:Option Addr}{n cap:Nat}(h:Rd w (.slice p n cap) l):Ld w p l:=by
 intro j d C
 rcases h.2 with ⟨G,H⟩|⟨g,cap',J,G,_⟩
 ·have:l=[]:=Tl H;subst this;simp at C
 ·cases G
  have F:∀(k:Nat) (u:Value),(bZ l)[k]?=some u->w.cell? ⟨g,k,none⟩=some u:=fun k u I=>by
   have:=Vd h (g:=g) rfl k u I;rw [UA,Td] at this;exact this
  refine ⟨g,0,rfl,?_,?_,?_,?_,?_⟩
  ·rw [Td];exact F _ _ (aR Dc.cs 5 Lw.Dc.cs_len l j 0 d _ C rfl)
  ·rw [Td];exact F _ _ (aR Dc.cs 5 Lw.Dc.cs_len l j 1 d _ C rfl)
  ·rw [Td];exact F _ _ (aR Dc.cs 5 Lw.Dc.cs_len l j 2 d _ C rfl)
  ·rw [Td];exact F _ _ (aR Dc.cs 5 Lw.Dc.cs_len l j 3 d _ C rfl)
  ·rw [Td];exact F _ _ (aR Dc.cs 5 Lw.Dc.cs_len l j 4 d _ C rfl)
theorem lx (p:α->Bool) (l:List α) (k:Nat) (x:α) (C:l[k]?=some x) (h:(l.take k).any p=false):(l.take (k+1)).any p=p x:=by
 rw [UK,C,TC,h];simp
theorem lw (p:α->Bool) (l:List α) (k:Nat) (h:(l.take k).any p=true):l.any p=true:=by
 rw [Un] at h ⊢;obtain ⟨x,C,e⟩:=h;exact ⟨x,Wd C,e⟩
theorem F7 (ao:Option Addr) (l:List Dc) (cap:Nat) (W:World) (h:Ld W ao l) (hl:l.length<=1000000000) :
  Ta 209 #[.slice ao l.length cap,.func (.func 170) #[] #[]] W fun r w'=>(∃z:Int,r=.returned (.int .i64 z)/\(decide (0<=z)=l.any bj))/\Below W.heap.size W w':=by
 have H:Hid (Ld W ao l):=h;clear h;have U:Hid (∀(d:Dc) (V:World),Ta 170 #[.agg #[.int .u8 d.k,.string d.t,.int .i64 d.b,.int .i64 d.i,.bool d.e]] V fun e w'=>e=.returned (.bool (bj d))/\Tb V w'):=wy
 go_enter Tryz.func209,Tryz.ntmps209
 go_wp2_with fail
 go_loopw [5,8] (fun _ i wr=>∃k:Nat,k<=l.length/\i=.int .i64 k/\Hid ((l.take k).any bj=false)/\Hid (Below W.heap.size W wr)) (fun _ i _=>l.length-(intOf i).toNat)
 case atStart=>exact ⟨0,SW _,rfl,by show _=_;simp,hH _ _⟩
 case round=>
  obtain ⟨k,hk,rfl,S,F⟩:=hrel
  by_cases I:k<l.length
  ·have q1:(k:Int)<l.length:=by omega
   have q0:(0:Int)<=k:=by omega
   obtain ⟨x,O⟩:∃x,l[k]?=some x:=⟨_,Pi I⟩;obtain ⟨b,off,rfl,c0,c1,c2,c3,c4⟩:=(H.out.below F.out) k x O;have Y:Hid ((l.take (k+1)).any bj=bj x):=lx bj l k x O S.out;have Z:Hid ((l.take (k+1)).any bj=true->l.any bj=true):=lw bj l _;clear O
   by_cases J:bj x=true
   ·go_wp2_with (go_at_call 170;refine (U.out x _).mono ?_;rintro e Q ⟨rfl,C⟩;rw [J];have M:Hid (Tb W Q):=F.out.trans (C.mono F.out.size);clear C)
    go_ret
    exact ⟨⟨_,rfl,by rw [Z.out (Y.out.trans J)];simp⟩,M.out⟩
   ·have G:bj x=false:=by simpa using J
    clear J
    go_wp2_with (go_at_call 170;refine (U.out x _).mono ?_;rintro e Q ⟨rfl,C⟩;rw [G];have M:Hid (Tb W Q):=F.out.trans (C.mono F.out.size);clear C)
    exact ⟨⟨k+1,I,by go_num,Y.out.trans G,M⟩,by simp [intOf];omega⟩
  ·obtain rfl:k=l.length:=by omega
   have q1:¬((l.length:Int)<l.length):=by omega
   go_wp2_with fail
   go_ret
   refine ⟨⟨_,rfl,?_⟩,F.out⟩;have:=S.out;rw [T4] at this;rw [this];rfl
theorem G1 (ao:Option Addr) (l:List Dc) (cap:Nat) (W:World) (h:Ld W ao l) (G:l.length<=1000000000) :
  Ta 169 #[.slice ao l.length cap,.func (.func 170) #[] #[]] W fun r w'=>r=.returned (.bool (l.any bj))/\Below W.heap.size W w':=by
 have H:Hid (Ta 209 #[.slice ao l.length cap,.func (.func 170) #[] #[]] W fun r w'=>(∃z:Int,r=.returned (.int .i64 z)/\(decide (0<=z)=l.any bj))/\Tb W w'):=F7 ao l cap W h G;clear h
 generalize l.any bj=b at *
 go_enter Tryz.func169,Tryz.ntmps169
 go_wp2_with (go_at_call 209;refine H.out.mono ?_;rintro r J ⟨⟨z,rfl,I⟩,C⟩;have F:Hid (Tb W J):=C;clear C;subst I)
 go_ret
 exact ⟨by simp,F.out⟩
theorem F5 (ao:Option Addr) (l:List Dc) (cap:Nat) (W:World) (h:Ld W ao l) (hl:l.length<=1000000000) :
  Ta 209 #[.slice ao l.length cap,.func (.func 137) #[] #[]] W fun r w'=>(∃z:Int,r=.returned (.int .i64 z)/\(decide (0<=z)=l.any bI))/\Below W.heap.size W w':=by
 have H:Hid (Ld W ao l):=h;clear h;have U:Hid (∀(d:Dc) (V:World),Ta 137 #[.agg #[.int .u8 d.k,.string d.t,.int .i64 d.b,.int .i64 d.i,.bool d.e]] V fun e w'=>e=.returned (.bool (bI d))/\Tb V w'):=F9
 go_enter Tryz.func209,Tryz.ntmps209
 go_wp2_with fail
 go_loopw [5,8] (fun _ i wr=>∃k:Nat,k<=l.length/\i=.int .i64 k/\Hid ((l.take k).any bI=false)/\Hid (Below W.heap.size W wr)) (fun _ i _=>l.length-(intOf i).toNat)
 case atStart=>exact ⟨0,SW _,rfl,by show _=_;simp,hH _ _⟩
 case round=>
  obtain ⟨k,hk,rfl,S,F⟩:=hrel
  by_cases I:k<l.length
  ·have q1:(k:Int)<l.length:=by omega
   have q0:(0:Int)<=k:=by omega
   obtain ⟨x,O⟩:∃x,l[k]?=some x:=⟨_,Pi I⟩;obtain ⟨b,off,rfl,c0,c1,c2,c3,c4⟩:=(H.out.below F.out) k x O;have Y:Hid ((l.take (k+1)).any bI=bI x):=lx bI l k x O S.out;have Z:Hid ((l.take (k+1)).any bI=true->l.any bI=true):=lw bI l _;clear O
   by_cases J:bI x=true
   ·go_wp2_with (go_at_call 137;refine (U.out x _).mono ?_;rintro e Q ⟨rfl,C⟩;rw [J];have M:Hid (Tb W Q):=F.out.trans (C.mono F.out.size);clear C)
    go_ret
    exact ⟨⟨_,rfl,by rw [Z.out (Y.out.trans J)];simp⟩,M.out⟩
   ·have G:bI x=false:=by simpa using J
    clear J
    go_wp2_with (go_at_call 137;refine (U.out x _).mono ?_;rintro e Q ⟨rfl,C⟩;rw [G];have M:Hid (Tb W Q):=F.out.trans (C.mono F.out.size);clear C)
    exact ⟨⟨k+1,I,by go_num,Y.out.trans G,M⟩,by simp [intOf];omega⟩
  ·obtain rfl:k=l.length:=by omega
   have q1:¬((l.length:Int)<l.length):=by omega
   go_wp2_with fail
   go_ret
   refine ⟨⟨_,rfl,?_⟩,F.out⟩;have:=S.out;rw [T4] at this;rw [this];rfl
theorem GZ (ao:Option Addr) (l:List Dc) (cap:Nat) (W:World) (h:Ld W ao l) (G:l.length<=1000000000) :
  Ta 169 #[.slice ao l.length cap,.func (.func 137) #[] #[]] W fun r w'=>r=.returned (.bool (l.any bI))/\Below W.heap.size W w':=by
 have H:Hid (Ta 209 #[.slice ao l.length cap,.func (.func 137) #[] #[]] W fun r w'=>(∃z:Int,r=.returned (.int .i64 z)/\(decide (0<=z)=l.any bI))/\Tb W w'):=F5 ao l cap W h G;clear h
 generalize l.any bI=b at *
 go_enter Tryz.func169,Tryz.ntmps169
 go_wp2_with (go_at_call 209;refine H.out.mono ?_;rintro r J ⟨⟨z,rfl,I⟩,C⟩;have F:Hid (Tb W J):=C;clear C;subst I)
 go_ret
 exact ⟨by simp,F.out⟩
theorem DK (h:SV W g st vn vw) (G:st.ws.length<=1000000000) :
  Ta 132 #[cd g,.func (.func 137) #[] #[]] W fun r w'=>r=.returned (.bool (st.ws.any bI))/\Below W.heap.size W w':=by
 obtain ⟨p,cap,e,_⟩:=bG h.rd;subst e;have H:Hid (Ta 169 #[.slice p st.ws.length cap,.func (.func 137) #[] #[]] W fun r w'=>r=.returned (.bool (st.ws.any bI))/\Tb W w'):=GZ p st.ws cap W (vJ h.rd) G;obtain ⟨c0,c1,c2,c3,c4,c5,c6,c7⟩:=h.sb.cells
 generalize st.ws.any bI=b at *
 generalize st.ws.length=n at *
 clear h c0 c1 c3 c4 c5 c6 c7
 go_enter Tryz.func132,Tryz.ntmps132
 go_wp2_with (go_at_call 169;refine H.out.mono ?_;rintro r I ⟨rfl,C⟩;have F:Hid (Tb W I):=C;clear C)
 go_ret
 exact ⟨rfl,F.out⟩
theorem F6 (ao:Option Addr) (l:List Dc) (cap:Nat) (W:World) (h:Ld W ao l) (hl:l.length<=1000000000) :
  Ta 209 #[.slice ao l.length cap,.func (.func 133) #[] #[]] W fun r w'=>(∃z:Int,r=.returned (.int .i64 z)/\(decide (0<=z)=l.any bU))/\Below W.heap.size W w':=by
 have H:Hid (Ld W ao l):=h;clear h;have U:Hid (∀(d:Dc) (V:World),Ta 133 #[.agg #[.int .u8 d.k,.string d.t,.int .i64 d.b,.int .i64 d.i,.bool d.e]] V fun e w'=>e=.returned (.bool (bU d))/\Tb V w'):=Gb
 go_enter Tryz.func209,Tryz.ntmps209
 go_wp2_with fail
 go_loopw [5,8] (fun _ i wr=>∃k:Nat,k<=l.length/\i=.int .i64 k/\Hid ((l.take k).any bU=false)/\Hid (Below W.heap.size W wr)) (fun _ i _=>l.length-(intOf i).toNat)
 case atStart=>exact ⟨0,SW _,rfl,by show _=_;simp,hH _ _⟩
 case round=>
  obtain ⟨k,hk,rfl,S,F⟩:=hrel
  by_cases I:k<l.length
  ·have q1:(k:Int)<l.length:=by omega
   have q0:(0:Int)<=k:=by omega
   obtain ⟨x,O⟩:∃x,l[k]?=some x:=⟨_,Pi I⟩;obtain ⟨b,off,rfl,c0,c1,c2,c3,c4⟩:=(H.out.below F.out) k x O;have Y:Hid ((l.take (k+1)).any bU=bU x):=lx bU l k x O S.out;have Z:Hid ((l.take (k+1)).any bU=true->l.any bU=true):=lw bU l _;clear O
   by_cases J:bU x=true
   ·go_wp2_with (go_at_call 133;refine (U.out x _).mono ?_;rintro e Q ⟨rfl,C⟩;rw [J];have M:Hid (Tb W Q):=F.out.trans (C.mono F.out.size);clear C)
    go_ret
    exact ⟨⟨_,rfl,by rw [Z.out (Y.out.trans J)];simp⟩,M.out⟩
   ·have G:bU x=false:=by simpa using J
    clear J
    go_wp2_with (go_at_call 133;refine (U.out x _).mono ?_;rintro e Q ⟨rfl,C⟩;rw [G];have M:Hid (Tb W Q):=F.out.trans (C.mono F.out.size);clear C)
    exact ⟨⟨k+1,I,by go_num,Y.out.trans G,M⟩,by simp [intOf];omega⟩
  ·obtain rfl:k=l.length:=by omega
   have q1:¬((l.length:Int)<l.length):=by omega
   go_wp2_with fail
   go_ret
   refine ⟨⟨_,rfl,?_⟩,F.out⟩;have:=S.out;rw [T4] at this;rw [this];rfl
theorem G0 (ao:Option Addr) (l:List Dc) (cap:Nat) (W:World) (h:Ld W ao l) (G:l.length<=1000000000) :
  Ta 169 #[.slice ao l.length cap,.func (.func 133) #[] #[]] W fun r w'=>r=.returned (.bool (l.any bU))/\Below W.heap.size W w':=by
 have H:Hid (Ta 209 #[.slice ao l.length cap,.func (.func 133) #[] #[]] W fun r w'=>(∃z:Int,r=.returned (.int .i64 z)/\(decide (0<=z)=l.any bU))/\Tb W w'):=F6 ao l cap W h G;clear h
 generalize l.any bU=b at *
 go_enter Tryz.func169,Tryz.ntmps169
 go_wp2_with (go_at_call 209;refine H.out.mono ?_;rintro r J ⟨⟨z,rfl,I⟩,C⟩;have F:Hid (Tb W J):=C;clear C;subst I)
 go_ret
 exact ⟨by simp,F.out⟩
theorem DL (h:SV W g st vn vw) (G:st.ws.length<=1000000000) :
  Ta 132 #[cd g,.func (.func 133) #[] #[]] W fun r w'=>r=.returned (.bool (st.ws.any bU))/\Below W.heap.size W w':=by
 obtain ⟨p,cap,e,_⟩:=bG h.rd;subst e;have H:Hid (Ta 169 #[.slice p st.ws.length cap,.func (.func 133) #[] #[]] W fun r w'=>r=.returned (.bool (st.ws.any bU))/\Tb W w'):=G0 p st.ws cap W (vJ h.rd) G;obtain ⟨c0,c1,c2,c3,c4,c5,c6,c7⟩:=h.sb.cells
 generalize st.ws.any bU=b at *
 generalize st.ws.length=n at *
 clear h c0 c1 c3 c4 c5 c6 c7
 go_enter Tryz.func132,Tryz.ntmps132
 go_wp2_with (go_at_call 169;refine H.out.mono ?_;rintro r I ⟨rfl,C⟩;have F:Hid (Tb W I):=C;clear C)
 go_ret
 exact ⟨rfl,F.out⟩
end Go.Proofs.YtcjiapphbpiffaaGreatDoor
