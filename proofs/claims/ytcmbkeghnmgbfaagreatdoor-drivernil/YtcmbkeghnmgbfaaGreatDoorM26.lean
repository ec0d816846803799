import Derived.Test.YtcmbkeghnmgbfaaGreatDoorM25
set_option linter.all false
set_option maxHeartbeats 1000000
namespace Go.Proofs.YtcmbkeghnmgbfaaGreatDoor
open Go.Proofs.Tryz
open Go.RowKit
open Lw (Dc bE rt cH cY iA me bD aQ bO)
variable {st:Sy}{W w:World}{g n:Nat}{l:List Dc}{ao:Option Addr}{α:Type}{vn vw:Value}
def Bz (n:Nat) (st:Sy):Prop:=st.ws.length<=n/\st.ns.length<=n/\∀x∈st.ns,x.b<=n
theorem Bz.mono {m:Nat}(h:Bz n st) (F:n<=m):Bz m st:=⟨by have:=h.1;omega,by have:=h.2.1;omega,fun x u=>by have:=h.2.2 x u;omega⟩
theorem po (p:Pz) (l:List Nd):(lZ p l).length=l.length:=by cases l<;>rfl
theorem kB (p:Pz) (l:List Nd):(pk p l).length<=1:=by unfold pk;split<;>simp
theorem Bz.aw (h:Bz n st) (p:Pz):Bz (n+1) (st.aw p):=by
 obtain⟨H,I,F⟩:=h;refine⟨?_,?_,?_⟩
 ·show(st.ws++pk p st.ns).length<=_
  have:=kB p st.ns;rw[Kf];omega
 ·show(lZ p st.ns).length<=_
  rw[po];omega
 ·intro x G;have u:x∈lZ p st.ns:=G;cases hc:st.ns with
  |nil=>rw[hc]at u;simp[lZ]at u
  |cons m r=>
   rw[hc]at u F;simp only[lZ,KL]at u;have J:=F m Ko;have M:p.n<=1:=by cases p<;>simp[Pz.n]
   rcases u with rfl|u
   ·split
    ·show m.b-1<=_;omega
    ·show m.b+p.n<=_;omega
   ·have:=F x (KA _ u);omega
theorem nH (h:st.ns≠[]) (p:Pz):(st.aw p).ns≠[]:=by
 intro e;have:(lZ p st.ns).length=0:=by rw[show lZ p st.ns=[]from e];rfl
 rw[po]at this;exact h (Kx this)
theorem Mv.seq {S:Nat->Prop}{W1:World}(h:Mv S g W W1 st):∃F,SS F W1 g st/\∀G u,Mv F g W1 G u->Mv S g W G u:=by
 obtain⟨⟨F,O,J⟩,I,hc⟩:=h;refine⟨F,O,?_⟩;rintro G u⟨⟨S2,t1,t2⟩,hk2,hc2⟩;refine⟨⟨S2,t1,fun k H=>?_⟩,I.step hk2 (fun k aa M=>?_),hc2.trans hc⟩
 ·rcases t2 k H with a|a
  ·exact J k a
  ·exact .inr (Kh I.size a)
 ·rcases J k M with a|a
  ·exact a
  ·omega
theorem kx {S:Nat->Prop}(h:SS S W g st) (M:st.ns≠[]) (hz:Bz 1000000000 st) :
  Kb 127 #[bv g] W fun r w'=>r=.returned (.tuple #[])/\Mv S g W w' (st.aw .X):=by
 obtain⟨vn,vw,O,s1,s2⟩:=h.ex
 obtain⟨n,r,F⟩:∃n r,st.ns=n :: r:=by
  cases hc:st.ns with
  |nil=>exact absurd hc M
  |cons n r=>exact⟨n,r,rfl⟩
 have G:=O.rn;rw[F]at G;obtain⟨b,cap,rfl,ae,af⟩:=ke G;have H:=hz.2.1;rw[F]at H;have HI:=ku (er O.sb.cells.2.1 (by simp at H;omega));have aa:n.b<=1000000000:=hz.2.2 n (by rw[F];exact Ko);have eN:lZ .X st.ns=⟨n.k,n.b-1,n.s⟩ :: r:=by rw[F];rfl
 have ac:=h.sg
 have HV:Hid (∀V,Kc W V->SV V g st (.slice (some ⟨b,0,none⟩) (r.length+1) cap) vw/\V.cell? ⟨b,r.length*3+1,none⟩=some (.int .i64 n.b)):=fun V J=>by
  have a3:=O.below J;refine⟨a3,?_⟩;have a4:=a3.rn;rw[F]at a4;exact(iC a4).2.1
 by_cases I:n.b=0
 ·have eW:pk .X st.ns=[]:=by unfold pk;rw[F];simp[I]
  have HX:Hid (∀V,Kc W V->Mv S g W V (st.aw .X)):=fun V J=>by
   have e9:st.aw .X=st:=by
    unfold Sy.aw;rw[eN,eW,KP,I];have:(⟨n.k,0-1,n.s⟩:Nd)=n:=by cases n;simp at I;subst I;rfl
    rw[this,<-F]
   rw[e9];exact Mv.quiet h J
  rw[I]at HV;clear O G h s1 s2 eN eW hz H aa F M I
  go_enter func127,ntmps127
  go_wp2_with(go_at_call 121;refine HI.out.mono ?_;rintro r2 w2⟨rfl,u⟩;have x1:=(HV.out _ u).2;have HM:=show Hid (Mv S g W w2 (st.aw .X))from HX.out _ u;clear u)
  go_end0
  exact⟨rfl,HM.out⟩
 ·have eW:pk .X st.ns=[dX]:=by unfold pk;rw[F];simp[I,Pz.d]
  have q0:decide ((0:Int)<(n.b:Int))=true:=by simp;omega
  have q1:(0:Int)<(n.b:Int):=by omega
  have q2:IntKind.i64.wrap ((n.b:Int)-1)=((n.b-1:Nat):Int):=by rw[Ki];omega
  have HW:=ku fun V (J:Kc W V)=>kI (HV.out V J).1 dX hz.1
  have HE:Hid (∀V w2,Kc W V->WP V w2 g st (.slice (some ⟨b,0,none⟩) (r.length+1) cap) vw (st.ws++[dX])->(w2.cell? ⟨b,r.length*3+1,none⟩=some (.int .i64 n.b)/\w2.frozen? ⟨b,r.length*3+1,none⟩=false)/\Mv S g W (w2.setCell ⟨b,r.length*3+1,none⟩ (.int .i64 ((n.b-1:Nat):Int))) (st.aw .X)):=fun V w2 J ab=>by
   obtain⟨ag,a3,a2⟩:=ab.ex;have a4:Rn tN w2 (.slice (some ⟨b,0,none⟩) (r.length+1) cap) (n :: r):=by have:=a3.rn;rw[show({ st with ws:=st.ws++[dX] }:Sy).ns=n :: r from F]at this;exact this
   refine⟨⟨(iC a4).2.1,ND a4 _⟩,?_⟩;have a5:=SV.nd (n:=n) (m:=⟨n.k,n.b-1,n.s⟩) (show({ st with ws:=st.ws++[dX] }:Sy).ns=n :: r from F) a3 1 (.int .i64 ((n.b-1:Nat):Int)) (by omega) rfl;have e9:({ ({ st with ws:=st.ws++[dX] }:Sy)with ns:=⟨n.k,n.b-1,n.s⟩ :: r }:Sy)=st.aw .X:=by unfold Sy.aw;rw[eN,eW]
   rw[e9]at a5;have hk:Kp S W (w2.setCell ⟨b,r.length*3+1,none⟩ (.int .i64 ((n.b-1:Nat):Int))):=(((Kp.of_below J).step (ab.kp.sub (S:=S) (by rintro k (e|e);rw[e];exact ac;exact s2 k e)) (fun _ _ h=>h)).step (Kp.set _ _ _ _) (fun k _ e=>by rw[e];exact s1 b rfl));refine Mv.mk' a5 ac (fun k e=>.inl (s1 k e)) (fun k e=>?_) hk O.sb.cells.2.1
   rcases a2 with a2|⟨q,hq,ad⟩
   ·exact .inl (s2 k (by rw[<-a2];exact e))
   ·rw[hq]at e;cases e;exact .inr (Kh J.size ad)
  clear O G h s1 s2 eN eW hz H aa F M I
  go_enter func127,ntmps127
  go_wp2_with(first|(go_at_call 121;refine HI.out.mono ?_;rintro r2 w2⟨rfl,u⟩;have x1:=(HV.out _ u).2;have HB:=show Hid (Kc W w2)from u;clear u)|(go_at_call 167;refine(HW.out _ HB.out).mono ?_;rintro r3 w3⟨rfl,hp3⟩;obtain⟨⟨y1,y2⟩,y3⟩:=HE.out _ _ HB.out hp3;have HX:=ku y3;clear y3 hp3))
  go_end0
  exact⟨rfl,HX.out⟩
theorem jI {S:Nat->Prop}(h:SS S W g st) (p:Pz) (u:p.n=0/\p≠.X) (I:Bz 1000000000 st) (O:st.ns≠[]\/True) :
  Kb 167 #[bv g,.agg #[.int .u8 p.d.k,.string p.d.t,.int .i64 p.d.b,.int .i64 p.d.i,.bool p.d.e]] W fun r w'=>r=.returned (.tuple #[])/\Mv S g W w' (st.aw p):=by
 obtain⟨vn,vw,F,J,M⟩:=h.ex;refine(kI F p.d I.1).mono ?_;rintro r w'⟨rfl,hp1⟩;refine⟨rfl,?_⟩;have:=hp1.mv F h.sg J M
 have e:({ st with ws:=st.ws++[p.d] }:Sy)=st.aw p:=by
  have G:lZ p st.ns=st.ns:=by
   cases st.ns with
   |nil=>rfl
   |cons n r=>simp only[lZ];rw[IO u.2,u.1];rfl
  have H:pk p st.ns=[p.d]:=by unfold pk;rw[IO (fun h=>u.2 h.1)]
  unfold Sy.aw;rw[G,H]
 rw[e]at this;exact this
theorem Bq {S:Nat->Prop}(h:SS S W g st) (G:st.ns≠[]) (I:Bz 999999990 st) :
  Kb 132 #[bv g] W fun r w'=>r=.returned (.tuple #[])/\Mv S g W w' (st.aws Fx.blank.pz):=by
 have J:=ku fun S V (hS:SS S V g st)=>jI hS .S ⟨rfl,by decide⟩ (I.mono (by omega)) (.inr trivial)
 have M:Hid (st.aws Fx.blank.pz=(st.aw .S)):=rfl;have O:=ku h;clear h I G
 go_enter func132,ntmps132
 go_wp2_with(first|(go_at_call 167;refine(J.out _ _ O.out).mono ?_;rintro r0 w0⟨rfl,F⟩;obtain⟨S0,t0,u0⟩:=Mv.seq F;have T0:=show Hid (SS S0 w0 g (st.aw .S))from t0;have U0:=show Hid (∀H u,Mv S0 g w0 H u->Mv S g W H u)from u0;have M0:=show Hid (Mv S g W w0 (st.aw .S))from F;clear t0 u0 F))
 go_end0
 rw[M.out];exact⟨rfl,M0.out⟩
theorem gN {S:Nat->Prop}(h:SS S W g st) (u:st.ns≠[]) (F:Bz 999999999 st) :
  Kb 132 #[bv g] W fun r w'=>r=.returned (.tuple #[])/\Mv S g W w' (st.aw .S):=by
 have H:=ku fun S V (M:SS S V g st)=>jI M .S ⟨rfl,by decide⟩ (F.mono (by omega)) (.inr trivial)
 have I:=ku h;clear h F u
 go_enter func132,ntmps132
 go_wp2_with(go_at_call 167;refine(H.out _ _ I.out).mono ?_;rintro O w0⟨rfl,G⟩;have J:=show Hid (Mv S g W w0 (st.aw .S))from G;clear G)
 go_end0
 exact⟨rfl,J.out⟩
theorem yo {S:Nat->Prop}(h:SS S W g st) (G:st.ns≠[]) (I:Bz 999999990 st) :
  Kb 223 #[bv g] W fun r w'=>r=.returned (.tuple #[])/\Mv S g W w' (st.aws Fx.break1.pz):=by
 have J:=ku fun S V (hS:SS S V g st)=>jI hS .B1 ⟨rfl,by decide⟩ (I.mono (by omega)) (.inr trivial)
 have M:Hid (st.aws Fx.break1.pz=(st.aw .B1)):=rfl;have O:=ku h;clear h I G
 go_enter func223,ntmps223
 go_wp2_with(first|(go_at_call 167;refine(J.out _ _ O.out).mono ?_;rintro r0 w0⟨rfl,F⟩;obtain⟨S0,t0,u0⟩:=Mv.seq F;have T0:=show Hid (SS S0 w0 g (st.aw .B1))from t0;have U0:=show Hid (∀H u,Mv S0 g w0 H u->Mv S g W H u)from u0;have M0:=show Hid (Mv S g W w0 (st.aw .B1))from F;clear t0 u0 F))
 go_end0
 rw[M.out];exact⟨rfl,M0.out⟩
theorem tV {S:Nat->Prop}(h:SS S W g st) (u:st.ns≠[]) (F:Bz 999999999 st) :
  Kb 223 #[bv g] W fun r w'=>r=.returned (.tuple #[])/\Mv S g W w' (st.aw .B1):=by
 have H:=ku fun S V (M:SS S V g st)=>jI M .B1 ⟨rfl,by decide⟩ (F.mono (by omega)) (.inr trivial)
 have I:=ku h;clear h F u
 go_enter func223,ntmps223
 go_wp2_with(go_at_call 167;refine(H.out _ _ I.out).mono ?_;rintro O w0⟨rfl,G⟩;have J:=show Hid (Mv S g W w0 (st.aw .B1))from G;clear G)
 go_end0
 exact⟨rfl,J.out⟩
theorem Eu {S:Nat->Prop}(h:SS S W g st) (G:st.ns≠[]) (I:Bz 999999990 st) :
  Kb 128 #[bv g] W fun r w'=>r=.returned (.tuple #[])/\Mv S g W w' (st.aws Fx.hard.pz):=by
 have J:=ku fun S V (hS:SS S V g st)=>jI hS .H ⟨rfl,by decide⟩ (I.mono (by omega)) (.inr trivial)
 have M:Hid (st.aws Fx.hard.pz=(st.aw .H)):=rfl;have O:=ku h;clear h I G
 go_enter func128,ntmps128
 go_wp2_with(first|(go_at_call 167;refine(J.out _ _ O.out).mono ?_;rintro r0 w0⟨rfl,F⟩;obtain⟨S0,t0,u0⟩:=Mv.seq F;have T0:=show Hid (SS S0 w0 g (st.aw .H))from t0;have U0:=show Hid (∀H u,Mv S0 g w0 H u->Mv S g W H u)from u0;have M0:=show Hid (Mv S g W w0 (st.aw .H))from F;clear t0 u0 F))
 go_end0
 rw[M.out];exact⟨rfl,M0.out⟩
theorem lF {S:Nat->Prop}(h:SS S W g st) (u:st.ns≠[]) (F:Bz 999999999 st) :
  Kb 128 #[bv g] W fun r w'=>r=.returned (.tuple #[])/\Mv S g W w' (st.aw .H):=by
 have H:=ku fun S V (M:SS S V g st)=>jI M .H ⟨rfl,by decide⟩ (F.mono (by omega)) (.inr trivial)
 have I:=ku h;clear h F u
 go_enter func128,ntmps128
 go_wp2_with(go_at_call 167;refine(H.out _ _ I.out).mono ?_;rintro O w0⟨rfl,G⟩;have J:=show Hid (Mv S g W w0 (st.aw .H))from G;clear G)
 go_end0
 exact⟨rfl,J.out⟩
theorem Ew {S:Nat->Prop}(h:SS S W g st) (u:st.ns≠[]) (I:Bz 999999990 st) :
  Kb 224 #[bv g] W fun r w'=>r=.returned (.tuple #[])/\Mv S g W w' (st.aws Fx.fend.pz):=by
 have J:=ku fun S V (hS:SS S V g st)=>kx hS u (I.mono (by omega))
 have M:Hid (st.aws Fx.fend.pz=(st.aw .X)):=rfl;have O:=ku h;clear h I u
 go_enter func224,ntmps224
 go_wp2_with(first|(go_at_call 127;refine(J.out _ _ O.out).mono ?_;rintro r0 w0⟨rfl,G⟩;obtain⟨S0,t0,u0⟩:=Mv.seq G;have T0:=show Hid (SS S0 w0 g (st.aw .X))from t0;have U0:=show Hid (∀H F,Mv S0 g w0 H F->Mv S g W H F)from u0;have M0:=show Hid (Mv S g W w0 (st.aw .X))from G;clear t0 u0 G))
 go_end0
 rw[M.out];exact⟨rfl,M0.out⟩
theorem Ha {S:Nat->Prop}(h:SS S W g st) (u:st.ns≠[]) (G:Bz 999999990 st) :
  Kb 228 #[bv g] W fun r w'=>r=.returned (.tuple #[])/\Mv S g W w' (st.aws Fx.in1.pz):=by
 have J:=ku fun S V (hS:SS S V g st)=>dz hS (.I 1) ⟨rfl,rfl⟩ u (by have:=(G).1;omega) (by have:=(G).2.1;omega) (fun n hn=>by have:=(G).2.2 n hn;omega)
 have M:Hid (st.aws Fx.in1.pz=(st.aw (.I 1))):=rfl;have O:=ku h;clear h G u
 go_enter func228,ntmps228
 go_wp2_with(first|(go_at_call 126;refine(J.out _ _ O.out).mono ?_;rintro r0 w0⟨rfl,H⟩;obtain⟨S0,t0,u0⟩:=Mv.seq H;have T0:=show Hid (SS S0 w0 g (st.aw (.I 1)))from t0;have U0:=show Hid (∀I F,Mv S0 g w0 I F->Mv S g W I F)from u0;have M0:=show Hid (Mv S g W w0 (st.aw (.I 1)))from H;clear t0 u0 H))
 go_end0
 rw[M.out];exact⟨rfl,M0.out⟩
theorem G9 {S:Nat->Prop}(h:SS S W g st) (u:st.ns≠[]) (G:Bz 999999990 st) :
  Kb 229 #[bv g] W fun r w'=>r=.returned (.tuple #[])/\Mv S g W w' (st.aws Fx.in2.pz):=by
 have J:=ku fun S V (hS:SS S V g st)=>dz hS (.I 2) ⟨rfl,rfl⟩ u (by have:=(G).1;omega) (by have:=(G).2.1;omega) (fun n hn=>by have:=(G).2.2 n hn;omega)
 have M:Hid (st.aws Fx.in2.pz=(st.aw (.I 2))):=rfl;have O:=ku h;clear h G u
 go_enter func229,ntmps229
 go_wp2_with(first|(go_at_call 126;refine(J.out _ _ O.out).mono ?_;rintro r0 w0⟨rfl,H⟩;obtain⟨S0,t0,u0⟩:=Mv.seq H;have T0:=show Hid (SS S0 w0 g (st.aw (.I 2)))from t0;have U0:=show Hid (∀I F,Mv S0 g w0 I F->Mv S g W I F)from u0;have M0:=show Hid (Mv S g W w0 (st.aw (.I 2)))from H;clear t0 u0 H))
 go_end0
 rw[M.out];exact⟨rfl,M0.out⟩
theorem vN {S:Nat->Prop}(h:SS S W g st) (u:st.ns≠[]) (F:Bz 999999999 st) :
  Kb 229 #[bv g] W fun r w'=>r=.returned (.tuple #[])/\Mv S g W w' (st.aw (.I 2)):=by
 have H:=ku fun S V (M:SS S V g st)=>dz M (.I 2) ⟨rfl,rfl⟩ u (by have:=F.1;omega) (by have:=F.2.1;omega) (fun n O=>by have:=F.2.2 n O;omega)
 have I:=ku h;clear h F u
 go_enter func229,ntmps229
 go_wp2_with(go_at_call 126;refine(H.out _ _ I.out).mono ?_;rintro r0 w0⟨rfl,G⟩;have J:=show Hid (Mv S g W w0 (st.aw (.I 2)))from G;clear G)
 go_end0
 exact⟨rfl,J.out⟩
theorem rx {S:Nat->Prop}(h:SS S W g st) (u:st.ns≠[]) (H:Bz 999999990 st) :
  Kb 227 #[bv g] W fun r w'=>r=.returned (.tuple #[])/\Mv S g W w' (st.aws Fx.endBlank.pz):=by
 have M:=ku fun S V (G:SS S V g st)=>kx G u (H.mono (by omega))
 have O:=ku fun S V (G:SS S V g (st.aw .X))=>gN G (nH u .X) ((H.aw .X).mono (by omega))
 have HE:Hid (st.aws Fx.endBlank.pz=((st.aw .X).aw (.S))):=rfl;have HS:=ku h;clear h H u
 go_enter func227,ntmps227
 go_wp2_with(first|(go_at_call 132;refine(O.out _ _ T0.out).mono ?_;rintro r1 w1⟨rfl,J⟩;have M1:=show Hid (Mv S0 g w0 w1 ((st.aw .X).aw (.S)))from J;clear J)|(go_at_call 127;refine(M.out _ _ HS.out).mono ?_;rintro r0 w0⟨rfl,m0⟩;obtain⟨S0,t0,u0⟩:=Mv.seq m0;have T0:=show Hid (SS S0 w0 g (st.aw .X))from t0;have U0:=show Hid (∀I F,Mv S0 g w0 I F->Mv S g W I F)from u0;have M0:=show Hid (Mv S g W w0 (st.aw .X))from m0;clear t0 u0 m0))
 go_end0
 rw[HE.out];exact⟨rfl,U0.out _ _ M1.out⟩
theorem tU {S:Nat->Prop}(h:SS S W g st) (u:st.ns≠[]) (H:Bz 999999990 st) :
  Kb 221 #[bv g] W fun r w'=>r=.returned (.tuple #[])/\Mv S g W w' (st.aws Fx.endHard.pz):=by
 have M:=ku fun S V (G:SS S V g st)=>kx G u (H.mono (by omega))
 have O:=ku fun S V (G:SS S V g (st.aw .X))=>lF G (nH u .X) ((H.aw .X).mono (by omega))
 have HE:Hid (st.aws Fx.endHard.pz=((st.aw .X).aw (.H))):=rfl;have HS:=ku h;clear h H u
 go_enter func221,ntmps221
 go_wp2_with(first|(go_at_call 128;refine(O.out _ _ T0.out).mono ?_;rintro r1 w1⟨rfl,J⟩;have M1:=show Hid (Mv S0 g w0 w1 ((st.aw .X).aw (.H)))from J;clear J)|(go_at_call 127;refine(M.out _ _ HS.out).mono ?_;rintro r0 w0⟨rfl,m0⟩;obtain⟨S0,t0,u0⟩:=Mv.seq m0;have T0:=show Hid (SS S0 w0 g (st.aw .X))from t0;have U0:=show Hid (∀I F,Mv S0 g w0 I F->Mv S g W I F)from u0;have M0:=show Hid (Mv S g W w0 (st.aw .X))from m0;clear t0 u0 m0))
 go_end0
 rw[HE.out];exact⟨rfl,U0.out _ _ M1.out⟩
theorem oM {S:Nat->Prop}(h:SS S W g st) (u:st.ns≠[]) (H:Bz 999999990 st) :
  Kb 226 #[bv g] W fun r w'=>r=.returned (.tuple #[])/\Mv S g W w' (st.aws Fx.in2Break0.pz):=by
 have M:=ku fun S V (G:SS S V g st)=>vN G u (H.mono (by omega))
 have O:=ku fun S V (G:SS S V g (st.aw (.I 2)))=>jI G .B0 ⟨rfl,by decide⟩ ((H.aw (.I 2)).mono (by omega)) (.inr trivial)
 have HE:Hid (st.aws Fx.in2Break0.pz=((st.aw (.I 2)).aw .B0)):=rfl;have HS:=ku h;clear h H u
 go_enter func226,ntmps226
 go_wp2_with(first|(go_at_call 167;refine(O.out _ _ T0.out).mono ?_;rintro r1 w1⟨rfl,J⟩;have M1:=show Hid (Mv S0 g w0 w1 ((st.aw (.I 2)).aw .B0))from J;clear J)|(go_at_call 229;refine(M.out _ _ HS.out).mono ?_;rintro r0 w0⟨rfl,m0⟩;obtain⟨S0,t0,u0⟩:=Mv.seq m0;have T0:=show Hid (SS S0 w0 g (st.aw (.I 2)))from t0;have U0:=show Hid (∀I F,Mv S0 g w0 I F->Mv S g W I F)from u0;have M0:=show Hid (Mv S g W w0 (st.aw (.I 2)))from m0;clear t0 u0 m0))
 go_end0
 rw[HE.out];exact⟨rfl,U0.out _ _ M1.out⟩
theorem oL {S:Nat->Prop}(h:SS S W g st) (u:st.ns≠[]) (H:Bz 999999990 st) :
  Kb 225 #[bv g] W fun r w'=>r=.returned (.tuple #[])/\Mv S g W w' (st.aws Fx.in2Break1.pz):=by
 have M:=ku fun S V (G:SS S V g st)=>vN G u (H.mono (by omega))
 have O:=ku fun S V (G:SS S V g (st.aw (.I 2)))=>tV G (nH u (.I 2)) ((H.aw (.I 2)).mono (by omega))
 have HE:Hid (st.aws Fx.in2Break1.pz=((st.aw (.I 2)).aw (.B1))):=rfl;have HS:=ku h;clear h H u
 go_enter func225,ntmps225
 go_wp2_with(first|(go_at_call 223;refine(O.out _ _ T0.out).mono ?_;rintro r1 w1⟨rfl,J⟩;have M1:=show Hid (Mv S0 g w0 w1 ((st.aw (.I 2)).aw (.B1)))from J;clear J)|(go_at_call 229;refine(M.out _ _ HS.out).mono ?_;rintro r0 w0⟨rfl,m0⟩;obtain⟨S0,t0,u0⟩:=Mv.seq m0;have T0:=show Hid (SS S0 w0 g (st.aw (.I 2)))from t0;have U0:=show Hid (∀I F,Mv S0 g w0 I F->Mv S g W I F)from u0;have M0:=show Hid (Mv S g W w0 (st.aw (.I 2)))from m0;clear t0 u0 m0))
 go_end0
 rw[HE.out];exact⟨rfl,U0.out _ _ M1.out⟩
theorem oN {S:Nat->Prop}(h:SS S W g st) (u:st.ns≠[]) (F:Bz 999999990 st) :
  Kb 220 #[bv g] W fun r w'=>r=.returned (.tuple #[])/\Mv S g W w' (st.aws Fx.even2Hard.pz):=by
 have M:=ku fun S V (H:SS S V g st)=>dz H (.J) ⟨rfl,rfl⟩ u (by have:=(F).1;omega) (by have:=(F).2.1;omega) (fun n hn=>by have:=(F).2.2 n hn;omega)
 have O:=ku fun S V (H:SS S V g (st.aw (.J)))=>lF H (nH u (.J)) ((F.aw (.J)).mono (by omega))
 have HE:Hid (st.aws Fx.even2Hard.pz=((st.aw (.J)).aw (.H))):=rfl;have HS:=ku h;clear h F u
 go_enter func220,ntmps220
 go_wp2_with(first|(go_at_call 128;refine(O.out _ _ T0.out).mono ?_;rintro r1 w1⟨rfl,J⟩;have M1:=show Hid (Mv S0 g w0 w1 ((st.aw (.J)).aw (.H)))from J;clear J)|(go_at_call 126;refine(M.out _ _ HS.out).mono ?_;rintro r0 w0⟨rfl,m0⟩;obtain⟨S0,t0,u0⟩:=Mv.seq m0;have T0:=show Hid (SS S0 w0 g (st.aw (.J)))from t0;have U0:=show Hid (∀I G,Mv S0 g w0 I G->Mv S g W I G)from u0;have M0:=show Hid (Mv S g W w0 (st.aw (.J)))from m0;clear t0 u0 m0))
 go_end0
 rw[HE.out];exact⟨rfl,U0.out _ _ M1.out⟩
theorem jP {S:Nat->Prop}(h:SS S W g st) (u:st.ns≠[]) (F:Bz 999999990 st) :
  Kb 166 #[bv g] W fun r w'=>r=.returned (.tuple #[])/\Mv S g W w' (st.aws Fx.blankIn3.pz):=by
 have M:=ku fun S V (H:SS S V g st)=>gN H u (F.mono (by omega))
 have O:=ku fun S V (H:SS S V g (st.aw (.S)))=>dz H (.I 3) ⟨rfl,rfl⟩ (nH u (.S)) (by have:=((F.aw (.S))).1;omega) (by have:=((F.aw (.S))).2.1;omega) (fun n hn=>by have:=((F.aw (.S))).2.2 n hn;omega)
 have HE:Hid (st.aws Fx.blankIn3.pz=((st.aw (.S)).aw (.I 3))):=rfl;have HS:=ku h;clear h F u
 go_enter func166,ntmps166
 go_wp2_with(first|(go_at_call 126;refine(O.out _ _ T0.out).mono ?_;rintro r1 w1⟨rfl,J⟩;have M1:=show Hid (Mv S0 g w0 w1 ((st.aw (.S)).aw (.I 3)))from J;clear J)|(go_at_call 132;refine(M.out _ _ HS.out).mono ?_;rintro r0 w0⟨rfl,m0⟩;obtain⟨S0,t0,u0⟩:=Mv.seq m0;have T0:=show Hid (SS S0 w0 g (st.aw (.S)))from t0;have U0:=show Hid (∀I G,Mv S0 g w0 I G->Mv S g W I G)from u0;have M0:=show Hid (Mv S g W w0 (st.aw (.S)))from m0;clear t0 u0 m0))
 go_end0
 rw[HE.out];exact⟨rfl,U0.out _ _ M1.out⟩
theorem ry {S:Nat->Prop}(h:SS S W g st) (u:st.ns≠[]) (F:Bz 999999990 st) :
  Kb 222 #[bv g] W fun r w'=>r=.returned (.tuple #[])/\Mv S g W w' (st.aws Fx.blankIn4.pz):=by
 have M:=ku fun S V (H:SS S V g st)=>gN H u (F.mono (by omega))
 have O:=ku fun S V (H:SS S V g (st.aw (.S)))=>dz H (.I 4) ⟨rfl,rfl⟩ (nH u (.S)) (by have:=((F.aw (.S))).1;omega) (by have:=((F.aw (.S))).2.1;omega) (fun n hn=>by have:=((F.aw (.S))).2.2 n hn;omega)
 have HE:Hid (st.aws Fx.blankIn4.pz=((st.aw (.S)).aw (.I 4))):=rfl;have HS:=ku h;clear h F u
 go_enter func222,ntmps222
 go_wp2_with(first|(go_at_call 126;refine(O.out _ _ T0.out).mono ?_;rintro r1 w1⟨rfl,J⟩;have M1:=show Hid (Mv S0 g w0 w1 ((st.aw (.S)).aw (.I 4)))from J;clear J)|(go_at_call 132;refine(M.out _ _ HS.out).mono ?_;rintro r0 w0⟨rfl,m0⟩;obtain⟨S0,t0,u0⟩:=Mv.seq m0;have T0:=show Hid (SS S0 w0 g (st.aw (.S)))from t0;have U0:=show Hid (∀I G,Mv S0 g w0 I G->Mv S g W I G)from u0;have M0:=show Hid (Mv S g W w0 (st.aw (.S)))from m0;clear t0 u0 m0))
 go_end0
 rw[HE.out];exact⟨rfl,U0.out _ _ M1.out⟩
theorem tT {S:Nat->Prop}(h:SS S W g st) :
  Kb 170 #[bv g] W fun r w'=>r=.returned (.tuple #[])/\Mv S g W w' (st.aws Fx.nothing.pz):=by
 have u:=ku (Mv.refl h);clear h
 go_enter func170,ntmps170
 go_wp2_with fail
 go_end0
 exact⟨rfl,u.out⟩
def Fx.id:Fx->Nat
 |.nothing=>170
 |.blank=>132
 |.break1=>223
 |.hard=>128
 |.fend=>224
 |.in1=>228
 |.in2=>229
 |.endBlank=>227
 |.endHard=>221
 |.in2Break0=>226
 |.in2Break1=>225
 |.even2Hard=>220
 |.blankIn3=>166
 |.blankIn4=>222
theorem Br (f:Fx) {S:Nat->Prop}{W:World}{g:Nat}{st:Sy}(h:SS S W g st) (u:st.ns≠[]) (F:Bz 999999990 st) :
  Kb f.id #[bv g] W fun r w'=>r=.returned (.tuple #[])/\Mv S g W w' (st.aws f.pz):=by
 cases f with
 |nothing=>exact tT h
 |blank=>exact Bq h u F
 |break1=>exact yo h u F
 |hard=>exact Eu h u F
 |fend=>exact Ew h u F
 |in1=>exact Ha h u F
 |in2=>exact G9 h u F
 |endBlank=>exact rx h u F
 |endHard=>exact tU h u F
 |in2Break0=>exact oM h u F
 |in2Break1=>exact oL h u F
 |even2Hard=>exact oN h u F
 |blankIn3=>exact jP h u F
 |blankIn4=>exact ry h u F
open Lw (Dc bE rt cH cY iA me bD aQ bO BN vC oE lr Cv)
theorem xa (c:UInt8) (w:World):Kb 165 #[.int .u8 (c.toNat:Int)] w fun e w'=>e=.returned (.bool (BN c))/\w'=w:=by
 have u:((c.toNat:Int)==32)=(c==32):=by revert c;exact Cv (by decide +kernel)
 have F:((c.toNat:Int)==10)=(c==10):=by revert c;exact Cv (by decide +kernel)
 have e:BN c=((c.toNat:Int)==32||(c.toNat:Int)==10):=by rw[u,F];rfl
 rw[e];clear e u F
 generalize(c.toNat:Int)=z
 go_enter func165,ntmps165
 go_wp2_with fail
 all_goals(go_ret;simp_all)
theorem wR (t:ByteArray) (ht:t.size<=9223372036854775807) (w:World):Kb 122 #[.string t] w fun e w'=>e=.returned (.bool (iA t))/\w'=w:=by
 by_cases H:t.size=0
 ·have O:t=⟨#[]⟩:=by
   apply oE
   exact Kx (by rw[lr];exact H)
  subst O
  go_enter func122,ntmps122
  go_wp2_with fail
  go_ret
  exact⟨rfl,rfl⟩
 ·have aa:¬t.toList=[]:=by
   rw[Lib.toList_data];intro hl;exact absurd (by have:=lr t;rw[vC,hl]at this;simpa using this.symm) H
  by_cases I:t.size<=65535
  ·have F:0<t.size:=by omega
   have u:t.size-1<t.size:=by omega
   have G:Hid (iA t=(!BN t[0]&&!BN (t[t.size-1]))):=by
    show _=_
    unfold iA;have J:(vC t).getD 0 0=t[0]:=(Lib.getD_at t 0 F).symm;have M:(vC t).getD (t.size-1) 0=t[t.size-1]:=(Lib.getD_at t (t.size-1) u).symm;rw[J,M];simp[I,show 1<=t.size by omega]
   go_enter func122,ntmps122
   go_wp2_with(go_at_call 165;refine(xa _ _).mono ?_;rintro e w1⟨rfl,rfl⟩)
   all_goals(go_ret;rw[G.out];clear G;refine⟨?_,rfl⟩;simp_all)
  ·go_enter func122,ntmps122
   go_wp2_with fail
   go_ret
   refine⟨?_,rfl⟩;simp[iA,I]
theorem rg (d:Dc) (w:World):Kb 171 #[.agg #[.int .u8 d.k,.string d.t,.int .i64 d.b,.int .i64 d.i,.bool d.e]] w fun e w'=>e=.returned (.bool (bC d))/\Kc w w':=by
 have F:Hid (bC d=(d.k==6)):=by show _=_;unfold bC;by_cases h:d.k=6<;>simp[h]
 have u:Hid (∀o,Kc w (w.alloc o)):=fun o=>(gt _ _).alloc (ge _) _
 go_enter func171,ntmps171
 go_wp2_with fail
 go_ret
 rw[F.out];exact⟨rfl,u.out _⟩
theorem A6 (d:Dc) (w:World):Kb 117 #[.agg #[.int .u8 d.k,.string d.t,.int .i64 d.b,.int .i64 d.i,.bool d.e]] w fun e w'=>e=.returned (.bool (d8 d))/\Kc w w':=by
 have F:Hid (d8 d=(d.k==4)):=by show _=_;unfold d8;by_cases h:d.k=4<;>simp[h]
 have u:Hid (∀o,Kc w (w.alloc o)):=fun o=>(gt _ _).alloc (ge _) _
 go_enter func117,ntmps117
 go_wp2_with fail
 go_ret
 rw[F.out];exact⟨rfl,u.out _⟩
theorem A7 (d:Dc) (w:World):Kb 131 #[.agg #[.int .u8 d.k,.string d.t,.int .i64 d.b,.int .i64 d.i,.bool d.e]] w fun e w'=>e=.returned (.bool (dr d))/\Kc w w':=by
 have G:Hid (∀o,Kc w (w.alloc o)):=fun o=>(gt _ _).alloc (ge _) _
 obtain⟨k,t,b,i,e⟩:=d
 dsimp only
 by_cases u:k=2
 ·subst u
  go_enter func131,ntmps131
  go_wp2_with fail
  go_ret
  exact⟨rfl,G.out _⟩
 ·have q2:(k==2)=false:=by simpa using u
  by_cases F:k=4
  ·subst F
   go_enter func131,ntmps131
   go_wp2_with fail
   go_ret
   exact⟨rfl,G.out _⟩
  ·have q4:(k==4)=false:=by simpa using F
   have I:Hid (dr ⟨k,t,b,i,e⟩=(k==3&&(t.toList==[]&&(b==1&&(i==0&&!e))))):=by
    show _=_
    unfold dr dB;rw[Kr u,Kr F,Bool.false_or,Bool.false_or];have ht:=Lw.Df t;have H:bE.toList=[]:=by rw[Lib.toList_data];rfl
    by_cases J:k=3<;>by_cases M:t=bE<;>by_cases O:b=1<;>by_cases a4:i=0<;>cases e<;>simp[J,M,O,a4,ht,H]
   clear u F
   go_enter func131,ntmps131
   go_wp2_with fail
   all_goals(go_ret;rw[I.out];refine⟨?_,G.out _⟩;simp_all)
theorem A8 (t:Tv) (w:World):Kb 123 #[.agg #[.int .u8 t.k,.string t.t,.int .i64 t.a,.int .i64 t.l,.int .i64 t.c,.int .i64 t.f]] w fun e w'=>e=.returned (.bool (decide (t.k=7\/t.k=8)))/\Kc w w':=by
 have u:Hid (∀o,Kc w (w.alloc o)):=fun o=>(gt _ _).alloc (ge _) _
 have F:Hid (decide (t.k=7\/t.k=8)=(t.k==7||t.k==8)):=by show _=_;by_cases a:t.k=7<;>by_cases b:t.k=8<;>simp[a,b]
 go_enter func123,ntmps123
 go_wp2_with fail
 all_goals(go_ret;rw[F.out];refine⟨?_,u.out _⟩;simp_all)
theorem kO (t:Tv) (w:World):Kb 133 #[.agg #[.int .u8 t.k,.string t.t,.int .i64 t.a,.int .i64 t.l,.int .i64 t.c,.int .i64 t.f]] w fun e w'=>e=.returned (.agg #[.int .u8 1,.string t.t,.int .i64 0,.int .i64 0,.bool false])/\Below w.heap.size w w':=by
 obtain⟨V,F⟩:∃V,w.alloc (.cells #[.int .u8 t.k,.string t.t,.int .i64 t.a,.int .i64 t.l,.int .i64 t.c,.int .i64 t.f] 76)=V:=⟨_,rfl⟩;have O:Below w.heap.size w V:=by rw[<-F];exact(gt _ _).alloc (ge _) _
 have hs:V.heap.size=w.heap.size+1:=by rw[<-F];show(w.heap.push _).size=_;simp
 have u:=am V (.cells #[.int .u8 1,.string t.t,.int .i64 0,.int .i64 0,.bool false] 151);rw[hs,<-F]at u;have HN:Hid ((V.alloc (.cells #[.int .u8 1,.string t.t,.int .i64 0,.int .i64 0,.bool false] 151))=(V.alloc (.cells #[.int .u8 1,.string t.t,.int .i64 0,.int .i64 0,.bool false] 151))/\∀o,Below w.heap.size w (V.alloc o)):=⟨rfl,fun o=>O.alloc O.size _⟩;rw[<-F]at HN;have G:=aa (k:=0) u rfl;have H:=aa (k:=1) u rfl;have I:=aa (k:=2) u rfl;have J:=aa (k:=3) u rfl;have M:=aa (k:=4) u rfl;have HM:Hid _:=And.intro G (And.intro H (And.intro I (And.intro J M)));clear F hs u O G H I J M
 go_enter func133,ntmps133
 go_wp2_with fail
 obtain⟨G,H,I,J,M⟩:=HM.out;refine Kv (v:=.agg #[.int .u8 1,.string t.t,.int .i64 0,.int .i64 0,.bool false]) (by simp[results,Tryz.f133,go_sem,G,H,I,J,M]) rfl ?_;exact⟨rfl,HN.out.2 _⟩
theorem yk (k:Int) (w:World):Kb 125 #[.int .u8 k] w fun e w'=>e=.returned (.bool (iK k))/\w'=w:=by
 by_cases h:iK k=true
 ·have u:=KQ h;rw[h]
  rcases u with rfl|rfl|rfl|rfl|rfl|rfl|rfl|rfl|rfl|rfl|rfl|rfl
  all_goals(
   go_enter func125,ntmps125
   go_wp2_with fail
   go_ret
   exact⟨rfl,rfl⟩)
 ·have u:¬_:=fun e=>h (Ku e)
  rw[Bool.eq_false_iff.2 h];simp only[not_or]at u;obtain⟨F,G,H,I,J,M,O,a8,a9,b1,b2,b3⟩:=u;have p1:(k==3)=false:=by simpa using F
  have p2:(k==4)=false:=by simpa using G
  have p3:(k==5)=false:=by simpa using H
  have p4:(k==11)=false:=by simpa using I
  have p5:(k==13)=false:=by simpa using J
  have p6:(k==14)=false:=by simpa using M
  have p7:(k==15)=false:=by simpa using O
  have p8:(k==16)=false:=by simpa using a8
  have p9:(k==17)=false:=by simpa using a9
  have r1:(k==18)=false:=by simpa using b1
  have r2:(k==19)=false:=by simpa using b2
  have r3:(k==20)=false:=by simpa using b3
  clear h F G H I J M O a8 a9 b1 b2 b3
  go_enter func125,ntmps125
  go_wp2_with fail
  go_ret
  exact⟨rfl,rfl⟩
theorem dV {dn:Bool}(c0:W.cell? ⟨g,0,none⟩=some (.bool dn)):Kb 77 #[bv g] W fun r w'=>r=.returned (.int .i64 (if dn then 4 else 0))/\w'=W:=by
 cases dn
 all_goals(
  go_enter func77,ntmps77
  go_wp2_with fail
  go_ret
  exact⟨rfl,rfl⟩)
def Ld (w:World) (ao:Option Addr) (l:List Dc):Prop:=∀j d,l[j]?=some d->∃b off,ao=some ⟨b,off,none⟩ /\
 w.cell? ⟨b,off+j*5,none⟩=some (.int .u8 d.k)/\w.cell? ⟨b,off+j*5+1,none⟩=some (.string d.t)/\w.cell? ⟨b,off+j*5+2,none⟩=some (.int .i64 d.b)/\w.cell? ⟨b,off+j*5+3,none⟩=some (.int .i64 d.i)/\w.cell? ⟨b,off+j*5+4,none⟩=some (.bool d.e)
theorem Ld.kp {S:Nat->Prop}{w w':World}{ao:Option Addr}{l:List Dc}(h:Ld w ao l) (J:Kp S w w') (H:∀a,ao=some a->¬S a.block):Ld w' ao l:=by
 intro j a I;obtain⟨b,F,G,c0,c1,c2,c3,c4⟩:=h j a I;have u:=Kg _ _ c0;have e:w'.heap[b]?=w.heap[b]?:=J.block b u (H _ G);exact⟨b,F,G,(Kn (a:=⟨b,_,none⟩) e).trans c0,(Kn (a:=⟨b,_,none⟩) e).trans c1,(Kn (a:=⟨b,_,none⟩) e).trans c2,(Kn (a:=⟨b,_,none⟩) e).trans c3,(Kn (a:=⟨b,_,none⟩) e).trans c4⟩
theorem Ld.below {w':World}(h:Ld w ao l) (u:Below w.heap.size w w'):Ld w' ao l:=h.kp (Kp.of_below (S:=fun _=>False) u) (fun _ _ h=>h)
theorem Ld.take (h:Ld w ao l) (n:Nat):Ld w ao (l.take n):=by
 intro j d u;rw[KI]at u
 split at u
 ·exact h j d u
 ·cases u
theorem qp {p:Option Addr}{cap:Nat}(h:Rd w (.slice p n cap) l):Ld w p l:=by
 intro j d F
 rcases h.2 with⟨G,I⟩|⟨g,H,M,G,_⟩
 ·have:l=[]:=Kx I;subst this;simp at F
 ·cases G
  have hc:∀(k:Nat) (u:Value),(bD l)[k]?=some u->w.cell? ⟨g,k,none⟩=some u:=fun k u J=>by
   have:=Oc h (g:=g) rfl k u J;rw[KV,Km]at this;exact this
  refine⟨g,0,rfl,?_,?_,?_,?_,?_⟩
  ·rw[Km];exact hc _ _ (aO Dc.cs 5 Lw.Dc.cs_len l j 0 d _ F rfl)
  ·rw[Km];exact hc _ _ (aO Dc.cs 5 Lw.Dc.cs_len l j 1 d _ F rfl)
  ·rw[Km];exact hc _ _ (aO Dc.cs 5 Lw.Dc.cs_len l j 2 d _ F rfl)
  ·rw[Km];exact hc _ _ (aO Dc.cs 5 Lw.Dc.cs_len l j 3 d _ F rfl)
  ·rw[Km];exact hc _ _ (aO Dc.cs 5 Lw.Dc.cs_len l j 4 d _ F rfl)
theorem i8 (p:α->Bool) (l:List α) (k:Nat) (x:α) (u:l[k]?=some x) (h:(l.take k).any p=false):(l.take (k+1)).any p=p x:=by
 rw[NK,u,List.any_append,h];simp
theorem iZ (p:α->Bool) (l:List α) (k:Nat) (h:(l.take k).any p=true):l.any p=true:=by
 rw[O0]at h ⊢;obtain⟨x,u,e⟩:=h;exact⟨x,List.mem_of_mem_take u,e⟩
theorem A5 (ao:Option Addr) (l:List Dc) (cap:Nat) (W:World) (h:Ld W ao l) (hl:l.length<=1000000000) :
  Kb 215 #[.slice ao l.length cap,.func (.func 171) #[] #[]] W fun r w'=>(∃z:Int,r=.returned (.int .i64 z)/\(decide (0<=z)=l.any bC))/\Kc W w':=by
 have H:=ku h;clear h;have HP:=ku rg
 go_enter func215,ntmps215
 go_wp2_with fail
 go_loopw [5,8] (fun _ i wr=>∃k:Nat,k<=l.length/\i=.int .i64 k/\Hid ((l.take k).any bC=false)/\Hid (Kc W wr)) (fun _ i _=>l.length-(intOf i).toNat)
 case atStart=>exact⟨0,Kj _,rfl,by show _=_;simp,gt _ _⟩
 case round=>
  obtain⟨k,hk,rfl,HI,F⟩:=hrel
  by_cases I:k<l.length
  ·have q1:(k:Int)<l.length:=by omega
   have q0:(0:Int)<=k:=by omega
   obtain⟨x,M⟩:∃x,l[k]?=some x:=⟨_,Ke I⟩;obtain⟨b,off,rfl,c0,c1,c2,c3,c4⟩:=(H.out.below F.out) k x M;have HS:=ku (i8 bC l k x M HI.out);have HT:Hid ((l.take (k+1)).any bC=true->l.any bC=true):=iZ bC l _;clear M
   by_cases J:bC x=true
   ·go_wp2_with(go_at_call 171;refine(HP.out x _).mono ?_;rintro e O⟨rfl,u⟩;rw[J];have HC:=ku (F.out.trans (u.mono F.out.size));clear u)
    go_ret
    exact⟨⟨_,rfl,by rw[HT.out (HS.out.trans J)];simp⟩,HC.out⟩
   ·have G:bC x=false:=by simpa using J
    clear J
    go_wp2_with(go_at_call 171;refine(HP.out x _).mono ?_;rintro e O⟨rfl,u⟩;rw[G];have HC:=ku (F.out.trans (u.mono F.out.size));clear u)
    exact⟨⟨k+1,I,by go_num,HS.out.trans G,HC⟩,by simp[intOf];omega⟩
  ·obtain rfl:k=l.length:=by omega
   have q1:¬((l.length:Int)<l.length):=by omega
   go_wp2_with fail
   go_ret
   refine⟨⟨_,rfl,?_⟩,F.out⟩;have:=HI.out;rw[L6]at this;rw[this];rfl
theorem B9 (ao:Option Addr) (l:List Dc) (cap:Nat) (W:World) (h:Ld W ao l) (hl:l.length<=1000000000) :
  Kb 159 #[.slice ao l.length cap,.func (.func 171) #[] #[]] W fun r w'=>r=.returned (.bool (l.any bC))/\Kc W w':=by
 have H:=ku (A5 ao l cap W h hl);clear h
 generalize l.any bC=b at *
 go_enter func159,ntmps159
 go_wp2_with(go_at_call 215;refine H.out.mono ?_;rintro r I⟨⟨z,rfl,G⟩,u⟩;have F:=ku u;clear u;subst G)
 go_ret
 exact⟨by simp,F.out⟩
theorem A3 (ao:Option Addr) (l:List Dc) (cap:Nat) (W:World) (h:Ld W ao l) (hl:l.length<=1000000000) :
  Kb 215 #[.slice ao l.length cap,.func (.func 117) #[] #[]] W fun r w'=>(∃z:Int,r=.returned (.int .i64 z)/\(decide (0<=z)=l.any d8))/\Kc W w':=by
 have H:=ku h;clear h;have HP:=ku A6
 go_enter func215,ntmps215
 go_wp2_with fail
 go_loopw [5,8] (fun _ i wr=>∃k:Nat,k<=l.length/\i=.int .i64 k/\Hid ((l.take k).any d8=false)/\Hid (Kc W wr)) (fun _ i _=>l.length-(intOf i).toNat)
 case atStart=>exact⟨0,Kj _,rfl,by show _=_;simp,gt _ _⟩
 case round=>
  obtain⟨k,hk,rfl,HI,F⟩:=hrel
  by_cases I:k<l.length
  ·have q1:(k:Int)<l.length:=by omega
   have q0:(0:Int)<=k:=by omega
   obtain⟨x,M⟩:∃x,l[k]?=some x:=⟨_,Ke I⟩;obtain⟨b,off,rfl,c0,c1,c2,c3,c4⟩:=(H.out.below F.out) k x M;have HS:=ku (i8 d8 l k x M HI.out);have HT:Hid ((l.take (k+1)).any d8=true->l.any d8=true):=iZ d8 l _;clear M
   by_cases J:d8 x=true
   ·go_wp2_with(go_at_call 117;refine(HP.out x _).mono ?_;rintro e O⟨rfl,u⟩;rw[J];have HC:=ku (F.out.trans (u.mono F.out.size));clear u)
    go_ret
    exact⟨⟨_,rfl,by rw[HT.out (HS.out.trans J)];simp⟩,HC.out⟩
   ·have G:d8 x=false:=by simpa using J
    clear J
    go_wp2_with(go_at_call 117;refine(HP.out x _).mono ?_;rintro e O⟨rfl,u⟩;rw[G];have HC:=ku (F.out.trans (u.mono F.out.size));clear u)
    exact⟨⟨k+1,I,by go_num,HS.out.trans G,HC⟩,by simp[intOf];omega⟩
  ·obtain rfl:k=l.length:=by omega
   have q1:¬((l.length:Int)<l.length):=by omega
   go_wp2_with fail
   go_ret
   refine⟨⟨_,rfl,?_⟩,F.out⟩;have:=HI.out;rw[L6]at this;rw[this];rfl
theorem B7 (ao:Option Addr) (l:List Dc) (cap:Nat) (W:World) (h:Ld W ao l) (hl:l.length<=1000000000) :
  Kb 159 #[.slice ao l.length cap,.func (.func 117) #[] #[]] W fun r w'=>r=.returned (.bool (l.any d8))/\Kc W w':=by
 have H:=ku (A3 ao l cap W h hl);clear h
 generalize l.any d8=b at *
 go_enter func159,ntmps159
 go_wp2_with(go_at_call 215;refine H.out.mono ?_;rintro r I⟨⟨z,rfl,G⟩,u⟩;have F:=ku u;clear u;subst G)
 go_ret
 exact⟨by simp,F.out⟩
theorem yP (h:SV W g st vn vw) (hl:st.ws.length<=1000000000) :
  Kb 116 #[bv g,.func (.func 117) #[] #[]] W fun r w'=>r=.returned (.bool (st.ws.any d8))/\Kc W w':=by
 obtain⟨p,cap,e,_⟩:=bG h.rd;subst e;have H:=ku (B7 p st.ws cap W (qp h.rd) hl);obtain⟨c0,c1,c2,c3,c4,c5,c6,c7⟩:=h.sb.cells
 generalize st.ws.any d8=b at *
 generalize st.ws.length=n at *
 clear h c0 c1 c3 c4 c5 c6 c7
 go_enter func116,ntmps116
 go_wp2_with(go_at_call 159;refine H.out.mono ?_;rintro r G⟨rfl,u⟩;have F:=ku u;clear u)
 go_ret
 exact⟨rfl,F.out⟩
theorem A4 (ao:Option Addr) (l:List Dc) (cap:Nat) (W:World) (h:Ld W ao l) (hl:l.length<=1000000000) :
  Kb 215 #[.slice ao l.length cap,.func (.func 131) #[] #[]] W fun r w'=>(∃z:Int,r=.returned (.int .i64 z)/\(decide (0<=z)=l.any dr))/\Kc W w':=by
 have H:=ku h;clear h;have HP:=ku A7
 go_enter func215,ntmps215
 go_wp2_with fail
 go_loopw [5,8] (fun _ i wr=>∃k:Nat,k<=l.length/\i=.int .i64 k/\Hid ((l.take k).any dr=false)/\Hid (Kc W wr)) (fun _ i _=>l.length-(intOf i).toNat)
 case atStart=>exact⟨0,Kj _,rfl,by show _=_;simp,gt _ _⟩
 case round=>
  obtain⟨k,hk,rfl,HI,F⟩:=hrel
  by_cases I:k<l.length
  ·have q1:(k:Int)<l.length:=by omega
   have q0:(0:Int)<=k:=by omega
   obtain⟨x,M⟩:∃x,l[k]?=some x:=⟨_,Ke I⟩;obtain⟨b,off,rfl,c0,c1,c2,c3,c4⟩:=(H.out.below F.out) k x M;have HS:=ku (i8 dr l k x M HI.out);have HT:Hid ((l.take (k+1)).any dr=true->l.any dr=true):=iZ dr l _;clear M
   by_cases J:dr x=true
   ·go_wp2_with(go_at_call 131;refine(HP.out x _).mono ?_;rintro e O⟨rfl,u⟩;rw[J];have HC:=ku (F.out.trans (u.mono F.out.size));clear u)
    go_ret
    exact⟨⟨_,rfl,by rw[HT.out (HS.out.trans J)];simp⟩,HC.out⟩
   ·have G:dr x=false:=by simpa using J
    clear J
    go_wp2_with(go_at_call 131;refine(HP.out x _).mono ?_;rintro e O⟨rfl,u⟩;rw[G];have HC:=ku (F.out.trans (u.mono F.out.size));clear u)
    exact⟨⟨k+1,I,by go_num,HS.out.trans G,HC⟩,by simp[intOf];omega⟩
  ·obtain rfl:k=l.length:=by omega
   have q1:¬((l.length:Int)<l.length):=by omega
   go_wp2_with fail
   go_ret
   refine⟨⟨_,rfl,?_⟩,F.out⟩;have:=HI.out;rw[L6]at this;rw[this];rfl
theorem B8 (ao:Option Addr) (l:List Dc) (cap:Nat) (W:World) (h:Ld W ao l) (hl:l.length<=1000000000) :
  Kb 159 #[.slice ao l.length cap,.func (.func 131) #[] #[]] W fun r w'=>r=.returned (.bool (l.any dr))/\Kc W w':=by
 have H:=ku (A4 ao l cap W h hl);clear h
 generalize l.any dr=b at *
 go_enter func159,ntmps159
 go_wp2_with(go_at_call 215;refine H.out.mono ?_;rintro r I⟨⟨z,rfl,G⟩,u⟩;have F:=ku u;clear u;subst G)
 go_ret
 exact⟨by simp,F.out⟩
theorem yQ (h:SV W g st vn vw) (hl:st.ws.length<=1000000000) :
  Kb 116 #[bv g,.func (.func 131) #[] #[]] W fun r w'=>r=.returned (.bool (st.ws.any dr))/\Below W.heap.size W w':=by
 obtain⟨p,cap,e,_⟩:=bG h.rd;subst e;have H:=ku (B8 p st.ws cap W (qp h.rd) hl);obtain⟨c0,c1,c2,c3,c4,c5,c6,c7⟩:=h.sb.cells
 generalize st.ws.any dr=b at *
 generalize st.ws.length=n at *
 clear h c0 c1 c3 c4 c5 c6 c7
 go_enter func116,ntmps116
 go_wp2_with(go_at_call 159;refine H.out.mono ?_;rintro r G⟨rfl,u⟩;have F:=ku u;clear u)
 go_ret
 exact⟨rfl,F.out⟩
