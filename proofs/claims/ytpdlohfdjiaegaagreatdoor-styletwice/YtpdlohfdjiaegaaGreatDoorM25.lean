import Derived.Test.YtpdlohfdjiaegaaGreatDoorM24
set_option linter.unusedVariables false
set_option linter.unusedSimpArgs false
set_option maxHeartbeats 1000000
namespace Go.Proofs.YtpdlohfdjiaegaaGreatDoor
open Go.RowKit
open Lw (Dc bE rt frm dep rtT rtN dcs aD bk)
variable {st:Sy}{W:World}{g n:Nat}
theorem jf {vn vw:Value}(h:SV W g st vn vw) (d:Dc) (hl:st.ws.length<=1000000000) :
  Da 119 #[spg g,.agg #[.int .u8 d.k,.string d.t,.int .i64 d.b,.int .i64 d.i,.bool d.e]] W fun r w'=>r=.returned (.tuple #[])/\WP W w' g st vn vw (st.ws++[d]):=by
 obtain ⟨L,hL⟩:∃L,st.ws=L:=⟨_,rfl⟩;have hE:=h.rd;rw [hL] at hE hl ⊢;obtain ⟨p,cap,rfl,_⟩:=aS hE;have HW:Hid (∀V,Below W.heap.size W V->Rd V (.slice p L.length cap) L):=fun V hb=>cf hE hb
 have HT:Hid (∀W1 w3 q cp,Below W.heap.size W W1->Rd w3 (.slice (some ⟨q,0,none⟩) (L.length+1) cp) (L++[d])->W1.grownBy w3 (Value.slice p L.length cap).ownBlock->((Value.slice p L.length cap).ownBlock=some q\/q=W1.heap.size)->(w3.cell? ⟨g,2,none⟩=some (.slice p L.length cap)/\w3.frozen? ⟨g,2,none⟩=false)/\WP W (w3.setCell ⟨g,2,none⟩ (.slice (some ⟨q,0,none⟩) (L.length+1) cp)) g st vn (.slice p L.length cap) (L++[d])):=
  fun W1 w3 q cp hb h1 h2 h3=>h.ws hb ((Kp.of_grown h2).sub (fun k e=>e.symm)) h1 (by rcases h3 with h3|h3;exact .inl h3.symm;exact .inr ⟨q,rfl,by omega⟩)
 obtain ⟨c0,c1,c2,c3,c4,c5,c6,c7⟩:=h.sb.cells;have hg:=h.sb.lt;clear h hE hL;obtain ⟨⟨k0,t,b0,i0,e0⟩,hd⟩:∃x,d=x:=⟨_,rfl⟩;subst hd
 dsimp only
 go_enter Tryz.func119,Tryz.ntmps119
 go_wp2_with fail
 obtain ⟨W1,e1⟩:∃W1,W.alloc (.cells #[.int .u8 k0,.string t,.int .i64 b0,.int .i64 i0,.bool e0] 57)=W1:=⟨_,rfl⟩;have hb:Below W.heap.size W W1:=by rw [<-e1];exact (Below.refl _ _).alloc (Nat.le_refl _) _
 have hn:W1.heap[W.heap.size]?=some (.cells #[.int .u8 k0,.string t,.int .i64 b0,.int .i64 i0,.bool e0] 57):=by rw [<-e1];exact am _ _
 rw [e1];clear e1;have m0:W1.cell? ⟨W.heap.size,0,none⟩=_:=aa hn rfl;have m1:W1.cell? ⟨W.heap.size,1,none⟩=_:=aa hn rfl;have m2:W1.cell? ⟨W.heap.size,2,none⟩=_:=aa hn rfl;have m3:W1.cell? ⟨W.heap.size,3,none⟩=_:=aa hn rfl;have m4:W1.cell? ⟨W.heap.size,4,none⟩=_:=aa hn rfl;have d4:W1.cell? ⟨g,2,none⟩=some (.slice p L.length cap):=(hb.cell hg).trans c2;have HB:Hid (∀o,Below W.heap.size W (W1.drew.alloc o)):=fun o=>(hb.drew).alloc hb.size _
 have hg1:g<W1.heap.size:=Nat.lt_of_lt_of_le hg hb.size;clear hb hn c0 c1 c2 c3 c4 c5 c6 c7 hg
 go_region_law (refine ul (by rfl) _ _ (by rfl) (.slice p L.length cap) L ⟨k0,t,b0,i0,e0⟩ (by rfl) (HW.out _ (HB.out _)) W1.heap.size 1 (by rfl) (am W1.drew _) hl ?_;intro q cp w3 hr3 hg3 hq3;obtain ⟨⟨x1,x2⟩,x3⟩:=HT.out _ w3 q cp (HB.out _) hr3 hg3 hq3;have HX:=hid x3;clear x3 hr3 hg3 hq3)
 all_goals (
  go_wp2_with fail
  go_end0
  exact ⟨rfl,HX.out⟩)
theorem dL {b cap:Nat}(c1:W.cell? ⟨g,1,none⟩=some (.slice (some ⟨b,0,none⟩) (n+1) cap)) (hn:n<=1000000000) :
  Da 62 #[spg g] W fun r w'=>r=.returned (.pointer (some ⟨b,n*3,none⟩))/\Below W.heap.size W w':=by
 have q1:IntKind.i64.wrap (n:Int)=n:=by rw [IntKind.wrap_i64];omega
 have q2:(0:Int)<=n:=by omega
 have q3:(n:Int)<(n:Int)+1:=by omega
 have HB:Hid (Db W W.drew):=(Below.refl _ _).drew
 go_enter Tryz.func62,Tryz.ntmps62
 go_wp2_with fail
 go_region_law (fail)
 all_goals (
  go_wp2_with fail
  go_ret
  exact ⟨rfl,HB.out⟩)
theorem SV.nd {W:World}{g:Nat}{st:Sy}{vw:Value}{b cap:Nat}{n m:Nd}{r:List Nd}(e:st.ns=n :: r) (h:SV W g st (.slice (some ⟨b,0,none⟩) (r.length+1) cap) vw) (j:Nat) (u:Value) (hj:j<3) (hm:n.cs.set j u=m.cs) :
  SV (W.setCell ⟨b,r.length*3+j,none⟩ u) g { st with ns:=m :: r } (.slice (some ⟨b,0,none⟩) (r.length+1) cap) vw:=by
 have hn:Rn tN W (.slice (some ⟨b,0,none⟩) (r.length+1) cap) (n :: r):=by rw [<-e];exact h.rn
 have hne:¬g=b:=fun e2=>aA h.rn h.sb (by decide) (by rw [e2];rfl)
 refine ⟨h.sb.kp (Kp.set W b _ u) hne,AF hn j u hj hm,(Kp.set W b _ u).row h.rd (fun k e1 e2=>gu h.rd h.rn (by decide) k e1 (by rw [e2];rfl))⟩
theorem cQ {S:Nat->Prop}(h:SS S W g st) (p:Pz) {i:Int}{e:Bool}(hp:p.d=dI i e/\p.n=1) (hns:st.ns≠[]) (hl:st.ws.length<=1000000000) (hn:st.ns.length<=1000000000) (hb:∀n∈st.ns,n.b<=1000000000) :
  Da 67 #[spg g,.int .i64 i,.bool e] W fun r w'=>r=.returned (.tuple #[])/\Mv S g W w' (st.aw p):=by
 obtain ⟨vn,vw,hv,s1,s2⟩:=h.ex
 obtain ⟨n,r,en⟩:∃n r,st.ns=n :: r:=by
  cases hc:st.ns with
  |nil=>exact absurd hc hns
  |cons n r=>exact ⟨n,r,rfl⟩
 have hn1:=hv.rn;rw [en] at hn1;obtain ⟨b,cap,rfl,hc1,hc2⟩:=iP hn1;have hX:p≠.X:=fun e=>by rw [e] at hp;cases hp.2
 have eN:awN p st.ns=⟨n.k,n.b+1,n.s⟩ :: r:=by rw [en];simp only [awN];rw [if_neg hX,hp.2]
 have eW:awW p st.ns=[dI i e]:=by unfold awW;rw [if_neg (fun h=>hX h.1),hp.1]
 have HW:Hid (Da 119 #[spg g,.agg #[.int .u8 6,.string ⟨#[]⟩,.int .i64 0,.int .i64 i,.bool e]] W fun rr w'=>rr=.returned (.tuple #[])/\WP W w' g st (.slice (some ⟨b,0,none⟩) (r.length+1) cap) vw (st.ws++[dI i e])):=jf hv (dI i e) hl;have HI:Hid (∀V,V.cell? ⟨g,1,none⟩=some (.slice (some ⟨b,0,none⟩) (r.length+1) cap)->Da 62 #[spg g] V fun r' w'=>r'=.returned (.pointer (some ⟨b,r.length*3,none⟩))/\Db V w'):=fun V hV=>dL hV (by rw [en] at hn;simp at hn;omega)
 have hnb:n.b<=1000000000:=hb n (by rw [en];exact List.mem_cons_self);have q2:IntKind.i64.wrap ((n.b:Int)+1)=n.b+1:=by rw [IntKind.wrap_i64];omega
 have hsg:=h.sg
 have HE:Hid (∀V1 w2,WP W V1 g st (.slice (some ⟨b,0,none⟩) (r.length+1) cap) vw (st.ws++[dI i e])->Db V1 w2->(w2.cell? ⟨b,r.length*3+1,none⟩=some (.int .i64 n.b)/\w2.frozen? ⟨b,r.length*3+1,none⟩=false)/\Mv S g W (w2.setCell ⟨b,r.length*3+1,none⟩ (.int .i64 ((n.b:Int)+1))) (st.aw p)):=fun V1 w2 hp1 hb2=>by
  obtain ⟨vw',a1,a2⟩:=hp1.ex;have a3:=a1.below hb2;have a4:Rn tN w2 (.slice (some ⟨b,0,none⟩) (r.length+1) cap) (n :: r):=by have:=a3.rn;rw [show ({ st with ws:=st.ws++[dI i e] }:Sy).ns=n :: r from en] at this;exact this
  refine ⟨⟨(gw a4).2.1,World.ownsRow.frozenAt a4 _⟩,?_⟩;have a5:=SV.nd (n:=n) (m:=⟨n.k,n.b+1,n.s⟩) (show ({ st with ws:=st.ws++[dI i e] }:Sy).ns=n :: r from en) a3 1 (.int .i64 ((n.b:Int)+1)) (by omega) rfl;have e9:({ ({ st with ws:=st.ws++[dI i e] }:Sy) with ns:=⟨n.k,n.b+1,n.s⟩ :: r }:Sy)=st.aw p:=by unfold Sy.aw;rw [eN,eW]
  rw [e9] at a5;have hk:Kp S W (w2.setCell ⟨b,r.length*3+1,none⟩ (.int .i64 ((n.b:Int)+1))):=(((hp1.kp.sub (S:=S) (by rintro k (e|e);rw [e];exact hsg;exact s2 k e)).step (Kp.of_below (S:=fun _=>False) hb2) (fun _ _ h=>h.elim)).step (Kp.set _ _ _ _) (fun k _ e=>by rw [e];exact s1 b rfl));refine Mv.mk' a5 hsg (fun k e=>.inl (s1 k e)) (fun k e=>?_) hk hv.sb.cells.2.1
  rcases a2 with a2|⟨q,hq,hq2⟩
  ·exact .inl (s2 k (by rw [<-a2];exact e))
  ·rw [hq] at e;cases e;exact .inr hq2
 have HC:Hid (∀V1,WP W V1 g st (.slice (some ⟨b,0,none⟩) (r.length+1) cap) vw (st.ws++[dI i e])->V1.cell? ⟨g,1,none⟩=some (.slice (some ⟨b,0,none⟩) (r.length+1) cap)):=fun V1 hp1=>by
  obtain ⟨vw',a1,a2⟩:=hp1.ex;exact a1.sb.cells.2.1
 clear hv h hn1 s1 s2 eN eW hns hl hn hb hp hX hnb en
 go_enter Tryz.func67,Tryz.ntmps67
 go_wp2_with (first|(go_at_call 119;refine HW.out.mono ?_;rintro r1 w1 ⟨rfl,hp1⟩;have HP:=show Hid (WP W w1 g st (.slice (some ⟨b,0,none⟩) (r.length+1) cap) vw (st.ws++[dI i e])) from hp1;clear hp1)|(go_at_call 62;refine (HI.out _ (HC.out _ HP.out)).mono ?_;rintro r2 w2 ⟨rfl,hb2⟩;obtain ⟨⟨x1,x2⟩,x3⟩:=HE.out _ _ HP.out hb2;have HX:=hid x3;clear x3 hb2))
 go_end0
 exact ⟨rfl,HX.out⟩
def Bz (n:Nat) (st:Sy):Prop:=st.ws.length<=n/\st.ns.length<=n/\∀x∈st.ns,x.b<=n
theorem Bz.mono {m:Nat}(h:Bz n st) (hm:n<=m):Bz m st:=⟨by have:=h.1;omega,by have:=h.2.1;omega,fun x hx=>by have:=h.2.2 x hx;omega⟩
theorem jb (p:Pz) (l:List Nd):(awN p l).length=l.length:=by cases l <;> rfl
theorem ed (p:Pz) (l:List Nd):(awW p l).length<=1:=by unfold awW;split <;> simp
theorem Bz.aw (h:Bz n st) (p:Pz):Bz (n+1) (st.aw p):=by
 obtain ⟨h1,h2,h3⟩:=h;refine ⟨?_,?_,?_⟩
 ·show (st.ws++awW p st.ns).length<=_
  have:=ed p st.ns;rw [List.length_append];omega
 ·show (awN p st.ns).length<=_
  rw [jb];omega
 ·intro x hx;have hx':x∈awN p st.ns:=hx;cases hc:st.ns with
  |nil=>rw [hc] at hx';simp [awN] at hx'
  |cons m r=>
   rw [hc] at hx' h3;simp only [awN,List.mem_cons] at hx';have hm:=h3 m List.mem_cons_self;have hp:p.n<=1:=by cases p <;> simp [Pz.n]
   rcases hx' with rfl|hx'
   ·split
    ·show m.b-1<=_;omega
    ·show m.b+p.n<=_;omega
   ·have:=h3 x (List.mem_cons_of_mem _ hx');omega
theorem iH (h:st.ns≠[]) (p:Pz):(st.aw p).ns≠[]:=by
 intro e;have:(awN p st.ns).length=0:=by rw [show awN p st.ns=[] from e];rfl
 rw [jb] at this;exact h (List.eq_nil_of_length_eq_zero this)
theorem Mv.seq {S:Nat->Prop}{W1:World}(h:Mv S g W W1 st):∃S1,SS S1 W1 g st/\∀W2 st2,Mv S1 g W1 W2 st2->Mv S g W W2 st2:=by
 obtain ⟨⟨S1,s1,s2⟩,hk,hc⟩:=h;refine ⟨S1,s1,?_⟩;rintro W2 st2 ⟨⟨S2,t1,t2⟩,hk2,hc2⟩;refine ⟨⟨S2,t1,fun k hk'=>?_⟩,hk.step hk2 (fun k hlt hs=>?_),hc2.trans hc⟩
 ·rcases t2 k hk' with a|a
  ·exact s2 k a
  ·exact .inr (Nat.le_trans hk.size a)
 ·rcases s2 k hs with a|a
  ·exact a
  ·omega
theorem i8 {S:Nat->Prop}(h:SS S W g st) (hns:st.ns≠[]) (hz:Bz 1000000000 st) :
  Da 68 #[spg g] W fun r w'=>r=.returned (.tuple #[])/\Mv S g W w' (st.aw .X):=by
 obtain ⟨vn,vw,hv,s1,s2⟩:=h.ex
 obtain ⟨n,r,en⟩:∃n r,st.ns=n :: r:=by
  cases hc:st.ns with
  |nil=>exact absurd hc hns
  |cons n r=>exact ⟨n,r,rfl⟩
 have hn1:=hv.rn;rw [en] at hn1;obtain ⟨b,cap,rfl,hc1,hc2⟩:=iP hn1;have hnl:=hz.2.1;rw [en] at hnl;have HI:Hid (Da 62 #[spg g] W fun r' w'=>r'=.returned (.pointer (some ⟨b,r.length*3,none⟩))/\Db W w'):=dL hv.sb.cells.2.1 (by simp at hnl;omega);have hnb:n.b<=1000000000:=hz.2.2 n (by rw [en];exact List.mem_cons_self);have eN:awN .X st.ns=⟨n.k,n.b-1,n.s⟩ :: r:=by rw [en];rfl
 have hsg:=h.sg
 have HV:Hid (∀V,Db W V->SV V g st (.slice (some ⟨b,0,none⟩) (r.length+1) cap) vw/\V.cell? ⟨b,r.length*3+1,none⟩=some (.int .i64 n.b)):=fun V hb=>by
  have a3:=hv.below hb;refine ⟨a3,?_⟩;have a4:=a3.rn;rw [en] at a4;exact (gw a4).2.1
 by_cases h0:n.b=0
 ·have eW:awW .X st.ns=[]:=by unfold awW;rw [en];simp [h0]
  have HX:Hid (∀V,Db W V->Mv S g W V (st.aw .X)):=fun V hb=>by
   have e9:st.aw .X=st:=by
    unfold Sy.aw;rw [eN,eW,List.append_nil,h0];have:(⟨n.k,0-1,n.s⟩:Nd)=n:=by cases n;simp at h0;subst h0;rfl
    rw [this,<-en]
   rw [e9];exact Mv.quiet h hb
  rw [h0] at HV;clear hv hn1 h s1 s2 eN eW hz hnl hnb en hns h0
  go_enter Tryz.func68,Tryz.ntmps68
  go_wp2_with (go_at_call 62;refine HI.out.mono ?_;rintro r2 w2 ⟨rfl,hb2⟩;have x1:=(HV.out _ hb2).2;have HM:=show Hid (Mv S g W w2 (st.aw .X)) from HX.out _ hb2;clear hb2)
  go_end0
  exact ⟨rfl,HM.out⟩
 ·have eW:awW .X st.ns=[dX]:=by unfold awW;rw [en];simp [h0,Pz.d]
  have q0:decide ((0:Int)<(n.b:Int))=true:=by simp;omega
  have q1:(0:Int)<(n.b:Int):=by omega
  have q2:IntKind.i64.wrap ((n.b:Int)-1)=((n.b-1:Nat):Int):=by rw [IntKind.wrap_i64];omega
  have HW:Hid (∀V,Db W V->Da 119 #[spg g,.agg #[.int .u8 7,.string ⟨#[]⟩,.int .i64 0,.int .i64 0,.bool false]] V fun rr w'=>rr=.returned (.tuple #[])/\WP V w' g st (.slice (some ⟨b,0,none⟩) (r.length+1) cap) vw (st.ws++[dX])):=fun V hb=>jf (HV.out V hb).1 dX hz.1
  have HE:Hid (∀V w2,Db W V->WP V w2 g st (.slice (some ⟨b,0,none⟩) (r.length+1) cap) vw (st.ws++[dX])->(w2.cell? ⟨b,r.length*3+1,none⟩=some (.int .i64 n.b)/\w2.frozen? ⟨b,r.length*3+1,none⟩=false)/\Mv S g W (w2.setCell ⟨b,r.length*3+1,none⟩ (.int .i64 ((n.b-1:Nat):Int))) (st.aw .X)):=fun V w2 hb hp1=>by
   obtain ⟨vw',a3,a2⟩:=hp1.ex;have a4:Rn tN w2 (.slice (some ⟨b,0,none⟩) (r.length+1) cap) (n :: r):=by have:=a3.rn;rw [show ({ st with ws:=st.ws++[dX] }:Sy).ns=n :: r from en] at this;exact this
   refine ⟨⟨(gw a4).2.1,World.ownsRow.frozenAt a4 _⟩,?_⟩;have a5:=SV.nd (n:=n) (m:=⟨n.k,n.b-1,n.s⟩) (show ({ st with ws:=st.ws++[dX] }:Sy).ns=n :: r from en) a3 1 (.int .i64 ((n.b-1:Nat):Int)) (by omega) rfl;have e9:({ ({ st with ws:=st.ws++[dX] }:Sy) with ns:=⟨n.k,n.b-1,n.s⟩ :: r }:Sy)=st.aw .X:=by unfold Sy.aw;rw [eN,eW]
   rw [e9] at a5;have hk:Kp S W (w2.setCell ⟨b,r.length*3+1,none⟩ (.int .i64 ((n.b-1:Nat):Int))):=(((Kp.of_below hb).step (hp1.kp.sub (S:=S) (by rintro k (e|e);rw [e];exact hsg;exact s2 k e)) (fun _ _ h=>h)).step (Kp.set _ _ _ _) (fun k _ e=>by rw [e];exact s1 b rfl));refine Mv.mk' a5 hsg (fun k e=>.inl (s1 k e)) (fun k e=>?_) hk hv.sb.cells.2.1
   rcases a2 with a2|⟨q,hq,hq2⟩
   ·exact .inl (s2 k (by rw [<-a2];exact e))
   ·rw [hq] at e;cases e;exact .inr (Nat.le_trans hb.size hq2)
  clear hv hn1 h s1 s2 eN eW hz hnl hnb en hns h0
  go_enter Tryz.func68,Tryz.ntmps68
  go_wp2_with (first|(go_at_call 62;refine HI.out.mono ?_;rintro r2 w2 ⟨rfl,hb2⟩;have x1:=(HV.out _ hb2).2;have HB:=show Hid (Below W.heap.size W w2) from hb2;clear hb2)|(go_at_call 119;refine (HW.out _ HB.out).mono ?_;rintro r3 w3 ⟨rfl,hp3⟩;obtain ⟨⟨y1,y2⟩,y3⟩:=HE.out _ _ HB.out hp3;have HX:=hid y3;clear y3 hp3))
  go_end0
  exact ⟨rfl,HX.out⟩
theorem iw {S:Nat->Prop}(h:SS S W g st) (p:Pz) (hp:p.n=0/\p≠.X) (hz:Bz 1000000000 st) (hns:st.ns≠[]\/True) :
  Da 119 #[spg g,.agg #[.int .u8 p.d.k,.string p.d.t,.int .i64 p.d.b,.int .i64 p.d.i,.bool p.d.e]] W fun r w'=>r=.returned (.tuple #[])/\Mv S g W w' (st.aw p):=by
 obtain ⟨vn,vw,hv,s1,s2⟩:=h.ex;refine (jf hv p.d hz.1).mono ?_;rintro r w' ⟨rfl,hp1⟩;refine ⟨rfl,?_⟩;have:=hp1.mv hv h.sg s1 s2
 have e:({ st with ws:=st.ws++[p.d] }:Sy)=st.aw p:=by
  have eN:awN p st.ns=st.ns:=by
   cases st.ns with
   |nil=>rfl
   |cons n r=>simp only [awN];rw [if_neg hp.2,hp.1];rfl
  have eW:awW p st.ns=[p.d]:=by unfold awW;rw [if_neg (fun h=>hp.2 h.1)]
  unfold Sy.aw;rw [eN,eW]
 rw [e] at this;exact this
theorem vX {S:Nat->Prop}(h:SS S W g st) (hns:st.ns≠[]) (hz:Bz 999999990 st) :
  Da 73 #[spg g] W fun r w'=>r=.returned (.tuple #[])/\Mv S g W w' (st.aws Fx.blank.pz):=by
 have H0:Hid (∀S V,SS S V g st->Da 119 #[spg g,.agg #[.int .u8 2,.string ⟨#[]⟩,.int .i64 0,.int .i64 0,.bool false]] V fun r w'=>r=.returned (.tuple #[])/\Mv S g V w' (st.aw .S)):=fun S V hS=>iw hS .S ⟨rfl,by decide⟩ (hz.mono (by omega)) (.inr trivial)
 have HE:Hid (st.aws Fx.blank.pz=(st.aw .S)):=rfl;have HS:Hid (SS S W g st):=h;clear h hz hns
 go_enter Tryz.func73,Tryz.ntmps73
 go_wp2_with (first|(go_at_call 119;refine (H0.out _ _ HS.out).mono ?_;rintro r0 w0 ⟨rfl,m0⟩;obtain ⟨S0,t0,u0⟩:=Mv.seq m0;have T0:=show Hid (SS S0 w0 g (st.aw .S)) from t0;have U0:=show Hid (∀W2 st2,Mv S0 g w0 W2 st2->Mv S g W W2 st2) from u0;have M0:=show Hid (Mv S g W w0 (st.aw .S)) from m0;clear t0 u0 m0))
 go_end0
 rw [HE.out];exact ⟨rfl,M0.out⟩
theorem fL {S:Nat->Prop}(h:SS S W g st) (hns:st.ns≠[]) (hz:Bz 999999999 st) :
  Da 73 #[spg g] W fun r w'=>r=.returned (.tuple #[])/\Mv S g W w' (st.aw .S):=by
 have H0:Hid (∀S V,SS S V g st->Da 119 #[spg g,.agg #[.int .u8 2,.string ⟨#[]⟩,.int .i64 0,.int .i64 0,.bool false]] V fun r w'=>r=.returned (.tuple #[])/\Mv S g V w' (st.aw .S)):=fun S V hS=>iw hS .S ⟨rfl,by decide⟩ (hz.mono (by omega)) (.inr trivial)
 have HS:Hid (SS S W g st):=h;clear h hz hns
 go_enter Tryz.func73,Tryz.ntmps73
 go_wp2_with (go_at_call 119;refine (H0.out _ _ HS.out).mono ?_;rintro r0 w0 ⟨rfl,m0⟩;have M0:=show Hid (Mv S g W w0 (st.aw .S)) from m0;clear m0)
 go_end0
 exact ⟨rfl,M0.out⟩
theorem sX {S:Nat->Prop}(h:SS S W g st) (hns:st.ns≠[]) (hz:Bz 999999990 st) :
  Da 171 #[spg g] W fun r w'=>r=.returned (.tuple #[])/\Mv S g W w' (st.aws Fx.break1.pz):=by
 have H0:Hid (∀S V,SS S V g st->Da 119 #[spg g,.agg #[.int .u8 3,.string ⟨#[]⟩,.int .i64 1,.int .i64 0,.bool false]] V fun r w'=>r=.returned (.tuple #[])/\Mv S g V w' (st.aw .B1)):=fun S V hS=>iw hS .B1 ⟨rfl,by decide⟩ (hz.mono (by omega)) (.inr trivial)
 have HE:Hid (st.aws Fx.break1.pz=(st.aw .B1)):=rfl;have HS:Hid (SS S W g st):=h;clear h hz hns
 go_enter Tryz.func171,Tryz.ntmps171
 go_wp2_with (first|(go_at_call 119;refine (H0.out _ _ HS.out).mono ?_;rintro r0 w0 ⟨rfl,m0⟩;obtain ⟨S0,t0,u0⟩:=Mv.seq m0;have T0:=show Hid (SS S0 w0 g (st.aw .B1)) from t0;have U0:=show Hid (∀W2 st2,Mv S0 g w0 W2 st2->Mv S g W W2 st2) from u0;have M0:=show Hid (Mv S g W w0 (st.aw .B1)) from m0;clear t0 u0 m0))
 go_end0
 rw [HE.out];exact ⟨rfl,M0.out⟩
theorem py {S:Nat->Prop}(h:SS S W g st) (hns:st.ns≠[]) (hz:Bz 999999999 st) :
  Da 171 #[spg g] W fun r w'=>r=.returned (.tuple #[])/\Mv S g W w' (st.aw .B1):=by
 have H0:Hid (∀S V,SS S V g st->Da 119 #[spg g,.agg #[.int .u8 3,.string ⟨#[]⟩,.int .i64 1,.int .i64 0,.bool false]] V fun r w'=>r=.returned (.tuple #[])/\Mv S g V w' (st.aw .B1)):=fun S V hS=>iw hS .B1 ⟨rfl,by decide⟩ (hz.mono (by omega)) (.inr trivial)
 have HS:Hid (SS S W g st):=h;clear h hz hns
 go_enter Tryz.func171,Tryz.ntmps171
 go_wp2_with (go_at_call 119;refine (H0.out _ _ HS.out).mono ?_;rintro r0 w0 ⟨rfl,m0⟩;have M0:=show Hid (Mv S g W w0 (st.aw .B1)) from m0;clear m0)
 go_end0
 exact ⟨rfl,M0.out⟩
theorem yM {S:Nat->Prop}(h:SS S W g st) (hns:st.ns≠[]) (hz:Bz 999999990 st) :
  Da 69 #[spg g] W fun r w'=>r=.returned (.tuple #[])/\Mv S g W w' (st.aws Fx.hard.pz):=by
 have H0:Hid (∀S V,SS S V g st->Da 119 #[spg g,.agg #[.int .u8 4,.string ⟨#[]⟩,.int .i64 0,.int .i64 0,.bool false]] V fun r w'=>r=.returned (.tuple #[])/\Mv S g V w' (st.aw .H)):=fun S V hS=>iw hS .H ⟨rfl,by decide⟩ (hz.mono (by omega)) (.inr trivial)
 have HE:Hid (st.aws Fx.hard.pz=(st.aw .H)):=rfl;have HS:Hid (SS S W g st):=h;clear h hz hns
 go_enter Tryz.func69,Tryz.ntmps69
 go_wp2_with (first|(go_at_call 119;refine (H0.out _ _ HS.out).mono ?_;rintro r0 w0 ⟨rfl,m0⟩;obtain ⟨S0,t0,u0⟩:=Mv.seq m0;have T0:=show Hid (SS S0 w0 g (st.aw .H)) from t0;have U0:=show Hid (∀W2 st2,Mv S0 g w0 W2 st2->Mv S g W W2 st2) from u0;have M0:=show Hid (Mv S g W w0 (st.aw .H)) from m0;clear t0 u0 m0))
 go_end0
 rw [HE.out];exact ⟨rfl,M0.out⟩
theorem jQ {S:Nat->Prop}(h:SS S W g st) (hns:st.ns≠[]) (hz:Bz 999999999 st) :
  Da 69 #[spg g] W fun r w'=>r=.returned (.tuple #[])/\Mv S g W w' (st.aw .H):=by
 have H0:Hid (∀S V,SS S V g st->Da 119 #[spg g,.agg #[.int .u8 4,.string ⟨#[]⟩,.int .i64 0,.int .i64 0,.bool false]] V fun r w'=>r=.returned (.tuple #[])/\Mv S g V w' (st.aw .H)):=fun S V hS=>iw hS .H ⟨rfl,by decide⟩ (hz.mono (by omega)) (.inr trivial)
 have HS:Hid (SS S W g st):=h;clear h hz hns
 go_enter Tryz.func69,Tryz.ntmps69
 go_wp2_with (go_at_call 119;refine (H0.out _ _ HS.out).mono ?_;rintro r0 w0 ⟨rfl,m0⟩;have M0:=show Hid (Mv S g W w0 (st.aw .H)) from m0;clear m0)
 go_end0
 exact ⟨rfl,M0.out⟩
theorem yN {S:Nat->Prop}(h:SS S W g st) (hns:st.ns≠[]) (hz:Bz 999999990 st) :
  Da 172 #[spg g] W fun r w'=>r=.returned (.tuple #[])/\Mv S g W w' (st.aws Fx.fend.pz):=by
 have H0:Hid (∀S V,SS S V g st->Da 68 #[spg g] V fun r w'=>r=.returned (.tuple #[])/\Mv S g V w' (st.aw .X)):=fun S V hS=>i8 hS hns (hz.mono (by omega))
 have HE:Hid (st.aws Fx.fend.pz=(st.aw .X)):=rfl;have HS:Hid (SS S W g st):=h;clear h hz hns
 go_enter Tryz.func172,Tryz.ntmps172
 go_wp2_with (first|(go_at_call 68;refine (H0.out _ _ HS.out).mono ?_;rintro r0 w0 ⟨rfl,m0⟩;obtain ⟨S0,t0,u0⟩:=Mv.seq m0;have T0:=show Hid (SS S0 w0 g (st.aw .X)) from t0;have U0:=show Hid (∀W2 st2,Mv S0 g w0 W2 st2->Mv S g W W2 st2) from u0;have M0:=show Hid (Mv S g W w0 (st.aw .X)) from m0;clear t0 u0 m0))
 go_end0
 rw [HE.out];exact ⟨rfl,M0.out⟩
theorem A6 {S:Nat->Prop}(h:SS S W g st) (hns:st.ns≠[]) (hz:Bz 999999990 st) :
  Da 176 #[spg g] W fun r w'=>r=.returned (.tuple #[])/\Mv S g W w' (st.aws Fx.in1.pz):=by
 have H0:Hid (∀S V,SS S V g st->Da 67 #[spg g,.int .i64 1,.bool false] V fun r w'=>r=.returned (.tuple #[])/\Mv S g V w' (st.aw (.I 1))):=fun S V hS=>cQ hS (.I 1) ⟨rfl,rfl⟩ hns (by have:=(hz).1;omega) (by have:=(hz).2.1;omega) (fun n hn=>by have:=(hz).2.2 n hn;omega)
 have HE:Hid (st.aws Fx.in1.pz=(st.aw (.I 1))):=rfl;have HS:Hid (SS S W g st):=h;clear h hz hns
 go_enter Tryz.func176,Tryz.ntmps176
 go_wp2_with (first|(go_at_call 67;refine (H0.out _ _ HS.out).mono ?_;rintro r0 w0 ⟨rfl,m0⟩;obtain ⟨S0,t0,u0⟩:=Mv.seq m0;have T0:=show Hid (SS S0 w0 g (st.aw (.I 1))) from t0;have U0:=show Hid (∀W2 st2,Mv S0 g w0 W2 st2->Mv S g W W2 st2) from u0;have M0:=show Hid (Mv S g W w0 (st.aw (.I 1))) from m0;clear t0 u0 m0))
 go_end0
 rw [HE.out];exact ⟨rfl,M0.out⟩
theorem A5 {S:Nat->Prop}(h:SS S W g st) (hns:st.ns≠[]) (hz:Bz 999999990 st) :
  Da 177 #[spg g] W fun r w'=>r=.returned (.tuple #[])/\Mv S g W w' (st.aws Fx.in2.pz):=by
 have H0:Hid (∀S V,SS S V g st->Da 67 #[spg g,.int .i64 2,.bool false] V fun r w'=>r=.returned (.tuple #[])/\Mv S g V w' (st.aw (.I 2))):=fun S V hS=>cQ hS (.I 2) ⟨rfl,rfl⟩ hns (by have:=(hz).1;omega) (by have:=(hz).2.1;omega) (fun n hn=>by have:=(hz).2.2 n hn;omega)
 have HE:Hid (st.aws Fx.in2.pz=(st.aw (.I 2))):=rfl;have HS:Hid (SS S W g st):=h;clear h hz hns
 go_enter Tryz.func177,Tryz.ntmps177
 go_wp2_with (first|(go_at_call 67;refine (H0.out _ _ HS.out).mono ?_;rintro r0 w0 ⟨rfl,m0⟩;obtain ⟨S0,t0,u0⟩:=Mv.seq m0;have T0:=show Hid (SS S0 w0 g (st.aw (.I 2))) from t0;have U0:=show Hid (∀W2 st2,Mv S0 g w0 W2 st2->Mv S g W W2 st2) from u0;have M0:=show Hid (Mv S g W w0 (st.aw (.I 2))) from m0;clear t0 u0 m0))
 go_end0
 rw [HE.out];exact ⟨rfl,M0.out⟩
theorem qU {S:Nat->Prop}(h:SS S W g st) (hns:st.ns≠[]) (hz:Bz 999999999 st) :
  Da 177 #[spg g] W fun r w'=>r=.returned (.tuple #[])/\Mv S g W w' (st.aw (.I 2)):=by
 have H0:Hid (∀S V,SS S V g st->Da 67 #[spg g,.int .i64 2,.bool false] V fun r w'=>r=.returned (.tuple #[])/\Mv S g V w' (st.aw (.I 2))):=fun S V hS=>cQ hS (.I 2) ⟨rfl,rfl⟩ hns (by have:=hz.1;omega) (by have:=hz.2.1;omega) (fun n hn=>by have:=hz.2.2 n hn;omega)
 have HS:Hid (SS S W g st):=h;clear h hz hns
 go_enter Tryz.func177,Tryz.ntmps177
 go_wp2_with (go_at_call 67;refine (H0.out _ _ HS.out).mono ?_;rintro r0 w0 ⟨rfl,m0⟩;have M0:=show Hid (Mv S g W w0 (st.aw (.I 2))) from m0;clear m0)
 go_end0
 exact ⟨rfl,M0.out⟩
theorem nS {S:Nat->Prop}(h:SS S W g st) (hns:st.ns≠[]) (hz:Bz 999999990 st) :
  Da 175 #[spg g] W fun r w'=>r=.returned (.tuple #[])/\Mv S g W w' (st.aws Fx.endBlank.pz):=by
 have H0:Hid (∀S V,SS S V g st->Da 68 #[spg g] V fun r w'=>r=.returned (.tuple #[])/\Mv S g V w' (st.aw .X)):=fun S V hS=>i8 hS hns (hz.mono (by omega))
 have H1:Hid (∀S V,SS S V g (st.aw .X)->Da 73 #[spg g] V fun r w'=>r=.returned (.tuple #[])/\Mv S g V w' ((st.aw .X).aw (.S))):=fun S V hS=>fL hS (iH hns .X) ((hz.aw .X).mono (by omega))
 have HE:Hid (st.aws Fx.endBlank.pz=((st.aw .X).aw (.S))):=rfl;have HS:Hid (SS S W g st):=h;clear h hz hns
 go_enter Tryz.func175,Tryz.ntmps175
 go_wp2_with (first|(go_at_call 73;refine (H1.out _ _ T0.out).mono ?_;rintro r1 w1 ⟨rfl,m1⟩;have M1:=show Hid (Mv S0 g w0 w1 ((st.aw .X).aw (.S))) from m1;clear m1)|(go_at_call 68;refine (H0.out _ _ HS.out).mono ?_;rintro r0 w0 ⟨rfl,m0⟩;obtain ⟨S0,t0,u0⟩:=Mv.seq m0;have T0:=show Hid (SS S0 w0 g (st.aw .X)) from t0;have U0:=show Hid (∀W2 st2,Mv S0 g w0 W2 st2->Mv S g W W2 st2) from u0;have M0:=show Hid (Mv S g W w0 (st.aw .X)) from m0;clear t0 u0 m0))
 go_end0
 rw [HE.out];exact ⟨rfl,U0.out _ _ M1.out⟩
theorem pu {S:Nat->Prop}(h:SS S W g st) (hns:st.ns≠[]) (hz:Bz 999999990 st) :
  Da 169 #[spg g] W fun r w'=>r=.returned (.tuple #[])/\Mv S g W w' (st.aws Fx.endHard.pz):=by
 have H0:Hid (∀S V,SS S V g st->Da 68 #[spg g] V fun r w'=>r=.returned (.tuple #[])/\Mv S g V w' (st.aw .X)):=fun S V hS=>i8 hS hns (hz.mono (by omega))
 have H1:Hid (∀S V,SS S V g (st.aw .X)->Da 69 #[spg g] V fun r w'=>r=.returned (.tuple #[])/\Mv S g V w' ((st.aw .X).aw (.H))):=fun S V hS=>jQ hS (iH hns .X) ((hz.aw .X).mono (by omega))
 have HE:Hid (st.aws Fx.endHard.pz=((st.aw .X).aw (.H))):=rfl;have HS:Hid (SS S W g st):=h;clear h hz hns
 go_enter Tryz.func169,Tryz.ntmps169
 go_wp2_with (first|(go_at_call 69;refine (H1.out _ _ T0.out).mono ?_;rintro r1 w1 ⟨rfl,m1⟩;have M1:=show Hid (Mv S0 g w0 w1 ((st.aw .X).aw (.H))) from m1;clear m1)|(go_at_call 68;refine (H0.out _ _ HS.out).mono ?_;rintro r0 w0 ⟨rfl,m0⟩;obtain ⟨S0,t0,u0⟩:=Mv.seq m0;have T0:=show Hid (SS S0 w0 g (st.aw .X)) from t0;have U0:=show Hid (∀W2 st2,Mv S0 g w0 W2 st2->Mv S g W W2 st2) from u0;have M0:=show Hid (Mv S g W w0 (st.aw .X)) from m0;clear t0 u0 m0))
 go_end0
 rw [HE.out];exact ⟨rfl,U0.out _ _ M1.out⟩
theorem lV {S:Nat->Prop}(h:SS S W g st) (hns:st.ns≠[]) (hz:Bz 999999990 st) :
  Da 174 #[spg g] W fun r w'=>r=.returned (.tuple #[])/\Mv S g W w' (st.aws Fx.in2Break0.pz):=by
 have H0:Hid (∀S V,SS S V g st->Da 177 #[spg g] V fun r w'=>r=.returned (.tuple #[])/\Mv S g V w' (st.aw (.I 2))):=fun S V hS=>qU hS hns (hz.mono (by omega))
 have H1:Hid (∀S V,SS S V g (st.aw (.I 2))->Da 119 #[spg g,.agg #[.int .u8 3,.string ⟨#[]⟩,.int .i64 0,.int .i64 0,.bool false]] V fun r w'=>r=.returned (.tuple #[])/\Mv S g V w' ((st.aw (.I 2)).aw .B0)):=fun S V hS=>iw hS .B0 ⟨rfl,by decide⟩ ((hz.aw (.I 2)).mono (by omega)) (.inr trivial)
 have HE:Hid (st.aws Fx.in2Break0.pz=((st.aw (.I 2)).aw .B0)):=rfl;have HS:Hid (SS S W g st):=h;clear h hz hns
 go_enter Tryz.func174,Tryz.ntmps174
 go_wp2_with (first|(go_at_call 119;refine (H1.out _ _ T0.out).mono ?_;rintro r1 w1 ⟨rfl,m1⟩;have M1:=show Hid (Mv S0 g w0 w1 ((st.aw (.I 2)).aw .B0)) from m1;clear m1)|(go_at_call 177;refine (H0.out _ _ HS.out).mono ?_;rintro r0 w0 ⟨rfl,m0⟩;obtain ⟨S0,t0,u0⟩:=Mv.seq m0;have T0:=show Hid (SS S0 w0 g (st.aw (.I 2))) from t0;have U0:=show Hid (∀W2 st2,Mv S0 g w0 W2 st2->Mv S g W W2 st2) from u0;have M0:=show Hid (Mv S g W w0 (st.aw (.I 2))) from m0;clear t0 u0 m0))
 go_end0
 rw [HE.out];exact ⟨rfl,U0.out _ _ M1.out⟩
theorem lU {S:Nat->Prop}(h:SS S W g st) (hns:st.ns≠[]) (hz:Bz 999999990 st) :
  Da 173 #[spg g] W fun r w'=>r=.returned (.tuple #[])/\Mv S g W w' (st.aws Fx.in2Break1.pz):=by
 have H0:Hid (∀S V,SS S V g st->Da 177 #[spg g] V fun r w'=>r=.returned (.tuple #[])/\Mv S g V w' (st.aw (.I 2))):=fun S V hS=>qU hS hns (hz.mono (by omega))
 have H1:Hid (∀S V,SS S V g (st.aw (.I 2))->Da 171 #[spg g] V fun r w'=>r=.returned (.tuple #[])/\Mv S g V w' ((st.aw (.I 2)).aw (.B1))):=fun S V hS=>py hS (iH hns (.I 2)) ((hz.aw (.I 2)).mono (by omega))
 have HE:Hid (st.aws Fx.in2Break1.pz=((st.aw (.I 2)).aw (.B1))):=rfl;have HS:Hid (SS S W g st):=h;clear h hz hns
 go_enter Tryz.func173,Tryz.ntmps173
 go_wp2_with (first|(go_at_call 171;refine (H1.out _ _ T0.out).mono ?_;rintro r1 w1 ⟨rfl,m1⟩;have M1:=show Hid (Mv S0 g w0 w1 ((st.aw (.I 2)).aw (.B1))) from m1;clear m1)|(go_at_call 177;refine (H0.out _ _ HS.out).mono ?_;rintro r0 w0 ⟨rfl,m0⟩;obtain ⟨S0,t0,u0⟩:=Mv.seq m0;have T0:=show Hid (SS S0 w0 g (st.aw (.I 2))) from t0;have U0:=show Hid (∀W2 st2,Mv S0 g w0 W2 st2->Mv S g W W2 st2) from u0;have M0:=show Hid (Mv S g W w0 (st.aw (.I 2))) from m0;clear t0 u0 m0))
 go_end0
 rw [HE.out];exact ⟨rfl,U0.out _ _ M1.out⟩
theorem lX {S:Nat->Prop}(h:SS S W g st) (hns:st.ns≠[]) (hz:Bz 999999990 st) :
  Da 168 #[spg g] W fun r w'=>r=.returned (.tuple #[])/\Mv S g W w' (st.aws Fx.even2Hard.pz):=by
 have H0:Hid (∀S V,SS S V g st->Da 67 #[spg g,.int .i64 2,.bool true] V fun r w'=>r=.returned (.tuple #[])/\Mv S g V w' (st.aw (.J))):=fun S V hS=>cQ hS (.J) ⟨rfl,rfl⟩ hns (by have:=(hz).1;omega) (by have:=(hz).2.1;omega) (fun n hn=>by have:=(hz).2.2 n hn;omega)
 have H1:Hid (∀S V,SS S V g (st.aw (.J))->Da 69 #[spg g] V fun r w'=>r=.returned (.tuple #[])/\Mv S g V w' ((st.aw (.J)).aw (.H))):=fun S V hS=>jQ hS (iH hns (.J)) ((hz.aw (.J)).mono (by omega))
 have HE:Hid (st.aws Fx.even2Hard.pz=((st.aw (.J)).aw (.H))):=rfl;have HS:Hid (SS S W g st):=h;clear h hz hns
 go_enter Tryz.func168,Tryz.ntmps168
 go_wp2_with (first|(go_at_call 69;refine (H1.out _ _ T0.out).mono ?_;rintro r1 w1 ⟨rfl,m1⟩;have M1:=show Hid (Mv S0 g w0 w1 ((st.aw (.J)).aw (.H))) from m1;clear m1)|(go_at_call 67;refine (H0.out _ _ HS.out).mono ?_;rintro r0 w0 ⟨rfl,m0⟩;obtain ⟨S0,t0,u0⟩:=Mv.seq m0;have T0:=show Hid (SS S0 w0 g (st.aw (.J))) from t0;have U0:=show Hid (∀W2 st2,Mv S0 g w0 W2 st2->Mv S g W W2 st2) from u0;have M0:=show Hid (Mv S g W w0 (st.aw (.J))) from m0;clear t0 u0 m0))
 go_end0
 rw [HE.out];exact ⟨rfl,U0.out _ _ M1.out⟩
theorem iD {S:Nat->Prop}(h:SS S W g st) (hns:st.ns≠[]) (hz:Bz 999999990 st) :
  Da 118 #[spg g] W fun r w'=>r=.returned (.tuple #[])/\Mv S g W w' (st.aws Fx.blankIn3.pz):=by
 have H0:Hid (∀S V,SS S V g st->Da 73 #[spg g] V fun r w'=>r=.returned (.tuple #[])/\Mv S g V w' (st.aw (.S))):=fun S V hS=>fL hS hns (hz.mono (by omega))
 have H1:Hid (∀S V,SS S V g (st.aw (.S))->Da 67 #[spg g,.int .i64 3,.bool false] V fun r w'=>r=.returned (.tuple #[])/\Mv S g V w' ((st.aw (.S)).aw (.I 3))):=fun S V hS=>cQ hS (.I 3) ⟨rfl,rfl⟩ (iH hns (.S)) (by have:=((hz.aw (.S))).1;omega) (by have:=((hz.aw (.S))).2.1;omega) (fun n hn=>by have:=((hz.aw (.S))).2.2 n hn;omega)
 have HE:Hid (st.aws Fx.blankIn3.pz=((st.aw (.S)).aw (.I 3))):=rfl;have HS:Hid (SS S W g st):=h;clear h hz hns
 go_enter Tryz.func118,Tryz.ntmps118
 go_wp2_with (first|(go_at_call 67;refine (H1.out _ _ T0.out).mono ?_;rintro r1 w1 ⟨rfl,m1⟩;have M1:=show Hid (Mv S0 g w0 w1 ((st.aw (.S)).aw (.I 3))) from m1;clear m1)|(go_at_call 73;refine (H0.out _ _ HS.out).mono ?_;rintro r0 w0 ⟨rfl,m0⟩;obtain ⟨S0,t0,u0⟩:=Mv.seq m0;have T0:=show Hid (SS S0 w0 g (st.aw (.S))) from t0;have U0:=show Hid (∀W2 st2,Mv S0 g w0 W2 st2->Mv S g W W2 st2) from u0;have M0:=show Hid (Mv S g W w0 (st.aw (.S))) from m0;clear t0 u0 m0))
 go_end0
 rw [HE.out];exact ⟨rfl,U0.out _ _ M1.out⟩
theorem nT {S:Nat->Prop}(h:SS S W g st) (hns:st.ns≠[]) (hz:Bz 999999990 st) :
  Da 170 #[spg g] W fun r w'=>r=.returned (.tuple #[])/\Mv S g W w' (st.aws Fx.blankIn4.pz):=by
 have H0:Hid (∀S V,SS S V g st->Da 73 #[spg g] V fun r w'=>r=.returned (.tuple #[])/\Mv S g V w' (st.aw (.S))):=fun S V hS=>fL hS hns (hz.mono (by omega))
 have H1:Hid (∀S V,SS S V g (st.aw (.S))->Da 67 #[spg g,.int .i64 4,.bool false] V fun r w'=>r=.returned (.tuple #[])/\Mv S g V w' ((st.aw (.S)).aw (.I 4))):=fun S V hS=>cQ hS (.I 4) ⟨rfl,rfl⟩ (iH hns (.S)) (by have:=((hz.aw (.S))).1;omega) (by have:=((hz.aw (.S))).2.1;omega) (fun n hn=>by have:=((hz.aw (.S))).2.2 n hn;omega)
 have HE:Hid (st.aws Fx.blankIn4.pz=((st.aw (.S)).aw (.I 4))):=rfl;have HS:Hid (SS S W g st):=h;clear h hz hns
 go_enter Tryz.func170,Tryz.ntmps170
 go_wp2_with (first|(go_at_call 67;refine (H1.out _ _ T0.out).mono ?_;rintro r1 w1 ⟨rfl,m1⟩;have M1:=show Hid (Mv S0 g w0 w1 ((st.aw (.S)).aw (.I 4))) from m1;clear m1)|(go_at_call 73;refine (H0.out _ _ HS.out).mono ?_;rintro r0 w0 ⟨rfl,m0⟩;obtain ⟨S0,t0,u0⟩:=Mv.seq m0;have T0:=show Hid (SS S0 w0 g (st.aw (.S))) from t0;have U0:=show Hid (∀W2 st2,Mv S0 g w0 W2 st2->Mv S g W W2 st2) from u0;have M0:=show Hid (Mv S g W w0 (st.aw (.S))) from m0;clear t0 u0 m0))
 go_end0
 rw [HE.out];exact ⟨rfl,U0.out _ _ M1.out⟩
theorem pm {S:Nat->Prop}(h:SS S W g st) :
  Da 122 #[spg g] W fun r w'=>r=.returned (.tuple #[])/\Mv S g W w' (st.aws Fx.nothing.pz):=by
 have HM:Hid (Mv S g W W (st.aws Fx.nothing.pz)):=Mv.refl h;clear h
 go_enter Tryz.func122,Tryz.ntmps122
 go_wp2_with fail
 go_end0
 exact ⟨rfl,HM.out⟩
def Fx.id:Fx->Nat
 |.nothing=>122
 |.blank=>73
 |.break1=>171
 |.hard=>69
 |.fend=>172
 |.in1=>176
 |.in2=>177
 |.endBlank=>175
 |.endHard=>169
 |.in2Break0=>174
 |.in2Break1=>173
 |.even2Hard=>168
 |.blankIn3=>118
 |.blankIn4=>170
theorem vY (f:Fx) {S:Nat->Prop}{W:World}{g:Nat}{st:Sy}(h:SS S W g st) (hns:st.ns≠[]) (hz:Bz 999999990 st) :
  Da f.id #[spg g] W fun r w'=>r=.returned (.tuple #[])/\Mv S g W w' (st.aws f.pz):=by
 cases f with
 |nothing=>exact pm h
 |blank=>exact vX h hns hz
 |break1=>exact sX h hns hz
 |hard=>exact yM h hns hz
 |fend=>exact yN h hns hz
 |in1=>exact A6 h hns hz
 |in2=>exact A5 h hns hz
 |endBlank=>exact nS h hns hz
 |endHard=>exact pu h hns hz
 |in2Break0=>exact lV h hns hz
 |in2Break1=>exact lU h hns hz
 |even2Hard=>exact lX h hns hz
 |blankIn3=>exact iD h hns hz
 |blankIn4=>exact nT h hns hz
end Go.Proofs.YtpdlohfdjiaegaaGreatDoor
