import Derived.Deep.CutRange
import Derived.Test.YtpdlohfdjiaegaaGreatDoorM28
set_option linter.unusedVariables false
set_option linter.unusedSimpArgs false
set_option maxHeartbeats 2000000
namespace Go.Proofs.YtpdlohfdjiaegaaGreatDoor
open Go.RowKit
open Lw (Dc bE rt frm dep rtT rtN dcs aD bk)
variable {st:Sy}{W W1 W':World}{g:Nat}{n:Nd}{r:List Nd}
def Mw (S:Nat->Prop) (g:Nat) (W W':World) (st:Sy):Prop:=(∃S',SS S' W' g st/\∀k,S' k->S k\/W.heap.size<=k)/\Kp S W W'
theorem Mv.w {S:Nat->Prop}(h:Mv S g W W' st):Mw S g W W' st:=⟨h.1,h.2.1⟩
theorem Mw.mk' {S:Nat->Prop}{W W':World}{g:Nat}{st:Sy}{vn vw:Value}(hv:SV W' g st vn vw) (hs:S g) (h1:∀k,vn.ownBlock=some k->S k\/W.heap.size<=k) (h2:∀k,vw.ownBlock=some k->S k\/W.heap.size<=k) (hk:Kp S W W'):Mw S g W W' st:=
 ⟨⟨fun k=>(S k\/W.heap.size<=k)/\k<W'.heap.size,⟨⟨vn,vw,hv,fun k e=>⟨h1 k e,eJ hv.rn k e⟩,fun k e=>⟨h2 k e,eJ hv.rd k e⟩⟩,⟨.inl hs,hv.sb.lt⟩,fun _ h=>h.2⟩,fun _ h=>h.1⟩,hk⟩
theorem Mw.seq {S:Nat->Prop}(h:Mw S g W W1 st):∃S1,SS S1 W1 g st/\∀W2 st2,Mw S1 g W1 W2 st2->Mw S g W W2 st2:=by
 obtain ⟨⟨S1,s1,s2⟩,hk⟩:=h;refine ⟨S1,s1,?_⟩;rintro W2 st2 ⟨⟨S2,t1,t2⟩,hk2⟩;refine ⟨⟨S2,t1,fun k hk'=>?_⟩,hk.step hk2 (fun k hlt hs=>?_)⟩
 ·rcases t2 k hk' with a|a
  ·exact s2 k a
  ·exact .inr (Nat.le_trans hk.size a)
 ·rcases s2 k hs with a|a
  ·exact a
  ·omega
theorem Tryz.info121:(Tryz.prog.info? 121).map (fun i=>(i.zero,i.size,i.bytes))=some (some (.agg #[.int .u8 0,.int .i64 0,.bool false]),3,24):=by kernel_rfl
theorem Cy {ops:Array Oper}{rest:List Oper}{o:Oper}{a:Act}{Q:Exit->Act->World->Prop}(hgd:o.guard=none) (s x:Operand)
  (ho:o.op=.call { callee:=.builtin .append,args:=#[s,x],argTypes:=#[72,72] }) (v:Value) (l:List Nd) (d:Nd) (hs:a.eval s=v) (hr:Rn tN W v l)
  (g c:Nat) (hx:a.eval x=.slice (some ⟨g,0,none⟩) 1 c) (hg:W.heap[g]?=some (.cells #[.int .u8 d.k,.int .i64 d.b,.bool d.s] 121 (0,0))) (hl:l.length<=1000000000)
  (h:∀v' w',Rn tN w' v' (d :: l)->W.grownBy w' v.ownBlock->Nb W v v'->wpList Tryz.prog ops Q rest (a.put o.dst v') w'):wpList Tryz.prog ops Q (o :: rest) a W:=by
 obtain ⟨i0,hi,hz0,hz1,hz2⟩:=info_parts Tryz.info121;refine wpList_append_own_at (P:=Tryz.prog) (w:=W) hgd s x 72 ho 0 121 i0 _ 3 24 Tryz.underlying72 hi hz0 hz1 hz2 rfl (by decide) v _ _ hs hr ⟨g,0,none⟩ 1 c (ncs [d]) hx (by rw [iU];rfl) ?_ (yw [d]) (by unfold maxLen;omega) (by omega) (Nat.zero_le _) ?_
 ·intro j u hu;refine World.news_of_block hg j u ?_;have e:ncs [d]=[.int .u8 d.k,.int .i64 d.b,.bool d.s]:=by simp [ncs,aW,Nd.cs]
  rw [e] at hu
  simpa using hu
 ·intro v' w' h1 h2 _ h4;refine h v' w' ?_ h2 ?_
  ·unfold Rn;rw [List.reverse_cons,iV,List.length_cons];exact h1
  ·rcases h4 with h4|h4
   ·exact .inl h4
   ·exact .inr ⟨_,h4,Nat.le_refl _⟩
theorem SV.push {S:Nat->Prop}{w3:World}{vn vw v':Value}{d:Nd}(h:SV W g st vn vw) (hs:S g) (h1:∀k,vn.ownBlock=some k->S k) (h2:∀k,vw.ownBlock=some k->S k) (hb:Below W.heap.size W W1) (hg:W1.grownBy w3 vn.ownBlock) (hr:Rn tN w3 v' (d :: st.ns)) (hn:Nb W1 vn v') :
  (w3.cell? ⟨g,1,none⟩=some vn/\w3.frozen? ⟨g,1,none⟩=false)/\Mw S g W (w3.setCell ⟨g,1,none⟩ v') { st with ns:=d :: st.ns }:=by
 have k1:=h.below hb;have hk:=(Kp.of_grown hg).sub (S:=fun k=>vn.ownBlock=some k) (fun k e=>e.symm);have hne:¬vn.ownBlock=some g:=aA k1.rn k1.sb (by decide);have h3:=k1.sb.kp hk hne;have d3:=hk.row k1.rd (fun k e1 e2=>gu k1.rd k1.rn (by decide) k e1 e2);refine ⟨⟨aa h3 rfl,h3.frozen 1⟩,Mw.mk' (vn:=v') (vw:=vw) ⟨af h3 1 _,(Kp.set _ _ _ _).row hr (fun k e1 e2=>aA hr h3 (by decide) (by rw [e1,e2])),(Kp.set _ _ _ _).row d3 (fun k e1 e2=>aA d3 h3 (by decide) (by rw [e1,e2]))⟩ hs (fun k e=>?_) (fun k e=>.inl (h2 k e)) (((Kp.of_below hb).step hk (fun k _ e=>h1 k e)).step (Kp.set _ _ _ _) (fun k _ e=>by rw [e];exact hs))⟩
 rcases hn with hn|⟨q,hq,hq2⟩
 ·exact .inl (h1 k (by rw [<-hn];exact e))
 ·rw [hq] at e;cases e;exact .inr (Nat.le_trans hb.size hq2)
theorem SS.mark {S:Nat->Prop}(h:SS S W g st) (n:Nat) :
  Mv S g W ((W.setCell ⟨g,3,none⟩ (.bool true)).setCell ⟨g,4,none⟩ (.int .i64 n)) { st with mr:=some n }:=by
 obtain ⟨vn,vw,hv,s1,s2⟩:=h.ex;have hk:Kp (fun k=>k=g) W ((W.setCell ⟨g,3,none⟩ (.bool true)).setCell ⟨g,4,none⟩ (.int .i64 n)):=(Kp.set W g 3 _).trans (Kp.set _ g 4 _);exact Mv.mk' ⟨af (af hv.sb 3 _) 4 _,hk.row hv.rn (fun k e1 e2=>aA hv.rn hv.sb (by decide) (by rw [e1,e2])),hk.row hv.rd (fun k e1 e2=>aA hv.rd hv.sb (by decide) (by rw [e1,e2]))⟩ h.sg (fun k e=>.inl (s1 k e)) (fun k e=>.inl (s2 k e)) (hk.sub (fun k e=>by rw [e];exact h.sg)) hv.sb.cells.2.1
theorem Mv.after {S:Nat->Prop}{V:World}{st':Sy}(h:SS S W g st) (hb:Below W.heap.size W V) (m:Mv S g V W' st'):Mv S g W W' st':=by
 obtain ⟨⟨S1,a1,a2⟩,hk,hc⟩:=m;exact ⟨⟨S1,a1,fun k hk'=>(a2 k hk').imp id (fun e=>Nat.le_trans hb.size e)⟩,(Kp.of_below hb).step hk (fun _ _ h=>h),hc.trans (hb.cell (h.lt g h.sg))⟩
theorem Bz.exprIn {n:Nat}(h:Bz n st):Bz (n+2) st.exprIn:=by
 obtain ⟨h1,h2,h3⟩:=h;unfold Sy.exprIn
 split
 ·exact ⟨by omega,by omega,fun x hx=>by have:=h3 x hx;omega⟩
 ·rename_i m r e
  rw [e] at h2 h3;have hm:=h3 m List.mem_cons_self;refine ⟨?_,?_,?_⟩
  ·show (if m.k=19 then st.aws [.S,.I 3] else if m.k=31/\m.s=false then st.aws [.B0] else st).ws.length<=n+2
   split
   ·have a1:=ed .S st.ns;have a2:=ed (.I 3) (awN .S st.ns);show (st.ws++awW .S st.ns++awW (.I 3) (awN .S st.ns)).length<=_;rw [List.length_append,List.length_append];omega
   ·split
    ·have a1:=ed .B0 st.ns;show (st.ws++awW .B0 st.ns).length<=_;rw [List.length_append];omega
    ·omega
  ·show ((⟨m.k,_,true⟩:Nd) :: r).length<=n+2
   simp at h2 ⊢;omega
  ·intro x hx;have hx':x∈(⟨m.k,(if m.k=19 then m.b+1 else m.b),true⟩:Nd) :: r:=hx
   rcases List.mem_cons.1 hx' with rfl|hx'
   ·show (if m.k=19 then m.b+1 else m.b)<=n+2
    split <;> omega
   ·have:=h3 x (List.mem_cons_of_mem _ hx');omega
theorem Bz.mark {n:Nat}(h:Bz n st) (k:Int):Bz n (st.mark k):=by unfold Sy.mark;split;exact h;exact h
theorem vg {S:Nat->Prop}(h:SS S W g st) (hz:Bz 900000000 st) (k:Int) :
  Da 35 #[spg g,.int .u8 k] W fun rr w'=>rr=.returned (.tuple #[])/\Mw S g W w' (st.opens k):=by
 obtain ⟨s1,hs1⟩:∃s1,(if k=21 then st.exprIn else st)=s1:=⟨_,rfl⟩;have hz1:Bz 900000002 s1:=by rw [<-hs1];split;exact hz.exprIn;exact hz.mono (by omega)
 obtain ⟨s2,hs2⟩:∃s2,s1.mark k=s2:=⟨_,rfl⟩;have hz2:Bz 900000002 s2:=by rw [<-hs2];exact hz1.mark k
 have e9:st.opens k=Sy.aws { s2 with ns:=⟨k,0,false⟩ :: s2.ns } (opP k):=by unfold Sy.opens;simp only;rw [hs1,hs2]
 rw [e9]
 have hcell:∃p n c,W.cell? ⟨g,1,none⟩=some (.slice p n c)/\n=st.ns.length:=by
  obtain ⟨vn,vw,hv,_⟩:=h.ex;obtain ⟨p,c,e,_⟩:=av hv.rn;exact ⟨p,_,c,by rw [<-e];exact hv.sb.cells.2.1,rfl⟩
 obtain ⟨pp,nn,cc,hc1,hnn⟩:=hcell
 have HA:Hid (∀n r,st.ns=n :: r->k=21->∃b cap,pp=some ⟨b,0,none⟩/\cc=cap/\nn=r.length+1/\Da 62 #[spg g] W (fun rr w'=>rr=.returned (.pointer (some ⟨b,r.length*3,none⟩))/\Db W w')/\∀V,Db W V->Da 65 #[spg g,.pointer (some ⟨b,r.length*3,none⟩)] V fun rr w'=>rr=.returned (.tuple #[])/\Mv S g W w' s1):=fun n r e hk=>by
  obtain ⟨b,cap,a1,_⟩:=h.nodes e;rw [hc1] at a1;cases a1;refine ⟨b,cc,rfl,rfl,rfl,dL hc1 (by have:=hz.2.1;rw [e] at this;simp at this;omega),fun V hb=>?_⟩;refine (jF (h.below hb) (hz.mono (by omega)) e ((hb.cell (h.lt g h.sg)).trans hc1)).mono ?_;rintro rr w' ⟨rfl,m⟩;refine ⟨rfl,?_⟩;rw [<-hs1,if_pos hk];exact m.after h hb
 have HQ:Hid (¬(k=21/\st.ns≠[])->Mv S g W W s1):=fun hn=>by
  rw [<-hs1]
  by_cases hk:k=21
  ·rw [if_pos hk];have:st.ns=[]:=Classical.byContradiction fun hne=>hn ⟨hk,hne⟩
   have e8:st.exprIn=st:=by unfold Sy.exprIn;rw [this]
   rw [e8];exact Mv.refl h
  ·rw [if_neg hk];exact Mv.refl h
 have HH:Hid (∀V,Da 66 #[.int .u8 k] V fun e w'=>e=.returned (.bool (dj k))/\w'=V):=sW k;have HZ:Hid (Bz 900000002 s1/\Bz 900000002 s2/\s1.mark k=s2):=⟨hz1,hz2,hs2⟩;have hl:(∃n r,st.ns=n :: r)\/st.ns=[]:=by cases st.ns with|nil=>exact .inr rfl|cons n r=>exact .inl ⟨n,r,rfl⟩
 clear h hz hs1 hz1 hs2 hz2 e9
 go_enter Tryz.func35,Tryz.ntmps35
 obtain ⟨b1,hb1⟩:∃b1:Bool,decide (k=21/\st.ns≠[])=b1:=⟨_,rfl⟩
 go_upto_region 0 with fail
 go_cut [13] from 4 to 13 (fun t wx=>t=.bool b1/\wx=W)
 case first=>
  have HX:Hid (decide (k=21/\st.ns≠[])=b1):=hb1;clear hb1
  rcases hl with ⟨n,r,e⟩|e
  ·have q1:(0:Int)<(nn:Int):=by rw [hnn,e];simp
   by_cases hk:k=21
   ·have HY:Hid (true=b1):=by rw [<-HX.out,decide_eq_true ⟨hk,by rw [e];simp⟩];exact rfl
    subst hk;clear HX hnn e
    go_wp2_with fail
    go_meet
    exact ⟨by rw [HY.out],rfl⟩
   ·have HY:Hid (false=b1):=by rw [<-HX.out,decide_eq_false (fun h=>hk h.1)];exact rfl
    have q2:(k == 21)=false:=by simpa using hk
    clear HX hnn e hk
    go_wp2_with fail
    go_meet
    exact ⟨by rw [HY.out],rfl⟩
  ·have HY:Hid (false=b1):=by rw [<-HX.out,decide_eq_false (fun h=>h.2 e)];exact rfl
   obtain rfl:nn=0:=by rw [hnn,e];rfl
   clear HX hnn e
   go_wp2_with fail
   go_meet
   exact ⟨by rw [HY.out],rfl⟩
 case rest=>
 obtain ⟨rfl,hwc⟩:=hcut;replace hwc:=hwc.symm;subst hwc
 go_upto_if 13 with fail
 go_cut [] from 14 to 17 (fun wx=>Hid (Mv S g W wx s1))
 case first=>
  cases b1 with
  |true=>
   have hd:=of_decide_eq_true hb1
   rcases hl with ⟨n,r,e⟩|e
   ·obtain ⟨b,cap,rfl,rfl,rfl,a4,a5⟩:=HA.out n r e hd.1;have HI:=show Hid (Da 62 #[spg g] W (fun rr w'=>rr=.returned (.pointer (some ⟨b,r.length*3,none⟩))/\Below W.heap.size W w')) from a4
    have HO:=show Hid (∀V,Below W.heap.size W V->Da 65 #[spg g,.pointer (some ⟨b,r.length*3,none⟩)] V fun rr w'=>rr=.returned (.tuple #[])/\Mv S g W w' s1) from a5
    clear a4 a5 HA HQ hnn e hb1 hd
    go_wp2_with (first|(go_at_call 62;refine HI.out.mono ?_;rintro r1 w1 ⟨rfl,hb1⟩;have HB:=show Hid (Below W.heap.size W w1) from hb1;clear hb1)|(go_at_call 65;refine (HO.out _ HB.out).mono ?_;rintro r2 w2 ⟨rfl,m2⟩;have HM:=show Hid (Mv S g W w2 s1) from m2;clear m2))
    go_meet
    exact HM
   ·exact absurd e hd.2
  |false=>
   have HM:Hid (Mv S g W W s1):=HQ.out (of_decide_eq_false hb1);clear HA HQ hnn hb1 hl
   go_wp2_with fail
   go_meet
   exact HM
 case rest=>
  obtain ⟨S1,t1,u1⟩:=Mw.seq hcut.out.w;obtain ⟨w1,hw1⟩:∃w1,w1=wc:=⟨wc,rfl⟩;subst hw1;have HT1:=show Hid (SS S1 w1 g s1/\∀W2 st2,Mw S1 g w1 W2 st2->Mw S g W W2 st2) from ⟨t1,u1⟩
  obtain ⟨vn,vw,hv,v1,v2⟩:=t1.ex;obtain ⟨c0,c1,c2,c3,c4,c5,c6,c7⟩:=hv.sb.cells;have f3:=hv.sb.frozen 3;have f4:=hv.sb.frozen 4;obtain ⟨pw,cw,evw,_⟩:=aS hv.rd;subst evw
  have HMk:Hid (dj k=true/\s1.mr=none->Mv S1 g w1 ((w1.setCell ⟨g,3,none⟩ (.bool true)).setCell ⟨g,4,none⟩ (.int .i64 s1.ws.length)) s2):=fun hd=>by
   have:=t1.mark s1.ws.length;have e8:s2={ s1 with mr:=some s1.ws.length }:=by rw [<-HZ.out.2.2];unfold Sy.mark;rw [if_pos hd]
   rw [e8];exact this
  have HMn:Hid (¬(dj k=true/\s1.mr=none)->Mv S1 g w1 w1 s2):=fun hd=>by
   have e8:s2=s1:=by rw [<-HZ.out.2.2];unfold Sy.mark;rw [if_neg hd]
   rw [e8];exact Mv.refl t1
  clear t1 u1 hcut HA HQ hb1 hl hnn hc1 v1 v2 hv c0 c1 c5 c6 c7;obtain ⟨b2,hb2⟩:∃b2:Bool,decide (dj k=true/\s1.mr=none)=b2:=⟨_,rfl⟩
  go_upto_region 2 with fail
  go_cut [26] from 18 to 26 (fun t wx=>t=.bool b2/\wx=w1)
  case first=>
   have HX:Hid (decide (dj k=true/\s1.mr=none)=b2):=hb2;clear hb2;cases hh:dj k with
   |false=>
    have HY:Hid (false=b2):=by rw [<-HX.out,decide_eq_false (fun h=>by rw [hh] at h;cases h.1)];exact rfl
    rw [hh] at HH;clear HX HMk HMn hh
    go_wp2_with (go_at_call 66;refine (HH.out _).mono ?_;rintro r1 w2 ⟨rfl,rfl⟩)
    go_meet
    exact ⟨by rw [HY.out],rfl⟩
   |true=>
    rw [hh] at HH;cases hm:s1.mr with
    |none=>
     have HY:Hid (true=b2):=by rw [<-HX.out,decide_eq_true ⟨hh,hm⟩];exact rfl
     rw [hm] at c3;clear HX HMk HMn hh hm
     go_wp2_with (go_at_call 66;refine (HH.out _).mono ?_;rintro r1 w2 ⟨rfl,rfl⟩)
     go_meet
     exact ⟨by rw [HY.out],rfl⟩
    |some q=>
     have HY:Hid (false=b2):=by rw [<-HX.out,decide_eq_false (fun h=>by rw [hm] at h;cases h.2)];exact rfl
     rw [hm] at c3;clear HX HMk HMn hh hm
     go_wp2_with (go_at_call 66;refine (HH.out _).mono ?_;rintro r1 w2 ⟨rfl,rfl⟩)
     go_meet
     exact ⟨by rw [HY.out],rfl⟩
  case rest=>
  obtain ⟨rfl,hwc⟩:=hcut;replace hwc:=hwc.symm;subst hwc
  go_upto_if 26 with fail
  go_cut [] from 27 to 37 (fun wx=>Hid (Mv S1 g w1 wx s2))
  case first=>
   cases b2 with
   |true=>
    have HM:=show Hid (Mv S1 g w1 ((w1.setCell ⟨g,3,none⟩ (.bool true)).setCell ⟨g,4,none⟩ (.int .i64 s1.ws.length)) s2) from HMk.out (of_decide_eq_true hb2)
    clear HMk HMn hb2
    go_wp2_with fail
    go_meet
    exact HM
   |false=>
    have HM:=show Hid (Mv S1 g w1 w1 s2) from HMn.out (of_decide_eq_false hb2)
    clear HMk HMn hb2
    go_wp2_with fail
    go_meet
    exact HM
  case rest=>
   obtain ⟨S2,t2,u2⟩:=Mw.seq hcut.out.w;obtain ⟨w2,hw2⟩:∃w2,w2=wc:=⟨wc,rfl⟩;subst hw2;obtain ⟨vn,vw,hv,v1,v2⟩:=t2.ex;obtain ⟨c0,c1,c2,c3,c4,c5,c6,c7⟩:=hv.sb.cells;have hg2:=hv.sb.lt;obtain ⟨pn,cn,evn,_⟩:=av hv.rn;subst evn;have hln:=HZ.out.2.1.2.1;have HR:Hid (Rn tN (w2.alloc (.cells #[.int .u8 k,.int .i64 0,.bool false] 121)) (.slice pn s2.ns.length cn) s2.ns):=aO hv.rn ((Below.refl _ _).alloc (Nat.le_refl _) _)
   have HP:Hid (∀v' w3,Rn tN w3 v' (⟨k,0,false⟩ :: s2.ns)->(w2.alloc (.cells #[.int .u8 k,.int .i64 0,.bool false] 121)).grownBy w3 (Value.slice pn s2.ns.length cn).ownBlock->Nb (w2.alloc (.cells #[.int .u8 k,.int .i64 0,.bool false] 121)) (.slice pn s2.ns.length cn) v'->(w3.cell? ⟨g,1,none⟩=some (.slice pn s2.ns.length cn)/\w3.frozen? ⟨g,1,none⟩=false)/\Mw S g W (w3.setCell ⟨g,1,none⟩ v') { s2 with ns:=⟨k,0,false⟩ :: s2.ns }):=fun v' w3 a1 a2 a3=>by
    obtain ⟨b1,b2⟩:=hv.push t2.sg v1 v2 ((Below.refl _ _).alloc (Nat.le_refl _) _) a2 a1 a3;exact ⟨b1,HT1.out.2 _ _ (u2 _ _ b2)⟩
   have HB:Hid (∀V,Mw S g W V { s2 with ns:=⟨k,0,false⟩ :: s2.ns }->∀(i:Int) (p:Pz),p.d=dI i false/\p.n=1->Da 67 #[spg g,.int .i64 i,.bool false] V fun rr w'=>rr=.returned (.tuple #[])/\Mw S g W w' (Sy.aw { s2 with ns:=⟨k,0,false⟩ :: s2.ns } p)):=fun V hV i p hp=>by
    obtain ⟨S3,t3,u3⟩:=Mw.seq hV;have z:=HZ.out.2.1
    refine (cQ t3 p hp (by simp) (by have:=z.1;show s2.ws.length<=_;omega) (by have:=z.2.1;show ((⟨k,0,false⟩:Nd) :: s2.ns).length<=_;simp;omega) (fun n hn=>by
     rcases List.mem_cons.1 hn with rfl|hn
     ·simp
     ·have:=z.2.2 n hn;omega)).mono ?_
    rintro rr w' ⟨rfl,m⟩;exact ⟨rfl,u3 _ _ m.w⟩
   clear t2 u2 hcut HMk HMn hb2 hv v1 v2 c0 c2 c3 c4 c5 c6 c7 f3 f4 HT1 HZ HH
   go_upto_region 5 with (at_builtin;refine Cy rfl _ _ rfl (.slice pn s2.ns.length cn) s2.ns ⟨k,0,false⟩ rfl HR.out w2.heap.size 1 rfl (am w2 _) (by omega) ?_;intro v' w3 a1 a2 a3;obtain ⟨p3,c3,ev,_⟩:=av a1;obtain ⟨⟨x1,x2⟩,x3⟩:=HP.out v' w3 a1 a2 a3;subst ev;have HM:=show Hid (Mw S g W (w3.setCell ⟨g,1,none⟩ (.slice p3 (s2.ns.length+1) c3)) { s2 with ns:=⟨k,0,false⟩ :: s2.ns }) from x3;clear x3 a1 a2 a3)
   clear HR HP
   by_cases k1:k=21\/k=22\/k=23\/k=24
   ·have HE8:Hid (opP k=[.I 0]):=by show _=_;unfold opP;rw [if_pos k1]
    have HB0:=show Hid (Da 67 #[spg g,.int .i64 0,.bool false] (w3.setCell ⟨g,1,none⟩ (.slice p3 (s2.ns.length+1) c3)) fun rr w'=>rr=.returned (.tuple #[])/\Mw S g W w' (Sy.aw { s2 with ns:=⟨k,0,false⟩ :: s2.ns } (.I 0))) from HB.out _ HM.out 0 (.I 0) ⟨rfl,rfl⟩
    clear HB HM
    rcases k1 with rfl|rfl|rfl|rfl
    all_goals (
     go_wp2_with (go_at_call 67;refine HB0.out.mono ?_;rintro r4 w4 ⟨rfl,m4⟩;have HE:=hid m4;clear m4)
     go_end0
     exact ⟨rfl,by rw [HE8.out];exact HE.out⟩)
   ·by_cases k2:k=14\/k=7\/k=11
    ·have HE8:Hid (opP k=[.I 2]):=by show _=_;unfold opP;rw [if_neg k1,if_pos k2]
     have HB0:=show Hid (Da 67 #[spg g,.int .i64 2,.bool false] (w3.setCell ⟨g,1,none⟩ (.slice p3 (s2.ns.length+1) c3)) fun rr w'=>rr=.returned (.tuple #[])/\Mw S g W w' (Sy.aw { s2 with ns:=⟨k,0,false⟩ :: s2.ns } (.I 2))) from HB.out _ HM.out 2 (.I 2) ⟨rfl,rfl⟩
     clear HB HM k1
     rcases k2 with rfl|rfl|rfl
     all_goals (
      go_wp2_with (go_at_call 67;refine HB0.out.mono ?_;rintro r4 w4 ⟨rfl,m4⟩;have HE:=hid m4;clear m4)
      go_end0
      exact ⟨rfl,by rw [HE8.out];exact HE.out⟩)
    ·have HE8:Hid (opP k=[]):=by show _=_;unfold opP;rw [if_neg k1,if_neg k2]
     simp only [not_or] at k1 k2;have q1:(k == 21)=false:=by simpa using k1.1
     have q2:(k == 22)=false:=by simpa using k1.2.1
     have q3:(k == 23)=false:=by simpa using k1.2.2.1
     have q4:(k == 24)=false:=by simpa using k1.2.2.2
     have q5:(k == 14)=false:=by simpa using k2.1
     have q6:(k == 7)=false:=by simpa using k2.2.1
     have q7:(k == 11)=false:=by simpa using k2.2.2
     clear HB k1 k2
     go_wp2_with fail
     go_end0
     exact ⟨rfl,by rw [HE8.out];exact HM.out⟩
theorem Mw.below {S:Nat->Prop}{W2:World}(h:Mw S g W W1 st) (hb:Below W1.heap.size W1 W2):Mw S g W W2 st:=by
 obtain ⟨S1,t1,u1⟩:=Mw.seq h;exact u1 _ _ ⟨⟨S1,t1.below hb,fun _ h=>.inl h⟩,Kp.of_below hb⟩
def eY (st:Sy) (n:Nd) (r:List Nd) (j:Nat):Sy:={ st with ns:=⟨n.k,n.b-j,n.s⟩ :: r,ws:=st.ws++List.replicate j dX }
theorem ti (e:st.ns=n :: r):eY st n r 0=st:=by
 unfold eY;rw [List.replicate_zero,List.append_nil,Nat.sub_zero,<-e]
theorem tj {j:Nat}(hj:j<n.b):(eY st n r j).aw .X=eY st n r (j+1):=by
 unfold Sy.aw eY
 have h1:awN .X ((⟨n.k,n.b-j,n.s⟩:Nd) :: r)=⟨n.k,n.b-(j+1),n.s⟩ :: r:=by
  simp only [awN];rw [if_pos trivial];show (⟨n.k,n.b-j-1,n.s⟩:Nd) :: r=_;rw [Nat.sub_sub]
 have h2:awW .X ((⟨n.k,n.b-j,n.s⟩:Nd) :: r)=[dX]:=by
  unfold awW;rw [if_neg (by simp;omega)];rfl
 show ({ st with ns:=awN .X ((⟨n.k,n.b-j,n.s⟩:Nd) :: r),ws:=(st.ws++List.replicate j dX)++awW .X ((⟨n.k,n.b-j,n.s⟩:Nd) :: r) }:Sy)=_
 rw [h1,h2,List.append_assoc,List.replicate_succ']
theorem ra {m:Nat}(e:st.ns=n :: r) (h:Bz m st) (j:Nat) (hj:j<=n.b):Bz (2*m) (eY st n r j):=by
 obtain ⟨h1,h2,h3⟩:=h;rw [e] at h2 h3;have hm:=h3 n List.mem_cons_self;refine ⟨?_,?_,?_⟩
 ·show (st.ws++List.replicate j dX).length<=_
  rw [List.length_append,List.length_replicate];omega
 ·show ((⟨n.k,n.b-j,n.s⟩:Nd) :: r).length<=_
  simp at h2 ⊢;omega
 ·intro x hx
  rcases List.mem_cons.1 (show x∈(⟨n.k,n.b-j,n.s⟩:Nd) :: r from hx) with rfl|hx
  ·show n.b-j<=_;omega
  ·have:=h3 x (List.mem_cons_of_mem _ hx);omega
theorem SS.pop {S:Nat->Prop}(h:SS S W g st) {b cap:Nat}{n:Nd}{r:List Nd}(e:st.ns=n :: r) (hc:W.cell? ⟨g,1,none⟩=some (.slice (some ⟨b,0,none⟩) (r.length+1) cap)) :
  W.frozen? ⟨g,1,none⟩=false/\r.length+1<=cap/\Mw S g W (W.setCell ⟨g,1,none⟩ (.slice (some ⟨b,0,none⟩) r.length cap)) { st with ns:=r }:=by
 obtain ⟨vn,vw,hv,s1,s2⟩:=h.ex;have e1:vn=.slice (some ⟨b,0,none⟩) (r.length+1) cap:=by have:=hv.sb.cells.2.1;rw [hc] at this;exact (Option.some.inj this).symm
 subst e1;have hn:Rn tN W (.slice (some ⟨b,0,none⟩) (r.length+1) cap) (n :: r):=by rw [<-e];exact hv.rn
 have hp:=AG hn;obtain ⟨_,_,e2,_,hcc⟩:=iP hn;cases e2;refine ⟨hv.sb.frozen 1,hcc,Mw.mk' (vn:=.slice (some ⟨b,0,none⟩) r.length cap) (vw:=vw) ⟨af hv.sb 1 _,(Kp.set _ _ _ _).row hp (fun k e1 e2=>aA hp hv.sb (by decide) (by rw [e1,e2])),(Kp.set _ _ _ _).row hv.rd (fun k e1 e2=>aA hv.rd hv.sb (by decide) (by rw [e1,e2]))⟩ h.sg (fun k e=>.inl (s1 k e)) (fun k e=>.inl (s2 k e)) ((Kp.set _ _ _ _).sub (fun k e=>by rw [e];exact h.sg))⟩
theorem sP {S:Nat->Prop}(h:SS S W g st) (hz:Bz 400000000 st) {n:Nd}{r:List Nd}(e:st.ns=n :: r) :
  Da 36 #[spg g] W fun rr w'=>rr=.returned (.tuple #[])/\Mw S g W w' st.leaves:=by
 obtain ⟨b,cap,hc,_⟩:=h.nodes e;have hr9:r.length<=900000000:=by have:=hz.2.1;rw [e] at this;simp at this;omega
 have hb9:n.b<=400000000:=hz.2.2 n (by rw [e];exact List.mem_cons_self);have HI:Hid (Da 62 #[spg g] W fun rr w'=>rr=.returned (.pointer (some ⟨b,r.length*3,none⟩))/\Db W w'):=dL hc (by omega)
 have HE:Hid (∀j V,j<n.b->Mv S g W V (eY st n r j)->Da 68 #[spg g] V fun rr w'=>rr=.returned (.tuple #[])/\Mv S g W w' (eY st n r (j+1))):=fun j V hj hV=>by
  obtain ⟨S1,t1,u1⟩:=Mv.seq hV;refine (i8 t1 (by show (_ :: _:List Nd)≠[];simp) ((ra e hz j (by omega)).mono (by omega))).mono ?_;rintro rr w' ⟨rfl,m⟩;rw [tj hj] at m;exact ⟨rfl,u1 _ _ m⟩
 have HH:Hid (∀V,Mv S g W V (eY st n r n.b)->Da 69 #[spg g] V fun rr w'=>rr=.returned (.tuple #[])/\Mv S g W w' ((eY st n r n.b).aw .H)):=fun V hV=>by
  obtain ⟨S1,t1,u1⟩:=Mv.seq hV;refine (jQ t1 (by show (_ :: _:List Nd)≠[];simp) ((ra e hz n.b (Nat.le_refl _)).mono (by omega))).mono ?_;rintro rr w' ⟨rfl,m⟩;exact ⟨rfl,u1 _ _ m⟩
 have HC:Hid (∀j V,Mv S g W V (eY st n r j)->V.cell? ⟨b,r.length*3+1,none⟩=some (.int .i64 ((n.b-j:Nat):Int))/\V.cell? ⟨b,r.length*3,none⟩=some (.int .u8 n.k)):=fun j V hV=>by
  obtain ⟨S1,t1,u1⟩:=Mv.seq hV;obtain ⟨a0,a1,a2⟩:=t1.cells2 (n:=⟨n.k,n.b-j,n.s⟩) (r:=r) rfl (hV.2.2.trans hc);exact ⟨a1,a0⟩
 have HF:Hid (∀V st',Mv S g W V st'->(∃n',st'.ns=n' :: r)->V.cell? ⟨g,1,none⟩=some (.slice (some ⟨b,0,none⟩) (r.length+1) cap)/\V.frozen? ⟨g,1,none⟩=false/\r.length+1<=cap/\Mw S g W (V.setCell ⟨g,1,none⟩ (.slice (some ⟨b,0,none⟩) r.length cap)) { st' with ns:=r }):=fun V st' hV ⟨n',en⟩=>by
  obtain ⟨S1,t1,u1⟩:=Mw.seq hV.w;have hc1:=hV.2.2.trans hc;obtain ⟨a1,a2,a3⟩:=t1.pop en hc1;exact ⟨hc1,a1,a2,u1 _ _ a3⟩
 have HL1:Hid (n.k=1->({ ((eY st n r n.b).aw .H) with ns:=r }:Sy)=st.leaves):=fun h1=>by
  unfold Sy.leaves;rw [e];simp only;rw [if_pos h1];rfl
 have HL2:Hid (n.k≠1->({ (eY st n r n.b) with ns:=r }:Sy)=st.leaves):=fun h1=>by
  unfold Sy.leaves;rw [e];simp only;rw [if_neg h1,List.append_nil];rfl
 have HS:Hid (∀V,Db W V->Mv S g W V (eY st n r 0)):=fun V hb=>by rw [ti e];exact Mv.quiet h hb
 clear h hz e hc;have q3:IntKind.i64.wrap (r.length:Int)=r.length:=by rw [IntKind.wrap_i64];omega
 go_enter Tryz.func36,Tryz.ntmps36
 go_wp2_with (go_at_call 62;refine HI.out.mono ?_;rintro r1 w1 ⟨rfl,hb1⟩;have HB:=show Hid (Below W.heap.size W w1) from hb1;clear hb1)
 go_loopw [] (fun wr=>∃j:Nat,j<=n.b/\Hid (Mv S g W wr (eY st n r j))) (fun wr=>match wr.cell? ⟨b,r.length*3+1,none⟩ with|some v=>(intOf v).toNat|none=>0)
 case atStart=>exact ⟨0,Nat.zero_le _,HS.out _ HB.out⟩
 case round=>
  obtain ⟨j,hj,HJ⟩:=hrel;obtain ⟨x1,x0⟩:=HC.out j _ HJ.out
  by_cases hlt:j<n.b
  ·have q1:(0:Int)<((n.b-j:Nat):Int):=by omega
   go_wp2_with (go_at_call 68;refine (HE.out j _ hlt HJ.out).mono ?_;rintro r2 w2 ⟨rfl,m2⟩;have HM:=show Hid (Mv S g W w2 (eY st n r (j+1))) from m2;clear m2)
   refine ⟨⟨j+1,hlt,HM⟩,?_⟩;rw [(HC.out (j+1) _ HM.out).1,x1];simp [intOf];omega
  ·obtain rfl:j=n.b:=by omega
   have x2:wr.cell? ⟨b,r.length*3+1,none⟩=some (.int .i64 0):=by rw [x1];simp
   clear x1
   by_cases h1:n.k=1
   ·have q2:(n.k == 1)=true:=by simpa using h1
    have HL:=show Hid (({ ((eY st n r n.b).aw .H) with ns:=r }:Sy)=st.leaves) from HL1.out h1
    clear HL1 HL2 h1 hlt;have y6:(0:Int)<=(r.length:Int):=by omega
    go_upto_region 5 with (go_at_call 69;refine (HH.out _ HJ.out).mono ?_;rintro r2 w2 ⟨rfl,m2⟩;obtain ⟨y1,y2,y3,y4⟩:=HF.out _ _ m2 ⟨_,rfl⟩;rw [HL.out] at y4;have HY:=show Hid (Mw S g W (w2.setCell ⟨g,1,none⟩ (.slice (some ⟨b,0,none⟩) r.length cap)).drew st.leaves) from y4.below ((Below.refl _ _).drew);clear y4 m2)
    have y5:(r.length:Int)<=(cap:Int):=by omega
    go_region_law (fail)
    all_goals (
     go_wp2_with fail
     go_end0
     exact ⟨rfl,HY.out⟩)
   ·have q2:(n.k == 1)=false:=by simpa using h1
    have HL:=show Hid (({ (eY st n r n.b) with ns:=r }:Sy)=st.leaves) from HL2.out h1
    obtain ⟨y1,y2,y3,y4⟩:=HF.out _ _ HJ.out ⟨_,rfl⟩;rw [HL.out] at y4;have HY:=show Hid (Mw S g W (wr.setCell ⟨g,1,none⟩ (.slice (some ⟨b,0,none⟩) r.length cap)).drew st.leaves) from y4.below ((Below.refl _ _).drew)
    clear y4 HL1 HL2 h1 hlt HL;have y5:(r.length:Int)<=(cap:Int):=by omega
    have y6:(0:Int)<=(r.length:Int):=by omega
    go_wp2_with fail
    go_region_law (fail)
    all_goals (
     go_wp2_with fail
     go_end0
     exact ⟨rfl,HY.out⟩)
def Eb (W:World) (E:Nat) (e:Ev):Prop:=W.heap[E]?=some (.cells #[.int .u8 e.k,.int .u8 e.n,.int .u8 e.d.k,.string e.d.t,.int .i64 e.d.a,.int .i64 e.d.l,.int .i64 e.d.c,.int .i64 e.d.f] 39 (0,0))
theorem Eb.cells {W:World}{E:Nat}{e:Ev}(h:Eb W E e):W.cell? ⟨E,0,none⟩=some (.int .u8 e.k)/\W.cell? ⟨E,1,none⟩=some (.int .u8 e.n)/\W.cell? ⟨E,2,none⟩=some (.int .u8 e.d.k)/\W.cell? ⟨E,3,none⟩=some (.string e.d.t)/\W.cell? ⟨E,4,none⟩=some (.int .i64 e.d.a)/\W.cell? ⟨E,5,none⟩=some (.int .i64 e.d.l)/\W.cell? ⟨E,6,none⟩=some (.int .i64 e.d.c)/\W.cell? ⟨E,7,none⟩=some (.int .i64 e.d.f):=
 ⟨aa h rfl,aa h rfl,aa h rfl,aa h rfl,aa h rfl,aa h rfl,aa h rfl,aa h rfl⟩
theorem rM {S:Nat->Prop}(h:SS S W g st) (hz:st.ns.length<=900000000) (e:Ev) (ht:e.d.t.size<=9223372036854775807) :
  Da 34 #[spg g,.agg #[.int .u8 e.k,.int .u8 e.n,.int .u8 e.d.k,.string e.d.t,.int .i64 e.d.a,.int .i64 e.d.l,.int .i64 e.d.c,.int .i64 e.d.f]] W fun rr w'=>rr=.returned (.bool (st.may e))/\Below W.heap.size W w':=by
 obtain ⟨V,hV⟩:∃V,W.alloc (.cells #[.int .u8 e.k,.int .u8 e.n,.int .u8 e.d.k,.string e.d.t,.int .i64 e.d.a,.int .i64 e.d.l,.int .i64 e.d.c,.int .i64 e.d.f] 39)=V:=⟨_,rfl⟩;have hB:Below W.heap.size W V:=by rw [<-hV];exact (Below.refl _ _).alloc (Nat.le_refl _) _
 have hE:Eb V W.heap.size e:=by rw [<-hV];exact am _ _
 have HV:Hid (W.alloc (.cells #[.int .u8 e.k,.int .u8 e.n,.int .u8 e.d.k,.string e.d.t,.int .i64 e.d.a,.int .i64 e.d.l,.int .i64 e.d.c,.int .i64 e.d.f] 39)=V):=hV;have hs:=h.below hB;obtain ⟨m0,m1,m2,m3,m4,m5,m6,m7⟩:=hE.cells;have HF:Hid (∀X,Db V X->Db W X):=fun X hX=>hB.trans (hX.mono hB.size)
 have HD:Hid (∀m,Db W (V.drewN m)):=fun m=>bR hB m
 have HT:Hid (∀X,Da 63 #[.string e.d.t] X fun r w'=>r=.returned (.bool (rtT e.d.t))/\w'=X):=rQ e.d.t ht;have HC:Hid (∀X,Da 64 #[.agg #[.int .u8 e.d.k,.string e.d.t,.int .i64 e.d.a,.int .i64 e.d.l,.int .i64 e.d.c,.int .i64 e.d.f]] X fun r w'=>r=.returned (.bool (decide (e.d.k=7\/e.d.k=8)))/\Db X w'):=vO e.d;have HB0:Hid (Db W V):=hB;cases hn:st.ns with
 |nil=>
  have hc1:∃p c,V.cell? ⟨g,1,none⟩=some (.slice p 0 c):=by
   obtain ⟨vn,vw,hv,_⟩:=hs.ex;obtain ⟨p,c,ee,_⟩:=av hv.rn;rw [hn] at ee;exact ⟨p,c,by rw [<-show vn=.slice p 0 c from ee];exact hv.sb.cells.2.1⟩
  obtain ⟨p,c,c1⟩:=hc1
  have HM:Hid (st.may e=(if e.k=1 then decide (1<=e.n) && decide (e.n<=32) else false)):=by
   show _=_
   unfold Sy.may;rw [hn]
   by_cases a1:e.k=1 <;> by_cases a2:e.k=3 <;> by_cases a3:e.k=2 <;> by_cases a4:e.k=4 <;> simp [a1,a2,a3,a4]
  clear h hs hB hE hn hV hz
  by_cases a1:e.k=1
  ·have q1:(e.k == 1)=true:=by simpa using a1
   have HM2:Hid (st.may e=(decide (1<=e.n) && decide (e.n<=32))):=by rw [HM.out,if_pos a1];exact rfl
   clear HM a1
   go_enter Tryz.func34,Tryz.ntmps34
   go_upto_region 1 with fail
   rw [HV.out]
   go_wp2_with fail
   all_goals (go_ret;rw [HM2.out];refine ⟨?_,HB0.out⟩;simp_all <;> omega)
  ·have HM2:Hid (st.may e=false):=by rw [HM.out,if_neg a1];exact rfl
   have q1:(e.k == 1)=false:=by simpa using a1
   clear HM a1
   by_cases a2:e.k=3
   ·have q2:(e.k == 3)=true:=by simpa using a2
    clear a2
    go_enter Tryz.func34,Tryz.ntmps34
    go_upto_region 1 with fail
    rw [HV.out]
    go_wp2_with fail
    go_quiet (fail)
    go_wp2_with fail
    go_ret
    rw [HM2.out];exact ⟨rfl,HD.out _⟩
   ·have q2:(e.k == 3)=false:=by simpa using a2
    by_cases a3:e.k=2
    ·have q3:(e.k == 2)=true:=by simpa using a3
     clear a2 a3
     go_enter Tryz.func34,Tryz.ntmps34
     go_upto_region 1 with fail
     rw [HV.out]
     go_wp2_with fail
     go_ret
     rw [HM2.out];exact ⟨rfl,HB0.out⟩
    ·have q3:(e.k == 2)=false:=by simpa using a3
     by_cases a4:e.k=4
     ·have q4:(e.k == 4)=true:=by simpa using a4
      clear a2 a3 a4
      go_enter Tryz.func34,Tryz.ntmps34
      go_upto_region 1 with fail
      rw [HV.out]
      go_wp2_with fail
      go_ret
      rw [HM2.out];exact ⟨rfl,HB0.out⟩
     ·have q4:(e.k == 4)=false:=by simpa using a4
      clear a2 a3 a4
      go_enter Tryz.func34,Tryz.ntmps34
      go_upto_region 1 with fail
      rw [HV.out]
      go_wp2_with fail
      go_ret
      rw [HM2.out];exact ⟨rfl,HB0.out⟩
 |cons n r=>
  obtain ⟨b,cap,hc,y0,y1,y2,y3⟩:=hs.nodes hn;have HI:Hid (∀X,Db V X->Da 62 #[spg g] X fun rr w'=>rr=.returned (.pointer (some ⟨b,r.length*3,none⟩))/\Db X w'):=fun X hX=>dL (aY hc hX) (by rw [hn] at hz;simp at hz;omega)
  have q0:(0:Int)<(r.length:Int)+1:=by omega
  have HM:Hid (st.may e=(if e.k=1 then decide (1<=e.n) && decide (e.n<=32) else if e.k=3 then decide (n.k=e.n) else if e.k=2 then rtT e.d.t else if e.k=4 then (rtT e.d.t && decide (e.d.k=7\/e.d.k=8)) else false)):=by
   show _=_
   unfold Sy.may;rw [hn]
   by_cases a1:e.k=1 <;> by_cases a2:e.k=3 <;> by_cases a3:e.k=2 <;> by_cases a4:e.k=4 <;> simp [a1,a2,a3,a4]
  clear h hs hB hE hn hV hz y3
  by_cases a1:e.k=1
  ·have q1:(e.k == 1)=true:=by simpa using a1
   have HM2:Hid (st.may e=(decide (1<=e.n) && decide (e.n<=32))):=by rw [HM.out,if_pos a1];exact rfl
   clear HM a1
   go_enter Tryz.func34,Tryz.ntmps34
   go_upto_region 1 with fail
   rw [HV.out]
   go_wp2_with fail
   all_goals (go_ret;rw [HM2.out];refine ⟨?_,HB0.out⟩;simp_all <;> omega)
  ·rw [if_neg a1] at HM;have q1:(e.k == 1)=false:=by simpa using a1
   clear a1
   by_cases a2:e.k=3
   ·rw [if_pos a2] at HM;have q2:(e.k == 3)=true:=by simpa using a2
    clear a2;have HM2:Hid (st.may e=(n.k == e.n)):=by rw [HM.out];show _=_;by_cases a:n.k=e.n <;> simp [a]
    have hc1:∀x:HW (SG V),x.W.cell? ⟨W.heap.size,1,none⟩=some (.int .u8 e.n):=fun x=>aY m1 x.h
    have hc0:∀x:HW (SG V),x.W.cell? ⟨b,r.length*3,none⟩=some (.int .u8 n.k):=fun x=>aY y0 x.h
    have hne:Nonempty (HW (SG V)):=⟨⟨V.drew,(Below.refl _ _).drew⟩⟩;have hex:∀x:HW (SG V),∃y:HW (SG V),x.W=y.W:=fun x=>⟨x,rfl⟩
    have KT:Hid (∀x:HW (SG V),Da 62 #[spg g] x.W fun rr w'=>rr=.returned (.pointer (some ⟨b,r.length*3,none⟩))/\Below x.W.heap.size x.W w'):=fun x=>HI.out x.W x.h
    go_enter Tryz.func34,Tryz.ntmps34
    go_upto_region 1 with fail
    rw [HV.out]
    go_upto_region 6 with fail
    refine bC (S:=SG V) (by kernel_rfl) (by kernel_rfl) (Below.refl _ _).drew ?_
    repeat (go_big_quiet_step ((go_at_call 62;exact Calls.quiet_in _ (KT.out _) (fun _ _=>SG.keep))))
    refine wpQuiet_nil ?_;rintro w5 ⟨⟨W5,hS5⟩,rfl⟩;have HS5:Hid (Db V w5):=hS5;clear hc0 hc1 hS5 hne hex
    go_wp2_with fail
    go_ret
    rw [HM2.out];exact ⟨rfl,HF.out _ HS5.out⟩
   ·rw [if_neg a2] at HM;have q2:(e.k == 3)=false:=by simpa using a2
    clear a2
    by_cases a3:e.k=2
    ·rw [if_pos a3] at HM;have q3:(e.k == 2)=true:=by simpa using a3
     clear a3
     go_enter Tryz.func34,Tryz.ntmps34
     go_upto_region 1 with fail
     rw [HV.out]
     go_wp2_with (go_at_call 63;refine (HT.out _).mono ?_;rintro r2 w2 ⟨rfl,rfl⟩)
     go_ret
     rw [HM.out];exact ⟨rfl,HB0.out⟩
    ·rw [if_neg a3] at HM;have q3:(e.k == 2)=false:=by simpa using a3
     clear a3
     by_cases a4:e.k=4
     ·rw [if_pos a4] at HM;have q4:(e.k == 4)=true:=by simpa using a4
      clear a4
      generalize rtT e.d.t=bt at *
      generalize decide (e.d.k=7\/e.d.k=8)=bc at *
      cases bt
      ·go_enter Tryz.func34,Tryz.ntmps34
       go_upto_region 1 with fail
       rw [HV.out]
       go_wp2_with (go_at_call 63;refine (HT.out _).mono ?_;rintro r2 w2 ⟨rfl,rfl⟩)
       go_ret
       rw [HM.out];exact ⟨rfl,HB0.out⟩
      ·go_enter Tryz.func34,Tryz.ntmps34
       go_upto_region 1 with fail
       rw [HV.out]
       go_wp2_with (first|(go_at_call 63;refine (HT.out _).mono ?_;rintro r2 w2 ⟨rfl,rfl⟩)|(go_at_call 64;refine (HC.out _).mono ?_;rintro r3 w3 ⟨rfl,hb3⟩;have HB3:=show Hid (Below W.heap.size W w3) from HF.out _ hb3;clear hb3))
       go_ret
       rw [HM.out];exact ⟨rfl,HB3.out⟩
     ·rw [if_neg a4] at HM;have q4:(e.k == 4)=false:=by simpa using a4
      clear a4
      go_enter Tryz.func34,Tryz.ntmps34
      go_upto_region 1 with fail
      rw [HV.out]
      go_wp2_with fail
      go_ret
      rw [HM.out];exact ⟨rfl,HB0.out⟩
end Go.Proofs.YtpdlohfdjiaegaaGreatDoor
