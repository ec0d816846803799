import Derived.Test.YtpdlohfdjiaegaaGreatDoorR23
set_option linter.unusedVariables false
set_option linter.unusedSimpArgs false
namespace Go.Proofs.YtpdlohfdjiaegaaGreatDoor
open Go.RowKit
open Lw (Dc bE rt frm dep rtT rtN dcs au aH)
variable {st:Sy}{g:Nat}{W wr:World}{vw vn:Value}{p:Pz}
theorem t8 {l:List Pz}{j:Nat}(h:l[j]?=some p):st.aws (l.take (j+1))=(st.aws (l.take j)).aw p:=by
 obtain ⟨h1,h2⟩:=zv.1 h;rw [AX h1,wA,h2];rfl
theorem yN (st:Sy) (l:List Pz):(st.aws l).ws.length<=st.ws.length+l.length/\(st.aws l).ns.length=st.ns.length/\∀B,(∀n∈st.ns,n.b<=B)->∀n∈(st.aws l).ns,n.b<=B+l.length:=by
 induction l generalizing st with
 |nil=>exact ⟨eq _,rfl,fun B h n hn=>h n hn⟩
 |cons p l ih=>
  obtain ⟨a1,a2,a3⟩:=ih (st.aw p);rw [bJ]
  have w1:(st.aw p).ws.length<=st.ws.length+1:=by
   rw [jF,zq];unfold awW
   split <;> simp
  refine ⟨by simp;omega,a2.trans ?_,fun B h n hn=>?_⟩
  ·show (awN p st.ns).length=_;cases st.ns <;> rfl
  ·have:=a3 (B+1) (fun m hm=>?_) n hn
   ·simp;omega
   ·have hm':m∈awN p st.ns:=hm;cases hc:st.ns with
    |nil=>rw [hc] at hm';cases hm'
    |cons n0 r0=>
     rw [hc] at hm'
     rcases zK.1 hm' with e|e
     ·have h0:=h n0 (by rw [hc];exact zV);have hp:p.n<=1:=by cases p <;> simp [Pz.n]
      rw [e]
      split
      ·show n0.b-1<=_;omega
      ·show n0.b+p.n<=_;omega
     ·have:=h m (by rw [hc];exact zX _ e);omega
theorem aA {P:Program}{C:Code}{Q:Exit->Act->World->Prop}{a:Act}(F:World->Prop) (h:F W) (k:∀V,F V->Code.wp P C Q a V):Code.wp P C Q a W:=k W h
structure Wt (wr V:World) (g:Nat) (st:Sy) (p:Pz) (vn vw:Value):Prop where
 blk:V.heap[wr.heap.size]?=some (.cells #[.int .u8 p.d.k,.string p.d.t,.int .i64 p.d.b,.int .i64 p.d.i,.bool p.d.e] 57 (0,0))
 dv:DV V g { st with ns:=awN p st.ns } vn vw
 kp:Kp (fun k=>vn.ownBlock=some k) wr V
theorem Wt.plain (h:DV wr g st vn vw) (p:Pz) (hp:awN p st.ns=st.ns):Wt wr (wr.alloc (.cells #[.int .u8 p.d.k,.string p.d.t,.int .i64 p.d.b,.int .i64 p.d.i,.bool p.d.e] 57)) g st p vn vw:=by
 have hb:Below wr.heap.size wr (wr.alloc (.cells #[.int .u8 p.d.k,.string p.d.t,.int .i64 p.d.b,.int .i64 p.d.i,.bool p.d.e] 57)):=(gt _ _).alloc (eq _) _;exact ⟨ag _ _,by rw [hp];exact h.below hb,Kp.of_below hb⟩
theorem Wt.node {b cap:Nat}{n:Nd}{r:List Nd}(e:st.ns=n :: r) (h:DV wr g st (.slice (some ⟨b,0,none⟩) (r.length+1) cap) vw) (p:Pz) (z L:Nat) (hp:awN p (n :: r)=⟨n.k,z,n.s⟩ :: r) (hL:r.length=L):Wt wr ((wr.setCell ⟨b,L*3+1,none⟩ (.int .i64 z)).alloc (.cells #[.int .u8 p.d.k,.string p.d.t,.int .i64 p.d.b,.int .i64 p.d.i,.bool p.d.e] 57)) g st p (.slice (some ⟨b,0,none⟩) (r.length+1) cap) vw:=by
 subst hL;have hk:=Kp.set wr b (r.length*3+1) (.int .i64 z);have hs:(wr.setCell ⟨b,r.length*3+1,none⟩ (.int .i64 z)).heap.size=wr.heap.size:=by show (wr.heap.modify b _).size=_;rw [AJ]
 have hb:Below (wr.setCell ⟨b,r.length*3+1,none⟩ (.int .i64 z)).heap.size (wr.setCell ⟨b,r.length*3+1,none⟩ (.int .i64 z)) ((wr.setCell ⟨b,r.length*3+1,none⟩ (.int .i64 z)).alloc (.cells #[.int .u8 p.d.k,.string p.d.t,.int .i64 p.d.b,.int .i64 p.d.i,.bool p.d.e] 57)):=(gt _ _).alloc (eq _) _;refine ⟨by rw [<-hs];exact ag _ _,?_,(hk.sub (fun k e=>by rw [e];rfl)).step (Kp.of_below (S:=fun _=>False) hb) (fun _ _ h=>h.elim)⟩;rw [e,hp];exact (DV.nd (n:=n) (m:=⟨n.k,z,n.s⟩) e h 1 (.int .i64 z) (by omega) rfl).below hb
theorem Wt.fin {S S1:Nat->Prop}{V Wx w3:World}{v':Value}(h:Wt wr V g st p vn vw) (hk:Kp S W wr) (hS:∀k,S1 k->S k\/W.heap.size<=k) (hs:S g) (u1:∀k,vn.ownBlock=some k->S1 k) (u2:∀k,vw.ownBlock=some k->S1 k)
  (hp:awW p st.ns=[p.d]) (hb:Below V.heap.size V Wx) (hr:Rof w3 v' (st.ws++[p.d])) (hg:Kp (fun k=>vw.ownBlock=some k) Wx w3) (hn:Nb Wx vw v') :
  (w3.cell? ⟨g,1,none⟩=some vw/\w3.frozen? ⟨g,1,none⟩=false)/\DM S g W (w3.setCell ⟨g,1,none⟩ v') (st.aw p):=by
 obtain ⟨a1,a2,a3⟩:=h.dv.ws hb hg hr;refine ⟨a1,?_⟩;have e:({ ({ st with ns:=awN p st.ns }:Sy) with ws:=st.ws++[p.d] }:Sy)=st.aw p:=by unfold Sy.aw;rw [hp]
 rw [e] at a2;have hsz:W.heap.size<=wr.heap.size:=hk.size;refine DM.mk' a2 hs (fun k ek=>hS k (u1 k ek)) (fun k ek=>?_) ((hk.step h.kp (fun k hlt ek=>(hS k (u1 k ek)).elim id (fun h=>by omega))).step a3 (fun k hlt ek=>?_))
 ·rcases hn with hn|⟨q,hq,hq2⟩
  ·exact hS k (u2 k (by rw [<-hn];exact ek))
  ·rw [hq] at ek;cases ek;exact .inr (zr (zr hsz h.kp.size) (zr hb.size hq2))
 ·rcases ek with ek|ek
  ·rw [ek];exact hs
  ·exact (hS k (u2 k ek)).elim id (fun h=>by omega)
set_option maxRecDepth 100000 in
set_option maxHeartbeats 2000000 in
theorem oU {S:Nat->Prop}(h:DS S W g st) (hne:st.ns≠[]) (l:List Pz) (hf:∀p∈l,p.few=true) (t:ByteArray) (ht:t.data.toList=l.map pzb) (hl:l.length<=10) (hw:st.ws.length<=1000000000) (hn:st.ns.length<=1000000000) (hb:∀n∈st.ns,n.b<=1000000000) :
  Aa 76 #[spg g,.string t] W fun r w'=>r=.returned (.tuple #[])/\DM S g W w' (st.aws l):=by
 have hts:t.size=l.length:=by have:=zO List.length ht;simpa using this
 obtain ⟨vn,vw,hv,s1,s2⟩:=h.ex
 obtain ⟨n0,r0,en⟩:∃n r,st.ns=n :: r:=by
  cases hc:st.ns with
  |nil=>exact absurd hc hne
  |cons n r=>exact ⟨n,r,rfl⟩
 have hn1:=hv.rn;rw [en] at hn1;obtain ⟨b,cap,rfl,hc1,hc2⟩:=ea hn1;obtain ⟨c0,c1,c2,c3,c4,c5,c6⟩:=hv.sb.cells;have q0:r0.length<=1000000000:=by rw [en] at hn;simp at hn;omega
 have HI0:Hid (DM S g W W st):=DM.refl h;have HT:Hid (t.data.toList=l.map pzb):=ht;have HF:Hid (∀p∈l,p.few=true):=hf;have HW:Hid (S g/\st.ws.length<=1000000000/\(∀n∈st.ns,n.b<=1000000000)/\st.ns=n0 :: r0):=⟨h.sg,hw,hb,en⟩;clear hn1 hv s1 s2 c1 c2 c3 c4 c5 c6 ht hf h hne hw hn hb en
 go_enter Tryz.func76,Tryz.ntmps76
 go_wp2_with fail
 clear c0
 go_loopw [5] (fun i wr=>∃j:Nat,j<=l.length/\i=.int .i64 j/\Hid (DM S g W wr (st.aws (l.take j)))) (fun i _=>l.length-(intOf i).toNat)
 case atStart=>exact ⟨0,by omega,rfl,HI0.out⟩
 case round=>
  obtain ⟨j,hj,rfl,HI⟩:=hrel
  by_cases hlt:j<l.length
  ·have q1:(j:Int)<t.size:=by omega
   have q3:(0:Int)<=j:=by omega
   obtain ⟨p,hp⟩:∃p,l[j]?=some p:=⟨_,hH hlt⟩;have hjt:j<t.size:=by omega
   have hbt:t[j]=pzb p:=by
    have h1:t.data.toList[j]?=some (pzb p):=by rw [HT.out,AK,hp];rfl
    have h2:t.data.toList[j]?=some t[j]:=by
     rw [BM];exact zY hjt
    rw [h1] at h2;exact (zT h2).symm
   have hfew:=HF.out p (Ah hp);have HA:Hid (st.aws (l.take (j+1))=(st.aws (l.take j)).aw p):=t8 hp;obtain ⟨hsg,hw0,hb0,en0⟩:=HW.out;have hph:=yN st (l.take j);have hlj:(l.take j).length<=10:=by rw [zH];omega
   obtain ⟨st1,hst1⟩:∃st1,st.aws (l.take j)=st1:=⟨_,rfl⟩;rw [hst1] at HI HA hph;obtain ⟨⟨S1,hS1,hS2⟩,hk1⟩:=HI.out;obtain ⟨vn1,vw1,hv1,u1,u2⟩:=hS1.ex;obtain ⟨d0,d1,d2,d3,d4,d5,d6⟩:=hv1.sb.cells;obtain ⟨p2,cp2,e2,_⟩:=hv1.ro.shape;subst e2
   obtain ⟨n1,r1,en1⟩:∃n r,st1.ns=n :: r:=by
    cases hc:st1.ns with
    |nil=>rw [hc,en0] at hph;simp at hph
    |cons n r=>exact ⟨n,r,rfl⟩
   have er:r1.length=r0.length:=by have:=hph.2.1;rw [en1,en0] at this;simpa using this
   have hn2:=hv1.rn;rw [en1] at hn2;obtain ⟨b1,cap1,e1,hc11,hc12⟩:=ea hn2;subst e1;have hwl:st1.ws.length+([p.d]).length<=2000000000:=by have:=hph.1;simp;omega
   have hnb:n1.b<=1000000010:=by
    have h1:=hph.2.2 1000000000 hb0 n1 (by rw [en1];exact zV);omega
   have hgl:=hv1.sb.lt;have hbl:=bS hn2 b1 rfl
   have HS:Hid (∀V,Wt wr V g st1 p (.slice (some ⟨b1,0,none⟩) (r1.length+1) cap1) (.slice p2 st1.ws.length cp2)->awW p st1.ns=[p.d] ->
    (V.cell? ⟨g,1,none⟩=some (.slice p2 st1.ws.length cp2)/\g<V.heap.size/\V.heap[wr.heap.size]?=some (.cells #[.int .u8 p.d.k,.string p.d.t,.int .i64 p.d.b,.int .i64 p.d.i,.bool p.d.e] 57 (0,0))/\(∀o,Rof (V.drew.alloc o) (.slice p2 st1.ws.length cp2) st1.ws)) /\
    ∀o w3 q o' c',Rof w3 (.slice (some ⟨q,o',none⟩) (st1.ws.length+1) c') (st1.ws++[p.d])->Kp (fun k=>(Value.slice p2 st1.ws.length cp2).ownBlock=some k) (V.drew.alloc o) w3->Nb (V.drew.alloc o) (.slice p2 st1.ws.length cp2) (.slice (some ⟨q,o',none⟩) (st1.ws.length+1) c')->(w3.cell? ⟨g,1,none⟩=some (.slice p2 st1.ws.length cp2)/\w3.frozen? ⟨g,1,none⟩=false)/\DM S g W (w3.setCell ⟨g,1,none⟩ (.slice (some ⟨q,o',none⟩) (st1.ws.length+1) c')) (st1.aw p)):=fun V hV hp1=>
     ⟨⟨hV.dv.sb.cells.2.1,hV.dv.sb.lt,hV.blk,fun o=>hV.dv.ro.below (((gt _ _).drew).alloc (eq _) _)⟩,fun o w3 q o' c' x1 x2 x3=>hV.fin hk1 hS2 hsg u1 u2 hp1 (((gt _ _).drew).alloc (eq _) _) x1 x2 x3⟩
   have HWl:Hid (st1.ws.length+([p.d]).length<=2000000000):=hwl;have hcn:=dM hn2;have hfn:wr.frozen? ⟨b1,r1.length*3+1,none⟩=false:=Bg hn2 _;have HV1:Hid (DV wr g st1 (.slice (some ⟨b1,0,none⟩) (r1.length+1) cap1) (.slice p2 st1.ws.length cp2)):=hv1;have HEN:Hid (st1.ns=n1 :: r1):=en1;have HL:Hid (r1.length=r0.length):=er;rw [er] at d0 hcn hfn;have HI9:Hid (DM S g W wr st1):=HI.out;clear hph hlj hst1 hv1 u1 u2 hS1 hS2 hk1 HI hn2 hwl hsg hw0 hb0 en0 hp;cases p with
   |S=>
    go_upto_region 31 with fail
    refine aA (fun V=>Wt wr V g st1 .S (.slice (some ⟨b1,0,none⟩) (r1.length+1) cap1) (.slice p2 st1.ws.length cp2)) (Wt.plain HV1.out .S (by rw [HEN.out];rfl)) ?_;intro V hV;obtain ⟨⟨x1,x2,x3,x4⟩,x5⟩:=HS.out V hV rfl;have HX4:Hid (∀o,Rof (V.drew.alloc o) (.slice p2 st1.ws.length cp2) st1.ws):=x4;have HX5:Hid (∀o w3 q o' c',Rof w3 (.slice (some ⟨q,o',none⟩) (st1.ws.length+1) c') (st1.ws++[(.S:Pz).d])->Kp (fun k=>(Value.slice p2 st1.ws.length cp2).ownBlock=some k) (V.drew.alloc o) w3->Nb (V.drew.alloc o) (.slice p2 st1.ws.length cp2) (.slice (some ⟨q,o',none⟩) (st1.ws.length+1) c')->(w3.cell? ⟨g,1,none⟩=some (.slice p2 st1.ws.length cp2)/\w3.frozen? ⟨g,1,none⟩=false)/\DM S g W (w3.setCell ⟨g,1,none⟩ (.slice (some ⟨q,o',none⟩) (st1.ws.length+1) c')) (st1.aw .S)):=x5;have m0:=aa (k:=0) x3 rfl;have m1:=aa (k:=1) x3 rfl;have m2:=aa (k:=2) x3 rfl;have m3:=aa (k:=3) x3 rfl;have m4:=aa (k:=4) x3 rfl;clear x3 x4 x5 hV HS HV1 d0 d1 d2 d3 d4 d5 d6 hcn hfn
    go_region_law (refine cP (by rfl) _ _ (by rfl) (.slice p2 st1.ws.length cp2) st1.ws [(.S:Pz).d] (by rfl) (HX4.out _) ⟨V.heap.size,0,none⟩ 1 1 (by rfl) (by rfl) (aT (ag V.drew _)) (by decide) HWl.out ?_;intro q o' c' w3 y1 y2 y3;obtain ⟨⟨z1,z2⟩,z3⟩:=HX5.out _ w3 q o' c' y1 y2 y3;have HZ:Hid (DM S g W (w3.setCell ⟨g,1,none⟩ (.slice (some ⟨q,o',none⟩) (st1.ws.length+1) c')) (st1.aw .S)):=z3;clear z3 y1 y2 y3)
    all_goals (
     go_wp2_with fail
     exact ⟨⟨j+1,hlt,by go_num,by rw [HA.out];exact HZ.out⟩,by simp [intOf];omega⟩)
   |B0=>
    go_upto_region 31 with fail
    refine aA (fun V=>Wt wr V g st1 .B0 (.slice (some ⟨b1,0,none⟩) (r1.length+1) cap1) (.slice p2 st1.ws.length cp2)) (Wt.plain HV1.out .B0 (by rw [HEN.out];rfl)) ?_;intro V hV;obtain ⟨⟨x1,x2,x3,x4⟩,x5⟩:=HS.out V hV rfl;have HX4:Hid (∀o,Rof (V.drew.alloc o) (.slice p2 st1.ws.length cp2) st1.ws):=x4;have HX5:Hid (∀o w3 q o' c',Rof w3 (.slice (some ⟨q,o',none⟩) (st1.ws.length+1) c') (st1.ws++[(.B0:Pz).d])->Kp (fun k=>(Value.slice p2 st1.ws.length cp2).ownBlock=some k) (V.drew.alloc o) w3->Nb (V.drew.alloc o) (.slice p2 st1.ws.length cp2) (.slice (some ⟨q,o',none⟩) (st1.ws.length+1) c')->(w3.cell? ⟨g,1,none⟩=some (.slice p2 st1.ws.length cp2)/\w3.frozen? ⟨g,1,none⟩=false)/\DM S g W (w3.setCell ⟨g,1,none⟩ (.slice (some ⟨q,o',none⟩) (st1.ws.length+1) c')) (st1.aw .B0)):=x5;have m0:=aa (k:=0) x3 rfl;have m1:=aa (k:=1) x3 rfl;have m2:=aa (k:=2) x3 rfl;have m3:=aa (k:=3) x3 rfl;have m4:=aa (k:=4) x3 rfl;clear x3 x4 x5 hV HS HV1 d0 d1 d2 d3 d4 d5 d6 hcn hfn
    go_region_law (refine cP (by rfl) _ _ (by rfl) (.slice p2 st1.ws.length cp2) st1.ws [(.B0:Pz).d] (by rfl) (HX4.out _) ⟨V.heap.size,0,none⟩ 1 1 (by rfl) (by rfl) (aT (ag V.drew _)) (by decide) HWl.out ?_;intro q o' c' w3 y1 y2 y3;obtain ⟨⟨z1,z2⟩,z3⟩:=HX5.out _ w3 q o' c' y1 y2 y3;have HZ:Hid (DM S g W (w3.setCell ⟨g,1,none⟩ (.slice (some ⟨q,o',none⟩) (st1.ws.length+1) c')) (st1.aw .B0)):=z3;clear z3 y1 y2 y3)
    all_goals (
     go_wp2_with fail
     exact ⟨⟨j+1,hlt,by go_num,by rw [HA.out];exact HZ.out⟩,by simp [intOf];omega⟩)
   |B1=>
    go_upto_region 31 with fail
    refine aA (fun V=>Wt wr V g st1 .B1 (.slice (some ⟨b1,0,none⟩) (r1.length+1) cap1) (.slice p2 st1.ws.length cp2)) (Wt.plain HV1.out .B1 (by rw [HEN.out];rfl)) ?_;intro V hV;obtain ⟨⟨x1,x2,x3,x4⟩,x5⟩:=HS.out V hV rfl;have HX4:Hid (∀o,Rof (V.drew.alloc o) (.slice p2 st1.ws.length cp2) st1.ws):=x4;have HX5:Hid (∀o w3 q o' c',Rof w3 (.slice (some ⟨q,o',none⟩) (st1.ws.length+1) c') (st1.ws++[(.B1:Pz).d])->Kp (fun k=>(Value.slice p2 st1.ws.length cp2).ownBlock=some k) (V.drew.alloc o) w3->Nb (V.drew.alloc o) (.slice p2 st1.ws.length cp2) (.slice (some ⟨q,o',none⟩) (st1.ws.length+1) c')->(w3.cell? ⟨g,1,none⟩=some (.slice p2 st1.ws.length cp2)/\w3.frozen? ⟨g,1,none⟩=false)/\DM S g W (w3.setCell ⟨g,1,none⟩ (.slice (some ⟨q,o',none⟩) (st1.ws.length+1) c')) (st1.aw .B1)):=x5;have m0:=aa (k:=0) x3 rfl;have m1:=aa (k:=1) x3 rfl;have m2:=aa (k:=2) x3 rfl;have m3:=aa (k:=3) x3 rfl;have m4:=aa (k:=4) x3 rfl;clear x3 x4 x5 hV HS HV1 d0 d1 d2 d3 d4 d5 d6 hcn hfn
    go_region_law (refine cP (by rfl) _ _ (by rfl) (.slice p2 st1.ws.length cp2) st1.ws [(.B1:Pz).d] (by rfl) (HX4.out _) ⟨V.heap.size,0,none⟩ 1 1 (by rfl) (by rfl) (aT (ag V.drew _)) (by decide) HWl.out ?_;intro q o' c' w3 y1 y2 y3;obtain ⟨⟨z1,z2⟩,z3⟩:=HX5.out _ w3 q o' c' y1 y2 y3;have HZ:Hid (DM S g W (w3.setCell ⟨g,1,none⟩ (.slice (some ⟨q,o',none⟩) (st1.ws.length+1) c')) (st1.aw .B1)):=z3;clear z3 y1 y2 y3)
    all_goals (
     go_wp2_with fail
     exact ⟨⟨j+1,hlt,by go_num,by rw [HA.out];exact HZ.out⟩,by simp [intOf];omega⟩)
   |H=>
    go_upto_region 31 with fail
    refine aA (fun V=>Wt wr V g st1 .H (.slice (some ⟨b1,0,none⟩) (r1.length+1) cap1) (.slice p2 st1.ws.length cp2)) (Wt.plain HV1.out .H (by rw [HEN.out];rfl)) ?_;intro V hV;obtain ⟨⟨x1,x2,x3,x4⟩,x5⟩:=HS.out V hV rfl;have HX4:Hid (∀o,Rof (V.drew.alloc o) (.slice p2 st1.ws.length cp2) st1.ws):=x4;have HX5:Hid (∀o w3 q o' c',Rof w3 (.slice (some ⟨q,o',none⟩) (st1.ws.length+1) c') (st1.ws++[(.H:Pz).d])->Kp (fun k=>(Value.slice p2 st1.ws.length cp2).ownBlock=some k) (V.drew.alloc o) w3->Nb (V.drew.alloc o) (.slice p2 st1.ws.length cp2) (.slice (some ⟨q,o',none⟩) (st1.ws.length+1) c')->(w3.cell? ⟨g,1,none⟩=some (.slice p2 st1.ws.length cp2)/\w3.frozen? ⟨g,1,none⟩=false)/\DM S g W (w3.setCell ⟨g,1,none⟩ (.slice (some ⟨q,o',none⟩) (st1.ws.length+1) c')) (st1.aw .H)):=x5;have m0:=aa (k:=0) x3 rfl;have m1:=aa (k:=1) x3 rfl;have m2:=aa (k:=2) x3 rfl;have m3:=aa (k:=3) x3 rfl;have m4:=aa (k:=4) x3 rfl;clear x3 x4 x5 hV HS HV1 d0 d1 d2 d3 d4 d5 d6 hcn hfn
    go_region_law (refine cP (by rfl) _ _ (by rfl) (.slice p2 st1.ws.length cp2) st1.ws [(.H:Pz).d] (by rfl) (HX4.out _) ⟨V.heap.size,0,none⟩ 1 1 (by rfl) (by rfl) (aT (ag V.drew _)) (by decide) HWl.out ?_;intro q o' c' w3 y1 y2 y3;obtain ⟨⟨z1,z2⟩,z3⟩:=HX5.out _ w3 q o' c' y1 y2 y3;have HZ:Hid (DM S g W (w3.setCell ⟨g,1,none⟩ (.slice (some ⟨q,o',none⟩) (st1.ws.length+1) c')) (st1.aw .H)):=z3;clear z3 y1 y2 y3)
    all_goals (
     go_wp2_with fail
     exact ⟨⟨j+1,hlt,by go_num,by rw [HA.out];exact HZ.out⟩,by simp [intOf];omega⟩)
   |J=>
    obtain ⟨x0,x1,x2⟩:=hcn;have q9:IntKind.i64.wrap (r0.length:Int)=r0.length:=by rw [zF];omega
    have q10:(0:Int)<=r0.length:=by omega
    have q11:(r0.length:Int)<(r0.length:Int)+1:=by omega
    have q8:IntKind.i64.wrap ((n1.b:Int)+1)=n1.b+1:=by rw [zF];omega
    go_upto_region 31 with fail
    refine aA (fun V=>Wt wr V g st1 .J (.slice (some ⟨b1,0,none⟩) (r1.length+1) cap1) (.slice p2 st1.ws.length cp2)) (Wt.node HEN.out HV1.out .J (n1.b+1) _ rfl HL.out) ?_;intro V hV;obtain ⟨⟨x1,x2,x3,x4⟩,x5⟩:=HS.out V hV rfl;have HX4:Hid (∀o,Rof (V.drew.alloc o) (.slice p2 st1.ws.length cp2) st1.ws):=x4;have HX5:Hid (∀o w3 q o' c',Rof w3 (.slice (some ⟨q,o',none⟩) (st1.ws.length+1) c') (st1.ws++[(.J:Pz).d])->Kp (fun k=>(Value.slice p2 st1.ws.length cp2).ownBlock=some k) (V.drew.alloc o) w3->Nb (V.drew.alloc o) (.slice p2 st1.ws.length cp2) (.slice (some ⟨q,o',none⟩) (st1.ws.length+1) c')->(w3.cell? ⟨g,1,none⟩=some (.slice p2 st1.ws.length cp2)/\w3.frozen? ⟨g,1,none⟩=false)/\DM S g W (w3.setCell ⟨g,1,none⟩ (.slice (some ⟨q,o',none⟩) (st1.ws.length+1) c')) (st1.aw .J)):=x5;have m0:=aa (k:=0) x3 rfl;have m1:=aa (k:=1) x3 rfl;have m2:=aa (k:=2) x3 rfl;have m3:=aa (k:=3) x3 rfl;have m4:=aa (k:=4) x3 rfl;clear x3 x4 x5 hV HS HV1 d0 d1 d2 d3 d4 d5 d6 hfn x0
    go_region_law (refine cP (by rfl) _ _ (by rfl) (.slice p2 st1.ws.length cp2) st1.ws [(.J:Pz).d] (by rfl) (HX4.out _) ⟨V.heap.size,0,none⟩ 1 1 (by rfl) (by rfl) (aT (ag V.drew _)) (by decide) HWl.out ?_;intro q o' c' w3 y1 y2 y3;obtain ⟨⟨z1,z2⟩,z3⟩:=HX5.out _ w3 q o' c' y1 y2 y3;have HZ:Hid (DM S g W (w3.setCell ⟨g,1,none⟩ (.slice (some ⟨q,o',none⟩) (st1.ws.length+1) c')) (st1.aw .J)):=z3;clear z3 y1 y2 y3)
    all_goals (
     go_wp2_with fail
     exact ⟨⟨j+1,hlt,by go_num,by rw [HA.out];exact HZ.out⟩,by simp [intOf];omega⟩)
   |I n=>
    have hn4:=zQ hfew;obtain rfl|rfl|rfl|rfl|rfl:n=0\/n=1\/n=2\/n=3\/n=4:=by omega
    ·obtain ⟨x0,x1,x2⟩:=hcn;have q9:IntKind.i64.wrap (r0.length:Int)=r0.length:=by rw [zF];omega
     have q10:(0:Int)<=r0.length:=by omega
     have q11:(r0.length:Int)<(r0.length:Int)+1:=by omega
     have q8:IntKind.i64.wrap ((n1.b:Int)+1)=n1.b+1:=by rw [zF];omega
     go_upto_region 31 with fail
     refine aA (fun V=>Wt wr V g st1 (.I 0) (.slice (some ⟨b1,0,none⟩) (r1.length+1) cap1) (.slice p2 st1.ws.length cp2)) (Wt.node HEN.out HV1.out (.I 0) (n1.b+1) _ rfl HL.out) ?_;intro V hV;obtain ⟨⟨x1,x2,x3,x4⟩,x5⟩:=HS.out V hV rfl;have HX4:Hid (∀o,Rof (V.drew.alloc o) (.slice p2 st1.ws.length cp2) st1.ws):=x4;have HX5:Hid (∀o w3 q o' c',Rof w3 (.slice (some ⟨q,o',none⟩) (st1.ws.length+1) c') (st1.ws++[((.I 0):Pz).d])->Kp (fun k=>(Value.slice p2 st1.ws.length cp2).ownBlock=some k) (V.drew.alloc o) w3->Nb (V.drew.alloc o) (.slice p2 st1.ws.length cp2) (.slice (some ⟨q,o',none⟩) (st1.ws.length+1) c')->(w3.cell? ⟨g,1,none⟩=some (.slice p2 st1.ws.length cp2)/\w3.frozen? ⟨g,1,none⟩=false)/\DM S g W (w3.setCell ⟨g,1,none⟩ (.slice (some ⟨q,o',none⟩) (st1.ws.length+1) c')) (st1.aw (.I 0))):=x5;have m0:=aa (k:=0) x3 rfl;have m1:=aa (k:=1) x3 rfl;have m2:=aa (k:=2) x3 rfl;have m3:=aa (k:=3) x3 rfl;have m4:=aa (k:=4) x3 rfl;clear x3 x4 x5 hV HS HV1 d0 d1 d2 d3 d4 d5 d6 hfn x0
     go_region_law (refine cP (by rfl) _ _ (by rfl) (.slice p2 st1.ws.length cp2) st1.ws [((.I 0):Pz).d] (by rfl) (HX4.out _) ⟨V.heap.size,0,none⟩ 1 1 (by rfl) (by rfl) (aT (ag V.drew _)) (by decide) HWl.out ?_;intro q o' c' w3 y1 y2 y3;obtain ⟨⟨z1,z2⟩,z3⟩:=HX5.out _ w3 q o' c' y1 y2 y3;have HZ:Hid (DM S g W (w3.setCell ⟨g,1,none⟩ (.slice (some ⟨q,o',none⟩) (st1.ws.length+1) c')) (st1.aw (.I 0))):=z3;clear z3 y1 y2 y3)
     all_goals (
      go_wp2_with fail
      exact ⟨⟨j+1,hlt,by go_num,by rw [HA.out];exact HZ.out⟩,by simp [intOf];omega⟩)
    ·obtain ⟨x0,x1,x2⟩:=hcn;have q9:IntKind.i64.wrap (r0.length:Int)=r0.length:=by rw [zF];omega
     have q10:(0:Int)<=r0.length:=by omega
     have q11:(r0.length:Int)<(r0.length:Int)+1:=by omega
     have q8:IntKind.i64.wrap ((n1.b:Int)+1)=n1.b+1:=by rw [zF];omega
     go_upto_region 31 with fail
     refine aA (fun V=>Wt wr V g st1 (.I 1) (.slice (some ⟨b1,0,none⟩) (r1.length+1) cap1) (.slice p2 st1.ws.length cp2)) (Wt.node HEN.out HV1.out (.I 1) (n1.b+1) _ rfl HL.out) ?_;intro V hV;obtain ⟨⟨x1,x2,x3,x4⟩,x5⟩:=HS.out V hV rfl;have HX4:Hid (∀o,Rof (V.drew.alloc o) (.slice p2 st1.ws.length cp2) st1.ws):=x4;have HX5:Hid (∀o w3 q o' c',Rof w3 (.slice (some ⟨q,o',none⟩) (st1.ws.length+1) c') (st1.ws++[((.I 1):Pz).d])->Kp (fun k=>(Value.slice p2 st1.ws.length cp2).ownBlock=some k) (V.drew.alloc o) w3->Nb (V.drew.alloc o) (.slice p2 st1.ws.length cp2) (.slice (some ⟨q,o',none⟩) (st1.ws.length+1) c')->(w3.cell? ⟨g,1,none⟩=some (.slice p2 st1.ws.length cp2)/\w3.frozen? ⟨g,1,none⟩=false)/\DM S g W (w3.setCell ⟨g,1,none⟩ (.slice (some ⟨q,o',none⟩) (st1.ws.length+1) c')) (st1.aw (.I 1))):=x5;have m0:=aa (k:=0) x3 rfl;have m1:=aa (k:=1) x3 rfl;have m2:=aa (k:=2) x3 rfl;have m3:=aa (k:=3) x3 rfl;have m4:=aa (k:=4) x3 rfl;clear x3 x4 x5 hV HS HV1 d0 d1 d2 d3 d4 d5 d6 hfn x0
     go_region_law (refine cP (by rfl) _ _ (by rfl) (.slice p2 st1.ws.length cp2) st1.ws [((.I 1):Pz).d] (by rfl) (HX4.out _) ⟨V.heap.size,0,none⟩ 1 1 (by rfl) (by rfl) (aT (ag V.drew _)) (by decide) HWl.out ?_;intro q o' c' w3 y1 y2 y3;obtain ⟨⟨z1,z2⟩,z3⟩:=HX5.out _ w3 q o' c' y1 y2 y3;have HZ:Hid (DM S g W (w3.setCell ⟨g,1,none⟩ (.slice (some ⟨q,o',none⟩) (st1.ws.length+1) c')) (st1.aw (.I 1))):=z3;clear z3 y1 y2 y3)
     all_goals (
      go_wp2_with fail
      exact ⟨⟨j+1,hlt,by go_num,by rw [HA.out];exact HZ.out⟩,by simp [intOf];omega⟩)
    ·obtain ⟨x0,x1,x2⟩:=hcn;have q9:IntKind.i64.wrap (r0.length:Int)=r0.length:=by rw [zF];omega
     have q10:(0:Int)<=r0.length:=by omega
     have q11:(r0.length:Int)<(r0.length:Int)+1:=by omega
     have q8:IntKind.i64.wrap ((n1.b:Int)+1)=n1.b+1:=by rw [zF];omega
     go_upto_region 31 with fail
     refine aA (fun V=>Wt wr V g st1 (.I 2) (.slice (some ⟨b1,0,none⟩) (r1.length+1) cap1) (.slice p2 st1.ws.length cp2)) (Wt.node HEN.out HV1.out (.I 2) (n1.b+1) _ rfl HL.out) ?_;intro V hV;obtain ⟨⟨x1,x2,x3,x4⟩,x5⟩:=HS.out V hV rfl;have HX4:Hid (∀o,Rof (V.drew.alloc o) (.slice p2 st1.ws.length cp2) st1.ws):=x4;have HX5:Hid (∀o w3 q o' c',Rof w3 (.slice (some ⟨q,o',none⟩) (st1.ws.length+1) c') (st1.ws++[((.I 2):Pz).d])->Kp (fun k=>(Value.slice p2 st1.ws.length cp2).ownBlock=some k) (V.drew.alloc o) w3->Nb (V.drew.alloc o) (.slice p2 st1.ws.length cp2) (.slice (some ⟨q,o',none⟩) (st1.ws.length+1) c')->(w3.cell? ⟨g,1,none⟩=some (.slice p2 st1.ws.length cp2)/\w3.frozen? ⟨g,1,none⟩=false)/\DM S g W (w3.setCell ⟨g,1,none⟩ (.slice (some ⟨q,o',none⟩) (st1.ws.length+1) c')) (st1.aw (.I 2))):=x5;have m0:=aa (k:=0) x3 rfl;have m1:=aa (k:=1) x3 rfl;have m2:=aa (k:=2) x3 rfl;have m3:=aa (k:=3) x3 rfl;have m4:=aa (k:=4) x3 rfl;clear x3 x4 x5 hV HS HV1 d0 d1 d2 d3 d4 d5 d6 hfn x0
     go_region_law (refine cP (by rfl) _ _ (by rfl) (.slice p2 st1.ws.length cp2) st1.ws [((.I 2):Pz).d] (by rfl) (HX4.out _) ⟨V.heap.size,0,none⟩ 1 1 (by rfl) (by rfl) (aT (ag V.drew _)) (by decide) HWl.out ?_;intro q o' c' w3 y1 y2 y3;obtain ⟨⟨z1,z2⟩,z3⟩:=HX5.out _ w3 q o' c' y1 y2 y3;have HZ:Hid (DM S g W (w3.setCell ⟨g,1,none⟩ (.slice (some ⟨q,o',none⟩) (st1.ws.length+1) c')) (st1.aw (.I 2))):=z3;clear z3 y1 y2 y3)
     all_goals (
      go_wp2_with fail
      exact ⟨⟨j+1,hlt,by go_num,by rw [HA.out];exact HZ.out⟩,by simp [intOf];omega⟩)
    ·obtain ⟨x0,x1,x2⟩:=hcn;have q9:IntKind.i64.wrap (r0.length:Int)=r0.length:=by rw [zF];omega
     have q10:(0:Int)<=r0.length:=by omega
     have q11:(r0.length:Int)<(r0.length:Int)+1:=by omega
     have q8:IntKind.i64.wrap ((n1.b:Int)+1)=n1.b+1:=by rw [zF];omega
     go_upto_region 31 with fail
     refine aA (fun V=>Wt wr V g st1 (.I 3) (.slice (some ⟨b1,0,none⟩) (r1.length+1) cap1) (.slice p2 st1.ws.length cp2)) (Wt.node HEN.out HV1.out (.I 3) (n1.b+1) _ rfl HL.out) ?_;intro V hV;obtain ⟨⟨x1,x2,x3,x4⟩,x5⟩:=HS.out V hV rfl;have HX4:Hid (∀o,Rof (V.drew.alloc o) (.slice p2 st1.ws.length cp2) st1.ws):=x4;have HX5:Hid (∀o w3 q o' c',Rof w3 (.slice (some ⟨q,o',none⟩) (st1.ws.length+1) c') (st1.ws++[((.I 3):Pz).d])->Kp (fun k=>(Value.slice p2 st1.ws.length cp2).ownBlock=some k) (V.drew.alloc o) w3->Nb (V.drew.alloc o) (.slice p2 st1.ws.length cp2) (.slice (some ⟨q,o',none⟩) (st1.ws.length+1) c')->(w3.cell? ⟨g,1,none⟩=some (.slice p2 st1.ws.length cp2)/\w3.frozen? ⟨g,1,none⟩=false)/\DM S g W (w3.setCell ⟨g,1,none⟩ (.slice (some ⟨q,o',none⟩) (st1.ws.length+1) c')) (st1.aw (.I 3))):=x5;have m0:=aa (k:=0) x3 rfl;have m1:=aa (k:=1) x3 rfl;have m2:=aa (k:=2) x3 rfl;have m3:=aa (k:=3) x3 rfl;have m4:=aa (k:=4) x3 rfl;clear x3 x4 x5 hV HS HV1 d0 d1 d2 d3 d4 d5 d6 hfn x0
     go_region_law (refine cP (by rfl) _ _ (by rfl) (.slice p2 st1.ws.length cp2) st1.ws [((.I 3):Pz).d] (by rfl) (HX4.out _) ⟨V.heap.size,0,none⟩ 1 1 (by rfl) (by rfl) (aT (ag V.drew _)) (by decide) HWl.out ?_;intro q o' c' w3 y1 y2 y3;obtain ⟨⟨z1,z2⟩,z3⟩:=HX5.out _ w3 q o' c' y1 y2 y3;have HZ:Hid (DM S g W (w3.setCell ⟨g,1,none⟩ (.slice (some ⟨q,o',none⟩) (st1.ws.length+1) c')) (st1.aw (.I 3))):=z3;clear z3 y1 y2 y3)
     all_goals (
      go_wp2_with fail
      exact ⟨⟨j+1,hlt,by go_num,by rw [HA.out];exact HZ.out⟩,by simp [intOf];omega⟩)
    ·obtain ⟨x0,x1,x2⟩:=hcn;have q9:IntKind.i64.wrap (r0.length:Int)=r0.length:=by rw [zF];omega
     have q10:(0:Int)<=r0.length:=by omega
     have q11:(r0.length:Int)<(r0.length:Int)+1:=by omega
     have q8:IntKind.i64.wrap ((n1.b:Int)+1)=n1.b+1:=by rw [zF];omega
     go_upto_region 31 with fail
     refine aA (fun V=>Wt wr V g st1 (.I 4) (.slice (some ⟨b1,0,none⟩) (r1.length+1) cap1) (.slice p2 st1.ws.length cp2)) (Wt.node HEN.out HV1.out (.I 4) (n1.b+1) _ rfl HL.out) ?_;intro V hV;obtain ⟨⟨x1,x2,x3,x4⟩,x5⟩:=HS.out V hV rfl;have HX4:Hid (∀o,Rof (V.drew.alloc o) (.slice p2 st1.ws.length cp2) st1.ws):=x4;have HX5:Hid (∀o w3 q o' c',Rof w3 (.slice (some ⟨q,o',none⟩) (st1.ws.length+1) c') (st1.ws++[((.I 4):Pz).d])->Kp (fun k=>(Value.slice p2 st1.ws.length cp2).ownBlock=some k) (V.drew.alloc o) w3->Nb (V.drew.alloc o) (.slice p2 st1.ws.length cp2) (.slice (some ⟨q,o',none⟩) (st1.ws.length+1) c')->(w3.cell? ⟨g,1,none⟩=some (.slice p2 st1.ws.length cp2)/\w3.frozen? ⟨g,1,none⟩=false)/\DM S g W (w3.setCell ⟨g,1,none⟩ (.slice (some ⟨q,o',none⟩) (st1.ws.length+1) c')) (st1.aw (.I 4))):=x5;have m0:=aa (k:=0) x3 rfl;have m1:=aa (k:=1) x3 rfl;have m2:=aa (k:=2) x3 rfl;have m3:=aa (k:=3) x3 rfl;have m4:=aa (k:=4) x3 rfl;clear x3 x4 x5 hV HS HV1 d0 d1 d2 d3 d4 d5 d6 hfn x0
     go_region_law (refine cP (by rfl) _ _ (by rfl) (.slice p2 st1.ws.length cp2) st1.ws [((.I 4):Pz).d] (by rfl) (HX4.out _) ⟨V.heap.size,0,none⟩ 1 1 (by rfl) (by rfl) (aT (ag V.drew _)) (by decide) HWl.out ?_;intro q o' c' w3 y1 y2 y3;obtain ⟨⟨z1,z2⟩,z3⟩:=HX5.out _ w3 q o' c' y1 y2 y3;have HZ:Hid (DM S g W (w3.setCell ⟨g,1,none⟩ (.slice (some ⟨q,o',none⟩) (st1.ws.length+1) c')) (st1.aw (.I 4))):=z3;clear z3 y1 y2 y3)
     all_goals (
      go_wp2_with fail
      exact ⟨⟨j+1,hlt,by go_num,by rw [HA.out];exact HZ.out⟩,by simp [intOf];omega⟩)
   |X=>
    obtain ⟨x0,x1,x2⟩:=hcn;have q9:IntKind.i64.wrap (r0.length:Int)=r0.length:=by rw [zF];omega
    have q10:(0:Int)<=r0.length:=by omega
    have q11:(r0.length:Int)<(r0.length:Int)+1:=by omega
    by_cases hb0:n1.b=0
    ·have q12:((n1.b:Int) == 0)=true:=by rw [hb0];rfl
     have HZ:Hid (DM S g W (wr.alloc (.cells #[.int .u8 0,.string ⟨#[]⟩,.int .i64 0,.int .i64 0,.bool false] 57)) (st1.aw .X)):=by
      have e:st1.aw .X=st1:=by
       unfold Sy.aw awW;rw [HEN.out];simp only [awN,List.head?_cons,BN,Bi,hb0,and_self,if_true,AQ];have:=HEN.out;obtain ⟨ns,ws,mr,wr',en',pt'⟩:=st1;simp only at this;subst this;obtain ⟨k,b,s⟩:=n1;simp only at hb0;subst hb0;rfl
      rw [e];exact HI9.out.below ((gt _ _).alloc (eq _) _)
     rw [hb0] at x1;have x1':wr.cell? ⟨b1,r0.length*3+1,none⟩=some (.int .i64 0):=x1;clear hb0 x1
     go_wp2_with fail
     exact ⟨⟨j+1,hlt,by go_num,by rw [HA.out];exact HZ.out⟩,by simp [intOf];omega⟩
    ·have q12:((n1.b:Int) == 0)=false:=by simp;omega
     have q8:IntKind.i64.wrap ((n1.b:Int)-1)=((n1.b-1:Nat):Int):=by rw [zF];omega
     have q13:((n1.b:Int)-1)=((n1.b-1:Nat):Int):=by omega
     have HAW:Hid (awW .X st1.ns=[Pz.X.d]):=by
      show _=_
      unfold awW;rw [HEN.out,zu (by simp [hb0])]
     clear hb0
     go_upto_region 31 with fail
     refine aA (fun V=>Wt wr V g st1 .X (.slice (some ⟨b1,0,none⟩) (r1.length+1) cap1) (.slice p2 st1.ws.length cp2)) (Wt.node HEN.out HV1.out .X (n1.b-1) _ rfl HL.out) ?_;intro V hV;obtain ⟨⟨x1,x2,x3,x4⟩,x5⟩:=HS.out V hV HAW.out;have HX4:Hid (∀o,Rof (V.drew.alloc o) (.slice p2 st1.ws.length cp2) st1.ws):=x4;have HX5:Hid (∀o w3 q o' c',Rof w3 (.slice (some ⟨q,o',none⟩) (st1.ws.length+1) c') (st1.ws++[(.X:Pz).d])->Kp (fun k=>(Value.slice p2 st1.ws.length cp2).ownBlock=some k) (V.drew.alloc o) w3->Nb (V.drew.alloc o) (.slice p2 st1.ws.length cp2) (.slice (some ⟨q,o',none⟩) (st1.ws.length+1) c')->(w3.cell? ⟨g,1,none⟩=some (.slice p2 st1.ws.length cp2)/\w3.frozen? ⟨g,1,none⟩=false)/\DM S g W (w3.setCell ⟨g,1,none⟩ (.slice (some ⟨q,o',none⟩) (st1.ws.length+1) c')) (st1.aw .X)):=x5;have m0:=aa (k:=0) x3 rfl;have m1:=aa (k:=1) x3 rfl;have m2:=aa (k:=2) x3 rfl;have m3:=aa (k:=3) x3 rfl;have m4:=aa (k:=4) x3 rfl;clear x3 x4 x5 hV HS HV1 d0 d1 d2 d3 d4 d5 d6 hfn x0
     go_region_law (refine cP (by rfl) _ _ (by rfl) (.slice p2 st1.ws.length cp2) st1.ws [(.X:Pz).d] (by rfl) (HX4.out _) ⟨V.heap.size,0,none⟩ 1 1 (by rfl) (by rfl) (aT (ag V.drew _)) (by decide) HWl.out ?_;intro q o' c' w3 y1 y2 y3;obtain ⟨⟨z1,z2⟩,z3⟩:=HX5.out _ w3 q o' c' y1 y2 y3;have HZ:Hid (DM S g W (w3.setCell ⟨g,1,none⟩ (.slice (some ⟨q,o',none⟩) (st1.ws.length+1) c')) (st1.aw .X)):=z3;clear z3 y1 y2 y3)
     all_goals (
      go_wp2_with fail
      exact ⟨⟨j+1,hlt,by go_num,by rw [HA.out];exact HZ.out⟩,by simp [intOf];omega⟩)
  ·obtain rfl:j=l.length:=by omega
   have q1:¬((l.length:Int)<t.size):=by omega
   have HZ:Hid (DM S g W wr (st.aws l)):=by have:=HI.out;rw [Aw] at this;exact this
   clear HI
   go_wp2_with fail
   go_end0
   exact ⟨rfl,HZ.out⟩
end Go.Proofs.YtpdlohfdjiaegaaGreatDoor
