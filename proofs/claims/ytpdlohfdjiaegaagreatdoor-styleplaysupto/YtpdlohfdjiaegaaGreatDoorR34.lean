import Derived.Test.YtpdlohfdjiaegaaGreatDoorR32
set_option linter.unusedVariables false
set_option linter.unusedSimpArgs false
namespace Go.Proofs.YtpdlohfdjiaegaaGreatDoor
open Go.RowKit
open Lw (Dc bE rt frm dep rtT rtN dcs au aH)
variable {g:Nat}{st st':Sy}{W V W1:World}{l:List Dc}{v:Value}
theorem Rof.tail0 {b o n cap:Nat}{d:Dc}(h:Rof W (.slice (some ⟨b,o,none⟩) n cap) (d :: l)) (hc:cap=1):l=[]/\Rof W (.slice (some ⟨b,o,none⟩) 0 0) l:=by
 obtain ⟨h1,h2,_⟩:=h.tail;have hl:l=[]:=zI (by omega);subst hl
 rcases h with ⟨e,_⟩|⟨b',o',cap',cur,e,h3,h4,h5,h6,_⟩
 ·cases e
 ·cases e;exact ⟨rfl,.inr ⟨b,o,0,cur,rfl,h3,eq _,zx _,by omega,by simp [dcs,aN]⟩⟩
theorem DA.app {S:Nat->Prop}{Wx w':World}{v':Value}{ds:List Dc}(h:DA S g V W1 v l st) (hb:Below W1.heap.size W1 Wx) (hr:Rof w' v' (l++ds)) (hk:Kp (fun k=>v.ownBlock=some k) Wx w') (hn:Nb Wx v v'):DA S g V w' v' (l++ds) st:=by
 obtain ⟨⟨S1,a1,a2,a3⟩,hro,hkV⟩:=h;refine ⟨⟨S1,(a1.below hb).kp hk (fun k hs e=>(a3 k e).2 hs),a2,fun k e=>?_⟩,hr,(hkV.step (Kp.of_below (S:=fun _=>False) hb) (fun _ _ h=>h.elim)).step hk (fun k hlt e=>(a3 k e).1.elim id (fun h=>by omega))⟩
 rcases hn with hn|⟨q,hq,hq2⟩
 ·exact a3 k (by rw [<-hn];exact e)
 ·rw [hq] at e;cases e;exact ⟨.inr (zr hkV.size (zr hb.size hq2)),fun hs=>by have:=a1.lt _ hs;have:=hb.size;omega⟩
theorem DA.upd {S:Nat->Prop}{W2:World}(h:DA S g V W1 v l st) (hu:∀S',DS S' W1 g st->DS S' W2 g st') (hk:Kp (fun k=>k=g) W1 W2):DA S g V W2 v l st':=by
 obtain ⟨⟨S1,a1,a2,a3⟩,hro,hkV⟩:=h;refine ⟨⟨S1,hu S1 a1,a2,a3⟩,hro.kp hk (fun k e e2=>(a3 k e).2 (by rw [e2];exact a1.sg)),hkV.step hk (fun k hlt e=>?_)⟩;rw [e]
 rcases a2 g a1.sg with h|h
 ·exact h
 ·rw [e] at hlt;omega
theorem DS.setj {S:Nat->Prop}(h:DS S W g st) (j:Nat) (u:Value) (hj:2<=j) (h1:st'.ns=st.ns) (h2:st'.ws=st.ws) (h3:∀vn vw,DB W g vn vw (lw st.mr) st.wr st.en st.pt false->DB (W.setCell ⟨g,j,none⟩ u) g vn vw (lw st'.mr) st'.wr st'.en st'.pt false):DS S (W.setCell ⟨g,j,none⟩ u) g st':=by
 obtain ⟨vn,vw,hv,s1,s2⟩:=h.ex;have hk:=Kp.set W g j u;refine ⟨⟨vn,vw,⟨h3 _ _ hv.sb,?_,?_⟩,s1,s2⟩,h.sg,fun k hs=>zz (h.lt k hs) hk.size⟩
 ·rw [h1];exact hk.row hv.rn (fun k e1 e2=>ay hv.rn hv.sb (by decide) (by rw [e1,e2]))
 ·rw [h2];exact hv.ro.kp hk (fun k e1 e2=>hv.ro.ne hv.sb (by decide) (by rw [e1,e2]))
theorem DS.setMr {S:Nat->Prop}(h:DS S W g st):DS S (W.setCell ⟨g,2,none⟩ (.int .i64 (-1))) g { st with mr:=none }:=h.setj 2 _ (by omega) rfl rfl (fun _ _ hd=>af hd 2 _)
theorem DS.setWr {S:Nat->Prop}(h:DS S W g st) (x:Bool):DS S (W.setCell ⟨g,3,none⟩ (.bool x)) g { st with wr:=x }:=h.setj 3 _ (by omega) rfl rfl (fun _ _ hd=>af hd 3 _)
theorem DS.setEn {S:Nat->Prop}(h:DS S W g st) (x:Bool):DS S (W.setCell ⟨g,4,none⟩ (.bool x)) g { st with en:=x }:=h.setj 4 _ (by omega) rfl rfl (fun _ _ hd=>af hd 4 _)
theorem DS.setPt {S:Nat->Prop}(h:DS S W g st) (x:Bool):DS S (W.setCell ⟨g,5,none⟩ (.bool x)) g { st with pt:=x }:=h.setj 5 _ (by omega) rfl rfl (fun _ _ hd=>af hd 5 _)
theorem DS.setWs {S:Nat->Prop}(h:DS S W g st) {p:Option Addr}{n c:Nat}(hc:W.cell? ⟨g,1,none⟩=some (.slice p n c)) (v:Value) (l:List Dc) (hr:Rof W v l) (ho:v.ownBlock=(Value.slice p n c).ownBlock):DS S (W.setCell ⟨g,1,none⟩ v) g { st with ws:=l }:=by
 obtain ⟨vn,vw,hv,s1,s2⟩:=h.ex;have e1:vw=.slice p n c:=zT (hv.sb.cells.2.1.symm.trans hc);subst e1;have hk:=Kp.set W g 1 v;exact ⟨⟨vn,v,⟨af hv.sb 1 _,hk.row hv.rn (fun k e1 e2=>ay hv.rn hv.sb (by decide) (by rw [e1,e2])),hr.kp hk (fun k e1 e2=>hr.ne hv.sb (by decide) (by rw [e1,e2]))⟩,s1,fun k e=>s2 k (by rw [<-ho];exact e)⟩,h.sg,fun k hs=>zz (h.lt k hs) hk.size⟩
theorem iu {j:Nat}(h1:∀x∈l.take j,aK x=true) (h2:∀x r,l.drop j=x :: r->aK x=false):l.takeWhile aK=l.take j/\l.dropWhile aK=l.drop j:=by
 have e:l=l.take j++l.drop j:=(CG j l).symm
 have ht:∀(a b:List Dc),(∀x∈a,aK x=true)->(∀x r,b=x :: r->aK x=false)->(a++b).takeWhile aK=a/\(a++b).dropWhile aK=b:=by
  intro a b
  induction a with
  |nil=>
   intro _ hb;cases b with
   |nil=>exact ⟨rfl,rfl⟩
   |cons x r=>simp [hb x r rfl]
  |cons x a ih=>
   intro ha hb;obtain ⟨i1,i2⟩:=ih (fun y hy=>ha y (zX _ hy)) hb;have hx:=ha x zV;simp [hx,i1,i2]
 have:=ht (l.take j) (l.drop j) h1 h2;rw [<-e] at this;exact this
def xJ:Value->Nat
 |.slice _ n _=>n
 |_=>0
set_option maxRecDepth 100000 in
set_option maxHeartbeats 4000000 in
theorem po {S:Nat->Prop}(h:DS S W g st) (hb:Bdd 300000000 st) (t:Tv) :
  Aa 45 #[spg g,.agg #[.int .u8 t.k,.string t.t,.int .i64 t.a,.int .i64 t.l,.int .i64 t.c,.int .i64 t.f]] W fun rr w'=>∃v,rr=.returned v/\DA S g W w' v (st.note t).2 (st.note t).1:=by
 obtain ⟨V,hV⟩:∃V,W.alloc (.cells #[.int .u8 t.k,.string t.t,.int .i64 t.a,.int .i64 t.l,.int .i64 t.c,.int .i64 t.f] 37)=V:=⟨_,rfl⟩;have hB:Below W.heap.size W V:=by rw [<-hV];exact (gt _ _).alloc (eq _) _
 have hT:V.heap[W.heap.size]?=some (.cells #[.int .u8 t.k,.string t.t,.int .i64 t.a,.int .i64 t.l,.int .i64 t.c,.int .i64 t.f] 37 (0,0)):=by rw [<-hV];exact ag _ _
 have HV:Hid (W.alloc (.cells #[.int .u8 t.k,.string t.t,.int .i64 t.a,.int .i64 t.l,.int .i64 t.c,.int .i64 t.f] 37)=V):=hV;have hs:=h.below hB;have hST:¬S W.heap.size:=fun e=>by have:=h.lt _ e;omega
 have HTk:Hid (∀X v l s,DA S g V X v l s->X.heap[W.heap.size]?=some (.cells #[.int .u8 t.k,.string t.t,.int .i64 t.a,.int .i64 t.l,.int .i64 t.c,.int .i64 t.f] 37 (0,0))):=fun X v l s hD=>hD.2.2.blk hT hST
 have HD0:Hid (DA S g V V (.slice none 0 0) [] { st with ws:=st.ws.drop 0 }):=⟨⟨S,hs,fun _ h=>.inl h,fun k e=>by cases e⟩,fj _,Kp.refl _ _⟩;have HFst:Hid (Below W.heap.size W V):=hB;have HBd:Hid (st.ws.length<=300000000):=hb.1;clear hV hB hT hs h hST hb
 go_enter Tryz.func45,Tryz.ntmps45
 go_upto_region 1 with fail
 rw [HV.out]
 go_upto_block 0 with fail
 go_cut [5] from 8 (fun v wx=>∃j p c,v=.slice p j c/\j<=st.ws.length/\Hid (DA S g V wx (.slice p j c) (st.ws.take j) { st with ws:=st.ws.drop j }/\st.ws.takeWhile aK=st.ws.take j/\st.ws.dropWhile aK=st.ws.drop j))
 case first=>
  go_wp2_with fail
  go_loopw [5] (fun v wr=>∃j p c,v=.slice p j c/\j<=st.ws.length/\Hid (DA S g V wr (.slice p j c) (st.ws.take j) { st with ws:=st.ws.drop j }/\∀x∈st.ws.take j,aK x=true)) (fun v _=>st.ws.length-xJ v)
  case atStart=>exact ⟨0,none,0,rfl,zx _,HD0.out,fun x hx=>by simp at hx⟩
  case round=>
   obtain ⟨j,p,c,rfl,hj,HI⟩:=hrel;obtain ⟨hDA,hall⟩:=HI.out;obtain ⟨⟨S1,a1,a2,a3⟩,hro,hkV⟩:=hDA;obtain ⟨p9,c9,p2,c2,e0,e1,e2,e3,e4,e5,e6,hrw,hfz⟩:=a1.cells';have hgl:=a1.glt;have hjl:=HBd.out;cases hd:st.ws.drop j with
   |nil=>
    have HR:Hid (DA S g V wr (.slice p j c) (st.ws.take j) { st with ws:=st.ws.drop j }/\st.ws.takeWhile aK=st.ws.take j/\st.ws.dropWhile aK=st.ws.drop j):=by
     obtain ⟨w1,w2⟩:=iu hall (fun x r e=>by rw [hd] at e;cases e);exact ⟨HI.out.1,w1,w2⟩
    have e1':wr.cell? ⟨g,1,none⟩=some (.slice p2 0 c2):=by rw [e1];simp only [hd];rfl
    clear HI hall a1 a2 a3 hro hkV e0 e1 e2 e3 e4 e5 e6 hrw hfz hd
    go_wp2_with fail
    go_meet
    case rel=>exact ⟨j,p,c,rfl,hj,HR.out⟩
   |cons d rest=>
    have hlen:(st.ws.drop j).length=rest.length+1:=by rw [hd];rfl
    have hlt:j<st.ws.length:=by rw [zN] at hlen;omega
    have hrest:rest=st.ws.drop (j+1):=by
     have:=zO List.tail hd
     simpa [List.tail_drop] using this.symm
    have hget:st.ws[j]?=some d:=by
     have:=zO List.head? hd
     simpa using this
    have htk:st.ws.take (j+1)=st.ws.take j++[d]:=by
     obtain ⟨h1,h2⟩:=zv.1 hget;rw [AX h1,h2]
    simp only at e1 hrw;rw [hd,List.length_cons] at e1;have e1':=e1;rw [hd,List.length_cons] at hrw;obtain ⟨b,o,c3,eb⟩:=hrw.has;cases eb;obtain ⟨x0,x1,x2,x3,x4⟩:=hrw.cell5 (j:=0) (d:=d) rfl;simp only [DY,A3] at x0 x1 x2 x3 x4;obtain ⟨_,t2,t3,t4,_⟩:=hrw.tail;have hbl:=zy _ _ x0
    by_cases hk:d.k=6
    ·have q1:(d.k == 6)=true:=by simpa using hk
     have HRo:Hid (∀o',Rof (wr.alloc o') (.slice p j c) (st.ws.take j)):=fun o'=>hro.below ((gt _ _).alloc (eq _) _)
     have hjt:(st.ws.take j).length=j:=by rw [zH];omega
     have HL:Hid ((st.ws.take j).length=j/\(st.ws.take j).length+[d].length<=2000000000):=⟨hjt,by rw [hjt];simp;omega⟩
     have HApp:Hid (∀ob q o' c' w2,Rof w2 (.slice (some ⟨q,o',none⟩) (j+1) c') (st.ws.take j++[d])->Kp (fun k=>(Value.slice p j c).ownBlock=some k) (wr.alloc ob) w2->Nb (wr.alloc ob) (.slice p j c) (.slice (some ⟨q,o',none⟩) (j+1) c') ->
       (w2.cell? ⟨g,1,none⟩=some (.slice (some ⟨b,o,none⟩) (rest.length+1) c2)/\w2.frozen? ⟨g,1,none⟩=false/\g<w2.heap.size)/\∀v3,(v3=.slice (some ⟨b,o+5,none⟩) rest.length (c2-1)\/(c2=1/\v3=.slice (some ⟨b,o,none⟩) 0 0))->DA S g V (w2.setCell ⟨g,1,none⟩ v3) (.slice (some ⟨q,o',none⟩) (j+1) c') (st.ws.take (j+1)) { st with ws:=st.ws.drop (j+1) }/\∀x∈st.ws.take (j+1),aK x=true):=fun ob q o' c' w2 z1 z2 z3=>by
      have hbx:Below wr.heap.size wr (wr.alloc ob):=(gt _ _).alloc (eq _) _;have hA2:=HI.out.1.app hbx z1 z2 z3;have hgv:¬(Value.slice p j c).ownBlock=some g:=fun e=>(a3 g e).2 a1.sg
      have hk9:Kp (fun k=>(Value.slice p j c).ownBlock=some k) wr w2:=(Kp.of_below hbx).step z2 (fun _ _ h=>h)
      have hro2:Rof w2 (.slice (some ⟨b,o,none⟩) (rest.length+1) c2) (d :: rest):=hrw.kp hk9 (fun k e1 e2=>by
       obtain ⟨vn,vw,hv,s1,s2⟩:=a1.ex;have:vw=.slice (some ⟨b,o,none⟩) (rest.length+1) c2:=zT (hv.sb.cells.2.1.symm.trans e1');exact (a3 k e2).2 (s2 k (by rw [this];exact e1)))
      have hcw:w2.cell? ⟨g,1,none⟩=some (.slice (some ⟨b,o,none⟩) (rest.length+1) c2):=(zG (hk9.block g hgl hgv)).trans e1';refine ⟨⟨hcw,(World.frozen?_of_block (hk9.block g hgl hgv)).trans (hfz 1),zz hgl hk9.size⟩,fun v3 h3=>⟨?_,?_⟩⟩
      ·rw [htk];refine hA2.upd (fun S' hS'=>?_) (Kp.set _ _ _ _)
       have hw3:=hS'.setWs hcw v3 rest (by
        rcases h3 with h3|⟨h3,h4⟩
        ·rw [h3];exact hro2.tail.2.2.2.1
        ·rw [h4];exact (hro2.tail0 h3).2) (by
        rcases h3 with h3|⟨h3,h4⟩
        ·rw [h3];rfl
        ·rw [h4];rfl)
       rw [hrest] at hw3;exact hw3
      ·rw [htk];intro x hx
       rcases Ai.1 hx with hx|hx
       ·exact hall x hx
       ·rw [AN] at hx;rw [hx];unfold aK;exact zB hk
     have HGo:Hid (j+1<=st.ws.length):=hlt;have q2:(0:Int)<(rest.length:Int)+1:=by omega
     have q3:(1:Int)<=c2:=by omega
     have q4:(1:Int)<=(rest.length:Int)+1:=by omega
     have q5:(rest.length:Int)+1<=c2:=by omega
     clear HI hall a1 a2 a3 hro hkV e0 e2 e3 e4 e5 e6 hrw hfz hd hlen hlt hrest hget htk hk hjt t4
     by_cases hc1:c2=1
     ·subst hc1
      go_wp2_with (at_builtin;refine cO (by rfl) _ _ (by rfl) (.slice p j c) (st.ws.take j) [d] (by rfl) (HRo.out _) ⟨wr.heap.size,0,none⟩ 1 1 (by rfl) (by rfl) (aT (ag wr _)) (AB _) HL.out.2 ?_;intro q o' c' w2 z1 z2 z3;rw [HL.out.1] at z1 z3 ⊢;obtain ⟨⟨z4,z5,z6⟩,z7⟩:=HApp.out _ _ _ _ _ z1 z2 z3;have HZ:=hid z7;clear z1 z2 z3 z7)
      exact ⟨⟨j+1,_,_,rfl,HGo.out,HZ.out _ (.inr ⟨rfl,rfl⟩)⟩,by simp only [xJ];have:=HGo.out;omega⟩
     ·have q6:¬1=c2:=fun e=>hc1 e.symm
      go_wp2_with (at_builtin;refine cO (by rfl) _ _ (by rfl) (.slice p j c) (st.ws.take j) [d] (by rfl) (HRo.out _) ⟨wr.heap.size,0,none⟩ 1 1 (by rfl) (by rfl) (aT (ag wr _)) (AB _) HL.out.2 ?_;intro q o' c' w2 z1 z2 z3;rw [HL.out.1] at z1 z3 ⊢;obtain ⟨⟨z4,z5,z6⟩,z7⟩:=HApp.out _ _ _ _ _ z1 z2 z3;have HZ:=hid z7;clear z1 z2 z3 z7)
      exact ⟨⟨j+1,_,_,rfl,HGo.out,HZ.out _ (.inl rfl)⟩,by simp only [xJ];have:=HGo.out;omega⟩
    ·have HR:Hid (DA S g V wr (.slice p j c) (st.ws.take j) { st with ws:=st.ws.drop j }/\st.ws.takeWhile aK=st.ws.take j/\st.ws.dropWhile aK=st.ws.drop j):=by
      obtain ⟨w1,w2⟩:=iu hall (fun x r e=>by rw [hd] at e;cases e;unfold aK;exact zA hk);exact ⟨HI.out.1,w1,w2⟩
     have q1:(d.k == 6)=false:=by simpa using hk
     have q2:(0:Int)<(rest.length:Int)+1:=by omega
     clear HI hall a1 a2 a3 hro hkV e0 e2 e3 e4 e5 e6 hrw hfz hd hlen hlt hrest hget htk hk t4
     go_wp2_with fail
     go_meet
     case rel=>exact ⟨j,p,c,rfl,hj,HR.out⟩
 case rest=>
  obtain ⟨j,p,c,rfl,hj,HC⟩:=hcut;obtain ⟨hDA,hbg,hrs⟩:=HC.out;obtain ⟨s1,hs1⟩:∃s1:Sy,s1={ st with ws:=st.ws.drop j }:=⟨_,rfl⟩
  have hns:st.note t=if t.f=0/\st.wr=true then (⟨st.ns,st.ws.drop j,none,true,st.en || decide (t.k=7),st.pt || decide (t.k=8)⟩,st.ws.take j++[dS,dT t.t])
    else (⟨st.ns,st.ws.drop j,none,true,true,st.pt⟩,st.ws.take j++dH :: ((if 2<=t.f/\st.wr=true/\st.ws.take j=[] then [dE] else [])++[dT t.t])):=by
   unfold Sy.note;rw [hbg,hrs]
  have HNs:Hid _:=hns;have hjt:(st.ws.take j).length=j:=by rw [zH];omega
  have HJ0:Hid (st.ws.take j=[]↔j=0):=⟨fun e=>by rw [<-hjt,e];rfl,fun e=>by rw [e];rfl⟩;have HJT:Hid ((st.ws.take j).length=j/\j<=300000000):=⟨hjt,by have:=HBd.out;omega⟩;have HD1:Hid (DA S g V wc (.slice p j c) (st.ws.take j) { st with ws:=st.ws.drop j }):=hDA;obtain ⟨⟨S1,a1,a2,a3⟩,hro,hkV⟩:=hDA;obtain ⟨_,_,_,_,_,_,e2,e3,e4,e5,_,_,hfz⟩:=a1.cells';have hgl:=a1.glt;have z2:=hfz 2;have f5:=aa (k:=5) (HTk.out _ _ _ _ HD1.out) rfl;have hT1:=ah (HTk.out _ _ _ _ HD1.out)
  have hTg:¬g=W.heap.size:=fun e=>by
   have h1:=HTk.out _ _ _ _ HD1.out;obtain ⟨vn,vw,hv,_⟩:=a1.ex;have h2:=hv.sb;unfold DB at h2;rw [e,h1] at h2;injection h2 with h3
   injection h3 with _ h4
   exact absurd h4 (by decide)
  have HD2:Hid (DA S g V (wc.setCell ⟨g,2,none⟩ (.int .i64 (-1))) (.slice p j c) (st.ws.take j) { st with ws:=st.ws.drop j,mr:=none }):=HD1.out.upd (fun S' hS'=>hS'.setMr) (Kp.set _ _ _ _);clear HC hbg hrs hns hjt a1 a2 a3 hro hkV hfz HD1 HD0 hs1 s1
  by_cases hbh:t.f=0/\st.wr=true
  ·have HN2:Hid (st.note t=(⟨st.ns,st.ws.drop j,none,true,st.en || (t.k == 7),st.pt || (t.k == 8)⟩,st.ws.take j++[dS]++[dT t.t])):=by
    show _=_
    rw [HNs.out,zw hbh,zJ];have h7:decide (t.k=7)=(t.k == 7):=by by_cases h:t.k=7 <;> simp [h]
    have h8:decide (t.k=8)=(t.k == 8):=by by_cases h:t.k=8 <;> simp [h]
    rw [h7,h8];rfl
   clear HNs;obtain ⟨hf0,hwr⟩:=hbh;rw [hwr] at e3;have q1:(t.f == 0)=true:=by simpa using hf0
   rw [hf0] at f5
   go_upto_region 7 with fail
   refine aA (fun X=>DA S g V X (.slice p j c) (st.ws.take j) { st with ws:=st.ws.drop j,mr:=none }) HD2.out ?_;intro X hX;have HX1:Hid (DA S g V X (.slice p j c) (st.ws.take j) { st with ws:=st.ws.drop j,mr:=none }):=hX;obtain ⟨⟨S7,b1,b2,b3⟩,hro7,hkV7⟩:=hX;obtain ⟨_,_,_,_,_,_,k2,k3,k4,k5,_,_,kfz⟩:=b1.cells';have hg7:=b1.glt;have f5':=aa (k:=5) (HTk.out _ _ _ _ HX1.out) rfl;have hT7:=ah (HTk.out _ _ _ _ HX1.out);have HRo:Hid (∀o',Rof (X.alloc o') (.slice p j c) (st.ws.take j)):=fun o'=>hro7.below ((gt _ _).alloc (eq _) _)
   have HAp:Hid (∀(d:Dc) ob q o' c' w2,Rof w2 (.slice (some ⟨q,o',none⟩) (j+1) c') (st.ws.take j++[d])->Kp (fun k=>(Value.slice p j c).ownBlock=some k) (X.alloc ob) w2->Nb (X.alloc ob) (.slice p j c) (.slice (some ⟨q,o',none⟩) (j+1) c')->DA S g V w2 (.slice (some ⟨q,o',none⟩) (j+1) c') (st.ws.take j++[d]) { st with ws:=st.ws.drop j,mr:=none }):=fun d ob q o' c' w2 y1 y2 y3=>HX1.out.app ((gt _ _).alloc (eq _) _) y1 y2 y3
   simp only at k3 k4 k5;rw [hf0] at f5';rw [hwr] at k3;clear hro7 hkV7 b1 b2 b3 kfz HD2 e2 e3 e4 e5 f5 z2 hgl hT1 k2
   go_upto_region 13 with (at_builtin;refine cO (by rfl) _ _ (by rfl) (.slice p j c) (st.ws.take j) [dS] (by rfl) (HRo.out _) ⟨X.heap.size,0,none⟩ 1 1 (by rfl) (by rfl) (aT (ag X _)) (AB _) (by rw [HJT.out.1];have:=HJT.out.2;simp;omega) ?_;intro q o' c' w2 y1 y2 y3;rw [HJT.out.1] at y1 y3 ⊢;have HY:=show Hid (DA S g V w2 (.slice (some ⟨q,o',none⟩) (j+1) c') (st.ws.take j++[dS]) { st with ws:=st.ws.drop j,mr:=none }) from HAp.out _ _ _ _ _ _ y1 y2 y3;clear y1 y2 y3)
   refine aA (fun Y=>DA S g V Y (.slice (some ⟨q,o',none⟩) (j+1) c') (st.ws.take j++[dS]) { st with ws:=st.ws.drop j,mr:=none }) HY.out ?_;intro Y hY;have HY1:Hid (DA S g V Y (.slice (some ⟨q,o',none⟩) (j+1) c') (st.ws.take j++[dS]) { st with ws:=st.ws.drop j,mr:=none }):=hY;obtain ⟨⟨S8,b1,b2,b3⟩,hro8,hkV8⟩:=hY;obtain ⟨_,_,_,_,_,_,_,k3',k4',k5',_,_,kfz⟩:=b1.cells';have hg8:=b1.glt;have y3:=kfz 3;have y4:=kfz 4;have y5:=kfz 5;have g0:=aa (k:=0) (HTk.out _ _ _ _ HY1.out) rfl;have g1:=aa (k:=1) (HTk.out _ _ _ _ HY1.out) rfl;have hT8:=ah (HTk.out _ _ _ _ HY1.out);have HFin:Hid (∀x4 x5,DA S g V (((Y.setCell ⟨g,3,none⟩ (.bool true)).setCell ⟨g,4,none⟩ (.bool x4)).setCell ⟨g,5,none⟩ (.bool x5)) (.slice (some ⟨q,o',none⟩) (j+1) c') (st.ws.take j++[dS]) ⟨st.ns,st.ws.drop j,none,true,x4,x5⟩):=fun x4 x5=>((HY1.out.upd (fun S' hS'=>hS'.setWr true) (Kp.set _ _ _ _)).upd (fun S' hS'=>hS'.setEn x4) (Kp.set _ _ _ _)).upd (fun S' hS'=>hS'.setPt x5) (Kp.set _ _ _ _)
   simp only at k3' k4' k5'
   have HLn:Hid ((st.ws.take j++[dS]).length=j+1/\(st.ws.take j++[dS]).length+[dT t.t].length<=2000000000):=by
    have h1:=HJT.out.1;have h2:=HJT.out.2;have h3:(st.ws.take j++[dS]).length=j+1:=by simp only [zq,h1];rfl
    exact ⟨h3,by rw [h3];simp;omega⟩
   clear hro8 hkV8 b1 b2 b3 kfz HY;have HFi:=HFin.out (st.en || (t.k == 7)) (st.pt || (t.k == 8));have HF2:Hid (DA S g V (((Y.setCell ⟨g,3,none⟩ (.bool true)).setCell ⟨g,4,none⟩ (.bool (st.en || (t.k == 7)))).setCell ⟨g,5,none⟩ (.bool (st.pt || (t.k == 8)))) (.slice (some ⟨q,o',none⟩) (j+1) c') (st.ws.take j++[dS]) ⟨st.ns,st.ws.drop j,none,true,(st.en || (t.k == 7)),(st.pt || (t.k == 8))⟩):=HFi;obtain ⟨Z,hZ⟩:∃Z,((Y.setCell ⟨g,3,none⟩ (.bool true)).setCell ⟨g,4,none⟩ (.bool (st.en || (t.k == 7)))).setCell ⟨g,5,none⟩ (.bool (st.pt || (t.k == 8)))=Z:=⟨_,rfl⟩;have HZ:Hid (((Y.setCell ⟨g,3,none⟩ (.bool true)).setCell ⟨g,4,none⟩ (.bool (st.en || (t.k == 7)))).setCell ⟨g,5,none⟩ (.bool (st.pt || (t.k == 8)))=Z):=hZ;rw [hZ] at HF2;have HR9:Hid (∀o9,Rof (Z.alloc o9) (.slice (some ⟨q,o',none⟩) (j+1) c') (st.ws.take j++[dS])):=fun o9=>HF2.out.2.1.below ((gt _ _).alloc (eq _) _)
   have HE9:Hid (∀ob q9 o9 c9 w9,Rof w9 (.slice (some ⟨q9,o9,none⟩) (j+1+1) c9) ((st.ws.take j++[dS])++[dT t.t])->Kp (fun k=>(Value.slice (some ⟨q,o',none⟩) (j+1) c').ownBlock=some k) (Z.alloc ob) w9->Nb (Z.alloc ob) (.slice (some ⟨q,o',none⟩) (j+1) c') (.slice (some ⟨q9,o9,none⟩) (j+1+1) c9)->DA S g W w9 (.slice (some ⟨q9,o9,none⟩) (j+1+1) c9) (st.note t).2 (st.note t).1):=fun ob q9 o9 c9 w9 u1 u2 u3=>by
    rw [HN2.out];exact DA.first HFst.out (HF2.out.app ((gt _ _).alloc (eq _) _) u1 u2 u3)
   have m1:Z.cell? ⟨W.heap.size,1,none⟩=some (.string t.t):=aa (HTk.out _ _ _ _ HF2.out) rfl;clear HFi HFin HN2 hZ;cases hen:st.en <;> cases hpt:st.pt
   all_goals
    rw [hen] at k4' HZ;rw [hpt] at k5' HZ;clear hen hpt
    go_upto_region 16 with fail
    refine aA (fun X9=>X9=Z) (by first|exact HZ.out|(simp only [Bq,CH,CI,B2];exact HZ.out)) ?_;intro X9 hX9;subst hX9;clear HZ
    go_wp2_with (at_builtin;refine cO (by rfl) _ _ (by rfl) (.slice (some ⟨q,o',none⟩) (j+1) c') (st.ws.take j++[dS]) [dT t.t] (by rfl) (HR9.out _) ⟨X9.heap.size,0,none⟩ 1 1 (by rfl) (by rfl) (aT (ag X9 _)) (AB _) HLn.out.2 ?_;intro q9 o9 c9 w9 u1 u2 u3;rw [HLn.out.1] at u1 u3 ⊢;have HU:=show Hid (DA S g W w9 (.slice (some ⟨q9,o9,none⟩) (j+1+1) c9) (st.note t).2 (st.note t).1) from HE9.out _ _ _ _ _ u1 u2 u3;clear u1 u2 u3)
    go_ret
    exact ⟨_,rfl,HU.out⟩
  ·by_cases hf0:t.f=0
   ·have hwr:st.wr=false:=by cases hw:st.wr with|false=>rfl|true=>exact absurd ⟨hf0,hw⟩ hbh
    have HN2:Hid (st.note t=(⟨st.ns,st.ws.drop j,none,true,true,st.pt⟩,st.ws.take j++[dH]++[dT t.t])):=by
     show _=_
     rw [HNs.out,zu hbh,zu (by omega),zJ];rfl
    clear HNs hbh;rw [hwr] at e3;have q1:(t.f == 0)=true:=by simpa using hf0
    rw [hf0] at f5
    go_upto_region 7 with fail
    refine aA (fun X=>DA S g V X (.slice p j c) (st.ws.take j) { st with ws:=st.ws.drop j,mr:=none }) HD2.out ?_;intro X hX;have HX1:Hid (DA S g V X (.slice p j c) (st.ws.take j) { st with ws:=st.ws.drop j,mr:=none }):=hX;obtain ⟨⟨S7,b1,b2,b3⟩,hro7,hkV7⟩:=hX;obtain ⟨_,_,_,_,_,_,k2,k3,k4,k5,_,_,kfz⟩:=b1.cells';have hg7:=b1.glt;have f5':=aa (k:=5) (HTk.out _ _ _ _ HX1.out) rfl;have hT7:=ah (HTk.out _ _ _ _ HX1.out);have HRo:Hid (∀o',Rof (X.alloc o') (.slice p j c) (st.ws.take j)):=fun o'=>hro7.below ((gt _ _).alloc (eq _) _)
    have HAp:Hid (∀(d:Dc) ob q o' c' w2,Rof w2 (.slice (some ⟨q,o',none⟩) (j+1) c') (st.ws.take j++[d])->Kp (fun k=>(Value.slice p j c).ownBlock=some k) (X.alloc ob) w2->Nb (X.alloc ob) (.slice p j c) (.slice (some ⟨q,o',none⟩) (j+1) c')->DA S g V w2 (.slice (some ⟨q,o',none⟩) (j+1) c') (st.ws.take j++[d]) { st with ws:=st.ws.drop j,mr:=none }):=fun d ob q o' c' w2 y1 y2 y3=>HX1.out.app ((gt _ _).alloc (eq _) _) y1 y2 y3
    simp only at k3 k4 k5;clear hro7 hkV7 b1 b2 b3 kfz HD2 e2 e3 e4 e5 f5 z2 hgl hT1 k2;rw [hwr] at k3;rw [hf0] at f5'
    have HCe:Hid (∀w v l,DA S g V w v l { st with ws:=st.ws.drop j,mr:=none }->w.cell? ⟨W.heap.size,5,none⟩=some (.int .i64 0)/\w.cell? ⟨g,3,none⟩=some (.bool false)/\g<w.heap.size/\W.heap.size<w.heap.size):=fun w v l hq=>by
     have h9:=HTk.out _ _ _ _ hq;obtain ⟨⟨S9,x1,_,_⟩,_,_⟩:=hq;obtain ⟨_,_,_,_,_,_,_,k9,_,_,_,_,_⟩:=x1.cells';exact ⟨by rw [<-hf0];exact aa h9 rfl,by rw [<-hwr];exact k9,x1.glt,ah h9⟩
    go_upto_region 13 with (at_builtin;refine cO (by rfl) _ _ (by rfl) (.slice p j c) (st.ws.take j) [dH] (by rfl) (HRo.out _) ⟨X.heap.size,0,none⟩ 1 1 (by rfl) (by rfl) (aT (ag X _)) (AB _) (by rw [HJT.out.1];have:=HJT.out.2;simp;omega) ?_;intro q o' c' w2 y1 y2 y3;rw [HJT.out.1] at y1 y3 ⊢;have HY:=show Hid (DA S g V w2 (.slice (some ⟨q,o',none⟩) (j+1) c') (st.ws.take j++[dH]) { st with ws:=st.ws.drop j,mr:=none }) from HAp.out _ _ _ _ _ _ y1 y2 y3;obtain ⟨n5,n3,n6,n7⟩:=HCe.out _ _ _ HY.out;clear y1 y2 y3)
    refine aA (fun Y=>DA S g V Y (.slice (some ⟨q,o',none⟩) (j+1) c') (st.ws.take j++[dH]) { st with ws:=st.ws.drop j,mr:=none }) HY.out ?_;intro Y hY;have HY1:Hid (DA S g V Y (.slice (some ⟨q,o',none⟩) (j+1) c') (st.ws.take j++[dH]) { st with ws:=st.ws.drop j,mr:=none }):=hY;obtain ⟨⟨S8,b1,b2,b3⟩,hro8,hkV8⟩:=hY;obtain ⟨_,_,_,_,_,_,_,k3',k4',k5',_,_,kfz⟩:=b1.cells';have hg8:=b1.glt;have y3:=kfz 3;have y4:=kfz 4;have y5:=kfz 5;have g0:=aa (k:=0) (HTk.out _ _ _ _ HY1.out) rfl;have g1:=aa (k:=1) (HTk.out _ _ _ _ HY1.out) rfl;have hT8:=ah (HTk.out _ _ _ _ HY1.out);have HFin:Hid (∀x4 x5,DA S g V (((Y.setCell ⟨g,3,none⟩ (.bool true)).setCell ⟨g,4,none⟩ (.bool x4)).setCell ⟨g,5,none⟩ (.bool x5)) (.slice (some ⟨q,o',none⟩) (j+1) c') (st.ws.take j++[dH]) ⟨st.ns,st.ws.drop j,none,true,x4,x5⟩):=fun x4 x5=>((HY1.out.upd (fun S' hS'=>hS'.setWr true) (Kp.set _ _ _ _)).upd (fun S' hS'=>hS'.setEn x4) (Kp.set _ _ _ _)).upd (fun S' hS'=>hS'.setPt x5) (Kp.set _ _ _ _)
    simp only at k3' k4' k5'
    have HLn:Hid ((st.ws.take j++[dH]).length=j+1/\(st.ws.take j++[dH]).length+[dT t.t].length<=2000000000):=by
     have h1:=HJT.out.1;have h2:=HJT.out.2;have h3:(st.ws.take j++[dH]).length=j+1:=by simp only [zq,h1];rfl
     exact ⟨h3,by rw [h3];simp;omega⟩
    clear hro8 hkV8 b1 b2 b3 kfz HY;have HFi:=HFin.out true st.pt;have HF2:Hid (DA S g V (((Y.setCell ⟨g,3,none⟩ (.bool true)).setCell ⟨g,4,none⟩ (.bool true)).setCell ⟨g,5,none⟩ (.bool st.pt)) (.slice (some ⟨q,o',none⟩) (j+1) c') (st.ws.take j++[dH]) ⟨st.ns,st.ws.drop j,none,true,true,st.pt⟩):=HFi;obtain ⟨Z,hZ⟩:∃Z,((Y.setCell ⟨g,3,none⟩ (.bool true)).setCell ⟨g,4,none⟩ (.bool true)).setCell ⟨g,5,none⟩ (.bool st.pt)=Z:=⟨_,rfl⟩;have HZ:Hid (((Y.setCell ⟨g,3,none⟩ (.bool true)).setCell ⟨g,4,none⟩ (.bool true)).setCell ⟨g,5,none⟩ (.bool st.pt)=Z):=hZ;rw [hZ] at HF2;have HR9:Hid (∀o9,Rof (Z.alloc o9) (.slice (some ⟨q,o',none⟩) (j+1) c') (st.ws.take j++[dH])):=fun o9=>HF2.out.2.1.below ((gt _ _).alloc (eq _) _)
    have HE9:Hid (∀ob q9 o9 c9 w9,Rof w9 (.slice (some ⟨q9,o9,none⟩) (j+1+1) c9) ((st.ws.take j++[dH])++[dT t.t])->Kp (fun k=>(Value.slice (some ⟨q,o',none⟩) (j+1) c').ownBlock=some k) (Z.alloc ob) w9->Nb (Z.alloc ob) (.slice (some ⟨q,o',none⟩) (j+1) c') (.slice (some ⟨q9,o9,none⟩) (j+1+1) c9)->DA S g W w9 (.slice (some ⟨q9,o9,none⟩) (j+1+1) c9) (st.note t).2 (st.note t).1):=fun ob q9 o9 c9 w9 u1 u2 u3=>by
     rw [HN2.out];exact DA.first HFst.out (HF2.out.app ((gt _ _).alloc (eq _) _) u1 u2 u3)
    have m1:Z.cell? ⟨W.heap.size,1,none⟩=some (.string t.t):=aa (HTk.out _ _ _ _ HF2.out) rfl;clear HFi HFin HN2 hZ;cases hen:st.en <;> cases hpt:st.pt
    all_goals
     rw [hen] at k4';rw [hpt] at k5' HZ;clear hen hpt
     go_upto_region 16 with fail
     refine aA (fun X9=>X9=Z) (by first|exact HZ.out|(simp only [Bq,CH,CI,B2];exact HZ.out)) ?_;intro X9 hX9;subst hX9;clear HZ
     go_wp2_with (at_builtin;refine cO (by rfl) _ _ (by rfl) (.slice (some ⟨q,o',none⟩) (j+1) c') (st.ws.take j++[dH]) [dT t.t] (by rfl) (HR9.out _) ⟨X9.heap.size,0,none⟩ 1 1 (by rfl) (by rfl) (aT (ag X9 _)) (AB _) HLn.out.2 ?_;intro q9 o9 c9 w9 u1 u2 u3;rw [HLn.out.1] at u1 u3 ⊢;have HU:=show Hid (DA S g W w9 (.slice (some ⟨q9,o9,none⟩) (j+1+1) c9) (st.note t).2 (st.note t).1) from HE9.out _ _ _ _ _ u1 u2 u3;clear u1 u2 u3)
     go_ret
     exact ⟨_,rfl,HU.out⟩
   ·have q1:(t.f == 0)=false:=by simpa using hf0
    by_cases h2:2<=t.f
    ·cases hwr:st.wr with
     |false=>
      have HN2:Hid (st.note t=(⟨st.ns,st.ws.drop j,none,true,true,st.pt⟩,st.ws.take j++[dH]++[dT t.t])):=by
       show _=_
       rw [HNs.out,zu hbh,zu (by rw [hwr];simp),zJ];rfl
      clear HNs hbh;rw [hwr] at e3
      go_upto_region 7 with fail
      refine aA (fun X=>DA S g V X (.slice p j c) (st.ws.take j) { st with ws:=st.ws.drop j,mr:=none }) HD2.out ?_;intro X hX;have HX1:Hid (DA S g V X (.slice p j c) (st.ws.take j) { st with ws:=st.ws.drop j,mr:=none }):=hX;obtain ⟨⟨S7,b1,b2,b3⟩,hro7,hkV7⟩:=hX;obtain ⟨_,_,_,_,_,_,k2,k3,k4,k5,_,_,kfz⟩:=b1.cells';have hg7:=b1.glt;have f5':=aa (k:=5) (HTk.out _ _ _ _ HX1.out) rfl;have hT7:=ah (HTk.out _ _ _ _ HX1.out);have HRo:Hid (∀o',Rof (X.alloc o') (.slice p j c) (st.ws.take j)):=fun o'=>hro7.below ((gt _ _).alloc (eq _) _)
      have HAp:Hid (∀(d:Dc) ob q o' c' w2,Rof w2 (.slice (some ⟨q,o',none⟩) (j+1) c') (st.ws.take j++[d])->Kp (fun k=>(Value.slice p j c).ownBlock=some k) (X.alloc ob) w2->Nb (X.alloc ob) (.slice p j c) (.slice (some ⟨q,o',none⟩) (j+1) c')->DA S g V w2 (.slice (some ⟨q,o',none⟩) (j+1) c') (st.ws.take j++[d]) { st with ws:=st.ws.drop j,mr:=none }):=fun d ob q o' c' w2 y1 y2 y3=>HX1.out.app ((gt _ _).alloc (eq _) _) y1 y2 y3
      simp only at k3 k4 k5;clear hro7 hkV7 b1 b2 b3 kfz HD2 e2 e3 e4 e5 f5 z2 hgl hT1 k2;rw [hwr] at k3
      have HCe:Hid (∀w v l,DA S g V w v l { st with ws:=st.ws.drop j,mr:=none }->w.cell? ⟨W.heap.size,5,none⟩=some (.int .i64 t.f)/\w.cell? ⟨g,3,none⟩=some (.bool false)/\g<w.heap.size/\W.heap.size<w.heap.size):=fun w v l hq=>by
       have h9:=HTk.out _ _ _ _ hq;obtain ⟨⟨S9,x1,_,_⟩,_,_⟩:=hq;obtain ⟨_,_,_,_,_,_,_,k9,_,_,_,_,_⟩:=x1.cells';exact ⟨aa h9 rfl,by rw [<-hwr];exact k9,x1.glt,ah h9⟩
      go_upto_region 13 with (at_builtin;refine cO (by rfl) _ _ (by rfl) (.slice p j c) (st.ws.take j) [dH] (by rfl) (HRo.out _) ⟨X.heap.size,0,none⟩ 1 1 (by rfl) (by rfl) (aT (ag X _)) (AB _) (by rw [HJT.out.1];have:=HJT.out.2;simp;omega) ?_;intro q o' c' w2 y1 y2 y3;rw [HJT.out.1] at y1 y3 ⊢;have HY:=show Hid (DA S g V w2 (.slice (some ⟨q,o',none⟩) (j+1) c') (st.ws.take j++[dH]) { st with ws:=st.ws.drop j,mr:=none }) from HAp.out _ _ _ _ _ _ y1 y2 y3;obtain ⟨n5,n3,n6,n7⟩:=HCe.out _ _ _ HY.out;clear y1 y2 y3)
      refine aA (fun Y=>DA S g V Y (.slice (some ⟨q,o',none⟩) (j+1) c') (st.ws.take j++[dH]) { st with ws:=st.ws.drop j,mr:=none }) HY.out ?_;intro Y hY;have HY1:Hid (DA S g V Y (.slice (some ⟨q,o',none⟩) (j+1) c') (st.ws.take j++[dH]) { st with ws:=st.ws.drop j,mr:=none }):=hY;obtain ⟨⟨S8,b1,b2,b3⟩,hro8,hkV8⟩:=hY;obtain ⟨_,_,_,_,_,_,_,k3',k4',k5',_,_,kfz⟩:=b1.cells';have hg8:=b1.glt;have y3:=kfz 3;have y4:=kfz 4;have y5:=kfz 5;have g0:=aa (k:=0) (HTk.out _ _ _ _ HY1.out) rfl;have g1:=aa (k:=1) (HTk.out _ _ _ _ HY1.out) rfl;have hT8:=ah (HTk.out _ _ _ _ HY1.out);have HFin:Hid (∀x4 x5,DA S g V (((Y.setCell ⟨g,3,none⟩ (.bool true)).setCell ⟨g,4,none⟩ (.bool x4)).setCell ⟨g,5,none⟩ (.bool x5)) (.slice (some ⟨q,o',none⟩) (j+1) c') (st.ws.take j++[dH]) ⟨st.ns,st.ws.drop j,none,true,x4,x5⟩):=fun x4 x5=>((HY1.out.upd (fun S' hS'=>hS'.setWr true) (Kp.set _ _ _ _)).upd (fun S' hS'=>hS'.setEn x4) (Kp.set _ _ _ _)).upd (fun S' hS'=>hS'.setPt x5) (Kp.set _ _ _ _)
      simp only at k3' k4' k5'
      have HLn:Hid ((st.ws.take j++[dH]).length=j+1/\(st.ws.take j++[dH]).length+[dT t.t].length<=2000000000):=by
       have h1:=HJT.out.1;have h2:=HJT.out.2;have h3:(st.ws.take j++[dH]).length=j+1:=by simp only [zq,h1];rfl
       exact ⟨h3,by rw [h3];simp;omega⟩
      clear hro8 hkV8 b1 b2 b3 kfz HY;have HFi:=HFin.out true st.pt;have HF2:Hid (DA S g V (((Y.setCell ⟨g,3,none⟩ (.bool true)).setCell ⟨g,4,none⟩ (.bool true)).setCell ⟨g,5,none⟩ (.bool st.pt)) (.slice (some ⟨q,o',none⟩) (j+1) c') (st.ws.take j++[dH]) ⟨st.ns,st.ws.drop j,none,true,true,st.pt⟩):=HFi;obtain ⟨Z,hZ⟩:∃Z,((Y.setCell ⟨g,3,none⟩ (.bool true)).setCell ⟨g,4,none⟩ (.bool true)).setCell ⟨g,5,none⟩ (.bool st.pt)=Z:=⟨_,rfl⟩;have HZ:Hid (((Y.setCell ⟨g,3,none⟩ (.bool true)).setCell ⟨g,4,none⟩ (.bool true)).setCell ⟨g,5,none⟩ (.bool st.pt)=Z):=hZ;rw [hZ] at HF2;have HR9:Hid (∀o9,Rof (Z.alloc o9) (.slice (some ⟨q,o',none⟩) (j+1) c') (st.ws.take j++[dH])):=fun o9=>HF2.out.2.1.below ((gt _ _).alloc (eq _) _)
      have HE9:Hid (∀ob q9 o9 c9 w9,Rof w9 (.slice (some ⟨q9,o9,none⟩) (j+1+1) c9) ((st.ws.take j++[dH])++[dT t.t])->Kp (fun k=>(Value.slice (some ⟨q,o',none⟩) (j+1) c').ownBlock=some k) (Z.alloc ob) w9->Nb (Z.alloc ob) (.slice (some ⟨q,o',none⟩) (j+1) c') (.slice (some ⟨q9,o9,none⟩) (j+1+1) c9)->DA S g W w9 (.slice (some ⟨q9,o9,none⟩) (j+1+1) c9) (st.note t).2 (st.note t).1):=fun ob q9 o9 c9 w9 u1 u2 u3=>by
       rw [HN2.out];exact DA.first HFst.out (HF2.out.app ((gt _ _).alloc (eq _) _) u1 u2 u3)
      have m1:Z.cell? ⟨W.heap.size,1,none⟩=some (.string t.t):=aa (HTk.out _ _ _ _ HF2.out) rfl;clear HFi HFin HN2 hZ;cases hen:st.en <;> cases hpt:st.pt
      all_goals
       rw [hen] at k4';rw [hpt] at k5' HZ;clear hen hpt
       go_upto_region 16 with fail
       refine aA (fun X9=>X9=Z) (by first|exact HZ.out|(simp only [Bq,CH,CI,B2];exact HZ.out)) ?_;intro X9 hX9;subst hX9;clear HZ
       go_wp2_with (at_builtin;refine cO (by rfl) _ _ (by rfl) (.slice (some ⟨q,o',none⟩) (j+1) c') (st.ws.take j++[dH]) [dT t.t] (by rfl) (HR9.out _) ⟨X9.heap.size,0,none⟩ 1 1 (by rfl) (by rfl) (aT (ag X9 _)) (AB _) HLn.out.2 ?_;intro q9 o9 c9 w9 u1 u2 u3;rw [HLn.out.1] at u1 u3 ⊢;have HU:=show Hid (DA S g W w9 (.slice (some ⟨q9,o9,none⟩) (j+1+1) c9) (st.note t).2 (st.note t).1) from HE9.out _ _ _ _ _ u1 u2 u3;clear u1 u2 u3)
       go_ret
       exact ⟨_,rfl,HU.out⟩
     |true=>
      by_cases hj0:j=0
      ·have HN2:Hid (st.note t=(⟨st.ns,st.ws.drop j,none,true,true,st.pt⟩,st.ws.take j++[dH]++[dE]++[dT t.t])):=by
        show _=_
        rw [HNs.out,zu hbh,zw ⟨h2,hwr,HJ0.out.2 hj0⟩,zJ,zJ];rfl
       clear HNs hbh;rw [hwr] at e3;have q8:decide (0<j)=false:=by simp;omega
       have q8':¬(0<j):=by omega
       go_upto_region 7 with fail
       refine aA (fun X=>DA S g V X (.slice p j c) (st.ws.take j) { st with ws:=st.ws.drop j,mr:=none }) HD2.out ?_;intro X hX;have HX1:Hid (DA S g V X (.slice p j c) (st.ws.take j) { st with ws:=st.ws.drop j,mr:=none }):=hX;obtain ⟨⟨S7,b1,b2,b3⟩,hro7,hkV7⟩:=hX;obtain ⟨_,_,_,_,_,_,k2,k3,k4,k5,_,_,kfz⟩:=b1.cells';have hg7:=b1.glt;have f5':=aa (k:=5) (HTk.out _ _ _ _ HX1.out) rfl;have hT7:=ah (HTk.out _ _ _ _ HX1.out);have HRo:Hid (∀o',Rof (X.alloc o') (.slice p j c) (st.ws.take j)):=fun o'=>hro7.below ((gt _ _).alloc (eq _) _)
       have HAp:Hid (∀(d:Dc) ob q o' c' w2,Rof w2 (.slice (some ⟨q,o',none⟩) (j+1) c') (st.ws.take j++[d])->Kp (fun k=>(Value.slice p j c).ownBlock=some k) (X.alloc ob) w2->Nb (X.alloc ob) (.slice p j c) (.slice (some ⟨q,o',none⟩) (j+1) c')->DA S g V w2 (.slice (some ⟨q,o',none⟩) (j+1) c') (st.ws.take j++[d]) { st with ws:=st.ws.drop j,mr:=none }):=fun d ob q o' c' w2 y1 y2 y3=>HX1.out.app ((gt _ _).alloc (eq _) _) y1 y2 y3
       simp only at k3 k4 k5;clear hro7 hkV7 b1 b2 b3 kfz HD2 e2 e3 e4 e5 f5 z2 hgl hT1 k2;rw [hwr] at k3;clear hj0
       have HCe:Hid (∀w v l,DA S g V w v l { st with ws:=st.ws.drop j,mr:=none }->w.cell? ⟨W.heap.size,5,none⟩=some (.int .i64 t.f)/\w.cell? ⟨g,3,none⟩=some (.bool true)/\g<w.heap.size/\W.heap.size<w.heap.size):=fun w v l hq=>by
        have h9:=HTk.out _ _ _ _ hq;obtain ⟨⟨S9,x1,_,_⟩,_,_⟩:=hq;obtain ⟨_,_,_,_,_,_,_,k9,_,_,_,_,_⟩:=x1.cells';exact ⟨aa h9 rfl,by rw [<-hwr];exact k9,x1.glt,ah h9⟩
       go_upto_region 12 with (at_builtin;refine cO (by rfl) _ _ (by rfl) (.slice p j c) (st.ws.take j) [dH] (by rfl) (HRo.out _) ⟨X.heap.size,0,none⟩ 1 1 (by rfl) (by rfl) (aT (ag X _)) (AB _) (by rw [HJT.out.1];have:=HJT.out.2;simp;omega) ?_;intro q o' c' w2 y1 y2 y3;rw [HJT.out.1] at y1 y3 ⊢;have HY:=show Hid (DA S g V w2 (.slice (some ⟨q,o',none⟩) (j+1) c') (st.ws.take j++[dH]) { st with ws:=st.ws.drop j,mr:=none }) from HAp.out _ _ _ _ _ _ y1 y2 y3;obtain ⟨n5,n3,n6,n7⟩:=HCe.out _ _ _ HY.out;clear y1 y2 y3)
       refine aA (fun X2=>DA S g V X2 (.slice (some ⟨q,o',none⟩) (j+1) c') (st.ws.take j++[dH]) { st with ws:=st.ws.drop j,mr:=none }) HY.out ?_;intro X2 hX2;have HX2:Hid (DA S g V X2 (.slice (some ⟨q,o',none⟩) (j+1) c') (st.ws.take j++[dH]) { st with ws:=st.ws.drop j,mr:=none }):=hX2;have HRo2:Hid (∀o9,Rof (X2.alloc o9) (.slice (some ⟨q,o',none⟩) (j+1) c') (st.ws.take j++[dH])):=fun o9=>hX2.2.1.below ((gt _ _).alloc (eq _) _)
       have HAp2:Hid (∀(d:Dc) ob q9 o9 c9 w2,Rof w2 (.slice (some ⟨q9,o9,none⟩) (j+1+1) c9) (st.ws.take j++[dH]++[d])->Kp (fun k=>(Value.slice (some ⟨q,o',none⟩) (j+1) c').ownBlock=some k) (X2.alloc ob) w2->Nb (X2.alloc ob) (.slice (some ⟨q,o',none⟩) (j+1) c') (.slice (some ⟨q9,o9,none⟩) (j+1+1) c9)->DA S g V w2 (.slice (some ⟨q9,o9,none⟩) (j+1+1) c9) (st.ws.take j++[dH]++[d]) { st with ws:=st.ws.drop j,mr:=none }):=fun d ob q9 o9 c9 w2 y1 y2 y3=>HX2.out.app ((gt _ _).alloc (eq _) _) y1 y2 y3
       have HL2:Hid ((st.ws.take j++[dH]).length=j+1/\(st.ws.take j++[dH]).length+[dE].length<=2000000000):=by
        have h1:=HJT.out.1;have h2:=HJT.out.2;have h3:(st.ws.take j++[dH]).length=j+1:=by rw [zq,h1];rfl
        exact ⟨h3,by rw [h3];simp;omega⟩
       clear HY hX2 HRo HAp HX1
       go_upto_region 13 with (at_builtin;refine cO (by rfl) _ _ (by rfl) (.slice (some ⟨q,o',none⟩) (j+1) c') (st.ws.take j++[dH]) [dE] (by rfl) (HRo2.out _) ⟨X2.heap.size,0,none⟩ 1 1 (by rfl) (by rfl) (aT (ag X2 _)) (AB _) HL2.out.2 ?_;intro q o' c' w2 y1 y2 y3;rw [HL2.out.1] at y1 y3 ⊢;have HY:=show Hid (DA S g V w2 (.slice (some ⟨q,o',none⟩) (j+1+1) c') (st.ws.take j++[dH]++[dE]) { st with ws:=st.ws.drop j,mr:=none }) from HAp2.out _ _ _ _ _ _ y1 y2 y3;clear y1 y2 y3)
       refine aA (fun Y=>DA S g V Y (.slice (some ⟨q,o',none⟩) (j+1+1) c') (st.ws.take j++[dH]++[dE]) { st with ws:=st.ws.drop j,mr:=none }) HY.out ?_;intro Y hY;have HY1:Hid (DA S g V Y (.slice (some ⟨q,o',none⟩) (j+1+1) c') (st.ws.take j++[dH]++[dE]) { st with ws:=st.ws.drop j,mr:=none }):=hY;obtain ⟨⟨S8,b1,b2,b3⟩,hro8,hkV8⟩:=hY;obtain ⟨_,_,_,_,_,_,_,k3',k4',k5',_,_,kfz⟩:=b1.cells';have hg8:=b1.glt;have y3:=kfz 3;have y4:=kfz 4;have y5:=kfz 5;have g0:=aa (k:=0) (HTk.out _ _ _ _ HY1.out) rfl;have g1:=aa (k:=1) (HTk.out _ _ _ _ HY1.out) rfl;have hT8:=ah (HTk.out _ _ _ _ HY1.out);have HFin:Hid (∀x4 x5,DA S g V (((Y.setCell ⟨g,3,none⟩ (.bool true)).setCell ⟨g,4,none⟩ (.bool x4)).setCell ⟨g,5,none⟩ (.bool x5)) (.slice (some ⟨q,o',none⟩) (j+1+1) c') (st.ws.take j++[dH]++[dE]) ⟨st.ns,st.ws.drop j,none,true,x4,x5⟩):=fun x4 x5=>((HY1.out.upd (fun S' hS'=>hS'.setWr true) (Kp.set _ _ _ _)).upd (fun S' hS'=>hS'.setEn x4) (Kp.set _ _ _ _)).upd (fun S' hS'=>hS'.setPt x5) (Kp.set _ _ _ _)
       simp only at k3' k4' k5'
       have HLn:Hid ((st.ws.take j++[dH]++[dE]).length=j+1+1/\(st.ws.take j++[dH]++[dE]).length+[dT t.t].length<=2000000000):=by
        have h1:=HJT.out.1;have h2:=HJT.out.2;have h3:(st.ws.take j++[dH]++[dE]).length=j+1+1:=by simp only [zq,h1];rfl
        exact ⟨h3,by rw [h3];simp;omega⟩
       clear hro8 hkV8 b1 b2 b3 kfz HY;have HFi:=HFin.out true st.pt;have HF2:Hid (DA S g V (((Y.setCell ⟨g,3,none⟩ (.bool true)).setCell ⟨g,4,none⟩ (.bool true)).setCell ⟨g,5,none⟩ (.bool st.pt)) (.slice (some ⟨q,o',none⟩) (j+1+1) c') (st.ws.take j++[dH]++[dE]) ⟨st.ns,st.ws.drop j,none,true,true,st.pt⟩):=HFi;obtain ⟨Z,hZ⟩:∃Z,((Y.setCell ⟨g,3,none⟩ (.bool true)).setCell ⟨g,4,none⟩ (.bool true)).setCell ⟨g,5,none⟩ (.bool st.pt)=Z:=⟨_,rfl⟩;have HZ:Hid (((Y.setCell ⟨g,3,none⟩ (.bool true)).setCell ⟨g,4,none⟩ (.bool true)).setCell ⟨g,5,none⟩ (.bool st.pt)=Z):=hZ;rw [hZ] at HF2;have HR9:Hid (∀o9,Rof (Z.alloc o9) (.slice (some ⟨q,o',none⟩) (j+1+1) c') (st.ws.take j++[dH]++[dE])):=fun o9=>HF2.out.2.1.below ((gt _ _).alloc (eq _) _)
       have HE9:Hid (∀ob q9 o9 c9 w9,Rof w9 (.slice (some ⟨q9,o9,none⟩) (j+1+1+1) c9) ((st.ws.take j++[dH]++[dE])++[dT t.t])->Kp (fun k=>(Value.slice (some ⟨q,o',none⟩) (j+1+1) c').ownBlock=some k) (Z.alloc ob) w9->Nb (Z.alloc ob) (.slice (some ⟨q,o',none⟩) (j+1+1) c') (.slice (some ⟨q9,o9,none⟩) (j+1+1+1) c9)->DA S g W w9 (.slice (some ⟨q9,o9,none⟩) (j+1+1+1) c9) (st.note t).2 (st.note t).1):=fun ob q9 o9 c9 w9 u1 u2 u3=>by
        rw [HN2.out];exact DA.first HFst.out (HF2.out.app ((gt _ _).alloc (eq _) _) u1 u2 u3)
       have m1:Z.cell? ⟨W.heap.size,1,none⟩=some (.string t.t):=aa (HTk.out _ _ _ _ HF2.out) rfl;clear HFi HFin HN2 hZ;cases hen:st.en <;> cases hpt:st.pt
       all_goals
        rw [hen] at k4';rw [hpt] at k5' HZ;clear hen hpt
        go_upto_region 16 with fail
        refine aA (fun X9=>X9=Z) (by first|exact HZ.out|(simp only [Bq,CH,CI,B2];exact HZ.out)) ?_;intro X9 hX9;subst hX9;clear HZ
        go_wp2_with (at_builtin;refine cO (by rfl) _ _ (by rfl) (.slice (some ⟨q,o',none⟩) (j+1+1) c') (st.ws.take j++[dH]++[dE]) [dT t.t] (by rfl) (HR9.out _) ⟨X9.heap.size,0,none⟩ 1 1 (by rfl) (by rfl) (aT (ag X9 _)) (AB _) HLn.out.2 ?_;intro q9 o9 c9 w9 u1 u2 u3;rw [HLn.out.1] at u1 u3 ⊢;have HU:=show Hid (DA S g W w9 (.slice (some ⟨q9,o9,none⟩) (j+1+1+1) c9) (st.note t).2 (st.note t).1) from HE9.out _ _ _ _ _ u1 u2 u3;clear u1 u2 u3)
        go_ret
        exact ⟨_,rfl,HU.out⟩
      ·have HN2:Hid (st.note t=(⟨st.ns,st.ws.drop j,none,true,true,st.pt⟩,st.ws.take j++[dH]++[dT t.t])):=by
        show _=_
        rw [HNs.out,zu hbh,zu (by exact fun h=>hj0 (HJ0.out.1 h.2.2)),zJ];rfl
       clear HNs hbh;rw [hwr] at e3;have q8:decide (0<j)=true:=by simp;omega
       have q8':0<j:=by omega
       go_upto_region 7 with fail
       refine aA (fun X=>DA S g V X (.slice p j c) (st.ws.take j) { st with ws:=st.ws.drop j,mr:=none }) HD2.out ?_;intro X hX;have HX1:Hid (DA S g V X (.slice p j c) (st.ws.take j) { st with ws:=st.ws.drop j,mr:=none }):=hX;obtain ⟨⟨S7,b1,b2,b3⟩,hro7,hkV7⟩:=hX;obtain ⟨_,_,_,_,_,_,k2,k3,k4,k5,_,_,kfz⟩:=b1.cells';have hg7:=b1.glt;have f5':=aa (k:=5) (HTk.out _ _ _ _ HX1.out) rfl;have hT7:=ah (HTk.out _ _ _ _ HX1.out);have HRo:Hid (∀o',Rof (X.alloc o') (.slice p j c) (st.ws.take j)):=fun o'=>hro7.below ((gt _ _).alloc (eq _) _)
       have HAp:Hid (∀(d:Dc) ob q o' c' w2,Rof w2 (.slice (some ⟨q,o',none⟩) (j+1) c') (st.ws.take j++[d])->Kp (fun k=>(Value.slice p j c).ownBlock=some k) (X.alloc ob) w2->Nb (X.alloc ob) (.slice p j c) (.slice (some ⟨q,o',none⟩) (j+1) c')->DA S g V w2 (.slice (some ⟨q,o',none⟩) (j+1) c') (st.ws.take j++[d]) { st with ws:=st.ws.drop j,mr:=none }):=fun d ob q o' c' w2 y1 y2 y3=>HX1.out.app ((gt _ _).alloc (eq _) _) y1 y2 y3
       simp only at k3 k4 k5;clear hro7 hkV7 b1 b2 b3 kfz HD2 e2 e3 e4 e5 f5 z2 hgl hT1 k2;rw [hwr] at k3;clear hj0
       have HCe:Hid (∀w v l,DA S g V w v l { st with ws:=st.ws.drop j,mr:=none }->w.cell? ⟨W.heap.size,5,none⟩=some (.int .i64 t.f)/\w.cell? ⟨g,3,none⟩=some (.bool true)/\g<w.heap.size/\W.heap.size<w.heap.size):=fun w v l hq=>by
        have h9:=HTk.out _ _ _ _ hq;obtain ⟨⟨S9,x1,_,_⟩,_,_⟩:=hq;obtain ⟨_,_,_,_,_,_,_,k9,_,_,_,_,_⟩:=x1.cells';exact ⟨aa h9 rfl,by rw [<-hwr];exact k9,x1.glt,ah h9⟩
       go_upto_region 13 with (at_builtin;refine cO (by rfl) _ _ (by rfl) (.slice p j c) (st.ws.take j) [dH] (by rfl) (HRo.out _) ⟨X.heap.size,0,none⟩ 1 1 (by rfl) (by rfl) (aT (ag X _)) (AB _) (by rw [HJT.out.1];have:=HJT.out.2;simp;omega) ?_;intro q o' c' w2 y1 y2 y3;rw [HJT.out.1] at y1 y3 ⊢;have HY:=show Hid (DA S g V w2 (.slice (some ⟨q,o',none⟩) (j+1) c') (st.ws.take j++[dH]) { st with ws:=st.ws.drop j,mr:=none }) from HAp.out _ _ _ _ _ _ y1 y2 y3;obtain ⟨n5,n3,n6,n7⟩:=HCe.out _ _ _ HY.out;clear y1 y2 y3)
       refine aA (fun Y=>DA S g V Y (.slice (some ⟨q,o',none⟩) (j+1) c') (st.ws.take j++[dH]) { st with ws:=st.ws.drop j,mr:=none }) HY.out ?_;intro Y hY;have HY1:Hid (DA S g V Y (.slice (some ⟨q,o',none⟩) (j+1) c') (st.ws.take j++[dH]) { st with ws:=st.ws.drop j,mr:=none }):=hY;obtain ⟨⟨S8,b1,b2,b3⟩,hro8,hkV8⟩:=hY;obtain ⟨_,_,_,_,_,_,_,k3',k4',k5',_,_,kfz⟩:=b1.cells';have hg8:=b1.glt;have y3:=kfz 3;have y4:=kfz 4;have y5:=kfz 5;have g0:=aa (k:=0) (HTk.out _ _ _ _ HY1.out) rfl;have g1:=aa (k:=1) (HTk.out _ _ _ _ HY1.out) rfl;have hT8:=ah (HTk.out _ _ _ _ HY1.out);have HFin:Hid (∀x4 x5,DA S g V (((Y.setCell ⟨g,3,none⟩ (.bool true)).setCell ⟨g,4,none⟩ (.bool x4)).setCell ⟨g,5,none⟩ (.bool x5)) (.slice (some ⟨q,o',none⟩) (j+1) c') (st.ws.take j++[dH]) ⟨st.ns,st.ws.drop j,none,true,x4,x5⟩):=fun x4 x5=>((HY1.out.upd (fun S' hS'=>hS'.setWr true) (Kp.set _ _ _ _)).upd (fun S' hS'=>hS'.setEn x4) (Kp.set _ _ _ _)).upd (fun S' hS'=>hS'.setPt x5) (Kp.set _ _ _ _)
       simp only at k3' k4' k5'
       have HLn:Hid ((st.ws.take j++[dH]).length=j+1/\(st.ws.take j++[dH]).length+[dT t.t].length<=2000000000):=by
        have h1:=HJT.out.1;have h2:=HJT.out.2;have h3:(st.ws.take j++[dH]).length=j+1:=by simp only [zq,h1];rfl
        exact ⟨h3,by rw [h3];simp;omega⟩
       clear hro8 hkV8 b1 b2 b3 kfz HY;have HFi:=HFin.out true st.pt;have HF2:Hid (DA S g V (((Y.setCell ⟨g,3,none⟩ (.bool true)).setCell ⟨g,4,none⟩ (.bool true)).setCell ⟨g,5,none⟩ (.bool st.pt)) (.slice (some ⟨q,o',none⟩) (j+1) c') (st.ws.take j++[dH]) ⟨st.ns,st.ws.drop j,none,true,true,st.pt⟩):=HFi;obtain ⟨Z,hZ⟩:∃Z,((Y.setCell ⟨g,3,none⟩ (.bool true)).setCell ⟨g,4,none⟩ (.bool true)).setCell ⟨g,5,none⟩ (.bool st.pt)=Z:=⟨_,rfl⟩;have HZ:Hid (((Y.setCell ⟨g,3,none⟩ (.bool true)).setCell ⟨g,4,none⟩ (.bool true)).setCell ⟨g,5,none⟩ (.bool st.pt)=Z):=hZ;rw [hZ] at HF2;have HR9:Hid (∀o9,Rof (Z.alloc o9) (.slice (some ⟨q,o',none⟩) (j+1) c') (st.ws.take j++[dH])):=fun o9=>HF2.out.2.1.below ((gt _ _).alloc (eq _) _)
       have HE9:Hid (∀ob q9 o9 c9 w9,Rof w9 (.slice (some ⟨q9,o9,none⟩) (j+1+1) c9) ((st.ws.take j++[dH])++[dT t.t])->Kp (fun k=>(Value.slice (some ⟨q,o',none⟩) (j+1) c').ownBlock=some k) (Z.alloc ob) w9->Nb (Z.alloc ob) (.slice (some ⟨q,o',none⟩) (j+1) c') (.slice (some ⟨q9,o9,none⟩) (j+1+1) c9)->DA S g W w9 (.slice (some ⟨q9,o9,none⟩) (j+1+1) c9) (st.note t).2 (st.note t).1):=fun ob q9 o9 c9 w9 u1 u2 u3=>by
        rw [HN2.out];exact DA.first HFst.out (HF2.out.app ((gt _ _).alloc (eq _) _) u1 u2 u3)
       have m1:Z.cell? ⟨W.heap.size,1,none⟩=some (.string t.t):=aa (HTk.out _ _ _ _ HF2.out) rfl;clear HFi HFin HN2 hZ;cases hen:st.en <;> cases hpt:st.pt
       all_goals
        rw [hen] at k4';rw [hpt] at k5' HZ;clear hen hpt
        go_upto_region 16 with fail
        refine aA (fun X9=>X9=Z) (by first|exact HZ.out|(simp only [Bq,CH,CI,B2];exact HZ.out)) ?_;intro X9 hX9;subst hX9;clear HZ
        go_wp2_with (at_builtin;refine cO (by rfl) _ _ (by rfl) (.slice (some ⟨q,o',none⟩) (j+1) c') (st.ws.take j++[dH]) [dT t.t] (by rfl) (HR9.out _) ⟨X9.heap.size,0,none⟩ 1 1 (by rfl) (by rfl) (aT (ag X9 _)) (AB _) HLn.out.2 ?_;intro q9 o9 c9 w9 u1 u2 u3;rw [HLn.out.1] at u1 u3 ⊢;have HU:=show Hid (DA S g W w9 (.slice (some ⟨q9,o9,none⟩) (j+1+1) c9) (st.note t).2 (st.note t).1) from HE9.out _ _ _ _ _ u1 u2 u3;clear u1 u2 u3)
        go_ret
        exact ⟨_,rfl,HU.out⟩
    ·have HN2:Hid (st.note t=(⟨st.ns,st.ws.drop j,none,true,true,st.pt⟩,st.ws.take j++[dH]++[dT t.t])):=by
      show _=_
      rw [HNs.out,zu hbh,zu (by omega),zJ];rfl
     clear HNs hbh
     go_upto_region 7 with fail
     refine aA (fun X=>DA S g V X (.slice p j c) (st.ws.take j) { st with ws:=st.ws.drop j,mr:=none }) HD2.out ?_;intro X hX;have HX1:Hid (DA S g V X (.slice p j c) (st.ws.take j) { st with ws:=st.ws.drop j,mr:=none }):=hX;obtain ⟨⟨S7,b1,b2,b3⟩,hro7,hkV7⟩:=hX;obtain ⟨_,_,_,_,_,_,k2,k3,k4,k5,_,_,kfz⟩:=b1.cells';have hg7:=b1.glt;have f5':=aa (k:=5) (HTk.out _ _ _ _ HX1.out) rfl;have hT7:=ah (HTk.out _ _ _ _ HX1.out);have HRo:Hid (∀o',Rof (X.alloc o') (.slice p j c) (st.ws.take j)):=fun o'=>hro7.below ((gt _ _).alloc (eq _) _)
     have HAp:Hid (∀(d:Dc) ob q o' c' w2,Rof w2 (.slice (some ⟨q,o',none⟩) (j+1) c') (st.ws.take j++[d])->Kp (fun k=>(Value.slice p j c).ownBlock=some k) (X.alloc ob) w2->Nb (X.alloc ob) (.slice p j c) (.slice (some ⟨q,o',none⟩) (j+1) c')->DA S g V w2 (.slice (some ⟨q,o',none⟩) (j+1) c') (st.ws.take j++[d]) { st with ws:=st.ws.drop j,mr:=none }):=fun d ob q o' c' w2 y1 y2 y3=>HX1.out.app ((gt _ _).alloc (eq _) _) y1 y2 y3
     simp only at k3 k4 k5;clear hro7 hkV7 b1 b2 b3 kfz HD2 e2 e3 e4 e5 f5 z2 hgl hT1 k2
     have HCe:Hid (∀w v l,DA S g V w v l { st with ws:=st.ws.drop j,mr:=none }->w.cell? ⟨W.heap.size,5,none⟩=some (.int .i64 t.f)/\w.cell? ⟨g,3,none⟩=some (.bool st.wr)/\g<w.heap.size/\W.heap.size<w.heap.size):=fun w v l hq=>by
      have h9:=HTk.out _ _ _ _ hq;obtain ⟨⟨S9,x1,_,_⟩,_,_⟩:=hq;obtain ⟨_,_,_,_,_,_,_,k9,_,_,_,_,_⟩:=x1.cells';exact ⟨aa h9 rfl,k9,x1.glt,ah h9⟩
     go_upto_region 13 with (at_builtin;refine cO (by rfl) _ _ (by rfl) (.slice p j c) (st.ws.take j) [dH] (by rfl) (HRo.out _) ⟨X.heap.size,0,none⟩ 1 1 (by rfl) (by rfl) (aT (ag X _)) (AB _) (by rw [HJT.out.1];have:=HJT.out.2;simp;omega) ?_;intro q o' c' w2 y1 y2 y3;rw [HJT.out.1] at y1 y3 ⊢;have HY:=show Hid (DA S g V w2 (.slice (some ⟨q,o',none⟩) (j+1) c') (st.ws.take j++[dH]) { st with ws:=st.ws.drop j,mr:=none }) from HAp.out _ _ _ _ _ _ y1 y2 y3;obtain ⟨n5,n3,n6,n7⟩:=HCe.out _ _ _ HY.out;clear y1 y2 y3)
     refine aA (fun Y=>DA S g V Y (.slice (some ⟨q,o',none⟩) (j+1) c') (st.ws.take j++[dH]) { st with ws:=st.ws.drop j,mr:=none }) HY.out ?_;intro Y hY;have HY1:Hid (DA S g V Y (.slice (some ⟨q,o',none⟩) (j+1) c') (st.ws.take j++[dH]) { st with ws:=st.ws.drop j,mr:=none }):=hY;obtain ⟨⟨S8,b1,b2,b3⟩,hro8,hkV8⟩:=hY;obtain ⟨_,_,_,_,_,_,_,k3',k4',k5',_,_,kfz⟩:=b1.cells';have hg8:=b1.glt;have y3:=kfz 3;have y4:=kfz 4;have y5:=kfz 5;have g0:=aa (k:=0) (HTk.out _ _ _ _ HY1.out) rfl;have g1:=aa (k:=1) (HTk.out _ _ _ _ HY1.out) rfl;have hT8:=ah (HTk.out _ _ _ _ HY1.out);have HFin:Hid (∀x4 x5,DA S g V (((Y.setCell ⟨g,3,none⟩ (.bool true)).setCell ⟨g,4,none⟩ (.bool x4)).setCell ⟨g,5,none⟩ (.bool x5)) (.slice (some ⟨q,o',none⟩) (j+1) c') (st.ws.take j++[dH]) ⟨st.ns,st.ws.drop j,none,true,x4,x5⟩):=fun x4 x5=>((HY1.out.upd (fun S' hS'=>hS'.setWr true) (Kp.set _ _ _ _)).upd (fun S' hS'=>hS'.setEn x4) (Kp.set _ _ _ _)).upd (fun S' hS'=>hS'.setPt x5) (Kp.set _ _ _ _)
     simp only at k3' k4' k5'
     have HLn:Hid ((st.ws.take j++[dH]).length=j+1/\(st.ws.take j++[dH]).length+[dT t.t].length<=2000000000):=by
      have h1:=HJT.out.1;have h2:=HJT.out.2;have h3:(st.ws.take j++[dH]).length=j+1:=by simp only [zq,h1];rfl
      exact ⟨h3,by rw [h3];simp;omega⟩
     clear hro8 hkV8 b1 b2 b3 kfz HY;have HFi:=HFin.out true st.pt;have HF2:Hid (DA S g V (((Y.setCell ⟨g,3,none⟩ (.bool true)).setCell ⟨g,4,none⟩ (.bool true)).setCell ⟨g,5,none⟩ (.bool st.pt)) (.slice (some ⟨q,o',none⟩) (j+1) c') (st.ws.take j++[dH]) ⟨st.ns,st.ws.drop j,none,true,true,st.pt⟩):=HFi;obtain ⟨Z,hZ⟩:∃Z,((Y.setCell ⟨g,3,none⟩ (.bool true)).setCell ⟨g,4,none⟩ (.bool true)).setCell ⟨g,5,none⟩ (.bool st.pt)=Z:=⟨_,rfl⟩;have HZ:Hid (((Y.setCell ⟨g,3,none⟩ (.bool true)).setCell ⟨g,4,none⟩ (.bool true)).setCell ⟨g,5,none⟩ (.bool st.pt)=Z):=hZ;rw [hZ] at HF2;have HR9:Hid (∀o9,Rof (Z.alloc o9) (.slice (some ⟨q,o',none⟩) (j+1) c') (st.ws.take j++[dH])):=fun o9=>HF2.out.2.1.below ((gt _ _).alloc (eq _) _)
     have HE9:Hid (∀ob q9 o9 c9 w9,Rof w9 (.slice (some ⟨q9,o9,none⟩) (j+1+1) c9) ((st.ws.take j++[dH])++[dT t.t])->Kp (fun k=>(Value.slice (some ⟨q,o',none⟩) (j+1) c').ownBlock=some k) (Z.alloc ob) w9->Nb (Z.alloc ob) (.slice (some ⟨q,o',none⟩) (j+1) c') (.slice (some ⟨q9,o9,none⟩) (j+1+1) c9)->DA S g W w9 (.slice (some ⟨q9,o9,none⟩) (j+1+1) c9) (st.note t).2 (st.note t).1):=fun ob q9 o9 c9 w9 u1 u2 u3=>by
      rw [HN2.out];exact DA.first HFst.out (HF2.out.app ((gt _ _).alloc (eq _) _) u1 u2 u3)
     have m1:Z.cell? ⟨W.heap.size,1,none⟩=some (.string t.t):=aa (HTk.out _ _ _ _ HF2.out) rfl;clear HFi HFin HN2 hZ;cases hen:st.en <;> cases hpt:st.pt
     all_goals
      rw [hen] at k4';rw [hpt] at k5' HZ;clear hen hpt
      go_upto_region 16 with fail
      refine aA (fun X9=>X9=Z) (by first|exact HZ.out|(simp only [Bq,CH,CI,B2];exact HZ.out)) ?_;intro X9 hX9;subst hX9;clear HZ
      go_wp2_with (at_builtin;refine cO (by rfl) _ _ (by rfl) (.slice (some ⟨q,o',none⟩) (j+1) c') (st.ws.take j++[dH]) [dT t.t] (by rfl) (HR9.out _) ⟨X9.heap.size,0,none⟩ 1 1 (by rfl) (by rfl) (aT (ag X9 _)) (AB _) HLn.out.2 ?_;intro q9 o9 c9 w9 u1 u2 u3;rw [HLn.out.1] at u1 u3 ⊢;have HU:=show Hid (DA S g W w9 (.slice (some ⟨q9,o9,none⟩) (j+1+1) c9) (st.note t).2 (st.note t).1) from HE9.out _ _ _ _ _ u1 u2 u3;clear u1 u2 u3)
      go_ret
      exact ⟨_,rfl,HU.out⟩
end Go.Proofs.YtpdlohfdjiaegaaGreatDoor
