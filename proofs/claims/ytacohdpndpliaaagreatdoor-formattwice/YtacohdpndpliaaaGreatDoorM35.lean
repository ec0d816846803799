import Derived.Test.YtacohdpndpliaaaGreatDoorM34
set_option linter.all false
namespace Go.Proofs.YtacohdpndpliaaaGreatDoor
open Go.RowKit
open Lw (Dc bE rt cM dN fT j9 bW aY cr)
variable {st st':Sy}{g T q a b n:Nat}{W V V':World}{t:Tv}{v:Value}{l:List Dc}
def Lf (W:World) (T:Nat) (t:Tv):Prop:=W.heap[T]?=some (.cells #[.int .u8 t.k,.string t.t,.int .i64 t.a,.int .i64 t.l,.int .i64 t.c,.int .i64 t.f] 53 (0,0))
theorem Lf.cells {W:World}{T:Nat}{t:Tv}(h:Lf W T t):W.cell? ⟨T,0,none⟩=some (.int .u8 t.k)/\W.cell? ⟨T,1,none⟩=some (.string t.t)/\W.cell? ⟨T,2,none⟩=some (.int .i64 t.a)/\W.cell? ⟨T,3,none⟩=some (.int .i64 t.l)/\W.cell? ⟨T,4,none⟩=some (.int .i64 t.c)/\W.cell? ⟨T,5,none⟩=some (.int .i64 t.f):=
 ⟨af h rfl,af h rfl,af h rfl,af h rfl,af h rfl,af h rfl⟩
structure NC (S:Nat->Prop) (g:Nat) (W:World) (T:Nat) (t:Tv) (V:World) (v:Value) (l:List Dc) (st:Sy):Prop where
 an:An S g W V v l st
 tb:Lf V T t
 tn:¬S T/\T<V.heap.size/\T≠g/\v.ownBlock≠some T
theorem An.below {S:Nat->Prop}(h:An S g W V v l st) (hb:Below V.heap.size V V'):An S g W V' v l st:=by
 obtain ⟨⟨S',a1,a2,a3⟩,a4,a5⟩:=h;exact ⟨⟨S',a1.below hb,a2,a3⟩,dm a4 hb,a5.step (Kp.of_below (S:=fun _=>False) hb) (fun _ _ h=>h.elim)⟩
theorem NC.below {S:Nat->Prop}(h:NC S g W T t V v l st) (hb:Below V.heap.size V V'):NC S g W T t V' v l st:=
 ⟨h.an.below hb,ag h.tb hb,h.tn.1,QN h.tn.2.1 hb.size,h.tn.2.2⟩
theorem NC.app {S:Nat->Prop}{V1 w':World}{v':Value}{l':List Dc}(h:NC S g W T t V v l st) (hb:Below V.heap.size V V1) (hr:Rd w' v' l') (hg:V1.grownBy w' v.ownBlock) (hn:Nb V1 v v'):NC S g W T t w' v' l' st:=by
 obtain ⟨⟨⟨S',a1,a2,a3⟩,a4,a5⟩,b1,b2,b3,b4,b5⟩:=h.below hb;have hk:Kp (fun k=>v.ownBlock=some k) V1 w':=(Kp.of_grown hg).sub (fun k e=>e.symm)
 have hv':∀k,v'.ownBlock=some k->(S k\/W.heap.size<=k)/\¬S' k/\k≠T:=fun k e=>by
  rcases hn with hn|⟨q,hq,hq2⟩
  ·rw [hn] at e;exact ⟨(a3 k e).1,(a3 k e).2,fun ek=>b5 (by rw [<-ek];exact e)⟩
  ·rw [hq] at e;cases e;refine ⟨.inr (QC a5.size hq2),fun hs=>?_,fun ek=>by omega⟩;have:=a1.lt k hs;omega
 refine ⟨⟨⟨S',a1.kp hk (fun k hs e=>(a3 k e).2 hs),a2,fun k e=>⟨(hv' k e).1,(hv' k e).2.1⟩⟩,hr,a5.step hk (fun k hlt e=>?_)⟩,hk.blk b1 (fun e=>b5 e),b2,QN b3 hk.size,b4,fun e=>(hv' T e).2.2 rfl⟩
 rcases (a3 k e).1 with h1|h1
 ·exact h1
 ·omega
theorem SS.gset {S:Nat->Prop}{W':World}(h:SS S W g st) (hk:Kp (fun k=>k=g) W W') (hb:∀vn vw,SB W g false vn vw st.mr.isSome (st.mr.getD 0:Nat) st.wr st.en st.pt->SB W' g false vn vw st'.mr.isSome (st'.mr.getD 0:Nat) st'.wr st'.en st'.pt) (hn:st'.ns=st.ns) (hw:st'.ws=st.ws):SS S W' g st':=by
 obtain ⟨vn,vw,hv,s1,s2⟩:=h.ex;refine ⟨⟨vn,vw,⟨hb _ _ hv.sb,?_,?_⟩,s1,s2⟩,h.sg,fun k hs=>QN (h.lt k hs) hk.size⟩
 ·rw [hn];exact hk.row hv.rn (fun k e1 e2=>aM hv.rn hv.sb (by decide) (by rw [e1,e2]))
 ·rw [hw];exact hk.row hv.rd (fun k e1 e2=>aM hv.rd hv.sb (by decide) (by rw [e1,e2]))
theorem NC.gset {S:Nat->Prop}(h:NC S g W T t V v l st) (hS:S g) (hk:Kp (fun k=>k=g) V V') (hb:∀vn vw,SB V g false vn vw st.mr.isSome (st.mr.getD 0:Nat) st.wr st.en st.pt->SB V' g false vn vw st'.mr.isSome (st'.mr.getD 0:Nat) st'.wr st'.en st'.pt) (hn:st'.ns=st.ns) (hw:st'.ws=st.ws):NC S g W T t V' v l st':=by
 obtain ⟨⟨⟨S',a1,a2,a3⟩,a4,a5⟩,b1,b2,b3,b4,b5⟩:=h;obtain ⟨vn,vw,hv,_⟩:=a1.ex;exact ⟨⟨⟨S',a1.gset hk hb hn hw,a2,a3⟩,yR a4 hk (fun k e1 e2=>aM a4 hv.sb (by decide) (by rw [e1,e2])),a5.step hk (fun k _ e=>by rw [e];exact hS)⟩,hk.blk b1 b4,b2,QN b3 hk.size,b4,b5⟩
theorem NC.cells {S:Nat->Prop}{g:Nat}{W V:World}{T:Nat}{t:Tv}{v:Value}{l:List Dc}{st:Sy}(h:NC S g W T t V v l st) :
  (V.cell? ⟨g,3,none⟩=some (.bool st.mr.isSome)/\V.cell? ⟨g,4,none⟩=some (.int .i64 (st.mr.getD 0:Nat))/\V.cell? ⟨g,5,none⟩=some (.bool st.wr)/\V.cell? ⟨g,6,none⟩=some (.bool st.en)/\V.cell? ⟨g,7,none⟩=some (.bool st.pt))/\(V.frozen? ⟨g,3,none⟩=false/\V.frozen? ⟨g,4,none⟩=false/\V.frozen? ⟨g,5,none⟩=false/\V.frozen? ⟨g,6,none⟩=false/\V.frozen? ⟨g,7,none⟩=false)/\g<V.heap.size:=by
 obtain ⟨⟨⟨S',a1,a2,a3⟩,a4,a5⟩,b1,b2,b3,b4,b5⟩:=h;obtain ⟨vn,vw,hv,_⟩:=a1.ex;obtain ⟨c0,c1,c2,c3,c4,c5,c6,c7⟩:=hv.sb.cells;exact ⟨⟨c3,c4,c5,c6,c7⟩,⟨hv.sb.frozen 3,hv.sb.frozen 4,hv.sb.frozen 5,hv.sb.frozen 6,hv.sb.frozen 7⟩,hv.sb.lt⟩
theorem gX (x:ByteArray) (w:World):(w.alloc (.cells #[.int .u8 2,.string ⟨#[]⟩,.int .i64 0,.int .i64 0,.bool false,.int .u8 1,.string x,.int .i64 0,.int .i64 0,.bool false] 39)).heap[w.heap.size]?=some (.cells (bW [dS,dT x]).toArray 39 (0,0)):=au w _
theorem sD (d:Dc) (w:World):(w.alloc (.cells #[.int .u8 d.k,.string d.t,.int .i64 d.b,.int .i64 d.i,.bool d.e] 39)).heap[w.heap.size]?=some (.cells (bW [d]).toArray 39 (0,0)):=au w _
set_option maxHeartbeats 2000000 in
theorem AS {S:Nat->Prop}(h:SS S W g st) (hl:st.ws.length<=900000000) (t:Tv) :
  Qu 154 #[bX g,.agg #[.int .u8 t.k,.string t.t,.int .i64 t.a,.int .i64 t.l,.int .i64 t.c,.int .i64 t.f]] W fun r w'=>∃v,r=.returned v/\An S g W w' v (st.note t).2 (st.note t).1:=by
 obtain ⟨V,hV⟩:∃V,W.alloc (.cells #[.int .u8 t.k,.string t.t,.int .i64 t.a,.int .i64 t.l,.int .i64 t.c,.int .i64 t.f] 53)=V:=⟨_,rfl⟩;have hB:Below W.heap.size W V:=by rw [<-hV];exact (hH _ _).alloc (gt _) _
 have hT:Lf V W.heap.size t:=by rw [<-hV];exact au _ _
 have hVs:V.heap.size=W.heap.size+1:=by rw [<-hV];show (W.heap.push _).size=_;simp
 have HV:Hid (W.alloc (.cells #[.int .u8 t.k,.string t.t,.int .i64 t.a,.int .i64 t.l,.int .i64 t.c,.int .i64 t.f] 53)=V):=hV;have hgl:=h.lt g h.sg
 have HTB:Hid (Qu 247 #[bX g] V fun r w'=>∃v,r=.returned v/\NC S g W W.heap.size t w' v (st.ws.takeWhile bf) { st with ws:=st.ws.dropWhile bf }):=by
  refine (oG (h.below hB) (by omega)).mono ?_;rintro r w' ⟨v,rfl,⟨S',a1,a2,a3⟩,a4,a5⟩;have hnS:¬S W.heap.size:=fun hs=>by have:=h.lt _ hs;omega
  refine ⟨v,rfl,⟨⟨S',a1,fun k hk=>(a2 k hk).imp id (fun e=>QC hB.size e),fun k e=>⟨(a3 k e).1.imp id (fun e=>QC hB.size e),(a3 k e).2⟩⟩,a4,(Kp.of_below hB).step a5 (fun _ _ h=>h)⟩,a5.blk hT hnS,hnS,?_,by omega,fun e=>?_⟩
  ·have:=a5.size;omega
  ·rcases (a3 _ e).1 with h1|h1
   ·exact hnS h1
   ·omega
 have hSg:=h.sg;have HTx:Hid (∀X,Qu 246 #[.agg #[.int .u8 t.k,.string t.t,.int .i64 t.a,.int .i64 t.l,.int .i64 t.c,.int .i64 t.f]] X fun e w'=>e=.returned (.agg #[.int .u8 1,.string t.t,.int .i64 0,.int .i64 0,.bool false])/\Below X.heap.size X w'):=oE t;obtain ⟨bg,hbg⟩:∃bg,st.ws.takeWhile bf=bg:=⟨_,rfl⟩;obtain ⟨rs,hrs⟩:∃rs,st.ws.dropWhile bf=rs:=⟨_,rfl⟩;have hbl:bg.length<=900000000:=by have:=(List.takeWhile_prefix (p:=bf) (l:=st.ws)).length_le;rw [hbg] at this;omega
 have HNo:Hid (st.note t=(if t.f=0/\st.wr=true then (⟨st.ns,rs,none,true,st.en || decide (t.k=7),st.pt || decide (t.k=8)⟩,bg++[dS,dT t.t]) else (⟨st.ns,rs,none,true,true,st.pt⟩,bg++dH :: ((if 2<=t.f/\st.wr=true/\bg=[] then [dE] else [])++[dT t.t])))):=by
  show _=_
  unfold Sy.note;simp only;rw [hbg,hrs]
 rw [hbg,hrs] at HTB;clear h hl hV hB hT hVs hbg hrs
 go_enter Tryz.func154,Tryz.ntmps154
 go_upto_region 1 with fail
 rw [HV.out]
 go_upto_region 3 with (go_at_call 247;refine HTB.out.mono ?_;rintro r1 w1 ⟨v1,rfl,hN1⟩;obtain ⟨p1,c1,ev,_⟩:=bD hN1.an.2.1;subst ev;have HN1:=show Hid (NC S g W W.heap.size t w1 (.slice p1 bg.length c1) bg { st with ws:=rs }) from hN1;clear hN1)
 obtain ⟨⟨c3,c4,c5,c6,c7⟩,⟨f3,f4,f5,f6,f7⟩,hg1⟩:=HN1.out.cells
 go_upto_region 4 with fail
 have hN2:NC S g W W.heap.size t ((w1.setCell ⟨g,3,none⟩ (.bool false)).setCell ⟨g,4,none⟩ (.int .i64 0)) (.slice p1 bg.length c1) bg { st with ws:=rs,mr:=none }:=HN1.out.gset hSg ((Kp.set _ _ _ _).trans (Kp.set _ _ _ _)) (fun vn vw hb=>aj (aj hb 3 _) 4 _) rfl rfl;obtain ⟨w2,hw2⟩:∃w2,(w1.setCell ⟨g,3,none⟩ (.bool false)).setCell ⟨g,4,none⟩ (.int .i64 0)=w2:=⟨_,rfl⟩;rw [hw2] at hN2 ⊢;clear c3 c4 c5 c6 c7 f3 f4 f5 f6 f7 hw2 hg1 HN1;obtain ⟨⟨c3,c4,c5,c6,c7⟩,⟨f3,f4,f5,f6,f7⟩,hg1⟩:=hN2.cells;obtain ⟨t0,t1,t2,t3,t4,t5⟩:=hN2.tb.cells;have HN2:=show Hid (NC S g W W.heap.size t w2 (.slice p1 bg.length c1) bg { st with ws:=rs,mr:=none }) from hN2
 have hgT:g≠W.heap.size:=by omega
 have hTl:=hN2.tn.2.1;clear hN2
 by_cases hbe:t.f=0/\st.wr=true
 ·obtain ⟨hf0,hw⟩:=hbe;have HNo2:=show Hid (st.note t=(⟨st.ns,rs,none,true,st.en || decide (t.k=7),st.pt || decide (t.k=8)⟩,bg++[dS,dT t.t])) from (by rw [HNo.out,IO ⟨hf0,hw⟩];exact rfl)
  have q1:(t.f == 0)=true:=by simpa using hf0
  have c5':w2.cell? ⟨g,5,none⟩=some (.bool true):=by rw [c5];show some (Value.bool st.wr)=_;rw [hw]
  clear HNo c5;cases hen:st.en with
  |false=>
   simp only [hen] at c6;cases hpt:st.pt with
   |false=>
    simp only [hpt] at c7
    have hN3:NC S g W W.heap.size t ((w2.setCell ⟨g,6,none⟩ (.bool (t.k == 7))).setCell ⟨g,7,none⟩ (.bool (t.k == 8))) (.slice p1 bg.length c1) bg (st.note t).1:=by
     refine HN2.out.gset hSg ((Kp.set _ _ _ _).trans (Kp.set _ _ _ _)) (fun vn vw hb=>?_) (by rw [HNo2.out]) (by rw [HNo2.out]);have:=aj (aj hb 6 (.bool (t.k == 7))) 7 (.bool (t.k == 8));rw [HNo2.out];have e1:(st.en || decide (t.k=7))=(t.k == 7):=by rw [hen];by_cases q:t.k=7 <;> simp [q]
     have e2:(st.pt || decide (t.k=8))=(t.k == 8):=by rw [hpt];by_cases q:t.k=8 <;> simp [q]
     simp only [e1,e2];rw [show ({ st with ws:=rs,mr:=none }:Sy).wr=true from hw] at this;exact this
    have HHid:=show Hid (t.f=0/\st.wr=true) from ⟨hf0,hw⟩
    clear hf0 hw hen hpt
    go_upto_region 7 with fail
    obtain ⟨w3,hw3⟩:∃w3,(w2.setCell ⟨g,6,none⟩ (.bool (t.k == 7))).setCell ⟨g,7,none⟩ (.bool (t.k == 8))=w3:=⟨_,rfl⟩;rw [hw3] at hN3 ⊢;clear hw3 t0 t1 t2 t3 t4 t5 c3 c4 c6 c7 c5' f3 f4 f5 f6 f7 hg1 hTl;obtain ⟨t0,t1,t2,t3,t4,t5⟩:=hN3.tb.cells
    have HFin:=show Hid (∀X,Below w3.heap.size w3 X->Rd (X.alloc (.cells #[.int .u8 2,.string ⟨#[]⟩,.int .i64 0,.int .i64 0,.bool false,.int .u8 1,.string t.t,.int .i64 0,.int .i64 0,.bool false] 39)) (.slice p1 bg.length c1) bg/\∀v' w',Rd w' v' (bg++[dS,dT t.t])->(X.alloc (.cells #[.int .u8 2,.string ⟨#[]⟩,.int .i64 0,.int .i64 0,.bool false,.int .u8 1,.string t.t,.int .i64 0,.int .i64 0,.bool false] 39)).grownBy w' (Value.slice p1 bg.length c1).ownBlock->Nb (X.alloc (.cells #[.int .u8 2,.string ⟨#[]⟩,.int .i64 0,.int .i64 0,.bool false,.int .u8 1,.string t.t,.int .i64 0,.int .i64 0,.bool false] 39)) (.slice p1 bg.length c1) v'->An S g W w' v' (st.note t).2 (st.note t).1) from (fun X hX=>by
     have hX2:Below w3.heap.size w3 (X.alloc (.cells #[.int .u8 2,.string ⟨#[]⟩,.int .i64 0,.int .i64 0,.bool false,.int .u8 1,.string t.t,.int .i64 0,.int .i64 0,.bool false] 39)):=hX.alloc hX.size _;refine ⟨dm hN3.an.2.1 hX2,fun v' w' a1 a2 a3=>?_⟩;have:=(hN3.app hX2 a1 a2 a3).an;rw [show (st.note t).2=bg++[dS,dT t.t] by rw [HNo2.out]];exact this)
    clear hN3 HN2
    go_wp2_with (first|(go_at_call 246;refine (HTx.out _).mono ?_;rintro r4 w4 ⟨rfl,hb4⟩;obtain ⟨x1,x2⟩:=HFin.out _ hb4;have HX1:=show Hid (Rd (w4.alloc (.cells #[.int .u8 2,.string ⟨#[]⟩,.int .i64 0,.int .i64 0,.bool false,.int .u8 1,.string t.t,.int .i64 0,.int .i64 0,.bool false] 39)) (.slice p1 bg.length c1) bg) from x1;have HX2:=show Hid (∀v' w',Rd w' v' (bg++[dS,dT t.t])->(w4.alloc (.cells #[.int .u8 2,.string ⟨#[]⟩,.int .i64 0,.int .i64 0,.bool false,.int .u8 1,.string t.t,.int .i64 0,.int .i64 0,.bool false] 39)).grownBy w' (Value.slice p1 bg.length c1).ownBlock->Nb (w4.alloc (.cells #[.int .u8 2,.string ⟨#[]⟩,.int .i64 0,.int .i64 0,.bool false,.int .u8 1,.string t.t,.int .i64 0,.int .i64 0,.bool false] 39)) (.slice p1 bg.length c1) v'->An S g W w' v' (st.note t).2 (st.note t).1) from x2;clear hb4 x1 x2)|(at_builtin;refine k9 rfl _ _ rfl (.slice p1 bg.length c1) bg [dS,dT t.t] rfl HX1.out w4.heap.size 2 rfl (gX t.t w4) (by simp;omega) ?_;intro v' w' a1 a2 a3;have HX:=show Hid _ from HX2.out v' w' a1 a2 a3;clear a1 a2 a3))
    go_ret
    exact ⟨_,rfl,HX.out⟩
   |true=>
    simp only [hpt] at c7
    have hN3:NC S g W W.heap.size t ((w2.setCell ⟨g,6,none⟩ (.bool (t.k == 7))).setCell ⟨g,7,none⟩ (.bool true)) (.slice p1 bg.length c1) bg (st.note t).1:=by
     refine HN2.out.gset hSg ((Kp.set _ _ _ _).trans (Kp.set _ _ _ _)) (fun vn vw hb=>?_) (by rw [HNo2.out]) (by rw [HNo2.out]);have:=aj (aj hb 6 (.bool (t.k == 7))) 7 (.bool true);rw [HNo2.out];have e1:(st.en || decide (t.k=7))=(t.k == 7):=by rw [hen];by_cases q:t.k=7 <;> simp [q]
     have e2:(st.pt || decide (t.k=8))=true:=by rw [hpt];rfl
     simp only [e1,e2];rw [show ({ st with ws:=rs,mr:=none }:Sy).wr=true from hw] at this;exact this
    have HHid:=show Hid (t.f=0/\st.wr=true) from ⟨hf0,hw⟩
    clear hf0 hw hen hpt
    go_upto_region 7 with fail
    obtain ⟨w3,hw3⟩:∃w3,(w2.setCell ⟨g,6,none⟩ (.bool (t.k == 7))).setCell ⟨g,7,none⟩ (.bool true)=w3:=⟨_,rfl⟩;rw [hw3] at hN3 ⊢;clear hw3 t0 t1 t2 t3 t4 t5 c3 c4 c6 c7 c5' f3 f4 f5 f6 f7 hg1 hTl;obtain ⟨t0,t1,t2,t3,t4,t5⟩:=hN3.tb.cells
    have HFin:=show Hid (∀X,Below w3.heap.size w3 X->Rd (X.alloc (.cells #[.int .u8 2,.string ⟨#[]⟩,.int .i64 0,.int .i64 0,.bool false,.int .u8 1,.string t.t,.int .i64 0,.int .i64 0,.bool false] 39)) (.slice p1 bg.length c1) bg/\∀v' w',Rd w' v' (bg++[dS,dT t.t])->(X.alloc (.cells #[.int .u8 2,.string ⟨#[]⟩,.int .i64 0,.int .i64 0,.bool false,.int .u8 1,.string t.t,.int .i64 0,.int .i64 0,.bool false] 39)).grownBy w' (Value.slice p1 bg.length c1).ownBlock->Nb (X.alloc (.cells #[.int .u8 2,.string ⟨#[]⟩,.int .i64 0,.int .i64 0,.bool false,.int .u8 1,.string t.t,.int .i64 0,.int .i64 0,.bool false] 39)) (.slice p1 bg.length c1) v'->An S g W w' v' (st.note t).2 (st.note t).1) from (fun X hX=>by
     have hX2:Below w3.heap.size w3 (X.alloc (.cells #[.int .u8 2,.string ⟨#[]⟩,.int .i64 0,.int .i64 0,.bool false,.int .u8 1,.string t.t,.int .i64 0,.int .i64 0,.bool false] 39)):=hX.alloc hX.size _;refine ⟨dm hN3.an.2.1 hX2,fun v' w' a1 a2 a3=>?_⟩;have:=(hN3.app hX2 a1 a2 a3).an;rw [show (st.note t).2=bg++[dS,dT t.t] by rw [HNo2.out]];exact this)
    clear hN3 HN2
    go_wp2_with (first|(go_at_call 246;refine (HTx.out _).mono ?_;rintro r4 w4 ⟨rfl,hb4⟩;obtain ⟨x1,x2⟩:=HFin.out _ hb4;have HX1:=show Hid (Rd (w4.alloc (.cells #[.int .u8 2,.string ⟨#[]⟩,.int .i64 0,.int .i64 0,.bool false,.int .u8 1,.string t.t,.int .i64 0,.int .i64 0,.bool false] 39)) (.slice p1 bg.length c1) bg) from x1;have HX2:=show Hid (∀v' w',Rd w' v' (bg++[dS,dT t.t])->(w4.alloc (.cells #[.int .u8 2,.string ⟨#[]⟩,.int .i64 0,.int .i64 0,.bool false,.int .u8 1,.string t.t,.int .i64 0,.int .i64 0,.bool false] 39)).grownBy w' (Value.slice p1 bg.length c1).ownBlock->Nb (w4.alloc (.cells #[.int .u8 2,.string ⟨#[]⟩,.int .i64 0,.int .i64 0,.bool false,.int .u8 1,.string t.t,.int .i64 0,.int .i64 0,.bool false] 39)) (.slice p1 bg.length c1) v'->An S g W w' v' (st.note t).2 (st.note t).1) from x2;clear hb4 x1 x2)|(at_builtin;refine k9 rfl _ _ rfl (.slice p1 bg.length c1) bg [dS,dT t.t] rfl HX1.out w4.heap.size 2 rfl (gX t.t w4) (by simp;omega) ?_;intro v' w' a1 a2 a3;have HX:=show Hid _ from HX2.out v' w' a1 a2 a3;clear a1 a2 a3))
    go_ret
    exact ⟨_,rfl,HX.out⟩
  |true=>
   simp only [hen] at c6;cases hpt:st.pt with
   |false=>
    simp only [hpt] at c7
    have hN3:NC S g W W.heap.size t ((w2.setCell ⟨g,6,none⟩ (.bool true)).setCell ⟨g,7,none⟩ (.bool (t.k == 8))) (.slice p1 bg.length c1) bg (st.note t).1:=by
     refine HN2.out.gset hSg ((Kp.set _ _ _ _).trans (Kp.set _ _ _ _)) (fun vn vw hb=>?_) (by rw [HNo2.out]) (by rw [HNo2.out]);have:=aj (aj hb 6 (.bool true)) 7 (.bool (t.k == 8));rw [HNo2.out];have e1:(st.en || decide (t.k=7))=true:=by rw [hen];rfl
     have e2:(st.pt || decide (t.k=8))=(t.k == 8):=by rw [hpt];by_cases q:t.k=8 <;> simp [q]
     simp only [e1,e2];rw [show ({ st with ws:=rs,mr:=none }:Sy).wr=true from hw] at this;exact this
    have HHid:=show Hid (t.f=0/\st.wr=true) from ⟨hf0,hw⟩
    clear hf0 hw hen hpt
    go_upto_region 7 with fail
    obtain ⟨w3,hw3⟩:∃w3,(w2.setCell ⟨g,6,none⟩ (.bool true)).setCell ⟨g,7,none⟩ (.bool (t.k == 8))=w3:=⟨_,rfl⟩;rw [hw3] at hN3 ⊢;clear hw3 t0 t1 t2 t3 t4 t5 c3 c4 c6 c7 c5' f3 f4 f5 f6 f7 hg1 hTl;obtain ⟨t0,t1,t2,t3,t4,t5⟩:=hN3.tb.cells
    have HFin:=show Hid (∀X,Below w3.heap.size w3 X->Rd (X.alloc (.cells #[.int .u8 2,.string ⟨#[]⟩,.int .i64 0,.int .i64 0,.bool false,.int .u8 1,.string t.t,.int .i64 0,.int .i64 0,.bool false] 39)) (.slice p1 bg.length c1) bg/\∀v' w',Rd w' v' (bg++[dS,dT t.t])->(X.alloc (.cells #[.int .u8 2,.string ⟨#[]⟩,.int .i64 0,.int .i64 0,.bool false,.int .u8 1,.string t.t,.int .i64 0,.int .i64 0,.bool false] 39)).grownBy w' (Value.slice p1 bg.length c1).ownBlock->Nb (X.alloc (.cells #[.int .u8 2,.string ⟨#[]⟩,.int .i64 0,.int .i64 0,.bool false,.int .u8 1,.string t.t,.int .i64 0,.int .i64 0,.bool false] 39)) (.slice p1 bg.length c1) v'->An S g W w' v' (st.note t).2 (st.note t).1) from (fun X hX=>by
     have hX2:Below w3.heap.size w3 (X.alloc (.cells #[.int .u8 2,.string ⟨#[]⟩,.int .i64 0,.int .i64 0,.bool false,.int .u8 1,.string t.t,.int .i64 0,.int .i64 0,.bool false] 39)):=hX.alloc hX.size _;refine ⟨dm hN3.an.2.1 hX2,fun v' w' a1 a2 a3=>?_⟩;have:=(hN3.app hX2 a1 a2 a3).an;rw [show (st.note t).2=bg++[dS,dT t.t] by rw [HNo2.out]];exact this)
    clear hN3 HN2
    go_wp2_with (first|(go_at_call 246;refine (HTx.out _).mono ?_;rintro r4 w4 ⟨rfl,hb4⟩;obtain ⟨x1,x2⟩:=HFin.out _ hb4;have HX1:=show Hid (Rd (w4.alloc (.cells #[.int .u8 2,.string ⟨#[]⟩,.int .i64 0,.int .i64 0,.bool false,.int .u8 1,.string t.t,.int .i64 0,.int .i64 0,.bool false] 39)) (.slice p1 bg.length c1) bg) from x1;have HX2:=show Hid (∀v' w',Rd w' v' (bg++[dS,dT t.t])->(w4.alloc (.cells #[.int .u8 2,.string ⟨#[]⟩,.int .i64 0,.int .i64 0,.bool false,.int .u8 1,.string t.t,.int .i64 0,.int .i64 0,.bool false] 39)).grownBy w' (Value.slice p1 bg.length c1).ownBlock->Nb (w4.alloc (.cells #[.int .u8 2,.string ⟨#[]⟩,.int .i64 0,.int .i64 0,.bool false,.int .u8 1,.string t.t,.int .i64 0,.int .i64 0,.bool false] 39)) (.slice p1 bg.length c1) v'->An S g W w' v' (st.note t).2 (st.note t).1) from x2;clear hb4 x1 x2)|(at_builtin;refine k9 rfl _ _ rfl (.slice p1 bg.length c1) bg [dS,dT t.t] rfl HX1.out w4.heap.size 2 rfl (gX t.t w4) (by simp;omega) ?_;intro v' w' a1 a2 a3;have HX:=show Hid _ from HX2.out v' w' a1 a2 a3;clear a1 a2 a3))
    go_ret
    exact ⟨_,rfl,HX.out⟩
   |true=>
    simp only [hpt] at c7
    have hN3:NC S g W W.heap.size t ((w2.setCell ⟨g,6,none⟩ (.bool true)).setCell ⟨g,7,none⟩ (.bool true)) (.slice p1 bg.length c1) bg (st.note t).1:=by
     refine HN2.out.gset hSg ((Kp.set _ _ _ _).trans (Kp.set _ _ _ _)) (fun vn vw hb=>?_) (by rw [HNo2.out]) (by rw [HNo2.out]);have:=aj (aj hb 6 (.bool true)) 7 (.bool true);rw [HNo2.out];have e1:(st.en || decide (t.k=7))=true:=by rw [hen];rfl
     have e2:(st.pt || decide (t.k=8))=true:=by rw [hpt];rfl
     simp only [e1,e2];rw [show ({ st with ws:=rs,mr:=none }:Sy).wr=true from hw] at this;exact this
    have HHid:=show Hid (t.f=0/\st.wr=true) from ⟨hf0,hw⟩
    clear hf0 hw hen hpt
    go_upto_region 7 with fail
    obtain ⟨w3,hw3⟩:∃w3,(w2.setCell ⟨g,6,none⟩ (.bool true)).setCell ⟨g,7,none⟩ (.bool true)=w3:=⟨_,rfl⟩;rw [hw3] at hN3 ⊢;clear hw3 t0 t1 t2 t3 t4 t5 c3 c4 c6 c7 c5' f3 f4 f5 f6 f7 hg1 hTl;obtain ⟨t0,t1,t2,t3,t4,t5⟩:=hN3.tb.cells
    have HFin:=show Hid (∀X,Below w3.heap.size w3 X->Rd (X.alloc (.cells #[.int .u8 2,.string ⟨#[]⟩,.int .i64 0,.int .i64 0,.bool false,.int .u8 1,.string t.t,.int .i64 0,.int .i64 0,.bool false] 39)) (.slice p1 bg.length c1) bg/\∀v' w',Rd w' v' (bg++[dS,dT t.t])->(X.alloc (.cells #[.int .u8 2,.string ⟨#[]⟩,.int .i64 0,.int .i64 0,.bool false,.int .u8 1,.string t.t,.int .i64 0,.int .i64 0,.bool false] 39)).grownBy w' (Value.slice p1 bg.length c1).ownBlock->Nb (X.alloc (.cells #[.int .u8 2,.string ⟨#[]⟩,.int .i64 0,.int .i64 0,.bool false,.int .u8 1,.string t.t,.int .i64 0,.int .i64 0,.bool false] 39)) (.slice p1 bg.length c1) v'->An S g W w' v' (st.note t).2 (st.note t).1) from (fun X hX=>by
     have hX2:Below w3.heap.size w3 (X.alloc (.cells #[.int .u8 2,.string ⟨#[]⟩,.int .i64 0,.int .i64 0,.bool false,.int .u8 1,.string t.t,.int .i64 0,.int .i64 0,.bool false] 39)):=hX.alloc hX.size _;refine ⟨dm hN3.an.2.1 hX2,fun v' w' a1 a2 a3=>?_⟩;have:=(hN3.app hX2 a1 a2 a3).an;rw [show (st.note t).2=bg++[dS,dT t.t] by rw [HNo2.out]];exact this)
    clear hN3 HN2
    go_wp2_with (first|(go_at_call 246;refine (HTx.out _).mono ?_;rintro r4 w4 ⟨rfl,hb4⟩;obtain ⟨x1,x2⟩:=HFin.out _ hb4;have HX1:=show Hid (Rd (w4.alloc (.cells #[.int .u8 2,.string ⟨#[]⟩,.int .i64 0,.int .i64 0,.bool false,.int .u8 1,.string t.t,.int .i64 0,.int .i64 0,.bool false] 39)) (.slice p1 bg.length c1) bg) from x1;have HX2:=show Hid (∀v' w',Rd w' v' (bg++[dS,dT t.t])->(w4.alloc (.cells #[.int .u8 2,.string ⟨#[]⟩,.int .i64 0,.int .i64 0,.bool false,.int .u8 1,.string t.t,.int .i64 0,.int .i64 0,.bool false] 39)).grownBy w' (Value.slice p1 bg.length c1).ownBlock->Nb (w4.alloc (.cells #[.int .u8 2,.string ⟨#[]⟩,.int .i64 0,.int .i64 0,.bool false,.int .u8 1,.string t.t,.int .i64 0,.int .i64 0,.bool false] 39)) (.slice p1 bg.length c1) v'->An S g W w' v' (st.note t).2 (st.note t).1) from x2;clear hb4 x1 x2)|(at_builtin;refine k9 rfl _ _ rfl (.slice p1 bg.length c1) bg [dS,dT t.t] rfl HX1.out w4.heap.size 2 rfl (gX t.t w4) (by simp;omega) ?_;intro v' w' a1 a2 a3;have HX:=show Hid _ from HX2.out v' w' a1 a2 a3;clear a1 a2 a3))
    go_ret
    exact ⟨_,rfl,HX.out⟩
 ·have HNo2:=show Hid (st.note t=(⟨st.ns,rs,none,true,true,st.pt⟩,bg++dH :: ((if 2<=t.f/\st.wr=true/\bg=[] then [dE] else [])++[dT t.t]))) from (by rw [HNo.out,Eq hbe];exact rfl)
  have c5':w2.cell? ⟨g,5,none⟩=some (.bool st.wr):=c5;have HBe:=show Hid (¬(t.f=0/\st.wr=true)) from hbe
  clear HNo c5 hbe
  go_cut [26] from 18 to 26 (fun t9 wx=>t9=.bool false/\wx=w2)
  case first=>
   by_cases hf0:t.f=0
   ·have hw:st.wr=false:=by cases hq:st.wr with|false=>rfl|true=>exact absurd ⟨hf0,hq⟩ HBe.out
    have q1:(t.f == 0)=true:=by simpa using hf0
    rw [hw] at c5';clear hf0 hw HBe
    go_wp2_with fail
    go_meet
    exact ⟨rfl,rfl⟩
   ·have q1:(t.f == 0)=false:=by simpa using hf0
    clear hf0 HBe
    go_wp2_with fail
    go_meet
    exact ⟨rfl,rfl⟩
  case rest=>
  obtain ⟨rfl,hwc⟩:=hcut;replace hwc:=hwc.symm;subst hwc
  have HA1:=show Hid (Rd (w2.alloc (.cells #[.int .u8 4,.string ⟨#[]⟩,.int .i64 0,.int .i64 0,.bool false] 39)) (.slice p1 bg.length c1) bg/\∀v' w',Rd w' v' (bg++[dH])->(w2.alloc (.cells #[.int .u8 4,.string ⟨#[]⟩,.int .i64 0,.int .i64 0,.bool false] 39)).grownBy w' (Value.slice p1 bg.length c1).ownBlock->Nb (w2.alloc (.cells #[.int .u8 4,.string ⟨#[]⟩,.int .i64 0,.int .i64 0,.bool false] 39)) (.slice p1 bg.length c1) v'->NC S g W W.heap.size t w' v' (bg++[dH]) { st with ws:=rs,mr:=none }) from (by
   have hX2:Below w2.heap.size w2 (w2.alloc (.cells #[.int .u8 4,.string ⟨#[]⟩,.int .i64 0,.int .i64 0,.bool false] 39)):=(hH _ _).alloc (gt _) _;exact ⟨dm HN2.out.an.2.1 hX2,fun v' w' a1 a2 a3=>HN2.out.app hX2 a1 a2 a3⟩)
  clear t0 t1 t2 t3 t4 t5 c3 c4 c6 c7 c5' f3 f4 f5 f6 f7 hg1 hTl HN2
  go_upto_region 9 with (at_builtin;refine k9 rfl _ _ rfl (.slice p1 bg.length c1) bg [dH] rfl HA1.out.1 w2.heap.size 1 rfl (sD dH w2) (by simp;omega) ?_;intro v' w3 a1 a2 a3;have hN3:=HA1.out.2 v' w3 a1 a2 a3;obtain ⟨p3,c3,ev,_⟩:=bD a1;subst ev;have HN3:=show Hid (NC S g W W.heap.size t w3 (.slice p3 (bg++[dH]).length c3) (bg++[dH]) { st with ws:=rs,mr:=none }) from hN3;clear a1 a2 a3 hN3)
  clear HA1;obtain ⟨⟨c3',c4,c5,c6,c7⟩,⟨f3,f4,f5,f6,f7⟩,hg1⟩:=HN3.out.cells;obtain ⟨t0,t1,t2,t3,t4,t5⟩:=HN3.out.tb.cells;have c5':w3.cell? ⟨g,5,none⟩=some (.bool st.wr):=c5;clear c5 c3' c4;obtain ⟨b9,hb9⟩:∃b9:Bool,decide (2<=t.f/\st.wr=true/\bg=[])=b9:=⟨_,rfl⟩;have HX9:=show Hid (decide (2<=t.f/\st.wr=true/\bg=[])=b9) from hb9
  clear hb9
  go_cut [73] from 61 to 73 (fun t9 wx=>t9=.bool b9/\wx=w3)
  case first=>
   by_cases hf2:2<=t.f
   ·cases hw:st.wr with
    |false=>
     have HY:Hid (false=b9):=by rw [<-HX9.out,QH (fun h=>by rw [hw] at h;cases h.2.1)];exact rfl
     have q1:(t.f<2)=False:=by simp;omega
     have q2:decide (2<=t.f)=true:=QF hf2;rw [hw] at c5';clear HX9 hw
     go_wp2_with fail
     go_meet
     exact ⟨by rw [HY.out],rfl⟩
    |true=>
     have q2:decide (2<=t.f)=true:=QF hf2;rw [hw] at c5';cases hbg:bg with
     |nil=>
      have HY:Hid (true=b9):=by rw [<-HX9.out,QF ⟨hf2,hw,hbg⟩];exact rfl
      clear HX9 hw;subst hbg
      go_wp2_with fail
      go_meet
      exact ⟨by rw [HY.out],rfl⟩
     |cons x y=>
      have HY:Hid (false=b9):=by rw [<-HX9.out,QH (fun h=>by rw [hbg] at h;cases h.2.2)];exact rfl
      clear HX9 hw;subst hbg;have q3:decide ((0:Int)<((x :: y).length:Int))=true:=by simp
      have q4:(0:Int)<(y.length:Int)+1:=by omega
      go_wp2_with fail
      go_meet
      exact ⟨by rw [HY.out],rfl⟩
   ·have HY:Hid (false=b9):=by rw [<-HX9.out,QH (fun h=>hf2 h.1)];exact rfl
    have q2:decide (2<=t.f)=false:=QH hf2;clear HX9
    go_wp2_with fail
    go_meet
    exact ⟨by rw [HY.out],rfl⟩
  case rest=>
  obtain ⟨rfl,hwc⟩:=hcut;replace hwc:=hwc.symm;subst hwc;obtain ⟨em,hem⟩:∃em,(if 2<=t.f/\st.wr=true/\bg=[] then [dE] else [])=em:=⟨_,rfl⟩
  have HEm:=show Hid ((b9=true->em=[dE])/\(b9=false->em=[])/\em.length<=1) from (by
   refine ⟨fun hb=>?_,fun hb=>?_,?_⟩
   ·rw [<-hem,IO (QS (HX9.out.trans hb))]
   ·rw [<-hem,Eq (TJ (HX9.out.trans hb))]
   ·rw [<-hem];split <;> simp)
  rw [hem] at HNo2;clear hem HX9 t0 t1 t2 t3 t4 t5 c6 c7 c5' f3 f4 f5 f6 f7 hg1
  go_upto_if 73 with fail
  go_cut [5] from 74 to 77 (fun t9 wx=>∃p n c,t9=.slice p n c/\Hid (NC S g W W.heap.size t wx (.slice p n c) (bg++dH :: em) { st with ws:=rs,mr:=none }))
  case first=>
   cases b9 with
   |true=>
    obtain rfl:em=[dE]:=HEm.out.1 rfl
    have HA1:=show Hid (Rd (w3.alloc (.cells #[.int .u8 5,.string ⟨#[]⟩,.int .i64 0,.int .i64 0,.bool false] 39)) (.slice p3 (bg++[dH]).length c3) (bg++[dH])/\∀v' w',Rd w' v' ((bg++[dH])++[dE])->(w3.alloc (.cells #[.int .u8 5,.string ⟨#[]⟩,.int .i64 0,.int .i64 0,.bool false] 39)).grownBy w' (Value.slice p3 (bg++[dH]).length c3).ownBlock->Nb (w3.alloc (.cells #[.int .u8 5,.string ⟨#[]⟩,.int .i64 0,.int .i64 0,.bool false] 39)) (.slice p3 (bg++[dH]).length c3) v'->NC S g W W.heap.size t w' v' ((bg++[dH])++[dE]) { st with ws:=rs,mr:=none }) from (by
     have hX2:Below w3.heap.size w3 (w3.alloc (.cells #[.int .u8 5,.string ⟨#[]⟩,.int .i64 0,.int .i64 0,.bool false] 39)):=(hH _ _).alloc (gt _) _;exact ⟨dm HN3.out.an.2.1 hX2,fun v' w' a1 a2 a3=>HN3.out.app hX2 a1 a2 a3⟩)
    have hle:(bg++[dH]).length<=900000001:=by simp;omega
    clear HN3 HEm
    go_wp2_with (at_builtin;refine k9 rfl _ _ rfl (.slice p3 (bg++[dH]).length c3) (bg++[dH]) [dE] (by simp [Act.eval,Act.put]) HA1.out.1 w3.heap.size 1 rfl (sD dE w3) (by simp at hle ⊢;omega) ?_;intro v' w4 a1 a2 a3;have hN4:=HA1.out.2 v' w4 a1 a2 a3;obtain ⟨p4,c4,ev,_⟩:=bD a1;subst ev;have HN4:=show Hid (NC S g W W.heap.size t w4 (.slice p4 ((bg++[dH])++[dE]).length c4) ((bg++[dH])++[dE]) { st with ws:=rs,mr:=none }) from hN4;clear a1 a2 a3 hN4)
    go_meet
    refine ⟨_,_,_,rfl,?_⟩;have:=HN4.out;rw [show ((bg++[dH])++[dE]).length=bg.length+1+1 by simp,Qz] at this;exact this
   |false=>
    obtain rfl:em=[]:=HEm.out.2.1 rfl;have HN4:=show Hid (NC S g W W.heap.size t w3 (.slice p3 (bg++[dH]).length c3) (bg++[dH]) { st with ws:=rs,mr:=none }) from HN3.out
    clear HN3 HEm
    go_wp2_with fail
    go_meet
    refine ⟨_,_,_,rfl,?_⟩;have:=HN4.out;rw [show (bg++[dH]).length=bg.length+1 by simp] at this;exact this
  case rest=>
  obtain ⟨p5,n5,c5,rfl,hN5⟩:=hcut;obtain ⟨w5,hw5⟩:∃w5,w5=wc:=⟨wc,rfl⟩;subst hw5;have HN5:=show Hid (NC S g W W.heap.size t w5 (.slice p5 n5 c5) (bg++dH :: em) { st with ws:=rs,mr:=none }) from hN5.out
  obtain ⟨⟨c3',c4,c5',c6,c7⟩,⟨f3,f4,f5,f6,f7⟩,hg1⟩:=HN5.out.cells;have hel:=HEm.out.2.2
  have hN6:NC S g W W.heap.size t ((w5.setCell ⟨g,5,none⟩ (.bool true)).setCell ⟨g,6,none⟩ (.bool true)) (.slice p5 n5 c5) (bg++dH :: em) (st.note t).1:=by
   refine HN5.out.gset hSg ((Kp.set _ _ _ _).trans (Kp.set _ _ _ _)) (fun vn vw hb=>?_) (by rw [HNo2.out]) (by rw [HNo2.out]);rw [HNo2.out];exact aj (aj hb 5 (.bool true)) 6 (.bool true)
  clear hN5 HN3 HEm
  go_upto_region 12 with fail
  obtain ⟨w6,hw6⟩:∃w6,(w5.setCell ⟨g,5,none⟩ (.bool true)).setCell ⟨g,6,none⟩ (.bool true)=w6:=⟨_,rfl⟩;rw [hw6] at hN6 ⊢;clear hw6 c3' c4 c5' c6 c7 f3 f4 f5 f6 f7 hg1 HN5;obtain ⟨t0,t1,t2,t3,t4,t5⟩:=hN6.tb.cells;obtain ⟨p7,c7,ev7,_⟩:=bD hN6.an.2.1;cases ev7
  have HFin:=show Hid (∀X,Below w6.heap.size w6 X->Rd (X.alloc (.cells #[.int .u8 1,.string t.t,.int .i64 0,.int .i64 0,.bool false] 39)) (.slice p5 (bg++dH :: em).length c5) (bg++dH :: em)/\∀v' w',Rd w' v' ((bg++dH :: em)++[dT t.t])->(X.alloc (.cells #[.int .u8 1,.string t.t,.int .i64 0,.int .i64 0,.bool false] 39)).grownBy w' (Value.slice p5 (bg++dH :: em).length c5).ownBlock->Nb (X.alloc (.cells #[.int .u8 1,.string t.t,.int .i64 0,.int .i64 0,.bool false] 39)) (.slice p5 (bg++dH :: em).length c5) v'->An S g W w' v' (st.note t).2 (st.note t).1) from (fun X hX=>by
   have hX2:Below w6.heap.size w6 (X.alloc (.cells #[.int .u8 1,.string t.t,.int .i64 0,.int .i64 0,.bool false] 39)):=hX.alloc hX.size _;refine ⟨dm hN6.an.2.1 hX2,fun v' w' a1 a2 a3=>?_⟩;have:=(hN6.app hX2 a1 a2 a3).an;rw [show (st.note t).2=(bg++dH :: em)++[dT t.t] by rw [HNo2.out];simp];exact this)
  have hlen:(bg++dH :: em).length<=900000002:=by simp;omega
  obtain ⟨L,hL⟩:∃L,bg++dH :: em=L:=⟨_,rfl⟩;rw [hL] at HFin hlen ⊢;clear hN6 HNo2 hL
  go_wp2_with (first|(go_at_call 246;refine (HTx.out _).mono ?_;rintro r8 w8 ⟨rfl,hb8⟩;obtain ⟨x1,x2⟩:=HFin.out _ hb8;have HX1:=show Hid (Rd (w8.alloc (.cells #[.int .u8 1,.string t.t,.int .i64 0,.int .i64 0,.bool false] 39)) (.slice p5 L.length c5) L) from x1;have HX2:=show Hid (∀v' w',Rd w' v' (L++[dT t.t])->(w8.alloc (.cells #[.int .u8 1,.string t.t,.int .i64 0,.int .i64 0,.bool false] 39)).grownBy w' (Value.slice p5 L.length c5).ownBlock->Nb (w8.alloc (.cells #[.int .u8 1,.string t.t,.int .i64 0,.int .i64 0,.bool false] 39)) (.slice p5 L.length c5) v'->An S g W w' v' (st.note t).2 (st.note t).1) from x2;clear hb8 x1 x2)|(at_builtin;refine k9 rfl _ _ rfl (.slice p5 L.length c5) L [dT t.t] rfl HX1.out w8.heap.size 1 rfl (sD (dT t.t) w8) (by simp;omega) ?_;intro v' w' a1 a2 a3;have HX:=show Hid _ from HX2.out v' w' a1 a2 a3;clear a1 a2 a3))
  go_ret
  exact ⟨_,rfl,HX.out⟩
def ND (W:World) (q:Nat) (a b:Nat):Prop:=∃c0 c1 c2 c3 c4 c5 c6,W.heap[q]?=some (.cells #[c0,c1,c2,c3,c4,c5,c6,.func (.func a) #[] #[],.func (.func b) #[] #[]] 324 (0,0))
theorem ND.cells {W:World}{q a b:Nat}(h:ND W q a b):W.cell? ⟨q,7,none⟩=some (.func (.func a) #[] #[])/\W.cell? ⟨q,8,none⟩=some (.func (.func b) #[] #[]):=by
 obtain ⟨c0,c1,c2,c3,c4,c5,c6,h⟩:=h;exact ⟨af h rfl,af h rfl⟩
structure LC (S:Nat->Prop) (g:Nat) (W:World) (T:Nat) (t:Tv) (q a b:Nat) (V:World) (st:Sy):Prop where
 ex:∃Si,SS Si V g st/\(∀k,Si k->S k\/W.heap.size<=k)/\¬Si T/\¬Si q
 kp:Kp S W V
 tb:Lf V T t
 rb:ND V q a b
 tq:T<V.heap.size/\q<V.heap.size/\S g
theorem LC.step {S:Nat->Prop}{g:Nat}{W:World}{T:Nat}{t:Tv}{q a b:Nat}{V V':World}{st st':Sy}(h:LC S g W T t q a b V st) {Si:Nat->Prop}(h1:∀k,Si k->S k\/W.heap.size<=k) (h2:¬Si T) (h3:¬Si q) (m:Mw Si g V V' st'):LC S g W T t q a b V' st':=by
 obtain ⟨⟨S1,a1,a2⟩,hk⟩:=m;obtain ⟨b1,b2,b3⟩:=h.tq;refine ⟨⟨S1,a1,fun k hs=>?_,fun hs=>?_,fun hs=>?_⟩,h.kp.step hk (fun k hlt hs=>?_),hk.blk h.tb h2,?_,QN b1 hk.size,QN b2 hk.size,b3⟩
 ·rcases a2 k hs with e|e
  ·exact h1 k e
  ·exact .inr (QC h.kp.size e)
 ·rcases a2 T hs with e|e
  ·exact h2 e
  ·omega
 ·rcases a2 q hs with e|e
  ·exact h3 e
  ·omega
 ·rcases h1 k hs with e|e
  ·exact e
  ·omega
 ·obtain ⟨c0,c1,c2,c3,c4,c5,c6,h9⟩:=h.rb;exact ⟨c0,c1,c2,c3,c4,c5,c6,hk.blk h9 h3⟩
theorem LC.below {S:Nat->Prop}(h:LC S g W T t q a b V st) (hb:Below V.heap.size V V'):LC S g W T t q a b V' st:=by
 obtain ⟨Si,s1,s2,s3,s4⟩:=h.ex;exact h.step s2 s3 s4 ⟨⟨Si,s1.below hb,fun _ h=>.inl h⟩,Kp.of_below hb⟩
theorem Fa (f:Fx) (args:Array Value) (w:World):(callFunc f.id args).run Tryz.prog w=.ok (.enter f.id args) w:=by
 cases f <;> kernel_rfl
theorem Bz.aws {n:Nat}{st:Sy}(h:Bz n st) (l:List Pz):Bz (n+l.length) (st.aws l):=by
 induction l generalizing n st with
 |nil=>exact h
 |cons p l ih=>
  have:=ih (h.aw p);rw [cf,List.length_cons];exact this.mono (by omega)
theorem Gq (st:Sy) (l:List Pz):(st.aws l).mr=st.mr/\st.ws.length<=(st.aws l).ws.length/\(st.aws l).ns.length=st.ns.length:=by
 induction l generalizing st with
 |nil=>exact ⟨rfl,gt _,rfl⟩
 |cons p l ih=>
  obtain ⟨i1,i2,i3⟩:=ih (st.aw p);rw [cf];refine ⟨i1,?_,i3.trans (oe p st.ns)⟩;have:st.ws.length<=(st.aw p).ws.length:=by rw [rJ,Or];omega
  omega
theorem Bz.emp (h:Bz n st) (f:Int):Bz (n+1) (st.emp f):=by
 unfold Sy.emp
 split
 ·exact h.mono (by omega)
 ·split
  ·exact h.mono (by omega)
  ·refine ⟨?_,by have:=h.2.1;show st.ns.length<=_;omega,fun x hx=>by have:=h.2.2 x hx;omega⟩;have:=h.1
   rename_i m _ _
   show (st.ws.take m++dE :: st.ws.drop m).length<=n+1
   simp only [Or,QX,List.length_cons,QU];omega
theorem Bz.endl (h:Bz n st):Bz (n+1) st.endl:=by
 unfold Sy.endl
 split
 ·exact ⟨by have:=h.1;show (dH :: st.ws).length<=_;simp;omega,by have:=h.2.1;show st.ns.length<=_;omega,fun x hx=>by have:=h.2.2 x hx;omega⟩
 ·exact h.mono (by omega)
theorem tj (st:Sy) (f:Int):(st.emp f).ns=st.ns:=by unfold Sy.emp;split;rfl;split <;> rfl
theorem kR (st:Sy):st.endl.ns=st.ns:=by unfold Sy.endl;split <;> rfl
theorem nF (st:Sy):st.part.ns=st.ns:=by unfold Sy.part;split <;> rfl
theorem xO (f:Fx):f.pz.length<=2:=by cases f <;> decide
theorem LC.lay {S:Nat->Prop}(h:LC S g W T t q a b V st) :
  ∃vw,V.cell? ⟨g,2,none⟩=some vw/\(∃p c,vw=.slice p st.ws.length c)/\Rd V vw st.ws/\∀V1 w3 v' l,Below V.heap.size V V1->Rd w3 v' l->V1.grownBy w3 vw.ownBlock->Nb V1 vw v' ->
   (SB w3 g false (V.cell? ⟨g,1,none⟩ |>.getD undef) vw st.mr.isSome (st.mr.getD 0:Nat) st.wr st.en st.pt) /\
   ∀w5,Kp (fun k=>k=g) w3 w5->SB w5 g false (V.cell? ⟨g,1,none⟩ |>.getD undef) (.slice none 0 0) false 0 true false false ->
    ∃Si,SS Si w5 g ⟨st.ns,[],none,true,false,false⟩/\ND w5 q a b/\∀w6 st6,Mw Si g w5 w6 st6->An S g W w6 v' l st6:=by
 obtain ⟨Si,s1,s2,s3,s4⟩:=h.ex;obtain ⟨vn,vw,hv,v1,v2⟩:=s1.ex;obtain ⟨p,c,ew,_⟩:=bD hv.rd;have hcn:=hv.sb.cells.2.1;refine ⟨vw,hv.sb.cells.2.2.1,⟨p,c,ew⟩,hv.rd,fun V1 w3 v' l hb hr hg hn=>?_⟩;rw [hcn,T7];have k1:=hv.below hb;have hk:Kp (fun k=>vw.ownBlock=some k) V1 w3:=(Kp.of_grown hg).sub (fun k e=>e.symm);have hne:¬vw.ownBlock=some g:=aM k1.rd k1.sb (by decide);have h3:=k1.sb.kp hk hne;have n3:=hk.row k1.rn (fun k e1 e2=>kw k1.rn k1.rd (by decide) k e1 e2);refine ⟨h3,fun w5 hk5 hsb5=>?_⟩;have n5:Rn tN w5 vn st.ns:=hk5.row n3 (fun k e1 e2=>aM n3 h3 (by decide) (by rw [e1,e2]));have r5:Rd w5 v' l:=hk5.row hr (fun k e1 e2=>aM hr h3 (by decide) (by rw [e1,e2]));have hLb:=h.below hb
 have hv':∀k,v'.ownBlock=some k->S k\/W.heap.size<=k:=fun k e=>by
  rcases hn with hn|⟨q',hq,hq2⟩
  ·exact s2 k (v2 k (by rw [<-hn];exact e))
  ·rw [hq] at e;cases e;exact .inr (QC hLb.kp.size hq2)
 have hvn':∀k,vn.ownBlock=some k->v'.ownBlock≠some k:=fun k e e2=>by
  rcases hn with hn|⟨q',hq,hq2⟩
  ·exact kw k1.rn k1.rd (by decide) k e (by rw [<-hn];exact e2)
  ·rw [hq] at e2;cases e2;have:=g8 k1.rn k e;omega
 have hvg:v'.ownBlock≠some g:=aM hr h3 (by decide);refine ⟨fun k=>Si k/\v'.ownBlock≠some k,⟨⟨vn,.slice none 0 0,⟨hsb5,n5,lG _⟩,fun k e=>⟨v1 k e,hvn' k e⟩,fun k e=>by cases e⟩,⟨s1.sg,hvg⟩,fun k hs=>?_⟩,?_,?_⟩
 ·exact QN (s1.lt k hs.1) (QC hb.size (QC hk.size hk5.size))
 ·obtain ⟨c0,c1,c2,c3,c4,c5,c6,h9⟩:=hLb.rb;exact ⟨c0,c1,c2,c3,c4,c5,c6,hk5.blk (hk.blk h9 (fun e=>s4 (v2 q e))) (fun e=>s4 (by rw [e];exact s1.sg))⟩
 ·rintro w6 st6 ⟨⟨S6,a1,a2⟩,hk6⟩
  have hkS:Kp S W w5:=(hLb.kp.step hk (fun k hlt e=>by
   rcases s2 k (v2 k e) with e2|e2
   ·exact e2
   ·omega)).step hk5 (fun k _ e=>by rw [e];exact h.tq.2.2)
  refine ⟨⟨S6,a1,fun k hs=>?_,fun k e=>⟨hv' k e,fun hs=>?_⟩⟩,yR r5 hk6 (fun k e hs=>hs.2 e),hkS.step hk6 (fun k hlt hs=>?_)⟩
  ·rcases a2 k hs with e|e
   ·exact s2 k e.1
   ·exact .inr (QC hkS.size e)
  ·rcases a2 k hs with e2|e2
   ·exact e2.2 e
   ·have:=g8 r5 k e;omega
  ·rcases s2 k hs.1 with e|e
   ·exact e
   ·omega
end Go.Proofs.YtacohdpndpliaaaGreatDoor
