import Derived.Test.YtjiepkenkcgkhaaGreatDoorM35
set_option linter.unusedVariables false
set_option linter.unusedSimpArgs false
set_option maxHeartbeats 4000000
namespace Go.Proofs.YtjiepkenkcgkhaaGreatDoor
open Go.RowKit
open Lw (Dc bE rt cy dh eZ ij bU aW cg)
variable {st st':Sy}{g T q a b n:Nat}{W V V':World}{t:Tv}{v:Value}{l:List Dc}
def Lf (W:World) (T:Nat) (t:Tv):Prop:=W.heap[T]?=some (.cells #[.int .u8 t.k,.string t.t,.int .i64 t.a,.int .i64 t.l,.int .i64 t.c,.int .i64 t.f] 51 (0,0))
theorem Lf.cells {W:World}{T:Nat}{t:Tv}(h:Lf W T t):W.cell? ⟨T,0,none⟩=some (.int .u8 t.k)/\W.cell? ⟨T,1,none⟩=some (.string t.t)/\W.cell? ⟨T,2,none⟩=some (.int .i64 t.a)/\W.cell? ⟨T,3,none⟩=some (.int .i64 t.l)/\W.cell? ⟨T,4,none⟩=some (.int .i64 t.c)/\W.cell? ⟨T,5,none⟩=some (.int .i64 t.f):=
 ⟨af h rfl,af h rfl,af h rfl,af h rfl,af h rfl,af h rfl⟩
structure NC (S:Nat->Prop) (g:Nat) (W:World) (T:Nat) (t:Tv) (V:World) (v:Value) (l:List Dc) (st:Sy):Prop where
 an:An S g W V v l st
 tb:Lf V T t
 tn:¬S T/\T<V.heap.size/\T≠g/\v.ownBlock≠some T
theorem An.below {S:Nat->Prop}(h:An S g W V v l st) (hb:Below V.heap.size V V'):An S g W V' v l st:=by
 obtain ⟨⟨S',a1,a2,a3⟩,a4,a5⟩:=h;exact ⟨⟨S',a1.below hb,a2,a3⟩,fg a4 hb,a5.step (Kp.of_below (S:=fun _=>False) hb) (fun _ _ h=>h.elim)⟩
theorem NC.below {S:Nat->Prop}(h:NC S g W T t V v l st) (hb:Below V.heap.size V V'):NC S g W T t V' v l st:=
 ⟨h.an.below hb,ag h.tb hb,h.tn.1,Q1 h.tn.2.1 hb.size,h.tn.2.2⟩
theorem NC.app {S:Nat->Prop}{V1 w':World}{v':Value}{l':List Dc}(h:NC S g W T t V v l st) (hb:Below V.heap.size V V1) (hr:Rd w' v' l') (hg:V1.grownBy w' v.ownBlock) (hn:Nb V1 v v'):NC S g W T t w' v' l' st:=by
 obtain ⟨⟨⟨S',a1,a2,a3⟩,a4,a5⟩,b1,b2,b3,b4,b5⟩:=h.below hb;have hk:Kp (fun k=>v.ownBlock=some k) V1 w':=(Kp.of_grown hg).sub (fun k e=>e.symm)
 have hv':∀k,v'.ownBlock=some k->(S k\/W.heap.size<=k)/\¬S' k/\k≠T:=fun k e=>by
  rcases hn with hn|⟨q,hq,hq2⟩
  ·rw [hn] at e;exact ⟨(a3 k e).1,(a3 k e).2,fun ek=>b5 (by rw [<-ek];exact e)⟩
  ·rw [hq] at e;cases e;refine ⟨.inr (QQ a5.size hq2),fun hs=>?_,fun ek=>by omega⟩;have:=a1.lt k hs;omega
 refine ⟨⟨⟨S',a1.kp hk (fun k hs e=>(a3 k e).2 hs),a2,fun k e=>⟨(hv' k e).1,(hv' k e).2.1⟩⟩,hr,a5.step hk (fun k hlt e=>?_)⟩,hk.blk b1 (fun e=>b5 e),b2,Q1 b3 hk.size,b4,fun e=>(hv' T e).2.2 rfl⟩
 rcases (a3 k e).1 with h1|h1
 ·exact h1
 ·omega
theorem SS.gset {S:Nat->Prop}{W':World}(h:SS S W g st) (hk:Kp (fun k=>k=g) W W') (hb:∀vn vw,SB W g false vn vw st.mr.isSome (st.mr.getD 0:Nat) st.wr st.en st.pt->SB W' g false vn vw st'.mr.isSome (st'.mr.getD 0:Nat) st'.wr st'.en st'.pt) (hn:st'.ns=st.ns) (hw:st'.ws=st.ws):SS S W' g st':=by
 obtain ⟨vn,vw,hv,s1,s2⟩:=h.ex;refine ⟨⟨vn,vw,⟨hb _ _ hv.sb,?_,?_⟩,s1,s2⟩,h.sg,fun k hs=>Q1 (h.lt k hs) hk.size⟩
 ·rw [hn];exact hk.row hv.rn (fun k e1 e2=>aM hv.rn hv.sb (by decide) (by rw [e1,e2]))
 ·rw [hw];exact hk.row hv.rd (fun k e1 e2=>aM hv.rd hv.sb (by decide) (by rw [e1,e2]))
theorem NC.gset {S:Nat->Prop}(h:NC S g W T t V v l st) (hS:S g) (hk:Kp (fun k=>k=g) V V') (hb:∀vn vw,SB V g false vn vw st.mr.isSome (st.mr.getD 0:Nat) st.wr st.en st.pt->SB V' g false vn vw st'.mr.isSome (st'.mr.getD 0:Nat) st'.wr st'.en st'.pt) (hn:st'.ns=st.ns) (hw:st'.ws=st.ws):NC S g W T t V' v l st':=by
 obtain ⟨⟨⟨S',a1,a2,a3⟩,a4,a5⟩,b1,b2,b3,b4,b5⟩:=h;obtain ⟨vn,vw,hv,_⟩:=a1.ex;exact ⟨⟨⟨S',a1.gset hk hb hn hw,a2,a3⟩,yM a4 hk (fun k e1 e2=>aM a4 hv.sb (by decide) (by rw [e1,e2])),a5.step hk (fun k _ e=>by rw [e];exact hS)⟩,hk.blk b1 b4,b2,Q1 b3 hk.size,b4,b5⟩
theorem NC.cells {S:Nat->Prop}{g:Nat}{W V:World}{T:Nat}{t:Tv}{v:Value}{l:List Dc}{st:Sy}(h:NC S g W T t V v l st) :
  (V.cell? ⟨g,3,none⟩=some (.bool st.mr.isSome)/\V.cell? ⟨g,4,none⟩=some (.int .i64 (st.mr.getD 0:Nat))/\V.cell? ⟨g,5,none⟩=some (.bool st.wr)/\V.cell? ⟨g,6,none⟩=some (.bool st.en)/\V.cell? ⟨g,7,none⟩=some (.bool st.pt))/\(V.frozen? ⟨g,3,none⟩=false/\V.frozen? ⟨g,4,none⟩=false/\V.frozen? ⟨g,5,none⟩=false/\V.frozen? ⟨g,6,none⟩=false/\V.frozen? ⟨g,7,none⟩=false)/\g<V.heap.size:=by
 obtain ⟨⟨⟨S',a1,a2,a3⟩,a4,a5⟩,b1,b2,b3,b4,b5⟩:=h;obtain ⟨vn,vw,hv,_⟩:=a1.ex;obtain ⟨c0,c1,c2,c3,c4,c5,c6,c7⟩:=hv.sb.cells;exact ⟨⟨c3,c4,c5,c6,c7⟩,⟨hv.sb.frozen 3,hv.sb.frozen 4,hv.sb.frozen 5,hv.sb.frozen 6,hv.sb.frozen 7⟩,hv.sb.lt⟩
abbrev yq (x:ByteArray):Obj:=.cells #[.int .u8 2,.string ⟨#[]⟩,.int .i64 0,.int .i64 0,.bool false,.int .u8 1,.string x,.int .i64 0,.int .i64 0,.bool false] 71
theorem mQ (x:ByteArray) (w:World):(w.alloc (yq x)).heap[w.heap.size]?=some (.cells (bU [dS,dT x]).toArray 71 (0,0)):=au w _
theorem sj (d:Dc) (w:World):(w.alloc (.cells #[.int .u8 d.k,.string d.t,.int .i64 d.b,.int .i64 d.i,.bool d.e] 71)).heap[w.heap.size]?=some (.cells (bU [d]).toArray 71 (0,0)):=au w _
theorem AK {S:Nat->Prop}(h:SS S W g st) (hl:st.ws.length<=900000000) (t:Tv) :
  Ra 77 #[bV g,.agg #[.int .u8 t.k,.string t.t,.int .i64 t.a,.int .i64 t.l,.int .i64 t.c,.int .i64 t.f]] W fun r w'=>∃v,r=.returned v/\An S g W w' v (st.note t).2 (st.note t).1:=by
 obtain ⟨V,hV⟩:∃V,W.alloc (.cells #[.int .u8 t.k,.string t.t,.int .i64 t.a,.int .i64 t.l,.int .i64 t.c,.int .i64 t.f] 51)=V:=⟨_,rfl⟩;have hB:Below W.heap.size W V:=by rw [<-hV];exact (hH _ _).alloc (gt _) _
 have hT:Lf V W.heap.size t:=by rw [<-hV];exact au _ _
 have hVs:V.heap.size=W.heap.size+1:=by rw [<-hV];show (W.heap.push _).size=_;simp
 have HV:Hid (W.alloc (.cells #[.int .u8 t.k,.string t.t,.int .i64 t.a,.int .i64 t.l,.int .i64 t.c,.int .i64 t.f] 51)=V):=hV;have hgl:=h.lt g h.sg
 have HTB:Hid (Ra 131 #[bV g] V fun r w'=>∃v,r=.returned v/\NC S g W W.heap.size t w' v (st.ws.takeWhile be) { st with ws:=st.ws.dropWhile be }):=by
  refine (ox (h.below hB) (by omega)).mono ?_;rintro r w' ⟨v,rfl,⟨S',a1,a2,a3⟩,a4,a5⟩;have hnS:¬S W.heap.size:=fun hs=>by have:=h.lt _ hs;omega
  refine ⟨v,rfl,⟨⟨S',a1,fun k hk=>(a2 k hk).imp id (fun e=>QQ hB.size e),fun k e=>⟨(a3 k e).1.imp id (fun e=>QQ hB.size e),(a3 k e).2⟩⟩,a4,(Kp.of_below hB).step a5 (fun _ _ h=>h)⟩,a5.blk hT hnS,hnS,?_,by omega,fun e=>?_⟩
  ·have:=a5.size;omega
  ·rcases (a3 _ e).1 with h1|h1
   ·exact hnS h1
   ·omega
 have hSg:=h.sg;have HTx:Hid (∀X,Ra 130 #[.agg #[.int .u8 t.k,.string t.t,.int .i64 t.a,.int .i64 t.l,.int .i64 t.c,.int .i64 t.f]] X fun e w'=>e=.returned (.agg #[.int .u8 1,.string t.t,.int .i64 0,.int .i64 0,.bool false])/\Below X.heap.size X w'):=ov t;obtain ⟨bg,hbg⟩:∃bg,st.ws.takeWhile be=bg:=⟨_,rfl⟩;obtain ⟨rs,hrs⟩:∃rs,st.ws.dropWhile be=rs:=⟨_,rfl⟩;have hbl:bg.length<=900000000:=by have:=(List.takeWhile_prefix (p:=be) (l:=st.ws)).length_le;rw [hbg] at this;omega
 have HNo:Hid (st.note t=(if t.f=0/\st.wr=true then (⟨st.ns,rs,none,true,st.en || decide (t.k=7),st.pt || decide (t.k=8)⟩,bg++[dS,dT t.t]) else (⟨st.ns,rs,none,true,true,st.pt⟩,bg++dH :: ((if 2<=t.f/\st.wr=true/\bg=[] then [dE] else [])++[dT t.t])))):=by
  show _=_
  unfold Sy.note;simp only;rw [hbg,hrs]
 rw [hbg,hrs] at HTB;clear h hl hV hB hT hVs hbg hrs
 go_enter Tryz.func77,Tryz.ntmps77
 go_upto_region 1 with fail
 rw [HV.out]
 go_upto_region 3 with (go_at_call 131;refine HTB.out.mono ?_;rintro r1 w1 ⟨v1,rfl,hN1⟩;obtain ⟨p1,c1,ev,_⟩:=bB hN1.an.2.1;subst ev;have HN1:=show Hid (NC S g W W.heap.size t w1 (.slice p1 bg.length c1) bg { st with ws:=rs }) from hN1;clear hN1)
 obtain ⟨⟨c3,c4,c5,c6,c7⟩,⟨f3,f4,f5,f6,f7⟩,hg1⟩:=HN1.out.cells
 go_upto_region 4 with fail
 have hN2:NC S g W W.heap.size t ((w1.setCell ⟨g,3,none⟩ (.bool false)).setCell ⟨g,4,none⟩ (.int .i64 0)) (.slice p1 bg.length c1) bg { st with ws:=rs,mr:=none }:=HN1.out.gset hSg ((Kp.set _ _ _ _).trans (Kp.set _ _ _ _)) (fun vn vw hb=>aj (aj hb 3 _) 4 _) rfl rfl;obtain ⟨w2,hw2⟩:∃w2,(w1.setCell ⟨g,3,none⟩ (.bool false)).setCell ⟨g,4,none⟩ (.int .i64 0)=w2:=⟨_,rfl⟩;rw [hw2] at hN2 ⊢;clear c3 c4 c5 c6 c7 f3 f4 f5 f6 f7 hw2 hg1 HN1;obtain ⟨⟨c3,c4,c5,c6,c7⟩,⟨f3,f4,f5,f6,f7⟩,hg1⟩:=hN2.cells;obtain ⟨t0,t1,t2,t3,t4,t5⟩:=hN2.tb.cells;have HN2:=show Hid (NC S g W W.heap.size t w2 (.slice p1 bg.length c1) bg { st with ws:=rs,mr:=none }) from hN2
 have hgT:g≠W.heap.size:=by omega
 have hTl:=hN2.tn.2.1;clear hN2
 by_cases hbe:t.f=0/\st.wr=true
 ·obtain ⟨hf0,hw⟩:=hbe;have HNo2:=show Hid (st.note t=(⟨st.ns,rs,none,true,st.en || decide (t.k=7),st.pt || decide (t.k=8)⟩,bg++[dS,dT t.t])) from (by rw [HNo.out,IO ⟨hf0,hw⟩];exact rfl)
  have q1:(t.f == 0)=true:=by simpa using hf0
  have c5':w2.cell? ⟨g,5,none⟩=some (.bool true):=by rw [c5];show some (Value.bool st.wr)=_;rw [hw]
  have HN3:=show Hid (∀x y:Bool,(st.en || decide (t.k=7))=x->(st.pt || decide (t.k=8))=y->∃w3,Hid ((w2.setCell ⟨g,6,none⟩ (.bool x)).setCell ⟨g,7,none⟩ (.bool y)=w3)/\NC S g W W.heap.size t w3 (.slice p1 bg.length c1) bg (st.note t).1) from (fun x y e1 e2=>by
   refine ⟨_,rfl,HN2.out.gset hSg ((Kp.set _ _ _ _).trans (Kp.set _ _ _ _)) (fun vn vw hb=>?_) (by rw [HNo2.out]) (by rw [HNo2.out])⟩;have:=aj (aj hb 6 (.bool x)) 7 (.bool y);rw [HNo2.out];simp only [e1,e2];rw [show ({ st with ws:=rs,mr:=none }:Sy).wr=true from hw] at this;exact this)
  clear HNo c5 HN2 hf0 hw;cases hen:st.en <;> cases hpt:st.pt
  case' false.false=>obtain ⟨w3,HW3,hN3⟩:=HN3.out (t.k == 7) (t.k == 8) (by rw [hen];rfl) (by rw [hpt];rfl)
  case' false.true=>obtain ⟨w3,HW3,hN3⟩:=HN3.out (t.k == 7) true (by rw [hen];rfl) (by rw [hpt];rfl)
  case' true.false=>obtain ⟨w3,HW3,hN3⟩:=HN3.out true (t.k == 8) (by rw [hen];rfl) (by rw [hpt];rfl)
  case' true.true=>obtain ⟨w3,HW3,hN3⟩:=HN3.out true true (by rw [hen];rfl) (by rw [hpt];rfl)
  all_goals (
   simp only [hen] at c6;simp only [hpt] at c7;clear hen hpt HN3
   go_upto_region 7 with fail
   rw [HW3.out];clear HW3 t0 t1 t2 t3 t4 t5 c3 c4 c6 c7 c5' f3 f4 f5 f6 f7 hg1 hTl;obtain ⟨t0,t1,t2,t3,t4,t5⟩:=hN3.tb.cells
   have HFin:=show Hid (∀X,Below w3.heap.size w3 X->Rd (X.alloc (yq t.t)) (.slice p1 bg.length c1) bg/\∀v' w',Rd w' v' (bg++[dS,dT t.t])->(X.alloc (yq t.t)).grownBy w' (Value.slice p1 bg.length c1).ownBlock->Nb (X.alloc (yq t.t)) (.slice p1 bg.length c1) v'->An S g W w' v' (st.note t).2 (st.note t).1) from (fun X hX=>by
    have hX2:Below w3.heap.size w3 (X.alloc (yq t.t)):=hX.alloc hX.size _;refine ⟨fg hN3.an.2.1 hX2,fun v' w' a1 a2 a3=>?_⟩;have:=(hN3.app hX2 a1 a2 a3).an;rw [show (st.note t).2=bg++[dS,dT t.t] by rw [HNo2.out]];exact this)
   clear hN3
   go_wp2_with (first|(go_at_call 130;refine (HTx.out _).mono ?_;rintro r4 w4 ⟨rfl,hb4⟩;obtain ⟨x1,x2⟩:=HFin.out _ hb4;have HX1:=ai x1;have HX2:=ai x2;clear hb4 x1 x2)|(at_builtin;refine ry rfl _ _ rfl (.slice p1 bg.length c1) bg [dS,dT t.t] rfl HX1.out w4.heap.size 2 rfl (mQ t.t w4) (by simp;omega) ?_;intro v' w' a1 a2 a3;have HX:=show Hid _ from HX2.out v' w' a1 a2 a3;clear a1 a2 a3))
   go_ret
   exact ⟨_,rfl,HX.out⟩)
 ·have HNo2:=show Hid (st.note t=(⟨st.ns,rs,none,true,true,st.pt⟩,bg++dH :: ((if 2<=t.f/\st.wr=true/\bg=[] then [dE] else [])++[dT t.t]))) from (by rw [HNo.out,Eq hbe];exact rfl)
  have c5':w2.cell? ⟨g,5,none⟩=some (.bool st.wr):=c5;have HBe:=show Hid (¬(t.f=0/\st.wr=true)) from hbe
  clear HNo c5 hbe
  go_cut [26] from 18 to 26 (fun t9 wx=>t9=.bool false/\wx=w2)
  case first=>
   by_cases hf0:t.f=0
   ·have hw:st.wr=false:=by cases hq:st.wr with|false=>rfl|true=>exact absurd ⟨hf0,hq⟩ HBe.out
    have q1:(t.f == 0)=true:=by simpa using hf0
    rw [hw] at c5';clear hf0 hw HBe
    go_wp2_with fail
    go_meet
    exact ⟨rfl,rfl⟩
   ·have q1:(t.f == 0)=false:=by simpa using hf0
    clear hf0 HBe
    go_wp2_with fail
    go_meet
    exact ⟨rfl,rfl⟩
  case rest=>
  obtain ⟨rfl,hwc⟩:=hcut;replace hwc:=hwc.symm;subst hwc
  have HA1:=show Hid (Rd (w2.alloc (.cells #[.int .u8 4,.string ⟨#[]⟩,.int .i64 0,.int .i64 0,.bool false] 71)) (.slice p1 bg.length c1) bg/\∀v' w',Rd w' v' (bg++[dH])->(w2.alloc (.cells #[.int .u8 4,.string ⟨#[]⟩,.int .i64 0,.int .i64 0,.bool false] 71)).grownBy w' (Value.slice p1 bg.length c1).ownBlock->Nb (w2.alloc (.cells #[.int .u8 4,.string ⟨#[]⟩,.int .i64 0,.int .i64 0,.bool false] 71)) (.slice p1 bg.length c1) v'->NC S g W W.heap.size t w' v' (bg++[dH]) { st with ws:=rs,mr:=none }) from (by
   have hX2:Below w2.heap.size w2 (w2.alloc (.cells #[.int .u8 4,.string ⟨#[]⟩,.int .i64 0,.int .i64 0,.bool false] 71)):=(hH _ _).alloc (gt _) _;exact ⟨fg HN2.out.an.2.1 hX2,fun v' w' a1 a2 a3=>HN2.out.app hX2 a1 a2 a3⟩)
  clear t0 t1 t2 t3 t4 t5 c3 c4 c6 c7 c5' f3 f4 f5 f6 f7 hg1 hTl HN2
  go_upto_region 9 with (at_builtin;refine ry rfl _ _ rfl (.slice p1 bg.length c1) bg [dH] rfl HA1.out.1 w2.heap.size 1 rfl (sj dH w2) (by simp;omega) ?_;intro v' w3 a1 a2 a3;have hN3:=HA1.out.2 v' w3 a1 a2 a3;obtain ⟨p3,c3,ev,_⟩:=bB a1;subst ev;have HN3:=show Hid (NC S g W W.heap.size t w3 (.slice p3 (bg++[dH]).length c3) (bg++[dH]) { st with ws:=rs,mr:=none }) from hN3;clear a1 a2 a3 hN3)
  clear HA1;obtain ⟨⟨c3',c4,c5,c6,c7⟩,⟨f3,f4,f5,f6,f7⟩,hg1⟩:=HN3.out.cells;obtain ⟨t0,t1,t2,t3,t4,t5⟩:=HN3.out.tb.cells;have c5':w3.cell? ⟨g,5,none⟩=some (.bool st.wr):=c5;clear c5 c3' c4;obtain ⟨b9,hb9⟩:∃b9:Bool,decide (2<=t.f/\st.wr=true/\bg=[])=b9:=⟨_,rfl⟩;have HX9:=show Hid (decide (2<=t.f/\st.wr=true/\bg=[])=b9) from hb9
  clear hb9
  go_cut [73] from 61 to 73 (fun t9 wx=>t9=.bool b9/\wx=w3)
  case first=>
   by_cases hf2:2<=t.f
   ·cases hw:st.wr with
    |false=>
     have HY:Hid (false=b9):=by rw [<-HX9.out,QX (fun h=>by rw [hw] at h;cases h.2.1)];exact rfl
     have q1:(t.f<2)=False:=by simp;omega
     have q2:decide (2<=t.f)=true:=QW hf2;rw [hw] at c5';clear HX9 hw
     go_wp2_with fail
     go_meet
     exact ⟨by rw [HY.out],rfl⟩
    |true=>
     have q2:decide (2<=t.f)=true:=QW hf2;rw [hw] at c5';cases hbg:bg with
     |nil=>
      have HY:Hid (true=b9):=by rw [<-HX9.out,QW ⟨hf2,hw,hbg⟩];exact rfl
      clear HX9 hw;subst hbg
      go_wp2_with fail
      go_meet
      exact ⟨by rw [HY.out],rfl⟩
     |cons x y=>
      have HY:Hid (false=b9):=by rw [<-HX9.out,QX (fun h=>by rw [hbg] at h;cases h.2.2)];exact rfl
      clear HX9 hw;subst hbg;have q3:decide ((0:Int)<((x :: y).length:Int))=true:=by simp
      have q4:(0:Int)<(y.length:Int)+1:=by omega
      go_wp2_with fail
      go_meet
      exact ⟨by rw [HY.out],rfl⟩
   ·have HY:Hid (false=b9):=by rw [<-HX9.out,QX (fun h=>hf2 h.1)];exact rfl
    have q2:decide (2<=t.f)=false:=QX hf2;clear HX9
    go_wp2_with fail
    go_meet
    exact ⟨by rw [HY.out],rfl⟩
  case rest=>
  obtain ⟨rfl,hwc⟩:=hcut;replace hwc:=hwc.symm;subst hwc;obtain ⟨em,hem⟩:∃em,(if 2<=t.f/\st.wr=true/\bg=[] then [dE] else [])=em:=⟨_,rfl⟩
  have HEm:=show Hid ((b9=true->em=[dE])/\(b9=false->em=[])/\em.length<=1) from (by
   refine ⟨fun hb=>?_,fun hb=>?_,?_⟩
   ·rw [<-hem,IO (Rm (HX9.out.trans hb))]
   ·rw [<-hem,Eq (T2 (HX9.out.trans hb))]
   ·rw [<-hem];split <;> simp)
  rw [hem] at HNo2;clear hem HX9 t0 t1 t2 t3 t4 t5 c6 c7 c5' f3 f4 f5 f6 f7 hg1
  go_upto_if 73 with fail
  go_cut [5] from 74 to 77 (fun t9 wx=>∃p n c,t9=.slice p n c/\Hid (NC S g W W.heap.size t wx (.slice p n c) (bg++dH :: em) { st with ws:=rs,mr:=none }))
  case first=>
   cases b9 with
   |true=>
    obtain rfl:em=[dE]:=HEm.out.1 rfl
    have HA1:=show Hid (Rd (w3.alloc (.cells #[.int .u8 5,.string ⟨#[]⟩,.int .i64 0,.int .i64 0,.bool false] 71)) (.slice p3 (bg++[dH]).length c3) (bg++[dH])/\∀v' w',Rd w' v' ((bg++[dH])++[dE])->(w3.alloc (.cells #[.int .u8 5,.string ⟨#[]⟩,.int .i64 0,.int .i64 0,.bool false] 71)).grownBy w' (Value.slice p3 (bg++[dH]).length c3).ownBlock->Nb (w3.alloc (.cells #[.int .u8 5,.string ⟨#[]⟩,.int .i64 0,.int .i64 0,.bool false] 71)) (.slice p3 (bg++[dH]).length c3) v'->NC S g W W.heap.size t w' v' ((bg++[dH])++[dE]) { st with ws:=rs,mr:=none }) from (by
     have hX2:Below w3.heap.size w3 (w3.alloc (.cells #[.int .u8 5,.string ⟨#[]⟩,.int .i64 0,.int .i64 0,.bool false] 71)):=(hH _ _).alloc (gt _) _;exact ⟨fg HN3.out.an.2.1 hX2,fun v' w' a1 a2 a3=>HN3.out.app hX2 a1 a2 a3⟩)
    have hle:(bg++[dH]).length<=900000001:=by simp;omega
    clear HN3 HEm
    go_wp2_with (at_builtin;refine ry rfl _ _ rfl (.slice p3 (bg++[dH]).length c3) (bg++[dH]) [dE] (by simp [Act.eval,Act.put]) HA1.out.1 w3.heap.size 1 rfl (sj dE w3) (by simp at hle ⊢;omega) ?_;intro v' w4 a1 a2 a3;have hN4:=HA1.out.2 v' w4 a1 a2 a3;obtain ⟨p4,c4,ev,_⟩:=bB a1;subst ev;have HN4:=show Hid (NC S g W W.heap.size t w4 (.slice p4 ((bg++[dH])++[dE]).length c4) ((bg++[dH])++[dE]) { st with ws:=rs,mr:=none }) from hN4;clear a1 a2 a3 hN4)
    go_meet
    refine ⟨_,_,_,rfl,?_⟩;have:=HN4.out;rw [show ((bg++[dH])++[dE]).length=bg.length+1+1 by simp,QM] at this;exact this
   |false=>
    obtain rfl:em=[]:=HEm.out.2.1 rfl;have HN4:=show Hid (NC S g W W.heap.size t w3 (.slice p3 (bg++[dH]).length c3) (bg++[dH]) { st with ws:=rs,mr:=none }) from HN3.out
    clear HN3 HEm
    go_wp2_with fail
    go_meet
    refine ⟨_,_,_,rfl,?_⟩;have:=HN4.out;rw [show (bg++[dH]).length=bg.length+1 by simp] at this;exact this
  case rest=>
  obtain ⟨p5,n5,c5,rfl,hN5⟩:=hcut;obtain ⟨w5,hw5⟩:∃w5,w5=wc:=⟨wc,rfl⟩;subst hw5;have HN5:=show Hid (NC S g W W.heap.size t w5 (.slice p5 n5 c5) (bg++dH :: em) { st with ws:=rs,mr:=none }) from hN5.out
  obtain ⟨⟨c3',c4,c5',c6,c7⟩,⟨f3,f4,f5,f6,f7⟩,hg1⟩:=HN5.out.cells;have hel:=HEm.out.2.2
  have hN6:NC S g W W.heap.size t ((w5.setCell ⟨g,5,none⟩ (.bool true)).setCell ⟨g,6,none⟩ (.bool true)) (.slice p5 n5 c5) (bg++dH :: em) (st.note t).1:=by
   refine HN5.out.gset hSg ((Kp.set _ _ _ _).trans (Kp.set _ _ _ _)) (fun vn vw hb=>?_) (by rw [HNo2.out]) (by rw [HNo2.out]);rw [HNo2.out];exact aj (aj hb 5 (.bool true)) 6 (.bool true)
  clear hN5 HN3 HEm
  go_upto_region 12 with fail
  obtain ⟨w6,hw6⟩:∃w6,(w5.setCell ⟨g,5,none⟩ (.bool true)).setCell ⟨g,6,none⟩ (.bool true)=w6:=⟨_,rfl⟩;rw [hw6] at hN6 ⊢;clear hw6 c3' c4 c5' c6 c7 f3 f4 f5 f6 f7 hg1 HN5;obtain ⟨t0,t1,t2,t3,t4,t5⟩:=hN6.tb.cells;obtain ⟨p7,c7,ev7,_⟩:=bB hN6.an.2.1;cases ev7
  have HFin:=show Hid (∀X,Below w6.heap.size w6 X->Rd (X.alloc (.cells #[.int .u8 1,.string t.t,.int .i64 0,.int .i64 0,.bool false] 71)) (.slice p5 (bg++dH :: em).length c5) (bg++dH :: em)/\∀v' w',Rd w' v' ((bg++dH :: em)++[dT t.t])->(X.alloc (.cells #[.int .u8 1,.string t.t,.int .i64 0,.int .i64 0,.bool false] 71)).grownBy w' (Value.slice p5 (bg++dH :: em).length c5).ownBlock->Nb (X.alloc (.cells #[.int .u8 1,.string t.t,.int .i64 0,.int .i64 0,.bool false] 71)) (.slice p5 (bg++dH :: em).length c5) v'->An S g W w' v' (st.note t).2 (st.note t).1) from (fun X hX=>by
   have hX2:Below w6.heap.size w6 (X.alloc (.cells #[.int .u8 1,.string t.t,.int .i64 0,.int .i64 0,.bool false] 71)):=hX.alloc hX.size _;refine ⟨fg hN6.an.2.1 hX2,fun v' w' a1 a2 a3=>?_⟩;have:=(hN6.app hX2 a1 a2 a3).an;rw [show (st.note t).2=(bg++dH :: em)++[dT t.t] by rw [HNo2.out];simp];exact this)
  have hlen:(bg++dH :: em).length<=900000002:=by simp;omega
  obtain ⟨L,hL⟩:∃L,bg++dH :: em=L:=⟨_,rfl⟩;rw [hL] at HFin hlen ⊢;clear hN6 HNo2 hL
  go_wp2_with (first|(go_at_call 130;refine (HTx.out _).mono ?_;rintro r8 w8 ⟨rfl,hb8⟩;obtain ⟨x1,x2⟩:=HFin.out _ hb8;have HX1:=show Hid (Rd (w8.alloc (.cells #[.int .u8 1,.string t.t,.int .i64 0,.int .i64 0,.bool false] 71)) (.slice p5 L.length c5) L) from x1;have HX2:=show Hid (∀v' w',Rd w' v' (L++[dT t.t])->(w8.alloc (.cells #[.int .u8 1,.string t.t,.int .i64 0,.int .i64 0,.bool false] 71)).grownBy w' (Value.slice p5 L.length c5).ownBlock->Nb (w8.alloc (.cells #[.int .u8 1,.string t.t,.int .i64 0,.int .i64 0,.bool false] 71)) (.slice p5 L.length c5) v'->An S g W w' v' (st.note t).2 (st.note t).1) from x2;clear hb8 x1 x2)|(at_builtin;refine ry rfl _ _ rfl (.slice p5 L.length c5) L [dT t.t] rfl HX1.out w8.heap.size 1 rfl (sj (dT t.t) w8) (by simp;omega) ?_;intro v' w' a1 a2 a3;have HX:=show Hid _ from HX2.out v' w' a1 a2 a3;clear a1 a2 a3))
  go_ret
  exact ⟨_,rfl,HX.out⟩
def NM (W:World) (q:Nat) (a b:Nat):Prop:=∃c0 c1 c2 c3 c4 c5 c6,W.heap[q]?=some (.cells #[c0,c1,c2,c3,c4,c5,c6,.func (.func a) #[] #[],.func (.func b) #[] #[]] 220 (0,0))
theorem NM.cells {W:World}{q a b:Nat}(h:NM W q a b):W.cell? ⟨q,7,none⟩=some (.func (.func a) #[] #[])/\W.cell? ⟨q,8,none⟩=some (.func (.func b) #[] #[]):=by
 obtain ⟨c0,c1,c2,c3,c4,c5,c6,h⟩:=h;exact ⟨af h rfl,af h rfl⟩
structure LC (S:Nat->Prop) (g:Nat) (W:World) (T:Nat) (t:Tv) (q a b:Nat) (V:World) (st:Sy):Prop where
 ex:∃Si,SS Si V g st/\(∀k,Si k->S k\/W.heap.size<=k)/\¬Si T/\¬Si q
 kp:Kp S W V
 tb:Lf V T t
 rb:NM V q a b
 tq:T<V.heap.size/\q<V.heap.size/\S g
theorem LC.step {S:Nat->Prop}{g:Nat}{W:World}{T:Nat}{t:Tv}{q a b:Nat}{V V':World}{st st':Sy}(h:LC S g W T t q a b V st) {Si:Nat->Prop}(h1:∀k,Si k->S k\/W.heap.size<=k) (h2:¬Si T) (h3:¬Si q) (m:Mw Si g V V' st'):LC S g W T t q a b V' st':=by
 obtain ⟨⟨S1,a1,a2⟩,hk⟩:=m;obtain ⟨b1,b2,b3⟩:=h.tq;refine ⟨⟨S1,a1,fun k hs=>?_,fun hs=>?_,fun hs=>?_⟩,h.kp.step hk (fun k hlt hs=>?_),hk.blk h.tb h2,?_,Q1 b1 hk.size,Q1 b2 hk.size,b3⟩
 ·rcases a2 k hs with e|e
  ·exact h1 k e
  ·exact .inr (QQ h.kp.size e)
 ·rcases a2 T hs with e|e
  ·exact h2 e
  ·omega
 ·rcases a2 q hs with e|e
  ·exact h3 e
  ·omega
 ·rcases h1 k hs with e|e
  ·exact e
  ·omega
 ·obtain ⟨c0,c1,c2,c3,c4,c5,c6,h9⟩:=h.rb;exact ⟨c0,c1,c2,c3,c4,c5,c6,hk.blk h9 h3⟩
theorem LC.below {S:Nat->Prop}(h:LC S g W T t q a b V st) (hb:Below V.heap.size V V'):LC S g W T t q a b V' st:=by
 obtain ⟨Si,s1,s2,s3,s4⟩:=h.ex;exact h.step s2 s3 s4 ⟨⟨Si,s1.below hb,fun _ h=>.inl h⟩,Kp.of_below hb⟩
theorem EV (f:Fx) (args:Array Value) (w:World):(callFunc f.id args).run Tryz.prog w=.ok (.enter f.id args) w:=by
 cases f <;> kernel_rfl
theorem Bz.aws {n:Nat}{st:Sy}(h:Bz n st) (l:List Pz):Bz (n+l.length) (st.aws l):=by
 induction l generalizing n st with
 |nil=>exact h
 |cons p l ih=>
  have:=ih (h.aw p);rw [bZ,List.length_cons];exact this.mono (by omega)
theorem Gk (st:Sy) (l:List Pz):(st.aws l).mr=st.mr/\st.ws.length<=(st.aws l).ws.length/\(st.aws l).ns.length=st.ns.length:=by
 induction l generalizing st with
 |nil=>exact ⟨rfl,gt _,rfl⟩
 |cons p l ih=>
  obtain ⟨i1,i2,i3⟩:=ih (st.aw p);rw [bZ];refine ⟨i1,?_,i3.trans (nT p st.ns)⟩;have:st.ws.length<=(st.aw p).ws.length:=by rw [ru,Or];omega
  omega
theorem Bz.emp (h:Bz n st) (f:Int):Bz (n+1) (st.emp f):=by
 unfold Sy.emp
 split
 ·exact h.mono (by omega)
 ·split
  ·exact h.mono (by omega)
  ·refine ⟨?_,by have:=h.2.1;show st.ns.length<=_;omega,fun x hx=>by have:=h.2.2 x hx;omega⟩;have:=h.1
   rename_i m _ _
   show (st.ws.take m++dE :: st.ws.drop m).length<=n+1
   simp only [Or,Ri,List.length_cons,Rf];omega
theorem Bz.endl (h:Bz n st):Bz (n+1) st.endl:=by
 unfold Sy.endl
 split
 ·exact ⟨by have:=h.1;show (dH :: st.ws).length<=_;simp;omega,by have:=h.2.1;show st.ns.length<=_;omega,fun x hx=>by have:=h.2.2 x hx;omega⟩
 ·exact h.mono (by omega)
theorem sY (st:Sy) (f:Int):(st.emp f).ns=st.ns:=by unfold Sy.emp;split;rfl;split <;> rfl
theorem kM (st:Sy):st.endl.ns=st.ns:=by unfold Sy.endl;split <;> rfl
theorem np (st:Sy):st.part.ns=st.ns:=by unfold Sy.part;split <;> rfl
theorem xH (f:Fx):f.pz.length<=2:=by cases f <;> decide
theorem LC.lay {S:Nat->Prop}(h:LC S g W T t q a b V st) :
  ∃vw,V.cell? ⟨g,2,none⟩=some vw/\(∃p c,vw=.slice p st.ws.length c)/\Rd V vw st.ws/\∀V1 w3 v' l,Below V.heap.size V V1->Rd w3 v' l->V1.grownBy w3 vw.ownBlock->Nb V1 vw v' ->
   (SB w3 g false (V.cell? ⟨g,1,none⟩ |>.getD undef) vw st.mr.isSome (st.mr.getD 0:Nat) st.wr st.en st.pt) /\
   ∀w5,Kp (fun k=>k=g) w3 w5->SB w5 g false (V.cell? ⟨g,1,none⟩ |>.getD undef) (.slice none 0 0) false 0 true false false ->
    ∃Si,SS Si w5 g ⟨st.ns,[],none,true,false,false⟩/\NM w5 q a b/\∀w6 st6,Mw Si g w5 w6 st6->An S g W w6 v' l st6:=by
 obtain ⟨Si,s1,s2,s3,s4⟩:=h.ex;obtain ⟨vn,vw,hv,v1,v2⟩:=s1.ex;obtain ⟨p,c,ew,_⟩:=bB hv.rd;have hcn:=hv.sb.cells.2.1;refine ⟨vw,hv.sb.cells.2.2.1,⟨p,c,ew⟩,hv.rd,fun V1 w3 v' l hb hr hg hn=>?_⟩;rw [hcn,Um];have k1:=hv.below hb;have hk:Kp (fun k=>vw.ownBlock=some k) V1 w3:=(Kp.of_grown hg).sub (fun k e=>e.symm);have hne:¬vw.ownBlock=some g:=aM k1.rd k1.sb (by decide);have h3:=k1.sb.kp hk hne;have n3:=hk.row k1.rn (fun k e1 e2=>ko k1.rn k1.rd (by decide) k e1 e2);refine ⟨h3,fun w5 hk5 hsb5=>?_⟩;have n5:Rn tN w5 vn st.ns:=hk5.row n3 (fun k e1 e2=>aM n3 h3 (by decide) (by rw [e1,e2]));have r5:Rd w5 v' l:=hk5.row hr (fun k e1 e2=>aM hr h3 (by decide) (by rw [e1,e2]));have hLb:=h.below hb
 have hv':∀k,v'.ownBlock=some k->S k\/W.heap.size<=k:=fun k e=>by
  rcases hn with hn|⟨q',hq,hq2⟩
  ·exact s2 k (v2 k (by rw [<-hn];exact e))
  ·rw [hq] at e;cases e;exact .inr (QQ hLb.kp.size hq2)
 have hvn':∀k,vn.ownBlock=some k->v'.ownBlock≠some k:=fun k e e2=>by
  rcases hn with hn|⟨q',hq,hq2⟩
  ·exact ko k1.rn k1.rd (by decide) k e (by rw [<-hn];exact e2)
  ·rw [hq] at e2;cases e2;have:=gX k1.rn k e;omega
 have hvg:v'.ownBlock≠some g:=aM hr h3 (by decide);refine ⟨fun k=>Si k/\v'.ownBlock≠some k,⟨⟨vn,.slice none 0 0,⟨hsb5,n5,lA _⟩,fun k e=>⟨v1 k e,hvn' k e⟩,fun k e=>by cases e⟩,⟨s1.sg,hvg⟩,fun k hs=>?_⟩,?_,?_⟩
 ·exact Q1 (s1.lt k hs.1) (QQ hb.size (QQ hk.size hk5.size))
 ·obtain ⟨c0,c1,c2,c3,c4,c5,c6,h9⟩:=hLb.rb;exact ⟨c0,c1,c2,c3,c4,c5,c6,hk5.blk (hk.blk h9 (fun e=>s4 (v2 q e))) (fun e=>s4 (by rw [e];exact s1.sg))⟩
 ·rintro w6 st6 ⟨⟨S6,a1,a2⟩,hk6⟩
  have hkS:Kp S W w5:=(hLb.kp.step hk (fun k hlt e=>by
   rcases s2 k (v2 k e) with e2|e2
   ·exact e2
   ·omega)).step hk5 (fun k _ e=>by rw [e];exact h.tq.2.2)
  refine ⟨⟨S6,a1,fun k hs=>?_,fun k e=>⟨hv' k e,fun hs=>?_⟩⟩,yM r5 hk6 (fun k e hs=>hs.2 e),hkS.step hk6 (fun k hlt hs=>?_)⟩
  ·rcases a2 k hs with e|e
   ·exact s2 k e.1
   ·exact .inr (QQ hkS.size e)
  ·rcases a2 k hs with e2|e2
   ·exact e2.2 e
   ·have:=gX r5 k e;omega
  ·rcases s2 k hs.1 with e|e
   ·exact e
   ·omega
set_option maxRecDepth 100000 in
theorem EB {S:Nat->Prop}(h:SS S W g st) (hz:Bz 900000000 st) (hm:∀m,st.mr=some m->m<=st.ws.length) {n:Nd}{r:List Nd}(e:st.ns=n :: r) (t:Tv) :
  Ra 76 #[bV g,.agg #[.int .u8 t.k,.string t.t,.int .i64 t.a,.int .i64 t.l,.int .i64 t.c,.int .i64 t.f]] W fun rr w'=>∃v,rr=.returned v/\An S g W w' v (st.leaf t).2 (st.leaf t).1:=by
 obtain ⟨V,hV⟩:∃V,W.alloc (.cells #[.int .u8 t.k,.string t.t,.int .i64 t.a,.int .i64 t.l,.int .i64 t.c,.int .i64 t.f] 51)=V:=⟨_,rfl⟩;have hB:Below W.heap.size W V:=by rw [<-hV];exact (hH _ _).alloc (gt _) _
 have hT:Lf V W.heap.size t:=by rw [<-hV];exact au _ _
 have hVs:V.heap.size=W.heap.size+1:=by rw [<-hV];show (W.heap.push _).size=_;simp
 have HV:Hid (W.alloc (.cells #[.int .u8 t.k,.string t.t,.int .i64 t.a,.int .i64 t.l,.int .i64 t.c,.int .i64 t.f] 51)=V):=hV;obtain ⟨b,cap,hc,y0,y1,y2,y3⟩:=(h.below hB).nodes e;obtain ⟨R,hR⟩:∃R,aG n t=R:=⟨_,rfl⟩
 obtain ⟨a,b',c,d,e',f',hsix⟩:∃a b c d e f,R.ns=[a,b,c,d,e,f]:=by
  rw [<-hR];unfold aG
  split
  ·cases hq:tab.find? (fun r=>r.fits n t.t) with
   |none=>exact ⟨0,0,0,0,0,0,rfl⟩
   |some x=>exact Qz (yy x (TD hq))
  ·exact ⟨0,0,0,0,0,0,rfl⟩
 have hRv:R.v=.agg #[.int .u8 a,.int .u8 b',.int .u8 c,.int .u8 d,.int .u8 e',.int .u8 f',.string ⟨R.t.toArray⟩,.func (.func R.a.id) #[] #[],.func (.func R.b.id) #[] #[]]:=by
  have:R=⟨[a,b',c,d,e',f'],R.t,R.a,R.b⟩:=by rw [<-hsix]
  rw [this];exact Ku _ _ _ _ _ _ _ _ _
 have HRow:Hid (∀X,Ra 125 #[.agg #[.int .u8 n.k,.int .i64 n.b,.bool n.s],.agg #[.int .u8 t.k,.string t.t,.int .i64 t.a,.int .i64 t.l,.int .i64 t.c,.int .i64 t.f]] X fun e w'=>e=.returned (.agg #[.int .u8 a,.int .u8 b',.int .u8 c,.int .u8 d,.int .u8 e',.int .u8 f',.string ⟨R.t.toArray⟩,.func (.func R.a.id) #[] #[],.func (.func R.b.id) #[] #[]])/\Below X.heap.size X w'):=fun X=>by rw [<-hRv,<-hR];exact AX n t X
 have HI:Hid (∀X,Below V.heap.size V X->Ra 117 #[bV g] X fun rr w'=>rr=.returned (.pointer (some ⟨b,r.length*3,none⟩))/\Below X.heap.size X w'):=fun X hX=>fQ (cE hc hX) (by have:=hz.2.1;rw [e] at this;simp at this;omega)
 have HK:Hid (∀X,Below V.heap.size V X->(X.cell? ⟨b,r.length*3,none⟩=some (.int .u8 n.k)/\X.cell? ⟨b,r.length*3+1,none⟩=some (.int .i64 n.b)/\X.cell? ⟨b,r.length*3+2,none⟩=some (.bool n.s))/\Lf X W.heap.size t):=fun X hX=>⟨⟨cE y0 hX,cE y1 hX,cE y2 hX⟩,ag hT hX⟩
 obtain ⟨t0,t1,t2,t3,t4,t5⟩:=hT.cells;have hbl:=QP _ _ y0;have HVs:=show Hid (V.heap.size=W.heap.size+1) from hVs
 have hTlt:W.heap.size<V.heap.size:=by omega
 clear y3 hV hVs
 go_enter Tryz.func76,Tryz.ntmps76
 go_upto_region 1 with fail
 rw [HV.out];have HBz:Hid (Below V.heap.size V (V.alloc (.cells #[.int .u8 0,.int .u8 0,.int .u8 0,.int .u8 0,.int .u8 0,.int .u8 0,.string ⟨#[]⟩,.nilFunc,.nilFunc] 220)).drew):=((hH _ V).alloc (gt _) _).drew;have HQz:Hid (∀w',Below (V.alloc (.cells #[.int .u8 0,.int .u8 0,.int .u8 0,.int .u8 0,.int .u8 0,.int .u8 0,.string ⟨#[]⟩,.nilFunc,.nilFunc] 220)).drew.heap.size (V.alloc (.cells #[.int .u8 0,.int .u8 0,.int .u8 0,.int .u8 0,.int .u8 0,.int .u8 0,.string ⟨#[]⟩,.nilFunc,.nilFunc] 220)).drew w'->w'.heap[V.heap.size]?=some (.cells #[.int .u8 0,.int .u8 0,.int .u8 0,.int .u8 0,.int .u8 0,.int .u8 0,.string ⟨#[]⟩,.nilFunc,.nilFunc] 220 (0,0))):=fun w' hw=>ag (W:=(V.alloc (.cells #[.int .u8 0,.int .u8 0,.int .u8 0,.int .u8 0,.int .u8 0,.int .u8 0,.string ⟨#[]⟩,.nilFunc,.nilFunc] 220)).drew) (au V _) hw
 have HQy:Hid (∀w1 w',Below (w1.alloc (.cells #[.int .u8 0,.int .u8 0,.int .u8 0,.int .u8 0,.int .u8 0,.int .u8 0,.string ⟨#[]⟩,.nilFunc,.nilFunc] 220)).heap.size (w1.alloc (.cells #[.int .u8 0,.int .u8 0,.int .u8 0,.int .u8 0,.int .u8 0,.int .u8 0,.string ⟨#[]⟩,.nilFunc,.nilFunc] 220)) w'->w'.heap[w1.heap.size]?=some (.cells #[.int .u8 0,.int .u8 0,.int .u8 0,.int .u8 0,.int .u8 0,.int .u8 0,.string ⟨#[]⟩,.nilFunc,.nilFunc] 220 (0,0))/\Below w1.heap.size w1 w'):=fun w1 w' hw=>⟨ag (au w1 _) hw,((hH _ w1).alloc (gt _) _).trans (hw.mono (by show _<=(w1.heap.push _).size;simp))⟩
 go_cut [5] from 7 to 12 (fun t9 wx=>∃q,t9=.pointer (some ⟨q,0,none⟩)/\Hid (Below V.heap.size V wx/\V.heap.size<=q/\wx.heap[q]?=some (.cells #[.int .u8 a,.int .u8 b',.int .u8 c,.int .u8 d,.int .u8 e',.int .u8 f',.string ⟨R.t.toArray⟩,.func (.func R.a.id) #[] #[],.func (.func R.b.id) #[] #[]] 220 (0,0))))
 case first=>
  clear h hz hm e hB hc hR hsix hRv
  go_region_law (first|(go_simp;go_at_call 117;refine (HI.out _ (by first|exact (hH _ _).drew|exact HBz.out)).mono ?_;rintro r1 w1 ⟨rfl,hb1⟩;have HB1:=show Hid (Below V.heap.size V w1) from (by first|exact (hH V.heap.size V).drew.trans (hb1.mono (gt _))|exact HBz.out.trans (hb1.mono HBz.out.size));obtain ⟨⟨z0,z1,z2⟩,zt⟩:=HK.out _ HB1.out;obtain ⟨u0,u1,u2,u3,u4,u5⟩:=zt.cells;have hb9:=QP _ _ z0;have hbt:=QP _ _ u0;(try (have hq1:=HQz.out _ hb1));clear hb1 zt)|(go_simp;go_at_call 125;refine (HRow.out _).mono ?_;rintro r2 w2 ⟨rfl,hb2⟩;first|(have hq2:=ag hq1 hb2;have HB2:=show Hid (Below w1.heap.size w1 w2) from hb2;have zz0:=af (k:=0) hq2 rfl;have zz1:=af (k:=1) hq2 rfl;have zz2:=af (k:=2) hq2 rfl;have zz3:=af (k:=3) hq2 rfl;have zz4:=af (k:=4) hq2 rfl;have zz5:=af (k:=5) hq2 rfl;have zz6:=af (k:=6) hq2 rfl;have zz7:=af (k:=7) hq2 rfl;have zz8:=af (k:=8) hq2 rfl;have zf:=fun j=>am (k:=j) hq2;clear hb2 hq1)|(have hq5:=HQy.out _ _ hb2;have hq2:=hq5.1;have HB2:=show Hid (Below w1.heap.size w1 w2) from hq5.2;have zz0:=af (k:=0) hq2 rfl;have zz1:=af (k:=1) hq2 rfl;have zz2:=af (k:=2) hq2 rfl;have zz3:=af (k:=3) hq2 rfl;have zz4:=af (k:=4) hq2 rfl;have zz5:=af (k:=5) hq2 rfl;have zz6:=af (k:=6) hq2 rfl;have zz7:=af (k:=7) hq2 rfl;have zz8:=af (k:=8) hq2 rfl;have zf:=fun j=>am (k:=j) hq2;clear hb2 hq5)|(have HB2:=show Hid (Below w1.heap.size w1 w2) from hb2;clear hb2)))
  all_goals (
   go_wp2_with fail
   go_meet
   have hB12:=HB1.out.trans (HB2.out.mono HB1.out.size)
   first
    | (refine ⟨w2.heap.size,rfl,?_⟩;exact ⟨hB12.alloc hB12.size _,hB12.size,au w2 _⟩)
    | (refine ⟨V.heap.size,rfl,?_⟩;have hle:V.heap.size<=V.heap.size:=gt _;exact ⟨(((((((((hB12.setCell (p:=⟨V.heap.size,0,none⟩) hle _).setCell (p:=⟨V.heap.size,1,none⟩) hle _).setCell (p:=⟨V.heap.size,2,none⟩) hle _).setCell (p:=⟨V.heap.size,3,none⟩) hle _).setCell (p:=⟨V.heap.size,4,none⟩) hle _).setCell (p:=⟨V.heap.size,5,none⟩) hle _).setCell (p:=⟨V.heap.size,6,none⟩) hle _).setCell (p:=⟨V.heap.size,7,none⟩) hle _).setCell (p:=⟨V.heap.size,8,none⟩) hle _),hle,(aj (aj (aj (aj (aj (aj (aj (aj (aj hq2 0 (.int .u8 a)) 1 (.int .u8 b')) 2 (.int .u8 c)) 3 (.int .u8 d)) 4 (.int .u8 e')) 5 (.int .u8 f')) 6 (.string ⟨R.t.toArray⟩)) 7 (.func (.func R.a.id) #[] #[])) 8 (.func (.func R.b.id) #[] #[])).trans (by kernel_rfl)⟩)
    | (refine ⟨w1.heap.size,rfl,?_⟩;have hle:V.heap.size<=w1.heap.size:=HB1.out.size;exact ⟨(((((((((hB12.setCell (p:=⟨w1.heap.size,0,none⟩) hle _).setCell (p:=⟨w1.heap.size,1,none⟩) hle _).setCell (p:=⟨w1.heap.size,2,none⟩) hle _).setCell (p:=⟨w1.heap.size,3,none⟩) hle _).setCell (p:=⟨w1.heap.size,4,none⟩) hle _).setCell (p:=⟨w1.heap.size,5,none⟩) hle _).setCell (p:=⟨w1.heap.size,6,none⟩) hle _).setCell (p:=⟨w1.heap.size,7,none⟩) hle _).setCell (p:=⟨w1.heap.size,8,none⟩) hle _),hle,(aj (aj (aj (aj (aj (aj (aj (aj (aj hq2 0 (.int .u8 a)) 1 (.int .u8 b')) 2 (.int .u8 c)) 3 (.int .u8 d)) 4 (.int .u8 e')) 5 (.int .u8 f')) 6 (.string ⟨R.t.toArray⟩)) 7 (.func (.func R.a.id) #[] #[])) 8 (.func (.func R.b.id) #[] #[])).trans (by kernel_rfl)⟩))
 case rest=>
  obtain ⟨q,rfl,HQ⟩:=hcut;obtain ⟨w1,hw1⟩:∃w1,w1=wc:=⟨wc,rfl⟩;subst hw1;obtain ⟨s1,hs1⟩:∃s1,st.aws R.a.pz=s1:=⟨_,rfl⟩;obtain ⟨s2,hs2⟩:∃s2,s1.emp t.f=s2:=⟨_,rfl⟩;obtain ⟨s3,hs3⟩:∃s3,s2.endl=s3:=⟨_,rfl⟩;obtain ⟨s4,hs4⟩:∃s4,s3.part=s4:=⟨_,rfl⟩;have z1:Bz 900000002 s1:=by rw [<-hs1];exact (hz.aws _).mono (by have:=xH R.a;omega)
  have z2:Bz 900000003 s2:=by rw [<-hs2];exact z1.emp _
  have z3:Bz 900000004 s3:=by rw [<-hs3];exact z2.endl
  have z4:s4.ws.length<=900000005:=by
   rw [<-hs4];unfold Sy.part
   split
   ·have:=z3.1;show (s3.ws++[dS]).length<=_;simp;omega
   ·have:=z3.1;omega
  have e1:s1.ns≠[]:=by
   intro h0;have:=(Gk st R.a.pz).2.2;rw [hs1,h0,e] at this;simp at this
  have e3:s3.ns=s1.ns:=by rw [<-hs3,kM,<-hs2,sY]
  have e4:s4.ns=s1.ns:=by rw [<-hs4,np,e3]
  have z4n:∀x∈s4.ns,x.b<=900000005:=fun x hx=>by rw [e4] at hx;have:=z1.2.2 x hx;omega
  have z4l:s4.ns.length<=900000005:=by rw [e4];have:=z1.2.1;omega
  have hm1:∀m,s1.mr=some m->m<=s1.ws.length:=fun m h0=>by
   obtain ⟨x1,x2,_⟩:=Gk st R.a.pz;rw [hs1] at x1 x2;have:=hm m (by rw [<-x1];exact h0);omega
  have HL1:Hid (LC S g W W.heap.size t q R.a.id R.b.id w1 st):=by
   have hbw:Below W.heap.size W w1:=hB.trans (HQ.out.1.mono hB.size);have hnT:¬S W.heap.size:=fun hs=>by have:=h.lt _ hs;omega
   have hnq:¬S q:=fun hs=>by have:=h.lt _ hs;have:=HQ.out.2.1;omega
   exact ⟨⟨S,h.below hbw,fun _ h=>.inl h,hnT,hnq⟩,Kp.of_below hbw,ag hT HQ.out.1,⟨_,_,_,_,_,_,_,HQ.out.2.2⟩,by have:=HQ.out.1.size;omega,aq HQ.out.2.2,h.sg⟩
  have HA:Hid (∀X,LC S g W W.heap.size t q R.a.id R.b.id X st->Ra R.a.id #[bV g] X fun rr w'=>rr=.returned (.tuple #[])/\LC S g W W.heap.size t q R.a.id R.b.id w' s1):=fun X hX=>by
   obtain ⟨Si,x1,x2,x3,x4⟩:=hX.ex;refine (EX R.a x1 (by rw [e];simp) (hz.mono (by omega))).mono ?_;rintro rr w' ⟨rfl,m⟩;rw [hs1] at m;exact ⟨rfl,hX.step x2 x3 x4 m.w⟩
  have HP:Hid (∀X,LC S g W W.heap.size t q R.a.id R.b.id X s1->Ra 126 #[bV g,.int .i64 t.f] X fun rr w'=>rr=.returned (.tuple #[])/\LC S g W W.heap.size t q R.a.id R.b.id w' s2):=fun X hX=>by
   obtain ⟨Si,x1,x2,x3,x4⟩:=hX.ex;refine (r9 x1 (by have:=z1.1;omega) hm1 t.f).mono ?_;rintro rr w' ⟨rfl,m⟩;rw [hs2] at m;exact ⟨rfl,hX.step x2 x3 x4 m.w⟩
  have HEn:Hid (∀X,LC S g W W.heap.size t q R.a.id R.b.id X s2->Ra 78 #[bV g] X fun rr w'=>rr=.returned (.tuple #[])/\LC S g W W.heap.size t q R.a.id R.b.id w' s3):=fun X hX=>by
   obtain ⟨Si,x1,x2,x3,x4⟩:=hX.ex;refine (mz x1 (by have:=z2.1;omega)).mono ?_;rintro rr w' ⟨rfl,m⟩;rw [hs3] at m;exact ⟨rfl,hX.step x2 x3 x4 m.w⟩
  have HAn:Hid (∀X,LC S g W W.heap.size t q R.a.id R.b.id X s3->Ra 127 #[bV g,.func (.func 128) #[] #[]] X fun rr w'=>rr=.returned (.bool (s3.ws.any bQ))/\LC S g W W.heap.size t q R.a.id R.b.id w' s3):=fun X hX=>by
   obtain ⟨Si,x1,x2,x3,x4⟩:=hX.ex;obtain ⟨vn,vw,hv,_⟩:=x1.ex;refine (Cs hv (by have:=z3.1;omega)).mono ?_;rintro rr w' ⟨rfl,hb⟩;exact ⟨rfl,hX.below hb⟩
  have HBl:Hid (∀X,LC S g W W.heap.size t q R.a.id R.b.id X s3->s3.pt=true/\s3.ws.any bQ=false->Ra 129 #[bV g] X fun rr w'=>rr=.returned (.tuple #[])/\LC S g W W.heap.size t q R.a.id R.b.id w' s4):=fun X hX hd=>by
   obtain ⟨Si,x1,x2,x3,x4⟩:=hX.ex;refine (jr x1 (by rw [e3];exact e1) (z3.mono (by omega))).mono ?_;rintro rr w' ⟨rfl,m⟩
   have e9:s3.aw .S=s4:=by
    rw [<-hs4];unfold Sy.part;rw [IO hd];unfold Sy.aw;have:ia .S s3.ns=s3.ns:=by cases s3.ns with|nil=>rfl|cons x y=>rfl
    rw [this];rfl
   rw [e9] at m;exact ⟨rfl,hX.step x2 x3 x4 m.w⟩
  have HNp:Hid (¬(s3.pt=true/\s3.ws.any bQ=false)->s3=s4):=fun hd=>by rw [<-hs4];unfold Sy.part;rw [Eq hd]
  have HCp:Hid (∀X,LC S g W W.heap.size t q R.a.id R.b.id X s3->X.cell? ⟨g,7,none⟩=some (.bool s3.pt)):=fun X hX=>by
   obtain ⟨Si,x1,x2,x3,x4⟩:=hX.ex;obtain ⟨vn,vw,hv,_⟩:=x1.ex;exact hv.sb.cells.2.2.2.2.2.2.2
  have HLf:Hid ((st.leaf t).2=s4.ws++[dT t.t]/\(st.leaf t).1=Sy.aws ⟨s4.ns,[],none,true,false,false⟩ R.b.pz):=by
   unfold Sy.leaf;rw [e];simp only;rw [hR];have:st.ready R.a t.f=s4:=by unfold Sy.ready;rw [hs1,hs2,hs3,hs4]
   rw [this];exact ⟨rfl,rfl⟩
  have HTx:Hid (∀X,Ra 130 #[.agg #[.int .u8 t.k,.string t.t,.int .i64 t.a,.int .i64 t.l,.int .i64 t.c,.int .i64 t.f]] X fun e w'=>e=.returned (.agg #[.int .u8 1,.string t.t,.int .i64 0,.int .i64 0,.bool false])/\Below X.heap.size X w'):=ov t;have HZ4:=show Hid (s4.ns≠[]/\s4.ws.length<=900000005/\(∀x∈s4.ns,x.b<=900000005)/\s4.ns.length<=900000005) from ⟨by rw [e4];exact e1,z4,z4n,z4l⟩
  have eA:=EV R.a;have eB:=EV R.b;clear h hz hm e hB hT hc y0 y1 y2 hR hsix hRv HRow HI HK t0 t1 t2 t3 t4 t5 hbl hTlt HV HVs HBz HQz HQy hs1 hs2 hs3 hs4 z1 z2 z3 z4 e1 e3 e4 z4n z4l hm1;obtain ⟨r7,r8⟩:=HL1.out.rb.cells
  go_wp2_with fail
  refine (HA.out _ HL1.out).mono ?_;rintro rr w2 ⟨rfl,hL2⟩;obtain ⟨t0,t1,t2,t3,t4,t5⟩:=hL2.tb.cells;have HL2:=show Hid (LC S g W W.heap.size t q R.a.id R.b.id w2 s1) from hL2
  clear hL2 HA HL1 r7 r8 eA
  go_upto_region 5 with (first|(go_at_call 126;refine (HP.out _ HL2.out).mono ?_;rintro rr w3 ⟨rfl,hL3⟩;have HL3:=show Hid (LC S g W W.heap.size t q R.a.id R.b.id w3 s2) from hL3;clear hL3)|(go_at_call 78;refine (HEn.out _ HL3.out).mono ?_;rintro rr w4 ⟨rfl,hL4⟩;have HL4:=show Hid (LC S g W W.heap.size t q R.a.id R.b.id w4 s3) from hL4;clear hL4))
  clear t0 t1 t2 t3 t4 t5 HP HEn HL2 HL3;have c7:=HCp.out _ HL4.out;obtain ⟨b9,hb9⟩:∃b9:Bool,decide (s3.pt=true/\s3.ws.any bQ=false)=b9:=⟨_,rfl⟩;have HX9:=show Hid (decide (s3.pt=true/\s3.ws.any bQ=false)=b9) from hb9
  clear hb9
  go_cut [31] from 23 to 31 (fun t9 wx=>t9=.bool b9/\Hid (LC S g W W.heap.size t q R.a.id R.b.id wx s3))
  case first=>
   cases hp:s3.pt with
   |false=>
    have HY:Hid (false=b9):=by rw [<-HX9.out,QX (fun h=>by rw [hp] at h;cases h.1)];exact rfl
    rw [hp] at c7;clear HX9 hp HBl HNp HCp
    go_wp2_with fail
    go_meet
    exact ⟨by rw [HY.out],HL4⟩
   |true=>
    rw [hp] at c7;cases ha:s3.ws.any bQ with
    |true=>
     have HY:Hid (false=b9):=by rw [<-HX9.out,QX (fun h=>by rw [ha] at h;cases h.2)];exact rfl
     rw [ha] at HAn;clear HX9 hp ha HBl HNp HCp
     go_wp2_with (go_at_call 127;refine (HAn.out _ HL4.out).mono ?_;rintro rr w5 ⟨rfl,hL5⟩;have HL5:=show Hid (LC S g W W.heap.size t q R.a.id R.b.id w5 s3) from hL5;clear hL5)
     go_meet
     exact ⟨by rw [HY.out],HL5⟩
    |false=>
     have HY:Hid (true=b9):=by rw [<-HX9.out,QW ⟨hp,ha⟩];exact rfl
     rw [ha] at HAn;clear HX9 hp ha HBl HNp HCp
     go_wp2_with (go_at_call 127;refine (HAn.out _ HL4.out).mono ?_;rintro rr w5 ⟨rfl,hL5⟩;have HL5:=show Hid (LC S g W W.heap.size t q R.a.id R.b.id w5 s3) from hL5;clear hL5)
     go_meet
     exact ⟨by rw [HY.out],HL5⟩
  case rest=>
  obtain ⟨rfl,HL5⟩:=hcut;obtain ⟨w5,hw5⟩:∃w5,w5=wc:=⟨wc,rfl⟩;subst hw5;clear HL4 c7
  go_upto_if 31 with fail
  go_cut [] from 32 to 33 (fun wx=>Hid (LC S g W W.heap.size t q R.a.id R.b.id wx s4))
  case first=>
   cases b9 with
   |true=>
    have HB:=show Hid (Ra 129 #[bV g] w5 fun rr w'=>rr=.returned (.tuple #[])/\LC S g W W.heap.size t q R.a.id R.b.id w' s4) from HBl.out _ HL5.out (Rm HX9.out)
    clear HX9 HBl HNp HCp HAn
    go_wp2_with (go_at_call 129;refine HB.out.mono ?_;rintro rr w6 ⟨rfl,hL6⟩;have HL6:=show Hid (LC S g W W.heap.size t q R.a.id R.b.id w6 s4) from hL6;clear hL6)
    go_meet
    exact HL6
   |false=>
    have HL6:=show Hid (LC S g W W.heap.size t q R.a.id R.b.id w5 s4) from (by have:=HNp.out (T2 HX9.out);rw [<-this];exact HL5.out)
    clear HX9 HBl HNp HCp HAn
    go_wp2_with fail
    go_meet
    exact HL6
  case rest=>
  have HL6:=hcut;obtain ⟨w6,hw6⟩:∃w6,w6=wc:=⟨wc,rfl⟩;subst hw6;clear hcut HL5 HX9 HBl HNp HCp HAn;obtain ⟨vw,k1,⟨pw,cw,evw⟩,k3,k4⟩:=HL6.out.lay;subst evw;obtain ⟨vnv,hvn⟩:∃vnv,(w6.cell? ⟨g,1,none⟩).getD undef=vnv:=⟨_,rfl⟩;rw [hvn] at k4;have HK4:=show Hid (∀V1 w3 v' l,Below w6.heap.size w6 V1->Rd w3 v' l->V1.grownBy w3 (Value.slice pw s4.ws.length cw).ownBlock->Nb V1 (.slice pw s4.ws.length cw) v'->(SB w3 g false vnv (.slice pw s4.ws.length cw) s4.mr.isSome (s4.mr.getD 0:Nat) s4.wr s4.en s4.pt)/\∀w5,Kp (fun k=>k=g) w3 w5->SB w5 g false vnv (.slice none 0 0) false 0 true false false->∃Si,SS Si w5 g ⟨s4.ns,[],none,true,false,false⟩/\NM w5 q R.a.id R.b.id/\∀w6 st6,Mw Si g w5 w6 st6->An S g W w6 v' l st6) from k4
  have HK3:=show Hid (∀X,Below w6.heap.size w6 X->Rd X (.slice pw s4.ws.length cw) s4.ws) from (fun X hX=>fg k3 hX)
  obtain ⟨t0,t1,t2,t3,t4,t5⟩:=HL6.out.tb.cells;have hTl:=HL6.out.tq.1;have hll:=HZ4.out.2.1;have HKc:=show Hid (∀X,Below w6.heap.size w6 X->X.cell? ⟨g,2,none⟩=some (.slice pw s4.ws.length cw)/\Lf X W.heap.size t) from (fun X hX=>⟨cE k1 hX,ag HL6.out.tb hX⟩)
  clear k3 k4 hvn
  go_upto_region 7 with fail
  go_cut [6] from 34 to 41 (fun t9 wx=>∃p n c,t9=.slice p n c/\Hid ((SB wx g false vnv (.slice pw s4.ws.length cw) s4.mr.isSome (s4.mr.getD 0:Nat) s4.wr s4.en s4.pt)/\∀w5,Kp (fun k=>k=g) wx w5->SB w5 g false vnv (.slice none 0 0) false 0 true false false->∃Si,SS Si w5 g ⟨s4.ns,[],none,true,false,false⟩/\NM w5 q R.a.id R.b.id/\∀w6 st6,Mw Si g w5 w6 st6->An S g W w6 (.slice p n c) (s4.ws++[dT t.t]) st6))
  case first=>
   have HBd:=show Hid (Below w6.heap.size w6 w6.drew) from (hH _ _).drew
   go_region_law (first|(go_simp;go_at_call 130;refine (HTx.out _).mono ?_;rintro rr w7 ⟨rfl,hb7⟩;have HB7:=show Hid (Below w6.heap.size w6 w7) from (hH w6.heap.size w6).drew.trans (hb7.mono (gt _));have y1:=(HKc.out _ HB7.out).1;obtain ⟨u0,u1,u2,u3,u4,u5⟩:=(HKc.out _ HB7.out).2.cells;have hg7:=QP _ _ y1;clear hb7)|(refine De (by rfl) _ _ (by rfl) (.slice pw s4.ws.length cw) s4.ws (dT t.t) (by rfl) (HK3.out _ (HB7.out.alloc HB7.out.size _)) w7.heap.size 1 (by rfl) (au w7 _) (by omega) ?_;intro q9 cp w8 hr8 hg8 hq8;have HX8:=show Hid _ from HK4.out _ _ _ _ (HB7.out.alloc HB7.out.size _) hr8 hg8 (by rcases hq8 with h|h;exact .inl h.symm;exact .inr ⟨q9,rfl,by omega⟩);clear hr8 hg8 hq8))
   all_goals (
    go_wp2_with fail
    go_meet
    exact ⟨_,_,_,rfl,HX8⟩)
  case rest=>
  obtain ⟨p9,n9,c9,rfl,HX⟩:=hcut;obtain ⟨w8,hw8⟩:∃w8,w8=wc:=⟨wc,rfl⟩;subst hw8;have hsb:=HX.out.1;obtain ⟨c0,c1,c2,c3,c4,c5,c6,c7⟩:=hsb.cells;have f2:=hsb.frozen 2;have f3:=hsb.frozen 3;have f4:=hsb.frozen 4;have f5:=hsb.frozen 5;have f6:=hsb.frozen 6;have f7:=hsb.frozen 7;have hk9:Kp (fun k=>k=g) w8 ((((((w8.setCell ⟨g,2,none⟩ (.slice none 0 0)).setCell ⟨g,3,none⟩ (.bool false)).setCell ⟨g,4,none⟩ (.int .i64 0)).setCell ⟨g,6,none⟩ (.bool false)).setCell ⟨g,7,none⟩ (.bool false)).setCell ⟨g,5,none⟩ (.bool true)):=(((((Kp.set _ _ _ _).trans (Kp.set _ _ _ _)).trans (Kp.set _ _ _ _)).trans (Kp.set _ _ _ _)).trans (Kp.set _ _ _ _)).trans (Kp.set _ _ _ _);have hs9:SB ((((((w8.setCell ⟨g,2,none⟩ (.slice none 0 0)).setCell ⟨g,3,none⟩ (.bool false)).setCell ⟨g,4,none⟩ (.int .i64 0)).setCell ⟨g,6,none⟩ (.bool false)).setCell ⟨g,7,none⟩ (.bool false)).setCell ⟨g,5,none⟩ (.bool true)) g false vnv (.slice none 0 0) false 0 true false false:=aj (aj (aj (aj (aj (aj hsb 2 _) 3 _) 4 _) 6 _) 7 _) 5 _;obtain ⟨Si,x1,x2,x3⟩:=HX.out.2 _ hk9 hs9;have HSi:=ai x1;have HFi:=ai x3;have r8:=x2.cells.2;obtain ⟨w9,hw9⟩:∃w9,(((((w8.setCell ⟨g,2,none⟩ (.slice none 0 0)).setCell ⟨g,3,none⟩ (.bool false)).setCell ⟨g,4,none⟩ (.int .i64 0)).setCell ⟨g,6,none⟩ (.bool false)).setCell ⟨g,7,none⟩ (.bool false)).setCell ⟨g,5,none⟩ (.bool true)=w9:=⟨_,rfl⟩;rw [hw9] at r8;have HW9:=show Hid ((((((w8.setCell ⟨g,2,none⟩ (.slice none 0 0)).setCell ⟨g,3,none⟩ (.bool false)).setCell ⟨g,4,none⟩ (.int .i64 0)).setCell ⟨g,6,none⟩ (.bool false)).setCell ⟨g,7,none⟩ (.bool false)).setCell ⟨g,5,none⟩ (.bool true)=w9) from hw9
  have HBe:Hid (Ra R.b.id #[bV g] w9 fun rr w'=>rr=.returned (.tuple #[])/\An S g W w' (.slice p9 n9 c9) (st.leaf t).2 (st.leaf t).1):=by
   rw [<-hw9];obtain ⟨y1,y2,y3,y4⟩:=HZ4.out;refine (EX R.b HSi.out y1 ⟨by simp,by show s4.ns.length<=_;omega,fun x hx=>by have:=y3 x hx;omega⟩).mono ?_;rintro rr w' ⟨rfl,m⟩;rw [HLf.out.1,HLf.out.2];exact ⟨rfl,HFi.out _ _ m.w⟩
  clear hw9 hk9 hs9 x1 x2 x3 hsb HX HSi HFi HLf HK3 HK4 HKc HL6 t0 t1 t2 t3 t4 t5 k1 hTl HTx
  go_upto_region 10 with fail
  rw [HW9.out];clear c0 c1 c2 c3 c4 c5 c6 c7 f2 f3 f4 f5 f6 f7
  go_wp2_with fail
  refine HBe.out.mono ?_;rintro rr w10 ⟨rfl,hA⟩;have HAn:=show Hid (An S g W w10 (.slice p9 n9 c9) (st.leaf t).2 (st.leaf t).1) from hA
  clear hA HBe
  go_wp2_with fail
  go_ret
  exact ⟨_,rfl,HAn.out⟩
end Go.Proofs.YtjiepkenkcgkhaaGreatDoor
