import Derived.Test.YtcmbkeghnmgbfaaGreatDoorM29
set_option linter.all false
namespace Go.Proofs.YtcmbkeghnmgbfaaGreatDoor
open Go.RowKit
open Lw (Dc bE rt cH cY iA me bD aQ bO)
variable {st st':Sy}{g T n q a b:Nat}{W V V':World}{t:Tv}{v:Value}{l:List Dc}
def F6 (W:World) (T:Nat) (t:Tv):Prop:=W.heap[T]?=some (.cells #[.int .u8 t.k,.string t.t,.int .i64 t.a,.int .i64 t.l,.int .i64 t.c,.int .i64 t.f] 76 (0,0))
theorem F6.cells {W:World}{T:Nat}{t:Tv}(h:F6 W T t):W.cell? ⟨T,0,none⟩=some (.int .u8 t.k)/\W.cell? ⟨T,1,none⟩=some (.string t.t)/\W.cell? ⟨T,2,none⟩=some (.int .i64 t.a)/\W.cell? ⟨T,3,none⟩=some (.int .i64 t.l)/\W.cell? ⟨T,4,none⟩=some (.int .i64 t.c)/\W.cell? ⟨T,5,none⟩=some (.int .i64 t.f):=
 ⟨aa h rfl,aa h rfl,aa h rfl,aa h rfl,aa h rfl,aa h rfl⟩
structure NC (S:Nat->Prop) (g:Nat) (W:World) (T:Nat) (t:Tv) (V:World) (v:Value) (l:List Dc) (st:Sy):Prop where
 an:An S g W V v l st
 tb:F6 V T t
 tn:¬S T/\T<V.heap.size/\T≠g/\v.ownBlock≠some T
theorem An.below {S:Nat->Prop}(h:An S g W V v l st) (u:Below V.heap.size V V'):An S g W V' v l st:=by
 obtain⟨⟨F,G,H,I⟩,J,M⟩:=h;exact⟨⟨F,G.below u,H,I⟩,dG J u,M.step (Kp.of_below (S:=fun _=>False) u) (fun _ _ h=>h.elim)⟩
theorem NC.below {S:Nat->Prop}(h:NC S g W T t V v l st) (u:Below V.heap.size V V'):NC S g W T t V' v l st:=
 ⟨h.an.below u,af h.tb u,h.tn.1,Kl h.tn.2.1 u.size,h.tn.2.2⟩
theorem NC.app {S:Nat->Prop}{F w':World}{v':Value}{l':List Dc}(h:NC S g W T t V v l st) (hb:Below V.heap.size V F) (hr:Rd w' v' l') (hg:F.grownBy w' v.ownBlock) (I:Nb F v v'):NC S g W T t w' v' l' st:=by
 obtain⟨⟨⟨O,a1,a2,G⟩,a4,a5⟩,b1,b2,b3,b4,b5⟩:=h.below hb;have H:Kp (fun k=>v.ownBlock=some k) F w':=(Kp.of_grown hg).sub (fun k e=>e.symm)
 have u:∀k,v'.ownBlock=some k->(S k\/W.heap.size<=k)/\¬O k/\k≠T:=fun k e=>by
  rcases I with I|⟨q,hq,M⟩
  ·rw[I]at e;exact⟨(G k e).1,(G k e).2,fun ek=>b5 (by rw[<-ek];exact e)⟩
  ·rw[hq]at e;cases e;refine⟨.inr (Kh a5.size M),fun J=>?_,fun ek=>by omega⟩;have:=a1.lt k J;omega
 refine⟨⟨⟨O,a1.kp H (fun k J e=>(G k e).2 J),a2,fun k e=>⟨(u k e).1,(u k e).2.1⟩⟩,hr,a5.step H (fun k aa e=>?_)⟩,H.blk b1 (fun e=>b5 e),b2,Kl b3 H.size,b4,fun e=>(u T e).2.2 rfl⟩
 rcases(G k e).1 with h1|h1
 ·exact h1
 ·omega
theorem SS.gset {S:Nat->Prop}{W':World}(h:SS S W g st) (H:Kp (fun k=>k=g) W W') (I:∀vn vw,SB W g false vn vw st.mr.isSome (st.mr.getD 0:Nat) st.wr st.en st.pt->SB W' g false vn vw st'.mr.isSome (st'.mr.getD 0:Nat) st'.wr st'.en st'.pt) (J:st'.ns=st.ns) (O:st'.ws=st.ws):SS S W' g st':=by
 obtain⟨vn,vw,u,s1,s2⟩:=h.ex;refine⟨⟨vn,vw,⟨I _ _ u.sb,?_,?_⟩,s1,s2⟩,h.sg,fun k M=>Kl (h.lt k M) H.size⟩
 ·rw[J];exact H.row u.rn (fun k F G=>aE u.rn u.sb (by decide) (by rw[F,G]))
 ·rw[O];exact H.row u.rd (fun k F G=>aE u.rd u.sb (by decide) (by rw[F,G]))
theorem NC.gset {S:Nat->Prop}(h:NC S g W T t V v l st) (hS:S g) (u:Kp (fun k=>k=g) V V') (hb:∀vn vw,SB V g false vn vw st.mr.isSome (st.mr.getD 0:Nat) st.wr st.en st.pt->SB V' g false vn vw st'.mr.isSome (st'.mr.getD 0:Nat) st'.wr st'.en st'.pt) (hn:st'.ns=st.ns) (hw:st'.ws=st.ws):NC S g W T t V' v l st':=by
 obtain⟨⟨⟨I,F,J,M⟩,G,O⟩,b1,b2,b3,H,b5⟩:=h;obtain⟨vn,vw,hv,_⟩:=F.ex;exact⟨⟨⟨I,F.gset u hb hn hw,J,M⟩,uX G u (fun k e1 e2=>aE G hv.sb (by decide) (by rw[e1,e2])),O.step u (fun k _ e=>by rw[e];exact hS)⟩,u.blk b1 H,b2,Kl b3 u.size,H,b5⟩
theorem NC.cells {S:Nat->Prop}{g:Nat}{W V:World}{T:Nat}{t:Tv}{v:Value}{l:List Dc}{st:Sy}(h:NC S g W T t V v l st) :
  (V.cell? ⟨g,3,none⟩=some (.bool st.mr.isSome)/\V.cell? ⟨g,4,none⟩=some (.int .i64 (st.mr.getD 0:Nat))/\V.cell? ⟨g,5,none⟩=some (.bool st.wr)/\V.cell? ⟨g,6,none⟩=some (.bool st.en)/\V.cell? ⟨g,7,none⟩=some (.bool st.pt))/\(V.frozen? ⟨g,3,none⟩=false/\V.frozen? ⟨g,4,none⟩=false/\V.frozen? ⟨g,5,none⟩=false/\V.frozen? ⟨g,6,none⟩=false/\V.frozen? ⟨g,7,none⟩=false)/\g<V.heap.size:=by
 obtain⟨⟨⟨F,u,G,H⟩,I,J⟩,b1,b2,b3,M,O⟩:=h;obtain⟨vn,vw,hv,_⟩:=u.ex;obtain⟨c0,c1,c2,c3,c4,c5,c6,c7⟩:=hv.sb.cells;exact⟨⟨c3,c4,c5,c6,c7⟩,⟨hv.sb.frozen 3,hv.sb.frozen 4,hv.sb.frozen 5,hv.sb.frozen 6,hv.sb.frozen 7⟩,hv.sb.lt⟩
abbrev uz (x:ByteArray):Obj:=.cells #[.int .u8 2,.string ⟨#[]⟩,.int .i64 0,.int .i64 0,.bool false,.int .u8 1,.string x,.int .i64 0,.int .i64 0,.bool false] 151
theorem nN (x:ByteArray) (w:World):(w.alloc (uz x)).heap[w.heap.size]?=some (.cells (bD [dS,dT x]).toArray 151 (0,0)):=am w _
theorem oz (d:Dc) (w:World):(w.alloc (.cells #[.int .u8 d.k,.string d.t,.int .i64 d.b,.int .i64 d.i,.bool d.e] 151)).heap[w.heap.size]?=some (.cells (bD [d]).toArray 151 (0,0)):=am w _
set_option maxHeartbeats 2000000 in
theorem wV {S:Nat->Prop}(h:SS S W g st) (hl:st.ws.length<=900000000) (t:Tv) :
  Kb 91 #[bv g,.agg #[.int .u8 t.k,.string t.t,.int .i64 t.a,.int .i64 t.l,.int .i64 t.c,.int .i64 t.f]] W fun r w'=>∃v,r=.returned v/\An S g W w' v (st.note t).2 (st.note t).1:=by
 obtain⟨V,hV⟩:∃V,W.alloc (.cells #[.int .u8 t.k,.string t.t,.int .i64 t.a,.int .i64 t.l,.int .i64 t.c,.int .i64 t.f] 76)=V:=⟨_,rfl⟩;have hB:Below W.heap.size W V:=by rw[<-hV];exact(gt _ _).alloc (ge _) _
 have hT:F6 V W.heap.size t:=by rw[<-hV];exact am _ _
 have bu:V.heap.size=W.heap.size+1:=by rw[<-hV];show(W.heap.push _).size=_;simp
 have HV:=ku hV;have cb:=h.lt g h.sg
 have bi:Hid (Kb 134 #[bv g] V fun r w'=>∃v,r=.returned v/\NC S g W W.heap.size t w' v (st.ws.takeWhile bC) { st with ws:=st.ws.dropWhile bC }):=by
  refine(kP (h.below hB) (by omega)).mono ?_;rintro r w'⟨v,rfl,⟨S',H,O,I⟩,a4,a5⟩;have bh:¬S W.heap.size:=fun hs=>by have:=h.lt _ hs;omega
  refine⟨v,rfl,⟨⟨S',H,fun k hk=>(O k hk).imp id (fun e=>Kh hB.size e),fun k e=>⟨(I k e).1.imp id (fun e=>Kh hB.size e),(I k e).2⟩⟩,a4,(Kp.of_below hB).step a5 (fun _ _ h=>h)⟩,a5.blk hT bh,bh,?_,by omega,fun e=>?_⟩
  ·have:=a5.size;omega
  ·rcases(I _ e).1 with h1|h1
   ·exact bh h1
   ·omega
 have bf:=h.sg;have bj:=ku (kO t);obtain⟨bg,ad⟩:∃bg,st.ws.takeWhile bC=bg:=⟨_,rfl⟩;obtain⟨rs,hrs⟩:∃rs,st.ws.dropWhile bC=rs:=⟨_,rfl⟩;have bx:bg.length<=900000000:=by have:=(List.takeWhile_prefix (p:=bC) (l:=st.ws)).length_le;rw[ad]at this;omega
 have av:Hid (st.note t=(if t.f=0/\st.wr=true then(⟨st.ns,rs,none,true,st.en||decide (t.k=7),st.pt||decide (t.k=8)⟩,bg++[dS,dT t.t])else(⟨st.ns,rs,none,true,true,st.pt⟩,bg++dH :: ((if 2<=t.f/\st.wr=true/\bg=[]then[dE]else[])++[dT t.t])))):=by
  show _=_
  unfold Sy.note;simp only;rw[ad,hrs]
 rw[ad,hrs]at bi;clear h hl hV hB hT bu ad hrs
 go_enter Tryz.func91,Tryz.ntmps91
 go_upto_region 1 with fail
 rw[HV.out]
 go_upto_region 3 with(go_at_call 134;refine bi.out.mono ?_;rintro r1 w1⟨v1,rfl,be⟩;obtain⟨p1,c1,ev,_⟩:=bG be.an.2.1;subst ev;have ay:=show Hid (NC S g W W.heap.size t w1 (.slice p1 bg.length c1) bg { st with ws:=rs })from be;clear be)
 obtain⟨⟨c3,c4,c5,c6,c7⟩,⟨f3,f4,f5,f6,f7⟩,af⟩:=ay.out.cells
 go_upto_region 4 with fail
 have ak:NC S g W W.heap.size t ((w1.setCell ⟨g,3,none⟩ (.bool false)).setCell ⟨g,4,none⟩ (.int .i64 0)) (.slice p1 bg.length c1) bg { st with ws:=rs,mr:=none }:=ay.out.gset bf ((Kp.set _ _ _ _).trans (Kp.set _ _ _ _)) (fun vn vw hb=>ab (ab hb 3 _) 4 _) rfl rfl;obtain⟨w2,bq⟩:∃w2,(w1.setCell ⟨g,3,none⟩ (.bool false)).setCell ⟨g,4,none⟩ (.int .i64 0)=w2:=⟨_,rfl⟩;rw[bq]at ak ⊢;clear c3 c4 c5 c6 c7 f3 f4 f5 f6 f7 bq af ay;obtain⟨⟨c3,c4,c5,c6,c7⟩,⟨f3,f4,f5,f6,f7⟩,af⟩:=ak.cells;obtain⟨t0,t1,t2,t3,t4,t5⟩:=ak.tb.cells;have aq:=show Hid (NC S g W W.heap.size t w2 (.slice p1 bg.length c1) bg { st with ws:=rs,mr:=none })from ak
 have ca:g≠W.heap.size:=by omega
 have bn:=ak.tn.2.1;clear ak
 by_cases aw:t.f=0/\st.wr=true
 ·obtain⟨ae,hw⟩:=aw;have u:=show Hid (st.note t=(⟨st.ns,rs,none,true,st.en||decide (t.k=7),st.pt||decide (t.k=8)⟩,bg++[dS,dT t.t]))from(by rw[av.out,Kd ⟨ae,hw⟩];exact rfl)
  have q1:(t.f==0)=true:=by simpa using ae
  have aa:w2.cell? ⟨g,5,none⟩=some (.bool true):=by rw[c5];show some (Value.bool st.wr)=_;rw[hw]
  have F:=show Hid (∀x y:Bool,(st.en||decide (t.k=7))=x->(st.pt||decide (t.k=8))=y->∃G,Hid ((w2.setCell ⟨g,6,none⟩ (.bool x)).setCell ⟨g,7,none⟩ (.bool y)=G)/\NC S g W W.heap.size t G (.slice p1 bg.length c1) bg (st.note t).1)from(fun x y e1 e2=>by
   refine⟨_,rfl,aq.out.gset bf ((Kp.set _ _ _ _).trans (Kp.set _ _ _ _)) (fun vn vw hb=>?_) (by rw[u.out]) (by rw[u.out])⟩;have:=ab (ab hb 6 (.bool x)) 7 (.bool y);rw[u.out];simp only[e1,e2];rw[show({ st with ws:=rs,mr:=none }:Sy).wr=true from hw]at this;exact this)
  clear av c5 aq ae hw;cases an:st.en<;>cases ap:st.pt
  case' false.false=>obtain⟨G,ar,ac⟩:=F.out (t.k==7) (t.k==8) (by rw[an];rfl) (by rw[ap];rfl)
  case' false.true=>obtain⟨G,ar,ac⟩:=F.out (t.k==7) true (by rw[an];rfl) (by rw[ap];rfl)
  case' true.false=>obtain⟨G,ar,ac⟩:=F.out true (t.k==8) (by rw[an];rfl) (by rw[ap];rfl)
  case' true.true=>obtain⟨G,ar,ac⟩:=F.out true true (by rw[an];rfl) (by rw[ap];rfl)
  all_goals(
   simp only[an]at c6;simp only[ap]at c7;clear an ap F
   go_upto_region 7 with fail
   rw[ar.out];clear ar t0 t1 t2 t3 t4 t5 c3 c4 c6 c7 aa f3 f4 f5 f6 f7 af bn;obtain⟨t0,t1,t2,t3,t4,t5⟩:=ac.tb.cells
   have ah:=show Hid (∀X,Below G.heap.size G X->Rd (X.alloc (uz t.t)) (.slice p1 bg.length c1) bg/\∀v' w',Rd w' v' (bg++[dS,dT t.t])->(X.alloc (uz t.t)).grownBy w' (Value.slice p1 bg.length c1).ownBlock->Nb (X.alloc (uz t.t)) (.slice p1 bg.length c1) v'->An S g W w' v' (st.note t).2 (st.note t).1)from(fun X hX=>by
    have M:Below G.heap.size G (X.alloc (uz t.t)):=hX.alloc hX.size _;refine⟨dG ac.an.2.1 M,fun v' w' H O I=>?_⟩;have:=(ac.app M H O I).an;rw[show(st.note t).2=bg++[dS,dT t.t]by rw[u.out]];exact this)
   clear ac
   go_wp2_with(first|(go_at_call 133;refine(bj.out _).mono ?_;rintro r4 w4⟨rfl,bo⟩;obtain⟨x1,x2⟩:=ah.out _ bo;have bb:=ku x1;have bc:=ku x2;clear bo x1 x2)|(at_builtin;refine nJ rfl _ _ rfl (.slice p1 bg.length c1) bg [dS,dT t.t] rfl bb.out w4.heap.size 2 rfl (nN t.t w4) (by simp;omega) ?_;intro v' w' H O I;have HX:=show Hid _ from bc.out v' w' H O I;clear H O I))
   go_ret
   exact⟨_,rfl,HX.out⟩)
 ·have u:=show Hid (st.note t=(⟨st.ns,rs,none,true,true,st.pt⟩,bg++dH :: ((if 2<=t.f/\st.wr=true/\bg=[]then[dE]else[])++[dT t.t])))from(by rw[av.out,IO aw];exact rfl)
  have aa:w2.cell? ⟨g,5,none⟩=some (.bool st.wr):=c5;have ax:=show Hid (¬(t.f=0/\st.wr=true))from aw
  clear av c5 aw
  go_cut [26]from 18 to 26 (fun t9 wx=>t9=.bool false/\wx=w2)
  case first=>
   by_cases ae:t.f=0
   ·have hw:st.wr=false:=by cases hq:st.wr with|false=>rfl|true=>exact absurd ⟨ae,hq⟩ ax.out
    have q1:(t.f==0)=true:=by simpa using ae
    rw[hw]at aa;clear ae hw ax
    go_wp2_with fail
    go_meet
    exact⟨rfl,rfl⟩
   ·have q1:(t.f==0)=false:=by simpa using ae
    clear ae ax
    go_wp2_with fail
    go_meet
    exact⟨rfl,rfl⟩
  case rest=>
  obtain⟨rfl,ag⟩:=hcut;replace ag:=ag.symm;subst ag
  have ai:=show Hid (Rd (w2.alloc (.cells #[.int .u8 4,.string ⟨#[]⟩,.int .i64 0,.int .i64 0,.bool false] 151)) (.slice p1 bg.length c1) bg/\∀v' w',Rd w' v' (bg++[dH])->(w2.alloc (.cells #[.int .u8 4,.string ⟨#[]⟩,.int .i64 0,.int .i64 0,.bool false] 151)).grownBy w' (Value.slice p1 bg.length c1).ownBlock->Nb (w2.alloc (.cells #[.int .u8 4,.string ⟨#[]⟩,.int .i64 0,.int .i64 0,.bool false] 151)) (.slice p1 bg.length c1) v'->NC S g W W.heap.size t w' v' (bg++[dH]) { st with ws:=rs,mr:=none })from(by
   have M:Below w2.heap.size w2 (w2.alloc (.cells #[.int .u8 4,.string ⟨#[]⟩,.int .i64 0,.int .i64 0,.bool false] 151)):=(gt _ _).alloc (ge _) _;exact⟨dG aq.out.an.2.1 M,fun v' w' H O I=>aq.out.app M H O I⟩)
  clear t0 t1 t2 t3 t4 t5 c3 c4 c6 c7 aa f3 f4 f5 f6 f7 af bn aq
  go_upto_region 9 with(at_builtin;refine nJ rfl _ _ rfl (.slice p1 bg.length c1) bg [dH] rfl ai.out.1 w2.heap.size 1 rfl (oz dH w2) (by simp;omega) ?_;intro v' G H O I;have ac:=ai.out.2 v' G H O I;obtain⟨p3,c3,ev,_⟩:=bG H;subst ev;have F:=show Hid (NC S g W W.heap.size t G (.slice p3 (bg++[dH]).length c3) (bg++[dH]) { st with ws:=rs,mr:=none })from ac;clear H O I ac)
  clear ai;obtain⟨⟨bd,c4,c5,c6,c7⟩,⟨f3,f4,f5,f6,f7⟩,af⟩:=F.out.cells;obtain⟨t0,t1,t2,t3,t4,t5⟩:=F.out.tb.cells;have aa:G.cell? ⟨g,5,none⟩=some (.bool st.wr):=c5;clear c5 bd c4;obtain⟨b9,hb9⟩:∃b9:Bool,decide (2<=t.f/\st.wr=true/\bg=[])=b9:=⟨_,rfl⟩;have J:=show Hid (decide (2<=t.f/\st.wr=true/\bg=[])=b9)from hb9
  clear hb9
  go_cut [73]from 61 to 73 (fun t9 wx=>t9=.bool b9/\wx=G)
  case first=>
   by_cases au:2<=t.f
   ·cases hw:st.wr with
    |false=>
     have HY:Hid (false=b9):=by rw[<-J.out,Kr (fun h=>by rw[hw]at h;cases h.2.1)];exact rfl
     have q1:(t.f<2)=False:=by simp;omega
     have q2:decide (2<=t.f)=true:=Ku au;rw[hw]at aa;clear J hw
     go_wp2_with fail
     go_meet
     exact⟨by rw[HY.out],rfl⟩
    |true=>
     have q2:decide (2<=t.f)=true:=Ku au;rw[hw]at aa;cases ad:bg with
     |nil=>
      have HY:Hid (true=b9):=by rw[<-J.out,Ku ⟨au,hw,ad⟩];exact rfl
      clear J hw;subst ad
      go_wp2_with fail
      go_meet
      exact⟨by rw[HY.out],rfl⟩
     |cons x y=>
      have HY:Hid (false=b9):=by rw[<-J.out,Kr (fun h=>by rw[ad]at h;cases h.2.2)];exact rfl
      clear J hw;subst ad;have q3:decide ((0:Int)<((x :: y).length:Int))=true:=by simp
      have q4:(0:Int)<(y.length:Int)+1:=by omega
      go_wp2_with fail
      go_meet
      exact⟨by rw[HY.out],rfl⟩
   ·have HY:Hid (false=b9):=by rw[<-J.out,Kr (fun h=>au h.1)];exact rfl
    have q2:decide (2<=t.f)=false:=Kr au;clear J
    go_wp2_with fail
    go_meet
    exact⟨by rw[HY.out],rfl⟩
  case rest=>
  obtain⟨rfl,ag⟩:=hcut;replace ag:=ag.symm;subst ag;obtain⟨em,hem⟩:∃em,(if 2<=t.f/\st.wr=true/\bg=[]then[dE]else[])=em:=⟨_,rfl⟩
  have aj:=show Hid ((b9=true->em=[dE])/\(b9=false->em=[])/\em.length<=1)from(by
   refine⟨fun hb=>?_,fun hb=>?_,?_⟩
   ·rw[<-hem,Kd (KQ (J.out.trans hb))]
   ·rw[<-hem,IO (ME (J.out.trans hb))]
   ·rw[<-hem];split<;>simp)
  rw[hem]at u;clear hem J t0 t1 t2 t3 t4 t5 c6 c7 aa f3 f4 f5 f6 f7 af
  go_upto_if 73 with fail
  go_cut [5]from 74 to 77 (fun t9 wx=>∃p n c,t9=.slice p n c/\Hid (NC S g W W.heap.size t wx (.slice p n c) (bg++dH :: em) { st with ws:=rs,mr:=none }))
  case first=>
   cases b9 with
   |true=>
    obtain rfl:em=[dE]:=aj.out.1 rfl
    have ai:=show Hid (Rd (G.alloc (.cells #[.int .u8 5,.string ⟨#[]⟩,.int .i64 0,.int .i64 0,.bool false] 151)) (.slice p3 (bg++[dH]).length c3) (bg++[dH])/\∀v' w',Rd w' v' ((bg++[dH])++[dE])->(G.alloc (.cells #[.int .u8 5,.string ⟨#[]⟩,.int .i64 0,.int .i64 0,.bool false] 151)).grownBy w' (Value.slice p3 (bg++[dH]).length c3).ownBlock->Nb (G.alloc (.cells #[.int .u8 5,.string ⟨#[]⟩,.int .i64 0,.int .i64 0,.bool false] 151)) (.slice p3 (bg++[dH]).length c3) v'->NC S g W W.heap.size t w' v' ((bg++[dH])++[dE]) { st with ws:=rs,mr:=none })from(by
     have M:Below G.heap.size G (G.alloc (.cells #[.int .u8 5,.string ⟨#[]⟩,.int .i64 0,.int .i64 0,.bool false] 151)):=(gt _ _).alloc (ge _) _;exact⟨dG F.out.an.2.1 M,fun v' w' H O I=>F.out.app M H O I⟩)
    have bw:(bg++[dH]).length<=900000001:=by simp;omega
    clear F aj
    go_wp2_with(at_builtin;refine nJ rfl _ _ rfl (.slice p3 (bg++[dH]).length c3) (bg++[dH]) [dE] (by simp[Act.eval,Act.put]) ai.out.1 G.heap.size 1 rfl (oz dE G) (by simp at bw ⊢;omega) ?_;intro v' w4 H O I;have bk:=ai.out.2 v' w4 H O I;obtain⟨p4,c4,ev,_⟩:=bG H;subst ev;have az:=show Hid (NC S g W W.heap.size t w4 (.slice p4 ((bg++[dH])++[dE]).length c4) ((bg++[dH])++[dE]) { st with ws:=rs,mr:=none })from bk;clear H O I bk)
    go_meet
    refine⟨_,_,_,rfl,?_⟩;have:=az.out;rw[show((bg++[dH])++[dE]).length=bg.length+1+1 by simp,Ks]at this;exact this
   |false=>
    obtain rfl:em=[]:=aj.out.2.1 rfl;have az:=show Hid (NC S g W W.heap.size t G (.slice p3 (bg++[dH]).length c3) (bg++[dH]) { st with ws:=rs,mr:=none })from F.out
    clear F aj
    go_wp2_with fail
    go_meet
    refine⟨_,_,_,rfl,?_⟩;have:=az.out;rw[show(bg++[dH]).length=bg.length+1 by simp]at this;exact this
  case rest=>
  obtain⟨p5,n5,c5,rfl,bm⟩:=hcut;obtain⟨w5,hw5⟩:∃w5,w5=wc:=⟨wc,rfl⟩;subst hw5;have ba:=show Hid (NC S g W W.heap.size t w5 (.slice p5 n5 c5) (bg++dH :: em) { st with ws:=rs,mr:=none })from bm.out
  obtain⟨⟨bd,c4,aa,c6,c7⟩,⟨f3,f4,f5,f6,f7⟩,af⟩:=ba.out.cells;have bz:=aj.out.2.2
  have al:NC S g W W.heap.size t ((w5.setCell ⟨g,5,none⟩ (.bool true)).setCell ⟨g,6,none⟩ (.bool true)) (.slice p5 n5 c5) (bg++dH :: em) (st.note t).1:=by
   refine ba.out.gset bf ((Kp.set _ _ _ _).trans (Kp.set _ _ _ _)) (fun vn vw hb=>?_) (by rw[u.out]) (by rw[u.out]);rw[u.out];exact ab (ab hb 5 (.bool true)) 6 (.bool true)
  clear bm F aj
  go_upto_region 12 with fail
  obtain⟨w6,br⟩:∃w6,(w5.setCell ⟨g,5,none⟩ (.bool true)).setCell ⟨g,6,none⟩ (.bool true)=w6:=⟨_,rfl⟩;rw[br]at al ⊢;clear br bd c4 aa c6 c7 f3 f4 f5 f6 f7 af ba;obtain⟨t0,t1,t2,t3,t4,t5⟩:=al.tb.cells;obtain⟨p7,c7,ev7,_⟩:=bG al.an.2.1;cases ev7
  have ah:=show Hid (∀X,Below w6.heap.size w6 X->Rd (X.alloc (.cells #[.int .u8 1,.string t.t,.int .i64 0,.int .i64 0,.bool false] 151)) (.slice p5 (bg++dH :: em).length c5) (bg++dH :: em)/\∀v' w',Rd w' v' ((bg++dH :: em)++[dT t.t])->(X.alloc (.cells #[.int .u8 1,.string t.t,.int .i64 0,.int .i64 0,.bool false] 151)).grownBy w' (Value.slice p5 (bg++dH :: em).length c5).ownBlock->Nb (X.alloc (.cells #[.int .u8 1,.string t.t,.int .i64 0,.int .i64 0,.bool false] 151)) (.slice p5 (bg++dH :: em).length c5) v'->An S g W w' v' (st.note t).2 (st.note t).1)from(fun X hX=>by
   have M:Below w6.heap.size w6 (X.alloc (.cells #[.int .u8 1,.string t.t,.int .i64 0,.int .i64 0,.bool false] 151)):=hX.alloc hX.size _;refine⟨dG al.an.2.1 M,fun v' w' H O I=>?_⟩;have:=(al.app M H O I).an;rw[show(st.note t).2=(bg++dH :: em)++[dT t.t]by rw[u.out];simp];exact this)
  have bt:(bg++dH :: em).length<=900000002:=by simp;omega
  obtain⟨L,hL⟩:∃L,bg++dH :: em=L:=⟨_,rfl⟩;rw[hL]at ah bt ⊢;clear al u hL
  go_wp2_with(first|(go_at_call 133;refine(bj.out _).mono ?_;rintro r8 w8⟨rfl,bp⟩;obtain⟨x1,x2⟩:=ah.out _ bp;have bb:=show Hid (Rd (w8.alloc (.cells #[.int .u8 1,.string t.t,.int .i64 0,.int .i64 0,.bool false] 151)) (.slice p5 L.length c5) L)from x1;have bc:=show Hid (∀v' w',Rd w' v' (L++[dT t.t])->(w8.alloc (.cells #[.int .u8 1,.string t.t,.int .i64 0,.int .i64 0,.bool false] 151)).grownBy w' (Value.slice p5 L.length c5).ownBlock->Nb (w8.alloc (.cells #[.int .u8 1,.string t.t,.int .i64 0,.int .i64 0,.bool false] 151)) (.slice p5 L.length c5) v'->An S g W w' v' (st.note t).2 (st.note t).1)from x2;clear bp x1 x2)|(at_builtin;refine nJ rfl _ _ rfl (.slice p5 L.length c5) L [dT t.t] rfl bb.out w8.heap.size 1 rfl (oz (dT t.t) w8) (by simp;omega) ?_;intro v' w' H O I;have HX:=show Hid _ from bc.out v' w' H O I;clear H O I))
  go_ret
  exact⟨_,rfl,HX.out⟩
def Iq (W:World) (q:Nat) (a b:Nat):Prop:=∃c0 c1 c2 c3 c4 c5 c6,W.heap[q]?=some (.cells #[c0,c1,c2,c3,c4,c5,c6,.func (.func a) #[] #[],.func (.func b) #[] #[]] 224 (0,0))
theorem Iq.cells {W:World}{q a b:Nat}(h:Iq W q a b):W.cell? ⟨q,7,none⟩=some (.func (.func a) #[] #[])/\W.cell? ⟨q,8,none⟩=some (.func (.func b) #[] #[]):=by
 obtain⟨c0,c1,c2,c3,c4,c5,c6,h⟩:=h;exact⟨aa h rfl,aa h rfl⟩
structure LC (S:Nat->Prop) (g:Nat) (W:World) (T:Nat) (t:Tv) (q a b:Nat) (V:World) (st:Sy):Prop where
 ex:∃Si,SS Si V g st/\(∀k,Si k->S k\/W.heap.size<=k)/\¬Si T/\¬Si q
 kp:Kp S W V
 tb:F6 V T t
 rb:Iq V q a b
 tq:T<V.heap.size/\q<V.heap.size/\S g
theorem LC.step {S:Nat->Prop}{g:Nat}{W:World}{T:Nat}{t:Tv}{q a b:Nat}{V V':World}{st st':Sy}(h:LC S g W T t q a b V st) {G:Nat->Prop}(I:∀k,G k->S k\/W.heap.size<=k) (J:¬G T) (M:¬G q) (m:Mw G g V V' st'):LC S g W T t q a b V' st':=by
 obtain⟨⟨O,a1,H⟩,F⟩:=m;obtain⟨b1,b2,b3⟩:=h.tq;refine⟨⟨O,a1,fun k u=>?_,fun u=>?_,fun u=>?_⟩,h.kp.step F (fun k aa u=>?_),F.blk h.tb J,?_,Kl b1 F.size,Kl b2 F.size,b3⟩
 ·rcases H k u with e|e
  ·exact I k e
  ·exact .inr (Kh h.kp.size e)
 ·rcases H T u with e|e
  ·exact J e
  ·omega
 ·rcases H q u with e|e
  ·exact M e
  ·omega
 ·rcases I k u with e|e
  ·exact e
  ·omega
 ·obtain⟨c0,c1,c2,c3,c4,c5,c6,h9⟩:=h.rb;exact⟨c0,c1,c2,c3,c4,c5,c6,F.blk h9 M⟩
theorem LC.below {S:Nat->Prop}(h:LC S g W T t q a b V st) (u:Below V.heap.size V V'):LC S g W T t q a b V' st:=by
 obtain⟨F,G,H,I,J⟩:=h.ex;exact h.step H I J ⟨⟨F,G.below u,fun _ h=>.inl h⟩,Kp.of_below u⟩
theorem Bo (f:Fx) (args:Array Value) (w:World):(callFunc f.id args).run Tryz.prog w=.ok (.enter f.id args) w:=by
 cases f<;>kernel_rfl
theorem Bz.aws (h:Bz n st) (l:List Pz):Bz (n+l.length) (st.aws l):=by
 induction l generalizing n st with
 |nil=>exact h
 |cons p l ih=>
  have:=ih (h.aw p);rw[rZ,List.length_cons];exact this.mono (by omega)
theorem Cs (st:Sy) (l:List Pz):(st.aws l).mr=st.mr/\st.ws.length<=(st.aws l).ws.length/\(st.aws l).ns.length=st.ns.length:=by
 induction l generalizing st with
 |nil=>exact⟨rfl,ge _,rfl⟩
 |cons p l ih=>
  obtain⟨u,G,F⟩:=ih (st.aw p);rw[rZ];refine⟨u,?_,F.trans (po p st.ns)⟩;have:st.ws.length<=(st.aw p).ws.length:=by rw[Ji,Kf];omega
  omega
theorem Bz.emp (h:Bz n st) (f:Int):Bz (n+1) (st.emp f):=by
 unfold Sy.emp
 split
 ·exact h.mono (by omega)
 ·split
  ·exact h.mono (by omega)
  ·refine⟨?_,by have:=h.2.1;show st.ns.length<=_;omega,fun x u=>by have:=h.2.2 x u;omega⟩;have:=h.1
   rename_i m _ _
   show(st.ws.take m++dE :: st.ws.drop m).length<=n+1
   simp only[Kf,Kz,List.length_cons,KB];omega
theorem Bz.endl (h:Bz n st):Bz (n+1) st.endl:=by
 unfold Sy.endl
 split
 ·exact⟨by have:=h.1;show(dH :: st.ws).length<=_;simp;omega,by have:=h.2.1;show st.ns.length<=_;omega,fun x u=>by have:=h.2.2 x u;omega⟩
 ·exact h.mono (by omega)
theorem Hj (st:Sy) (f:Int):(st.emp f).ns=st.ns:=by unfold Sy.emp;split;rfl;split<;>rfl
theorem EM (st:Sy):st.endl.ns=st.ns:=by unfold Sy.endl;split<;>rfl
theorem D3 (st:Sy):st.part.ns=st.ns:=by unfold Sy.part;split<;>rfl
theorem G8 (f:Fx):f.pz.length<=2:=by cases f<;>decide
theorem LC.lay {S:Nat->Prop}(h:LC S g W T t q a b V st) :
  ∃vw,V.cell? ⟨g,2,none⟩=some vw/\(∃p c,vw=.slice p st.ws.length c)/\Rd V vw st.ws/\∀V1 w3 v' l,Below V.heap.size V V1->Rd w3 v' l->V1.grownBy w3 vw.ownBlock->Nb V1 vw v' ->
   (SB w3 g false (V.cell? ⟨g,1,none⟩ |>.getD undef) vw st.mr.isSome (st.mr.getD 0:Nat) st.wr st.en st.pt) /\
   ∀I,Kp (fun k=>k=g) w3 I->SB I g false (V.cell? ⟨g,1,none⟩ |>.getD undef) (.slice none 0 0) false 0 true false false ->
    ∃Si,SS Si I g ⟨st.ns,[],none,true,false,false⟩/\Iq I q a b/\∀w6 M,Mw Si g I w6 M->An S g W w6 v' l M:=by
 obtain⟨Si,s1,s2,s3,s4⟩:=h.ex;obtain⟨vn,vw,hv,v1,v2⟩:=s1.ex;obtain⟨p,c,ew,_⟩:=bG hv.rd;have af:=hv.sb.cells.2.1;refine⟨vw,hv.sb.cells.2.2.1,⟨p,c,ew⟩,hv.rd,fun V1 w3 v' l hb hr hg O=>?_⟩;rw[af,NS];have H:=hv.below hb;have hk:Kp (fun k=>vw.ownBlock=some k) V1 w3:=(Kp.of_grown hg).sub (fun k e=>e.symm);have ah:¬vw.ownBlock=some g:=aE H.rd H.sb (by decide);have h3:=H.sb.kp hk ah;have n3:=hk.row H.rn (fun k e1 u=>iB H.rn H.rd (by decide) k e1 u);refine⟨h3,fun I F ad=>?_⟩;have n5:Rn tN I vn st.ns:=F.row n3 (fun k e1 u=>aE n3 h3 (by decide) (by rw[e1,u]));have r5:Rd I v' l:=F.row hr (fun k e1 u=>aE hr h3 (by decide) (by rw[e1,u]));have J:=h.below hb
 have ai:∀k,v'.ownBlock=some k->S k\/W.heap.size<=k:=fun k e=>by
  rcases O with O|⟨q',hq,ac⟩
  ·exact s2 k (v2 k (by rw[<-O];exact e))
  ·rw[hq]at e;cases e;exact .inr (Kh J.kp.size ac)
 have ae:∀k,vn.ownBlock=some k->v'.ownBlock≠some k:=fun k e u=>by
  rcases O with O|⟨q',hq,ac⟩
  ·exact iB H.rn H.rd (by decide) k e (by rw[<-O];exact u)
  ·rw[hq]at u;cases u;have:=fN H.rn k e;omega
 have aj:v'.ownBlock≠some g:=aE hr h3 (by decide);refine⟨fun k=>Si k/\v'.ownBlock≠some k,⟨⟨vn,.slice none 0 0,⟨ad,n5,kX _⟩,fun k e=>⟨v1 k e,ae k e⟩,fun k e=>by cases e⟩,⟨s1.sg,aj⟩,fun k G=>?_⟩,?_,?_⟩
 ·exact Kl (s1.lt k G.1) (Kh hb.size (Kh hk.size F.size))
 ·obtain⟨c0,c1,c2,c3,c4,c5,c6,h9⟩:=J.rb;exact⟨c0,c1,c2,c3,c4,c5,c6,F.blk (hk.blk h9 (fun e=>s4 (v2 q e))) (fun e=>s4 (by rw[e];exact s1.sg))⟩
 ·rintro w6 M⟨⟨S6,a1,a2⟩,aa⟩
  have ab:Kp S W I:=(J.kp.step hk (fun k ag e=>by
   rcases s2 k (v2 k e)with u|u
   ·exact u
   ·omega)).step F (fun k _ e=>by rw[e];exact h.tq.2.2)
  refine⟨⟨S6,a1,fun k G=>?_,fun k e=>⟨ai k e,fun G=>?_⟩⟩,uX r5 aa (fun k e G=>G.2 e),ab.step aa (fun k ag G=>?_)⟩
  ·rcases a2 k G with e|e
   ·exact s2 k e.1
   ·exact .inr (Kh ab.size e)
  ·rcases a2 k G with u|u
   ·exact u.2 e
   ·have:=fN r5 k e;omega
  ·rcases s2 k G.1 with e|e
   ·exact e
   ·omega
