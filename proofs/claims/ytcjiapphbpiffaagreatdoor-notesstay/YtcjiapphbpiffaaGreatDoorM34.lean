import Derived.Test.YtcjiapphbpiffaaGreatDoorM33
set_option linter.unusedVariables false
set_option linter.unusedSimpArgs false
set_option maxHeartbeats 4000000
namespace Go.Proofs.YtcjiapphbpiffaaGreatDoor
open Go.RowKit
open Lw (Dc bE rt cG dD fu iC bZ aX cy)
variable {st st':Sy}{g T q a b n:Nat}{W V V':World}{t:Tv}{v:Value}{l:List Dc}
def MT (W:World) (T:Nat) (t:Tv):Prop:=W.heap[T]?=some (.cells #[.int .u8 t.k,.string t.t,.int .i64 t.a,.int .i64 t.l,.int .i64 t.c,.int .i64 t.f] 49 (0,0))
theorem MT.cells {W:World}{T:Nat}{t:Tv}(h:MT W T t):W.cell? ⟨T,0,none⟩=some (.int .u8 t.k)/\W.cell? ⟨T,1,none⟩=some (.string t.t)/\W.cell? ⟨T,2,none⟩=some (.int .i64 t.a)/\W.cell? ⟨T,3,none⟩=some (.int .i64 t.l)/\W.cell? ⟨T,4,none⟩=some (.int .i64 t.c)/\W.cell? ⟨T,5,none⟩=some (.int .i64 t.f):=
 ⟨af h rfl,af h rfl,af h rfl,af h rfl,af h rfl,af h rfl⟩
structure NC (S:Nat->Prop) (g:Nat) (W:World) (T:Nat) (t:Tv) (V:World) (v:Value) (l:List Dc) (st:Sy):Prop where
 an:An S g W V v l st
 tb:MT V T t
 tn:¬S T/\T<V.heap.size/\T≠g/\v.ownBlock≠some T
theorem An.below {S:Nat->Prop}(h:An S g W V v l st) (C:Below V.heap.size V V'):An S g W V' v l st:=by
 obtain ⟨⟨F,G,H,I⟩,J,M⟩:=h;exact ⟨⟨F,G.below C,H,I⟩,fx J C,M.step (Kp.of_below (S:=fun _=>False) C) (fun _ _ h=>h.elim)⟩
theorem NC.below {S:Nat->Prop}(h:NC S g W T t V v l st) (C:Below V.heap.size V V'):NC S g W T t V' v l st:=
 ⟨h.an.below C,ag h.tb C,h.tn.1,Tn h.tn.2.1 C.size,h.tn.2.2⟩
theorem NC.app {S:Nat->Prop}{F w':World}{v':Value}{l':List Dc}(h:NC S g W T t V v l st) (hb:Below V.heap.size V F) (hr:Rd w' v' l') (hg:F.grownBy w' v.ownBlock) (I:Nb F v v'):NC S g W T t w' v' l' st:=by
 obtain ⟨⟨⟨O,Q,a2,G⟩,a4,U⟩,b1,b2,b3,b4,Y⟩:=h.below hb;have H:Kp (fun k=>v.ownBlock=some k) F w':=(Kp.of_grown hg).sub (fun k e=>e.symm)
 have C:∀k,v'.ownBlock=some k->(S k\/W.heap.size<=k)/\¬O k/\k≠T:=fun k e=>by
  rcases I with I|⟨q,hq,M⟩
  ·rw [I] at e;exact ⟨(G k e).1,(G k e).2,fun ek=>Y (by rw [<-ek];exact e)⟩
  ·rw [hq] at e;cases e;refine ⟨.inr (SY U.size M),fun J=>?_,fun ek=>by omega⟩;have:=Q.lt k J;omega
 refine ⟨⟨⟨O,Q.kp H (fun k J e=>(G k e).2 J),a2,fun k e=>⟨(C k e).1,(C k e).2.1⟩⟩,hr,U.step H (fun k aa e=>?_)⟩,H.blk b1 (fun e=>Y e),b2,Tn b3 H.size,b4,fun e=>(C T e).2.2 rfl⟩
 rcases (G k e).1 with Z|Z
 ·exact Z
 ·omega
theorem SS.gset {S:Nat->Prop}{W':World}(h:SS S W g st) (H:Kp (fun k=>k=g) W W') (I:∀vn vw,SB W g false vn vw st.mr.isSome (st.mr.getD 0:Nat) st.wr st.en st.pt->SB W' g false vn vw st'.mr.isSome (st'.mr.getD 0:Nat) st'.wr st'.en st'.pt) (J:st'.ns=st.ns) (O:st'.ws=st.ws):SS S W' g st':=by
 obtain ⟨vn,vw,C,Q,U⟩:=h.ex;refine ⟨⟨vn,vw,⟨I _ _ C.sb,?_,?_⟩,Q,U⟩,h.sg,fun k M=>Tn (h.lt k M) H.size⟩
 ·rw [J];exact H.row C.rn (fun k F G=>aN C.rn C.sb (by decide) (by rw [F,G]))
 ·rw [O];exact H.row C.rd (fun k F G=>aN C.rd C.sb (by decide) (by rw [F,G]))
theorem NC.gset {S:Nat->Prop}(h:NC S g W T t V v l st) (hS:S g) (C:Kp (fun k=>k=g) V V') (hb:∀vn vw,SB V g false vn vw st.mr.isSome (st.mr.getD 0:Nat) st.wr st.en st.pt->SB V' g false vn vw st'.mr.isSome (st'.mr.getD 0:Nat) st'.wr st'.en st'.pt) (hn:st'.ns=st.ns) (hw:st'.ws=st.ws):NC S g W T t V' v l st':=by
 obtain ⟨⟨⟨I,F,J,M⟩,G,O⟩,Q,U,Y,H,Z⟩:=h;obtain ⟨vn,vw,hv,_⟩:=F.ex;exact ⟨⟨⟨I,F.gset C hb hn hw,J,M⟩,Ag G C (fun k e1 e2=>aN G hv.sb (by decide) (by rw [e1,e2])),O.step C (fun k _ e=>by rw [e];exact hS)⟩,C.blk Q H,U,Tn Y C.size,H,Z⟩
theorem NC.cells {S:Nat->Prop}{g:Nat}{W V:World}{T:Nat}{t:Tv}{v:Value}{l:List Dc}{st:Sy}(h:NC S g W T t V v l st) :
  (V.cell? ⟨g,3,none⟩=some (.bool st.mr.isSome)/\V.cell? ⟨g,4,none⟩=some (.int .i64 (st.mr.getD 0:Nat))/\V.cell? ⟨g,5,none⟩=some (.bool st.wr)/\V.cell? ⟨g,6,none⟩=some (.bool st.en)/\V.cell? ⟨g,7,none⟩=some (.bool st.pt))/\(V.frozen? ⟨g,3,none⟩=false/\V.frozen? ⟨g,4,none⟩=false/\V.frozen? ⟨g,5,none⟩=false/\V.frozen? ⟨g,6,none⟩=false/\V.frozen? ⟨g,7,none⟩=false)/\g<V.heap.size:=by
 obtain ⟨⟨⟨F,C,G,H⟩,I,J⟩,M,O,Q,U,Y⟩:=h;obtain ⟨vn,vw,hv,_⟩:=C.ex;obtain ⟨c0,c1,c2,c3,c4,c5,c6,c7⟩:=hv.sb.cells;exact ⟨⟨c3,c4,c5,c6,c7⟩,⟨hv.sb.frozen 3,hv.sb.frozen 4,hv.sb.frozen 5,hv.sb.frozen 6,hv.sb.frozen 7⟩,hv.sb.lt⟩
abbrev zE (x:ByteArray):Obj:=.cells #[.int .u8 2,.string ⟨#[]⟩,.int .i64 0,.int .i64 0,.bool false,.int .u8 1,.string x,.int .i64 0,.int .i64 0,.bool false] 89
theorem ny (x:ByteArray) (w:World):(w.alloc (zE x)).heap[w.heap.size]?=some (.cells (bZ [dS,dT x]).toArray 89 (0,0)):=aq w _
theorem te (d:Dc) (w:World):(w.alloc (.cells #[.int .u8 d.k,.string d.t,.int .i64 d.b,.int .i64 d.i,.bool d.e] 89)).heap[w.heap.size]?=some (.cells (bZ [d]).toArray 89 (0,0)):=aq w _
theorem BY {S:Nat->Prop}(h:SS S W g st) (hl:st.ws.length<=900000000) (t:Tv) :
  Ta 83 #[cd g,.agg #[.int .u8 t.k,.string t.t,.int .i64 t.a,.int .i64 t.l,.int .i64 t.c,.int .i64 t.f]] W fun r w'=>∃v,r=.returned v/\An S g W w' v (st.note t).2 (st.note t).1:=by
 obtain ⟨V,hV⟩:∃V,W.alloc (.cells #[.int .u8 t.k,.string t.t,.int .i64 t.a,.int .i64 t.l,.int .i64 t.c,.int .i64 t.f] 49)=V:=⟨_,rfl⟩;have hB:Below W.heap.size W V:=by rw [<-hV];exact (hH _ _).alloc (gt _) _
 have hT:MT V W.heap.size t:=by rw [<-hV];exact aq _ _
 have br:V.heap.size=W.heap.size+1:=by rw [<-hV];show (W.heap.push _).size=_;simp
 have HV:Hid (W.alloc (.cells #[.int .u8 t.k,.string t.t,.int .i64 t.a,.int .i64 t.l,.int .i64 t.c,.int .i64 t.f] 49)=V):=hV;have bx:=h.lt g h.sg
 have bf:Hid (Ta 136 #[cd g] V fun r w'=>∃v,r=.returned v/\NC S g W W.heap.size t w' v (st.ws.takeWhile bj) { st with ws:=st.ws.dropWhile bj }):=by
  refine (oS (h.below hB) (by omega)).mono ?_;rintro r w' ⟨v,rfl,⟨S',H,O,I⟩,a4,a5⟩;have be:¬S W.heap.size:=fun hs=>by have:=h.lt _ hs;omega
  refine ⟨v,rfl,⟨⟨S',H,fun k hk=>(O k hk).imp id (fun e=>SY hB.size e),fun k e=>⟨(I k e).1.imp id (fun e=>SY hB.size e),(I k e).2⟩⟩,a4,(Kp.of_below hB).step a5 (fun _ _ h=>h)⟩,a5.blk hT be,be,?_,by omega,fun e=>?_⟩
  ·have:=a5.size;omega
  ·rcases (I _ e).1 with h1|h1
   ·exact be h1
   ·omega
 have bd:=h.sg;have bh:Hid (∀X,Ta 135 #[.agg #[.int .u8 t.k,.string t.t,.int .i64 t.a,.int .i64 t.l,.int .i64 t.c,.int .i64 t.f]] X fun e w'=>e=.returned (.agg #[.int .u8 1,.string t.t,.int .i64 0,.int .i64 0,.bool false])/\Below X.heap.size X w'):=oQ t;obtain ⟨bg,Z⟩:∃bg,st.ws.takeWhile bj=bg:=⟨_,rfl⟩;obtain ⟨rs,hrs⟩:∃rs,st.ws.dropWhile bj=rs:=⟨_,rfl⟩;have bu:bg.length<=900000000:=by have:=(List.takeWhile_prefix (p:=bj) (l:=st.ws)).length_le;rw [Z] at this;omega
 have ar:Hid (st.note t=(if t.f=0/\st.wr=true then (⟨st.ns,rs,none,true,st.en || decide (t.k=7),st.pt || decide (t.k=8)⟩,bg++[dS,dT t.t]) else (⟨st.ns,rs,none,true,true,st.pt⟩,bg++dH :: ((if 2<=t.f/\st.wr=true/\bg=[] then [dE] else [])++[dT t.t])))):=by
  show _=_
  unfold Sy.note;simp only;rw [Z,hrs]
 rw [Z,hrs] at bf;clear h hl hV hB hT br Z hrs
 go_enter Tryz.func83,Tryz.ntmps83
 go_upto_region 1 with fail
 rw [HV.out]
 go_upto_region 3 with (go_at_call 136;refine bf.out.mono ?_;rintro r1 w1 ⟨v1,rfl,bc⟩;obtain ⟨p1,c1,ev,_⟩:=bG bc.an.2.1;subst ev;have aw:=show Hid (NC S g W W.heap.size t w1 (.slice p1 bg.length c1) bg { st with ws:=rs }) from bc;clear bc)
 obtain ⟨⟨c3,c4,Y,c6,c7⟩,⟨f3,f4,f5,f6,f7⟩,ab⟩:=aw.out.cells
 go_upto_region 4 with fail
 have ag:NC S g W W.heap.size t ((w1.setCell ⟨g,3,none⟩ (.bool false)).setCell ⟨g,4,none⟩ (.int .i64 0)) (.slice p1 bg.length c1) bg { st with ws:=rs,mr:=none }:=aw.out.gset bd ((Kp.set _ _ _ _).trans (Kp.set _ _ _ _)) (fun vn vw hb=>aj (aj hb 3 _) 4 _) rfl rfl;obtain ⟨w2,bo⟩:∃w2,(w1.setCell ⟨g,3,none⟩ (.bool false)).setCell ⟨g,4,none⟩ (.int .i64 0)=w2:=⟨_,rfl⟩;rw [bo] at ag ⊢;clear c3 c4 Y c6 c7 f3 f4 f5 f6 f7 bo ab aw;obtain ⟨⟨c3,c4,Y,c6,c7⟩,⟨f3,f4,f5,f6,f7⟩,ab⟩:=ag.cells;obtain ⟨t0,t1,t2,t3,t4,t5⟩:=ag.tb.cells;have am:=show Hid (NC S g W W.heap.size t w2 (.slice p1 bg.length c1) bg { st with ws:=rs,mr:=none }) from ag
 have bw:g≠W.heap.size:=by omega
 have bl:=ag.tn.2.1;clear ag
 by_cases au:t.f=0/\st.wr=true
 ·obtain ⟨aa,hw⟩:=au;have C:=show Hid (st.note t=(⟨st.ns,rs,none,true,st.en || decide (t.k=7),st.pt || decide (t.k=8)⟩,bg++[dS,dT t.t])) from (by rw [ar.out,IO ⟨aa,hw⟩];exact rfl)
  have q1:(t.f == 0)=true:=by simpa using aa
  have Q:w2.cell? ⟨g,5,none⟩=some (.bool true):=by rw [Y];show some (Value.bool st.wr)=_;rw [hw]
  have F:=show Hid (∀x y:Bool,(st.en || decide (t.k=7))=x->(st.pt || decide (t.k=8))=y->∃G,Hid ((w2.setCell ⟨g,6,none⟩ (.bool x)).setCell ⟨g,7,none⟩ (.bool y)=G)/\NC S g W W.heap.size t G (.slice p1 bg.length c1) bg (st.note t).1) from (fun x y e1 e2=>by
   refine ⟨_,rfl,am.out.gset bd ((Kp.set _ _ _ _).trans (Kp.set _ _ _ _)) (fun vn vw hb=>?_) (by rw [C.out]) (by rw [C.out])⟩;have:=aj (aj hb 6 (.bool x)) 7 (.bool y);rw [C.out];simp only [e1,e2];rw [show ({ st with ws:=rs,mr:=none }:Sy).wr=true from hw] at this;exact this)
  clear ar Y am aa hw;cases ak:st.en <;> cases al:st.pt
  case' false.false=>obtain ⟨G,an,U⟩:=F.out (t.k == 7) (t.k == 8) (by rw [ak];rfl) (by rw [al];rfl)
  case' false.true=>obtain ⟨G,an,U⟩:=F.out (t.k == 7) true (by rw [ak];rfl) (by rw [al];rfl)
  case' true.false=>obtain ⟨G,an,U⟩:=F.out true (t.k == 8) (by rw [ak];rfl) (by rw [al];rfl)
  case' true.true=>obtain ⟨G,an,U⟩:=F.out true true (by rw [ak];rfl) (by rw [al];rfl)
  all_goals (
   simp only [ak] at c6;simp only [al] at c7;clear ak al F
   go_upto_region 7 with fail
   rw [an.out];clear an t0 t1 t2 t3 t4 t5 c3 c4 c6 c7 Q f3 f4 f5 f6 f7 ab bl;obtain ⟨t0,t1,t2,t3,t4,t5⟩:=U.tb.cells
   have ad:=show Hid (∀X,Below G.heap.size G X->Rd (X.alloc (zE t.t)) (.slice p1 bg.length c1) bg/\∀v' w',Rd w' v' (bg++[dS,dT t.t])->(X.alloc (zE t.t)).grownBy w' (Value.slice p1 bg.length c1).ownBlock->Nb (X.alloc (zE t.t)) (.slice p1 bg.length c1) v'->An S g W w' v' (st.note t).2 (st.note t).1) from (fun X hX=>by
    have M:Below G.heap.size G (X.alloc (zE t.t)):=hX.alloc hX.size _;refine ⟨fx U.an.2.1 M,fun v' w' H O I=>?_⟩;have:=(U.app M H O I).an;rw [show (st.note t).2=bg++[dS,dT t.t] by rw [C.out]];exact this)
   clear U
   go_wp2_with (first|(go_at_call 135;refine (bh.out _).mono ?_;rintro r4 w4 ⟨rfl,bm⟩;obtain ⟨x1,x2⟩:=ad.out _ bm;have az:=ai x1;have ba:=ai x2;clear bm x1 x2)|(at_builtin;refine sd rfl _ _ rfl (.slice p1 bg.length c1) bg [dS,dT t.t] rfl az.out w4.heap.size 2 rfl (ny t.t w4) (by simp;omega) ?_;intro v' w' H O I;have HX:=show Hid _ from ba.out v' w' H O I;clear H O I))
   go_ret
   exact ⟨_,rfl,HX.out⟩)
 ·have C:=show Hid (st.note t=(⟨st.ns,rs,none,true,true,st.pt⟩,bg++dH :: ((if 2<=t.f/\st.wr=true/\bg=[] then [dE] else [])++[dT t.t]))) from (by rw [ar.out,Eq au];exact rfl)
  have Q:w2.cell? ⟨g,5,none⟩=some (.bool st.wr):=Y;have av:=show Hid (¬(t.f=0/\st.wr=true)) from au
  clear ar Y au
  go_cut [26] from 18 to 26 (fun t9 wx=>t9=.bool false/\wx=w2)
  case first=>
   by_cases aa:t.f=0
   ·have hw:st.wr=false:=by cases hq:st.wr with|false=>rfl|true=>exact absurd ⟨aa,hq⟩ av.out
    have q1:(t.f == 0)=true:=by simpa using aa
    rw [hw] at Q;clear aa hw av
    go_wp2_with fail
    go_meet
    exact ⟨rfl,rfl⟩
   ·have q1:(t.f == 0)=false:=by simpa using aa
    clear aa av
    go_wp2_with fail
    go_meet
    exact ⟨rfl,rfl⟩
  case rest=>
  obtain ⟨rfl,ac⟩:=hcut;replace ac:=ac.symm;subst ac
  have ae:=show Hid (Rd (w2.alloc (.cells #[.int .u8 4,.string ⟨#[]⟩,.int .i64 0,.int .i64 0,.bool false] 89)) (.slice p1 bg.length c1) bg/\∀v' w',Rd w' v' (bg++[dH])->(w2.alloc (.cells #[.int .u8 4,.string ⟨#[]⟩,.int .i64 0,.int .i64 0,.bool false] 89)).grownBy w' (Value.slice p1 bg.length c1).ownBlock->Nb (w2.alloc (.cells #[.int .u8 4,.string ⟨#[]⟩,.int .i64 0,.int .i64 0,.bool false] 89)) (.slice p1 bg.length c1) v'->NC S g W W.heap.size t w' v' (bg++[dH]) { st with ws:=rs,mr:=none }) from (by
   have M:Below w2.heap.size w2 (w2.alloc (.cells #[.int .u8 4,.string ⟨#[]⟩,.int .i64 0,.int .i64 0,.bool false] 89)):=(hH _ _).alloc (gt _) _;exact ⟨fx am.out.an.2.1 M,fun v' w' H O I=>am.out.app M H O I⟩)
  clear t0 t1 t2 t3 t4 t5 c3 c4 c6 c7 Q f3 f4 f5 f6 f7 ab bl am
  go_upto_region 9 with (at_builtin;refine sd rfl _ _ rfl (.slice p1 bg.length c1) bg [dH] rfl ae.out.1 w2.heap.size 1 rfl (te dH w2) (by simp;omega) ?_;intro v' G H O I;have U:=ae.out.2 v' G H O I;obtain ⟨p3,c3,ev,_⟩:=bG H;subst ev;have F:=show Hid (NC S g W W.heap.size t G (.slice p3 (bg++[dH]).length c3) (bg++[dH]) { st with ws:=rs,mr:=none }) from U;clear H O I U)
  clear ae;obtain ⟨⟨bb,c4,Y,c6,c7⟩,⟨f3,f4,f5,f6,f7⟩,ab⟩:=F.out.cells;obtain ⟨t0,t1,t2,t3,t4,t5⟩:=F.out.tb.cells;have Q:G.cell? ⟨g,5,none⟩=some (.bool st.wr):=Y;clear Y bb c4;obtain ⟨b9,hb9⟩:∃b9:Bool,decide (2<=t.f/\st.wr=true/\bg=[])=b9:=⟨_,rfl⟩;have J:=show Hid (decide (2<=t.f/\st.wr=true/\bg=[])=b9) from hb9
  clear hb9
  go_cut [73] from 61 to 73 (fun t9 wx=>t9=.bool b9/\wx=G)
  case first=>
   by_cases ap:2<=t.f
   ·cases hw:st.wr with
    |false=>
     have HY:Hid (false=b9):=by rw [<-J.out,Tg (fun h=>by rw [hw] at h;cases h.2.1)];exact rfl
     have q1:(t.f<2)=False:=by simp;omega
     have q2:decide (2<=t.f)=true:=Tf ap;rw [hw] at Q;clear J hw
     go_wp2_with fail
     go_meet
     exact ⟨by rw [HY.out],rfl⟩
    |true=>
     have q2:decide (2<=t.f)=true:=Tf ap;rw [hw] at Q;cases Z:bg with
     |nil=>
      have HY:Hid (true=b9):=by rw [<-J.out,Tf ⟨ap,hw,Z⟩];exact rfl
      clear J hw;subst Z
      go_wp2_with fail
      go_meet
      exact ⟨by rw [HY.out],rfl⟩
     |cons x y=>
      have HY:Hid (false=b9):=by rw [<-J.out,Tg (fun h=>by rw [Z] at h;cases h.2.2)];exact rfl
      clear J hw;subst Z;have q3:decide ((0:Int)<((x :: y).length:Int))=true:=by simp
      have q4:(0:Int)<(y.length:Int)+1:=by omega
      go_wp2_with fail
      go_meet
      exact ⟨by rw [HY.out],rfl⟩
   ·have HY:Hid (false=b9):=by rw [<-J.out,Tg (fun h=>ap h.1)];exact rfl
    have q2:decide (2<=t.f)=false:=Tg ap;clear J
    go_wp2_with fail
    go_meet
    exact ⟨by rw [HY.out],rfl⟩
  case rest=>
  obtain ⟨rfl,ac⟩:=hcut;replace ac:=ac.symm;subst ac;obtain ⟨em,hem⟩:∃em,(if 2<=t.f/\st.wr=true/\bg=[] then [dE] else [])=em:=⟨_,rfl⟩
  have af:=show Hid ((b9=true->em=[dE])/\(b9=false->em=[])/\em.length<=1) from (by
   refine ⟨fun hb=>?_,fun hb=>?_,?_⟩
   ·rw [<-hem,IO (TI (J.out.trans hb))]
   ·rw [<-hem,Eq (VK (J.out.trans hb))]
   ·rw [<-hem];split <;> simp)
  rw [hem] at C;clear hem J t0 t1 t2 t3 t4 t5 c6 c7 Q f3 f4 f5 f6 f7 ab
  go_upto_if 73 with fail
  go_cut [5] from 74 to 77 (fun t9 wx=>∃p n c,t9=.slice p n c/\Hid (NC S g W W.heap.size t wx (.slice p n c) (bg++dH :: em) { st with ws:=rs,mr:=none }))
  case first=>
   cases b9 with
   |true=>
    obtain rfl:em=[dE]:=af.out.1 rfl
    have ae:=show Hid (Rd (G.alloc (.cells #[.int .u8 5,.string ⟨#[]⟩,.int .i64 0,.int .i64 0,.bool false] 89)) (.slice p3 (bg++[dH]).length c3) (bg++[dH])/\∀v' w',Rd w' v' ((bg++[dH])++[dE])->(G.alloc (.cells #[.int .u8 5,.string ⟨#[]⟩,.int .i64 0,.int .i64 0,.bool false] 89)).grownBy w' (Value.slice p3 (bg++[dH]).length c3).ownBlock->Nb (G.alloc (.cells #[.int .u8 5,.string ⟨#[]⟩,.int .i64 0,.int .i64 0,.bool false] 89)) (.slice p3 (bg++[dH]).length c3) v'->NC S g W W.heap.size t w' v' ((bg++[dH])++[dE]) { st with ws:=rs,mr:=none }) from (by
     have M:Below G.heap.size G (G.alloc (.cells #[.int .u8 5,.string ⟨#[]⟩,.int .i64 0,.int .i64 0,.bool false] 89)):=(hH _ _).alloc (gt _) _;exact ⟨fx F.out.an.2.1 M,fun v' w' H O I=>F.out.app M H O I⟩)
    have bt:(bg++[dH]).length<=900000001:=by simp;omega
    clear F af
    go_wp2_with (at_builtin;refine sd rfl _ _ rfl (.slice p3 (bg++[dH]).length c3) (bg++[dH]) [dE] (by simp [Act.eval,Act.put]) ae.out.1 G.heap.size 1 rfl (te dE G) (by simp at bt ⊢;omega) ?_;intro v' w4 H O I;have bi:=ae.out.2 v' w4 H O I;obtain ⟨p4,c4,ev,_⟩:=bG H;subst ev;have ax:=show Hid (NC S g W W.heap.size t w4 (.slice p4 ((bg++[dH])++[dE]).length c4) ((bg++[dH])++[dE]) { st with ws:=rs,mr:=none }) from bi;clear H O I bi)
    go_meet
    refine ⟨_,_,_,rfl,?_⟩;have:=ax.out;rw [show ((bg++[dH])++[dE]).length=bg.length+1+1 by simp,S5] at this;exact this
   |false=>
    obtain rfl:em=[]:=af.out.2.1 rfl;have ax:=show Hid (NC S g W W.heap.size t G (.slice p3 (bg++[dH]).length c3) (bg++[dH]) { st with ws:=rs,mr:=none }) from F.out
    clear F af
    go_wp2_with fail
    go_meet
    refine ⟨_,_,_,rfl,?_⟩;have:=ax.out;rw [show (bg++[dH]).length=bg.length+1 by simp] at this;exact this
  case rest=>
  obtain ⟨p5,n5,Y,rfl,bk⟩:=hcut;obtain ⟨w5,hw5⟩:∃w5,w5=wc:=⟨wc,rfl⟩;subst hw5;have ay:=show Hid (NC S g W W.heap.size t w5 (.slice p5 n5 Y) (bg++dH :: em) { st with ws:=rs,mr:=none }) from bk.out
  obtain ⟨⟨bb,c4,Q,c6,c7⟩,⟨f3,f4,f5,f6,f7⟩,ab⟩:=ay.out.cells;have bv:=af.out.2.2
  have ah:NC S g W W.heap.size t ((w5.setCell ⟨g,5,none⟩ (.bool true)).setCell ⟨g,6,none⟩ (.bool true)) (.slice p5 n5 Y) (bg++dH :: em) (st.note t).1:=by
   refine ay.out.gset bd ((Kp.set _ _ _ _).trans (Kp.set _ _ _ _)) (fun vn vw hb=>?_) (by rw [C.out]) (by rw [C.out]);rw [C.out];exact aj (aj hb 5 (.bool true)) 6 (.bool true)
  clear bk F af
  go_upto_region 12 with fail
  obtain ⟨w6,bp⟩:∃w6,(w5.setCell ⟨g,5,none⟩ (.bool true)).setCell ⟨g,6,none⟩ (.bool true)=w6:=⟨_,rfl⟩;rw [bp] at ah ⊢;clear bp bb c4 Q c6 c7 f3 f4 f5 f6 f7 ab ay;obtain ⟨t0,t1,t2,t3,t4,t5⟩:=ah.tb.cells;obtain ⟨p7,c7,ev7,_⟩:=bG ah.an.2.1;cases ev7
  have ad:=show Hid (∀X,Below w6.heap.size w6 X->Rd (X.alloc (.cells #[.int .u8 1,.string t.t,.int .i64 0,.int .i64 0,.bool false] 89)) (.slice p5 (bg++dH :: em).length Y) (bg++dH :: em)/\∀v' w',Rd w' v' ((bg++dH :: em)++[dT t.t])->(X.alloc (.cells #[.int .u8 1,.string t.t,.int .i64 0,.int .i64 0,.bool false] 89)).grownBy w' (Value.slice p5 (bg++dH :: em).length Y).ownBlock->Nb (X.alloc (.cells #[.int .u8 1,.string t.t,.int .i64 0,.int .i64 0,.bool false] 89)) (.slice p5 (bg++dH :: em).length Y) v'->An S g W w' v' (st.note t).2 (st.note t).1) from (fun X hX=>by
   have M:Below w6.heap.size w6 (X.alloc (.cells #[.int .u8 1,.string t.t,.int .i64 0,.int .i64 0,.bool false] 89)):=hX.alloc hX.size _;refine ⟨fx ah.an.2.1 M,fun v' w' H O I=>?_⟩;have:=(ah.app M H O I).an;rw [show (st.note t).2=(bg++dH :: em)++[dT t.t] by rw [C.out];simp];exact this)
  have bq:(bg++dH :: em).length<=900000002:=by simp;omega
  obtain ⟨L,hL⟩:∃L,bg++dH :: em=L:=⟨_,rfl⟩;rw [hL] at ad bq ⊢;clear ah C hL
  go_wp2_with (first|(go_at_call 135;refine (bh.out _).mono ?_;rintro r8 w8 ⟨rfl,bn⟩;obtain ⟨x1,x2⟩:=ad.out _ bn;have az:=show Hid (Rd (w8.alloc (.cells #[.int .u8 1,.string t.t,.int .i64 0,.int .i64 0,.bool false] 89)) (.slice p5 L.length Y) L) from x1;have ba:=show Hid (∀v' w',Rd w' v' (L++[dT t.t])->(w8.alloc (.cells #[.int .u8 1,.string t.t,.int .i64 0,.int .i64 0,.bool false] 89)).grownBy w' (Value.slice p5 L.length Y).ownBlock->Nb (w8.alloc (.cells #[.int .u8 1,.string t.t,.int .i64 0,.int .i64 0,.bool false] 89)) (.slice p5 L.length Y) v'->An S g W w' v' (st.note t).2 (st.note t).1) from x2;clear bn x1 x2)|(at_builtin;refine sd rfl _ _ rfl (.slice p5 L.length Y) L [dT t.t] rfl az.out w8.heap.size 1 rfl (te (dT t.t) w8) (by simp;omega) ?_;intro v' w' H O I;have HX:=show Hid _ from ba.out v' w' H O I;clear H O I))
  go_ret
  exact ⟨_,rfl,HX.out⟩
def Pq (W:World) (q:Nat) (a b:Nat):Prop:=∃c0 c1 c2 c3 c4 c5 c6,W.heap[q]?=some (.cells #[c0,c1,c2,c3,c4,c5,c6,.func (.func a) #[] #[],.func (.func b) #[] #[]] 227 (0,0))
theorem Pq.cells {W:World}{q a b:Nat}(h:Pq W q a b):W.cell? ⟨q,7,none⟩=some (.func (.func a) #[] #[])/\W.cell? ⟨q,8,none⟩=some (.func (.func b) #[] #[]):=by
 obtain ⟨c0,c1,c2,c3,c4,C,c6,h⟩:=h;exact ⟨af h rfl,af h rfl⟩
structure LC (S:Nat->Prop) (g:Nat) (W:World) (T:Nat) (t:Tv) (q a b:Nat) (V:World) (st:Sy):Prop where
 ex:∃Si,SS Si V g st/\(∀k,Si k->S k\/W.heap.size<=k)/\¬Si T/\¬Si q
 kp:Kp S W V
 tb:MT V T t
 rb:Pq V q a b
 tq:T<V.heap.size/\q<V.heap.size/\S g
theorem LC.step {S:Nat->Prop}{g:Nat}{W:World}{T:Nat}{t:Tv}{q a b:Nat}{V V':World}{st st':Sy}(h:LC S g W T t q a b V st) {G:Nat->Prop}(I:∀k,G k->S k\/W.heap.size<=k) (J:¬G T) (M:¬G q) (m:Mw G g V V' st'):LC S g W T t q a b V' st':=by
 obtain ⟨⟨O,Q,H⟩,F⟩:=m;obtain ⟨b1,b2,b3⟩:=h.tq;refine ⟨⟨O,Q,fun k C=>?_,fun C=>?_,fun C=>?_⟩,h.kp.step F (fun k Z C=>?_),F.blk h.tb J,?_,Tn b1 F.size,Tn b2 F.size,b3⟩
 ·rcases H k C with e|e
  ·exact I k e
  ·exact .inr (SY h.kp.size e)
 ·rcases H T C with e|e
  ·exact J e
  ·omega
 ·rcases H q C with e|e
  ·exact M e
  ·omega
 ·rcases I k C with e|e
  ·exact e
  ·omega
 ·obtain ⟨c0,c1,c2,c3,c4,U,c6,Y⟩:=h.rb;exact ⟨c0,c1,c2,c3,c4,U,c6,F.blk Y M⟩
theorem LC.below {S:Nat->Prop}(h:LC S g W T t q a b V st) (C:Below V.heap.size V V'):LC S g W T t q a b V' st:=by
 obtain ⟨F,G,H,I,J⟩:=h.ex;exact h.step H I J ⟨⟨F,G.below C,fun _ h=>.inl h⟩,Kp.of_below C⟩
theorem Gn (f:Fx) (args:Array Value) (w:World):(callFunc f.id args).run Tryz.prog w=.ok (.enter f.id args) w:=by
 cases f <;> kernel_rfl
theorem Bz.aws {n:Nat}{st:Sy}(h:Bz n st) (l:List Pz):Bz (n+l.length) (st.aws l):=by
 induction l generalizing n st with
 |nil=>exact h
 |cons p l ih=>
  have:=ih (h.aw p);rw [cj,List.length_cons];exact this.mono (by omega)
theorem Ij (st:Sy) (l:List Pz):(st.aws l).mr=st.mr/\st.ws.length<=(st.aws l).ws.length/\(st.aws l).ns.length=st.ns.length:=by
 induction l generalizing st with
 |nil=>exact ⟨rfl,gt _,rfl⟩
 |cons p l ih=>
  obtain ⟨C,G,F⟩:=ih (st.aw p);rw [cj];refine ⟨C,?_,F.trans (oy p st.ns)⟩;have:st.ws.length<=(st.aw p).ws.length:=by rw [sa,Or];omega
  omega
theorem Bz.emp (h:Bz n st) (f:Int):Bz (n+1) (st.emp f):=by
 unfold Sy.emp
 split
 ·exact h.mono (by omega)
 ·split
  ·exact h.mono (by omega)
  ·refine ⟨?_,by have:=h.2.1;show st.ns.length<=_;omega,fun x C=>by have:=h.2.2 x C;omega⟩;have:=h.1
   rename_i m _ _
   show (st.ws.take m++dE :: st.ws.drop m).length<=n+1
   simp only [Or,Ty,List.length_cons,Tw];omega
theorem Bz.endl (h:Bz n st):Bz (n+1) st.endl:=by
 unfold Sy.endl
 split
 ·exact ⟨by have:=h.1;show (dH :: st.ws).length<=_;simp;omega,by have:=h.2.1;show st.ns.length<=_;omega,fun x C=>by have:=h.2.2 x C;omega⟩
 ·exact h.mono (by omega)
theorem uf (st:Sy) (f:Int):(st.emp f).ns=st.ns:=by unfold Sy.emp;split;rfl;split <;> rfl
theorem lg (st:Sy):st.endl.ns=st.ns:=by unfold Sy.endl;split <;> rfl
theorem nQ (st:Sy):st.part.ns=st.ns:=by unfold Sy.part;split <;> rfl
theorem yO (f:Fx):f.pz.length<=2:=by cases f <;> decide
theorem LC.lay {S:Nat->Prop}(h:LC S g W T t q a b V st) :
  ∃vw,V.cell? ⟨g,2,none⟩=some vw/\(∃p c,vw=.slice p st.ws.length c)/\Rd V vw st.ws/\∀U Q v' l,Below V.heap.size V U->Rd Q v' l->U.grownBy Q vw.ownBlock->Nb U vw v' ->
   (SB Q g false (V.cell? ⟨g,1,none⟩ |>.getD undef) vw st.mr.isSome (st.mr.getD 0:Nat) st.wr st.en st.pt) /\
   ∀I,Kp (fun k=>k=g) Q I->SB I g false (V.cell? ⟨g,1,none⟩ |>.getD undef) (.slice none 0 0) false 0 true false false ->
    ∃Si,SS Si I g ⟨st.ns,[],none,true,false,false⟩/\Pq I q a b/\∀w6 M,Mw Si g I w6 M->An S g W w6 v' l M:=by
 obtain ⟨Si,s1,s2,s3,s4⟩:=h.ex;obtain ⟨vn,vw,hv,v1,v2⟩:=s1.ex;obtain ⟨p,c,ew,_⟩:=bG hv.rd;have af:=hv.sb.cells.2.1;refine ⟨vw,hv.sb.cells.2.2.1,⟨p,c,ew⟩,hv.rd,fun U Q v' l hb hr hg O=>?_⟩;rw [af,Wa];have H:=hv.below hb;have Z:Kp (fun k=>vw.ownBlock=some k) U Q:=(Kp.of_grown hg).sub (fun k e=>e.symm);have ah:¬vw.ownBlock=some g:=aN H.rd H.sb (by decide);have h3:=H.sb.kp Z ah;have n3:=Z.row H.rn (fun k Y C=>kI H.rn H.rd (by decide) k Y C);refine ⟨h3,fun I F ad=>?_⟩;have n5:Rn tN I vn st.ns:=F.row n3 (fun k Y C=>aN n3 h3 (by decide) (by rw [Y,C]));have r5:Rd I v' l:=F.row hr (fun k Y C=>aN hr h3 (by decide) (by rw [Y,C]));have J:=h.below hb
 have ai:∀k,v'.ownBlock=some k->S k\/W.heap.size<=k:=fun k e=>by
  rcases O with O|⟨q',hq,ac⟩
  ·exact s2 k (v2 k (by rw [<-O];exact e))
  ·rw [hq] at e;cases e;exact .inr (SY J.kp.size ac)
 have ae:∀k,vn.ownBlock=some k->v'.ownBlock≠some k:=fun k e C=>by
  rcases O with O|⟨q',hq,ac⟩
  ·exact kI H.rn H.rd (by decide) k e (by rw [<-O];exact C)
  ·rw [hq] at C;cases C;have:=ip H.rn k e;omega
 have aj:v'.ownBlock≠some g:=aN hr h3 (by decide);refine ⟨fun k=>Si k/\v'.ownBlock≠some k,⟨⟨vn,.slice none 0 0,⟨ad,n5,lS _⟩,fun k e=>⟨v1 k e,ae k e⟩,fun k e=>by cases e⟩,⟨s1.sg,aj⟩,fun k G=>?_⟩,?_,?_⟩
 ·exact Tn (s1.lt k G.1) (SY hb.size (SY Z.size F.size))
 ·obtain ⟨c0,c1,c2,c3,c4,c5,c6,h9⟩:=J.rb;exact ⟨c0,c1,c2,c3,c4,c5,c6,F.blk (Z.blk h9 (fun e=>s4 (v2 q e))) (fun e=>s4 (by rw [e];exact s1.sg))⟩
 ·rintro w6 M ⟨⟨S6,a1,a2⟩,aa⟩
  have ab:Kp S W I:=(J.kp.step Z (fun k ag e=>by
   rcases s2 k (v2 k e) with C|C
   ·exact C
   ·omega)).step F (fun k _ e=>by rw [e];exact h.tq.2.2)
  refine ⟨⟨S6,a1,fun k G=>?_,fun k e=>⟨ai k e,fun G=>?_⟩⟩,Ag r5 aa (fun k e G=>G.2 e),ab.step aa (fun k ag G=>?_)⟩
  ·rcases a2 k G with e|e
   ·exact s2 k e.1
   ·exact .inr (SY ab.size e)
  ·rcases a2 k G with C|C
   ·exact C.2 e
   ·have:=ip r5 k e;omega
  ·rcases s2 k G.1 with e|e
   ·exact e
   ·omega
set_option maxRecDepth 100000 in
theorem F1 {S:Nat->Prop}(h:SS S W g st) (hz:Bz 900000000 st) (hm:∀m,st.mr=some m->m<=st.ws.length) {n:Nd}{r:List Nd}(e:st.ns=n :: r) (t:Tv) :
  Ta 82 #[cd g,.agg #[.int .u8 t.k,.string t.t,.int .i64 t.a,.int .i64 t.l,.int .i64 t.c,.int .i64 t.f]] W fun J w'=>∃v,J=.returned v/\An S g W w' v (st.leaf t).2 (st.leaf t).1:=by
 obtain ⟨V,hV⟩:∃V,W.alloc (.cells #[.int .u8 t.k,.string t.t,.int .i64 t.a,.int .i64 t.l,.int .i64 t.c,.int .i64 t.f] 49)=V:=⟨_,rfl⟩;have hB:Below W.heap.size W V:=by rw [<-hV];exact (hH _ _).alloc (gt _) _
 have hT:MT V W.heap.size t:=by rw [<-hV];exact aq _ _
 have bx:V.heap.size=W.heap.size+1:=by rw [<-hV];show (W.heap.push _).size=_;simp
 have HV:Hid (W.alloc (.cells #[.int .u8 t.k,.string t.t,.int .i64 t.a,.int .i64 t.l,.int .i64 t.c,.int .i64 t.f] 49)=V):=hV;obtain ⟨b,cap,hc,y0,y1,y2,y3⟩:=(h.below hB).nodes e;obtain ⟨R,hR⟩:∃R,aH n t=R:=⟨_,rfl⟩
 obtain ⟨a,b',c,d,e',f',av⟩:∃a b c d e f,R.ns=[a,b,c,d,e,f]:=by
  rw [<-hR];unfold aH
  split
  ·cases hq:tab.find? (fun r=>r.fits n t.t) with
   |none=>exact ⟨0,0,0,0,0,0,rfl⟩
   |some x=>exact SH (zM x (U1 hq))
  ·exact ⟨0,0,0,0,0,0,rfl⟩
 have bf:R.v=.agg #[.int .u8 a,.int .u8 b',.int .u8 c,.int .u8 d,.int .u8 e',.int .u8 f',.string ⟨R.t.toArray⟩,.func (.func R.a.id) #[] #[],.func (.func R.b.id) #[] #[]]:=by
  have:R=⟨[a,b',c,d,e',f'],R.t,R.a,R.b⟩:=by rw [<-av]
  rw [this];exact Md _ _ _ _ _ _ _ _ _
 have az:Hid (∀X,Ta 130 #[.agg #[.int .u8 n.k,.int .i64 n.b,.bool n.s],.agg #[.int .u8 t.k,.string t.t,.int .i64 t.a,.int .i64 t.l,.int .i64 t.c,.int .i64 t.f]] X fun e w'=>e=.returned (.agg #[.int .u8 a,.int .u8 b',.int .u8 c,.int .u8 d,.int .u8 e',.int .u8 f',.string ⟨R.t.toArray⟩,.func (.func R.a.id) #[] #[],.func (.func R.b.id) #[] #[]])/\Below X.heap.size X w'):=fun X=>by rw [<-bf,<-hR];exact Cb n t X
 have HI:Hid (∀X,Below V.heap.size V X->Ta 122 #[cd g] X fun J w'=>J=.returned (.pointer (some ⟨b,r.length*3,none⟩))/\Below X.heap.size X w'):=fun X M=>gh (cM hc M) (by have:=hz.2.1;rw [e] at this;simp at this;omega)
 have HK:Hid (∀X,Below V.heap.size V X->(X.cell? ⟨b,r.length*3,none⟩=some (.int .u8 n.k)/\X.cell? ⟨b,r.length*3+1,none⟩=some (.int .i64 n.b)/\X.cell? ⟨b,r.length*3+2,none⟩=some (.bool n.s))/\MT X W.heap.size t):=fun X M=>⟨⟨cM y0 M,cM y1 M,cM y2 M⟩,ag hT M⟩
 obtain ⟨t0,t1,t2,t3,t4,t5⟩:=hT.cells;have cr:=S9 _ _ y0;have cm:=show Hid (V.heap.size=W.heap.size+1) from bx
 have cl:W.heap.size<V.heap.size:=by omega
 clear y3 hV bx
 go_enter Tryz.func82,Tryz.ntmps82
 go_upto_region 1 with fail
 rw [HV.out];have ax:Hid (Below V.heap.size V (V.alloc (.cells #[.int .u8 0,.int .u8 0,.int .u8 0,.int .u8 0,.int .u8 0,.int .u8 0,.string ⟨#[]⟩,.nilFunc,.nilFunc] 227)).drew):=((hH _ V).alloc (gt _) _).drew;have bq:Hid (∀w',Below (V.alloc (.cells #[.int .u8 0,.int .u8 0,.int .u8 0,.int .u8 0,.int .u8 0,.int .u8 0,.string ⟨#[]⟩,.nilFunc,.nilFunc] 227)).drew.heap.size (V.alloc (.cells #[.int .u8 0,.int .u8 0,.int .u8 0,.int .u8 0,.int .u8 0,.int .u8 0,.string ⟨#[]⟩,.nilFunc,.nilFunc] 227)).drew w'->w'.heap[V.heap.size]?=some (.cells #[.int .u8 0,.int .u8 0,.int .u8 0,.int .u8 0,.int .u8 0,.int .u8 0,.string ⟨#[]⟩,.nilFunc,.nilFunc] 227 (0,0))):=fun w' hw=>ag (W:=(V.alloc (.cells #[.int .u8 0,.int .u8 0,.int .u8 0,.int .u8 0,.int .u8 0,.int .u8 0,.string ⟨#[]⟩,.nilFunc,.nilFunc] 227)).drew) (aq V _) hw
 have bp:Hid (∀H w',Below (H.alloc (.cells #[.int .u8 0,.int .u8 0,.int .u8 0,.int .u8 0,.int .u8 0,.int .u8 0,.string ⟨#[]⟩,.nilFunc,.nilFunc] 227)).heap.size (H.alloc (.cells #[.int .u8 0,.int .u8 0,.int .u8 0,.int .u8 0,.int .u8 0,.int .u8 0,.string ⟨#[]⟩,.nilFunc,.nilFunc] 227)) w'->w'.heap[H.heap.size]?=some (.cells #[.int .u8 0,.int .u8 0,.int .u8 0,.int .u8 0,.int .u8 0,.int .u8 0,.string ⟨#[]⟩,.nilFunc,.nilFunc] 227 (0,0))/\Below H.heap.size H w'):=fun H w' hw=>⟨ag (aq H _) hw,((hH _ H).alloc (gt _) _).trans (hw.mono (by show _<=(H.heap.push _).size;simp))⟩
 go_cut [5] from 7 to 12 (fun t9 wx=>∃q,t9=.pointer (some ⟨q,0,none⟩)/\Hid (Below V.heap.size V wx/\V.heap.size<=q/\wx.heap[q]?=some (.cells #[.int .u8 a,.int .u8 b',.int .u8 c,.int .u8 d,.int .u8 e',.int .u8 f',.string ⟨R.t.toArray⟩,.func (.func R.a.id) #[] #[],.func (.func R.b.id) #[] #[]] 227 (0,0))))
 case first=>
  clear h hz hm e hB hc hR av bf
  go_region_law (first|(go_simp;go_at_call 122;refine (HI.out _ (by first|exact (hH _ _).drew|exact ax.out)).mono ?_;rintro r1 H ⟨rfl,ay⟩;have aw:=show Hid (Below V.heap.size V H) from (by first|exact (hH V.heap.size V).drew.trans (ay.mono (gt _))|exact ax.out.trans (ay.mono ax.out.size));obtain ⟨⟨z0,z1,z2⟩,zt⟩:=HK.out _ aw.out;obtain ⟨u0,u1,u2,u3,u4,u5⟩:=zt.cells;have bg:=S9 _ _ z0;have dh:=S9 _ _ u0;(try (have cf:=bq.out _ ay));clear ay zt)|(go_simp;go_at_call 130;refine (az.out _).mono ?_;rintro r2 w2 ⟨rfl,hb2⟩;first|(have C:=ag cf hb2;have ba:=show Hid (Below H.heap.size H w2) from hb2;have cx:=af (k:=0) C rfl;have cy:=af (k:=1) C rfl;have cz:=af (k:=2) C rfl;have da:=af (k:=3) C rfl;have db:=af (k:=4) C rfl;have dc:=af (k:=5) C rfl;have dd:=af (k:=6) C rfl;have de:=af (k:=7) C rfl;have df:=af (k:=8) C rfl;have zf:=fun j=>am (k:=j) C;clear hb2 cf)|(have bh:=bp.out _ _ hb2;have C:=bh.1;have ba:=show Hid (Below H.heap.size H w2) from bh.2;have cx:=af (k:=0) C rfl;have cy:=af (k:=1) C rfl;have cz:=af (k:=2) C rfl;have da:=af (k:=3) C rfl;have db:=af (k:=4) C rfl;have dc:=af (k:=5) C rfl;have dd:=af (k:=6) C rfl;have de:=af (k:=7) C rfl;have df:=af (k:=8) C rfl;have zf:=fun j=>am (k:=j) C;clear hb2 bh)|(have ba:=show Hid (Below H.heap.size H w2) from hb2;clear hb2)))
  all_goals (
   go_wp2_with fail
   go_meet
   have ab:=aw.out.trans (ba.out.mono aw.out.size)
   first
    | (refine ⟨w2.heap.size,rfl,?_⟩;exact ⟨ab.alloc ab.size _,ab.size,aq w2 _⟩)
    | (refine ⟨V.heap.size,rfl,?_⟩;have G:V.heap.size<=V.heap.size:=gt _;exact ⟨(((((((((ab.setCell (p:=⟨V.heap.size,0,none⟩) G _).setCell (p:=⟨V.heap.size,1,none⟩) G _).setCell (p:=⟨V.heap.size,2,none⟩) G _).setCell (p:=⟨V.heap.size,3,none⟩) G _).setCell (p:=⟨V.heap.size,4,none⟩) G _).setCell (p:=⟨V.heap.size,5,none⟩) G _).setCell (p:=⟨V.heap.size,6,none⟩) G _).setCell (p:=⟨V.heap.size,7,none⟩) G _).setCell (p:=⟨V.heap.size,8,none⟩) G _),G,(aj (aj (aj (aj (aj (aj (aj (aj (aj C 0 (.int .u8 a)) 1 (.int .u8 b')) 2 (.int .u8 c)) 3 (.int .u8 d)) 4 (.int .u8 e')) 5 (.int .u8 f')) 6 (.string ⟨R.t.toArray⟩)) 7 (.func (.func R.a.id) #[] #[])) 8 (.func (.func R.b.id) #[] #[])).trans (by kernel_rfl)⟩)
    | (refine ⟨H.heap.size,rfl,?_⟩;have G:V.heap.size<=H.heap.size:=aw.out.size;exact ⟨(((((((((ab.setCell (p:=⟨H.heap.size,0,none⟩) G _).setCell (p:=⟨H.heap.size,1,none⟩) G _).setCell (p:=⟨H.heap.size,2,none⟩) G _).setCell (p:=⟨H.heap.size,3,none⟩) G _).setCell (p:=⟨H.heap.size,4,none⟩) G _).setCell (p:=⟨H.heap.size,5,none⟩) G _).setCell (p:=⟨H.heap.size,6,none⟩) G _).setCell (p:=⟨H.heap.size,7,none⟩) G _).setCell (p:=⟨H.heap.size,8,none⟩) G _),G,(aj (aj (aj (aj (aj (aj (aj (aj (aj C 0 (.int .u8 a)) 1 (.int .u8 b')) 2 (.int .u8 c)) 3 (.int .u8 d)) 4 (.int .u8 e')) 5 (.int .u8 f')) 6 (.string ⟨R.t.toArray⟩)) 7 (.func (.func R.a.id) #[] #[])) 8 (.func (.func R.b.id) #[] #[])).trans (by kernel_rfl)⟩))
 case rest=>
  obtain ⟨q,rfl,HQ⟩:=hcut;obtain ⟨H,hw1⟩:∃H,H=wc:=⟨wc,rfl⟩;subst hw1;obtain ⟨s1,hs1⟩:∃s1,st.aws R.a.pz=s1:=⟨_,rfl⟩;obtain ⟨s2,hs2⟩:∃s2,s1.emp t.f=s2:=⟨_,rfl⟩;obtain ⟨I,hs3⟩:∃I,s2.endl=I:=⟨_,rfl⟩;obtain ⟨F,hs4⟩:∃F,I.part=F:=⟨_,rfl⟩;have z1:Bz 900000002 s1:=by rw [<-hs1];exact (hz.aws _).mono (by have:=yO R.a;omega)
  have z2:Bz 900000003 s2:=by rw [<-hs2];exact z1.emp _
  have z3:Bz 900000004 I:=by rw [<-hs3];exact z2.endl
  have z4:F.ws.length<=900000005:=by
   rw [<-hs4];unfold Sy.part
   split
   ·have:=z3.1;show (I.ws++[dS]).length<=_;simp;omega
   ·have:=z3.1;omega
  have e1:s1.ns≠[]:=by
   intro h0;have:=(Ij st R.a.pz).2.2;rw [hs1,h0,e] at this;simp at this
  have e3:I.ns=s1.ns:=by rw [<-hs3,lg,<-hs2,uf]
  have e4:F.ns=s1.ns:=by rw [<-hs4,nQ,e3]
  have ck:∀x∈F.ns,x.b<=900000005:=fun x hx=>by rw [e4] at hx;have:=z1.2.2 x hx;omega
  have cj:F.ns.length<=900000005:=by rw [e4];have:=z1.2.1;omega
  have ce:∀m,s1.mr=some m->m<=s1.ws.length:=fun m h0=>by
   obtain ⟨x1,x2,_⟩:=Ij st R.a.pz;rw [hs1] at x1 x2;have:=hm m (by rw [<-x1];exact h0);omega
  have bc:Hid (LC S g W W.heap.size t q R.a.id R.b.id H st):=by
   have ca:Below W.heap.size W H:=hB.trans (HQ.out.1.mono hB.size);have cs:¬S W.heap.size:=fun hs=>by have:=h.lt _ hs;omega
   have ct:¬S q:=fun hs=>by have:=h.lt _ hs;have:=HQ.out.2.1;omega
   exact ⟨⟨S,h.below ca,fun _ h=>.inl h,cs,ct⟩,Kp.of_below ca,ag hT HQ.out.1,⟨_,_,_,_,_,_,_,HQ.out.2.2⟩,by have:=HQ.out.1.size;omega,au HQ.out.2.2,h.sg⟩
  have HA:Hid (∀X,LC S g W W.heap.size t q R.a.id R.b.id X st->Ta R.a.id #[cd g] X fun J w'=>J=.returned (.tuple #[])/\LC S g W W.heap.size t q R.a.id R.b.id w' s1):=fun X M=>by
   obtain ⟨Si,x1,x2,x3,x4⟩:=M.ex;refine (Gq R.a x1 (by rw [e];simp) (hz.mono (by omega))).mono ?_;rintro J w' ⟨rfl,m⟩;rw [hs1] at m;exact ⟨rfl,M.step x2 x3 x4 m.w⟩
  have HP:Hid (∀X,LC S g W W.heap.size t q R.a.id R.b.id X s1->Ta 131 #[cd g,.int .i64 t.f] X fun J w'=>J=.returned (.tuple #[])/\LC S g W W.heap.size t q R.a.id R.b.id w' s2):=fun X M=>by
   obtain ⟨Si,x1,x2,x3,x4⟩:=M.ex;refine (sW x1 (by have:=z1.1;omega) ce t.f).mono ?_;rintro J w' ⟨rfl,m⟩;rw [hs2] at m;exact ⟨rfl,M.step x2 x3 x4 m.w⟩
  have bj:Hid (∀X,LC S g W W.heap.size t q R.a.id R.b.id X s2->Ta 84 #[cd g] X fun J w'=>J=.returned (.tuple #[])/\LC S g W W.heap.size t q R.a.id R.b.id w' I):=fun X M=>by
   obtain ⟨Si,x1,x2,x3,x4⟩:=M.ex;refine (mV x1 (by have:=z2.1;omega)).mono ?_;rintro J w' ⟨rfl,m⟩;rw [hs3] at m;exact ⟨rfl,M.step x2 x3 x4 m.w⟩
  have Y:Hid (∀X,LC S g W W.heap.size t q R.a.id R.b.id X I->Ta 132 #[cd g,.func (.func 133) #[] #[]] X fun J w'=>J=.returned (.bool (I.ws.any bU))/\LC S g W W.heap.size t q R.a.id R.b.id w' I):=fun X M=>by
   obtain ⟨Si,x1,x2,x3,x4⟩:=M.ex;obtain ⟨vn,vw,hv,_⟩:=x1.ex;refine (DL hv (by have:=z3.1;omega)).mono ?_;rintro J w' ⟨rfl,hb⟩;exact ⟨rfl,M.below hb⟩
  have ac:Hid (∀X,LC S g W W.heap.size t q R.a.id R.b.id X I->I.pt=true/\I.ws.any bU=false->Ta 134 #[cd g] X fun J w'=>J=.returned (.tuple #[])/\LC S g W W.heap.size t q R.a.id R.b.id w' F):=fun X M hd=>by
   obtain ⟨Si,x1,x2,x3,x4⟩:=M.ex;refine (jE x1 (by rw [e3];exact e1) (z3.mono (by omega))).mono ?_;rintro J w' ⟨rfl,m⟩
   have e9:I.aw .S=F:=by
    rw [<-hs4];unfold Sy.part;rw [IO hd];unfold Sy.aw;have:iw .S I.ns=I.ns:=by cases I.ns with|nil=>rfl|cons x y=>rfl
    rw [this];rfl
   rw [e9] at m;exact ⟨rfl,M.step x2 x3 x4 m.w⟩
  have ah:Hid (¬(I.pt=true/\I.ws.any bU=false)->I=F):=fun hd=>by rw [<-hs4];unfold Sy.part;rw [Eq hd]
  have ad:Hid (∀X,LC S g W W.heap.size t q R.a.id R.b.id X I->X.cell? ⟨g,7,none⟩=some (.bool I.pt)):=fun X M=>by
   obtain ⟨Si,x1,x2,x3,x4⟩:=M.ex;obtain ⟨vn,vw,hv,_⟩:=x1.ex;exact hv.sb.cells.2.2.2.2.2.2.2
  have bd:Hid ((st.leaf t).2=F.ws++[dT t.t]/\(st.leaf t).1=Sy.aws ⟨F.ns,[],none,true,false,false⟩ R.b.pz):=by
   unfold Sy.leaf;rw [e];simp only;rw [hR];have:st.ready R.a t.f=F:=by unfold Sy.ready;rw [hs1,hs2,hs3,hs4]
   rw [this];exact ⟨rfl,rfl⟩
  have bt:Hid (∀X,Ta 135 #[.agg #[.int .u8 t.k,.string t.t,.int .i64 t.a,.int .i64 t.l,.int .i64 t.c,.int .i64 t.f]] X fun e w'=>e=.returned (.agg #[.int .u8 1,.string t.t,.int .i64 0,.int .i64 0,.bool false])/\Below X.heap.size X w'):=oQ t;have bu:=show Hid (F.ns≠[]/\F.ws.length<=900000005/\(∀x∈F.ns,x.b<=900000005)/\F.ns.length<=900000005) from ⟨by rw [e4];exact e1,z4,ck,cj⟩
  have eA:=Gn R.a;have eB:=Gn R.b;clear h hz hm e hB hT hc y0 y1 y2 hR av bf az HI HK t0 t1 t2 t3 t4 t5 cr cl HV cm ax bq bp hs1 hs2 hs3 hs4 z1 z2 z3 z4 e1 e3 e4 ck cj ce;obtain ⟨r7,r8⟩:=bc.out.rb.cells
  go_wp2_with fail
  refine (HA.out _ bc.out).mono ?_;rintro J w2 ⟨rfl,be⟩;obtain ⟨t0,t1,t2,t3,t4,t5⟩:=be.tb.cells;have bn:=show Hid (LC S g W W.heap.size t q R.a.id R.b.id w2 s1) from be
  clear be HA bc r7 r8 eA
  go_upto_region 5 with (first|(go_at_call 131;refine (HP.out _ bn.out).mono ?_;rintro J w3 ⟨rfl,bv⟩;have bo:=show Hid (LC S g W W.heap.size t q R.a.id R.b.id w3 s2) from bv;clear bv)|(go_at_call 84;refine (bj.out _ bo.out).mono ?_;rintro J w4 ⟨rfl,hL4⟩;have an:=show Hid (LC S g W W.heap.size t q R.a.id R.b.id w4 I) from hL4;clear hL4))
  clear t0 t1 t2 t3 t4 t5 HP bj bn bo;have c7:=ad.out _ an.out;obtain ⟨b9,bg⟩:∃b9:Bool,decide (I.pt=true/\I.ws.any bU=false)=b9:=⟨_,rfl⟩;have Q:=show Hid (decide (I.pt=true/\I.ws.any bU=false)=b9) from bg
  clear bg
  go_cut [31] from 23 to 31 (fun t9 wx=>t9=.bool b9/\Hid (LC S g W W.heap.size t q R.a.id R.b.id wx I))
  case first=>
   cases hp:I.pt with
   |false=>
    have HY:Hid (false=b9):=by rw [<-Q.out,Tg (fun h=>by rw [hp] at h;cases h.1)];exact rfl
    rw [hp] at c7;clear Q hp ac ah ad
    go_wp2_with fail
    go_meet
    exact ⟨by rw [HY.out],an⟩
   |true=>
    rw [hp] at c7;cases ha:I.ws.any bU with
    |true=>
     have HY:Hid (false=b9):=by rw [<-Q.out,Tg (fun h=>by rw [ha] at h;cases h.2)];exact rfl
     rw [ha] at Y;clear Q hp ha ac ah ad
     go_wp2_with (go_at_call 132;refine (Y.out _ an.out).mono ?_;rintro J U ⟨rfl,ap⟩;have ae:=show Hid (LC S g W W.heap.size t q R.a.id R.b.id U I) from ap;clear ap)
     go_meet
     exact ⟨by rw [HY.out],ae⟩
    |false=>
     have HY:Hid (true=b9):=by rw [<-Q.out,Tf ⟨hp,ha⟩];exact rfl
     rw [ha] at Y;clear Q hp ha ac ah ad
     go_wp2_with (go_at_call 132;refine (Y.out _ an.out).mono ?_;rintro J U ⟨rfl,ap⟩;have ae:=show Hid (LC S g W W.heap.size t q R.a.id R.b.id U I) from ap;clear ap)
     go_meet
     exact ⟨by rw [HY.out],ae⟩
  case rest=>
  obtain ⟨rfl,ae⟩:=hcut;obtain ⟨U,hw5⟩:∃U,U=wc:=⟨wc,rfl⟩;subst hw5;clear an c7
  go_upto_if 31 with fail
  go_cut [] from 32 to 33 (fun wx=>Hid (LC S g W W.heap.size t q R.a.id R.b.id wx F))
  case first=>
   cases b9 with
   |true=>
    have HB:=show Hid (Ta 134 #[cd g] U fun J w'=>J=.returned (.tuple #[])/\LC S g W W.heap.size t q R.a.id R.b.id w' F) from ac.out _ ae.out (TI Q.out)
    clear Q ac ah ad Y
    go_wp2_with (go_at_call 134;refine HB.out.mono ?_;rintro J O ⟨rfl,bw⟩;have Z:=show Hid (LC S g W W.heap.size t q R.a.id R.b.id O F) from bw;clear bw)
    go_meet
    exact Z
   |false=>
    have Z:=show Hid (LC S g W W.heap.size t q R.a.id R.b.id U F) from (by have:=ah.out (VK Q.out);rw [<-this];exact ae.out)
    clear Q ac ah ad Y
    go_wp2_with fail
    go_meet
    exact Z
  case rest=>
  have Z:=hcut;obtain ⟨O,cu⟩:∃O,O=wc:=⟨wc,rfl⟩;subst cu;clear hcut ae Q ac ah ad Y;obtain ⟨vw,k1,⟨pw,cw,evw⟩,k3,k4⟩:=Z.out.lay;subst evw;obtain ⟨ak,hvn⟩:∃ak,(O.cell? ⟨g,1,none⟩).getD undef=ak:=⟨_,rfl⟩;rw [hvn] at k4;have bm:=show Hid (∀V1 w3 v' l,Below O.heap.size O V1->Rd w3 v' l->V1.grownBy w3 (Value.slice pw F.ws.length cw).ownBlock->Nb V1 (.slice pw F.ws.length cw) v'->(SB w3 g false ak (.slice pw F.ws.length cw) F.mr.isSome (F.mr.getD 0:Nat) F.wr F.en F.pt)/\∀U,Kp (fun k=>k=g) w3 U->SB U g false ak (.slice none 0 0) false 0 true false false->∃Si,SS Si U g ⟨F.ns,[],none,true,false,false⟩/\Pq U q R.a.id R.b.id/\∀O ar,Mw Si g U O ar->An S g W O v' l ar) from k4
  have bl:=show Hid (∀X,Below O.heap.size O X->Rd X (.slice pw F.ws.length cw) F.ws) from (fun X M=>fx k3 M)
  obtain ⟨t0,t1,t2,t3,t4,t5⟩:=Z.out.tb.cells;have cq:=Z.out.tq.1;have dj:=bu.out.2.1;have bb:=show Hid (∀X,Below O.heap.size O X->X.cell? ⟨g,2,none⟩=some (.slice pw F.ws.length cw)/\MT X W.heap.size t) from (fun X M=>⟨cM k1 M,ag Z.out.tb M⟩)
  clear k3 k4 hvn
  go_upto_region 7 with fail
  go_cut [6] from 34 to 41 (fun t9 wx=>∃p n c,t9=.slice p n c/\Hid ((SB wx g false ak (.slice pw F.ws.length cw) F.mr.isSome (F.mr.getD 0:Nat) F.wr F.en F.pt)/\∀U,Kp (fun k=>k=g) wx U->SB U g false ak (.slice none 0 0) false 0 true false false->∃Si,SS Si U g ⟨F.ns,[],none,true,false,false⟩/\Pq U q R.a.id R.b.id/\∀O ar,Mw Si g U O ar->An S g W O (.slice p n c) (F.ws++[dT t.t]) ar))
  case first=>
   have dg:=show Hid (Below O.heap.size O O.drew) from (hH _ _).drew
   go_region_law (first|(go_simp;go_at_call 135;refine (bt.out _).mono ?_;rintro J w7 ⟨rfl,bz⟩;have al:=show Hid (Below O.heap.size O w7) from (hH O.heap.size O).drew.trans (bz.mono (gt _));have y1:=(bb.out _ al.out).1;obtain ⟨u0,u1,u2,u3,u4,u5⟩:=(bb.out _ al.out).2.cells;have di:=S9 _ _ y1;clear bz)|(refine Eu (by rfl) _ _ (by rfl) (.slice pw F.ws.length cw) F.ws (dT t.t) (by rfl) (bl.out _ (al.out.alloc al.out.size _)) w7.heap.size 1 (by rfl) (aq w7 _) (by omega) ?_;intro q9 cp w8 ch cb cg;have co:=show Hid _ from bm.out _ _ _ _ (al.out.alloc al.out.size _) ch cb (by rcases cg with h|h;exact .inl h.symm;exact .inr ⟨q9,rfl,by omega⟩);clear ch cb cg))
   all_goals (
    go_wp2_with fail
    go_meet
    exact ⟨_,_,_,rfl,co⟩)
  case rest=>
  obtain ⟨p9,n9,c9,rfl,HX⟩:=hcut;obtain ⟨w8,hw8⟩:∃w8,w8=wc:=⟨wc,rfl⟩;subst hw8;have aa:=HX.out.1;obtain ⟨c0,c1,c2,c3,c4,c5,c6,c7⟩:=aa.cells;have f2:=aa.frozen 2;have f3:=aa.frozen 3;have f4:=aa.frozen 4;have f5:=aa.frozen 5;have f6:=aa.frozen 6;have f7:=aa.frozen 7;have cc:Kp (fun k=>k=g) w8 ((((((w8.setCell ⟨g,2,none⟩ (.slice none 0 0)).setCell ⟨g,3,none⟩ (.bool false)).setCell ⟨g,4,none⟩ (.int .i64 0)).setCell ⟨g,6,none⟩ (.bool false)).setCell ⟨g,7,none⟩ (.bool false)).setCell ⟨g,5,none⟩ (.bool true)):=(((((Kp.set _ _ _ _).trans (Kp.set _ _ _ _)).trans (Kp.set _ _ _ _)).trans (Kp.set _ _ _ _)).trans (Kp.set _ _ _ _)).trans (Kp.set _ _ _ _);have ci:SB ((((((w8.setCell ⟨g,2,none⟩ (.slice none 0 0)).setCell ⟨g,3,none⟩ (.bool false)).setCell ⟨g,4,none⟩ (.int .i64 0)).setCell ⟨g,6,none⟩ (.bool false)).setCell ⟨g,7,none⟩ (.bool false)).setCell ⟨g,5,none⟩ (.bool true)) g false ak (.slice none 0 0) false 0 true false false:=aj (aj (aj (aj (aj (aj aa 2 _) 3 _) 4 _) 6 _) 7 _) 5 _;obtain ⟨Si,x1,x2,x3⟩:=HX.out.2 _ cc ci;have br:=ai x1;have bk:=ai x3;have r8:=x2.cells.2;obtain ⟨w9,hw9⟩:∃w9,(((((w8.setCell ⟨g,2,none⟩ (.slice none 0 0)).setCell ⟨g,3,none⟩ (.bool false)).setCell ⟨g,4,none⟩ (.int .i64 0)).setCell ⟨g,6,none⟩ (.bool false)).setCell ⟨g,7,none⟩ (.bool false)).setCell ⟨g,5,none⟩ (.bool true)=w9:=⟨_,rfl⟩;rw [hw9] at r8;have cn:=show Hid ((((((w8.setCell ⟨g,2,none⟩ (.slice none 0 0)).setCell ⟨g,3,none⟩ (.bool false)).setCell ⟨g,4,none⟩ (.int .i64 0)).setCell ⟨g,6,none⟩ (.bool false)).setCell ⟨g,7,none⟩ (.bool false)).setCell ⟨g,5,none⟩ (.bool true)=w9) from hw9
  have bi:Hid (Ta R.b.id #[cd g] w9 fun J w'=>J=.returned (.tuple #[])/\An S g W w' (.slice p9 n9 c9) (st.leaf t).2 (st.leaf t).1):=by
   rw [<-hw9];obtain ⟨y1,y2,y3,y4⟩:=bu.out;refine (Gq R.b br.out y1 ⟨by simp,by show F.ns.length<=_;omega,fun x hx=>by have:=y3 x hx;omega⟩).mono ?_;rintro J w' ⟨rfl,m⟩;rw [bd.out.1,bd.out.2];exact ⟨rfl,bk.out _ _ m.w⟩
  clear hw9 cc ci x1 x2 x3 aa HX br bk bd bl bm bb Z t0 t1 t2 t3 t4 t5 k1 cq bt
  go_upto_region 10 with fail
  rw [cn.out];clear c0 c1 c2 c3 c4 c5 c6 c7 f2 f3 f4 f5 f6 f7
  go_wp2_with fail
  refine bi.out.mono ?_;rintro J cv ⟨rfl,hA⟩;have Y:=show Hid (An S g W cv (.slice p9 n9 c9) (st.leaf t).2 (st.leaf t).1) from hA
  clear hA bi
  go_wp2_with fail
  go_ret
  exact ⟨_,rfl,Y.out⟩
end Go.Proofs.YtcjiapphbpiffaaGreatDoor
