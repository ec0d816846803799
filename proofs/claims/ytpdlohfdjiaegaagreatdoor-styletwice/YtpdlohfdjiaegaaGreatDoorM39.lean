import Derived.Test.YtpdlohfdjiaegaaGreatDoorM38
set_option linter.unusedVariables false
set_option linter.unusedSimpArgs false
namespace Go.Proofs.YtpdlohfdjiaegaaGreatDoor
open Go.RowKit Go.Shelf
variable {w W:World}{g cap s j:Nat}{c:Bool}{e n:Int}{vt vs0:Value}{ys xs:List Value}{ao:Option Addr}{P:Program}
attribute [local go_sem] Oper.semAt_some
structure PXI (w:World) (g:Nat) (c:Bool) (e n:Int) (vs0 vt:Value) (ys xs:List Value) (ao:Option Addr) (cap s j:Nat) (W:World):Prop where
 kp:Kp (fun k=>k=g\/vs0.ownBlock=some k) w W
 st:∃vs,PB W g c e n vs vt/\Rs W vs (ys++(xs.drop (xs.length-j)).reverse)/\Nb w vs0 vs
 box:W.heap[s]?=some (.cells #[.pointer (some ⟨g,0,none⟩)] 83 (0,0))
 bn:W.heap[s+1]?=some (.cells #[.slice ao xs.length cap] 102 (0,0))
theorem PXI.own {W':World}{row:Option Nat}(h:PXI w g c e n vs0 vt ys xs ao cap s j W) (hg:W.grownBy W' row) (hrow:∀r,row=some r->w.heap.size<=r/\∃o:Obj,W.heap[r]?=some o/\o.isCells=false):PXI w g c e n vs0 vt ys xs ao cap s j W':=by
 have hr:=fun r e=>(hrow r e).2
 obtain ⟨vs,h1,h2,h3⟩:=h.st;exact ⟨h.kp.step (Kp.of_grown hg) (fun k hk e=>by have:=(hrow k e.symm).1;omega),⟨vs,bq hg hr h1,sS hg hr h2,h3⟩,bq hg hr h.box,bq hg hr h.bn⟩
theorem tU {w:World}{g:Nat}{c:Bool}{e n:Int}{vs vt:Value}{ys xs:List Value}{ao:Option Addr}{cap:Nat}(h:PB w g c e n vs vt) (hs:Rs w vs ys) :
  PXI w g c e n vs vt ys xs ao cap w.heap.size 0 ((w.alloc (.cells #[.pointer (some ⟨g,0,none⟩)] 83)).alloc (.cells #[.slice ao xs.length cap] 102)):=by
 have hb:Below w.heap.size w ((w.alloc (.cells #[.pointer (some ⟨g,0,none⟩)] 83)).alloc (.cells #[.slice ao xs.length cap] 102)):=((Below.refl _ _).alloc (Nat.le_refl _) _).alloc (by rw [World.size_alloc];exact Nat.le_succ _) _;refine ⟨Kp.of_below hb,⟨vs,h.below hb,?_,Nb.refl _ _⟩,ay (am _ _) _,?_⟩
 ·rw [Nat.sub_zero,List.drop_length];simp only [List.reverse_nil,List.append_nil];exact hs.below hb
 ·have:=am (w.alloc (.cells #[.pointer (some ⟨g,0,none⟩)] 83)) (.cells #[.slice ao xs.length cap] 102);rw [World.size_alloc] at this;exact this
theorem wk (xs:List Value) (j i:Nat) (x:Value) (hx:xs[i]?=some x) (hj:xs.length-j=i+1) (hj2:xs.length-(j+1)=i) (ys:List Value) :
  ys++(xs.drop (xs.length-(j+1))).reverse=(ys++(xs.drop (xs.length-j)).reverse)++[x]:=by
 obtain ⟨h1,h2⟩:=List.getElem?_eq_some_iff.1 hx;rw [hj,hj2,List.drop_eq_getElem_cons h1,h2,List.reverse_cons,List.append_assoc]
theorem PXI.next {W1 w3:World}(h:PXI w g c e n vs0 vt ys xs ao cap s j W) (hb:Below W.heap.size W W1) {i:Nat}{x:Value}(hx:xs[i]?=some x) (hj:xs.length-j=i+1) (hj2:xs.length-(j+1)=i)
  {vs v':Value} (hv:PB W g c e n vs vt) (hvn:Nb w vs0 vs) (hsr:Rs W vs (ys++(xs.drop (xs.length-j)).reverse)) (h3:Rs w3 v' ((ys++(xs.drop (xs.length-j)).reverse)++[x])) (hg:W1.grownBy w3 vs.ownBlock) (hq:Nb W1 vs v') :
  (w3.cell? ⟨s,0,none⟩=some (.pointer (some ⟨g,0,none⟩))/\w3.cell? ⟨g,3,none⟩=some vs/\w3.frozen? ⟨g,3,none⟩=false)/\PXI w g c e n vs0 vt ys xs ao cap s (j+1) (w3.setCell ⟨g,3,none⟩ v')/\∀B,KeepsFrom B W (w3.setCell ⟨g,3,none⟩ v'):=by
 have hv1:=hv.below hb;have hs1:=hsr.below hb;have hne:¬some g=vs.ownBlock:=fun e=>hs1.ne hv1 (by decide) g e.symm rfl
 have hv3:PB w3 g c e n vs vt:=hv1.kp (Kp.of_grown hg) hne
 have hS:∀k,k<w.heap.size->some k=vs.ownBlock->k=g\/vs0.ownBlock=some k:=by
  intro k hk e
  rcases hvn with h1|⟨q,h1,h2⟩
  ·exact .inr (by rw [<-h1,<-e])
  ·rw [h1] at e;simp at e;omega
 have hk1:=ab h.box hb;have hk3:=(Kp.of_grown hg).blk hk1 (fun e=>hs1.ne hk1 (by decide) _ e.symm rfl);refine ⟨⟨aa hk3 rfl,aa hv3 rfl,hv3.frozen 3⟩,⟨?_,⟨v',af hv3 3 _,?_,?_⟩,?_,?_⟩,fun B=>?_⟩
 ·exact ((h.kp.step (Kp.of_below (S:=fun _=>False) hb) (fun _ _ h=>h.elim)).step (Kp.of_grown hg) hS).step (Kp.set _ _ _ _) (fun k _ e=>.inl e)
 ·rw [wk xs j i x hx hj hj2 ys];exact h3.kp (Kp.set _ _ _ _) (h3.ne hv3 (by decide))
 ·exact hvn.trans hq (Nat.le_trans h.kp.size hb.size)
 ·have hk1:=ab h.box hb;have hk3:=(Kp.of_grown hg).blk hk1 (fun e=>hs1.ne hk1 (by decide) _ e.symm rfl);exact (Kp.set w3 g 3 v').blk hk3 (by rintro rfl;have:=hk3.symm.trans hv3;injection this with e;injection e with _ e;exact absurd e (by decide))
 ·have hk5:=ab h.bn hb;have hk6:=(Kp.of_grown hg).blk hk5 (fun e=>hs1.ne hk5 (by decide) _ e.symm rfl);exact (Kp.set w3 g 3 v').blk hk6 (by rintro rfl;have:=hk6.symm.trans hv3;injection this with e;injection e with _ e;exact absurd e (by decide))
 ·refine (((fq hb).trans (fp (Kp.of_grown hg) ?_)).trans (KeepsOthers.setCell _ _ _)).from B
  intro k hk o ho
  rcases hs1.2 with ⟨hv0,_⟩|⟨b,cap',cur,hv0,_,h3',_⟩
  ·rw [hv0] at hk;cases hk
  ·rw [hv0] at hk;simp only [Value.ownBlock,Option.some.injEq] at hk;subst hk;rw [h3'] at ho;cases ho;rfl
theorem pc {n:Nat}{md:Region.Mode}{ops:Array Oper}{Q:Exit->Act->World->Prop}{l:Nat}(hnd:ops.all (fun o=>match o.op with|.defer _=>false|_=>true)=true) :
  ∀{fuel:Nat} {listed:Array Bool} {a:Act} {w:World},wpAnyIn Fence.wide n P md ops Q fuel listed a w->wpAnyIn (Fence.wide.inRound l) n P md ops Q fuel listed a w:=by
 have key:∀(i:Nat) (K K':Act->World->Prop) (a:Act) (w:World),(∀a w,K a w->K' a w)->wpOpIn Fence.wide n P ops Q i K a w->wpOpIn (Fence.wide.inRound l) n P ops Q i K' a w:=by
  intro i K K' a w hKK h;have h2:=wpOpIn_mono hKK h;unfold wpOpIn at h2 ⊢
  split at h2
  ·exact h2
  ·rename_i o ho
   have hno:∀c,o.op≠.defer c:=by
    intro c hc;have:=(Array.all_eq_true.1 hnd) i (Array.getElem?_eq_some_iff.1 ho).1;rw [(Array.getElem?_eq_some_iff.1 ho).2,hc] at this;cases this
   split
   ·rename_i hw
    rw [if_pos hw] at h2;refine ⟨h2.1,?_⟩;have e1:o.semAt (Fence.wide.inRound l).round a.eval=execOp a.eval o:=Oper.semAt_some l _ _ hno;have e2:o.semAt Fence.wide.round a.eval=execOp a.eval o:=rfl;have h3:=h2.2;rw [e2] at h3;rw [e1];exact h3
   ·rename_i hw
    rw [if_neg hw] at h2;exact h2
 intro fuel
 induction fuel with
 |zero=>intro listed a w h;exact h
 |succ f ih=>intro listed a w h;exact ⟨h.1,fun i hi=>key i _ _ a w (fun _ _=>ih) (h.2 i hi)⟩
theorem bp {F:Fence}{n:Nat}{o:Oper}{a:Act}{next:Act->World->Prop}{Q:Exit->Act->World->Prop}{r:Result Next}{v:Value}{w':World}(h:r=.ok (.value v) w') (hn:next (a.put o.dst v) w'):o.uponIn F n P a next Q r:=by subst h;exact hn
set_option maxRecDepth 100000 in
set_option maxHeartbeats 1000000 in
theorem pE {vs:Value}(h:PB w g c e n vs vt) (hs:Rs w vs ys) (ao:Option Addr) (xs:List Value) (cap:Nat) (hL:Lv w ao xs) (hao:∀a,ao=some a->a.block≠g/\vs.ownBlock≠some a.block) (hx:xs.length<=1000000) (hy:ys.length<=100000000) :
  Da 145 #[.pointer (some ⟨g,0,none⟩),.slice ao xs.length cap] w fun r w'=>r=.returned (.int .i64 1)/\(∃vs',PB w' g c e n vs' vt/\Rs w' vs' (ys++xs.reverse)/\Nb w vs vs')/\Kp (fun k=>k=g\/vs.ownBlock=some k) w w':=by
 refine (callsIn_wide (n:=9)).1 ?_;refine callsIn_of_wp_marks Tryz.func145 rfl trivial ?_ rfl;simp only [Tryz.ntmps145,List.size_toArray,List.length_cons,List.length_nil,Nat.reduceAdd,Nat.reduceSub,Array.replicate_succ,Array.replicate_zero,List.push_toArray,List.append_toArray,List.nil_append,List.cons_append]
 gi_wp2
 refine ⟨trivial,?_⟩;refine (callsIn_wide.2 (eR _ _ _ _)).mono ?_;rintro r w1 ⟨rfl,rfl⟩
 gi_wp2
 obtain ⟨s,hsz⟩:∃s,w.heap.size=s:=⟨_,rfl⟩;have h0:=tU (xs:=xs) (ao:=ao) (cap:=cap) h hs;rw [hsz] at h0 ⊢;obtain ⟨W0,hW0⟩:∃W0,(w.alloc (.cells #[.pointer (some ⟨g,0,none⟩)] 83)).alloc (.cells #[.slice ao xs.length cap] 102)=W0:=⟨_,rfl⟩;have hsW:W0.heap.size=s+1+1:=by rw [<-hW0];simp only [World.size_alloc,hsz]
 rw [hW0] at h0 ⊢;clear hW0
 have hLk:∀j W,PXI w g c e n vs vt ys xs ao cap s j W->Lv W ao xs:=fun j W hI=>hL.kp hI.kp (fun a ha hor=>by
  rcases hor with h1|h1
  ·exact (hao a ha).1 h1
  ·exact (hao a ha).2 h1)
 refine gW rfl (by omega) (gf:=217) (lb:=#[.pointer (some ⟨s+1,0,none⟩)]) rfl trivial (enters_of Tryz.func217 (by kernel_rfl) rfl) (ej 8 (by omega) (s+1) ao xs cap hx) (fun j=>rfl) (fun j W=>PXI w g c e n vs vt ys xs ao cap s j W)
  (fun j A B row h hg hr=>h.own hg (fun r e=>⟨by have:=(hr r e).1;omega,(hr r e).2⟩)) (fun j W h=>⟨aa h.bn rfl,hLk j W h⟩) h0
  (fun j a' W=>a'={ tmps:=#[.pointer (some ⟨g,0,none⟩),.slice ao xs.length cap,.pointer (some ⟨s,0,none⟩),undef,.int .i64 0,undef,xs.getD (xs.length-1-j) .nilFunc,.slice ao xs.length cap,.func (.func 217) #[] #[.pointer (some ⟨s+1,0,none⟩)],.int .i64 ((xs.length-1-j:Nat):Int),xs.getD (xs.length-1-j) .nilFunc,undef,undef,undef,undef,undef,undef,undef,undef,undef,undef],defers:=[] })
  (fun j a' u A B row h hg hr=>h) ?assign ?body ?done
 case assign=>
  intro lp j W K hj hi hK
  dsimp only [itB]
  gi_wp2
  exact hK _ _ ((KeepsOthers.refl _).from _) hi rfl
 case body=>
  rintro lp j a' W hj hi rfl;obtain ⟨i,hie⟩:∃i,xs.length-1-j=i:=⟨_,rfl⟩;have hil:i<xs.length:=by omega
  obtain ⟨x,hd⟩:∃x,xs[i]?=some x:=⟨_,List.getElem?_eq_getElem hil⟩;have hdd:xs.getD i .nilFunc=x:=by rw [List.getD_eq_getElem?_getD,hd];rfl
  rw [hie,hdd];have hj1:xs.length-j=i+1:=by omega
  have hj2:xs.length-(j+1)=i:=by omega
  obtain ⟨⟨fn,fi,ca,hxf⟩,_⟩:=hLk j W hi i x hd;obtain ⟨v,hv,hsr,hvn⟩:=hi.st;have hlen:(ys++(xs.drop (xs.length-j)).reverse).length<=1000000000:=by simp;omega
  obtain ⟨pv,cv,rfl,_⟩:=hsr.shape
  have HN:Hid (∀W1 w3 v',Below W.heap.size W W1->Rs w3 v' ((ys++(xs.drop (xs.length-j)).reverse)++[x])->W1.grownBy w3 (Value.slice pv (ys++(xs.drop (xs.length-j)).reverse).length cv).ownBlock->Nb W1 (Value.slice pv (ys++(xs.drop (xs.length-j)).reverse).length cv) v'->(w3.cell? ⟨s,0,none⟩=some (.pointer (some ⟨g,0,none⟩))/\w3.cell? ⟨g,3,none⟩=some (.slice pv (ys++(xs.drop (xs.length-j)).reverse).length cv)/\w3.frozen? ⟨g,3,none⟩=false)/\PXI w g c e n vs vt ys xs ao cap s (j+1) (w3.setCell ⟨g,3,none⟩ v')/\∀B,KeepsFrom B W (w3.setCell ⟨g,3,none⟩ v')):=
   fun W1 w3 v' hb h3 hg3 hq=>hi.next hb hd hj1 hj2 hv hvn hsr h3 hg3 hq
  have HS:Hid (∀V,Below W.heap.size W V->Rs V (.slice pv (ys++(xs.drop (xs.length-j)).reverse).length cv) (ys++(xs.drop (xs.length-j)).reverse)):=fun V hb=>hsr.below hb
  have x0:W.cell? ⟨s,0,none⟩=_:=aa hi.box rfl;have x3:W.cell? ⟨g,3,none⟩=_:=aa hv rfl;have hgl:=hv.lt;have hsl:=ap hi.box;clear hd hdd hie hsr hvn hv hi hLk hj hj1 hj2 hil h0 hsW hL hao h hs
  generalize (ys++(xs.drop (xs.length-j)).reverse)=zs at *
  subst hxf;obtain ⟨i0,hi0,hz0,hz1,hz2⟩:=info_parts Tryz.info153;have hbA:Below W.heap.size W (W.alloc (.cells #[.func fn fi ca] 153)).drew:=((Below.refl _ _).alloc (Nat.le_refl _) _).drew;obtain ⟨q,cp,w3,hrun,hr3,hg3,hq3,_⟩:=run_append_lies (P:=Tryz.prog) (W.alloc (.cells #[.func fn fi ca] 153)).drew 102 102 0 153 i0 _ 1 8 Tryz.underlying102 hi0 hz0 hz1 hz2 rfl (by decide) _ _ _ (HS.out _ hbA) ⟨W.heap.size,0,none⟩ 1 1 [.func fn fi ca] rfl (fun j u hu=>World.news_of_block (am W _) j u (by simpa using hu)) (by intro u hu;simp at hu;subst hu;rfl) (by omega) (by unfold maxLen;omega) (by omega) (Nat.zero_le _) _ rfl
  obtain ⟨⟨y0,y1,y2⟩,y3,y4⟩:=HN.out _ w3 (.slice (some ⟨q,0,none⟩) (zs.length+1) cp) hbA (by unfold Rs;rw [List.length_append];exact hr3) hg3 (by
   rcases hq3 with h|h
   ·exact .inl h.symm
   ·exact .inr ⟨q,rfl,by rw [h];exact Nat.le_refl _⟩)
  have HX:Hid (PXI w g c e n vs vt ys xs ao cap s (j+1) (w3.setCell ⟨g,3,none⟩ (.slice (some ⟨q,0,none⟩) (zs.length+1) cp))/\∀B,KeepsFrom B W (w3.setCell ⟨g,3,none⟩ (.slice (some ⟨q,0,none⟩) (zs.length+1) cp))):=⟨y3,y4⟩;clear y3 y4 hr3 hg3 hq3 HN HS hbA hi0 hz0 hz1 hz2;have hmx:Tryz.prog.follows .mixedOrders=true:=by kernel_rfl
  have hr2:(Sem.run Tryz.prog (Builtin.append_ #[102,102] 102 #[.slice pv zs.length cv,.slice (some ⟨W.heap.size,0,none⟩) 1 1]) (W.alloc (.cells #[.func fn fi ca] 153)).drew).andThen (fun a w'=>Result.ok (Next.value a) w')=Result.ok (Next.value (.slice (some ⟨q,0,none⟩) (zs.length+1) cp)) w3:=by rw [hrun];rfl
  clear hrun;simp [go_sem] at hr2;have HR2:=hid hr2;clear hr2
  gi_wp2
  refine wpIn_region_any hmx ?_;refine pc (by kernel_rfl) ?_
  change wpAnyIn _ _ _ _ _ _ 11 _ _ (World.drew _)
  refine wpAnyIn_take (i:=5) (v:=.func fn fi ca) rfl rfl (by kernel_rfl) (by kernel_rfl) (by kernel_rfl) (fun _ _ _ h=>h) ⟨Or.inl ⟨by rfl,by intro w;go_simp⟩,fun _=>rfl⟩ ?_;refine wpAnyIn_ready (rs:=[0,1,6]) (by kernel_rfl) (by simp) ?_;refine AllReadyIn.cons rfl (fun K hK=>?_) ?_
  ·go_simp
   refine hK _ _ ?_;clear hK K;refine wpAnyIn_ready (rs:=[1,6]) (by kernel_rfl) (by simp) ?_;refine AllReadyIn.cons rfl (fun K hK=>?_) ?_
   ·go_simp
    refine hK _ _ ?_;clear hK K;refine wpAnyIn_take (i:=2) (v:=.pointer (some ⟨g,0,none⟩)) rfl rfl (by kernel_rfl) (by kernel_rfl) (by kernel_rfl) (fun _ _ _ h=>h) ⟨Or.inl ⟨by rfl,by intro w;go_simp⟩,fun _=>rfl⟩ ?_;refine wpAnyIn_take (i:=3) (v:=.pointer (some ⟨g,3,none⟩)) rfl rfl (by kernel_rfl) (by kernel_rfl) (by kernel_rfl) (fun _ _ _ h=>h) ⟨Or.inl ⟨by rfl,by intro w;go_simp⟩,fun _=>rfl⟩ ?_;refine wpAnyIn_ready (rs:=[4,6]) (by kernel_rfl) (by simp) ?_;refine AllReadyIn.cons rfl (fun K hK=>?_) ?_
    ·go_simp
     refine hK _ _ ?_;clear hK K;refine wpAnyIn_ready (rs:=[6]) (by kernel_rfl) (by simp) ?_;refine AllReadyIn.cons rfl (fun K hK=>?_) ?_
     ·go_simp
      refine hK _ _ ?_;clear hK K;refine wpAnyIn_ready (rs:=[7]) (by kernel_rfl) (by simp) ?_;refine AllReadyIn.cons rfl (fun K hK=>?_) ?_
      ·go_simp
       refine bp HR2.out ?_;refine hK _ _ ?_;clear hK K;refine wpAnyIn_take (i:=8) (v:=.pointer (some ⟨g,0,none⟩)) rfl rfl (by kernel_rfl) (by kernel_rfl) (by kernel_rfl) (fun _ _ _ h=>h) ⟨Or.inl ⟨by rfl,by intro w;go_simp⟩,fun _=>rfl⟩ ?_;refine wpAnyIn_take (i:=9) (v:=.pointer (some ⟨g,3,none⟩)) rfl rfl (by kernel_rfl) (by kernel_rfl) (by kernel_rfl) (fun _ _ _ h=>h) ⟨Or.inl ⟨by rfl,by intro w;go_simp⟩,fun _=>rfl⟩ ?_;refine wpAnyIn_ready (rs:=[10]) (by kernel_rfl) (by simp) ?_;refine AllReadyIn.cons rfl (fun K hK=>?_) ?_
       ·go_simp
        refine hK _ _ ?_;clear hK K;refine wpAnyIn_done (by kernel_rfl) ?_ _;exact ⟨rfl,HX.out.2 _,HX.out.1⟩
       exact AllReadyIn.nil
      exact AllReadyIn.nil
     exact AllReadyIn.nil
    refine AllReadyIn.cons rfl (fun K hK=>?_) ?_
    ·go_simp
     refine hK _ _ ?_;clear hK K;refine wpAnyIn_ready (rs:=[4]) (by kernel_rfl) (by simp) ?_;refine AllReadyIn.cons rfl (fun K hK=>?_) ?_
     ·go_simp
      refine hK _ _ ?_;clear hK K;refine wpAnyIn_ready (rs:=[7]) (by kernel_rfl) (by simp) ?_;refine AllReadyIn.cons rfl (fun K hK=>?_) ?_
      ·go_simp
       refine bp HR2.out ?_;refine hK _ _ ?_;clear hK K;refine wpAnyIn_take (i:=8) (v:=.pointer (some ⟨g,0,none⟩)) rfl rfl (by kernel_rfl) (by kernel_rfl) (by kernel_rfl) (fun _ _ _ h=>h) ⟨Or.inl ⟨by rfl,by intro w;go_simp⟩,fun _=>rfl⟩ ?_;refine wpAnyIn_take (i:=9) (v:=.pointer (some ⟨g,3,none⟩)) rfl rfl (by kernel_rfl) (by kernel_rfl) (by kernel_rfl) (fun _ _ _ h=>h) ⟨Or.inl ⟨by rfl,by intro w;go_simp⟩,fun _=>rfl⟩ ?_;refine wpAnyIn_ready (rs:=[10]) (by kernel_rfl) (by simp) ?_;refine AllReadyIn.cons rfl (fun K hK=>?_) ?_
       ·go_simp
        refine hK _ _ ?_;clear hK K;refine wpAnyIn_done (by kernel_rfl) ?_ _;exact ⟨rfl,HX.out.2 _,HX.out.1⟩
       exact AllReadyIn.nil
      exact AllReadyIn.nil
     exact AllReadyIn.nil
    exact AllReadyIn.nil
   refine AllReadyIn.cons rfl (fun K hK=>?_) ?_
   ·go_simp
    refine hK _ _ ?_;clear hK K;refine wpAnyIn_ready (rs:=[1]) (by kernel_rfl) (by simp) ?_;refine AllReadyIn.cons rfl (fun K hK=>?_) ?_
    ·go_simp
     refine hK _ _ ?_;clear hK K;refine wpAnyIn_take (i:=2) (v:=.pointer (some ⟨g,0,none⟩)) rfl rfl (by kernel_rfl) (by kernel_rfl) (by kernel_rfl) (fun _ _ _ h=>h) ⟨Or.inl ⟨by rfl,by intro w;go_simp⟩,fun _=>rfl⟩ ?_;refine wpAnyIn_take (i:=3) (v:=.pointer (some ⟨g,3,none⟩)) rfl rfl (by kernel_rfl) (by kernel_rfl) (by kernel_rfl) (fun _ _ _ h=>h) ⟨Or.inl ⟨by rfl,by intro w;go_simp⟩,fun _=>rfl⟩ ?_;refine wpAnyIn_ready (rs:=[4]) (by kernel_rfl) (by simp) ?_;refine AllReadyIn.cons rfl (fun K hK=>?_) ?_
     ·go_simp
      refine hK _ _ ?_;clear hK K;refine wpAnyIn_ready (rs:=[7]) (by kernel_rfl) (by simp) ?_;refine AllReadyIn.cons rfl (fun K hK=>?_) ?_
      ·go_simp
       refine bp HR2.out ?_;refine hK _ _ ?_;clear hK K;refine wpAnyIn_take (i:=8) (v:=.pointer (some ⟨g,0,none⟩)) rfl rfl (by kernel_rfl) (by kernel_rfl) (by kernel_rfl) (fun _ _ _ h=>h) ⟨Or.inl ⟨by rfl,by intro w;go_simp⟩,fun _=>rfl⟩ ?_;refine wpAnyIn_take (i:=9) (v:=.pointer (some ⟨g,3,none⟩)) rfl rfl (by kernel_rfl) (by kernel_rfl) (by kernel_rfl) (fun _ _ _ h=>h) ⟨Or.inl ⟨by rfl,by intro w;go_simp⟩,fun _=>rfl⟩ ?_;refine wpAnyIn_ready (rs:=[10]) (by kernel_rfl) (by simp) ?_;refine AllReadyIn.cons rfl (fun K hK=>?_) ?_
       ·go_simp
        refine hK _ _ ?_;clear hK K;refine wpAnyIn_done (by kernel_rfl) ?_ _;exact ⟨rfl,HX.out.2 _,HX.out.1⟩
       exact AllReadyIn.nil
      exact AllReadyIn.nil
     exact AllReadyIn.nil
    exact AllReadyIn.nil
   exact AllReadyIn.nil
  refine AllReadyIn.cons rfl (fun K hK=>?_) ?_
  ·go_simp
   refine hK _ _ ?_;clear hK K;refine wpAnyIn_take (i:=2) (v:=.pointer (some ⟨g,0,none⟩)) rfl rfl (by kernel_rfl) (by kernel_rfl) (by kernel_rfl) (fun _ _ _ h=>h) ⟨Or.inl ⟨by rfl,by intro w;go_simp⟩,fun _=>rfl⟩ ?_;refine wpAnyIn_take (i:=3) (v:=.pointer (some ⟨g,3,none⟩)) rfl rfl (by kernel_rfl) (by kernel_rfl) (by kernel_rfl) (fun _ _ _ h=>h) ⟨Or.inl ⟨by rfl,by intro w;go_simp⟩,fun _=>rfl⟩ ?_;refine wpAnyIn_ready (rs:=[0,4,6]) (by kernel_rfl) (by simp) ?_;refine AllReadyIn.cons rfl (fun K hK=>?_) ?_
   ·go_simp
    refine hK _ _ ?_;clear hK K;refine wpAnyIn_ready (rs:=[4,6]) (by kernel_rfl) (by simp) ?_;refine AllReadyIn.cons rfl (fun K hK=>?_) ?_
    ·go_simp
     refine hK _ _ ?_;clear hK K;refine wpAnyIn_ready (rs:=[6]) (by kernel_rfl) (by simp) ?_;refine AllReadyIn.cons rfl (fun K hK=>?_) ?_
     ·go_simp
      refine hK _ _ ?_;clear hK K;refine wpAnyIn_ready (rs:=[7]) (by kernel_rfl) (by simp) ?_;refine AllReadyIn.cons rfl (fun K hK=>?_) ?_
      ·go_simp
       refine bp HR2.out ?_;refine hK _ _ ?_;clear hK K;refine wpAnyIn_take (i:=8) (v:=.pointer (some ⟨g,0,none⟩)) rfl rfl (by kernel_rfl) (by kernel_rfl) (by kernel_rfl) (fun _ _ _ h=>h) ⟨Or.inl ⟨by rfl,by intro w;go_simp⟩,fun _=>rfl⟩ ?_;refine wpAnyIn_take (i:=9) (v:=.pointer (some ⟨g,3,none⟩)) rfl rfl (by kernel_rfl) (by kernel_rfl) (by kernel_rfl) (fun _ _ _ h=>h) ⟨Or.inl ⟨by rfl,by intro w;go_simp⟩,fun _=>rfl⟩ ?_;refine wpAnyIn_ready (rs:=[10]) (by kernel_rfl) (by simp) ?_;refine AllReadyIn.cons rfl (fun K hK=>?_) ?_
       ·go_simp
        refine hK _ _ ?_;clear hK K;refine wpAnyIn_done (by kernel_rfl) ?_ _;exact ⟨rfl,HX.out.2 _,HX.out.1⟩
       exact AllReadyIn.nil
      exact AllReadyIn.nil
     exact AllReadyIn.nil
    refine AllReadyIn.cons rfl (fun K hK=>?_) ?_
    ·go_simp
     refine hK _ _ ?_;clear hK K;refine wpAnyIn_ready (rs:=[4]) (by kernel_rfl) (by simp) ?_;refine AllReadyIn.cons rfl (fun K hK=>?_) ?_
     ·go_simp
      refine hK _ _ ?_;clear hK K;refine wpAnyIn_ready (rs:=[7]) (by kernel_rfl) (by simp) ?_;refine AllReadyIn.cons rfl (fun K hK=>?_) ?_
      ·go_simp
       refine bp HR2.out ?_;refine hK _ _ ?_;clear hK K;refine wpAnyIn_take (i:=8) (v:=.pointer (some ⟨g,0,none⟩)) rfl rfl (by kernel_rfl) (by kernel_rfl) (by kernel_rfl) (fun _ _ _ h=>h) ⟨Or.inl ⟨by rfl,by intro w;go_simp⟩,fun _=>rfl⟩ ?_;refine wpAnyIn_take (i:=9) (v:=.pointer (some ⟨g,3,none⟩)) rfl rfl (by kernel_rfl) (by kernel_rfl) (by kernel_rfl) (fun _ _ _ h=>h) ⟨Or.inl ⟨by rfl,by intro w;go_simp⟩,fun _=>rfl⟩ ?_;refine wpAnyIn_ready (rs:=[10]) (by kernel_rfl) (by simp) ?_;refine AllReadyIn.cons rfl (fun K hK=>?_) ?_
       ·go_simp
        refine hK _ _ ?_;clear hK K;refine wpAnyIn_done (by kernel_rfl) ?_ _;exact ⟨rfl,HX.out.2 _,HX.out.1⟩
       exact AllReadyIn.nil
      exact AllReadyIn.nil
     exact AllReadyIn.nil
    exact AllReadyIn.nil
   refine AllReadyIn.cons rfl (fun K hK=>?_) ?_
   ·go_simp
    refine hK _ _ ?_;clear hK K;refine wpAnyIn_ready (rs:=[0,6]) (by kernel_rfl) (by simp) ?_;refine AllReadyIn.cons rfl (fun K hK=>?_) ?_
    ·go_simp
     refine hK _ _ ?_;clear hK K;refine wpAnyIn_ready (rs:=[6]) (by kernel_rfl) (by simp) ?_;refine AllReadyIn.cons rfl (fun K hK=>?_) ?_
     ·go_simp
      refine hK _ _ ?_;clear hK K;refine wpAnyIn_ready (rs:=[7]) (by kernel_rfl) (by simp) ?_;refine AllReadyIn.cons rfl (fun K hK=>?_) ?_
      ·go_simp
       refine bp HR2.out ?_;refine hK _ _ ?_;clear hK K;refine wpAnyIn_take (i:=8) (v:=.pointer (some ⟨g,0,none⟩)) rfl rfl (by kernel_rfl) (by kernel_rfl) (by kernel_rfl) (fun _ _ _ h=>h) ⟨Or.inl ⟨by rfl,by intro w;go_simp⟩,fun _=>rfl⟩ ?_;refine wpAnyIn_take (i:=9) (v:=.pointer (some ⟨g,3,none⟩)) rfl rfl (by kernel_rfl) (by kernel_rfl) (by kernel_rfl) (fun _ _ _ h=>h) ⟨Or.inl ⟨by rfl,by intro w;go_simp⟩,fun _=>rfl⟩ ?_;refine wpAnyIn_ready (rs:=[10]) (by kernel_rfl) (by simp) ?_;refine AllReadyIn.cons rfl (fun K hK=>?_) ?_
       ·go_simp
        refine hK _ _ ?_;clear hK K;refine wpAnyIn_done (by kernel_rfl) ?_ _;exact ⟨rfl,HX.out.2 _,HX.out.1⟩
       exact AllReadyIn.nil
      exact AllReadyIn.nil
     exact AllReadyIn.nil
    refine AllReadyIn.cons rfl (fun K hK=>?_) ?_
    ·go_simp
     refine hK _ _ ?_;clear hK K;refine wpAnyIn_ready (rs:=[0,7]) (by kernel_rfl) (by simp) ?_;refine AllReadyIn.cons rfl (fun K hK=>?_) ?_
     ·go_simp
      refine hK _ _ ?_;clear hK K;refine wpAnyIn_ready (rs:=[7]) (by kernel_rfl) (by simp) ?_;refine AllReadyIn.cons rfl (fun K hK=>?_) ?_
      ·go_simp
       refine bp HR2.out ?_;refine hK _ _ ?_;clear hK K;refine wpAnyIn_take (i:=8) (v:=.pointer (some ⟨g,0,none⟩)) rfl rfl (by kernel_rfl) (by kernel_rfl) (by kernel_rfl) (fun _ _ _ h=>h) ⟨Or.inl ⟨by rfl,by intro w;go_simp⟩,fun _=>rfl⟩ ?_;refine wpAnyIn_take (i:=9) (v:=.pointer (some ⟨g,3,none⟩)) rfl rfl (by kernel_rfl) (by kernel_rfl) (by kernel_rfl) (fun _ _ _ h=>h) ⟨Or.inl ⟨by rfl,by intro w;go_simp⟩,fun _=>rfl⟩ ?_;refine wpAnyIn_ready (rs:=[10]) (by kernel_rfl) (by simp) ?_;refine AllReadyIn.cons rfl (fun K hK=>?_) ?_
       ·go_simp
        refine hK _ _ ?_;clear hK K;refine wpAnyIn_done (by kernel_rfl) ?_ _;exact ⟨rfl,HX.out.2 _,HX.out.1⟩
       exact AllReadyIn.nil
      exact AllReadyIn.nil
     refine AllReadyIn.cons rfl (fun K hK=>?_) ?_
     ·go_simp
      refine bp HR2.out ?_;refine hK _ _ ?_;clear hK K;refine wpAnyIn_ready (rs:=[0]) (by kernel_rfl) (by simp) ?_;refine AllReadyIn.cons rfl (fun K hK=>?_) ?_
      ·go_simp
       refine hK _ _ ?_;clear hK K;refine wpAnyIn_take (i:=8) (v:=.pointer (some ⟨g,0,none⟩)) rfl rfl (by kernel_rfl) (by kernel_rfl) (by kernel_rfl) (fun _ _ _ h=>h) ⟨Or.inl ⟨by rfl,by intro w;go_simp⟩,fun _=>rfl⟩ ?_;refine wpAnyIn_take (i:=9) (v:=.pointer (some ⟨g,3,none⟩)) rfl rfl (by kernel_rfl) (by kernel_rfl) (by kernel_rfl) (fun _ _ _ h=>h) ⟨Or.inl ⟨by rfl,by intro w;go_simp⟩,fun _=>rfl⟩ ?_;refine wpAnyIn_ready (rs:=[10]) (by kernel_rfl) (by simp) ?_;refine AllReadyIn.cons rfl (fun K hK=>?_) ?_
       ·go_simp
        refine hK _ _ ?_;clear hK K;refine wpAnyIn_done (by kernel_rfl) ?_ _;exact ⟨rfl,HX.out.2 _,HX.out.1⟩
       exact AllReadyIn.nil
      exact AllReadyIn.nil
     exact AllReadyIn.nil
    exact AllReadyIn.nil
   refine AllReadyIn.cons rfl (fun K hK=>?_) ?_
   ·go_simp
    refine hK _ _ ?_;clear hK K;refine wpAnyIn_ready (rs:=[0,4]) (by kernel_rfl) (by simp) ?_;refine AllReadyIn.cons rfl (fun K hK=>?_) ?_
    ·go_simp
     refine hK _ _ ?_;clear hK K;refine wpAnyIn_ready (rs:=[4]) (by kernel_rfl) (by simp) ?_;refine AllReadyIn.cons rfl (fun K hK=>?_) ?_
     ·go_simp
      refine hK _ _ ?_;clear hK K;refine wpAnyIn_ready (rs:=[7]) (by kernel_rfl) (by simp) ?_;refine AllReadyIn.cons rfl (fun K hK=>?_) ?_
      ·go_simp
       refine bp HR2.out ?_;refine hK _ _ ?_;clear hK K;refine wpAnyIn_take (i:=8) (v:=.pointer (some ⟨g,0,none⟩)) rfl rfl (by kernel_rfl) (by kernel_rfl) (by kernel_rfl) (fun _ _ _ h=>h) ⟨Or.inl ⟨by rfl,by intro w;go_simp⟩,fun _=>rfl⟩ ?_;refine wpAnyIn_take (i:=9) (v:=.pointer (some ⟨g,3,none⟩)) rfl rfl (by kernel_rfl) (by kernel_rfl) (by kernel_rfl) (fun _ _ _ h=>h) ⟨Or.inl ⟨by rfl,by intro w;go_simp⟩,fun _=>rfl⟩ ?_;refine wpAnyIn_ready (rs:=[10]) (by kernel_rfl) (by simp) ?_;refine AllReadyIn.cons rfl (fun K hK=>?_) ?_
       ·go_simp
        refine hK _ _ ?_;clear hK K;refine wpAnyIn_done (by kernel_rfl) ?_ _;exact ⟨rfl,HX.out.2 _,HX.out.1⟩
       exact AllReadyIn.nil
      exact AllReadyIn.nil
     exact AllReadyIn.nil
    refine AllReadyIn.cons rfl (fun K hK=>?_) ?_
    ·go_simp
     refine hK _ _ ?_;clear hK K;refine wpAnyIn_ready (rs:=[0,7]) (by kernel_rfl) (by simp) ?_;refine AllReadyIn.cons rfl (fun K hK=>?_) ?_
     ·go_simp
      refine hK _ _ ?_;clear hK K;refine wpAnyIn_ready (rs:=[7]) (by kernel_rfl) (by simp) ?_;refine AllReadyIn.cons rfl (fun K hK=>?_) ?_
      ·go_simp
       refine bp HR2.out ?_;refine hK _ _ ?_;clear hK K;refine wpAnyIn_take (i:=8) (v:=.pointer (some ⟨g,0,none⟩)) rfl rfl (by kernel_rfl) (by kernel_rfl) (by kernel_rfl) (fun _ _ _ h=>h) ⟨Or.inl ⟨by rfl,by intro w;go_simp⟩,fun _=>rfl⟩ ?_;refine wpAnyIn_take (i:=9) (v:=.pointer (some ⟨g,3,none⟩)) rfl rfl (by kernel_rfl) (by kernel_rfl) (by kernel_rfl) (fun _ _ _ h=>h) ⟨Or.inl ⟨by rfl,by intro w;go_simp⟩,fun _=>rfl⟩ ?_;refine wpAnyIn_ready (rs:=[10]) (by kernel_rfl) (by simp) ?_;refine AllReadyIn.cons rfl (fun K hK=>?_) ?_
       ·go_simp
        refine hK _ _ ?_;clear hK K;refine wpAnyIn_done (by kernel_rfl) ?_ _;exact ⟨rfl,HX.out.2 _,HX.out.1⟩
       exact AllReadyIn.nil
      exact AllReadyIn.nil
     refine AllReadyIn.cons rfl (fun K hK=>?_) ?_
     ·go_simp
      refine bp HR2.out ?_;refine hK _ _ ?_;clear hK K;refine wpAnyIn_ready (rs:=[0]) (by kernel_rfl) (by simp) ?_;refine AllReadyIn.cons rfl (fun K hK=>?_) ?_
      ·go_simp
       refine hK _ _ ?_;clear hK K;refine wpAnyIn_take (i:=8) (v:=.pointer (some ⟨g,0,none⟩)) rfl rfl (by kernel_rfl) (by kernel_rfl) (by kernel_rfl) (fun _ _ _ h=>h) ⟨Or.inl ⟨by rfl,by intro w;go_simp⟩,fun _=>rfl⟩ ?_;refine wpAnyIn_take (i:=9) (v:=.pointer (some ⟨g,3,none⟩)) rfl rfl (by kernel_rfl) (by kernel_rfl) (by kernel_rfl) (fun _ _ _ h=>h) ⟨Or.inl ⟨by rfl,by intro w;go_simp⟩,fun _=>rfl⟩ ?_;refine wpAnyIn_ready (rs:=[10]) (by kernel_rfl) (by simp) ?_;refine AllReadyIn.cons rfl (fun K hK=>?_) ?_
       ·go_simp
        refine hK _ _ ?_;clear hK K;refine wpAnyIn_done (by kernel_rfl) ?_ _;exact ⟨rfl,HX.out.2 _,HX.out.1⟩
       exact AllReadyIn.nil
      exact AllReadyIn.nil
     exact AllReadyIn.nil
    exact AllReadyIn.nil
   exact AllReadyIn.nil
  refine AllReadyIn.cons rfl (fun K hK=>?_) ?_
  ·go_simp
   refine hK _ _ ?_;clear hK K;refine wpAnyIn_ready (rs:=[0,1]) (by kernel_rfl) (by simp) ?_;refine AllReadyIn.cons rfl (fun K hK=>?_) ?_
   ·go_simp
    refine hK _ _ ?_;clear hK K;refine wpAnyIn_ready (rs:=[1]) (by kernel_rfl) (by simp) ?_;refine AllReadyIn.cons rfl (fun K hK=>?_) ?_
    ·go_simp
     refine hK _ _ ?_;clear hK K;refine wpAnyIn_take (i:=2) (v:=.pointer (some ⟨g,0,none⟩)) rfl rfl (by kernel_rfl) (by kernel_rfl) (by kernel_rfl) (fun _ _ _ h=>h) ⟨Or.inl ⟨by rfl,by intro w;go_simp⟩,fun _=>rfl⟩ ?_;refine wpAnyIn_take (i:=3) (v:=.pointer (some ⟨g,3,none⟩)) rfl rfl (by kernel_rfl) (by kernel_rfl) (by kernel_rfl) (fun _ _ _ h=>h) ⟨Or.inl ⟨by rfl,by intro w;go_simp⟩,fun _=>rfl⟩ ?_;refine wpAnyIn_ready (rs:=[4]) (by kernel_rfl) (by simp) ?_;refine AllReadyIn.cons rfl (fun K hK=>?_) ?_
     ·go_simp
      refine hK _ _ ?_;clear hK K;refine wpAnyIn_ready (rs:=[7]) (by kernel_rfl) (by simp) ?_;refine AllReadyIn.cons rfl (fun K hK=>?_) ?_
      ·go_simp
       refine bp HR2.out ?_;refine hK _ _ ?_;clear hK K;refine wpAnyIn_take (i:=8) (v:=.pointer (some ⟨g,0,none⟩)) rfl rfl (by kernel_rfl) (by kernel_rfl) (by kernel_rfl) (fun _ _ _ h=>h) ⟨Or.inl ⟨by rfl,by intro w;go_simp⟩,fun _=>rfl⟩ ?_;refine wpAnyIn_take (i:=9) (v:=.pointer (some ⟨g,3,none⟩)) rfl rfl (by kernel_rfl) (by kernel_rfl) (by kernel_rfl) (fun _ _ _ h=>h) ⟨Or.inl ⟨by rfl,by intro w;go_simp⟩,fun _=>rfl⟩ ?_;refine wpAnyIn_ready (rs:=[10]) (by kernel_rfl) (by simp) ?_;refine AllReadyIn.cons rfl (fun K hK=>?_) ?_
       ·go_simp
        refine hK _ _ ?_;clear hK K;refine wpAnyIn_done (by kernel_rfl) ?_ _;exact ⟨rfl,HX.out.2 _,HX.out.1⟩
       exact AllReadyIn.nil
      exact AllReadyIn.nil
     exact AllReadyIn.nil
    exact AllReadyIn.nil
   refine AllReadyIn.cons rfl (fun K hK=>?_) ?_
   ·go_simp
    refine hK _ _ ?_;clear hK K;refine wpAnyIn_take (i:=2) (v:=.pointer (some ⟨g,0,none⟩)) rfl rfl (by kernel_rfl) (by kernel_rfl) (by kernel_rfl) (fun _ _ _ h=>h) ⟨Or.inl ⟨by rfl,by intro w;go_simp⟩,fun _=>rfl⟩ ?_;refine wpAnyIn_take (i:=3) (v:=.pointer (some ⟨g,3,none⟩)) rfl rfl (by kernel_rfl) (by kernel_rfl) (by kernel_rfl) (fun _ _ _ h=>h) ⟨Or.inl ⟨by rfl,by intro w;go_simp⟩,fun _=>rfl⟩ ?_;refine wpAnyIn_ready (rs:=[0,4]) (by kernel_rfl) (by simp) ?_;refine AllReadyIn.cons rfl (fun K hK=>?_) ?_
    ·go_simp
     refine hK _ _ ?_;clear hK K;refine wpAnyIn_ready (rs:=[4]) (by kernel_rfl) (by simp) ?_;refine AllReadyIn.cons rfl (fun K hK=>?_) ?_
     ·go_simp
      refine hK _ _ ?_;clear hK K;refine wpAnyIn_ready (rs:=[7]) (by kernel_rfl) (by simp) ?_;refine AllReadyIn.cons rfl (fun K hK=>?_) ?_
      ·go_simp
       refine bp HR2.out ?_;refine hK _ _ ?_;clear hK K;refine wpAnyIn_take (i:=8) (v:=.pointer (some ⟨g,0,none⟩)) rfl rfl (by kernel_rfl) (by kernel_rfl) (by kernel_rfl) (fun _ _ _ h=>h) ⟨Or.inl ⟨by rfl,by intro w;go_simp⟩,fun _=>rfl⟩ ?_;refine wpAnyIn_take (i:=9) (v:=.pointer (some ⟨g,3,none⟩)) rfl rfl (by kernel_rfl) (by kernel_rfl) (by kernel_rfl) (fun _ _ _ h=>h) ⟨Or.inl ⟨by rfl,by intro w;go_simp⟩,fun _=>rfl⟩ ?_;refine wpAnyIn_ready (rs:=[10]) (by kernel_rfl) (by simp) ?_;refine AllReadyIn.cons rfl (fun K hK=>?_) ?_
       ·go_simp
        refine hK _ _ ?_;clear hK K;refine wpAnyIn_done (by kernel_rfl) ?_ _;exact ⟨rfl,HX.out.2 _,HX.out.1⟩
       exact AllReadyIn.nil
      exact AllReadyIn.nil
     exact AllReadyIn.nil
    refine AllReadyIn.cons rfl (fun K hK=>?_) ?_
    ·go_simp
     refine hK _ _ ?_;clear hK K;refine wpAnyIn_ready (rs:=[0,7]) (by kernel_rfl) (by simp) ?_;refine AllReadyIn.cons rfl (fun K hK=>?_) ?_
     ·go_simp
      refine hK _ _ ?_;clear hK K;refine wpAnyIn_ready (rs:=[7]) (by kernel_rfl) (by simp) ?_;refine AllReadyIn.cons rfl (fun K hK=>?_) ?_
      ·go_simp
       refine bp HR2.out ?_;refine hK _ _ ?_;clear hK K;refine wpAnyIn_take (i:=8) (v:=.pointer (some ⟨g,0,none⟩)) rfl rfl (by kernel_rfl) (by kernel_rfl) (by kernel_rfl) (fun _ _ _ h=>h) ⟨Or.inl ⟨by rfl,by intro w;go_simp⟩,fun _=>rfl⟩ ?_;refine wpAnyIn_take (i:=9) (v:=.pointer (some ⟨g,3,none⟩)) rfl rfl (by kernel_rfl) (by kernel_rfl) (by kernel_rfl) (fun _ _ _ h=>h) ⟨Or.inl ⟨by rfl,by intro w;go_simp⟩,fun _=>rfl⟩ ?_;refine wpAnyIn_ready (rs:=[10]) (by kernel_rfl) (by simp) ?_;refine AllReadyIn.cons rfl (fun K hK=>?_) ?_
       ·go_simp
        refine hK _ _ ?_;clear hK K;refine wpAnyIn_done (by kernel_rfl) ?_ _;exact ⟨rfl,HX.out.2 _,HX.out.1⟩
       exact AllReadyIn.nil
      exact AllReadyIn.nil
     refine AllReadyIn.cons rfl (fun K hK=>?_) ?_
     ·go_simp
      refine bp HR2.out ?_;refine hK _ _ ?_;clear hK K;refine wpAnyIn_ready (rs:=[0]) (by kernel_rfl) (by simp) ?_;refine AllReadyIn.cons rfl (fun K hK=>?_) ?_
      ·go_simp
       refine hK _ _ ?_;clear hK K;refine wpAnyIn_take (i:=8) (v:=.pointer (some ⟨g,0,none⟩)) rfl rfl (by kernel_rfl) (by kernel_rfl) (by kernel_rfl) (fun _ _ _ h=>h) ⟨Or.inl ⟨by rfl,by intro w;go_simp⟩,fun _=>rfl⟩ ?_;refine wpAnyIn_take (i:=9) (v:=.pointer (some ⟨g,3,none⟩)) rfl rfl (by kernel_rfl) (by kernel_rfl) (by kernel_rfl) (fun _ _ _ h=>h) ⟨Or.inl ⟨by rfl,by intro w;go_simp⟩,fun _=>rfl⟩ ?_;refine wpAnyIn_ready (rs:=[10]) (by kernel_rfl) (by simp) ?_;refine AllReadyIn.cons rfl (fun K hK=>?_) ?_
       ·go_simp
        refine hK _ _ ?_;clear hK K;refine wpAnyIn_done (by kernel_rfl) ?_ _;exact ⟨rfl,HX.out.2 _,HX.out.1⟩
       exact AllReadyIn.nil
      exact AllReadyIn.nil
     exact AllReadyIn.nil
    exact AllReadyIn.nil
   exact AllReadyIn.nil
  exact AllReadyIn.nil
 case done=>
  intro D W hD hI hdef
  gi_wp2
  have hI2:=hI.own (grownBy_putObj' W D (.deferred none)) (fun r e=>by cases e;exact ⟨by omega,_,hdef,rfl⟩);refine ⟨by simp,.inl ⟨_,_,rfl,run_takeDeferred hdef,?_⟩⟩;refine ⟨.int .i64 1,by simp [results,Tryz.f145,go_sem],rfl,?_,hI2.kp⟩;obtain ⟨v,h1,h2,h3⟩:=hI2.st;refine ⟨v,h1,?_,h3⟩;rw [Nat.sub_self,List.drop_zero] at h2;exact h2
end Go.Proofs.YtpdlohfdjiaegaaGreatDoor
