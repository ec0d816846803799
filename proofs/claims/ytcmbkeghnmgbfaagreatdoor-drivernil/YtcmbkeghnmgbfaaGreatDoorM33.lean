import Derived.Test.YtcmbkeghnmgbfaaGreatDoorM32
set_option linter.all false
namespace Go.Proofs.YtcmbkeghnmgbfaaGreatDoor
open Go.RowKit Go.Shelf
variable {cap s j:Nat}{vt vs vs0 v vs' vt':Value}{W' w W'':World}{n e:Int}{K:List It}{E:List Ev}{α:Type}{c:Bool}{ys xs:List Value}{ao:Option Addr}{P:Program}
attribute [local go_sem] Oper.semAt_some
structure Cz (w:World) (g:Nat) (c:Bool) (e n:Int) (vs0 vt:Value) (ys xs:List Value) (ao:Option Addr) (cap s j:Nat) (W:World):Prop where
 kp:Kp (fun k=>k=g\/vs0.ownBlock=some k) w W
 st:∃vs,PB W g c e n vs vt/\Rs W vs (ys++(xs.drop (xs.length-j)).reverse)/\Nb w vs0 vs
 box:W.heap[s]?=some (.cells #[.pointer (some ⟨g,0,none⟩)] 50 (0,0))
 bn:W.heap[s+1]?=some (.cells #[.slice ao xs.length cap] 123 (0,0))
theorem Cz.own {g:Nat}{W:World}{row:Option Nat}(h:Cz w g c e n vs0 vt ys xs ao cap s j W) (F:W.grownBy W' row) (u:∀r,row=some r->w.heap.size<=r/\∃o:Obj,W.heap[r]?=some o/\o.isCells=false):Cz w g c e n vs0 vt ys xs ao cap s j W':=by
 have G:=fun r e=>(u r e).2
 obtain⟨vs,H,I,J⟩:=h.st;exact⟨h.kp.step (Kp.of_grown F) (fun k M e=>by have:=(u k e.symm).1;omega),⟨vs,fP F G H,yi F G I,J⟩,fP F G h.box,fP F G h.bn⟩
theorem yX {w:World}{g:Nat}{c:Bool}{e n:Int}{vs vt:Value}{ys xs:List Value}{ao:Option Addr}{cap:Nat}(h:PB w g c e n vs vt) (F:Rs w vs ys) :
  Cz w g c e n vs vt ys xs ao cap w.heap.size 0 ((w.alloc (.cells #[.pointer (some ⟨g,0,none⟩)] 50)).alloc (.cells #[.slice ao xs.length cap] 123)):=by
 have u:Below w.heap.size w ((w.alloc (.cells #[.pointer (some ⟨g,0,none⟩)] 50)).alloc (.cells #[.slice ao xs.length cap] 123)):=((gt _ _).alloc (ge _) _).alloc (by rw[Eq];exact Of _) _;refine⟨Kp.of_below u,⟨vs,h.below u,?_,Nb.refl _ _⟩,bB (am _ _) _,?_⟩
 ·rw[Oj,LT];simp only[List.reverse_nil,KP];exact F.below u
 ·have:=am (w.alloc (.cells #[.pointer (some ⟨g,0,none⟩)] 50)) (.cells #[.slice ao xs.length cap] 123);rw[Eq]at this;exact this
theorem BQ (xs:List Value) (j i:Nat) (x:Value) (I:xs[i]?=some x) (H:xs.length-j=i+1) (u:xs.length-(j+1)=i) (ys:List Value) :
  ys++(xs.drop (xs.length-(j+1))).reverse=(ys++(xs.drop (xs.length-j)).reverse)++[x]:=by
 obtain⟨F,G⟩:=Kq.1 I;rw[H,u,KO F,G,Ll,Ks]
theorem Cz.next {g:Nat}{W W1 H:World}(h:Cz w g c e n vs0 vt ys xs ao cap s j W) (J:Below W.heap.size W W1) {i:Nat}{x:Value}(hx:xs[i]?=some x) (hj:xs.length-j=i+1) (ai:xs.length-(j+1)=i)
  {vs v':Value} (hv:PB W g c e n vs vt) (ag:Nb w vs0 vs) (ak:Rs W vs (ys++(xs.drop (xs.length-j)).reverse)) (h3:Rs H v' ((ys++(xs.drop (xs.length-j)).reverse)++[x])) (O:W1.grownBy H vs.ownBlock) (hq:Nb W1 vs v') :
  (H.cell? ⟨s,0,none⟩=some (.pointer (some ⟨g,0,none⟩))/\H.cell? ⟨g,3,none⟩=some vs/\H.frozen? ⟨g,3,none⟩=false)/\Cz w g c e n vs0 vt ys xs ao cap s (j+1) (H.setCell ⟨g,3,none⟩ v')/\∀B,KeepsFrom B W (H.setCell ⟨g,3,none⟩ v'):=by
 have ae:=hv.below J;have G:=ak.below J;have aj:¬some g=vs.ownBlock:=fun e=>G.ne ae (by decide) g e.symm rfl
 have u:PB H g c e n vs vt:=ae.kp (Kp.of_grown O) aj
 have hS:∀k,k<w.heap.size->some k=vs.ownBlock->k=g\/vs0.ownBlock=some k:=by
  intro k hk e
  rcases ag with h1|⟨q,h1,h2⟩
  ·exact .inr (by rw[<-h1,<-e])
  ·rw[h1]at e;simp at e;omega
 have F:=af h.box J;have I:=(Kp.of_grown O).blk F (fun e=>G.ne F (by decide) _ e.symm rfl);refine⟨⟨aa I rfl,aa u rfl,u.frozen 3⟩,⟨?_,⟨v',ab u 3 _,?_,?_⟩,?_,?_⟩,fun B=>?_⟩
 ·exact((h.kp.step (Kp.of_below (S:=fun _=>False) J) (fun _ _ h=>h.elim)).step (Kp.of_grown O) hS).step (Kp.set _ _ _ _) (fun k _ e=>.inl e)
 ·rw[BQ xs j i x hx hj ai ys];exact h3.kp (Kp.set _ _ _ _) (h3.ne u (by decide))
 ·exact ag.trans hq (Kh h.kp.size J.size)
 ·have F:=af h.box J;have I:=(Kp.of_grown O).blk F (fun e=>G.ne F (by decide) _ e.symm rfl);exact(Kp.set H g 3 v').blk I (by rintro rfl;have:=I.symm.trans u;injection this with e;injection e with _ e;exact absurd e (by decide))
 ·have ac:=af h.bn J;have ad:=(Kp.of_grown O).blk ac (fun e=>G.ne ac (by decide) _ e.symm rfl);exact(Kp.set H g 3 v').blk ad (by rintro rfl;have:=ad.symm.trans u;injection this with e;injection e with _ e;exact absurd e (by decide))
 ·refine(((A0 J).trans (I0 (Kp.of_grown O) ?_)).trans (KeepsOthers.setCell _ _ _)).from B
  intro k hk o ho
  rcases G.2 with⟨M,_⟩|⟨b,al,am,M,_,ah,_⟩
  ·rw[M]at hk;cases hk
  ·rw[M]at hk;simp only[Value.ownBlock,Ky]at hk;subst hk;rw[ah]at ho;cases ho;rfl
theorem tr {n:Nat}{md:Region.Mode}{G:Array Oper}{Q:Exit->Act->World->Prop}{l:Nat}(O:G.all (fun o=>match o.op with|.defer _=>false|_=>true)=true) :
  ∀{F:Nat} {u:Array Bool} {a:Act} {w:World},wpAnyIn Fence.wide n P md G Q F u a w->wpAnyIn (Fence.wide.inRound l) n P md G Q F u a w:=by
 have ab:∀(i:Nat) (K I:Act->World->Prop) (a:Act) (w:World),(∀a w,K a w->I a w)->wpOpIn Fence.wide n P G Q i K a w->wpOpIn (Fence.wide.inRound l) n P G Q i I a w:=by
  intro i K I a w M h;have H:=wpOpIn_mono M h;unfold wpOpIn at H ⊢
  split at H
  ·exact H
  ·rename_i o ho
   have aa:∀c,o.op≠.defer c:=by
    intro c hc;have:=(Array.all_eq_true.1 O) i (K8.1 ho).1;rw[(K8.1 ho).2,hc]at this;cases this
   split
   ·rename_i J
    rw[Kd J]at H;refine⟨H.1,?_⟩;have e1:o.semAt (Fence.wide.inRound l).round a.eval=execOp a.eval o:=Oper.semAt_some l _ _ aa;have e2:o.semAt Fence.wide.round a.eval=execOp a.eval o:=rfl;have h3:=H.2;rw[e2]at h3;rw[e1];exact h3
   ·rename_i J
    rw[IO J]at H;exact H
 intro F
 induction F with
 |zero=>intro u a w h;exact h
 |succ f ih=>intro u a w h;exact⟨h.1,fun i hi=>ab i _ _ a w (fun _ _=>ih) (h.2 i hi)⟩
theorem bu {F:Fence}{n:Nat}{o:Oper}{a:Act}{next:Act->World->Prop}{Q:Exit->Act->World->Prop}{r:Result Next}{w':World}(h:r=.ok (.value v) w') (u:next (a.put o.dst v) w'):o.uponIn F n P a next Q r:=by subst h;exact u
set_option maxRecDepth 100000 in
set_option maxHeartbeats 1000000 in
theorem tZ {g:Nat}(h:PB w g c e n vs vt) (hs:Rs w vs ys) (ao:Option Addr) (xs:List Value) (cap:Nat) (hL:Lv w ao xs) (ac:∀a,ao=some a->a.block≠g/\vs.ownBlock≠some a.block) (hx:xs.length<=1000000) (hy:ys.length<=100000000) :
  Kb 135 #[.pointer (some ⟨g,0,none⟩),.slice ao xs.length cap] w fun r w'=>r=.returned (.int .i64 1)/\(∃vs',PB w' g c e n vs' vt/\Rs w' vs' (ys++xs.reverse)/\Nb w vs vs')/\Kp (fun k=>k=g\/vs.ownBlock=some k) w w':=by
 refine(Nj (n:=9)).1 ?_;refine callsIn_of_wp_marks Tryz.func135 rfl trivial ?_ rfl;simp only[Tryz.ntmps135,NE,List.length_cons,LB,Nat.reduceAdd,Nat.reduceSub,MW,MX,NF,Nc,LA,KF]
 gi_wp2
 refine⟨trivial,?_⟩;refine(Nj.2 (pj _ _ _ _)).mono ?_;rintro r w1⟨rfl,rfl⟩
 gi_wp2
 obtain⟨s,hsz⟩:∃s,w.heap.size=s:=⟨_,rfl⟩;have h0:=yX (xs:=xs) (ao:=ao) (cap:=cap) h hs;rw[hsz]at h0 ⊢;obtain⟨W0,hW0⟩:∃W0,(w.alloc (.cells #[.pointer (some ⟨g,0,none⟩)] 50)).alloc (.cells #[.slice ao xs.length cap] 123)=W0:=⟨_,rfl⟩;have av:W0.heap.size=s+1+1:=by rw[<-hW0];simp only[Eq,hsz]
 rw[hW0]at h0 ⊢;clear hW0
 have ab:∀j W,Cz w g c e n vs vt ys xs ao cap s j W->Lv W ao xs:=fun j W hI=>hL.kp hI.kp (fun a ha au=>by
  rcases au with h1|h1
  ·exact(ac a ha).1 h1
  ·exact(ac a ha).2 h1)
 refine wD rfl (by omega) (gf:=232) (lb:=#[.pointer (some ⟨s+1,0,none⟩)]) rfl trivial (enters_of Tryz.func232 (by kernel_rfl) rfl) (mx 8 (by omega) (s+1) ao xs cap hx) (fun j=>rfl) (fun j W=>Cz w g c e n vs vt ys xs ao cap s j W)
  (fun j A B row h hg hr=>h.own hg (fun r e=>⟨by have:=(hr r e).1;omega,(hr r e).2⟩)) (fun j W h=>⟨aa h.bn rfl,ab j W h⟩) h0
  (fun j a' W=>a'={ tmps:=#[.pointer (some ⟨g,0,none⟩),.slice ao xs.length cap,.pointer (some ⟨s,0,none⟩),undef,.int .i64 0,undef,xs.getD (xs.length-1-j) .nilFunc,.slice ao xs.length cap,.func (.func 232) #[] #[.pointer (some ⟨s+1,0,none⟩)],.int .i64 ((xs.length-1-j:Nat):Int),xs.getD (xs.length-1-j) .nilFunc,undef,undef,undef,undef,undef,undef,undef,undef,undef,undef],defers:=[] })
  (fun j a' u A B row h hg hr=>h) ?assign ?body ?done
 case assign=>
  intro lp j W K hj M F
  dsimp only[Jz]
  gi_wp2
  exact F _ _ ((KeepsOthers.refl _).from _) M rfl
 case body=>
  rintro lp j a' W hj M rfl;obtain⟨i,hie⟩:∃i,xs.length-1-j=i:=⟨_,rfl⟩;have aj:i<xs.length:=by omega
  obtain⟨x,hd⟩:∃x,xs[i]?=some x:=⟨_,Ke aj⟩;have ag:xs.getD i .nilFunc=x:=by rw[MV,hd];rfl
  rw[hie,ag];have ak:xs.length-j=i+1:=by omega
  have al:xs.length-(j+1)=i:=by omega
  obtain⟨⟨fn,fi,ca,aw⟩,_⟩:=ab j W M i x hd;obtain⟨v,hv,hsr,hvn⟩:=M.st;have ax:(ys++(xs.drop (xs.length-j)).reverse).length<=1000000000:=by simp;omega
  obtain⟨pv,cv,rfl,_⟩:=hsr.shape
  have HN:Hid (∀W1 I v',Below W.heap.size W W1->Rs I v' ((ys++(xs.drop (xs.length-j)).reverse)++[x])->W1.grownBy I (Value.slice pv (ys++(xs.drop (xs.length-j)).reverse).length cv).ownBlock->Nb W1 (Value.slice pv (ys++(xs.drop (xs.length-j)).reverse).length cv) v'->(I.cell? ⟨s,0,none⟩=some (.pointer (some ⟨g,0,none⟩))/\I.cell? ⟨g,3,none⟩=some (.slice pv (ys++(xs.drop (xs.length-j)).reverse).length cv)/\I.frozen? ⟨g,3,none⟩=false)/\Cz w g c e n vs vt ys xs ao cap s (j+1) (I.setCell ⟨g,3,none⟩ v')/\∀B,KeepsFrom B W (I.setCell ⟨g,3,none⟩ v')):=
   fun W1 I v' hb h3 J hq=>M.next hb hd ak al hv hvn hsr h3 J hq
  have HS:=ku fun V (hb:Below W.heap.size W V)=>hsr.below hb
  have x0:W.cell? ⟨s,0,none⟩=_:=aa M.box rfl;have x3:W.cell? ⟨g,3,none⟩=_:=aa hv rfl;have ay:=hv.lt;have az:=ai M.box;clear hd ag hie hsr hvn hv M ab hj ak al aj h0 av hL ac h hs
  generalize(ys++(xs.drop (xs.length-j)).reverse)=zs at *
  subst aw;obtain⟨i0,ah,an,ap,aq⟩:=LJ Tryz.info184;have ad:Below W.heap.size W (W.alloc (.cells #[.func fn fi ca] 184)).drew:=((gt _ _).alloc (ge _) _).drew;obtain⟨q,cp,I,hrun,hr3,J,hq3,_⟩:=run_append_lies (P:=Tryz.prog) (W.alloc (.cells #[.func fn fi ca] 184)).drew 123 123 0 184 i0 _ 1 8 Tryz.underlying123 ah an ap aq rfl (by decide) _ _ _ (HS.out _ ad) ⟨W.heap.size,0,none⟩ 1 1 [.func fn fi ca] rfl (fun j u hu=>LW (am W _) j u (by simpa using hu)) (by intro u hu;simp at hu;subst hu;rfl) (by omega) (by unfold maxLen;omega) (by omega) (Kj _) _ rfl
  obtain⟨⟨y0,y1,y2⟩,y3,y4⟩:=HN.out _ I (.slice (some ⟨q,0,none⟩) (zs.length+1) cp) ad (by unfold Rs;rw[Kf];exact hr3) J (by
   rcases hq3 with h|h
   ·exact .inl h.symm
   ·exact .inr ⟨q,rfl,by rw[h];exact ge _⟩)
  have H:Hid (Cz w g c e n vs vt ys xs ao cap s (j+1) (I.setCell ⟨g,3,none⟩ (.slice (some ⟨q,0,none⟩) (zs.length+1) cp))/\∀B,KeepsFrom B W (I.setCell ⟨g,3,none⟩ (.slice (some ⟨q,0,none⟩) (zs.length+1) cp))):=⟨y3,y4⟩;clear y3 y4 hr3 J hq3 HN HS ad ah an ap aq;have ar:Tryz.prog.follows .mixedOrders=true:=by kernel_rfl
  have ae:(Sem.run Tryz.prog (Builtin.append_ #[123,123] 123 #[.slice pv zs.length cv,.slice (some ⟨W.heap.size,0,none⟩) 1 1]) (W.alloc (.cells #[.func fn fi ca] 184)).drew).andThen (fun a w'=>Result.ok (Next.value a) w')=Result.ok (Next.value (.slice (some ⟨q,0,none⟩) (zs.length+1) cp)) I:=by rw[hrun];rfl
  clear hrun;simp[go_sem]at ae;have G:=ku ae;clear ae
  gi_wp2
  refine wpIn_region_any ar ?_;refine tr (by kernel_rfl) ?_
  change wpAnyIn _ _ _ _ _ _ 11 _ _ (World.drew _)
  refine wpAnyIn_take (i:=5) (v:=.func fn fi ca) rfl rfl (by kernel_rfl) (by kernel_rfl) (by kernel_rfl) (fun _ _ _ h=>h) ⟨Or.inl ⟨by rfl,by intro w;go_simp⟩,fun _=>rfl⟩ ?_;refine wpAnyIn_ready (rs:=[0,1,6]) (by kernel_rfl) (by simp) ?_;refine AllReadyIn.cons rfl (fun K F=>?_) ?_
  ·go_simp
   refine F _ _ ?_;clear F K;refine wpAnyIn_ready (rs:=[1,6]) (by kernel_rfl) (by simp) ?_;refine AllReadyIn.cons rfl (fun K F=>?_) ?_
   ·go_simp
    refine F _ _ ?_;clear F K;refine wpAnyIn_take (i:=2) (v:=.pointer (some ⟨g,0,none⟩)) rfl rfl (by kernel_rfl) (by kernel_rfl) (by kernel_rfl) (fun _ _ _ h=>h) ⟨Or.inl ⟨by rfl,by intro w;go_simp⟩,fun _=>rfl⟩ ?_;refine wpAnyIn_take (i:=3) (v:=.pointer (some ⟨g,3,none⟩)) rfl rfl (by kernel_rfl) (by kernel_rfl) (by kernel_rfl) (fun _ _ _ h=>h) ⟨Or.inl ⟨by rfl,by intro w;go_simp⟩,fun _=>rfl⟩ ?_;refine wpAnyIn_ready (rs:=[4,6]) (by kernel_rfl) (by simp) ?_;refine AllReadyIn.cons rfl (fun K F=>?_) ?_
    ·go_simp
     refine F _ _ ?_;clear F K;refine wpAnyIn_ready (rs:=[6]) (by kernel_rfl) (by simp) ?_;refine AllReadyIn.cons rfl (fun K F=>?_) ?_
     ·go_simp
      refine F _ _ ?_;clear F K;refine wpAnyIn_ready (rs:=[7]) (by kernel_rfl) (by simp) ?_;refine AllReadyIn.cons rfl (fun K F=>?_) ?_
      ·go_simp
       refine bu G.out ?_;refine F _ _ ?_;clear F K;refine wpAnyIn_take (i:=8) (v:=.pointer (some ⟨g,0,none⟩)) rfl rfl (by kernel_rfl) (by kernel_rfl) (by kernel_rfl) (fun _ _ _ h=>h) ⟨Or.inl ⟨by rfl,by intro w;go_simp⟩,fun _=>rfl⟩ ?_;refine wpAnyIn_take (i:=9) (v:=.pointer (some ⟨g,3,none⟩)) rfl rfl (by kernel_rfl) (by kernel_rfl) (by kernel_rfl) (fun _ _ _ h=>h) ⟨Or.inl ⟨by rfl,by intro w;go_simp⟩,fun _=>rfl⟩ ?_;refine wpAnyIn_ready (rs:=[10]) (by kernel_rfl) (by simp) ?_;refine AllReadyIn.cons rfl (fun K F=>?_) ?_
       ·go_simp
        refine F _ _ ?_;clear F K;refine wpAnyIn_done (by kernel_rfl) ?_ _;exact⟨rfl,H.out.2 _,H.out.1⟩
       exact AllReadyIn.nil
      exact AllReadyIn.nil
     exact AllReadyIn.nil
    refine AllReadyIn.cons rfl (fun K F=>?_) ?_
    ·go_simp
     refine F _ _ ?_;clear F K;refine wpAnyIn_ready (rs:=[4]) (by kernel_rfl) (by simp) ?_;refine AllReadyIn.cons rfl (fun K F=>?_) ?_
     ·go_simp
      refine F _ _ ?_;clear F K;refine wpAnyIn_ready (rs:=[7]) (by kernel_rfl) (by simp) ?_;refine AllReadyIn.cons rfl (fun K F=>?_) ?_
      ·go_simp
       refine bu G.out ?_;refine F _ _ ?_;clear F K;refine wpAnyIn_take (i:=8) (v:=.pointer (some ⟨g,0,none⟩)) rfl rfl (by kernel_rfl) (by kernel_rfl) (by kernel_rfl) (fun _ _ _ h=>h) ⟨Or.inl ⟨by rfl,by intro w;go_simp⟩,fun _=>rfl⟩ ?_;refine wpAnyIn_take (i:=9) (v:=.pointer (some ⟨g,3,none⟩)) rfl rfl (by kernel_rfl) (by kernel_rfl) (by kernel_rfl) (fun _ _ _ h=>h) ⟨Or.inl ⟨by rfl,by intro w;go_simp⟩,fun _=>rfl⟩ ?_;refine wpAnyIn_ready (rs:=[10]) (by kernel_rfl) (by simp) ?_;refine AllReadyIn.cons rfl (fun K F=>?_) ?_
       ·go_simp
        refine F _ _ ?_;clear F K;refine wpAnyIn_done (by kernel_rfl) ?_ _;exact⟨rfl,H.out.2 _,H.out.1⟩
       exact AllReadyIn.nil
      exact AllReadyIn.nil
     exact AllReadyIn.nil
    exact AllReadyIn.nil
   refine AllReadyIn.cons rfl (fun K F=>?_) ?_
   ·go_simp
    refine F _ _ ?_;clear F K;refine wpAnyIn_ready (rs:=[1]) (by kernel_rfl) (by simp) ?_;refine AllReadyIn.cons rfl (fun K F=>?_) ?_
    ·go_simp
     refine F _ _ ?_;clear F K;refine wpAnyIn_take (i:=2) (v:=.pointer (some ⟨g,0,none⟩)) rfl rfl (by kernel_rfl) (by kernel_rfl) (by kernel_rfl) (fun _ _ _ h=>h) ⟨Or.inl ⟨by rfl,by intro w;go_simp⟩,fun _=>rfl⟩ ?_;refine wpAnyIn_take (i:=3) (v:=.pointer (some ⟨g,3,none⟩)) rfl rfl (by kernel_rfl) (by kernel_rfl) (by kernel_rfl) (fun _ _ _ h=>h) ⟨Or.inl ⟨by rfl,by intro w;go_simp⟩,fun _=>rfl⟩ ?_;refine wpAnyIn_ready (rs:=[4]) (by kernel_rfl) (by simp) ?_;refine AllReadyIn.cons rfl (fun K F=>?_) ?_
     ·go_simp
      refine F _ _ ?_;clear F K;refine wpAnyIn_ready (rs:=[7]) (by kernel_rfl) (by simp) ?_;refine AllReadyIn.cons rfl (fun K F=>?_) ?_
      ·go_simp
       refine bu G.out ?_;refine F _ _ ?_;clear F K;refine wpAnyIn_take (i:=8) (v:=.pointer (some ⟨g,0,none⟩)) rfl rfl (by kernel_rfl) (by kernel_rfl) (by kernel_rfl) (fun _ _ _ h=>h) ⟨Or.inl ⟨by rfl,by intro w;go_simp⟩,fun _=>rfl⟩ ?_;refine wpAnyIn_take (i:=9) (v:=.pointer (some ⟨g,3,none⟩)) rfl rfl (by kernel_rfl) (by kernel_rfl) (by kernel_rfl) (fun _ _ _ h=>h) ⟨Or.inl ⟨by rfl,by intro w;go_simp⟩,fun _=>rfl⟩ ?_;refine wpAnyIn_ready (rs:=[10]) (by kernel_rfl) (by simp) ?_;refine AllReadyIn.cons rfl (fun K F=>?_) ?_
       ·go_simp
        refine F _ _ ?_;clear F K;refine wpAnyIn_done (by kernel_rfl) ?_ _;exact⟨rfl,H.out.2 _,H.out.1⟩
       exact AllReadyIn.nil
      exact AllReadyIn.nil
     exact AllReadyIn.nil
    exact AllReadyIn.nil
   exact AllReadyIn.nil
  refine AllReadyIn.cons rfl (fun K F=>?_) ?_
  ·go_simp
   refine F _ _ ?_;clear F K;refine wpAnyIn_take (i:=2) (v:=.pointer (some ⟨g,0,none⟩)) rfl rfl (by kernel_rfl) (by kernel_rfl) (by kernel_rfl) (fun _ _ _ h=>h) ⟨Or.inl ⟨by rfl,by intro w;go_simp⟩,fun _=>rfl⟩ ?_;refine wpAnyIn_take (i:=3) (v:=.pointer (some ⟨g,3,none⟩)) rfl rfl (by kernel_rfl) (by kernel_rfl) (by kernel_rfl) (fun _ _ _ h=>h) ⟨Or.inl ⟨by rfl,by intro w;go_simp⟩,fun _=>rfl⟩ ?_;refine wpAnyIn_ready (rs:=[0,4,6]) (by kernel_rfl) (by simp) ?_;refine AllReadyIn.cons rfl (fun K F=>?_) ?_
   ·go_simp
    refine F _ _ ?_;clear F K;refine wpAnyIn_ready (rs:=[4,6]) (by kernel_rfl) (by simp) ?_;refine AllReadyIn.cons rfl (fun K F=>?_) ?_
    ·go_simp
     refine F _ _ ?_;clear F K;refine wpAnyIn_ready (rs:=[6]) (by kernel_rfl) (by simp) ?_;refine AllReadyIn.cons rfl (fun K F=>?_) ?_
     ·go_simp
      refine F _ _ ?_;clear F K;refine wpAnyIn_ready (rs:=[7]) (by kernel_rfl) (by simp) ?_;refine AllReadyIn.cons rfl (fun K F=>?_) ?_
      ·go_simp
       refine bu G.out ?_;refine F _ _ ?_;clear F K;refine wpAnyIn_take (i:=8) (v:=.pointer (some ⟨g,0,none⟩)) rfl rfl (by kernel_rfl) (by kernel_rfl) (by kernel_rfl) (fun _ _ _ h=>h) ⟨Or.inl ⟨by rfl,by intro w;go_simp⟩,fun _=>rfl⟩ ?_;refine wpAnyIn_take (i:=9) (v:=.pointer (some ⟨g,3,none⟩)) rfl rfl (by kernel_rfl) (by kernel_rfl) (by kernel_rfl) (fun _ _ _ h=>h) ⟨Or.inl ⟨by rfl,by intro w;go_simp⟩,fun _=>rfl⟩ ?_;refine wpAnyIn_ready (rs:=[10]) (by kernel_rfl) (by simp) ?_;refine AllReadyIn.cons rfl (fun K F=>?_) ?_
       ·go_simp
        refine F _ _ ?_;clear F K;refine wpAnyIn_done (by kernel_rfl) ?_ _;exact⟨rfl,H.out.2 _,H.out.1⟩
       exact AllReadyIn.nil
      exact AllReadyIn.nil
     exact AllReadyIn.nil
    refine AllReadyIn.cons rfl (fun K F=>?_) ?_
    ·go_simp
     refine F _ _ ?_;clear F K;refine wpAnyIn_ready (rs:=[4]) (by kernel_rfl) (by simp) ?_;refine AllReadyIn.cons rfl (fun K F=>?_) ?_
     ·go_simp
      refine F _ _ ?_;clear F K;refine wpAnyIn_ready (rs:=[7]) (by kernel_rfl) (by simp) ?_;refine AllReadyIn.cons rfl (fun K F=>?_) ?_
      ·go_simp
       refine bu G.out ?_;refine F _ _ ?_;clear F K;refine wpAnyIn_take (i:=8) (v:=.pointer (some ⟨g,0,none⟩)) rfl rfl (by kernel_rfl) (by kernel_rfl) (by kernel_rfl) (fun _ _ _ h=>h) ⟨Or.inl ⟨by rfl,by intro w;go_simp⟩,fun _=>rfl⟩ ?_;refine wpAnyIn_take (i:=9) (v:=.pointer (some ⟨g,3,none⟩)) rfl rfl (by kernel_rfl) (by kernel_rfl) (by kernel_rfl) (fun _ _ _ h=>h) ⟨Or.inl ⟨by rfl,by intro w;go_simp⟩,fun _=>rfl⟩ ?_;refine wpAnyIn_ready (rs:=[10]) (by kernel_rfl) (by simp) ?_;refine AllReadyIn.cons rfl (fun K F=>?_) ?_
       ·go_simp
        refine F _ _ ?_;clear F K;refine wpAnyIn_done (by kernel_rfl) ?_ _;exact⟨rfl,H.out.2 _,H.out.1⟩
       exact AllReadyIn.nil
      exact AllReadyIn.nil
     exact AllReadyIn.nil
    exact AllReadyIn.nil
   refine AllReadyIn.cons rfl (fun K F=>?_) ?_
   ·go_simp
    refine F _ _ ?_;clear F K;refine wpAnyIn_ready (rs:=[0,6]) (by kernel_rfl) (by simp) ?_;refine AllReadyIn.cons rfl (fun K F=>?_) ?_
    ·go_simp
     refine F _ _ ?_;clear F K;refine wpAnyIn_ready (rs:=[6]) (by kernel_rfl) (by simp) ?_;refine AllReadyIn.cons rfl (fun K F=>?_) ?_
     ·go_simp
      refine F _ _ ?_;clear F K;refine wpAnyIn_ready (rs:=[7]) (by kernel_rfl) (by simp) ?_;refine AllReadyIn.cons rfl (fun K F=>?_) ?_
      ·go_simp
       refine bu G.out ?_;refine F _ _ ?_;clear F K;refine wpAnyIn_take (i:=8) (v:=.pointer (some ⟨g,0,none⟩)) rfl rfl (by kernel_rfl) (by kernel_rfl) (by kernel_rfl) (fun _ _ _ h=>h) ⟨Or.inl ⟨by rfl,by intro w;go_simp⟩,fun _=>rfl⟩ ?_;refine wpAnyIn_take (i:=9) (v:=.pointer (some ⟨g,3,none⟩)) rfl rfl (by kernel_rfl) (by kernel_rfl) (by kernel_rfl) (fun _ _ _ h=>h) ⟨Or.inl ⟨by rfl,by intro w;go_simp⟩,fun _=>rfl⟩ ?_;refine wpAnyIn_ready (rs:=[10]) (by kernel_rfl) (by simp) ?_;refine AllReadyIn.cons rfl (fun K F=>?_) ?_
       ·go_simp
        refine F _ _ ?_;clear F K;refine wpAnyIn_done (by kernel_rfl) ?_ _;exact⟨rfl,H.out.2 _,H.out.1⟩
       exact AllReadyIn.nil
      exact AllReadyIn.nil
     exact AllReadyIn.nil
    refine AllReadyIn.cons rfl (fun K F=>?_) ?_
    ·go_simp
     refine F _ _ ?_;clear F K;refine wpAnyIn_ready (rs:=[0,7]) (by kernel_rfl) (by simp) ?_;refine AllReadyIn.cons rfl (fun K F=>?_) ?_
     ·go_simp
      refine F _ _ ?_;clear F K;refine wpAnyIn_ready (rs:=[7]) (by kernel_rfl) (by simp) ?_;refine AllReadyIn.cons rfl (fun K F=>?_) ?_
      ·go_simp
       refine bu G.out ?_;refine F _ _ ?_;clear F K;refine wpAnyIn_take (i:=8) (v:=.pointer (some ⟨g,0,none⟩)) rfl rfl (by kernel_rfl) (by kernel_rfl) (by kernel_rfl) (fun _ _ _ h=>h) ⟨Or.inl ⟨by rfl,by intro w;go_simp⟩,fun _=>rfl⟩ ?_;refine wpAnyIn_take (i:=9) (v:=.pointer (some ⟨g,3,none⟩)) rfl rfl (by kernel_rfl) (by kernel_rfl) (by kernel_rfl) (fun _ _ _ h=>h) ⟨Or.inl ⟨by rfl,by intro w;go_simp⟩,fun _=>rfl⟩ ?_;refine wpAnyIn_ready (rs:=[10]) (by kernel_rfl) (by simp) ?_;refine AllReadyIn.cons rfl (fun K F=>?_) ?_
       ·go_simp
        refine F _ _ ?_;clear F K;refine wpAnyIn_done (by kernel_rfl) ?_ _;exact⟨rfl,H.out.2 _,H.out.1⟩
       exact AllReadyIn.nil
      exact AllReadyIn.nil
     refine AllReadyIn.cons rfl (fun K F=>?_) ?_
     ·go_simp
      refine bu G.out ?_;refine F _ _ ?_;clear F K;refine wpAnyIn_ready (rs:=[0]) (by kernel_rfl) (by simp) ?_;refine AllReadyIn.cons rfl (fun K F=>?_) ?_
      ·go_simp
       refine F _ _ ?_;clear F K;refine wpAnyIn_take (i:=8) (v:=.pointer (some ⟨g,0,none⟩)) rfl rfl (by kernel_rfl) (by kernel_rfl) (by kernel_rfl) (fun _ _ _ h=>h) ⟨Or.inl ⟨by rfl,by intro w;go_simp⟩,fun _=>rfl⟩ ?_;refine wpAnyIn_take (i:=9) (v:=.pointer (some ⟨g,3,none⟩)) rfl rfl (by kernel_rfl) (by kernel_rfl) (by kernel_rfl) (fun _ _ _ h=>h) ⟨Or.inl ⟨by rfl,by intro w;go_simp⟩,fun _=>rfl⟩ ?_;refine wpAnyIn_ready (rs:=[10]) (by kernel_rfl) (by simp) ?_;refine AllReadyIn.cons rfl (fun K F=>?_) ?_
       ·go_simp
        refine F _ _ ?_;clear F K;refine wpAnyIn_done (by kernel_rfl) ?_ _;exact⟨rfl,H.out.2 _,H.out.1⟩
       exact AllReadyIn.nil
      exact AllReadyIn.nil
     exact AllReadyIn.nil
    exact AllReadyIn.nil
   refine AllReadyIn.cons rfl (fun K F=>?_) ?_
   ·go_simp
    refine F _ _ ?_;clear F K;refine wpAnyIn_ready (rs:=[0,4]) (by kernel_rfl) (by simp) ?_;refine AllReadyIn.cons rfl (fun K F=>?_) ?_
    ·go_simp
     refine F _ _ ?_;clear F K;refine wpAnyIn_ready (rs:=[4]) (by kernel_rfl) (by simp) ?_;refine AllReadyIn.cons rfl (fun K F=>?_) ?_
     ·go_simp
      refine F _ _ ?_;clear F K;refine wpAnyIn_ready (rs:=[7]) (by kernel_rfl) (by simp) ?_;refine AllReadyIn.cons rfl (fun K F=>?_) ?_
      ·go_simp
       refine bu G.out ?_;refine F _ _ ?_;clear F K;refine wpAnyIn_take (i:=8) (v:=.pointer (some ⟨g,0,none⟩)) rfl rfl (by kernel_rfl) (by kernel_rfl) (by kernel_rfl) (fun _ _ _ h=>h) ⟨Or.inl ⟨by rfl,by intro w;go_simp⟩,fun _=>rfl⟩ ?_;refine wpAnyIn_take (i:=9) (v:=.pointer (some ⟨g,3,none⟩)) rfl rfl (by kernel_rfl) (by kernel_rfl) (by kernel_rfl) (fun _ _ _ h=>h) ⟨Or.inl ⟨by rfl,by intro w;go_simp⟩,fun _=>rfl⟩ ?_;refine wpAnyIn_ready (rs:=[10]) (by kernel_rfl) (by simp) ?_;refine AllReadyIn.cons rfl (fun K F=>?_) ?_
       ·go_simp
        refine F _ _ ?_;clear F K;refine wpAnyIn_done (by kernel_rfl) ?_ _;exact⟨rfl,H.out.2 _,H.out.1⟩
       exact AllReadyIn.nil
      exact AllReadyIn.nil
     exact AllReadyIn.nil
    refine AllReadyIn.cons rfl (fun K F=>?_) ?_
    ·go_simp
     refine F _ _ ?_;clear F K;refine wpAnyIn_ready (rs:=[0,7]) (by kernel_rfl) (by simp) ?_;refine AllReadyIn.cons rfl (fun K F=>?_) ?_
     ·go_simp
      refine F _ _ ?_;clear F K;refine wpAnyIn_ready (rs:=[7]) (by kernel_rfl) (by simp) ?_;refine AllReadyIn.cons rfl (fun K F=>?_) ?_
      ·go_simp
       refine bu G.out ?_;refine F _ _ ?_;clear F K;refine wpAnyIn_take (i:=8) (v:=.pointer (some ⟨g,0,none⟩)) rfl rfl (by kernel_rfl) (by kernel_rfl) (by kernel_rfl) (fun _ _ _ h=>h) ⟨Or.inl ⟨by rfl,by intro w;go_simp⟩,fun _=>rfl⟩ ?_;refine wpAnyIn_take (i:=9) (v:=.pointer (some ⟨g,3,none⟩)) rfl rfl (by kernel_rfl) (by kernel_rfl) (by kernel_rfl) (fun _ _ _ h=>h) ⟨Or.inl ⟨by rfl,by intro w;go_simp⟩,fun _=>rfl⟩ ?_;refine wpAnyIn_ready (rs:=[10]) (by kernel_rfl) (by simp) ?_;refine AllReadyIn.cons rfl (fun K F=>?_) ?_
       ·go_simp
        refine F _ _ ?_;clear F K;refine wpAnyIn_done (by kernel_rfl) ?_ _;exact⟨rfl,H.out.2 _,H.out.1⟩
       exact AllReadyIn.nil
      exact AllReadyIn.nil
     refine AllReadyIn.cons rfl (fun K F=>?_) ?_
     ·go_simp
      refine bu G.out ?_;refine F _ _ ?_;clear F K;refine wpAnyIn_ready (rs:=[0]) (by kernel_rfl) (by simp) ?_;refine AllReadyIn.cons rfl (fun K F=>?_) ?_
      ·go_simp
       refine F _ _ ?_;clear F K;refine wpAnyIn_take (i:=8) (v:=.pointer (some ⟨g,0,none⟩)) rfl rfl (by kernel_rfl) (by kernel_rfl) (by kernel_rfl) (fun _ _ _ h=>h) ⟨Or.inl ⟨by rfl,by intro w;go_simp⟩,fun _=>rfl⟩ ?_;refine wpAnyIn_take (i:=9) (v:=.pointer (some ⟨g,3,none⟩)) rfl rfl (by kernel_rfl) (by kernel_rfl) (by kernel_rfl) (fun _ _ _ h=>h) ⟨Or.inl ⟨by rfl,by intro w;go_simp⟩,fun _=>rfl⟩ ?_;refine wpAnyIn_ready (rs:=[10]) (by kernel_rfl) (by simp) ?_;refine AllReadyIn.cons rfl (fun K F=>?_) ?_
       ·go_simp
        refine F _ _ ?_;clear F K;refine wpAnyIn_done (by kernel_rfl) ?_ _;exact⟨rfl,H.out.2 _,H.out.1⟩
       exact AllReadyIn.nil
      exact AllReadyIn.nil
     exact AllReadyIn.nil
    exact AllReadyIn.nil
   exact AllReadyIn.nil
  refine AllReadyIn.cons rfl (fun K F=>?_) ?_
  ·go_simp
   refine F _ _ ?_;clear F K;refine wpAnyIn_ready (rs:=[0,1]) (by kernel_rfl) (by simp) ?_;refine AllReadyIn.cons rfl (fun K F=>?_) ?_
   ·go_simp
    refine F _ _ ?_;clear F K;refine wpAnyIn_ready (rs:=[1]) (by kernel_rfl) (by simp) ?_;refine AllReadyIn.cons rfl (fun K F=>?_) ?_
    ·go_simp
     refine F _ _ ?_;clear F K;refine wpAnyIn_take (i:=2) (v:=.pointer (some ⟨g,0,none⟩)) rfl rfl (by kernel_rfl) (by kernel_rfl) (by kernel_rfl) (fun _ _ _ h=>h) ⟨Or.inl ⟨by rfl,by intro w;go_simp⟩,fun _=>rfl⟩ ?_;refine wpAnyIn_take (i:=3) (v:=.pointer (some ⟨g,3,none⟩)) rfl rfl (by kernel_rfl) (by kernel_rfl) (by kernel_rfl) (fun _ _ _ h=>h) ⟨Or.inl ⟨by rfl,by intro w;go_simp⟩,fun _=>rfl⟩ ?_;refine wpAnyIn_ready (rs:=[4]) (by kernel_rfl) (by simp) ?_;refine AllReadyIn.cons rfl (fun K F=>?_) ?_
     ·go_simp
      refine F _ _ ?_;clear F K;refine wpAnyIn_ready (rs:=[7]) (by kernel_rfl) (by simp) ?_;refine AllReadyIn.cons rfl (fun K F=>?_) ?_
      ·go_simp
       refine bu G.out ?_;refine F _ _ ?_;clear F K;refine wpAnyIn_take (i:=8) (v:=.pointer (some ⟨g,0,none⟩)) rfl rfl (by kernel_rfl) (by kernel_rfl) (by kernel_rfl) (fun _ _ _ h=>h) ⟨Or.inl ⟨by rfl,by intro w;go_simp⟩,fun _=>rfl⟩ ?_;refine wpAnyIn_take (i:=9) (v:=.pointer (some ⟨g,3,none⟩)) rfl rfl (by kernel_rfl) (by kernel_rfl) (by kernel_rfl) (fun _ _ _ h=>h) ⟨Or.inl ⟨by rfl,by intro w;go_simp⟩,fun _=>rfl⟩ ?_;refine wpAnyIn_ready (rs:=[10]) (by kernel_rfl) (by simp) ?_;refine AllReadyIn.cons rfl (fun K F=>?_) ?_
       ·go_simp
        refine F _ _ ?_;clear F K;refine wpAnyIn_done (by kernel_rfl) ?_ _;exact⟨rfl,H.out.2 _,H.out.1⟩
       exact AllReadyIn.nil
      exact AllReadyIn.nil
     exact AllReadyIn.nil
    exact AllReadyIn.nil
   refine AllReadyIn.cons rfl (fun K F=>?_) ?_
   ·go_simp
    refine F _ _ ?_;clear F K;refine wpAnyIn_take (i:=2) (v:=.pointer (some ⟨g,0,none⟩)) rfl rfl (by kernel_rfl) (by kernel_rfl) (by kernel_rfl) (fun _ _ _ h=>h) ⟨Or.inl ⟨by rfl,by intro w;go_simp⟩,fun _=>rfl⟩ ?_;refine wpAnyIn_take (i:=3) (v:=.pointer (some ⟨g,3,none⟩)) rfl rfl (by kernel_rfl) (by kernel_rfl) (by kernel_rfl) (fun _ _ _ h=>h) ⟨Or.inl ⟨by rfl,by intro w;go_simp⟩,fun _=>rfl⟩ ?_;refine wpAnyIn_ready (rs:=[0,4]) (by kernel_rfl) (by simp) ?_;refine AllReadyIn.cons rfl (fun K F=>?_) ?_
    ·go_simp
     refine F _ _ ?_;clear F K;refine wpAnyIn_ready (rs:=[4]) (by kernel_rfl) (by simp) ?_;refine AllReadyIn.cons rfl (fun K F=>?_) ?_
     ·go_simp
      refine F _ _ ?_;clear F K;refine wpAnyIn_ready (rs:=[7]) (by kernel_rfl) (by simp) ?_;refine AllReadyIn.cons rfl (fun K F=>?_) ?_
      ·go_simp
       refine bu G.out ?_;refine F _ _ ?_;clear F K;refine wpAnyIn_take (i:=8) (v:=.pointer (some ⟨g,0,none⟩)) rfl rfl (by kernel_rfl) (by kernel_rfl) (by kernel_rfl) (fun _ _ _ h=>h) ⟨Or.inl ⟨by rfl,by intro w;go_simp⟩,fun _=>rfl⟩ ?_;refine wpAnyIn_take (i:=9) (v:=.pointer (some ⟨g,3,none⟩)) rfl rfl (by kernel_rfl) (by kernel_rfl) (by kernel_rfl) (fun _ _ _ h=>h) ⟨Or.inl ⟨by rfl,by intro w;go_simp⟩,fun _=>rfl⟩ ?_;refine wpAnyIn_ready (rs:=[10]) (by kernel_rfl) (by simp) ?_;refine AllReadyIn.cons rfl (fun K F=>?_) ?_
       ·go_simp
        refine F _ _ ?_;clear F K;refine wpAnyIn_done (by kernel_rfl) ?_ _;exact⟨rfl,H.out.2 _,H.out.1⟩
       exact AllReadyIn.nil
      exact AllReadyIn.nil
     exact AllReadyIn.nil
    refine AllReadyIn.cons rfl (fun K F=>?_) ?_
    ·go_simp
     refine F _ _ ?_;clear F K;refine wpAnyIn_ready (rs:=[0,7]) (by kernel_rfl) (by simp) ?_;refine AllReadyIn.cons rfl (fun K F=>?_) ?_
     ·go_simp
      refine F _ _ ?_;clear F K;refine wpAnyIn_ready (rs:=[7]) (by kernel_rfl) (by simp) ?_;refine AllReadyIn.cons rfl (fun K F=>?_) ?_
      ·go_simp
       refine bu G.out ?_;refine F _ _ ?_;clear F K;refine wpAnyIn_take (i:=8) (v:=.pointer (some ⟨g,0,none⟩)) rfl rfl (by kernel_rfl) (by kernel_rfl) (by kernel_rfl) (fun _ _ _ h=>h) ⟨Or.inl ⟨by rfl,by intro w;go_simp⟩,fun _=>rfl⟩ ?_;refine wpAnyIn_take (i:=9) (v:=.pointer (some ⟨g,3,none⟩)) rfl rfl (by kernel_rfl) (by kernel_rfl) (by kernel_rfl) (fun _ _ _ h=>h) ⟨Or.inl ⟨by rfl,by intro w;go_simp⟩,fun _=>rfl⟩ ?_;refine wpAnyIn_ready (rs:=[10]) (by kernel_rfl) (by simp) ?_;refine AllReadyIn.cons rfl (fun K F=>?_) ?_
       ·go_simp
        refine F _ _ ?_;clear F K;refine wpAnyIn_done (by kernel_rfl) ?_ _;exact⟨rfl,H.out.2 _,H.out.1⟩
       exact AllReadyIn.nil
      exact AllReadyIn.nil
     refine AllReadyIn.cons rfl (fun K F=>?_) ?_
     ·go_simp
      refine bu G.out ?_;refine F _ _ ?_;clear F K;refine wpAnyIn_ready (rs:=[0]) (by kernel_rfl) (by simp) ?_;refine AllReadyIn.cons rfl (fun K F=>?_) ?_
      ·go_simp
       refine F _ _ ?_;clear F K;refine wpAnyIn_take (i:=8) (v:=.pointer (some ⟨g,0,none⟩)) rfl rfl (by kernel_rfl) (by kernel_rfl) (by kernel_rfl) (fun _ _ _ h=>h) ⟨Or.inl ⟨by rfl,by intro w;go_simp⟩,fun _=>rfl⟩ ?_;refine wpAnyIn_take (i:=9) (v:=.pointer (some ⟨g,3,none⟩)) rfl rfl (by kernel_rfl) (by kernel_rfl) (by kernel_rfl) (fun _ _ _ h=>h) ⟨Or.inl ⟨by rfl,by intro w;go_simp⟩,fun _=>rfl⟩ ?_;refine wpAnyIn_ready (rs:=[10]) (by kernel_rfl) (by simp) ?_;refine AllReadyIn.cons rfl (fun K F=>?_) ?_
       ·go_simp
        refine F _ _ ?_;clear F K;refine wpAnyIn_done (by kernel_rfl) ?_ _;exact⟨rfl,H.out.2 _,H.out.1⟩
       exact AllReadyIn.nil
      exact AllReadyIn.nil
     exact AllReadyIn.nil
    exact AllReadyIn.nil
   exact AllReadyIn.nil
  exact AllReadyIn.nil
 case done=>
  intro D W hD hI O
  gi_wp2
  have af:=hI.own (grownBy_putObj' W D (.deferred none)) (fun r e=>by cases e;exact⟨by omega,_,O,rfl⟩);refine⟨by simp,.inl ⟨_,_,rfl,run_takeDeferred O,?_⟩⟩;refine⟨.int .i64 1,by simp[results,Tryz.f135,go_sem],rfl,?_,af.kp⟩;obtain⟨v,h1,h2,h3⟩:=af.st;refine⟨v,h1,?_,h3⟩;rw[Nat.sub_self,List.drop_zero]at h2;exact h2
open Go.RowKit
def M.id:M->Nat
 |.block=>96
 |.variables=>176
 |.constants=>177
 |.procedure=>178
 |.params=>278
 |.param=>297
 |.typed=>234
 |.kind=>239
 |.member=>279
 |.body=>141
 |.statement=>179
 |.expr=>235
 |.rel=>277
 |.sum=>296
 |.term=>305
 |.factor=>309
 |.object=>240
 |.index=>298
 |.selection=>299
 |.args=>300
 |.list=>306
def Dk.id:Dk->Nat
 |.declaration=>139
 |.bracket=>236
 |.detail=>280
abbrev pt (g:Nat):Value:=.pointer (some ⟨g,0,none⟩)
abbrev cO (g:Nat) (f:Nat):Value:=.func (.func f) #[pt g] #[]
abbrev CF:Value:=.func (.func 94) #[] #[]
abbrev J9:Value:=.func (.func 307) #[] #[]
abbrev IX (g:Nat) (n:Int):Value:=.func (.func 136) #[.agg #[pt g,.int .u8 n]] #[]
abbrev km (g:Nat) (v:Value):Value:=.func (.func 237) #[.agg #[pt g,v]] #[]
abbrev io (g:Nat) (v:Value):Value:=.func (.func 140) #[.agg #[pt g,v]] #[]
abbrev yU (b3 b1:Nat):Value:=.func (.func 282) #[] #[pt b3,pt b1]
abbrev eS (b1 b2:Nat):Value:=.func (.func 283) #[] #[pt b1,pt b2]
abbrev EL (b:Nat):Value:=.func (.func 301) #[] #[pt b]
inductive Al {α:Type}(R:Value->α->Prop):List Value->List α->Prop
 |nil:Al R [] []
 |cons {v:Value} {x:α} {vs:List Value} {xs:List α}:R v x->Al R vs xs->Al R (v :: vs) (x :: xs)
theorem Al.len {R:Value->α->Prop}{vs:List Value}{xs:List α}(h:Al R vs xs):vs.length=xs.length:=by
 induction h with
 |nil=>rfl
 |cons _ _ ih=>simp[ih]
theorem Al.mono {R S:Value->α->Prop}{vs:List Value}{xs:List α}(h:Al R vs xs) (u:∀v x,R v x->S v x):Al S vs xs:=by
 induction h with
 |nil=>exact .nil
 |cons h _ ih=>exact .cons (u _ _ h) ih
theorem Al.app {R:Value->α->Prop}{vs us:List Value}{xs ys:List α}(h:Al R vs xs) (k:Al R us ys):Al R (vs++us) (xs++ys):=by
 induction h with
 |nil=>exact k
 |cons h _ ih=>exact .cons h ih
theorem Al.rev {R:Value->α->Prop}{vs:List Value}{xs:List α}(h:Al R vs xs):Al R vs.reverse xs.reverse:=by
 induction h with
 |nil=>exact .nil
 |cons h _ ih=>rw[Ll,Ll];exact ih.app (.cons h .nil)
theorem Al.map {β:Type}{R:Value->α->Prop}{S:Value->β->Prop}{f:α->β}{vs:List Value}{xs:List α}(h:Al R vs xs) (u:∀v x,R v x->S v (f x)):Al S vs (xs.map f):=by
 induction h with
 |nil=>exact .nil
 |cons h _ ih=>exact .cons (u _ _ h) ih
theorem Al.at {R:Value->α->Prop}{vs:List Value}{xs:List α}(h:Al R vs xs):∀{j:Nat}{v:Value},vs[j]?=some v->∃x,xs[j]?=some x/\R v x:=by
 induction h with
 |nil=>intro j v h;simp at h
 |cons h _ ih=>
  intro j v u;cases j with
  |zero=>simp at u;subst u;exact⟨_,rfl,h⟩
  |succ j=>simp at u;simpa using ih u
section
variable (g:Nat) (D:Nat->Prop) (W:World)
inductive lX:Value->Fl->Prop
 |wd {k:Int} {ao:Option Addr} {ts:List ByteArray} {cap:Nat}:Ls W ao ts->(∀a,ao=some a->D a.block)->ts.length<=1000->lX (aF k (.slice ao ts.length cap)) (.wd k ts)
 |nm:lX CF .nm
 |cs:lX J9 .cs
 |mt (m:M):lX (cO g m.id) (.mt m)
structure ut (b3 b1:Nat) (r:List Fl):Prop where
 ex:∃ao cap xs,W.heap[b1]?=some (.cells #[.slice ao xs.length cap] 123 (0,0))/\Lv W ao xs/\Al (lX g D W) xs r/\∀a,ao=some a->D a.block
 pb:W.heap[b3]?=some (.cells #[pt g] 50 (0,0))
 d1:D b1
 d3:D b3
 ln:r.length<=1000
inductive jb:Value->Pk->Prop
 |fn (d:Dk):jb (cO g d.id) (.fn d)
 |row {b1 b2 b3:Nat} {r:List Fl}:ut g D W b3 b1 r->W.heap[b2]?=some (.cells #[yU b3 b1] 183 (0,0))->D b2->(∃k ts rest,r=Fl.wd k ts :: rest)->jb (eS b1 b2) (.row r)
 |ex {b:Nat} {m:M}:W.heap[b]?=some (.cells #[cO g m.id] 184 (0,0))->D b->jb (EL b) (.ex m)
inductive jG:Value->It->Prop
 |fl {v:Value} {x:Fl}:lX g D W v x->jG v (.fl x)
 |lv (n:Int):jG (IX g n) (.lv n)
 |once {v:Value} {p:Pk}:jb g D W v p->jG (km g v) (.once p)
 |again {v:Value} {p:Pk}:jb g D W v p->jG (io g v) (.again p)
 |all {b1 b3:Nat} {r:List Fl}:ut g D W b3 b1 r->jG (yU b3 b1) (.all r)
end
theorem lX.turn {g:Nat}{D F:Nat->Prop}{W W':World}{v:Value}{x:Fl}(h:lX g D W v x) (G:∀k,D k->F k) (H:∀k o,D k->W.heap[k]?=some o->W'.heap[k]?=some o):lX g F W' v x:=by
 cases h with
 |wd h1 h2 h3=>
  refine .wd (fun j s J=>?_) (fun a I=>G _ (h2 a I)) h3;obtain⟨b,u,e,hc⟩:=h1 j s J;refine⟨b,u,e,?_⟩;obtain⟨o,ho⟩:∃o,W.heap[b]?=some o:=⟨_,Lh (Kg _ _ hc)⟩;exact(Kn (a:=⟨b,_,none⟩) ((H b o (h2 _ e) ho).trans ho.symm)).trans hc
 |nm=>exact .nm
 |cs=>exact .cs
 |mt m=>exact .mt m
theorem ut.turn {g:Nat}{D G:Nat->Prop}{W W':World}{b3 b1:Nat}{r:List Fl}(h:ut g D W b3 b1 r) (u:∀k,D k->G k) (F:∀k o,D k->W.heap[k]?=some o->W'.heap[k]?=some o):ut g G W' b3 b1 r:=by
 obtain⟨ao,cap,xs,I,J,M,H⟩:=h.ex;refine⟨⟨ao,cap,xs,F _ _ h.d1 I,fun j s hj=>?_,M.mono (fun v x hx=>hx.turn u F),fun a O=>u _ (H a O)⟩,F _ _ h.d3 h.pb,u _ h.d1,u _ h.d3,h.ln⟩;obtain⟨h0,b,off,e,hc⟩:=J j s hj;refine⟨h0,b,off,e,?_⟩;obtain⟨o,ho⟩:∃o,W.heap[b]?=some o:=⟨_,Lh (Kg _ _ hc)⟩;exact(Kn (a:=⟨b,_,none⟩) ((F b o (H _ e) ho).trans ho.symm)).trans hc
theorem jb.turn {g:Nat}{D G:Nat->Prop}{W W':World}{v:Value}{x:Pk}(h:jb g D W v x) (u:∀k,D k->G k) (F:∀k o,D k->W.heap[k]?=some o->W'.heap[k]?=some o):jb g G W' v x:=by
 cases h with
 |fn d=>exact .fn d
 |row h1 h2 h3 h4=>exact .row (h1.turn u F) (F _ _ h3 h2) (u _ h3) h4
 |ex h1 h2=>exact .ex (F _ _ h2 h1) (u _ h2)
theorem jG.turn {g:Nat}{D G:Nat->Prop}{W W':World}{v:Value}{x:It}(h:jG g D W v x) (u:∀k,D k->G k) (F:∀k o,D k->W.heap[k]?=some o->W'.heap[k]?=some o):jG g G W' v x:=by
 cases h with
 |fl h=>exact .fl (h.turn u F)
 |lv n=>exact .lv n
 |once h=>exact .once (h.turn u F)
 |again h=>exact .again (h.turn u F)
 |all h=>exact .all (h.turn u F)
theorem jG.isFn {g:Nat}{D:Nat->Prop}{W:World}{x:It}(h:jG g D W v x):∃G F u,v=.func G F u:=by
 cases h with
 |fl h=>cases h<;>exact⟨_,_,_,rfl⟩
 |lv n=>exact⟨_,_,_,rfl⟩
 |once h=>exact⟨_,_,_,rfl⟩
 |again h=>exact⟨_,_,_,rfl⟩
 |all h=>exact⟨_,_,_,rfl⟩
structure Ps (g:Nat) (D:Nat->Prop) (W:World) (n:Int) (K:List It) (E:List Ev) (vs vt:Value):Prop where
 pb:PB W g false 0 n vs vt
 st:∃xs,Rs W vs xs/\Al (jG g D W) xs K.reverse
 ev:Re W vt E
 dg:¬D g
 ds:∀k,vs.ownBlock=some k->¬D k
 dt:∀k,vt.ownBlock=some k->¬D k
 dl:∀k,D k->k<W.heap.size
def Dn (D:Nat->Prop) (a b:Nat) (k:Nat):Prop:=D k\/(a<=k/\k<b)
theorem Ps.fresh {g:Nat}{D:Nat->Prop}{W:World}(h:Ps g D W n K E vs vt) (H:Below W.heap.size W W'):Ps g (Dn D W.heap.size W'.heap.size) W' n K E vs vt:=by
 obtain⟨xs,G,I⟩:=h.st;refine⟨h.pb.below H,⟨xs,G.below H,I.mono (fun v x M=>M.turn (fun k F=>.inl F) (fun k o _ J=>af J H))⟩,h.ev.below H,?_,?_,?_,?_⟩
 ·rintro(G|G)
  ·exact h.dg G
  ·have:=h.pb.lt;omega
 ·rintro k F (u|u)
  ·exact h.ds k F u
  ·have:=G.lt k F;omega
 ·rintro k F (u|u)
  ·exact h.dt k F u
  ·have:=h.ev.lt k F;omega
 ·rintro k (u|u)
  ·exact Kl (h.dl k u) H.size
  ·exact u.2
def ay (g:Nat) (D:Nat->Prop) (vs vt:Value) (W W':World) (n:Int) (K:List It) (E:List Ev):Prop:=
 ∃D' vs' vt',Ps g D' W' n K E vs' vt'/\Kp (fun k=>k=g\/vs.ownBlock=some k\/vt.ownBlock=some k) W W'/\Nb W vs vs'/\Nb W vt vt'/\(∀k,D k->D' k)/\(∀k,D' k->D k\/W.heap.size<=k)
theorem qN {g:Nat}{W:World}(F:Nb W vs vs') (ht:Nb W vt vt') (k:Nat) (G:k<W.heap.size) (h:k=g\/vs'.ownBlock=some k\/vt'.ownBlock=some k):k=g\/vs.ownBlock=some k\/vt.ownBlock=some k:=by
 rcases h with h|h|h
 ·exact .inl h
 ·rcases F with e|⟨q,e,u⟩
  ·exact .inr (.inl (by rw[<-e];exact h))
  ·rw[e]at h;simp at h;omega
 ·rcases ht with e|⟨q,e,u⟩
  ·exact .inr (.inr (by rw[<-e];exact h))
  ·rw[e]at h;simp at h;omega
theorem ay.go {g:Nat}{D F:Nat->Prop}{W:World}(u:Kp (fun k=>k=g\/vs.ownBlock=some k\/vt.ownBlock=some k) W W') (M:Nb W vs vs') (ht:Nb W vt vt') (h1:∀k,D k->F k) (h2:∀k,F k->D k\/W.heap.size<=k) (h:ay g F vs' vt' W' W'' n K E):ay g D vs vt W W'' n K E:=by
 obtain⟨O,I,J,p,k2,s2,t2,a1,a2⟩:=h;refine⟨O,I,J,p,u.step k2 (fun k G H=>qN M ht k G H),M.trans s2 u.size,ht.trans t2 u.size,fun k h=>a1 k (h1 k h),fun k h=>?_⟩
 rcases a2 k h with h|h
 ·exact h2 k h
 ·exact .inr (Kh u.size h)
theorem ay.fresh {g:Nat}{D:Nat->Prop}{W:World}(u:Below W.heap.size W W') (h:ay g (Dn D W.heap.size W'.heap.size) vs vt W' W'' n K E):ay g D vs vt W W'' n K E:=
 ay.go (Kp.of_below u) (Nb.refl _ _) (Nb.refl _ _) (fun k h=>.inl h) (fun k h=>h.imp id (fun h=>h.1)) h
structure yV (g:Nat) (D:Nat->Prop) (W:World) (ao:Option Addr) (xs:List Value) (r:List It):Prop where
 lv:Lv W ao xs
 al:Al (jG g D W) xs r
 da:∀a,ao=some a->D a.block
theorem yV.turn {g:Nat}{D:Nat->Prop}{W W':World}{ao:Option Addr}{xs:List Value}{r:List It}(h:yV g D W ao xs r) (F:∀k o,D k->W.heap[k]?=some o->W'.heap[k]?=some o):yV g D W' ao xs r:=by
 refine⟨fun j s H=>?_,h.al.mono (fun v x I=>I.turn (fun _ h=>h) F),h.da⟩;obtain⟨G,b,u,e,hc⟩:=h.lv j s H;refine⟨G,b,u,e,?_⟩;obtain⟨o,ho⟩:∃o,W.heap[b]?=some o:=⟨_,Lh (Kg _ _ hc)⟩;exact(Kn (a:=⟨b,_,none⟩) ((F b o (h.da _ e) ho).trans ho.symm)).trans hc
theorem jA {g:Nat}{D:Nat->Prop}{W:World}(h:Ps g D W n K E vs vt) (ao:Option Addr) (xs:List Value) (m cap:Nat) (r:List It) (hm:xs.length=m) (J:yV g D W ao xs r) (H:xs.length<=1000000) (hy:K.length<=100000000) :
  Kb 135 #[pt g,.slice ao m cap] W fun e w'=>e=.returned (.int .i64 1)/\(∃vs',Ps g D w' n (r++K) E vs' vt/\Nb W vs vs')/\Kp (fun k=>k=g\/vs.ownBlock=some k) W w':=by
 subst hm;obtain⟨ys,h1,h2⟩:=h.st;have O:ys.length<=100000000:=by rw[h2.len,KZ];exact hy
 refine(tZ h.pb h1 ao xs cap J.lv (fun a ha=>⟨fun e=>h.dg (e ▸ J.da a ha),fun e=>h.ds _ e (J.da a ha)⟩) H O).mono ?_;rintro e w'⟨rfl,⟨vs',a1,a2,a3⟩,I⟩
 have hD:∀k,D k->¬(k=g\/vs.ownBlock=some k):=by
  rintro k F (e|e)
  ·exact h.dg (e ▸ F)
  ·exact h.ds k e F
 have hW:∀k o,D k->W.heap[k]?=some o->w'.heap[k]?=some o:=fun k o F ho=>I.blk ho (hD k F)
 refine⟨rfl,⟨vs',⟨a1,⟨_,a2,?_⟩,h.ev.kp I ?_,h.dg,?_,h.dt,fun k F=>Kl (h.dl k F) I.size⟩,a3⟩,I⟩
 ·rw[List.reverse_append];exact(h2.mono (fun v x H=>H.turn (fun _ h=>h) hW)).app ((J.al.rev).mono (fun v x H=>H.turn (fun _ h=>h) hW))
 ·rintro k F (e|e)
  ·exact h.ev.ne h.pb (by decide) k F e
  ·obtain⟨b,u,G,M,hc⟩:∃b u G,vs=.slice (some ⟨b,0,none⟩) ys.length u/\W.heap[b]?=some (.cells G 184 (0,0)):=by
    rcases h1.2 with⟨rfl,_⟩|⟨b,u,G,M,_,h3,_⟩
    ·cases e
    ·exact⟨b,u,G,M,h3⟩
   rw[M]at e;simp only[Value.ownBlock,Ky]at e;exact h.ev.ne hc (by decide) k F e.symm
 ·intro k F hd
  rcases a3 with e|⟨q,e,hq⟩
  ·exact h.ds k (by rw[<-e];exact F) hd
  ·rw[e]at F;simp at F;have:=h.dl k hd;omega
theorem gy {g:Nat}{D:Nat->Prop}{W:World}(h:Ps g D W n K E vs vt) (ao:Option Addr) (xs:List Value) (m cap:Nat) (r:List It) (H:xs.length=m) (I:yV g D W ao xs r) (J:xs.length<=1000000) (M:K.length<=100000000) :
  Kb 135 #[pt g,.slice ao m cap] W fun e w'=>e=.returned (.int .i64 1)/\ay g D vs vt W w' n (r++K) E:=by
 refine(jA h ao xs m cap r H I J M).mono ?_;rintro e w'⟨rfl,⟨vs',u,F⟩,G⟩;exact⟨rfl,D,vs',vt,u,G.sub (fun k h=>h.elim .inl (fun h=>.inr (.inl h))),F,Nb.refl _ _,fun _ h=>h,fun _ h=>.inl h⟩
theorem nP {g:Nat}{D:Nat->Prop}{W:World}(h:Ps g D W n K E vs vt) (d:Ev) (hl:E.length<=1000000000) :
  Kb 97 #[pt g,d.v] W fun e w'=>e=.returned (.tuple #[])/\(∃vt',Ps g D w' n K (E++[d]) vs vt'/\Nb W vt vt')/\Kp (fun k=>k=g\/vt.ownBlock=some k) W w':=by
 refine(xk h.pb h.ev d hl).mono ?_;rintro e w'⟨rfl,⟨vt',M,O,J⟩,H⟩;obtain⟨ys,h1,h2⟩:=h.st
 have hD:∀k,D k->¬(k=g\/vt.ownBlock=some k):=by
  rintro k F (e|e)
  ·exact h.dg (e ▸ F)
  ·exact h.dt k e F
 have hW:∀k o,D k->W.heap[k]?=some o->w'.heap[k]?=some o:=fun k o F ho=>H.blk ho (hD k F)
 refine⟨rfl,⟨vt',⟨M,⟨ys,h1.kp H ?_,h2.mono (fun v x hx=>hx.turn (fun _ h=>h) hW)⟩,O,h.dg,h.ds,?_,fun k F=>Kl (h.dl k F) H.size⟩,J⟩,H⟩
 ·rintro k F (e|e)
  ·exact h1.ne h.pb (by decide) k F e
  ·obtain⟨b,u,G,I,hc⟩:∃b u G,vt=.slice (some ⟨b,0,none⟩) E.length u/\W.heap[b]?=some (.cells G 135 (0,0)):=by
    rcases h.ev.2 with⟨rfl,_⟩|⟨b,u,G,I,_,h3,_⟩
    ·cases e
    ·exact⟨b,u,G,I,h3⟩
   rw[I]at e;simp only[Value.ownBlock,Ky]at e;exact h1.ne hc (by decide) k F e.symm
 ·intro k F hd
  rcases J with e|⟨q,e,hq⟩
  ·exact h.dt k (by rw[<-e];exact F) hd
  ·rw[e]at F;simp at F;have:=h.dl k hd;omega
theorem Ps.nodes {g:Nat}{D:Nat->Prop}{W:World}(h:Ps g D W n K E vs vt) (m:Int):Ps g D (W.setCell ⟨g,2,none⟩ (.int .i64 m)) m K E vs vt:=by
 obtain⟨ys,F,G⟩:=h.st;have u:=Kp.set W g 2 (.int .i64 m);refine⟨ab h.pb 2 _,⟨ys,F.kp u (F.ne h.pb (by decide)),G.mono (fun v x I=>I.turn (fun _ h=>h) (fun k o hd H=>u.blk H (fun e=>h.dg (e ▸ hd))))⟩,h.ev.kp u (h.ev.ne h.pb (by decide)),h.dg,h.ds,h.dt,fun k hd=>Kl (h.dl k hd) u.size⟩
