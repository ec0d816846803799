import Derived.Test.YtcmbkeghnmgbfaaGreatDoorM40
set_option linter.all false
set_option maxHeartbeats 4000000
set_option maxRecDepth 100000
namespace Go.Proofs.YtcmbkeghnmgbfaaGreatDoor
open Go.Proofs.Tryz
open Go.RowKit
open Lw (Dc rt ud S9 CE)
open Lx (je fJ av)
open Go.Lib (strCells strCells_length)
section
variable {R:(Nat->Prop)->World->Nat->Nat->S9->Prop} {q:Gq} {c:Nat->Nat} {W W':World} {L:j0} {op:ByteArray} {X Y:DS}
theorem DZ (h:tm X=some Y):∃K n Z V,X.ps=.live K n/\K.length=1/\fk [⟨3,1,cD⟩] { X with ps:=.shut }=some Z/\CO Z=some V/\CN V=some Y:=by
 unfold tm at h;cases F:X.ps with
 |live K n=>
  rw[F]at h;simp only at h
  split at h
  ·rename_i H
   cases G:fk [⟨3,1,cD⟩] { X with ps:=.shut }with
   |none=>rw[G]at h;cases h
   |some Z=>
    rw[G]at h;simp only at h;cases u:CO Z with
    |none=>rw[u]at h;cases h
    |some V=>
     rw[u]at h;exact⟨K,n,Z,V,rfl,H,rfl,u,h⟩
  ·cases h
 |stuck e n=>rw[F]at h;cases h
 |shut=>rw[F]at h;cases h
theorem EE (H:fh R) (h:DI R q c W L op X) (ho:op.size<=1000000) (hy:tm X=some Y) :
  Kb 16 #[.pointer (some ⟨q.d,0,none⟩)] W fun e w'=>∃x y z:Int,e=.returned (.agg #[.int .i64 0,.int .i64 x,.int .i64 y,.int .i64 z])/\∃c',DI R q c' w' L op Y/\Sp c W c' w':=by
 obtain⟨K,n,Z,V,y1,y2,y3,y4,y5⟩:=DZ hy;obtain⟨W1,hW1⟩:∃W1,W.alloc (.cells #[.int .i64 0,.int .i64 0,.int .i64 0,.int .i64 0] 35)=W1:=⟨_,rfl⟩;have ae:Below W.heap.size W W1:=by rw[<-hW1];exact(gt _ _).alloc (ge _) _
 have ag:W1.heap[W.heap.size]?=some (.cells #[.int .i64 0,.int .i64 0,.int .i64 0,.int .i64 0] 35 (0,0)):=by rw[<-hW1];exact am _ _
 have h1:=h.below H ae;have af:c W.heap.size=0:=h.nf _ (ge _);have al:=h.be.size;have HX:Hid (∀c' U,Sp c W1 c' U->U.heap[W.heap.size]?=some (.cells #[.int .i64 0,.int .i64 0,.int .i64 0,.int .i64 0] 35 (0,0))/\c' W.heap.size=0):=fun c' U hs=>⟨hs.kp.blk ag (fun e=>e af),hs.z _ (ai ag) af⟩
 have ar:Hid (∀U,Below W1.heap.size W1 U->Kb 39 #[pt q.gp] U fun e w'=>∃G u,e=.returned (.tuple #[.slice G 1 u,.int .i64 0])/\Hid (Jq R q c W1 L op { X with ps:=.shut } w' G [⟨3,1,cD⟩])):=fun U hb=>by
  have h2:=h1.below H hb;have aw:uv X.ps [⟨3,1,cD⟩] 0:=by rw[y1];exact .all y2
  refine(yI h2.ps (fun k hk=>h2.lt (by have h9:c k=2:=hk;omega)) h2.gd.ok aw).mono ?_;rintro e w'⟨v,rfl,hA⟩;obtain⟨G,u,rfl,c3,a1,a2,a3,a4⟩:=qL H h2 hA trivial;exact⟨G,u,rfl,c3,a1,(Sp.below hb).trans a2,a3,a4⟩
 have aq:Hid (∀U G u,Hid (Jq R q c W1 L op { X with ps:=.shut } U G [⟨3,1,cD⟩])->Kb 31 #[.pointer (some ⟨q.d,0,none⟩),.slice G 1 u,.int .i64 0] U fun e w'=>e=.returned (.int .i64 0)/\Hid (∃c2,DI R q c2 w' L op Z/\Sp c W1 c2 w')):=fun U G u hV=>by
  obtain⟨c2,a1,a2,a3,a4⟩:=hV.out;refine(vI H a1 a3 a4 (by decide) y3).mono ?_;rintro e w'⟨rfl,c3,b1,b2⟩;exact⟨rfl,c3,b1,a2.trans b2⟩
 obtain⟨ZL,ad⟩:∃ZL,(ox Z.ss).2.1=ZL:=⟨_,rfl⟩
 have ak:Hid ((∀U,Hid (∃c2,DI R q c2 U L op Z/\Sp c W1 c2 U)->Kb 41 #[bv q.gs] U fun e w'=>∃G u,e=.returned (.tuple #[.slice G ZL.length u,.int .i64 0])/\Hid (Js R q c W1 L op { Z with ss:=(ox Z.ss).2.2 } w' G ZL))/\(∀U G u,Hid (Js R q c W1 L op { Z with ss:=(ox Z.ss).2.2 } U G ZL)->Kb 40 #[.pointer (some ⟨q.d,0,none⟩),.slice G ZL.length u,.int .i64 0] U fun e w'=>e=.returned (.int .i64 0)/\Hid (∃c2,DI R q c2 w' L op V/\Sp c W1 c2 w'))):=by
  unfold CO at y4;simp only at y4
  split at y4
  ·rename_i ah
   obtain⟨x1,x2⟩:=ah;rw[ad]at y4;obtain⟨hzl,hzt⟩:=jf _ _ _ y4;constructor
   ·intro U hU;obtain⟨c2,J,d2⟩:=hU.out;refine(sM J.ss (zV x1)).mono ?_;rintro e w'⟨v,rfl,hA⟩;rw[ad]at hA;obtain⟨G,u,rfl,c3,a1,a2,a3,a4⟩:=pZ H J hA hzt;rw[x2];exact⟨G,u,rfl,c3,a1,d2.trans a2,a3,a4⟩
   ·intro U G u hV;obtain⟨c2,a1,a2,a3,a4⟩:=hV.out;refine(vg H a1 a3 a4 (by omega) y4).mono ?_;rintro e w'⟨rfl,c3,b1,b2⟩;exact⟨rfl,c3,b1,a2.trans b2⟩
  ·cases y4
 have au:Hid (∀U,Hid (∃c2,DI R q c2 U L op V/\Sp c W1 c2 U)->Kb 42 #[.pointer (some ⟨q.d,0,none⟩)] U fun e w'=>e=.returned (.int .i64 0)/\Hid (∃c2,DI R q c2 w' L op Y/\Sp c W1 c2 w')):=fun U hU=>by
  obtain⟨c2,J,d2⟩:=hU.out;refine(DX H J y5).mono ?_;rintro e w'⟨rfl,c3,b1,b2⟩;exact⟨rfl,c3,b1,d2.trans b2⟩
 have an:Hid (∀U,Hid (∃c2,DI R q c2 U L op Y/\Sp c W1 c2 U)->Kb 43 #[.pointer (some ⟨q.d,0,none⟩)] U fun e w'=>∃x y z:Int,e=.returned (.agg #[.int .i64 x,.int .i64 y,.int .i64 z])/\Hid (∃c2,DI R q c2 w' L op Y/\Sp c W1 c2 w')):=fun U hU=>by
  obtain⟨c2,J,d2⟩:=hU.out;refine(BV J ho).mono ?_;rintro e w'⟨x,y,z,rfl,hb⟩;exact⟨x,y,z,rfl,c2,J.below H hb,d2.trans (Sp.below hb)⟩
 have ap:Hid (∀c' U U',DI R q c' U L op Y->Sp c W1 c' U->Kp (fun k=>k=W.heap.size) U U'->DI R q c' U' L op Y/\Sp c W c' U'):=fun c' U U' hd hs hk=>⟨hd.free H (HX.out c' U hs).2 al hk,((Sp.below ae).trans hs).free (ge _) hk⟩
 have ac:Hid (∀c' U Q,DI R q c' U L op Q->U.cell? ⟨q.d,7,none⟩=some (pt q.gp)/\U.cell? ⟨q.d,8,none⟩=some (bv q.gs)/\q.d<U.heap.size):=fun c' U Q hd=>⟨hd.cs.2.2.2.1,hd.cs.2.2.2.2,hd.dl⟩
 obtain⟨m7,m8,cz⟩:=ac.out _ _ _ h1;clear h hy y1 y2 y3 y4 y5 h1 ae ag af al ho ad
 go_enter func16,ntmps16
 go_wp2_with(first
  | (go_at_call 39;refine(ar.out _ (gt _ _)).mono ?_;rintro e w2⟨G,u,rfl,K2⟩)
  | (go_at_call 31;refine(aq.out _ _ _ K2).mono ?_;rintro e w3⟨rfl,K3⟩;obtain⟨c3,I,M⟩:=K3.out;obtain⟨n7,n8,ndl⟩:=ac.out _ _ _ I;clear I M))
 go_region_with (first|(go_at_call 41;refine(ak.out.1 _ (by first|exact K3|(obtain⟨c3,I,M⟩:=K3.out;exact⟨c3,I.below H (gt _ _).drew,M.trans (Sp.below (gt _ _).drew)⟩))).mono ?_;rintro e w4⟨p4,cap4,rfl,K4⟩)|(go_at_call 40;refine(ak.out.2 _ _ _ K4).mono ?_;rintro e w5⟨rfl,K5⟩))
 all_goals(
  obtain⟨c5,I,M⟩:=K5.out;obtain⟨r7,r8,rdl⟩:=ac.out _ _ _ I;clear I M m7 m8 n7 n8 cz ndl
  go_wp2_with(first
   | (go_at_call 42;refine(au.out _ K5).mono ?_;rintro e w6⟨rfl,K6⟩)
   | (go_at_call 43;refine(an.out _ K6).mono ?_;rintro e O⟨x,y,z,rfl,K7⟩;obtain⟨c7,I,M⟩:=K7.out;have F:=(HX.out _ _ M).1;have av:=aK F;have ax:=ai F;have HZ:=aK (And.intro I M);have m0:O.cell? ⟨W.heap.size,0,none⟩=some (.int .i64 0):=aa F rfl;have m1:O.cell? ⟨W.heap.size,1,none⟩=some (.int .i64 0):=aa F rfl;have m2:O.cell? ⟨W.heap.size,2,none⟩=some (.int .i64 0):=aa F rfl;have m3:O.cell? ⟨W.heap.size,3,none⟩=some (.int .i64 0):=aa F rfl;have f0:O.frozen? ⟨W.heap.size,0,none⟩=false:=aj F;have f1:O.frozen? ⟨W.heap.size,1,none⟩=false:=aj F;have f2:O.frozen? ⟨W.heap.size,2,none⟩=false:=aj F;have f3:O.frozen? ⟨W.heap.size,3,none⟩=false:=aj F;clear F I M))
  have xF:=ab (ab (ab (ab av.out 0 (.int .i64 0)) 1 (.int .i64 x)) 2 (.int .i64 y)) 3 (.int .i64 z);have d0:=aa (k:=0) (v:=.int .i64 0) xF rfl;have J:=aa (k:=1) (v:=.int .i64 x) xF rfl;have d2:=aa (k:=2) (v:=.int .i64 y) xF rfl;have d3:=aa (k:=3) (v:=.int .i64 z) xF rfl;refine Kv (v:=.agg #[.int .i64 0,.int .i64 x,.int .i64 y,.int .i64 z]) (by simp[results,Tryz.f16,go_sem,d0,J,d2,d3]) rfl ?_;exact⟨x,y,z,rfl,_,ap.out _ _ _ HZ.out.1 HZ.out.2 ((((Kp.set _ _ _ _).trans (Kp.set _ _ _ _)).trans (Kp.set _ _ _ _)).trans (Kp.set _ _ _ _))⟩)
end
def cN (a b gl gp gs d:Nat) (k:Nat):Nat:=if k<a then 0 else if k<b then 4 else if k=gl then 1 else if k=gp then 2 else if k=gs then 3 else if k=d then 5 else 0
theorem Je {a b gl gp gs d:Nat}(u:a<=b) (F:b<=gl) (G:gl<gp) (H:gp<gs) (I:gs<d) (k:Nat) :
  (cN a b gl gp gs d k=1↔k=gl)/\(cN a b gl gp gs d k=2↔k=gp)/\(cN a b gl gp gs d k=3↔k=gs)/\(cN a b gl gp gs d k=4↔a<=k/\k<b)/\(cN a b gl gp gs d k=5↔k=d)/\(d<k->cN a b gl gp gs d k=0)/\(cN a b gl gp gs d k≠0->a<=k):=by
 unfold cN
 repeat' split
 all_goals omega
section
variable {R:(Nat->Prop)->World->Nat->Nat->S9->Prop}
theorem DI.start (hC:fh R) {W W1 H u F M G J:World}{O gl:Nat}(hk:Lx.fg W) (ht:Lw.ib W) (b1:Below W.heap.size W W1) (h2:R (fun k=>W1.heap.size<=k) H O 72 CE) (b2:Below W1.heap.size W1 H) (l1:H.heap.size<=gl) (l2:gl<u.heap.size) (b3:Below H.heap.size H u) (h3:Lx.LZ (fun k=>k=gl) u gl ByteArray.empty [] 0 0 0)
  (h4:Pq (fun k=>k=u.heap.size) F u.heap.size (.live [] 0)) (b4:Below u.heap.size u F) (z4:F.heap.size=u.heap.size+1) (h5:Sq (fun k=>k=F.heap.size) M F.heap.size (.live IG)) (b5:Below F.heap.size F M) (b6:Below M.heap.size M G)
  (b8:Below G.heap.size G J) (z8:J.heap.size=G.heap.size+1) (h8:J.heap[G.heap.size]?=some (.cells #[.pointer (some ⟨O,0,none⟩),.func (.func 26) #[.pointer (some ⟨G.heap.size,0,none⟩)] #[],.int .i64 0,.int .i64 0,.int .i64 0,.int .i64 0,.pointer (some ⟨gl,0,none⟩),pt u.heap.size,bv F.heap.size,.int .i64 0,.int .i64 1,.int .i64 1,.slice none 0 0,.bool false,.slice none 0 0,.int .i64 0,.slice none 0 0] 56 (0,0))) :
  ∃c,DI R ⟨W,G.heap.size,gl,u.heap.size,F.heap.size,O⟩ c J (.live ByteArray.empty [] 0 0 0) emp D0:=by
 have ah:J.heap[G.heap.size]?=some (vS ⟨W,G.heap.size,gl,u.heap.size,F.heap.size,O⟩ 0 1 1 (.slice none 0 0) false (.slice none 0 0) 0 (.slice none 0 0)):=by
  have e:wrap64 1=1:=by unfold wrap64;omega
  show _=some (Obj.cells #[.pointer (some ⟨O,0,none⟩),.func (.func 26) #[.pointer (some ⟨G.heap.size,0,none⟩)] #[],.int .i64 0,.int .i64 0,.int .i64 0,.int .i64 0,.pointer (some ⟨gl,0,none⟩),pt u.heap.size,bv F.heap.size,.int .i64 0,.int .i64 (wrap64 1),.int .i64 1,.slice none 0 0,.bool false,.slice none 0 0,.int .i64 0,.slice none 0 0] 56 (0,0))
  rw[e];exact h8
 have s1:=b1.size;have s2:=b2.size;have s3:=b3.size;have s4:=b4.size;have s5:=b5.size;have s6:=b6.size;have ai:F.heap.size<M.heap.size:=h5.lt _ rfl;have I:=Je (a:=W1.heap.size) (b:=H.heap.size) (gl:=gl) (gp:=u.heap.size) (gs:=F.heap.size) (d:=G.heap.size) s2 l1 l2 (by omega) (by omega);have q1:(fun k=>cN W1.heap.size H.heap.size gl u.heap.size F.heap.size G.heap.size k=1)=fun k=>k=gl:=funext fun k=>propext (I k).1
 have q2:(fun k=>cN W1.heap.size H.heap.size gl u.heap.size F.heap.size G.heap.size k=2)=fun k=>k=u.heap.size:=funext fun k=>propext (I k).2.1
 have q3:(fun k=>cN W1.heap.size H.heap.size gl u.heap.size F.heap.size G.heap.size k=3)=fun k=>k=F.heap.size:=funext fun k=>propext (I k).2.2.1
 have q4:(fun k=>cN W1.heap.size H.heap.size gl u.heap.size F.heap.size G.heap.size k=4)=fun k=>W1.heap.size<=k/\k<H.heap.size:=funext fun k=>propext (I k).2.2.2.1
 have ag:Below G.heap.size G J:=b8;have ad:Below M.heap.size M J:=b6.trans (ag.mono s6);have ac:Below F.heap.size F J:=b5.trans (ad.mono s5);have ab:Below u.heap.size u J:=b4.trans (ac.mono s4);have aa:Below H.heap.size H J:=b3.trans (ab.mono s3);have af:Below W1.heap.size W1 J:=b2.trans (aa.mono s2);have ae:Below W.heap.size W J:=b1.trans (af.mono s1);refine⟨cN W1.heap.size H.heap.size gl u.heap.size F.heap.size G.heap.size,ae,hk,ht,fun k e=>(I k).2.2.2.2.2.1 (by omega),fun k e=>by have:=(I k).2.2.2.2.2.2 e;show W.heap.size<=k;omega,((I G.heap.size).2.2.2.2.1).2 rfl,⟨0,1,1,.slice none 0 0,.slice none 0 0,.slice none 0 0,ah,Lx.vu _ _ rfl,Lx.eY _ _ rfl,Lx.eY _ _ rfl⟩,?_,?_,?_,?_,?_,Lw.ef.zero⟩
 ·rw[q1];exact Lq.kp (L:=.live ByteArray.empty [] 0 0 0) h3 (Kp.of_below (S:=fun _=>False) ab) (fun _ _ e=>e)
 ·rw[q2];exact h4.below ac
 ·exact Bi
 ·rw[q3];exact h5.below ad
 ·rw[q4];have:=hC.sub _ (fun k=>W1.heap.size<=k/\k<H.heap.size) _ _ _ _ h2 (fun k a b=>⟨b,a⟩);exact hC.oth _ (fun _=>False) _ _ _ _ _ this (Kp.of_below aa) (fun _ _ _ e=>e)
theorem BU (hC:fh R) (W:World) (hk:Lx.fg W) (ht:Lw.ib W):Kb 8 #[.agg #[.int .i64 72,.bool false]] W fun e w'=>∃q c,q.w0=W/\e=.returned (.tuple #[.pointer (some ⟨q.d,0,none⟩),.nilIface])/\DI R q c w' (.live ByteArray.empty [] 0 0 0) emp D0:=by
 obtain⟨W1,J⟩:∃W1,W.alloc (.cells #[.int .i64 72,.bool false] 40)=W1:=⟨_,rfl⟩;have F:Below W.heap.size W W1:=by rw[<-J];exact(gt _ _).alloc (ge _) _
 have u:W1.heap[W.heap.size]?=some (.cells #[.int .i64 72,.bool false] 40 (0,0)):=by rw[<-J];exact am _ _
 have x0:W1.cell? ⟨W.heap.size,0,none⟩=some (.int .i64 72):=aa u rfl;have HX:=aK u;have HZ:=hC.new (fun k=>W1.heap.size<=k) 72 W1 (by decide) (by decide) (fun k h=>h) (ht.below F);have HB:=aK (And.intro hk (And.intro ht F));have ac:=aK hC;have ad:=aK HZ;have HL:=ku Lx.AS;have HP:=ku GR;have HS:=ku tu;have HT:=ku Lx.mQ;have ah:=ai u;clear hk ht F u HZ hC
 go_enter func8,ntmps8
 go_wp2_with(first
  | (go_at_call 20;refine ad.out.mono ?_;rintro e w2⟨gz,rfl,r2,G⟩;have H2:=aK (And.intro r2 G);have x2:=aK (af HX.out G);clear r2 G)
  | (go_at_call 22;refine(HL.out _).mono ?_;rintro e w3⟨gl,rfl,l1,l2,M,z3⟩;have I:=aK (And.intro l1 (And.intro l2 (And.intro M z3)));clear l1 l2 M z3)
  | (go_at_call 23;refine(HP.out _).mono ?_;rintro e w4⟨rfl,z4,O,k4⟩;have H4:=aK (And.intro z4 (And.intro O k4));clear z4 O k4)
  | (go_at_call 24;refine(HS.out _).mono ?_;rintro e w5⟨rfl,z5,ab⟩;have H5:=aK (And.intro z5 ab);clear z5 ab)
  | (go_at_call 25;refine(HT.out _).mono ?_;rintro e w6⟨rfl,H⟩;have H6:=aK H;have x6:=af (af (af (af x2.out I.out.2.2.1) H4.out.2.1) H5.out.2) H;have ae:w6.cell? ⟨W.heap.size,1,none⟩=some (.bool false):=aa x6 rfl;have ag:=ai x6;clear x6 H))
 go_ret2
 obtain⟨c,hc⟩:=DI.start ac.out HB.out.1 HB.out.2.1 HB.out.2.2 H2.out.1 H2.out.2 I.out.1 I.out.2.1 I.out.2.2.1 I.out.2.2.2 H4.out.1 H4.out.2.1 H4.out.2.2 H5.out.1 H5.out.2 H6.out ((gt _ _).alloc (ge _) _) (Eq _ _) (am w6 _);exact⟨⟨W,w6.heap.size,gl,w3.heap.size,w4.heap.size,gz⟩,c,rfl,rfl,hc⟩
end
section
variable {R:(Nat->Prop)->World->Nat->Nat->S9->Prop} {q:Gq} {c:Nat->Nat} {W W':World} {L:j0} {op:ByteArray} {X Y Z:DS}
abbrev l9:Obj:=.cells #[.int .i64 0,.int .i64 0,.int .i64 0,.int .i64 0] 35
def At (R:(Nat->Prop)->World->Nat->Nat->S9->Prop) (q:Gq) (c:Nat->Nat) (W:World) (L:j0) (op:ByteArray) (X:DS) (U:World):Prop:=∃c',DI R q c' U L op X/\Sp c W c' U
def yR (R:(Nat->Prop)->World->Nat->Nat->S9->Prop) (q:Gq) (c:Nat->Nat) (W:World) (L:j0) (op:ByteArray) (X:DS) (b:Nat) (o:Obj) (U:World):Prop:=∃c',DI R q c' U L op X/\Sp c W c' U/\U.heap[b]?=some o/\c' b=0
theorem At.box (H:fh R) {U:World}(h:At R q c W L op X U) (o:Obj):yR R q c W L op X U.heap.size o (U.alloc o):=by
 obtain⟨c',u,G⟩:=h;have F:Below U.heap.size U (U.alloc o):=(gt _ _).alloc (ge _) _;exact⟨c',u.below H F,G.trans (Sp.below F),am _ _,u.nf _ (ge _)⟩
theorem tI (hC:fh R) {S x:ByteArray}{T tks:List Lx.Tk}{k b f:Nat}(hs:(S++x).size<=1000000) (F:(Lx.scn (Lx.bp (S++x))).2.1=0) (M:∀new I G H,Lx.St (S++x) (T++new) I G H->new=tks)
  {U:World} (h:At R q c W (.live S T k b f) op X U):Kb 12 #[.pointer (some ⟨q.gl,0,none⟩),.string x] U fun e w'=>∃p2 J,e=.returned (.tuple #[.slice p2 (tks.map (Lx.tv (Lx.bp (S++x)))).length J,.int .i64 0,.agg #[.int .i64 0,.int .i64 0,.int .i64 0]]) /\
   ∃I G H c',DI R q c' w' (.live (S++x) (T++tks) I G H) op X/\Sp c W c' w'/\Lt w' p2 (tks.map (Lx.tv (Lx.bp (S++x))))/\∀a,p2=some a->c' a.block=0:=by
 obtain⟨c1,u,a2⟩:=h
 refine(Lx.tJ (show Lx.LZ (fun k=>c1 k=1) U q.gl S T k b f from u.lx) (fun j hj=>u.lt (by have h9:c1 j=1:=hj;omega)) (fun V hV=>u.kab.below (cy u.be hV (fun j e=>by
  rcases e with e|e
  ·exact u.lo j (by have h9:c1 j=1:=e;omega)
  ·exact Kh u.be.size e) u.be.size)) x (by omega)).mono ?_
 rintro e w'⟨v,E,A,L',C,rfl,new,own',hf,hz⟩
 rcases hz with⟨rfl,rfl,rfl,rfl,I,G,H,hL⟩|⟨hE,a,_,_,_,aa,_⟩
 ·have O:new=tks:=M new I G H hL.2.1;subst O;obtain⟨c',d1,d2,d3,d4⟩:=u.lex hC (L':=.live (S++x) (T++new) I G H) hf hL;obtain⟨ao,cap,rfl,hlt,_⟩:=Lt.row d3;exact⟨ao,cap,rfl,I,G,H,c',d1,a2.trans d2,hlt,fun a e=>d4 a.block (by rw[e];rfl)⟩
 ·exfalso
  rw[aa]at F;exact hE F
def JB (R:(Nat->Prop)->World->Nat->Nat->S9->Prop) (q:Gq) (c:Nat->Nat) (W:World) (S:ByteArray) (T:List Lx.Tk) (op:ByteArray) (X:DS) (U:World):Prop:=∃k b f,At R q c W (.live S T k b f) op X U
theorem nB (hC:fh R) {S x:ByteArray}{T tks:List Lx.Tk}{k b f:Nat}(h:DI R q c W (.live S T k b f) op X) (hs:(S++x).size<=1000000) (hF:X.F.size+x.size<=1000000) (ho:op.size+x.size<=1000000) (ad:(Lx.scn (Lx.bp (S++x))).2.1=0) (ac:∀new H F G,Lx.St (S++x) (T++new) H F G->new=tks) (ae:tks.length<=1000000)
  (hy:cQ (tks.map (Lx.tv (Lx.bp (S++x)))) (pB x X)=some Z) (af:Z.F.size<=1000000) (ag:Z.n<=Z.F.size) :
  Kb 5 #[.pointer (some ⟨q.d,0,none⟩),.string x] W fun e w'=>e=.returned (.tuple #[.string Z.td,.nilIface])/\JB R q c W (S++x) (T++tks) (Lx.bZ (op++x)) { dP Z with td:=emp } w':=by
 have al:Hid (Kb 9 #[.pointer (some ⟨q.d,0,none⟩)] W fun e w'=>e=.returned .nilIface/\Hid (At R q c W (.live S T k b f) op X w')):=by
  refine(uW h).mono ?_;rintro e w'⟨rfl,hb⟩;exact⟨rfl,c,h.below hC hb,Sp.below hb⟩
 have aj:Hid (∀U,Hid (At R q c W (.live S T k b f) op X U)->Kb 10 #[.pointer (some ⟨q.d,0,none⟩),.string x] U fun e w'=>e=.returned (.tuple #[])/\Hid (At R q c W (.live S T k b f) (Lx.bZ (op++x)) (pB x X) w')):=fun U I=>by
  obtain⟨c1,J,M⟩:=I.out;refine(E4 hC J x hF ho).mono ?_;rintro e w'⟨rfl,c2,d1,d2⟩;exact⟨rfl,c2,d1,M.trans d2⟩
 obtain⟨TV,ab⟩:∃TV,tks.map (Lx.tv (Lx.bp (S++x)))=TV:=⟨_,rfl⟩;have aq:TV.length<=1000000:=by rw[<-ab,Lj];exact ae
 rw[ab]at hy
 have ak:Hid (∀U,Hid (At R q c W (.live S T k b f) (Lx.bZ (op++x)) (pB x X) U)->Kb 12 #[.pointer (some ⟨q.gl,0,none⟩),.string x] U fun e w'=>∃O u,e=.returned (.tuple #[.slice O TV.length u,.int .i64 0,.agg #[.int .i64 0,.int .i64 0,.int .i64 0]]) /\
   Hid (∃H F G c',DI R q c' w' (.live (S++x) (T++tks) H F G) (Lx.bZ (op++x)) (pB x X)/\Sp c W c' w'/\Lt w' O TV/\∀a,O=some a->c' a.block=0)):=fun U I=>by
  have:=tI hC hs ad ac I.out;rw[ab]at this;exact this
 have an:Hid (∀U O u,Hid (∃H F G c',DI R q c' U (.live (S++x) (T++tks) H F G) (Lx.bZ (op++x)) (pB x X)/\Sp c W c' U/\Lt U O TV/\∀a,O=some a->c' a.block=0)->Kb 11 #[.pointer (some ⟨q.d,0,none⟩),.slice O TV.length u,.int .i64 0,.agg #[.int .i64 0,.int .i64 0,.int .i64 0]] U fun e w'=>e=.returned (.agg #[.int .i64 0,.int .i64 0,.int .i64 0,.int .i64 0])/\Hid (∃H F G,yR R q c W (.live (S++x) (T++tks) H F G) (Lx.bZ (op++x)) Z w'.heap.size l9 (w'.alloc l9))/\q.d<w'.heap.size):=fun U O u I=>by
  obtain⟨H,F,G,c',J,M,a3,a4⟩:=I.out;refine(uD hC J a3 a4 (by omega) 0 0 0 hy).mono ?_;rintro e w'⟨rfl,c2,d1,d2⟩;exact⟨rfl,⟨H,F,G,At.box hC ⟨c2,d1,M.trans d2⟩ _⟩,d1.dl⟩
 have am:Hid (∀U bb,Hid (∃H F G,yR R q c W (.live (S++x) (T++tks) H F G) (Lx.bZ (op++x)) Z bb l9 U)->Kb 13 #[.pointer (some ⟨q.d,13,none⟩)] U fun e w'=>e=.returned (.tuple #[])/\Hid (JB R q c W (S++x) (T++tks) (Lx.bZ (op++x)) (dP Z) w')/\w'.heap[bb]?=some l9):=fun U bb I=>by
  obtain⟨H,F,G,c',J,M,a3,a4⟩:=I.out;refine(Dh hC J af ag).mono ?_;rintro e w'⟨rfl,c2,d1,d2⟩;exact⟨rfl,⟨H,F,G,c2,d1,M.trans d2⟩,d2.kp.blk a3 (fun e=>e a4)⟩
 have ah:Hid (∀U,Hid (JB R q c W (S++x) (T++tks) (Lx.bZ (op++x)) (dP Z) U)->Kb 14 #[.pointer (some ⟨q.d,0,none⟩),.agg #[.int .i64 0,.int .i64 0,.int .i64 0,.int .i64 0]] U fun e w'=>e=.returned (.tuple #[.string Z.td,.nilIface])/\Hid (JB R q c W (S++x) (T++tks) (Lx.bZ (op++x)) { dP Z with td:=emp } w')):=fun U I=>by
  obtain⟨H,F,G,c',J,M⟩:=I.out;refine(rJ hC J 0 0 0).mono ?_;rintro e w'⟨rfl,d1,d2⟩;exact⟨by rw[show(dP Z).td=Z.td by unfold dP;split<;>rfl],H,F,G,c',d1,M.trans d2⟩
 have ai:Hid (∀U,Hid (At R q c W (.live S T k b f) (Lx.bZ (op++x)) (pB x X) U)->U.cell? ⟨q.d,6,none⟩=some (.pointer (some ⟨q.gl,0,none⟩))/\q.d<U.heap.size):=fun U I=>by
  obtain⟨c1,J,M⟩:=I.out;exact⟨J.cs.2.2.1,J.dl⟩
 have ap:Hid (∀U,Hid (At R q c W (.live S T k b f) op X U)->q.d<U.heap.size):=fun U I=>by
  obtain⟨c1,J,M⟩:=I.out;exact J.dl
 clear h hs hF ho ad ac ae hy af ag ab
 go_enter func5,ntmps5
 go_wp2_with(first
  | (go_at_call 9;refine al.out.mono ?_;rintro e w1⟨rfl,K1⟩)
  | (go_at_call 10;refine(aj.out _ K1).mono ?_;rintro e w2⟨rfl,K2⟩;obtain⟨m6,cz⟩:=ai.out _ K2)
  | (go_at_call 12;refine(ak.out _ K2).mono ?_;rintro e w3⟨O,u,rfl,K3⟩)
  | (go_at_call 11;refine(an.out _ _ _ K3).mono ?_;rintro e w4⟨rfl,K4,ar⟩)
  | (go_at_call 13;refine(am.out _ _ K4).mono ?_;rintro e w5⟨rfl,K5,x5⟩;have n0:w5.cell? ⟨w4.heap.size,0,none⟩=some (.int .i64 0):=aa x5 rfl;have n1:w5.cell? ⟨w4.heap.size,1,none⟩=some (.int .i64 0):=aa x5 rfl;have n2:w5.cell? ⟨w4.heap.size,2,none⟩=some (.int .i64 0):=aa x5 rfl;have n3:w5.cell? ⟨w4.heap.size,3,none⟩=some (.int .i64 0):=aa x5 rfl)
  | (go_at_call 14;refine(ah.out _ K5).mono ?_;rintro e w6⟨rfl,K6⟩))
 go_ret2
 exact⟨rfl,K6.out⟩
end
section
variable {R:(Nat->Prop)->World->Nat->Nat->S9->Prop} {q:Gq} {c:Nat->Nat} {W W':World} {L:j0} {op:ByteArray} {X Y Z V:DS}
theorem qW (hC:fh R) {S:ByteArray}{T tks:List Lx.Tk}{k b f a0:Nat}(hs:S.size<=1000000) (I:Lx.scn S=(T++tks,0,a0))
  {U:World} (h:At R q c W (.live S T k b f) op X U):Kb 15 #[.pointer (some ⟨q.gl,0,none⟩)] U fun e w'=>∃J G,e=.returned (.tuple #[.slice J (tks.map (Lx.tv S)).length G,.int .i64 0,.agg #[.int .i64 0,.int .i64 0,.int .i64 0]]) /\
   ∃c',DI R q c' w' .shut op X/\Sp c W c' w'/\Lt w' J (tks.map (Lx.tv S))/\∀a,J=some a->c' a.block=0:=by
 obtain⟨c1,u,a2⟩:=h
 refine(Lx.qX (show Lx.LZ (fun k=>c1 k=1) U q.gl S T k b f from u.lx) (fun j hj=>u.lt (by have h9:c1 j=1:=hj;omega)) (fun V hV=>u.kab.below (cy u.be hV (fun j e=>by
  rcases e with e|e
  ·exact u.lo j (by have h9:c1 j=1:=e;omega)
  ·exact Kh u.be.size e) u.be.size)) (by omega)).mono ?_
 rintro e w'⟨v,E,A,L',C,rfl,new,a,hf,hx,F,hz⟩;rw[I]at F;have M:=Kw Prod.fst F;have O:=Kw (fun y=>y.2.1) F;simp only at M O;have H:tks=new:=List.append_cancel_left M;subst H
 rcases hz with⟨rfl,rfl,rfl,rfl⟩|⟨hE,_⟩
 ·obtain⟨c',d1,d2,d3,d4⟩:=u.lex hC (L':=.shut) hf ⟨rfl,hx⟩;obtain⟨ao,cap,rfl,hlt,_⟩:=Lt.row d3;exact⟨ao,cap,rfl,c',d1,a2.trans d2,hlt,fun a e=>d4 a.block (by rw[e];rfl)⟩
 ·exact absurd O.symm hE
theorem yR.turn {L':j0}{op':ByteArray}{X':DS}{b:Nat}{o o':Obj}{U u:World}(M:fh R) (h:yR R q c W L op X b o U) (hw:W.heap.size<=b) (F:q.w0.heap.size<=b) (H:Kp (fun k=>k=b) U u) (O:u.heap[b]?=some o'):yR R q c W L op X b o' u:=by
 obtain⟨c',I,J,a3,G⟩:=h;exact⟨c',I.free M G F H,J.free hw H,O,G⟩
theorem BY (hC:fh R) {S:ByteArray}{T tks:List Lx.Tk}{k b f a0:Nat}(h:DI R q c W (.live S T k b f) op X) (hs:S.size<=1000000) (ho:op.size<=1000000) (ac:Lx.scn S=(T++tks,0,a0)) (ad:tks.length<=1000000)
  (hy:cQ (tks.map (Lx.tv S)) X=some Z) (hv:tm Z=some V) (ae:V.o=true) :
  Kb 6 #[.pointer (some ⟨q.d,0,none⟩)] W fun e w'=>e=.returned (.tuple #[.string V.td,.bool false,.nilIface])/\Below q.w0.heap.size q.w0 w':=by
 have am:Hid (Kb 9 #[.pointer (some ⟨q.d,0,none⟩)] W fun e w'=>e=.returned .nilIface/\Hid (At R q c W (.live S T k b f) op X w')/\w'.cell? ⟨q.d,6,none⟩=some (.pointer (some ⟨q.gl,0,none⟩))/\q.d<w'.heap.size):=by
  refine(uW h).mono ?_;rintro e w'⟨rfl,hb⟩;have h2:=h.below hC hb;exact⟨rfl,⟨c,h2,Sp.below hb⟩,h2.cs.2.2.1,h2.dl⟩
 obtain⟨TV,O⟩:∃TV,tks.map (Lx.tv S)=TV:=⟨_,rfl⟩;have bd:TV.length<=1000000:=by rw[<-O,Lj];exact ad
 rw[O]at hy
 have al:Hid (∀U,Hid (At R q c W (.live S T k b f) op X U)->Kb 15 #[.pointer (some ⟨q.gl,0,none⟩)] U fun e w'=>∃M G,e=.returned (.tuple #[.slice M TV.length G,.int .i64 0,.agg #[.int .i64 0,.int .i64 0,.int .i64 0]]) /\
   Hid (∃c',DI R q c' w' .shut op X/\Sp c W c' w'/\Lt w' M TV/\∀a,M=some a->c' a.block=0)):=fun U H=>by
  have:=qW hC hs ac H.out;rw[O]at this;exact this
 have ap:Hid (∀U M G,Hid (∃c',DI R q c' U .shut op X/\Sp c W c' U/\Lt U M TV/\∀a,M=some a->c' a.block=0)->Kb 11 #[.pointer (some ⟨q.d,0,none⟩),.slice M TV.length G,.int .i64 0,.agg #[.int .i64 0,.int .i64 0,.int .i64 0]] U fun e w'=>e=.returned (.agg #[.int .i64 0,.int .i64 0,.int .i64 0,.int .i64 0])/\Hid (yR R q c W .shut op Z w'.heap.size l9 (w'.alloc l9)/\W.heap.size<=w'.heap.size)/\q.d<w'.heap.size):=fun U M G H=>by
  obtain⟨c',a1,a2,a3,a4⟩:=H.out;refine(uD hC a1 a3 a4 (by omega) 0 0 0 hy).mono ?_;rintro e w'⟨rfl,c2,d1,d2⟩;exact⟨rfl,⟨At.box hC ⟨c2,d1,a2.trans d2⟩ _,(a2.trans d2).kp.size⟩,d1.dl⟩
 have ag:=h.be.size
 have ak:Hid (∀U F,Hid (yR R q c W .shut op Z F l9 U/\W.heap.size<=F)->Kb 16 #[.pointer (some ⟨q.d,0,none⟩)] U fun e w'=>∃x y z:Int,e=.returned (.agg #[.int .i64 0,.int .i64 x,.int .i64 y,.int .i64 z])/\w'.heap[F]?=some l9/\Hid (yR R q c W .shut op V F l9 w'/\W.heap.size<=F)/\q.d<w'.heap.size):=fun U F H=>by
  obtain⟨⟨c',a1,a2,a3,a4⟩,a5⟩:=H.out;refine(EE hC a1 ho hv).mono ?_;rintro e w'⟨x,y,z,rfl,c2,d1,d2⟩;have hx:=d2.kp.blk a3 (fun e=>e a4);exact⟨x,y,z,rfl,hx,⟨⟨c2,d1,a2.trans d2,hx,d2.z _ (ai a3) a4⟩,a5⟩,d1.dl⟩
 have an:Hid (∀U F o,Hid (yR R q c W .shut op V F o U)->Kb 17 #[.pointer (some ⟨q.d,13,none⟩)] U fun e w'=>e=.returned (.bool false)/\w'.heap[F]?=some o/\Hid (At R q c W .shut op V w')):=fun U F o H=>by
  obtain⟨c',a1,a2,a3,a4⟩:=H.out;refine(DE a1 ae).mono ?_;rintro e w'⟨rfl,hb⟩;exact⟨rfl,af a3 hb,c',a1.below hC hb,a2.trans (Sp.below hb)⟩
 have aq:=ku fun U U' F o' (H:Hid (yR R q c W .shut op V F l9 U/\W.heap.size<=F)) (hk:Kp (fun k=>k=F) U U') (au:U'.heap[F]?=some o')=>yR.turn (L':=.shut) (op':=op) (X':=V) hC H.out.1 H.out.2 (Kh ag H.out.2) hk au
 have ah:Hid (∀U A B C,Hid (At R q c W .shut op V U)->Kb 14 #[.pointer (some ⟨q.d,0,none⟩),.agg #[.int .i64 0,.int .i64 A,.int .i64 B,.int .i64 C]] U fun e w'=>e=.returned (.tuple #[.string V.td,.nilIface])/\∃b1 b2 b3 vo vf vt,w'.heap[q.d]?=some (vS q b1 b2 b3 vo V.o vf V.n vt)/\Hid (Below q.w0.heap.size q.w0 w'/\q.w0.heap.size<=q.d)):=fun U A B C H=>by
  obtain⟨c',a1,a2⟩:=H.out;refine(rJ hC a1 A B C).mono ?_;rintro e w'⟨rfl,d1,d2⟩;obtain⟨b1,b2,b3,vo,vf,vt,u,_⟩:=d1.bk;exact⟨rfl,b1,b2,b3,vo,vf,vt,u,d1.be,d1.lo _ (by rw[d1.cd];decide)⟩
 clear h hs ho ac ad hy hv ae O ag
 go_enter func6,ntmps6
 go_wp2_with(first
  | (go_at_call 9;refine am.out.mono ?_;rintro e w1⟨rfl,K1,m6,cz⟩)
  | (go_at_call 15;refine(al.out _ K1).mono ?_;rintro e w3⟨M,G,rfl,K3⟩)
  | (go_at_call 11;refine(ap.out _ _ _ K3).mono ?_;rintro e I⟨rfl,K4,be⟩)
  | (go_at_call 16;refine(ak.out _ _ K4).mono ?_;rintro e w5⟨x,y,z,rfl,J,K5,bf⟩;have ar:=aK J;have bg:=ai J;have n0:w5.cell? ⟨I.heap.size,0,none⟩=some (.int .i64 0):=aa J rfl;have n1:w5.cell? ⟨I.heap.size,1,none⟩=some (.int .i64 0):=aa J rfl;have n2:w5.cell? ⟨I.heap.size,2,none⟩=some (.int .i64 0):=aa J rfl;have n3:w5.cell? ⟨I.heap.size,3,none⟩=some (.int .i64 0):=aa J rfl;have f0:w5.frozen? ⟨I.heap.size,0,none⟩=false:=aj J;have f1:w5.frozen? ⟨I.heap.size,1,none⟩=false:=aj J;have f2:w5.frozen? ⟨I.heap.size,2,none⟩=false:=aj J;have f3:w5.frozen? ⟨I.heap.size,3,none⟩=false:=aj J;clear J))
 have KT:=aq.out _ _ _ (.cells #[.int .i64 0,.int .i64 x,.int .i64 y,.int .i64 z] 35 (0,0)) K5 ((((Kp.set _ _ _ _).trans (Kp.set _ _ _ _)).trans (Kp.set _ _ _ _)).trans (Kp.set _ _ _ _)) (ab (ab (ab (ab ar.out 0 (.int .i64 0)) 1 (.int .i64 x)) 2 (.int .i64 y)) 3 (.int .i64 z));clear n0 n1 n2 n3 f0 f1 f2 f3;refine(an.out _ _ _ KT).mono ?_;rintro e w6⟨rfl,x6,K6⟩;have n0:w6.cell? ⟨I.heap.size,0,none⟩=some (.int .i64 0):=aa x6 rfl;have n1:w6.cell? ⟨I.heap.size,1,none⟩=some (.int .i64 x):=aa x6 rfl;have n2:w6.cell? ⟨I.heap.size,2,none⟩=some (.int .i64 y):=aa x6 rfl;have n3:w6.cell? ⟨I.heap.size,3,none⟩=some (.int .i64 z):=aa x6 rfl;clear x6
 go_wp2_with(first
  | (go_at_call 14;refine(ah.out _ _ _ _ K6).mono ?_;rintro e w7⟨rfl,b1,b2,b3,vo,vf,vt,u,K7⟩;have bh:=ai u;have v0:=aa (k:=0) u rfl;have v1:=aa (k:=1) u rfl;have v2:=aa (k:=2) u rfl;have v3:=aa (k:=3) u rfl;have v4:=aa (k:=4) u rfl;have v5:=aa (k:=5) u rfl;have v6:=aa (k:=6) u rfl;have v7:=aa (k:=7) u rfl;have v8:=aa (k:=8) u rfl;have v9:=aa (k:=9) u rfl;have bi:=aa (k:=10) u rfl;have bj:=aa (k:=11) u rfl;have bk:=aa (k:=12) u rfl;have bm:=aa (k:=13) u rfl;have bn:=aa (k:=14) u rfl;have bo:=aa (k:=15) u rfl;have bp:=aa (k:=16) u rfl;have g0:=(aA u).2 0;have g1:=(aA u).2 1;have g2:=(aA u).2 2;have g3:=(aA u).2 3;have g4:=(aA u).2 4;have g5:=(aA u).2 5;have g6:=(aA u).2 6;have g7:=(aA u).2 7;have g8:=(aA u).2 8;have g9:=(aA u).2 9;have av:=(aA u).2 10;have aw:=(aA u).2 11;have ax:=(aA u).2 12;have ay:=(aA u).2 13;have az:=(aA u).2 14;have ba:=(aA u).2 15;have bc:=(aA u).2 16;clear u))
 refine Kv (v:=.tuple #[.string V.td,.bool false,.nilIface]) (by simp[results,Tryz.f6,go_sem]) rfl ?_;exact⟨rfl,cy (S:=fun k=>k=q.d) K7.out.1 ((((((((((((((((((Kp.refl _ _).trans (Kp.set _ _ _ _)).trans (Kp.set _ _ _ _)).trans (Kp.set _ _ _ _)).trans (Kp.set _ _ _ _)).trans (Kp.set _ _ _ _)).trans (Kp.set _ _ _ _)).trans (Kp.set _ _ _ _)).trans (Kp.set _ _ _ _)).trans (Kp.set _ _ _ _)).trans (Kp.set _ _ _ _)).trans (Kp.set _ _ _ _)).trans (Kp.set _ _ _ _)).trans (Kp.set _ _ _ _)).trans (Kp.set _ _ _ _)).trans (Kp.set _ _ _ _)).trans (Kp.set _ _ _ _)).trans (Kp.set _ _ _ _)) (fun k e=>by rw[e];exact K7.out.2) K7.out.1.size⟩
end
theorem IQ:mu++Ff=sj:=by kernel_rfl
theorem IP:ByteArray.empty++mu=mu:=by kernel_rfl
theorem JM:Lx.bp mu=mu:=by kernel_rfl
theorem JL:Lx.bp sj=sj:=by kernel_rfl
theorem ra5:Lx.bZ (emp++mu)=emp:=by kernel_rfl
theorem ra6:Lx.bZ (emp++Ff)=emp:=by kernel_rfl
theorem J8:Lx.scn mu=(zu++[⟨1,10,13,0⟩],0,0):=by kernel_rfl
theorem JK:Lx.scn sj=((zu++FG)++[⟨6,24,25,0⟩],0,0):=by kernel_rfl
theorem J7:ID=[⟨6,24,25,0⟩]:=by kernel_rfl
theorem rb1:zu.length=3:=by kernel_rfl
theorem rb2:FG.length=3:=by kernel_rfl
theorem uA {S:ByteArray}{T:List Lx.Tk}{k b f:Nat}{l:List Lx.Tk}{t:Lx.Tk}{a:Nat}(h:Lx.St S T k b f) (J:Lx.bp S=S) (G:Lx.scn S=(l++[t],0,a)) (I:¬Lx.gW S t):T=l:=by
 have F:=h.told;have H:=h.ms;rw[J]at F H
 rcases Lx.GU F H with⟨e,_⟩|⟨O,e,_,_,_,_,M,_⟩|⟨e,_⟩
 ·rw[G]at e;have u:=Kw Prod.fst e;simp only at u;exact absurd (F.sure t (by rw[<-u];simp)) I
 ·rw[G]at e;have u:=Kw Prod.fst e;simp only at u;exact(O1 u rfl).1.symm
 ·rw[G]at e;have u:=Kw (fun y=>y.2.1) e;simp only at u;cases u
theorem rb3:¬Lx.gW mu ⟨1,10,13,0⟩:=by
 unfold Lx.gW;have:mu.size=13:=rfl;rw[this];intro h
 rcases h with h|h|h|⟨h,_⟩|⟨_,h⟩
 all_goals(simp only at h;omega)
theorem rb4:¬Lx.gW sj ⟨6,24,25,0⟩:=by
 unfold Lx.gW;have:sj.size=25:=rfl;rw[this];intro h
 rcases h with h|h|h|⟨h,_⟩|⟨_,h⟩
 all_goals(simp only at h;omega)
theorem GB:∃x y z w:DS,cQ (zu.map (Lx.tv mu)) (pB mu D0)=some x/\cQ (FG.map (Lx.tv sj)) (pB Ff { dP x with td:=emp })=some y/\cQ (ID.map (Lx.tv sj)) { dP y with td:=emp }=some z/\tm z=some w/\w.o=true/\(x.F.size<=1000/\x.n<=x.F.size)/\(y.F.size<=1000000/\y.n<=y.F.size)/\x.td++y.td++w.td=JX:=by
 have h:=DF;unfold IM at h;cases H:cQ (zu.map (Lx.tv mu)) (pB mu D0)with
 |none=>rw[H]at h;cases h
 |some x=>
  rw[H]at h;simp only at h;cases u:cQ (FG.map (Lx.tv sj)) (pB Ff { dP x with td:=emp })with
  |none=>rw[u]at h;cases h
  |some y=>
   rw[u]at h;simp only at h;cases F:cQ (ID.map (Lx.tv sj)) { dP y with td:=emp }with
   |none=>rw[F]at h;cases h
   |some z=>
    rw[F]at h;simp only at h;cases G:tm z with
    |none=>rw[G]at h;cases h
    |some w=>
     rw[G]at h;simp only[Lo,KJ]at h;obtain⟨⟨⟨⟨⟨I,J⟩,M⟩,O⟩,a5⟩,a6⟩:=h;exact⟨x,y,z,w,rfl,u,F,G,I,⟨J,M⟩,⟨O,a5⟩,wj a6⟩
theorem Gn {x:DS}{m:Nat}(u:x.F.size<=m) (F:x.n<=x.F.size):(dP x).F.size<=m:=by
 unfold dP
 split
 ·show(x.F.extract x.n x.F.size).size<=m
  rw[Lx.ag _ _ _ (ge _)];omega
 ·exact u
section
variable {R:(Nat->Prop)->World->Nat->Nat->S9->Prop}
theorem ub (hC:fh R) (W:World) (hk:Lx.fg W) (ht:Lw.ib W):Kb 4 #[] W fun e w'=>e=.returned (.bool true)/\Kc W w':=by
 obtain⟨x,y,z,w,h1,h2,h3,h4,h5,⟨p1,p2⟩,⟨p3,p4⟩,G⟩:=GB;have ac:(pB mu D0).F.size<=1000:=by decide
 have ab:Hid (Kb 8 #[.agg #[.int .i64 72,.bool false]] W fun e w'=>∃q:Gq,e=.returned (.tuple #[.pointer (some ⟨q.d,0,none⟩),.nilIface])/\Hid (∃c,q.w0=W/\DI R q c w' (.live ByteArray.empty [] 0 0 0) emp D0)):=by
  refine(BU hC W hk ht).mono ?_;rintro e w'⟨q,c,u,rfl,hd⟩;exact⟨q,rfl,c,u,hd⟩
 have O:Hid (∀(q:Gq) U,Hid (∃c,q.w0=W/\DI R q c U (.live ByteArray.empty [] 0 0 0) emp D0)->Kb 5 #[.pointer (some ⟨q.d,0,none⟩),.string mu] U fun e w'=>e=.returned (.tuple #[.string x.td,.nilIface])/\Hid (∃c k b f,q.w0=W/\DI R q c w' (.live mu zu k b f) emp { dP x with td:=emp })):=fun q U I=>by
  obtain⟨c,u,hd⟩:=I.out
  have F:=nB hC hd (x:=mu) (tks:=zu) (Z:=x) (by rw[IP];decide) (by decide) (by decide) (by rw[IP,JM,J8]) (fun new k' b' f' J=>by
   rw[IP,LA]at J;exact uA J JM J8 rb3) (by rw[rb1];decide) (by rw[IP,JM];exact h1) (by omega) p2
  refine F.mono ?_;rintro e w'⟨rfl,k,b,f,c',H,d2⟩;rw[IP,LA,ra5]at H;exact⟨rfl,c',k,b,f,u,H⟩
 have aa:Hid (∀(q:Gq) U,Hid (∃c k b f,q.w0=W/\DI R q c U (.live mu zu k b f) emp { dP x with td:=emp })->Kb 5 #[.pointer (some ⟨q.d,0,none⟩),.string Ff] U fun e w'=>e=.returned (.tuple #[.string y.td,.nilIface])/\Hid (∃c k b f,q.w0=W/\DI R q c w' (.live sj (zu++FG) k b f) emp { dP y with td:=emp })):=fun q U I=>by
  obtain⟨c,k,b,f,u,hd⟩:=I.out
  have F:=nB hC hd (x:=Ff) (tks:=FG) (Z:=y) (by rw[IQ];decide) (by have:=Gn p1 p2;have e2:Ff.size=12:=rfl;show(dP x).F.size+Ff.size<=1000000;omega) (by decide) (by rw[IQ,JL,JK]) (fun new k' b' f' J=>by
   rw[IQ]at J;exact List.append_cancel_left (uA J JL JK rb4)) (by rw[rb2];decide) (by rw[IQ,JL];exact h2) p3 p4
  refine F.mono ?_;rintro e w'⟨rfl,k,b,f,c',H,d2⟩;rw[IQ,ra6]at H;exact⟨rfl,c',k,b,f,u,H⟩
 have M:Hid (∀(q:Gq) U,Hid (∃c k b f,q.w0=W/\DI R q c U (.live sj (zu++FG) k b f) emp { dP y with td:=emp })->Kb 6 #[.pointer (some ⟨q.d,0,none⟩)] U fun e w'=>e=.returned (.tuple #[.string w.td,.bool false,.nilIface])/\Hid (Kc W w')):=fun q U I=>by
  obtain⟨c,k,b,f,u,hd⟩:=I.out;refine(BY hC hd (tks:=ID) (a0:=0) (by decide) (by decide) (by rw[J7];exact JK) (by rw[J7];decide) h3 h4 h5).mono ?_;rintro e w'⟨rfl,hb⟩;rw[u]at hb;exact⟨rfl,hb⟩
 obtain⟨A,hA⟩:∃A,x.td=A:=⟨_,rfl⟩;obtain⟨B,hB⟩:∃B,y.td=B:=⟨_,rfl⟩;obtain⟨C,hCc⟩:∃C,w.td=C:=⟨_,rfl⟩;rw[hA]at O G;rw[hB]at aa G;rw[hCc]at M G;have q9:=G;have hz:=Kw ByteArray.size G;rw[Lx.ax,Lx.ax,show JX.size=29 from rfl]at hz;have g1:¬(9223372036854775807<A.size+B.size):=by omega
 have g2:¬(9223372036854775807<A.size+B.size+C.size):=by omega
 clear h1 h2 h3 h4 h5 p1 p2 p3 p4 ac hk ht hA hB hCc G hz
 go_enter func4,ntmps4
 go_wp2_with(first
  | (go_at_call 8;refine ab.out.mono ?_;rintro e w1⟨q,rfl,K1⟩)
  | (go_at_call 5;refine(O.out _ _ K1).mono ?_;rintro e w2⟨rfl,K2⟩;clear K1)
  | (go_at_call 5;refine(aa.out _ _ K2).mono ?_;rintro e w3⟨rfl,K3⟩;clear K2)
  | (go_at_call 6;refine(M.out _ _ K3).mono ?_;rintro e w4⟨rfl,K4⟩))
 go_ret
 exact⟨rfl,K4.out⟩
end
