import Derived.Deep.RegionHeldLaw
import Derived.Test.YtcmbkeghnmgbfaaGreatDoorM19
set_option linter.all false
namespace Go.Proofs.YtcmbkeghnmgbfaaGreatDoor.Lw
open Lx
open Go.RowKit
section
variable {hd:nK} {B:Nat} {w0:World} {own:Nat->Nat} {W:World} {g gs n:Nat} {p:Pr}
theorem cM.turn (h:cM hd B w0 own W g gs n p) {own':Nat->Nat}{W':World}{F:Pr}(u:Fr 2 own own' W W') (O:Nf own' W') (J:F.sk=p.sk)
  (I:∃v,W'.heap[g]?=some (.cells (Ay hd n gs F.bl v F.en) 122 (0,0))/\(W'.ownsRow 0 116 3 v F.ar.length (au mw F.ar.reverse)/\∀k,v.ownBlock=some k->own' k=2)) :
  cM hd B w0 own' W' g gs n F/\Sd own own' W W'/\W.heap.size<=W'.heap.size:=by
 have H:=h.bl;refine⟨⟨h.en.fr (by omega) O u,fun k G=>(u.old k (by omega)).trans (h.lo k G),h.bel.trans (u.below H h.lo (by omega)),h.hB,?_,I,(u.old g h.lt).trans h.lab⟩,fun k G M=>⟨u.block k G (by rw[M];omega),(u.old k G).trans M⟩,u.size⟩;rw[J];exact h.sk.kept u (by omega)
theorem cM.push (h:cM hd B w0 own W g gs n p) {v u:Value}{w2:World}(h1:W.heap[g]?=some (.cells (Ay hd n gs p.bl v p.en) 122 (0,0))) (h2:W.ownsRow 0 116 3 v p.ar.length (au mw p.ar.reverse)) (h3:∀k,v.ownBlock=some k->own k=2)
  (H:w2.ownsRow 0 116 3 u (p.ar.length+1) (au mw p.ar.reverse++mw p.bl)) (hg:W.grownBy w2 v.ownBlock) (aa:u.ownBlock=v.ownBlock\/u.ownBlock=some W.heap.size) :
  (∃own',cM hd B w0 own' (w2.setCell ⟨g,12,none⟩ u) g gs n { p with ar:=p.bl :: p.ar }/\Sd own own' W (w2.setCell ⟨g,12,none⟩ u)/\W.heap.size<=(w2.setCell ⟨g,12,none⟩ u).heap.size)/\w2.heap[g]?=some (.cells (Ay hd n gs p.bl v p.en) 122 (0,0)):=by
 have I:=Kp.of_grown hg;have r1:=aE h2 h1 (by decide);have M:w2.heap[g]?=some (.cells (Ay hd n gs p.bl v p.en) 122 (0,0)):=I.blk h1 (fun e=>r1 e.symm);have r2:=aE H M (by decide);have O:=Kp.set w2 g 12 u;have ac:=fun k I=>(H.lt k I).2
 have ad:=h.lt;have F:Kp (fun k=>own k=2) W (w2.setCell ⟨g,12,none⟩ u):=((Kp.refl (fun k=>own k=2) W).step I (fun j _ e=>h3 j e.symm)).step O (fun j _ e=>by subst e;exact h.lab);refine⟨⟨fun k=>if k<W.heap.size then own k else if u.ownBlock=some k then 2 else 0,h.turn (F.fr (fun k _ e=>e) (fun k I=>Kd I)) ?_ rfl ⟨u,?_,?_,?_⟩⟩,M⟩
 ·intro k G;show(if k<W.heap.size then own k else if u.ownBlock=some k then 2 else 0)=0;have:=F.size;rw[IO (by omega),IO];intro e;have h4:=ac k e;have h5:=O.size;omega
 ·exact ab M 12 _
 ·refine O.row ?_ (fun k e1 J=>r2 (by rw[e1,J]))
  have:au mw (p.bl :: p.ar).reverse=au mw p.ar.reverse++mw p.bl:=by
   rw[Ll,aW];simp[au]
  show w2.ownsRow 0 116 3 u (p.ar.length+1) (au mw (p.bl :: p.ar).reverse)
  rw[this];exact H
 ·intro k e;show(if k<W.heap.size then own k else if u.ownBlock=some k then 2 else 0)=2
  by_cases G:k<W.heap.size
  ·rw[Kd G]
   rcases aa with J|J
   ·exact h3 k (by rw[<-J];exact e)
   ·rw[J]at e;injection e with e;omega
  ·rw[IO G,Kd e]
theorem cM.setb (h:cM hd B w0 own W g gs n p) (b:Bk):cM hd B w0 own (((W.setCell ⟨g,9,none⟩ (.int .i64 b.ind)).setCell ⟨g,10,none⟩ (.bool b.ev)).setCell ⟨g,11,none⟩ (.bool b.ft)) g gs n { p with bl:=b }/\Sd own own W (((W.setCell ⟨g,9,none⟩ (.int .i64 b.ind)).setCell ⟨g,10,none⟩ (.bool b.ev)).setCell ⟨g,11,none⟩ (.bool b.ft))/\W.heap.size<=(((W.setCell ⟨g,9,none⟩ (.int .i64 b.ind)).setCell ⟨g,10,none⟩ (.bool b.ev)).setCell ⟨g,11,none⟩ (.bool b.ft)).heap.size:=by
 obtain⟨v,u,F,J⟩:=h.pr;have M:=aE F u (by decide);have G:=((Kp.set W g 9 (.int .i64 b.ind)).trans (Kp.set _ g 10 (.bool b.ev))).trans (Kp.set _ g 11 (.bool b.ft));refine h.turn ((((Fr.refl 2 own W).set' h.lab 9 _).set' h.lab 10 _).set' h.lab 11 _) (h.en.nf.below G.size) rfl ⟨v,ab (ab (ab u 9 _) 10 _) 11 _,G.row F (fun k H I=>M (by rw[H,I])),J⟩
end
theorem Dw {W:World}{M:Array Oper}{o:Oper}{a:Act}{K:Act->World->Prop}{Q:Exit->Act->World->Prop}{E:Prop}(G:o.guard=none) (s x:Operand)
  (ho:o.op=.call { callee:=.builtin .append,args:=#[s,x],argTypes:=#[117,117] }) (v:Value) (l:List Bk) (b:Bk) (hs:a.eval s=v) (hr:W.ownsRow 0 116 3 v l.length (au mw l.reverse))
  (g c:Nat) (hx:a.eval x=.slice (some ⟨g,0,none⟩) 1 c) (hg:W.heap[g]?=some (.cells #[.int .i64 b.ind,.bool b.ev,.bool b.ft] 116 (0,0))) (hl:l.length<=1000000000)
  (h:∀q cap w',w'.ownsRow 0 116 3 (.slice (some ⟨q,0,none⟩) (l.length+1) cap) (l.length+1) (au mw l.reverse++mw b)->W.grownBy w' v.ownBlock->(v.ownBlock=some q\/q=W.heap.size)->K (a.put o.dst (.slice (some ⟨q,0,none⟩) (l.length+1) cap)) w') :
  if Region.wanted o (yielded M a.tmps)=true then Oper.wp Tryz.prog o a W K Q else E:=by
 obtain⟨i0,hi,H,I,J⟩:=LJ Tryz.info116;refine NU W G s x 117 ho 0 116 i0 (.agg #[.int .i64 0,.bool false,.bool false]) 3 16 Tryz.underlying117 hi H I J rfl (by decide) v _ _ hs hr ⟨g,0,none⟩ 1 c (mw b) hx rfl ?_ ?_ (by omega) (by unfold maxLen;omega) (by omega) (Kj _) _ rfl ?_
 ·intro j u F;exact LW hg j u (by simpa[mw]using F)
 ·intro u F;simp[mw]at F;rcases F with rfl|rfl|rfl<;>rfl
 ·intro q cap w' O a2 a3 _;exact h q cap w' O a2 a3
theorem GV (a m:Nat) (h:a<=1000) (u:m<=1000):min (IntKind.i64.wrap ((a:Int)+m)) 1000=((min (a+m) 1000:Nat):Int):=by
 rw[Ki];omega
set_option maxHeartbeats 400000000 in
set_option maxRecDepth 100000 in
theorem Bg {hd:nK}{B:Nat}{w0:World}{own:Nat->Nat}{W:World}{g gs n:Nat}{p:Pr}(h:cM hd B w0 own W g gs n p) {U:Nat}(I:Bp p U) (hU:U<=2147483647) (need:Nat) (av:need<=1000000000000000) (hn:n<=4096) (hl:p.ar.length<=1000000000) (m:Nat) (hm:m<=1000) (e:Bool) :
  Kb 155 #[.pointer (some ⟨g,7,none⟩),.agg #[.int .u8 6,.string ⟨#[]⟩,.int .i64 0,.int .i64 m,.bool e],.int .i64 need] W fun x w'=>x=.returned (.tuple #[])/\fT hd B w0 own W g gs n { p with ar:=p.bl :: p.ar,bl:=⟨min (p.bl.ind+m) 1000,e,p.fits n need⟩ } w':=by
 obtain⟨W1,O⟩:∃W1,W.alloc (.cells #[.int .u8 6,.string ⟨#[]⟩,.int .i64 0,.int .i64 m,.bool e] 151)=W1:=⟨_,rfl⟩;obtain⟨b1,b2,b3,b4,b5⟩:=h.box (.cells #[.int .u8 6,.string ⟨#[]⟩,.int .i64 0,.int .i64 m,.bool e] 151);rw[O]at b1 b2 b4 b5;obtain⟨v,h1,h2,h3⟩:=b1.pr;have ag:=h.lt;have bd:=b1.lt;have c2:=b1.c2;have c3:=b1.c3;have c4:=b1.c4;have f5:=b1.fz 12;have c5:W1.cell? ⟨g,12,none⟩=some v:=aa h1 rfl;have x3:W1.cell? ⟨W.heap.size,3,none⟩=some (.int .i64 m):=aa b2 rfl;have x4:W1.cell? ⟨W.heap.size,4,none⟩=some (.bool e):=aa b2 rfl;obtain⟨pp,cap,rfl,_,_⟩:=az h2;have ab:=ku O;have HR:=ku fun V (F:Below W1.heap.size W1 V)=>bi h2 F
 have HA:Hid (∀V q G w2,Below W1.heap.size W1 V->w2.ownsRow 0 116 3 (.slice (some ⟨q,0,none⟩) (p.ar.length+1) G) (p.ar.length+1) (au mw p.ar.reverse++mw p.bl)->V.grownBy w2 (Value.slice pp p.ar.length cap).ownBlock->((Value.slice pp p.ar.length cap).ownBlock=some q\/q=V.heap.size) ->
   Hid (fT hd B w0 own W g gs n { p with ar:=p.bl :: p.ar } (w2.setCell ⟨g,12,none⟩ (.slice (some ⟨q,0,none⟩) (p.ar.length+1) G))/\(w2.setCell ⟨g,12,none⟩ (.slice (some ⟨q,0,none⟩) (p.ar.length+1) G)).heap[W.heap.size]?=some (.cells #[.int .u8 6,.string ⟨#[]⟩,.int .i64 0,.int .i64 m,.bool e] 151 (0,0)))/\(w2.cell? ⟨g,9,none⟩=some (.int .i64 p.bl.ind)/\w2.cell? ⟨g,10,none⟩=some (.bool p.bl.ev)/\w2.cell? ⟨g,11,none⟩=some (.bool p.bl.ft)/\w2.cell? ⟨g,12,none⟩=some (.slice pp p.ar.length cap))/\w2.frozen? ⟨g,12,none⟩=false):=by
  intro V q G w2 F a1 a2 a3;have u:=b1.below F;obtain⟨⟨own',J,d2,d3⟩,d4⟩:=u.push (af h1 F) (bi h2 F) h3 a1 a2 (by rcases a3 with a|a;exact .inl a.symm;exact .inr (by rw[a];rfl));have hs:Sd own own W1 V:=fun k hk h0=>⟨F.block k hk,h0⟩
  have ax:=(b4.trans b5 hs).trans (Kh b5 F.size) d2;have ay:=hs.trans F.size d2;refine⟨⟨⟨own',J,ax,Kh (Kh b5 F.size) d3⟩,(ay _ (ai b2) b3).1.trans b2⟩,⟨aa d4 rfl,aa d4 rfl,aa d4 rfl,aa d4 rfl⟩,aj d4⟩
 clear O
 go_enter Tryz.func155,Tryz.ntmps155
 go_wp2_with fail
 rw[ab.out]
 go_cut []from 42 (fun wx=>Hid (fT hd B w0 own W g gs n { p with ar:=p.bl :: p.ar } wx/\wx.heap[W.heap.size]?=some (.cells #[.int .u8 6,.string ⟨#[]⟩,.int .i64 0,.int .i64 m,.bool e] 151 (0,0))))
 case first=>
  go_region_law (refine Dw (by rfl) _ _ (by rfl) _ p.ar p.bl (by rfl) (HR.out _ (by first|exact((gt _ _).alloc (ge _) _).drew|exact((gt _ _).drew).alloc (ge _) _)) W1.heap.size 1 (by rfl) (by first|exact am _ _|exact am W1.drew _) hl ?_;intro q G w2 aw ap an;obtain⟨ak,al,z5⟩:=HA.out _ _ _ _ (by first|exact((gt _ _).alloc (ge _) _).drew|exact((gt _ _).drew).alloc (ge _) _) aw ap an;obtain⟨y2,y3,y4,y5⟩:=al)
  all_goals(
   go_wp2_with fail
   go_meet
   exact ak)
 case rest=>
  obtain⟨⟨H,J,d2,d3⟩,dx⟩:=hcut.out;clear hcut;have y2:=J.c2;have be:wc.cell? ⟨W.heap.size,3,none⟩=some (.int .i64 m):=aa dx rfl;have bf:wc.cell? ⟨W.heap.size,4,none⟩=some (.bool e):=aa dx rfl;have HF:=ku fun V (F:Below wc.heap.size wc V)=>jx (p:={ p with ar:=p.bl :: p.ar }) (J.below F) ⟨I.out,I.col,I.ind,fun b hb=>by rcases KL.1 hb with rfl|hb;exact I.ind;exact I.ar b hb,I.wt⟩ hU need av hn
  have HE:Hid (∀V,Below wc.heap.size wc V->fT hd B w0 own W g gs n { p with ar:=p.bl :: p.ar,bl:=⟨min (p.bl.ind+m) 1000,e,p.fits n need⟩ } (((V.setCell ⟨g,9,none⟩ (.int .i64 (min (p.bl.ind+m) 1000:Nat))).setCell ⟨g,10,none⟩ (.bool e)).setCell ⟨g,11,none⟩ (.bool (p.fits n need)))/\V.cell? ⟨g,9,none⟩=some (.int .i64 p.bl.ind)/\V.cell? ⟨g,10,none⟩=some (.bool p.bl.ev)/\V.cell? ⟨g,11,none⟩=some (.bool p.bl.ft)/\V.frozen? ⟨g,9,none⟩=false/\V.frozen? ⟨g,10,none⟩=false/\V.frozen? ⟨g,11,none⟩=false/\V.cell? ⟨W.heap.size,4,none⟩=some (.bool e)/\V.cell? ⟨W.heap.size,3,none⟩=some (.int .i64 m)):=by
   intro V F;have u:=J.below F;obtain⟨k1,k2,k3⟩:=u.setb ⟨min (p.bl.ind+m) 1000,e,p.fits n need⟩;have hs:Sd H H wc V:=fun k hk h0=>⟨F.block k hk,h0⟩
   exact⟨⟨H,k1,(d2.trans d3 hs).trans (Kh d3 F.size) k2,Kh (Kh d3 F.size) k3⟩,u.c2,u.c3,u.c4,u.fz 9,u.fz 10,u.fz 11,aa (af dx F) rfl,aa (af dx F) rfl⟩
  have ae:=I.ind;have ad:min ((p.bl.ind:Int)+m) 1000=((min (p.bl.ind+m) 1000:Nat):Int):=by omega
  have bc:g<wc.heap.size:=J.lt;clear J d2 d3 dx h I b1 b2 b3 b4 b5 h1 h2 h3 c2 c3 c4 c5 f5 x3 x4 HA HR ab;obtain⟨M,hM⟩:∃M,min (p.bl.ind+m) 1000=M:=⟨_,rfl⟩;rw[hM]at HE ad;have HM:=ku hM;have ah:Hid (min (IntKind.i64.wrap ((p.bl.ind:Int)+m)) 1000=(M:Int)):=by show _=_;rw[GV p.bl.ind m ae hm,HM.out]
  clear hM;have ba:=(HE.out _ (gt _ wc).drew).2;obtain⟨v2,v3,v4,u2,u3,u4,v5,v6⟩:=ba
  go_wp2_with fail
  have aq:g≠W.heap.size:=by have:=ag;omega
  have bb:W.heap.size≠g:=MN aq
  go_region_with (first|(go_at_call 198;refine(HF.out _ (by first|exact(gt _ _).drew|exact gt _ _)).mono ?_;rintro e w4⟨rfl,ac⟩;obtain⟨HP4,r2,r3,r4,q2,q3,q4,r5,r6⟩:=HE.out _ (by first|exact(gt _ wc).drew.trans (ac.mono (ge _))|exact ac)))
  all_goals(
   go_wp2_with fail
   go_end0
   rw[HM.out]
   first
   |exact⟨rfl,HP4⟩
   | (rw[ah.out];exact⟨rfl,HP4⟩))
