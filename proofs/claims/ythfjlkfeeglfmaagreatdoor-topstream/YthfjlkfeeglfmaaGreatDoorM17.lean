import Derived.Deep.RegionHeldLaw
import Derived.Deep.CutRange
import Derived.Test.YthfjlkfeeglfmaaGreatDoorM14
set_option linter.all false
namespace Go.Proofs.YthfjlkfeeglfmaaGreatDoor.Lw
open Lx
open Go.RowKit
section
variable {hd:rG} {B:Nat} {w0:World} {own:Nat->Nat} {W:World} {g gs n:Nat} {p:Pr}
def dL.turn (h:dL hd B w0 own W g gs n p) {own':Nat->Nat}{W':World}{p':Pr}(u:Fr 2 own own' W W') (O:Nf own' W') (J:p'.sk=p.sk)
  (I:∃v,W'.heap[g]?=some (.cells (FK hd n gs p'.bl v p'.en) 70 (0,0))/\(W'.ownsRow 0 64 3 v p'.ar.length (ap qr p'.ar.reverse)/\∀k,v.ownBlock=some k->own' k=2)) :
  dL hd B w0 own' W' g gs n p'/\Sd own own' W W'/\W.heap.size<=W'.heap.size:=by
 have H:=h.bl;refine⟨⟨h.en.fr (by omega) O u,λk G=>(u.old k (by omega)).trans (h.lo k G),h.bel.trans (u.below H h.lo (by omega)),h.hB,?_,I,(u.old g h.lt).trans h.lab⟩,λk G M=>⟨u.block k G (by rw[M];omega),(u.old k G).trans M⟩,u.size⟩;rw[J];exact h.sk.kept u (by omega)
def dL.push (h:dL hd B w0 own W g gs n p) {v u:Value}{w2:World}(Y:W.heap[g]?=some (.cells (FK hd n gs p.bl v p.en) 70 (0,0))) (h2:W.ownsRow 0 64 3 v p.ar.length (ap qr p.ar.reverse)) (Z:∀k,v.ownBlock=some k->own k=2)
  (I:w2.ownsRow 0 64 3 u (p.ar.length+1) (ap qr p.ar.reverse++qr p.bl)) (hg:W.grownBy w2 v.ownBlock) (Q:u.ownBlock=v.ownBlock\/u.ownBlock=some W.heap.size) :
  (∃own',dL hd B w0 own' (w2.setCell ⟨g,12,none⟩ u) g gs n { p with ar:=p.bl :: p.ar }/\Sd own own' W (w2.setCell ⟨g,12,none⟩ u)/\W.heap.size<=(w2.setCell ⟨g,12,none⟩ u).heap.size)/\w2.heap[g]?=some (.cells (FK hd n gs p.bl v p.en) 70 (0,0)):=by
 have J:=Kp.of_grown hg;have r1:=aF h2 Y (by decide);have O:w2.heap[g]?=some (.cells (FK hd n gs p.bl v p.en) 70 (0,0)):=J.blk Y (λe=>r1 e.symm);have r2:=aF I O (by decide);have ks:=Kp.set w2 g 12 u;have S:=λk J=>(I.lt k J).2
 have aa:=h.lt;have G:Kp (λk=>own k=2) W (w2.setCell ⟨g,12,none⟩ u):=((Kp.refl (λk=>own k=2) W).step J (λj _ e=>Z j e.symm)).step ks (λj _ e=>by subst e;exact h.lab);refine⟨⟨λk=>if k<W.heap.size then own k else if u.ownBlock=some k then 2 else 0,h.turn (G.fr (λk _ e=>e) (λk J=>Or J)) ?_ rfl ⟨u,?_,?_,?_⟩⟩,O⟩
 ·intro k H;show(if k<W.heap.size then own k else if u.ownBlock=some k then 2 else 0)=0;have:=G.size;rw[Eq (by omega),Eq];intro e;have h4:=S k e;have h5:=ks.size;omega
 ·exact ag O 12 _
 ·refine ks.row ?_ (λk e1 M=>r2 (by rw[e1,M]))
  have:ap qr (p.bl :: p.ar).reverse=ap qr p.ar.reverse++qr p.bl:=by
   rw[Ts,aT];simp[ap]
  show w2.ownsRow 0 64 3 u (p.ar.length+1) (ap qr (p.bl :: p.ar).reverse);rw[this];exact I
 ·intro k e;show(if k<W.heap.size then own k else if u.ownBlock=some k then 2 else 0)=2
  by_cases H:k<W.heap.size
  ·rw[Or H]
   rcases Q with M|M
   ·exact Z k (by rw[<-M];exact e)
   ·rw[M]at e;injection e with e;omega
  ·rw[Eq H,Or e]
def dL.setb (h:dL hd B w0 own W g gs n p) (b:Bk):dL hd B w0 own (((W.setCell ⟨g,9,none⟩ (Tu b.ind)).setCell ⟨g,10,none⟩ (.bool b.ev)).setCell ⟨g,11,none⟩ (.bool b.ft)) g gs n { p with bl:=b }/\Sd own own W (((W.setCell ⟨g,9,none⟩ (Tu b.ind)).setCell ⟨g,10,none⟩ (.bool b.ev)).setCell ⟨g,11,none⟩ (.bool b.ft))/\W.heap.size<=(((W.setCell ⟨g,9,none⟩ (Tu b.ind)).setCell ⟨g,10,none⟩ (.bool b.ev)).setCell ⟨g,11,none⟩ (.bool b.ft)).heap.size:=by
 obtain⟨v,u,G,M⟩:=h.pr;have O:=aF G u (by decide);have H:=((Kp.set W g 9 (Tu b.ind)).trans (Kp.set _ g 10 (.bool b.ev))).trans (Kp.set _ g 11 (.bool b.ft));refine h.turn ((((Fr.refl 2 own W).set' h.lab 9 _).set' h.lab 10 _).set' h.lab 11 _) (h.en.nf.below H.size) rfl ⟨v,ag (ag (ag u 9 _) 10 _) 11 _,H.row G (λk I J=>O (by rw[I,J])),M⟩
end
def JF {W:World}{O:Array Oper}{o:Oper}{a:Act}{K:Act->World->Prop}{Q:Exit->Act->World->Prop}{E:Prop}(H:o.guard=none) (s x:Operand)
  (ho:o.op=.call { callee:=.builtin .append,args:=#[s,x],argTypes:=#[65,65] }) (v:Value) (l:List Bk) (b:Bk) (hs:a.eval s=v) (hr:W.ownsRow 0 64 3 v l.length (ap qr l.reverse))
  (g c:Nat) (hx:a.eval x=.slice (some (Tw g 0)) 1 c) (hg:W.heap[g]?=some (.cells #[Tu b.ind,.bool b.ev,.bool b.ft] 64 (0,0))) (hl:l.length<=1000000000)
  (h:∀q cap w',w'.ownsRow 0 64 3 (.slice (some (Tw q 0)) (l.length+1) cap) (l.length+1) (ap qr l.reverse++qr b)->W.grownBy w' v.ownBlock->(v.ownBlock=some q\/q=W.heap.size)->K (a.put o.dst (.slice (some (Tw q 0)) (l.length+1) cap)) w') :
  if Region.wanted o (yielded O a.tmps)=true then Oper.wp Tryz.prog o a W K Q else E:=by
 obtain⟨i0,hi,I,J,M⟩:=Tf Tryz.info64;refine Uw W H s x 65 ho 0 64 i0 (.agg #[Tu 0,.bool false,.bool false]) 3 16 Tryz.underlying65 hi I J M rfl (by decide) v _ _ hs hr (Tw g 0) 1 c (qr b) hx rfl ?_ ?_ (by omega) (by unfold maxLen;omega) (by omega) (RU _) _ rfl ?_
 ·intro j u G;exact Ta hg j u (by simpa[qr]using G)
 ·intro u G;simp[qr]at G;rcases G with rfl|rfl|rfl<;>rfl
 ·intro q cap w' S Y Z _;exact h q cap w' S Y Z
def NJ (a m:Nat) (h:a<=1000) (u:m<=1000):min (IntKind.i64.wrap ((a:Int)+m)) 1000=((min (a+m) 1000:Nat):Int):=by
 rw[Sn];omega
set_option maxHeartbeats 400000000 in
set_option maxRecDepth 100000 in
def GC {hd:rG}{B:Nat}{w0:World}{own:Nat->Nat}{W:World}{g gs n:Nat}{p:Pr}(h:dL hd B w0 own W g gs n p) {U:Nat}(J:Bp p U) (hU:U<=2147483647) (need:Nat) (au:need<=1000000000000000) (hn:n<=4096) (hl:p.ar.length<=1000000000) (m:Nat) (hm:m<=1000) (e:Bool) :
  Sa 60 #[.pointer (some (Tw g 7)),.agg #[.int .u8 6,.string ⟨#[]⟩,Tu 0,Tu m,.bool e],Tu need] W λx w'=>Uk x (.tuple #[])/\gY hd B w0 own W g gs n { p with ar:=p.bl :: p.ar,bl:=⟨min (p.bl.ind+m) 1000,e,p.fits n need⟩ } w':=by
 obtain⟨W1,O⟩:=ea (W.alloc (.cells #[.int .u8 6,.string ⟨#[]⟩,Tu 0,Tu m,.bool e] 37));obtain⟨b1,b2,b3,b4,b5⟩:=h.box (.cells #[.int .u8 6,.string ⟨#[]⟩,Tu 0,Tu m,.bool e] 37);rw[O]at b1 b2 b4 b5;obtain⟨v,h1,h2,h3⟩:=b1.pr;have ae:=h.lt;have bb:=b1.lt;have c2:=b1.c2;have c3:=b1.c3;have c4:=b1.c4;have f5:=b1.fz 12;have c5:W1.cell? (Tw g 12)=some v:=aa h1 rfl;have x3:W1.cell? ⟨W.heap.size,3,none⟩=some (Tu m):=aa b2 rfl;have x4:W1.cell? ⟨W.heap.size,4,none⟩=some (.bool e):=aa b2 rfl;obtain⟨pp,cap,rfl,_,_⟩:=aG h2;have Z:=aW O;have HR:=aW λV (G:Below W1.heap.size W1 V)=>aU h2 G
 have HA:Hid (∀V q H w2,Below W1.heap.size W1 V->w2.ownsRow 0 64 3 (.slice (some (Tw q 0)) (p.ar.length+1) H) (p.ar.length+1) (ap qr p.ar.reverse++qr p.bl)->V.grownBy w2 (Value.slice pp p.ar.length cap).ownBlock->((Value.slice pp p.ar.length cap).ownBlock=some q\/q=V.heap.size) ->
   Hid (gY hd B w0 own W g gs n { p with ar:=p.bl :: p.ar } (w2.setCell ⟨g,12,none⟩ (.slice (some (Tw q 0)) (p.ar.length+1) H))/\(w2.setCell ⟨g,12,none⟩ (.slice (some (Tw q 0)) (p.ar.length+1) H)).heap[W.heap.size]?=some (.cells #[.int .u8 6,.string ⟨#[]⟩,Tu 0,Tu m,.bool e] 37 (0,0)))/\(w2.cell? (Tw g 9)=some (Tu p.bl.ind)/\w2.cell? (Tw g 10)=some (.bool p.bl.ev)/\w2.cell? (Tw g 11)=some (.bool p.bl.ft)/\w2.cell? (Tw g 12)=some (.slice pp p.ar.length cap))/\w2.frozen? (Tw g 12)=false):=by
  intro V q H w2 G a1 a2 a3;have u:=b1.below G;obtain⟨⟨own',d1,d2,Q⟩,S⟩:=u.push (af h1 G) (aU h2 G) h3 a1 a2 (by rcases a3 with a|a;exact .inl a.symm;exact .inr (by rw[a];rfl));have hs:Sd own own W1 V:=λk hk h0=>⟨G.block k hk,h0⟩
  have aw:=(b4.trans b5 hs).trans (PI b5 G.size) d2;have ax:=hs.trans G.size d2;refine⟨⟨⟨own',d1,aw,PI (PI b5 G.size) Q⟩,(ax _ (ai b2) b3).1.trans b2⟩,⟨aa S rfl,aa S rfl,aa S rfl,aa S rfl⟩,aj S⟩
 clear O;go_enter Tryz.func60,Tryz.ntmps60;(go_wp2_with fail);rw[Z.out]
 go_cut []from 42 (λwx=>Hid (gY hd B w0 own W g gs n { p with ar:=p.bl :: p.ar } wx/\wx.heap[W.heap.size]?=some (.cells #[.int .u8 6,.string ⟨#[]⟩,Tu 0,Tu m,.bool e] 37 (0,0))))
 case first=>
  go_region_law (refine JF (by rfl) _ _ (by rfl) _ p.ar p.bl (by rfl) (HR.out _ (by first|exact((gt _ _).alloc (ge _) _).drew|exact((gt _ _).drew).alloc (ge _) _)) W1.heap.size 1 (by rfl) (by first|exact ak _ _|exact ak W1.drew _) hl ?_;intro q H w2 av an am;obtain⟨ah,al,z5⟩:=HA.out _ _ _ _ (by first|exact((gt _ _).alloc (ge _) _).drew|exact((gt _ _).drew).alloc (ge _) _) av an am;obtain⟨y2,y3,y4,y5⟩:=al)
  all_goals(
   go_wp2_with fail
   go_meet
   exact ah)
 case rest=>
  obtain⟨⟨I,d1,d2,Q⟩,Y⟩:=hcut.out;clear hcut;have y2:=d1.c2;have bc:wc.cell? ⟨W.heap.size,3,none⟩=some (Tu m):=aa Y rfl;have bd:wc.cell? ⟨W.heap.size,4,none⟩=some (.bool e):=aa Y rfl;have HF:=aW λV (G:Below wc.heap.size wc V)=>lT (p:={ p with ar:=p.bl :: p.ar }) (d1.below G) ⟨J.out,J.col,J.ind,λb hb=>by rcases Sm.1 hb with rfl|hb;exact J.ind;exact J.ar b hb,J.wt⟩ hU need au hn
  have HE:Hid (∀V,Below wc.heap.size wc V->gY hd B w0 own W g gs n { p with ar:=p.bl :: p.ar,bl:=⟨min (p.bl.ind+m) 1000,e,p.fits n need⟩ } (((V.setCell ⟨g,9,none⟩ (Tu (min (p.bl.ind+m) 1000:Nat))).setCell ⟨g,10,none⟩ (.bool e)).setCell ⟨g,11,none⟩ (.bool (p.fits n need)))/\V.cell? (Tw g 9)=some (Tu p.bl.ind)/\V.cell? (Tw g 10)=some (.bool p.bl.ev)/\V.cell? (Tw g 11)=some (.bool p.bl.ft)/\V.frozen? (Tw g 9)=false/\V.frozen? (Tw g 10)=false/\V.frozen? (Tw g 11)=false/\V.cell? ⟨W.heap.size,4,none⟩=some (.bool e)/\V.cell? ⟨W.heap.size,3,none⟩=some (Tu m)):=by
   intro V G;have u:=d1.below G;obtain⟨k1,k2,k3⟩:=u.setb ⟨min (p.bl.ind+m) 1000,e,p.fits n need⟩;have hs:Sd I I wc V:=λk hk h0=>⟨G.block k hk,h0⟩
   exact⟨⟨I,k1,(d2.trans Q hs).trans (PI Q G.size) k2,PI (PI Q G.size) k3⟩,u.c2,u.c3,u.c4,u.fz 9,u.fz 10,u.fz 11,aa (af Y G) rfl,aa (af Y G) rfl⟩
  have ad:=J.ind;have ac:min ((p.bl.ind:Int)+m) 1000=((min (p.bl.ind+m) 1000:Nat):Int):=by omega
  have ba:g<wc.heap.size:=d1.lt;clear d1 d2 Q Y h J b1 b2 b3 b4 b5 h1 h2 h3 c2 c3 c4 c5 f5 x3 x4 HA HR Z;obtain⟨M,hM⟩:=ea (min (p.bl.ind+m) 1000);rw[hM]at HE ac;have HM:=aW hM;have ag:Hid (min (IntKind.i64.wrap ((p.bl.ind:Int)+m)) 1000=(M:Int)):=by show _=_;rw[NJ p.bl.ind m ad hm,HM.out]
  clear hM;have ay:=(HE.out _ (gt _ wc).drew).2;obtain⟨v2,v3,v4,u2,u3,u4,v5,v6⟩:=ay;(go_wp2_with fail);have aq:g≠W.heap.size:=by have:=ae;omega
  have az:W.heap.size≠g:=T5 aq
  go_region_with (first|(go_at_call 113;refine(HF.out _ (by first|exact(gt _ _).drew|exact gt _ _)).mono ?_;rintro e w4⟨rfl,ab⟩;obtain⟨HP4,r2,r3,r4,q2,q3,q4,r5,r6⟩:=HE.out _ (by first|exact(gt _ wc).drew.trans (ab.mono (ge _))|exact ab)))
  all_goals(
   (go_wp2_with fail);go_end0;rw[HM.out]
   first
   |exact⟨rfl,HP4⟩
   | (rw[ag.out];exact⟨rfl,HP4⟩))
