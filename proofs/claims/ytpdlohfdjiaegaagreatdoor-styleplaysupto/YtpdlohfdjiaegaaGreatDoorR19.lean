import Derived.Deep.RegionHeldLaw
import Derived.RangeFuncNested
import Derived.RangeFuncBound
import Derived.RangeFuncCalls
import Derived.RangeFuncLeaves
import Derived.Shelf.Abstract
import Derived.Shelf.RegionOpen
import Derived.OwnWalkIn
import Derived.TacticsInMore
import Derived.LoopNIn
import Derived.LoopIn
import Derived.Test.YtpdlohfdjiaegaaGreatDoorR18
set_option linter.unusedVariables false
set_option linter.unusedSimpArgs false
set_option maxHeartbeats 2000000
set_option maxRecDepth 100000
namespace Go.Proofs.YtpdlohfdjiaegaaGreatDoor.Lw
open Go.Proofs.YtpdlohfdjiaegaaGreatDoor.Lx
open Go.RowKit
variable {B g gs n gb ga:Nat}{W w0 w:World}{p:Pr}{s:Sp}
section
variable {B:Nat} {w0:World} {own:Nat->Nat} {W:World} {g gs n:Nat} {p:Pr}
theorem PS.turn (h:PS B w0 own W g gs n p) {own':Nat->Nat}{W':World}{p':Pr}(hf:Fr 2 own own' W W') (hn:Nf own' W') (hsk:p'.sk=p.sk)
  (hpr:∃v,W'.heap[g]?=some (.cells (prc n gs p'.bl v p'.en) 117 (0,0))/\(W'.ownsRow 0 114 3 v p'.ar.length (aN bkc p'.ar.reverse)/\∀k,v.ownBlock=some k->own' k=2)) :
  PS B w0 own' W' g gs n p'/\Sd own own' W W'/\W.heap.size<=W'.heap.size:=by
 have hbl:=h.bl;refine ⟨⟨h.en.fr (by omega) hn hf,fun k hk=>(hf.old k (by omega)).trans (h.lo k hk),h.bel.trans (hf.below hbl h.lo (by omega)),h.hB,?_,hpr,(hf.old g h.lt).trans h.lab⟩,fun k hk h0=>⟨hf.block k hk (by rw [h0];omega),(hf.old k hk).trans h0⟩,hf.size⟩;rw [hsk];exact h.sk.kept hf (by omega)
theorem PS.push (h:PS B w0 own W g gs n p) {v v2:Value}{w2:World}(h1:W.heap[g]?=some (.cells (prc n gs p.bl v p.en) 117 (0,0))) (h2:W.ownsRow 0 114 3 v p.ar.length (aN bkc p.ar.reverse)) (h3:∀k,v.ownBlock=some k->own k=2)
  (ho2:w2.ownsRow 0 114 3 v2 (p.ar.length+1) (aN bkc p.ar.reverse++bkc p.bl)) (hg:W.grownBy w2 v.ownBlock) (hat:v2.ownBlock=v.ownBlock\/v2.ownBlock=some W.heap.size) :
  (∃own',PS B w0 own' (w2.setCell ⟨g,5,none⟩ v2) g gs n { p with ar:=p.bl :: p.ar }/\Sd own own' W (w2.setCell ⟨g,5,none⟩ v2)/\W.heap.size<=(w2.setCell ⟨g,5,none⟩ v2).heap.size)/\w2.heap[g]?=some (.cells (prc n gs p.bl v p.en) 117 (0,0)):=by
 have hk:=Kp.of_grown hg;have r1:=ay h2 h1 (by decide);have g1:w2.heap[g]?=some (.cells (prc n gs p.bl v p.en) 117 (0,0)):=hk.blk h1 (fun e=>r1 e.symm);have r2:=ay ho2 g1 (by decide);have ks:=Kp.set w2 g 5 v2;have lt2:=fun k hk=>(ho2.lt k hk).2
 have hlt:=h.lt;have kall:Kp (fun k=>own k=2) W (w2.setCell ⟨g,5,none⟩ v2):=((Kp.refl (fun k=>own k=2) W).step hk (fun j _ e=>h3 j e.symm)).step ks (fun j _ e=>by subst e;exact h.lab);refine ⟨⟨fun k=>if k<W.heap.size then own k else if v2.ownBlock=some k then 2 else 0,h.turn (kall.fr (fun k _ e=>e) (fun k hk=>zw hk)) ?_ rfl ⟨v2,?_,?_,?_⟩⟩,g1⟩
 ·intro k hkk;show (if k<W.heap.size then own k else if v2.ownBlock=some k then 2 else 0)=0;have:=kall.size;rw [zu (by omega),zu];intro e;have h4:=lt2 k e;have h5:=ks.size;omega
 ·exact af g1 5 _
 ·refine ks.row ?_ (fun k e1 e2=>r2 (by rw [e1,e2]))
  have:aN bkc (p.bl :: p.ar).reverse=aN bkc p.ar.reverse++bkc p.bl:=by
   rw [AA,bB];simp [aN]
  show w2.ownsRow 0 114 3 v2 (p.ar.length+1) (aN bkc (p.bl :: p.ar).reverse)
  rw [this];exact ho2
 ·intro k e;show (if k<W.heap.size then own k else if v2.ownBlock=some k then 2 else 0)=2
  by_cases hkk:k<W.heap.size
  ·rw [zw hkk]
   rcases hat with e2|e2
   ·exact h3 k (by rw [<-e2];exact e)
   ·rw [e2] at e;injection e with e;omega
  ·rw [zu hkk,zw e]
theorem PS.setb (h:PS B w0 own W g gs n p) (b:Bk):PS B w0 own (((W.setCell ⟨g,2,none⟩ (.int .i64 b.ind)).setCell ⟨g,3,none⟩ (.bool b.ev)).setCell ⟨g,4,none⟩ (.bool b.ft)) g gs n { p with bl:=b }/\Sd own own W (((W.setCell ⟨g,2,none⟩ (.int .i64 b.ind)).setCell ⟨g,3,none⟩ (.bool b.ev)).setCell ⟨g,4,none⟩ (.bool b.ft))/\W.heap.size<=(((W.setCell ⟨g,2,none⟩ (.int .i64 b.ind)).setCell ⟨g,3,none⟩ (.bool b.ev)).setCell ⟨g,4,none⟩ (.bool b.ft)).heap.size:=by
 obtain ⟨v,h1,h2,h3⟩:=h.pr;have r1:=ay h2 h1 (by decide);have k3:=((Kp.set W g 2 (.int .i64 b.ind)).trans (Kp.set _ g 3 (.bool b.ev))).trans (Kp.set _ g 4 (.bool b.ft));refine h.turn ((((Fr.refl 2 own W).set' h.lab 2 _).set' h.lab 3 _).set' h.lab 4 _) (h.en.nf.below k3.size) rfl ⟨v,af (af (af h1 2 _) 3 _) 4 _,k3.row h2 (fun k e1 e2=>r1 (by rw [e1,e2])),h3⟩
end
theorem uD {ops:Array Oper}{o:Oper}{a:Act}{K:Act->World->Prop}{Q:Exit->Act->World->Prop}{E:Prop}(hgd:o.guard=none) (s x:Operand)
  (ho:o.op=.call { callee:=.builtin .append,args:=#[s,x],argTypes:=#[115,115] }) (v:Value) (l:List Bk) (b:Bk) (hs:a.eval s=v) (hr:W.ownsRow 0 114 3 v l.length (aN bkc l.reverse))
  (g c:Nat) (hx:a.eval x=.slice (some ⟨g,0,none⟩) 1 c) (hg:W.heap[g]?=some (.cells #[.int .i64 b.ind,.bool b.ev,.bool b.ft] 114 (0,0))) (hl:l.length<=1000000000)
  (h:∀q cap w',w'.ownsRow 0 114 3 (.slice (some ⟨q,0,none⟩) (l.length+1) cap) (l.length+1) (aN bkc l.reverse++bkc b)->W.grownBy w' v.ownBlock->(v.ownBlock=some q\/q=W.heap.size)->K (a.put o.dst (.slice (some ⟨q,0,none⟩) (l.length+1) cap)) w') :
  if Region.wanted o (yielded ops a.tmps)=true then Oper.wp Tryz.prog o a W K Q else E:=by
 obtain ⟨i0,hi,hz0,hz1,hz2⟩:=Az Tryz.info114;refine CQ W hgd s x 115 ho 0 114 i0 (.agg #[.int .i64 0,.bool false,.bool false]) 3 16 Tryz.underlying115 hi hz0 hz1 hz2 rfl (by decide) v _ _ hs hr ⟨g,0,none⟩ 1 c (bkc b) hx rfl ?_ ?_ (by omega) (by unfold maxLen;omega) (by omega) (zx _) _ rfl ?_
 ·intro j u hu;exact As hg j u (by simpa [bkc] using hu)
 ·intro u hu;simp [bkc] at hu;rcases hu with rfl|rfl|rfl <;> rfl
 ·intro q cap w' a1 a2 a3 _;exact h q cap w' a1 a2 a3
theorem uT {own:Nat->Nat}(h:PS B w0 own W g gs n p) {U:Nat}(hp:Bp p U) (hU:U<=268435456) (need:Nat) (hnd:need<=1000000) (hn:n<=4096) (hl:p.ar.length<=1000000000) (m:Nat) (hm:m<=1000) (e:Bool) :
  Aa 60 #[.pointer (some ⟨g,0,none⟩),.agg #[.int .u8 6,.string ⟨#[]⟩,.int .i64 0,.int .i64 m,.bool e],.int .i64 need] W fun x w'=>x=.returned (.tuple #[])/\PA B w0 own W g gs n { p with ar:=p.bl :: p.ar,bl:=⟨min (p.bl.ind+m) 1000,e,p.fits n need⟩ } w':=by
 obtain ⟨W1,hW1⟩:∃W1,W.alloc (.cells #[.int .u8 6,.string ⟨#[]⟩,.int .i64 0,.int .i64 m,.bool e] 57)=W1:=⟨_,rfl⟩;obtain ⟨b1,b2,b3,b4,b5⟩:=h.box (.cells #[.int .u8 6,.string ⟨#[]⟩,.int .i64 0,.int .i64 m,.bool e] 57);rw [hW1] at b1 b2 b4 b5;obtain ⟨v,h1,h2,h3⟩:=b1.pr;have hlt:=b1.lt;have c2:=b1.c2;have c3:=b1.c3;have c4:=b1.c4;have f5:=b1.fz 5;have c5:W1.cell? ⟨g,5,none⟩=some v:=aa h1 rfl;have x3:W1.cell? ⟨W.heap.size,3,none⟩=some (.int .i64 m):=aa b2 rfl;have x4:W1.cell? ⟨W.heap.size,4,none⟩=some (.bool e):=aa b2 rfl;obtain ⟨pp,cap,rfl,_,_⟩:=av h2;have HW1:Hid (W.alloc (.cells #[.int .u8 6,.string ⟨#[]⟩,.int .i64 0,.int .i64 m,.bool e] 57)=W1):=hW1;have HR:Hid (∀V,Below W1.heap.size W1 V->V.ownsRow 0 114 3 (.slice pp p.ar.length cap) p.ar.length (aN bkc p.ar.reverse)):=fun V hV=>aE h2 hV
 have HA:Hid (∀V q cap2 w2,Below W1.heap.size W1 V->w2.ownsRow 0 114 3 (.slice (some ⟨q,0,none⟩) (p.ar.length+1) cap2) (p.ar.length+1) (aN bkc p.ar.reverse++bkc p.bl)->V.grownBy w2 (Value.slice pp p.ar.length cap).ownBlock->((Value.slice pp p.ar.length cap).ownBlock=some q\/q=V.heap.size) ->
   Hid (PA B w0 own W g gs n { p with ar:=p.bl :: p.ar } (w2.setCell ⟨g,5,none⟩ (.slice (some ⟨q,0,none⟩) (p.ar.length+1) cap2))/\(w2.setCell ⟨g,5,none⟩ (.slice (some ⟨q,0,none⟩) (p.ar.length+1) cap2)).heap[W.heap.size]?=some (.cells #[.int .u8 6,.string ⟨#[]⟩,.int .i64 0,.int .i64 m,.bool e] 57 (0,0)))/\(w2.cell? ⟨g,2,none⟩=some (.int .i64 p.bl.ind)/\w2.cell? ⟨g,3,none⟩=some (.bool p.bl.ev)/\w2.cell? ⟨g,4,none⟩=some (.bool p.bl.ft)/\w2.cell? ⟨g,5,none⟩=some (.slice pp p.ar.length cap))/\w2.frozen? ⟨g,5,none⟩=false):=by
  intro V q cap2 w2 hV a1 a2 a3;have hPV:=b1.below hV;obtain ⟨⟨own',d1,d2,d3⟩,d4⟩:=hPV.push (ab h1 hV) (aE h2 hV) h3 a1 a2 (by rcases a3 with a|a;exact .inl a.symm;exact .inr (by rw [a];rfl));have hs:Sd own own W1 V:=fun k hk h0=>⟨hV.block k hk,h0⟩
  have hs2:=(b4.trans b5 hs).trans (zr b5 hV.size) d2;have hs3:=hs.trans hV.size d2;refine ⟨⟨⟨own',d1,hs2,zr (zr b5 hV.size) d3⟩,(hs3 _ (ah b2) b3).1.trans b2⟩,⟨aa d4 rfl,aa d4 rfl,aa d4 rfl,aa d4 rfl⟩,aj d4⟩
 clear hW1
 go_enter BX,BC
 go_wp2_with fail
 rw [HW1.out]
 go_region_law (refine uD (by rfl) _ _ (by rfl) _ p.ar p.bl (by rfl) (HR.out _ (by first|exact ((gt _ _).alloc (eq _) _).drew|exact ((gt _ _).drew).alloc (eq _) _)) W1.heap.size 1 (by rfl) (by first|exact ag _ _|exact ag W1.drew _) hl ?_;intro q cap2 w2 ho2 hg2 hat;obtain ⟨HP2,HS2,z5⟩:=HA.out _ _ _ _ (by first|exact ((gt _ _).alloc (eq _) _).drew|exact ((gt _ _).drew).alloc (eq _) _) ho2 hg2 hat;obtain ⟨y2,y3,y4,y5⟩:=HS2)
 all_goals (
  obtain ⟨W3,hW3⟩:∃W3,w2.setCell ⟨g,5,none⟩ (.slice (some ⟨q,0,none⟩) (p.ar.length+1) cap2)=W3:=⟨_,rfl⟩;obtain ⟨⟨own3,d1,d2,d3⟩,dx⟩:=HP2.out;rw [hW3] at d1 d2 d3 dx ⊢;clear HP2 hg2 hat ho2 y2 y3 y4 y5 z5 hW3;have y2:=d1.c2;have x3':W3.cell? ⟨W.heap.size,3,none⟩=some (.int .i64 m):=aa dx rfl;have x4':W3.cell? ⟨W.heap.size,4,none⟩=some (.bool e):=aa dx rfl;have HF:Hid (∀V,Below W3.heap.size W3 V->Aa 109 #[.pointer (some ⟨g,0,none⟩),.int .i64 need] V fun e w'=>e=.returned (.bool (p.fits n need))/\Below V.heap.size V w'):=fun V hV=>jx (p:={ p with ar:=p.bl :: p.ar }) (d1.below hV) ⟨hp.out,hp.col,hp.ind,fun b hb=>by rcases zK.1 hb with rfl|hb;exact hp.ind;exact hp.ar b hb,hp.wt⟩ hU need hnd hn
  have HE:Hid (∀V,Below W3.heap.size W3 V->PA B w0 own W g gs n { p with ar:=p.bl :: p.ar,bl:=⟨min (p.bl.ind+m) 1000,e,p.fits n need⟩ } (((V.setCell ⟨g,2,none⟩ (.int .i64 (min (p.bl.ind+m) 1000:Nat))).setCell ⟨g,3,none⟩ (.bool e)).setCell ⟨g,4,none⟩ (.bool (p.fits n need)))/\V.cell? ⟨g,2,none⟩=some (.int .i64 p.bl.ind)/\V.cell? ⟨g,3,none⟩=some (.bool p.bl.ev)/\V.cell? ⟨g,4,none⟩=some (.bool p.bl.ft)/\V.frozen? ⟨g,2,none⟩=false/\V.frozen? ⟨g,3,none⟩=false/\V.frozen? ⟨g,4,none⟩=false/\V.cell? ⟨W.heap.size,4,none⟩=some (.bool e)):=by
   intro V hV;have hPV:=d1.below hV;obtain ⟨k1,k2,k3⟩:=hPV.setb ⟨min (p.bl.ind+m) 1000,e,p.fits n need⟩;have hs:Sd own3 own3 W3 V:=fun k hk h0=>⟨hV.block k hk,h0⟩
   exact ⟨⟨own3,k1,(d2.trans d3 hs).trans (zr d3 hV.size) k2,zr (zr d3 hV.size) k3⟩,hPV.c2,hPV.c3,hPV.c4,hPV.fz 2,hPV.fz 3,hPV.fz 4,aa (ab dx hV) rfl⟩
  have hind:=hp.ind;have emin:min ((p.bl.ind:Int)+m) 1000=((min (p.bl.ind+m) 1000:Nat):Int):=by omega
  have glt:g<W3.heap.size:=d1.lt;clear d1 d2 d3 dx h hp b1 b2 b3 b4 b5 h1 h2 h3 c2 c3 c4 c5 f5 x3 x4 HA HR HW1;obtain ⟨M,hM⟩:∃M,min (p.bl.ind+m) 1000=M:=⟨_,rfl⟩;rw [hM] at HE emin;have HM:Hid (min (p.bl.ind+m) 1000=M):=hM;clear hM
  go_wp2_with fail
  go_region
  all_goals (
   go_wp2_with fail
   have y3':=(HE.out _ (gt _ W3).drew).2;obtain ⟨v2,v3,v4,u2,u3,u4,v5⟩:=y3'
   go_region_with (first|(go_at_call 109;refine (HF.out _ (by first|exact (gt _ _).drew.drew|exact (gt _ _).drew)).mono ?_;rintro e w4 ⟨rfl,hb4⟩;obtain ⟨HP4,r2,r3,r4,q2,q3,q4,r5⟩:=HE.out _ ((gt _ W3).drew.drew.trans (hb4.mono (eq _)))))
   all_goals (
    go_wp2_with fail
    go_end0
    rw [HM.out];exact ⟨rfl,HP4⟩)))
theorem PS.pop {own:Nat->Nat}(h:PS B w0 own W g gs n p) {b:Bk}{r:List Bk}(hr:p.ar=b :: r):∃q cap,W.cell? ⟨g,5,none⟩=some (.slice (some ⟨q,0,none⟩) (r.length+1) cap)/\r.length+1<=cap/\cap<=maxLen/\W.cell? ⟨q,r.length*3,none⟩=some (.int .i64 b.ind)/\W.cell? ⟨q,r.length*3+1,none⟩=some (.bool b.ev)/\W.cell? ⟨q,r.length*3+2,none⟩=some (.bool b.ft)/\q≠g /\
  PA B w0 own W g gs n { p with bl:=b,ar:=r } ((((W.setCell ⟨g,2,none⟩ (.int .i64 b.ind)).setCell ⟨g,3,none⟩ (.bool b.ev)).setCell ⟨g,4,none⟩ (.bool b.ft)).setCell ⟨g,5,none⟩ (.slice (some ⟨q,0,none⟩) r.length cap)):=by
 obtain ⟨v,h1,h2,h3⟩:=h.pr;rw [hr] at h2;obtain ⟨q,cap,rfl,c1,c2,c3,c4,cur,c5⟩:=nQ wu h2;have r1:=ay h2 h1 (by decide);have hqg:q≠g:=fun e=>r1 (by rw [e];rfl)
 have k4:=(((Kp.set W g 2 (.int .i64 b.ind)).trans (Kp.set _ g 3 (.bool b.ev))).trans (Kp.set _ g 4 (.bool b.ft))).trans (Kp.set _ g 5 (.slice (some ⟨q,0,none⟩) r.length cap));refine ⟨q,cap,aa h1 rfl,c1,c2,c4 0 _ rfl,c4 1 _ rfl,c4 2 _ rfl,hqg,own,?_⟩;refine h.turn (((((Fr.refl 2 own W).set' h.lab 2 _).set' h.lab 3 _).set' h.lab 4 _).set' h.lab 5 _) (h.en.nf.below k4.size) rfl ⟨.slice (some ⟨q,0,none⟩) r.length cap,af (af (af (af h1 2 _) 3 _) 4 _) 5 _,k4.row c3 (fun k e1 e2=>by cases e1;exact hqg e2),fun k hk=>h3 k (by cases hk;rfl)⟩
theorem uR {own:Nat->Nat}(h:PS B w0 own W g gs n p) (need:Nat) {b:Bk}{r:List Bk}(hr:p.ar=b :: r) (hl:r.length<=1000000000) :
  Aa 60 #[.pointer (some ⟨g,0,none⟩),.agg #[.int .u8 7,.string ⟨#[]⟩,.int .i64 0,.int .i64 0,.bool false],.int .i64 need] W fun x w'=>x=.returned (.tuple #[])/\PA B w0 own W g gs n { p with bl:=b,ar:=r } w':=by
 have c2:=h.c2;have c3:=h.c3;have c4:=h.c4;have f2:=h.fz 2;have f3:=h.fz 3;have f4:=h.fz 4;have f5:=h.fz 5;have glt:=h.lt;obtain ⟨q,cap,c5,d1,d2,q0,q1,q2,hqg,own',e1,e2,e3⟩:=h.pop hr;have hgq:g≠q:=Ne.symm hqg;have hq:q<W.heap.size:=zy _ _ q0
 have HP:Hid (∀o,PA B w0 own W g gs n { p with bl:=b,ar:=r } (((((W.setCell ⟨g,2,none⟩ (.int .i64 b.ind)).setCell ⟨g,3,none⟩ (.bool b.ev)).setCell ⟨g,4,none⟩ (.bool b.ft)).setCell ⟨g,5,none⟩ (.slice (some ⟨q,0,none⟩) r.length cap)).alloc o).drew):=by
  intro o;have hbl:=((gt _ ((((W.setCell ⟨g,2,none⟩ (.int .i64 b.ind)).setCell ⟨g,3,none⟩ (.bool b.ev)).setCell ⟨g,4,none⟩ (.bool b.ft)).setCell ⟨g,5,none⟩ (.slice (some ⟨q,0,none⟩) r.length cap))).alloc (eq _) o).drew;exact ⟨own',e1.below hbl,e2.trans e3 (fun k hk h0=>⟨hbl.block k hk,h0⟩),zr e3 hbl.size⟩
 have d2':cap<=9223372036854775807:=d2;clear e1 e2 e3 h
 go_enter BX,BC
 go_wp2_with fail
 go_region
 all_goals (
  go_wp2_with fail
  go_end0
  exact ⟨rfl,HP.out _⟩)
theorem gT {own:Nat->Nat}(h:PS B w0 own W g gs n p) {U:Nat}(hp:Bp p U) (hU:U<=268435456) (need:Nat) (hnd:need<=1000000) (hn:n<=4096) (hl:p.ar.length<=1000000000) (d:Dc) (hd:rt d=true) (h7:d.k=7->p.ar≠[]) :
  Aa 60 #[.pointer (some ⟨g,0,none⟩),d.v,.int .i64 need] W fun e w'=>e=.returned (.tuple #[])/\PA B w0 own W g gs n (put n d need p) w':=by
 cases nP hd with
 |text t hq=>exact rL h hp hU need t (jU hq).2
 |brk m hq=>
  obtain ⟨q1,q2⟩:=jV hq;have:=uS h hp hU need hnd hn m.toNat (by omega);rw [show ((m.toNat:Nat):Int)=m by omega] at this;exact this
 |beg m e hq=>
  obtain ⟨q1,q2⟩:=jV hq;have:=uT h hp hU need hnd hn hl m.toNat (by omega) e;rw [show ((m.toNat:Nat):Int)=m by omega] at this;exact this
 |blank=>exact pE h hp hU need
 |hard=>exact rN h hp hU need
 |empty=>exact pD h hp hU need
 | «end»=>
  cases ha:p.ar with
  |nil=>exact absurd ha (h7 rfl)
  |cons b r=>
   have:=uR h need ha (by rw [ha] at hl;simp at hl;omega)
   have e:put n ⟨7,bE,0,0,false⟩ need p={ p with bl:=b,ar:=r }:=by
    show ({ p with bl:=p.ar.headD ⟨0,false,false⟩,ar:=p.ar.tail }:Pr)=_
    rw [ha];rfl
   rw [e];exact this
theorem qZ {x:Sp}{r:List Sp}(h:TL B w gb ga s (x :: r)) (hs:Sb s) (hx:Sb x) (hB:B<=w.heap.size) (hn:r.length<=1000000000) (i:Int) (e:Bool) :
  Aa 153 #[.agg #[.int .u8 6,.string ⟨#[]⟩,.int .i64 0,.int .i64 i,.bool e],.pointer (some ⟨ga,0,none⟩),.pointer (some ⟨gb,0,none⟩)] w fun e w'=>TA B w gb ga (s.all,x.wid s.all,r) e w':=by
 have hnab:=h.ne;have gbl:=ah h.hb;have gal:ga<w.heap.size:=by obtain ⟨v,h1,_⟩:=h.ha;exact ah h1
 have b0:w.cell? ⟨gb,0,none⟩=some (.int .i64 s.all):=aa h.hb rfl;have b1:w.cell? ⟨gb,1,none⟩=some (.int .i64 s.hang):=aa h.hb rfl;have fb0:w.frozen? ⟨gb,0,none⟩=false:=aj h.hb;have fb1:w.frozen? ⟨gb,1,none⟩=false:=aj h.hb;have fa0:w.frozen? ⟨ga,0,none⟩=false:=by obtain ⟨v,h1,_⟩:=h.ha;exact aj h1
 obtain ⟨b,cap,c1,c2,c3,c4,c5,⟨c6,c7,c8⟩,hp1,hp2⟩:=h.pop (gt _ _) hB;obtain ⟨W1,hW1⟩:∃W1,((w.setCell ⟨gb,0,none⟩ (.int .i64 x.all)).setCell ⟨gb,1,none⟩ (.int .i64 x.hang)).setCell ⟨ga,0,none⟩ (.slice (some ⟨b,0,none⟩) r.length cap)=W1:=⟨_,rfl⟩
 have HP:Hid (∀o,TL B (W1.alloc o).drew gb ga x r/\Bo B gb ga w (W1.alloc o).drew):=by
  intro o;rw [hW1] at hp1 hp2;exact ⟨hp1.below ((gt _ _).alloc (eq _) _).drew,hp2.trans (Bo.of_below ((gt _ _).alloc (eq _) _).drew)⟩
 have HW:Hid (∀W,Bo B gb ga w W->TL B W gb ga x r->Aa 154 #[.pointer (some ⟨gb,0,none⟩),.int .i64 s.all] W fun e w'=>e=.returned (.tuple #[])/\TL B w' gb ga (x.wid s.all) r/\Bo B gb ga W w'):=fun W hW hL=>el hL hx _ (by have:=hs.1;omega) (zr hB hW.size)
 have hsa:s.all<=4097:=hs.1;clear h hs hx hB;have c3':cap<=9223372036854775807:=c3
 go_enter CE,Co
 go_wp2_with fail
 go_region
 all_goals go_wp2_with fail
 refine (HW.out _ (HP.out _).2 (HP.out _).1).mono ?_;rintro e w2 ⟨rfl,h2,hb2⟩;have H2:Hid (TL B w2 gb ga (x.wid s.all) r/\Bo B gb ga w w2):=⟨h2,(HP.out _).2.trans hb2⟩;clear h2 hb2
 go_wp2_with fail
 go_ret
 exact ⟨rfl,H2.out.1,H2.out.2⟩
theorem bH {st:List Sp}(h:TL B w gb ga s st) (hs:Sb s) (hst:∀x∈st,Sb x) (hB:B<=w.heap.size) (hT:∀W,Kp (Sx B gb ga) w W->Tab W) (hn:st.length<=1000000000) (d:Dc) (hd:rt d=true) (h6:d.k=6->st≠[]) :
  Aa 153 #[d.v,.pointer (some ⟨ga,0,none⟩),.pointer (some ⟨gb,0,none⟩)] w fun e w'=>TA B w gb ga (cR d (s,st)) e w':=by
 cases nP hd with
 |text t hq=>exact oX h hs hB hT t (jU hq).2
 |brk m hq=>
  obtain ⟨q1,q2⟩:=jV hq;have:=qY h hs hB m.toNat (by omega);rw [show ((m.toNat:Nat):Int)=m by omega] at this;exact this
 |beg m e hq=>
  cases st with
  |nil=>exact absurd rfl (h6 rfl)
  |cons x r=>exact qZ h hs (hst x zV) hB (by simp at hn;omega) m e
 |blank=>exact mz h hs hB
 |hard=>exact jp h hs hB 4 (.inl rfl)
 |empty=>exact jp h hs hB 5 (.inr rfl)
 | «end»=>exact qX h hs hB hn
end Go.Proofs.YtpdlohfdjiaegaaGreatDoor.Lw
namespace Go.Proofs.YtpdlohfdjiaegaaGreatDoor.Lw
open Go.Proofs.YtpdlohfdjiaegaaGreatDoor.Lx
open Go.RowKit Go.Shelf
attribute [local go_sem] Oper.semAt_some
def ui (F:Fence) (n:Nat) (P:Program) (gf:Nat) (lb:Array Value) (it:Nat->Array Value) (N:Nat) (G:World->Prop):Prop:=
 ∀(l:Nat) (J:Nat->World->Prop) (W:World),(∀j W,J j W->G W)->AbidesFrom W.heap.size J->(∀j W1,j<N->J j W1->YieldAt F (n-1) P l (it j) W1 fun e W'=>e=.returned (.bool true)/\J (j+1) W')->J 0 W ->
  CallsIn F n P gf (#[.func (.yield l) #[] #[]]++lb) W fun e W'=>(∃v,e=.returned v)/\J N W'
theorem fW {F:Fence}{n:Nat}{P:Program}{g:Operand}{ps:Array Tmp}{assign body:Code}{Q:Exit->Act->World->Prop}{a:Act}{w:World}(hro:F.round=none) (h1:1<=n) {gf:Nat}{lb:Array Value}(hg:a.eval g=.func (.func gf) #[] lb) (hF:F.fn gf)
  (eg:∀args w,(callFunc gf args).run P w=.ok (.enter gf args) w) {it:Nat->Array Value} {N:Nat} {G:World->Prop} (hit:ui F (n-1) P gf lb it N G) (hps:∀j,(it j).size=ps.size)
  (I:Nat->World->Prop) (hI:OwnFrom w.heap.size I) (hG:∀j W,I j W->G W) (h0:I 0 w) (Ax:Nat->Act->World->Prop) (hAx:∀j a',OwnFrom w.heap.size (fun (_:Unit) W=>Ax j a' W))
  (hassign:∀(l j:Nat) (W:World) (K:Act->World->Prop),j<N->I j W->(∀a' W',KeepsFrom w.heap.size W W'->I j W'->Ax j a' W'->K a' W') ->
   assign.wpIn (F.inRound l) (n-1-1) P (Exit.then K (fun _ _ _=>False)) { tmps:=(ps.zip (it j)).foldl (fun t (p,v)=>t.setIfInBounds p v) a.tmps,defers:=[] } W)
  (hbody:∀(l j:Nat) (a':Act) (W:World),j<N->I j W->Ax j a' W->body.wpIn (F.inRound l) (n-1-1) P (fun e _ W'=>e=.normal/\KeepsFrom w.heap.size W W'/\I (j+1) W') a' W)
  (hdone:∀(D:Nat) (W:World),w.heap.size<=D->I N W->W.heap[D]?=some (.deferred (some []))->Q .normal { a with defers:={ target:=.collected D,args:=#[] } :: a.defers } W) :
  (Code.rangeFunc g ps assign body).wpIn F n P Q a w:=by
 refine wpIn_rangeFunc fun fn hfn=>?_
 rw [hro];obtain ⟨L,hL⟩:∃L:LoopState->Loop,∀st,L st={ state:=st,pending:=none,fn,tmps:=a.tmps,params:=ps,assign,body,defers:=w.heap.size }:=⟨_,fun _=>rfl⟩;have hent:=run_enterLoop_outer (P:=P) (w:=w) fn a.tmps ps assign body;rw [<-hL] at hent;obtain ⟨V,hV⟩:∃V,(w.alloc (.deferred (some []))).alloc (.loop (L .ready))=V:=⟨_,rfl⟩;rw [hV] at hent;have e1:(w.alloc (.deferred (some []))).heap.size=w.heap.size+1:=ge _ _;have vr:V.heap[w.heap.size+1]?=some (.loop (L .ready)):=by rw [<-hV,<-e1];exact ag _ _
 have vd:V.heap[w.heap.size]?=some (.deferred (some [])):=by rw [<-hV];exact aB (ag _ _) _
 have vs:w.heap.size+2<=V.heap.size:=by rw [<-hV,ge,e1];exact eq _
 have vi:I 0 V:=by rw [<-hV];exact hI.alloc _ (hI.alloc _ h0)
 refine ⟨w.heap.size+1,_,V,{ target:=.fn (.func gf) lb,args:=#[.func (.yield (w.heap.size+1)) #[] #[]] },V,gf,#[.func (.yield (w.heap.size+1)) #[] #[]]++lb,V,hent,?_,?_,?_,fun _=>h1,?_⟩
 ·simp only [resolve,hg];simp [go_sem]
 ·intro f' hf';simp [Target.leads] at hf';subst hf';exact hF
 ·simp [invoke,go_sem,eg]
 refine (hit (w.heap.size+1) (fun j W=>I j W/\W.heap[w.heap.size+1]?=some (.loop (L .ready))/\W.heap[w.heap.size]?=some (.deferred (some []))) V (fun j W h=>hG j W h.1) ?_ ?_ ⟨vi,vr,vd⟩).mono ?_
 ·intro j A B row hs hgr hr;refine ⟨hI j A B row hs.1 hgr fun r e=>?_,(grownBy_keeps hgr (fun r e=>(hr r e).2) hs.2.1 rfl).trans hs.2.1,(grownBy_keeps hgr (fun r e=>(hr r e).2) hs.2.2 rfl).trans hs.2.2⟩;obtain ⟨hb,o,ho,hw⟩:=hr r e;exact ⟨by omega,o,ho,Obj.not_cells_of_walk hw⟩
 ·rintro j W hj ⟨hi,hr,hd⟩;have hy:=run_yield (P:=P) (args:=it j) hr (by rw [hL];exact hps j);rw [hL] at hy;refine ⟨fn,_,assign,body,hy,roundIn_of_wpIn hfn (hassign _ j W _ hj hi ?_)⟩;intro a' W' hk hi' hax;have hr':=hk.same _ _ (by omega) hr rfl;have hd':=hk.same _ _ (eq _) hd rfl;have hlt:=ah hr';refine ⟨_,run_beginRound hr' (by rw [hL]),?_⟩;obtain ⟨W2,hW2⟩:∃W2,W'.putObj (w.heap.size+1) (.loop { L .ready with state:=.busy })=W2:=⟨_,rfl⟩;have r2:W2.heap[w.heap.size+1]?=some (.loop { L .ready with state:=.busy }):=by rw [<-hW2];exact World.putObj_heap_same hlt
  have d2:W2.heap[w.heap.size]?=some (.deferred (some [])):=by rw [<-hW2];exact (World.putObj_heap_other (by omega)).trans hd'
  have i2:I j W2:=by rw [<-hW2];exact hI.putObj _ hi' (by omega) hr' rfl
  have x2:Ax j a' W2:=by rw [<-hW2];exact (hAx j a').putObj (s:=()) _ hax (by omega) hr' rfl
  rw [hW2];refine wpIn_mono (hbody _ j a' W2 hj i2 x2) ?_;rintro e a3 W3 ⟨rfl,hk3,i3⟩;have r3:=hk3.same _ _ (by omega) r2 rfl;have d3:=hk3.same _ _ (eq _) d2 rfl;have hend:=run_endRound (P:=P) none r3;rw [hL] at hend;refine ⟨_,_,hend,rfl,hI.putObj _ i3 (by omega) r3 rfl,?_,(World.putObj_heap_other (by omega)).trans d3⟩;rw [World.putObj_heap_same (ah r3),hL];rfl
 ·rintro e W ⟨⟨v,rfl⟩,hi,hr,hd⟩;have hend:=run_endLoop (P:=P) hr (by rw [hL];simp);rw [hL] at hend;exact ⟨none,_,hend,hdone _ _ (eq _) (hI.putObj _ hi (by omega) hr rfl) ((World.putObj_heap_other (by omega)).trans hd)⟩
attribute [local go_sem] Oper.semAt_some
theorem ef (ao:Option Addr) (n cap:Nat) (w:World):Aa 103 #[.slice ao n cap] w fun e w'=>e=.returned (.func (.func 156) #[] #[.pointer (some ⟨w.heap.size,0,none⟩)])/\w'=w.alloc (.cells #[.slice ao n cap] 46):=by
 have hmf:=mkfn
 go_enter Tryz.func103,Tryz.ntmps103
 go_wp2_with fail
 go_ret
 exact ⟨rfl,rfl⟩
def zD:Dc:=⟨0,bE,0,0,false⟩
def itB (l:List Dc) (j:Nat):Array Value:=#[.int .i64 ((l.length-1-j:Nat):Int),(l.getD (l.length-1-j) zD).v]
theorem bf {W W':World}{row:Option Nat}(hg:W.grownBy W' row) (hrow:∀r,row=some r->∃o:Obj,W.heap[r]?=some o/\o.isCells=false) {k:Nat}{cs:Array Value}{T:TypeId}{f:Nat × Nat}(h:W.heap[k]?=some (.cells cs T f)):W'.heap[k]?=some (.cells cs T f):=
 (grownBy_keeps_cells hg hrow h rfl).trans h
theorem dG (n:Nat) (hn:1<=n) (Bn:Nat) (ao:Option Addr) (l:List Dc) (cap:Nat) (hl:l.length<=1000000000000) :
  ui Fence.wide n Tryz.prog 156 #[.pointer (some ⟨Bn,0,none⟩)] (itB l) l.length (fun W=>W.cell? ⟨Bn,0,none⟩=some (.slice ao l.length cap)/\Lay W ao l):=by
 intro lp J W hG hA hY h0;refine callsIn_of_wp Tryz.func156 rfl trivial ?_ rfl;simp only [Tryz.ntmps156,Bv,List.length_cons,Ao,Nat.reduceAdd,Nat.reduceSub,A6,A7,By,Bb,Ay,AI];have g0:=(hG 0 W h0).1;have hln:(l.length:Int)<=1000000000000:=by omega
 gi_wp2
 gi_loopw [3] (fun i wr=>∃(j:Nat) (z:Int),i=.int .i64 z/\z=(l.length:Int)-1-j/\j<=l.length/\J j wr) (fun i _=>(intOf i+1).toNat)
 case atStart=>exact ⟨0,_,by go_num,by omega,zx _,h0⟩
 case round=>
  obtain ⟨j,z,rfl,hz,hj,hJ⟩:=hrel
  by_cases hlt:j<l.length
  ·obtain ⟨k,hk⟩:∃k:Nat,z=k:=⟨z.toNat,by omega⟩;subst hk;have hkl:k<l.length:=by omega
   have hkj:l.length-1-j=k:=by omega
   obtain ⟨d,hd⟩:∃d,l[k]?=some d:=⟨_,hH hkl⟩;obtain ⟨gc,gL⟩:=hG j wr hJ;obtain ⟨ht,b,off,rfl,c0,c1,c2,c3,c4⟩:=gL k d hd;have q1:(0:Int)<=k:=by omega
   have q2:(k:Int)<l.length:=by omega
   have hit:itB l j=#[.int .i64 (k:Int),d.v]:=by
    unfold itB;rw [hkj,AY,hd];rfl
   obtain ⟨fn,tmps,assign,body,hy,hR⟩:=hY j wr hlt hJ;rw [hit] at hy
   dsimp only [Dc.v] at hy
   have HJ:Hid (l.length-1-j=k/\j<l.length):=⟨hkj,hlt⟩;clear hz hit hkj hlt hd
   gi_wp2
   refine hR.mono ?_;rintro e W3 ⟨rfl,hJ3⟩
   gi_wp2
   go_roundw
   case rel=>exact ⟨j+1,(k:Int)-1,by go_num,by have:=HJ.out;omega,by have:=HJ.out;omega,hJ3⟩
   case measure=>simp [RowKit.intOf]
  ·obtain rfl:j=l.length:=by omega
   have hz':z=-1:=by omega
   subst hz';clear hz
   gi_wp2
   go_end0
   exact ⟨⟨_,rfl⟩,hJ⟩
end Go.Proofs.YtpdlohfdjiaegaaGreatDoor.Lw
