import Derived.Deep.RegionHeldLaw
import Derived.RangeFuncNested
import Derived.RangeFuncBound
import Derived.RangeFuncCalls
import Derived.RangeFuncLeaves
import Derived.Shelf.Abstract
import Derived.Shelf.RegionOpen
import Derived.OwnWalkIn
import Derived.TacticsInMore
import Derived.LoopNIn
import Derived.LoopIn
import Derived.Laws.EntriesVeiled
import Derived.Test.YtjiepkenkcgkhaaGreatDoorM13
set_option linter.unusedVariables false
set_option linter.unusedSimpArgs false
set_option maxHeartbeats 4000000
set_option maxRecDepth 100000
namespace Go.Proofs.YtjiepkenkcgkhaaGreatDoor.Lw
open Go.Proofs.YtjiepkenkcgkhaaGreatDoor.Lx
open Go.RowKit
variable {gb ga:Nat}{w:World}{s:Sp}
section
variable {B:Nat} {w0:World} {own:Nat->Nat} {W:World} {g gs n:Nat} {p:Pr}
theorem PS.turn (h:PS B w0 own W g gs n p) {own':Nat->Nat}{W':World}{p':Pr}(hf:Fr 2 own own' W W') (hn:Nf own' W') (hsk:p'.sk=p.sk)
  (hpr:∃v,W'.heap[g]?=some (.cells (ID n gs p'.bl v p'.en) 68 (0,0))/\(W'.ownsRow 0 65 3 v p'.ar.length (bz tF p'.ar.reverse)/\∀k,v.ownBlock=some k->own' k=2)) :
  PS B w0 own' W' g gs n p'/\Sd own own' W W'/\W.heap.size<=W'.heap.size:=by
 have hbl:=h.bl;refine ⟨⟨h.en.fr (by omega) hn hf,fun k hk=>(hf.old k (by omega)).trans (h.lo k hk),h.bel.trans (hf.below hbl h.lo (by omega)),h.hB,?_,hpr,(hf.old g h.lt).trans h.lab⟩,fun k hk h0=>⟨hf.block k hk (by rw [h0];omega),(hf.old k hk).trans h0⟩,hf.size⟩;rw [hsk];exact h.sk.kept hf (by omega)
theorem PS.push (h:PS B w0 own W g gs n p) {v v2:Value}{w2:World}(h1:W.heap[g]?=some (.cells (ID n gs p.bl v p.en) 68 (0,0))) (h2:W.ownsRow 0 65 3 v p.ar.length (bz tF p.ar.reverse)) (h3:∀k,v.ownBlock=some k->own k=2)
  (ho2:w2.ownsRow 0 65 3 v2 (p.ar.length+1) (bz tF p.ar.reverse++tF p.bl)) (hg:W.grownBy w2 v.ownBlock) (hat:v2.ownBlock=v.ownBlock\/v2.ownBlock=some W.heap.size) :
  (∃own',PS B w0 own' (w2.setCell ⟨g,5,none⟩ v2) g gs n { p with ar:=p.bl :: p.ar }/\Sd own own' W (w2.setCell ⟨g,5,none⟩ v2)/\W.heap.size<=(w2.setCell ⟨g,5,none⟩ v2).heap.size)/\w2.heap[g]?=some (.cells (ID n gs p.bl v p.en) 68 (0,0)):=by
 have hk:=Kp.of_grown hg;have r1:=aM h2 h1 (by decide);have g1:w2.heap[g]?=some (.cells (ID n gs p.bl v p.en) 68 (0,0)):=hk.blk h1 (fun e=>r1 e.symm);have r2:=aM ho2 g1 (by decide);have ks:=Kp.set w2 g 5 v2;have lt2:=fun k hk=>(ho2.lt k hk).2
 have hlt:=h.lt;have kall:Kp (fun k=>own k=2) W (w2.setCell ⟨g,5,none⟩ v2):=((Kp.refl (fun k=>own k=2) W).step hk (fun j _ e=>h3 j e.symm)).step ks (fun j _ e=>by subst e;exact h.lab);refine ⟨⟨fun k=>if k<W.heap.size then own k else if v2.ownBlock=some k then 2 else 0,h.turn (kall.fr (fun k _ e=>e) (fun k hk=>IO hk)) ?_ rfl ⟨v2,?_,?_,?_⟩⟩,g1⟩
 ·intro k hkk;show (if k<W.heap.size then own k else if v2.ownBlock=some k then 2 else 0)=0;have:=kall.size;rw [Eq (by omega),Eq];intro e;have h4:=lt2 k e;have h5:=ks.size;omega
 ·exact aj g1 5 _
 ·refine ks.row ?_ (fun k e1 e2=>r2 (by rw [e1,e2]))
  have:bz tF (p.bl :: p.ar).reverse=bz tF p.ar.reverse++tF p.bl:=by
   rw [SH,cr];simp [bz]
  show w2.ownsRow 0 65 3 v2 (p.ar.length+1) (bz tF (p.bl :: p.ar).reverse)
  rw [this];exact ho2
 ·intro k e;show (if k<W.heap.size then own k else if v2.ownBlock=some k then 2 else 0)=2
  by_cases hkk:k<W.heap.size
  ·rw [IO hkk]
   rcases hat with e2|e2
   ·exact h3 k (by rw [<-e2];exact e)
   ·rw [e2] at e;injection e with e;omega
  ·rw [Eq hkk,IO e]
theorem PS.setb (h:PS B w0 own W g gs n p) (b:Bk):PS B w0 own (((W.setCell ⟨g,2,none⟩ (.int .i64 b.ind)).setCell ⟨g,3,none⟩ (.bool b.ev)).setCell ⟨g,4,none⟩ (.bool b.ft)) g gs n { p with bl:=b }/\Sd own own W (((W.setCell ⟨g,2,none⟩ (.int .i64 b.ind)).setCell ⟨g,3,none⟩ (.bool b.ev)).setCell ⟨g,4,none⟩ (.bool b.ft))/\W.heap.size<=(((W.setCell ⟨g,2,none⟩ (.int .i64 b.ind)).setCell ⟨g,3,none⟩ (.bool b.ev)).setCell ⟨g,4,none⟩ (.bool b.ft)).heap.size:=by
 obtain ⟨v,h1,h2,h3⟩:=h.pr;have r1:=aM h2 h1 (by decide);have k3:=((Kp.set W g 2 (.int .i64 b.ind)).trans (Kp.set _ g 3 (.bool b.ev))).trans (Kp.set _ g 4 (.bool b.ft));refine h.turn ((((Fr.refl 2 own W).set' h.lab 2 _).set' h.lab 3 _).set' h.lab 4 _) (h.en.nf.below k3.size) rfl ⟨v,aj (aj (aj h1 2 _) 3 _) 4 _,k3.row h2 (fun k e1 e2=>r1 (by rw [e1,e2])),h3⟩
end
theorem Hn {W:World}{ops:Array Oper}{o:Oper}{a:Act}{K:Act->World->Prop}{Q:Exit->Act->World->Prop}{E:Prop}(hgd:o.guard=none) (s x:Operand)
  (ho:o.op=.call { callee:=.builtin .append,args:=#[s,x],argTypes:=#[66,66] }) (v:Value) (l:List Bk) (b:Bk) (hs:a.eval s=v) (hr:W.ownsRow 0 65 3 v l.length (bz tF l.reverse))
  (g c:Nat) (hx:a.eval x=.slice (some ⟨g,0,none⟩) 1 c) (hg:W.heap[g]?=some (.cells #[.int .i64 b.ind,.bool b.ev,.bool b.ft] 65 (0,0))) (hl:l.length<=1000000000)
  (h:∀q cap w',w'.ownsRow 0 65 3 (.slice (some ⟨q,0,none⟩) (l.length+1) cap) (l.length+1) (bz tF l.reverse++tF b)->W.grownBy w' v.ownBlock->(v.ownBlock=some q\/q=W.heap.size)->K (a.put o.dst (.slice (some ⟨q,0,none⟩) (l.length+1) cap)) w') :
  if Region.wanted o (yielded ops a.tmps)=true then Oper.wp Tryz.prog o a W K Q else E:=by
 obtain ⟨i0,hi,hz0,hz1,hz2⟩:=Sa Tryz.info65;refine TI W hgd s x 66 ho 0 65 i0 (.agg #[.int .i64 0,.bool false,.bool false]) 3 16 Tryz.underlying66 hi hz0 hz1 hz2 rfl (by decide) v _ _ hs hr ⟨g,0,none⟩ 1 c (tF b) hx rfl ?_ ?_ (by omega) (by unfold maxLen;omega) (by omega) (QK _) _ rfl ?_
 ·intro j u hu;exact RW hg j u (by simpa [tF] using hu)
 ·intro u hu;simp [tF] at hu;rcases hu with rfl|rfl|rfl <;> rfl
 ·intro q cap w' a1 a2 a3 _;exact h q cap w' a1 a2 a3
theorem Is {B:Nat}{w0:World}{own:Nat->Nat}{W:World}{g gs n:Nat}{p:Pr}(h:PS B w0 own W g gs n p) {U:Nat}(hp:Bp p U) (hU:U<=2147483647) (need:Nat) (hnd:need<=1000000) (hn:n<=4096) (hl:p.ar.length<=1000000000) (m:Nat) (hm:m<=1000) (e:Bool) :
  Ra 18 #[.pointer (some ⟨g,0,none⟩),.agg #[.int .u8 6,.string ⟨#[]⟩,.int .i64 0,.int .i64 m,.bool e],.int .i64 need] W fun x w'=>x=.returned (.tuple #[])/\PA B w0 own W g gs n { p with ar:=p.bl :: p.ar,bl:=⟨min (p.bl.ind+m) 1000,e,p.fits n need⟩ } w':=by
 obtain ⟨W1,hW1⟩:∃W1,W.alloc (.cells #[.int .u8 6,.string ⟨#[]⟩,.int .i64 0,.int .i64 m,.bool e] 71)=W1:=⟨_,rfl⟩;obtain ⟨b1,b2,b3,b4,b5⟩:=h.box (.cells #[.int .u8 6,.string ⟨#[]⟩,.int .i64 0,.int .i64 m,.bool e] 71);rw [hW1] at b1 b2 b4 b5;obtain ⟨v,h1,h2,h3⟩:=b1.pr;have hlt:=b1.lt;have c2:=b1.c2;have c3:=b1.c3;have c4:=b1.c4;have f5:=b1.fz 5;have c5:W1.cell? ⟨g,5,none⟩=some v:=af h1 rfl;have x3:W1.cell? ⟨W.heap.size,3,none⟩=some (.int .i64 m):=af b2 rfl;have x4:W1.cell? ⟨W.heap.size,4,none⟩=some (.bool e):=af b2 rfl;obtain ⟨pp,cap,rfl,_,_⟩:=aJ h2;have HW1:Hid (W.alloc (.cells #[.int .u8 6,.string ⟨#[]⟩,.int .i64 0,.int .i64 m,.bool e] 71)=W1):=hW1;have HR:Hid (∀V,Below W1.heap.size W1 V->V.ownsRow 0 65 3 (.slice pp p.ar.length cap) p.ar.length (bz tF p.ar.reverse)):=fun V hV=>bp h2 hV
 have HA:Hid (∀V q cap2 w2,Below W1.heap.size W1 V->w2.ownsRow 0 65 3 (.slice (some ⟨q,0,none⟩) (p.ar.length+1) cap2) (p.ar.length+1) (bz tF p.ar.reverse++tF p.bl)->V.grownBy w2 (Value.slice pp p.ar.length cap).ownBlock->((Value.slice pp p.ar.length cap).ownBlock=some q\/q=V.heap.size) ->
   Hid (PA B w0 own W g gs n { p with ar:=p.bl :: p.ar } (w2.setCell ⟨g,5,none⟩ (.slice (some ⟨q,0,none⟩) (p.ar.length+1) cap2))/\(w2.setCell ⟨g,5,none⟩ (.slice (some ⟨q,0,none⟩) (p.ar.length+1) cap2)).heap[W.heap.size]?=some (.cells #[.int .u8 6,.string ⟨#[]⟩,.int .i64 0,.int .i64 m,.bool e] 71 (0,0)))/\(w2.cell? ⟨g,2,none⟩=some (.int .i64 p.bl.ind)/\w2.cell? ⟨g,3,none⟩=some (.bool p.bl.ev)/\w2.cell? ⟨g,4,none⟩=some (.bool p.bl.ft)/\w2.cell? ⟨g,5,none⟩=some (.slice pp p.ar.length cap))/\w2.frozen? ⟨g,5,none⟩=false):=by
  intro V q cap2 w2 hV a1 a2 a3;have hPV:=b1.below hV;obtain ⟨⟨own',d1,d2,d3⟩,d4⟩:=hPV.push (ag h1 hV) (bp h2 hV) h3 a1 a2 (by rcases a3 with a|a;exact .inl a.symm;exact .inr (by rw [a];rfl));have hs:Sd own own W1 V:=fun k hk h0=>⟨hV.block k hk,h0⟩
  have hs2:=(b4.trans b5 hs).trans (QQ b5 hV.size) d2;have hs3:=hs.trans hV.size d2;refine ⟨⟨⟨own',d1,hs2,QQ (QQ b5 hV.size) d3⟩,(hs3 _ (aq b2) b3).1.trans b2⟩,⟨af d4 rfl,af d4 rfl,af d4 rfl,af d4 rfl⟩,am d4⟩
 clear hW1
 go_enter Tt,Tb
 go_wp2_with fail
 rw [HW1.out]
 go_region_law (refine Hn (by rfl) _ _ (by rfl) _ p.ar p.bl (by rfl) (HR.out _ (by first|exact ((hH _ _).alloc (gt _) _).drew|exact ((hH _ _).drew).alloc (gt _) _)) W1.heap.size 1 (by rfl) (by first|exact au _ _|exact au W1.drew _) hl ?_;intro q cap2 w2 ho2 hg2 hat;obtain ⟨HP2,HS2,z5⟩:=HA.out _ _ _ _ (by first|exact ((hH _ _).alloc (gt _) _).drew|exact ((hH _ _).drew).alloc (gt _) _) ho2 hg2 hat;obtain ⟨y2,y3,y4,y5⟩:=HS2)
 all_goals (
  obtain ⟨W3,hW3⟩:∃W3,w2.setCell ⟨g,5,none⟩ (.slice (some ⟨q,0,none⟩) (p.ar.length+1) cap2)=W3:=⟨_,rfl⟩;obtain ⟨⟨own3,d1,d2,d3⟩,dx⟩:=HP2.out;rw [hW3] at d1 d2 d3 dx ⊢;clear HP2 hg2 hat ho2 y2 y3 y4 y5 z5 hW3;have y2:=d1.c2;have x3':W3.cell? ⟨W.heap.size,3,none⟩=some (.int .i64 m):=af dx rfl;have x4':W3.cell? ⟨W.heap.size,4,none⟩=some (.bool e):=af dx rfl;have HF:Hid (∀V,Below W3.heap.size W3 V->Ra 41 #[.pointer (some ⟨g,0,none⟩),.int .i64 need] V fun e w'=>e=.returned (.bool (p.fits n need))/\Below V.heap.size V w'):=fun V hV=>qR (p:={ p with ar:=p.bl :: p.ar }) (d1.below hV) ⟨hp.out,hp.col,hp.ind,fun b hb=>by rcases Rg.1 hb with rfl|hb;exact hp.ind;exact hp.ar b hb,hp.wt⟩ hU need hnd hn
  have HE:Hid (∀V,Below W3.heap.size W3 V->PA B w0 own W g gs n { p with ar:=p.bl :: p.ar,bl:=⟨min (p.bl.ind+m) 1000,e,p.fits n need⟩ } (((V.setCell ⟨g,2,none⟩ (.int .i64 (min (p.bl.ind+m) 1000:Nat))).setCell ⟨g,3,none⟩ (.bool e)).setCell ⟨g,4,none⟩ (.bool (p.fits n need)))/\V.cell? ⟨g,2,none⟩=some (.int .i64 p.bl.ind)/\V.cell? ⟨g,3,none⟩=some (.bool p.bl.ev)/\V.cell? ⟨g,4,none⟩=some (.bool p.bl.ft)/\V.frozen? ⟨g,2,none⟩=false/\V.frozen? ⟨g,3,none⟩=false/\V.frozen? ⟨g,4,none⟩=false/\V.cell? ⟨W.heap.size,4,none⟩=some (.bool e)):=by
   intro V hV;have hPV:=d1.below hV;obtain ⟨k1,k2,k3⟩:=hPV.setb ⟨min (p.bl.ind+m) 1000,e,p.fits n need⟩;have hs:Sd own3 own3 W3 V:=fun k hk h0=>⟨hV.block k hk,h0⟩
   exact ⟨⟨own3,k1,(d2.trans d3 hs).trans (QQ d3 hV.size) k2,QQ (QQ d3 hV.size) k3⟩,hPV.c2,hPV.c3,hPV.c4,hPV.fz 2,hPV.fz 3,hPV.fz 4,af (ag dx hV) rfl⟩
  have hind:=hp.ind;have emin:min ((p.bl.ind:Int)+m) 1000=((min (p.bl.ind+m) 1000:Nat):Int):=by omega
  have glt:g<W3.heap.size:=d1.lt;clear d1 d2 d3 dx h hp b1 b2 b3 b4 b5 h1 h2 h3 c2 c3 c4 c5 f5 x3 x4 HA HR HW1;obtain ⟨M,hM⟩:∃M,min (p.bl.ind+m) 1000=M:=⟨_,rfl⟩;rw [hM] at HE emin;have HM:Hid (min (p.bl.ind+m) 1000=M):=hM;clear hM
  go_wp2_with fail
  go_region
  all_goals (
   go_wp2_with fail
   have y3':=(HE.out _ (hH _ W3).drew).2;obtain ⟨v2,v3,v4,u2,u3,u4,v5⟩:=y3'
   go_region_with (first|(go_at_call 41;refine (HF.out _ (by first|exact (hH _ _).drew.drew|exact (hH _ _).drew)).mono ?_;rintro e w4 ⟨rfl,hb4⟩;obtain ⟨HP4,r2,r3,r4,q2,q3,q4,r5⟩:=HE.out _ ((hH _ W3).drew.drew.trans (hb4.mono (gt _)))))
   all_goals (
    go_wp2_with fail
    go_end0
    rw [HM.out];exact ⟨rfl,HP4⟩)))
theorem PS.pop {B:Nat}{w0:World}{own:Nat->Nat}{W:World}{g gs n:Nat}{p:Pr}(h:PS B w0 own W g gs n p) {b:Bk}{r:List Bk}(hr:p.ar=b :: r):∃q cap,W.cell? ⟨g,5,none⟩=some (.slice (some ⟨q,0,none⟩) (r.length+1) cap)/\r.length+1<=cap/\cap<=maxLen/\W.cell? ⟨q,r.length*3,none⟩=some (.int .i64 b.ind)/\W.cell? ⟨q,r.length*3+1,none⟩=some (.bool b.ev)/\W.cell? ⟨q,r.length*3+2,none⟩=some (.bool b.ft)/\q≠g /\
  PA B w0 own W g gs n { p with bl:=b,ar:=r } ((((W.setCell ⟨g,2,none⟩ (.int .i64 b.ind)).setCell ⟨g,3,none⟩ (.bool b.ev)).setCell ⟨g,4,none⟩ (.bool b.ft)).setCell ⟨g,5,none⟩ (.slice (some ⟨q,0,none⟩) r.length cap)):=by
 obtain ⟨v,h1,h2,h3⟩:=h.pr;rw [hr] at h2;obtain ⟨q,cap,rfl,c1,c2,c3,c4,cur,c5⟩:=yJ Ka h2;have r1:=aM h2 h1 (by decide);have hqg:q≠g:=fun e=>r1 (by rw [e];rfl)
 have k4:=(((Kp.set W g 2 (.int .i64 b.ind)).trans (Kp.set _ g 3 (.bool b.ev))).trans (Kp.set _ g 4 (.bool b.ft))).trans (Kp.set _ g 5 (.slice (some ⟨q,0,none⟩) r.length cap));refine ⟨q,cap,af h1 rfl,c1,c2,c4 0 _ rfl,c4 1 _ rfl,c4 2 _ rfl,hqg,own,?_⟩;refine h.turn (((((Fr.refl 2 own W).set' h.lab 2 _).set' h.lab 3 _).set' h.lab 4 _).set' h.lab 5 _) (h.en.nf.below k4.size) rfl ⟨.slice (some ⟨q,0,none⟩) r.length cap,aj (aj (aj (aj h1 2 _) 3 _) 4 _) 5 _,k4.row c3 (fun k e1 e2=>by cases e1;exact hqg e2),fun k hk=>h3 k (by cases hk;rfl)⟩
theorem Iq {B:Nat}{w0:World}{own:Nat->Nat}{W:World}{g gs n:Nat}{p:Pr}(h:PS B w0 own W g gs n p) (need:Nat) {b:Bk}{r:List Bk}(hr:p.ar=b :: r) (hl:r.length<=1000000000) :
  Ra 18 #[.pointer (some ⟨g,0,none⟩),.agg #[.int .u8 7,.string ⟨#[]⟩,.int .i64 0,.int .i64 0,.bool false],.int .i64 need] W fun x w'=>x=.returned (.tuple #[])/\PA B w0 own W g gs n { p with bl:=b,ar:=r } w':=by
 have c2:=h.c2;have c3:=h.c3;have c4:=h.c4;have f2:=h.fz 2;have f3:=h.fz 3;have f4:=h.fz 4;have f5:=h.fz 5;have glt:=h.lt;obtain ⟨q,cap,c5,d1,d2,q0,q1,q2,hqg,own',e1,e2,e3⟩:=h.pop hr;have hgq:g≠q:=Vs hqg;have hq:q<W.heap.size:=QP _ _ q0
 have HP:Hid (∀o,PA B w0 own W g gs n { p with bl:=b,ar:=r } (((((W.setCell ⟨g,2,none⟩ (.int .i64 b.ind)).setCell ⟨g,3,none⟩ (.bool b.ev)).setCell ⟨g,4,none⟩ (.bool b.ft)).setCell ⟨g,5,none⟩ (.slice (some ⟨q,0,none⟩) r.length cap)).alloc o).drew):=by
  intro o;have hbl:=((hH _ ((((W.setCell ⟨g,2,none⟩ (.int .i64 b.ind)).setCell ⟨g,3,none⟩ (.bool b.ev)).setCell ⟨g,4,none⟩ (.bool b.ft)).setCell ⟨g,5,none⟩ (.slice (some ⟨q,0,none⟩) r.length cap))).alloc (gt _) o).drew;exact ⟨own',e1.below hbl,e2.trans e3 (fun k hk h0=>⟨hbl.block k hk,h0⟩),QQ e3 hbl.size⟩
 have d2':cap<=9223372036854775807:=d2;clear e1 e2 e3 h
 go_enter Tt,Tb
 go_wp2_with fail
 go_region
 all_goals (
  go_wp2_with fail
  go_end0
  exact ⟨rfl,HP.out _⟩)
theorem Iu {B:Nat}{w0:World}{own:Nat->Nat}{W:World}{g gs n:Nat}{p:Pr}(h:PS B w0 own W g gs n p) {U:Nat}(hp:Bp p U) (hU:U<=2147483647) (need:Nat) (hnd:need<=1000000) (hn:n<=4096) (hl:p.ar.length<=1000000000) (d:Dc) (hd:rt d=true) (h7:d.k=7->p.ar≠[]) :
  Ra 18 #[.pointer (some ⟨g,0,none⟩),d.v,.int .i64 need] W fun e w'=>e=.returned (.tuple #[])/\PA B w0 own W g gs n (put n d need p) w':=by
 cases mj hd with
 |text t hq=>exact DR h hp hU need t (mV hq).2
 |brk m hq=>
  obtain ⟨q1,q2⟩:=rU hq;have:=Ir h hp hU need hnd hn m.toNat (by omega);rw [show ((m.toNat:Nat):Int)=m by omega] at this;exact this
 |beg m e hq=>
  obtain ⟨q1,q2⟩:=rU hq;have:=Is h hp hU need hnd hn hl m.toNat (by omega) e;rw [show ((m.toNat:Nat):Int)=m by omega] at this;exact this
 |blank=>exact Ba h hp hU need
 |hard=>exact DS h hp hU need
 |empty=>exact A9 h hp hU need
 | «end»=>
  cases ha:p.ar with
  |nil=>exact absurd ha (h7 rfl)
  |cons b r=>
   have:=Iq h need ha (by rw [ha] at hl;simp at hl;omega)
   have e:put n ⟨7,bE,0,0,false⟩ need p={ p with bl:=b,ar:=r }:=by
    show ({ p with bl:=p.ar.headD ⟨0,false,false⟩,ar:=p.ar.tail }:Pr)=_
    rw [ha];rfl
   rw [e];exact this
theorem C0 {B:Nat}{x:Sp}{r:List Sp}(h:TL B w gb ga s (x :: r)) (hs:Sb s) (hx:Sb x) (hB:B<=w.heap.size) (hn:r.length<=1000000000) (i:Int) (e:Bool) :
  Ra 80 #[.agg #[.int .u8 6,.string ⟨#[]⟩,.int .i64 0,.int .i64 i,.bool e],.pointer (some ⟨ga,0,none⟩),.pointer (some ⟨gb,0,none⟩)] w fun e w'=>TA B w gb ga (s.all,x.wid s.all,r) e w':=by
 have hnab:=h.ne;have gbl:=aq h.hb;have gal:ga<w.heap.size:=by obtain ⟨v,h1,_⟩:=h.ha;exact aq h1
 have b0:w.cell? ⟨gb,0,none⟩=some (.int .i64 s.all):=af h.hb rfl;have b1:w.cell? ⟨gb,1,none⟩=some (.int .i64 s.hang):=af h.hb rfl;have fb0:w.frozen? ⟨gb,0,none⟩=false:=am h.hb;have fb1:w.frozen? ⟨gb,1,none⟩=false:=am h.hb;have fa0:w.frozen? ⟨ga,0,none⟩=false:=by obtain ⟨v,h1,_⟩:=h.ha;exact am h1
 obtain ⟨b,cap,c1,c2,c3,c4,c5,⟨c6,c7,c8⟩,hp1,hp2⟩:=h.pop (hH _ _) hB;obtain ⟨W1,hW1⟩:∃W1,((w.setCell ⟨gb,0,none⟩ (.int .i64 x.all)).setCell ⟨gb,1,none⟩ (.int .i64 x.hang)).setCell ⟨ga,0,none⟩ (.slice (some ⟨b,0,none⟩) r.length cap)=W1:=⟨_,rfl⟩
 have HP:Hid (∀o,TL B (W1.alloc o).drew gb ga x r/\Bo B gb ga w (W1.alloc o).drew):=by
  intro o;rw [hW1] at hp1 hp2;exact ⟨hp1.below ((hH _ _).alloc (gt _) _).drew,hp2.trans (Bo.of_below ((hH _ _).alloc (gt _) _).drew)⟩
 have HW:Hid (∀W,Bo B gb ga w W->TL B W gb ga x r->Ra 81 #[.pointer (some ⟨gb,0,none⟩),.int .i64 s.all] W fun e w'=>e=.returned (.tuple #[])/\TL B w' gb ga (x.wid s.all) r/\Bo B gb ga W w'):=fun W hW hL=>im hL hx _ (by have:=hs.1;omega) (QQ hB hW.size)
 have hsa:s.all<=4097:=hs.1;clear h hs hx hB;have c3':cap<=9223372036854775807:=c3
 go_enter UB,Uh
 go_wp2_with fail
 go_region
 all_goals go_wp2_with fail
 refine (HW.out _ (HP.out _).2 (HP.out _).1).mono ?_;rintro e w2 ⟨rfl,h2,hb2⟩;have H2:Hid (TL B w2 gb ga (x.wid s.all) r/\Bo B gb ga w w2):=⟨h2,(HP.out _).2.trans hb2⟩;clear h2 hb2
 go_wp2_with fail
 go_ret
 exact ⟨rfl,H2.out.1,H2.out.2⟩
theorem da {B:Nat}{st:List Sp}(h:TL B w gb ga s st) (hs:Sb s) (hst:∀x∈st,Sb x) (hB:B<=w.heap.size) (hT:∀W,Kp (Sx B gb ga) w W->jF W) (hn:st.length<=1000000000) (d:Dc) (hd:rt d=true) (h6:d.k=6->st≠[]) :
  Ra 80 #[d.v,.pointer (some ⟨ga,0,none⟩),.pointer (some ⟨gb,0,none⟩)] w fun e w'=>TA B w gb ga (fE d (s,st)) e w':=by
 cases mj hd with
 |text t hq=>exact AB h hs hB hT t (mV hq).2
 |brk m hq=>
  obtain ⟨q1,q2⟩:=rU hq;have:=CZ h hs hB m.toNat (by omega);rw [show ((m.toNat:Nat):Int)=m by omega] at this;exact this
 |beg m e hq=>
  cases st with
  |nil=>exact absurd rfl (h6 rfl)
  |cons x r=>exact C0 h hs (hst x QN) hB (by simp at hn;omega) m e
 |blank=>exact wX h hs hB
 |hard=>exact qy h hs hB 4 (.inl rfl)
 |empty=>exact qy h hs hB 5 (.inr rfl)
 | «end»=>exact CY h hs hB hn
end Go.Proofs.YtjiepkenkcgkhaaGreatDoor.Lw
namespace Go.Proofs.YtjiepkenkcgkhaaGreatDoor.Lw
open Go.Proofs.YtjiepkenkcgkhaaGreatDoor.Lx
open Go.RowKit Go.Shelf
variable {w W W':World}{l:List Dc}{ao:Option Addr}{cap s j:Nat}
attribute [local go_sem] Oper.semAt_some
def O7 (F:Fence) (n:Nat) (P:Program) (gf:Nat) (lb:Array Value) (it:Nat->Array Value) (N:Nat) (G:World->Prop):Prop:=
 ∀(l:Nat) (J:Nat->World->Prop) (W:World),(∀j W,J j W->G W)->AbidesFrom W.heap.size J->(∀j W1,j<N->J j W1->YieldAt F (n-1) P l (it j) W1 fun e W'=>e=.returned (.bool true)/\J (j+1) W')->J 0 W ->
  CallsIn F n P gf (#[.func (.yield l) #[] #[]]++lb) W fun e W'=>(∃v,e=.returned v)/\J N W'
theorem At {F:Fence}{n:Nat}{P:Program}{g:Operand}{ps:Array Tmp}{assign body:Code}{Q:Exit->Act->World->Prop}{a:Act}(hro:F.round=none) (h1:1<=n) {gf:Nat}{lb:Array Value}(hg:a.eval g=.func (.func gf) #[] lb) (hF:F.fn gf)
  (eg:∀args w,(callFunc gf args).run P w=.ok (.enter gf args) w) {it:Nat->Array Value} {N:Nat} {G:World->Prop} (hit:O7 F (n-1) P gf lb it N G) (hps:∀j,(it j).size=ps.size)
  (I:Nat->World->Prop) (hI:OwnFrom w.heap.size I) (hG:∀j W,I j W->G W) (h0:I 0 w) (Ax:Nat->Act->World->Prop) (hAx:∀j a',OwnFrom w.heap.size (fun (_:Unit) W=>Ax j a' W))
  (hassign:∀(l j:Nat) (W:World) (K:Act->World->Prop),j<N->I j W->(∀a' W',KeepsFrom w.heap.size W W'->I j W'->Ax j a' W'->K a' W') ->
   assign.wpIn (F.inRound l) (n-1-1) P (Exit.then K (fun _ _ _=>False)) { tmps:=(ps.zip (it j)).foldl (fun t (p,v)=>t.setIfInBounds p v) a.tmps,defers:=[] } W)
  (hbody:∀(l j:Nat) (a':Act) (W:World),j<N->I j W->Ax j a' W->body.wpIn (F.inRound l) (n-1-1) P (fun e _ W'=>e=.normal/\KeepsFrom w.heap.size W W'/\I (j+1) W') a' W)
  (hdone:∀(D:Nat) (W:World),w.heap.size<=D->I N W->W.heap[D]?=some (.deferred (some []))->Q .normal { a with defers:={ target:=.collected D,args:=#[] } :: a.defers } W) :
  (Code.rangeFunc g ps assign body).wpIn F n P Q a w:=by
 refine wpIn_rangeFunc fun fn hfn=>?_
 rw [hro];obtain ⟨L,hL⟩:∃L:LoopState->Loop,∀st,L st={ state:=st,pending:=none,fn,tmps:=a.tmps,params:=ps,assign,body,defers:=w.heap.size }:=⟨_,fun _=>rfl⟩;have hent:=run_enterLoop_outer (P:=P) (w:=w) fn a.tmps ps assign body;rw [<-hL] at hent;obtain ⟨V,hV⟩:∃V,(w.alloc (.deferred (some []))).alloc (.loop (L .ready))=V:=⟨_,rfl⟩;rw [hV] at hent;have e1:(w.alloc (.deferred (some []))).heap.size=w.heap.size+1:=QL _ _;have vr:V.heap[w.heap.size+1]?=some (.loop (L .ready)):=by rw [<-hV,<-e1];exact au _ _
 have vd:V.heap[w.heap.size]?=some (.deferred (some [])):=by rw [<-hV];exact aI (au _ _) _
 have vs:w.heap.size+2<=V.heap.size:=by rw [<-hV,QL,e1];exact gt _
 have vi:I 0 V:=by rw [<-hV];exact hI.alloc _ (hI.alloc _ h0)
 refine ⟨w.heap.size+1,_,V,{ target:=.fn (.func gf) lb,args:=#[.func (.yield (w.heap.size+1)) #[] #[]] },V,gf,#[.func (.yield (w.heap.size+1)) #[] #[]]++lb,V,hent,?_,?_,?_,fun _=>h1,?_⟩
 ·simp only [resolve,hg];simp [go_sem]
 ·intro f' hf';simp [Target.leads] at hf';subst hf';exact hF
 ·simp [invoke,go_sem,eg]
 refine (hit (w.heap.size+1) (fun j W=>I j W/\W.heap[w.heap.size+1]?=some (.loop (L .ready))/\W.heap[w.heap.size]?=some (.deferred (some []))) V (fun j W h=>hG j W h.1) ?_ ?_ ⟨vi,vr,vd⟩).mono ?_
 ·intro j A B row hs hgr hr;refine ⟨hI j A B row hs.1 hgr fun r e=>?_,(grownBy_keeps hgr (fun r e=>(hr r e).2) hs.2.1 rfl).trans hs.2.1,(grownBy_keeps hgr (fun r e=>(hr r e).2) hs.2.2 rfl).trans hs.2.2⟩;obtain ⟨hb,o,ho,hw⟩:=hr r e;exact ⟨by omega,o,ho,Obj.not_cells_of_walk hw⟩
 ·rintro j W hj ⟨hi,hr,hd⟩;have hy:=run_yield (P:=P) (args:=it j) hr (by rw [hL];exact hps j);rw [hL] at hy;refine ⟨fn,_,assign,body,hy,roundIn_of_wpIn hfn (hassign _ j W _ hj hi ?_)⟩;intro a' W' hk hi' hax;have hr':=hk.same _ _ (by omega) hr rfl;have hd':=hk.same _ _ (gt _) hd rfl;have hlt:=aq hr';refine ⟨_,run_beginRound hr' (by rw [hL]),?_⟩;obtain ⟨W2,hW2⟩:∃W2,W'.putObj (w.heap.size+1) (.loop { L .ready with state:=.busy })=W2:=⟨_,rfl⟩;have r2:W2.heap[w.heap.size+1]?=some (.loop { L .ready with state:=.busy }):=by rw [<-hW2];exact World.putObj_heap_same hlt
  have d2:W2.heap[w.heap.size]?=some (.deferred (some [])):=by rw [<-hW2];exact (World.putObj_heap_other (by omega)).trans hd'
  have i2:I j W2:=by rw [<-hW2];exact hI.putObj _ hi' (by omega) hr' rfl
  have x2:Ax j a' W2:=by rw [<-hW2];exact (hAx j a').putObj (s:=()) _ hax (by omega) hr' rfl
  rw [hW2];refine wpIn_mono (hbody _ j a' W2 hj i2 x2) ?_;rintro e a3 W3 ⟨rfl,hk3,i3⟩;have r3:=hk3.same _ _ (by omega) r2 rfl;have d3:=hk3.same _ _ (gt _) d2 rfl;have hend:=run_endRound (P:=P) none r3;rw [hL] at hend;refine ⟨_,_,hend,rfl,hI.putObj _ i3 (by omega) r3 rfl,?_,(World.putObj_heap_other (by omega)).trans d3⟩;rw [World.putObj_heap_same (aq r3),hL];rfl
 ·rintro e W ⟨⟨v,rfl⟩,hi,hr,hd⟩;have hend:=run_endLoop (P:=P) hr (by rw [hL];simp);rw [hL] at hend;exact ⟨none,_,hend,hdone _ _ (gt _) (hI.putObj _ hi (by omega) hr rfl) ((World.putObj_heap_other (by omega)).trans hd)⟩
attribute [local go_sem] Oper.semAt_some
theorem tK (ao:Option Addr) (n cap:Nat) (w:World):Ra 35 #[.slice ao n cap] w fun e w'=>e=.returned (.func (.func 83) #[] #[.pointer (some ⟨w.heap.size,0,none⟩)])/\w'=w.alloc (.cells #[.slice ao n cap] 35):=by
 have hmf:=mkfn
 go_enter Tryz.func35,Tryz.ntmps35
 go_wp2_with fail
 go_ret
 exact ⟨rfl,rfl⟩
def zD:Dc:=⟨0,bE,0,0,false⟩
def Pf (l:List Dc) (j:Nat):Array Value:=#[.int .i64 ((l.length-1-j:Nat):Int),(l.getD (l.length-1-j) zD).v]
theorem dg {row:Option Nat}(hg:W.grownBy W' row) (hrow:∀r,row=some r->∃o:Obj,W.heap[r]?=some o/\o.isCells=false) {k:Nat}{cs:Array Value}{T:TypeId}{f:Nat × Nat}(h:W.heap[k]?=some (.cells cs T f)):W'.heap[k]?=some (.cells cs T f):=
 (grownBy_keeps_cells hg hrow h rfl).trans h
theorem qu (n:Nat) (hn:1<=n) (Bn:Nat) (ao:Option Addr) (l:List Dc) (cap:Nat) (hl:l.length<=1000000000000) :
  O7 Fence.wide n Tryz.prog 83 #[.pointer (some ⟨Bn,0,none⟩)] (Pf l) l.length (fun W=>W.cell? ⟨Bn,0,none⟩=some (.slice ao l.length cap)/\Lay W ao l):=by
 intro lp J W hG hA hY h0;refine callsIn_of_wp Tryz.func83 rfl trivial ?_ rfl;simp only [Tryz.ntmps83,Tw,List.length_cons,List.length_nil,Nat.reduceAdd,Nat.reduceSub,Tz,TB,T7,TJ,Rr,Rh];have g0:=(hG 0 W h0).1;have hln:(l.length:Int)<=1000000000000:=by omega
 gi_wp2
 gi_loopw [3] (fun i wr=>∃(j:Nat) (z:Int),i=.int .i64 z/\z=(l.length:Int)-1-j/\j<=l.length/\J j wr) (fun i _=>(intOf i+1).toNat)
 case atStart=>exact ⟨0,_,by go_num,by omega,QK _,h0⟩
 case round=>
  obtain ⟨j,z,rfl,hz,hj,hJ⟩:=hrel
  by_cases hlt:j<l.length
  ·obtain ⟨k,hk⟩:∃k:Nat,z=k:=⟨z.toNat,by omega⟩;subst hk;have hkl:k<l.length:=by omega
   have hkj:l.length-1-j=k:=by omega
   obtain ⟨d,hd⟩:∃d,l[k]?=some d:=⟨_,Pi hkl⟩;obtain ⟨gc,gL⟩:=hG j wr hJ;obtain ⟨ht,b,off,rfl,c0,c1,c2,c3,c4⟩:=gL k d hd;have q1:(0:Int)<=k:=by omega
   have q2:(k:Int)<l.length:=by omega
   have hit:Pf l j=#[.int .i64 (k:Int),d.v]:=by
    unfold Pf;rw [hkj,SP,hd];rfl
   obtain ⟨fn,tmps,assign,body,hy,hR⟩:=hY j wr hlt hJ;rw [hit] at hy
   dsimp only [Dc.v] at hy
   have HJ:Hid (l.length-1-j=k/\j<l.length):=⟨hkj,hlt⟩;clear hz hit hkj hlt hd
   gi_wp2
   refine hR.mono ?_;rintro e W3 ⟨rfl,hJ3⟩
   gi_wp2
   go_roundw
   case rel=>exact ⟨j+1,(k:Int)-1,by go_num,by have:=HJ.out;omega,by have:=HJ.out;omega,hJ3⟩
   case measure=>simp [RowKit.intOf]
  ·obtain rfl:j=l.length:=by omega
   have hz':z=-1:=by omega
   subst hz';clear hz
   gi_wp2
   go_end0
   exact ⟨⟨_,rfl⟩,hJ⟩
attribute [local go_sem] Oper.semAt_some
theorem wW (w:World):Ra 34 #[] w fun e w'=>e=.returned (.func (.func 80) #[] #[.pointer (some ⟨w.heap.size+1,0,none⟩),.pointer (some ⟨w.heap.size,0,none⟩)])/\w'=(w.alloc (.cells #[.int .i64 0,.int .i64 0] 157)).alloc (.cells #[.slice none 0 0] 158):=by
 have hmf:=mkfn
 go_enter Tryz.func34,Tryz.ntmps34
 go_wp2_with fail
 go_ret
 exact ⟨rfl,rfl⟩
def ni (l:List Nat):List Value:=l.map fun (x:Nat)=>Value.int .i64 (x:Int)
theorem Mn (l:List Nat):(ni l).length=l.length:=by simp [ni]
def Eo (l:List Dc) (i:Nat):List Nat:=List.replicate i 0++(eF (l.drop i)).1
theorem IZ (l:List Dc) (i:Nat) (hi:i<=l.length):(Eo l i).length=l.length:=by simp [Eo,kx];omega
theorem IY (l:List Dc) (i:Nat) (d:Dc) (hd:l[i]?=some d):(Eo l (i+1)).set i (fE d (eF (l.drop (i+1))).2).1=Eo l i:=by
 obtain ⟨h1,h2⟩:=QT.1 hd;unfold Eo;rw [RF h1,h2,List.replicate_succ',QM,List.set_append_right _ _ (by simp)];simp [eF]
theorem Oo (N:Nat) (hN:N<=100000000) (w:World):(Instr.makeSlice 60 (.int .i64 (N:Int)) (.int .i64 (N:Int))).run Tryz.prog w=.ok (.slice (some ⟨w.heap.size,0,none⟩) N N) (w.alloc (.cells (ni (List.replicate N 0)).toArray 3)):=by
 obtain ⟨i0,hi,hz0,hz1,hz2⟩:=Sa Tryz.info3;have h:=run_make (P:=Tryz.prog) w 60 3 i0 (.int .i64 0) Tryz.underlying60 hi hz0 .i64 .i64 (N:Int) (N:Int) (by omega) (by omega) (by rw [hz2];omega) (by omega);rw [h]
 congr 4
 rw [hz1]
 apply SQ.1
 show (madeCells #[.int .i64 0] _).toList=_
 rw [toList_madeCells_one];simp [ni]
structure NI (w:World) (l:List Dc) (ao:Option Addr) (cap:Nat) (s j:Nat) (W:World):Prop where
 bel:Below s w W
 row:W.heap[s]?=some (.cells (ni (Eo l (l.length-j))).toArray 3 (0,0))
 box:W.heap[s+1]?=some (.cells #[.slice (some ⟨s,0,none⟩) l.length l.length] 60 (0,0))
 tl:TL (s+1+1+1+1+1+1) W (s+1+1) (s+1+1+1) (eF (l.drop (l.length-j))).2.1 (eF (l.drop (l.length-j))).2.2
 fn:W.heap[s+1+1+1+1]?=some (.cells #[.func (.func 80) #[] #[.pointer (some ⟨s+1+1+1,0,none⟩),.pointer (some ⟨s+1+1,0,none⟩)]] 98 (0,0))
 bn:W.heap[s+1+1+1+1+1]?=some (.cells #[.slice ao l.length cap] 35 (0,0))
theorem TL.own {B:Nat}{gb ga:Nat}{s:Sp}{st:List Sp}{row:Option Nat}(h:TL B W gb ga s st) (hg:W.grownBy W' row) (hrow:∀r,row=some r->∃o:Obj,W.heap[r]?=some o/\o.isCells=false):TL B W' gb ga s st:=by
 obtain ⟨v,h1,h2,h3⟩:=h.ha;refine ⟨dg hg hrow h.hb,⟨v,dg hg hrow h1,⟨h2.1,?_⟩,h3⟩⟩
 rcases h2.2 with h4|⟨g,cap,cur,rfl,a1,a2,a3⟩
 ·exact .inl h4
 ·exact .inr ⟨g,cap,cur,rfl,a1,dg hg hrow a2,a3⟩
theorem NI.own {row:Option Nat}(h:NI w l ao cap s j W) (hs:s<=w.heap.size) (hg:W.grownBy W' row) (hrow:∀r,row=some r->s<=r/\∃o:Obj,W.heap[r]?=some o/\o.isCells=false):NI w l ao cap s j W':=
 have hr:=fun r e=>(hrow r e).2
 ⟨h.bel.grown hg (QQ hs h.bel.size) (fun k e=>(hrow k e).1),dg hg hr h.row,dg hg hr h.box,h.tl.own hg hr,dg hg hr h.fn,dg hg hr h.bn⟩
theorem El (w:World) (l:List Dc) (ao:Option Addr) (cap s:Nat) (hs:w.heap.size=s):NI w l ao cap s 0 ((((((w.alloc (.cells (ni (List.replicate l.length 0)).toArray 3)).alloc (.cells #[.slice (some ⟨s,0,none⟩) l.length l.length] 60)).alloc (.cells #[.int .i64 0,.int .i64 0] 157)).alloc (.cells #[.slice none 0 0] 158)).alloc (.cells #[.func (.func 80) #[] #[.pointer (some ⟨s+1+1+1,0,none⟩),.pointer (some ⟨s+1+1,0,none⟩)]] 98)).alloc (.cells #[.slice ao l.length cap] 35))/\((((((w.alloc (.cells (ni (List.replicate l.length 0)).toArray 3)).alloc (.cells #[.slice (some ⟨s,0,none⟩) l.length l.length] 60)).alloc (.cells #[.int .i64 0,.int .i64 0] 157)).alloc (.cells #[.slice none 0 0] 158)).alloc (.cells #[.func (.func 80) #[] #[.pointer (some ⟨s+1+1+1,0,none⟩),.pointer (some ⟨s+1+1,0,none⟩)]] 98)).alloc (.cells #[.slice ao l.length cap] 35)).heap.size=s+1+1+1+1+1+1:=by
 subst hs;have e0:eF (l.drop (l.length-0))=([],⟨0,0⟩,[]):=by rw [R9 (by omega)];rfl
 have e1:Eo l (l.length-0)=List.replicate l.length 0:=by unfold Eo;rw [e0];simp
 refine ⟨⟨?_,?_,?_,⟨?_,.slice none 0 0,?_,?_,fun k hk=>by cases hk⟩,?_,?_⟩,?_⟩
 ·refine (((((Uz ?_ ?_ _).alloc ?_ _).alloc ?_ _).alloc ?_ _).alloc ?_ _).alloc ?_ _
  ·exact hH _ _
  all_goals first|exact gt _|(simp only [QL];omega)
 ·rw [e1];exact aI (aI (aI (aI (aI (au _ _) _) _) _) _) _
 ·have:=au (w.alloc (.cells (ni (List.replicate l.length 0)).toArray 3)) (.cells #[.slice (some ⟨w.heap.size,0,none⟩) l.length l.length] 60);rw [QL] at this;exact aI (aI (aI (aI this _) _) _) _
 ·rw [e0];have:=au ((w.alloc (.cells (ni (List.replicate l.length 0)).toArray 3)).alloc (.cells #[.slice (some ⟨w.heap.size,0,none⟩) l.length l.length] 60)) (.cells #[.int .i64 0,.int .i64 0] 157);rw [QL,QL] at this;exact aI (aI (aI this _) _) _
 ·have:=au (((w.alloc (.cells (ni (List.replicate l.length 0)).toArray 3)).alloc (.cells #[.slice (some ⟨w.heap.size,0,none⟩) l.length l.length] 60)).alloc (.cells #[.int .i64 0,.int .i64 0] 157)) (.cells #[.slice none 0 0] 158);rw [QL,QL,QL] at this;exact aI (aI this _) _
 ·rw [e0];exact RR _ _ _ _
 ·have:=au ((((w.alloc (.cells (ni (List.replicate l.length 0)).toArray 3)).alloc (.cells #[.slice (some ⟨w.heap.size,0,none⟩) l.length l.length] 60)).alloc (.cells #[.int .i64 0,.int .i64 0] 157)).alloc (.cells #[.slice none 0 0] 158)) (.cells #[.func (.func 80) #[] #[.pointer (some ⟨w.heap.size+1+1+1,0,none⟩),.pointer (some ⟨w.heap.size+1+1,0,none⟩)]] 98);rw [QL,QL,QL,QL] at this;exact aI this _
 ·have:=au (((((w.alloc (.cells (ni (List.replicate l.length 0)).toArray 3)).alloc (.cells #[.slice (some ⟨w.heap.size,0,none⟩) l.length l.length] 60)).alloc (.cells #[.int .i64 0,.int .i64 0] 157)).alloc (.cells #[.slice none 0 0] 158)).alloc (.cells #[.func (.func 80) #[] #[.pointer (some ⟨w.heap.size+1+1+1,0,none⟩),.pointer (some ⟨w.heap.size+1+1,0,none⟩)]] 98)) (.cells #[.slice ao l.length cap] 35);rw [QL,QL,QL,QL,QL] at this;exact this
 ·simp only [QL]
theorem vE:∀(l:List Dc) (o:Int) (j:Nat),0<=o->cy o j l=none->∀i,∃o',0<=o'/\cy o' (j+i) (l.drop i)=none
 |l,o,j,ho,h,0=>⟨o,ho,by simpa using h⟩
 |[],o,j,ho,h,i+1=>⟨0,Sn _,by simp [cy]⟩
 |d :: r,o,j,ho,h,i+1=>by
  simp only [cy] at h
  split at h
  ·rename_i hc
   obtain ⟨o',h1,h2⟩:=vE r _ _ hc.2 h i;refine ⟨o',h1,?_⟩;rw [show j+(i+1)=j+1+i by omega];exact h2
  ·cases h
theorem zo:∀l,(eF l).2.2.length<=l.length
 |[]=>by simp [eF]
 |d :: r=>by
  have:=zo r;show (fE d (eF r).2).2.2.length<=r.length+1;unfold fE
  repeat' split
  all_goals simp
  all_goals omega
theorem xF {w':World}(h:Below w.heap.size w w'):w.grownBy w' none:=⟨h.os,h.tape,h.output,h.size,fun k hk _=>h.block k hk⟩
theorem NI.below (h:NI w l ao cap s j W) (hs:s<=w.heap.size) (hb:Below W.heap.size W W'):NI w l ao cap s j W':=h.own hs (xF hb) (fun r e=>by cases e)
theorem Mm (l:List Nat) (i x:Nat):(ni l).toArray.setIfInBounds i (.int .i64 x)=(ni (l.set i x)).toArray:=by
 simp [ni,List.map_set]
theorem NI.next {w1:World}{i:Nat}{d:Dc}(h:NI w l ao cap s j W) (hd:l[i]?=some d) (hj:l.length-j=i+1) (hj2:l.length-(j+1)=i)
  (h1:TL (s+1+1+1+1+1+1) w1 (s+1+1) (s+1+1+1) (fE d (eF (l.drop (i+1))).2).2.1 (fE d (eF (l.drop (i+1))).2).2.2) (h2:Bo (s+1+1+1+1+1+1) (s+1+1) (s+1+1+1) W w1) :
  NI w l ao cap s (j+1) (w1.setCell ⟨s,i,none⟩ (.int .i64 (fE d (eF (l.drop (i+1))).2).1)):=by
 have hk:=h2.1
 have hn:∀k,k<s+1+1\/k=s+1+1+1+1\/k=s+1+1+1+1+1->¬Sx (s+1+1+1+1+1+1) (s+1+1) (s+1+1+1) k:=by
  intro k hk hS;unfold Sx at hS;omega
 have e:eF (l.drop i)=((fE d (eF (l.drop (i+1))).2).1 :: (eF (l.drop (i+1))).1,(fE d (eF (l.drop (i+1))).2).2):=by
  obtain ⟨a1,a2⟩:=QT.1 hd;rw [RF a1,a2];rfl
 have ks:=Kp.set w1 s i (.int .i64 ((fE d (eF (l.drop (i+1))).2).1:Nat));have r0:=hk.blk h.row (hn s (by omega));obtain ⟨v,t1,t2,t3⟩:=h1.ha;refine ⟨?_,?_,?_,⟨?_,v,?_,?_,t3⟩,?_,?_⟩
 ·exact TZ ⟨hk.os.trans h.bel.os,hk.tape.trans h.bel.tape,hk.output.trans h.bel.output,QQ h.bel.size hk.size,fun k h1=>(hk.block k (by have:=aq h.row;omega) (hn k (by omega))).trans (h.bel.block k h1)⟩ (p:=⟨s,i,none⟩) (gt _) _
 ·rw [hj2,<-IY l i d hd,<-Mm,<-hj];exact aj r0 i _
 ·exact aX (hk.blk h.box (hn _ (by omega))) (by omega) _
 ·rw [hj2,e];exact aX h1.hb (by omega) _
 ·exact aX t1 (by omega) _
 ·rw [hj2,e];exact ks.row t2 (fun k e1 e2=>by have:=(t3 k e1).1;omega)
 ·exact aX (hk.blk h.fn (hn _ (by omega))) (by omega) _
 ·exact aX (hk.blk h.bn (hn _ (by omega))) (by omega) _
theorem Bs (ao:Option Addr) (l:List Dc) (cap:Nat) (w:World) (hL:Lay w ao l) (hT:jF w) (hn:l.length<=100000000) (hf:cy 0 0 l=none) :
  Ra 16 #[.slice ao l.length cap] w fun e w'=>e=.returned (.slice (some ⟨w.heap.size,0,none⟩) l.length l.length)/\w'.heap[w.heap.size]?=some (.cells (ni (eF l).1).toArray 3 (0,0))/\Below w.heap.size w w':=by
 refine (S9 (n:=9)).1 ?_;refine callsIn_of_wp_marks Tryz.func16 rfl trivial ?_ rfl;simp only [Tryz.ntmps16,Tw,List.length_cons,List.length_nil,Nat.reduceAdd,Nat.reduceSub,Tz,TB,T7,TJ,Rr,Rh];have hmk:=Oo l.length hn
 gi_wp2
 refine ⟨trivial,?_⟩;refine (S9.2 (wW _)).mono ?_;rintro e w1 ⟨rfl,rfl⟩
 gi_wp2
 refine ⟨trivial,?_⟩;refine (S9.2 (tK _ _ _ _)).mono ?_;rintro e w1 ⟨rfl,rfl⟩
 gi_wp2
 obtain ⟨s,hs⟩:∃s,w.heap.size=s:=⟨_,rfl⟩;rw [hs];obtain ⟨W0,hW0⟩:∃W0,(((((w.alloc (.cells (ni (List.replicate l.length 0)).toArray 3)).alloc (.cells #[.slice (some ⟨s,0,none⟩) l.length l.length] 60)).alloc (.cells #[.int .i64 0,.int .i64 0] 157)).alloc (.cells #[.slice none 0 0] 158)).alloc (.cells #[.func (.func 80) #[] #[.pointer (some ⟨s+1+1+1,0,none⟩),.pointer (some ⟨s+1+1,0,none⟩)]] 98)).alloc (.cells #[.slice ao l.length cap] 35)=W0:=⟨_,rfl⟩
 have h0:NI w l ao cap s 0 W0/\W0.heap.size=s+1+1+1+1+1+1:=by
  rw [<-hW0];exact El w l ao cap s hs
 rw [hW0];clear hW0;have hsz:=h0.2
 refine At rfl (by omega) (gf:=83) (lb:=#[.pointer (some ⟨s+1+1+1+1+1,0,none⟩)]) rfl trivial (enters_of Tryz.func83 (by kernel_rfl) rfl) (qu 8 (by omega) (s+1+1+1+1+1) ao l cap (by omega)) (fun j=>rfl) (fun j W=>NI w l ao cap s j W)
  (fun j A B row h hg hr=>h.own (by omega) hg (fun r e=>⟨by have:=(hr r e).1;omega,(hr r e).2⟩)) (fun j W h=>⟨af h.bn rfl,hL.below (by rw [hs];exact h.bel)⟩) h0.1
  (fun j a' W=>∃Bx,W.heap[Bx]?=some (.cells (l.getD (l.length-1-j) zD).cs.toArray 71 (0,0))/\a'={ tmps:=#[.slice ao l.length cap,undef,.slice none 0 0,.pointer (some ⟨s+1,0,none⟩),.pointer (some ⟨s+1+1+1+1,0,none⟩),.int .i64 ((l.length-1-j:Nat):Int),.pointer (some ⟨Bx,0,none⟩),.slice ao l.length cap,.int .i64 (l.length:Int),.slice (some ⟨s,0,none⟩) l.length l.length,.func (.func 80) #[] #[.pointer (some ⟨s+1+1+1,0,none⟩),.pointer (some ⟨s+1+1,0,none⟩)],.slice ao l.length cap,.func (.func 83) #[] #[.pointer (some ⟨s+1+1+1+1+1,0,none⟩)],.int .i64 ((l.length-1-j:Nat):Int),(l.getD (l.length-1-j) zD).v,undef,undef,undef,undef,undef,undef,undef],defers:=[] })
  (fun j a' u A B row h hg hr=>by obtain ⟨Bx,h1,h2⟩:=h;exact ⟨Bx,dg hg (fun r e=>(hr r e).2) h1,h2⟩) ?assign ?body ?done
 case assign=>
  intro lp j W K hj hi hK
  dsimp only [Pf,Dc.v]
  gi_wp2
  exact hK _ _ ((KeepsOthers.alloc _ _).from _) (hi.below (by omega) ((hH _ _).alloc (gt _) _)) ⟨W.heap.size,au _ _,rfl⟩
 case body=>
  rintro lp j a' W hj hi ⟨Bx,hBx,rfl⟩;obtain ⟨i,hie⟩:∃i,l.length-1-j=i:=⟨_,rfl⟩;have hil:i<l.length:=by omega
  obtain ⟨d,hd⟩:∃d,l[i]?=some d:=⟨_,Pi hil⟩;have hdd:l.getD i zD=d:=by rw [SP,hd];rfl
  rw [hie,hdd] at hBx ⊢;have hj1:l.length-j=i+1:=by omega
  have hj2:l.length-(j+1)=i:=by omega
  have hrd:rt d=true:=sQ l 0 0 hf d (RU hd);have hi2:=hi.below (by omega) (hH _ W).drew;have htl:=hi2.tl;rw [hj1] at htl;obtain ⟨b1,b2,b3⟩:=xA (l.drop (i+1))
  have h6:d.k=6->(eF (l.drop (i+1))).2.2≠[]:=by
   intro hk;obtain ⟨o,ho,hfo⟩:=vE l 0 0 (Sn _) hf i;obtain ⟨a1,a2⟩:=QT.1 hd;rw [RF a1,a2] at hfo;simp only [cy] at hfo
   split at hfo
   ·rename_i hc
    have:=uX _ _ _ hc.2 hfo;intro hnil;rw [hnil,hk] at this;have e6:dh 6=1:=rfl;rw [e6] at this;simp at this;omega
   ·cases hfo
  have hsW:=aq hi.bn
  have HTELL:Hid (Ra 80 #[.agg #[.int .u8 d.k,.string d.t,.int .i64 d.b,.int .i64 d.i,.bool d.e],.pointer (some ⟨s+1+1+1,0,none⟩),.pointer (some ⟨s+1+1,0,none⟩)] W.drew fun e w'=>TA (s+1+1+1+1+1+1) W.drew (s+1+1) (s+1+1+1) (fE d (eF (l.drop (i+1))).2) e w'):=
   da htl b2 b3 (by show _<=W.heap.size;omega) (fun W' hW'=>hT.below ⟨hW'.os.trans hi2.bel.os,hW'.tape.trans hi2.bel.tape,hW'.output.trans hi2.bel.output,QQ hi2.bel.size hW'.size,fun k h1=>(hW'.block k (Q1 h1 hi2.bel.size) (fun hS=>by unfold Sx at hS;omega)).trans (hi2.bel.block k (by omega))⟩) (by have:=zo (l.drop (i+1));simp at this;omega) d hrd h6
  have HN:Hid (∀w1,TL (s+1+1+1+1+1+1) w1 (s+1+1) (s+1+1+1) (fE d (eF (l.drop (i+1))).2).2.1 (fE d (eF (l.drop (i+1))).2).2.2->Bo (s+1+1+1+1+1+1) (s+1+1) (s+1+1+1) W.drew w1->NI w l ao cap s (j+1) (w1.setCell ⟨s,i,none⟩ (.int .i64 (fE d (eF (l.drop (i+1))).2).1))/\∀B,KeepsFrom B W (w1.setCell ⟨s,i,none⟩ (.int .i64 (fE d (eF (l.drop (i+1))).2).1))):=
   fun w1 t1 t2=>⟨hi2.next hd hj1 hj2 t1 t2,fun B=>(((KeepsOthers.drew _).trans t2.2).trans (KeepsOthers.setCell _ _ _)).from B⟩
  have hrw:=hi.row;rw [hj1] at hrw;obtain ⟨zc,hzc⟩:∃v,(ni (Eo l (i+1))).toArray[i]?=some v:=⟨_,Sc (by simp [Mn,IZ l (i+1) (by omega)];omega)⟩
  have HR:Hid (∀w1,Bo (s+1+1+1+1+1+1) (s+1+1) (s+1+1+1) W.drew w1->w1.cell? ⟨s,i,none⟩=some zc/\w1.frozen? ⟨s,i,none⟩=false/\w1.cell? ⟨s+1,0,none⟩=some (.slice (some ⟨s,0,none⟩) l.length l.length)):=by
   intro w1 t2;have r1:w1.heap[s]?=_:=t2.1.blk (w:=W.drew) hrw (fun hS=>by unfold Sx at hS;omega);have r2:w1.heap[s+1]?=_:=t2.1.blk (w:=W.drew) hi.box (fun hS=>by unfold Sx at hS;omega);exact ⟨af r1 hzc,am r1,af r2 rfl⟩
  have c1:=af (k:=0) hi.box rfl;have c2:=af (k:=0) hi.fn rfl;have x0:W.cell? ⟨Bx,0,none⟩=some (.int .u8 d.k):=af hBx rfl;have x1:W.cell? ⟨Bx,1,none⟩=some (.string d.t):=af hBx rfl;have x2:W.cell? ⟨Bx,2,none⟩=some (.int .i64 d.b):=af hBx rfl;have x3:W.cell? ⟨Bx,3,none⟩=some (.int .i64 d.i):=af hBx rfl;have x4:W.cell? ⟨Bx,4,none⟩=some (.bool d.e):=af hBx rfl;have q1:(i:Int)<l.length:=by omega
  have q2:(0:Int)<=i:=by omega
  have q3:i<l.length:=hil;clear htl b1 b2 b3 h6 hrw hzc hi2 hi hBx hdd hd hie hrd hj1 hj2 hj
  dsimp only [Dc.v]
  generalize (fE d (eF (l.drop (i+1))).2)=T at *
  have hmx:Tryz.prog.follows .mixedOrders=true:=by kernel_rfl
  gi_wp2
  gi_region_with_o (refine ⟨trivial,?_⟩;gi_at_call 80;refine (CallsIn.inRound lp (S9.2 HTELL.out)).mono ?_;rintro e w1 ⟨rfl,t1,t2⟩;obtain ⟨y1,y2,y3⟩:=HR.out _ t2)
  all_goals gi_wp2
  all_goals (try go_bits)
  all_goals exact ⟨(HN.out _ t1 t2).2 _,(HN.out _ t1 t2).1⟩
 case done=>
  intro D W hD hi hK;have hrow:=hi.row;rw [show l.length-l.length=0 by omega] at hrow;have e0:Eo l 0=(eF l).1:=by simp [Eo]
  rw [e0] at hrow;have c1:=af (k:=0) hi.box rfl
  gi_wp2
  have hKD:D≠s:=by omega
  refine ⟨by simp,.inl ⟨_,_,rfl,run_takeDeferred hK,?_⟩⟩;refine ⟨.slice (some ⟨s,0,none⟩) l.length l.length,by simp [results,Tryz.f16,go_sem],by rw [hs],?_,?_⟩
  ·rw [hs];exact (World.putObj_heap_other hKD.symm).trans hrow
  ·rw [hs];exact hi.bel.trans (belowK_b (w:=w) (by omega) W D _ _ (by omega) hK rfl rfl)
end Go.Proofs.YtjiepkenkcgkhaaGreatDoor.Lw
