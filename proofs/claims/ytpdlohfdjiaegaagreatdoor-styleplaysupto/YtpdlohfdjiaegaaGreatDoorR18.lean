import Derived.BigRegion
import Derived.Test.YtpdlohfdjiaegaaGreatDoorR17
set_option linter.unusedVariables false
set_option linter.unusedSimpArgs false
set_option maxHeartbeats 1000000
set_option maxRecDepth 100000
namespace Go.Proofs.YtpdlohfdjiaegaaGreatDoor.Lw
open Go.Proofs.YtpdlohfdjiaegaaGreatDoor.Lx
open Go.RowKit
variable {B n g gs sz gb ga:Nat}{W w0 w:World}{p:Pr}{s:Sp}
theorem nQ {β:Type}{enc:β->List Value}(hsz:∀x,(enc x).length=sz) {w:World}{e:Nat}{v:Value}{r:List β}{x:β}(h:w.ownsRow 0 e sz v (x :: r).length (aN enc (x :: r).reverse)) :
  ∃b cap,v=.slice (some ⟨b,0,none⟩) (r.length+1) cap/\r.length+1<=cap/\cap<=maxLen/\w.ownsRow 0 e sz (.slice (some ⟨b,0,none⟩) r.length cap) r.length (aN enc r.reverse)/\(∀j u,(enc x)[j]?=some u->w.cell? ⟨b,r.length*sz+j,none⟩=some u)/\∃cur,w.heap[b]?=some (.cells cur e (0,0)):=by
 have hcs:=fun b hb=>h.cells (g:=b) hb
 rcases h.2 with ⟨h1,h2⟩|⟨b,cap,cur,rfl,h2,h3,h4,h5,h6,h7⟩
 ·simp at h2
 ·have hr:(x :: r).reverse=r.reverse++[x]:=by simp
  rw [hr] at h7;refine ⟨b,cap,rfl,h4,h5,⟨?_,.inr ⟨b,cap,cur,rfl,h2,h3,?_,h5,h6,?_⟩⟩,?_,cur,h3⟩
  ·rw [cN enc sz hsz,AE]
  ·simp at h4;omega
  ·have:cur.toList.take (r.length*sz)=(cur.toList.take ((x :: r).length*sz)).take (r.length*sz):=by
    rw [B4,BW (CS _ (by simp))]
   rw [this,h7,bB,AF (by rw [cN enc sz hsz,AE];exact eq _),Ak (by rw [cN enc sz hsz,AE];exact eq _)]
  ·intro j u hj
   have h8:(aN enc (x :: r).reverse)[r.length*sz+j]?=some u:=by
    rw [hr];refine aD enc sz hsz _ _ _ x u ?_ hj;rw [zR (by simp)];simp
   have:=hcs b rfl _ u h8;rw [AM,zC] at this;exact this
theorem pi {e k:Nat}{v:Value}{xs:List Value}(h:w.ownsRow 0 e sz v n xs) (hk:v.ownBlock=some k):∀o,w.heap[k]?=some o->o.isCells=true:=by
 rcases h.2 with ⟨rfl,_⟩|⟨b,cap,cur,rfl,_,h3,_⟩
 ·cases hk
 ·cases hk;exact cA h3
theorem TL.push {B:Nat}{w W w2:World}{gb ga:Nat}{s:Sp}{st:List Sp}{v v2:Value}(h:TL B w gb ga s st) (hW:Below w.heap.size w W) (hB:B<=w.heap.size) (h1:W.heap[ga]?=some (.cells #[v] 217 (0,0))) (h2:∀k,v.ownBlock=some k->B<=k/\k≠gb) (ho:W.ownsRow 0 216 2 v st.length (aN spc st.reverse))
  (ho2:w2.ownsRow 0 216 2 v2 (st.length+1) (aN spc st.reverse++spc s)) (hg:W.grownBy w2 v.ownBlock) (hat:v2.ownBlock=v.ownBlock\/v2.ownBlock=some W.heap.size) :
  TL B (((w2.setCell ⟨ga,0,none⟩ v2).setCell ⟨gb,0,none⟩ (.int .i64 0)).setCell ⟨gb,1,none⟩ (.int .i64 0)) gb ga ⟨0,0⟩ (s :: st)/\Bo B gb ga w (((w2.setCell ⟨ga,0,none⟩ v2).setCell ⟨gb,0,none⟩ (.int .i64 0)).setCell ⟨gb,1,none⟩ (.int .i64 0)):=by
 have hne:=h.ne;have hk:=Kp.of_grown hg;have hgb:=ab h.hb hW;have r1:=ay ho h1 (by decide);have g1:w2.heap[ga]?=some (.cells #[v] 217 (0,0)):=hk.blk h1 (fun e=>r1 e.symm);have g2:w2.heap[gb]?=some (.cells #[.int .i64 s.all,.int .i64 s.hang] 216 (0,0)):=hk.blk hgb (fun e=>(h2 gb e.symm).2 rfl);have r2:=ay ho2 g1 (by decide);have gbl:=ah hgb
 have hv2:∀k,v2.ownBlock=some k->B<=k/\k≠gb:=by
  intro k hk
  rcases hat with e|e
  ·exact h2 k (by rw [<-e];exact hk)
  ·rw [e] at hk;injection hk with hk
   subst hk;exact ⟨zr hB hW.size,by omega⟩
 have k1:=Kp.set w2 ga 0 v2;have k2:=Kp.set (w2.setCell ⟨ga,0,none⟩ v2) gb 0 (.int .i64 0);have k3:=Kp.set ((w2.setCell ⟨ga,0,none⟩ v2).setCell ⟨gb,0,none⟩ (.int .i64 0)) gb 1 (.int .i64 0);refine ⟨⟨?_,⟨v2,?_,?_,hv2⟩⟩,?_⟩
 ·exact af (af (aS g2 (Ne.symm hne) _) 0 _) 1 _
 ·exact aS (aS (af g1 0 _) hne _) hne _
 ·refine k3.row (k2.row (k1.row ?_ (fun k e1 e2=>r2 (by rw [e1,e2]))) (fun k e1 e2=>(hv2 k e1).2 e2)) (fun k e1 e2=>(hv2 k e1).2 e2)
  have:aN spc (s :: st).reverse=aN spc st.reverse++spc s:=by
   rw [AA,bB];simp [aN]
  rw [this];exact ho2
 ·have b0:Kp (Sx B gb ga) w w2:=(Kp.of_below hW).step hk (fun k _ e=>.inr (.inr (h2 k e.symm).1));refine ⟨((b0.step k1 (fun k _ e=>.inr (.inl e))).step k2 (fun k _ e=>.inl e)).step k3 (fun k _ e=>.inl e),?_⟩;have o1:KeepsOthers W w2:=eD hk (fun k e=>pi ho e.symm);have o2:=eD k1 (fun k e=>by subst e;exact cA g1);have o3:=eD k2 (fun k e=>by subst e;exact cA (aS g2 (Ne.symm hne) _));have o4:=eD k3 (fun k e=>by subst e;exact cA (af (aS g2 (Ne.symm hne) _) 0 _));exact (eE hW).trans (o1.trans (o2.trans (o3.trans o4)))
theorem qX {st:List Sp}(h:TL B w gb ga s st) (hs:Sb s) (hB:B<=w.heap.size) (hn:st.length<=1000000000) :
  Aa 153 #[.agg #[.int .u8 7,.string ⟨#[]⟩,.int .i64 0,.int .i64 0,.bool false],.pointer (some ⟨ga,0,none⟩),.pointer (some ⟨gb,0,none⟩)] w fun e w'=>TA B w gb ga (0,⟨0,0⟩,s :: st) e w':=by
 obtain ⟨i0,hi,hz0,hz1,hz2⟩:=Az Tryz.info216;obtain ⟨v,h1,h2,h3⟩:=h.ha;have gal:=ah h1;have gbl:=ah h.hb;have hnab:=h.ne;have a0:w.cell? ⟨ga,0,none⟩=some v:=aa h1 rfl;have b0:w.cell? ⟨gb,0,none⟩=some (.int .i64 s.all):=aa h.hb rfl;have b1:w.cell? ⟨gb,1,none⟩=some (.int .i64 s.hang):=aa h.hb rfl;obtain ⟨p,cap,rfl,_,_⟩:=av h2;have hbW:Below w.heap.size w ((w.alloc (.cells #[.int .u8 7,.string ⟨#[]⟩,.int .i64 0,.int .i64 0,.bool false] 57)).alloc (.cells #[.int .i64 s.all,.int .i64 s.hang] 216)):=((gt _ _).alloc (eq _) _).alloc (by rw [ge];omega) _;have hs2:(w.alloc (.cells #[.int .u8 7,.string ⟨#[]⟩,.int .i64 0,.int .i64 0,.bool false] 57)).heap.size=w.heap.size+1:=ge _ _
 go_enter CE,Co
 go_wp2_with (first|(at_builtin;refine AL (P:=Tryz.prog) (w:=(w.alloc (.cells #[.int .u8 7,.string ⟨#[]⟩,.int .i64 0,.int .i64 0,.bool false] 57)).alloc (.cells #[.int .i64 s.all,.int .i64 s.hang] 216)) rfl _ _ 217 rfl 0 216 i0 (.agg #[.int .i64 0,.int .i64 0]) 2 16 Tryz.underlying217 hi hz0 hz1 hz2 rfl (by decide) _ _ _ rfl (aE h2 hbW) ⟨w.heap.size+1,0,none⟩ 1 1 (spc s) rfl rfl ?c1 ?c2 ?c3 ?c4 ?c5 ?_))
 case c1=>exact dZ _ _ _ _ _ hs2.symm
 case c2=>intro u hu;simp [spc] at hu;rcases hu with rfl|rfl <;> rfl
 case c3=>unfold maxLen;omega
 case c4=>omega
 case c5=>omega
 intro v2 w2 ho2 hg2 _ hat;obtain ⟨k1,k2⟩:=h.push hbW hB (ab h1 hbW) h3 (aE h2 hbW) ho2 hg2 (by rw [ge,hs2];exact hat);have hk:=Kp.of_grown hg2;have r1:=ay h2 h1 (by decide);have g1:w2.heap[ga]?=some (.cells #[.slice p st.length cap] 217 (0,0)):=hk.blk (ab h1 hbW) (fun e=>r1 e.symm);have g2:w2.heap[gb]?=some (.cells #[.int .i64 s.all,.int .i64 s.hang] 216 (0,0)):=hk.blk (ab h.hb hbW) (fun e=>(h3 gb e.symm).2 rfl);have x0:=aa (k:=0) g1 rfl;have x1:=aj (k:=0) g1;have y0:=aa (k:=0) g2 rfl;have y1:=aa (k:=1) g2 rfl;have y2:=aj (k:=0) g2;have y3:=aj (k:=1) g2;have HE:Hid (TL B (((w2.setCell ⟨ga,0,none⟩ v2).setCell ⟨gb,0,none⟩ (.int .i64 0)).setCell ⟨gb,1,none⟩ (.int .i64 0)) gb ga ⟨0,0⟩ (s :: st)/\Bo B gb ga w (((w2.setCell ⟨ga,0,none⟩ v2).setCell ⟨gb,0,none⟩ (.int .i64 0)).setCell ⟨gb,1,none⟩ (.int .i64 0))):=⟨k1,k2⟩;obtain ⟨p2,cap2,rfl,_,_⟩:=av ho2;clear k1 k2 hk g1 g2 hg2 hat ho2 h h1 h2 h3 hbW r1
 go_wp2_with fail
 go_ret
 exact ⟨rfl,HE.out.1,HE.out.2⟩
theorem TL.pop {x:Sp}{r:List Sp}(h:TL B w gb ga s (x :: r)) (hW:Below w.heap.size w W) (hB:B<=w.heap.size):∃b cap,W.cell? ⟨ga,0,none⟩=some (.slice (some ⟨b,0,none⟩) (r.length+1) cap)/\r.length+1<=cap/\cap<=maxLen/\W.cell? ⟨b,r.length*2,none⟩=some (.int .i64 x.all)/\W.cell? ⟨b,r.length*2+1,none⟩=some (.int .i64 x.hang) /\
  (b≠ga/\b≠gb/\b<w.heap.size) /\
  TL B (((W.setCell ⟨gb,0,none⟩ (.int .i64 x.all)).setCell ⟨gb,1,none⟩ (.int .i64 x.hang)).setCell ⟨ga,0,none⟩ (.slice (some ⟨b,0,none⟩) r.length cap)) gb ga x r/\Bo B gb ga w (((W.setCell ⟨gb,0,none⟩ (.int .i64 x.all)).setCell ⟨gb,1,none⟩ (.int .i64 x.hang)).setCell ⟨ga,0,none⟩ (.slice (some ⟨b,0,none⟩) r.length cap)):=by
 have hne:=h.ne;have hh:=h.below hW;obtain ⟨v,h1,h2,h3⟩:=hh.ha;obtain ⟨b,cap,rfl,c1,c2,c3,c4,cur,c5⟩:=nQ uG h2;have r1:=ay h2 h1 (by decide);have hb2:=h3 b rfl
 have hbw:b<w.heap.size:=by
  obtain ⟨v',h1',h2',h3'⟩:=h.ha;have e:=ab h1' hW;rw [h1] at e;injection e with e
  injection e with e _
  have e2:v'=.slice (some ⟨b,0,none⟩) (r.length+1) cap:=by
   have:=zO (·[0]?) e
   simpa using this.symm
  subst e2;exact (h2'.lt b rfl).2
 refine ⟨b,cap,aa h1 rfl,c1,c2,c4 0 _ rfl,c4 1 _ rfl,⟨fun e=>r1 (by rw [e];rfl),hb2.2,hbw⟩,⟨?_,⟨.slice (some ⟨b,0,none⟩) r.length cap,?_,?_,fun k hk=>by cases hk;exact hb2⟩⟩,?_⟩
 ·exact aS (af (af hh.hb 0 _) 1 _) (Ne.symm hne) _
 ·exact af (aS (aS h1 hne _) hne _) 0 _
 ·refine (Kp.set _ ga 0 _).row ((Kp.set _ gb 1 _).row ((Kp.set _ gb 0 _).row c3 ?_) ?_) ?_
  ·intro k e1 e2;cases e1;exact hb2.2 e2
  ·intro k e1 e2;cases e1;exact hb2.2 e2
  ·intro k e1 e2;cases e1;exact r1 (by rw [<-e2];rfl)
 ·refine ⟨(((Kp.of_below hW).step (Kp.set W gb 0 _) (fun k _ e=>.inl e)).step (Kp.set _ gb 1 _) (fun k _ e=>.inl e)).step (Kp.set _ ga 0 _) (fun k _ e=>.inr (.inl e)),?_⟩;have o2:=eD (Kp.set W gb 0 (.int .i64 x.all)) (fun k e=>by subst e;exact cA hh.hb);have o3:=eD (Kp.set (W.setCell ⟨gb,0,none⟩ (.int .i64 x.all)) gb 1 (.int .i64 x.hang)) (fun k e=>by subst e;exact cA (af hh.hb 0 _));have o4:=eD (Kp.set ((W.setCell ⟨gb,0,none⟩ (.int .i64 x.all)).setCell ⟨gb,1,none⟩ (.int .i64 x.hang)) ga 0 (.slice (some ⟨b,0,none⟩) r.length cap)) (fun k e=>by subst e;exact cA (aS (aS h1 hne _) hne _));exact (eE hW).trans (o2.trans (o3.trans o4))
theorem Tryz.info114:(Tryz.prog.info? 114).map (fun i=>(i.zero,i.size,i.bytes))=some (some (.agg #[.int .i64 0,.bool false,.bool false]),3,16):=by kernel_rfl
def bkc (b:Bk):List Value:=[.int .i64 b.ind,.bool b.ev,.bool b.ft]
theorem wu (b:Bk):(bkc b).length=3:=rfl
def prc (n gs:Nat) (b:Bk) (v:Value) (en:Bool):Array Value:=#[.int .i64 n,.pointer (some ⟨gs,0,none⟩),.int .i64 b.ind,.bool b.ev,.bool b.ft,v,.bool en]
structure PS (B:Nat) (w0:World) (own:Nat->Nat) (W:World) (g gs n:Nat) (p:Pr):Prop where
 en:En own W
 lo:∀k,k<B->own k=0
 bel:Below B w0 W
 hB:B<=w0.heap.size
 sk:SK own 1 W gs p.sk
 pr:∃v,W.heap[g]?=some (.cells (prc n gs p.bl v p.en) 117 (0,0))/\(W.ownsRow 0 114 3 v p.ar.length (aN bkc p.ar.reverse)/\∀k,v.ownBlock=some k->own k=2)
 lab:own g=2
section
variable {B:Nat} {w0:World} {own:Nat->Nat} {W:World} {g gs n:Nat} {p:Pr}
theorem PS.c0 (h:PS B w0 own W g gs n p):W.cell? ⟨g,0,none⟩=some (.int .i64 n):=by obtain ⟨v,h1,_⟩:=h.pr;exact aa h1 rfl
theorem PS.c1 (h:PS B w0 own W g gs n p):W.cell? ⟨g,1,none⟩=some (.pointer (some ⟨gs,0,none⟩)):=by obtain ⟨v,h1,_⟩:=h.pr;exact aa h1 rfl
theorem PS.c2 (h:PS B w0 own W g gs n p):W.cell? ⟨g,2,none⟩=some (.int .i64 p.bl.ind):=by obtain ⟨v,h1,_⟩:=h.pr;exact aa h1 rfl
theorem PS.c3 (h:PS B w0 own W g gs n p):W.cell? ⟨g,3,none⟩=some (.bool p.bl.ev):=by obtain ⟨v,h1,_⟩:=h.pr;exact aa h1 rfl
theorem PS.c4 (h:PS B w0 own W g gs n p):W.cell? ⟨g,4,none⟩=some (.bool p.bl.ft):=by obtain ⟨v,h1,_⟩:=h.pr;exact aa h1 rfl
theorem PS.c6 (h:PS B w0 own W g gs n p):W.cell? ⟨g,6,none⟩=some (.bool p.en):=by obtain ⟨v,h1,_⟩:=h.pr;exact aa h1 rfl
theorem PS.fz (h:PS B w0 own W g gs n p) (k:Nat):W.frozen? ⟨g,k,none⟩=false:=by obtain ⟨v,h1,_⟩:=h.pr;exact aj h1
theorem PS.lt (h:PS B w0 own W g gs n p):g<W.heap.size:=by obtain ⟨v,h1,_⟩:=h.pr;exact ah h1
theorem PS.bl (h:PS B w0 own W g gs n p):B<=W.heap.size:=zr h.hB h.bel.size
theorem PS.gB (h:PS B w0 own W g gs n p):B<=g:=by
 refine Nat.le_of_not_lt fun hlt=>?_
 have:=h.lo g hlt;rw [h.lab] at this;cases this
theorem PS.below (h:PS B w0 own W g gs n p) {W':World}(hb:Below W.heap.size W W'):PS B w0 own W' g gs n p:=by
 obtain ⟨v,h1,h2,h3⟩:=h.pr;exact ⟨h.en.below hb,h.lo,h.bel.trans (hb.mono h.bl),h.hB,h.sk.below hb,⟨v,ab h1 hb,aE h2 hb,h3⟩,h.lab⟩
def Sd (own own':Nat->Nat) (W W':World):Prop:=∀k,k<W.heap.size->own k=0->W'.heap[k]?=W.heap[k]?/\own' k=0
theorem Sd.refl (own:Nat->Nat) (W:World):Sd own own W W:=fun k _ h=>⟨rfl,h⟩
theorem Sd.trans {o1 o2 o3:Nat->Nat}{A C D:World}(h:Sd o1 o2 A C) (hs:A.heap.size<=C.heap.size) (k:Sd o2 o3 C D):Sd o1 o3 A D:=fun j hj h0=>
 ⟨(k j (by omega) (h j hj h0).2).1.trans (h j hj h0).1,(k j (by omega) (h j hj h0).2).2⟩
theorem PS.sink (h:PS B w0 own W g gs n p) {W':World}{s':St6}(ha:Ae own 1 W W' gs s'):∃own',PS B w0 own' W' g gs n { p with sk:=s' }/\Sd own own' W W'/\W.heap.size<=W'.heap.size:=by
 obtain ⟨own',e1,e2,e3⟩:=ha;obtain ⟨v,h1,h2⟩:=h.pr;have hlt:=ah h1;have hbl:=h.bl;refine ⟨own',⟨e1,fun k hk=>(e2.old k (by omega)).trans (h.lo k hk),h.bel.trans (e2.below hbl h.lo (by omega)),h.hB,e3,⟨v,?_,na e2 (by omega) h2⟩,(e2.old g hlt).trans h.lab⟩,fun k hk h0=>⟨e2.block k hk (by rw [h0];omega),(e2.old k hk).trans h0⟩,e2.size⟩;exact (e2.block g hlt (by rw [h.lab];omega)).trans h1
theorem PS.sett (h:PS B w0 own W g gs n p) (b:Bool):PS B w0 own (W.setCell ⟨g,6,none⟩ (.bool b)) g gs n { p with en:=b }/\Sd own own W (W.setCell ⟨g,6,none⟩ (.bool b)):=by
 obtain ⟨v,h1,h2,h3⟩:=h.pr;have hf:Fr 2 own own W (W.setCell ⟨g,6,none⟩ (.bool b)):=(Fr.refl 2 own W).set' h.lab 6 _;have hn:Nf own (W.setCell ⟨g,6,none⟩ (.bool b)):=h.en.nf.below (Kp.set W g 6 _).size;have r1:=ay h2 h1 (by decide)
 exact ⟨⟨h.en.fr (by omega) hn hf,h.lo,h.bel.setCell (p:=⟨g,6,none⟩) h.gB _,h.hB,h.sk.kept hf (by omega),⟨v,af h1 6 _,(Kp.set W g 6 _).row h2 (fun k e1 e2=>r1 (by rw [e1,e2])),h3⟩,h.lab⟩,
  fun k hk h0=>⟨(Kp.set W g 6 (.bool b)).block k hk (fun e=>by subst e;rw [h.lab] at h0;cases h0),h0⟩⟩
end
theorem jx {B:Nat}{w0:World}{own:Nat->Nat}{W:World}{g gs n:Nat}{p:Pr}(h:PS B w0 own W g gs n p) {U:Nat}(hp:Bp p U) (hU:U<=268435456) (need:Nat) (hnd:need<=1000000) (hn:n<=4096) :
  Aa 109 #[.pointer (some ⟨g,0,none⟩),.int .i64 need] W fun e w'=>e=.returned (.bool (p.fits n need))/\Below W.heap.size W w':=by
 have hcol:=hp.col;have HC:Hid (∀V,Ab W V->Aa 163 #[.pointer (some ⟨gs,0,none⟩)] V fun e w'=>e=.returned (.int .i64 ((p.sk.col:Int)+p.sk.wait))/\Ab V w'):=fun V hV=>qA (h.below hV).sk (by omega) (by omega)
 have c0:=h.c0;have c1:=h.c1;have hlt:=h.lt;have HK:Hid (∀V,Ab W V->V.cell? ⟨g,0,none⟩=some (.int .i64 n)/\V.cell? ⟨g,1,none⟩=some (.pointer (some ⟨gs,0,none⟩))/\Ab W V):=fun V hV=>⟨(h.below hV).c0,(h.below hV).c1,hV⟩
 have e:p.fits n need=decide ((need:Int)<=(n:Int)-((p.sk.col:Int)+p.sk.wait)):=by
  unfold Pr.fits Pr.at;rw [B8];omega
 rw [e];obtain ⟨z,hz⟩:∃z:Nat,p.sk.col+p.sk.wait=z:=⟨_,rfl⟩;have hz2:(p.sk.col:Int)+p.sk.wait=(z:Int):=by omega
 rw [hz2] at HC ⊢;have hzb:z<=268435456:=by omega
 have hwr:IntKind.i64.wrap ((n:Int)-z)=(n:Int)-z:=by rw [zF];omega
 clear hz hz2 hcol e h hp
 go_enter Tryz.func109,Tryz.ntmps109
 go_wp2_with fail
 go_region_held3 (fun w'=>w'.cell? ⟨g,0,none⟩=some (.int .i64 n)/\w'.cell? ⟨g,1,none⟩=some (.pointer (some ⟨gs,0,none⟩))/\Below W.heap.size W w') (first|(exact HK.out _ (by assumption))|(exact HK.out _ (gt _ _).drew)|go_keep) (first|(go_at_call 163;refine (HC.out _ (by first|assumption|exact (gt _ _).drew)).mono ?_;rintro e w1 ⟨rfl,hb1⟩;have hbW:=(by first|exact (gt W.heap.size W).drew.trans (hb1.mono (eq _))|assumption:Below W.heap.size W w1)))
 all_goals (
  go_wp2_with fail
  go_ret
  exact ⟨by rw [<-hwr];rfl,hbW⟩)
theorem nB {own:Nat->Nat}(h:PS B w0 own W g gs n p) {U:Nat}(hp:Bp p U) (hU:U<=268435456) (need:Nat) (hnd:need<=1000000) (hn:n<=4096) :
  Aa 106 #[.pointer (some ⟨g,0,none⟩),.int .i64 need] W fun e w'=>e=.returned (.bool (p.brk n need))/\Below W.heap.size W w':=by
 have HF:=jx h hp hU need hnd hn;have c3:=h.c3;have c4:=h.c4;unfold Pr.brk
 generalize p.fits n need=f at *
 generalize p.bl.ev=ev at *
 generalize p.bl.ft=ft at *
 clear h hp;cases ev
 ·go_enter Tryz.func106,Tryz.ntmps106
  go_wp2_with (go_at_call 109;refine HF.mono ?_;rintro e w1 ⟨rfl,hb1⟩)
  go_ret
  exact ⟨rfl,hb1⟩
 ·go_enter Tryz.func106,Tryz.ntmps106
  go_wp2_with fail
  go_ret
  exact ⟨rfl,gt _ _⟩
def PA (B:Nat) (w0:World) (own:Nat->Nat) (W:World) (g gs n:Nat) (p':Pr) (w':World):Prop:=∃own',PS B w0 own' w' g gs n p'/\Sd own own' W w'/\W.heap.size<=w'.heap.size
theorem lH {own:Nat->Nat}(h:PS B w0 own W g gs n p) {U:Nat}(hp:Bp p U) (hU:U<=268435456) (m:Nat) (hm:m<=1000) :
  Aa 105 #[.pointer (some ⟨g,0,none⟩),.int .i64 m] W fun e w'=>e=.returned (.tuple #[])/\PA B w0 own W g gs n (p.hold m) w':=by
 have hcol:=hp.col;have HF:Hid (Aa 159 #[.pointer (some ⟨gs,0,none⟩)] W fun e w'=>e=.returned (.bool p.sk.fresh)/\w'=W):=lO h.sk;have c1:=h.c1;unfold Pr.hold;cases hf:p.sk.fresh
 ·have HB:Hid (Aa 160 #[.pointer (some ⟨gs,0,none⟩),.int .i64 m] W fun e w'=>e=.returned (.int .i64 0)/\PA B w0 own W g gs n { p with sk:=p.sk.blanks m } w'):=by
   refine (qI h.sk h.en (by omega) m (by omega) (by omega)).mono ?_;rintro e w' ⟨rfl,ha⟩;exact ⟨rfl,h.sink ha⟩
  rw [hf] at HF;clear h hp hf
  go_enter Tryz.func105,Tryz.ntmps105
  go_wp2_with (first|(go_at_call 159;refine HF.out.mono ?_;rintro e w1 ⟨rfl,rfl⟩)|(go_at_call 160;refine HB.out.mono ?_;rintro e w2 ⟨rfl,h2⟩))
  go_end0
  exact ⟨rfl,h2⟩
 ·have HE:Hid (PA B w0 own W g gs n p W):=⟨own,h,Sd.refl _ _,eq _⟩;rw [hf] at HF;clear h hp hf
  go_enter Tryz.func105,Tryz.ntmps105
  go_wp2_with (first|(go_at_call 159;refine HF.out.mono ?_;rintro e w1 ⟨rfl,rfl⟩))
  go_end0
  exact ⟨rfl,HE.out⟩
theorem lR {own:Nat->Nat}(h:PS B w0 own W g gs n p) {U:Nat}(hp:Bp p U) (hU:U<=268435456) :
  Aa 107 #[.pointer (some ⟨g,0,none⟩)] W fun e w'=>e=.returned (.tuple #[])/\PA B w0 own W g gs n p.endl w':=by
 have hcol:=hp.col;have hout:=hp.out;have hind:=hp.ind;have HF:Hid (Aa 159 #[.pointer (some ⟨gs,0,none⟩)] W fun e w'=>e=.returned (.bool p.sk.fresh)/\w'=W):=lO h.sk;have c1:=h.c1;have c2:=h.c2;have hlt:=h.lt;unfold Pr.endl;cases hf:p.sk.fresh
 ·have HB:Hid (∀V,V=W.drew->Aa 161 #[.pointer (some ⟨gs,0,none⟩),.int .i64 p.bl.ind] V fun e w'=>e=.returned (.int .i64 0)/\Hid (PA B w0 own W g gs n { p with sk:=p.sk.feed p.bl.ind } w')/\w'.cell? ⟨g,1,none⟩=some (.pointer (some ⟨gs,0,none⟩))/\w'.cell? ⟨g,2,none⟩=some (.int .i64 p.bl.ind)/\w'.cell? ⟨g,6,none⟩=some (.bool p.en)/\w'.frozen? ⟨g,6,none⟩=false):=by
   intro V hV;subst hV;have hd:=h.below (gt _ W).drew;refine (vT hd.sk hd.en (by omega) p.bl.ind (by omega) (by omega)).mono ?_;rintro e w' ⟨rfl,ha⟩;obtain ⟨own',a1,a2,a3⟩:=hd.sink ha;exact ⟨rfl,⟨own',a1,a2,a3⟩,a1.c1,a1.c2,a1.c6,a1.fz 6⟩
  rw [hf] at HF;clear h hp hf
  go_enter Tryz.func107,Tryz.ntmps107
  go_wp2_with (first|(go_at_call 159;refine HF.out.mono ?_;rintro e w1 ⟨rfl,rfl⟩))
  go_region_held3 (fun w'=>w'.cell? ⟨g,1,none⟩=some (.pointer (some ⟨gs,0,none⟩))/\w'.cell? ⟨g,2,none⟩=some (.int .i64 p.bl.ind)) (first|(exact ⟨by assumption,by assumption⟩)|(exact ⟨c1,c2⟩)|go_keep) (first|(go_at_call 161;refine (HB.out _ rfl).mono ?_;rintro e w1 ⟨rfl,HP,x1,x2,x6,f6⟩))
  all_goals (
   go_wp2_with fail
   go_end0
   obtain ⟨own',a1,a2,a3⟩:=HP.out;have a4:=a1.sett true;exact ⟨rfl,own',a4.1,a2.trans a3 a4.2,zr a3 (Kp.set _ g 6 (.bool true)).size⟩)
 ·have HE:Hid (PA B w0 own W g gs n p W):=⟨own,h,Sd.refl _ _,eq _⟩;rw [hf] at HF;clear h hp hf
  go_enter Tryz.func107,Tryz.ntmps107
  go_wp2_with (first|(go_at_call 159;refine HF.out.mono ?_;rintro e w1 ⟨rfl,rfl⟩))
  go_end0
  exact ⟨rfl,HE.out⟩
theorem PS.box {own:Nat->Nat}(h:PS B w0 own W g gs n p) (o:Obj):PS B w0 own (W.alloc o) g gs n p/\(W.alloc o).heap[W.heap.size]?=some o/\own W.heap.size=0/\Sd own own W (W.alloc o)/\W.heap.size<=(W.alloc o).heap.size:=
 ⟨h.below ((gt _ _).alloc (eq _) _),ag _ _,h.en.nf _ (eq _),fun k hk h0=>⟨Below.heap_alloc W o k hk,h0⟩,by rw [ge];omega⟩
theorem PA.of {own:Nat->Nat}(h:PS B w0 own W g gs n p) (o:Obj) {p':Pr}{w':World}(ha:PA B w0 own (W.alloc o) g gs n p' w'):PA B w0 own W g gs n p' w':=by
 obtain ⟨own',a1,a2,a3⟩:=ha;obtain ⟨_,_,_,b1,b2⟩:=h.box o;exact ⟨own',a1,b1.trans b2 a2,zr b2 a3⟩
section
variable {B:Nat} {w0:World} {own:Nat->Nat} {W:World} {g gs n:Nat} {p:Pr}
theorem rL (h:PS B w0 own W g gs n p) {U:Nat}(hp:Bp p U) (hU:U<=268435456) (need:Nat) (t:ByteArray) (ht:t.size<=65535) :
  Aa 60 #[.pointer (some ⟨g,0,none⟩),.agg #[.int .u8 1,.string t,.int .i64 0,.int .i64 0,.bool false],.int .i64 need] W fun e w'=>e=.returned (.tuple #[])/\PA B w0 own W g gs n { p with sk:=p.sk.text t,en:=false } w':=by
 have hcol:=hp.col;have hout:=hp.out;have c1:=h.c1;have hlt:=h.lt;obtain ⟨W1,hW1⟩:∃W1,W.alloc (.cells #[.int .u8 1,.string t,.int .i64 0,.int .i64 0,.bool false] 57)=W1:=⟨_,rfl⟩;obtain ⟨b1,b2,b3,b4,b5⟩:=h.box (.cells #[.int .u8 1,.string t,.int .i64 0,.int .i64 0,.bool false] 57);rw [hW1] at b1 b2 b4 b5;have x1:W1.cell? ⟨W.heap.size,1,none⟩=some (.string t):=aa b2 rfl;have c1':=b1.c1
 have HB:Hid (∀V,V=W1.drew->Aa 104 #[.pointer (some ⟨gs,0,none⟩),.string t] V fun e w'=>e=.returned (.int .i64 0)/\Hid (PA B w0 own W g gs n { p with sk:=p.sk.text t } w')/\w'.cell? ⟨g,1,none⟩=some (.pointer (some ⟨gs,0,none⟩))/\w'.cell? ⟨W.heap.size,1,none⟩=some (.string t)/\w'.cell? ⟨g,6,none⟩=some (.bool p.en)/\w'.frozen? ⟨g,6,none⟩=false):=by
  intro V hV;subst hV;have hd:=b1.below (gt _ W1).drew;refine (ur hd.sk hd.en (by omega) t (by omega)).mono ?_;rintro e w' ⟨rfl,ha⟩;obtain ⟨own',a1,a2,a3⟩:=hd.sink ha;have hb2:=a2 W.heap.size (ah b2) b3;exact ⟨rfl,⟨own',a1,b4.trans b5 a2,zr b5 a3⟩,a1.c1,aa (hb2.1.trans b2) rfl,a1.c6,a1.fz 6⟩
 have HW1:Hid (W.alloc (.cells #[.int .u8 1,.string t,.int .i64 0,.int .i64 0,.bool false] 57)=W1):=hW1;clear h hp b1 b2 b4 b5 hW1
 go_enter BX,BC
 go_wp2_with fail
 rw [HW1.out]
 go_region_held3 (fun w'=>w'.cell? ⟨g,1,none⟩=some (.pointer (some ⟨gs,0,none⟩))/\w'.cell? ⟨W.heap.size,1,none⟩=some (.string t)) (first|(exact ⟨by assumption,by assumption⟩)|(exact ⟨c1',x1⟩)|go_keep) (first|(go_at_call 104;refine (HB.out _ rfl).mono ?_;rintro e w1 ⟨rfl,HP,y1,y2,y6,f6⟩))
 all_goals (
  go_wp2_with fail
  go_end0
  obtain ⟨own',a1,a2,a3⟩:=HP.out;have a4:=a1.sett false;exact ⟨rfl,own',a4.1,a2.trans a3 a4.2,zr a3 (Kp.set _ g 6 (.bool false)).size⟩)
theorem pE (h:PS B w0 own W g gs n p) {U:Nat}(hp:Bp p U) (hU:U<=268435456) (need:Nat) :
  Aa 60 #[.pointer (some ⟨g,0,none⟩),.agg #[.int .u8 2,.string ⟨#[]⟩,.int .i64 0,.int .i64 0,.bool false],.int .i64 need] W fun e w'=>e=.returned (.tuple #[])/\PA B w0 own W g gs n (p.hold 1) w':=by
 have HB:Hid (∀o,Aa 105 #[.pointer (some ⟨g,0,none⟩),.int .i64 1] (W.alloc o) fun e w'=>e=.returned (.tuple #[])/\PA B w0 own W g gs n (p.hold 1) w'):=fun o=>
  (lH (h.box o).1 hp hU 1 (by omega)).mono fun e w' ⟨h1,h2⟩=>⟨h1,PA.of h o h2⟩
 clear h hp
 go_enter BX,BC
 go_wp2_with (go_at_call 105;refine (HB.out _).mono ?_;rintro e w1 ⟨rfl,h1⟩)
 go_end0
 exact ⟨rfl,h1⟩
theorem rN (h:PS B w0 own W g gs n p) {U:Nat}(hp:Bp p U) (hU:U<=268435456) (need:Nat) :
  Aa 60 #[.pointer (some ⟨g,0,none⟩),.agg #[.int .u8 4,.string ⟨#[]⟩,.int .i64 0,.int .i64 0,.bool false],.int .i64 need] W fun e w'=>e=.returned (.tuple #[])/\PA B w0 own W g gs n p.endl w':=by
 have HB:Hid (∀o,Aa 107 #[.pointer (some ⟨g,0,none⟩)] (W.alloc o) fun e w'=>e=.returned (.tuple #[])/\PA B w0 own W g gs n p.endl w'):=fun o=>
  (lR (h.box o).1 hp hU).mono fun e w' ⟨h1,h2⟩=>⟨h1,PA.of h o h2⟩
 clear h hp
 go_enter BX,BC
 go_wp2_with (go_at_call 107;refine (HB.out _).mono ?_;rintro e w1 ⟨rfl,h1⟩)
 go_end0
 exact ⟨rfl,h1⟩
theorem uS (h:PS B w0 own W g gs n p) {U:Nat}(hp:Bp p U) (hU:U<=268435456) (need:Nat) (hnd:need<=1000000) (hn:n<=4096) (m:Nat) (hm:m<=1000) :
  Aa 60 #[.pointer (some ⟨g,0,none⟩),.agg #[.int .u8 3,.string ⟨#[]⟩,.int .i64 m,.int .i64 0,.bool false],.int .i64 need] W fun e w'=>e=.returned (.tuple #[])/\PA B w0 own W g gs n (if p.brk n need then p.endl else p.hold m) w':=by
 obtain ⟨W1,hW1⟩:∃W1,W.alloc (.cells #[.int .u8 3,.string ⟨#[]⟩,.int .i64 m,.int .i64 0,.bool false] 57)=W1:=⟨_,rfl⟩;have hbx:=h.box (.cells #[.int .u8 3,.string ⟨#[]⟩,.int .i64 m,.int .i64 0,.bool false] 57)
 have hof:∀V,Below W1.heap.size W1 V->PS B w0 own V g gs n p/\Sd own own W V/\W.heap.size<=V.heap.size:=by
  intro V hV;obtain ⟨b1,b2,b3,b4,b5⟩:=hbx;rw [hW1] at b1 b4 b5;exact ⟨b1.below hV,b4.trans b5 (fun k hk h0=>⟨hV.block k hk,h0⟩),zr b5 hV.size⟩
 have HK:Hid (Aa 106 #[.pointer (some ⟨g,0,none⟩),.int .i64 need] W1 fun e w'=>e=.returned (.bool (p.brk n need))/\Ab W1 w'):=by
  rw [<-hW1];exact nB hbx.1 hp hU need hnd hn
 have x2:∀V,Below W1.heap.size W1 V->V.cell? ⟨W.heap.size,2,none⟩=some (.int .i64 m):=fun V hV=>by
  have b2:=hbx.2.1;rw [hW1] at b2;exact aa (ab b2 hV) rfl
 have HX:Hid (∀V,Ab W1 V->V.cell? ⟨W.heap.size,2,none⟩=some (.int .i64 m)):=x2
 have HH:Hid (∀V,Ab W1 V->Aa 105 #[.pointer (some ⟨g,0,none⟩),.int .i64 m] V fun e w'=>e=.returned (.tuple #[])/\PA B w0 own W g gs n (p.hold m) w'):=fun V hV=>by
  obtain ⟨a1,a2,a3⟩:=hof V hV;refine (lH a1 hp hU m hm).mono ?_;rintro e w' ⟨rfl,own',d1,d2,d3⟩;exact ⟨rfl,own',d1,a2.trans a3 d2,zr a3 d3⟩
 have HE:Hid (∀V,Ab W1 V->Aa 107 #[.pointer (some ⟨g,0,none⟩)] V fun e w'=>e=.returned (.tuple #[])/\PA B w0 own W g gs n p.endl w'):=fun V hV=>by
  obtain ⟨a1,a2,a3⟩:=hof V hV;refine (lR a1 hp hU).mono ?_;rintro e w' ⟨rfl,own',d1,d2,d3⟩;exact ⟨rfl,own',d1,a2.trans a3 d2,zr a3 d3⟩
 have HW1:Hid (W.alloc (.cells #[.int .u8 3,.string ⟨#[]⟩,.int .i64 m,.int .i64 0,.bool false] 57)=W1):=hW1;clear hbx hof x2 h hp hW1
 generalize p.brk n need=b at *
 cases b
 ·go_enter BX,BC
  go_wp2_with fail
  rw [HW1.out];refine HK.out.mono ?_;rintro e w1 ⟨rfl,hb1⟩;have y2:=HX.out _ hb1;have HB1:Hid (Ab W1 w1):=hb1;clear hb1
  go_wp2_with (first|(go_at_call 105;refine (HH.out _ HB1.out).mono ?_;rintro e w2 ⟨rfl,h2⟩))
  go_end0
  exact ⟨rfl,h2⟩
 ·go_enter BX,BC
  go_wp2_with fail
  rw [HW1.out];refine HK.out.mono ?_;rintro e w1 ⟨rfl,hb1⟩;have HB1:Hid (Ab W1 w1):=hb1;clear hb1
  go_wp2_with (first|(go_at_call 107;refine (HE.out _ HB1.out).mono ?_;rintro e w2 ⟨rfl,h2⟩))
  go_end0
  exact ⟨rfl,h2⟩
theorem pD (h:PS B w0 own W g gs n p) {U:Nat}(hp:Bp p U) (hU:U<=268435456) (need:Nat) :
  Aa 60 #[.pointer (some ⟨g,0,none⟩),.agg #[.int .u8 5,.string ⟨#[]⟩,.int .i64 0,.int .i64 0,.bool false],.int .i64 need] W fun e w'=>e=.returned (.tuple #[])/\PA B w0 own W g gs n (if p.en then { p with sk:=p.sk.empty,en:=false } else p) w':=by
 obtain ⟨W1,hW1⟩:∃W1,W.alloc (.cells #[.int .u8 5,.string ⟨#[]⟩,.int .i64 0,.int .i64 0,.bool false] 57)=W1:=⟨_,rfl⟩;obtain ⟨b1,b2,b3,b4,b5⟩:=h.box (.cells #[.int .u8 5,.string ⟨#[]⟩,.int .i64 0,.int .i64 0,.bool false] 57);have hlt:=h.lt;have c6:=h.c6;have c1:=h.c1;rw [hW1] at b1 b4 b5;have hout:=hp.out
 have HB:Hid (Aa 108 #[.pointer (some ⟨gs,0,none⟩)] W1 fun e w'=>e=.returned (.int .i64 0)/\Hid (PA B w0 own W g gs n { p with sk:=p.sk.empty } w')/\w'.cell? ⟨g,6,none⟩=some (.bool p.en)/\w'.frozen? ⟨g,6,none⟩=false):=by
  refine (th b1.sk b1.en (by omega) (by omega)).mono ?_;rintro e w' ⟨rfl,ha⟩;obtain ⟨own',a1,a2,a3⟩:=b1.sink ha;exact ⟨rfl,⟨own',a1,b4.trans b5 a2,zr b5 a3⟩,a1.c6,a1.fz 6⟩
 have HE:Hid (PA B w0 own W g gs n p W1):=⟨own,b1,b4,b5⟩;have HW1:Hid (W.alloc (.cells #[.int .u8 5,.string ⟨#[]⟩,.int .i64 0,.int .i64 0,.bool false] 57)=W1):=hW1;clear b1 b2 b4 b5 h hp hW1;cases he:p.en
 ·rw [he] at c6
  go_enter BX,BC
  go_wp2_with fail
  go_end0
  rw [HW1.out];exact ⟨rfl,HE.out⟩
 ·rw [he] at c6
  go_enter BX,BC
  go_wp2_with fail
  rw [HW1.out];refine HB.out.mono ?_;rintro e w1 ⟨rfl,HP,y6,f6⟩
  go_wp2_with fail
  go_end0
  obtain ⟨own',a1,a2,a3⟩:=HP.out;have a4:=a1.sett false;exact ⟨rfl,own',a4.1,a2.trans a3 a4.2,zr a3 (Kp.set _ g 6 (.bool false)).size⟩
end
end Go.Proofs.YtpdlohfdjiaegaaGreatDoor.Lw
