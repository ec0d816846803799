import Derived.Laws.AppendOwnNone
import Derived.Test.YtcmbkeghnmgbfaaGreatDoorM12
set_option linter.all false
set_option maxHeartbeats 1000000
namespace Go.Proofs.YtcmbkeghnmgbfaaGreatDoor.Lw
open Go.Proofs.Tryz
open Lx
open Go.RowKit
open Go.Lib (strCells strCells_length)
variable {w w' w0:World}{i g c d h f b:Nat}{sv:Array Value}{v gv:Value}
theorem r9 (t:ByteArray):(CM t).size<=t.size:=by
 unfold CM;have:=FU t;rw[ByteArray.size_extract];omega
theorem ul (b:Bool) (col u:Int) (t:ByteArray) (w:World) (hT:ib w) (ht:t.size<=8589934592) (h0:0<=col) (h1:col<=1152921504606846976) (h2:0<=u) (h3:u<=1152921504606846976) :
  Kb 259 #[.agg #[.bool b,.int .i64 col,.int .i64 u],.string t] w fun e w'=>e=.returned (.agg #[.bool true,.int .i64 (iG col u t),.int .i64 0])/\Below w.heap.size w w':=by
 have ah:=FU t;have ai:=kK t;have ag:=kK (CM t);have ak:=r9 t
 by_cases hl:lf t<0
 ·have q1:decide (0<=lf t)=false:=by simp;omega
  have q2:¬(0<=lf t):=by omega
  have HN:Hid (iG col u t=col+u+tw t):=Kd hl;clear ag ak;obtain⟨y,hy⟩:∃y,tw t=y:=⟨_,rfl⟩;rw[hy]at HN ai
  go_enter func259,ntmps259
  go_wp2_with(go_at_call 290;refine(qY t (by omega) _).mono ?_;rintro e w1⟨rfl,rfl⟩)
  obtain⟨W,J⟩:∃W,((w.alloc (.cells #[.bool b,.int .i64 col,.int .i64 u] 208)).alloc (.cells #[.bool false,.int .i64 0,.int .i64 0] 208))=W:=⟨_,rfl⟩;have s1:(w.alloc (.cells #[.bool b,.int .i64 col,.int .i64 u] 208)).heap.size=w.heap.size+1:=Eq _ _;have G:Below w.heap.size w W:=by rw[<-J];exact((gt _ w).alloc (ge _) _).alloc (by omega) _
  have b1:W.heap[w.heap.size]?=some (.cells #[.bool b,.int .i64 col,.int .i64 u] 208 (0,0)):=by rw[<-J];exact fG _ _ _ _ (am _ _)
  have b2:W.heap[w.heap.size+1]?=some (.cells #[.bool false,.int .i64 0,.int .i64 0] 208 (0,0)):=by rw[<-J,<-s1];exact am _ _
  obtain⟨x,hx⟩:∃x,x=w.heap.size:=⟨_,rfl⟩;rw[<-hx]at b1 b2 G;have ad:ib W:=hT.below (by rw[<-hx];exact G);simp only[J,<-hx];have x1:W.cell? ⟨x,1,none⟩=some (.int .i64 col):=aa b1 rfl;have x2:W.cell? ⟨x,2,none⟩=some (.int .i64 u):=aa b1 rfl;have HB:Hid (∀V,Below W.heap.size W V->V.cell? ⟨x,1,none⟩=some (.int .i64 col)/\V.cell? ⟨x,2,none⟩=some (.int .i64 u)/\V.cell? ⟨x+1,0,none⟩=some (.bool false)/\V.cell? ⟨x+1,1,none⟩=some (.int .i64 0)/\V.cell? ⟨x+1,2,none⟩=some (.int .i64 0)/\V.frozen? ⟨x+1,0,none⟩=false/\V.frozen? ⟨x+1,1,none⟩=false/\V.frozen? ⟨x+1,2,none⟩=false):=fun V F=>⟨aa (af b1 F) rfl,aa (af b1 F) rfl,aa (af b2 F) rfl,aa (af b2 F) rfl,aa (af b2 F) rfl,aj (af b2 F),aj (af b2 F),aj (af b2 F)⟩
  have al:=ku G;have HT:=ku ad
  have HC:Hid (Kb 190 #[.string t] W.drew fun e V=>e=.returned (.int .i64 y)/\Hid (Below x w V/\V.heap[x+1]?=some (.cells #[.bool false,.int .i64 0,.int .i64 0] 208 (0,0)))/\V.cell? ⟨x,1,none⟩=some (.int .i64 col)/\V.cell? ⟨x,2,none⟩=some (.int .i64 u)/\V.cell? ⟨x+1,0,none⟩=some (.bool false)/\V.cell? ⟨x+1,1,none⟩=some (.int .i64 0)/\V.cell? ⟨x+1,2,none⟩=some (.int .i64 0)/\V.frozen? ⟨x+1,0,none⟩=false/\V.frozen? ⟨x+1,1,none⟩=false/\V.frozen? ⟨x+1,2,none⟩=false):=by
   refine(jg t W.drew (ad.below (N4 (gt _ W))) ht).mono ?_;rintro e V⟨rfl,F⟩;have ae:Below W.heap.size W V:=⟨F.os,F.tape,F.output,F.size,F.block⟩;exact⟨by rw[hy],⟨G.trans (ae.mono (by have:=G.size;omega)),af b2 ae⟩,HB.out V ae⟩
  clear s1 b1 b2 hT ad G J q1 q2 hl ah HB HT hy;have HX:=ku hx;clear hx
  go_region_with (go_at_call 190;refine HC.out.mono ?_;rintro e w2⟨rfl,I,k1,k2,k3,k4,k5,k6,k7,k8⟩)
  all_goals
   have hz:IntKind.i64.wrap (IntKind.i64.wrap (col+u)+y)=col+u+y:=by rw[Ki,Ki];omega
   rw[hz];obtain⟨V,F⟩:∃V,V=((w2.setCell ⟨x+1,0,none⟩ (.bool true)).setCell ⟨x+1,1,none⟩ (.int .i64 (col+u+y))).setCell ⟨x+1,2,none⟩ (.int .i64 0):=⟨_,rfl⟩;have H:V.heap[x+1]?=some (.cells #[.bool true,.int .i64 (col+u+y),.int .i64 0] 208 (0,0)):=by rw[F];exact ab (ab (ab I.out.2 0 _) 1 _) 2 _
   have M:Below x w V:=by rw[F];exact(((I.out.1).setCell (p:=⟨x+1,0,none⟩) (by show x<=x+1;omega) _).setCell (p:=⟨x+1,1,none⟩) (by show x<=x+1;omega) _).setCell (p:=⟨x+1,2,none⟩) (by show x<=x+1;omega) _
   rw[<-F];have m0:V.cell? ⟨x+1,0,none⟩=some (.bool true):=aa H rfl;have m1:V.cell? ⟨x+1,1,none⟩=some (.int .i64 (col+u+y)):=aa H rfl;have m2:V.cell? ⟨x+1,2,none⟩=some (.int .i64 0):=aa H rfl;have HF:Hid (Ending.returned (.agg #[.bool true,.int .i64 (col+u+y),.int .i64 0])=.returned (.agg #[.bool true,.int .i64 (iG col u t),.int .i64 0])/\Below w.heap.size w V):=⟨by rw[HN.out],by rw[<-HX.out];exact M⟩;clear hz F H M k1 k2 k3 k4 k5 k6 k7 k8 I HC HN
   go_wp2_with fail
   exact Kv (v:=.agg #[.bool true,.int .i64 (col+u+y),.int .i64 0]) (by simp[results,Tryz.f259,go_sem,m0,m1,m2]) rfl HF.out
 ·have q1:decide (0<=lf t)=true:=by simp;omega
  have q2:(0<=lf t):=by omega
  have HN:Hid (iG col u t=tw (CM t)):=IO hl;obtain⟨k,hk⟩:∃k:Nat,lf t=k:=⟨(lf t).toNat,by omega⟩;have HA:Hid (CM t=t.extract (k+1) t.size):=by unfold CM;rw[hk];rfl
  obtain⟨y,hy⟩:∃y,tw (CM t)=y:=⟨_,rfl⟩
  have HC:Hid (∀V,ib V->Kb 190 #[.string (t.extract (k+1) t.size)] V fun e V'=>e=.returned (.int .i64 y)/\Below V.heap.size V V'):=by
   intro V F;rw[<-HA.out,<-hy];exact jg (CM t) V F (by omega)
  rw[hy]at HN ag;have an:(k:Int)+1<=t.size:=by omega
  have ap:k+1<=t.size:=by omega
  have HT:=ku hT
  have LC:Hid (∀V,Kb 290 #[.string t,.string ⟨#[10]⟩] V fun e w'=>e=.returned (.int .i64 k)/\w'=V):=by
   intro V;have:=qY t (by omega) V;rw[hk]at this;exact this
  clear ak ai q1 q2 hT hy HA hl hk ah
  go_enter func259,ntmps259
  go_wp2_with(go_at_call 290;refine(LC.out _).mono ?_;rintro e w1⟨rfl,rfl⟩)
  obtain⟨W,J⟩:∃W,((w.alloc (.cells #[.bool b,.int .i64 col,.int .i64 u] 208)).alloc (.cells #[.bool false,.int .i64 0,.int .i64 0] 208))=W:=⟨_,rfl⟩;have s1:(w.alloc (.cells #[.bool b,.int .i64 col,.int .i64 u] 208)).heap.size=w.heap.size+1:=Eq _ _;have G:Below w.heap.size w W:=by rw[<-J];exact((gt _ w).alloc (ge _) _).alloc (by omega) _
  have b2:W.heap[w.heap.size+1]?=some (.cells #[.bool false,.int .i64 0,.int .i64 0] 208 (0,0)):=by rw[<-J,<-s1];exact am _ _
  refine(HC.out _ ?tab).mono ?_
  case tab=>rw[J];exact HT.out.below G
  rintro e w2⟨rfl,I⟩;rw[J]at I;have ac:=ku (G.trans (I.mono G.size));have O:=af b2 I;clear I G b2 s1 J;have HK:=ku O;obtain⟨x,HX⟩:∃x,Hid (x=w.heap.size):=⟨_,rfl⟩;rw[<-HX.out]at O ac HK ⊢;have k3:w2.cell? ⟨x+1,0,none⟩=some (.bool false):=aa O rfl;have k4:w2.cell? ⟨x+1,1,none⟩=some (.int .i64 0):=aa O rfl;have k5:w2.cell? ⟨x+1,2,none⟩=some (.int .i64 0):=aa O rfl;have k6:w2.frozen? ⟨x+1,0,none⟩=false:=aj O;have k7:w2.frozen? ⟨x+1,1,none⟩=false:=aj O;have k8:w2.frozen? ⟨x+1,2,none⟩=false:=aj O;clear O;obtain⟨V,F⟩:∃V,V=((w2.setCell ⟨x+1,0,none⟩ (.bool true)).setCell ⟨x+1,1,none⟩ (.int .i64 y)).setCell ⟨x+1,2,none⟩ (.int .i64 0):=⟨_,rfl⟩;have H:V.heap[x+1]?=some (.cells #[.bool true,.int .i64 y,.int .i64 0] 208 (0,0)):=by rw[F];exact ab (ab (ab HK.out 0 _) 1 _) 2 _
  have M:Below x w V:=by rw[F];exact(((ac.out).setCell (p:=⟨x+1,0,none⟩) (by show x<=x+1;omega) _).setCell (p:=⟨x+1,1,none⟩) (by show x<=x+1;omega) _).setCell (p:=⟨x+1,2,none⟩) (by show x<=x+1;omega) _
  have m0:V.cell? ⟨x+1,0,none⟩=some (.bool true):=aa H rfl;have m1:V.cell? ⟨x+1,1,none⟩=some (.int .i64 y):=aa H rfl;have m2:V.cell? ⟨x+1,2,none⟩=some (.int .i64 0):=aa H rfl;have HF:Hid (Ending.returned (.agg #[.bool true,.int .i64 y,.int .i64 0])=.returned (.agg #[.bool true,.int .i64 (iG col u t),.int .i64 0])/\Below w.heap.size w V):=⟨by rw[HN.out],by rw[<-HX.out];exact M⟩;have HV:=ku F;clear F H M ac HC HN
  go_wp2_with fail
  rw[<-HV.out];exact Kv (v:=.agg #[.bool true,.int .i64 y,.int .i64 0]) (by simp[results,Tryz.f259,go_sem,m0,m1,m2]) rfl HF.out
def dA (gs:List (Nat × Nat)) (l m:Nat):List (Nat × Nat):=if m=0 then gs else gs++[(l,m)]
theorem kH {gs:List (Nat × Nat)}{t:List UInt8}(m:Nat) (h:kC f gs t.length):bY f (dA gs t.length m) t=bY f gs t++List.replicate m 32:=by
 unfold dA
 by_cases u:m=0
 ·rw[Kd u,u];simp
 ·rw[IO u];exact wF m h
theorem kJ {gs:List (Nat × Nat)}{k:Nat}(m:Nat) (h:kC f gs k):kC f (dA gs k m) k:=by
 unfold dA
 split
 ·exact h
 ·exact h.snoc m
theorem mO (gs:List (Nat × Nat)) (l m:Nat):bW (dA gs l m)=bW gs+m:=by
 unfold dA
 split
 ·omega
 ·exact zC _ _ _
theorem vB (gs:List (Nat × Nat)) (l m n:Nat) (h:∀x∈gs,x.1<n) (hl:l<n):∀x∈dA gs l m,x.1<n:=by
 unfold dA
 split
 ·exact h
 ·intro x u
  rcases Lg.1 u with u|u
  ·exact h x u
  ·simp at u;subst u;exact hl
theorem ly (gs:List (Nat × Nat)) (l m:Nat) (h:gs.length<=bW gs):(dA gs l m).length<=bW (dA gs l m):=by
 rw[mO];unfold dA
 split
 ·omega
 ·simp;omega
theorem Jc (m d c:Nat) (v tv:Value) (l:Nat) (gs:List (Nat × Nat)) (w:World) (hc:w.heap[c]?=some (.cells #[tv] 52 (0,0))) (F:∃p cap,tv=.slice p l cap) (hd:w.heap[d]?=some (.cells #[v] 209 (0,0))) (H:w.ownsRow 0 300 2 v gs.length (au eg gs)) (hn:gs.length<=8589934592) (u:m<=9223372036854775807) (hl:l<=9223372036854775807) :
  Kb 287 #[.int .i64 m,.pointer (some ⟨d,0,none⟩),.pointer (some ⟨c,0,none⟩)] w fun e w'=>e=.returned (.tuple #[])/\∃v',w'.heap[d]?=some (.cells #[v'] 209 (0,0))/\w'.ownsRow 0 300 2 v' (dA gs l m).length (au eg (dA gs l m))/\(v'.ownBlock=v.ownBlock\/∃b,w.heap.size<=b/\v'.ownBlock=some b)/\Kp (fun k=>k=d\/some k=v.ownBlock) w w':=by
 unfold dA
 by_cases G:m=0
 ·subst G;simp only[Kd];refine(E9 0 d c w (Int.le_refl _)).mono ?_;rintro e w'⟨rfl,rfl⟩;exact⟨rfl,v,hd,H,.inl rfl,Kp.refl _ _⟩
 ·simp only[IO G];refine(yL m d c v tv gs.length l (au eg gs) w hc F hd H hn (by omega) u hl).mono ?_;rintro e w'⟨rfl,v',I,J,M,O⟩;refine⟨rfl,v',I,?_,M,O⟩;rw[Kf,aW]
  simpa[au]using J
structure Ga (own:Nat->Nat) (i:Nat) (w0:World) (g c d h:Nat) (sv:Array Value) (w:World) (text:List UInt8) (gs:List (Nat × Nat)):Prop where
 hg:w.heap[g]?=some (.cells sv 211 (0,0))
 hc:∃tv,w.heap[c]?=some (.cells #[tv] 52 (0,0))/\w.ownsRow 0 5 1 tv text.length (bc text)/\∀k,tv.ownBlock=some k->own k=i\/w0.heap.size<=k
 hd:∃gv,w.heap[d]?=some (.cells #[gv] 209 (0,0))/\w.ownsRow 0 300 2 gv gs.length (au eg gs)/\∀k,gv.ownBlock=some k->own k=i\/w0.heap.size<=k
 hh:w.heap[h]?=some (.cells #[.pointer (some ⟨g,0,none⟩)] 114 (0,0))
 kp:Kp (fun k=>own k=i) w0 w
 lc:w0.heap.size<=c
 ld:w0.heap.size<=d
theorem jw {a:Nat}{x y:Array Value}{s t:TypeId}{f e:Nat × Nat}(G:w.heap[a]?=some (.cells x s f)) (u:w.heap[b]?=some (.cells y t e)) (h:s≠t):a≠b:=by
 rintro rfl;rw[G]at u;injection u with F
 injection F with _ h2
 exact h h2
theorem Ga.below {own:Nat->Nat}{text:List UInt8}{gs:List (Nat × Nat)}(H:Ga own i w0 g c d h sv w text gs) (u:Below w.heap.size w w'):Ga own i w0 g c d h sv w' text gs:=by
 obtain⟨tv,F,G,I⟩:=H.hc;obtain⟨gv,k1,k2,k3⟩:=H.hd;exact⟨af H.hg u,⟨tv,af F u,bi G u,I⟩,⟨gv,af k1 u,bi k2 u,k3⟩,af H.hh u,H.kp.step (Kp.of_below (S:=fun k=>own k=i) u) (fun _ _ h=>h),H.lc,H.ld⟩
theorem Ga.blanks {own:Nat->Nat}{text:List UInt8}{gs:List (Nat × Nat)}(H:Ga own i w0 g c d h sv w text gs) (m:Nat) (hn:gs.length<=8589934592) (hm:m<=9223372036854775807) (hl:text.length<=9223372036854775807) :
  Kb 287 #[.int .i64 m,.pointer (some ⟨d,0,none⟩),.pointer (some ⟨c,0,none⟩)] w fun e w'=>e=.returned (.tuple #[])/\Ga own i w0 g c d h sv w' text (dA gs text.length m):=by
 obtain⟨tv,O,M,h3⟩:=H.hc;obtain⟨gv,k1,k2,k3⟩:=H.hd;obtain⟨p,cap,hv,_,_⟩:=az M;refine(Jc m d c gv tv text.length gs w O ⟨p,cap,hv⟩ k1 k2 hn hm hl).mono ?_;rintro e w'⟨rfl,v',a1,a2,I,a4⟩
 have G:∀{x:Array Value} {k:Nat} {T:TypeId},w.heap[k]?=some (.cells x T (0,0))->T≠209->T≠300->¬(k=d\/some k=gv.ownBlock):=by
  intro x k T u t1 t2 J
  rcases J with J|J
  ·exact jw u k1 t1 J
  ·exact aE k2 u t2 J.symm
 refine⟨rfl,a4.blk H.hg (G H.hg (by decide) (by decide)),⟨tv,a4.blk O (G O (by decide) (by decide)),a4.row M ?_,h3⟩,⟨v',a1,a2,?_⟩,a4.blk H.hh (G H.hh (by decide) (by decide)),H.kp.step a4 ?_,H.lc,H.ld⟩
 ·intro k u F
  rcases F with F|F
  ·subst F;exact aE M k1 (by decide) u
  ·rcases M.2 with⟨rfl,_⟩|⟨b,cap,aa,rfl,_,hb,_⟩
   ·cases u
   ·simp only[Value.ownBlock,Ky]at u;subst u;exact aE k2 hb (by decide) F.symm
 ·intro k u
  rcases I with I|⟨b,hb,I⟩
  ·exact k3 k (by rw[<-I];exact u)
  ·rw[I]at u;injection u with u;subst u
   exact .inr (Kh H.kp.size hb)
 ·intro j hj F
  rcases F with F|F
  ·have:=H.ld;omega
  ·rcases k3 j F.symm with h|h
   ·exact h
   ·omega
theorem Ga.text {own:Nat->Nat}{text:List UInt8}{gs:List (Nat × Nat)}(H:Ga own i w0 g c d h sv w text gs) (t:ByteArray) (hn:text.length+t.size<=70368744177664) :
  Kb 288 #[.string t,.pointer (some ⟨c,0,none⟩)] w fun e w'=>e=.returned (.tuple #[])/\Ga own i w0 g c d h sv w' (text++t.data.toList) gs:=by
 obtain⟨tv,O,h2,h3⟩:=H.hc;obtain⟨gv,k1,k2,k3⟩:=H.hd;refine(E8 c tv text.length (bc text) t w O h2 hn).mono ?_;rintro e w'⟨rfl,v',a1,a2,I,a4⟩
 have G:∀{x:Array Value} {k:Nat} {T:TypeId},w.heap[k]?=some (.cells x T (0,0))->T≠52->T≠5->¬(k=c\/some k=tv.ownBlock):=by
  intro x k T u t1 t2 J
  rcases J with J|J
  ·exact jw u O t1 J
  ·exact aE h2 u t2 J.symm
 have M:(text++t.data.toList).length=text.length+t.size:=by rw[Kf];rfl
 refine⟨rfl,a4.blk H.hg (G H.hg (by decide) (by decide)),⟨v',a1,by rw[M,uo];exact a2,?_⟩,⟨gv,a4.blk k1 (G k1 (by decide) (by decide)),a4.row k2 ?_,k3⟩,a4.blk H.hh (G H.hh (by decide) (by decide)),H.kp.step a4 ?_,H.lc,H.ld⟩
 ·intro k u
  rcases I with I|I
  ·exact h3 k (by rw[<-I];exact u)
  ·rw[I]at u;injection u with u;subst u
   exact .inr H.kp.size
 ·intro k u F
  rcases F with F|F
  ·subst F;exact aE k2 O (by decide) u
  ·rcases k2.2 with⟨rfl,_⟩|⟨b,cap,aa,rfl,_,hb,_⟩
   ·cases u
   ·simp only[Value.ownBlock,Ky]at u;subst u;exact aE h2 hb (by decide) F.symm
 ·intro j hj F
  rcases F with F|F
  ·have:=H.lc;omega
  ·rcases h3 j F.symm with h|h
   ·exact h
   ·omega
structure cK where
 fresh:Bool
 col:Nat
 wait:Nat
 out:List UInt8
structure SK (own:Nat->Nat) (i:Nat) (w:World) (g:Nat) (s:cK):Prop where
 lab:own g=i
 ex:∃tv gv text gs,w.heap[g]?=some (.cells (sk (!s.fresh) s.col s.wait tv gv) 211 (0,0))/\(w.ownsRow 0 5 1 tv text.length (bc text)/\∀k,tv.ownBlock=some k->own k=i)/\(w.ownsRow 0 300 2 gv gs.length (au eg gs)/\∀k,gv.ownBlock=some k->own k=i)/\kC 0 gs text.length/\s.out=bY 0 gs text/\(gs.length<=bW gs/\∀x∈gs,x.1<text.length)
theorem tW {own own':Nat->Nat}{j:Nat}{e sz n:Nat}{xs:List Value}(J:Fr j own own' w w') (G:i≠j) (h:w.ownsRow 0 e sz v n xs/\∀k,v.ownBlock=some k->own k=i):w'.ownsRow 0 e sz v n xs/\∀k,v.ownBlock=some k->own' k=i:=by
 obtain⟨u,H⟩:=h;refine⟨⟨u.1,?_⟩,fun k M=>?_⟩
 ·rcases u.2 with O|⟨g,cap,F,rfl,h4,I,h6⟩
  ·exact .inl O
  ·exact .inr ⟨g,cap,F,rfl,h4,(J.block g (ai I) (by rw[H g rfl];exact G)).trans I,h6⟩
 ·rw[J.old k (u.lt k M).2];exact H k M
theorem SK.kept {own own':Nat->Nat}{i j:Nat}{w w':World}{g:Nat}{s:cK}(h:SK own i w g s) (F:Fr j own own' w w') (u:i≠j):SK own' i w' g s:=by
 obtain⟨tv,gv,text,gs,G,H,I,J⟩:=h.ex;exact⟨(F.old g (ai G)).trans h.lab,tv,gv,text,gs,(F.block g (ai G) (by rw[h.lab];exact u)).trans G,tW F u H,tW F u I,J⟩
theorem SK.below {own:Nat->Nat}{s:cK}(h:SK own i w g s) (u:Below w.heap.size w w'):SK own i w' g s:=
 h.kept (Fr.of_below (i:=i+1) u) (by omega)
theorem SK.len {own:Nat->Nat}{s:cK}(h:SK own i w g s):g<w.heap.size:=by
 obtain⟨tv,gv,text,gs,u,_⟩:=h.ex;exact ai u
def Af (own:Nat->Nat) (i:Nat) (w w':World) (g:Nat) (s:cK):Prop:=∃own',Nf own' w'/\Fr i own own' w w'/\SK own' i w' g s
theorem Af.here {own:Nat->Nat}{s:cK}(h:SK own i w g s) (F:Nf own w) (u:Kc w w'):Af own i w w' g s:=
 ⟨own,F.below u.size,Fr.of_below u,h.below u⟩
theorem Ga.fin {own:Nat->Nat}{text:List UInt8}{gs:List (Nat × Nat)}(H:Ga own i w0 g c d h sv w text gs) (hn:Nf own w0) (G:own g=i) (aa:g<w0.heap.size)
  (tv gv:Value) (M:w.ownsRow 0 5 1 tv text.length (bc text)) (h2:∀k,tv.ownBlock=some k->own k=i\/w0.heap.size<=k) (O:w.ownsRow 0 300 2 gv gs.length (au eg gs)) (k2:∀k,gv.ownBlock=some k->own k=i\/w0.heap.size<=k)
  (s:cK) (ac:w'.heap[g]?=some (.cells (sk (!s.fresh) s.col s.wait tv gv) 211 (0,0))) (F:Kp (fun k=>k=g) w w') (hu:kC 0 gs text.length) (ho:s.out=bY 0 gs text) (ab:gs.length<=bW gs/\∀x∈gs,x.1<text.length):Af own i w0 w' g s:=by
 have hs:=H.kp.size;have ah:=F.size;have af:=aE M H.hg (by decide);have ag:=aE O H.hg (by decide);have ad:=fun k F=>(M.lt k F).2
 have ae:=fun k F=>(O.lt k F).2
 refine⟨fun k=>if k<w0.heap.size then own k else if tv.ownBlock=some k\/gv.ownBlock=some k then i else 0,?_,?_,?_,tv,gv,text,gs,ac,⟨F.row M (fun k I J=>af (by rw[I,J])),?_⟩,⟨F.row O (fun k I J=>ag (by rw[I,J])),?_⟩,hu,ho,ab⟩
 ·intro k u;show(if k<w0.heap.size then own k else if tv.ownBlock=some k\/gv.ownBlock=some k then i else 0)=0;rw[IO (by omega),IO];rintro(e|e)
  ·have:=ad k e;omega
  ·have:=ae k e;omega
 ·refine(H.kp.step F (fun j _ e=>by subst e;exact G)).fr (fun k _ e=>e) (fun k u=>Kd u)
 ·show(if g<w0.heap.size then own g else _)=i
  rw[Kd aa];exact G
 ·intro k e;show(if k<w0.heap.size then own k else if tv.ownBlock=some k\/gv.ownBlock=some k then i else 0)=i
  by_cases u:k<w0.heap.size
  ·rw[Kd u]
   rcases h2 k e with h|h
   ·exact h
   ·omega
  ·rw[IO u,Kd (.inl e)]
 ·intro k e;show(if k<w0.heap.size then own k else if tv.ownBlock=some k\/gv.ownBlock=some k then i else 0)=i
  by_cases u:k<w0.heap.size
  ·rw[Kd u]
   rcases k2 k e with h|h
   ·exact h
   ·omega
  ·rw[IO u,Kd (.inr e)]
def cK.feed (s:cK) (c:Nat):cK:=⟨true,c,0,s.out++[10]⟩
theorem Bm {own:Nat->Nat}{b:Bool}{col F:Int}{cD G:Value}{text:List UInt8}{gs:List (Nat × Nat)}(H:Ga own i w0 g c d h (sk b col F cD G) w text gs) (M:∃p n cap,cD=.slice p n cap) (I:∃p n cap,G=.slice p n cap) (hn:Nf own w0) (J:own g=i) (O:g<w0.heap.size)
  (u:FrameMode) (s:cK) (hu:kC 0 gs text.length) (ho:s.out=bY 0 gs text) (aa:gs.length<=bW gs/\∀x∈gs,x.1<text.length) :
  CallsD Tryz.prog 289 #[.agg #[.bool (!s.fresh),.int .i64 s.col,.int .i64 s.wait],.pointer (some ⟨c,0,none⟩),.pointer (some ⟨d,0,none⟩),.pointer (some ⟨h,0,none⟩)] u w fun e u' w'=>u'=u/\(e=.returned (.tuple #[])/\Af own i w0 w' g s):=by
 obtain⟨tv,h1,h2,h3⟩:=H.hc;obtain⟨gv,k1,k2,k3⟩:=H.hd;obtain⟨p1,c1,e1,_,_⟩:=az h2;obtain⟨p2,c2,e2,_,_⟩:=az k2;refine(Ho u b (!s.fresh) col F s.col s.wait c d h g cD G tv gv w H.hg h1 k1 H.hh M I ⟨_,_,_,e1⟩ ⟨_,_,_,e2⟩).mono ?_;rintro e u' w'⟨rfl,rfl,a1,a2⟩;exact⟨rfl,rfl,H.fin hn J O tv gv h2 h3 k2 k3 s a1 a2 hu ho aa⟩
theorem rv {own:Nat->Nat}{tv:Value}{text:List UInt8}{gs:List (Nat × Nat)}(O:w.heap[g]?=some (.cells sv 211 (0,0))) (G:w.ownsRow 0 5 1 tv text.length (bc text)/\∀k,tv.ownBlock=some k->own k=i) (H:w.ownsRow 0 300 2 gv gs.length (au eg gs)/\∀k,gv.ownBlock=some k->own k=i)
  (M:(w'.heap[c]?=some (.cells #[tv] 52 (0,0))/\w'.heap[d]?=some (.cells #[gv] 209 (0,0))/\w'.heap[h]?=some (.cells #[.pointer (some ⟨g,0,none⟩)] 114 (0,0))/\w.heap.size<=c/\w.heap.size<=d/\w.heap.size<=h)/\Kc w w'):Ga own i w g c d h sv w' text gs:=by
 obtain⟨⟨b1,b2,b3,I,J,_⟩,u⟩:=M;exact⟨af O u,⟨tv,b1,bi G.1 u,fun k F=>.inl (G.2 k F)⟩,⟨gv,b2,bi H.1 u,fun k F=>.inl (H.2 k F)⟩,b3,Kp.of_below u,I,J⟩
theorem iF (own:Nat->Nat) (i g:Nat) (s:cK) (c:Nat) (w:World) (h:SK own i w g s) (hn:Nf own w) (hb:s.out.length<=8589934592) :
  Kb 291 #[.pointer (some ⟨g,0,none⟩),.int .i64 c] w fun e w'=>e=.returned (.tuple #[])/\Af own i w w' g (s.feed c):=by
 have I:=h.len;have F:=h.lab;obtain⟨tv,gv,text,gs,h1,h2,h3,M,h5,O⟩:=h.ex;obtain⟨p1,c1,e1,_,_⟩:=az h2.1;obtain⟨p2,c2,e2,_,_⟩:=az h3.1;have J:=jh M;rw[<-h5]at J;have ab:=O.1;have HG:=lE g (!s.fresh) s.col s.wait tv gv w h1 ⟨_,_,_,e1⟩ ⟨_,_,_,e2⟩;have HS:Hid (∀(w':World) (c d h:Nat),((w'.heap[c]?=some (.cells #[tv] 52 (0,0))/\w'.heap[d]?=some (.cells #[gv] 209 (0,0))/\w'.heap[h]?=some (.cells #[.pointer (some ⟨g,0,none⟩)] 114 (0,0))/\w.heap.size<=c/\w.heap.size<=d/\w.heap.size<=h)/\Kc w w')->Ga own i w g c d h (sk (!s.fresh) s.col s.wait tv gv) w' text gs):=fun w' c d h hB=>rv h1 h2 h3 hB
 have HE:Hid (∀(w':World) (G d h:Nat) (u:FrameMode),Ga own i w g G d h (sk (!s.fresh) s.col s.wait tv gv) w' (text++[10]) gs->CallsD Tryz.prog 289 #[.agg #[.bool false,.int .i64 c,.int .i64 0],.pointer (some ⟨G,0,none⟩),.pointer (some ⟨d,0,none⟩),.pointer (some ⟨h,0,none⟩)] u w' fun e u' w'=>u'=u/\(e=.returned (.tuple #[])/\Af own i w w' g (s.feed c))):=fun w' G d h u H=>
  Bm H ⟨_,_,_,e1⟩ ⟨_,_,_,e2⟩ hn F I u (s.feed c) (M.more (by simp)) (by show s.out++[10]=_;rw[h5,mH [10] M]) ⟨O.1,fun x hx=>by have:=O.2 x hx;simp;omega⟩
 have aa:Hid (Kb 258 #[.pointer (some ⟨g,0,none⟩)] w fun e w'=>∃c d h,e=.returned (.tuple #[.func (.func 287) #[] #[.pointer (some ⟨d,0,none⟩),.pointer (some ⟨c,0,none⟩)],.func (.func 288) #[] #[.pointer (some ⟨c,0,none⟩)],.func (.func 289) #[] #[.pointer (some ⟨c,0,none⟩),.pointer (some ⟨d,0,none⟩),.pointer (some ⟨h,0,none⟩)]])/\Ga own i w g c d h (sk (!s.fresh) s.col s.wait tv gv) w' text gs):=by
  refine HG.mono ?_;rintro e w'⟨c,d,h,rfl,hB⟩;exact⟨c,d,h,rfl,HS.out _ _ _ _ hB⟩
 have HL:Hid (text.length+1<=70368744177664):=by show _<=_;omega
 clear HG HS hn F I h h1 h2 h3 M h5 O ab J e1 e2 hb
 go_enter_defers func291,ntmps291
 go_wp2_with(go_at_call 258;refine aa.out.mono ?_;rintro e w1⟨G,d,h,rfl,H⟩)
 have HH:=ku H;clear H;refine(HH.out.text ⟨#[10]⟩ HL.out).mono ?_;rintro e w2⟨rfl,H2⟩;have HD:=ku H2;clear HH H2
 go_wp2_with fail
 refine Mn (f:=289) (args:=#[.agg #[.bool false,.int .i64 c,.int .i64 0],.pointer (some ⟨G,0,none⟩),.pointer (some ⟨d,0,none⟩),.pointer (some ⟨h,0,none⟩)]) (by simp) (by simp[go_sem]) ?_;refine(HE.out _ _ _ _ .returning HD.out).mono ?_;rintro e u' w''⟨rfl,rfl,hA⟩;exact⟨_,Ol rfl _ _ _,rfl,hA⟩
def cK.text (s:cK) (t:ByteArray):cK:=if t.size=0 then s else⟨false,(iG s.col s.wait t).toNat,0,s.out++((if s.fresh then List.replicate s.col 32 else[])++(List.replicate s.wait 32++t.data.toList))⟩
theorem Ea {t:ByteArray}(h:t.size≠0):t.toList.isEmpty=false:=by
 rw[Mb];cases hd:t.data.toList with
 |nil=>exfalso;apply h;show t.data.size=0;rw[<-KY,hd];rfl
 |cons a r=>rfl
theorem vA (col u:Nat) (t:ByteArray):0<=iG col u t/\iG col u t<=col+u+2*t.size:=by
 have F:=kK t;have G:=kK (CM t);have H:=r9 t;unfold iG
 split<;>omega
theorem wL (g:Nat) (t:ByteArray) (w:World) (ht:t.size=0):Kb 200 #[.pointer (some ⟨g,0,none⟩),.string t] w fun e w'=>e=.returned (.int .i64 0)/\w'=w:=by
 obtain rfl:t=⟨#[]⟩:=by
  have:t=ByteArray.empty:=ByteArray.size_eq_zero_iff.1 ht;exact this
 go_enter_defers func200,ntmps200
 go_wp2_with fail
 exact⟨_,Oa rfl _ _ _,rfl,rfl⟩
theorem wK (own:Nat->Nat) (i g:Nat) (s:cK) (t:ByteArray) (w:World) (h:SK own i w g s) (hn:Nf own w) (hT:ib w) (ht:t.size≠0) (hb:s.out.length+s.col+s.wait+t.size<=8589934592) :
  Kb 200 #[.pointer (some ⟨g,0,none⟩),.string t] w fun e w'=>e=.returned (.int .i64 0)/\Af own i w w' g (s.text t):=by
 have ak:=h.len;have ab:=h.lab;obtain⟨tv,gv,text,gs,h1,h2,h3,h4,h5,h6⟩:=h.ex;obtain⟨p1,c1,e1,_,_⟩:=az h2.1;obtain⟨p2,c2,e2,_,_⟩:=az h3.1;have am:=jh h4;rw[<-h5]at am;obtain⟨fr,col,wait,out⟩:=s;simp only at *
 have aj:Hid (Kb 258 #[.pointer (some ⟨g,0,none⟩)] w fun e w'=>∃c d h,e=.returned (.tuple #[.func (.func 287) #[] #[.pointer (some ⟨d,0,none⟩),.pointer (some ⟨c,0,none⟩)],.func (.func 288) #[] #[.pointer (some ⟨c,0,none⟩)],.func (.func 289) #[] #[.pointer (some ⟨c,0,none⟩),.pointer (some ⟨d,0,none⟩),.pointer (some ⟨h,0,none⟩)]])/\Hid (Ga own i w g c d h (sk (!fr) col wait tv gv) w' text gs/\ib w')/\w'.cell? ⟨g,0,none⟩=some (.bool (!fr))/\w'.cell? ⟨g,1,none⟩=some (.int .i64 col)/\w'.cell? ⟨g,2,none⟩=some (.int .i64 wait)):=by
  refine(lE g (!fr) col wait tv gv w h1 ⟨_,_,_,e1⟩ ⟨_,_,_,e2⟩).mono ?_;rintro e w'⟨c,d,h,rfl,hB⟩;have hG:Ga own i w g c d h (sk (!fr) col wait tv gv) w' text gs:=rv h1 h2 h3 hB;exact⟨c,d,h,rfl,⟨hG,hT.below hB.2⟩,aa hG.hg rfl,aa hG.hg rfl,aa hG.hg rfl⟩
 have ap:=vA col wait t;obtain⟨O,ag⟩:∃O:Nat,iG col wait t=O:=⟨(iG col wait t).toNat,by omega⟩
 have ah:Hid (∀V,ib V->Kb 259 #[.agg #[.bool (!fr),.int .i64 col,.int .i64 wait],.string t] V fun e w'=>e=.returned (.agg #[.bool true,.int .i64 O,.int .i64 0])/\Kc V w'):=by
  intro V hV;have:=ul (!fr) col wait t V hV (by omega) (by omega) (by omega) (by omega) (by omega);rw[ag]at this;exact this
 have HE:Hid (∀(w':World) (G d h:Nat) (u:FrameMode),Ga own i w g G d h (sk (!fr) col wait tv gv) w' (text++t.data.toList) (dA (dA gs text.length (if fr then col else 0)) text.length wait)->CallsD Tryz.prog 289 #[.agg #[.bool true,.int .i64 O,.int .i64 0],.pointer (some ⟨G,0,none⟩),.pointer (some ⟨d,0,none⟩),.pointer (some ⟨h,0,none⟩)] u w' fun e u' w'=>u'=u/\(e=.returned (.tuple #[])/\Af own i w w' g (cK.text ⟨fr,col,wait,out⟩ t))):=by
  intro w' G d h u H
  have aq:cK.text ⟨fr,col,wait,out⟩ t=⟨false,O,0,out++((if fr then List.replicate col 32 else[])++(List.replicate wait 32++t.data.toList))⟩:=by
   unfold cK.text;rw[IO ht];simp only[ag];rfl
  rw[aq]
  have ac:text.length<(text++t.data.toList).length:=by
   have:t.data.toList.length=t.size:=by rw[KY];rfl
   rw[Kf,this];omega
  have al:kC 0 (dA (dA gs text.length (if fr then col else 0)) text.length wait) text.length:=kJ wait (kJ _ h4);refine Bm H ⟨_,_,_,e1⟩ ⟨_,_,_,e2⟩ hn ab ak u ⟨false,O,0,_⟩ (al.more (by simp)) ?_ ⟨ly _ _ _ (ly _ _ _ h6.1),vB _ _ _ _ (vB _ _ _ _ (fun x hx=>by have:=h6.2 x hx;simp;omega) ac) ac⟩;show out++_=_;rw[mH _ al,kH _ (kJ _ h4),kH _ h4,<-h5];cases fr
  ·simp
  ·simp only[MG,Ks]
 have J:Hid (gs.length<=8589934592/\(dA gs text.length (if fr then col else 0)).length<=8589934592/\text.length+t.size<=70368744177664/\col<=8589934592/\wait<=8589934592/\text.length<=8589934592):=by
  have:=ly gs text.length (if fr then col else 0) h6.1;rw[mO]at this;have ar:=h6.1;refine⟨by omega,?_,by omega,by omega,by omega,by omega⟩;cases fr<;>simp at this ⊢<;>omega
 have au:t.toList.isEmpty=false:=Ea ht;clear hn ab ak h h1 h2 h3 h4 h5 h6 am e1 e2 hb hT ht ap ag;cases fr
 ·go_enter_defers func200,ntmps200
  go_wp2_with(go_at_call 258;refine aj.out.mono ?_;rintro e w1⟨G,d,h,rfl,HG,g0,g1,g2⟩)
  refine(ah.out w1 HG.out.2).mono ?_;rintro e w2⟨rfl,M⟩;have F:=ku (HG.out.1.below M);have ae:w2.cell? ⟨g,0,none⟩=some (.bool true):=aa F.out.hg rfl;have af:w2.cell? ⟨g,2,none⟩=some (.int .i64 wait):=aa F.out.hg rfl;clear HG g0 g1 g2 M
  go_wp2_with fail
  refine(F.out.blanks wait J.out.1 (by have:=J.out;omega) (by have:=J.out;omega)).mono ?_;rintro e w3⟨rfl,H3⟩;have I:=ku H3;clear F H3 ae af
  go_wp2_with fail
  refine(I.out.text t J.out.2.2.1).mono ?_;rintro e w4⟨rfl,H4⟩;have ad:=ku H4;clear I H4
  go_wp2_with fail
  refine Mn (f:=289) (args:=#[.agg #[.bool true,.int .i64 O,.int .i64 0],.pointer (some ⟨G,0,none⟩),.pointer (some ⟨d,0,none⟩),.pointer (some ⟨h,0,none⟩)]) (by simp) (by simp[go_sem]) ?_;refine(HE.out _ _ _ _ .returning ad.out).mono ?_;rintro e u' w''⟨rfl,rfl,hA⟩;exact⟨_,Oa rfl _ _ _,rfl,hA⟩
 ·go_enter_defers func200,ntmps200
  go_wp2_with(go_at_call 258;refine aj.out.mono ?_;rintro e w1⟨G,d,h,rfl,HG,g0,g1,g2⟩)
  refine(ah.out w1 HG.out.2).mono ?_;rintro e w2⟨rfl,M⟩;have F:=ku (HG.out.1.below M);have ae:w2.cell? ⟨g,0,none⟩=some (.bool false):=aa F.out.hg rfl;have an:w2.cell? ⟨g,1,none⟩=some (.int .i64 col):=aa F.out.hg rfl;clear HG g0 g1 g2 M
  go_wp2_with fail
  refine(F.out.blanks col J.out.1 (by have:=J.out;omega) (by have:=J.out;omega)).mono ?_;rintro e w3⟨rfl,H3⟩;have I:=ku H3;have af:w3.cell? ⟨g,2,none⟩=some (.int .i64 wait):=aa I.out.hg rfl;clear F H3 ae an
  go_wp2_with fail
  refine(I.out.blanks wait J.out.2.1 (by have:=J.out;omega) (by have:=J.out;omega)).mono ?_;rintro e w5⟨rfl,H5⟩;have ai:=ku H5;clear I H5 af
  go_wp2_with fail
  refine(ai.out.text t J.out.2.2.1).mono ?_;rintro e w4⟨rfl,H4⟩;have ad:=ku H4;clear ai H4
  go_wp2_with fail
  refine Mn (f:=289) (args:=#[.agg #[.bool true,.int .i64 O,.int .i64 0],.pointer (some ⟨G,0,none⟩),.pointer (some ⟨d,0,none⟩),.pointer (some ⟨h,0,none⟩)]) (by simp) (by simp[go_sem]) ?_;refine(HE.out _ _ _ _ .returning ad.out).mono ?_;rintro e u' w''⟨rfl,rfl,hA⟩;exact⟨_,Oa rfl _ _ _,rfl,hA⟩
theorem zx (own:Nat->Nat) (i g:Nat) (s:cK) (t:ByteArray) (w:World) (h:SK own i w g s) (u:Nf own w) (F:ib w) (G:s.out.length+s.col+s.wait+t.size<=8589934592) :
  Kb 200 #[.pointer (some ⟨g,0,none⟩),.string t] w fun e w'=>e=.returned (.int .i64 0)/\Af own i w w' g (s.text t):=by
 by_cases ht:t.size=0
 ·refine(wL g t w ht).mono ?_;rintro e w'⟨rfl,rfl⟩;have:s.text t=s:=Kd ht;rw[this];exact⟨rfl,Af.here h u (gt _ _)⟩
 ·exact wK own i g s t w h u F ht G
theorem BC (own:Nat->Nat) (i g:Nat) (s:cK) (c:Nat) (w:World) (h:SK own i w g s) (F:Nf own w) (hc:c<=1048576) (u:s.out.length<=8589934592) :
  Kb 261 #[.pointer (some ⟨g,0,none⟩),.int .i64 c] w fun e w'=>e=.returned (.int .i64 0)/\Af own i w w' g (s.feed c):=by
 have I:decide ((c:Int)<0)=false:=by simp
 have J:decide (1048576<(c:Int))=false:=by simp;omega
 have M:¬(1048576<(c:Int)):=by omega
 have O:¬(1048576<c):=by omega
 have G:=iF own i g s c w h F u;clear h F u
 go_enter func261,ntmps261
 go_wp2_with(go_at_call 291;refine G.mono ?_;rintro e w1⟨rfl,H⟩)
 go_ret
 exact⟨rfl,H⟩
def cK.empty (s:cK):cK:=if s.fresh then s.feed s.col else s
theorem yB (own:Nat->Nat) (i g:Nat) (s:cK) (w:World) (h:SK own i w g s) (F:Nf own w) (G:s.out.length<=8589934592) :
  Kb 262 #[.pointer (some ⟨g,0,none⟩)] w fun e w'=>e=.returned (.int .i64 0)/\Af own i w w' g s.empty:=by
 obtain⟨tv,gv,text,gs,u,_⟩:=h.ex;have H:=iF own i g s s.col w h F G;obtain⟨fr,col,wait,out⟩:=s;simp only at *;have M:w.cell? ⟨g,0,none⟩=some (.bool (!fr)):=aa u rfl;have O:w.cell? ⟨g,1,none⟩=some (.int .i64 col):=aa u rfl;cases fr
 ·have I:=ku (Af.here h F (gt _ _));clear h F G u H
  go_enter func262,ntmps262
  go_wp2_with fail
  go_ret
  exact⟨rfl,I.out⟩
 ·clear h F G u
  go_enter func262,ntmps262
  go_wp2_with(go_at_call 291;refine H.mono ?_;rintro e w1⟨rfl,J⟩)
  go_ret
  exact⟨rfl,J⟩
theorem pi (b:Nat) (w:World) (u:w.cell? ⟨b,0,none⟩=some (.pointer (some ⟨b,0,none⟩))):Kb 267 #[.pointer (some ⟨b,0,none⟩)] w fun e w'=>e=.returned (.tuple #[])/\w=w':=
 (Hy b w u).mono fun e w' h=>⟨h.1,h.2.symm⟩
structure Bd (b:Nat) (v:Value) (bs:List UInt8) (w:World):Prop where
 blk:w.heap[b]?=some (.cells #[.pointer (some ⟨b,0,none⟩),v] 298 (0,0))
 row:w.ownsRow 0 5 1 v bs.length (bc bs)
def Bw (b:Nat) (v:Value) (bs:List UInt8) (w w':World):Prop:=∃v',Bd b v' bs w'/\(v'.ownBlock=v.ownBlock\/v'.ownBlock=some w.heap.size)/\Kp (fun k=>k=b\/some k=v.ownBlock) w w'
theorem Bd.put {u:Value}{bs l:List UInt8}{w2:World}(h:Bd b v bs w) (hg:w.grownBy w2 v.ownBlock) (M:w2.ownsRow 0 5 1 u (bs.length+l.length) (bc bs++bc l)) (H:u.ownBlock=v.ownBlock\/u.ownBlock=some w.heap.size):Bw b v (bs++l) w (w2.setCell ⟨b,1,none⟩ u):=by
 have J:=Kp.of_grown hg;have I:=aE h.row h.blk (by decide);have F:=J.blk h.blk (fun e=>I e.symm);have G:=aE M F (by decide);refine⟨u,⟨ab F 1 u,?_⟩,H,?_⟩
 ·rw[Kf,uo];exact(Kp.set w2 b 1 u).row M (fun k O e2=>G (by rw[O,e2]))
 ·exact(Kp.step (S:=fun k=>k=b\/some k=v.ownBlock) (Kp.refl _ _) J (fun _ _ h=>.inr h)).step (Kp.set w2 b 1 u) (fun _ _ h=>.inl h)
theorem Hs (b:Nat) (v:Value) (bs l:List UInt8) (ad:Addr) (m c:Nat) (w:World) (h:Bd b v bs w) (hl:l.length=m) (M:∀j u,(bc l)[j]?=some u->w.cell? (ad.add j)=some u) (hn:bs.length+m<=70368744177664) :
  Kb 211 #[.pointer (some ⟨b,0,none⟩),.slice (some ad) m c] w fun e w'=>e=.returned (.tuple #[.int .i64 m,.nilIface])/\Bw b v (bs++l) w w':=by
 obtain⟨i0,hi,O,ab,ac⟩:=LJ Tryz.info5;have c0:w.cell? ⟨b,0,none⟩=some (.pointer (some ⟨b,0,none⟩)):=aa h.blk rfl;have c1:w.cell? ⟨b,1,none⟩=some v:=aa h.blk rfl;have af:=ai h.blk;obtain⟨p,cap,rfl,_,_⟩:=az h.row;have I:=ku h;clear h
 go_enter func211,ntmps211
 go_wp2_with(first|(go_at_call 267;refine(pi b w c0).mono ?_;rintro e w1⟨rfl,rfl⟩)|(at_builtin;refine L7 (P:=Tryz.prog) (w:=w) rfl _ _ 52 rfl 0 5 i0 (.int .u8 0) 1 1 underlying52 hi O ab ac rfl (by decide) _ _ _ rfl I.out.row ad m c (bc l) rfl ?c0 M (Hz l) ?c3 ?c4 ?c5 ?_))
 case c0=>rw[H7,hl,MA]
 case c3=>unfold maxLen;omega
 case c4=>omega
 case c5=>omega
 intro v2 w2 H G _ J;have HE:=ku (I.out.put G (by rw[hl];exact H) J);have F:=(Kp.of_grown G).blk I.out.blk (fun e=>aE I.out.row I.out.blk (by decide) e.symm);have d0:w2.cell? ⟨b,0,none⟩=some (.pointer (some ⟨b,0,none⟩)):=aa F rfl;have d1:w2.cell? ⟨b,1,none⟩=some (.slice p bs.length cap):=aa F rfl;have f1:w2.frozen? ⟨b,1,none⟩=false:=aj F;obtain⟨p2,ae,rfl,_,_⟩:=az H;clear H G J F
 go_wp2_with fail
 go_ret2
 exact⟨rfl,HE.out⟩
theorem rT (b:Nat) (v:Value) (bs:List UInt8) (w:World) (h:Bd b v bs w) :
  Kb 211 #[.pointer (some ⟨b,0,none⟩),.slice none 0 0] w fun e w'=>e=.returned (.tuple #[.int .i64 0,.nilIface])/\Bw b v (bs++[]) w w':=by
 obtain⟨H,G,J,M,O⟩:=LJ Tryz.info5;have c0:w.cell? ⟨b,0,none⟩=some (.pointer (some ⟨b,0,none⟩)):=aa h.blk rfl;have c1:w.cell? ⟨b,1,none⟩=some v:=aa h.blk rfl;have I:=ai h.blk;have f1:w.frozen? ⟨b,1,none⟩=false:=aj h.blk;have u:Hid (Bw b v (bs++[]) w (w.setCell ⟨b,1,none⟩ v)):=h.put ⟨rfl,rfl,rfl,ge _,fun _ _ _=>rfl⟩ (by simpa[bc]using h.row) (.inl rfl);obtain⟨p,cap,rfl,_,_⟩:=az h.row;have F:=ku h;clear h
 go_enter func211,ntmps211
 go_wp2_with(first|(go_at_call 267;refine(pi b w c0).mono ?_;rintro e w1⟨rfl,rfl⟩)|(at_builtin;refine wpList_append_own_none (P:=Tryz.prog) (w:=w) rfl _ _ 52 rfl 0 5 H 1 underlying52 G _ _ _ rfl F.out.row rfl ?_))
 go_ret2
 exact⟨rfl,u.out⟩
theorem Jf (b:Nat) (v:Value) (bs:List UInt8) (t:ByteArray) (w:World) (h:Bd b v bs w) (hn:bs.length+t.size<=70368744177664) :
  Kb 212 #[.pointer (some ⟨b,0,none⟩),.string t] w fun e w'=>e=.returned (.tuple #[.int .i64 t.size,.nilIface])/\Bw b v (bs++t.data.toList) w w':=by
 obtain⟨i0,hi,J,M,O⟩:=LJ Tryz.info5;have c0:w.cell? ⟨b,0,none⟩=some (.pointer (some ⟨b,0,none⟩)):=aa h.blk rfl;have c1:w.cell? ⟨b,1,none⟩=some v:=aa h.blk rfl;have ac:=ai h.blk;obtain⟨p,cap,rfl,_,_⟩:=az h.row;have H:=ku h;clear h
 go_enter func212,ntmps212
 go_wp2_with(first|(go_at_call 267;refine(pi b w c0).mono ?_;rintro e w1⟨rfl,rfl⟩)|(at_builtin;refine bz (P:=Tryz.prog) (w:=w) rfl _ _ 52 9 rfl 0 5 i0 underlying52 underlying9 hi J M O _ _ _ rfl H.out.row t rfl ?c3 ?c4 ?c5 ?_))
 case c3=>unfold maxLen;omega
 case c4=>omega
 case c5=>omega
 intro v2 w2 G F I;have HE:=ku (H.out.put F G I);have u:=(Kp.of_grown F).blk H.out.blk (fun e=>aE H.out.row H.out.blk (by decide) e.symm);have d0:w2.cell? ⟨b,0,none⟩=some (.pointer (some ⟨b,0,none⟩)):=aa u rfl;have d1:w2.cell? ⟨b,1,none⟩=some (.slice p bs.length cap):=aa u rfl;have f1:w2.frozen? ⟨b,1,none⟩=false:=aj u;obtain⟨p2,ab,rfl,_,_⟩:=az G;clear G F I u
 go_wp2_with fail
 go_ret2
 exact⟨rfl,HE.out⟩
theorem Ci (u:FrameMode) (b:Bool) (col F:Int) (h g:Nat) (tv gv:Value) (w:World) (G:w.heap[g]?=some (.cells (sk b col F tv gv) 211 (0,0))) (J:w.heap[h]?=some (.cells #[.pointer (some ⟨g,0,none⟩)] 114 (0,0))) (I:∃p n cap,tv=.slice p n cap) (H:∃p n cap,gv=.slice p n cap) :
  CallsD Tryz.prog 208 #[.pointer (some ⟨h,0,none⟩)] u w fun e M w'=>M=u/\(e=.returned (.tuple #[])/\w'=(w.setCell ⟨g,3,none⟩ (.slice none 0 0)).setCell ⟨g,4,none⟩ (.slice none 0 0)):=by
 have g3:w.cell? ⟨g,3,none⟩=some tv:=aa G rfl;have g4:w.cell? ⟨g,4,none⟩=some gv:=aa G rfl;have O:w.frozen? ⟨g,3,none⟩=false:=aj G;have f4:w.frozen? ⟨g,4,none⟩=false:=aj G;have h0:w.cell? ⟨h,0,none⟩=some (.pointer (some ⟨g,0,none⟩)):=aa J rfl;obtain⟨p1,n1,k1,rfl⟩:=I;obtain⟨p2,n2,k2,rfl⟩:=H
 go_enter_d func208,ntmps208
 go_wp2_with fail
 go_end0
 exact⟨rfl,rfl⟩
theorem Id (g j:Nat):(⟨g,0,none⟩:Addr).add j=⟨g,j,none⟩:=by
 unfold Addr.add
 split<;>simp_all
theorem nu {gs:List (Nat × Nat)}(h:w.ownsRow 0 300 2 gv gs.length (au eg gs)) (k:Nat) (x:Nat × Nat) (G:gs[k]?=some x):∃u cap,gv=.slice (some ⟨u,0,none⟩) gs.length cap/\gs.length<=cap/\w.cell? ⟨u,k*2,none⟩=some (.int .i64 x.1)/\w.cell? ⟨u,k*2+1,none⟩=some (.int .i64 x.2):=by
 have I:=(Kq.1 G).1
 rcases h.2 with⟨_,J⟩|⟨u,cap,H,rfl,_,_,hc,_⟩
 ·omega
 ·have F:=h.cells (g:=u) rfl;refine⟨u,cap,rfl,hc,?_,?_⟩
  ·have:=F (k*2+0) (.int .i64 x.1) (aO eg 2 BL gs k 0 x _ G rfl);rw[Id]at this;exact this
  ·have:=F (k*2+1) (.int .i64 x.2) (aO eg 2 BL gs k 1 x _ G rfl);rw[Id]at this;exact this
theorem wQ (gs:List (Nat × Nat)) (k:Nat) (x:Nat × Nat) (u:gs[k]?=some x):bW (gs.take (k+1))=bW (gs.take k)+x.2:=by
 induction gs generalizing k with
 |nil=>simp at u
 |cons y r ih=>
  obtain⟨a,n⟩:=y;cases k with
  |zero=>simp at u;subst u;simp[bW]
  |succ k=>simp only[N5,bW];rw[ih k (by simpa using u)];omega
theorem uH (gs:List (Nat × Nat)) (k:Nat):bW (gs.take k)<=bW gs:=by
 induction gs generalizing k with
 |nil=>simp
 |cons y r ih=>
  obtain⟨a,n⟩:=y;cases k with
  |zero=>simp[bW]
  |succ k=>simp only[N5,bW];have:=ih k;omega
theorem zJ (g:Nat) (b:Bool) (col O:Int) (tv gv:Value) (n:Nat) (xs:List Value) (gs:List (Nat × Nat)) (w:World) (hg:w.heap[g]?=some (.cells (sk b col O tv gv) 211 (0,0))) (ht:w.ownsRow 0 5 1 tv n xs) (hr:w.ownsRow 0 300 2 gv gs.length (au eg gs)) (hn:n<=8589934592) (hs:bW gs<=8589934592) (hl:gs.length<=8589934592) :
  Kb 210 #[.pointer (some ⟨g,0,none⟩)] w fun e w'=>e=.returned (.int .i64 (n+bW gs:Nat))/\Below w.heap.size w w':=by
 have g3:w.cell? ⟨g,3,none⟩=some tv:=aa hg rfl;have g4:w.cell? ⟨g,4,none⟩=some gv:=aa hg rfl;obtain⟨p1,c1,rfl,_,_⟩:=az ht;obtain⟨p2,c2,rfl,_,_⟩:=az hr;have HR:=ku hr;clear ht hr hg
 go_enter func210,ntmps210
 go_wp2_with fail
 go_loopw [3,16] (fun m i wr=>∃k:Nat,k<=gs.length/\m=.int .i64 (n+bW (gs.take k):Nat)/\i=.int .i64 k/\Below w.heap.size w wr) (fun _ i _=>gs.length-(intOf i).toNat)
 case atStart=>exact⟨0,by omega,by simp[bW],rfl,gt _ _⟩
 case round=>
  obtain⟨k,hk,rfl,rfl,H⟩:=hrel;have J:=uH gs k
  by_cases I:k<gs.length
  ·obtain⟨x,hx⟩:∃x,gs[k]?=some x:=⟨gs[k],Ke I⟩;obtain⟨tb,cap,he,hc,x1,x2⟩:=nu HR.out k x hx;injection he with e1 e2 e3
   subst e1;have y1:=(H.cell (p:=⟨tb,k*2,none⟩) (Kg _ _ x1)).trans x1;have y2:=(H.cell (p:=⟨tb,k*2+1,none⟩) (Kg _ _ x2)).trans x2;have u:=wQ gs k x hx;have M:=uH gs (k+1);obtain⟨a,z⟩:=x;simp only at y1 y2 u;have q1:(k:Int)<gs.length:=by omega
   have F:=ku u;have hz:bW (gs.take k)+z<=8589934592:=by omega
   clear x1 x2 hx u M e3;obtain⟨S,G⟩:∃S,bW (gs.take k)=S:=⟨_,rfl⟩;rw[G]at J hz F ⊢;clear G
   go_wp2_with fail
   exact⟨⟨k+1,I,by rw[F.out];go_num,by go_num,H.alloc H.size _⟩,by simp[intOf];omega⟩
  ·obtain rfl:k=gs.length:=by omega
   have F:Hid (bW (gs.take gs.length)=bW gs):=by rw[L6];rfl
   have q1:¬((gs.length:Int)<gs.length):=by omega
   obtain⟨S,G⟩:∃S,bW (gs.take gs.length)=S:=⟨_,rfl⟩;rw[G]at J F ⊢;clear G;have HF:Hid ((n:Int)+(S:Int)=(n:Int)+(bW gs:Nat)):=by rw[F.out];rfl
   clear F
   go_wp2_with fail
   go_ret
   exact⟨Kw (fun z=>Ending.returned (.int .i64 z)) HF.out,H⟩
