import Derived.Laws.AppendOwnNone
import Derived.Lib.RepeatB
import Derived.Test.YtcjiapphbpiffaaGreatDoorM11
set_option linter.unusedVariables false
set_option linter.unusedSimpArgs false
set_option maxHeartbeats 1000000
namespace Go.Proofs.YtcjiapphbpiffaaGreatDoor.Lw
open Go.Proofs.YtcjiapphbpiffaaGreatDoor.Lx
open Go.RowKit
open Go.Lib (strCells strCells_length)
variable {g i b c d h f j:Nat}{w w0 w' W W':World}{bs:List UInt8}{sv:Array Value}{v tv gv:Value}
theorem xD (t:ByteArray):(uM t).size<=t.size:=by
 unfold uM;have:=Mz t;rw [Uj];omega
theorem zo (b:Bool) (F C:Int) (t:ByteArray) (w:World) (hT:kl w) (ht:t.size<=8589934592) (h0:0<=F) (h1:F<=1152921504606846976) (h2:0<=C) (h3:C<=1152921504606846976) :
  Ta 91 #[.agg #[.bool b,.int .i64 F,.int .i64 C],.string t] w fun e w'=>e=.returned (.agg #[.bool true,.int .i64 (nj F C t),.int .i64 0])/\Below w.heap.size w w':=by
 have ac:=Mz t;have ad:=qX t;have ab:=qX (uM t);have ae:=xD t
 by_cases hl:lf t<0
 ·have q1:decide (0<=lf t)=false:=by simp;omega
  have q2:¬(0<=lf t):=by omega
  have HN:Hid (nj F C t=F+C+tw t):=IO hl;clear ab ae;obtain ⟨y,U⟩:∃y,tw t=y:=⟨_,rfl⟩;rw [U] at HN ad
  go_enter Tryz.func91,Tryz.ntmps91
  go_wp2_with (go_at_call 145;refine (wv t (by omega) _).mono ?_;rintro e w1 ⟨rfl,rfl⟩)
  obtain ⟨W,Q⟩:∃W,((w.alloc (.cells #[.bool b,.int .i64 F,.int .i64 C] 120)).alloc (.cells #[.bool false,.int .i64 0,.int .i64 0] 120))=W:=⟨_,rfl⟩;have s1:(w.alloc (.cells #[.bool b,.int .i64 F,.int .i64 C] 120)).heap.size=w.heap.size+1:=SX _ _;have H:Below w.heap.size w W:=by rw [<-Q];exact ((hH _ w).alloc (gt _) _).alloc (by omega) _
  have b1:W.heap[w.heap.size]?=some (.cells #[.bool b,.int .i64 F,.int .i64 C] 120 (0,0)):=by rw [<-Q];exact ij _ _ _ _ (aq _ _)
  have M:W.heap[w.heap.size+1]?=some (.cells #[.bool false,.int .i64 0,.int .i64 0] 120 (0,0)):=by rw [<-Q,<-s1];exact aq _ _
  obtain ⟨x,hx⟩:∃x,x=w.heap.size:=⟨_,rfl⟩;rw [<-hx] at b1 M H;have Z:kl W:=hT.below (by rw [<-hx];exact H);simp only [Q,<-hx];have x1:W.cell? ⟨x,1,none⟩=some (.int .i64 F):=af b1 rfl;have x2:W.cell? ⟨x,2,none⟩=some (.int .i64 C):=af b1 rfl;have HB:Hid (∀V,Below W.heap.size W V->V.cell? ⟨x,1,none⟩=some (.int .i64 F)/\V.cell? ⟨x,2,none⟩=some (.int .i64 C)/\V.cell? ⟨x+1,0,none⟩=some (.bool false)/\V.cell? ⟨x+1,1,none⟩=some (.int .i64 0)/\V.cell? ⟨x+1,2,none⟩=some (.int .i64 0)/\V.frozen? ⟨x+1,0,none⟩=false/\V.frozen? ⟨x+1,1,none⟩=false/\V.frozen? ⟨x+1,2,none⟩=false):=fun V G=>⟨af (ag b1 G) rfl,af (ag b1 G) rfl,af (ag M G) rfl,af (ag M G) rfl,af (ag M G) rfl,am (ag M G),am (ag M G),am (ag M G)⟩
  have ah:Hid (Below x w W):=H;have HT:Hid (kl W):=Z
  have HC:Hid (Ta 141 #[.string t] W.drew fun e V=>e=.returned (.int .i64 y)/\Hid (Below x w V/\V.heap[x+1]?=some (.cells #[.bool false,.int .i64 0,.int .i64 0] 120 (0,0)))/\V.cell? ⟨x,1,none⟩=some (.int .i64 F)/\V.cell? ⟨x,2,none⟩=some (.int .i64 C)/\V.cell? ⟨x+1,0,none⟩=some (.bool false)/\V.cell? ⟨x+1,1,none⟩=some (.int .i64 0)/\V.cell? ⟨x+1,2,none⟩=some (.int .i64 0)/\V.frozen? ⟨x+1,0,none⟩=false/\V.frozen? ⟨x+1,1,none⟩=false/\V.frozen? ⟨x+1,2,none⟩=false):=by
   refine (lD t W.drew (Z.below (Wj (hH _ W))) ht).mono ?_;rintro e V ⟨rfl,G⟩;have aa:Below W.heap.size W V:=⟨G.os,G.tape,G.output,G.size,G.block⟩;exact ⟨by rw [U],⟨H.trans (aa.mono (by have:=H.size;omega)),ag M aa⟩,HB.out V aa⟩
  clear s1 b1 M hT Z H Q q1 q2 hl ac HB HT U;have HX:Hid (x=w.heap.size):=hx;clear hx
  go_region_with (go_at_call 141;refine HC.out.mono ?_;rintro e O ⟨rfl,J,k1,k2,k3,k4,k5,k6,k7,k8⟩)
  all_goals
   have hz:IntKind.i64.wrap (IntKind.i64.wrap (F+C)+y)=F+C+y:=by rw [TJ,TJ];omega
   rw [hz];obtain ⟨V,G⟩:∃V,V=((O.setCell ⟨x+1,0,none⟩ (.bool true)).setCell ⟨x+1,1,none⟩ (.int .i64 (F+C+y))).setCell ⟨x+1,2,none⟩ (.int .i64 0):=⟨_,rfl⟩;have I:V.heap[x+1]?=some (.cells #[.bool true,.int .i64 (F+C+y),.int .i64 0] 120 (0,0)):=by rw [G];exact aj (aj (aj J.out.2 0 _) 1 _) 2 _
   have S:Below x w V:=by rw [G];exact (((J.out.1).setCell (p:=⟨x+1,0,none⟩) (by show x<=x+1;omega) _).setCell (p:=⟨x+1,1,none⟩) (by show x<=x+1;omega) _).setCell (p:=⟨x+1,2,none⟩) (by show x<=x+1;omega) _
   rw [<-G];have m0:V.cell? ⟨x+1,0,none⟩=some (.bool true):=af I rfl;have m1:V.cell? ⟨x+1,1,none⟩=some (.int .i64 (F+C+y)):=af I rfl;have m2:V.cell? ⟨x+1,2,none⟩=some (.int .i64 0):=af I rfl;have HF:Hid (Ending.returned (.agg #[.bool true,.int .i64 (F+C+y),.int .i64 0])=.returned (.agg #[.bool true,.int .i64 (nj F C t),.int .i64 0])/\Below w.heap.size w V):=⟨by rw [HN.out],by rw [<-HX.out];exact S⟩;clear hz G I S k1 k2 k3 k4 k5 k6 k7 k8 J HC HN
   go_wp2_with fail
   exact Ti (v:=.agg #[.bool true,.int .i64 (F+C+y),.int .i64 0]) (by simp [results,Tryz.f91,go_sem,m0,m1,m2]) rfl HF.out
 ·have q1:decide (0<=lf t)=true:=by simp;omega
  have q2:(0<=lf t):=by omega
  have HN:Hid (nj F C t=tw (uM t)):=Eq hl;obtain ⟨k,hk⟩:∃k:Nat,lf t=k:=⟨(lf t).toNat,by omega⟩;have HA:Hid (uM t=t.extract (k+1) t.size):=by unfold uM;rw [hk];rfl
  obtain ⟨y,U⟩:∃y,tw (uM t)=y:=⟨_,rfl⟩
  have HC:Hid (∀V,kl V->Ta 141 #[.string (t.extract (k+1) t.size)] V fun e V'=>e=.returned (.int .i64 y)/\Below V.heap.size V V'):=by
   intro V G;rw [<-HA.out,<-U];exact lD (uM t) V G (by omega)
  rw [U] at HN ab;have ai:(k:Int)+1<=t.size:=by omega
  have ak:k+1<=t.size:=by omega
  have HT:Hid (kl w):=hT
  have LC:Hid (∀V,Ta 145 #[.string t,.string ⟨#[10]⟩] V fun e w'=>e=.returned (.int .i64 k)/\w'=V):=by
   intro V;have:=wv t (by omega) V;rw [hk] at this;exact this
  clear ae ad q1 q2 hT U HA hl hk ac
  go_enter Tryz.func91,Tryz.ntmps91
  go_wp2_with (go_at_call 145;refine (LC.out _).mono ?_;rintro e w1 ⟨rfl,rfl⟩)
  obtain ⟨W,Q⟩:∃W,((w.alloc (.cells #[.bool b,.int .i64 F,.int .i64 C] 120)).alloc (.cells #[.bool false,.int .i64 0,.int .i64 0] 120))=W:=⟨_,rfl⟩;have s1:(w.alloc (.cells #[.bool b,.int .i64 F,.int .i64 C] 120)).heap.size=w.heap.size+1:=SX _ _;have H:Below w.heap.size w W:=by rw [<-Q];exact ((hH _ w).alloc (gt _) _).alloc (by omega) _
  have M:W.heap[w.heap.size+1]?=some (.cells #[.bool false,.int .i64 0,.int .i64 0] 120 (0,0)):=by rw [<-Q,<-s1];exact aq _ _
  refine (HC.out _ ?tab).mono ?_
  case tab=>rw [Q];exact HT.out.below H
  rintro e O ⟨rfl,J⟩;rw [Q] at J;have Y:Hid (Below w.heap.size w O):=H.trans (J.mono H.size);have k0:=ag M J;clear J H M s1 Q;have HK:Hid (O.heap[w.heap.size+1]?=some (.cells #[.bool false,.int .i64 0,.int .i64 0] 120 (0,0))):=k0;obtain ⟨x,HX⟩:∃x,Hid (x=w.heap.size):=⟨_,rfl⟩;rw [<-HX.out] at k0 Y HK ⊢;have k3:O.cell? ⟨x+1,0,none⟩=some (.bool false):=af k0 rfl;have k4:O.cell? ⟨x+1,1,none⟩=some (.int .i64 0):=af k0 rfl;have k5:O.cell? ⟨x+1,2,none⟩=some (.int .i64 0):=af k0 rfl;have k6:O.frozen? ⟨x+1,0,none⟩=false:=am k0;have k7:O.frozen? ⟨x+1,1,none⟩=false:=am k0;have k8:O.frozen? ⟨x+1,2,none⟩=false:=am k0;clear k0;obtain ⟨V,G⟩:∃V,V=((O.setCell ⟨x+1,0,none⟩ (.bool true)).setCell ⟨x+1,1,none⟩ (.int .i64 y)).setCell ⟨x+1,2,none⟩ (.int .i64 0):=⟨_,rfl⟩;have I:V.heap[x+1]?=some (.cells #[.bool true,.int .i64 y,.int .i64 0] 120 (0,0)):=by rw [G];exact aj (aj (aj HK.out 0 _) 1 _) 2 _
  have S:Below x w V:=by rw [G];exact (((Y.out).setCell (p:=⟨x+1,0,none⟩) (by show x<=x+1;omega) _).setCell (p:=⟨x+1,1,none⟩) (by show x<=x+1;omega) _).setCell (p:=⟨x+1,2,none⟩) (by show x<=x+1;omega) _
  have m0:V.cell? ⟨x+1,0,none⟩=some (.bool true):=af I rfl;have m1:V.cell? ⟨x+1,1,none⟩=some (.int .i64 y):=af I rfl;have m2:V.cell? ⟨x+1,2,none⟩=some (.int .i64 0):=af I rfl;have HF:Hid (Ending.returned (.agg #[.bool true,.int .i64 y,.int .i64 0])=.returned (.agg #[.bool true,.int .i64 (nj F C t),.int .i64 0])/\Below w.heap.size w V):=⟨by rw [HN.out],by rw [<-HX.out];exact S⟩;have HV:Hid (V=((O.setCell ⟨x+1,0,none⟩ (.bool true)).setCell ⟨x+1,1,none⟩ (.int .i64 y)).setCell ⟨x+1,2,none⟩ (.int .i64 0)):=G;clear G I S Y HC HN
  go_wp2_with fail
  rw [<-HV.out];exact Ti (v:=.agg #[.bool true,.int .i64 y,.int .i64 0]) (by simp [results,Tryz.f91,go_sem,m0,m1,m2]) rfl HF.out
def fh (gs:List (Nat × Nat)) (l m:Nat):List (Nat × Nat):=if m=0 then gs else gs++[(l,m)]
theorem oG {gs:List (Nat × Nat)}{t:List UInt8}(m:Nat) (h:oz f gs t.length):dj f (fh gs t.length m) t=dj f gs t++List.replicate m 32:=by
 unfold fh
 by_cases C:m=0
 ·rw [IO C,C];simp
 ·rw [Eq C];exact BK m h
theorem oI {gs:List (Nat × Nat)}{k:Nat}(m:Nat) (h:oz f gs k):oz f (fh gs k m) k:=by
 unfold fh
 split
 ·exact h
 ·exact h.snoc m
theorem qZ (gs:List (Nat × Nat)) (l m:Nat):dd (fh gs l m)=dd gs+m:=by
 unfold fh
 split
 ·omega
 ·exact El _ _ _
theorem AK (gs:List (Nat × Nat)) (l m n:Nat) (h:∀x∈gs,x.1<n) (F:l<n):∀x∈fh gs l m,x.1<n:=by
 unfold fh
 split
 ·exact h
 ·intro x C
  rcases To.1 C with C|C
  ·exact h x C
  ·simp at C;subst C;exact F
theorem pH (gs:List (Nat × Nat)) (l m:Nat) (h:gs.length<=dd gs):(fh gs l m).length<=dd (fh gs l m):=by
 rw [qZ];unfold fh
 split
 ·omega
 ·simp;omega
theorem Qq (m d c:Nat) (v tv:Value) (l:Nat) (gs:List (Nat × Nat)) (w:World) (hc:w.heap[c]?=some (.cells #[tv] 39 (0,0))) (F:∃p cap,tv=.slice p l cap) (hd:w.heap[d]?=some (.cells #[v] 121 (0,0))) (H:w.ownsRow 0 130 2 v gs.length (bB eg gs)) (S:gs.length<=8589934592) (C:m<=9223372036854775807) (Q:l<=9223372036854775807) :
  Ta 142 #[.int .i64 m,.pointer (some ⟨d,0,none⟩),.pointer (some ⟨c,0,none⟩)] w fun e w'=>e=.returned (.tuple #[])/\∃v',w'.heap[d]?=some (.cells #[v'] 121 (0,0))/\w'.ownsRow 0 130 2 v' (fh gs l m).length (bB eg (fh gs l m))/\(v'.ownBlock=v.ownBlock\/∃b,w.heap.size<=b/\v'.ownBlock=some b)/\Kp (fun k=>k=d\/some k=v.ownBlock) w w':=by
 unfold fh
 by_cases G:m=0
 ·subst G;simp only [IO];refine (LJ 0 d c w (Uq _)).mono ?_;rintro e w' ⟨rfl,rfl⟩;exact ⟨rfl,v,hd,H,.inl rfl,Kp.refl _ _⟩
 ·simp only [Eq G];refine (DB m d c v tv gs.length l (bB eg gs) w hc F hd H S (by omega) C Q).mono ?_;rintro e w' ⟨rfl,v',I,J,M,O⟩;refine ⟨rfl,v',I,?_,M,O⟩;rw [Or,cz]
  simpa [bB] using J
structure Ga (own:Nat->Nat) (i:Nat) (w0:World) (g c d h:Nat) (sv:Array Value) (w:World) (text:List UInt8) (gs:List (Nat × Nat)):Prop where
 hg:w.heap[g]?=some (.cells sv 123 (0,0))
 hc:∃tv,w.heap[c]?=some (.cells #[tv] 39 (0,0))/\w.ownsRow 0 5 1 tv text.length (bc text)/\∀k,tv.ownBlock=some k->own k=i\/w0.heap.size<=k
 hd:∃gv,w.heap[d]?=some (.cells #[gv] 121 (0,0))/\w.ownsRow 0 130 2 gv gs.length (bB eg gs)/\∀k,gv.ownBlock=some k->own k=i\/w0.heap.size<=k
 hh:w.heap[h]?=some (.cells #[.pointer (some ⟨g,0,none⟩)] 80 (0,0))
 kp:Kp (fun k=>own k=i) w0 w
 lc:w0.heap.size<=c
 ld:w0.heap.size<=d
theorem lY {a:Nat}{x y:Array Value}{s t:TypeId}{f e:Nat × Nat}(G:w.heap[a]?=some (.cells x s f)) (C:w.heap[b]?=some (.cells y t e)) (h:s≠t):a≠b:=by
 rintro rfl;rw [G] at C;injection C with F
 injection F with _ h2
 exact h h2
theorem Ga.below {own:Nat->Nat}{text:List UInt8}{gs:List (Nat × Nat)}(H:Ga own i w0 g c d h sv w text gs) (C:Below w.heap.size w w'):Ga own i w0 g c d h sv w' text gs:=by
 obtain ⟨tv,F,G,I⟩:=H.hc;obtain ⟨gv,k1,k2,k3⟩:=H.hd;exact ⟨ag H.hg C,⟨tv,ag F C,bv G C,I⟩,⟨gv,ag k1 C,bv k2 C,k3⟩,ag H.hh C,H.kp.step (Kp.of_below (S:=fun k=>own k=i) C) (fun _ _ h=>h),H.lc,H.ld⟩
theorem Ga.blanks {own:Nat->Nat}{text:List UInt8}{gs:List (Nat × Nat)}(H:Ga own i w0 g c d h sv w text gs) (m:Nat) (Z:gs.length<=8589934592) (Y:m<=9223372036854775807) (U:text.length<=9223372036854775807) :
  Ta 142 #[.int .i64 m,.pointer (some ⟨d,0,none⟩),.pointer (some ⟨c,0,none⟩)] w fun e w'=>e=.returned (.tuple #[])/\Ga own i w0 g c d h sv w' text (fh gs text.length m):=by
 obtain ⟨tv,O,M,S⟩:=H.hc;obtain ⟨gv,k1,k2,k3⟩:=H.hd;obtain ⟨p,cap,hv,_,_⟩:=aK M;refine (Qq m d c gv tv text.length gs w O ⟨p,cap,hv⟩ k1 k2 Z Y U).mono ?_;rintro e w' ⟨rfl,v',a1,a2,I,a4⟩
 have G:∀{x:Array Value} {k:Nat} {T:TypeId},w.heap[k]?=some (.cells x T (0,0))->T≠121->T≠130->¬(k=d\/some k=gv.ownBlock):=by
  intro x k T C t1 t2 J
  rcases J with J|J
  ·exact lY C k1 t1 J
  ·exact aN k2 C t2 J.symm
 refine ⟨rfl,a4.blk H.hg (G H.hg (by decide) (by decide)),⟨tv,a4.blk O (G O (by decide) (by decide)),a4.row M ?_,S⟩,⟨v',a1,a2,?_⟩,a4.blk H.hh (G H.hh (by decide) (by decide)),H.kp.step a4 ?_,H.lc,H.ld⟩
 ·intro k C F
  rcases F with F|F
  ·subst F;exact aN M k1 (by decide) C
  ·rcases M.2 with ⟨rfl,_⟩|⟨b,cap,aa,rfl,_,Q,_⟩
   ·cases C
   ·simp only [Value.ownBlock,Tp] at C;subst C;exact aN k2 Q (by decide) F.symm
 ·intro k C
  rcases I with I|⟨b,Q,I⟩
  ·exact k3 k (by rw [<-I];exact C)
  ·rw [I] at C;injection C with C;subst C
   exact .inr (SY H.kp.size Q)
 ·intro j hj F
  rcases F with F|F
  ·have:=H.ld;omega
  ·rcases k3 j F.symm with h|h
   ·exact h
   ·omega
theorem Ga.text {own:Nat->Nat}{i:Nat}{w0:World}{g c d h:Nat}{sv:Array Value}{w:World}{text:List UInt8}{gs:List (Nat × Nat)}(H:Ga own i w0 g c d h sv w text gs) (t:ByteArray) (Y:text.length+t.size<=70368744177664) :
  Ta 143 #[.string t,.pointer (some ⟨c,0,none⟩)] w fun e w'=>e=.returned (.tuple #[])/\Ga own i w0 g c d h sv w' (text++t.data.toList) gs:=by
 obtain ⟨tv,O,Q,S⟩:=H.hc;obtain ⟨gv,k1,k2,k3⟩:=H.hd;refine (LH c tv text.length (bc text) t w O Q Y).mono ?_;rintro e w' ⟨rfl,v',a1,a2,I,a4⟩
 have G:∀{x:Array Value} {k:Nat} {T:TypeId},w.heap[k]?=some (.cells x T (0,0))->T≠39->T≠5->¬(k=c\/some k=tv.ownBlock):=by
  intro x k T C Z t2 J
  rcases J with J|J
  ·exact lY C O Z J
  ·exact aN Q C t2 J.symm
 have M:(text++t.data.toList).length=text.length+t.size:=by rw [Or];rfl
 refine ⟨rfl,a4.blk H.hg (G H.hg (by decide) (by decide)),⟨v',a1,by rw [M,zp];exact a2,?_⟩,⟨gv,a4.blk k1 (G k1 (by decide) (by decide)),a4.row k2 ?_,k3⟩,a4.blk H.hh (G H.hh (by decide) (by decide)),H.kp.step a4 ?_,H.lc,H.ld⟩
 ·intro k C
  rcases I with I|I
  ·exact S k (by rw [<-I];exact C)
  ·rw [I] at C;injection C with C;subst C
   exact .inr H.kp.size
 ·intro k C F
  rcases F with F|F
  ·subst F;exact aN k2 O (by decide) C
  ·rcases k2.2 with ⟨rfl,_⟩|⟨b,cap,aa,rfl,_,U,_⟩
   ·cases C
   ·simp only [Value.ownBlock,Tp] at C;subst C;exact aN Q U (by decide) F.symm
 ·intro j hj F
  rcases F with F|F
  ·have:=H.lc;omega
  ·rcases S j F.symm with h|h
   ·exact h
   ·omega
structure fJ where
 fresh:Bool
 col:Nat
 wait:Nat
 out:List UInt8
structure SK (own:Nat->Nat) (i:Nat) (w:World) (g:Nat) (s:fJ):Prop where
 lab:own g=i
 ex:∃tv gv text gs,w.heap[g]?=some (.cells (sk (!s.fresh) s.col s.wait tv gv) 123 (0,0))/\(w.ownsRow 0 5 1 tv text.length (bc text)/\∀k,tv.ownBlock=some k->own k=i)/\(w.ownsRow 0 130 2 gv gs.length (bB eg gs)/\∀k,gv.ownBlock=some k->own k=i)/\oz 0 gs text.length/\s.out=dj 0 gs text/\(gs.length<=dd gs/\∀x∈gs,x.1<text.length)
theorem yR {own C:Nat->Nat}{e sz n:Nat}{xs:List Value}(M:Fr j own C w w') (H:i≠j) (h:w.ownsRow 0 e sz v n xs/\∀k,v.ownBlock=some k->own k=i):w'.ownsRow 0 e sz v n xs/\∀k,v.ownBlock=some k->C k=i:=by
 obtain ⟨F,I⟩:=h;refine ⟨⟨F.1,?_⟩,fun k O=>?_⟩
 ·rcases F.2 with Q|⟨g,cap,G,rfl,S,J,U⟩
  ·exact .inl Q
  ·exact .inr ⟨g,cap,G,rfl,S,(M.block g (au J) (by rw [I g rfl];exact H)).trans J,U⟩
 ·rw [M.old k (F.lt k O).2];exact I k O
theorem SK.kept {own C:Nat->Nat}{s:fJ}(h:SK own i w g s) (G:Fr j own C w w') (F:i≠j):SK C i w' g s:=by
 obtain ⟨tv,gv,text,gs,H,I,J,M⟩:=h.ex;exact ⟨(G.old g (au H)).trans h.lab,tv,gv,text,gs,(G.block g (au H) (by rw [h.lab];exact F)).trans H,yR G F I,yR G F J,M⟩
theorem SK.below {own:Nat->Nat}{s:fJ}(h:SK own i w g s) (C:Below w.heap.size w w'):SK own i w' g s:=
 h.kept (Fr.of_below (i:=i+1) C) (by omega)
theorem SK.len {own:Nat->Nat}{s:fJ}(h:SK own i w g s):g<w.heap.size:=by
 obtain ⟨tv,gv,text,gs,C,_⟩:=h.ex;exact au C
def Af (own:Nat->Nat) (i:Nat) (w w':World) (g:Nat) (s:fJ):Prop:=∃own',Nf own' w'/\Fr i own own' w w'/\SK own' i w' g s
theorem Af.here {own:Nat->Nat}{s:fJ}(h:SK own i w g s) (F:Nf own w) (C:Below w.heap.size w w'):Af own i w w' g s:=
 ⟨own,F.below C.size,Fr.of_below C,h.below C⟩
theorem Ga.fin {own:Nat->Nat}{text:List UInt8}{gs:List (Nat × Nat)}(H:Ga own i w0 g c d h sv w text gs) (hn:Nf own w0) (G:own g=i) (Q:g<w0.heap.size)
  (tv gv:Value) (M:w.ownsRow 0 5 1 tv text.length (bc text)) (h2:∀k,tv.ownBlock=some k->own k=i\/w0.heap.size<=k) (O:w.ownsRow 0 130 2 gv gs.length (bB eg gs)) (k2:∀k,gv.ownBlock=some k->own k=i\/w0.heap.size<=k)
  (s:fJ) (U:w'.heap[g]?=some (.cells (sk (!s.fresh) s.col s.wait tv gv) 123 (0,0))) (F:Kp (fun k=>k=g) w w') (hu:oz 0 gs text.length) (ho:s.out=dj 0 gs text) (S:gs.length<=dd gs/\∀x∈gs,x.1<text.length):Af own i w0 w' g s:=by
 have hs:=H.kp.size;have ac:=F.size;have aa:=aN M H.hg (by decide);have ab:=aN O H.hg (by decide);have Y:=fun k F=>(M.lt k F).2
 have Z:=fun k F=>(O.lt k F).2
 refine ⟨fun k=>if k<w0.heap.size then own k else if tv.ownBlock=some k\/gv.ownBlock=some k then i else 0,?_,?_,?_,tv,gv,text,gs,U,⟨F.row M (fun k I J=>aa (by rw [I,J])),?_⟩,⟨F.row O (fun k I J=>ab (by rw [I,J])),?_⟩,hu,ho,S⟩
 ·intro k C;show (if k<w0.heap.size then own k else if tv.ownBlock=some k\/gv.ownBlock=some k then i else 0)=0;rw [Eq (by omega),Eq];rintro (e|e)
  ·have:=Y k e;omega
  ·have:=Z k e;omega
 ·refine (H.kp.step F (fun j _ e=>by subst e;exact G)).fr (fun k _ e=>e) (fun k C=>IO C)
 ·show (if g<w0.heap.size then own g else _)=i
  rw [IO Q];exact G
 ·intro k e;show (if k<w0.heap.size then own k else if tv.ownBlock=some k\/gv.ownBlock=some k then i else 0)=i
  by_cases C:k<w0.heap.size
  ·rw [IO C]
   rcases h2 k e with h|h
   ·exact h
   ·omega
  ·rw [Eq C,IO (.inl e)]
 ·intro k e;show (if k<w0.heap.size then own k else if tv.ownBlock=some k\/gv.ownBlock=some k then i else 0)=i
  by_cases C:k<w0.heap.size
  ·rw [IO C]
   rcases k2 k e with h|h
   ·exact h
   ·omega
  ·rw [Eq C,IO (.inr e)]
def fJ.feed (s:fJ) (c:Nat):fJ:=⟨true,c,0,s.out++[10]⟩
theorem Gm {own:Nat->Nat}{b:Bool}{G C:Int}{aB F:Value}{text:List UInt8}{gs:List (Nat × Nat)}(H:Ga own i w0 g c d h (sk b G C aB F) w text gs) (M:∃p n cap,aB=.slice p n cap) (I:∃p n cap,F=.slice p n cap) (hn:Nf own w0) (J:own g=i) (O:g<w0.heap.size)
  (u:FrameMode) (s:fJ) (hu:oz 0 gs text.length) (ho:s.out=dj 0 gs text) (Q:gs.length<=dd gs/\∀x∈gs,x.1<text.length) :
  CallsD Tryz.prog 144 #[.agg #[.bool (!s.fresh),.int .i64 s.col,.int .i64 s.wait],.pointer (some ⟨c,0,none⟩),.pointer (some ⟨d,0,none⟩),.pointer (some ⟨h,0,none⟩)] u w fun e U w'=>U=u/\(e=.returned (.tuple #[])/\Af own i w0 w' g s):=by
 obtain ⟨tv,Y,S,Z⟩:=H.hc;obtain ⟨gv,k1,k2,k3⟩:=H.hd;obtain ⟨p1,c1,e1,_,_⟩:=aK S;obtain ⟨p2,c2,e2,_,_⟩:=aK k2;refine (OL u b (!s.fresh) G C s.col s.wait c d h g aB F tv gv w H.hg Y k1 H.hh M I ⟨_,_,_,e1⟩ ⟨_,_,_,e2⟩).mono ?_;rintro e U w' ⟨rfl,rfl,a1,a2⟩;exact ⟨rfl,rfl,H.fin hn J O tv gv S Z k2 k3 s a1 a2 hu ho Q⟩
theorem wK {own:Nat->Nat}{text:List UInt8}{gs:List (Nat × Nat)}(U:w.heap[g]?=some (.cells sv 123 (0,0))) (G:w.ownsRow 0 5 1 tv text.length (bc text)/\∀k,tv.ownBlock=some k->own k=i) (H:w.ownsRow 0 130 2 gv gs.length (bB eg gs)/\∀k,gv.ownBlock=some k->own k=i)
  (S:(w'.heap[c]?=some (.cells #[tv] 39 (0,0))/\w'.heap[d]?=some (.cells #[gv] 121 (0,0))/\w'.heap[h]?=some (.cells #[.pointer (some ⟨g,0,none⟩)] 80 (0,0))/\w.heap.size<=c/\w.heap.size<=d/\w.heap.size<=h)/\Below w.heap.size w w'):Ga own i w g c d h sv w' text gs:=by
 obtain ⟨⟨I,J,M,O,Q,_⟩,C⟩:=S;exact ⟨ag U C,⟨tv,I,bv G.1 C,fun k F=>.inl (G.2 k F)⟩,⟨gv,J,bv H.1 C,fun k F=>.inl (H.2 k F)⟩,M,Kp.of_below C,O,Q⟩
theorem wh (own:Nat->Nat) (i g:Nat) (s:fJ) (c:Nat) (w:World) (h:SK own i w g s) (hn:Nf own w) (hb:s.out.length<=8589934592) :
  Ta 95 #[.pointer (some ⟨g,0,none⟩),.int .i64 c] w fun e w'=>e=.returned (.tuple #[])/\Af own i w w' g (s.feed c):=by
 have G:=h.len;have C:=h.lab;obtain ⟨tv,gv,text,gs,O,Q,S,J,U,M⟩:=h.ex;obtain ⟨p1,c1,e1,_,_⟩:=aK Q.1;obtain ⟨p2,c2,e2,_,_⟩:=aK S.1;have I:=lE J;rw [<-U] at I;have aa:=M.1;have HG:=pU g (!s.fresh) s.col s.wait tv gv w O ⟨_,_,_,e1⟩ ⟨_,_,_,e2⟩;have HS:Hid (∀(w':World) (c d h:Nat),((w'.heap[c]?=some (.cells #[tv] 39 (0,0))/\w'.heap[d]?=some (.cells #[gv] 121 (0,0))/\w'.heap[h]?=some (.cells #[.pointer (some ⟨g,0,none⟩)] 80 (0,0))/\w.heap.size<=c/\w.heap.size<=d/\w.heap.size<=h)/\Tb w w')->Ga own i w g c d h (sk (!s.fresh) s.col s.wait tv gv) w' text gs):=fun w' c d h Y=>wK O Q S Y
 have HE:Hid (∀(w':World) (F d h:Nat) (u:FrameMode),Ga own i w g F d h (sk (!s.fresh) s.col s.wait tv gv) w' (text++[10]) gs->CallsD Tryz.prog 144 #[.agg #[.bool false,.int .i64 c,.int .i64 0],.pointer (some ⟨F,0,none⟩),.pointer (some ⟨d,0,none⟩),.pointer (some ⟨h,0,none⟩)] u w' fun e u' w'=>u'=u/\(e=.returned (.tuple #[])/\Af own i w w' g (s.feed c))):=fun w' F d h u H=>
  Gm H ⟨_,_,_,e1⟩ ⟨_,_,_,e2⟩ hn C G u (s.feed c) (J.more (by simp)) (by show s.out++[10]=_;rw [U,qW [10] J]) ⟨M.1,fun x hx=>by have:=M.2 x hx;simp;omega⟩
 have Z:Hid (Ta 90 #[.pointer (some ⟨g,0,none⟩)] w fun e w'=>∃c d h,e=.returned (.tuple #[.func (.func 142) #[] #[.pointer (some ⟨d,0,none⟩),.pointer (some ⟨c,0,none⟩)],.func (.func 143) #[] #[.pointer (some ⟨c,0,none⟩)],.func (.func 144) #[] #[.pointer (some ⟨c,0,none⟩),.pointer (some ⟨d,0,none⟩),.pointer (some ⟨h,0,none⟩)]])/\Ga own i w g c d h (sk (!s.fresh) s.col s.wait tv gv) w' text gs):=by
  refine HG.mono ?_;rintro e w' ⟨c,d,h,rfl,Y⟩;exact ⟨c,d,h,rfl,HS.out _ _ _ _ Y⟩
 have HL:Hid (text.length+1<=70368744177664):=by show _<=_;omega
 clear HG HS hn C G h O Q S J U M aa I e1 e2 hb
 go_enter_defers Tryz.func95,Tryz.ntmps95
 go_wp2_with (go_at_call 90;refine Z.out.mono ?_;rintro e w1 ⟨F,d,h,rfl,H⟩)
 have HH:Hid (Ga own i w g F d h (sk (!s.fresh) s.col s.wait tv gv) w1 text gs):=H;clear H;refine (HH.out.text ⟨#[10]⟩ HL.out).mono ?_;rintro e w2 ⟨rfl,H2⟩;have HD:Hid (Ga own i w g F d h (sk (!s.fresh) s.col s.wait tv gv) w2 (text++[10]) gs):=H2;clear HH H2
 go_wp2_with fail
 refine Vx (f:=144) (args:=#[.agg #[.bool false,.int .i64 c,.int .i64 0],.pointer (some ⟨F,0,none⟩),.pointer (some ⟨d,0,none⟩),.pointer (some ⟨h,0,none⟩)]) (by simp) (by simp [go_sem]) ?_;refine (HE.out _ _ _ _ .returning HD.out).mono ?_;rintro e u' ab ⟨rfl,rfl,hA⟩;exact ⟨_,results_none rfl _ _ _,rfl,hA⟩
def fJ.text (s:fJ) (t:ByteArray):fJ:=if t.size=0 then s else ⟨false,(nj s.col s.wait t).toNat,0,s.out++((if s.fresh then List.replicate s.col 32 else [])++(List.replicate s.wait 32++t.data.toList))⟩
theorem Ks {t:ByteArray}(h:t.size≠0):t.toList.isEmpty=false:=by
 rw [Va];cases hd:t.data.toList with
 |nil=>exfalso;apply h;show t.data.size=0;rw [<-TQ,hd];rfl
 |cons a r=>rfl
theorem AI (F C:Nat) (t:ByteArray):0<=nj F C t/\nj F C t<=F+C+2*t.size:=by
 have G:=qX t;have H:=qX (uM t);have I:=xD t;unfold nj
 split <;> omega
theorem BN (g:Nat) (t:ByteArray) (w:World) (ht:t.size=0):Ta 44 #[.pointer (some ⟨g,0,none⟩),.string t] w fun e w'=>e=.returned (.int .i64 0)/\w'=w:=by
 obtain rfl:t=⟨#[]⟩:=by
  have:t=ByteArray.empty:=ByteArray.size_eq_zero_iff.1 ht;exact this
 go_enter_defers Tryz.func44,Tryz.ntmps44
 go_wp2_with fail
 exact ⟨_,Wr rfl _ _ _,rfl,rfl⟩
theorem BM (own:Nat->Nat) (i g:Nat) (s:fJ) (t:ByteArray) (w:World) (h:SK own i w g s) (hn:Nf own w) (hT:kl w) (ht:t.size≠0) (hb:s.out.length+s.col+s.wait+t.size<=8589934592) :
  Ta 44 #[.pointer (some ⟨g,0,none⟩),.string t] w fun e w'=>e=.returned (.int .i64 0)/\Af own i w w' g (s.text t):=by
 have ad:=h.len;have J:=h.lab;obtain ⟨tv,gv,text,gs,h1,h2,h3,h4,h5,h6⟩:=h.ex;obtain ⟨p1,c1,e1,_,_⟩:=aK h2.1;obtain ⟨p2,c2,e2,_,_⟩:=aK h3.1;have ag:=lE h4;rw [<-h5] at ag;obtain ⟨fr,col,wait,out⟩:=s;simp only at *
 have ac:Hid (Ta 90 #[.pointer (some ⟨g,0,none⟩)] w fun e w'=>∃c d h,e=.returned (.tuple #[.func (.func 142) #[] #[.pointer (some ⟨d,0,none⟩),.pointer (some ⟨c,0,none⟩)],.func (.func 143) #[] #[.pointer (some ⟨c,0,none⟩)],.func (.func 144) #[] #[.pointer (some ⟨c,0,none⟩),.pointer (some ⟨d,0,none⟩),.pointer (some ⟨h,0,none⟩)]])/\Hid (Ga own i w g c d h (sk (!fr) col wait tv gv) w' text gs/\kl w')/\w'.cell? ⟨g,0,none⟩=some (.bool (!fr))/\w'.cell? ⟨g,1,none⟩=some (.int .i64 col)/\w'.cell? ⟨g,2,none⟩=some (.int .i64 wait)):=by
  refine (pU g (!fr) col wait tv gv w h1 ⟨_,_,_,e1⟩ ⟨_,_,_,e2⟩).mono ?_;rintro e w' ⟨c,d,h,rfl,hB⟩;have hG:Ga own i w g c d h (sk (!fr) col wait tv gv) w' text gs:=wK h1 h2 h3 hB;exact ⟨c,d,h,rfl,⟨hG,hT.below hB.2⟩,af hG.hg rfl,af hG.hg rfl,af hG.hg rfl⟩
 have ai:=AI col wait t;obtain ⟨nc,Z⟩:∃nc:Nat,nj col wait t=nc:=⟨(nj col wait t).toNat,by omega⟩
 have aa:Hid (∀V,kl V->Ta 91 #[.agg #[.bool (!fr),.int .i64 col,.int .i64 wait],.string t] V fun e w'=>e=.returned (.agg #[.bool true,.int .i64 nc,.int .i64 0])/\Tb V w'):=by
  intro V hV;have:=zo (!fr) col wait t V hV (by omega) (by omega) (by omega) (by omega) (by omega);rw [Z] at this;exact this
 have HE:Hid (∀(w':World) (F d h:Nat) (u:FrameMode),Ga own i w g F d h (sk (!fr) col wait tv gv) w' (text++t.data.toList) (fh (fh gs text.length (if fr then col else 0)) text.length wait)->CallsD Tryz.prog 144 #[.agg #[.bool true,.int .i64 nc,.int .i64 0],.pointer (some ⟨F,0,none⟩),.pointer (some ⟨d,0,none⟩),.pointer (some ⟨h,0,none⟩)] u w' fun e u' w'=>u'=u/\(e=.returned (.tuple #[])/\Af own i w w' g (fJ.text ⟨fr,col,wait,out⟩ t))):=by
  intro w' F d h u H
  have aj:fJ.text ⟨fr,col,wait,out⟩ t=⟨false,nc,0,out++((if fr then List.replicate col 32 else [])++(List.replicate wait 32++t.data.toList))⟩:=by
   unfold fJ.text;rw [Eq ht];simp only [Z];rfl
  rw [aj]
  have M:text.length<(text++t.data.toList).length:=by
   have:t.data.toList.length=t.size:=by rw [TQ];rfl
   rw [Or,this];omega
  have ae:oz 0 (fh (fh gs text.length (if fr then col else 0)) text.length wait) text.length:=oI wait (oI _ h4);refine Gm H ⟨_,_,_,e1⟩ ⟨_,_,_,e2⟩ hn J ad u ⟨false,nc,0,_⟩ (ae.more (by simp)) ?_ ⟨pH _ _ _ (pH _ _ _ h6.1),AK _ _ _ _ (AK _ _ _ _ (fun x hx=>by have:=h6.2 x hx;simp;omega) M) M⟩;show out++_=_;rw [qW _ ae,oG _ (oI _ h4),oG _ h4,<-h5];cases fr
  ·simp
  ·simp only [Vb,S5]
 have HL:Hid (gs.length<=8589934592/\(fh gs text.length (if fr then col else 0)).length<=8589934592/\text.length+t.size<=70368744177664/\col<=8589934592/\wait<=8589934592/\text.length<=8589934592):=by
  have:=pH gs text.length (if fr then col else 0) h6.1;rw [qZ] at this;have al:=h6.1;refine ⟨by omega,?_,by omega,by omega,by omega,by omega⟩;cases fr <;> simp at this ⊢ <;> omega
 have am:t.toList.isEmpty=false:=Ks ht;clear hn J ad h h1 h2 h3 h4 h5 h6 ag e1 e2 hb hT ht ai Z;cases fr
 ·go_enter_defers Tryz.func44,Tryz.ntmps44
  go_wp2_with (go_at_call 90;refine ac.out.mono ?_;rintro e w1 ⟨F,d,h,rfl,O,g0,g1,g2⟩)
  refine (aa.out w1 O.out.2).mono ?_;rintro e Q ⟨rfl,I⟩;have C:Hid (Ga own i w g F d h (sk true col wait tv gv) Q text gs):=O.out.1.below I;have U:Q.cell? ⟨g,0,none⟩=some (.bool true):=af C.out.hg rfl;have Y:Q.cell? ⟨g,2,none⟩=some (.int .i64 wait):=af C.out.hg rfl;clear O g0 g1 g2 I
  go_wp2_with fail
  refine (C.out.blanks wait HL.out.1 (by have:=HL.out;omega) (by have:=HL.out;omega)).mono ?_;rintro e w3 ⟨rfl,H3⟩;have G:Hid (Ga own i w g F d h (sk true col wait tv gv) w3 text (fh gs text.length wait)):=H3;clear C H3 U Y
  go_wp2_with fail
  refine (G.out.text t HL.out.2.2.1).mono ?_;rintro e w4 ⟨rfl,H4⟩;have S:Hid (Ga own i w g F d h (sk true col wait tv gv) w4 (text++t.data.toList) (fh gs text.length wait)):=H4;clear G H4
  go_wp2_with fail
  refine Vx (f:=144) (args:=#[.agg #[.bool true,.int .i64 nc,.int .i64 0],.pointer (some ⟨F,0,none⟩),.pointer (some ⟨d,0,none⟩),.pointer (some ⟨h,0,none⟩)]) (by simp) (by simp [go_sem]) ?_;refine (HE.out _ _ _ _ .returning S.out).mono ?_;rintro e u' ak ⟨rfl,rfl,hA⟩;exact ⟨_,Wr rfl _ _ _,rfl,hA⟩
 ·go_enter_defers Tryz.func44,Tryz.ntmps44
  go_wp2_with (go_at_call 90;refine ac.out.mono ?_;rintro e w1 ⟨F,d,h,rfl,O,g0,g1,g2⟩)
  refine (aa.out w1 O.out.2).mono ?_;rintro e Q ⟨rfl,I⟩;have C:Hid (Ga own i w g F d h (sk false col wait tv gv) Q text gs):=O.out.1.below I;have U:Q.cell? ⟨g,0,none⟩=some (.bool false):=af C.out.hg rfl;have ah:Q.cell? ⟨g,1,none⟩=some (.int .i64 col):=af C.out.hg rfl;clear O g0 g1 g2 I
  go_wp2_with fail
  refine (C.out.blanks col HL.out.1 (by have:=HL.out;omega) (by have:=HL.out;omega)).mono ?_;rintro e w3 ⟨rfl,H3⟩;have G:Hid (Ga own i w g F d h (sk false col wait tv gv) w3 text (fh gs text.length col)):=H3;have Y:w3.cell? ⟨g,2,none⟩=some (.int .i64 wait):=af G.out.hg rfl;clear C H3 U ah
  go_wp2_with fail
  refine (G.out.blanks wait HL.out.2.1 (by have:=HL.out;omega) (by have:=HL.out;omega)).mono ?_;rintro e w5 ⟨rfl,H5⟩;have ab:Hid (Ga own i w g F d h (sk false col wait tv gv) w5 text (fh (fh gs text.length col) text.length wait)):=H5;clear G H5 Y
  go_wp2_with fail
  refine (ab.out.text t HL.out.2.2.1).mono ?_;rintro e w4 ⟨rfl,H4⟩;have S:Hid (Ga own i w g F d h (sk false col wait tv gv) w4 (text++t.data.toList) (fh (fh gs text.length col) text.length wait)):=H4;clear ab H4
  go_wp2_with fail
  refine Vx (f:=144) (args:=#[.agg #[.bool true,.int .i64 nc,.int .i64 0],.pointer (some ⟨F,0,none⟩),.pointer (some ⟨d,0,none⟩),.pointer (some ⟨h,0,none⟩)]) (by simp) (by simp [go_sem]) ?_;refine (HE.out _ _ _ _ .returning S.out).mono ?_;rintro e u' ak ⟨rfl,rfl,hA⟩;exact ⟨_,Wr rfl _ _ _,rfl,hA⟩
theorem Ec (own:Nat->Nat) (i g:Nat) (s:fJ) (t:ByteArray) (w:World) (h:SK own i w g s) (C:Nf own w) (F:kl w) (G:s.out.length+s.col+s.wait+t.size<=8589934592) :
  Ta 44 #[.pointer (some ⟨g,0,none⟩),.string t] w fun e w'=>e=.returned (.int .i64 0)/\Af own i w w' g (s.text t):=by
 by_cases ht:t.size=0
 ·refine (BN g t w ht).mono ?_;rintro e w' ⟨rfl,rfl⟩;have:s.text t=s:=IO ht;rw [this];exact ⟨rfl,Af.here h C (hH _ _)⟩
 ·exact BM own i g s t w h C F ht G
theorem Gy (own:Nat->Nat) (i g:Nat) (s:fJ) (c:Nat) (w:World) (h:SK own i w g s) (F:Nf own w) (hc:c<=1048576) (C:s.out.length<=8589934592) :
  Ta 94 #[.pointer (some ⟨g,0,none⟩),.int .i64 c] w fun e w'=>e=.returned (.int .i64 0)/\Af own i w w' g (s.feed c):=by
 have H:decide ((c:Int)<0)=false:=by simp
 have I:decide (1048576<(c:Int))=false:=by simp;omega
 have J:¬(1048576<(c:Int)):=by omega
 have M:¬(1048576<c):=by omega
 have HN:=wh own i g s c w h F C;clear h F C
 go_enter Tryz.func94,Tryz.ntmps94
 go_wp2_with (go_at_call 95;refine HN.mono ?_;rintro e O ⟨rfl,G⟩)
 go_ret
 exact ⟨rfl,G⟩
def fJ.empty (s:fJ):fJ:=if s.fresh then s.feed s.col else s
theorem Dp (own:Nat->Nat) (i g:Nat) (s:fJ) (w:World) (h:SK own i w g s) (F:Nf own w) (G:s.out.length<=8589934592) :
  Ta 48 #[.pointer (some ⟨g,0,none⟩)] w fun e w'=>e=.returned (.int .i64 0)/\Af own i w w' g s.empty:=by
 obtain ⟨tv,gv,text,gs,C,_⟩:=h.ex;have HN:=wh own i g s s.col w h F G;obtain ⟨fr,col,wait,out⟩:=s;simp only at *;have J:w.cell? ⟨g,0,none⟩=some (.bool (!fr)):=af C rfl;have M:w.cell? ⟨g,1,none⟩=some (.int .i64 col):=af C rfl;cases fr
 ·have H:Hid (Af own i w w g (fJ.empty ⟨false,col,wait,out⟩)):=Af.here h F (hH _ _);clear h F G C HN
  go_enter Tryz.func48,Tryz.ntmps48
  go_wp2_with fail
  go_ret
  exact ⟨rfl,H.out⟩
 ·clear h F G C
  go_enter Tryz.func48,Tryz.ntmps48
  go_wp2_with (go_at_call 95;refine HN.mono ?_;rintro e O ⟨rfl,I⟩)
  go_ret
  exact ⟨rfl,I⟩
theorem uF (b:Nat) (w:World) (C:w.cell? ⟨b,0,none⟩=some (.pointer (some ⟨b,0,none⟩))):Ta 20 #[.pointer (some ⟨b,0,none⟩)] w fun e w'=>e=.returned (.tuple #[])/\w=w':=
 (OX b w C).mono fun e w' h=>⟨h.1,h.2.symm⟩
structure Bd (b:Nat) (v:Value) (bs:List UInt8) (w:World):Prop where
 blk:w.heap[b]?=some (.cells #[.pointer (some ⟨b,0,none⟩),v] 41 (0,0))
 row:w.ownsRow 0 5 1 v bs.length (bc bs)
def Bw (b:Nat) (v:Value) (bs:List UInt8) (w w':World):Prop:=∃v',Bd b v' bs w'/\(v'.ownBlock=v.ownBlock\/v'.ownBlock=some w.heap.size)/\Kp (fun k=>k=b\/some k=v.ownBlock) w w'
theorem Bd.put {b:Nat}{v C:Value}{bs l:List UInt8}{w F:World}(h:Bd b v bs w) (Y:w.grownBy F v.ownBlock) (O:F.ownsRow 0 5 1 C (bs.length+l.length) (bc bs++bc l)) (I:C.ownBlock=v.ownBlock\/C.ownBlock=some w.heap.size):Bw b v (bs++l) w (F.setCell ⟨b,1,none⟩ C):=by
 have M:=Kp.of_grown Y;have J:=aN h.row h.blk (by decide);have G:=M.blk h.blk (fun e=>J e.symm);have H:=aN O G (by decide);refine ⟨C,⟨aj G 1 C,?_⟩,I,?_⟩
 ·rw [Or,zp];exact (Kp.set F b 1 C).row O (fun k Q U=>H (by rw [Q,U]))
 ·exact (Kp.step (S:=fun k=>k=b\/some k=v.ownBlock) (Kp.refl _ _) M (fun _ _ h=>.inr h)).step (Kp.set F b 1 C) (fun _ _ h=>.inl h)
theorem OQ (b:Nat) (v:Value) (bs l:List UInt8) (ad:Addr) (m c:Nat) (w:World) (h:Bd b v bs w) (U:l.length=m) (J:∀j u,(bc l)[j]?=some u->w.cell? (ad.add j)=some u) (hn:bs.length+m<=70368744177664) :
  Ta 53 #[.pointer (some ⟨b,0,none⟩),.slice (some ad) m c] w fun e w'=>e=.returned (.tuple #[.int .i64 m,.nilIface])/\Bw b v (bs++l) w w':=by
 obtain ⟨i0,hi,O,Q,S⟩:=T7 Tryz.info5;have c0:w.cell? ⟨b,0,none⟩=some (.pointer (some ⟨b,0,none⟩)):=af h.blk rfl;have c1:w.cell? ⟨b,1,none⟩=some v:=af h.blk rfl;have aa:=au h.blk;obtain ⟨p,cap,rfl,_,_⟩:=aK h.row;have H:Hid (Bd b (.slice p bs.length cap) bs w):=h;clear h
 go_enter Tryz.func53,Tryz.ntmps53
 go_wp2_with (first|(go_at_call 20;refine (uF b w c0).mono ?_;rintro e w1 ⟨rfl,rfl⟩)|(at_builtin;refine T2 (P:=Tryz.prog) (w:=w) rfl _ _ 39 rfl 0 5 i0 (.int .u8 0) 1 1 Ue hi O Q S rfl (by decide) _ _ _ rfl H.out.row ad m c (bc l) rfl ?c0 J (OY l) ?c3 ?c4 ?c5 ?_))
 case c0=>rw [OZ,U,Nat.mul_one]
 case c3=>unfold maxLen;omega
 case c4=>omega
 case c5=>omega
 intro v2 M G F _ I;have Z:Hid (Bw b (.slice p bs.length cap) (bs++l) w (M.setCell ⟨b,1,none⟩ v2)):=H.out.put F (by rw [U];exact G) I;have C:=(Kp.of_grown F).blk H.out.blk (fun e=>aN H.out.row H.out.blk (by decide) e.symm);have d0:M.cell? ⟨b,0,none⟩=some (.pointer (some ⟨b,0,none⟩)):=af C rfl;have d1:M.cell? ⟨b,1,none⟩=some (.slice p bs.length cap):=af C rfl;have f1:M.frozen? ⟨b,1,none⟩=false:=am C;obtain ⟨p2,Y,rfl,_,_⟩:=aK G;clear G F I C
 go_wp2_with fail
 go_ret2
 exact ⟨rfl,Z.out⟩
theorem xw (b:Nat) (v:Value) (bs:List UInt8) (w:World) (h:Bd b v bs w) :
  Ta 53 #[.pointer (some ⟨b,0,none⟩),.slice none 0 0] w fun e w'=>e=.returned (.tuple #[.int .i64 0,.nilIface])/\Bw b v (bs++[]) w w':=by
 obtain ⟨H,G,J,M,O⟩:=T7 Tryz.info5;have c0:w.cell? ⟨b,0,none⟩=some (.pointer (some ⟨b,0,none⟩)):=af h.blk rfl;have c1:w.cell? ⟨b,1,none⟩=some v:=af h.blk rfl;have I:=au h.blk;have Q:w.frozen? ⟨b,1,none⟩=false:=am h.blk;have C:Hid (Bw b v (bs++[]) w (w.setCell ⟨b,1,none⟩ v)):=h.put ⟨rfl,rfl,rfl,gt _,fun _ _ _=>rfl⟩ (by simpa [bc] using h.row) (.inl rfl);obtain ⟨p,cap,rfl,_,_⟩:=aK h.row;have F:Hid (Bd b (.slice p bs.length cap) bs w):=h;clear h
 go_enter Tryz.func53,Tryz.ntmps53
 go_wp2_with (first|(go_at_call 20;refine (uF b w c0).mono ?_;rintro e S ⟨rfl,rfl⟩)|(at_builtin;refine wpList_append_own_none (P:=Tryz.prog) (w:=w) rfl _ _ 39 rfl 0 5 H 1 Ue G _ _ _ rfl F.out.row rfl ?_))
 go_ret2
 exact ⟨rfl,C.out⟩
theorem Qt (b:Nat) (v:Value) (bs:List UInt8) (t:ByteArray) (w:World) (h:Bd b v bs w) (hn:bs.length+t.size<=70368744177664) :
  Ta 11 #[.pointer (some ⟨b,0,none⟩),.string t] w fun e w'=>e=.returned (.tuple #[.int .i64 t.size,.nilIface])/\Bw b v (bs++t.data.toList) w w':=by
 obtain ⟨Z,Y,M,O,Q⟩:=T7 Tryz.info5;have c0:w.cell? ⟨b,0,none⟩=some (.pointer (some ⟨b,0,none⟩)):=af h.blk rfl;have c1:w.cell? ⟨b,1,none⟩=some v:=af h.blk rfl;have aa:=au h.blk;obtain ⟨p,cap,rfl,_,_⟩:=aK h.row;have H:Hid (Bd b (.slice p bs.length cap) bs w):=h;clear h
 go_enter Tryz.func11,Tryz.ntmps11
 go_wp2_with (first|(go_at_call 20;refine (uF b w c0).mono ?_;rintro e w1 ⟨rfl,rfl⟩)|(at_builtin;refine cO (P:=Tryz.prog) (w:=w) rfl _ _ 39 9 rfl 0 5 Z Ue TH Y M O Q _ _ _ rfl H.out.row t rfl ?c3 ?c4 ?c5 ?_))
 case c3=>unfold maxLen;omega
 case c4=>omega
 case c5=>omega
 intro v2 J G F I;have U:Hid (Bw b (.slice p bs.length cap) (bs++t.data.toList) w (J.setCell ⟨b,1,none⟩ v2)):=H.out.put F G I;have C:=(Kp.of_grown F).blk H.out.blk (fun e=>aN H.out.row H.out.blk (by decide) e.symm);have d0:J.cell? ⟨b,0,none⟩=some (.pointer (some ⟨b,0,none⟩)):=af C rfl;have d1:J.cell? ⟨b,1,none⟩=some (.slice p bs.length cap):=af C rfl;have f1:J.frozen? ⟨b,1,none⟩=false:=am C;obtain ⟨p2,S,rfl,_,_⟩:=aK G;clear G F I C
 go_wp2_with fail
 go_ret2
 exact ⟨rfl,U.out⟩
theorem Hk (u:FrameMode) (b:Bool) (G C:Int) (h g:Nat) (tv gv:Value) (w:World) (F:w.heap[g]?=some (.cells (sk b G C tv gv) 123 (0,0))) (J:w.heap[h]?=some (.cells #[.pointer (some ⟨g,0,none⟩)] 80 (0,0))) (I:∃p n cap,tv=.slice p n cap) (H:∃p n cap,gv=.slice p n cap) :
  CallsD Tryz.prog 50 #[.pointer (some ⟨h,0,none⟩)] u w fun e M w'=>M=u/\(e=.returned (.tuple #[])/\w'=(w.setCell ⟨g,3,none⟩ (.slice none 0 0)).setCell ⟨g,4,none⟩ (.slice none 0 0)):=by
 have S:w.cell? ⟨g,3,none⟩=some tv:=af F rfl;have U:w.cell? ⟨g,4,none⟩=some gv:=af F rfl;have O:w.frozen? ⟨g,3,none⟩=false:=am F;have Q:w.frozen? ⟨g,4,none⟩=false:=am F;have Y:w.cell? ⟨h,0,none⟩=some (.pointer (some ⟨g,0,none⟩)):=af J rfl;obtain ⟨p1,n1,Z,rfl⟩:=I;obtain ⟨p2,n2,k2,rfl⟩:=H
 go_enter_d Tryz.func50,Tryz.ntmps50
 go_wp2_with fail
 go_end0
 exact ⟨rfl,rfl⟩
theorem O7 (g j:Nat):(⟨g,0,none⟩:Addr).add j=⟨g,j,none⟩:=by
 unfold Addr.add
 split <;> simp_all
theorem rM {gs:List (Nat × Nat)}(h:w.ownsRow 0 130 2 gv gs.length (bB eg gs)) (k:Nat) (x:Nat × Nat) (G:gs[k]?=some x):∃C cap,gv=.slice (some ⟨C,0,none⟩) gs.length cap/\gs.length<=cap/\w.cell? ⟨C,k*2,none⟩=some (.int .i64 x.1)/\w.cell? ⟨C,k*2+1,none⟩=some (.int .i64 x.2):=by
 have J:=(Te.1 G).1
 rcases h.2 with ⟨_,M⟩|⟨C,cap,I,rfl,_,_,H,_⟩
 ·omega
 ·have F:=h.cells (g:=C) rfl;refine ⟨C,cap,rfl,H,?_,?_⟩
  ·have:=F (k*2+0) (.int .i64 x.1) (aR eg 2 GL gs k 0 x _ G rfl);rw [O7] at this;exact this
  ·have:=F (k*2+1) (.int .i64 x.2) (aR eg 2 GL gs k 1 x _ G rfl);rw [O7] at this;exact this
theorem BT (gs:List (Nat × Nat)) (k:Nat) (x:Nat × Nat) (C:gs[k]?=some x):dd (gs.take (k+1))=dd (gs.take k)+x.2:=by
 induction gs generalizing k with
 |nil=>simp at C
 |cons y r ih=>
  obtain ⟨a,n⟩:=y;cases k with
  |zero=>simp at C;subst C;simp [dd]
  |succ k=>simp only [Wl,dd];rw [ih k (by simpa using C)];omega
theorem zO (gs:List (Nat × Nat)) (k:Nat):dd (gs.take k)<=dd gs:=by
 induction gs generalizing k with
 |nil=>simp
 |cons y r ih=>
  obtain ⟨a,n⟩:=y;cases k with
  |zero=>simp [dd]
  |succ k=>simp only [Wl,dd];have:=ih k;omega
theorem ED (g:Nat) (b:Bool) (Z O:Int) (tv gv:Value) (n:Nat) (xs:List Value) (gs:List (Nat × Nat)) (w:World) (Q:w.heap[g]?=some (.cells (sk b Z O tv gv) 123 (0,0))) (ht:w.ownsRow 0 5 1 tv n xs) (U:w.ownsRow 0 130 2 gv gs.length (bB eg gs)) (hn:n<=8589934592) (hs:dd gs<=8589934592) (hl:gs.length<=8589934592) :
  Ta 52 #[.pointer (some ⟨g,0,none⟩)] w fun e w'=>e=.returned (.int .i64 (n+dd gs:Nat))/\Below w.heap.size w w':=by
 have g3:w.cell? ⟨g,3,none⟩=some tv:=af Q rfl;have g4:w.cell? ⟨g,4,none⟩=some gv:=af Q rfl;obtain ⟨p1,c1,rfl,_,_⟩:=aK ht;obtain ⟨p2,c2,rfl,_,_⟩:=aK U;have HR:Hid (w.ownsRow 0 130 2 (.slice p2 gs.length c2) gs.length (bB eg gs)):=U;clear ht U Q
 go_enter Tryz.func52,Tryz.ntmps52
 go_wp2_with fail
 go_loopw [3,16] (fun m i wr=>∃k:Nat,k<=gs.length/\m=.int .i64 (n+dd (gs.take k):Nat)/\i=.int .i64 k/\Below w.heap.size w wr) (fun _ i _=>gs.length-(intOf i).toNat)
 case atStart=>exact ⟨0,by omega,by simp [dd],rfl,hH _ _⟩
 case round=>
  obtain ⟨k,hk,rfl,rfl,H⟩:=hrel;have J:=zO gs k
  by_cases I:k<gs.length
  ·obtain ⟨x,Y⟩:∃x,gs[k]?=some x:=⟨gs[k],Pi I⟩;obtain ⟨tb,cap,he,hc,x1,x2⟩:=rM HR.out k x Y;injection he with e1 e2 e3
   subst e1;have y1:=(H.cell (p:=⟨tb,k*2,none⟩) (S9 _ _ x1)).trans x1;have y2:=(H.cell (p:=⟨tb,k*2+1,none⟩) (S9 _ _ x2)).trans x2;have C:=BT gs k x Y;have M:=zO gs (k+1);obtain ⟨a,z⟩:=x;simp only at y1 y2 C;have q1:(k:Int)<gs.length:=by omega
   have F:Hid (dd (gs.take (k+1))=dd (gs.take k)+z):=C;have hz:dd (gs.take k)+z<=8589934592:=by omega
   clear x1 x2 Y C M e3;obtain ⟨S,G⟩:∃S,dd (gs.take k)=S:=⟨_,rfl⟩;rw [G] at J hz F ⊢;clear G
   go_wp2_with fail
   exact ⟨⟨k+1,I,by rw [F.out];go_num,by go_num,H.alloc H.size _⟩,by simp [intOf];omega⟩
  ·obtain rfl:k=gs.length:=by omega
   have F:Hid (dd (gs.take gs.length)=dd gs):=by rw [T4];rfl
   have q1:¬((gs.length:Int)<gs.length):=by omega
   obtain ⟨S,G⟩:∃S,dd (gs.take gs.length)=S:=⟨_,rfl⟩;rw [G] at J F ⊢;clear G;have HF:Hid ((n:Int)+(S:Int)=(n:Int)+(dd gs:Nat)):=by rw [F.out];rfl
   clear F
   go_wp2_with fail
   go_ret
   exact ⟨Tm (fun z=>Ending.returned (.int .i64 z)) HF.out,H⟩
theorem EZ (n:Nat):Lib.repeatL [32] n=List.replicate n 32:=by
 induction n with
 |zero=>rfl
 |succ n ih=>show [32]++Lib.repeatL [32] n=_;rw [ih];rfl
def ox (n:Nat):ByteArray:=⟨(List.replicate n 32).toArray⟩
theorem lr (n:Nat):(ox n).size=n:=by show (List.replicate n (32:UInt8)).toArray.size=n;simp
theorem JO (n:Nat) (w:World) (F:n<=8589934592):Ta 54 #[.string ⟨#[32]⟩,.int .i64 n] w fun e w'=>e=.returned (.string (ox n))/\Below w.heap.size w w':=by
 refine (yn ⟨#[32]⟩ n w (by omega) (by show 1*n<=_;omega)).mono ?_;rintro e w' ⟨rfl,C⟩;refine ⟨?_,C⟩;show Ending.returned (.string ⟨(Lib.repeatL [32] n).toArray⟩)=_;rw [EZ];rfl
structure Tk (w0:World) (g b:Nat) (bs:List UInt8) (W:World):Prop where
 lo:Below w0.heap.size w0 W
 hb:W.heap[w0.heap.size]?=some (.cells #[.pointer (some ⟨g,0,none⟩)] 80 (0,0))
 bd:∃v,Bd b v bs W/\∀k,v.ownBlock=some k->w0.heap.size<=k
 bl:w0.heap.size<=b
def Kt (W W':World):Prop:=∀(k:Nat) (cs:Array Value) (T:TypeId) (f:Nat × Nat),W.heap[k]?=some (.cells cs T f)->T≠41->T≠5->W'.heap[k]?=some (.cells cs T f)
theorem Tk.below (h:Tk w0 g b bs W) (C:Below W.heap.size W W'):Tk w0 g b bs W':=by
 obtain ⟨v,⟨F,G⟩,H⟩:=h.bd;exact ⟨h.lo.trans (C.mono h.lo.size),ag h.hb C,⟨v,⟨ag F C,bv G C⟩,H⟩,h.bl⟩
theorem Tk.wrote {I:List UInt8}(h:Tk w0 g b bs W) (J:Bd b v bs W) (S:∀k,v.ownBlock=some k->w0.heap.size<=k) (Y:Bw b v I W W'):Tk w0 g b I W'/\Kt W W':=by
 obtain ⟨v',U,G,F⟩:=Y
 have M:∀{x:Array Value} {k:Nat} {T:TypeId} {f:Nat × Nat},W.heap[k]?=some (.cells x T f)->T≠41->T≠5->¬(k=b\/some k=v.ownBlock):=by
  intro x k T f C O Q H
  rcases H with H|H
  ·exact lY C J.blk O H
  ·exact aN J.row C Q H.symm
 refine ⟨⟨?_,F.blk h.hb (M h.hb (by decide) (by decide)),⟨v',U,?_⟩,h.bl⟩,fun k cs T f C O Q=>F.blk C (M C O Q)⟩
 ·refine ⟨F.os.trans h.lo.os,F.tape.trans h.lo.tape,F.output.trans h.lo.output,SY h.lo.size F.size,fun k C=>(F.block k (Tn C h.lo.size) ?_).trans (h.lo.block k C)⟩;rintro (e|e)
  ·have:=h.bl;omega
  ·have:=S k e.symm;omega
 ·intro k C
  rcases G with G|G
  ·exact S k (by rw [<-G];exact C)
  ·rw [G] at C;injection C with C;subst C;exact h.lo.size
theorem Tk.write (h:Tk w0 g b bs W) (l:List UInt8) (ad:Addr) (m c:Nat) (H:l.length=m) (C:∀j u,(bc l)[j]?=some u->W.cell? (ad.add j)=some u) (I:bs.length+m<=70368744177664) :
  Ta 53 #[.pointer (some ⟨b,0,none⟩),.slice (some ad) m c] W fun e w'=>e=.returned (.tuple #[.int .i64 m,.nilIface])/\Tk w0 g b (bs++l) w'/\Kt W w':=by
 obtain ⟨v,F,G⟩:=h.bd;refine (OQ b v bs l ad m c W F H C I).mono ?_;rintro e w' ⟨rfl,hw⟩;exact ⟨rfl,h.wrote F G hw⟩
theorem Tk.write_none (h:Tk w0 g b bs W) :
  Ta 53 #[.pointer (some ⟨b,0,none⟩),.slice none 0 0] W fun e w'=>e=.returned (.tuple #[.int .i64 0,.nilIface])/\Tk w0 g b (bs++[]) w'/\Kt W w':=by
 obtain ⟨v,C,F⟩:=h.bd;refine (xw b v bs W C).mono ?_;rintro e w' ⟨rfl,hw⟩;exact ⟨rfl,h.wrote C F hw⟩
theorem Tk.wstr (h:Tk w0 g b bs W) (t:ByteArray) (G:bs.length+t.size<=70368744177664) :
  Ta 11 #[.pointer (some ⟨b,0,none⟩),.string t] W fun e w'=>e=.returned (.tuple #[.int .i64 t.size,.nilIface])/\Tk w0 g b (bs++t.data.toList) w'/\Kt W w':=by
 obtain ⟨v,C,F⟩:=h.bd;refine (Qt b v bs t W C G).mono ?_;rintro e w' ⟨rfl,hw⟩;exact ⟨rfl,h.wrote C F hw⟩
theorem vb {text:List UInt8}{C cap:Nat}(S:w0.ownsRow 0 5 1 tv text.length (bc text)) (Q:tv=.slice (some ⟨C,0,none⟩) text.length cap) (O:Below w0.heap.size w0 W) (f m:Nat):∀j u,(bc ((text.drop f).take m))[j]?=some u->W.cell? ((⟨C,f,none⟩:Addr).add j)=some u:=by
 intro j u F
 have I:(bc text)[f+j]?=some u:=by
  have:(bc ((text.drop f).take m))[j]?=((bc text).drop f |>.take m)[j]?:=by rw [LX,LW]
  rw [this] at F
  have H:j<m:=by
   have:=(Te.1 F).1;rw [Ty] at this;omega
  rw [TV,IO H,TK] at F;exact F
 have G:=S.cells (g:=C) (by rw [Q];rfl) (f+j) u I;rw [O7] at G;have J:=(O.cell (p:=⟨C,f+j,none⟩) (S9 _ _ G)).trans G
 have M:(⟨C,f,none⟩:Addr).add j=⟨C,f+j,none⟩:=by
  unfold Addr.add
  split <;> simp_all
 rw [M];exact J
end Go.Proofs.YtcjiapphbpiffaaGreatDoor.Lw
