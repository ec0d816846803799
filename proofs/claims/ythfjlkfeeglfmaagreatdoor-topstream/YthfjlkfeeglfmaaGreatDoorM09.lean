import Derived.Laws.AppendOwnNone
import Derived.Lib.RepeatB
import Derived.Test.YthfjlkfeeglfmaaGreatDoorM08
set_option linter.all false
set_option maxHeartbeats 1000000
namespace Go.Proofs.YthfjlkfeeglfmaaGreatDoor.Lw
open Go.Proofs.Tryz
open Lx
open Go.RowKit
open Go.Lib (strCells strCells_length)
variable {g i b c d h f:Nat}{w w0 w' W W':World}{bs:List UInt8}{sv:Array Value}{v tv gv:Value}
def xw (t:ByteArray):(uf t).size<=t.size:=by
 unfold uf;have:=Mm t;rw[ByteArray.size_extract];omega
def yW (b:Bool) (col u:Int) (t:ByteArray) (w:World) (hT:gj w) (ht:t.size<=8589934592) (h0:0<=col) (h1:col<=1152921504606846976) (h2:0<=u) (h3:u<=1152921504606846976) :
  Sa 92 #[.agg #[.bool b,Tu col,Tu u],.string t] w λe w'=>Uk e (.agg #[.bool true,Tu (kA col u t),Tu 0])/\Below w.heap.size w w':=by
 have ad:=Mm t;have ae:=kf t;have ac:=kf (uf t);have ah:=xw t
 by_cases hl:lf t<0
 ·have q1:decide (0<=lf t)=false:=by simp;omega
  have q2:¬(0<=lf t):=by omega
  have HN:Hid (kA col u t=col+u+tw t):=Or hl;clear ac ah;obtain⟨y,S⟩:=ea (tw t);rw[S]at HN ae;go_enter func92,ntmps92
  go_wp2_with(go_at_call 162;refine(wj t (by omega) _).mono ?_;rintro e w1⟨rfl,rfl⟩)
  obtain⟨W,O⟩:=ea ((w.alloc (.cells #[.bool b,Tu col,Tu u] 116)).alloc (.cells #[.bool false,Tu 0,Tu 0] 116));have s1:(w.alloc (.cells #[.bool b,Tu col,Tu u] 116)).heap.size=w.heap.size+1:=RT _ _;have H:Below w.heap.size w W:=by rw[<-O];exact((gt _ w).alloc (ge _) _).alloc (by omega) _
  have b1:W.heap[w.heap.size]?=some (.cells #[.bool b,Tu col,Tu u] 116 (0,0)):=by rw[<-O];exact gI _ _ _ _ (ak _ _)
  have M:W.heap[w.heap.size+1]?=some (.cells #[.bool false,Tu 0,Tu 0] 116 (0,0)):=by rw[<-O,<-s1];exact ak _ _
  obtain⟨x,hx⟩:∃x,x=w.heap.size:=⟨_,rfl⟩;rw[<-hx]at b1 M H;have Z:gj W:=hT.below (by rw[<-hx];exact H);simp only[O,<-hx];have x1:W.cell? (Tw x 1)=some (Tu col):=aa b1 rfl;have x2:W.cell? (Tw x 2)=some (Tu u):=aa b1 rfl;have HB:Hid (∀V,Below W.heap.size W V->V.cell? (Tw x 1)=some (Tu col)/\V.cell? (Tw x 2)=some (Tu u)/\V.cell? ⟨x+1,0,none⟩=some (.bool false)/\V.cell? ⟨x+1,1,none⟩=some (Tu 0)/\V.cell? ⟨x+1,2,none⟩=some (Tu 0)/\V.frozen? ⟨x+1,0,none⟩=false/\V.frozen? ⟨x+1,1,none⟩=false/\V.frozen? ⟨x+1,2,none⟩=false):=λV G=>⟨aa (af b1 G) rfl,aa (af b1 G) rfl,aa (af M G) rfl,aa (af M G) rfl,aa (af M G) rfl,aj (af M G),aj (af M G),aj (af M G)⟩
  have ai:=aW H;have HT:=aW Z
  have HC:Hid (Sa 105 #[.string t] W.drew λe V=>Uk e (Tu y)/\Hid (Below x w V/\V.heap[x+1]?=some (.cells #[.bool false,Tu 0,Tu 0] 116 (0,0)))/\V.cell? (Tw x 1)=some (Tu col)/\V.cell? (Tw x 2)=some (Tu u)/\V.cell? ⟨x+1,0,none⟩=some (.bool false)/\V.cell? ⟨x+1,1,none⟩=some (Tu 0)/\V.cell? ⟨x+1,2,none⟩=some (Tu 0)/\V.frozen? ⟨x+1,0,none⟩=false/\V.frozen? ⟨x+1,1,none⟩=false/\V.frozen? ⟨x+1,2,none⟩=false):=by
   refine(iS t W.drew (Z.below (VF (gt _ W))) ht).mono ?_;rintro e V⟨rfl,G⟩;have ab:Below W.heap.size W V:=⟨G.os,G.tape,G.output,G.size,G.block⟩;exact⟨by rw[S],⟨H.trans (ab.mono (by have:=H.size;omega)),af M ab⟩,HB.out V ab⟩
  clear s1 b1 M hT Z H O q1 q2 hl ad HB HT S;have HX:=aW hx;clear hx
  go_region_with (go_at_call 105;refine HC.out.mono ?_;rintro e w2⟨rfl,J,k1,k2,k3,k4,k5,k6,k7,k8⟩)
  all_goals
   have hz:IntKind.i64.wrap (IntKind.i64.wrap (col+u)+y)=col+u+y:=by rw[Sn,Sn];omega
   rw[hz];obtain⟨V,G⟩:∃V,V=((w2.setCell ⟨x+1,0,none⟩ (.bool true)).setCell ⟨x+1,1,none⟩ (Tu (col+u+y))).setCell ⟨x+1,2,none⟩ (Tu 0):=⟨_,rfl⟩;have I:V.heap[x+1]?=some (.cells #[.bool true,Tu (col+u+y),Tu 0] 116 (0,0)):=by rw[G];exact ag (ag (ag J.out.2 0 _) 1 _) 2 _
   have Q:Below x w V:=by rw[G];exact(((J.out.1).setCell (p:=⟨x+1,0,none⟩) (by show x<=x+1;omega) _).setCell (p:=⟨x+1,1,none⟩) (by show x<=x+1;omega) _).setCell (p:=⟨x+1,2,none⟩) (by show x<=x+1;omega) _
   rw[<-G];have m0:V.cell? ⟨x+1,0,none⟩=some (.bool true):=aa I rfl;have m1:V.cell? ⟨x+1,1,none⟩=some (Tu (col+u+y)):=aa I rfl;have m2:V.cell? ⟨x+1,2,none⟩=some (Tu 0):=aa I rfl;have HF:Hid (Ending.returned (.agg #[.bool true,Tu (col+u+y),Tu 0])=.returned (.agg #[.bool true,Tu (kA col u t),Tu 0])/\Below w.heap.size w V):=⟨by rw[HN.out],by rw[<-HX.out];exact Q⟩;clear hz G I Q k1 k2 k3 k4 k5 k6 k7 k8 J HC HN;(go_wp2_with fail);exact R0 (v:=.agg #[.bool true,Tu (col+u+y),Tu 0]) (by simp[results,Tryz.f92,go_sem,m0,m1,m2]) rfl HF.out
 ·have q1:decide (0<=lf t)=true:=by simp;omega
  have q2:(0<=lf t):=by omega
  have HN:Hid (kA col u t=tw (uf t)):=Eq hl;obtain⟨k,hk⟩:∃k:Nat,lf t=k:=⟨(lf t).toNat,by omega⟩;have HA:Hid (uf t=t.extract (k+1) t.size):=by unfold uf;rw[hk];rfl
  obtain⟨y,S⟩:=ea (tw (uf t))
  have HC:Hid (∀V,gj V->Sa 105 #[.string (t.extract (k+1) t.size)] V λe V'=>Uk e (Tu y)/\Below V.heap.size V V'):=by
   intro V G;rw[<-HA.out,<-S];exact iS (uf t) V G (by omega)
  rw[S]at HN ac;have al:(k:Int)+1<=t.size:=by omega
  have am:k+1<=t.size:=by omega
  have HT:=aW hT
  have LC:Hid (∀V,Sa 162 #[.string t,.string ⟨#[10]⟩] V λe w'=>Uk e (Tu k)/\w'=V):=by
   intro V;have:=wj t (by omega) V;rw[hk]at this;exact this
  clear ah ae q1 q2 hT S HA hl hk ad;go_enter func92,ntmps92
  go_wp2_with(go_at_call 162;refine(LC.out _).mono ?_;rintro e w1⟨rfl,rfl⟩)
  obtain⟨W,O⟩:=ea ((w.alloc (.cells #[.bool b,Tu col,Tu u] 116)).alloc (.cells #[.bool false,Tu 0,Tu 0] 116));have s1:(w.alloc (.cells #[.bool b,Tu col,Tu u] 116)).heap.size=w.heap.size+1:=RT _ _;have H:Below w.heap.size w W:=by rw[<-O];exact((gt _ w).alloc (ge _) _).alloc (by omega) _
  have M:W.heap[w.heap.size+1]?=some (.cells #[.bool false,Tu 0,Tu 0] 116 (0,0)):=by rw[<-O,<-s1];exact ak _ _
  refine(HC.out _ ?tab).mono ?_
  case tab=>rw[O];exact HT.out.below H
  rintro e w2⟨rfl,J⟩;rw[O]at J;have Y:=aW (H.trans (J.mono H.size));have k0:=af M J;clear J H M s1 O;have HK:=aW k0;obtain⟨x,HX⟩:∃x,Hid (x=w.heap.size):=⟨_,rfl⟩;rw[<-HX.out]at k0 Y HK ⊢;have k3:w2.cell? ⟨x+1,0,none⟩=some (.bool false):=aa k0 rfl;have k4:w2.cell? ⟨x+1,1,none⟩=some (Tu 0):=aa k0 rfl;have k5:w2.cell? ⟨x+1,2,none⟩=some (Tu 0):=aa k0 rfl;have k6:w2.frozen? ⟨x+1,0,none⟩=false:=aj k0;have k7:w2.frozen? ⟨x+1,1,none⟩=false:=aj k0;have k8:w2.frozen? ⟨x+1,2,none⟩=false:=aj k0;clear k0;obtain⟨V,G⟩:∃V,V=((w2.setCell ⟨x+1,0,none⟩ (.bool true)).setCell ⟨x+1,1,none⟩ (Tu y)).setCell ⟨x+1,2,none⟩ (Tu 0):=⟨_,rfl⟩;have I:V.heap[x+1]?=some (.cells #[.bool true,Tu y,Tu 0] 116 (0,0)):=by rw[G];exact ag (ag (ag HK.out 0 _) 1 _) 2 _
  have Q:Below x w V:=by rw[G];exact(((Y.out).setCell (p:=⟨x+1,0,none⟩) (by show x<=x+1;omega) _).setCell (p:=⟨x+1,1,none⟩) (by show x<=x+1;omega) _).setCell (p:=⟨x+1,2,none⟩) (by show x<=x+1;omega) _
  have m0:V.cell? ⟨x+1,0,none⟩=some (.bool true):=aa I rfl;have m1:V.cell? ⟨x+1,1,none⟩=some (Tu y):=aa I rfl;have m2:V.cell? ⟨x+1,2,none⟩=some (Tu 0):=aa I rfl;have HF:Hid (Ending.returned (.agg #[.bool true,Tu y,Tu 0])=.returned (.agg #[.bool true,Tu (kA col u t),Tu 0])/\Below w.heap.size w V):=⟨by rw[HN.out],by rw[<-HX.out];exact Q⟩;have HV:=aW G;clear G I Q Y HC HN;(go_wp2_with fail);rw[<-HV.out];exact R0 (v:=.agg #[.bool true,Tu y,Tu 0]) (by simp[results,Tryz.f92,go_sem,m0,m1,m2]) rfl HF.out
def et (gs:List (Nat × Nat)) (l m:Nat):List (Nat × Nat):=if m=0 then gs else gs++[(l,m)]
def oj {gs:List (Nat × Nat)}{t:List UInt8}(m:Nat) (h:oc f gs t.length):cF f (et gs t.length m) t=cF f gs t++List.replicate m 32:=by
 unfold et
 by_cases u:m=0
 ·rw[Or u,u];simp
 ·rw[Eq u];exact BO m h
def om {gs:List (Nat × Nat)}{k:Nat}(m:Nat) (h:oc f gs k):oc f (et gs k m) k:=by
 unfold et
 split
 ·exact h
 ·exact h.snoc m
def qC (gs:List (Nat × Nat)) (l m:Nat):cC (et gs l m)=cC gs+m:=by
 unfold et
 split
 ·omega
 ·exact Er _ _ _
def AF (gs:List (Nat × Nat)) (l m n:Nat) (h:∀x∈gs,x.1<n) (hl:l<n):∀x∈et gs l m,x.1<n:=by
 unfold et
 split
 ·exact h
 ·intro x u
  rcases Ss.1 u with u|u
  ·exact h x u
  ·simp at u;subst u;exact hl
def o7 (gs:List (Nat × Nat)) (l m:Nat) (h:gs.length<=cC gs):(et gs l m).length<=cC (et gs l m):=by
 rw[qC];unfold et
 split
 ·omega
 ·simp;omega
def PL (m d c:Nat) (v tv:Value) (l:Nat) (gs:List (Nat × Nat)) (w:World) (hc:w.heap[c]?=some (.cells #[tv] 117 (0,0))) (G:∃p cap,tv=.slice p l cap) (hd:w.heap[d]?=some (.cells #[v] 118 (0,0))) (I:w.ownsRow 0 129 2 v gs.length (ap eg gs)) (S:gs.length<=8589934592) (u:m<=9223372036854775807) (hl:l<=9223372036854775807) :
  Sa 159 #[Tu m,.pointer (some (Tw d 0)),.pointer (some (Tw c 0))] w λe w'=>Uk e (.tuple #[])/\∃v',w'.heap[d]?=some (.cells #[v'] 118 (0,0))/\w'.ownsRow 0 129 2 v' (et gs l m).length (ap eg (et gs l m))/\(v'.ownBlock=v.ownBlock\/∃b,w.heap.size<=b/\v'.ownBlock=some b)/\Kp (λk=>k=d\/some k=v.ownBlock) w w':=by
 unfold et
 by_cases H:m=0
 ·subst H;simp only[Or];refine(LB 0 d c w (TH _)).mono ?_;rintro e w'⟨rfl,rfl⟩;exact⟨rfl,v,hd,I,.inl rfl,Kp.refl _ _⟩
 ·simp only[Eq H];refine(DF m d c v tv gs.length l (ap eg gs) w hc G hd I S (by omega) u hl).mono ?_;rintro e w'⟨rfl,v',J,M,O,Q⟩;refine⟨rfl,v',J,?_,O,Q⟩;rw[IO,aT]
  simpa[ap]using M
structure Ga (own:Nat->Nat) (i:Nat) (w0:World) (g c d h:Nat) (sv:Array Value) (w:World) (text:List UInt8) (gs:List (Nat × Nat)):Prop where
 hg:w.heap[g]?=some (.cells sv 120 (0,0))
 hc:∃tv,w.heap[c]?=some (.cells #[tv] 117 (0,0))/\w.ownsRow 0 5 1 tv text.length (bc text)/\∀k,tv.ownBlock=some k->own k=i\/w0.heap.size<=k
 hd:∃gv,w.heap[d]?=some (.cells #[gv] 118 (0,0))/\w.ownsRow 0 129 2 gv gs.length (ap eg gs)/\∀k,gv.ownBlock=some k->own k=i\/w0.heap.size<=k
 hh:w.heap[h]?=some (.cells #[.pointer (some ⟨g,0,none⟩)] 62 (0,0))
 kp:Kp (λk=>own k=i) w0 w
 lc:w0.heap.size<=c
 ld:w0.heap.size<=d
def lO {a:Nat}{x y:Array Value}{s t:TypeId}{f e:Nat × Nat}(H:w.heap[a]?=some (.cells x s f)) (u:w.heap[b]?=some (.cells y t e)) (h:s≠t):a≠b:=by
 rintro rfl;rw[H]at u;injection u with G
 injection G with _ h2
 exact h h2
def Ga.below {own:Nat->Nat}{text:List UInt8}{gs:List (Nat × Nat)}(H:Ga own i w0 g c d h sv w text gs) (u:Below w.heap.size w w'):Ga own i w0 g c d h sv w' text gs:=by
 obtain⟨tv,G,I,J⟩:=H.hc;obtain⟨gv,k1,k2,k3⟩:=H.hd;exact⟨af H.hg u,⟨tv,af G u,aU I u,J⟩,⟨gv,af k1 u,aU k2 u,k3⟩,af H.hh u,H.kp.step (Kp.of_below (S:=λk=>own k=i) u) (λ_ _ h=>h),H.lc,H.ld⟩
def Ga.blanks {own:Nat->Nat}{text:List UInt8}{gs:List (Nat × Nat)}(H:Ga own i w0 g c d h sv w text gs) (m:Nat) (hn:gs.length<=8589934592) (Z:m<=9223372036854775807) (hl:text.length<=9223372036854775807) :
  Sa 159 #[Tu m,.pointer (some (Tw d 0)),.pointer (some (Tw c 0))] w λe w'=>Uk e (.tuple #[])/\Ga own i w0 g c d h sv w' text (et gs text.length m):=by
 obtain⟨tv,Q,O,Y⟩:=H.hc;obtain⟨gv,k1,k2,k3⟩:=H.hd;obtain⟨p,cap,hv,_,_⟩:=aG O;refine(PL m d c gv tv text.length gs w Q ⟨p,cap,hv⟩ k1 k2 hn Z hl).mono ?_;rintro e w'⟨rfl,v',a1,a2,J,a4⟩
 have I:∀{x:Array Value} {k:Nat} {T:TypeId},w.heap[k]?=some (.cells x T (0,0))->T≠118->T≠129->¬(k=d\/some k=gv.ownBlock):=by
  intro x k T u t1 t2 M
  rcases M with M|M
  ·exact lO u k1 t1 M
  ·exact aF k2 u t2 M.symm
 refine⟨rfl,a4.blk H.hg (I H.hg (by decide) (by decide)),⟨tv,a4.blk Q (I Q (by decide) (by decide)),a4.row O ?_,Y⟩,⟨v',a1,a2,?_⟩,a4.blk H.hh (I H.hh (by decide) (by decide)),H.kp.step a4 ?_,H.lc,H.ld⟩
 ·intro k u G
  rcases G with G|G
  ·subst G;exact aF O k1 (by decide) u
  ·rcases O.2 with⟨rfl,_⟩|⟨b,cap,aa,rfl,_,S,_⟩
   ·cases u
   ·simp only[Value.ownBlock,St]at u;subst u;exact aF k2 S (by decide) G.symm
 ·intro k u
  rcases J with J|⟨b,S,J⟩
  ·exact k3 k (by rw[<-J];exact u)
  ·rw[J]at u;injection u with u;subst u
   exact .inr (PI H.kp.size S)
 ·intro j hj G
  rcases G with G|G
  ·have:=H.ld;omega
  ·rcases k3 j G.symm with h|h
   ·exact h
   ·omega
def Ga.text {own:Nat->Nat}{text:List UInt8}{gs:List (Nat × Nat)}(H:Ga own i w0 g c d h sv w text gs) (t:ByteArray) (hn:text.length+t.size<=70368744177664) :
  Sa 160 #[.string t,.pointer (some (Tw c 0))] w λe w'=>Uk e (.tuple #[])/\Ga own i w0 g c d h sv w' (text++t.data.toList) gs:=by
 obtain⟨tv,Q,S,Y⟩:=H.hc;obtain⟨gv,k1,k2,k3⟩:=H.hd;refine(LA c tv text.length (bc text) t w Q S hn).mono ?_;rintro e w'⟨rfl,v',a1,a2,J,a4⟩
 have I:∀{x:Array Value} {k:Nat} {T:TypeId},w.heap[k]?=some (.cells x T (0,0))->T≠117->T≠5->¬(k=c\/some k=tv.ownBlock):=by
  intro x k T u t1 t2 M
  rcases M with M|M
  ·exact lO u Q t1 M
  ·exact aF S u t2 M.symm
 have O:(text++t.data.toList).length=text.length+t.size:=by rw[IO];rfl
 refine⟨rfl,a4.blk H.hg (I H.hg (by decide) (by decide)),⟨v',a1,by rw[O,Ip];exact a2,?_⟩,⟨gv,a4.blk k1 (I k1 (by decide) (by decide)),a4.row k2 ?_,k3⟩,a4.blk H.hh (I H.hh (by decide) (by decide)),H.kp.step a4 ?_,H.lc,H.ld⟩
 ·intro k u
  rcases J with J|J
  ·exact Y k (by rw[<-J];exact u)
  ·rw[J]at u;injection u with u;subst u
   exact .inr H.kp.size
 ·intro k u G
  rcases G with G|G
  ·subst G;exact aF k2 Q (by decide) u
  ·rcases k2.2 with⟨rfl,_⟩|⟨b,cap,aa,rfl,_,Z,_⟩
   ·cases u
   ·simp only[Value.ownBlock,St]at u;subst u;exact aF S Z (by decide) G.symm
 ·intro j hj G
  rcases G with G|G
  ·have:=H.lc;omega
  ·rcases Y j G.symm with h|h
   ·exact h
   ·omega
structure cX where
 fresh:Bool
 col:Nat
 wait:Nat
 out:List UInt8
structure SK (own:Nat->Nat) (i:Nat) (w:World) (g:Nat) (s:cX):Prop where
 lab:own g=i
 ex:∃tv gv text gs,w.heap[g]?=some (.cells (sk (!s.fresh) s.col s.wait tv gv) 120 (0,0))/\(w.ownsRow 0 5 1 tv text.length (bc text)/\∀k,tv.ownBlock=some k->own k=i)/\(w.ownsRow 0 129 2 gv gs.length (ap eg gs)/\∀k,gv.ownBlock=some k->own k=i)/\oc 0 gs text.length/\s.out=cF 0 gs text/\(gs.length<=cC gs/\∀x∈gs,x.1<text.length)
def tm {own own':Nat->Nat}{j:Nat}{e sz n:Nat}{xs:List Value}(M:Fr j own own' w w') (H:i≠j) (h:w.ownsRow 0 e sz v n xs/\∀k,v.ownBlock=some k->own k=i):w'.ownsRow 0 e sz v n xs/\∀k,v.ownBlock=some k->own' k=i:=by
 obtain⟨u,I⟩:=h;refine⟨⟨u.1,?_⟩,λk O=>?_⟩
 ·rcases u.2 with Q|⟨g,cap,G,rfl,S,J,Y⟩
  ·exact .inl Q
  ·exact .inr ⟨g,cap,G,rfl,S,(M.block g (ai J) (by rw[I g rfl];exact H)).trans J,Y⟩
 ·rw[M.old k (u.lt k O).2];exact I k O
def SK.kept {own own':Nat->Nat}{i j:Nat}{w w':World}{g:Nat}{s:cX}(h:SK own i w g s) (G:Fr j own own' w w') (u:i≠j):SK own' i w' g s:=by
 obtain⟨tv,gv,text,gs,H,I,J,M⟩:=h.ex;exact⟨(G.old g (ai H)).trans h.lab,tv,gv,text,gs,(G.block g (ai H) (by rw[h.lab];exact u)).trans H,tm G u I,tm G u J,M⟩
def SK.below {own:Nat->Nat}{s:cX}(h:SK own i w g s) (u:Below w.heap.size w w'):SK own i w' g s:=
 h.kept (Fr.of_below (i:=i+1) u) (by omega)
def SK.len {own:Nat->Nat}{s:cX}(h:SK own i w g s):g<w.heap.size:=by
 obtain⟨tv,gv,text,gs,u,_⟩:=h.ex;exact ai u
def Af (own:Nat->Nat) (i:Nat) (w w':World) (g:Nat) (s:cX):Prop:=∃own',Nf own' w'/\Fr i own own' w w'/\SK own' i w' g s
def Af.here {own:Nat->Nat}{s:cX}(h:SK own i w g s) (G:Nf own w) (u:Se w w'):Af own i w w' g s:=
 ⟨own,G.below u.size,Fr.of_below u,h.below u⟩
def Ga.fin {own:Nat->Nat}{text:List UInt8}{gs:List (Nat × Nat)}(H:Ga own i w0 g c d h sv w text gs) (hn:Nf own w0) (I:own g=i) (S:g<w0.heap.size)
  (tv gv:Value) (O:w.ownsRow 0 5 1 tv text.length (bc text)) (h2:∀k,tv.ownBlock=some k->own k=i\/w0.heap.size<=k) (Q:w.ownsRow 0 129 2 gv gs.length (ap eg gs)) (k2:∀k,gv.ownBlock=some k->own k=i\/w0.heap.size<=k)
  (s:cX) (Z:w'.heap[g]?=some (.cells (sk (!s.fresh) s.col s.wait tv gv) 120 (0,0))) (G:Kp (λk=>k=g) w w') (hu:oc 0 gs text.length) (ho:s.out=cF 0 gs text) (Y:gs.length<=cC gs/\∀x∈gs,x.1<text.length):Af own i w0 w' g s:=by
 have hs:=H.kp.size;have ae:=G.size;have ac:=aF O H.hg (by decide);have ad:=aF Q H.hg (by decide);have aa:=λk G=>(O.lt k G).2
 have ab:=λk G=>(Q.lt k G).2
 refine⟨λk=>if k<w0.heap.size then own k else if tv.ownBlock=some k\/gv.ownBlock=some k then i else 0,?_,?_,?_,tv,gv,text,gs,Z,⟨G.row O (λk J M=>ac (by rw[J,M])),?_⟩,⟨G.row Q (λk J M=>ad (by rw[J,M])),?_⟩,hu,ho,Y⟩
 ·intro k u;show(if k<w0.heap.size then own k else if tv.ownBlock=some k\/gv.ownBlock=some k then i else 0)=0;rw[Eq (by omega),Eq];rintro(e|e)
  ·have:=aa k e;omega
  ·have:=ab k e;omega
 ·refine(H.kp.step G (λj _ e=>by subst e;exact I)).fr (λk _ e=>e) (λk u=>Or u)
 ·show(if g<w0.heap.size then own g else _)=i;rw[Or S];exact I
 ·intro k e;show(if k<w0.heap.size then own k else if tv.ownBlock=some k\/gv.ownBlock=some k then i else 0)=i
  by_cases u:k<w0.heap.size
  ·rw[Or u]
   rcases h2 k e with h|h
   ·exact h
   ·omega
  ·rw[Eq u,Or (.inl e)]
 ·intro k e;show(if k<w0.heap.size then own k else if tv.ownBlock=some k\/gv.ownBlock=some k then i else 0)=i
  by_cases u:k<w0.heap.size
  ·rw[Or u]
   rcases k2 k e with h|h
   ·exact h
   ·omega
  ·rw[Eq u,Or (.inr e)]
def cX.feed (s:cX) (c:Nat):cX:=⟨true,c,0,s.out++[10]⟩
def GG {own:Nat->Nat}{b:Bool}{col G:Int}{av I:Value}{text:List UInt8}{gs:List (Nat × Nat)}(H:Ga own i w0 g c d h (sk b col G av I) w text gs) (O:∃p n cap,av=.slice p n cap) (J:∃p n cap,I=.slice p n cap) (hn:Nf own w0) (M:own g=i) (Q:g<w0.heap.size)
  (u:FrameMode) (s:cX) (hu:oc 0 gs text.length) (ho:s.out=cF 0 gs text) (S:gs.length<=cC gs/\∀x∈gs,x.1<text.length) :
  CallsD Tryz.prog 161 #[.agg #[.bool (!s.fresh),Tu s.col,Tu s.wait],.pointer (some (Tw c 0)),.pointer (some (Tw d 0)),.pointer (some (Tw h 0))] u w λe Z w'=>Z=u/\(Uk e (.tuple #[])/\Af own i w0 w' g s):=by
 obtain⟨tv,h1,Y,h3⟩:=H.hc;obtain⟨gv,k1,k2,k3⟩:=H.hd;obtain⟨p1,c1,e1,_,_⟩:=aG Y;obtain⟨p2,c2,e2,_,_⟩:=aG k2;refine(Om u b (!s.fresh) col G s.col s.wait c d h g av I tv gv w H.hg h1 k1 H.hh O J ⟨_,_,_,e1⟩ ⟨_,_,_,e2⟩).mono ?_;rintro e Z w'⟨rfl,rfl,a1,a2⟩;exact⟨rfl,rfl,H.fin hn M Q tv gv Y h3 k2 k3 s a1 a2 hu ho S⟩
def wE {own:Nat->Nat}{text:List UInt8}{gs:List (Nat × Nat)}(Z:w.heap[g]?=some (.cells sv 120 (0,0))) (H:w.ownsRow 0 5 1 tv text.length (bc text)/\∀k,tv.ownBlock=some k->own k=i) (I:w.ownsRow 0 129 2 gv gs.length (ap eg gs)/\∀k,gv.ownBlock=some k->own k=i)
  (Y:(w'.heap[c]?=some (.cells #[tv] 117 (0,0))/\w'.heap[d]?=some (.cells #[gv] 118 (0,0))/\w'.heap[h]?=some (.cells #[.pointer (some (Tw g 0))] 62 (0,0))/\w.heap.size<=c/\w.heap.size<=d/\w.heap.size<=h)/\Se w w'):Ga own i w g c d h sv w' text gs:=by
 obtain⟨⟨J,M,O,Q,S,_⟩,u⟩:=Y;exact⟨af Z u,⟨tv,J,aU H.1 u,λk G=>.inl (H.2 k G)⟩,⟨gv,M,aU I.1 u,λk G=>.inl (I.2 k G)⟩,O,Kp.of_below u,Q,S⟩
def vX (own:Nat->Nat) (i g:Nat) (s:cX) (c:Nat) (w:World) (h:SK own i w g s) (hn:Nf own w) (hb:s.out.length<=8589934592) :
  Sa 96 #[.pointer (some (Tw g 0)),Tu c] w λe w'=>Uk e (.tuple #[])/\Af own i w w' g (s.feed c):=by
 have J:=h.len;have G:=h.lab;obtain⟨tv,gv,text,gs,S,Y,Z,O,h5,Q⟩:=h.ex;obtain⟨p1,c1,e1,_,_⟩:=aG Y.1;obtain⟨p2,c2,e2,_,_⟩:=aG Z.1;have M:=lr O;rw[<-h5]at M;have ab:=Q.1;have HG:=pk g (!s.fresh) s.col s.wait tv gv w S ⟨_,_,_,e1⟩ ⟨_,_,_,e2⟩;have HS:Hid (∀(w':World) (c d h:Nat),((w'.heap[c]?=some (.cells #[tv] 117 (0,0))/\w'.heap[d]?=some (.cells #[gv] 118 (0,0))/\w'.heap[h]?=some (.cells #[.pointer (some (Tw g 0))] 62 (0,0))/\w.heap.size<=c/\w.heap.size<=d/\w.heap.size<=h)/\Se w w')->Ga own i w g c d h (sk (!s.fresh) s.col s.wait tv gv) w' text gs):=λw' c d h hB=>wE S Y Z hB
 have HE:Hid (∀(w':World) (I d h:Nat) (u:FrameMode),Ga own i w g I d h (sk (!s.fresh) s.col s.wait tv gv) w' (text++[10]) gs->CallsD Tryz.prog 161 #[.agg #[.bool false,Tu c,Tu 0],.pointer (some (Tw I 0)),.pointer (some (Tw d 0)),.pointer (some (Tw h 0))] u w' λe u' w'=>u'=u/\(Uk e (.tuple #[])/\Af own i w w' g (s.feed c))):=λw' I d h u H=>
  GG H ⟨_,_,_,e1⟩ ⟨_,_,_,e2⟩ hn G J u (s.feed c) (O.more (by simp)) (by show s.out++[10]=_;rw[h5,qx [10] O]) ⟨Q.1,λx hx=>by have:=Q.2 x hx;simp;omega⟩
 have aa:Hid (Sa 91 #[.pointer (some (Tw g 0))] w λe w'=>∃c d h,Uk e (.tuple #[.func (.func 159) #[] #[.pointer (some (Tw d 0)),.pointer (some (Tw c 0))],.func (.func 160) #[] #[.pointer (some (Tw c 0))],.func (.func 161) #[] #[.pointer (some (Tw c 0)),.pointer (some (Tw d 0)),.pointer (some (Tw h 0))]])/\Ga own i w g c d h (sk (!s.fresh) s.col s.wait tv gv) w' text gs):=by
  refine HG.mono ?_;rintro e w'⟨c,d,h,rfl,hB⟩;exact⟨c,d,h,rfl,HS.out _ _ _ _ hB⟩
 have HL:Hid (text.length+1<=70368744177664):=by show _<=_;omega
 clear HG HS hn G J h S Y Z O h5 Q ab M e1 e2 hb
 go_enter_defers func96,ntmps96
 go_wp2_with(go_at_call 91;refine aa.out.mono ?_;rintro e w1⟨I,d,h,rfl,H⟩)
 have HH:=aW H;clear H;refine(HH.out.text ⟨#[10]⟩ HL.out).mono ?_;rintro e w2⟨rfl,H2⟩;have HD:=aW H2;clear HH H2;(go_wp2_with fail);refine UY (f:=161) (args:=#[.agg #[.bool false,Tu c,Tu 0],.pointer (some (Tw I 0)),.pointer (some (Tw d 0)),.pointer (some (Tw h 0))]) (by simp) (by simp[go_sem]) ?_;refine(HE.out _ _ _ _ .returning HD.out).mono ?_;rintro e u' ac⟨rfl,rfl,hA⟩;exact⟨_,Vo rfl _ _ _,rfl,hA⟩
def cX.text (s:cX) (t:ByteArray):cX:=if t.size=0 then s else⟨false,(kA s.col s.wait t).toNat,0,s.out++((if s.fresh then List.replicate s.col 32 else[])++(List.replicate s.wait 32++t.data.toList))⟩
def Kw {t:ByteArray}(h:t.size≠0):t.toList.isEmpty=false:=by
 rw[UU];cases hd:t.data.toList with
 |nil=>exfalso;apply h;show t.data.size=0;rw[<-Tb,hd];rfl
 |cons a r=>rfl
def AE (col u:Nat) (t:ByteArray):0<=kA col u t/\kA col u t<=col+u+2*t.size:=by
 have G:=kf t;have H:=kf (uf t);have I:=xw t;unfold kA
 split<;>omega
def BS (g:Nat) (t:ByteArray) (w:World) (ht:t.size=0):Sa 41 #[.pointer (some (Tw g 0)),.string t] w λe w'=>Uk e (Tu 0)/\w'=w:=by
 obtain rfl:t=⟨#[]⟩:=by
  have:t=ByteArray.empty:=ByteArray.size_eq_zero_iff.1 ht;exact this
 go_enter_defers func41,ntmps41
 (go_wp2_with fail);exact⟨_,VM rfl _ _ _,rfl,rfl⟩
def BR (own:Nat->Nat) (i g:Nat) (s:cX) (t:ByteArray) (w:World) (h:SK own i w g s) (hn:Nf own w) (hT:gj w) (ht:t.size≠0) (hb:s.out.length+s.col+s.wait+t.size<=8589934592) :
  Sa 41 #[.pointer (some (Tw g 0)),.string t] w λe w'=>Uk e (Tu 0)/\Af own i w w' g (s.text t):=by
 have ag:=h.len;have O:=h.lab;obtain⟨tv,gv,text,gs,h1,h2,h3,h4,h5,h6⟩:=h.ex;obtain⟨p1,c1,e1,_,_⟩:=aG h2.1;obtain⟨p2,c2,e2,_,_⟩:=aG h3.1;have ai:=lr h4;rw[<-h5]at ai;obtain⟨fr,col,wait,out⟩:=s;simp only at *
 have af:Hid (Sa 91 #[.pointer (some (Tw g 0))] w λe w'=>∃c d h,Uk e (.tuple #[.func (.func 159) #[] #[.pointer (some (Tw d 0)),.pointer (some (Tw c 0))],.func (.func 160) #[] #[.pointer (some (Tw c 0))],.func (.func 161) #[] #[.pointer (some (Tw c 0)),.pointer (some (Tw d 0)),.pointer (some (Tw h 0))]])/\Hid (Ga own i w g c d h (sk (!fr) col wait tv gv) w' text gs/\gj w')/\w'.cell? (Tw g 0)=some (.bool (!fr))/\w'.cell? (Tw g 1)=some (Tu col)/\w'.cell? (Tw g 2)=some (Tu wait)):=by
  refine(pk g (!fr) col wait tv gv w h1 ⟨_,_,_,e1⟩ ⟨_,_,_,e2⟩).mono ?_;rintro e w'⟨c,d,h,rfl,hB⟩;have hG:Ga own i w g c d h (sk (!fr) col wait tv gv) w' text gs:=wE h1 h2 h3 hB;exact⟨c,d,h,rfl,⟨hG,hT.below hB.2⟩,aa hG.hg rfl,aa hG.hg rfl,aa hG.hg rfl⟩
 have ak:=AE col wait t;obtain⟨nc,ac⟩:∃nc:Nat,kA col wait t=nc:=⟨(kA col wait t).toNat,by omega⟩
 have ad:Hid (∀V,gj V->Sa 92 #[.agg #[.bool (!fr),Tu col,Tu wait],.string t] V λe w'=>Uk e (.agg #[.bool true,Tu nc,Tu 0])/\Se V w'):=by
  intro V hV;have:=yW (!fr) col wait t V hV (by omega) (by omega) (by omega) (by omega) (by omega);rw[ac]at this;exact this
 have HE:Hid (∀(w':World) (I d h:Nat) (u:FrameMode),Ga own i w g I d h (sk (!fr) col wait tv gv) w' (text++t.data.toList) (et (et gs text.length (if fr then col else 0)) text.length wait)->CallsD Tryz.prog 161 #[.agg #[.bool true,Tu nc,Tu 0],.pointer (some (Tw I 0)),.pointer (some (Tw d 0)),.pointer (some (Tw h 0))] u w' λe u' w'=>u'=u/\(Uk e (.tuple #[])/\Af own i w w' g (cX.text ⟨fr,col,wait,out⟩ t))):=by
  intro w' I d h u H
  have al:cX.text ⟨fr,col,wait,out⟩ t=⟨false,nc,0,out++((if fr then List.replicate col 32 else[])++(List.replicate wait 32++t.data.toList))⟩:=by
   unfold cX.text;rw[Eq ht];simp only[ac];rfl
  rw[al]
  have Q:text.length<(text++t.data.toList).length:=by
   have:t.data.toList.length=t.size:=by rw[Tb];rfl
   rw[IO,this];omega
  have ah:oc 0 (et (et gs text.length (if fr then col else 0)) text.length wait) text.length:=om wait (om _ h4);refine GG H ⟨_,_,_,e1⟩ ⟨_,_,_,e2⟩ hn O ag u ⟨false,nc,0,_⟩ (ah.more (by simp)) ?_ ⟨o7 _ _ _ (o7 _ _ _ h6.1),AF _ _ _ _ (AF _ _ _ _ (λx hx=>by have:=h6.2 x hx;simp;omega) Q) Q⟩;show out++_=_;rw[qx _ ah,oj _ (om _ h4),oj _ h4,<-h5];cases fr
  ·simp
  ·simp only[TU,RW]
 have HL:Hid (gs.length<=8589934592/\(et gs text.length (if fr then col else 0)).length<=8589934592/\text.length+t.size<=70368744177664/\col<=8589934592/\wait<=8589934592/\text.length<=8589934592):=by
  have:=o7 gs text.length (if fr then col else 0) h6.1;rw[qC]at this;have an:=h6.1;refine⟨by omega,?_,by omega,by omega,by omega,by omega⟩;cases fr<;>simp at this ⊢<;>omega
 have ap:t.toList.isEmpty=false:=Kw ht;clear hn O ag h h1 h2 h3 h4 h5 h6 ai e1 e2 hb hT ht ak ac;cases fr
 ·go_enter_defers func41,ntmps41
  go_wp2_with(go_at_call 91;refine af.out.mono ?_;rintro e w1⟨I,d,h,rfl,S,g0,g1,g2⟩)
  refine(ad.out w1 S.out.2).mono ?_;rintro e w2⟨rfl,M⟩;have G:=aW (S.out.1.below M);have Z:w2.cell? (Tw g 0)=some (.bool true):=aa G.out.hg rfl;have ab:w2.cell? (Tw g 2)=some (Tu wait):=aa G.out.hg rfl;clear S g0 g1 g2 M;(go_wp2_with fail);refine(G.out.blanks wait HL.out.1 (by have:=HL.out;omega) (by have:=HL.out;omega)).mono ?_;rintro e w3⟨rfl,H3⟩;have J:=aW H3;clear G H3 Z ab;(go_wp2_with fail);refine(J.out.text t HL.out.2.2.1).mono ?_;rintro e w4⟨rfl,H4⟩;have Y:=aW H4;clear J H4;(go_wp2_with fail);refine UY (f:=161) (args:=#[.agg #[.bool true,Tu nc,Tu 0],.pointer (some (Tw I 0)),.pointer (some (Tw d 0)),.pointer (some (Tw h 0))]) (by simp) (by simp[go_sem]) ?_;refine(HE.out _ _ _ _ .returning Y.out).mono ?_;rintro e u' am⟨rfl,rfl,hA⟩;exact⟨_,VM rfl _ _ _,rfl,hA⟩
 ·go_enter_defers func41,ntmps41
  go_wp2_with(go_at_call 91;refine af.out.mono ?_;rintro e w1⟨I,d,h,rfl,S,g0,g1,g2⟩)
  refine(ad.out w1 S.out.2).mono ?_;rintro e w2⟨rfl,M⟩;have G:=aW (S.out.1.below M);have Z:w2.cell? (Tw g 0)=some (.bool false):=aa G.out.hg rfl;have aj:w2.cell? (Tw g 1)=some (Tu col):=aa G.out.hg rfl;clear S g0 g1 g2 M;(go_wp2_with fail);refine(G.out.blanks col HL.out.1 (by have:=HL.out;omega) (by have:=HL.out;omega)).mono ?_;rintro e w3⟨rfl,H3⟩;have J:=aW H3;have ab:w3.cell? (Tw g 2)=some (Tu wait):=aa J.out.hg rfl;clear G H3 Z aj;(go_wp2_with fail);refine(J.out.blanks wait HL.out.2.1 (by have:=HL.out;omega) (by have:=HL.out;omega)).mono ?_;rintro e w5⟨rfl,H5⟩;have ae:=aW H5;clear J H5 ab;(go_wp2_with fail);refine(ae.out.text t HL.out.2.2.1).mono ?_;rintro e w4⟨rfl,H4⟩;have Y:=aW H4;clear ae H4;(go_wp2_with fail);refine UY (f:=161) (args:=#[.agg #[.bool true,Tu nc,Tu 0],.pointer (some (Tw I 0)),.pointer (some (Tw d 0)),.pointer (some (Tw h 0))]) (by simp) (by simp[go_sem]) ?_;refine(HE.out _ _ _ _ .returning Y.out).mono ?_;rintro e u' am⟨rfl,rfl,hA⟩;exact⟨_,VM rfl _ _ _,rfl,hA⟩
def Eg (own:Nat->Nat) (i g:Nat) (s:cX) (t:ByteArray) (w:World) (h:SK own i w g s) (u:Nf own w) (G:gj w) (H:s.out.length+s.col+s.wait+t.size<=8589934592) :
  Sa 41 #[.pointer (some (Tw g 0)),.string t] w λe w'=>Uk e (Tu 0)/\Af own i w w' g (s.text t):=by
 by_cases ht:t.size=0
 ·refine(BS g t w ht).mono ?_;rintro e w'⟨rfl,rfl⟩;have:s.text t=s:=Or ht;rw[this];exact⟨rfl,Af.here h u (gt _ _)⟩
 ·exact BR own i g s t w h u G ht H
def GP (own:Nat->Nat) (i g:Nat) (s:cX) (c:Nat) (w:World) (h:SK own i w g s) (G:Nf own w) (hc:c<=1048576) (u:s.out.length<=8589934592) :
  Sa 95 #[.pointer (some (Tw g 0)),Tu c] w λe w'=>Uk e (Tu 0)/\Af own i w w' g (s.feed c):=by
 have I:decide ((c:Int)<0)=false:=by simp
 have J:decide (1048576<(c:Int))=false:=by simp;omega
 have M:¬(1048576<(c:Int)):=by omega
 have O:¬(1048576<c):=by omega
 have HN:=vX own i g s c w h G u;clear h G u;go_enter func95,ntmps95
 go_wp2_with(go_at_call 96;refine HN.mono ?_;rintro e Q⟨rfl,H⟩)
 go_ret;exact⟨rfl,H⟩
def cX.empty (s:cX):cX:=if s.fresh then s.feed s.col else s
def Dv (own:Nat->Nat) (i g:Nat) (s:cX) (w:World) (h:SK own i w g s) (G:Nf own w) (H:s.out.length<=8589934592) :
  Sa 45 #[.pointer (some (Tw g 0))] w λe w'=>Uk e (Tu 0)/\Af own i w w' g s.empty:=by
 obtain⟨tv,gv,text,gs,u,_⟩:=h.ex;have HN:=vX own i g s s.col w h G H;obtain⟨fr,col,wait,out⟩:=s;simp only at *;have M:w.cell? (Tw g 0)=some (.bool (!fr)):=aa u rfl;have O:w.cell? (Tw g 1)=some (Tu col):=aa u rfl;cases fr
 ·have I:=aW (Af.here h G (gt _ _));clear h G H u HN;go_enter func45,ntmps45;(go_wp2_with fail);go_ret;exact⟨rfl,I.out⟩
 ·clear h G H u;go_enter func45,ntmps45
  go_wp2_with(go_at_call 96;refine HN.mono ?_;rintro e Q⟨rfl,J⟩)
  go_ret;exact⟨rfl,J⟩
def ua (b:Nat) (w:World) (u:w.cell? (Tw b 0)=some (.pointer (some (Tw b 0)))):Sa 98 #[.pointer (some (Tw b 0))] w λe w'=>Uk e (.tuple #[])/\w=w':=
 (Ow b w u).mono λe w' h=>⟨h.1,h.2.symm⟩
structure Bd (b:Nat) (v:Value) (bs:List UInt8) (w:World):Prop where
 blk:w.heap[b]?=some (.cells #[.pointer (some ⟨b,0,none⟩),v] 127 (0,0))
 row:w.ownsRow 0 5 1 v bs.length (bc bs)
def Bw (b:Nat) (v:Value) (bs:List UInt8) (w w':World):Prop:=∃v',Bd b v' bs w'/\(v'.ownBlock=v.ownBlock\/v'.ownBlock=some w.heap.size)/\Kp (λk=>k=b\/some k=v.ownBlock) w w'
def Bd.put {b:Nat}{v u:Value}{bs l:List UInt8}{w w2:World}(h:Bd b v bs w) (Z:w.grownBy w2 v.ownBlock) (O:w2.ownsRow 0 5 1 u (bs.length+l.length) (bc bs++bc l)) (I:u.ownBlock=v.ownBlock\/u.ownBlock=some w.heap.size):Bw b v (bs++l) w (w2.setCell ⟨b,1,none⟩ u):=by
 have M:=Kp.of_grown Z;have J:=aF h.row h.blk (by decide);have G:=M.blk h.blk (λe=>J e.symm);have H:=aF O G (by decide);refine⟨u,⟨ag G 1 u,?_⟩,I,?_⟩
 ·rw[IO,Ip];exact(Kp.set w2 b 1 u).row O (λk Q Y=>H (by rw[Q,Y]))
 ·exact(Kp.step (S:=λk=>k=b\/some k=v.ownBlock) (Kp.refl _ _) M (λ_ _ h=>.inr h)).step (Kp.set w2 b 1 u) (λ_ _ h=>.inl h)
def Oo (b:Nat) (v:Value) (bs l:List UInt8) (ad:Addr) (m c:Nat) (w:World) (h:Bd b v bs w) (hl:l.length=m) (O:∀j u,(bc l)[j]?=some u->w.cell? (ad.add j)=some u) (hn:bs.length+m<=70368744177664) :
  Sa 50 #[.pointer (some (Tw b 0)),.slice (some ad) m c] w λe w'=>Uk e (.tuple #[Tu m,.nilIface])/\Bw b v (bs++l) w w':=by
 obtain⟨i0,hi,Q,S,Y⟩:=Tf Tryz.info5;have c0:w.cell? (Tw b 0)=some (.pointer (some (Tw b 0))):=aa h.blk rfl;have c1:w.cell? (Tw b 1)=some v:=aa h.blk rfl;have ab:=ai h.blk;obtain⟨p,cap,rfl,_,_⟩:=aG h.row;have J:=aW h;clear h;go_enter func50,ntmps50
 go_wp2_with(first|(go_at_call 98;refine(ua b w c0).mono ?_;rintro e w1⟨rfl,rfl⟩)|(at_builtin;refine Th (P:=Tryz.prog) (w:=w) rfl _ _ 117 rfl 0 5 i0 (.int .u8 0) 1 1 underlying117 hi Q S Y rfl (by decide) _ _ _ rfl J.out.row ad m c (bc l) rfl ?c0 O (Ox l) ?c3 ?c4 ?c5 ?_))
 case c0=>rw[Oy,hl,UG]
 case c3=>unfold maxLen;omega
 case c4=>omega
 case c5=>omega
 intro v2 w2 I H _ M;have HE:=aW (J.out.put H (by rw[hl];exact I) M);have G:=(Kp.of_grown H).blk J.out.blk (λe=>aF J.out.row J.out.blk (by decide) e.symm);have d0:w2.cell? (Tw b 0)=some (.pointer (some (Tw b 0))):=aa G rfl;have d1:w2.cell? (Tw b 1)=some (.slice p bs.length cap):=aa G rfl;have f1:w2.frozen? (Tw b 1)=false:=aj G;obtain⟨p2,Z,rfl,_,_⟩:=aG I;clear I H M G;(go_wp2_with fail);go_ret2;exact⟨rfl,HE.out⟩
def xt (b:Nat) (v:Value) (bs:List UInt8) (w:World) (h:Bd b v bs w) :
  Sa 50 #[.pointer (some (Tw b 0)),.slice none 0 0] w λe w'=>Uk e (.tuple #[Tu 0,.nilIface])/\Bw b v (bs++[]) w w':=by
 obtain⟨I,H,M,O,Q⟩:=Tf Tryz.info5;have c0:w.cell? (Tw b 0)=some (.pointer (some (Tw b 0))):=aa h.blk rfl;have c1:w.cell? (Tw b 1)=some v:=aa h.blk rfl;have J:=ai h.blk;have S:w.frozen? (Tw b 1)=false:=aj h.blk;have u:Hid (Bw b v (bs++[]) w (w.setCell ⟨b,1,none⟩ v)):=h.put ⟨rfl,rfl,rfl,ge _,λ_ _ _=>rfl⟩ (by simpa[bc]using h.row) (.inl rfl);obtain⟨p,cap,rfl,_,_⟩:=aG h.row;have G:=aW h;clear h;go_enter func50,ntmps50
 go_wp2_with(first|(go_at_call 98;refine(ua b w c0).mono ?_;rintro e Y⟨rfl,rfl⟩)|(at_builtin;refine wpList_append_own_none (P:=Tryz.prog) (w:=w) rfl _ _ 117 rfl 0 5 I 1 underlying117 H _ _ _ rfl G.out.row rfl ?_))
 go_ret2;exact⟨rfl,u.out⟩
def PN (b:Nat) (v:Value) (bs:List UInt8) (t:ByteArray) (w:World) (h:Bd b v bs w) (hn:bs.length+t.size<=70368744177664) :
  Sa 51 #[.pointer (some (Tw b 0)),.string t] w λe w'=>Uk e (.tuple #[Tu t.size,.nilIface])/\Bw b v (bs++t.data.toList) w w':=by
 obtain⟨i0,Z,M,O,Q⟩:=Tf Tryz.info5;have c0:w.cell? (Tw b 0)=some (.pointer (some (Tw b 0))):=aa h.blk rfl;have c1:w.cell? (Tw b 1)=some v:=aa h.blk rfl;have ab:=ai h.blk;obtain⟨p,cap,rfl,_,_⟩:=aG h.row;have I:=aW h;clear h;go_enter func51,ntmps51
 go_wp2_with(first|(go_at_call 98;refine(ua b w c0).mono ?_;rintro e w1⟨rfl,rfl⟩)|(at_builtin;refine dy (P:=Tryz.prog) (w:=w) rfl _ _ 117 9 rfl 0 5 i0 underlying117 underlying9 Z M O Q _ _ _ rfl I.out.row t rfl ?c3 ?c4 ?c5 ?_))
 case c3=>unfold maxLen;omega
 case c4=>omega
 case c5=>omega
 intro v2 w2 H G J;have Y:=aW (I.out.put G H J);have u:=(Kp.of_grown G).blk I.out.blk (λe=>aF I.out.row I.out.blk (by decide) e.symm);have d0:w2.cell? (Tw b 0)=some (.pointer (some (Tw b 0))):=aa u rfl;have d1:w2.cell? (Tw b 1)=some (.slice p bs.length cap):=aa u rfl;have f1:w2.frozen? (Tw b 1)=false:=aj u;obtain⟨p2,S,rfl,_,_⟩:=aG H;clear H G J u;(go_wp2_with fail);go_ret2;exact⟨rfl,Y.out⟩
def Ie (u:FrameMode) (b:Bool) (col G:Int) (h g:Nat) (tv gv:Value) (w:World) (H:w.heap[g]?=some (.cells (sk b col G tv gv) 120 (0,0))) (M:w.heap[h]?=some (.cells #[.pointer (some (Tw g 0))] 62 (0,0))) (J:∃p n cap,tv=.slice p n cap) (I:∃p n cap,gv=.slice p n cap) :
  CallsD Tryz.prog 47 #[.pointer (some (Tw h 0))] u w λe O w'=>O=u/\(Uk e (.tuple #[])/\w'=(w.setCell ⟨g,3,none⟩ (.slice none 0 0)).setCell ⟨g,4,none⟩ (.slice none 0 0)):=by
 have Y:w.cell? (Tw g 3)=some tv:=aa H rfl;have Z:w.cell? (Tw g 4)=some gv:=aa H rfl;have Q:w.frozen? (Tw g 3)=false:=aj H;have S:w.frozen? (Tw g 4)=false:=aj H;have h0:w.cell? (Tw h 0)=some (.pointer (some (Tw g 0))):=aa M rfl;obtain⟨p1,n1,k1,rfl⟩:=J;obtain⟨p2,n2,k2,rfl⟩:=I
 go_enter_d func47,ntmps47
 (go_wp2_with fail);go_end0;exact⟨rfl,rfl⟩
def OE (g j:Nat):((Tw g 0):Addr).add j=(Tw g j):=by
 unfold Addr.add
 split<;>simp_all
def qZ {gs:List (Nat × Nat)}(h:w.ownsRow 0 129 2 gv gs.length (ap eg gs)) (k:Nat) (x:Nat × Nat) (H:gs[k]?=some x):∃u cap,gv=.slice (some (Tw u 0)) gs.length cap/\gs.length<=cap/\w.cell? ⟨u,k*2,none⟩=some (Tu x.1)/\w.cell? ⟨u,k*2+1,none⟩=some (Tu x.2):=by
 have J:=(RY.1 H).1
 rcases h.2 with⟨_,M⟩|⟨u,cap,I,rfl,_,_,hc,_⟩
 ·omega
 ·have G:=h.cells (g:=u) rfl;refine⟨u,cap,rfl,hc,?_,?_⟩
  ·have:=G (k*2+0) (Tu x.1) (aP eg 2 G2 gs k 0 x _ H rfl);rw[OE]at this;exact this
  ·have:=G (k*2+1) (Tu x.2) (aP eg 2 G2 gs k 1 x _ H rfl);rw[OE]at this;exact this
def BY (gs:List (Nat × Nat)) (k:Nat) (x:Nat × Nat) (u:gs[k]?=some x):cC (gs.take (k+1))=cC (gs.take k)+x.2:=by
 induction gs generalizing k with
 |nil=>simp at u
 |cons y r ih=>
  obtain⟨a,n⟩:=y;cases k with
  |zero=>simp at u;subst u;simp[cC]
  |succ k=>simp only[VG,cC];rw[ih k (by simpa using u)];omega
def zK (gs:List (Nat × Nat)) (k:Nat):cC (gs.take k)<=cC gs:=by
 induction gs generalizing k with
 |nil=>simp
 |cons y r ih=>
  obtain⟨a,n⟩:=y;cases k with
  |zero=>simp[cC]
  |succ k=>simp only[VG,cC];have:=ih k;omega
def EJ (g:Nat) (b:Bool) (col Q:Int) (tv gv:Value) (n:Nat) (xs:List Value) (gs:List (Nat × Nat)) (w:World) (Y:w.heap[g]?=some (.cells (sk b col Q tv gv) 120 (0,0))) (ht:w.ownsRow 0 5 1 tv n xs) (Z:w.ownsRow 0 129 2 gv gs.length (ap eg gs)) (hn:n<=8589934592) (hs:cC gs<=8589934592) (hl:gs.length<=8589934592) :
  Sa 49 #[.pointer (some (Tw g 0))] w λe w'=>Uk e (Tu (n+cC gs:Nat))/\Below w.heap.size w w':=by
 have g3:w.cell? (Tw g 3)=some tv:=aa Y rfl;have g4:w.cell? (Tw g 4)=some gv:=aa Y rfl;obtain⟨p1,c1,rfl,_,_⟩:=aG ht;obtain⟨p2,c2,rfl,_,_⟩:=aG Z;have HR:=aW Z;clear ht Z Y;go_enter func49,ntmps49;(go_wp2_with fail)
 go_loopw [3,16] (λm i wr=>∃k:Nat,k<=gs.length/\m=Tu (n+cC (gs.take k):Nat)/\i=Tu k/\Below w.heap.size w wr) (λ_ i _=>gs.length-(intOf i).toNat)
 case atStart=>exact⟨0,by omega,by simp[cC],rfl,gt _ _⟩
 case round=>
  obtain⟨k,hk,rfl,rfl,I⟩:=hrel;have M:=zK gs k
  by_cases J:k<gs.length
  ·obtain⟨x,hx⟩:∃x,gs[k]?=some x:=⟨gs[k],Pi J⟩;obtain⟨tb,cap,he,hc,x1,x2⟩:=qZ HR.out k x hx;injection he with e1 e2 e3
   subst e1;have y1:=(I.cell (p:=⟨tb,k*2,none⟩) (RV _ _ x1)).trans x1;have y2:=(I.cell (p:=⟨tb,k*2+1,none⟩) (RV _ _ x2)).trans x2;have u:=BY gs k x hx;have O:=zK gs (k+1);obtain⟨a,z⟩:=x;simp only at y1 y2 u;have q1:(k:Int)<gs.length:=by omega
   have G:=aW u;have hz:cC (gs.take k)+z<=8589934592:=by omega
   clear x1 x2 hx u O e3;obtain⟨S,H⟩:=ea (cC (gs.take k));rw[H]at M hz G ⊢;clear H;(go_wp2_with fail);exact⟨⟨k+1,J,by rw[G.out];go_num,by go_num,I.alloc I.size _⟩,by simp[intOf];omega⟩
  ·obtain rfl:k=gs.length:=by omega
   have G:Hid (cC (gs.take gs.length)=cC gs):=by rw[Te];rfl
   have q1:¬((gs.length:Int)<gs.length):=by omega
   obtain⟨S,H⟩:=ea (cC (gs.take gs.length));rw[H]at M G ⊢;clear H;have HF:Hid ((n:Int)+(S:Int)=(n:Int)+(cC gs:Nat)):=by rw[G.out];rfl
   clear G;(go_wp2_with fail);go_ret;exact⟨Sh (λz=>Ending.returned (Tu z)) HF.out,I⟩
def Ff (n:Nat):Lib.repeatL [32] n=List.replicate n 32:=by
 induction n with
 |zero=>rfl
 |succ n ih=>show[32]++Lib.repeatL [32] n=_;rw[ih];rfl
def nZ (n:Nat):ByteArray:=⟨(List.replicate n 32).toArray⟩
def kZ (n:Nat):(nZ n).size=n:=by show(List.replicate n (32:UInt8)).toArray.size=n;simp
def JY (n:Nat) (w:World) (G:n<=8589934592):Sa 52 #[.string ⟨#[32]⟩,Tu n] w λe w'=>Uk e (.string (nZ n))/\Below w.heap.size w w':=by
 refine(ya ⟨#[32]⟩ n w (by omega) (by show 1*n<=_;omega)).mono ?_;rintro e w'⟨rfl,u⟩;refine⟨?_,u⟩;show Ending.returned (.string ⟨(Lib.repeatL [32] n).toArray⟩)=_;rw[Ff];rfl
structure Tk (w0:World) (g b:Nat) (bs:List UInt8) (W:World):Prop where
 lo:Below w0.heap.size w0 W
 hb:W.heap[w0.heap.size]?=some (.cells #[.pointer (some ⟨g,0,none⟩)] 62 (0,0))
 bd:∃v,Bd b v bs W/\∀k,v.ownBlock=some k->w0.heap.size<=k
 bl:w0.heap.size<=b
def Kt (W W':World):Prop:=∀(k:Nat) (cs:Array Value) (T:TypeId) (f:Nat × Nat),W.heap[k]?=some (.cells cs T f)->T≠127->T≠5->W'.heap[k]?=some (.cells cs T f)
def Tk.below (h:Tk w0 g b bs W) (u:Below W.heap.size W W'):Tk w0 g b bs W':=by
 obtain⟨v,⟨G,H⟩,I⟩:=h.bd;exact⟨h.lo.trans (u.mono h.lo.size),af h.hb u,⟨v,⟨af G u,aU H u⟩,I⟩,h.bl⟩
def Tk.wrote {J:List UInt8}(h:Tk w0 g b bs W) (M:Bd b v bs W) (Y:∀k,v.ownBlock=some k->w0.heap.size<=k) (hw:Bw b v J W W'):Tk w0 g b J W'/\Kt W W':=by
 obtain⟨v',Z,H,G⟩:=hw
 have O:∀{x:Array Value} {k:Nat} {T:TypeId} {f:Nat × Nat},W.heap[k]?=some (.cells x T f)->T≠127->T≠5->¬(k=b\/some k=v.ownBlock):=by
  intro x k T f u Q S I
  rcases I with I|I
  ·exact lO u M.blk Q I
  ·exact aF M.row u S I.symm
 refine⟨⟨?_,G.blk h.hb (O h.hb (by decide) (by decide)),⟨v',Z,?_⟩,h.bl⟩,λk cs T f u Q S=>G.blk u (O u Q S)⟩
 ·refine⟨G.os.trans h.lo.os,G.tape.trans h.lo.tape,G.output.trans h.lo.output,PI h.lo.size G.size,λk u=>(G.block k (R4 u h.lo.size) ?_).trans (h.lo.block k u)⟩;rintro(e|e)
  ·have:=h.bl;omega
  ·have:=Y k e.symm;omega
 ·intro k u
  rcases H with H|H
  ·exact Y k (by rw[<-H];exact u)
  ·rw[H]at u;injection u with u;subst u;exact h.lo.size
def Tk.write (h:Tk w0 g b bs W) (l:List UInt8) (ad:Addr) (m c:Nat) (hl:l.length=m) (G:∀j u,(bc l)[j]?=some u->W.cell? (ad.add j)=some u) (J:bs.length+m<=70368744177664) :
  Sa 50 #[.pointer (some (Tw b 0)),.slice (some ad) m c] W λe w'=>Uk e (.tuple #[Tu m,.nilIface])/\Tk w0 g b (bs++l) w'/\Kt W w':=by
 obtain⟨v,H,I⟩:=h.bd;refine(Oo b v bs l ad m c W H hl G J).mono ?_;rintro e w'⟨rfl,hw⟩;exact⟨rfl,h.wrote H I hw⟩
def Tk.write_none (h:Tk w0 g b bs W) :
  Sa 50 #[.pointer (some (Tw b 0)),.slice none 0 0] W λe w'=>Uk e (.tuple #[Tu 0,.nilIface])/\Tk w0 g b (bs++[]) w'/\Kt W w':=by
 obtain⟨v,u,G⟩:=h.bd;refine(xt b v bs W u).mono ?_;rintro e w'⟨rfl,hw⟩;exact⟨rfl,h.wrote u G hw⟩
def Tk.wstr (h:Tk w0 g b bs W) (t:ByteArray) (H:bs.length+t.size<=70368744177664) :
  Sa 51 #[.pointer (some (Tw b 0)),.string t] W λe w'=>Uk e (.tuple #[Tu t.size,.nilIface])/\Tk w0 g b (bs++t.data.toList) w'/\Kt W w':=by
 obtain⟨v,u,G⟩:=h.bd;refine(PN b v bs t W u H).mono ?_;rintro e w'⟨rfl,hw⟩;exact⟨rfl,h.wrote u G hw⟩
def uI {text:List UInt8}{G cap:Nat}(Z:w0.ownsRow 0 5 1 tv text.length (bc text)) (Y:tv=.slice (some (Tw G 0)) text.length cap) (S:Below w0.heap.size w0 W) (f m:Nat):∀j u,(bc ((text.drop f).take m))[j]?=some u->W.cell? (((Tw G f):Addr).add j)=some u:=by
 intro j u H
 have M:(bc text)[f+j]?=some u:=by
  have:(bc ((text.drop f).take m))[j]?=((bc text).drop f |>.take m)[j]?:=by rw[LO,LM]
  rw[this]at H
  have J:j<m:=by
   have:=(RY.1 H).1;rw[Sk]at this;omega
  rw[Sv,Or J,Sl]at H;exact H
 have I:=Z.cells (g:=G) (by rw[Y];rfl) (f+j) u M;rw[OE]at I;have O:=(S.cell (p:=⟨G,f+j,none⟩) (RV _ _ I)).trans I
 have Q:((Tw G f):Addr).add j=⟨G,f+j,none⟩:=by
  unfold Addr.add
  split<;>simp_all
 rw[Q];exact O
