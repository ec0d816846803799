import Derived.Test.YtpdlohfdjiaegaaGreatDoorR14
set_option linter.unusedVariables false
set_option linter.unusedSimpArgs false
set_option maxHeartbeats 1000000
namespace Go.Proofs.YtpdlohfdjiaegaaGreatDoor.Lw
open Go.Proofs.YtpdlohfdjiaegaaGreatDoor.Lx
open Go.RowKit
open Go.Lib (strCells strCells_length)
variable {w w' w0:World}{i g c d h f j:Nat}{sv:Array Value}
theorem mh (t:ByteArray):(aft t).size<=t.size:=by
 unfold aft;have:=wM t;rw [ByteArray.size_extract];omega
theorem nD (b:Bool) (col wait:Int) (t:ByteArray) (w:World) (hT:Tab w) (ht:t.size<=2147483647) (h0:0<=col) (h1:col<=1152921504606846976) (h2:0<=wait) (h3:wait<=1152921504606846976) :
  Aa 158 #[.agg #[.bool b,.int .i64 col,.int .i64 wait],.string t] w fun e w'=>e=.returned (.agg #[.bool true,.int .i64 (gP col wait t),.int .i64 0])/\Below w.heap.size w w':=by
 have hbd:=wM t;have hbt:=jn t;have hba:=jn (aft t);have hsa:=mh t
 by_cases hl:lf t<0
 ·have q1:decide (0<=lf t)=false:=by simp;omega
  have q2:¬(0<=lf t):=by omega
  have HN:Hid (gP col wait t=col+wait+tw t):=zw hl;clear hba hsa;obtain ⟨y,hy⟩:∃y,tw t=y:=⟨_,rfl⟩;rw [hy] at HN hbt
  go_enter Tryz.func158,Tryz.ntmps158
  go_wp2_with (go_at_call 200;refine (lA t (by omega) _).mono ?_;rintro e w1 ⟨rfl,rfl⟩)
  obtain ⟨W,hW⟩:∃W,((w.alloc (.cells #[.bool b,.int .i64 col,.int .i64 wait] 163)).alloc (.cells #[.bool false,.int .i64 0,.int .i64 0] 163))=W:=⟨_,rfl⟩;have s1:(w.alloc (.cells #[.bool b,.int .i64 col,.int .i64 wait] 163)).heap.size=w.heap.size+1:=ge _ _;have hbW:Below w.heap.size w W:=by rw [<-hW];exact ((gt _ w).alloc (eq _) _).alloc (by omega) _
  have b1:W.heap[w.heap.size]?=some (.cells #[.bool b,.int .i64 col,.int .i64 wait] 163 (0,0)):=by rw [<-hW];exact dW _ _ _ _ (ag _ _)
  have b2:W.heap[w.heap.size+1]?=some (.cells #[.bool false,.int .i64 0,.int .i64 0] 163 (0,0)):=by rw [<-hW,<-s1];exact ag _ _
  obtain ⟨x,hx⟩:∃x,x=w.heap.size:=⟨_,rfl⟩;rw [<-hx] at b1 b2 hbW;have hTW:Tab W:=hT.below (by rw [<-hx];exact hbW);simp only [hW,<-hx];have x1:W.cell? ⟨x,1,none⟩=some (.int .i64 col):=aa b1 rfl;have x2:W.cell? ⟨x,2,none⟩=some (.int .i64 wait):=aa b1 rfl;have HB:Hid (∀V,Below W.heap.size W V->V.cell? ⟨x,1,none⟩=some (.int .i64 col)/\V.cell? ⟨x,2,none⟩=some (.int .i64 wait)/\V.cell? ⟨x+1,0,none⟩=some (.bool false)/\V.cell? ⟨x+1,1,none⟩=some (.int .i64 0)/\V.cell? ⟨x+1,2,none⟩=some (.int .i64 0)/\V.frozen? ⟨x+1,0,none⟩=false/\V.frozen? ⟨x+1,1,none⟩=false/\V.frozen? ⟨x+1,2,none⟩=false):=fun V hV=>⟨aa (ab b1 hV) rfl,aa (ab b1 hV) rfl,aa (ab b2 hV) rfl,aa (ab b2 hV) rfl,aa (ab b2 hV) rfl,aj (ab b2 hV),aj (ab b2 hV),aj (ab b2 hV)⟩
  have HBW:Hid (Below x w W):=hbW;have HT:Hid (Tab W):=hTW
  have HC:Hid (Aa 196 #[.string t] W.drew fun e V=>e=.returned (.int .i64 y)/\Hid (Below x w V/\V.heap[x+1]?=some (.cells #[.bool false,.int .i64 0,.int .i64 0] 163 (0,0)))/\V.cell? ⟨x,1,none⟩=some (.int .i64 col)/\V.cell? ⟨x,2,none⟩=some (.int .i64 wait)/\V.cell? ⟨x+1,0,none⟩=some (.bool false)/\V.cell? ⟨x+1,1,none⟩=some (.int .i64 0)/\V.cell? ⟨x+1,2,none⟩=some (.int .i64 0)/\V.frozen? ⟨x+1,0,none⟩=false/\V.frozen? ⟨x+1,1,none⟩=false/\V.frozen? ⟨x+1,2,none⟩=false):=by
   refine (fV t W.drew (hTW.below (CX (gt _ W))) ht).mono ?_;rintro e V ⟨rfl,hV⟩;have hV':Below W.heap.size W V:=⟨hV.os,hV.tape,hV.output,hV.size,hV.block⟩;exact ⟨by rw [hy],⟨hbW.trans (hV'.mono (by have:=hbW.size;omega)),ab b2 hV'⟩,HB.out V hV'⟩
  clear s1 b1 b2 hT hTW hbW hW q1 q2 hl hbd HB HT hy;have HX:Hid (x=w.heap.size):=hx;clear hx
  go_region_with (go_at_call 196;refine HC.out.mono ?_;rintro e w2 ⟨rfl,hb2,k1,k2,k3,k4,k5,k6,k7,k8⟩)
  all_goals
   have hz:IntKind.i64.wrap (IntKind.i64.wrap (col+wait)+y)=col+wait+y:=by rw [zF,zF];omega
   rw [hz];obtain ⟨V,hV⟩:∃V,V=((w2.setCell ⟨x+1,0,none⟩ (.bool true)).setCell ⟨x+1,1,none⟩ (.int .i64 (col+wait+y))).setCell ⟨x+1,2,none⟩ (.int .i64 0):=⟨_,rfl⟩;have hVb:V.heap[x+1]?=some (.cells #[.bool true,.int .i64 (col+wait+y),.int .i64 0] 163 (0,0)):=by rw [hV];exact af (af (af hb2.out.2 0 _) 1 _) 2 _
   have hVB:Below x w V:=by rw [hV];exact (((hb2.out.1).setCell (p:=⟨x+1,0,none⟩) (by show x<=x+1;omega) _).setCell (p:=⟨x+1,1,none⟩) (by show x<=x+1;omega) _).setCell (p:=⟨x+1,2,none⟩) (by show x<=x+1;omega) _
   rw [<-hV];have m0:V.cell? ⟨x+1,0,none⟩=some (.bool true):=aa hVb rfl;have m1:V.cell? ⟨x+1,1,none⟩=some (.int .i64 (col+wait+y)):=aa hVb rfl;have m2:V.cell? ⟨x+1,2,none⟩=some (.int .i64 0):=aa hVb rfl;have HF:Hid (Ending.returned (.agg #[.bool true,.int .i64 (col+wait+y),.int .i64 0])=.returned (.agg #[.bool true,.int .i64 (gP col wait t),.int .i64 0])/\Below w.heap.size w V):=⟨by rw [HN.out],by rw [<-HX.out];exact hVB⟩;clear hz hV hVb hVB k1 k2 k3 k4 k5 k6 k7 k8 hb2 HC HN
   go_wp2_with fail
   exact zE (v:=.agg #[.bool true,.int .i64 (col+wait+y),.int .i64 0]) (by simp [results,Tryz.f158,go_sem,m0,m1,m2]) rfl HF.out
 ·have q1:decide (0<=lf t)=true:=by simp;omega
  have q2:(0<=lf t):=by omega
  have HN:Hid (gP col wait t=tw (aft t)):=zu hl;obtain ⟨k,hk⟩:∃k:Nat,lf t=k:=⟨(lf t).toNat,by omega⟩;have HA:Hid (aft t=t.extract (k+1) t.size):=by unfold aft;rw [hk];rfl
  obtain ⟨y,hy⟩:∃y,tw (aft t)=y:=⟨_,rfl⟩
  have HC:Hid (∀V,Tab V->Aa 196 #[.string (t.extract (k+1) t.size)] V fun e V'=>e=.returned (.int .i64 y)/\Below V.heap.size V V'):=by
   intro V hV;rw [<-HA.out,<-hy];exact fV (aft t) V hV (by omega)
  rw [hy] at HN hba;have hk1:(k:Int)+1<=t.size:=by omega
  have hkn:k+1<=t.size:=by omega
  have HT:Hid (Tab w):=hT
  have LC:Hid (∀V,Aa 200 #[.string t,.string ⟨#[10]⟩] V fun e w'=>e=.returned (.int .i64 k)/\w'=V):=by
   intro V;have:=lA t (by omega) V;rw [hk] at this;exact this
  clear hsa hbt q1 q2 hT hy HA hl hk hbd
  go_enter Tryz.func158,Tryz.ntmps158
  go_wp2_with (go_at_call 200;refine (LC.out _).mono ?_;rintro e w1 ⟨rfl,rfl⟩)
  obtain ⟨W,hW⟩:∃W,((w.alloc (.cells #[.bool b,.int .i64 col,.int .i64 wait] 163)).alloc (.cells #[.bool false,.int .i64 0,.int .i64 0] 163))=W:=⟨_,rfl⟩;have s1:(w.alloc (.cells #[.bool b,.int .i64 col,.int .i64 wait] 163)).heap.size=w.heap.size+1:=ge _ _;have hbW:Below w.heap.size w W:=by rw [<-hW];exact ((gt _ w).alloc (eq _) _).alloc (by omega) _
  have b2:W.heap[w.heap.size+1]?=some (.cells #[.bool false,.int .i64 0,.int .i64 0] 163 (0,0)):=by rw [<-hW,<-s1];exact ag _ _
  refine (HC.out _ ?tab).mono ?_
  case tab=>rw [hW];exact HT.out.below hbW
  rintro e w2 ⟨rfl,hb2⟩;rw [hW] at hb2;have HB2:Hid (Below w.heap.size w w2):=hbW.trans (hb2.mono hbW.size);have k0:=ab b2 hb2;clear hb2 hbW b2 s1 hW;have HK:Hid (w2.heap[w.heap.size+1]?=some (.cells #[.bool false,.int .i64 0,.int .i64 0] 163 (0,0))):=k0;obtain ⟨x,HX⟩:∃x,Hid (x=w.heap.size):=⟨_,rfl⟩;rw [<-HX.out] at k0 HB2 HK ⊢;have k3:w2.cell? ⟨x+1,0,none⟩=some (.bool false):=aa k0 rfl;have k4:w2.cell? ⟨x+1,1,none⟩=some (.int .i64 0):=aa k0 rfl;have k5:w2.cell? ⟨x+1,2,none⟩=some (.int .i64 0):=aa k0 rfl;have k6:w2.frozen? ⟨x+1,0,none⟩=false:=aj k0;have k7:w2.frozen? ⟨x+1,1,none⟩=false:=aj k0;have k8:w2.frozen? ⟨x+1,2,none⟩=false:=aj k0;clear k0;obtain ⟨V,hV⟩:∃V,V=((w2.setCell ⟨x+1,0,none⟩ (.bool true)).setCell ⟨x+1,1,none⟩ (.int .i64 y)).setCell ⟨x+1,2,none⟩ (.int .i64 0):=⟨_,rfl⟩;have hVb:V.heap[x+1]?=some (.cells #[.bool true,.int .i64 y,.int .i64 0] 163 (0,0)):=by rw [hV];exact af (af (af HK.out 0 _) 1 _) 2 _
  have hVB:Below x w V:=by rw [hV];exact (((HB2.out).setCell (p:=⟨x+1,0,none⟩) (by show x<=x+1;omega) _).setCell (p:=⟨x+1,1,none⟩) (by show x<=x+1;omega) _).setCell (p:=⟨x+1,2,none⟩) (by show x<=x+1;omega) _
  have m0:V.cell? ⟨x+1,0,none⟩=some (.bool true):=aa hVb rfl;have m1:V.cell? ⟨x+1,1,none⟩=some (.int .i64 y):=aa hVb rfl;have m2:V.cell? ⟨x+1,2,none⟩=some (.int .i64 0):=aa hVb rfl;have HF:Hid (Ending.returned (.agg #[.bool true,.int .i64 y,.int .i64 0])=.returned (.agg #[.bool true,.int .i64 (gP col wait t),.int .i64 0])/\Below w.heap.size w V):=⟨by rw [HN.out],by rw [<-HX.out];exact hVB⟩;have HV:Hid (V=((w2.setCell ⟨x+1,0,none⟩ (.bool true)).setCell ⟨x+1,1,none⟩ (.int .i64 y)).setCell ⟨x+1,2,none⟩ (.int .i64 0)):=hV;clear hV hVb hVB HB2 HC HN
  go_wp2_with fail
  rw [<-HV.out];exact zE (v:=.agg #[.bool true,.int .i64 y,.int .i64 0]) (by simp [results,Tryz.f158,go_sem,m0,m1,m2]) rfl HF.out
def cH (gs:List (Nat × Nat)) (l m:Nat):List (Nat × Nat):=if m=0 then gs else gs++[(l,m)]
theorem ij {gs:List (Nat × Nat)}{t:List UInt8}(m:Nat) (h:Ups f gs t.length):bM f (cH gs t.length m) t=bM f gs t++List.replicate m 32:=by
 unfold cH
 by_cases hm:m=0
 ·rw [zw hm,hm];simp
 ·rw [zu hm];exact oT m h
theorem il {gs:List (Nat × Nat)}{k:Nat}(m:Nat) (h:Ups f gs k):Ups f (cH gs k m) k:=by
 unfold cH
 split
 ·exact h
 ·exact h.snoc m
theorem jr (gs:List (Nat × Nat)) (l m:Nat):bI (cH gs l m)=bI gs+m:=by
 unfold cH
 split
 ·omega
 ·exact rc _ _ _
theorem oq (gs:List (Nat × Nat)) (l m n:Nat) (h:∀x∈gs,x.1<n) (hl:l<n):∀x∈cH gs l m,x.1<n:=by
 unfold cH
 split
 ·exact h
 ·intro x hx
  rcases Ai.1 hx with hx|hx
  ·exact h x hx
  ·simp at hx;subst hx;exact hl
theorem iP (gs:List (Nat × Nat)) (l m:Nat) (h:gs.length<=bI gs):(cH gs l m).length<=bI (cH gs l m):=by
 rw [jr];unfold cH
 split
 ·omega
 ·simp;omega
theorem yW (m d c:Nat) (v tv:Value) (l:Nat) (gs:List (Nat × Nat)) (w:World) (hc:w.heap[c]?=some (.cells #[tv] 164 (0,0))) (htv:∃p cap,tv=.slice p l cap) (hd:w.heap[d]?=some (.cells #[v] 165 (0,0))) (ho:w.ownsRow 0 175 2 v gs.length (aN eg gs)) (hn:gs.length<=1073741824) (hm2:m<=9223372036854775807) (hl:l<=9223372036854775807) :
  Aa 197 #[.int .i64 m,.pointer (some ⟨d,0,none⟩),.pointer (some ⟨c,0,none⟩)] w fun e w'=>e=.returned (.tuple #[])/\∃v',w'.heap[d]?=some (.cells #[v'] 165 (0,0))/\w'.ownsRow 0 175 2 v' (cH gs l m).length (aN eg (cH gs l m))/\(v'.ownBlock=v.ownBlock\/∃b,w.heap.size<=b/\v'.ownBlock=some b)/\Kp (fun k=>k=d\/some k=v.ownBlock) w w':=by
 unfold cH
 by_cases hm:m=0
 ·subst hm;simp only [zw];refine (wl 0 d c w (DF _)).mono ?_;rintro e w' ⟨rfl,rfl⟩;exact ⟨rfl,v,hd,ho,.inl rfl,Kp.refl _ _⟩
 ·simp only [zu hm];refine (qF m d c v tv gs.length l (aN eg gs) w hc htv hd ho hn (by omega) hm2 hl).mono ?_;rintro e w' ⟨rfl,v',h1,h2,h3,h4⟩;refine ⟨rfl,v',h1,?_,h3,h4⟩;rw [zq,bB]
  simpa [aN] using h2
structure Ga (own:Nat->Nat) (i:Nat) (w0:World) (g c d h:Nat) (sv:Array Value) (w:World) (text:List UInt8) (gs:List (Nat × Nat)):Prop where
 hg:w.heap[g]?=some (.cells sv 167 (0,0))
 hc:∃tv,w.heap[c]?=some (.cells #[tv] 164 (0,0))/\w.ownsRow 0 5 1 tv text.length (bc text)/\∀k,tv.ownBlock=some k->own k=i\/w0.heap.size<=k
 hd:∃gv,w.heap[d]?=some (.cells #[gv] 165 (0,0))/\w.ownsRow 0 175 2 gv gs.length (aN eg gs)/\∀k,gv.ownBlock=some k->own k=i\/w0.heap.size<=k
 hh:w.heap[h]?=some (.cells #[.pointer (some ⟨g,0,none⟩)] 111 (0,0))
 kp:Kp (fun k=>own k=i) w0 w
 lc:w0.heap.size<=c
 ld:w0.heap.size<=d
theorem gm {a b:Nat}{x y:Array Value}{s t:TypeId}{f e:Nat × Nat}(ha:w.heap[a]?=some (.cells x s f)) (hb:w.heap[b]?=some (.cells y t e)) (h:s≠t):a≠b:=by
 rintro rfl;rw [ha] at hb;injection hb with h1
 injection h1 with _ h2
 exact h h2
theorem Ga.below {own:Nat->Nat}{text:List UInt8}{gs:List (Nat × Nat)}(H:Ga own i w0 g c d h sv w text gs) (hb:Below w.heap.size w w'):Ga own i w0 g c d h sv w' text gs:=by
 obtain ⟨tv,h1,h2,h3⟩:=H.hc;obtain ⟨gv,k1,k2,k3⟩:=H.hd;exact ⟨ab H.hg hb,⟨tv,ab h1 hb,aE h2 hb,h3⟩,⟨gv,ab k1 hb,aE k2 hb,k3⟩,ab H.hh hb,H.kp.step (Kp.of_below (S:=fun k=>own k=i) hb) (fun _ _ h=>h),H.lc,H.ld⟩
theorem Ga.blanks {own:Nat->Nat}{text:List UInt8}{gs:List (Nat × Nat)}(H:Ga own i w0 g c d h sv w text gs) (m:Nat) (hn:gs.length<=1073741824) (hm:m<=9223372036854775807) (hl:text.length<=9223372036854775807) :
  Aa 197 #[.int .i64 m,.pointer (some ⟨d,0,none⟩),.pointer (some ⟨c,0,none⟩)] w fun e w'=>e=.returned (.tuple #[])/\Ga own i w0 g c d h sv w' text (cH gs text.length m):=by
 obtain ⟨tv,h1,h2,h3⟩:=H.hc;obtain ⟨gv,k1,k2,k3⟩:=H.hd;obtain ⟨p,cap,hv,_,_⟩:=av h2;refine (yW m d c gv tv text.length gs w h1 ⟨p,cap,hv⟩ k1 k2 hn hm hl).mono ?_;rintro e w' ⟨rfl,v',a1,a2,a3,a4⟩
 have hne:∀{x:Array Value} {k:Nat} {T:TypeId},w.heap[k]?=some (.cells x T (0,0))->T≠165->T≠175->¬(k=d\/some k=gv.ownBlock):=by
  intro x k T hk t1 t2 hh
  rcases hh with hh|hh
  ·exact gm hk k1 t1 hh
  ·exact ay k2 hk t2 hh.symm
 refine ⟨rfl,a4.blk H.hg (hne H.hg (by decide) (by decide)),⟨tv,a4.blk h1 (hne h1 (by decide) (by decide)),a4.row h2 ?_,h3⟩,⟨v',a1,a2,?_⟩,a4.blk H.hh (hne H.hh (by decide) (by decide)),H.kp.step a4 ?_,H.lc,H.ld⟩
 ·intro k hk hS
  rcases hS with hS|hS
  ·subst hS;exact ay h2 k1 (by decide) hk
  ·rcases h2.2 with ⟨rfl,_⟩|⟨b,cap,cur,rfl,_,hb,_⟩
   ·cases hk
   ·simp only [Value.ownBlock,zL] at hk;subst hk;exact ay k2 hb (by decide) hS.symm
 ·intro k hk
  rcases a3 with a3|⟨b,hb,a3⟩
  ·exact k3 k (by rw [<-a3];exact hk)
  ·rw [a3] at hk;injection hk with hk;subst hk
   exact .inr (zr H.kp.size hb)
 ·intro j hj hS
  rcases hS with hS|hS
  ·have:=H.ld;omega
  ·rcases k3 j hS.symm with h|h
   ·exact h
   ·omega
theorem Ga.text {own:Nat->Nat}{text:List UInt8}{gs:List (Nat × Nat)}(H:Ga own i w0 g c d h sv w text gs) (t:ByteArray) (hn:text.length+t.size<=70368744177664) :
  Aa 198 #[.string t,.pointer (some ⟨c,0,none⟩)] w fun e w'=>e=.returned (.tuple #[])/\Ga own i w0 g c d h sv w' (text++t.data.toList) gs:=by
 obtain ⟨tv,h1,h2,h3⟩:=H.hc;obtain ⟨gv,k1,k2,k3⟩:=H.hd;refine (wk c tv text.length (bc text) t w h1 h2 hn).mono ?_;rintro e w' ⟨rfl,v',a1,a2,a3,a4⟩
 have hne:∀{x:Array Value} {k:Nat} {T:TypeId},w.heap[k]?=some (.cells x T (0,0))->T≠164->T≠5->¬(k=c\/some k=tv.ownBlock):=by
  intro x k T hk t1 t2 hh
  rcases hh with hh|hh
  ·exact gm hk h1 t1 hh
  ·exact ay h2 hk t2 hh.symm
 have hlen:(text++t.data.toList).length=text.length+t.size:=by rw [zq];rfl
 refine ⟨rfl,a4.blk H.hg (hne H.hg (by decide) (by decide)),⟨v',a1,by rw [hlen,t7];exact a2,?_⟩,⟨gv,a4.blk k1 (hne k1 (by decide) (by decide)),a4.row k2 ?_,k3⟩,a4.blk H.hh (hne H.hh (by decide) (by decide)),H.kp.step a4 ?_,H.lc,H.ld⟩
 ·intro k hk
  rcases a3 with a3|a3
  ·exact h3 k (by rw [<-a3];exact hk)
  ·rw [a3] at hk;injection hk with hk;subst hk
   exact .inr H.kp.size
 ·intro k hk hS
  rcases hS with hS|hS
  ·subst hS;exact ay k2 h1 (by decide) hk
  ·rcases k2.2 with ⟨rfl,_⟩|⟨b,cap,cur,rfl,_,hb,_⟩
   ·cases hk
   ·simp only [Value.ownBlock,zL] at hk;subst hk;exact ay h2 hb (by decide) hS.symm
 ·intro j hj hS
  rcases hS with hS|hS
  ·have:=H.lc;omega
  ·rcases h3 j hS.symm with h|h
   ·exact h
   ·omega
structure St6 where
 fresh:Bool
 col:Nat
 wait:Nat
 out:List UInt8
structure SK (own:Nat->Nat) (i:Nat) (w:World) (g:Nat) (s:St6):Prop where
 lab:own g=i
 ex:∃tv gv text gs,w.heap[g]?=some (.cells (sk (!s.fresh) s.col s.wait tv gv) 167 (0,0))/\(w.ownsRow 0 5 1 tv text.length (bc text)/\∀k,tv.ownBlock=some k->own k=i)/\(w.ownsRow 0 175 2 gv gs.length (aN eg gs)/\∀k,gv.ownBlock=some k->own k=i)/\Ups 0 gs text.length/\s.out=bM 0 gs text/\(gs.length<=bI gs/\∀x∈gs,x.1<text.length)
theorem na {own own':Nat->Nat}{e sz n:Nat}{v:Value}{xs:List Value}(hf:Fr j own own' w w') (hij:i≠j) (h:w.ownsRow 0 e sz v n xs/\∀k,v.ownBlock=some k->own k=i):w'.ownsRow 0 e sz v n xs/\∀k,v.ownBlock=some k->own' k=i:=by
 obtain ⟨h1,h2⟩:=h;refine ⟨⟨h1.1,?_⟩,fun k hk=>?_⟩
 ·rcases h1.2 with h3|⟨g,cap,cur,rfl,h4,h5,h6⟩
  ·exact .inl h3
  ·exact .inr ⟨g,cap,cur,rfl,h4,(hf.block g (ah h5) (by rw [h2 g rfl];exact hij)).trans h5,h6⟩
 ·rw [hf.old k (h1.lt k hk).2];exact h2 k hk
theorem SK.kept {own own':Nat->Nat}{s:St6}(h:SK own i w g s) (hf:Fr j own own' w w') (hij:i≠j):SK own' i w' g s:=by
 obtain ⟨tv,gv,text,gs,h1,h2,h3,h4⟩:=h.ex;exact ⟨(hf.old g (ah h1)).trans h.lab,tv,gv,text,gs,(hf.block g (ah h1) (by rw [h.lab];exact hij)).trans h1,na hf hij h2,na hf hij h3,h4⟩
theorem SK.below {own:Nat->Nat}{s:St6}(h:SK own i w g s) (hb:Below w.heap.size w w'):SK own i w' g s:=
 h.kept (Fr.of_below (i:=i+1) hb) (by omega)
theorem SK.len {own:Nat->Nat}{s:St6}(h:SK own i w g s):g<w.heap.size:=by
 obtain ⟨tv,gv,text,gs,h1,_⟩:=h.ex;exact ah h1
def Af (own:Nat->Nat) (i:Nat) (w w':World) (g:Nat) (s:St6):Prop:=∃own',Nf own' w'/\Fr i own own' w w'/\SK own' i w' g s
theorem Af.here {own:Nat->Nat}{s:St6}(h:SK own i w g s) (hn:Nf own w) (hb:Below w.heap.size w w'):Af own i w w' g s:=
 ⟨own,hn.below hb.size,Fr.of_below hb,h.below hb⟩
theorem Ga.fin {own:Nat->Nat}{text:List UInt8}{gs:List (Nat × Nat)}(H:Ga own i w0 g c d h sv w text gs) (hn:Nf own w0) (hlab:own g=i) (hg0:g<w0.heap.size)
  (tv gv:Value) (h1:w.ownsRow 0 5 1 tv text.length (bc text)) (h2:∀k,tv.ownBlock=some k->own k=i\/w0.heap.size<=k) (k1:w.ownsRow 0 175 2 gv gs.length (aN eg gs)) (k2:∀k,gv.ownBlock=some k->own k=i\/w0.heap.size<=k)
  (s:St6) (hgw:w'.heap[g]?=some (.cells (sk (!s.fresh) s.col s.wait tv gv) 167 (0,0))) (hk:Kp (fun k=>k=g) w w') (hu:Ups 0 gs text.length) (ho:s.out=bM 0 gs text) (hgs:gs.length<=bI gs/\∀x∈gs,x.1<text.length):Af own i w0 w' g s:=by
 have hs:=H.kp.size;have hs':=hk.size;have rw1:=ay h1 H.hg (by decide);have rw2:=ay k1 H.hg (by decide);have lt1:=fun k hk=>(h1.lt k hk).2
 have lt2:=fun k hk=>(k1.lt k hk).2
 refine ⟨fun k=>if k<w0.heap.size then own k else if tv.ownBlock=some k\/gv.ownBlock=some k then i else 0,?_,?_,?_,tv,gv,text,gs,hgw,⟨hk.row h1 (fun k e1 e2=>rw1 (by rw [e1,e2])),?_⟩,⟨hk.row k1 (fun k e1 e2=>rw2 (by rw [e1,e2])),?_⟩,hu,ho,hgs⟩
 ·intro k hkk;show (if k<w0.heap.size then own k else if tv.ownBlock=some k\/gv.ownBlock=some k then i else 0)=0;rw [zu (by omega),zu];rintro (e|e)
  ·have:=lt1 k e;omega
  ·have:=lt2 k e;omega
 ·refine (H.kp.step hk (fun j _ e=>by subst e;exact hlab)).fr (fun k _ e=>e) (fun k hkk=>zw hkk)
 ·show (if g<w0.heap.size then own g else _)=i
  rw [zw hg0];exact hlab
 ·intro k e;show (if k<w0.heap.size then own k else if tv.ownBlock=some k\/gv.ownBlock=some k then i else 0)=i
  by_cases hkk:k<w0.heap.size
  ·rw [zw hkk]
   rcases h2 k e with h|h
   ·exact h
   ·omega
  ·rw [zu hkk,zw (.inl e)]
 ·intro k e;show (if k<w0.heap.size then own k else if tv.ownBlock=some k\/gv.ownBlock=some k then i else 0)=i
  by_cases hkk:k<w0.heap.size
  ·rw [zw hkk]
   rcases k2 k e with h|h
   ·exact h
   ·omega
  ·rw [zu hkk,zw (.inr e)]
def St6.feed (s:St6) (c:Nat):St6:=⟨true,c,0,s.out++[10]⟩
theorem sU {own:Nat->Nat}{b:Bool}{col wait:Int}{tv0 gv0:Value}{text:List UInt8}{gs:List (Nat × Nat)}(H:Ga own i w0 g c d h (sk b col wait tv0 gv0) w text gs) (htv0:∃p n cap,tv0=.slice p n cap) (hgv0:∃p n cap,gv0=.slice p n cap) (hn:Nf own w0) (hlab:own g=i) (hg0:g<w0.heap.size)
  (u:FrameMode) (s:St6) (hu:Ups 0 gs text.length) (ho:s.out=bM 0 gs text) (hgs:gs.length<=bI gs/\∀x∈gs,x.1<text.length) :
  CallsD Tryz.prog 199 #[.agg #[.bool (!s.fresh),.int .i64 s.col,.int .i64 s.wait],.pointer (some ⟨c,0,none⟩),.pointer (some ⟨d,0,none⟩),.pointer (some ⟨h,0,none⟩)] u w fun e u' w'=>u'=u/\(e=.returned (.tuple #[])/\Af own i w0 w' g s):=by
 obtain ⟨tv,h1,h2,h3⟩:=H.hc;obtain ⟨gv,k1,k2,k3⟩:=H.hd;obtain ⟨p1,c1,e1,_,_⟩:=av h2;obtain ⟨p2,c2,e2,_,_⟩:=av k2;refine (yc u b (!s.fresh) col wait s.col s.wait c d h g tv0 gv0 tv gv w H.hg h1 k1 H.hh htv0 hgv0 ⟨_,_,_,e1⟩ ⟨_,_,_,e2⟩).mono ?_;rintro e u' w' ⟨rfl,rfl,a1,a2⟩;exact ⟨rfl,rfl,H.fin hn hlab hg0 tv gv h2 h3 k2 k3 s a1 a2 hu ho hgs⟩
theorem lK {own:Nat->Nat}{tv gv:Value}{text:List UInt8}{gs:List (Nat × Nat)}(hg:w.heap[g]?=some (.cells sv 167 (0,0))) (h1:w.ownsRow 0 5 1 tv text.length (bc text)/\∀k,tv.ownBlock=some k->own k=i) (h2:w.ownsRow 0 175 2 gv gs.length (aN eg gs)/\∀k,gv.ownBlock=some k->own k=i)
  (hB:(w'.heap[c]?=some (.cells #[tv] 164 (0,0))/\w'.heap[d]?=some (.cells #[gv] 165 (0,0))/\w'.heap[h]?=some (.cells #[.pointer (some ⟨g,0,none⟩)] 111 (0,0))/\w.heap.size<=c/\w.heap.size<=d/\w.heap.size<=h)/\Below w.heap.size w w'):Ga own i w g c d h sv w' text gs:=by
 obtain ⟨⟨b1,b2,b3,b4,b5,_⟩,hb⟩:=hB;exact ⟨ab hg hb,⟨tv,b1,aE h1.1 hb,fun k hk=>.inl (h1.2 k hk)⟩,⟨gv,b2,aE h2.1 hb,fun k hk=>.inl (h2.2 k hk)⟩,b3,Kp.of_below hb,b4,b5⟩
theorem fH (own:Nat->Nat) (i g:Nat) (s:St6) (c:Nat) (w:World) (h:SK own i w g s) (hn:Nf own w) (hb:s.out.length<=1073741824) :
  Aa 162 #[.pointer (some ⟨g,0,none⟩),.int .i64 c] w fun e w'=>e=.returned (.tuple #[])/\Af own i w w' g (s.feed c):=by
 have hlt:=h.len;have hlab:=h.lab;obtain ⟨tv,gv,text,gs,h1,h2,h3,h4,h5,h6⟩:=h.ex;obtain ⟨p1,c1,e1,_,_⟩:=av h2.1;obtain ⟨p2,c2,e2,_,_⟩:=av h3.1;have hwl:=fX h4;rw [<-h5] at hwl;have h61:=h6.1;have HG:=iS g (!s.fresh) s.col s.wait tv gv w h1 ⟨_,_,_,e1⟩ ⟨_,_,_,e2⟩;have HS:Hid (∀(w':World) (c d h:Nat),((w'.heap[c]?=some (.cells #[tv] 164 (0,0))/\w'.heap[d]?=some (.cells #[gv] 165 (0,0))/\w'.heap[h]?=some (.cells #[.pointer (some ⟨g,0,none⟩)] 111 (0,0))/\w.heap.size<=c/\w.heap.size<=d/\w.heap.size<=h)/\Ab w w')->Ga own i w g c d h (sk (!s.fresh) s.col s.wait tv gv) w' text gs):=fun w' c d h hB=>lK h1 h2 h3 hB
 have HE:Hid (∀(w':World) (cb d h:Nat) (u:FrameMode),Ga own i w g cb d h (sk (!s.fresh) s.col s.wait tv gv) w' (text++[10]) gs->CallsD Tryz.prog 199 #[.agg #[.bool false,.int .i64 c,.int .i64 0],.pointer (some ⟨cb,0,none⟩),.pointer (some ⟨d,0,none⟩),.pointer (some ⟨h,0,none⟩)] u w' fun e u' w'=>u'=u/\(e=.returned (.tuple #[])/\Af own i w w' g (s.feed c))):=fun w' cb d h u H=>
  sU H ⟨_,_,_,e1⟩ ⟨_,_,_,e2⟩ hn hlab hlt u (s.feed c) (h4.more (by simp)) (by show s.out++[10]=_;rw [h5,jm [10] h4]) ⟨h6.1,fun x hx=>by have:=h6.2 x hx;simp;omega⟩
 have HGH:Hid (Aa 157 #[.pointer (some ⟨g,0,none⟩)] w fun e w'=>∃c d h,e=.returned (.tuple #[.func (.func 197) #[] #[.pointer (some ⟨d,0,none⟩),.pointer (some ⟨c,0,none⟩)],.func (.func 198) #[] #[.pointer (some ⟨c,0,none⟩)],.func (.func 199) #[] #[.pointer (some ⟨c,0,none⟩),.pointer (some ⟨d,0,none⟩),.pointer (some ⟨h,0,none⟩)]])/\Ga own i w g c d h (sk (!s.fresh) s.col s.wait tv gv) w' text gs):=by
  refine HG.mono ?_;rintro e w' ⟨c,d,h,rfl,hB⟩;exact ⟨c,d,h,rfl,HS.out _ _ _ _ hB⟩
 have HL:Hid (text.length+1<=70368744177664):=by show _<=_;omega
 clear HG HS hn hlab hlt h h1 h2 h3 h4 h5 h6 h61 hwl e1 e2 hb
 go_enter_defers Tryz.func162,Tryz.ntmps162
 go_wp2_with (go_at_call 157;refine HGH.out.mono ?_;rintro e w1 ⟨cb,d,h,rfl,H⟩)
 have HH:Hid (Ga own i w g cb d h (sk (!s.fresh) s.col s.wait tv gv) w1 text gs):=H;clear H;refine (HH.out.text ⟨#[10]⟩ HL.out).mono ?_;rintro e w2 ⟨rfl,H2⟩;have HD:Hid (Ga own i w g cb d h (sk (!s.fresh) s.col s.wait tv gv) w2 (text++[10]) gs):=H2;clear HH H2
 go_wp2_with fail
 refine BV (f:=199) (args:=#[.agg #[.bool false,.int .i64 c,.int .i64 0],.pointer (some ⟨cb,0,none⟩),.pointer (some ⟨d,0,none⟩),.pointer (some ⟨h,0,none⟩)]) (by simp) (by simp [go_sem]) ?_;refine (HE.out _ _ _ _ .returning HD.out).mono ?_;rintro e u' w'' ⟨rfl,rfl,hA⟩;exact ⟨_,results_none rfl _ _ _,rfl,hA⟩
def St6.text (s:St6) (t:ByteArray):St6:=if t.size=0 then s else ⟨false,(gP s.col s.wait t).toNat,0,s.out++((if s.fresh then List.replicate s.col 32 else [])++(List.replicate s.wait 32++t.data.toList))⟩
theorem vl {t:ByteArray}(h:t.size≠0):t.toList.isEmpty=false:=by
 rw [Ca];cases hd:t.data.toList with
 |nil=>exfalso;apply h;show t.data.size=0;rw [<-AC,hd];rfl
 |cons a r=>rfl
theorem oo (col wait:Nat) (t:ByteArray):0<=gP col wait t/\gP col wait t<=col+wait+2*t.size:=by
 have h1:=jn t;have h2:=jn (aft t);have h3:=mh t;unfold gP
 split <;> omega
theorem oW (g:Nat) (t:ByteArray) (w:World) (ht:t.size=0):Aa 104 #[.pointer (some ⟨g,0,none⟩),.string t] w fun e w'=>e=.returned (.int .i64 0)/\w'=w:=by
 obtain rfl:t=⟨#[]⟩:=by
  have:t=ByteArray.empty:=ByteArray.size_eq_zero_iff.1 ht;exact this
 go_enter_defers Tryz.func104,Tryz.ntmps104
 go_wp2_with fail
 exact ⟨_,C5 rfl _ _ _,rfl,rfl⟩
theorem oV (own:Nat->Nat) (i g:Nat) (s:St6) (t:ByteArray) (w:World) (h:SK own i w g s) (hn:Nf own w) (hT:Tab w) (ht:t.size≠0) (hb:s.out.length+s.col+s.wait+t.size<=1073741824) :
  Aa 104 #[.pointer (some ⟨g,0,none⟩),.string t] w fun e w'=>e=.returned (.int .i64 0)/\Af own i w w' g (s.text t):=by
 have hlt:=h.len;have hlab:=h.lab;obtain ⟨tv,gv,text,gs,h1,h2,h3,h4,h5,h6⟩:=h.ex;obtain ⟨p1,c1,e1,_,_⟩:=av h2.1;obtain ⟨p2,c2,e2,_,_⟩:=av h3.1;have hwl:=fX h4;rw [<-h5] at hwl;obtain ⟨fr,col,wait,out⟩:=s;simp only at *
 have HGH:Hid (Aa 157 #[.pointer (some ⟨g,0,none⟩)] w fun e w'=>∃c d h,e=.returned (.tuple #[.func (.func 197) #[] #[.pointer (some ⟨d,0,none⟩),.pointer (some ⟨c,0,none⟩)],.func (.func 198) #[] #[.pointer (some ⟨c,0,none⟩)],.func (.func 199) #[] #[.pointer (some ⟨c,0,none⟩),.pointer (some ⟨d,0,none⟩),.pointer (some ⟨h,0,none⟩)]])/\Hid (Ga own i w g c d h (sk (!fr) col wait tv gv) w' text gs/\Tab w')/\w'.cell? ⟨g,0,none⟩=some (.bool (!fr))/\w'.cell? ⟨g,1,none⟩=some (.int .i64 col)/\w'.cell? ⟨g,2,none⟩=some (.int .i64 wait)):=by
  refine (iS g (!fr) col wait tv gv w h1 ⟨_,_,_,e1⟩ ⟨_,_,_,e2⟩).mono ?_;rintro e w' ⟨c,d,h,rfl,hB⟩;have hG:Ga own i w g c d h (sk (!fr) col wait tv gv) w' text gs:=lK h1 h2 h3 hB;exact ⟨c,d,h,rfl,⟨hG,hT.below hB.2⟩,aa hG.hg rfl,aa hG.hg rfl,aa hG.hg rfl⟩
 have hnb:=oo col wait t;obtain ⟨nc,hnc⟩:∃nc:Nat,gP col wait t=nc:=⟨(gP col wait t).toNat,by omega⟩
 have HBH:Hid (∀V,Tab V->Aa 158 #[.agg #[.bool (!fr),.int .i64 col,.int .i64 wait],.string t] V fun e w'=>e=.returned (.agg #[.bool true,.int .i64 nc,.int .i64 0])/\Ab V w'):=by
  intro V hV;have:=nD (!fr) col wait t V hV (by omega) (by omega) (by omega) (by omega) (by omega);rw [hnc] at this;exact this
 have HE:Hid (∀(w':World) (cb d h:Nat) (u:FrameMode),Ga own i w g cb d h (sk (!fr) col wait tv gv) w' (text++t.data.toList) (cH (cH gs text.length (if fr then col else 0)) text.length wait)->CallsD Tryz.prog 199 #[.agg #[.bool true,.int .i64 nc,.int .i64 0],.pointer (some ⟨cb,0,none⟩),.pointer (some ⟨d,0,none⟩),.pointer (some ⟨h,0,none⟩)] u w' fun e u' w'=>u'=u/\(e=.returned (.tuple #[])/\Af own i w w' g (St6.text ⟨fr,col,wait,out⟩ t))):=by
  intro w' cb d h u H
  have hst:St6.text ⟨fr,col,wait,out⟩ t=⟨false,nc,0,out++((if fr then List.replicate col 32 else [])++(List.replicate wait 32++t.data.toList))⟩:=by
   unfold St6.text;rw [zu ht];simp only [hnc];rfl
  rw [hst]
  have hlt2:text.length<(text++t.data.toList).length:=by
   have:t.data.toList.length=t.size:=by rw [AC];rfl
   rw [zq,this];omega
  have hu2:Ups 0 (cH (cH gs text.length (if fr then col else 0)) text.length wait) text.length:=il wait (il _ h4);refine sU H ⟨_,_,_,e1⟩ ⟨_,_,_,e2⟩ hn hlab hlt u ⟨false,nc,0,_⟩ (hu2.more (by simp)) ?_ ⟨iP _ _ _ (iP _ _ _ h6.1),oq _ _ _ _ (oq _ _ _ _ (fun x hx=>by have:=h6.2 x hx;simp;omega) hlt2) hlt2⟩;show out++_=_;rw [jm _ hu2,ij _ (il _ h4),ij _ h4,<-h5];cases fr
  ·simp
  ·simp only [if_true,zJ]
 have HL:Hid (gs.length<=1073741824/\(cH gs text.length (if fr then col else 0)).length<=1073741824/\text.length+t.size<=70368744177664/\col<=1073741824/\wait<=1073741824/\text.length<=1073741824):=by
  have:=iP gs text.length (if fr then col else 0) h6.1;rw [jr] at this;have h61:=h6.1;refine ⟨by omega,?_,by omega,by omega,by omega,by omega⟩;cases fr <;> simp at this ⊢ <;> omega
 have hte:t.toList.isEmpty=false:=vl ht;clear hn hlab hlt h h1 h2 h3 h4 h5 h6 hwl e1 e2 hb hT ht hnb hnc;cases fr
 ·go_enter_defers Tryz.func104,Tryz.ntmps104
  go_wp2_with (go_at_call 157;refine HGH.out.mono ?_;rintro e w1 ⟨cb,d,h,rfl,HG,g0,g1,g2⟩)
  refine (HBH.out w1 HG.out.2).mono ?_;rintro e w2 ⟨rfl,hb2⟩;have HG2:Hid (Ga own i w g cb d h (sk true col wait tv gv) w2 text gs):=HG.out.1.below hb2;have g0':w2.cell? ⟨g,0,none⟩=some (.bool true):=aa HG2.out.hg rfl;have g2':w2.cell? ⟨g,2,none⟩=some (.int .i64 wait):=aa HG2.out.hg rfl;clear HG g0 g1 g2 hb2
  go_wp2_with fail
  refine (HG2.out.blanks wait HL.out.1 (by have:=HL.out;omega) (by have:=HL.out;omega)).mono ?_;rintro e w3 ⟨rfl,H3⟩;have HG3:Hid (Ga own i w g cb d h (sk true col wait tv gv) w3 text (cH gs text.length wait)):=H3;clear HG2 H3 g0' g2'
  go_wp2_with fail
  refine (HG3.out.text t HL.out.2.2.1).mono ?_;rintro e w4 ⟨rfl,H4⟩;have HG4:Hid (Ga own i w g cb d h (sk true col wait tv gv) w4 (text++t.data.toList) (cH gs text.length wait)):=H4;clear HG3 H4
  go_wp2_with fail
  refine BV (f:=199) (args:=#[.agg #[.bool true,.int .i64 nc,.int .i64 0],.pointer (some ⟨cb,0,none⟩),.pointer (some ⟨d,0,none⟩),.pointer (some ⟨h,0,none⟩)]) (by simp) (by simp [go_sem]) ?_;refine (HE.out _ _ _ _ .returning HG4.out).mono ?_;rintro e u' w'' ⟨rfl,rfl,hA⟩;exact ⟨_,C5 rfl _ _ _,rfl,hA⟩
 ·go_enter_defers Tryz.func104,Tryz.ntmps104
  go_wp2_with (go_at_call 157;refine HGH.out.mono ?_;rintro e w1 ⟨cb,d,h,rfl,HG,g0,g1,g2⟩)
  refine (HBH.out w1 HG.out.2).mono ?_;rintro e w2 ⟨rfl,hb2⟩;have HG2:Hid (Ga own i w g cb d h (sk false col wait tv gv) w2 text gs):=HG.out.1.below hb2;have g0':w2.cell? ⟨g,0,none⟩=some (.bool false):=aa HG2.out.hg rfl;have g1':w2.cell? ⟨g,1,none⟩=some (.int .i64 col):=aa HG2.out.hg rfl;clear HG g0 g1 g2 hb2
  go_wp2_with fail
  refine (HG2.out.blanks col HL.out.1 (by have:=HL.out;omega) (by have:=HL.out;omega)).mono ?_;rintro e w3 ⟨rfl,H3⟩;have HG3:Hid (Ga own i w g cb d h (sk false col wait tv gv) w3 text (cH gs text.length col)):=H3;have g2':w3.cell? ⟨g,2,none⟩=some (.int .i64 wait):=aa HG3.out.hg rfl;clear HG2 H3 g0' g1'
  go_wp2_with fail
  refine (HG3.out.blanks wait HL.out.2.1 (by have:=HL.out;omega) (by have:=HL.out;omega)).mono ?_;rintro e w5 ⟨rfl,H5⟩;have HG5:Hid (Ga own i w g cb d h (sk false col wait tv gv) w5 text (cH (cH gs text.length col) text.length wait)):=H5;clear HG3 H5 g2'
  go_wp2_with fail
  refine (HG5.out.text t HL.out.2.2.1).mono ?_;rintro e w4 ⟨rfl,H4⟩;have HG4:Hid (Ga own i w g cb d h (sk false col wait tv gv) w4 (text++t.data.toList) (cH (cH gs text.length col) text.length wait)):=H4;clear HG5 H4
  go_wp2_with fail
  refine BV (f:=199) (args:=#[.agg #[.bool true,.int .i64 nc,.int .i64 0],.pointer (some ⟨cb,0,none⟩),.pointer (some ⟨d,0,none⟩),.pointer (some ⟨h,0,none⟩)]) (by simp) (by simp [go_sem]) ?_;refine (HE.out _ _ _ _ .returning HG4.out).mono ?_;rintro e u' w'' ⟨rfl,rfl,hA⟩;exact ⟨_,C5 rfl _ _ _,rfl,hA⟩
theorem qW (own:Nat->Nat) (i g:Nat) (s:St6) (t:ByteArray) (w:World) (h:SK own i w g s) (hn:Nf own w) (hT:Tab w) (hb:s.out.length+s.col+s.wait+t.size<=1073741824) :
  Aa 104 #[.pointer (some ⟨g,0,none⟩),.string t] w fun e w'=>e=.returned (.int .i64 0)/\Af own i w w' g (s.text t):=by
 by_cases ht:t.size=0
 ·refine (oW g t w ht).mono ?_;rintro e w' ⟨rfl,rfl⟩;have:s.text t=s:=zw ht;rw [this];exact ⟨rfl,Af.here h hn (gt _ _)⟩
 ·exact oV own i g s t w h hn hT ht hb
theorem td (own:Nat->Nat) (i g:Nat) (s:St6) (c:Nat) (w:World) (h:SK own i w g s) (hn:Nf own w) (hc:c<=1048576) (hb:s.out.length<=1073741824) :
  Aa 161 #[.pointer (some ⟨g,0,none⟩),.int .i64 c] w fun e w'=>e=.returned (.int .i64 0)/\Af own i w w' g (s.feed c):=by
 have q1:decide ((c:Int)<0)=false:=by simp
 have q2:decide (1048576<(c:Int))=false:=by simp;omega
 have q3:¬(1048576<(c:Int)):=by omega
 have q4:¬(1048576<c):=by omega
 have HN:=fH own i g s c w h hn hb;clear h hn hb
 go_enter Tryz.func161,Tryz.ntmps161
 go_wp2_with (go_at_call 162;refine HN.mono ?_;rintro e w1 ⟨rfl,hA⟩)
 go_ret
 exact ⟨rfl,hA⟩
def St6.empty (s:St6):St6:=if s.fresh then s.feed s.col else s
theorem qv (own:Nat->Nat) (i g:Nat) (s:St6) (w:World) (h:SK own i w g s) (hn:Nf own w) (hb:s.out.length<=1073741824) :
  Aa 108 #[.pointer (some ⟨g,0,none⟩)] w fun e w'=>e=.returned (.int .i64 0)/\Af own i w w' g s.empty:=by
 obtain ⟨tv,gv,text,gs,h1,_⟩:=h.ex;have HN:=fH own i g s s.col w h hn hb;obtain ⟨fr,col,wait,out⟩:=s;simp only at *;have g0:w.cell? ⟨g,0,none⟩=some (.bool (!fr)):=aa h1 rfl;have g1:w.cell? ⟨g,1,none⟩=some (.int .i64 col):=aa h1 rfl;cases fr
 ·have HE:Hid (Af own i w w g (St6.empty ⟨false,col,wait,out⟩)):=Af.here h hn (gt _ _);clear h hn hb h1 HN
  go_enter Tryz.func108,Tryz.ntmps108
  go_wp2_with fail
  go_ret
  exact ⟨rfl,HE.out⟩
 ·clear h hn hb h1
  go_enter Tryz.func108,Tryz.ntmps108
  go_wp2_with (go_at_call 162;refine HN.mono ?_;rintro e w1 ⟨rfl,hA⟩)
  go_ret
  exact ⟨rfl,hA⟩
end Go.Proofs.YtpdlohfdjiaegaaGreatDoor.Lw
