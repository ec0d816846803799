import Derived.Laws.AppendOwnNone
import Derived.Test.YtjiepkenkcgkhaaGreatDoorM10
set_option linter.unusedVariables false
set_option linter.unusedSimpArgs false
set_option maxHeartbeats 1000000
namespace Go.Proofs.YtjiepkenkcgkhaaGreatDoor.Lw
open Go.Proofs.YtjiepkenkcgkhaaGreatDoor.Lx
open Go.RowKit
open Go.Lib (strCells strCells_length)
variable {w w' w0:World}{i g c d h f j:Nat}{sv:Array Value}{gv:Value}
theorem wC (t:ByteArray):(tR t).size<=t.size:=by
 unfold tR;have:=KK t;rw [ByteArray.size_extract];omega
theorem ya (b:Bool) (col wait:Int) (t:ByteArray) (w:World) (hT:jF w) (ht:t.size<=8589934592) (h0:0<=col) (h1:col<=1152921504606846976) (h2:0<=wait) (h3:wait<=1152921504606846976) :
  Ra 85 #[.agg #[.bool b,.int .i64 col,.int .i64 wait],.string t] w fun e w'=>e=.returned (.agg #[.bool true,.int .i64 (mL col wait t),.int .i64 0])/\Below w.heap.size w w':=by
 have hbd:=KK t;have hbt:=qx t;have hba:=qx (tR t);have hsa:=wC t
 by_cases hl:lf t<0
 ·have q1:decide (0<=lf t)=false:=by simp;omega
  have q2:¬(0<=lf t):=by omega
  have HN:Hid (mL col wait t=col+wait+tw t):=IO hl;clear hba hsa;obtain ⟨y,hy⟩:∃y,tw t=y:=⟨_,rfl⟩;rw [hy] at HN hbt
  go_enter Tryz.func85,Tryz.ntmps85
  go_wp2_with (go_at_call 140;refine (vf t (by omega) _).mono ?_;rintro e w1 ⟨rfl,rfl⟩)
  obtain ⟨W,hW⟩:∃W,((w.alloc (.cells #[.bool b,.int .i64 col,.int .i64 wait] 104)).alloc (.cells #[.bool false,.int .i64 0,.int .i64 0] 104))=W:=⟨_,rfl⟩;have s1:(w.alloc (.cells #[.bool b,.int .i64 col,.int .i64 wait] 104)).heap.size=w.heap.size+1:=QL _ _;have hbW:Below w.heap.size w W:=by rw [<-hW];exact ((hH _ w).alloc (gt _) _).alloc (by omega) _
  have b1:W.heap[w.heap.size]?=some (.cells #[.bool b,.int .i64 col,.int .i64 wait] 104 (0,0)):=by rw [<-hW];exact gR _ _ _ _ (au _ _)
  have b2:W.heap[w.heap.size+1]?=some (.cells #[.bool false,.int .i64 0,.int .i64 0] 104 (0,0)):=by rw [<-hW,<-s1];exact au _ _
  obtain ⟨x,hx⟩:∃x,x=w.heap.size:=⟨_,rfl⟩;rw [<-hx] at b1 b2 hbW;have hTW:jF W:=hT.below (by rw [<-hx];exact hbW);simp only [hW,<-hx];have x1:W.cell? ⟨x,1,none⟩=some (.int .i64 col):=af b1 rfl;have x2:W.cell? ⟨x,2,none⟩=some (.int .i64 wait):=af b1 rfl;have HB:Hid (∀V,Below W.heap.size W V->V.cell? ⟨x,1,none⟩=some (.int .i64 col)/\V.cell? ⟨x,2,none⟩=some (.int .i64 wait)/\V.cell? ⟨x+1,0,none⟩=some (.bool false)/\V.cell? ⟨x+1,1,none⟩=some (.int .i64 0)/\V.cell? ⟨x+1,2,none⟩=some (.int .i64 0)/\V.frozen? ⟨x+1,0,none⟩=false/\V.frozen? ⟨x+1,1,none⟩=false/\V.frozen? ⟨x+1,2,none⟩=false):=fun V hV=>⟨af (ag b1 hV) rfl,af (ag b1 hV) rfl,af (ag b2 hV) rfl,af (ag b2 hV) rfl,af (ag b2 hV) rfl,am (ag b2 hV),am (ag b2 hV),am (ag b2 hV)⟩
  have HBW:Hid (Below x w W):=hbW;have HT:Hid (jF W):=hTW
  have HC:Hid (Ra 136 #[.string t] W.drew fun e V=>e=.returned (.int .i64 y)/\Hid (Below x w V/\V.heap[x+1]?=some (.cells #[.bool false,.int .i64 0,.int .i64 0] 104 (0,0)))/\V.cell? ⟨x,1,none⟩=some (.int .i64 col)/\V.cell? ⟨x,2,none⟩=some (.int .i64 wait)/\V.cell? ⟨x+1,0,none⟩=some (.bool false)/\V.cell? ⟨x+1,1,none⟩=some (.int .i64 0)/\V.cell? ⟨x+1,2,none⟩=some (.int .i64 0)/\V.frozen? ⟨x+1,0,none⟩=false/\V.frozen? ⟨x+1,1,none⟩=false/\V.frozen? ⟨x+1,2,none⟩=false):=by
   refine (lg t W.drew (hTW.below (Us (hH _ W))) ht).mono ?_;rintro e V ⟨rfl,hV⟩;have hV':Below W.heap.size W V:=⟨hV.os,hV.tape,hV.output,hV.size,hV.block⟩;exact ⟨by rw [hy],⟨hbW.trans (hV'.mono (by have:=hbW.size;omega)),ag b2 hV'⟩,HB.out V hV'⟩
  clear s1 b1 b2 hT hTW hbW hW q1 q2 hl hbd HB HT hy;have HX:Hid (x=w.heap.size):=hx;clear hx
  go_region_with (go_at_call 136;refine HC.out.mono ?_;rintro e w2 ⟨rfl,hb2,k1,k2,k3,k4,k5,k6,k7,k8⟩)
  all_goals
   have hz:IntKind.i64.wrap (IntKind.i64.wrap (col+wait)+y)=col+wait+y:=by rw [RA,RA];omega
   rw [hz];obtain ⟨V,hV⟩:∃V,V=((w2.setCell ⟨x+1,0,none⟩ (.bool true)).setCell ⟨x+1,1,none⟩ (.int .i64 (col+wait+y))).setCell ⟨x+1,2,none⟩ (.int .i64 0):=⟨_,rfl⟩;have hVb:V.heap[x+1]?=some (.cells #[.bool true,.int .i64 (col+wait+y),.int .i64 0] 104 (0,0)):=by rw [hV];exact aj (aj (aj hb2.out.2 0 _) 1 _) 2 _
   have hVB:Below x w V:=by rw [hV];exact (((hb2.out.1).setCell (p:=⟨x+1,0,none⟩) (by show x<=x+1;omega) _).setCell (p:=⟨x+1,1,none⟩) (by show x<=x+1;omega) _).setCell (p:=⟨x+1,2,none⟩) (by show x<=x+1;omega) _
   rw [<-hV];have m0:V.cell? ⟨x+1,0,none⟩=some (.bool true):=af hVb rfl;have m1:V.cell? ⟨x+1,1,none⟩=some (.int .i64 (col+wait+y)):=af hVb rfl;have m2:V.cell? ⟨x+1,2,none⟩=some (.int .i64 0):=af hVb rfl;have HF:Hid (Ending.returned (.agg #[.bool true,.int .i64 (col+wait+y),.int .i64 0])=.returned (.agg #[.bool true,.int .i64 (mL col wait t),.int .i64 0])/\Below w.heap.size w V):=⟨by rw [HN.out],by rw [<-HX.out];exact hVB⟩;clear hz hV hVb hVB k1 k2 k3 k4 k5 k6 k7 k8 hb2 HC HN
   go_wp2_with fail
   exact QV (v:=.agg #[.bool true,.int .i64 (col+wait+y),.int .i64 0]) (by simp [results,Tryz.f85,go_sem,m0,m1,m2]) rfl HF.out
 ·have q1:decide (0<=lf t)=true:=by simp;omega
  have q2:(0<=lf t):=by omega
  have HN:Hid (mL col wait t=tw (tR t)):=Eq hl;obtain ⟨k,hk⟩:∃k:Nat,lf t=k:=⟨(lf t).toNat,by omega⟩;have HA:Hid (tR t=t.extract (k+1) t.size):=by unfold tR;rw [hk];rfl
  obtain ⟨y,hy⟩:∃y,tw (tR t)=y:=⟨_,rfl⟩
  have HC:Hid (∀V,jF V->Ra 136 #[.string (t.extract (k+1) t.size)] V fun e V'=>e=.returned (.int .i64 y)/\Below V.heap.size V V'):=by
   intro V hV;rw [<-HA.out,<-hy];exact lg (tR t) V hV (by omega)
  rw [hy] at HN hba;have hk1:(k:Int)+1<=t.size:=by omega
  have hkn:k+1<=t.size:=by omega
  have HT:Hid (jF w):=hT
  have LC:Hid (∀V,Ra 140 #[.string t,.string ⟨#[10]⟩] V fun e w'=>e=.returned (.int .i64 k)/\w'=V):=by
   intro V;have:=vf t (by omega) V;rw [hk] at this;exact this
  clear hsa hbt q1 q2 hT hy HA hl hk hbd
  go_enter Tryz.func85,Tryz.ntmps85
  go_wp2_with (go_at_call 140;refine (LC.out _).mono ?_;rintro e w1 ⟨rfl,rfl⟩)
  obtain ⟨W,hW⟩:∃W,((w.alloc (.cells #[.bool b,.int .i64 col,.int .i64 wait] 104)).alloc (.cells #[.bool false,.int .i64 0,.int .i64 0] 104))=W:=⟨_,rfl⟩;have s1:(w.alloc (.cells #[.bool b,.int .i64 col,.int .i64 wait] 104)).heap.size=w.heap.size+1:=QL _ _;have hbW:Below w.heap.size w W:=by rw [<-hW];exact ((hH _ w).alloc (gt _) _).alloc (by omega) _
  have b2:W.heap[w.heap.size+1]?=some (.cells #[.bool false,.int .i64 0,.int .i64 0] 104 (0,0)):=by rw [<-hW,<-s1];exact au _ _
  refine (HC.out _ ?tab).mono ?_
  case tab=>rw [hW];exact HT.out.below hbW
  rintro e w2 ⟨rfl,hb2⟩;rw [hW] at hb2;have HB2:Hid (Below w.heap.size w w2):=hbW.trans (hb2.mono hbW.size);have k0:=ag b2 hb2;clear hb2 hbW b2 s1 hW;have HK:Hid (w2.heap[w.heap.size+1]?=some (.cells #[.bool false,.int .i64 0,.int .i64 0] 104 (0,0))):=k0;obtain ⟨x,HX⟩:∃x,Hid (x=w.heap.size):=⟨_,rfl⟩;rw [<-HX.out] at k0 HB2 HK ⊢;have k3:w2.cell? ⟨x+1,0,none⟩=some (.bool false):=af k0 rfl;have k4:w2.cell? ⟨x+1,1,none⟩=some (.int .i64 0):=af k0 rfl;have k5:w2.cell? ⟨x+1,2,none⟩=some (.int .i64 0):=af k0 rfl;have k6:w2.frozen? ⟨x+1,0,none⟩=false:=am k0;have k7:w2.frozen? ⟨x+1,1,none⟩=false:=am k0;have k8:w2.frozen? ⟨x+1,2,none⟩=false:=am k0;clear k0;obtain ⟨V,hV⟩:∃V,V=((w2.setCell ⟨x+1,0,none⟩ (.bool true)).setCell ⟨x+1,1,none⟩ (.int .i64 y)).setCell ⟨x+1,2,none⟩ (.int .i64 0):=⟨_,rfl⟩;have hVb:V.heap[x+1]?=some (.cells #[.bool true,.int .i64 y,.int .i64 0] 104 (0,0)):=by rw [hV];exact aj (aj (aj HK.out 0 _) 1 _) 2 _
  have hVB:Below x w V:=by rw [hV];exact (((HB2.out).setCell (p:=⟨x+1,0,none⟩) (by show x<=x+1;omega) _).setCell (p:=⟨x+1,1,none⟩) (by show x<=x+1;omega) _).setCell (p:=⟨x+1,2,none⟩) (by show x<=x+1;omega) _
  have m0:V.cell? ⟨x+1,0,none⟩=some (.bool true):=af hVb rfl;have m1:V.cell? ⟨x+1,1,none⟩=some (.int .i64 y):=af hVb rfl;have m2:V.cell? ⟨x+1,2,none⟩=some (.int .i64 0):=af hVb rfl;have HF:Hid (Ending.returned (.agg #[.bool true,.int .i64 y,.int .i64 0])=.returned (.agg #[.bool true,.int .i64 (mL col wait t),.int .i64 0])/\Below w.heap.size w V):=⟨by rw [HN.out],by rw [<-HX.out];exact hVB⟩;have HV:Hid (V=((w2.setCell ⟨x+1,0,none⟩ (.bool true)).setCell ⟨x+1,1,none⟩ (.int .i64 y)).setCell ⟨x+1,2,none⟩ (.int .i64 0)):=hV;clear hV hVb hVB HB2 HC HN
  go_wp2_with fail
  rw [<-HV.out];exact QV (v:=.agg #[.bool true,.int .i64 y,.int .i64 0]) (by simp [results,Tryz.f85,go_sem,m0,m1,m2]) rfl HF.out
def eJ (gs:List (Nat × Nat)) (l m:Nat):List (Nat × Nat):=if m=0 then gs else gs++[(l,m)]
theorem oe {gs:List (Nat × Nat)}{t:List UInt8}(m:Nat) (h:nW f gs t.length):cU f (eJ gs t.length m) t=cU f gs t++List.replicate m 32:=by
 unfold eJ
 by_cases hm:m=0
 ·rw [IO hm,hm];simp
 ·rw [Eq hm];exact Aw m h
theorem oh {gs:List (Nat × Nat)}{k:Nat}(m:Nat) (h:nW f gs k):nW f (eJ gs k m) k:=by
 unfold eJ
 split
 ·exact h
 ·exact h.snoc m
theorem qA (gs:List (Nat × Nat)) (l m:Nat):cO (eJ gs l m)=cO gs+m:=by
 unfold eJ
 split
 ·omega
 ·exact C6 _ _ _
theorem zq (gs:List (Nat × Nat)) (l m n:Nat) (h:∀x∈gs,x.1<n) (hl:l<n):∀x∈eJ gs l m,x.1<n:=by
 unfold eJ
 split
 ·exact h
 ·intro x hx
  rcases Q6.1 hx with hx|hx
  ·exact h x hx
  ·simp at hx;subst hx;exact hl
theorem pb (gs:List (Nat × Nat)) (l m:Nat) (h:gs.length<=cO gs):(eJ gs l m).length<=cO (eJ gs l m):=by
 rw [qA];unfold eJ
 split
 ·omega
 ·simp;omega
theorem OG (m d c:Nat) (v tv:Value) (l:Nat) (gs:List (Nat × Nat)) (w:World) (hc:w.heap[c]?=some (.cells #[tv] 105 (0,0))) (htv:∃p cap,tv=.slice p l cap) (hd:w.heap[d]?=some (.cells #[v] 106 (0,0))) (ho:w.ownsRow 0 118 2 v gs.length (bz eg gs)) (hn:gs.length<=8589934592) (hm2:m<=9223372036854775807) (hl:l<=9223372036854775807) :
  Ra 137 #[.int .i64 m,.pointer (some ⟨d,0,none⟩),.pointer (some ⟨c,0,none⟩)] w fun e w'=>e=.returned (.tuple #[])/\∃v',w'.heap[d]?=some (.cells #[v'] 106 (0,0))/\w'.ownsRow 0 118 2 v' (eJ gs l m).length (bz eg (eJ gs l m))/\(v'.ownBlock=v.ownBlock\/∃b,w.heap.size<=b/\v'.ownBlock=some b)/\Kp (fun k=>k=d\/some k=v.ownBlock) w w':=by
 unfold eJ
 by_cases hm:m=0
 ·subst hm;simp only [IO];refine (J3 0 d c w (Sn _)).mono ?_;rintro e w' ⟨rfl,rfl⟩;exact ⟨rfl,v,hd,ho,.inl rfl,Kp.refl _ _⟩
 ·simp only [Eq hm];refine (Ch m d c v tv gs.length l (bz eg gs) w hc htv hd ho hn (by omega) hm2 hl).mono ?_;rintro e w' ⟨rfl,v',h1,h2,h3,h4⟩;refine ⟨rfl,v',h1,?_,h3,h4⟩;rw [Or,cr]
  simpa [bz] using h2
structure Ga (own:Nat->Nat) (i:Nat) (w0:World) (g c d h:Nat) (sv:Array Value) (w:World) (text:List UInt8) (gs:List (Nat × Nat)):Prop where
 hg:w.heap[g]?=some (.cells sv 108 (0,0))
 hc:∃tv,w.heap[c]?=some (.cells #[tv] 105 (0,0))/\w.ownsRow 0 5 1 tv text.length (bc text)/\∀k,tv.ownBlock=some k->own k=i\/w0.heap.size<=k
 hd:∃gv,w.heap[d]?=some (.cells #[gv] 106 (0,0))/\w.ownsRow 0 118 2 gv gs.length (bz eg gs)/\∀k,gv.ownBlock=some k->own k=i\/w0.heap.size<=k
 hh:w.heap[h]?=some (.cells #[.pointer (some ⟨g,0,none⟩)] 62 (0,0))
 kp:Kp (fun k=>own k=i) w0 w
 lc:w0.heap.size<=c
 ld:w0.heap.size<=d
theorem lF {a b:Nat}{x y:Array Value}{s t:TypeId}{f e:Nat × Nat}(ha:w.heap[a]?=some (.cells x s f)) (hb:w.heap[b]?=some (.cells y t e)) (h:s≠t):a≠b:=by
 rintro rfl;rw [ha] at hb;injection hb with h1
 injection h1 with _ h2
 exact h h2
theorem Ga.below {own:Nat->Nat}{text:List UInt8}{gs:List (Nat × Nat)}(H:Ga own i w0 g c d h sv w text gs) (hb:Below w.heap.size w w'):Ga own i w0 g c d h sv w' text gs:=by
 obtain ⟨tv,h1,h2,h3⟩:=H.hc;obtain ⟨gv,k1,k2,k3⟩:=H.hd;exact ⟨ag H.hg hb,⟨tv,ag h1 hb,bp h2 hb,h3⟩,⟨gv,ag k1 hb,bp k2 hb,k3⟩,ag H.hh hb,H.kp.step (Kp.of_below (S:=fun k=>own k=i) hb) (fun _ _ h=>h),H.lc,H.ld⟩
theorem Ga.blanks {own:Nat->Nat}{text:List UInt8}{gs:List (Nat × Nat)}(H:Ga own i w0 g c d h sv w text gs) (m:Nat) (hn:gs.length<=8589934592) (hm:m<=9223372036854775807) (hl:text.length<=9223372036854775807) :
  Ra 137 #[.int .i64 m,.pointer (some ⟨d,0,none⟩),.pointer (some ⟨c,0,none⟩)] w fun e w'=>e=.returned (.tuple #[])/\Ga own i w0 g c d h sv w' text (eJ gs text.length m):=by
 obtain ⟨tv,h1,h2,h3⟩:=H.hc;obtain ⟨gv,k1,k2,k3⟩:=H.hd;obtain ⟨p,cap,hv,_,_⟩:=aJ h2;refine (OG m d c gv tv text.length gs w h1 ⟨p,cap,hv⟩ k1 k2 hn hm hl).mono ?_;rintro e w' ⟨rfl,v',a1,a2,a3,a4⟩
 have hne:∀{x:Array Value} {k:Nat} {T:TypeId},w.heap[k]?=some (.cells x T (0,0))->T≠106->T≠118->¬(k=d\/some k=gv.ownBlock):=by
  intro x k T hk t1 t2 hh
  rcases hh with hh|hh
  ·exact lF hk k1 t1 hh
  ·exact aM k2 hk t2 hh.symm
 refine ⟨rfl,a4.blk H.hg (hne H.hg (by decide) (by decide)),⟨tv,a4.blk h1 (hne h1 (by decide) (by decide)),a4.row h2 ?_,h3⟩,⟨v',a1,a2,?_⟩,a4.blk H.hh (hne H.hh (by decide) (by decide)),H.kp.step a4 ?_,H.lc,H.ld⟩
 ·intro k hk hS
  rcases hS with hS|hS
  ·subst hS;exact aM h2 k1 (by decide) hk
  ·rcases h2.2 with ⟨rfl,_⟩|⟨b,cap,cur,rfl,_,hb,_⟩
   ·cases hk
   ·simp only [Value.ownBlock,Rp] at hk;subst hk;exact aM k2 hb (by decide) hS.symm
 ·intro k hk
  rcases a3 with a3|⟨b,hb,a3⟩
  ·exact k3 k (by rw [<-a3];exact hk)
  ·rw [a3] at hk;injection hk with hk;subst hk
   exact .inr (QQ H.kp.size hb)
 ·intro j hj hS
  rcases hS with hS|hS
  ·have:=H.ld;omega
  ·rcases k3 j hS.symm with h|h
   ·exact h
   ·omega
theorem Ga.text {own:Nat->Nat}{i:Nat}{w0:World}{g c d h:Nat}{sv:Array Value}{w:World}{text:List UInt8}{gs:List (Nat × Nat)}(H:Ga own i w0 g c d h sv w text gs) (t:ByteArray) (hn:text.length+t.size<=70368744177664) :
  Ra 138 #[.string t,.pointer (some ⟨c,0,none⟩)] w fun e w'=>e=.returned (.tuple #[])/\Ga own i w0 g c d h sv w' (text++t.data.toList) gs:=by
 obtain ⟨tv,h1,h2,h3⟩:=H.hc;obtain ⟨gv,k1,k2,k3⟩:=H.hd;refine (J2 c tv text.length (bc text) t w h1 h2 hn).mono ?_;rintro e w' ⟨rfl,v',a1,a2,a3,a4⟩
 have hne:∀{x:Array Value} {k:Nat} {T:TypeId},w.heap[k]?=some (.cells x T (0,0))->T≠105->T≠5->¬(k=c\/some k=tv.ownBlock):=by
  intro x k T hk t1 t2 hh
  rcases hh with hh|hh
  ·exact lF hk h1 t1 hh
  ·exact aM h2 hk t2 hh.symm
 have hlen:(text++t.data.toList).length=text.length+t.size:=by rw [Or];rfl
 refine ⟨rfl,a4.blk H.hg (hne H.hg (by decide) (by decide)),⟨v',a1,by rw [hlen,Ge];exact a2,?_⟩,⟨gv,a4.blk k1 (hne k1 (by decide) (by decide)),a4.row k2 ?_,k3⟩,a4.blk H.hh (hne H.hh (by decide) (by decide)),H.kp.step a4 ?_,H.lc,H.ld⟩
 ·intro k hk
  rcases a3 with a3|a3
  ·exact h3 k (by rw [<-a3];exact hk)
  ·rw [a3] at hk;injection hk with hk;subst hk
   exact .inr H.kp.size
 ·intro k hk hS
  rcases hS with hS|hS
  ·subst hS;exact aM k2 h1 (by decide) hk
  ·rcases k2.2 with ⟨rfl,_⟩|⟨b,cap,cur,rfl,_,hb,_⟩
   ·cases hk
   ·simp only [Value.ownBlock,Rp] at hk;subst hk;exact aM h2 hb (by decide) hS.symm
 ·intro j hj hS
  rcases hS with hS|hS
  ·have:=H.lc;omega
  ·rcases h3 j hS.symm with h|h
   ·exact h
   ·omega
structure fx where
 fresh:Bool
 col:Nat
 wait:Nat
 out:List UInt8
structure SK (own:Nat->Nat) (i:Nat) (w:World) (g:Nat) (s:fx):Prop where
 lab:own g=i
 ex:∃tv gv text gs,w.heap[g]?=some (.cells (sk (!s.fresh) s.col s.wait tv gv) 108 (0,0))/\(w.ownsRow 0 5 1 tv text.length (bc text)/\∀k,tv.ownBlock=some k->own k=i)/\(w.ownsRow 0 118 2 gv gs.length (bz eg gs)/\∀k,gv.ownBlock=some k->own k=i)/\nW 0 gs text.length/\s.out=cU 0 gs text/\(gs.length<=cO gs/\∀x∈gs,x.1<text.length)
theorem xK {own own':Nat->Nat}{e sz n:Nat}{v:Value}{xs:List Value}(hf:Fr j own own' w w') (hij:i≠j) (h:w.ownsRow 0 e sz v n xs/\∀k,v.ownBlock=some k->own k=i):w'.ownsRow 0 e sz v n xs/\∀k,v.ownBlock=some k->own' k=i:=by
 obtain ⟨h1,h2⟩:=h;refine ⟨⟨h1.1,?_⟩,fun k hk=>?_⟩
 ·rcases h1.2 with h3|⟨g,cap,cur,rfl,h4,h5,h6⟩
  ·exact .inl h3
  ·exact .inr ⟨g,cap,cur,rfl,h4,(hf.block g (aq h5) (by rw [h2 g rfl];exact hij)).trans h5,h6⟩
 ·rw [hf.old k (h1.lt k hk).2];exact h2 k hk
theorem SK.kept {own own':Nat->Nat}{s:fx}(h:SK own i w g s) (hf:Fr j own own' w w') (hij:i≠j):SK own' i w' g s:=by
 obtain ⟨tv,gv,text,gs,h1,h2,h3,h4⟩:=h.ex;exact ⟨(hf.old g (aq h1)).trans h.lab,tv,gv,text,gs,(hf.block g (aq h1) (by rw [h.lab];exact hij)).trans h1,xK hf hij h2,xK hf hij h3,h4⟩
theorem SK.below {own:Nat->Nat}{s:fx}(h:SK own i w g s) (hb:Below w.heap.size w w'):SK own i w' g s:=
 h.kept (Fr.of_below (i:=i+1) hb) (by omega)
theorem SK.len {own:Nat->Nat}{s:fx}(h:SK own i w g s):g<w.heap.size:=by
 obtain ⟨tv,gv,text,gs,h1,_⟩:=h.ex;exact aq h1
def Af (own:Nat->Nat) (i:Nat) (w w':World) (g:Nat) (s:fx):Prop:=∃own',Nf own' w'/\Fr i own own' w w'/\SK own' i w' g s
theorem Af.here {own:Nat->Nat}{s:fx}(h:SK own i w g s) (hn:Nf own w) (hb:Below w.heap.size w w'):Af own i w w' g s:=
 ⟨own,hn.below hb.size,Fr.of_below hb,h.below hb⟩
theorem Ga.fin {own:Nat->Nat}{text:List UInt8}{gs:List (Nat × Nat)}(H:Ga own i w0 g c d h sv w text gs) (hn:Nf own w0) (hlab:own g=i) (hg0:g<w0.heap.size)
  (tv gv:Value) (h1:w.ownsRow 0 5 1 tv text.length (bc text)) (h2:∀k,tv.ownBlock=some k->own k=i\/w0.heap.size<=k) (k1:w.ownsRow 0 118 2 gv gs.length (bz eg gs)) (k2:∀k,gv.ownBlock=some k->own k=i\/w0.heap.size<=k)
  (s:fx) (hgw:w'.heap[g]?=some (.cells (sk (!s.fresh) s.col s.wait tv gv) 108 (0,0))) (hk:Kp (fun k=>k=g) w w') (hu:nW 0 gs text.length) (ho:s.out=cU 0 gs text) (hgs:gs.length<=cO gs/\∀x∈gs,x.1<text.length):Af own i w0 w' g s:=by
 have hs:=H.kp.size;have hs':=hk.size;have rw1:=aM h1 H.hg (by decide);have rw2:=aM k1 H.hg (by decide);have lt1:=fun k hk=>(h1.lt k hk).2
 have lt2:=fun k hk=>(k1.lt k hk).2
 refine ⟨fun k=>if k<w0.heap.size then own k else if tv.ownBlock=some k\/gv.ownBlock=some k then i else 0,?_,?_,?_,tv,gv,text,gs,hgw,⟨hk.row h1 (fun k e1 e2=>rw1 (by rw [e1,e2])),?_⟩,⟨hk.row k1 (fun k e1 e2=>rw2 (by rw [e1,e2])),?_⟩,hu,ho,hgs⟩
 ·intro k hkk;show (if k<w0.heap.size then own k else if tv.ownBlock=some k\/gv.ownBlock=some k then i else 0)=0;rw [Eq (by omega),Eq];rintro (e|e)
  ·have:=lt1 k e;omega
  ·have:=lt2 k e;omega
 ·refine (H.kp.step hk (fun j _ e=>by subst e;exact hlab)).fr (fun k _ e=>e) (fun k hkk=>IO hkk)
 ·show (if g<w0.heap.size then own g else _)=i
  rw [IO hg0];exact hlab
 ·intro k e;show (if k<w0.heap.size then own k else if tv.ownBlock=some k\/gv.ownBlock=some k then i else 0)=i
  by_cases hkk:k<w0.heap.size
  ·rw [IO hkk]
   rcases h2 k e with h|h
   ·exact h
   ·omega
  ·rw [Eq hkk,IO (.inl e)]
 ·intro k e;show (if k<w0.heap.size then own k else if tv.ownBlock=some k\/gv.ownBlock=some k then i else 0)=i
  by_cases hkk:k<w0.heap.size
  ·rw [IO hkk]
   rcases k2 k e with h|h
   ·exact h
   ·omega
  ·rw [Eq hkk,IO (.inr e)]
def fx.feed (s:fx) (c:Nat):fx:=⟨true,c,0,s.out++[10]⟩
theorem EU {own:Nat->Nat}{b:Bool}{col wait:Int}{aB gv0:Value}{text:List UInt8}{gs:List (Nat × Nat)}(H:Ga own i w0 g c d h (sk b col wait aB gv0) w text gs) (htv0:∃p n cap,aB=.slice p n cap) (hgv0:∃p n cap,gv0=.slice p n cap) (hn:Nf own w0) (hlab:own g=i) (hg0:g<w0.heap.size)
  (u:FrameMode) (s:fx) (hu:nW 0 gs text.length) (ho:s.out=cU 0 gs text) (hgs:gs.length<=cO gs/\∀x∈gs,x.1<text.length) :
  CallsD Tryz.prog 139 #[.agg #[.bool (!s.fresh),.int .i64 s.col,.int .i64 s.wait],.pointer (some ⟨c,0,none⟩),.pointer (some ⟨d,0,none⟩),.pointer (some ⟨h,0,none⟩)] u w fun e u' w'=>u'=u/\(e=.returned (.tuple #[])/\Af own i w0 w' g s):=by
 obtain ⟨tv,h1,h2,h3⟩:=H.hc;obtain ⟨gv,k1,k2,k3⟩:=H.hd;obtain ⟨p1,c1,e1,_,_⟩:=aJ h2;obtain ⟨p2,c2,e2,_,_⟩:=aJ k2;refine (M3 u b (!s.fresh) col wait s.col s.wait c d h g aB gv0 tv gv w H.hg h1 k1 H.hh htv0 hgv0 ⟨_,_,_,e1⟩ ⟨_,_,_,e2⟩).mono ?_;rintro e u' w' ⟨rfl,rfl,a1,a2⟩;exact ⟨rfl,rfl,H.fin hn hlab hg0 tv gv h2 h3 k2 k3 s a1 a2 hu ho hgs⟩
theorem vA {own:Nat->Nat}{tv:Value}{text:List UInt8}{gs:List (Nat × Nat)}(hg:w.heap[g]?=some (.cells sv 108 (0,0))) (h1:w.ownsRow 0 5 1 tv text.length (bc text)/\∀k,tv.ownBlock=some k->own k=i) (h2:w.ownsRow 0 118 2 gv gs.length (bz eg gs)/\∀k,gv.ownBlock=some k->own k=i)
  (hB:(w'.heap[c]?=some (.cells #[tv] 105 (0,0))/\w'.heap[d]?=some (.cells #[gv] 106 (0,0))/\w'.heap[h]?=some (.cells #[.pointer (some ⟨g,0,none⟩)] 62 (0,0))/\w.heap.size<=c/\w.heap.size<=d/\w.heap.size<=h)/\Below w.heap.size w w'):Ga own i w g c d h sv w' text gs:=by
 obtain ⟨⟨b1,b2,b3,b4,b5,_⟩,hb⟩:=hB;exact ⟨ag hg hb,⟨tv,b1,bp h1.1 hb,fun k hk=>.inl (h1.2 k hk)⟩,⟨gv,b2,bp h2.1 hb,fun k hk=>.inl (h2.2 k hk)⟩,b3,Kp.of_below hb,b4,b5⟩
theorem uW (own:Nat->Nat) (i g:Nat) (s:fx) (c:Nat) (w:World) (h:SK own i w g s) (hn:Nf own w) (hb:s.out.length<=8589934592) :
  Ra 89 #[.pointer (some ⟨g,0,none⟩),.int .i64 c] w fun e w'=>e=.returned (.tuple #[])/\Af own i w w' g (s.feed c):=by
 have hlt:=h.len;have hlab:=h.lab;obtain ⟨tv,gv,text,gs,h1,h2,h3,h4,h5,h6⟩:=h.ex;obtain ⟨p1,c1,e1,_,_⟩:=aJ h2.1;obtain ⟨p2,c2,e2,_,_⟩:=aJ h3.1;have hwl:=lh h4;rw [<-h5] at hwl;have h61:=h6.1;have HG:=pu g (!s.fresh) s.col s.wait tv gv w h1 ⟨_,_,_,e1⟩ ⟨_,_,_,e2⟩;have HS:Hid (∀(w':World) (c d h:Nat),((w'.heap[c]?=some (.cells #[tv] 105 (0,0))/\w'.heap[d]?=some (.cells #[gv] 106 (0,0))/\w'.heap[h]?=some (.cells #[.pointer (some ⟨g,0,none⟩)] 62 (0,0))/\w.heap.size<=c/\w.heap.size<=d/\w.heap.size<=h)/\Rc w w')->Ga own i w g c d h (sk (!s.fresh) s.col s.wait tv gv) w' text gs):=fun w' c d h hB=>vA h1 h2 h3 hB
 have HE:Hid (∀(w':World) (cb d h:Nat) (u:FrameMode),Ga own i w g cb d h (sk (!s.fresh) s.col s.wait tv gv) w' (text++[10]) gs->CallsD Tryz.prog 139 #[.agg #[.bool false,.int .i64 c,.int .i64 0],.pointer (some ⟨cb,0,none⟩),.pointer (some ⟨d,0,none⟩),.pointer (some ⟨h,0,none⟩)] u w' fun e u' w'=>u'=u/\(e=.returned (.tuple #[])/\Af own i w w' g (s.feed c))):=fun w' cb d h u H=>
  EU H ⟨_,_,_,e1⟩ ⟨_,_,_,e2⟩ hn hlab hlt u (s.feed c) (h4.more (by simp)) (by show s.out++[10]=_;rw [h5,qw [10] h4]) ⟨h6.1,fun x hx=>by have:=h6.2 x hx;simp;omega⟩
 have HGH:Hid (Ra 84 #[.pointer (some ⟨g,0,none⟩)] w fun e w'=>∃c d h,e=.returned (.tuple #[.func (.func 137) #[] #[.pointer (some ⟨d,0,none⟩),.pointer (some ⟨c,0,none⟩)],.func (.func 138) #[] #[.pointer (some ⟨c,0,none⟩)],.func (.func 139) #[] #[.pointer (some ⟨c,0,none⟩),.pointer (some ⟨d,0,none⟩),.pointer (some ⟨h,0,none⟩)]])/\Ga own i w g c d h (sk (!s.fresh) s.col s.wait tv gv) w' text gs):=by
  refine HG.mono ?_;rintro e w' ⟨c,d,h,rfl,hB⟩;exact ⟨c,d,h,rfl,HS.out _ _ _ _ hB⟩
 have HL:Hid (text.length+1<=70368744177664):=by show _<=_;omega
 clear HG HS hn hlab hlt h h1 h2 h3 h4 h5 h6 h61 hwl e1 e2 hb
 go_enter_defers Tryz.func89,Tryz.ntmps89
 go_wp2_with (go_at_call 84;refine HGH.out.mono ?_;rintro e w1 ⟨cb,d,h,rfl,H⟩)
 have HH:Hid (Ga own i w g cb d h (sk (!s.fresh) s.col s.wait tv gv) w1 text gs):=H;clear H;refine (HH.out.text ⟨#[10]⟩ HL.out).mono ?_;rintro e w2 ⟨rfl,H2⟩;have HD:Hid (Ga own i w g cb d h (sk (!s.fresh) s.col s.wait tv gv) w2 (text++[10]) gs):=H2;clear HH H2
 go_wp2_with fail
 refine TO (f:=139) (args:=#[.agg #[.bool false,.int .i64 c,.int .i64 0],.pointer (some ⟨cb,0,none⟩),.pointer (some ⟨d,0,none⟩),.pointer (some ⟨h,0,none⟩)]) (by simp) (by simp [go_sem]) ?_;refine (HE.out _ _ _ _ .returning HD.out).mono ?_;rintro e u' w'' ⟨rfl,rfl,hA⟩;exact ⟨_,results_none rfl _ _ _,rfl,hA⟩
def fx.text (s:fx) (t:ByteArray):fx:=if t.size=0 then s else ⟨false,(mL s.col s.wait t).toNat,0,s.out++((if s.fresh then List.replicate s.col 32 else [])++(List.replicate s.wait 32++t.data.toList))⟩
theorem IX {t:ByteArray}(h:t.size≠0):t.toList.isEmpty=false:=by
 rw [Tc];cases hd:t.data.toList with
 |nil=>exfalso;apply h;show t.data.size=0;rw [<-RG,hd];rfl
 |cons a r=>rfl
theorem zp (col wait:Nat) (t:ByteArray):0<=mL col wait t/\mL col wait t<=col+wait+2*t.size:=by
 have h1:=qx t;have h2:=qx (tR t);have h3:=wC t;unfold mL
 split <;> omega
theorem AA (g:Nat) (t:ByteArray) (w:World) (ht:t.size=0):Ra 36 #[.pointer (some ⟨g,0,none⟩),.string t] w fun e w'=>e=.returned (.int .i64 0)/\w'=w:=by
 obtain rfl:t=⟨#[]⟩:=by
  have:t=ByteArray.empty:=ByteArray.size_eq_zero_iff.1 ht;exact this
 go_enter_defers Tryz.func36,Tryz.ntmps36
 go_wp2_with fail
 exact ⟨_,UA rfl _ _ _,rfl,rfl⟩
theorem Az (own:Nat->Nat) (i g:Nat) (s:fx) (t:ByteArray) (w:World) (h:SK own i w g s) (hn:Nf own w) (hT:jF w) (ht:t.size≠0) (hb:s.out.length+s.col+s.wait+t.size<=8589934592) :
  Ra 36 #[.pointer (some ⟨g,0,none⟩),.string t] w fun e w'=>e=.returned (.int .i64 0)/\Af own i w w' g (s.text t):=by
 have hlt:=h.len;have hlab:=h.lab;obtain ⟨tv,gv,text,gs,h1,h2,h3,h4,h5,h6⟩:=h.ex;obtain ⟨p1,c1,e1,_,_⟩:=aJ h2.1;obtain ⟨p2,c2,e2,_,_⟩:=aJ h3.1;have hwl:=lh h4;rw [<-h5] at hwl;obtain ⟨fr,col,wait,out⟩:=s;simp only at *
 have HGH:Hid (Ra 84 #[.pointer (some ⟨g,0,none⟩)] w fun e w'=>∃c d h,e=.returned (.tuple #[.func (.func 137) #[] #[.pointer (some ⟨d,0,none⟩),.pointer (some ⟨c,0,none⟩)],.func (.func 138) #[] #[.pointer (some ⟨c,0,none⟩)],.func (.func 139) #[] #[.pointer (some ⟨c,0,none⟩),.pointer (some ⟨d,0,none⟩),.pointer (some ⟨h,0,none⟩)]])/\Hid (Ga own i w g c d h (sk (!fr) col wait tv gv) w' text gs/\jF w')/\w'.cell? ⟨g,0,none⟩=some (.bool (!fr))/\w'.cell? ⟨g,1,none⟩=some (.int .i64 col)/\w'.cell? ⟨g,2,none⟩=some (.int .i64 wait)):=by
  refine (pu g (!fr) col wait tv gv w h1 ⟨_,_,_,e1⟩ ⟨_,_,_,e2⟩).mono ?_;rintro e w' ⟨c,d,h,rfl,hB⟩;have hG:Ga own i w g c d h (sk (!fr) col wait tv gv) w' text gs:=vA h1 h2 h3 hB;exact ⟨c,d,h,rfl,⟨hG,hT.below hB.2⟩,af hG.hg rfl,af hG.hg rfl,af hG.hg rfl⟩
 have hnb:=zp col wait t;obtain ⟨nc,hnc⟩:∃nc:Nat,mL col wait t=nc:=⟨(mL col wait t).toNat,by omega⟩
 have HBH:Hid (∀V,jF V->Ra 85 #[.agg #[.bool (!fr),.int .i64 col,.int .i64 wait],.string t] V fun e w'=>e=.returned (.agg #[.bool true,.int .i64 nc,.int .i64 0])/\Rc V w'):=by
  intro V hV;have:=ya (!fr) col wait t V hV (by omega) (by omega) (by omega) (by omega) (by omega);rw [hnc] at this;exact this
 have HE:Hid (∀(w':World) (cb d h:Nat) (u:FrameMode),Ga own i w g cb d h (sk (!fr) col wait tv gv) w' (text++t.data.toList) (eJ (eJ gs text.length (if fr then col else 0)) text.length wait)->CallsD Tryz.prog 139 #[.agg #[.bool true,.int .i64 nc,.int .i64 0],.pointer (some ⟨cb,0,none⟩),.pointer (some ⟨d,0,none⟩),.pointer (some ⟨h,0,none⟩)] u w' fun e u' w'=>u'=u/\(e=.returned (.tuple #[])/\Af own i w w' g (fx.text ⟨fr,col,wait,out⟩ t))):=by
  intro w' cb d h u H
  have hst:fx.text ⟨fr,col,wait,out⟩ t=⟨false,nc,0,out++((if fr then List.replicate col 32 else [])++(List.replicate wait 32++t.data.toList))⟩:=by
   unfold fx.text;rw [Eq ht];simp only [hnc];rfl
  rw [hst]
  have hlt2:text.length<(text++t.data.toList).length:=by
   have:t.data.toList.length=t.size:=by rw [RG];rfl
   rw [Or,this];omega
  have hu2:nW 0 (eJ (eJ gs text.length (if fr then col else 0)) text.length wait) text.length:=oh wait (oh _ h4);refine EU H ⟨_,_,_,e1⟩ ⟨_,_,_,e2⟩ hn hlab hlt u ⟨false,nc,0,_⟩ (hu2.more (by simp)) ?_ ⟨pb _ _ _ (pb _ _ _ h6.1),zq _ _ _ _ (zq _ _ _ _ (fun x hx=>by have:=h6.2 x hx;simp;omega) hlt2) hlt2⟩;show out++_=_;rw [qw _ hu2,oe _ (oh _ h4),oe _ h4,<-h5];cases fr
  ·simp
  ·simp only [Td,QM]
 have HL:Hid (gs.length<=8589934592/\(eJ gs text.length (if fr then col else 0)).length<=8589934592/\text.length+t.size<=70368744177664/\col<=8589934592/\wait<=8589934592/\text.length<=8589934592):=by
  have:=pb gs text.length (if fr then col else 0) h6.1;rw [qA] at this;have h61:=h6.1;refine ⟨by omega,?_,by omega,by omega,by omega,by omega⟩;cases fr <;> simp at this ⊢ <;> omega
 have hte:t.toList.isEmpty=false:=IX ht;clear hn hlab hlt h h1 h2 h3 h4 h5 h6 hwl e1 e2 hb hT ht hnb hnc;cases fr
 ·go_enter_defers Tryz.func36,Tryz.ntmps36
  go_wp2_with (go_at_call 84;refine HGH.out.mono ?_;rintro e w1 ⟨cb,d,h,rfl,HG,g0,g1,g2⟩)
  refine (HBH.out w1 HG.out.2).mono ?_;rintro e w2 ⟨rfl,hb2⟩;have HG2:Hid (Ga own i w g cb d h (sk true col wait tv gv) w2 text gs):=HG.out.1.below hb2;have g0':w2.cell? ⟨g,0,none⟩=some (.bool true):=af HG2.out.hg rfl;have g2':w2.cell? ⟨g,2,none⟩=some (.int .i64 wait):=af HG2.out.hg rfl;clear HG g0 g1 g2 hb2
  go_wp2_with fail
  refine (HG2.out.blanks wait HL.out.1 (by have:=HL.out;omega) (by have:=HL.out;omega)).mono ?_;rintro e w3 ⟨rfl,H3⟩;have HG3:Hid (Ga own i w g cb d h (sk true col wait tv gv) w3 text (eJ gs text.length wait)):=H3;clear HG2 H3 g0' g2'
  go_wp2_with fail
  refine (HG3.out.text t HL.out.2.2.1).mono ?_;rintro e w4 ⟨rfl,H4⟩;have HG4:Hid (Ga own i w g cb d h (sk true col wait tv gv) w4 (text++t.data.toList) (eJ gs text.length wait)):=H4;clear HG3 H4
  go_wp2_with fail
  refine TO (f:=139) (args:=#[.agg #[.bool true,.int .i64 nc,.int .i64 0],.pointer (some ⟨cb,0,none⟩),.pointer (some ⟨d,0,none⟩),.pointer (some ⟨h,0,none⟩)]) (by simp) (by simp [go_sem]) ?_;refine (HE.out _ _ _ _ .returning HG4.out).mono ?_;rintro e u' w'' ⟨rfl,rfl,hA⟩;exact ⟨_,UA rfl _ _ _,rfl,hA⟩
 ·go_enter_defers Tryz.func36,Tryz.ntmps36
  go_wp2_with (go_at_call 84;refine HGH.out.mono ?_;rintro e w1 ⟨cb,d,h,rfl,HG,g0,g1,g2⟩)
  refine (HBH.out w1 HG.out.2).mono ?_;rintro e w2 ⟨rfl,hb2⟩;have HG2:Hid (Ga own i w g cb d h (sk false col wait tv gv) w2 text gs):=HG.out.1.below hb2;have g0':w2.cell? ⟨g,0,none⟩=some (.bool false):=af HG2.out.hg rfl;have g1':w2.cell? ⟨g,1,none⟩=some (.int .i64 col):=af HG2.out.hg rfl;clear HG g0 g1 g2 hb2
  go_wp2_with fail
  refine (HG2.out.blanks col HL.out.1 (by have:=HL.out;omega) (by have:=HL.out;omega)).mono ?_;rintro e w3 ⟨rfl,H3⟩;have HG3:Hid (Ga own i w g cb d h (sk false col wait tv gv) w3 text (eJ gs text.length col)):=H3;have g2':w3.cell? ⟨g,2,none⟩=some (.int .i64 wait):=af HG3.out.hg rfl;clear HG2 H3 g0' g1'
  go_wp2_with fail
  refine (HG3.out.blanks wait HL.out.2.1 (by have:=HL.out;omega) (by have:=HL.out;omega)).mono ?_;rintro e w5 ⟨rfl,H5⟩;have HG5:Hid (Ga own i w g cb d h (sk false col wait tv gv) w5 text (eJ (eJ gs text.length col) text.length wait)):=H5;clear HG3 H5 g2'
  go_wp2_with fail
  refine (HG5.out.text t HL.out.2.2.1).mono ?_;rintro e w4 ⟨rfl,H4⟩;have HG4:Hid (Ga own i w g cb d h (sk false col wait tv gv) w4 (text++t.data.toList) (eJ (eJ gs text.length col) text.length wait)):=H4;clear HG5 H4
  go_wp2_with fail
  refine TO (f:=139) (args:=#[.agg #[.bool true,.int .i64 nc,.int .i64 0],.pointer (some ⟨cb,0,none⟩),.pointer (some ⟨d,0,none⟩),.pointer (some ⟨h,0,none⟩)]) (by simp) (by simp [go_sem]) ?_;refine (HE.out _ _ _ _ .returning HG4.out).mono ?_;rintro e u' w'' ⟨rfl,rfl,hA⟩;exact ⟨_,UA rfl _ _ _,rfl,hA⟩
theorem CW (own:Nat->Nat) (i g:Nat) (s:fx) (t:ByteArray) (w:World) (h:SK own i w g s) (hn:Nf own w) (hT:jF w) (hb:s.out.length+s.col+s.wait+t.size<=8589934592) :
  Ra 36 #[.pointer (some ⟨g,0,none⟩),.string t] w fun e w'=>e=.returned (.int .i64 0)/\Af own i w w' g (s.text t):=by
 by_cases ht:t.size=0
 ·refine (AA g t w ht).mono ?_;rintro e w' ⟨rfl,rfl⟩;have:s.text t=s:=IO ht;rw [this];exact ⟨rfl,Af.here h hn (hH _ _)⟩
 ·exact Az own i g s t w h hn hT ht hb
theorem Fa (own:Nat->Nat) (i g:Nat) (s:fx) (c:Nat) (w:World) (h:SK own i w g s) (hn:Nf own w) (hc:c<=1048576) (hb:s.out.length<=8589934592) :
  Ra 88 #[.pointer (some ⟨g,0,none⟩),.int .i64 c] w fun e w'=>e=.returned (.int .i64 0)/\Af own i w w' g (s.feed c):=by
 have q1:decide ((c:Int)<0)=false:=by simp
 have q2:decide (1048576<(c:Int))=false:=by simp;omega
 have q3:¬(1048576<(c:Int)):=by omega
 have q4:¬(1048576<c):=by omega
 have HN:=uW own i g s c w h hn hb;clear h hn hb
 go_enter Tryz.func88,Tryz.ntmps88
 go_wp2_with (go_at_call 89;refine HN.mono ?_;rintro e w1 ⟨rfl,hA⟩)
 go_ret
 exact ⟨rfl,hA⟩
def fx.empty (s:fx):fx:=if s.fresh then s.feed s.col else s
theorem B5 (own:Nat->Nat) (i g:Nat) (s:fx) (w:World) (h:SK own i w g s) (hn:Nf own w) (hb:s.out.length<=8589934592) :
  Ra 40 #[.pointer (some ⟨g,0,none⟩)] w fun e w'=>e=.returned (.int .i64 0)/\Af own i w w' g s.empty:=by
 obtain ⟨tv,gv,text,gs,h1,_⟩:=h.ex;have HN:=uW own i g s s.col w h hn hb;obtain ⟨fr,col,wait,out⟩:=s;simp only at *;have g0:w.cell? ⟨g,0,none⟩=some (.bool (!fr)):=af h1 rfl;have g1:w.cell? ⟨g,1,none⟩=some (.int .i64 col):=af h1 rfl;cases fr
 ·have HE:Hid (Af own i w w g (fx.empty ⟨false,col,wait,out⟩)):=Af.here h hn (hH _ _);clear h hn hb h1 HN
  go_enter Tryz.func40,Tryz.ntmps40
  go_wp2_with fail
  go_ret
  exact ⟨rfl,HE.out⟩
 ·clear h hn hb h1
  go_enter Tryz.func40,Tryz.ntmps40
  go_wp2_with (go_at_call 89;refine HN.mono ?_;rintro e w1 ⟨rfl,hA⟩)
  go_ret
  exact ⟨rfl,hA⟩
theorem tJ (b:Nat) (w:World) (h0:w.cell? ⟨b,0,none⟩=some (.pointer (some ⟨b,0,none⟩))):Ra 91 #[.pointer (some ⟨b,0,none⟩)] w fun e w'=>e=.returned (.tuple #[])/\w=w':=
 (Nh b w h0).mono fun e w' h=>⟨h.1,h.2.symm⟩
structure Bd (b:Nat) (v:Value) (bs:List UInt8) (w:World):Prop where
 blk:w.heap[b]?=some (.cells #[.pointer (some ⟨b,0,none⟩),v] 115 (0,0))
 row:w.ownsRow 0 5 1 v bs.length (bc bs)
def Bw (b:Nat) (v:Value) (bs:List UInt8) (w w':World):Prop:=∃v',Bd b v' bs w'/\(v'.ownBlock=v.ownBlock\/v'.ownBlock=some w.heap.size)/\Kp (fun k=>k=b\/some k=v.ownBlock) w w'
theorem Bd.put {b:Nat}{v v2:Value}{bs l:List UInt8}{w w2:World}(h:Bd b v bs w) (hg:w.grownBy w2 v.ownBlock) (ho:w2.ownsRow 0 5 1 v2 (bs.length+l.length) (bc bs++bc l)) (hat:v2.ownBlock=v.ownBlock\/v2.ownBlock=some w.heap.size):Bw b v (bs++l) w (w2.setCell ⟨b,1,none⟩ v2):=by
 have hk:=Kp.of_grown hg;have hne:=aM h.row h.blk (by decide);have hb2:=hk.blk h.blk (fun e=>hne e.symm);have hne2:=aM ho hb2 (by decide);refine ⟨v2,⟨aj hb2 1 v2,?_⟩,hat,?_⟩
 ·rw [Or,Ge];exact (Kp.set w2 b 1 v2).row ho (fun k e1 e2=>hne2 (by rw [e1,e2]))
 ·exact (Kp.step (S:=fun k=>k=b\/some k=v.ownBlock) (Kp.refl _ _) hk (fun _ _ h=>.inr h)).step (Kp.set w2 b 1 v2) (fun _ _ h=>.inl h)
theorem M8 (b:Nat) (v:Value) (bs l:List UInt8) (ad:Addr) (m c:Nat) (w:World) (h:Bd b v bs w) (hl:l.length=m) (hsrc:∀j u,(bc l)[j]?=some u->w.cell? (ad.add j)=some u) (hn:bs.length+m<=70368744177664) :
  Ra 45 #[.pointer (some ⟨b,0,none⟩),.slice (some ad) m c] w fun e w'=>e=.returned (.tuple #[.int .i64 m,.nilIface])/\Bw b v (bs++l) w w':=by
 obtain ⟨i0,hi,hz0,hz1,hz2⟩:=Sa Tryz.info5;have c0:w.cell? ⟨b,0,none⟩=some (.pointer (some ⟨b,0,none⟩)):=af h.blk rfl;have c1:w.cell? ⟨b,1,none⟩=some v:=af h.blk rfl;have hbl:=aq h.blk;obtain ⟨p,cap,rfl,_,_⟩:=aJ h.row;have HH:Hid (Bd b (.slice p bs.length cap) bs w):=h;clear h
 go_enter Tryz.func45,Tryz.ntmps45
 go_wp2_with (first|(go_at_call 91;refine (tJ b w c0).mono ?_;rintro e w1 ⟨rfl,rfl⟩)|(at_builtin;refine RT (P:=Tryz.prog) (w:=w) rfl _ _ 105 rfl 0 5 i0 (.int .u8 0) 1 1 Sl hi hz0 hz1 hz2 rfl (by decide) _ _ _ rfl HH.out.row ad m c (bc l) rfl ?c0 hsrc (Ni l) ?c3 ?c4 ?c5 ?_))
 case c0=>rw [Nj,hl,Nat.mul_one]
 case c3=>unfold maxLen;omega
 case c4=>omega
 case c5=>omega
 intro v2 w2 ho2 hg2 _ hat;have HE:Hid (Bw b (.slice p bs.length cap) (bs++l) w (w2.setCell ⟨b,1,none⟩ v2)):=HH.out.put hg2 (by rw [hl];exact ho2) hat;have hb2:=(Kp.of_grown hg2).blk HH.out.blk (fun e=>aM HH.out.row HH.out.blk (by decide) e.symm);have d0:w2.cell? ⟨b,0,none⟩=some (.pointer (some ⟨b,0,none⟩)):=af hb2 rfl;have d1:w2.cell? ⟨b,1,none⟩=some (.slice p bs.length cap):=af hb2 rfl;have f1:w2.frozen? ⟨b,1,none⟩=false:=am hb2;obtain ⟨p2,cap2,rfl,_,_⟩:=aJ ho2;clear ho2 hg2 hat hb2
 go_wp2_with fail
 go_ret2
 exact ⟨rfl,HE.out⟩
theorem wq (b:Nat) (v:Value) (bs:List UInt8) (w:World) (h:Bd b v bs w) :
  Ra 45 #[.pointer (some ⟨b,0,none⟩),.slice none 0 0] w fun e w'=>e=.returned (.tuple #[.int .i64 0,.nilIface])/\Bw b v (bs++[]) w w':=by
 obtain ⟨i0,hi,hz0,hz1,hz2⟩:=Sa Tryz.info5;have c0:w.cell? ⟨b,0,none⟩=some (.pointer (some ⟨b,0,none⟩)):=af h.blk rfl;have c1:w.cell? ⟨b,1,none⟩=some v:=af h.blk rfl;have hbl:=aq h.blk;have f1:w.frozen? ⟨b,1,none⟩=false:=am h.blk;have HE:Hid (Bw b v (bs++[]) w (w.setCell ⟨b,1,none⟩ v)):=h.put ⟨rfl,rfl,rfl,gt _,fun _ _ _=>rfl⟩ (by simpa [bc] using h.row) (.inl rfl);obtain ⟨p,cap,rfl,_,_⟩:=aJ h.row;have HH:Hid (Bd b (.slice p bs.length cap) bs w):=h;clear h
 go_enter Tryz.func45,Tryz.ntmps45
 go_wp2_with (first|(go_at_call 91;refine (tJ b w c0).mono ?_;rintro e w1 ⟨rfl,rfl⟩)|(at_builtin;refine wpList_append_own_none (P:=Tryz.prog) (w:=w) rfl _ _ 105 rfl 0 5 i0 1 Sl hi _ _ _ rfl HH.out.row rfl ?_))
 go_ret2
 exact ⟨rfl,HE.out⟩
theorem OJ (b:Nat) (v:Value) (bs:List UInt8) (t:ByteArray) (w:World) (h:Bd b v bs w) (hn:bs.length+t.size<=70368744177664) :
  Ra 46 #[.pointer (some ⟨b,0,none⟩),.string t] w fun e w'=>e=.returned (.tuple #[.int .i64 t.size,.nilIface])/\Bw b v (bs++t.data.toList) w w':=by
 obtain ⟨i0,hi,hz0,hz1,hz2⟩:=Sa Tryz.info5;have c0:w.cell? ⟨b,0,none⟩=some (.pointer (some ⟨b,0,none⟩)):=af h.blk rfl;have c1:w.cell? ⟨b,1,none⟩=some v:=af h.blk rfl;have hbl:=aq h.blk;obtain ⟨p,cap,rfl,_,_⟩:=aJ h.row;have HH:Hid (Bd b (.slice p bs.length cap) bs w):=h;clear h
 go_enter Tryz.func46,Tryz.ntmps46
 go_wp2_with (first|(go_at_call 91;refine (tJ b w c0).mono ?_;rintro e w1 ⟨rfl,rfl⟩)|(at_builtin;refine dU (P:=Tryz.prog) (w:=w) rfl _ _ 105 9 rfl 0 5 i0 Sl Rz hi hz0 hz1 hz2 _ _ _ rfl HH.out.row t rfl ?c3 ?c4 ?c5 ?_))
 case c3=>unfold maxLen;omega
 case c4=>omega
 case c5=>omega
 intro v2 w2 ho2 hg2 hat;have HE:Hid (Bw b (.slice p bs.length cap) (bs++t.data.toList) w (w2.setCell ⟨b,1,none⟩ v2)):=HH.out.put hg2 ho2 hat;have hb2:=(Kp.of_grown hg2).blk HH.out.blk (fun e=>aM HH.out.row HH.out.blk (by decide) e.symm);have d0:w2.cell? ⟨b,0,none⟩=some (.pointer (some ⟨b,0,none⟩)):=af hb2 rfl;have d1:w2.cell? ⟨b,1,none⟩=some (.slice p bs.length cap):=af hb2 rfl;have f1:w2.frozen? ⟨b,1,none⟩=false:=am hb2;obtain ⟨p2,cap2,rfl,_,_⟩:=aJ ho2;clear ho2 hg2 hat hb2
 go_wp2_with fail
 go_ret2
 exact ⟨rfl,HE.out⟩
theorem FZ (u:FrameMode) (b:Bool) (col wait:Int) (h g:Nat) (tv gv:Value) (w:World) (hg:w.heap[g]?=some (.cells (sk b col wait tv gv) 108 (0,0))) (hh:w.heap[h]?=some (.cells #[.pointer (some ⟨g,0,none⟩)] 62 (0,0))) (htv:∃p n cap,tv=.slice p n cap) (hgv:∃p n cap,gv=.slice p n cap) :
  CallsD Tryz.prog 42 #[.pointer (some ⟨h,0,none⟩)] u w fun e u' w'=>u'=u/\(e=.returned (.tuple #[])/\w'=(w.setCell ⟨g,3,none⟩ (.slice none 0 0)).setCell ⟨g,4,none⟩ (.slice none 0 0)):=by
 have g3:w.cell? ⟨g,3,none⟩=some tv:=af hg rfl;have g4:w.cell? ⟨g,4,none⟩=some gv:=af hg rfl;have f3:w.frozen? ⟨g,3,none⟩=false:=am hg;have f4:w.frozen? ⟨g,4,none⟩=false:=am hg;have h0:w.cell? ⟨h,0,none⟩=some (.pointer (some ⟨g,0,none⟩)):=af hh rfl;obtain ⟨p1,n1,k1,rfl⟩:=htv;obtain ⟨p2,n2,k2,rfl⟩:=hgv
 go_enter_d Tryz.func42,Tryz.ntmps42
 go_wp2_with fail
 go_end0
 exact ⟨rfl,rfl⟩
theorem Nq (g j:Nat):(⟨g,0,none⟩:Addr).add j=⟨g,j,none⟩:=by
 unfold Addr.add
 split <;> simp_all
theorem qY {gs:List (Nat × Nat)}(h:w.ownsRow 0 118 2 gv gs.length (bz eg gs)) (k:Nat) (x:Nat × Nat) (hk:gs[k]?=some x):∃tb cap,gv=.slice (some ⟨tb,0,none⟩) gs.length cap/\gs.length<=cap/\w.cell? ⟨tb,k*2,none⟩=some (.int .i64 x.1)/\w.cell? ⟨tb,k*2+1,none⟩=some (.int .i64 x.2):=by
 have hkl:=(QT.1 hk).1
 rcases h.2 with ⟨_,h0⟩|⟨tb,cap,cur,rfl,_,_,hc,_⟩
 ·omega
 ·have hcs:=h.cells (g:=tb) rfl;refine ⟨tb,cap,rfl,hc,?_,?_⟩
  ·have:=hcs (k*2+0) (.int .i64 x.1) (aU eg 2 Fp gs k 0 x _ hk rfl);rw [Nq] at this;exact this
  ·have:=hcs (k*2+1) (.int .i64 x.2) (aU eg 2 Fp gs k 1 x _ hk rfl);rw [Nq] at this;exact this
theorem AG (gs:List (Nat × Nat)) (k:Nat) (x:Nat × Nat) (hk:gs[k]?=some x):cO (gs.take (k+1))=cO (gs.take k)+x.2:=by
 induction gs generalizing k with
 |nil=>simp at hk
 |cons y r ih=>
  obtain ⟨a,n⟩:=y;cases k with
  |zero=>simp at hk;subst hk;simp [cO]
  |succ k=>simp only [Uu,cO];rw [ih k (by simpa using hk)];omega
theorem yA (gs:List (Nat × Nat)) (k:Nat):cO (gs.take k)<=cO gs:=by
 induction gs generalizing k with
 |nil=>simp
 |cons y r ih=>
  obtain ⟨a,n⟩:=y;cases k with
  |zero=>simp [cO]
  |succ k=>simp only [Uu,cO];have:=ih k;omega
theorem Dn (g:Nat) (b:Bool) (col wait:Int) (tv gv:Value) (n:Nat) (xs:List Value) (gs:List (Nat × Nat)) (w:World) (hg:w.heap[g]?=some (.cells (sk b col wait tv gv) 108 (0,0))) (ht:w.ownsRow 0 5 1 tv n xs) (hr:w.ownsRow 0 118 2 gv gs.length (bz eg gs)) (hn:n<=8589934592) (hs:cO gs<=8589934592) (hl:gs.length<=8589934592) :
  Ra 44 #[.pointer (some ⟨g,0,none⟩)] w fun e w'=>e=.returned (.int .i64 (n+cO gs:Nat))/\Below w.heap.size w w':=by
 have g3:w.cell? ⟨g,3,none⟩=some tv:=af hg rfl;have g4:w.cell? ⟨g,4,none⟩=some gv:=af hg rfl;obtain ⟨p1,c1,rfl,_,_⟩:=aJ ht;obtain ⟨p2,c2,rfl,_,_⟩:=aJ hr;have HR:Hid (w.ownsRow 0 118 2 (.slice p2 gs.length c2) gs.length (bz eg gs)):=hr;clear ht hr hg
 go_enter Tryz.func44,Tryz.ntmps44
 go_wp2_with fail
 go_loopw [3,16] (fun m i wr=>∃k:Nat,k<=gs.length/\m=.int .i64 (n+cO (gs.take k):Nat)/\i=.int .i64 k/\Below w.heap.size w wr) (fun _ i _=>gs.length-(intOf i).toNat)
 case atStart=>exact ⟨0,by omega,by simp [cO],rfl,hH _ _⟩
 case round=>
  obtain ⟨k,hk,rfl,rfl,hb⟩:=hrel;have hsl:=yA gs k
  by_cases hlt:k<gs.length
  ·obtain ⟨x,hx⟩:∃x,gs[k]?=some x:=⟨gs[k],Pi hlt⟩;obtain ⟨tb,cap,he,hc,x1,x2⟩:=qY HR.out k x hx;injection he with e1 e2 e3
   subst e1;have y1:=(hb.cell (p:=⟨tb,k*2,none⟩) (QP _ _ x1)).trans x1;have y2:=(hb.cell (p:=⟨tb,k*2+1,none⟩) (QP _ _ x2)).trans x2;have hst:=AG gs k x hx;have hsl2:=yA gs (k+1);obtain ⟨a,z⟩:=x;simp only at y1 y2 hst;have q1:(k:Int)<gs.length:=by omega
   have HS:Hid (cO (gs.take (k+1))=cO (gs.take k)+z):=hst;have hz:cO (gs.take k)+z<=8589934592:=by omega
   clear x1 x2 hx hst hsl2 e3;obtain ⟨S,hS⟩:∃S,cO (gs.take k)=S:=⟨_,rfl⟩;rw [hS] at hsl hz HS ⊢;clear hS
   go_wp2_with fail
   exact ⟨⟨k+1,hlt,by rw [HS.out];go_num,by go_num,hb.alloc hb.size _⟩,by simp [intOf];omega⟩
  ·obtain rfl:k=gs.length:=by omega
   have HS:Hid (cO (gs.take gs.length)=cO gs):=by rw [RQ];rfl
   have q1:¬((gs.length:Int)<gs.length):=by omega
   obtain ⟨S,hS⟩:∃S,cO (gs.take gs.length)=S:=⟨_,rfl⟩;rw [hS] at hsl HS ⊢;clear hS;have HF:Hid ((n:Int)+(S:Int)=(n:Int)+(cO gs:Nat)):=by rw [HS.out];rfl
   clear HS
   go_wp2_with fail
   go_ret
   exact ⟨Q0 (fun z=>Ending.returned (.int .i64 z)) HF.out,hb⟩
end Go.Proofs.YtjiepkenkcgkhaaGreatDoor.Lw
