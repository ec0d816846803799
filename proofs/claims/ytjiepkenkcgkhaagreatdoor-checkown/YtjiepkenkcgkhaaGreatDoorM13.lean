import Derived.RangeFuncOwn
import Derived.BigRegion
import Derived.Test.YtjiepkenkcgkhaaGreatDoorM12
set_option linter.unusedVariables false
set_option linter.unusedSimpArgs false
set_option maxHeartbeats 2000000
set_option maxRecDepth 100000
namespace Go.Proofs.YtjiepkenkcgkhaaGreatDoor.Lw
open Go.Proofs.YtjiepkenkcgkhaaGreatDoor.Lx
open Go.RowKit
variable {B gb ga:Nat}{w:World}{s:Sp}{st:List Sp}
theorem Tryz.info157:(Tryz.prog.info? 157).map (fun i=>(i.zero,i.size,i.bytes))=some (some (.agg #[.int .i64 0,.int .i64 0]),2,16):=by kernel_rfl
structure TL (B:Nat) (w:World) (gb ga:Nat) (s:Sp) (st:List Sp):Prop where
 hb:w.heap[gb]?=some (.cells #[.int .i64 s.all,.int .i64 s.hang] 157 (0,0))
 ha:∃v,w.heap[ga]?=some (.cells #[v] 158 (0,0))/\w.ownsRow 0 157 2 v st.length (bz GF st.reverse)/\∀k,v.ownBlock=some k->B<=k/\k≠gb
theorem TL.ne (h:TL B w gb ga s st):ga≠gb:=by
 obtain ⟨v,h1,_⟩:=h.ha;rintro rfl;have:=h.hb;rw [h1] at this;injection this with e
 injection e with _ e
 exact absurd e (by decide)
theorem TL.sub {B:Nat}{w w':World}{gb ga:Nat}{s s':Sp}{st:List Sp}(h:TL B w gb ga s st) (hk:Kp (fun k=>k=gb) w w') (hb:w'.heap[gb]?=some (.cells #[.int .i64 s'.all,.int .i64 s'.hang] 157 (0,0))):TL B w' gb ga s' st:=by
 have hne:=h.ne;obtain ⟨v,h1,h2,h3⟩:=h.ha;exact ⟨hb,⟨v,hk.blk h1 hne,hk.row h2 (fun k e1 e2=>(h3 k e1).2 e2),h3⟩⟩
theorem TL.below {w':World}(h:TL B w gb ga s st) (hb:Below w.heap.size w w'):TL B w' gb ga s st:=by
 obtain ⟨v,h1,h2,h3⟩:=h.ha;exact ⟨ag h.hb hb,⟨v,ag h1 hb,bp h2 hb,h3⟩⟩
def Sx (B gb ga:Nat) (k:Nat):Prop:=k=gb\/k=ga\/B<=k
end Go.Proofs.YtjiepkenkcgkhaaGreatDoor.Lw
namespace Go.Proofs.YtjiepkenkcgkhaaGreatDoor
open Go.Proofs.YtjiepkenkcgkhaaGreatDoor.Lw
open Go.Proofs.YtjiepkenkcgkhaaGreatDoor.Lx
open Go.RowKit
theorem Kp.wide {S T:Nat->Prop}{w w':World}(h:Kp S w w') (hST:∀k,S k->T k):Kp T w w':=⟨h.os,h.tape,h.output,h.size,fun k hk hT=>h.block k hk (fun hs=>hT (hST k hs))⟩
end Go.Proofs.YtjiepkenkcgkhaaGreatDoor
namespace Go.Proofs.YtjiepkenkcgkhaaGreatDoor.Lw
open Go.Proofs.YtjiepkenkcgkhaaGreatDoor.Lx
open Go.RowKit
variable {gb ga sz j:Nat}{w w':World}{s:Sp}{st:List Sp}{l:List Dc}{v:Value}{o:Int}
def Bo (B gb ga:Nat) (w w':World):Prop:=Kp (Sx B gb ga) w w'/\KeepsOthers w w'
theorem Bo.trans {B:Nat}{a b c:World}(h:Bo B gb ga a b) (k:Bo B gb ga b c):Bo B gb ga a c:=⟨h.1.trans k.1,h.2.trans k.2⟩
theorem Bo.size {B gb ga:Nat}{a b:World}(h:Bo B gb ga a b):a.heap.size<=b.heap.size:=h.1.size
theorem ph (h:Below w.heap.size w w'):KeepsOthers w w':=⟨h.size,fun k o hk _=>(h.block k (aq hk)).trans hk⟩
theorem Bo.of_below {B gb ga:Nat}{w w':World}(h:Below w.heap.size w w'):Bo B gb ga w w':=⟨Kp.of_below h,ph h⟩
theorem kB {S:Nat->Prop}(h:Kp S w w') (hS:∀k,S k->∀o,w.heap[k]?=some o->o.isCells=true):KeepsOthers w w':=
 ⟨h.size,fun k o hk ho=>h.blk hk (fun hs=>by rw [hS k hs o hk] at ho;cases ho)⟩
theorem eD {g:Nat}{cs:Array Value}{T:TypeId}{f:Nat × Nat}(h:w.heap[g]?=some (.cells cs T f)):∀o,w.heap[g]?=some o->o.isCells=true:=by
 intro o ho;rw [h] at ho;cases ho;rfl
theorem im {B:Nat}(h:TL B w gb ga s st) (hs:Sb s) (c:Nat) (hc:c<=1000000000) (hB:B<=w.heap.size) :
  Ra 81 #[.pointer (some ⟨gb,0,none⟩),.int .i64 c] w fun e w'=>e=.returned (.tuple #[])/\TL B w' gb ga (s.wid c) st/\Bo B gb ga w w':=by
 refine (Av gb s c w h.hb hs hc).mono ?_;rintro e w' ⟨rfl,h1,h2⟩;exact ⟨rfl,h.sub h2 h1,h2.wide (fun k e=>.inl e),kB h2 (fun k e=>by subst e;exact eD h.hb)⟩
theorem TL.hang0 {B:Nat}(h:TL B w gb ga s st) (hB:B<=w.heap.size):TL B (w.setCell ⟨gb,1,none⟩ (.int .i64 0)) gb ga ⟨s.all,0⟩ st/\Bo B gb ga w (w.setCell ⟨gb,1,none⟩ (.int .i64 0)):=by
 have hk:=Kp.set w gb 1 (.int .i64 0);exact ⟨h.sub hk (aj h.hb 1 _),hk.wide (fun k e=>.inl e),kB hk (fun k e=>by subst e;exact eD h.hb)⟩
def TA (B:Nat) (w:World) (gb ga:Nat) (r:Nat × Sp × List Sp) (e:Ending) (w':World):Prop:=e=.returned (.int .i64 r.1)/\TL B w' gb ga r.2.1 r.2.2/\Bo B gb ga w w'
theorem AB {B:Nat}(h:TL B w gb ga s st) (hs:Sb s) (hB:B<=w.heap.size) (hT:∀W,Kp (Sx B gb ga) w W->jF W) (t:ByteArray) (ht:t.size<=65535) :
  Ra 80 #[.agg #[.int .u8 1,.string t,.int .i64 0,.int .i64 0,.bool false],.pointer (some ⟨ga,0,none⟩),.pointer (some ⟨gb,0,none⟩)] w fun e w'=>TA B w gb ga (0,s.wid (tm t),st) e w':=by
 have hcb:tm t<=1000000000:=by have:=qx t;unfold tm;split <;> omega
 have HC:Hid (∀W,Bo B gb ga w W->Ra 82 #[.string t] W fun e w'=>e=.returned (.int .i64 (tm t))/\Rc W w'):=fun W hW=>wh t W (hT W hW.1) (by omega)
 have HW:Hid (∀W,Bo B gb ga w W->TL B W gb ga s st->Ra 81 #[.pointer (some ⟨gb,0,none⟩),.int .i64 (tm t)] W fun e w'=>e=.returned (.tuple #[])/\TL B w' gb ga (s.wid (tm t)) st/\Bo B gb ga W w'):=fun W hW hL=>im hL hs _ hcb (QQ hB hW.size)
 have H:Hid (TL B w gb ga s st/\B<=w.heap.size):=⟨h,hB⟩;have HA:Hid (∀o,Bo B gb ga w (w.alloc o)/\TL B (w.alloc o) gb ga s st):=fun o=>⟨Bo.of_below ((hH _ _).alloc (gt _) _),h.below ((hH _ _).alloc (gt _) _)⟩
 clear h hB hT
 generalize tm t=c at *
 go_enter UB,Uh
 go_wp2_with (first|(go_at_call 82;refine (HC.out _ (HA.out _).1).mono ?_;rintro e w1 ⟨rfl,hb1⟩;have H1:Hid (Bo B gb ga w w1/\TL B w1 gb ga s st):=⟨(HA.out _).1.trans (Bo.of_below hb1),(HA.out _).2.below hb1⟩;clear hb1)|(go_at_call 81;refine (HW.out _ H1.out.1 H1.out.2).mono ?_;rintro e w2 ⟨rfl,h2,hb2⟩;have H2:Hid (TL B w2 gb ga (s.wid c) st/\Bo B gb ga w w2):=⟨h2,H1.out.1.trans hb2⟩;clear h2 hb2))
 go_ret
 exact ⟨rfl,H2.out.1,H2.out.2⟩
theorem wX {B:Nat}(h:TL B w gb ga s st) (hs:Sb s) (hB:B<=w.heap.size) :
  Ra 80 #[.agg #[.int .u8 2,.string ⟨#[]⟩,.int .i64 0,.int .i64 0,.bool false],.pointer (some ⟨ga,0,none⟩),.pointer (some ⟨gb,0,none⟩)] w fun e w'=>TA B w gb ga (0,s.wid 1,st) e w':=by
 have HW:Hid (∀W,Bo B gb ga w W->TL B W gb ga s st->Ra 81 #[.pointer (some ⟨gb,0,none⟩),.int .i64 1] W fun e w'=>e=.returned (.tuple #[])/\TL B w' gb ga (s.wid 1) st/\Bo B gb ga W w'):=fun W hW hL=>im hL hs 1 (by omega) (QQ hB hW.size)
 have HA:Hid (∀o,Bo B gb ga w (w.alloc o)/\TL B (w.alloc o) gb ga s st):=fun o=>⟨Bo.of_below ((hH _ _).alloc (gt _) _),h.below ((hH _ _).alloc (gt _) _)⟩
 clear h hB
 go_enter UB,Uh
 go_wp2_with (first|(go_at_call 81;refine (HW.out _ (HA.out _).1 (HA.out _).2).mono ?_;rintro e w2 ⟨rfl,h2,hb2⟩;have H2:Hid (TL B w2 gb ga (s.wid 1) st/\Bo B gb ga w w2):=⟨h2,(HA.out _).1.trans hb2⟩;clear h2 hb2))
 go_ret
 exact ⟨rfl,H2.out.1,H2.out.2⟩
theorem qy {B:Nat}(h:TL B w gb ga s st) (hs:Sb s) (hB:B<=w.heap.size) (k:Int) (hk:k=4\/k=5) :
  Ra 80 #[.agg #[.int .u8 k,.string ⟨#[]⟩,.int .i64 0,.int .i64 0,.bool false],.pointer (some ⟨ga,0,none⟩),.pointer (some ⟨gb,0,none⟩)] w fun e w'=>TA B w gb ga (0,⟨(s.wid 4097).all,0⟩,st) e w':=by
 have HW:Hid (∀W,Bo B gb ga w W->TL B W gb ga s st->Ra 81 #[.pointer (some ⟨gb,0,none⟩),.int .i64 4097] W fun e w'=>e=.returned (.tuple #[])/\TL B w' gb ga (s.wid 4097) st/\Bo B gb ga W w'):=fun W hW hL=>im hL hs 4097 (by omega) (QQ hB hW.size)
 have HA:Hid (∀o,Bo B gb ga w (w.alloc o)/\TL B (w.alloc o) gb ga s st):=fun o=>⟨Bo.of_below ((hH _ _).alloc (gt _) _),h.below ((hH _ _).alloc (gt _) _)⟩
 have HB:Hid (B<=w.heap.size):=hB;clear h hB
 rcases hk with rfl|rfl
 all_goals
  go_enter UB,Uh
  go_wp2_with (first|(go_at_call 81;refine (HW.out _ (HA.out _).1 (HA.out _).2).mono ?_;rintro e w2 ⟨rfl,h2,hb2⟩;have f1:=am (k:=1) h2.hb;have c1:=af (k:=1) h2.hb rfl;have H2:Hid (TL B w2 gb ga (s.wid 4097) st/\Bo B gb ga w w2):=⟨h2,(HA.out _).1.trans hb2⟩;clear h2 hb2))
  go_ret
  have h3:=H2.out.1.hang0 (QQ HB.out H2.out.2.size);exact ⟨rfl,h3.1,H2.out.2.trans h3.2⟩
theorem CZ {B:Nat}(h:TL B w gb ga s st) (hs:Sb s) (hB:B<=w.heap.size) (b:Nat) (hb:b<=1000) :
  Ra 80 #[.agg #[.int .u8 3,.string ⟨#[]⟩,.int .i64 b,.int .i64 0,.bool false],.pointer (some ⟨ga,0,none⟩),.pointer (some ⟨gb,0,none⟩)] w fun e w'=>TA B w gb ga ((s.wid b).hang,⟨(s.wid b).all,0⟩,st) e w':=by
 have HW:Hid (∀W,Bo B gb ga w W->TL B W gb ga s st->Ra 81 #[.pointer (some ⟨gb,0,none⟩),.int .i64 b] W fun e w'=>e=.returned (.tuple #[])/\TL B w' gb ga (s.wid b) st/\Bo B gb ga W w'):=fun W hW hL=>im hL hs b (by omega) (QQ hB hW.size)
 have HA:Hid (∀o,Bo B gb ga w (w.alloc o)/\TL B (w.alloc o) gb ga s st):=fun o=>⟨Bo.of_below ((hH _ _).alloc (gt _) _),h.below ((hH _ _).alloc (gt _) _)⟩
 have HB:Hid (B<=w.heap.size):=hB;clear h hB
 go_enter UB,Uh
 go_wp2_with (first|(go_at_call 81;refine (HW.out _ (HA.out _).1 (HA.out _).2).mono ?_;rintro e w2 ⟨rfl,h2,hb2⟩;have f1:=am (k:=1) h2.hb;have c1:=af (k:=1) h2.hb rfl;have H2:Hid (TL B w2 gb ga (s.wid b) st/\Bo B gb ga w w2):=⟨h2,(HA.out _).1.trans hb2⟩;clear h2 hb2))
 go_ret
 have h3:=H2.out.1.hang0 (QQ HB.out H2.out.2.size);exact ⟨rfl,h3.1,H2.out.2.trans h3.2⟩
theorem yJ {β:Type}{enc:β->List Value}(hsz:∀x,(enc x).length=sz) {w:World}{e:Nat}{v:Value}{r:List β}{x:β}(h:w.ownsRow 0 e sz v (x :: r).length (bz enc (x :: r).reverse)) :
  ∃b cap,v=.slice (some ⟨b,0,none⟩) (r.length+1) cap/\r.length+1<=cap/\cap<=maxLen/\w.ownsRow 0 e sz (.slice (some ⟨b,0,none⟩) r.length cap) r.length (bz enc r.reverse)/\(∀j u,(enc x)[j]?=some u->w.cell? ⟨b,r.length*sz+j,none⟩=some u)/\∃cur,w.heap[b]?=some (.cells cur e (0,0)):=by
 have hcs:=fun b hb=>h.cells (g:=b) hb
 rcases h.2 with ⟨h1,h2⟩|⟨b,cap,cur,rfl,h2,h3,h4,h5,h6,h7⟩
 ·simp at h2
 ·have hr:(x :: r).reverse=r.reverse++[x]:=by simp
  rw [hr] at h7;refine ⟨b,cap,rfl,h4,h5,⟨?_,.inr ⟨b,cap,cur,rfl,h2,h3,?_,h5,h6,?_⟩⟩,?_,cur,h3⟩
  ·rw [fV enc sz hsz,SO]
  ·simp at h4;omega
  ·have:cur.toList.take (r.length*sz)=(cur.toList.take ((x :: r).length*sz)).take (r.length*sz):=by
    rw [Uc,Vg (Nat.mul_le_mul_right _ (by simp))]
   rw [this,h7,cr,RH (by rw [fV enc sz hsz,SO];exact gt _),RK (by rw [fV enc sz hsz,SO];exact gt _)]
  ·intro j u hj
   have h8:(bz enc (x :: r).reverse)[r.length*sz+j]?=some u:=by
    rw [hr];refine aU enc sz hsz _ _ _ x u ?_ hj;rw [Ty (by simp)];simp
   have:=hcs b rfl _ u h8;rw [SE,QU] at this;exact this
theorem AU {e n k:Nat}{xs:List Value}(h:w.ownsRow 0 e sz v n xs) (hk:v.ownBlock=some k):∀o,w.heap[k]?=some o->o.isCells=true:=by
 rcases h.2 with ⟨rfl,_⟩|⟨b,cap,cur,rfl,_,h3,_⟩
 ·cases hk
 ·cases hk;exact eD h3
theorem TL.push {B:Nat}{W w2:World}{v2:Value}(h:TL B w gb ga s st) (hW:Below w.heap.size w W) (hB:B<=w.heap.size) (h1:W.heap[ga]?=some (.cells #[v] 158 (0,0))) (h2:∀k,v.ownBlock=some k->B<=k/\k≠gb) (ho:W.ownsRow 0 157 2 v st.length (bz GF st.reverse))
  (ho2:w2.ownsRow 0 157 2 v2 (st.length+1) (bz GF st.reverse++GF s)) (hg:W.grownBy w2 v.ownBlock) (hat:v2.ownBlock=v.ownBlock\/v2.ownBlock=some W.heap.size) :
  TL B (((w2.setCell ⟨ga,0,none⟩ v2).setCell ⟨gb,0,none⟩ (.int .i64 0)).setCell ⟨gb,1,none⟩ (.int .i64 0)) gb ga ⟨0,0⟩ (s :: st)/\Bo B gb ga w (((w2.setCell ⟨ga,0,none⟩ v2).setCell ⟨gb,0,none⟩ (.int .i64 0)).setCell ⟨gb,1,none⟩ (.int .i64 0)):=by
 have hne:=h.ne;have hk:=Kp.of_grown hg;have hgb:=ag h.hb hW;have r1:=aM ho h1 (by decide);have g1:w2.heap[ga]?=some (.cells #[v] 158 (0,0)):=hk.blk h1 (fun e=>r1 e.symm);have g2:w2.heap[gb]?=some (.cells #[.int .i64 s.all,.int .i64 s.hang] 157 (0,0)):=hk.blk hgb (fun e=>(h2 gb e.symm).2 rfl);have r2:=aM ho2 g1 (by decide);have gbl:=aq hgb
 have hv2:∀k,v2.ownBlock=some k->B<=k/\k≠gb:=by
  intro k hk
  rcases hat with e|e
  ·exact h2 k (by rw [<-e];exact hk)
  ·rw [e] at hk;injection hk with hk
   subst hk;exact ⟨QQ hB hW.size,by omega⟩
 have k1:=Kp.set w2 ga 0 v2;have k2:=Kp.set (w2.setCell ⟨ga,0,none⟩ v2) gb 0 (.int .i64 0);have k3:=Kp.set ((w2.setCell ⟨ga,0,none⟩ v2).setCell ⟨gb,0,none⟩ (.int .i64 0)) gb 1 (.int .i64 0);refine ⟨⟨?_,⟨v2,?_,?_,hv2⟩⟩,?_⟩
 ·exact aj (aj (aX g2 (Vs hne) _) 0 _) 1 _
 ·exact aX (aX (aj g1 0 _) hne _) hne _
 ·refine k3.row (k2.row (k1.row ?_ (fun k e1 e2=>r2 (by rw [e1,e2]))) (fun k e1 e2=>(hv2 k e1).2 e2)) (fun k e1 e2=>(hv2 k e1).2 e2)
  have:bz GF (s :: st).reverse=bz GF st.reverse++GF s:=by
   rw [SH,cr];simp [bz]
  rw [this];exact ho2
 ·have b0:Kp (Sx B gb ga) w w2:=(Kp.of_below hW).step hk (fun k _ e=>.inr (.inr (h2 k e.symm).1));refine ⟨((b0.step k1 (fun k _ e=>.inr (.inl e))).step k2 (fun k _ e=>.inl e)).step k3 (fun k _ e=>.inl e),?_⟩;have o1:KeepsOthers W w2:=kB hk (fun k e=>AU ho e.symm);have o2:=kB k1 (fun k e=>by subst e;exact eD g1);have o3:=kB k2 (fun k e=>by subst e;exact eD (aX g2 (Vs hne) _));have o4:=kB k3 (fun k e=>by subst e;exact eD (aj (aX g2 (Vs hne) _) 0 _));exact (ph hW).trans (o1.trans (o2.trans (o3.trans o4)))
theorem CY {B:Nat}(h:TL B w gb ga s st) (hs:Sb s) (hB:B<=w.heap.size) (hn:st.length<=1000000000) :
  Ra 80 #[.agg #[.int .u8 7,.string ⟨#[]⟩,.int .i64 0,.int .i64 0,.bool false],.pointer (some ⟨ga,0,none⟩),.pointer (some ⟨gb,0,none⟩)] w fun e w'=>TA B w gb ga (0,⟨0,0⟩,s :: st) e w':=by
 obtain ⟨i0,hi,hz0,hz1,hz2⟩:=Sa Tryz.info157;obtain ⟨v,h1,h2,h3⟩:=h.ha;have gal:=aq h1;have gbl:=aq h.hb;have hnab:=h.ne;have a0:w.cell? ⟨ga,0,none⟩=some v:=af h1 rfl;have b0:w.cell? ⟨gb,0,none⟩=some (.int .i64 s.all):=af h.hb rfl;have b1:w.cell? ⟨gb,1,none⟩=some (.int .i64 s.hang):=af h.hb rfl;obtain ⟨p,cap,rfl,_,_⟩:=aJ h2;have hbW:Below w.heap.size w ((w.alloc (.cells #[.int .u8 7,.string ⟨#[]⟩,.int .i64 0,.int .i64 0,.bool false] 71)).alloc (.cells #[.int .i64 s.all,.int .i64 s.hang] 157)):=((hH _ _).alloc (gt _) _).alloc (by rw [QL];omega) _;have hs2:(w.alloc (.cells #[.int .u8 7,.string ⟨#[]⟩,.int .i64 0,.int .i64 0,.bool false] 71)).heap.size=w.heap.size+1:=QL _ _
 go_enter UB,Uh
 go_wp2_with (first|(at_builtin;refine RT (P:=Tryz.prog) (w:=(w.alloc (.cells #[.int .u8 7,.string ⟨#[]⟩,.int .i64 0,.int .i64 0,.bool false] 71)).alloc (.cells #[.int .i64 s.all,.int .i64 s.hang] 157)) rfl _ _ 158 rfl 0 157 i0 (.agg #[.int .i64 0,.int .i64 0]) 2 16 Tryz.underlying158 hi hz0 hz1 hz2 rfl (by decide) _ _ _ rfl (bp h2 hbW) ⟨w.heap.size+1,0,none⟩ 1 1 (GF s) rfl rfl ?c1 ?c2 ?c3 ?c4 ?c5 ?_))
 case c1=>exact mQ _ _ _ _ _ hs2.symm
 case c2=>intro u hu;simp [GF] at hu;rcases hu with rfl|rfl <;> rfl
 case c3=>unfold maxLen;omega
 case c4=>omega
 case c5=>omega
 intro v2 w2 ho2 hg2 _ hat;obtain ⟨k1,k2⟩:=h.push hbW hB (ag h1 hbW) h3 (bp h2 hbW) ho2 hg2 (by rw [QL,hs2];exact hat);have hk:=Kp.of_grown hg2;have r1:=aM h2 h1 (by decide);have g1:w2.heap[ga]?=some (.cells #[.slice p st.length cap] 158 (0,0)):=hk.blk (ag h1 hbW) (fun e=>r1 e.symm);have g2:w2.heap[gb]?=some (.cells #[.int .i64 s.all,.int .i64 s.hang] 157 (0,0)):=hk.blk (ag h.hb hbW) (fun e=>(h3 gb e.symm).2 rfl);have x0:=af (k:=0) g1 rfl;have x1:=am (k:=0) g1;have y0:=af (k:=0) g2 rfl;have y1:=af (k:=1) g2 rfl;have y2:=am (k:=0) g2;have y3:=am (k:=1) g2;have HE:Hid (TL B (((w2.setCell ⟨ga,0,none⟩ v2).setCell ⟨gb,0,none⟩ (.int .i64 0)).setCell ⟨gb,1,none⟩ (.int .i64 0)) gb ga ⟨0,0⟩ (s :: st)/\Bo B gb ga w (((w2.setCell ⟨ga,0,none⟩ v2).setCell ⟨gb,0,none⟩ (.int .i64 0)).setCell ⟨gb,1,none⟩ (.int .i64 0))):=⟨k1,k2⟩;obtain ⟨p2,cap2,rfl,_,_⟩:=aJ ho2;clear k1 k2 hk g1 g2 hg2 hat ho2 h h1 h2 h3 hbW r1
 go_wp2_with fail
 go_ret
 exact ⟨rfl,HE.out.1,HE.out.2⟩
theorem TL.pop {B:Nat}{W:World}{x:Sp}{r:List Sp}(h:TL B w gb ga s (x :: r)) (hW:Below w.heap.size w W) (hB:B<=w.heap.size):∃b cap,W.cell? ⟨ga,0,none⟩=some (.slice (some ⟨b,0,none⟩) (r.length+1) cap)/\r.length+1<=cap/\cap<=maxLen/\W.cell? ⟨b,r.length*2,none⟩=some (.int .i64 x.all)/\W.cell? ⟨b,r.length*2+1,none⟩=some (.int .i64 x.hang) /\
  (b≠ga/\b≠gb/\b<w.heap.size) /\
  TL B (((W.setCell ⟨gb,0,none⟩ (.int .i64 x.all)).setCell ⟨gb,1,none⟩ (.int .i64 x.hang)).setCell ⟨ga,0,none⟩ (.slice (some ⟨b,0,none⟩) r.length cap)) gb ga x r/\Bo B gb ga w (((W.setCell ⟨gb,0,none⟩ (.int .i64 x.all)).setCell ⟨gb,1,none⟩ (.int .i64 x.hang)).setCell ⟨ga,0,none⟩ (.slice (some ⟨b,0,none⟩) r.length cap)):=by
 have hne:=h.ne;have hh:=h.below hW;obtain ⟨v,h1,h2,h3⟩:=hh.ha;obtain ⟨b,cap,rfl,c1,c2,c3,c4,cur,c5⟩:=yJ Ht h2;have r1:=aM h2 h1 (by decide);have hb2:=h3 b rfl
 have hbw:b<w.heap.size:=by
  obtain ⟨v',h1',h2',h3'⟩:=h.ha;have e:=ag h1' hW;rw [h1] at e;injection e with e
  injection e with e _
  have e2:v'=.slice (some ⟨b,0,none⟩) (r.length+1) cap:=by
   have:=Q0 (·[0]?) e
   simpa using this.symm
  subst e2;exact (h2'.lt b rfl).2
 refine ⟨b,cap,af h1 rfl,c1,c2,c4 0 _ rfl,c4 1 _ rfl,⟨fun e=>r1 (by rw [e];rfl),hb2.2,hbw⟩,⟨?_,⟨.slice (some ⟨b,0,none⟩) r.length cap,?_,?_,fun k hk=>by cases hk;exact hb2⟩⟩,?_⟩
 ·exact aX (aj (aj hh.hb 0 _) 1 _) (Vs hne) _
 ·exact aj (aX (aX h1 hne _) hne _) 0 _
 ·refine (Kp.set _ ga 0 _).row ((Kp.set _ gb 1 _).row ((Kp.set _ gb 0 _).row c3 ?_) ?_) ?_
  ·intro k e1 e2;cases e1;exact hb2.2 e2
  ·intro k e1 e2;cases e1;exact hb2.2 e2
  ·intro k e1 e2;cases e1;exact r1 (by rw [<-e2];rfl)
 ·refine ⟨(((Kp.of_below hW).step (Kp.set W gb 0 _) (fun k _ e=>.inl e)).step (Kp.set _ gb 1 _) (fun k _ e=>.inl e)).step (Kp.set _ ga 0 _) (fun k _ e=>.inr (.inl e)),?_⟩;have o2:=kB (Kp.set W gb 0 (.int .i64 x.all)) (fun k e=>by subst e;exact eD hh.hb);have o3:=kB (Kp.set (W.setCell ⟨gb,0,none⟩ (.int .i64 x.all)) gb 1 (.int .i64 x.hang)) (fun k e=>by subst e;exact eD (aj hh.hb 0 _));have o4:=kB (Kp.set ((W.setCell ⟨gb,0,none⟩ (.int .i64 x.all)).setCell ⟨gb,1,none⟩ (.int .i64 x.hang)) ga 0 (.slice (some ⟨b,0,none⟩) r.length cap)) (fun k e=>by subst e;exact eD (aX (aX h1 hne _) hne _));exact (ph hW).trans (o2.trans (o3.trans o4))
theorem kH {d:Dc}(hj:l[j]?=some d):cy o j (l.drop j)=if rt d=true/\0<=o+dh d.k then cy (o+dh d.k) (j+1) (l.drop (j+1)) else some j:=by
 obtain ⟨h1,h2⟩:=QT.1 hj;rw [RF h1,h2];rfl
theorem zG (hj:l.length<=j):cy o j (l.drop j)=if 0<o then some j else none:=by
 rw [R9 hj];rfl
def NL:Option Nat->Int × Int
 |some j=>(70,(j:Int))
 |none=>(0,0)
theorem F1 (h:¬2097152<l.length):mD l=NL (cy 0 0 l):=by
 unfold mD;rw [Eq h];cases cy 0 0 l <;> rfl
theorem Cj (ao:Option Addr) (l:List Dc) (cap:Nat) (w:World) (hL:Lay w ao l) (hn:l.length<=9223372036854775807) :
  Ra 79 #[.slice ao l.length cap] w fun e w'=>e=.returned (.tuple #[.int .i64 (mD l).1,.int .i64 (mD l).2])/\Below w.heap.size w w':=by
 by_cases hm:2097152<l.length
 ·have q0:(2097152:Int)<l.length:=by omega
  have HC:Hid (mD l=(2,0)):=by show _=_;unfold mD;rw [IO hm]
  go_enter Tryz.func79,Tryz.ntmps79
  go_wp2_with fail
  go_ret2
  rw [HC.out];exact ⟨rfl,hH _ _⟩
 have q0:¬(2097152:Int)<l.length:=by omega
 have HC:Hid (mD l=NL (cy 0 0 l)):=F1 hm;have HL:Hid (Lay w ao l):=hL;clear hL
 go_enter Tryz.func79,Tryz.ntmps79
 go_wp2_with fail
 go_loopw [4,12] (fun o j wr=>∃(k:Nat) (z:Int),k<=l.length/\o=.int .i64 z/\j=.int .i64 k/\0<=z/\z<=k/\Hid (cy z k (l.drop k)=cy 0 0 l/\Below w.heap.size w wr)) (fun _ j _=>l.length-(intOf j).toNat)
 case atStart=>exact ⟨0,0,by omega,rfl,rfl,by omega,by omega,rfl,hH _ _⟩
 case round=>
  obtain ⟨k,z,hk,rfl,rfl,hz0,hz1,HI⟩:=hrel
  by_cases hlt:k<l.length
  ·have q1:(k:Int)<l.length:=by omega
   obtain ⟨d,hd⟩:∃d,l[k]?=some d:=⟨_,Pi hlt⟩;obtain ⟨ht,b,off,rfl,c0,c1,c2,c3,c4⟩:=(HL.out.below HI.out.2) k d hd
   have HS:Hid ((if rt d=true/\0<=z+dh d.k then cy (z+dh d.k) (k+1) (l.drop (k+1)) else some k)=cy 0 0 l):=by
    show _=_;rw [<-kH hd];exact HI.out.1
   have HB:Hid (Rc w wr):=HI.out.2;have HR:Hid (∀W,Ra 134 #[d.v] W fun x w'=>x=.returned (.bool (rt d))/\Rc W w'):=fun W=>A0 d ht W
   clear HI hd;obtain ⟨dk,dt,db,di,de⟩:=d;simp only [Dc.v] at HR;simp only at c0 c1 c2 c3 c4 HS ht
   generalize rt ⟨dk,dt,db,di,de⟩=r at *
   have HX:Hid (r=true->0<=z+dh dk->cy (z+dh dk) (k+1) (l.drop (k+1))=cy 0 0 l):=fun h1 h2=>by rw [<-HS.out,IO ⟨h1,h2⟩]
   have HY:Hid (¬(r=true/\0<=z+dh dk)->mD l=(70,(k:Int))):=fun h=>by rw [HC.out,<-HS.out,Eq h];rfl
   clear HS
   have HA:Hid (∀W w1,W=wr.alloc (.cells #[.int .u8 dk,.string dt,.int .i64 db,.int .i64 di,.bool de] 71)->Rc W w1->Rc w w1):=fun W w1 hW h=>by
    subst hW;exact (HB.out.alloc HB.out.size _).trans (h.mono (by rw [QL];have:=HB.out.size;omega))
   by_cases k6:dk=6
   ·subst k6;have e6:z+dh 6=z+1:=rfl;rw [e6] at HX HY;cases r
    ·have HQ:Hid (mD l=(70,(k:Int))):=HY.out (by simp);clear HX HY
     go_wp2_with (go_at_call 134;refine (HR.out _).mono ?_;rintro e w1 ⟨rfl,hb1⟩)
     all_goals (go_ret2;rw [HQ.out];exact ⟨rfl,HA.out _ _ rfl hb1⟩)
    ·have HQ:Hid (cy (z+1) (k+1) (l.drop (k+1))=cy 0 0 l):=HX.out rfl (by omega);clear HX HY
     go_wp2_with (go_at_call 134;refine (HR.out _).mono ?_;rintro e w1 ⟨rfl,hb1⟩)
     exact ⟨⟨k+1,z+1,hlt,by go_num,by go_num,by omega,by omega,HQ.out,HA.out _ _ rfl hb1⟩,by simp [intOf];omega⟩
   by_cases k7:dk=7
   ·subst k7;have e6:z+dh 7=z-1:=rfl;rw [e6] at HX HY
    by_cases hz:0<z
    ·cases r
     ·have HQ:Hid (mD l=(70,(k:Int))):=HY.out (by simp);clear HX HY
      go_wp2_with (go_at_call 134;refine (HR.out _).mono ?_;rintro e w1 ⟨rfl,hb1⟩)
      all_goals (go_ret2;rw [HQ.out];exact ⟨rfl,HA.out _ _ rfl hb1⟩)
     ·have HQ:Hid (cy (z-1) (k+1) (l.drop (k+1))=cy 0 0 l):=HX.out rfl (by omega);clear HX HY
      go_wp2_with (go_at_call 134;refine (HR.out _).mono ?_;rintro e w1 ⟨rfl,hb1⟩)
      exact ⟨⟨k+1,z-1,hlt,by go_num,by go_num,by omega,by omega,HQ.out,HA.out _ _ rfl hb1⟩,by simp [intOf];omega⟩
    ·obtain rfl:z=0:=by omega
     have HQ:Hid (mD l=(70,(k:Int))):=HY.out (by omega);clear HX HY
     go_wp2_with (go_at_call 134;refine (HR.out _).mono ?_;rintro e w1 ⟨rfl,hb1⟩)
     all_goals (go_ret2;rw [HQ.out];exact ⟨rfl,HA.out _ _ rfl (hH _ _)⟩)
   ·have e6:z+dh dk=z:=by simp [dh,k6,k7]
    rw [e6] at HX HY;cases r
    ·have HQ:Hid (mD l=(70,(k:Int))):=HY.out (by simp);clear HX HY
     go_wp2_with (go_at_call 134;refine (HR.out _).mono ?_;rintro e w1 ⟨rfl,hb1⟩)
     all_goals (go_ret2;rw [HQ.out];exact ⟨rfl,HA.out _ _ rfl hb1⟩)
    ·have HQ:Hid (cy z (k+1) (l.drop (k+1))=cy 0 0 l):=HX.out rfl (by omega);clear HX HY
     go_wp2_with (go_at_call 134;refine (HR.out _).mono ?_;rintro e w1 ⟨rfl,hb1⟩)
     exact ⟨⟨k+1,z,hlt,by go_num,by go_num,by omega,by omega,HQ.out,HA.out _ _ rfl hb1⟩,by simp [intOf];omega⟩
  ·obtain rfl:k=l.length:=by omega
   have q1:¬((l.length:Int)<l.length):=by omega
   have he:=HI.out.1;rw [zG (gt _)] at he;have HB:Hid (Rc w wr):=HI.out.2
   by_cases hz:0<z
   ·have HQ:Hid (mD l=(70,(l.length:Int))):=by show _=_;rw [HC.out,<-he,IO hz];rfl
    clear HI he
    go_wp2_with fail
    go_ret2
    rw [HQ.out];exact ⟨rfl,HB.out⟩
   ·have HQ:Hid (mD l=(0,0)):=by show _=_;rw [HC.out,<-he,Eq hz];rfl
    clear HI he
    go_wp2_with fail
    go_ret2
    rw [HQ.out];exact ⟨rfl,HB.out⟩
theorem Tryz.info65:(Tryz.prog.info? 65).map (fun i=>(i.zero,i.size,i.bytes))=some (some (.agg #[.int .i64 0,.bool false,.bool false]),3,16):=by kernel_rfl
def tF (b:Bk):List Value:=[.int .i64 b.ind,.bool b.ev,.bool b.ft]
theorem Ka (b:Bk):(tF b).length=3:=rfl
def ID (n gs:Nat) (b:Bk) (v:Value) (en:Bool):Array Value:=#[.int .i64 n,.pointer (some ⟨gs,0,none⟩),.int .i64 b.ind,.bool b.ev,.bool b.ft,v,.bool en]
structure PS (B:Nat) (w0:World) (own:Nat->Nat) (W:World) (g gs n:Nat) (p:Pr):Prop where
 en:En own W
 lo:∀k,k<B->own k=0
 bel:Below B w0 W
 hB:B<=w0.heap.size
 sk:SK own 1 W gs p.sk
 pr:∃v,W.heap[g]?=some (.cells (ID n gs p.bl v p.en) 68 (0,0))/\(W.ownsRow 0 65 3 v p.ar.length (bz tF p.ar.reverse)/\∀k,v.ownBlock=some k->own k=2)
 lab:own g=2
section
variable {B:Nat} {w0:World} {own:Nat->Nat} {W:World} {g gs n:Nat} {p:Pr}
theorem PS.c0 (h:PS B w0 own W g gs n p):W.cell? ⟨g,0,none⟩=some (.int .i64 n):=by obtain ⟨v,h1,_⟩:=h.pr;exact af h1 rfl
theorem PS.c1 (h:PS B w0 own W g gs n p):W.cell? ⟨g,1,none⟩=some (.pointer (some ⟨gs,0,none⟩)):=by obtain ⟨v,h1,_⟩:=h.pr;exact af h1 rfl
theorem PS.c2 (h:PS B w0 own W g gs n p):W.cell? ⟨g,2,none⟩=some (.int .i64 p.bl.ind):=by obtain ⟨v,h1,_⟩:=h.pr;exact af h1 rfl
theorem PS.c3 (h:PS B w0 own W g gs n p):W.cell? ⟨g,3,none⟩=some (.bool p.bl.ev):=by obtain ⟨v,h1,_⟩:=h.pr;exact af h1 rfl
theorem PS.c4 (h:PS B w0 own W g gs n p):W.cell? ⟨g,4,none⟩=some (.bool p.bl.ft):=by obtain ⟨v,h1,_⟩:=h.pr;exact af h1 rfl
theorem PS.c6 (h:PS B w0 own W g gs n p):W.cell? ⟨g,6,none⟩=some (.bool p.en):=by obtain ⟨v,h1,_⟩:=h.pr;exact af h1 rfl
theorem PS.fz (h:PS B w0 own W g gs n p) (k:Nat):W.frozen? ⟨g,k,none⟩=false:=by obtain ⟨v,h1,_⟩:=h.pr;exact am h1
theorem PS.lt (h:PS B w0 own W g gs n p):g<W.heap.size:=by obtain ⟨v,h1,_⟩:=h.pr;exact aq h1
theorem PS.bl (h:PS B w0 own W g gs n p):B<=W.heap.size:=QQ h.hB h.bel.size
theorem PS.gB (h:PS B w0 own W g gs n p):B<=g:=by
 refine Nat.le_of_not_lt fun hlt=>?_
 have:=h.lo g hlt;rw [h.lab] at this;cases this
theorem PS.below (h:PS B w0 own W g gs n p) {W':World}(hb:Below W.heap.size W W'):PS B w0 own W' g gs n p:=by
 obtain ⟨v,h1,h2,h3⟩:=h.pr;exact ⟨h.en.below hb,h.lo,h.bel.trans (hb.mono h.bl),h.hB,h.sk.below hb,⟨v,ag h1 hb,bp h2 hb,h3⟩,h.lab⟩
def Sd (own own':Nat->Nat) (W W':World):Prop:=∀k,k<W.heap.size->own k=0->W'.heap[k]?=W.heap[k]?/\own' k=0
theorem Sd.refl (own:Nat->Nat) (W:World):Sd own own W W:=fun k _ h=>⟨rfl,h⟩
theorem Sd.trans {o1 o2 o3:Nat->Nat}{A C D:World}(h:Sd o1 o2 A C) (hs:A.heap.size<=C.heap.size) (k:Sd o2 o3 C D):Sd o1 o3 A D:=fun j hj h0=>
 ⟨(k j (by omega) (h j hj h0).2).1.trans (h j hj h0).1,(k j (by omega) (h j hj h0).2).2⟩
theorem PS.sink (h:PS B w0 own W g gs n p) {W':World}{s':fx}(ha:Ae own 1 W W' gs s'):∃own',PS B w0 own' W' g gs n { p with sk:=s' }/\Sd own own' W W'/\W.heap.size<=W'.heap.size:=by
 obtain ⟨own',e1,e2,e3⟩:=ha;obtain ⟨v,h1,h2⟩:=h.pr;have hlt:=aq h1;have hbl:=h.bl;refine ⟨own',⟨e1,fun k hk=>(e2.old k (by omega)).trans (h.lo k hk),h.bel.trans (e2.below hbl h.lo (by omega)),h.hB,e3,⟨v,?_,xK e2 (by omega) h2⟩,(e2.old g hlt).trans h.lab⟩,fun k hk h0=>⟨e2.block k hk (by rw [h0];omega),(e2.old k hk).trans h0⟩,e2.size⟩;exact (e2.block g hlt (by rw [h.lab];omega)).trans h1
theorem PS.sett (h:PS B w0 own W g gs n p) (b:Bool):PS B w0 own (W.setCell ⟨g,6,none⟩ (.bool b)) g gs n { p with en:=b }/\Sd own own W (W.setCell ⟨g,6,none⟩ (.bool b)):=by
 obtain ⟨v,h1,h2,h3⟩:=h.pr;have hf:Fr 2 own own W (W.setCell ⟨g,6,none⟩ (.bool b)):=(Fr.refl 2 own W).set' h.lab 6 _;have hn:Nf own (W.setCell ⟨g,6,none⟩ (.bool b)):=h.en.nf.below (Kp.set W g 6 _).size;have r1:=aM h2 h1 (by decide)
 exact ⟨⟨h.en.fr (by omega) hn hf,h.lo,h.bel.setCell (p:=⟨g,6,none⟩) h.gB _,h.hB,h.sk.kept hf (by omega),⟨v,aj h1 6 _,(Kp.set W g 6 _).row h2 (fun k e1 e2=>r1 (by rw [e1,e2])),h3⟩,h.lab⟩,
  fun k hk h0=>⟨(Kp.set W g 6 (.bool b)).block k hk (fun e=>by subst e;rw [h.lab] at h0;cases h0),h0⟩⟩
end
theorem qR {B:Nat}{w0:World}{own:Nat->Nat}{W:World}{g gs n:Nat}{p:Pr}(h:PS B w0 own W g gs n p) {U:Nat}(hp:Bp p U) (hU:U<=2147483647) (need:Nat) (hnd:need<=1000000) (hn:n<=4096) :
  Ra 41 #[.pointer (some ⟨g,0,none⟩),.int .i64 need] W fun e w'=>e=.returned (.bool (p.fits n need))/\Below W.heap.size W w':=by
 have hcol:=hp.col;have HC:Hid (∀V,Rc W V->Ra 90 #[.pointer (some ⟨gs,0,none⟩)] V fun e w'=>e=.returned (.int .i64 ((p.sk.col:Int)+p.sk.wait))/\Rc V w'):=fun V hV=>Cc (h.below hV).sk (by omega) (by omega)
 have c0:=h.c0;have c1:=h.c1;have hlt:=h.lt;have HK:Hid (∀V,Rc W V->V.cell? ⟨g,0,none⟩=some (.int .i64 n)/\V.cell? ⟨g,1,none⟩=some (.pointer (some ⟨gs,0,none⟩))/\Rc W V):=fun V hV=>⟨(h.below hV).c0,(h.below hV).c1,hV⟩
 have e:p.fits n need=decide ((need:Int)<=(n:Int)-((p.sk.col:Int)+p.sk.wait)):=by
  unfold Pr.fits Pr.at;rw [Sz];omega
 rw [e];obtain ⟨z,hz⟩:∃z:Nat,p.sk.col+p.sk.wait=z:=⟨_,rfl⟩;have hz2:(p.sk.col:Int)+p.sk.wait=(z:Int):=by omega
 rw [hz2] at HC ⊢;have hzb:z<=2147483647:=by omega
 have hwr:IntKind.i64.wrap ((n:Int)-z)=(n:Int)-z:=by rw [RA];omega
 clear hz hz2 hcol e h hp
 go_enter Tryz.func41,Tryz.ntmps41
 go_wp2_with fail
 go_region_held3 (fun w'=>w'.cell? ⟨g,0,none⟩=some (.int .i64 n)/\w'.cell? ⟨g,1,none⟩=some (.pointer (some ⟨gs,0,none⟩))/\Below W.heap.size W w') (first|(exact HK.out _ (by assumption))|(exact HK.out _ (hH _ _).drew)|go_keep) (first|(go_at_call 90;refine (HC.out _ (by first|assumption|exact (hH _ _).drew)).mono ?_;rintro e w1 ⟨rfl,hb1⟩;have hbW:=(by first|exact (hH W.heap.size W).drew.trans (hb1.mono (gt _))|assumption:Below W.heap.size W w1)))
 all_goals (
  go_wp2_with fail
  go_ret
  exact ⟨by rw [<-hwr];rfl,hbW⟩)
theorem x8 {B:Nat}{w0:World}{own:Nat->Nat}{W:World}{g gs n:Nat}{p:Pr}(h:PS B w0 own W g gs n p) {U:Nat}(hp:Bp p U) (hU:U<=2147483647) (need:Nat) (hnd:need<=1000000) (hn:n<=4096) :
  Ra 38 #[.pointer (some ⟨g,0,none⟩),.int .i64 need] W fun e w'=>e=.returned (.bool (p.brk n need))/\Below W.heap.size W w':=by
 have HF:=qR h hp hU need hnd hn;have c3:=h.c3;have c4:=h.c4;unfold Pr.brk
 generalize p.fits n need=f at *
 generalize p.bl.ev=ev at *
 generalize p.bl.ft=ft at *
 clear h hp;cases ev
 ·go_enter Tryz.func38,Tryz.ntmps38
  go_wp2_with (go_at_call 41;refine HF.mono ?_;rintro e w1 ⟨rfl,hb1⟩)
  go_ret
  exact ⟨rfl,hb1⟩
 ·go_enter Tryz.func38,Tryz.ntmps38
  go_wp2_with fail
  go_ret
  exact ⟨rfl,hH _ _⟩
def PA (B:Nat) (w0:World) (own:Nat->Nat) (W:World) (g gs n:Nat) (p':Pr) (w':World):Prop:=∃own',PS B w0 own' w' g gs n p'/\Sd own own' W w'/\W.heap.size<=w'.heap.size
theorem vt {B:Nat}{w0:World}{own:Nat->Nat}{W:World}{g gs n:Nat}{p:Pr}(h:PS B w0 own W g gs n p) {U:Nat}(hp:Bp p U) (hU:U<=2147483647) (m:Nat) (hm:m<=1000) :
  Ra 37 #[.pointer (some ⟨g,0,none⟩),.int .i64 m] W fun e w'=>e=.returned (.tuple #[])/\PA B w0 own W g gs n (p.hold m) w':=by
 have hcol:=hp.col;have HF:Hid (Ra 86 #[.pointer (some ⟨gs,0,none⟩)] W fun e w'=>e=.returned (.bool p.sk.fresh)/\w'=W):=vF h.sk;have c1:=h.c1;unfold Pr.hold;cases hf:p.sk.fresh
 ·have HB:Hid (Ra 87 #[.pointer (some ⟨gs,0,none⟩),.int .i64 m] W fun e w'=>e=.returned (.int .i64 0)/\PA B w0 own W g gs n { p with sk:=p.sk.blanks m } w'):=by
   refine (Co h.sk h.en (by omega) m (by omega) (by omega)).mono ?_;rintro e w' ⟨rfl,ha⟩;exact ⟨rfl,h.sink ha⟩
  rw [hf] at HF;clear h hp hf
  go_enter Tryz.func37,Tryz.ntmps37
  go_wp2_with (first|(go_at_call 86;refine HF.out.mono ?_;rintro e w1 ⟨rfl,rfl⟩)|(go_at_call 87;refine HB.out.mono ?_;rintro e w2 ⟨rfl,h2⟩))
  go_end0
  exact ⟨rfl,h2⟩
 ·have HE:Hid (PA B w0 own W g gs n p W):=⟨own,h,Sd.refl _ _,gt _⟩;rw [hf] at HF;clear h hp hf
  go_enter Tryz.func37,Tryz.ntmps37
  go_wp2_with (first|(go_at_call 86;refine HF.out.mono ?_;rintro e w1 ⟨rfl,rfl⟩))
  go_end0
  exact ⟨rfl,HE.out⟩
theorem vL {B:Nat}{w0:World}{own:Nat->Nat}{W:World}{g gs n:Nat}{p:Pr}(h:PS B w0 own W g gs n p) {U:Nat}(hp:Bp p U) (hU:U<=2147483647) :
  Ra 39 #[.pointer (some ⟨g,0,none⟩)] W fun e w'=>e=.returned (.tuple #[])/\PA B w0 own W g gs n p.endl w':=by
 have hcol:=hp.col;have hout:=hp.out;have hind:=hp.ind;have HF:Hid (Ra 86 #[.pointer (some ⟨gs,0,none⟩)] W fun e w'=>e=.returned (.bool p.sk.fresh)/\w'=W):=vF h.sk;have c1:=h.c1;have c2:=h.c2;have hlt:=h.lt;unfold Pr.endl;cases hf:p.sk.fresh
 ·have HB:Hid (∀V,V=W.drew->Ra 88 #[.pointer (some ⟨gs,0,none⟩),.int .i64 p.bl.ind] V fun e w'=>e=.returned (.int .i64 0)/\Hid (PA B w0 own W g gs n { p with sk:=p.sk.feed p.bl.ind } w')/\w'.cell? ⟨g,1,none⟩=some (.pointer (some ⟨gs,0,none⟩))/\w'.cell? ⟨g,2,none⟩=some (.int .i64 p.bl.ind)/\w'.cell? ⟨g,6,none⟩=some (.bool p.en)/\w'.frozen? ⟨g,6,none⟩=false):=by
   intro V hV;subst hV;have hd:=h.below (hH _ W).drew;refine (JF hd.sk hd.en (by omega) p.bl.ind (by omega) (by omega)).mono ?_;rintro e w' ⟨rfl,ha⟩;obtain ⟨own',a1,a2,a3⟩:=hd.sink ha;exact ⟨rfl,⟨own',a1,a2,a3⟩,a1.c1,a1.c2,a1.c6,a1.fz 6⟩
  rw [hf] at HF;clear h hp hf
  go_enter Tryz.func39,Tryz.ntmps39
  go_wp2_with (first|(go_at_call 86;refine HF.out.mono ?_;rintro e w1 ⟨rfl,rfl⟩))
  go_region_held3 (fun w'=>w'.cell? ⟨g,1,none⟩=some (.pointer (some ⟨gs,0,none⟩))/\w'.cell? ⟨g,2,none⟩=some (.int .i64 p.bl.ind)) (first|(exact ⟨by assumption,by assumption⟩)|(exact ⟨c1,c2⟩)|go_keep) (first|(go_at_call 88;refine (HB.out _ rfl).mono ?_;rintro e w1 ⟨rfl,HP,x1,x2,x6,f6⟩))
  all_goals (
   go_wp2_with fail
   go_end0
   obtain ⟨own',a1,a2,a3⟩:=HP.out;have a4:=a1.sett true;exact ⟨rfl,own',a4.1,a2.trans a3 a4.2,QQ a3 (Kp.set _ g 6 (.bool true)).size⟩)
 ·have HE:Hid (PA B w0 own W g gs n p W):=⟨own,h,Sd.refl _ _,gt _⟩;rw [hf] at HF;clear h hp hf
  go_enter Tryz.func39,Tryz.ntmps39
  go_wp2_with (first|(go_at_call 86;refine HF.out.mono ?_;rintro e w1 ⟨rfl,rfl⟩))
  go_end0
  exact ⟨rfl,HE.out⟩
theorem PS.box {B:Nat}{w0:World}{own:Nat->Nat}{W:World}{g gs n:Nat}{p:Pr}(h:PS B w0 own W g gs n p) (o:Obj):PS B w0 own (W.alloc o) g gs n p/\(W.alloc o).heap[W.heap.size]?=some o/\own W.heap.size=0/\Sd own own W (W.alloc o)/\W.heap.size<=(W.alloc o).heap.size:=
 ⟨h.below ((hH _ _).alloc (gt _) _),au _ _,h.en.nf _ (gt _),fun k hk h0=>⟨Below.heap_alloc W o k hk,h0⟩,by rw [QL];omega⟩
theorem PA.of {B:Nat}{w0:World}{own:Nat->Nat}{W:World}{g gs n:Nat}{p:Pr}(h:PS B w0 own W g gs n p) (o:Obj) {p':Pr}{w':World}(ha:PA B w0 own (W.alloc o) g gs n p' w'):PA B w0 own W g gs n p' w':=by
 obtain ⟨own',a1,a2,a3⟩:=ha;obtain ⟨_,_,_,b1,b2⟩:=h.box o;exact ⟨own',a1,b1.trans b2 a2,QQ b2 a3⟩
section
variable {B:Nat} {w0:World} {own:Nat->Nat} {W:World} {g gs n:Nat} {p:Pr}
theorem DR (h:PS B w0 own W g gs n p) {U:Nat}(hp:Bp p U) (hU:U<=2147483647) (need:Nat) (t:ByteArray) (ht:t.size<=65535) :
  Ra 18 #[.pointer (some ⟨g,0,none⟩),.agg #[.int .u8 1,.string t,.int .i64 0,.int .i64 0,.bool false],.int .i64 need] W fun e w'=>e=.returned (.tuple #[])/\PA B w0 own W g gs n { p with sk:=p.sk.text t,en:=false } w':=by
 have hcol:=hp.col;have hout:=hp.out;have c1:=h.c1;have hlt:=h.lt;obtain ⟨W1,hW1⟩:∃W1,W.alloc (.cells #[.int .u8 1,.string t,.int .i64 0,.int .i64 0,.bool false] 71)=W1:=⟨_,rfl⟩;obtain ⟨b1,b2,b3,b4,b5⟩:=h.box (.cells #[.int .u8 1,.string t,.int .i64 0,.int .i64 0,.bool false] 71);rw [hW1] at b1 b2 b4 b5;have x1:W1.cell? ⟨W.heap.size,1,none⟩=some (.string t):=af b2 rfl;have c1':=b1.c1
 have HB:Hid (∀V,V=W1.drew->Ra 36 #[.pointer (some ⟨gs,0,none⟩),.string t] V fun e w'=>e=.returned (.int .i64 0)/\Hid (PA B w0 own W g gs n { p with sk:=p.sk.text t } w')/\w'.cell? ⟨g,1,none⟩=some (.pointer (some ⟨gs,0,none⟩))/\w'.cell? ⟨W.heap.size,1,none⟩=some (.string t)/\w'.cell? ⟨g,6,none⟩=some (.bool p.en)/\w'.frozen? ⟨g,6,none⟩=false):=by
  intro V hV;subst hV;have hd:=b1.below (hH _ W1).drew;refine (G7 hd.sk hd.en (by omega) t (by omega)).mono ?_;rintro e w' ⟨rfl,ha⟩;obtain ⟨own',a1,a2,a3⟩:=hd.sink ha;have hb2:=a2 W.heap.size (aq b2) b3;exact ⟨rfl,⟨own',a1,b4.trans b5 a2,QQ b5 a3⟩,a1.c1,af (hb2.1.trans b2) rfl,a1.c6,a1.fz 6⟩
 have HW1:Hid (W.alloc (.cells #[.int .u8 1,.string t,.int .i64 0,.int .i64 0,.bool false] 71)=W1):=hW1;clear h hp b1 b2 b4 b5 hW1
 go_enter Tt,Tb
 go_wp2_with fail
 rw [HW1.out]
 go_region_held3 (fun w'=>w'.cell? ⟨g,1,none⟩=some (.pointer (some ⟨gs,0,none⟩))/\w'.cell? ⟨W.heap.size,1,none⟩=some (.string t)) (first|(exact ⟨by assumption,by assumption⟩)|(exact ⟨c1',x1⟩)|go_keep) (first|(go_at_call 36;refine (HB.out _ rfl).mono ?_;rintro e w1 ⟨rfl,HP,y1,y2,y6,f6⟩))
 all_goals (
  go_wp2_with fail
  go_end0
  obtain ⟨own',a1,a2,a3⟩:=HP.out;have a4:=a1.sett false;exact ⟨rfl,own',a4.1,a2.trans a3 a4.2,QQ a3 (Kp.set _ g 6 (.bool false)).size⟩)
theorem Ba (h:PS B w0 own W g gs n p) {U:Nat}(hp:Bp p U) (hU:U<=2147483647) (need:Nat) :
  Ra 18 #[.pointer (some ⟨g,0,none⟩),.agg #[.int .u8 2,.string ⟨#[]⟩,.int .i64 0,.int .i64 0,.bool false],.int .i64 need] W fun e w'=>e=.returned (.tuple #[])/\PA B w0 own W g gs n (p.hold 1) w':=by
 have HB:Hid (∀o,Ra 37 #[.pointer (some ⟨g,0,none⟩),.int .i64 1] (W.alloc o) fun e w'=>e=.returned (.tuple #[])/\PA B w0 own W g gs n (p.hold 1) w'):=fun o=>
  (vt (h.box o).1 hp hU 1 (by omega)).mono fun e w' ⟨h1,h2⟩=>⟨h1,PA.of h o h2⟩
 clear h hp
 go_enter Tt,Tb
 go_wp2_with (go_at_call 37;refine (HB.out _).mono ?_;rintro e w1 ⟨rfl,h1⟩)
 go_end0
 exact ⟨rfl,h1⟩
theorem DS (h:PS B w0 own W g gs n p) {U:Nat}(hp:Bp p U) (hU:U<=2147483647) (need:Nat) :
  Ra 18 #[.pointer (some ⟨g,0,none⟩),.agg #[.int .u8 4,.string ⟨#[]⟩,.int .i64 0,.int .i64 0,.bool false],.int .i64 need] W fun e w'=>e=.returned (.tuple #[])/\PA B w0 own W g gs n p.endl w':=by
 have HB:Hid (∀o,Ra 39 #[.pointer (some ⟨g,0,none⟩)] (W.alloc o) fun e w'=>e=.returned (.tuple #[])/\PA B w0 own W g gs n p.endl w'):=fun o=>
  (vL (h.box o).1 hp hU).mono fun e w' ⟨h1,h2⟩=>⟨h1,PA.of h o h2⟩
 clear h hp
 go_enter Tt,Tb
 go_wp2_with (go_at_call 39;refine (HB.out _).mono ?_;rintro e w1 ⟨rfl,h1⟩)
 go_end0
 exact ⟨rfl,h1⟩
theorem Ir (h:PS B w0 own W g gs n p) {U:Nat}(hp:Bp p U) (hU:U<=2147483647) (need:Nat) (hnd:need<=1000000) (hn:n<=4096) (m:Nat) (hm:m<=1000) :
  Ra 18 #[.pointer (some ⟨g,0,none⟩),.agg #[.int .u8 3,.string ⟨#[]⟩,.int .i64 m,.int .i64 0,.bool false],.int .i64 need] W fun e w'=>e=.returned (.tuple #[])/\PA B w0 own W g gs n (if p.brk n need then p.endl else p.hold m) w':=by
 obtain ⟨W1,hW1⟩:∃W1,W.alloc (.cells #[.int .u8 3,.string ⟨#[]⟩,.int .i64 m,.int .i64 0,.bool false] 71)=W1:=⟨_,rfl⟩;have hbx:=h.box (.cells #[.int .u8 3,.string ⟨#[]⟩,.int .i64 m,.int .i64 0,.bool false] 71)
 have hof:∀V,Below W1.heap.size W1 V->PS B w0 own V g gs n p/\Sd own own W V/\W.heap.size<=V.heap.size:=by
  intro V hV;obtain ⟨b1,b2,b3,b4,b5⟩:=hbx;rw [hW1] at b1 b4 b5;exact ⟨b1.below hV,b4.trans b5 (fun k hk h0=>⟨hV.block k hk,h0⟩),QQ b5 hV.size⟩
 have HK:Hid (Ra 38 #[.pointer (some ⟨g,0,none⟩),.int .i64 need] W1 fun e w'=>e=.returned (.bool (p.brk n need))/\Rc W1 w'):=by
  rw [<-hW1];exact x8 hbx.1 hp hU need hnd hn
 have x2:∀V,Below W1.heap.size W1 V->V.cell? ⟨W.heap.size,2,none⟩=some (.int .i64 m):=fun V hV=>by
  have b2:=hbx.2.1;rw [hW1] at b2;exact af (ag b2 hV) rfl
 have HX:Hid (∀V,Rc W1 V->V.cell? ⟨W.heap.size,2,none⟩=some (.int .i64 m)):=x2
 have HH:Hid (∀V,Rc W1 V->Ra 37 #[.pointer (some ⟨g,0,none⟩),.int .i64 m] V fun e w'=>e=.returned (.tuple #[])/\PA B w0 own W g gs n (p.hold m) w'):=fun V hV=>by
  obtain ⟨a1,a2,a3⟩:=hof V hV;refine (vt a1 hp hU m hm).mono ?_;rintro e w' ⟨rfl,own',d1,d2,d3⟩;exact ⟨rfl,own',d1,a2.trans a3 d2,QQ a3 d3⟩
 have HE:Hid (∀V,Rc W1 V->Ra 39 #[.pointer (some ⟨g,0,none⟩)] V fun e w'=>e=.returned (.tuple #[])/\PA B w0 own W g gs n p.endl w'):=fun V hV=>by
  obtain ⟨a1,a2,a3⟩:=hof V hV;refine (vL a1 hp hU).mono ?_;rintro e w' ⟨rfl,own',d1,d2,d3⟩;exact ⟨rfl,own',d1,a2.trans a3 d2,QQ a3 d3⟩
 have HW1:Hid (W.alloc (.cells #[.int .u8 3,.string ⟨#[]⟩,.int .i64 m,.int .i64 0,.bool false] 71)=W1):=hW1;clear hbx hof x2 h hp hW1
 generalize p.brk n need=b at *
 cases b
 ·go_enter Tt,Tb
  go_wp2_with fail
  rw [HW1.out];refine HK.out.mono ?_;rintro e w1 ⟨rfl,hb1⟩;have y2:=HX.out _ hb1;have HB1:Hid (Rc W1 w1):=hb1;clear hb1
  go_wp2_with (first|(go_at_call 37;refine (HH.out _ HB1.out).mono ?_;rintro e w2 ⟨rfl,h2⟩))
  go_end0
  exact ⟨rfl,h2⟩
 ·go_enter Tt,Tb
  go_wp2_with fail
  rw [HW1.out];refine HK.out.mono ?_;rintro e w1 ⟨rfl,hb1⟩;have HB1:Hid (Rc W1 w1):=hb1;clear hb1
  go_wp2_with (first|(go_at_call 39;refine (HE.out _ HB1.out).mono ?_;rintro e w2 ⟨rfl,h2⟩))
  go_end0
  exact ⟨rfl,h2⟩
theorem A9 (h:PS B w0 own W g gs n p) {U:Nat}(hp:Bp p U) (hU:U<=2147483647) (need:Nat) :
  Ra 18 #[.pointer (some ⟨g,0,none⟩),.agg #[.int .u8 5,.string ⟨#[]⟩,.int .i64 0,.int .i64 0,.bool false],.int .i64 need] W fun e w'=>e=.returned (.tuple #[])/\PA B w0 own W g gs n (if p.en then { p with sk:=p.sk.empty,en:=false } else p) w':=by
 obtain ⟨W1,hW1⟩:∃W1,W.alloc (.cells #[.int .u8 5,.string ⟨#[]⟩,.int .i64 0,.int .i64 0,.bool false] 71)=W1:=⟨_,rfl⟩;obtain ⟨b1,b2,b3,b4,b5⟩:=h.box (.cells #[.int .u8 5,.string ⟨#[]⟩,.int .i64 0,.int .i64 0,.bool false] 71);have hlt:=h.lt;have c6:=h.c6;have c1:=h.c1;rw [hW1] at b1 b4 b5;have hout:=hp.out
 have HB:Hid (Ra 40 #[.pointer (some ⟨gs,0,none⟩)] W1 fun e w'=>e=.returned (.int .i64 0)/\Hid (PA B w0 own W g gs n { p with sk:=p.sk.empty } w')/\w'.cell? ⟨g,6,none⟩=some (.bool p.en)/\w'.frozen? ⟨g,6,none⟩=false):=by
  refine (Fm b1.sk b1.en (by omega) (by omega)).mono ?_;rintro e w' ⟨rfl,ha⟩;obtain ⟨own',a1,a2,a3⟩:=b1.sink ha;exact ⟨rfl,⟨own',a1,b4.trans b5 a2,QQ b5 a3⟩,a1.c6,a1.fz 6⟩
 have HE:Hid (PA B w0 own W g gs n p W1):=⟨own,b1,b4,b5⟩;have HW1:Hid (W.alloc (.cells #[.int .u8 5,.string ⟨#[]⟩,.int .i64 0,.int .i64 0,.bool false] 71)=W1):=hW1;clear b1 b2 b4 b5 h hp hW1;cases he:p.en
 ·rw [he] at c6
  go_enter Tt,Tb
  go_wp2_with fail
  go_end0
  rw [HW1.out];exact ⟨rfl,HE.out⟩
 ·rw [he] at c6
  go_enter Tt,Tb
  go_wp2_with fail
  rw [HW1.out];refine HB.out.mono ?_;rintro e w1 ⟨rfl,HP,y6,f6⟩
  go_wp2_with fail
  go_end0
  obtain ⟨own',a1,a2,a3⟩:=HP.out;have a4:=a1.sett false;exact ⟨rfl,own',a4.1,a2.trans a3 a4.2,QQ a3 (Kp.set _ g 6 (.bool false)).size⟩
end
end Go.Proofs.YtjiepkenkcgkhaaGreatDoor.Lw
