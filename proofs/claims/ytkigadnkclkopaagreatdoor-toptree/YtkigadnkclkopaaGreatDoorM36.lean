import Derived.Defers
import Derived.Recover
import Derived.Laws.Pointers
import Derived.Test.YtkigadnkclkopaaGreatDoorM33
import Derived.Test.YtkigadnkclkopaaGreatDoorM35
set_option linter.unusedVariables false
set_option linter.unusedSimpArgs false
namespace Go.Proofs.YtkigadnkclkopaaGreatDoor
open Go.RowKit
structure RL (w0 W:World) (g p:Nat) (k:Int) (r:List Ev) (ao:Option Addr) (cap:Nat) (c:List Nd) (sv:Value) (vs:List Value) (V:World):Prop where
 rs:RS w0 g p r ao cap V
 kp:Kp (fun k=>k=g) W V
 gW:g<W.heap.size
 pW:p<W.heap.size
 rb:V.heap[W.heap.size]?=some (NdB 0 tv0 (.slice none 0 0))
 nb:V.heap[W.heap.size+1+1]?=some (NdB k tv0 sv)
 rn:RN V sv c vs
 sB:∀b,sv.ownBlock=some b→W.heap.size+3≤b
 tl:TL (fun b=>W.heap.size+3≤b∧sv.ownBlock≠some b) V c vs
theorem RL.below {w0 W:World}{g p:Nat}{k:Int}{r:List Ev}{ao:Option Addr}{cap:Nat}{c:List Nd}{sv:Value}{vs:List Value}{V V':World}(h:RL w0 W g p k r ao cap c sv vs V) (hb:Below V.heap.size V V'):RL w0 W g p k r ao cap c sv vs V':=by
 have hk:Kp (fun _=>False) V V':=Kp.of_below hb
 exact ⟨h.rs.below hb,h.kp.step hk (fun _ _ h=>h.elim),h.gW,h.pW,blk_below h.rb hb,blk_below h.nb hb,h.rn.kp hk (fun _ _ h=>h),h.sB,TL.kp hk (fun _ _ h=>h) _ _ h.tl⟩
theorem RL.call {w0 W:World}{g p:Nat}{k:Int}{r r':List Ev}{ao ao':Option Addr}{cap cap':Nat}{c:List Nd}{sv:Value}{vs:List Value}{V V':World}(h:RL w0 W g p k r ao cap c sv vs V) (hk:Kp (fun k=>k=g) V V') (rs:RS w0 g p r' ao' cap' V'):RL w0 W g p k r' ao' cap' c sv vs V':=by
 have gW:=h.gW
 exact ⟨rs,h.kp.step hk (fun _ _ h=>h),h.gW,h.pW,hk.blk h.rb (by omega),hk.blk h.nb (by omega),h.rn.kp hk (fun b e=>by have:=h.sB b e;omega),h.sB,TL.kp hk (fun b e=>by have:=e.1;omega) _ _ h.tl⟩
theorem RL.oth {w0 W:World}{g p:Nat}{k:Int}{r:List Ev}{ao:Option Addr}{cap:Nat}{c:List Nd}{sv:Value}{vs:List Value}{V V':World}{q:Nat}(h:RL w0 W g p k r ao cap c sv vs V) (hk:Kp (fun k=>k=q) V V') (hq:W.heap.size+3≤q) (h1:sv.ownBlock≠some q) (ht:TL (fun b=>(W.heap.size+3≤b∧sv.ownBlock≠some b)∧b≠q) V c vs):RL w0 W g p k r ao cap c sv vs V':=by
 have gW:=h.gW
 have pW:=h.pW
 have g0:=h.rs.g0
 exact ⟨h.rs.kp hk (fun b e=>by subst e;exact ⟨by omega,by omega,by omega⟩),h.kp.step hk (fun b hb e=>by omega),h.gW,h.pW,hk.blk h.rb (by omega),hk.blk h.nb (by omega),h.rn.kp hk (fun b e e2=>h1 (by rw [e,e2])),h.sB,TL.sub (fun b _ e=>e.1) _ _ (TL.kp hk (fun b e e2=>e.2 e2) _ _ ht)⟩
theorem RL.push {w0 W:World}{g p:Nat}{k:Int}{r:List Ev}{ao:Option Addr}{cap:Nat}{c:List Nd}{sv v' x:Value}{vs:List Value}{V V1 w8:World}{n:Nd}(h:RL w0 W g p k r ao cap c sv vs V) (hb:Below V.heap.size V V1) (hn:TN (fun b=>W.heap.size+3≤b∧sv.ownBlock≠some b) V n x) (hr:RN w8 v' (c++[n]) (vs++[x])) (hg:V1.grownBy w8 sv.ownBlock) (hq:Nb V1 sv v') :
  (w8.cell? ⟨W.heap.size+1+1,7,none⟩=some sv∧w8.frozen? ⟨W.heap.size+1+1,7,none⟩=false∧W.heap.size+1+1<w8.heap.size)∧RL w0 W g p k r ao cap (c++[n]) v' (vs++[x]) (w8.setCell ⟨W.heap.size+1+1,7,none⟩ v'):=by
 have gW:=h.gW
 have pW:=h.pW
 have g0:=h.rs.g0
 have h1:=h.below hb
 have kg:=Kp.of_grown hg
 have hS:∀b,some b=sv.ownBlock→W.heap.size+3≤b:=fun b e=>h.sB b e.symm
 have nb8:=kg.blk h1.nb (fun e=>by have:=hS _ e;omega)
 have rb8:=kg.blk h1.rb (fun e=>by have:=hS _ e;omega)
 have rs8:RS w0 g p r ao cap w8:=h1.rs.kp kg (fun b e=>by have:=hS b e;exact ⟨by omega,by omega,by omega⟩)
 have ks:=Kp.set w8 (W.heap.size+1+1) 7 v'
 have hsz:W.heap.size+3≤V1.heap.size:=by have:=blk_lt h1.nb;omega
 have vB:∀b,v'.ownBlock=some b→W.heap.size+3≤b:=by
  intro b e
  rcases hq with hq|⟨q,e1,hq⟩
  ·exact h.sB b (by rw [←hq];exact e)
  ·rw [e1] at e
   simp at e
   omega
 have t1:TL (fun b=>W.heap.size+3≤b∧sv.ownBlock≠some b) V1 (c++[n]) (vs++[x]):=TL.kp (Kp.of_below (S:=fun _=>False) hb) (fun _ _ h=>h) _ _ (TL.app hn h.tl)
 have t2:TL (fun b=>W.heap.size+3≤b∧v'.ownBlock≠some b) V1 (c++[n]) (vs++[x]):=TL.sub (fun b hb2 e=>⟨e.1,by
  rcases hq with hq|⟨q,e1,hq⟩
  ·rw [hq];exact e.2
  ·rw [e1];intro e3;simp at e3;omega⟩) _ _ t1
 have t3:TL (fun b=>W.heap.size+3≤b∧sv.ownBlock≠some b) w8 (c++[n]) (vs++[x]):=TL.kp kg (fun b e e2=>e.2 e2.symm) _ _ t1
 have t4:TL (fun b=>W.heap.size+3≤b∧v'.ownBlock≠some b) w8 (c++[n]) (vs++[x]):=by
  rcases hq with hq|⟨q,e1,hq⟩
  ·rw [hq];exact t3
  ·refine TL.sub (fun b hb2 e=>⟨e.1.1,e.2⟩) _ _ (TL.kp (O:=fun b=>(W.heap.size+3≤b∧sv.ownBlock≠some b)∧v'.ownBlock≠some b) kg (fun b e e2=>e.1.2 e2.symm) _ _ (TL.sub (fun b hb2 e=>⟨e,?_⟩) _ _ t1))
   rw [e1];intro e3;simp at e3;omega
 refine ⟨⟨blk_cell nb8 rfl,blk_frozen nb8,blk_lt nb8⟩,⟨rs8.kp ks (fun b e=>by subst e;exact ⟨by omega,by omega,by omega⟩),((h1.kp.step kg (fun b hb2 e=>by have:=hS b e;omega)).step ks (fun b hb2 e=>by omega)),h.gW,h.pW,blk_other rb8 (by omega) _,?_,hr.kp ks (fun b e e2=>by have:=vB b e;omega),vB,TL.kp ks (fun b e e2=>by have:=e.1;omega) _ _ t4⟩⟩
 have:=blk_set nb8 7 v'
 rw [this]
 simp
theorem rl_start {w0 W:World}{g p:Nat}{r:List Ev}{ao:Option Addr}{cap:Nat}{ek en:Int}{ed:Tv}{V:World}(h:R2 w0 W g p r ao cap ek en ed V) (hs:V.heap.size=W.heap.size+1+1) (hgW:g<W.heap.size) (hpW:p<W.heap.size) (k:Int):RL w0 W g p k r ao cap [] (.slice none 0 0) [] (V.alloc (NdB k tv0 (.slice none 0 0))):=by
 have hb:=below_new V (NdB k tv0 (.slice none 0 0))
 have h':=h.below hb
 refine ⟨h'.rs,h'.kp,hgW,hpW,h'.rb,?_,rn_nil _,(fun b e=>by cases e),by rw [TL]⟩
 rw [←hs]
 exact new_at _ _
def lenAt (w:World) (g:Nat):Nat:=match w.cell? ⟨g,0,none⟩ with
 |some (.slice _ n _)=>n
 |_=>0
theorem RL.len {w0 W:World}{g p:Nat}{k:Int}{r:List Ev}{ao:Option Addr}{cap:Nat}{c:List Nd}{sv:Value}{vs:List Value}{V:World}(h:RL w0 W g p k r ao cap c sv vs V):lenAt V g=r.length:=by
 have:V.cell? ⟨g,0,none⟩=some (.slice ao r.length cap):=blk_cell h.rs.hg rfl
 simp [lenAt,this]
theorem RL.out {w0 W:World}{g p:Nat}{k:Int}{r:List Ev}{ao:Option Addr}{cap:Nat}{c:List Nd}{sv:Value}{vs:List Value}{V:World}(h:RL w0 W g p k r ao cap c sv vs V) (k':Int) (d:Tv) (s:Value) :
  RS w0 g p r ao cap (sets8 V W.heap.size k' d s)∧Kp (fun k=>k=g) W (sets8 V W.heap.size k' d s)∧(sets8 V W.heap.size k' d s).heap[W.heap.size]?=some (NdB k' d s)∧TN (fun b=>W.heap.size≤b) (sets8 V W.heap.size k' d s) (.mk k tv0 c) sv:=by
 have hk:=sets8_kp V W.heap.size k' d s
 have gW:=h.gW
 have pW:=h.pW
 have g0:=h.rs.g0
 refine ⟨h.rs.kp hk (fun j e=>by subst e;exact ⟨by omega,by omega,by omega⟩),h.kp.step hk (fun j hj e=>by omega),sets8_at h.rb k' d s,?_⟩
 rw [TN]
 refine ⟨vs,h.rn.kp hk (fun b e e2=>by have:=h.sB b e;omega),fun b e=>by have:=h.sB b e;omega,TL.sub (fun b _ e=>by have:=e.1;omega) _ _ (TL.kp hk (fun b e e2=>by have:=e.1;omega) _ _ h.tl)⟩
structure LI (w0 W:World) (g p a:Nat) (l:List Ev) (k:Int) (good:Bool) (V:World):Prop where
 ex:∃r ao cap c sv vs,RL w0 W g p k r ao cap c sv vs V∧c.length+r.length<l.length∧(if good then Lnk a l k c r∧k≠0∧a<1000 else Bad a l)
theorem RL.kid {w0 W:World}{g p:Nat}{k:Int}{r r':List Ev}{ao ao':Option Addr}{cap cap':Nat}{c:List Nd}{sv x:Value}{vs:List Value}{V w6:World}{n:Nd}{k0:Int}{d0:Tv}{s0:Value}(h:RL w0 W g p k r ao cap c sv vs V) (hk:Kp (fun k=>k=g) (V.alloc (NdB k0 d0 s0)) w6) (rs:RS w0 g p r' ao' cap' w6) (hn:TN (fun b=>(V.alloc (NdB k0 d0 s0)).heap.size≤b) w6 n x) :
  RL w0 W g p k r' ao' cap' c sv vs (sets8 w6 V.heap.size n.k n.d x)∧TN (fun b=>W.heap.size+3≤b∧sv.ownBlock≠some b) (sets8 w6 V.heap.size n.k n.d x) n x∧(sets8 w6 V.heap.size n.k n.d x).heap[V.heap.size]?=some (NdB n.k n.d x):=by
 have gW:=h.gW
 have hsz:W.heap.size+3≤V.heap.size:=by have:=blk_lt h.nb;omega
 have hgV:g<V.heap.size:=blk_lt h.rs.hg
 have hb:=below_new V (NdB k0 d0 s0)
 have hs:=size_al V (NdB k0 d0 s0)
 rw [hs] at hn
 have k8:=sets8_kp w6 V.heap.size n.k n.d x
 have h6:=(h.below hb).call hk rs
 have t6:TL (fun b=>(W.heap.size+3≤b∧sv.ownBlock≠some b)∧b≠V.heap.size) w6 c vs:=
  TL.kp hk (fun b e e2=>by have:=e.1.1;omega) _ _ (TL.kp (Kp.of_below (S:=fun _=>False) hb) (fun _ _ h=>h) _ _ (TL.sub (fun b hlt e=>⟨e,by omega⟩) _ _ h.tl))
 have b6:w6.heap[V.heap.size]?=some (NdB k0 d0 s0):=hk.blk (new_at _ _) (by omega)
 refine ⟨h6.oth k8 hsz (fun e=>by have:=h.rn.lt _ e;omega) t6,TN.sub (fun b _ e=>⟨by omega,fun e2=>by have:=h.rn.lt _ e2;omega⟩) _ _ (TN.kp k8 (fun b e e2=>by omega) _ _ hn),sets8_at b6 _ _ _⟩
set_option maxRecDepth 100000 in
set_option maxHeartbeats 1000000 in
theorem read_open (w0:World) (g p:Nat) (e:Ev) (r:List Ev) (h1:e.k=1) (hlen:(e :: r).length≤1000000000) (IH:∀l:List Ev,l.length<(e :: r).length→l≠[]→ReadC w0 g p l):ReadC w0 g p (e :: r):=by
 intro a ao cap W ha h3 hI
 obtain ⟨b,off,ao2,cap2,rfl,hbl,⟨c0,c1,c2,c3,c4,c5,c6,c7⟩,hsl,hc2,hm2,hle2⟩:=hI.le.tail (cap:=cap) (by have:=hI.lc;simpa using this) hI.cm
 have HI:Hid (RS w0 g p (e :: r) (some ⟨b,off,none⟩) cap W):=hI
 have tr:∀i u,w0.cell? ⟨b,i,none⟩=some u→W.cell? ⟨b,i,none⟩=some u:=fun i u hu=>(World.cell?_of_block (a:=⟨b,i,none⟩) (hI.bel.block b hbl)).trans hu
 replace c0:=tr _ _ c0
 replace c1:=tr _ _ c1
 replace c2:=tr _ _ c2
 replace c3:=tr _ _ c3
 replace c4:=tr _ _ c4
 replace c5:=tr _ _ c5
 replace c6:=tr _ _ c6
 replace c7:=tr _ _ c7
 have hbW:b<W.heap.size:=World.block_lt_of_cell? _ _ c0
 have hgW:g<W.heap.size:=blk_lt hI.hg
 have hpW:p<W.heap.size:=blk_lt hI.hp
 have hcg:W.cell? ⟨g,0,none⟩=some (.slice (some ⟨b,off,none⟩) (r.length+1) cap):=blk_cell hI.hg rfl
 have hfg:W.frozen? ⟨g,0,none⟩=false:=blk_frozen hI.hg
 have hbg:b≠g:=fun e=>by have:=hI.g0;omega
 obtain ⟨⟨ek,en,ed⟩,he⟩:∃x,e=x:=⟨_,rfl⟩
 subst he
 dsimp only at *
 subst h1
 have HIH:Hid (∀l:List Ev,l.length<((⟨1,en,ed⟩:Ev) :: r).length→l≠[]→ReadC w0 g p l):=IH
 have HTk:Hid (∀V,Calls Tryz.prog 36 #[ndv en tv0 (.slice none 0 0)] V fun r w'=>r=.returned (.bool (en == 0))∧Below V.heap.size V w'):=fun V=>isTok_any en tv0 none 0 0 V
 obtain ⟨W2,eW2⟩:∃W2,(((W.setCell ⟨g,0,none⟩ (.slice ao2 r.length cap2)).alloc (NdB 0 tv0 (.slice none 0 0))).alloc (EvB 1 en ed)).alloc (NdB en tv0 (.slice none 0 0))=W2:=⟨_,rfl⟩
 have H2:Hid (RL w0 W g p en r ao2 cap2 [] (.slice none 0 0) [] W2):=by
  rw [←eW2]
  refine rl_start (r2_start hI hle2 hc2 hm2 1 en ed) ?_ hgW hpW en
  rw [size_al,size_al]
  show (W.heap.modify g _).size+1+1=_
  rw [Array.size_modify]
 clear hI tr IH
 go_enter Tryz.func38,Tryz.ntmps38
 go_upto_region 6 with fail
 dsimp only [NdB,EvB,tv0] at eW2
 rw [eW2]
 obtain ⟨⟨n0,n1,n2,n3,n4,n5,n6,n7⟩,nl⟩:=nd_cells H2.out.nb
 clear eW2 c0 c1 c2 c3 c4 c5 c6 c7 hcg hfg hsl
 dsimp only [tv0] at n1 n2 n3 n4 n5 n6 HTk
 go_cut [8] from 30 to 36 (fun t wx=>∃good:Bool,t=.bool good∧Hid (LI w0 W g p a (⟨1,en,ed⟩ :: r) en good wx))
 case first=>
  by_cases hz:en=0
  ·subst hz
   go_wp2_with (go_at_call 36;refine (HTk.out _).mono ?_;rintro x w3 ⟨rfl,hb3⟩;have H3:Hid (LI w0 W g p a (⟨1,0,ed⟩ :: r) 0 false w3):=⟨r,ao2,cap2,[],_,[],H2.out.below hb3,by simp,by simp only [Bool.false_eq_true,if_false];exact open_bad rfl (.inl rfl)⟩;clear hb3)
   go_meet
   exact ⟨false,rfl,H3⟩
  ·have hzb:(en == 0)=false:=by simpa using hz
   rw [hzb] at HTk
   by_cases hz2:a<1000
   ·have hz3:(a:Int)<1000:=by omega
    go_wp2_with (go_at_call 36;refine (HTk.out _).mono ?_;rintro x w3 ⟨rfl,hb3⟩;have H3:Hid (LI w0 W g p a (⟨1,en,ed⟩ :: r) en true w3):=⟨r,ao2,cap2,[],_,[],H2.out.below hb3,by simp,by simp only [if_true];exact ⟨open_lnk rfl (fun h=>h.elim hz (fun h=>by omega)),hz,hz2⟩⟩;clear hb3)
    go_meet
    exact ⟨true,by first|rfl|simp [hz3],H3⟩
   ·have hz3:¬((a:Int)<1000):=by omega
    go_wp2_with (go_at_call 36;refine (HTk.out _).mono ?_;rintro x w3 ⟨rfl,hb3⟩;have H3:Hid (LI w0 W g p a (⟨1,en,ed⟩ :: r) en false w3):=⟨r,ao2,cap2,[],_,[],H2.out.below hb3,by simp,by simp only [Bool.false_eq_true,if_false];exact open_bad rfl (.inr (by omega))⟩;clear hb3)
    go_meet
    exact ⟨false,by first|rfl|simp [hz3],H3⟩
 case rest=>
  obtain ⟨good0,rfl,H3⟩:=hcut
  clear H2 n0 n1 n2 n3 n4 n5 n6 n7 nl HTk
  go_wp2_with fail
  go_loopw [8] (fun gv wr=>∃good:Bool,gv=.bool good∧Hid (LI w0 W g p a (⟨1,en,ed⟩ :: r) en good wr)) (fun _ wr=>lenAt wr g)
  case atStart=>exact ⟨good0,rfl,H3⟩
  case round=>
   obtain ⟨good,rfl,HJ⟩:=hrel
   obtain ⟨r3,ao3,cap3,c3,sv3,vs3,hL,hc,hg⟩:=HJ.out.ex
   have HL:=hid hL
   have hlen3:=hL.len
   obtain ⟨⟨y0,y1,y2,y3,y4,y5,y6,y7⟩,yl⟩:=nd_cells hL.rb
   obtain ⟨f0,f1,f2,f3,f4,f5,f6,f7⟩:=nd_frozen hL.rb
   have zg:wr.cell? ⟨g,0,none⟩=some (.slice ao3 r3.length cap3):=blk_cell hL.rs.hg rfl
   have zf:wr.frozen? ⟨g,0,none⟩=false:=blk_frozen hL.rs.hg
   have zgl:g<wr.heap.size:=blk_lt hL.rs.hg
   have zn:wr.cell? ⟨W.heap.size+1+1,0,none⟩=some (.int .u8 en):=blk_cell hL.nb rfl
   have znl:W.heap.size+1+1<wr.heap.size:=blk_lt hL.nb
   have HR:Hid (∀V wz,Below wr.heap.size wr V→sets8 V W.heap.size 0 tv0 (.slice none 0 0)=wz→Bad a (⟨1,en,ed⟩ :: r)→RdP w0 g p a (⟨1,en,ed⟩ :: r) W (.returned (.tuple #[ndv 0 tv0 (.slice none 0 0),.bool false])) wz∧wz.heap[W.heap.size]?=some (NdB 0 tv0 (.slice none 0 0))):=fun V wz hb e hbad=>by
    subst e
    obtain ⟨a1,a2,a3,a4⟩:=(hL.below hb).out 0 tv0 (.slice none 0 0)
    exact ⟨⟨.mk 0 tv0 [],_,false,r3,ao3,cap3,rfl,a1,a2,by simp at hc ⊢;omega,tn_nil _ _ _ _,by simp only [Bool.false_eq_true,if_false];exact hbad⟩,a3⟩
   clear HJ
   cases good with
   |false=>
    simp only [Bool.false_eq_true,if_false] at hg
    have Hg:=hid hg
    clear hg hL
    go_wp2_with fail
    go_quiet (fail)
    go_wp2_with fail
    obtain ⟨wz,ez⟩:∃wz,sets8 (wr.drewN nq) W.heap.size 0 tv0 (.slice none 0 0)=wz:=⟨_,rfl⟩
    obtain ⟨hz1,hz2⟩:=HR.out _ wz (below_dn (Below.refl _ _) nq) ez Hg.out
    dsimp only [sets8,tv0] at ez
    rw [ez]
    obtain ⟨⟨x0,x1,x2,x3,x4,x5,x6,x7⟩,xl⟩:=nd_cells hz2
    refine bodyPost_ret (v:=.tuple #[ndv 0 tv0 (.slice none 0 0),.bool false]) (by simp [results,Tryz.f38,go_sem,x0,x1,x2,x3,x4,x5,x6,x7]) rfl ?_
    exact hz1
   |true=>
    simp only [if_true] at hg
    have Hg:=hid hg
    clear hg
    cases r3 with
    |nil=>
     clear hL
     go_wp2_with fail
     go_quiet (fail)
     go_wp2_with fail
     obtain ⟨wz,ez⟩:∃wz,sets8 (wr.drewN nq) W.heap.size 0 tv0 (.slice none 0 0)=wz:=⟨_,rfl⟩
     obtain ⟨hz1,hz2⟩:=HR.out _ wz (below_dn (Below.refl _ _) nq) ez Hg.out.1.nil
     dsimp only [sets8,tv0] at ez
     rw [ez]
     obtain ⟨⟨x0,x1,x2,x3,x4,x5,x6,x7⟩,xl⟩:=nd_cells hz2
     refine bodyPost_ret (v:=.tuple #[ndv 0 tv0 (.slice none 0 0),.bool false]) (by simp [results,Tryz.f38,go_sem,x0,x1,x2,x3,x4,x5,x6,x7]) rfl ?_
     exact hz1
    |cons e3 r4=>
     obtain ⟨b3,off3,ao4,cap4,rfl,hbl3,⟨k0,k1,k2,k3,k4,k5,k6,k7⟩,hsl3,hc3,hm3,hle3⟩:=hL.rs.le.tail (cap:=cap3) (by have:=hL.rs.lc;simpa using this) hL.rs.cm
     have tr3:∀i u,w0.cell? ⟨b3,i,none⟩=some u→wr.cell? ⟨b3,i,none⟩=some u:=fun i u hu=>(World.cell?_of_block (a:=⟨b3,i,none⟩) (hL.rs.bel.block b3 hbl3)).trans hu
     replace k0:=tr3 _ _ k0
     replace k1:=tr3 _ _ k1
     have hb3W:b3<wr.heap.size:=World.block_lt_of_cell? _ _ k0
     have hl4:(0:Int)<(r4.length:Int)+1:=by omega
     have hl5:¬((r4.length:Int)+1=0):=by omega
     have zg':wr.cell? ⟨g,0,none⟩=some (.slice (some ⟨b3,off3,none⟩) (r4.length+1) cap3):=zg
     clear tr3 k2 k3 k4 k5 k6 k7 zg
     by_cases h33:e3.k=3
     ·have h33b:(e3.k != 3)=false:=by simpa using h33
      by_cases hnn:e3.n=en
      ·have hnnb:(e3.n != en)=false:=by simpa using hnn
       have hnnb2:(e3.n == en)=true:=by simpa using hnn
       obtain ⟨ps,cs,hsv,_⟩:=hL.rn.shape
       subst hsv
       obtain ⟨⟨m0,m1,m2,m3,m4,m5,m6,m7⟩,ml⟩:=nd_cells hL.nb
       dsimp only [tv0] at m1 m2 m3 m4 m5 m6
       have HS:Hid (∀V wz,Below wr.heap.size wr V→sets8 (V.setCell ⟨g,0,none⟩ (.slice ao4 r4.length cap4)) W.heap.size en tv0 (.slice ps c3.length cs)=wz→RdP w0 g p a (⟨1,en,ed⟩ :: r) W (.returned (.tuple #[ndv en tv0 (.slice ps c3.length cs),.bool true])) wz∧wz.heap[W.heap.size]?=some (NdB en tv0 (.slice ps c3.length cs))):=fun V wz hb e=>by
        subst e
        have h1:=hL.below hb
        obtain ⟨a1,a2,a3,a4⟩:=(h1.call (Kp.set _ _ _ _) (h1.rs.set hle3 hc3 hm3)).out en tv0 (.slice ps c3.length cs)
        exact ⟨⟨.mk en tv0 c3,_,true,r4,ao4,cap4,rfl,a1,a2,by simp at hc ⊢;omega,a4,by simp only [if_true];exact Hg.out.1.shut h33 hnn Hg.out.2.1⟩,a3⟩
       have hgn:g≠W.heap.size:=by omega
       have hgn2:g≠W.heap.size+1+1:=by omega
       clear hL
       go_wp2_with fail
       go_quiet (fail)
       go_wp2_with fail
       obtain ⟨wz,ez⟩:∃wz,sets8 ((wr.drewN nq).setCell ⟨g,0,none⟩ (.slice ao4 r4.length cap4)) W.heap.size en tv0 (.slice ps c3.length cs)=wz:=⟨_,rfl⟩
       obtain ⟨hz1,hz2⟩:=HS.out _ wz (below_dn (Below.refl _ _) nq) ez
       dsimp only [sets8,tv0] at ez
       rw [ez]
       obtain ⟨⟨x0,x1,x2,x3,x4,x5,x6,x7⟩,xl⟩:=nd_cells hz2
       refine bodyPost_ret (v:=.tuple #[ndv en tv0 (.slice ps c3.length cs),.bool true]) (by simp [results,Tryz.f38,go_sem,x0,x1,x2,x3,x4,x5,x6,x7]) rfl ?_
       exact hz1
      ·have hnnb:(e3.n != en)=true:=by simpa using hnn
       clear hL
       go_wp2_with fail
       go_quiet (fail)
       go_wp2_with fail
       obtain ⟨wz,ez⟩:∃wz,sets8 (wr.drewN nq) W.heap.size 0 tv0 (.slice none 0 0)=wz:=⟨_,rfl⟩
       obtain ⟨hz1,hz2⟩:=HR.out _ wz (below_dn (Below.refl _ _) nq) ez (Hg.out.1.other h33 hnn)
       dsimp only [sets8,tv0] at ez
       rw [ez]
       obtain ⟨⟨x0,x1,x2,x3,x4,x5,x6,x7⟩,xl⟩:=nd_cells hz2
       refine bodyPost_ret (v:=.tuple #[ndv 0 tv0 (.slice none 0 0),.bool false]) (by simp [results,Tryz.f38,go_sem,x0,x1,x2,x3,x4,x5,x6,x7]) rfl ?_
       exact hz1
     ·have h33b:(e3.k != 3)=true:=by simpa using h33
      obtain ⟨ps,cs,hsv,_⟩:=hL.rn.shape
      subst hsv
      have yp:wr.cell? ⟨p,0,none⟩=some (readF g p):=blk_cell hL.rs.hp rfl
      have ypl:p<wr.heap.size:=blk_lt hL.rs.hp
      have HC:Hid (Calls Tryz.prog 38 #[.int .i64 ((a:Int)+1),.pointer (some ⟨g,0,none⟩),.pointer (some ⟨p,0,none⟩)] (wr.alloc (NdB 0 tv0 (.slice none 0 0))) (RdP w0 g p (a+1) (e3 :: r4) (wr.alloc (NdB 0 tv0 (.slice none 0 0))))):=HIH.out (e3 :: r4) (by simp at hc ⊢;omega) (by simp) (a+1) _ _ _ (by have:=Hg.out.2.2;omega) (fun e' r' he hk=>by cases he;exact absurd hk h33) (hL.rs.below (below_new _ _))
      have haI:(a:Int)<1000:=by have:=Hg.out.2.2;omega
      have hcc:c3.length≤1000000000:=by simp at hc hlen;omega
      clear hL
      go_wp2_with fail
      refine HC.out.mono ?_
      rintro x w6 ⟨n6,sv6,ok6,r6,ao6,cap6,rfl,rs6,kp6,hl6,tn6,hok6⟩
      obtain ⟨p6,m6,c6,hsv6⟩:∃p6 m6 c6,sv6=.slice p6 m6 c6:=by
       obtain ⟨nk,ndd,ncc⟩:=n6
       rw [TN] at tn6
       obtain ⟨vs6,hrn6,_⟩:=tn6
       obtain ⟨pp,cp,e,_⟩:=hrn6.shape
       exact ⟨pp,_,cp,e⟩
      subst hsv6
      have K6:=HL.out.kid kp6 rs6 tn6
      have H6:=hid K6
      have b6:w6.heap[wr.heap.size]?=some (NdB 0 tv0 (.slice none 0 0)):=kp6.blk (new_at _ _) (by omega)
      obtain ⟨⟨t0,t1,t2,t3,t4,t5,t6,t7⟩,tl⟩:=nd_cells b6
      obtain ⟨u0,u1,u2,u3,u4,u5,u6,u7⟩:=nd_frozen b6
      have Hok:=hid hok6
      clear K6 b6 hok6 rs6 kp6 tn6
      go_upto_region 10 with fail
      obtain ⟨w7,e7⟩:∃w7,sets8 w6 wr.heap.size n6.k n6.d (.slice p6 m6 c6)=w7:=⟨_,rfl⟩
      rw [e7] at H6
      dsimp only [sets8] at e7
      rw [e7]
      obtain ⟨⟨i0,i1,i2,i3,i4,i5,i6,i7⟩,il⟩:=nd_cells H6.out.2.2
      have j7:w7.cell? ⟨W.heap.size+1+1,7,none⟩=some (.slice ps c3.length cs):=blk_cell H6.out.1.nb rfl
      have jl:W.heap.size+1+1<w7.heap.size:=blk_lt H6.out.1.nb
      have HRn:Hid (∀V,Below w7.heap.size w7 V→RN V (.slice ps c3.length cs) c3 vs3):=fun V hb=>(H6.out.1.below hb).rn
      clear e7 t0 t1 t2 t3 t4 t5 t6 t7 tl u0 u1 u2 u3 u4 u5 u6 u7 HC k0 k1 zg' zf zgl zn znl y0 y1 y2 y3 y4 y5 y6 y7 yl f0 f1 f2 f3 f4 f5 f6 f7 yp ypl hsl3 hb3W
      have HD:Hid (∀r6':List Ev,r6'=r6→lenAt wr g=(e3 :: r4).length∧r6'.length<(e3 :: r4).length):=fun r6' e=>by subst e;exact ⟨hlen3,hl6⟩
      go_wp2_with (at_builtin;refine app_nd (by rfl) _ _ (by rfl) (.slice ps c3.length cs) c3 vs3 n6 p6 m6 c6 (by rfl) (HRn.out _ (below_new _ _)) w7.heap.size 1 (by rfl) (new_at _ _) hcc ?_;intro v8 w8 h1 h2 h3;obtain ⟨p8,c8,hv8,_⟩:=h1.shape;obtain ⟨l8,hl8⟩:∃l8,(c3++[n6]).length=l8:=⟨_,rfl⟩;rw [hl8] at hv8;subst hv8;obtain ⟨⟨x1,x2,x3⟩,x4⟩:=H6.out.1.push (below_new _ _) H6.out.2.1 h1 h2 h3;have H8:Hid (RL w0 W g p en r6 ao6 cap6 (c3++[n6]) (.slice p8 l8 c8) (vs3++[.slice p6 m6 c6]) (w8.setCell ⟨W.heap.size+1+1,7,none⟩ (.slice p8 l8 c8))):=x4;clear x4 h1 h2 h3 hl8)
      refine ⟨⟨ok6,rfl,⟨r6,ao6,cap6,c3++[n6],_,_,H8.out,?_,?_⟩⟩,?_⟩
      ·simp at hc hl6 ⊢
       omega
      ·cases ok6
       ·have:=Hok.out
        simp only [Bool.false_eq_true,if_false] at this ⊢
        exact Hg.out.1.bad this
       ·have:=Hok.out
        simp only [if_true] at this ⊢
        exact ⟨Hg.out.1.kid this,Hg.out.2⟩
      ·have h9:=H8.out.len
       obtain ⟨d1,d2⟩:=HD.out r6 rfl
       first
        | (rw [h9,d1];exact d2)
        | (simp only [Array.getD];rw [h9,d1];exact d2)
theorem read_any (w0:World) (g p:Nat) (l:List Ev) (hl:l≠[]) (hlen:l.length≤1000000000):ReadC w0 g p l:=by
 obtain ⟨s,hs⟩:∃s,l.length=s:=⟨_,rfl⟩
 induction s using Nat.strongRecOn generalizing l with
 |ind s ih=>
  cases l with
  |nil=>exact absurd rfl hl
  |cons e r=>
   by_cases h1:e.k=1
   ·exact read_open w0 g p e r h1 hlen (fun l' h' hn'=>ih l'.length (by omega) l' hn' (by omega) rfl)
   ·exact read_leaf w0 g p e r h1
def bo (l:List Ev):Nd × Int:=match bld l [] with
 |some n=>(n,0)
 |none=>(.mk 0 tv0 [],130)
def BdP (l:List Ev) (W:World) (x:Ending) (w':World):Prop:=∃sv,x=.returned (.tuple #[ndv (bo l).1.k (bo l).1.d sv,.int .i64 (bo l).2])∧TN (fun k=>W.heap.size≤k) w' (bo l).1 sv∧Below W.heap.size W w'
theorem rs_start {W:World}{l:List Ev}{ao:Option Addr}{cap:Nat}(h:Le W ao l) (h1:l.length≤cap) (h2:cap≤maxLen) (o:Obj):RS W (W.heap.size+1) (W.heap.size+1+1) l ao cap (((W.alloc o).alloc (.cells #[.slice ao l.length cap] 34)).alloc (.cells #[readF (W.heap.size+1) (W.heap.size+1+1)] 91)):=by
 have e1:=size_al W o
 have e2:=size_al (W.alloc o) (.cells #[.slice ao l.length cap] 34)
 have b1:=below_new W o
 have b2:=below_new (W.alloc o) (.cells #[.slice ao l.length cap] 34)
 have b3:=below_new ((W.alloc o).alloc (.cells #[.slice ao l.length cap] 34)) (.cells #[readF (W.heap.size+1) (W.heap.size+1+1)] 91)
 refine ⟨(b1.trans (b2.mono b1.size)).trans (b3.mono (by omega)),?_,?_,h,h1,h2,by omega,by omega⟩
 ·refine alloc_at' ?_ _
  rw [←e1]
  exact new_at _ _
 ·rw [←e1,←e2]
  exact new_at _ _
set_option maxRecDepth 100000 in
set_option maxHeartbeats 1000000 in
theorem build_any (l:List Ev) (W:World) (ao:Option Addr) (cap:Nat) (h:Le W ao l) (h1:l.length≤cap) (h2:cap≤maxLen) (hlen:l.length≤1000000000):Calls Tryz.prog 15 #[.slice ao l.length cap] W (BdP l W):=by
 have hmf:∀(fn:Fn) (first cap:Array Value) (w:World),(Instr.makeFunc fn first cap).run Tryz.prog w=.ok (.func fn first cap) w:=fun _ _ _ _=>rfl
 obtain ⟨V3,eV⟩:∃V3,((W.alloc (NdB 0 tv0 (.slice none 0 0))).alloc (.cells #[.slice ao l.length cap] 34)).alloc (.cells #[readF (W.heap.size+1) (W.heap.size+1+1)] 91)=V3:=⟨_,rfl⟩
 have H3:Hid (RS W (W.heap.size+1) (W.heap.size+1+1) l ao cap V3∧V3.heap[W.heap.size]?=some (NdB 0 tv0 (.slice none 0 0))):=by
  rw [←eV]
  exact ⟨rs_start h h1 h2 _,alloc_at' (alloc_at' (new_at _ _) _) _⟩
 have HO:Hid (∀V wz k d s,Below W.heap.size W V→V.heap[W.heap.size]?=some (NdB 0 tv0 (.slice none 0 0))→sets8 V W.heap.size k d s=wz→Below W.heap.size W wz∧wz.heap[W.heap.size]?=some (NdB k d s)):=fun V wz k d s hb hr e=>by
  subst e
  exact ⟨Kp.low hb (sets8_kp _ _ _ _ _) (fun j e=>by omega) hb.size,sets8_at hr _ _ _⟩
 cases l with
 |nil=>
  have e:bo []=(.mk 0 tv0 [],130):=rfl
  have hX:∀wz,Below W.heap.size W wz→BdP [] W (.returned (.tuple #[ndv 0 tv0 (.slice none 0 0),.int .i64 130])) wz:=fun wz hb=>⟨.slice none 0 0,rfl,tn_nil _ _ _ _,hb⟩
  have HX:=hid hX
  obtain ⟨⟨y0,y1,y2,y3,y4,y5,y6,y7⟩,yl⟩:=nd_cells H3.out.2
  obtain ⟨f0,f1,f2,f3,f4,f5,f6,f7⟩:=nd_frozen H3.out.2
  clear hX e h h1 h2
  dsimp only [NdB,tv0,readF,List.length_nil] at eV
  go_enter Tryz.func15,Tryz.ntmps15
  go_upto_region 5 with fail
  try rw [eV]
  clear eV
  go_wp2_with fail
  obtain ⟨wz,ez⟩:∃wz,sets8 V3 W.heap.size 0 tv0 (.slice none 0 0)=wz:=⟨_,rfl⟩
  obtain ⟨hz1,hz2⟩:=HO.out _ wz _ _ _ H3.out.1.bel H3.out.2 ez
  dsimp only [sets8,tv0] at ez
  rw [ez]
  obtain ⟨⟨x0,x1,x2,x3,x4,x5,x6,x7⟩,xl⟩:=nd_cells hz2
  refine bodyPost_ret (v:=.tuple #[ndv 0 tv0 (.slice none 0 0),.int .i64 130]) (by simp [results,Tryz.f15,go_sem,x0,x1,x2,x3,x4,x5,x6,x7]) rfl ?_
  exact HX.out _ hz1
 |cons e r=>
  have HC:Hid (Calls Tryz.prog 38 #[.int .i64 0,.pointer (some ⟨W.heap.size+1,0,none⟩),.pointer (some ⟨W.heap.size+1+1,0,none⟩)] V3 (RdP W (W.heap.size+1) (W.heap.size+1+1) 0 (e :: r) V3)):=read_any W _ _ (e :: r) (by simp) hlen 0 ao cap V3 (by omega) (fun _ _ _ _=>rfl) H3.out.1
  have hl5:¬((r.length:Int)+1=0):=by omega
  have hl6:((r.length:Int)+1 == 0)=false:=by simpa using hl5
  have hpc:V3.cell? ⟨W.heap.size+1+1,0,none⟩=some (readF (W.heap.size+1) (W.heap.size+1+1)):=blk_cell H3.out.1.hp rfl
  have hpl:=blk_lt H3.out.1.hp
  clear h h1 h2
  dsimp only [NdB,tv0,readF,List.length_cons] at eV
  go_enter Tryz.func15,Tryz.ntmps15
  go_upto_region 6 with fail
  try rw [eV]
  clear eV
  go_wp2_with fail
  refine HC.out.mono ?_
  rintro x w6 ⟨n6,sv6,ok6,r6,ao6,cap6,rfl,rs6,kp6,hl6',tn6,hok6⟩
  obtain ⟨p6,m6,c6,hsv6⟩:∃p6 m6 c6,sv6=.slice p6 m6 c6:=by
   obtain ⟨nk,ndd,ncc⟩:=n6
   rw [TN] at tn6
   obtain ⟨vs6,hrn6,_⟩:=tn6
   obtain ⟨pp,cp,e,_⟩:=hrn6.shape
   exact ⟨pp,_,cp,e⟩
  subst hsv6
  have HTk:Hid (∀V,Calls Tryz.prog 36 #[ndv n6.k n6.d (.slice p6 m6 c6)] V fun r w'=>r=.returned (.bool (n6.k == 0))∧Below V.heap.size V w'):=fun V=>isTok_any n6.k n6.d p6 m6 c6 V
  have r6b:w6.heap[W.heap.size]?=some (NdB 0 tv0 (.slice none 0 0)):=kp6.blk H3.out.2 (by omega)
  have H6:Hid (RS W (W.heap.size+1) (W.heap.size+1+1) r6 ao6 cap6 w6∧w6.heap[W.heap.size]?=some (NdB 0 tv0 (.slice none 0 0))∧TN (fun k=>V3.heap.size≤k) w6 n6 (.slice p6 m6 c6)):=⟨rs6,r6b,tn6⟩
  have hV3:W.heap.size<V3.heap.size:=blk_lt H3.out.2
  have Hok:Hid (bld (e :: r) []=if ok6 then aft r6 n6 [] else none):=by
   cases ok6
   ·exact hok6 [] rfl
   ·exact hok6 [] rfl
  clear hok6 rs6 kp6 tn6 r6b
  have HBAD:Hid (bld (e :: r) []=none→∀V wz,Below w6.heap.size w6 V→sets8 V W.heap.size 0 tv0 (.slice none 0 0)=wz→BdP (e :: r) W (.returned (.tuple #[ndv 0 tv0 (.slice none 0 0),.int .i64 130])) wz∧wz.heap[W.heap.size]?=some (NdB 0 tv0 (.slice none 0 0))):=fun hb V wz hbl ez=>by
   obtain ⟨hz1,hz2⟩:=HO.out V wz _ _ _ (H6.out.1.bel.trans (hbl.mono H6.out.1.bel.size)) (blk_below H6.out.2.1 hbl) ez
   have e:bo (e :: r)=(.mk 0 tv0 [],130):=by unfold bo;rw [hb]
   refine ⟨⟨.slice none 0 0,?_,?_,hz1⟩,hz2⟩
   ·rw [e];rfl
   ·rw [e];exact tn_nil _ _ _ _
  have HGOOD:Hid (bld (e :: r) []=some n6→∀V wz,Below w6.heap.size w6 V→sets8 V W.heap.size n6.k n6.d (.slice p6 m6 c6)=wz→BdP (e :: r) W (.returned (.tuple #[ndv n6.k n6.d (.slice p6 m6 c6),.int .i64 0])) wz∧wz.heap[W.heap.size]?=some (NdB n6.k n6.d (.slice p6 m6 c6))):=fun hb V wz hbl ez=>by
   obtain ⟨hz1,hz2⟩:=HO.out V wz _ _ _ (H6.out.1.bel.trans (hbl.mono H6.out.1.bel.size)) (blk_below H6.out.2.1 hbl) ez
   have e:bo (e :: r)=(n6,0):=by unfold bo;rw [hb]
   refine ⟨⟨.slice p6 m6 c6,?_,?_,hz1⟩,hz2⟩
   ·rw [e]
   ·rw [e,←ez]
    exact TN.sub (fun b _ h=>by omega) _ _ (TN.kp (sets8_kp _ _ _ _ _) (fun b h1 h2=>by omega) _ _ (TN.kp (Kp.of_below (S:=fun _=>False) hbl) (fun _ _ h=>h) _ _ H6.out.2.2))
  obtain ⟨W7,eW7⟩:∃W7,w6.alloc (NdB n6.k n6.d (.slice p6 m6 c6))=W7:=⟨_,rfl⟩
  have H7:Hid (Below w6.heap.size w6 W7∧W7.heap[w6.heap.size]?=some (NdB n6.k n6.d (.slice p6 m6 c6))):=by rw [←eW7];exact ⟨below_new _ _,new_at _ _⟩
  go_upto_region 7 with fail
  try rw [eW7]
  clear eW7
  have HRb:Hid (∀V,Below w6.heap.size w6 V→V.heap[W.heap.size]?=some (NdB 0 tv0 (.slice none 0 0))∧V.cell? ⟨W.heap.size+1,0,none⟩=some (.slice ao6 r6.length cap6)∧W.heap.size+1<V.heap.size):=fun V hb=>⟨blk_below H6.out.2.1 hb,blk_cell (blk_below H6.out.1.hg hb) rfl,blk_lt (blk_below H6.out.1.hg hb)⟩
  obtain ⟨⟨i0,i1,i2,i3,i4,i5,i6,i7⟩,il⟩:=nd_cells H7.out.2
  cases ok6 with
  |false=>
   obtain ⟨q1,q2,q3⟩:=HRb.out W7 H7.out.1
   obtain ⟨⟨y0,y1,y2,y3,y4,y5,y6,y7⟩,yl⟩:=nd_cells q1
   obtain ⟨f0,f1,f2,f3,f4,f5,f6,f7⟩:=nd_frozen q1
   have HE:Hid (bld (e :: r) []=none):=by have:=Hok.out;unfold Hid;simpa using this
   clear q1 HC
   go_wp2_with fail
   obtain ⟨wz,ez⟩:∃wz,sets8 W7 W.heap.size 0 tv0 (.slice none 0 0)=wz:=⟨_,rfl⟩
   obtain ⟨hz1,hz2⟩:=HBAD.out HE.out _ wz H7.out.1 ez
   dsimp only [sets8,tv0] at ez
   rw [ez]
   obtain ⟨⟨x0,x1,x2,x3,x4,x5,x6,x7⟩,xl⟩:=nd_cells hz2
   refine bodyPost_ret (v:=.tuple #[ndv 0 tv0 (.slice none 0 0),.int .i64 130]) (by simp [results,Tryz.f15,go_sem,x0,x1,x2,x3,x4,x5,x6,x7]) rfl ?_
   exact hz1
  |true=>
   by_cases hk0:n6.k=0
   ·have hkb:(n6.k == 0)=true:=by simpa using hk0
    rw [hkb] at HTk
    have HE:Hid (bld (e :: r) []=none):=by have:=Hok.out;unfold Hid;simpa [aft,hk0] using this
    clear hkb hk0
    go_wp2_with fail
    refine (HTk.out _).mono ?_
    rintro x w8 ⟨rfl,hb8⟩
    have H8:Hid (Below w6.heap.size w6 w8):=H7.out.1.trans (hb8.mono H7.out.1.size)
    obtain ⟨q1,q2,q3⟩:=HRb.out w8 H8.out
    obtain ⟨⟨y0,y1,y2,y3,y4,y5,y6,y7⟩,yl⟩:=nd_cells q1
    obtain ⟨f0,f1,f2,f3,f4,f5,f6,f7⟩:=nd_frozen q1
    clear q1 HC hb8
    go_wp2_with fail
    obtain ⟨wz,ez⟩:∃wz,sets8 w8 W.heap.size 0 tv0 (.slice none 0 0)=wz:=⟨_,rfl⟩
    obtain ⟨hz1,hz2⟩:=HBAD.out HE.out _ wz H8.out ez
    dsimp only [sets8,tv0] at ez
    rw [ez]
    obtain ⟨⟨x0,x1,x2,x3,x4,x5,x6,x7⟩,xl⟩:=nd_cells hz2
    refine bodyPost_ret (v:=.tuple #[ndv 0 tv0 (.slice none 0 0),.int .i64 130]) (by simp [results,Tryz.f15,go_sem,x0,x1,x2,x3,x4,x5,x6,x7]) rfl ?_
    exact hz1
   ·have hkb:(n6.k == 0)=false:=by simpa using hk0
    rw [hkb] at HTk
    have HE:Hid (bld (e :: r) []=if r6=[] then some n6 else none):=by have:=Hok.out;unfold Hid;simpa [aft,hk0] using this
    clear hkb hk0
    go_wp2_with fail
    refine (HTk.out _).mono ?_
    rintro x w8 ⟨rfl,hb8⟩
    have H8:Hid (Below w6.heap.size w6 w8):=H7.out.1.trans (hb8.mono H7.out.1.size)
    obtain ⟨q1,q2,q3⟩:=HRb.out w8 H8.out
    obtain ⟨⟨y0,y1,y2,y3,y4,y5,y6,y7⟩,yl⟩:=nd_cells q1
    obtain ⟨f0,f1,f2,f3,f4,f5,f6,f7⟩:=nd_frozen q1
    have q4:=blk_below H7.out.2 hb8
    obtain ⟨⟨j0,j1,j2,j3,j4,j5,j6,j7⟩,jl⟩:=nd_cells q4
    clear q1 q4 HC hb8
    cases r6 with
    |nil=>
     have q2':w8.cell? ⟨W.heap.size+1,0,none⟩=some (.slice ao6 0 cap6):=q2
     clear q2
     go_wp2_with fail
     obtain ⟨wz,ez⟩:∃wz,sets8 w8 W.heap.size n6.k n6.d (.slice p6 m6 c6)=wz:=⟨_,rfl⟩
     obtain ⟨hz1,hz2⟩:=HGOOD.out (by have:=HE.out;simpa using this) _ wz H8.out ez
     dsimp only [sets8] at ez
     rw [ez]
     obtain ⟨⟨x0,x1,x2,x3,x4,x5,x6,x7⟩,xl⟩:=nd_cells hz2
     refine bodyPost_ret (v:=.tuple #[ndv n6.k n6.d (.slice p6 m6 c6),.int .i64 0]) (by simp [results,Tryz.f15,go_sem,x0,x1,x2,x3,x4,x5,x6,x7]) rfl ?_
     exact hz1
    |cons e7 r7=>
     have q2':w8.cell? ⟨W.heap.size+1,0,none⟩=some (.slice ao6 (r7.length+1) cap6):=q2
     have hl7:(0:Int)<(r7.length:Int)+1:=by omega
     clear q2
     go_wp2_with fail
     obtain ⟨wz,ez⟩:∃wz,sets8 w8 W.heap.size 0 tv0 (.slice none 0 0)=wz:=⟨_,rfl⟩
     obtain ⟨hz1,hz2⟩:=HBAD.out (by have:=HE.out;simpa using this) _ wz H8.out ez
     dsimp only [sets8,tv0] at ez
     rw [ez]
     obtain ⟨⟨x0,x1,x2,x3,x4,x5,x6,x7⟩,xl⟩:=nd_cells hz2
     refine bodyPost_ret (v:=.tuple #[ndv 0 tv0 (.slice none 0 0),.int .i64 130]) (by simp [results,Tryz.f15,go_sem,x0,x1,x2,x3,x4,x5,x6,x7]) rfl ?_
     exact hz1
theorem ta_nil (w:World):(Instr.typeAssert .nilIface 20 82 true).run Tryz.prog w=.ok (.tuple #[.agg #[.int .i64 0,.int .i64 0],.bool false]) w:=by kernel_rfl
theorem ta_stop (c i:Int) (w:World):(Instr.typeAssert (.iface 82 (.agg #[.int .i64 c,.int .i64 i])) 20 82 true).run Tryz.prog w=.ok (.tuple #[.agg #[.int .i64 c,.int .i64 i],.bool true]) w:=by kernel_rfl
set_option maxHeartbeats 1000000 in
theorem catch_idle (a b c:Nat) (w:World) :
  CallsD Tryz.prog 31 #[pg a,pg b,pg c] .returning w fun e u' w'=>e=.returned (.tuple #[])∧u'=.returning∧Below w.heap.size w w':=by
 have HB:Hid (∀o,Below w.heap.size w (w.alloc o)):=fun o=>(Below.refl _ _).alloc (Nat.le_refl _) _
 refine callsD_of_wpS Tryz.func31 rfl fun c₀ cs hu=>?_
 apply wpS_seq
 apply wpS_region
 simp [wpOpsS,go_sem,recoverD,hu,Tryz.ntmps31,Exit.thenS,ta_nil]
 refine wpS_of_wp ?_
 go_wp2_with fail
 have hx:=HB.out (.cells #[.int .i64 0,.int .i64 0] 82)
 clear HB
 cases c₀
 simp_all [bodyPostS,results,Tryz.f31,go_sem]
structure Cz (a b c:Nat) (n:Obj) (e i:Int) (w:World):Prop where
 ha:w.heap[a]?=some n
 hb:w.heap[b]?=some (.cells #[.int .i64 e] 25)
 hc:w.heap[c]?=some (.cells #[.int .i64 i] 3)
 ab:a≠b
 ac:a≠c
 bc:b≠c
theorem Cz.below {a b c:Nat}{n:Obj}{e i:Int}{w w':World}(h:Cz a b c n e i w) (hb:Below w.heap.size w w'):Cz a b c n e i w':=⟨blk_below h.ha hb,blk_below h.hb hb,blk_below h.hc hb,h.ab,h.ac,h.bc⟩
theorem Cz.set {a b c:Nat}{k0:Int}{d0:Tv}{s0:Value}{e0 i0:Int}{w:World}(h:Cz a b c (NdB k0 d0 s0) e0 i0 w) (k:Int) (d:Tv) (s:Value) (e i:Int):Cz a b c (NdB k d s) e i (((sets8 w a k d s).setCell ⟨b,0,none⟩ (.int .i64 e)).setCell ⟨c,0,none⟩ (.int .i64 i))∧Kp (fun j=>j=a∨j=b∨j=c) w (((sets8 w a k d s).setCell ⟨b,0,none⟩ (.int .i64 e)).setCell ⟨c,0,none⟩ (.int .i64 i)):=by
 have k1:=sets8_kp w a k d s
 have k2:=Kp.set (sets8 w a k d s) b 0 (.int .i64 e)
 have k3:=Kp.set ((sets8 w a k d s).setCell ⟨b,0,none⟩ (.int .i64 e)) c 0 (.int .i64 i)
 have a1:=sets8_at h.ha k d s
 have b1:=k1.blk h.hb (fun x=>h.ab x.symm)
 have c1:=k1.blk h.hc (fun x=>h.ac x.symm)
 refine ⟨⟨k3.blk (k2.blk a1 h.ab) h.ac,k3.blk (blk_set b1 0 _) h.bc,blk_set (k2.blk c1 (fun x=>h.bc x.symm)) 0 _,h.ab,h.ac,h.bc⟩,?_⟩
 exact ((k1.sub (fun j hj=>.inl hj)).trans (k2.sub (fun j hj=>.inr (.inl hj)))).trans (k3.sub (fun j hj=>.inr (.inr hj)))
theorem tmps14 (x0 x1 x2 v0 v1 v2 v3 v4 v5 v6:Value):#[x0,x1,x2]++(((((((Array.replicate 13 undef).setIfInBounds 3 v3).setIfInBounds 4 v4).setIfInBounds 2 v2).setIfInBounds 5 v5).setIfInBounds 6 v6).setIfInBounds 0 v0).setIfInBounds 1 v1=#[x0,x1,x2,v0,v1,v2,v3,v4,v5,v6,undef,undef,undef,undef,undef,undef]:=by kernel_rfl
set_option maxHeartbeats 2000000 in
theorem catch_panic (a b c:Nat) (k0:Int) (d0:Tv) (s0:Value) (e0 i0:Int) (e:Int) (i:Nat) (w:World) (h:Cz a b c (NdB k0 d0 s0) e0 i0 w) :
  CallsD Tryz.prog 31 #[pg a,pg b,pg c] (.panicking (stop e i)) w fun r u' w'=>r=.returned (.tuple #[])∧u'=.panicking [{ v:=.iface 82 (.agg #[.int .i64 e,.int .i64 (i:Int)]),recovered:=true }]∧Cz a b c (NdB 0 tv0 (.slice none 0 0)) e i w'∧Kp (fun j=>j=a∨j=b∨j=c) w w':=by
 refine callsD_of_wpS Tryz.func31 rfl fun c₀ cs hu=>?_
 apply wpS_seq
 apply wpS_region
 simp [wpOpsS,go_sem,recoverD,hu,Tryz.ntmps31,Exit.thenS,ta_stop]
 refine wpS_of_wp ?_
 rw [tmps14]
 obtain ⟨w1,e1⟩:∃w1,w.alloc (.cells #[.int .i64 e,.int .i64 (i:Int)] 82)=w1:=⟨_,rfl⟩
 have hb:Below w.heap.size w w1:=by rw [←e1];exact (Below.refl _ _).alloc (Nat.le_refl _) _
 have hn:w1.heap[w.heap.size]?=some (.cells #[.int .i64 e,.int .i64 (i:Int)] 82):=by rw [←e1];exact new_at _ _
 have h1:=h.below hb
 have HX:Hid (∃wz,(((sets8 w1 a 0 tv0 (.slice none 0 0)).setCell ⟨b,0,none⟩ (.int .i64 e)).setCell ⟨c,0,none⟩ (.int .i64 i)).drew=wz∧Cz a b c (NdB 0 tv0 (.slice none 0 0)) e i wz∧Kp (fun j=>j=a∨j=b∨j=c) w wz):=by
  obtain ⟨x1,x2⟩:=h1.set 0 tv0 (.slice none 0 0) e i
  have hb2:∀v:World,Below v.heap.size v v.drew:=fun v=>(Below.refl _ _).drew
  exact ⟨_,rfl,x1.below (hb2 _),((Kp.of_below (S:=fun j=>j=a∨j=b∨j=c) hb).trans x2).trans (Kp.of_below (hb2 _))⟩
 obtain ⟨⟨n0,n1,n2,n3,n4,n5,n6,n7⟩,nl⟩:=nd_cells h1.ha
 obtain ⟨f0,f1,f2,f3,f4,f5,f6,f7⟩:=nd_frozen h1.ha
 have y0:w1.cell? ⟨w.heap.size,0,none⟩=_:=blk_cell hn rfl
 have y1:w1.cell? ⟨w.heap.size,1,none⟩=_:=blk_cell hn rfl
 have hab:=h.ab
 have hac:=h.ac
 have hbc:=h.bc
 have hba:=h.ab.symm
 have hca:=h.ac.symm
 have hcb:=h.bc.symm
 have za:w.heap.size≠a:=fun x=>by have:=blk_lt h.ha;omega
 have zb:w.heap.size≠b:=fun x=>by have:=blk_lt h.hb;omega
 have zc:w.heap.size≠c:=fun x=>by have:=blk_lt h.hc;omega
 have z1:=blk_lt hn
 have b0:w1.cell? ⟨b,0,none⟩=_:=blk_cell h1.hb rfl
 have c0:w1.cell? ⟨c,0,none⟩=_:=blk_cell h1.hc rfl
 have bl:=blk_lt h1.hb
 have cl:=blk_lt h1.hc
 have fb:w1.frozen? ⟨b,0,none⟩=false:=blk_frozen h1.hb
 have fc:w1.frozen? ⟨c,0,none⟩=false:=blk_frozen h1.hc
 rw [e1]
 clear hb hn h1 h e1
 generalize w.heap.size=q at *
 go_wp2_with fail
 go_region
 obtain ⟨wz,ez,hz,kz⟩:=HX.out
 unfold sets8 at ez
 dsimp only [tv0] at ez
 rw [ez]
 clear HX ez n0 n1 n2 n3 n4 n5 n6 n7 nl f0 f1 f2 f3 f4 f5 f6 f7 y0 y1 b0 c0 bl cl fb fc hab hac hbc hba hca hcb za zb zc z1
 go_wp2_with fail
 cases c₀
 simp_all [bodyPostS,results,Tryz.f31,go_sem]
end Go.Proofs.YtkigadnkclkopaaGreatDoor
