import Derived.RangeFuncNested
import Derived.RangeFuncBound
import Derived.RangeFuncCalls
import Derived.RangeFuncLeaves
import Derived.Shelf.Abstract
import Derived.Shelf.RegionOpen
import Derived.OwnWalkIn
import Derived.TacticsInMore
import Derived.LoopNIn
import Derived.LoopIn
import Derived.Test.YtpdlohfdjiaegaaGreatDoorM21
set_option linter.unusedVariables false
set_option linter.unusedSimpArgs false
namespace Go.Proofs.YtpdlohfdjiaegaaGreatDoor.Lw
open Go.Proofs.YtpdlohfdjiaegaaGreatDoor.Lx
open Go.RowKit
theorem PS.pop {B:Nat}{w0:World}{own:Nat→Nat}{W:World}{g gs n:Nat}{p:Pr}(h:PS B w0 own W g gs n p) {b:Bk}{r:List Bk}(hr:p.ar=b :: r):∃q cap,W.cell? ⟨g,5,none⟩=some (.slice (some ⟨q,0,none⟩) (r.length+1) cap)∧r.length+1≤cap∧cap≤maxLen∧W.cell? ⟨q,r.length*3,none⟩=some (.int .i64 b.ind)∧W.cell? ⟨q,r.length*3+1,none⟩=some (.bool b.ev)∧W.cell? ⟨q,r.length*3+2,none⟩=some (.bool b.ft)∧q≠g ∧
  PA B w0 own W g gs n { p with bl:=b,ar:=r } ((((W.setCell ⟨g,2,none⟩ (.int .i64 b.ind)).setCell ⟨g,3,none⟩ (.bool b.ev)).setCell ⟨g,4,none⟩ (.bool b.ft)).setCell ⟨g,5,none⟩ (.slice (some ⟨q,0,none⟩) r.length cap)):=by
 obtain ⟨v,h1,h2,h3⟩:=h.pr
 rw [hr] at h2
 obtain ⟨q,cap,rfl,c1,c2,c3,c4,cur,c5⟩:=row_pop bkc_len h2
 have r1:=row_ne h2 h1 (by decide)
 have hqg:q≠g:=fun e=>r1 (by rw [e];rfl)
 have k4:=(((Kp.set W g 2 (.int .i64 b.ind)).trans (Kp.set _ g 3 (.bool b.ev))).trans (Kp.set _ g 4 (.bool b.ft))).trans (Kp.set _ g 5 (.slice (some ⟨q,0,none⟩) r.length cap))
 refine ⟨q,cap,blk_cell h1 rfl,c1,c2,c4 0 _ rfl,c4 1 _ rfl,c4 2 _ rfl,hqg,own,?_⟩
 refine h.turn (((((Fr.refl 2 own W).set' h.lab 2 _).set' h.lab 3 _).set' h.lab 4 _).set' h.lab 5 _) (h.en.nf.below k4.size) rfl ⟨.slice (some ⟨q,0,none⟩) r.length cap,blk_set (blk_set (blk_set (blk_set h1 2 _) 3 _) 4 _) 5 _,k4.row c3 (fun k e1 e2=>by cases e1;exact hqg e2),fun k hk=>h3 k (by cases hk;rfl)⟩
set_option maxHeartbeats 2000000 in
set_option maxRecDepth 100000 in
theorem put_end {B:Nat}{w0:World}{own:Nat→Nat}{W:World}{g gs n:Nat}{p:Pr}(h:PS B w0 own W g gs n p) (need:Nat) {b:Bk}{r:List Bk}(hr:p.ar=b :: r) (hl:r.length≤1000000000) :
  Calls Tryz.prog 60 #[.pointer (some ⟨g,0,none⟩),.agg #[.int .u8 7,.string ⟨#[]⟩,.int .i64 0,.int .i64 0,.bool false],.int .i64 need] W fun x w'=>x=.returned (.tuple #[])∧PA B w0 own W g gs n { p with bl:=b,ar:=r } w':=by
 have c2:=h.c2
 have c3:=h.c3
 have c4:=h.c4
 have f2:=h.fz 2
 have f3:=h.fz 3
 have f4:=h.fz 4
 have f5:=h.fz 5
 have glt:=h.lt
 obtain ⟨q,cap,c5,d1,d2,q0,q1,q2,hqg,own',e1,e2,e3⟩:=h.pop hr
 have hgq:g≠q:=Ne.symm hqg
 have hq:q<W.heap.size:=World.block_lt_of_cell? _ _ q0
 have HP:Hid (∀o,PA B w0 own W g gs n { p with bl:=b,ar:=r } (((((W.setCell ⟨g,2,none⟩ (.int .i64 b.ind)).setCell ⟨g,3,none⟩ (.bool b.ev)).setCell ⟨g,4,none⟩ (.bool b.ft)).setCell ⟨g,5,none⟩ (.slice (some ⟨q,0,none⟩) r.length cap)).alloc o).drew):=by
  intro o
  have hbl:=((Below.refl _ ((((W.setCell ⟨g,2,none⟩ (.int .i64 b.ind)).setCell ⟨g,3,none⟩ (.bool b.ev)).setCell ⟨g,4,none⟩ (.bool b.ft)).setCell ⟨g,5,none⟩ (.slice (some ⟨q,0,none⟩) r.length cap))).alloc (Nat.le_refl _) o).drew
  exact ⟨own',e1.below hbl,e2.trans e3 (fun k hk h0=>⟨hbl.block k hk,h0⟩),Nat.le_trans e3 hbl.size⟩
 have d2':cap≤9223372036854775807:=d2
 clear e1 e2 e3 h
 go_enter Tryz.func60,Tryz.ntmps60
 go_wp2_with fail
 go_region
 all_goals (
  go_wp2_with fail
  go_end0
  exact ⟨rfl,HP.out _⟩)
theorem put_any {B:Nat}{w0:World}{own:Nat→Nat}{W:World}{g gs n:Nat}{p:Pr}(h:PS B w0 own W g gs n p) {U:Nat}(hp:Bp p U) (hU:U≤268435456) (need:Nat) (hnd:need≤1000000) (hn:n≤4096) (hl:p.ar.length≤1000000000) (d:Dc) (hd:rt d=true) (h7:d.k=7→p.ar≠[]) :
  Calls Tryz.prog 60 #[.pointer (some ⟨g,0,none⟩),d.v,.int .i64 need] W fun e w'=>e=.returned (.tuple #[])∧PA B w0 own W g gs n (put n d need p) w':=by
 cases rt_of hd with
 |text t hq=>exact put_text h hp hU need t (rtT_len hq).2
 |brk m hq=>
  obtain ⟨q1,q2⟩:=rtN_of hq
  have:=put_brk h hp hU need hnd hn m.toNat (by omega)
  rw [show ((m.toNat:Nat):Int)=m by omega] at this
  exact this
 |beg m e hq=>
  obtain ⟨q1,q2⟩:=rtN_of hq
  have:=put_beg h hp hU need hnd hn hl m.toNat (by omega) e
  rw [show ((m.toNat:Nat):Int)=m by omega] at this
  exact this
 |blank=>exact put_blank h hp hU need
 |hard=>exact put_hard h hp hU need
 |empty=>exact put_empty h hp hU need
 | «end»=>
  cases ha:p.ar with
  |nil=>exact absurd ha (h7 rfl)
  |cons b r=>
   have:=put_end h need ha (by rw [ha] at hl;simp at hl;omega)
   have e:put n ⟨7,bE,0,0,false⟩ need p={ p with bl:=b,ar:=r }:=by
    show ({ p with bl:=p.ar.headD ⟨0,false,false⟩,ar:=p.ar.tail }:Pr)=_
    rw [ha];rfl
   rw [e]
   exact this
set_option maxHeartbeats 2000000 in
set_option maxRecDepth 100000 in
theorem tell_beg {B:Nat}{w:World}{gb ga:Nat}{s x:Sp}{r:List Sp}(h:TL B w gb ga s (x :: r)) (hs:Sb s) (hx:Sb x) (hB:B≤w.heap.size) (hn:r.length≤1000000000) (i:Int) (e:Bool) :
  Calls Tryz.prog 153 #[.agg #[.int .u8 6,.string ⟨#[]⟩,.int .i64 0,.int .i64 i,.bool e],.pointer (some ⟨ga,0,none⟩),.pointer (some ⟨gb,0,none⟩)] w fun e w'=>TA B w gb ga (s.all,x.wid s.all,r) e w':=by
 have hnab:=h.ne
 have gbl:=blk_lt h.hb
 have gal:ga<w.heap.size:=by obtain ⟨v,h1,_⟩:=h.ha;exact blk_lt h1
 have b0:w.cell? ⟨gb,0,none⟩=some (.int .i64 s.all):=blk_cell h.hb rfl
 have b1:w.cell? ⟨gb,1,none⟩=some (.int .i64 s.hang):=blk_cell h.hb rfl
 have fb0:w.frozen? ⟨gb,0,none⟩=false:=blk_frozen h.hb
 have fb1:w.frozen? ⟨gb,1,none⟩=false:=blk_frozen h.hb
 have fa0:w.frozen? ⟨ga,0,none⟩=false:=by obtain ⟨v,h1,_⟩:=h.ha;exact blk_frozen h1
 obtain ⟨b,cap,c1,c2,c3,c4,c5,⟨c6,c7,c8⟩,hp1,hp2⟩:=h.pop (Below.refl _ _) hB
 obtain ⟨W1,hW1⟩:∃W1,((w.setCell ⟨gb,0,none⟩ (.int .i64 x.all)).setCell ⟨gb,1,none⟩ (.int .i64 x.hang)).setCell ⟨ga,0,none⟩ (.slice (some ⟨b,0,none⟩) r.length cap)=W1:=⟨_,rfl⟩
 have HP:Hid (∀o,TL B (W1.alloc o).drew gb ga x r∧Bo B gb ga w (W1.alloc o).drew):=by
  intro o
  rw [hW1] at hp1 hp2
  exact ⟨hp1.below ((Below.refl _ _).alloc (Nat.le_refl _) _).drew,hp2.trans (Bo.of_below ((Below.refl _ _).alloc (Nat.le_refl _) _).drew)⟩
 have HW:Hid (∀W,Bo B gb ga w W→TL B W gb ga x r→Calls Tryz.prog 154 #[.pointer (some ⟨gb,0,none⟩),.int .i64 s.all] W fun e w'=>e=.returned (.tuple #[])∧TL B w' gb ga (x.wid s.all) r∧Bo B gb ga W w'):=fun W hW hL=>widen_tl hL hx _ (by have:=hs.1;omega) (Nat.le_trans hB hW.size)
 have hsa:s.all≤4097:=hs.1
 clear h hs hx hB
 have c3':cap≤9223372036854775807:=c3
 go_enter Tryz.func153,Tryz.ntmps153
 go_wp2_with fail
 go_region
 all_goals go_wp2_with fail
 refine (HW.out _ (HP.out _).2 (HP.out _).1).mono ?_
 rintro e w2 ⟨rfl,h2,hb2⟩
 have H2:Hid (TL B w2 gb ga (x.wid s.all) r∧Bo B gb ga w w2):=⟨h2,(HP.out _).2.trans hb2⟩
 clear h2 hb2
 go_wp2_with fail
 go_ret
 exact ⟨rfl,H2.out.1,H2.out.2⟩
theorem tell_any {B:Nat}{w:World}{gb ga:Nat}{s:Sp}{st:List Sp}(h:TL B w gb ga s st) (hs:Sb s) (hst:∀x∈st,Sb x) (hB:B≤w.heap.size) (hT:∀W,Kp (Sx B gb ga) w W→Tab W) (hn:st.length≤1000000000) (d:Dc) (hd:rt d=true) (h6:d.k=6→st≠[]) :
  Calls Tryz.prog 153 #[d.v,.pointer (some ⟨ga,0,none⟩),.pointer (some ⟨gb,0,none⟩)] w fun e w'=>TA B w gb ga (tell d (s,st)) e w':=by
 cases rt_of hd with
 |text t hq=>exact tell_text h hs hB hT t (rtT_len hq).2
 |brk m hq=>
  obtain ⟨q1,q2⟩:=rtN_of hq
  have:=tell_brk h hs hB m.toNat (by omega)
  rw [show ((m.toNat:Nat):Int)=m by omega] at this
  exact this
 |beg m e hq=>
  cases st with
  |nil=>exact absurd rfl (h6 rfl)
  |cons x r=>exact tell_beg h hs (hst x List.mem_cons_self) hB (by simp at hn;omega) m e
 |blank=>exact tell_blank h hs hB
 |hard=>exact tell_hard h hs hB 4 (.inl rfl)
 |empty=>exact tell_hard h hs hB 5 (.inr rfl)
 | «end»=>exact tell_end h hs hB hn
end Go.Proofs.YtpdlohfdjiaegaaGreatDoor.Lw
namespace Go.Proofs.YtpdlohfdjiaegaaGreatDoor.Lw
open Go.Proofs.YtpdlohfdjiaegaaGreatDoor.Lx
open Go.RowKit Go.Shelf
attribute [local go_sem] Oper.semAt_some
def Goes (F:Fence) (n:Nat) (P:Program) (gf:Nat) (lb:Array Value) (it:Nat→Array Value) (N:Nat) (G:World→Prop):Prop:=
 ∀(l:Nat) (J:Nat→World→Prop) (W:World),(∀j W,J j W→G W)→AbidesFrom W.heap.size J→(∀j W1,j<N→J j W1→YieldAt F (n-1) P l (it j) W1 fun e W'=>e=.returned (.bool true)∧J (j+1) W')→J 0 W →
  CallsIn F n P gf (#[.func (.yield l) #[] #[]]++lb) W fun e W'=>(∃v,e=.returned v)∧J N W'
theorem wpIn_goes {F:Fence}{n:Nat}{P:Program}{g:Operand}{ps:Array Tmp}{assign body:Code}{Q:Exit→Act→World→Prop}{a:Act}{w:World}(hro:F.round=none) (h1:1≤n) {gf:Nat}{lb:Array Value}(hg:a.eval g=.func (.func gf) #[] lb) (hF:F.fn gf)
  (eg:∀args w,(callFunc gf args).run P w=.ok (.enter gf args) w) {it:Nat→Array Value} {N:Nat} {G:World→Prop} (hit:Goes F (n-1) P gf lb it N G) (hps:∀j,(it j).size=ps.size)
  (I:Nat→World→Prop) (hI:OwnFrom w.heap.size I) (hG:∀j W,I j W→G W) (h0:I 0 w) (Ax:Nat→Act→World→Prop) (hAx:∀j a',OwnFrom w.heap.size (fun (_:Unit) W=>Ax j a' W))
  (hassign:∀(l j:Nat) (W:World) (K:Act→World→Prop),j<N→I j W→(∀a' W',KeepsFrom w.heap.size W W'→I j W'→Ax j a' W'→K a' W') →
   assign.wpIn (F.inRound l) (n-1-1) P (Exit.then K (fun _ _ _=>False)) { tmps:=(ps.zip (it j)).foldl (fun t (p,v)=>t.setIfInBounds p v) a.tmps,defers:=[] } W)
  (hbody:∀(l j:Nat) (a':Act) (W:World),j<N→I j W→Ax j a' W→body.wpIn (F.inRound l) (n-1-1) P (fun e _ W'=>e=.normal∧KeepsFrom w.heap.size W W'∧I (j+1) W') a' W)
  (hdone:∀(D:Nat) (W:World),w.heap.size≤D→I N W→W.heap[D]?=some (.deferred (some []))→Q .normal { a with defers:={ target:=.collected D,args:=#[] } :: a.defers } W) :
  (Code.rangeFunc g ps assign body).wpIn F n P Q a w:=by
 refine wpIn_rangeFunc fun fn hfn=>?_
 rw [hro]
 obtain ⟨L,hL⟩:∃L:LoopState→Loop,∀st,L st={ state:=st,pending:=none,fn,tmps:=a.tmps,params:=ps,assign,body,defers:=w.heap.size }:=⟨_,fun _=>rfl⟩
 have hent:=run_enterLoop_outer (P:=P) (w:=w) fn a.tmps ps assign body
 rw [←hL] at hent
 obtain ⟨V,hV⟩:∃V,(w.alloc (.deferred (some []))).alloc (.loop (L .ready))=V:=⟨_,rfl⟩
 rw [hV] at hent
 have e1:(w.alloc (.deferred (some []))).heap.size=w.heap.size+1:=World.size_alloc _ _
 have vr:V.heap[w.heap.size+1]?=some (.loop (L .ready)):=by rw [←hV,←e1];exact new_at _ _
 have vd:V.heap[w.heap.size]?=some (.deferred (some [])):=by rw [←hV];exact alloc_at' (new_at _ _) _
 have vs:w.heap.size+2≤V.heap.size:=by rw [←hV,World.size_alloc,e1];exact Nat.le_refl _
 have vi:I 0 V:=by rw [←hV];exact hI.alloc _ (hI.alloc _ h0)
 refine ⟨w.heap.size+1,_,V,{ target:=.fn (.func gf) lb,args:=#[.func (.yield (w.heap.size+1)) #[] #[]] },V,gf,#[.func (.yield (w.heap.size+1)) #[] #[]]++lb,V,hent,?_,?_,?_,fun _=>h1,?_⟩
 ·simp only [resolve,hg];simp [go_sem]
 ·intro f' hf';simp [Target.leads] at hf';subst hf';exact hF
 ·simp [invoke,go_sem,eg]
 refine (hit (w.heap.size+1) (fun j W=>I j W∧W.heap[w.heap.size+1]?=some (.loop (L .ready))∧W.heap[w.heap.size]?=some (.deferred (some []))) V (fun j W h=>hG j W h.1) ?_ ?_ ⟨vi,vr,vd⟩).mono ?_
 ·intro j A B row hs hgr hr
  refine ⟨hI j A B row hs.1 hgr fun r e=>?_,(grownBy_keeps hgr (fun r e=>(hr r e).2) hs.2.1 rfl).trans hs.2.1,(grownBy_keeps hgr (fun r e=>(hr r e).2) hs.2.2 rfl).trans hs.2.2⟩
  obtain ⟨hb,o,ho,hw⟩:=hr r e
  exact ⟨by omega,o,ho,Obj.not_cells_of_walk hw⟩
 ·rintro j W hj ⟨hi,hr,hd⟩
  have hy:=run_yield (P:=P) (args:=it j) hr (by rw [hL];exact hps j)
  rw [hL] at hy
  refine ⟨fn,_,assign,body,hy,roundIn_of_wpIn hfn (hassign _ j W _ hj hi ?_)⟩
  intro a' W' hk hi' hax
  have hr':=hk.same _ _ (by omega) hr rfl
  have hd':=hk.same _ _ (Nat.le_refl _) hd rfl
  have hlt:=blk_lt hr'
  refine ⟨_,run_beginRound hr' (by rw [hL]),?_⟩
  obtain ⟨W2,hW2⟩:∃W2,W'.putObj (w.heap.size+1) (.loop { L .ready with state:=.busy })=W2:=⟨_,rfl⟩
  have r2:W2.heap[w.heap.size+1]?=some (.loop { L .ready with state:=.busy }):=by rw [←hW2];exact World.putObj_heap_same hlt
  have d2:W2.heap[w.heap.size]?=some (.deferred (some [])):=by rw [←hW2];exact (World.putObj_heap_other (by omega)).trans hd'
  have i2:I j W2:=by rw [←hW2];exact hI.putObj _ hi' (by omega) hr' rfl
  have x2:Ax j a' W2:=by rw [←hW2];exact (hAx j a').putObj (s:=()) _ hax (by omega) hr' rfl
  rw [hW2]
  refine wpIn_mono (hbody _ j a' W2 hj i2 x2) ?_
  rintro e a3 W3 ⟨rfl,hk3,i3⟩
  have r3:=hk3.same _ _ (by omega) r2 rfl
  have d3:=hk3.same _ _ (Nat.le_refl _) d2 rfl
  have hend:=run_endRound (P:=P) none r3
  rw [hL] at hend
  refine ⟨_,_,hend,rfl,hI.putObj _ i3 (by omega) r3 rfl,?_,(World.putObj_heap_other (by omega)).trans d3⟩
  rw [World.putObj_heap_same (blk_lt r3),hL]
  rfl
 ·rintro e W ⟨⟨v,rfl⟩,hi,hr,hd⟩
  have hend:=run_endLoop (P:=P) hr (by rw [hL];simp)
  rw [hL] at hend
  exact ⟨none,_,hend,hdone _ _ (Nat.le_refl _) (hI.putObj _ hi (by omega) hr rfl) ((World.putObj_heap_other (by omega)).trans hd)⟩
attribute [local go_sem] Oper.semAt_some
theorem backward_any (ao:Option Addr) (n cap:Nat) (w:World):Calls Tryz.prog 103 #[.slice ao n cap] w fun e w'=>e=.returned (.func (.func 156) #[] #[.pointer (some ⟨w.heap.size,0,none⟩)])∧w'=w.alloc (.cells #[.slice ao n cap] 46):=by
 have hmf:∀(fn:Fn) (first cap:Array Value) (w:World),(Instr.makeFunc fn first cap).run Tryz.prog w=.ok (.func fn first cap) w:=fun _ _ _ _=>rfl
 go_enter Tryz.func103,Tryz.ntmps103
 go_wp2_with fail
 go_ret
 exact ⟨rfl,rfl⟩
def zD:Dc:=⟨0,bE,0,0,false⟩
def itB (l:List Dc) (j:Nat):Array Value:=#[.int .i64 ((l.length-1-j:Nat):Int),(l.getD (l.length-1-j) zD).v]
theorem keeps_cell {W W':World}{row:Option Nat}(hg:W.grownBy W' row) (hrow:∀r,row=some r→∃o:Obj,W.heap[r]?=some o∧o.isCells=false) {k:Nat}{cs:Array Value}{T:TypeId}{f:Nat × Nat}(h:W.heap[k]?=some (.cells cs T f)):W'.heap[k]?=some (.cells cs T f):=
 (grownBy_keeps_cells hg hrow h rfl).trans h
set_option maxRecDepth 100000 in
set_option maxHeartbeats 2000000 in
theorem backward_goes (n:Nat) (hn:1≤n) (Bn:Nat) (ao:Option Addr) (l:List Dc) (cap:Nat) (hl:l.length≤1000000000000) :
  Goes Fence.wide n Tryz.prog 156 #[.pointer (some ⟨Bn,0,none⟩)] (itB l) l.length (fun W=>W.cell? ⟨Bn,0,none⟩=some (.slice ao l.length cap)∧Lay W ao l):=by
 intro lp J W hG hA hY h0
 refine callsIn_of_wp Tryz.func156 rfl trivial ?_ rfl
 simp only [Tryz.ntmps156,List.size_toArray,List.length_cons,List.length_nil,Nat.reduceAdd,Nat.reduceSub,Array.replicate_succ,Array.replicate_zero,List.push_toArray,List.append_toArray,List.nil_append,List.cons_append]
 have g0:=(hG 0 W h0).1
 have hln:(l.length:Int)≤1000000000000:=by omega
 gi_wp2
 gi_loopw [3] (fun i wr=>∃(j:Nat) (z:Int),i=.int .i64 z∧z=(l.length:Int)-1-j∧j≤l.length∧J j wr) (fun i _=>(intOf i+1).toNat)
 case atStart=>exact ⟨0,_,by go_num,by omega,Nat.zero_le _,h0⟩
 case round=>
  obtain ⟨j,z,rfl,hz,hj,hJ⟩:=hrel
  by_cases hlt:j<l.length
  ·obtain ⟨k,hk⟩:∃k:Nat,z=k:=⟨z.toNat,by omega⟩
   subst hk
   have hkl:k<l.length:=by omega
   have hkj:l.length-1-j=k:=by omega
   obtain ⟨d,hd⟩:∃d,l[k]?=some d:=⟨_,List.getElem?_eq_getElem hkl⟩
   obtain ⟨gc,gL⟩:=hG j wr hJ
   obtain ⟨ht,b,off,rfl,c0,c1,c2,c3,c4⟩:=gL k d hd
   have q1:(0:Int)≤k:=by omega
   have q2:(k:Int)<l.length:=by omega
   have hit:itB l j=#[.int .i64 (k:Int),d.v]:=by
    unfold itB
    rw [hkj,List.getD_eq_getElem?_getD,hd];rfl
   obtain ⟨fn,tmps,assign,body,hy,hR⟩:=hY j wr hlt hJ
   rw [hit] at hy
   dsimp only [Dc.v] at hy
   have HJ:Hid (l.length-1-j=k∧j<l.length):=⟨hkj,hlt⟩
   clear hz hit hkj hlt hd
   gi_wp2
   refine hR.mono ?_
   rintro e W3 ⟨rfl,hJ3⟩
   gi_wp2
   go_roundw
   case rel=>exact ⟨j+1,(k:Int)-1,by go_num,by have:=HJ.out;omega,by have:=HJ.out;omega,hJ3⟩
   case measure=>simp [RowKit.intOf]
  ·obtain rfl:j=l.length:=by omega
   have hz':z=-1:=by omega
   subst hz'
   clear hz
   gi_wp2
   go_end0
   exact ⟨⟨_,rfl⟩,hJ⟩
end Go.Proofs.YtpdlohfdjiaegaaGreatDoor.Lw
