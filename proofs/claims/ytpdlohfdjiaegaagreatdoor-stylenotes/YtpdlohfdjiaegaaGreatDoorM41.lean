import Derived.RangeFuncNested
import Derived.RangeFuncBound
import Derived.RangeFuncCalls
import Derived.RangeFuncLeaves
import Derived.Shelf.Abstract
import Derived.Shelf.RegionOpen
import Derived.OwnWalkIn
import Derived.TacticsInMore
import Derived.LoopNIn
import Derived.LoopIn
import Derived.RangeFuncOwn
import Derived.Test.YtpdlohfdjiaegaaGreatDoorM40
set_option linter.unusedVariables false
set_option linter.unusedSimpArgs false
namespace Go.Proofs.YtpdlohfdjiaegaaGreatDoor
open Go.RowKit Go.Shelf
attribute [local go_sem] Oper.semAt_some
def Goes (F:Fence) (n:Nat) (P:Program) (gf:Nat) (lb:Array Value) (it:Nat→Array Value) (N:Nat) (G:World→Prop):Prop:=
 ∀(l:Nat) (J:Nat→World→Prop) (W:World),(∀j W,J j W→G W)→AbidesFrom W.heap.size J→(∀j W1,j<N→J j W1→YieldAt F (n-1) P l (it j) W1 fun e W'=>e=.returned (.bool true)∧J (j+1) W')→J 0 W →
  CallsIn F n P gf (#[.func (.yield l) #[] #[]]++lb) W fun e W'=>(∃v,e=.returned v)∧J N W'
theorem wpIn_goes {F:Fence}{n:Nat}{P:Program}{g:Operand}{ps:Array Tmp}{assign body:Code}{Q:Exit→Act→World→Prop}{a:Act}{w:World}(hro:F.round=none) (h1:1≤n) {gf:Nat}{lb:Array Value}(hg:a.eval g=.func (.func gf) #[] lb) (hF:F.fn gf)
  (eg:∀args w,(callFunc gf args).run P w=.ok (.enter gf args) w) {it:Nat→Array Value} {N:Nat} {G:World→Prop} (hit:Goes F (n-1) P gf lb it N G) (hps:∀j,(it j).size=ps.size)
  (I:Nat→World→Prop) (hI:OwnFrom w.heap.size I) (hG:∀j W,I j W→G W) (h0:I 0 w) (Ax:Nat→Act→World→Prop) (hAx:∀j a',OwnFrom w.heap.size (fun (_:Unit) W=>Ax j a' W))
  (hassign:∀(l j:Nat) (W:World) (K:Act→World→Prop),j<N→I j W→(∀a' W',KeepsFrom w.heap.size W W'→I j W'→Ax j a' W'→K a' W') →
   assign.wpIn (F.inRound l) (n-1-1) P (Exit.then K (fun _ _ _=>False)) { tmps:=(ps.zip (it j)).foldl (fun t (p,v)=>t.setIfInBounds p v) a.tmps,defers:=[] } W)
  (hbody:∀(l j:Nat) (a':Act) (W:World),j<N→I j W→Ax j a' W→body.wpIn (F.inRound l) (n-1-1) P (fun e _ W'=>e=.normal∧KeepsFrom w.heap.size W W'∧I (j+1) W') a' W)
  (hdone:∀(D:Nat) (W:World),w.heap.size≤D→I N W→W.heap[D]?=some (.deferred (some []))→Q .normal { a with defers:={ target:=.collected D,args:=#[] } :: a.defers } W) :
  (Code.rangeFunc g ps assign body).wpIn F n P Q a w:=by
 refine wpIn_rangeFunc fun fn hfn=>?_
 rw [hro]
 obtain ⟨L,hL⟩:∃L:LoopState→Loop,∀st,L st={ state:=st,pending:=none,fn,tmps:=a.tmps,params:=ps,assign,body,defers:=w.heap.size }:=⟨_,fun _=>rfl⟩
 have hent:=run_enterLoop_outer (P:=P) (w:=w) fn a.tmps ps assign body
 rw [←hL] at hent
 obtain ⟨V,hV⟩:∃V,(w.alloc (.deferred (some []))).alloc (.loop (L .ready))=V:=⟨_,rfl⟩
 rw [hV] at hent
 have e1:(w.alloc (.deferred (some []))).heap.size=w.heap.size+1:=World.size_alloc _ _
 have vr:V.heap[w.heap.size+1]?=some (.loop (L .ready)):=by rw [←hV,←e1];exact new_at _ _
 have vd:V.heap[w.heap.size]?=some (.deferred (some [])):=by rw [←hV];exact alloc_at' (new_at _ _) _
 have vs:w.heap.size+2≤V.heap.size:=by rw [←hV,World.size_alloc,e1];exact Nat.le_refl _
 have vi:I 0 V:=by rw [←hV];exact hI.alloc _ (hI.alloc _ h0)
 refine ⟨w.heap.size+1,_,V,{ target:=.fn (.func gf) lb,args:=#[.func (.yield (w.heap.size+1)) #[] #[]] },V,gf,#[.func (.yield (w.heap.size+1)) #[] #[]]++lb,V,hent,?_,?_,?_,fun _=>h1,?_⟩
 ·simp only [resolve,hg];simp [go_sem]
 ·intro f' hf';simp [Target.leads] at hf';subst hf';exact hF
 ·simp [invoke,go_sem,eg]
 refine (hit (w.heap.size+1) (fun j W=>I j W∧W.heap[w.heap.size+1]?=some (.loop (L .ready))∧W.heap[w.heap.size]?=some (.deferred (some []))) V (fun j W h=>hG j W h.1) ?_ ?_ ⟨vi,vr,vd⟩).mono ?_
 ·intro j A B row hs hgr hr
  refine ⟨hI j A B row hs.1 hgr fun r e=>?_,(grownBy_keeps hgr (fun r e=>(hr r e).2) hs.2.1 rfl).trans hs.2.1,(grownBy_keeps hgr (fun r e=>(hr r e).2) hs.2.2 rfl).trans hs.2.2⟩
  obtain ⟨hb,o,ho,hw⟩:=hr r e
  exact ⟨by omega,o,ho,Obj.not_cells_of_walk hw⟩
 ·rintro j W hj ⟨hi,hr,hd⟩
  have hy:=run_yield (P:=P) (args:=it j) hr (by rw [hL];exact hps j)
  rw [hL] at hy
  refine ⟨fn,_,assign,body,hy,roundIn_of_wpIn hfn (hassign _ j W _ hj hi ?_)⟩
  intro a' W' hk hi' hax
  have hr':=hk.same _ _ (by omega) hr rfl
  have hd':=hk.same _ _ (Nat.le_refl _) hd rfl
  have hlt:=blk_lt hr'
  refine ⟨_,run_beginRound hr' (by rw [hL]),?_⟩
  obtain ⟨W2,hW2⟩:∃W2,W'.putObj (w.heap.size+1) (.loop { L .ready with state:=.busy })=W2:=⟨_,rfl⟩
  have r2:W2.heap[w.heap.size+1]?=some (.loop { L .ready with state:=.busy }):=by rw [←hW2];exact World.putObj_heap_same hlt
  have d2:W2.heap[w.heap.size]?=some (.deferred (some [])):=by rw [←hW2];exact (World.putObj_heap_other (by omega)).trans hd'
  have i2:I j W2:=by rw [←hW2];exact hI.putObj _ hi' (by omega) hr' rfl
  have x2:Ax j a' W2:=by rw [←hW2];exact (hAx j a').putObj (s:=()) _ hax (by omega) hr' rfl
  rw [hW2]
  refine wpIn_mono (hbody _ j a' W2 hj i2 x2) ?_
  rintro e a3 W3 ⟨rfl,hk3,i3⟩
  have r3:=hk3.same _ _ (by omega) r2 rfl
  have d3:=hk3.same _ _ (Nat.le_refl _) d2 rfl
  have hend:=run_endRound (P:=P) none r3
  rw [hL] at hend
  refine ⟨_,_,hend,rfl,hI.putObj _ i3 (by omega) r3 rfl,?_,(World.putObj_heap_other (by omega)).trans d3⟩
  rw [World.putObj_heap_same (blk_lt r3),hL]
  rfl
 ·rintro e W ⟨⟨v,rfl⟩,hi,hr,hd⟩
  have hend:=run_endLoop (P:=P) hr (by rw [hL];simp)
  rw [hL] at hend
  exact ⟨none,_,hend,hdone _ _ (Nat.le_refl _) (hI.putObj _ hi (by omega) hr rfl) ((World.putObj_heap_other (by omega)).trans hd)⟩
attribute [local go_sem] Oper.semAt_some
theorem ko_below {w w':World}(h:Below w.heap.size w w'):KeepsOthers w w':=⟨h.size,fun k o hk _=>(h.block k (blk_lt hk)).trans hk⟩
theorem ko_kp {S:Nat→Prop}{w w':World}(h:Kp S w w') (hS:∀k,S k→∀o,w.heap[k]?=some o→o.isCells=true):KeepsOthers w w':=
 ⟨h.size,fun k o hk ho=>h.blk hk (fun hs=>by rw [hS k hs o hk] at ho;cases ho)⟩
theorem keeps_cell {W W':World}{row:Option Nat}(hg:W.grownBy W' row) (hrow:∀r,row=some r→∃o:Obj,W.heap[r]?=some o∧o.isCells=false) {k:Nat}{cs:Array Value}{T:TypeId}{f:Nat × Nat}(h:W.heap[k]?=some (.cells cs T f)):W'.heap[k]?=some (.cells cs T f):=
 (grownBy_keeps_cells hg hrow h rfl).trans h
theorem keeps_row {W W':World}{row:Option Nat}(hg:W.grownBy W' row) (hrow:∀r,row=some r→∃o:Obj,W.heap[r]?=some o∧o.isCells=false) {e sz n:Nat}{v:Value}{xs:List Value}(h:W.ownsRow 0 e sz v n xs):W'.ownsRow 0 e sz v n xs:=by
 refine ⟨h.1,?_⟩
 rcases h.2 with h1|⟨g,cap,cur,rfl,a1,a2,a3⟩
 ·exact .inl h1
 ·exact .inr ⟨g,cap,cur,rfl,a1,keeps_cell hg hrow a2,a3⟩
def Lv (W:World) (ao:Option Addr) (l:List Value):Prop:=∀j s,l[j]?=some s→(∃fn fi ca,s=.func fn fi ca)∧∃b off,ao=some ⟨b,off,none⟩∧W.cell? ⟨b,off+j,none⟩=some s
theorem Lv.kp {S:Nat→Prop}{w w':World}{ao:Option Addr}{l:List Value}(h:Lv w ao l) (hb:Kp S w w') (hS:∀a,ao=some a→¬S a.block):Lv w' ao l:=by
 intro j a ha
 obtain ⟨h0,b,off,h1,c0⟩:=h j a ha
 have hlt:=World.block_lt_of_cell? _ _ c0
 have e:w'.heap[b]?=w.heap[b]?:=hb.block b hlt (hS _ h1)
 exact ⟨h0,b,off,h1,(World.cell?_of_block (a:=⟨b,_,none⟩) e).trans c0⟩
theorem backward_any (ao:Option Addr) (n cap:Nat) (w:World):Calls Tryz.prog 187 #[.slice ao n cap] w fun e w'=>e=.returned (.func (.func 217) #[] #[.pointer (some ⟨w.heap.size,0,none⟩)])∧w'=w.alloc (.cells #[.slice ao n cap] 102):=by
 have hmf:∀(fn:Fn) (first cap:Array Value) (w:World),(Instr.makeFunc fn first cap).run Tryz.prog w=.ok (.func fn first cap) w:=fun _ _ _ _=>rfl
 go_enter Tryz.func187,Tryz.ntmps187
 go_wp2_with fail
 go_ret
 exact ⟨rfl,rfl⟩
def itB (l:List Value) (j:Nat):Array Value:=#[.int .i64 ((l.length-1-j:Nat):Int),l.getD (l.length-1-j) .nilFunc]
set_option maxRecDepth 100000 in
set_option maxHeartbeats 2000000 in
theorem backward_goes (n:Nat) (hn:1≤n) (Bn:Nat) (ao:Option Addr) (l:List Value) (cap:Nat) (hl:l.length≤1000000) :
  Goes Fence.wide n Tryz.prog 217 #[.pointer (some ⟨Bn,0,none⟩)] (itB l) l.length (fun W=>W.cell? ⟨Bn,0,none⟩=some (.slice ao l.length cap)∧Lv W ao l):=by
 intro lp J W hG hA hY h0
 refine callsIn_of_wp Tryz.func217 rfl trivial ?_ rfl
 simp only [Tryz.ntmps217,List.size_toArray,List.length_cons,List.length_nil,Nat.reduceAdd,Nat.reduceSub,Array.replicate_succ,Array.replicate_zero,List.push_toArray,List.append_toArray,List.nil_append,List.cons_append]
 have g0:=(hG 0 W h0).1
 have hln:(l.length:Int)≤1000000:=by omega
 gi_wp2
 gi_loopw [3] (fun i wr=>∃(j:Nat) (z:Int),i=.int .i64 z∧z=(l.length:Int)-1-j∧j≤l.length∧J j wr) (fun i _=>(intOf i+1).toNat)
 case atStart=>exact ⟨0,_,by go_num,by omega,Nat.zero_le _,h0⟩
 case round=>
  obtain ⟨j,z,rfl,hz,hj,hJ⟩:=hrel
  by_cases hlt:j<l.length
  ·obtain ⟨k,hk⟩:∃k:Nat,z=k:=⟨z.toNat,by omega⟩
   subst hk
   have hkl:k<l.length:=by omega
   have hkj:l.length-1-j=k:=by omega
   obtain ⟨d,hd⟩:∃d,l[k]?=some d:=⟨_,List.getElem?_eq_getElem hkl⟩
   obtain ⟨gc,gL⟩:=hG j wr hJ
   obtain ⟨ht,b,off,rfl,c0⟩:=gL k d hd
   have q1:(0:Int)≤k:=by omega
   have q2:(k:Int)<l.length:=by omega
   have hit:itB l j=#[.int .i64 (k:Int),d]:=by
    unfold itB
    rw [hkj,List.getD_eq_getElem?_getD,hd];rfl
   obtain ⟨fn,tmps,assign,body,hy,hR⟩:=hY j wr hlt hJ
   rw [hit] at hy
   have HJ:Hid (l.length-1-j=k∧j<l.length):=⟨hkj,hlt⟩
   clear hz hit hkj hlt hd
   gi_wp2
   refine hR.mono ?_
   rintro e W3 ⟨rfl,hJ3⟩
   gi_wp2
   go_roundw
   case rel=>exact ⟨j+1,(k:Int)-1,by go_num,by have:=HJ.out;omega,by have:=HJ.out;omega,hJ3⟩
   case measure=>simp [RowKit.intOf]
  ·obtain rfl:j=l.length:=by omega
   have hz':z=-1:=by omega
   subst hz'
   clear hz
   gi_wp2
   go_end0
   exact ⟨⟨_,rfl⟩,hJ⟩
end Go.Proofs.YtpdlohfdjiaegaaGreatDoor
