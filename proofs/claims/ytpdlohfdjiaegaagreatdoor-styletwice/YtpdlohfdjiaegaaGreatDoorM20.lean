import Derived.RangeFuncNested
import Derived.RangeFuncBound
import Derived.RangeFuncCalls
import Derived.RangeFuncLeaves
import Derived.Shelf.Abstract
import Derived.Shelf.RegionOpen
import Derived.OwnWalkIn
import Derived.TacticsInMore
import Derived.LoopNIn
import Derived.LoopIn
import Derived.Laws.EntriesVeiled
import Derived.Test.YtpdlohfdjiaegaaGreatDoorM18
set_option linter.unusedVariables false
set_option linter.unusedSimpArgs false
set_option maxHeartbeats 4000000
set_option maxRecDepth 100000
namespace Go.Proofs.YtpdlohfdjiaegaaGreatDoor.Lw
open Go.Proofs.YtpdlohfdjiaegaaGreatDoor.Lx
open Go.RowKit
variable {B gb ga:Nat}{w:World}{s:Sp}
theorem uf {x:Sp}{r:List Sp}(h:TL B w gb ga s (x :: r)) (hs:Sb s) (hx:Sb x) (hB:B<=w.heap.size) (hn:r.length<=1000000000) (i:Int) (e:Bool) :
  Da 153 #[.agg #[.int .u8 6,.string ⟨#[]⟩,.int .i64 0,.int .i64 i,.bool e],.pointer (some ⟨ga,0,none⟩),.pointer (some ⟨gb,0,none⟩)] w fun e w'=>TA B w gb ga (s.all,x.wid s.all,r) e w':=by
 have hnab:=h.ne;have gbl:=ap h.hb;have gal:ga<w.heap.size:=by obtain ⟨v,h1,_⟩:=h.ha;exact ap h1
 have b0:w.cell? ⟨gb,0,none⟩=some (.int .i64 s.all):=aa h.hb rfl;have b1:w.cell? ⟨gb,1,none⟩=some (.int .i64 s.hang):=aa h.hb rfl;have fb0:w.frozen? ⟨gb,0,none⟩=false:=ak h.hb;have fb1:w.frozen? ⟨gb,1,none⟩=false:=ak h.hb;have fa0:w.frozen? ⟨ga,0,none⟩=false:=by obtain ⟨v,h1,_⟩:=h.ha;exact ak h1
 obtain ⟨b,cap,c1,c2,c3,c4,c5,⟨c6,c7,c8⟩,hp1,hp2⟩:=h.pop (Below.refl _ _) hB;obtain ⟨W1,hW1⟩:∃W1,((w.setCell ⟨gb,0,none⟩ (.int .i64 x.all)).setCell ⟨gb,1,none⟩ (.int .i64 x.hang)).setCell ⟨ga,0,none⟩ (.slice (some ⟨b,0,none⟩) r.length cap)=W1:=⟨_,rfl⟩
 have HP:Hid (∀o,TL B (W1.alloc o).drew gb ga x r/\Bo B gb ga w (W1.alloc o).drew):=by
  intro o;rw [hW1] at hp1 hp2;exact ⟨hp1.below ((Below.refl _ _).alloc (Nat.le_refl _) _).drew,hp2.trans (Bo.of_below ((Below.refl _ _).alloc (Nat.le_refl _) _).drew)⟩
 have HW:Hid (∀W,Bo B gb ga w W->TL B W gb ga x r->Da 154 #[.pointer (some ⟨gb,0,none⟩),.int .i64 s.all] W fun e w'=>e=.returned (.tuple #[])/\TL B w' gb ga (x.wid s.all) r/\Bo B gb ga W w'):=fun W hW hL=>eZ hL hx _ (by have:=hs.1;omega) (Nat.le_trans hB hW.size)
 have hsa:s.all<=4097:=hs.1;clear h hs hx hB;have c3':cap<=9223372036854775807:=c3
 go_enter Tryz.func153,Tryz.ntmps153
 go_wp2_with fail
 go_region
 all_goals go_wp2_with fail
 refine (HW.out _ (HP.out _).2 (HP.out _).1).mono ?_;rintro e w2 ⟨rfl,h2,hb2⟩;have H2:Hid (TL B w2 gb ga (x.wid s.all) r/\Bo B gb ga w w2):=⟨h2,(HP.out _).2.trans hb2⟩;clear h2 hb2
 go_wp2_with fail
 go_ret
 exact ⟨rfl,H2.out.1,H2.out.2⟩
theorem bS {st:List Sp}(h:TL B w gb ga s st) (hs:Sb s) (hst:∀x∈st,Sb x) (hB:B<=w.heap.size) (hT:∀W,Kp (Sx B gb ga) w W->Tab W) (hn:st.length<=1000000000) (d:Dc) (hd:rt d=true) (h6:d.k=6->st≠[]) :
  Da 153 #[d.v,.pointer (some ⟨ga,0,none⟩),.pointer (some ⟨gb,0,none⟩)] w fun e w'=>TA B w gb ga (dA d (s,st)) e w':=by
 cases iA hd with
 |text t hq=>exact rK h hs hB hT t (iO hq).2
 |brk m hq=>
  obtain ⟨q1,q2⟩:=lw hq;have:=ue h hs hB m.toNat (by omega);rw [show ((m.toNat:Nat):Int)=m by omega] at this;exact this
 |beg m e hq=>
  cases st with
  |nil=>exact absurd rfl (h6 rfl)
  |cons x r=>exact uf h hs (hst x List.mem_cons_self) hB (by simp at hn;omega) m e
 |blank=>exact oK h hs hB
 |hard=>exact km h hs hB 4 (.inl rfl)
 |empty=>exact km h hs hB 5 (.inr rfl)
 | «end»=>exact uc h hs hB hn
end Go.Proofs.YtpdlohfdjiaegaaGreatDoor.Lw
namespace Go.Proofs.YtpdlohfdjiaegaaGreatDoor.Lw
open Go.Proofs.YtpdlohfdjiaegaaGreatDoor.Lx
open Go.RowKit Go.Shelf
variable {w W W':World}{l:List Dc}{ao:Option Addr}{cap s j:Nat}
attribute [local go_sem] Oper.semAt_some
def xh (F:Fence) (n:Nat) (P:Program) (gf:Nat) (lb:Array Value) (it:Nat->Array Value) (N:Nat) (G:World->Prop):Prop:=
 ∀(l:Nat) (J:Nat->World->Prop) (W:World),(∀j W,J j W->G W)->AbidesFrom W.heap.size J->(∀j W1,j<N->J j W1->YieldAt F (n-1) P l (it j) W1 fun e W'=>e=.returned (.bool true)/\J (j+1) W')->J 0 W ->
  CallsIn F n P gf (#[.func (.yield l) #[] #[]]++lb) W fun e W'=>(∃v,e=.returned v)/\J N W'
theorem gW {F:Fence}{n:Nat}{P:Program}{g:Operand}{ps:Array Tmp}{assign body:Code}{Q:Exit->Act->World->Prop}{a:Act}(hro:F.round=none) (h1:1<=n) {gf:Nat}{lb:Array Value}(hg:a.eval g=.func (.func gf) #[] lb) (hF:F.fn gf)
  (eg:∀args w,(callFunc gf args).run P w=.ok (.enter gf args) w) {it:Nat->Array Value} {N:Nat} {G:World->Prop} (hit:xh F (n-1) P gf lb it N G) (hps:∀j,(it j).size=ps.size)
  (I:Nat->World->Prop) (hI:OwnFrom w.heap.size I) (hG:∀j W,I j W->G W) (h0:I 0 w) (Ax:Nat->Act->World->Prop) (hAx:∀j a',OwnFrom w.heap.size (fun (_:Unit) W=>Ax j a' W))
  (hassign:∀(l j:Nat) (W:World) (K:Act->World->Prop),j<N->I j W->(∀a' W',KeepsFrom w.heap.size W W'->I j W'->Ax j a' W'->K a' W') ->
   assign.wpIn (F.inRound l) (n-1-1) P (Exit.then K (fun _ _ _=>False)) { tmps:=(ps.zip (it j)).foldl (fun t (p,v)=>t.setIfInBounds p v) a.tmps,defers:=[] } W)
  (hbody:∀(l j:Nat) (a':Act) (W:World),j<N->I j W->Ax j a' W->body.wpIn (F.inRound l) (n-1-1) P (fun e _ W'=>e=.normal/\KeepsFrom w.heap.size W W'/\I (j+1) W') a' W)
  (hdone:∀(D:Nat) (W:World),w.heap.size<=D->I N W->W.heap[D]?=some (.deferred (some []))->Q .normal { a with defers:={ target:=.collected D,args:=#[] } :: a.defers } W) :
  (Code.rangeFunc g ps assign body).wpIn F n P Q a w:=by
 refine wpIn_rangeFunc fun fn hfn=>?_
 rw [hro];obtain ⟨L,hL⟩:∃L:LoopState->Loop,∀st,L st={ state:=st,pending:=none,fn,tmps:=a.tmps,params:=ps,assign,body,defers:=w.heap.size }:=⟨_,fun _=>rfl⟩;have hent:=run_enterLoop_outer (P:=P) (w:=w) fn a.tmps ps assign body;rw [<-hL] at hent;obtain ⟨V,hV⟩:∃V,(w.alloc (.deferred (some []))).alloc (.loop (L .ready))=V:=⟨_,rfl⟩;rw [hV] at hent;have e1:(w.alloc (.deferred (some []))).heap.size=w.heap.size+1:=World.size_alloc _ _;have vr:V.heap[w.heap.size+1]?=some (.loop (L .ready)):=by rw [<-hV,<-e1];exact am _ _
 have vd:V.heap[w.heap.size]?=some (.deferred (some [])):=by rw [<-hV];exact ay (am _ _) _
 have vs:w.heap.size+2<=V.heap.size:=by rw [<-hV,World.size_alloc,e1];exact Nat.le_refl _
 have vi:I 0 V:=by rw [<-hV];exact hI.alloc _ (hI.alloc _ h0)
 refine ⟨w.heap.size+1,_,V,{ target:=.fn (.func gf) lb,args:=#[.func (.yield (w.heap.size+1)) #[] #[]] },V,gf,#[.func (.yield (w.heap.size+1)) #[] #[]]++lb,V,hent,?_,?_,?_,fun _=>h1,?_⟩
 ·simp only [resolve,hg];simp [go_sem]
 ·intro f' hf';simp [Target.leads] at hf';subst hf';exact hF
 ·simp [invoke,go_sem,eg]
 refine (hit (w.heap.size+1) (fun j W=>I j W/\W.heap[w.heap.size+1]?=some (.loop (L .ready))/\W.heap[w.heap.size]?=some (.deferred (some []))) V (fun j W h=>hG j W h.1) ?_ ?_ ⟨vi,vr,vd⟩).mono ?_
 ·intro j A B row hs hgr hr;refine ⟨hI j A B row hs.1 hgr fun r e=>?_,(grownBy_keeps hgr (fun r e=>(hr r e).2) hs.2.1 rfl).trans hs.2.1,(grownBy_keeps hgr (fun r e=>(hr r e).2) hs.2.2 rfl).trans hs.2.2⟩;obtain ⟨hb,o,ho,hw⟩:=hr r e;exact ⟨by omega,o,ho,Obj.not_cells_of_walk hw⟩
 ·rintro j W hj ⟨hi,hr,hd⟩;have hy:=run_yield (P:=P) (args:=it j) hr (by rw [hL];exact hps j);rw [hL] at hy;refine ⟨fn,_,assign,body,hy,roundIn_of_wpIn hfn (hassign _ j W _ hj hi ?_)⟩;intro a' W' hk hi' hax;have hr':=hk.same _ _ (by omega) hr rfl;have hd':=hk.same _ _ (Nat.le_refl _) hd rfl;have hlt:=ap hr';refine ⟨_,run_beginRound hr' (by rw [hL]),?_⟩;obtain ⟨W2,hW2⟩:∃W2,W'.putObj (w.heap.size+1) (.loop { L .ready with state:=.busy })=W2:=⟨_,rfl⟩;have r2:W2.heap[w.heap.size+1]?=some (.loop { L .ready with state:=.busy }):=by rw [<-hW2];exact World.putObj_heap_same hlt
  have d2:W2.heap[w.heap.size]?=some (.deferred (some [])):=by rw [<-hW2];exact (World.putObj_heap_other (by omega)).trans hd'
  have i2:I j W2:=by rw [<-hW2];exact hI.putObj _ hi' (by omega) hr' rfl
  have x2:Ax j a' W2:=by rw [<-hW2];exact (hAx j a').putObj (s:=()) _ hax (by omega) hr' rfl
  rw [hW2];refine wpIn_mono (hbody _ j a' W2 hj i2 x2) ?_;rintro e a3 W3 ⟨rfl,hk3,i3⟩;have r3:=hk3.same _ _ (by omega) r2 rfl;have d3:=hk3.same _ _ (Nat.le_refl _) d2 rfl;have hend:=run_endRound (P:=P) none r3;rw [hL] at hend;refine ⟨_,_,hend,rfl,hI.putObj _ i3 (by omega) r3 rfl,?_,(World.putObj_heap_other (by omega)).trans d3⟩;rw [World.putObj_heap_same (ap r3),hL];rfl
 ·rintro e W ⟨⟨v,rfl⟩,hi,hr,hd⟩;have hend:=run_endLoop (P:=P) hr (by rw [hL];simp);rw [hL] at hend;exact ⟨none,_,hend,hdone _ _ (Nat.le_refl _) (hI.putObj _ hi (by omega) hr rfl) ((World.putObj_heap_other (by omega)).trans hd)⟩
attribute [local go_sem] Oper.semAt_some
theorem eR (ao:Option Addr) (n cap:Nat) (w:World):Da 103 #[.slice ao n cap] w fun e w'=>e=.returned (.func (.func 156) #[] #[.pointer (some ⟨w.heap.size,0,none⟩)])/\w'=w.alloc (.cells #[.slice ao n cap] 46):=by
 have hmf:=mkfn
 go_enter Tryz.func103,Tryz.ntmps103
 go_wp2_with fail
 go_ret
 exact ⟨rfl,rfl⟩
def zD:Dc:=⟨0,bE,0,0,false⟩
def itB (l:List Dc) (j:Nat):Array Value:=#[.int .i64 ((l.length-1-j:Nat):Int),(l.getD (l.length-1-j) zD).v]
theorem bq {row:Option Nat}(hg:W.grownBy W' row) (hrow:∀r,row=some r->∃o:Obj,W.heap[r]?=some o/\o.isCells=false) {k:Nat}{cs:Array Value}{T:TypeId}{f:Nat × Nat}(h:W.heap[k]?=some (.cells cs T f)):W'.heap[k]?=some (.cells cs T f):=
 (grownBy_keeps_cells hg hrow h rfl).trans h
theorem ej (n:Nat) (hn:1<=n) (Bn:Nat) (ao:Option Addr) (l:List Dc) (cap:Nat) (hl:l.length<=1000000000000) :
  xh Fence.wide n Tryz.prog 156 #[.pointer (some ⟨Bn,0,none⟩)] (itB l) l.length (fun W=>W.cell? ⟨Bn,0,none⟩=some (.slice ao l.length cap)/\Lay W ao l):=by
 intro lp J W hG hA hY h0;refine callsIn_of_wp Tryz.func156 rfl trivial ?_ rfl;simp only [Tryz.ntmps156,List.size_toArray,List.length_cons,List.length_nil,Nat.reduceAdd,Nat.reduceSub,Array.replicate_succ,Array.replicate_zero,List.push_toArray,List.append_toArray,List.nil_append,List.cons_append];have g0:=(hG 0 W h0).1;have hln:(l.length:Int)<=1000000000000:=by omega
 gi_wp2
 gi_loopw [3] (fun i wr=>∃(j:Nat) (z:Int),i=.int .i64 z/\z=(l.length:Int)-1-j/\j<=l.length/\J j wr) (fun i _=>(intOf i+1).toNat)
 case atStart=>exact ⟨0,_,by go_num,by omega,Nat.zero_le _,h0⟩
 case round=>
  obtain ⟨j,z,rfl,hz,hj,hJ⟩:=hrel
  by_cases hlt:j<l.length
  ·obtain ⟨k,hk⟩:∃k:Nat,z=k:=⟨z.toNat,by omega⟩;subst hk;have hkl:k<l.length:=by omega
   have hkj:l.length-1-j=k:=by omega
   obtain ⟨d,hd⟩:∃d,l[k]?=some d:=⟨_,List.getElem?_eq_getElem hkl⟩;obtain ⟨gc,gL⟩:=hG j wr hJ;obtain ⟨ht,b,off,rfl,c0,c1,c2,c3,c4⟩:=gL k d hd;have q1:(0:Int)<=k:=by omega
   have q2:(k:Int)<l.length:=by omega
   have hit:itB l j=#[.int .i64 (k:Int),d.v]:=by
    unfold itB;rw [hkj,List.getD_eq_getElem?_getD,hd];rfl
   obtain ⟨fn,tmps,assign,body,hy,hR⟩:=hY j wr hlt hJ;rw [hit] at hy
   dsimp only [Dc.v] at hy
   have HJ:Hid (l.length-1-j=k/\j<l.length):=⟨hkj,hlt⟩;clear hz hit hkj hlt hd
   gi_wp2
   refine hR.mono ?_;rintro e W3 ⟨rfl,hJ3⟩
   gi_wp2
   go_roundw
   case rel=>exact ⟨j+1,(k:Int)-1,by go_num,by have:=HJ.out;omega,by have:=HJ.out;omega,hJ3⟩
   case measure=>simp [RowKit.intOf]
  ·obtain rfl:j=l.length:=by omega
   have hz':z=-1:=by omega
   subst hz';clear hz
   gi_wp2
   go_end0
   exact ⟨⟨_,rfl⟩,hJ⟩
attribute [local go_sem] Oper.semAt_some
theorem oJ (w:World):Da 102 #[] w fun e w'=>e=.returned (.func (.func 153) #[] #[.pointer (some ⟨w.heap.size+1,0,none⟩),.pointer (some ⟨w.heap.size,0,none⟩)])/\w'=(w.alloc (.cells #[.int .i64 0,.int .i64 0] 216)).alloc (.cells #[.slice none 0 0] 217):=by
 have hmf:=mkfn
 go_enter Tryz.func102,Tryz.ntmps102
 go_wp2_with fail
 go_ret
 exact ⟨rfl,rfl⟩
def ni (l:List Nat):List Value:=l.map fun (x:Nat)=>Value.int .i64 (x:Int)
theorem AX (l:List Nat):(ni l).length=l.length:=by simp [ni]
def ndl (l:List Dc) (i:Nat):List Nat:=List.replicate i 0++(nds (l.drop i)).1
theorem yu (l:List Dc) (i:Nat) (hi:i<=l.length):(ndl l i).length=l.length:=by simp [ndl,gE];omega
theorem yt (l:List Dc) (i:Nat) (d:Dc) (hd:l[i]?=some d):(ndl l (i+1)).set i (dA d (nds (l.drop (i+1))).2).1=ndl l i:=by
 obtain ⟨h1,h2⟩:=List.getElem?_eq_some_iff.1 hd;unfold ndl;rw [List.drop_eq_getElem_cons h1,h2,List.replicate_succ',List.append_assoc,List.set_append_right _ _ (by simp)];simp [nds]
theorem Ce (N:Nat) (hN:N<=100000000) (w:World):(Instr.makeSlice 109 (.int .i64 (N:Int)) (.int .i64 (N:Int))).run Tryz.prog w=.ok (.slice (some ⟨w.heap.size,0,none⟩) N N) (w.alloc (.cells (ni (List.replicate N 0)).toArray 3)):=by
 obtain ⟨i0,hi,hz0,hz1,hz2⟩:=info_parts Tryz.info3;have h:=run_make (P:=Tryz.prog) w 109 3 i0 (.int .i64 0) Tryz.underlying109 hi hz0 .i64 .i64 (N:Int) (N:Int) (by omega) (by omega) (by rw [hz2];omega) (by omega);rw [h]
 congr 4
 rw [hz1]
 apply Array.toList_inj.1
 show (madeCells #[.int .i64 0] _).toList=_
 rw [toList_madeCells_one];simp [ni]
structure NI (w:World) (l:List Dc) (ao:Option Addr) (cap:Nat) (s j:Nat) (W:World):Prop where
 bel:Below s w W
 row:W.heap[s]?=some (.cells (ni (ndl l (l.length-j))).toArray 3 (0,0))
 box:W.heap[s+1]?=some (.cells #[.slice (some ⟨s,0,none⟩) l.length l.length] 109 (0,0))
 tl:TL (s+1+1+1+1+1+1) W (s+1+1) (s+1+1+1) (nds (l.drop (l.length-j))).2.1 (nds (l.drop (l.length-j))).2.2
 fn:W.heap[s+1+1+1+1]?=some (.cells #[.func (.func 153) #[] #[.pointer (some ⟨s+1+1+1,0,none⟩),.pointer (some ⟨s+1+1,0,none⟩)]] 157 (0,0))
 bn:W.heap[s+1+1+1+1+1]?=some (.cells #[.slice ao l.length cap] 46 (0,0))
theorem TL.own {B:Nat}{gb ga:Nat}{s:Sp}{st:List Sp}{row:Option Nat}(h:TL B W gb ga s st) (hg:W.grownBy W' row) (hrow:∀r,row=some r->∃o:Obj,W.heap[r]?=some o/\o.isCells=false):TL B W' gb ga s st:=by
 obtain ⟨v,h1,h2,h3⟩:=h.ha;refine ⟨bq hg hrow h.hb,⟨v,bq hg hrow h1,⟨h2.1,?_⟩,h3⟩⟩
 rcases h2.2 with h4|⟨g,cap,cur,rfl,a1,a2,a3⟩
 ·exact .inl h4
 ·exact .inr ⟨g,cap,cur,rfl,a1,bq hg hrow a2,a3⟩
theorem NI.own {row:Option Nat}(h:NI w l ao cap s j W) (hs:s<=w.heap.size) (hg:W.grownBy W' row) (hrow:∀r,row=some r->s<=r/\∃o:Obj,W.heap[r]?=some o/\o.isCells=false):NI w l ao cap s j W':=
 have hr:=fun r e=>(hrow r e).2
 ⟨h.bel.grown hg (Nat.le_trans hs h.bel.size) (fun k e=>(hrow k e).1),bq hg hr h.row,bq hg hr h.box,h.tl.own hg hr,bq hg hr h.fn,bq hg hr h.bn⟩
theorem vy (w:World) (l:List Dc) (ao:Option Addr) (cap s:Nat) (hs:w.heap.size=s):NI w l ao cap s 0 ((((((w.alloc (.cells (ni (List.replicate l.length 0)).toArray 3)).alloc (.cells #[.slice (some ⟨s,0,none⟩) l.length l.length] 109)).alloc (.cells #[.int .i64 0,.int .i64 0] 216)).alloc (.cells #[.slice none 0 0] 217)).alloc (.cells #[.func (.func 153) #[] #[.pointer (some ⟨s+1+1+1,0,none⟩),.pointer (some ⟨s+1+1,0,none⟩)]] 157)).alloc (.cells #[.slice ao l.length cap] 46))/\((((((w.alloc (.cells (ni (List.replicate l.length 0)).toArray 3)).alloc (.cells #[.slice (some ⟨s,0,none⟩) l.length l.length] 109)).alloc (.cells #[.int .i64 0,.int .i64 0] 216)).alloc (.cells #[.slice none 0 0] 217)).alloc (.cells #[.func (.func 153) #[] #[.pointer (some ⟨s+1+1+1,0,none⟩),.pointer (some ⟨s+1+1,0,none⟩)]] 157)).alloc (.cells #[.slice ao l.length cap] 46)).heap.size=s+1+1+1+1+1+1:=by
 subst hs;have e0:nds (l.drop (l.length-0))=([],⟨0,0⟩,[]):=by rw [List.drop_eq_nil_of_le (by omega)];rfl
 have e1:ndl l (l.length-0)=List.replicate l.length 0:=by unfold ndl;rw [e0];simp
 refine ⟨⟨?_,?_,?_,⟨?_,.slice none 0 0,?_,?_,fun k hk=>by cases hk⟩,?_,?_⟩,?_⟩
 ·refine (((((Below.alloc ?_ ?_ _).alloc ?_ _).alloc ?_ _).alloc ?_ _).alloc ?_ _).alloc ?_ _
  ·exact Below.refl _ _
  all_goals first|exact Nat.le_refl _|(simp only [World.size_alloc];omega)
 ·rw [e1];exact ay (ay (ay (ay (ay (am _ _) _) _) _) _) _
 ·have:=am (w.alloc (.cells (ni (List.replicate l.length 0)).toArray 3)) (.cells #[.slice (some ⟨w.heap.size,0,none⟩) l.length l.length] 109);rw [World.size_alloc] at this;exact ay (ay (ay (ay this _) _) _) _
 ·rw [e0];have:=am ((w.alloc (.cells (ni (List.replicate l.length 0)).toArray 3)).alloc (.cells #[.slice (some ⟨w.heap.size,0,none⟩) l.length l.length] 109)) (.cells #[.int .i64 0,.int .i64 0] 216);rw [World.size_alloc,World.size_alloc] at this;exact ay (ay (ay this _) _) _
 ·have:=am (((w.alloc (.cells (ni (List.replicate l.length 0)).toArray 3)).alloc (.cells #[.slice (some ⟨w.heap.size,0,none⟩) l.length l.length] 109)).alloc (.cells #[.int .i64 0,.int .i64 0] 216)) (.cells #[.slice none 0 0] 217);rw [World.size_alloc,World.size_alloc,World.size_alloc] at this;exact ay (ay this _) _
 ·rw [e0];exact World.ownsRow_nil _ _ _ _
 ·have:=am ((((w.alloc (.cells (ni (List.replicate l.length 0)).toArray 3)).alloc (.cells #[.slice (some ⟨w.heap.size,0,none⟩) l.length l.length] 109)).alloc (.cells #[.int .i64 0,.int .i64 0] 216)).alloc (.cells #[.slice none 0 0] 217)) (.cells #[.func (.func 153) #[] #[.pointer (some ⟨w.heap.size+1+1+1,0,none⟩),.pointer (some ⟨w.heap.size+1+1,0,none⟩)]] 157);rw [World.size_alloc,World.size_alloc,World.size_alloc,World.size_alloc] at this;exact ay this _
 ·have:=am (((((w.alloc (.cells (ni (List.replicate l.length 0)).toArray 3)).alloc (.cells #[.slice (some ⟨w.heap.size,0,none⟩) l.length l.length] 109)).alloc (.cells #[.int .i64 0,.int .i64 0] 216)).alloc (.cells #[.slice none 0 0] 217)).alloc (.cells #[.func (.func 153) #[] #[.pointer (some ⟨w.heap.size+1+1+1,0,none⟩),.pointer (some ⟨w.heap.size+1+1,0,none⟩)]] 157)) (.cells #[.slice ao l.length cap] 46);rw [World.size_alloc,World.size_alloc,World.size_alloc,World.size_alloc,World.size_alloc] at this;exact this
 ·simp only [World.size_alloc]
theorem nU:∀(l:List Dc) (o:Int) (j:Nat),0<=o->frm o j l=none->∀i,∃o',0<=o'/\frm o' (j+i) (l.drop i)=none
 |l,o,j,ho,h,0=>⟨o,ho,by simpa using h⟩
 |[],o,j,ho,h,i+1=>⟨0,Int.le_refl _,by simp [frm]⟩
 |d :: r,o,j,ho,h,i+1=>by
  simp only [frm] at h
  split at h
  ·rename_i hc
   obtain ⟨o',h1,h2⟩:=nU r _ _ hc.2 h i;refine ⟨o',h1,?_⟩;rw [show j+(i+1)=j+1+i by omega];exact h2
  ·cases h
theorem qL:∀l,(nds l).2.2.length<=l.length
 |[]=>by simp [nds]
 |d :: r=>by
  have:=qL r;show (dA d (nds r).2).2.2.length<=r.length+1;unfold dA
  repeat' split
  all_goals simp
  all_goals omega
theorem pk {w':World}(h:Below w.heap.size w w'):w.grownBy w' none:=⟨h.os,h.tape,h.output,h.size,fun k hk _=>h.block k hk⟩
theorem NI.below (h:NI w l ao cap s j W) (hs:s<=w.heap.size) (hb:Below W.heap.size W W'):NI w l ao cap s j W':=h.own hs (pk hb) (fun r e=>by cases e)
theorem AW (l:List Nat) (i x:Nat):(ni l).toArray.setIfInBounds i (.int .i64 x)=(ni (l.set i x)).toArray:=by
 simp [ni,List.map_set]
theorem NI.next {w1:World}{i:Nat}{d:Dc}(h:NI w l ao cap s j W) (hd:l[i]?=some d) (hj:l.length-j=i+1) (hj2:l.length-(j+1)=i)
  (h1:TL (s+1+1+1+1+1+1) w1 (s+1+1) (s+1+1+1) (dA d (nds (l.drop (i+1))).2).2.1 (dA d (nds (l.drop (i+1))).2).2.2) (h2:Bo (s+1+1+1+1+1+1) (s+1+1) (s+1+1+1) W w1) :
  NI w l ao cap s (j+1) (w1.setCell ⟨s,i,none⟩ (.int .i64 (dA d (nds (l.drop (i+1))).2).1)):=by
 have hk:=h2.1
 have hn:∀k,k<s+1+1\/k=s+1+1+1+1\/k=s+1+1+1+1+1->¬Sx (s+1+1+1+1+1+1) (s+1+1) (s+1+1+1) k:=by
  intro k hk hS;unfold Sx at hS;omega
 have e:nds (l.drop i)=((dA d (nds (l.drop (i+1))).2).1 :: (nds (l.drop (i+1))).1,(dA d (nds (l.drop (i+1))).2).2):=by
  obtain ⟨a1,a2⟩:=List.getElem?_eq_some_iff.1 hd;rw [List.drop_eq_getElem_cons a1,a2];rfl
 have ks:=Kp.set w1 s i (.int .i64 ((dA d (nds (l.drop (i+1))).2).1:Nat));have r0:=hk.blk h.row (hn s (by omega));obtain ⟨v,t1,t2,t3⟩:=h1.ha;refine ⟨?_,?_,?_,⟨?_,v,?_,?_,t3⟩,?_,?_⟩
 ·exact Below.setCell ⟨hk.os.trans h.bel.os,hk.tape.trans h.bel.tape,hk.output.trans h.bel.output,Nat.le_trans h.bel.size hk.size,fun k h1=>(hk.block k (by have:=ap h.row;omega) (hn k (by omega))).trans (h.bel.block k h1)⟩ (p:=⟨s,i,none⟩) (Nat.le_refl _) _
 ·rw [hj2,<-yt l i d hd,<-AW,<-hj];exact af r0 i _
 ·exact aU (hk.blk h.box (hn _ (by omega))) (by omega) _
 ·rw [hj2,e];exact aU h1.hb (by omega) _
 ·exact aU t1 (by omega) _
 ·rw [hj2,e];exact ks.row t2 (fun k e1 e2=>by have:=(t3 k e1).1;omega)
 ·exact aU (hk.blk h.fn (hn _ (by omega))) (by omega) _
 ·exact aU (hk.blk h.bn (hn _ (by omega))) (by omega) _
theorem sH (ao:Option Addr) (l:List Dc) (cap:Nat) (w:World) (hL:Lay w ao l) (hT:Tab w) (hn:l.length<=100000000) (hf:frm 0 0 l=none) :
  Da 58 #[.slice ao l.length cap] w fun e w'=>e=.returned (.slice (some ⟨w.heap.size,0,none⟩) l.length l.length)/\w'.heap[w.heap.size]?=some (.cells (ni (nds l).1).toArray 3 (0,0))/\Below w.heap.size w w':=by
 refine (callsIn_wide (n:=9)).1 ?_;refine callsIn_of_wp_marks Tryz.func58 rfl trivial ?_ rfl;simp only [Tryz.ntmps58,List.size_toArray,List.length_cons,List.length_nil,Nat.reduceAdd,Nat.reduceSub,Array.replicate_succ,Array.replicate_zero,List.push_toArray,List.append_toArray,List.nil_append,List.cons_append];have hmk:=Ce l.length hn
 gi_wp2
 refine ⟨trivial,?_⟩;refine (callsIn_wide.2 (oJ _)).mono ?_;rintro e w1 ⟨rfl,rfl⟩
 gi_wp2
 refine ⟨trivial,?_⟩;refine (callsIn_wide.2 (eR _ _ _ _)).mono ?_;rintro e w1 ⟨rfl,rfl⟩
 gi_wp2
 obtain ⟨s,hs⟩:∃s,w.heap.size=s:=⟨_,rfl⟩;rw [hs];obtain ⟨W0,hW0⟩:∃W0,(((((w.alloc (.cells (ni (List.replicate l.length 0)).toArray 3)).alloc (.cells #[.slice (some ⟨s,0,none⟩) l.length l.length] 109)).alloc (.cells #[.int .i64 0,.int .i64 0] 216)).alloc (.cells #[.slice none 0 0] 217)).alloc (.cells #[.func (.func 153) #[] #[.pointer (some ⟨s+1+1+1,0,none⟩),.pointer (some ⟨s+1+1,0,none⟩)]] 157)).alloc (.cells #[.slice ao l.length cap] 46)=W0:=⟨_,rfl⟩
 have h0:NI w l ao cap s 0 W0/\W0.heap.size=s+1+1+1+1+1+1:=by
  rw [<-hW0];exact vy w l ao cap s hs
 rw [hW0];clear hW0;have hsz:=h0.2
 refine gW rfl (by omega) (gf:=156) (lb:=#[.pointer (some ⟨s+1+1+1+1+1,0,none⟩)]) rfl trivial (enters_of Tryz.func156 (by kernel_rfl) rfl) (ej 8 (by omega) (s+1+1+1+1+1) ao l cap (by omega)) (fun j=>rfl) (fun j W=>NI w l ao cap s j W)
  (fun j A B row h hg hr=>h.own (by omega) hg (fun r e=>⟨by have:=(hr r e).1;omega,(hr r e).2⟩)) (fun j W h=>⟨aa h.bn rfl,hL.below (by rw [hs];exact h.bel)⟩) h0.1
  (fun j a' W=>∃Bx,W.heap[Bx]?=some (.cells (l.getD (l.length-1-j) zD).cs.toArray 57 (0,0))/\a'={ tmps:=#[.slice ao l.length cap,undef,.slice none 0 0,.pointer (some ⟨s+1,0,none⟩),.pointer (some ⟨s+1+1+1+1,0,none⟩),.int .i64 ((l.length-1-j:Nat):Int),.pointer (some ⟨Bx,0,none⟩),.slice ao l.length cap,.int .i64 (l.length:Int),.slice (some ⟨s,0,none⟩) l.length l.length,.func (.func 153) #[] #[.pointer (some ⟨s+1+1+1,0,none⟩),.pointer (some ⟨s+1+1,0,none⟩)],.slice ao l.length cap,.func (.func 156) #[] #[.pointer (some ⟨s+1+1+1+1+1,0,none⟩)],.int .i64 ((l.length-1-j:Nat):Int),(l.getD (l.length-1-j) zD).v,undef,undef,undef,undef,undef,undef,undef],defers:=[] })
  (fun j a' u A B row h hg hr=>by obtain ⟨Bx,h1,h2⟩:=h;exact ⟨Bx,bq hg (fun r e=>(hr r e).2) h1,h2⟩) ?assign ?body ?done
 case assign=>
  intro lp j W K hj hi hK
  dsimp only [itB,Dc.v]
  gi_wp2
  exact hK _ _ ((KeepsOthers.alloc _ _).from _) (hi.below (by omega) ((Below.refl _ _).alloc (Nat.le_refl _) _)) ⟨W.heap.size,am _ _,rfl⟩
 case body=>
  rintro lp j a' W hj hi ⟨Bx,hBx,rfl⟩;obtain ⟨i,hie⟩:∃i,l.length-1-j=i:=⟨_,rfl⟩;have hil:i<l.length:=by omega
  obtain ⟨d,hd⟩:∃d,l[i]?=some d:=⟨_,List.getElem?_eq_getElem hil⟩;have hdd:l.getD i zD=d:=by rw [List.getD_eq_getElem?_getD,hd];rfl
  rw [hie,hdd] at hBx ⊢;have hj1:l.length-j=i+1:=by omega
  have hj2:l.length-(j+1)=i:=by omega
  have hrd:rt d=true:=jR l 0 0 hf d (List.mem_of_getElem? hd);have hi2:=hi.below (by omega) (Below.refl _ W).drew;have htl:=hi2.tl;rw [hj1] at htl;obtain ⟨b1,b2,b3⟩:=pf (l.drop (i+1))
  have h6:d.k=6->(nds (l.drop (i+1))).2.2≠[]:=by
   intro hk;obtain ⟨o,ho,hfo⟩:=nU l 0 0 (Int.le_refl _) hf i;obtain ⟨a1,a2⟩:=List.getElem?_eq_some_iff.1 hd;rw [List.drop_eq_getElem_cons a1,a2] at hfo;simp only [frm] at hfo
   split at hfo
   ·rename_i hc
    have:=nA _ _ _ hc.2 hfo;intro hnil;rw [hnil,hk] at this;have e6:dep 6=1:=rfl;rw [e6] at this;simp at this;omega
   ·cases hfo
  have hsW:=ap hi.bn
  have HTELL:Hid (Da 153 #[.agg #[.int .u8 d.k,.string d.t,.int .i64 d.b,.int .i64 d.i,.bool d.e],.pointer (some ⟨s+1+1+1,0,none⟩),.pointer (some ⟨s+1+1,0,none⟩)] W.drew fun e w'=>TA (s+1+1+1+1+1+1) W.drew (s+1+1) (s+1+1+1) (dA d (nds (l.drop (i+1))).2) e w'):=
   bS htl b2 b3 (by show _<=W.heap.size;omega) (fun W' hW'=>hT.below ⟨hW'.os.trans hi2.bel.os,hW'.tape.trans hi2.bel.tape,hW'.output.trans hi2.bel.output,Nat.le_trans hi2.bel.size hW'.size,fun k h1=>(hW'.block k (Nat.lt_of_lt_of_le h1 hi2.bel.size) (fun hS=>by unfold Sx at hS;omega)).trans (hi2.bel.block k (by omega))⟩) (by have:=qL (l.drop (i+1));simp at this;omega) d hrd h6
  have HN:Hid (∀w1,TL (s+1+1+1+1+1+1) w1 (s+1+1) (s+1+1+1) (dA d (nds (l.drop (i+1))).2).2.1 (dA d (nds (l.drop (i+1))).2).2.2->Bo (s+1+1+1+1+1+1) (s+1+1) (s+1+1+1) W.drew w1->NI w l ao cap s (j+1) (w1.setCell ⟨s,i,none⟩ (.int .i64 (dA d (nds (l.drop (i+1))).2).1))/\∀B,KeepsFrom B W (w1.setCell ⟨s,i,none⟩ (.int .i64 (dA d (nds (l.drop (i+1))).2).1))):=
   fun w1 t1 t2=>⟨hi2.next hd hj1 hj2 t1 t2,fun B=>(((KeepsOthers.drew _).trans t2.2).trans (KeepsOthers.setCell _ _ _)).from B⟩
  have hrw:=hi.row;rw [hj1] at hrw;obtain ⟨zc,hzc⟩:∃v,(ni (ndl l (i+1))).toArray[i]?=some v:=⟨_,Array.getElem?_eq_getElem (by simp [AX,yu l (i+1) (by omega)];omega)⟩
  have HR:Hid (∀w1,Bo (s+1+1+1+1+1+1) (s+1+1) (s+1+1+1) W.drew w1->w1.cell? ⟨s,i,none⟩=some zc/\w1.frozen? ⟨s,i,none⟩=false/\w1.cell? ⟨s+1,0,none⟩=some (.slice (some ⟨s,0,none⟩) l.length l.length)):=by
   intro w1 t2;have r1:w1.heap[s]?=_:=t2.1.blk (w:=W.drew) hrw (fun hS=>by unfold Sx at hS;omega);have r2:w1.heap[s+1]?=_:=t2.1.blk (w:=W.drew) hi.box (fun hS=>by unfold Sx at hS;omega);exact ⟨aa r1 hzc,ak r1,aa r2 rfl⟩
  have c1:=aa (k:=0) hi.box rfl;have c2:=aa (k:=0) hi.fn rfl;have x0:W.cell? ⟨Bx,0,none⟩=some (.int .u8 d.k):=aa hBx rfl;have x1:W.cell? ⟨Bx,1,none⟩=some (.string d.t):=aa hBx rfl;have x2:W.cell? ⟨Bx,2,none⟩=some (.int .i64 d.b):=aa hBx rfl;have x3:W.cell? ⟨Bx,3,none⟩=some (.int .i64 d.i):=aa hBx rfl;have x4:W.cell? ⟨Bx,4,none⟩=some (.bool d.e):=aa hBx rfl;have q1:(i:Int)<l.length:=by omega
  have q2:(0:Int)<=i:=by omega
  have q3:i<l.length:=hil;clear htl b1 b2 b3 h6 hrw hzc hi2 hi hBx hdd hd hie hrd hj1 hj2 hj
  dsimp only [Dc.v]
  generalize (dA d (nds (l.drop (i+1))).2)=T at *
  have hmx:Tryz.prog.follows .mixedOrders=true:=by kernel_rfl
  gi_wp2
  gi_region_with_o (refine ⟨trivial,?_⟩;gi_at_call 153;refine (CallsIn.inRound lp (callsIn_wide.2 HTELL.out)).mono ?_;rintro e w1 ⟨rfl,t1,t2⟩;obtain ⟨y1,y2,y3⟩:=HR.out _ t2)
  all_goals gi_wp2
  all_goals (try go_bits)
  all_goals exact ⟨(HN.out _ t1 t2).2 _,(HN.out _ t1 t2).1⟩
 case done=>
  intro D W hD hi hK;have hrow:=hi.row;rw [show l.length-l.length=0 by omega] at hrow;have e0:ndl l 0=(nds l).1:=by simp [ndl]
  rw [e0] at hrow;have c1:=aa (k:=0) hi.box rfl
  gi_wp2
  have hKD:D≠s:=by omega
  refine ⟨by simp,.inl ⟨_,_,rfl,run_takeDeferred hK,?_⟩⟩;refine ⟨.slice (some ⟨s,0,none⟩) l.length l.length,by simp [results,Tryz.f58,go_sem],by rw [hs],?_,?_⟩
  ·rw [hs];exact (World.putObj_heap_other hKD.symm).trans hrow
  ·rw [hs];exact hi.bel.trans (belowK_b (w:=w) (by omega) W D _ _ (by omega) hK rfl rfl)
end Go.Proofs.YtpdlohfdjiaegaaGreatDoor.Lw
