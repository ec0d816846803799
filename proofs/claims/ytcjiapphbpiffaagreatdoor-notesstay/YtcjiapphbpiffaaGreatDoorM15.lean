import Derived.RangeFuncNested
import Derived.RangeFuncBound
import Derived.RangeFuncCalls
import Derived.RangeFuncLeaves
import Derived.Shelf.Abstract
import Derived.Shelf.RegionOpen
import Derived.OwnWalkIn
import Derived.TacticsInMore
import Derived.LoopNIn
import Derived.LoopIn
import Derived.Laws.EntriesVeiled
import Derived.Test.YtcjiapphbpiffaaGreatDoorM14
set_option linter.unusedVariables false
set_option linter.unusedSimpArgs false
set_option maxHeartbeats 4000000
set_option maxRecDepth 100000
namespace Go.Proofs.YtcjiapphbpiffaaGreatDoor.Lw
open Go.Proofs.YtcjiapphbpiffaaGreatDoor.Lx
open Go.RowKit
variable {B gb ga:Nat}{w:World}{s:Sp}
theorem Eg {x:Sp}{r:List Sp}(h:TL B w gb ga s (x :: r)) (hs:Sb s) (hx:Sb x) (hB:B<=w.heap.size) (hn:r.length<=1000000000) (i:Int) (e:Bool) :
  Ta 86 #[.agg #[.int .u8 6,.string ⟨#[]⟩,.int .i64 0,.int .i64 i,.bool e],.pointer (some ⟨ga,0,none⟩),.pointer (some ⟨gb,0,none⟩)] w fun e w'=>TA B w gb ga (s.all,x.wid s.all,r) e w':=by
 have hnab:=h.ne;have gbl:=au h.hb;have gal:ga<w.heap.size:=by obtain ⟨v,h1,_⟩:=h.ha;exact au h1
 have b0:w.cell? ⟨gb,0,none⟩=some (.int .i64 s.all):=af h.hb rfl;have b1:w.cell? ⟨gb,1,none⟩=some (.int .i64 s.hang):=af h.hb rfl;have fb0:w.frozen? ⟨gb,0,none⟩=false:=am h.hb;have fb1:w.frozen? ⟨gb,1,none⟩=false:=am h.hb;have fa0:w.frozen? ⟨ga,0,none⟩=false:=by obtain ⟨v,h1,_⟩:=h.ha;exact am h1
 obtain ⟨b,cap,c1,c2,c3,c4,c5,⟨c6,c7,c8⟩,hp1,hp2⟩:=h.pop (hH _ _) hB;obtain ⟨W1,hW1⟩:∃W1,((w.setCell ⟨gb,0,none⟩ (.int .i64 x.all)).setCell ⟨gb,1,none⟩ (.int .i64 x.hang)).setCell ⟨ga,0,none⟩ (.slice (some ⟨b,0,none⟩) r.length cap)=W1:=⟨_,rfl⟩
 have HP:Hid (∀o,TL B (W1.alloc o).drew gb ga x r/\Bo B gb ga w (W1.alloc o).drew):=by
  intro o;rw [hW1] at hp1 hp2;exact ⟨hp1.below ((hH _ _).alloc (gt _) _).drew,hp2.trans (Bo.of_below ((hH _ _).alloc (gt _) _).drew)⟩
 have HW:Hid (∀W,Bo B gb ga w W->TL B W gb ga x r->Ta 87 #[.pointer (some ⟨gb,0,none⟩),.int .i64 s.all] W fun e w'=>e=.returned (.tuple #[])/\TL B w' gb ga (x.wid s.all) r/\Bo B gb ga W w'):=fun W hW hL=>iD hL hx _ (by have:=hs.1;omega) (SY hB hW.size)
 have hsa:s.all<=4097:=hs.1;clear h hs hx hB;have c3':cap<=9223372036854775807:=c3
 go_enter Ws,V2
 go_wp2_with fail
 go_region
 all_goals go_wp2_with fail
 refine (HW.out _ (HP.out _).2 (HP.out _).1).mono ?_;rintro e w2 ⟨rfl,h2,hb2⟩;have H2:Hid (TL B w2 gb ga (x.wid s.all) r/\Bo B gb ga w w2):=⟨h2,(HP.out _).2.trans hb2⟩;clear h2 hb2
 go_wp2_with fail
 go_ret
 exact ⟨rfl,H2.out.1,H2.out.2⟩
theorem dy {st:List Sp}(h:TL B w gb ga s st) (hs:Sb s) (hst:∀x∈st,Sb x) (hB:B<=w.heap.size) (hT:∀W,Kp (Sx B gb ga) w W->kl W) (hn:st.length<=1000000000) (d:Dc) (hd:rt d=true) (h6:d.k=6->st≠[]) :
  Ta 86 #[d.v,.pointer (some ⟨ga,0,none⟩),.pointer (some ⟨gb,0,none⟩)] w fun e w'=>TA B w gb ga (fP d (s,st)) e w':=by
 cases mO hd with
 |text t hq=>exact BO h hs hB hT t (nG hq).2
 |brk m hq=>
  obtain ⟨q1,q2⟩:=sP hq;have:=Ef h hs hB m.toNat (by omega);rw [show ((m.toNat:Nat):Int)=m by omega] at this;exact this
 |beg m e hq=>
  cases st with
  |nil=>exact absurd rfl (h6 rfl)
  |cons x r=>exact Eg h hs (hst x S4) hB (by simp at hn;omega) m e
 |blank=>exact xX h hs hB
 |hard=>exact qY h hs hB 4 (.inl rfl)
 |empty=>exact qY h hs hB 5 (.inr rfl)
 | «end»=>exact Ee h hs hB hn
end Go.Proofs.YtcjiapphbpiffaaGreatDoor.Lw
namespace Go.Proofs.YtcjiapphbpiffaaGreatDoor.Lw
open Go.Proofs.YtcjiapphbpiffaaGreatDoor.Lx
open Go.RowKit Go.Shelf
variable {w W W':World}{l:List Dc}{ao:Option Addr}{cap s j:Nat}
attribute [local go_sem] Oper.semAt_some
def IE (F:Fence) (n:Nat) (P:Program) (gf:Nat) (lb:Array Value) (it:Nat->Array Value) (N:Nat) (G:World->Prop):Prop:=
 ∀(l:Nat) (J:Nat->World->Prop) (W:World),(∀j W,J j W->G W)->AbidesFrom W.heap.size J->(∀j W1,j<N->J j W1->YieldAt F (n-1) P l (it j) W1 fun e W'=>e=.returned (.bool true)/\J (j+1) W')->J 0 W ->
  CallsIn F n P gf (#[.func (.yield l) #[] #[]]++lb) W fun e W'=>(∃v,e=.returned v)/\J N W'
theorem jm {F:Fence}{n:Nat}{P:Program}{g:Operand}{ps:Array Tmp}{assign body:Code}{Q:Exit->Act->World->Prop}{a:Act}(hro:F.round=none) (h1:1<=n) {gf:Nat}{lb:Array Value}(hg:a.eval g=.func (.func gf) #[] lb) (hF:F.fn gf)
  (eg:∀args w,(callFunc gf args).run P w=.ok (.enter gf args) w) {it:Nat->Array Value} {N:Nat} {G:World->Prop} (hit:IE F (n-1) P gf lb it N G) (hps:∀j,(it j).size=ps.size)
  (I:Nat->World->Prop) (hI:OwnFrom w.heap.size I) (hG:∀j W,I j W->G W) (h0:I 0 w) (Ax:Nat->Act->World->Prop) (hAx:∀j a',OwnFrom w.heap.size (fun (_:Unit) W=>Ax j a' W))
  (hassign:∀(l j:Nat) (W:World) (K:Act->World->Prop),j<N->I j W->(∀a' W',KeepsFrom w.heap.size W W'->I j W'->Ax j a' W'->K a' W') ->
   assign.wpIn (F.inRound l) (n-1-1) P (Exit.then K (fun _ _ _=>False)) { tmps:=(ps.zip (it j)).foldl (fun t (p,v)=>t.setIfInBounds p v) a.tmps,defers:=[] } W)
  (hbody:∀(l j:Nat) (a':Act) (W:World),j<N->I j W->Ax j a' W->body.wpIn (F.inRound l) (n-1-1) P (fun e _ W'=>e=.normal/\KeepsFrom w.heap.size W W'/\I (j+1) W') a' W)
  (hdone:∀(D:Nat) (W:World),w.heap.size<=D->I N W->W.heap[D]?=some (.deferred (some []))->Q .normal { a with defers:={ target:=.collected D,args:=#[] } :: a.defers } W) :
  (Code.rangeFunc g ps assign body).wpIn F n P Q a w:=by
 refine wpIn_rangeFunc fun fn hfn=>?_
 rw [hro];obtain ⟨L,hL⟩:∃L:LoopState->Loop,∀st,L st={ state:=st,pending:=none,fn,tmps:=a.tmps,params:=ps,assign,body,defers:=w.heap.size }:=⟨_,fun _=>rfl⟩;have hent:=run_enterLoop_outer (P:=P) (w:=w) fn a.tmps ps assign body;rw [<-hL] at hent;obtain ⟨V,hV⟩:∃V,(w.alloc (.deferred (some []))).alloc (.loop (L .ready))=V:=⟨_,rfl⟩;rw [hV] at hent;have e1:(w.alloc (.deferred (some []))).heap.size=w.heap.size+1:=SX _ _;have vr:V.heap[w.heap.size+1]?=some (.loop (L .ready)):=by rw [<-hV,<-e1];exact aq _ _
 have vd:V.heap[w.heap.size]?=some (.deferred (some [])):=by rw [<-hV];exact aD (aq _ _) _
 have vs:w.heap.size+2<=V.heap.size:=by rw [<-hV,SX,e1];exact gt _
 have vi:I 0 V:=by rw [<-hV];exact hI.alloc _ (hI.alloc _ h0)
 refine ⟨w.heap.size+1,_,V,{ target:=.fn (.func gf) lb,args:=#[.func (.yield (w.heap.size+1)) #[] #[]] },V,gf,#[.func (.yield (w.heap.size+1)) #[] #[]]++lb,V,hent,?_,?_,?_,fun _=>h1,?_⟩
 ·simp only [resolve,hg];simp [go_sem]
 ·intro f' hf';simp [Target.leads] at hf';subst hf';exact hF
 ·simp [invoke,go_sem,eg]
 refine (hit (w.heap.size+1) (fun j W=>I j W/\W.heap[w.heap.size+1]?=some (.loop (L .ready))/\W.heap[w.heap.size]?=some (.deferred (some []))) V (fun j W h=>hG j W h.1) ?_ ?_ ⟨vi,vr,vd⟩).mono ?_
 ·intro j A B row hs hgr hr;refine ⟨hI j A B row hs.1 hgr fun r e=>?_,(grownBy_keeps hgr (fun r e=>(hr r e).2) hs.2.1 rfl).trans hs.2.1,(grownBy_keeps hgr (fun r e=>(hr r e).2) hs.2.2 rfl).trans hs.2.2⟩;obtain ⟨hb,o,ho,hw⟩:=hr r e;exact ⟨by omega,o,ho,Obj.not_cells_of_walk hw⟩
 ·rintro j W hj ⟨hi,hr,hd⟩;have hy:=run_yield (P:=P) (args:=it j) hr (by rw [hL];exact hps j);rw [hL] at hy;refine ⟨fn,_,assign,body,hy,roundIn_of_wpIn hfn (hassign _ j W _ hj hi ?_)⟩;intro a' W' hk hi' hax;have hr':=hk.same _ _ (by omega) hr rfl;have hd':=hk.same _ _ (gt _) hd rfl;have hlt:=au hr';refine ⟨_,run_beginRound hr' (by rw [hL]),?_⟩;obtain ⟨W2,hW2⟩:∃W2,W'.putObj (w.heap.size+1) (.loop { L .ready with state:=.busy })=W2:=⟨_,rfl⟩;have r2:W2.heap[w.heap.size+1]?=some (.loop { L .ready with state:=.busy }):=by rw [<-hW2];exact World.putObj_heap_same hlt
  have d2:W2.heap[w.heap.size]?=some (.deferred (some [])):=by rw [<-hW2];exact (World.putObj_heap_other (by omega)).trans hd'
  have i2:I j W2:=by rw [<-hW2];exact hI.putObj _ hi' (by omega) hr' rfl
  have x2:Ax j a' W2:=by rw [<-hW2];exact (hAx j a').putObj (s:=()) _ hax (by omega) hr' rfl
  rw [hW2];refine wpIn_mono (hbody _ j a' W2 hj i2 x2) ?_;rintro e a3 W3 ⟨rfl,hk3,i3⟩;have r3:=hk3.same _ _ (by omega) r2 rfl;have d3:=hk3.same _ _ (gt _) d2 rfl;have hend:=run_endRound (P:=P) none r3;rw [hL] at hend;refine ⟨_,_,hend,rfl,hI.putObj _ i3 (by omega) r3 rfl,?_,(World.putObj_heap_other (by omega)).trans d3⟩;rw [World.putObj_heap_same (au r3),hL];rfl
 ·rintro e W ⟨⟨v,rfl⟩,hi,hr,hd⟩;have hend:=run_endLoop (P:=P) hr (by rw [hL];simp);rw [hL] at hend;exact ⟨none,_,hend,hdone _ _ (gt _) (hI.putObj _ hi (by omega) hr rfl) ((World.putObj_heap_other (by omega)).trans hd)⟩
attribute [local go_sem] Oper.semAt_some
theorem uG (ao:Option Addr) (n cap:Nat) (w:World):Ta 43 #[.slice ao n cap] w fun e w'=>e=.returned (.func (.func 89) #[] #[.pointer (some ⟨w.heap.size,0,none⟩)])/\w'=w.alloc (.cells #[.slice ao n cap] 56):=by
 have hmf:=mkfn
 go_enter Tryz.func43,Tryz.ntmps43
 go_wp2_with fail
 go_ret
 exact ⟨rfl,rfl⟩
def zD:Dc:=⟨0,bE,0,0,false⟩
def QY (l:List Dc) (j:Nat):Array Value:=#[.int .i64 ((l.length-1-j:Nat):Int),(l.getD (l.length-1-j) zD).v]
theorem be {row:Option Nat}(hg:W.grownBy W' row) (hrow:∀r,row=some r->∃o:Obj,W.heap[r]?=some o/\o.isCells=false) {k:Nat}{cs:Array Value}{T:TypeId}{f:Nat × Nat}(h:W.heap[k]?=some (.cells cs T f)):W'.heap[k]?=some (.cells cs T f):=
 (grownBy_keeps_cells hg hrow h rfl).trans h
theorem qT (n:Nat) (hn:1<=n) (Bn:Nat) (ao:Option Addr) (l:List Dc) (cap:Nat) (hl:l.length<=1000000000000) :
  IE Fence.wide n Tryz.prog 89 #[.pointer (some ⟨Bn,0,none⟩)] (QY l) l.length (fun W=>W.cell? ⟨Bn,0,none⟩=some (.slice ao l.length cap)/\Lay W ao l):=by
 intro lp J W hG hA hY h0;refine callsIn_of_wp Tryz.func89 rfl trivial ?_ rfl;simp only [Tryz.ntmps89,Ux,List.length_cons,List.length_nil,Nat.reduceAdd,Nat.reduceSub,Ur,Us,UI,Uy,TB,Tr];have g0:=(hG 0 W h0).1;have hln:(l.length:Int)<=1000000000000:=by omega
 gi_wp2
 gi_loopw [3] (fun i wr=>∃(j:Nat) (z:Int),i=.int .i64 z/\z=(l.length:Int)-1-j/\j<=l.length/\J j wr) (fun i _=>(intOf i+1).toNat)
 case atStart=>exact ⟨0,_,by go_num,by omega,SW _,h0⟩
 case round=>
  obtain ⟨j,z,rfl,hz,hj,hJ⟩:=hrel
  by_cases hlt:j<l.length
  ·obtain ⟨k,hk⟩:∃k:Nat,z=k:=⟨z.toNat,by omega⟩;subst hk;have hkl:k<l.length:=by omega
   have hkj:l.length-1-j=k:=by omega
   obtain ⟨d,hd⟩:∃d,l[k]?=some d:=⟨_,Pi hkl⟩;obtain ⟨gc,gL⟩:=hG j wr hJ;obtain ⟨ht,b,off,rfl,c0,c1,c2,c3,c4⟩:=gL k d hd;have q1:(0:Int)<=k:=by omega
   have q2:(k:Int)<l.length:=by omega
   have hit:QY l j=#[.int .i64 (k:Int),d.v]:=by
    unfold QY;rw [hkj,UR,hd];rfl
   obtain ⟨fn,tmps,assign,body,hy,hR⟩:=hY j wr hlt hJ;rw [hit] at hy
   dsimp only [Dc.v] at hy
   have HJ:Hid (l.length-1-j=k/\j<l.length):=⟨hkj,hlt⟩;clear hz hit hkj hlt hd
   gi_wp2
   refine hR.mono ?_;rintro e W3 ⟨rfl,hJ3⟩
   gi_wp2
   go_roundw
   case rel=>exact ⟨j+1,(k:Int)-1,by go_num,by have:=HJ.out;omega,by have:=HJ.out;omega,hJ3⟩
   case measure=>simp [RowKit.intOf]
  ·obtain rfl:j=l.length:=by omega
   have hz':z=-1:=by omega
   subst hz';clear hz
   gi_wp2
   go_end0
   exact ⟨⟨_,rfl⟩,hJ⟩
attribute [local go_sem] Oper.semAt_some
theorem xW (w:World):Ta 42 #[] w fun e w'=>e=.returned (.func (.func 86) #[] #[.pointer (some ⟨w.heap.size+1,0,none⟩),.pointer (some ⟨w.heap.size,0,none⟩)])/\w'=(w.alloc (.cells #[.int .i64 0,.int .i64 0] 166)).alloc (.cells #[.slice none 0 0] 167):=by
 have hmf:=mkfn
 go_enter Tryz.func42,Tryz.ntmps42
 go_wp2_with fail
 go_ret
 exact ⟨rfl,rfl⟩
def ni (l:List Nat):List Value:=l.map fun (x:Nat)=>Value.int .i64 (x:Int)
theorem N5 (l:List Nat):(ni l).length=l.length:=by simp [ni]
def FP (l:List Dc) (i:Nat):List Nat:=List.replicate i 0++(eQ (l.drop i)).1
theorem Kv (l:List Dc) (i:Nat) (hi:i<=l.length):(FP l i).length=l.length:=by simp [FP,kP];omega
theorem Ku (l:List Dc) (i:Nat) (d:Dc) (hd:l[i]?=some d):(FP l (i+1)).set i (fP d (eQ (l.drop (i+1))).2).1=FP l i:=by
 obtain ⟨h1,h2⟩:=Te.1 hd;unfold FP;rw [TD h1,h2,List.replicate_succ',S5,List.set_append_right _ _ (by simp)];simp [eQ]
theorem Qi (N:Nat) (hN:N<=100000000) (w:World):(Instr.makeSlice 78 (.int .i64 (N:Int)) (.int .i64 (N:Int))).run Tryz.prog w=.ok (.slice (some ⟨w.heap.size,0,none⟩) N N) (w.alloc (.cells (ni (List.replicate N 0)).toArray 3)):=by
 obtain ⟨i0,hi,hz0,hz1,hz2⟩:=T7 Tryz.info3;have h:=run_make (P:=Tryz.prog) w 78 3 i0 (.int .i64 0) Tryz.underlying78 hi hz0 .i64 .i64 (N:Int) (N:Int) (by omega) (by omega) (by rw [hz2];omega) (by omega);rw [h]
 congr 4
 rw [hz1]
 apply UU.1
 show (madeCells #[.int .i64 0] _).toList=_
 rw [toList_madeCells_one];simp [ni]
structure NI (w:World) (l:List Dc) (ao:Option Addr) (cap:Nat) (s j:Nat) (W:World):Prop where
 bel:Below s w W
 row:W.heap[s]?=some (.cells (ni (FP l (l.length-j))).toArray 3 (0,0))
 box:W.heap[s+1]?=some (.cells #[.slice (some ⟨s,0,none⟩) l.length l.length] 78 (0,0))
 tl:TL (s+1+1+1+1+1+1) W (s+1+1) (s+1+1+1) (eQ (l.drop (l.length-j))).2.1 (eQ (l.drop (l.length-j))).2.2
 fn:W.heap[s+1+1+1+1]?=some (.cells #[.func (.func 86) #[] #[.pointer (some ⟨s+1+1+1,0,none⟩),.pointer (some ⟨s+1+1,0,none⟩)]] 114 (0,0))
 bn:W.heap[s+1+1+1+1+1]?=some (.cells #[.slice ao l.length cap] 56 (0,0))
theorem TL.own {B:Nat}{gb ga:Nat}{s:Sp}{st:List Sp}{row:Option Nat}(h:TL B W gb ga s st) (hg:W.grownBy W' row) (hrow:∀r,row=some r->∃o:Obj,W.heap[r]?=some o/\o.isCells=false):TL B W' gb ga s st:=by
 obtain ⟨v,h1,h2,h3⟩:=h.ha;refine ⟨be hg hrow h.hb,⟨v,be hg hrow h1,⟨h2.1,?_⟩,h3⟩⟩
 rcases h2.2 with h4|⟨g,cap,cur,rfl,a1,a2,a3⟩
 ·exact .inl h4
 ·exact .inr ⟨g,cap,cur,rfl,a1,be hg hrow a2,a3⟩
theorem NI.own {row:Option Nat}(h:NI w l ao cap s j W) (hs:s<=w.heap.size) (hg:W.grownBy W' row) (hrow:∀r,row=some r->s<=r/\∃o:Obj,W.heap[r]?=some o/\o.isCells=false):NI w l ao cap s j W':=
 have hr:=fun r e=>(hrow r e).2
 ⟨h.bel.grown hg (SY hs h.bel.size) (fun k e=>(hrow k e).1),be hg hr h.row,be hg hr h.box,h.tl.own hg hr,be hg hr h.fn,be hg hr h.bn⟩
theorem FN (w:World) (l:List Dc) (ao:Option Addr) (cap s:Nat) (hs:w.heap.size=s):NI w l ao cap s 0 ((((((w.alloc (.cells (ni (List.replicate l.length 0)).toArray 3)).alloc (.cells #[.slice (some ⟨s,0,none⟩) l.length l.length] 78)).alloc (.cells #[.int .i64 0,.int .i64 0] 166)).alloc (.cells #[.slice none 0 0] 167)).alloc (.cells #[.func (.func 86) #[] #[.pointer (some ⟨s+1+1+1,0,none⟩),.pointer (some ⟨s+1+1,0,none⟩)]] 114)).alloc (.cells #[.slice ao l.length cap] 56))/\((((((w.alloc (.cells (ni (List.replicate l.length 0)).toArray 3)).alloc (.cells #[.slice (some ⟨s,0,none⟩) l.length l.length] 78)).alloc (.cells #[.int .i64 0,.int .i64 0] 166)).alloc (.cells #[.slice none 0 0] 167)).alloc (.cells #[.func (.func 86) #[] #[.pointer (some ⟨s+1+1+1,0,none⟩),.pointer (some ⟨s+1+1,0,none⟩)]] 114)).alloc (.cells #[.slice ao l.length cap] 56)).heap.size=s+1+1+1+1+1+1:=by
 subst hs;have e0:eQ (l.drop (l.length-0))=([],⟨0,0⟩,[]):=by rw [Ua (by omega)];rfl
 have e1:FP l (l.length-0)=List.replicate l.length 0:=by unfold FP;rw [e0];simp
 refine ⟨⟨?_,?_,?_,⟨?_,.slice none 0 0,?_,?_,fun k hk=>by cases hk⟩,?_,?_⟩,?_⟩
 ·refine (((((Wq ?_ ?_ _).alloc ?_ _).alloc ?_ _).alloc ?_ _).alloc ?_ _).alloc ?_ _
  ·exact hH _ _
  all_goals first|exact gt _|(simp only [SX];omega)
 ·rw [e1];exact aD (aD (aD (aD (aD (aq _ _) _) _) _) _) _
 ·have:=aq (w.alloc (.cells (ni (List.replicate l.length 0)).toArray 3)) (.cells #[.slice (some ⟨w.heap.size,0,none⟩) l.length l.length] 78);rw [SX] at this;exact aD (aD (aD (aD this _) _) _) _
 ·rw [e0];have:=aq ((w.alloc (.cells (ni (List.replicate l.length 0)).toArray 3)).alloc (.cells #[.slice (some ⟨w.heap.size,0,none⟩) l.length l.length] 78)) (.cells #[.int .i64 0,.int .i64 0] 166);rw [SX,SX] at this;exact aD (aD (aD this _) _) _
 ·have:=aq (((w.alloc (.cells (ni (List.replicate l.length 0)).toArray 3)).alloc (.cells #[.slice (some ⟨w.heap.size,0,none⟩) l.length l.length] 78)).alloc (.cells #[.int .i64 0,.int .i64 0] 166)) (.cells #[.slice none 0 0] 167);rw [SX,SX,SX] at this;exact aD (aD this _) _
 ·rw [e0];exact TU _ _ _ _
 ·have:=aq ((((w.alloc (.cells (ni (List.replicate l.length 0)).toArray 3)).alloc (.cells #[.slice (some ⟨w.heap.size,0,none⟩) l.length l.length] 78)).alloc (.cells #[.int .i64 0,.int .i64 0] 166)).alloc (.cells #[.slice none 0 0] 167)) (.cells #[.func (.func 86) #[] #[.pointer (some ⟨w.heap.size+1+1+1,0,none⟩),.pointer (some ⟨w.heap.size+1+1,0,none⟩)]] 114);rw [SX,SX,SX,SX] at this;exact aD this _
 ·have:=aq (((((w.alloc (.cells (ni (List.replicate l.length 0)).toArray 3)).alloc (.cells #[.slice (some ⟨w.heap.size,0,none⟩) l.length l.length] 78)).alloc (.cells #[.int .i64 0,.int .i64 0] 166)).alloc (.cells #[.slice none 0 0] 167)).alloc (.cells #[.func (.func 86) #[] #[.pointer (some ⟨w.heap.size+1+1+1,0,none⟩),.pointer (some ⟨w.heap.size+1+1,0,none⟩)]] 114)) (.cells #[.slice ao l.length cap] 56);rw [SX,SX,SX,SX,SX] at this;exact this
 ·simp only [SX]
theorem wN:∀(l:List Dc) (o:Int) (j:Nat),0<=o->cG o j l=none->∀i,∃o',0<=o'/\cG o' (j+i) (l.drop i)=none
 |l,o,j,ho,h,0=>⟨o,ho,by simpa using h⟩
 |[],o,j,ho,h,i+1=>⟨0,Uq _,by simp [cG]⟩
 |d :: r,o,j,ho,h,i+1=>by
  simp only [cG] at h
  split at h
  ·rename_i hc
   obtain ⟨o',h1,h2⟩:=wN r _ _ hc.2 h i;refine ⟨o',h1,?_⟩;rw [show j+(i+1)=j+1+i by omega];exact h2
  ·cases h
theorem AH:∀l,(eQ l).2.2.length<=l.length
 |[]=>by simp [eQ]
 |d :: r=>by
  have:=AH r;show (fP d (eQ r).2).2.2.length<=r.length+1;unfold fP
  repeat' split
  all_goals simp
  all_goals omega
theorem yL {w':World}(h:Below w.heap.size w w'):w.grownBy w' none:=⟨h.os,h.tape,h.output,h.size,fun k hk _=>h.block k hk⟩
theorem NI.below (h:NI w l ao cap s j W) (hs:s<=w.heap.size) (hb:Below W.heap.size W W'):NI w l ao cap s j W':=h.own hs (yL hb) (fun r e=>by cases e)
theorem N4 (l:List Nat) (i x:Nat):(ni l).toArray.setIfInBounds i (.int .i64 x)=(ni (l.set i x)).toArray:=by
 simp [ni,List.map_set]
theorem NI.next {w1:World}{i:Nat}{d:Dc}(h:NI w l ao cap s j W) (hd:l[i]?=some d) (hj:l.length-j=i+1) (hj2:l.length-(j+1)=i)
  (h1:TL (s+1+1+1+1+1+1) w1 (s+1+1) (s+1+1+1) (fP d (eQ (l.drop (i+1))).2).2.1 (fP d (eQ (l.drop (i+1))).2).2.2) (h2:Bo (s+1+1+1+1+1+1) (s+1+1) (s+1+1+1) W w1) :
  NI w l ao cap s (j+1) (w1.setCell ⟨s,i,none⟩ (.int .i64 (fP d (eQ (l.drop (i+1))).2).1)):=by
 have hk:=h2.1
 have hn:∀k,k<s+1+1\/k=s+1+1+1+1\/k=s+1+1+1+1+1->¬Sx (s+1+1+1+1+1+1) (s+1+1) (s+1+1+1) k:=by
  intro k hk hS;unfold Sx at hS;omega
 have e:eQ (l.drop i)=((fP d (eQ (l.drop (i+1))).2).1 :: (eQ (l.drop (i+1))).1,(fP d (eQ (l.drop (i+1))).2).2):=by
  obtain ⟨a1,a2⟩:=Te.1 hd;rw [TD a1,a2];rfl
 have ks:=Kp.set w1 s i (.int .i64 ((fP d (eQ (l.drop (i+1))).2).1:Nat));have r0:=hk.blk h.row (hn s (by omega));obtain ⟨v,t1,t2,t3⟩:=h1.ha;refine ⟨?_,?_,?_,⟨?_,v,?_,?_,t3⟩,?_,?_⟩
 ·exact VI ⟨hk.os.trans h.bel.os,hk.tape.trans h.bel.tape,hk.output.trans h.bel.output,SY h.bel.size hk.size,fun k h1=>(hk.block k (by have:=au h.row;omega) (hn k (by omega))).trans (h.bel.block k h1)⟩ (p:=⟨s,i,none⟩) (gt _) _
 ·rw [hj2,<-Ku l i d hd,<-N4,<-hj];exact aj r0 i _
 ·exact bh (hk.blk h.box (hn _ (by omega))) (by omega) _
 ·rw [hj2,e];exact bh h1.hb (by omega) _
 ·exact bh t1 (by omega) _
 ·rw [hj2,e];exact ks.row t2 (fun k e1 e2=>by have:=(t3 k e1).1;omega)
 ·exact bh (hk.blk h.fn (hn _ (by omega))) (by omega) _
 ·exact bh (hk.blk h.bn (hn _ (by omega))) (by omega) _
theorem CE (ao:Option Addr) (l:List Dc) (cap:Nat) (w:World) (hL:Lay w ao l) (hT:kl w) (hn:l.length<=100000000) (hf:cG 0 0 l=none) :
  Ta 24 #[.slice ao l.length cap] w fun e w'=>e=.returned (.slice (some ⟨w.heap.size,0,none⟩) l.length l.length)/\w'.heap[w.heap.size]?=some (.cells (ni (eQ l).1).toArray 3 (0,0))/\Below w.heap.size w w':=by
 refine (TW (n:=9)).1 ?_;refine callsIn_of_wp_marks Tryz.func24 rfl trivial ?_ rfl;simp only [Tryz.ntmps24,Ux,List.length_cons,List.length_nil,Nat.reduceAdd,Nat.reduceSub,Ur,Us,UI,Uy,TB,Tr];have hmk:=Qi l.length hn
 gi_wp2
 refine ⟨trivial,?_⟩;refine (TW.2 (xW _)).mono ?_;rintro e w1 ⟨rfl,rfl⟩
 gi_wp2
 refine ⟨trivial,?_⟩;refine (TW.2 (uG _ _ _ _)).mono ?_;rintro e w1 ⟨rfl,rfl⟩
 gi_wp2
 obtain ⟨s,hs⟩:∃s,w.heap.size=s:=⟨_,rfl⟩;rw [hs];obtain ⟨W0,hW0⟩:∃W0,(((((w.alloc (.cells (ni (List.replicate l.length 0)).toArray 3)).alloc (.cells #[.slice (some ⟨s,0,none⟩) l.length l.length] 78)).alloc (.cells #[.int .i64 0,.int .i64 0] 166)).alloc (.cells #[.slice none 0 0] 167)).alloc (.cells #[.func (.func 86) #[] #[.pointer (some ⟨s+1+1+1,0,none⟩),.pointer (some ⟨s+1+1,0,none⟩)]] 114)).alloc (.cells #[.slice ao l.length cap] 56)=W0:=⟨_,rfl⟩
 have h0:NI w l ao cap s 0 W0/\W0.heap.size=s+1+1+1+1+1+1:=by
  rw [<-hW0];exact FN w l ao cap s hs
 rw [hW0];clear hW0;have hsz:=h0.2
 refine jm rfl (by omega) (gf:=89) (lb:=#[.pointer (some ⟨s+1+1+1+1+1,0,none⟩)]) rfl trivial (enters_of Tryz.func89 (by kernel_rfl) rfl) (qT 8 (by omega) (s+1+1+1+1+1) ao l cap (by omega)) (fun j=>rfl) (fun j W=>NI w l ao cap s j W)
  (fun j A B row h hg hr=>h.own (by omega) hg (fun r e=>⟨by have:=(hr r e).1;omega,(hr r e).2⟩)) (fun j W h=>⟨af h.bn rfl,hL.below (by rw [hs];exact h.bel)⟩) h0.1
  (fun j a' W=>∃Bx,W.heap[Bx]?=some (.cells (l.getD (l.length-1-j) zD).cs.toArray 89 (0,0))/\a'={ tmps:=#[.slice ao l.length cap,undef,.slice none 0 0,.pointer (some ⟨s+1,0,none⟩),.pointer (some ⟨s+1+1+1+1,0,none⟩),.int .i64 ((l.length-1-j:Nat):Int),.pointer (some ⟨Bx,0,none⟩),.slice ao l.length cap,.int .i64 (l.length:Int),.slice (some ⟨s,0,none⟩) l.length l.length,.func (.func 86) #[] #[.pointer (some ⟨s+1+1+1,0,none⟩),.pointer (some ⟨s+1+1,0,none⟩)],.slice ao l.length cap,.func (.func 89) #[] #[.pointer (some ⟨s+1+1+1+1+1,0,none⟩)],.int .i64 ((l.length-1-j:Nat):Int),(l.getD (l.length-1-j) zD).v,undef,undef,undef,undef,undef,undef,undef],defers:=[] })
  (fun j a' u A B row h hg hr=>by obtain ⟨Bx,h1,h2⟩:=h;exact ⟨Bx,be hg (fun r e=>(hr r e).2) h1,h2⟩) ?assign ?body ?done
 case assign=>
  intro lp j W K hj hi hK
  dsimp only [QY,Dc.v]
  gi_wp2
  exact hK _ _ ((KeepsOthers.alloc _ _).from _) (hi.below (by omega) ((hH _ _).alloc (gt _) _)) ⟨W.heap.size,aq _ _,rfl⟩
 case body=>
  rintro lp j a' W hj hi ⟨Bx,hBx,rfl⟩;obtain ⟨i,hie⟩:∃i,l.length-1-j=i:=⟨_,rfl⟩;have hil:i<l.length:=by omega
  obtain ⟨d,hd⟩:∃d,l[i]?=some d:=⟨_,Pi hil⟩;have hdd:l.getD i zD=d:=by rw [UR,hd];rfl
  rw [hie,hdd] at hBx ⊢;have hj1:l.length-j=i+1:=by omega
  have hj2:l.length-(j+1)=i:=by omega
  have hrd:rt d=true:=tX l 0 0 hf d (T3 hd);have hi2:=hi.below (by omega) (hH _ W).drew;have htl:=hi2.tl;rw [hj1] at htl;obtain ⟨b1,b2,b3⟩:=yG (l.drop (i+1))
  have h6:d.k=6->(eQ (l.drop (i+1))).2.2≠[]:=by
   intro hk;obtain ⟨o,ho,hfo⟩:=wN l 0 0 (Uq _) hf i;obtain ⟨a1,a2⟩:=Te.1 hd;rw [TD a1,a2] at hfo;simp only [cG] at hfo
   split at hfo
   ·rename_i hc
    have:=wi _ _ _ hc.2 hfo;intro hnil;rw [hnil,hk] at this;have e6:dD 6=1:=rfl;rw [e6] at this;simp at this;omega
   ·cases hfo
  have hsW:=au hi.bn
  have HTELL:Hid (Ta 86 #[.agg #[.int .u8 d.k,.string d.t,.int .i64 d.b,.int .i64 d.i,.bool d.e],.pointer (some ⟨s+1+1+1,0,none⟩),.pointer (some ⟨s+1+1,0,none⟩)] W.drew fun e w'=>TA (s+1+1+1+1+1+1) W.drew (s+1+1) (s+1+1+1) (fP d (eQ (l.drop (i+1))).2) e w'):=
   dy htl b2 b3 (by show _<=W.heap.size;omega) (fun W' hW'=>hT.below ⟨hW'.os.trans hi2.bel.os,hW'.tape.trans hi2.bel.tape,hW'.output.trans hi2.bel.output,SY hi2.bel.size hW'.size,fun k h1=>(hW'.block k (Tn h1 hi2.bel.size) (fun hS=>by unfold Sx at hS;omega)).trans (hi2.bel.block k (by omega))⟩) (by have:=AH (l.drop (i+1));simp at this;omega) d hrd h6
  have HN:Hid (∀w1,TL (s+1+1+1+1+1+1) w1 (s+1+1) (s+1+1+1) (fP d (eQ (l.drop (i+1))).2).2.1 (fP d (eQ (l.drop (i+1))).2).2.2->Bo (s+1+1+1+1+1+1) (s+1+1) (s+1+1+1) W.drew w1->NI w l ao cap s (j+1) (w1.setCell ⟨s,i,none⟩ (.int .i64 (fP d (eQ (l.drop (i+1))).2).1))/\∀B,KeepsFrom B W (w1.setCell ⟨s,i,none⟩ (.int .i64 (fP d (eQ (l.drop (i+1))).2).1))):=
   fun w1 t1 t2=>⟨hi2.next hd hj1 hj2 t1 t2,fun B=>(((KeepsOthers.drew _).trans t2.2).trans (KeepsOthers.setCell _ _ _)).from B⟩
  have hrw:=hi.row;rw [hj1] at hrw;obtain ⟨zc,hzc⟩:∃v,(ni (FP l (i+1))).toArray[i]?=some v:=⟨_,Uk (by simp [N5,Kv l (i+1) (by omega)];omega)⟩
  have HR:Hid (∀w1,Bo (s+1+1+1+1+1+1) (s+1+1) (s+1+1+1) W.drew w1->w1.cell? ⟨s,i,none⟩=some zc/\w1.frozen? ⟨s,i,none⟩=false/\w1.cell? ⟨s+1,0,none⟩=some (.slice (some ⟨s,0,none⟩) l.length l.length)):=by
   intro w1 t2;have r1:w1.heap[s]?=_:=t2.1.blk (w:=W.drew) hrw (fun hS=>by unfold Sx at hS;omega);have r2:w1.heap[s+1]?=_:=t2.1.blk (w:=W.drew) hi.box (fun hS=>by unfold Sx at hS;omega);exact ⟨af r1 hzc,am r1,af r2 rfl⟩
  have c1:=af (k:=0) hi.box rfl;have c2:=af (k:=0) hi.fn rfl;have x0:W.cell? ⟨Bx,0,none⟩=some (.int .u8 d.k):=af hBx rfl;have x1:W.cell? ⟨Bx,1,none⟩=some (.string d.t):=af hBx rfl;have x2:W.cell? ⟨Bx,2,none⟩=some (.int .i64 d.b):=af hBx rfl;have x3:W.cell? ⟨Bx,3,none⟩=some (.int .i64 d.i):=af hBx rfl;have x4:W.cell? ⟨Bx,4,none⟩=some (.bool d.e):=af hBx rfl;have q1:(i:Int)<l.length:=by omega
  have q2:(0:Int)<=i:=by omega
  have q3:i<l.length:=hil;clear htl b1 b2 b3 h6 hrw hzc hi2 hi hBx hdd hd hie hrd hj1 hj2 hj
  dsimp only [Dc.v]
  generalize (fP d (eQ (l.drop (i+1))).2)=T at *
  have hmx:Tryz.prog.follows .mixedOrders=true:=by kernel_rfl
  gi_wp2
  gi_region_with_o (refine ⟨trivial,?_⟩;gi_at_call 86;refine (CallsIn.inRound lp (TW.2 HTELL.out)).mono ?_;rintro e w1 ⟨rfl,t1,t2⟩;obtain ⟨y1,y2,y3⟩:=HR.out _ t2)
  all_goals gi_wp2
  all_goals (try go_bits)
  all_goals exact ⟨(HN.out _ t1 t2).2 _,(HN.out _ t1 t2).1⟩
 case done=>
  intro D W hD hi hK;have hrow:=hi.row;rw [show l.length-l.length=0 by omega] at hrow;have e0:FP l 0=(eQ l).1:=by simp [FP]
  rw [e0] at hrow;have c1:=af (k:=0) hi.box rfl
  gi_wp2
  have hKD:D≠s:=by omega
  refine ⟨by simp,.inl ⟨_,_,rfl,run_takeDeferred hK,?_⟩⟩;refine ⟨.slice (some ⟨s,0,none⟩) l.length l.length,by simp [results,Tryz.f24,go_sem],by rw [hs],?_,?_⟩
  ·rw [hs];exact (World.putObj_heap_other hKD.symm).trans hrow
  ·rw [hs];exact hi.bel.trans (belowK_b (w:=w) (by omega) W D _ _ (by omega) hK rfl rfl)
end Go.Proofs.YtcjiapphbpiffaaGreatDoor.Lw
namespace Go.Proofs.YtcjiapphbpiffaaGreatDoor.Lw
open Go.Proofs.YtcjiapphbpiffaaGreatDoor.Lx
open Go.RowKit
def xy:Dc:=⟨6,bE,0,0,false⟩
theorem LK (d:Dc):decide ((mX [xy,d]).2≠1)=rt d:=by
 have h0:rt xy=true:=by decide +kernel
 have hd:0<=1+dD d.k:=by unfold dD;split;omega;split <;> omega
 have e2:cG 0 0 [xy,d]=if rt d=true/\0<=1+dD d.k then cG (1+dD d.k) 2 [] else some 1:=by
  have:cG 0 0 [xy,d]=if rt xy=true/\0<=0+dD xy.k then cG (0+dD xy.k) 1 [d] else some 0:=rfl
  rw [this,IO ⟨h0,by decide⟩];rfl
 have key:(mX [xy,d]).2=1↔rt d=false:=by
  rw [show mX [xy,d]=Pp (cG 0 0 [xy,d]) from Hm (by simp),e2];cases hr:rt d with
  |false=>rw [Eq (by simp)];simp [Pp]
  |true=>
   rw [IO ⟨rfl,hd⟩];have:cG (1+dD d.k) 2 []=if 0<1+dD d.k then some 2 else none:=rfl
   rw [this]
   by_cases h:0<1+dD d.k
   ·rw [IO h];simp [Pp]
   ·rw [Eq h];simp [Pp]
 cases hr:rt d with
 |false=>exact Tg (fun h=>h (key.2 hr))
 |true=>exact Tf (fun h=>by rw [key.1 h] at hr;cases hr)
theorem KJ (w:World) (b:Nat) (d:Dc) (ht:d.t.size<=9223372036854775807) (h:w.heap[b]?=some (.cells #[.int .u8 6,.string ⟨#[]⟩,.int .i64 0,.int .i64 0,.bool false,.int .u8 d.k,.string d.t,.int .i64 d.b,.int .i64 d.i,.bool d.e] 89 (0,0))):Lay w (some ⟨b,0,none⟩) [xy,d]:=by
 intro j x hx
 match j,hx with
 |0,hx=>cases hx;exact ⟨SW _,b,0,rfl,af h rfl,af h rfl,af h rfl,af h rfl,af h rfl⟩
 |1,hx=>cases hx;exact ⟨ht,b,0,rfl,af h rfl,af h rfl,af h rfl,af h rfl,af h rfl⟩
 |j+2,hx=>simp at hx
theorem xO (d:Dc) (ht:d.t.size<=9223372036854775807) (w:World):Ta 41 #[d.v] w fun e w'=>e=.returned (.bool (rt d))/\Below w.heap.size w w':=by
 have HC:Hid (∀W b,W.heap[b]?=some (.cells #[.int .u8 6,.string ⟨#[]⟩,.int .i64 0,.int .i64 0,.bool false,.int .u8 d.k,.string d.t,.int .i64 d.b,.int .i64 d.i,.bool d.e] 89 (0,0))->Ta 85 #[.slice (some ⟨b,0,none⟩) 2 2] W fun e w'=>e=.returned (.tuple #[.int .i64 (mX [xy,d]).1,.int .i64 (mX [xy,d]).2])/\Below W.heap.size W w'):=fun W b h=>DD _ [xy,d] 2 W (KJ W b d ht h) (by simp)
 have e:=LK d;rw [<-e];have hb:=ON [xy,d]
 generalize (mX [xy,d]).1=k1 at *
 generalize (mX [xy,d]).2=k2 at *
 clear e ht;obtain ⟨dk,dt,db,di,de⟩:=d
 dsimp only [Dc.v] at *
 have hs1:(w.alloc (.cells #[.int .u8 dk,.string dt,.int .i64 db,.int .i64 di,.bool de] 89)).heap.size=w.heap.size+1:=SX _ _;have hbd:∀o1 o2 w1,Below ((w.alloc o1).alloc o2).heap.size ((w.alloc o1).alloc o2) w1->Below w.heap.size w w1:=fun o1 o2 w1 h=>(((hH _ w).alloc (gt _) o1).alloc (by rw [SX];omega) o2).trans (h.mono (by rw [SX,SX];omega))
 have HB:Hid (∀o1 o2 w1,Below ((w.alloc o1).alloc o2).heap.size ((w.alloc o1).alloc o2) w1->Below w.heap.size w w1):=hbd;clear hbd
 go_enter Tryz.func41,Tryz.ntmps41
 go_wp2_with (go_at_call 85;refine (HC.out _ _ (by rw [<-hs1];exact aq _ _)).mono ?_;rintro e w1 ⟨rfl,hb1⟩)
 go_ret
 exact ⟨by simp [bne,Bool.beq_eq_decide_eq],HB.out _ _ _ hb1⟩
theorem rJ (ao:Option Addr) (l:List Dc) (cap:Nat) (w:World) (hL:Lay w ao l) (hn:l.length<=9223372036854775807) :
  Ta 23 #[.slice ao l.length cap] w fun e w'=>e=.returned (.bool (decide (cG 0 0 l=none)))/\Below w.heap.size w w':=by
 obtain ⟨R,hR⟩:∃R,cG 0 0 l=R:=⟨_,rfl⟩;have HR0:Hid (cG 0 0 l=R):=hR;rw [hR];clear hR;have HL:Hid (Lay w ao l):=hL;clear hL
 go_enter Tryz.func23,Tryz.ntmps23
 go_wp2_with fail
 go_loopw [3,8] (fun o j wr=>∃(k:Nat) (z:Int),k<=l.length/\o=.int .i64 z/\j=.int .i64 k/\0<=z/\z<=k/\Hid (cG z k (l.drop k)=R/\Below w.heap.size w wr)) (fun _ j _=>l.length-(intOf j).toNat)
 case atStart=>exact ⟨0,0,by omega,rfl,rfl,by omega,by omega,HR0.out,hH _ _⟩
 case round=>
  obtain ⟨k,z,hk,rfl,rfl,hz0,hz1,HI⟩:=hrel
  by_cases hlt:k<l.length
  ·have q1:(k:Int)<l.length:=by omega
   obtain ⟨d,hd⟩:∃d,l[k]?=some d:=⟨_,Pi hlt⟩;obtain ⟨ht,b,off,rfl,c0,c1,c2,c3,c4⟩:=(HL.out.below HI.out.2) k d hd
   have HS:Hid ((if rt d=true/\0<=z+dD d.k then cG (z+dD d.k) (k+1) (l.drop (k+1)) else some k)=R):=by
    show _=_;rw [<-kY hd];exact HI.out.1
   have HB:Hid (Tb w wr):=HI.out.2;have HR:Hid (∀W,Ta 41 #[d.v] W fun x w'=>x=.returned (.bool (rt d))/\Tb W w'):=fun W=>xO d ht W
   clear HI hd;obtain ⟨dk,dt,db,di,de⟩:=d;simp only [Dc.v] at HR;simp only at c0 c1 c2 c3 c4 HS ht
   generalize rt ⟨dk,dt,db,di,de⟩=r at *
   have HX:Hid (r=true->0<=z+dD dk->cG (z+dD dk) (k+1) (l.drop (k+1))=R):=fun h1 h2=>by rw [<-HS.out,IO ⟨h1,h2⟩]
   have HY:Hid (¬(r=true/\0<=z+dD dk)->decide (R=none)=false):=fun h=>by rw [<-HS.out,Eq h];rfl
   clear HS
   have HA:Hid (∀W w1,W=wr.alloc (.cells #[.int .u8 dk,.string dt,.int .i64 db,.int .i64 di,.bool de] 89)->Tb W w1->Tb w w1):=fun W w1 hW h=>by
    subst hW;exact (HB.out.alloc HB.out.size _).trans (h.mono (by rw [SX];have:=HB.out.size;omega))
   by_cases k6:dk=6
   ·subst k6;have e6:z+dD 6=z+1:=rfl;rw [e6] at HX HY;cases r
    ·have HQ:Hid (decide (R=none)=false):=HY.out (by simp);clear HX HY
     go_wp2_with (go_at_call 41;refine (HR.out _).mono ?_;rintro e w1 ⟨rfl,hb1⟩)
     all_goals (go_ret;rw [HQ.out];exact ⟨rfl,HA.out _ _ rfl hb1⟩)
    ·have HQ:Hid (cG (z+1) (k+1) (l.drop (k+1))=R):=HX.out rfl (by omega);clear HX HY
     go_wp2_with (go_at_call 41;refine (HR.out _).mono ?_;rintro e w1 ⟨rfl,hb1⟩)
     exact ⟨⟨k+1,z+1,hlt,by go_num,by go_num,by omega,by omega,HQ.out,HA.out _ _ rfl hb1⟩,by simp [intOf];omega⟩
   by_cases k7:dk=7
   ·subst k7;have e6:z+dD 7=z-1:=rfl;rw [e6] at HX HY
    by_cases hz:0<z
    ·cases r
     ·have HQ:Hid (decide (R=none)=false):=HY.out (by simp);clear HX HY
      go_wp2_with (go_at_call 41;refine (HR.out _).mono ?_;rintro e w1 ⟨rfl,hb1⟩)
      all_goals (go_ret;rw [HQ.out];exact ⟨rfl,HA.out _ _ rfl hb1⟩)
     ·have HQ:Hid (cG (z-1) (k+1) (l.drop (k+1))=R):=HX.out rfl (by omega);clear HX HY
      go_wp2_with (go_at_call 41;refine (HR.out _).mono ?_;rintro e w1 ⟨rfl,hb1⟩)
      exact ⟨⟨k+1,z-1,hlt,by go_num,by go_num,by omega,by omega,HQ.out,HA.out _ _ rfl hb1⟩,by simp [intOf];omega⟩
    ·obtain rfl:z=0:=by omega
     have HQ:Hid (decide (R=none)=false):=HY.out (by omega);clear HX HY
     go_wp2_with (go_at_call 41;refine (HR.out _).mono ?_;rintro e w1 ⟨rfl,hb1⟩)
     all_goals (go_ret;rw [HQ.out];exact ⟨rfl,HA.out _ _ rfl (hH _ _)⟩)
   ·have e6:z+dD dk=z:=by simp [dD,k6,k7]
    rw [e6] at HX HY;cases r
    ·have HQ:Hid (decide (R=none)=false):=HY.out (by simp);clear HX HY
     go_wp2_with (go_at_call 41;refine (HR.out _).mono ?_;rintro e w1 ⟨rfl,hb1⟩)
     all_goals (go_ret;rw [HQ.out];exact ⟨rfl,HA.out _ _ rfl hb1⟩)
    ·have HQ:Hid (cG z (k+1) (l.drop (k+1))=R):=HX.out rfl (by omega);clear HX HY
     go_wp2_with (go_at_call 41;refine (HR.out _).mono ?_;rintro e w1 ⟨rfl,hb1⟩)
     exact ⟨⟨k+1,z,hlt,by go_num,by go_num,by omega,by omega,HQ.out,HA.out _ _ rfl hb1⟩,by simp [intOf];omega⟩
  ·obtain rfl:k=l.length:=by omega
   have q1:¬((l.length:Int)<l.length):=by omega
   have he:=HI.out.1;rw [AY (gt _)] at he;have HB:Hid (Tb w wr):=HI.out.2
   have HQ:Hid (decide (R=none)=(z == 0)):=by
    show _=_
    rw [<-he]
    by_cases hz:0<z
    ·rw [IO hz];have:¬z=0:=by omega
     simp [this]
    ·obtain rfl:z=0:=by omega
     rfl
   clear HI he
   go_wp2_with fail
   go_ret
   rw [HQ.out];exact ⟨rfl,HB.out⟩
theorem rz (n:Nat):∀(l:List Dc) (ms:List Nat) (p:Pr) (k:Nat) (d:Dc) (m:Nat),l[k]?=some d->ms[k]?=some m->puts n (l.take (k+1)) (ms.take (k+1)) p=put n d m (puts n (l.take k) (ms.take k) p)
 |[],ms,p,k,d,m,h,_=>by simp at h
 |x :: l,[],p,k,d,m,_,h=>by simp at h
 |x :: l,y :: ms,p,0,d,m,h1,h2=>by
  simp at h1 h2;subst h1 h2;simp [puts]
 |x :: l,y :: ms,p,k+1,d,m,h1,h2=>by
  have:=rz n l ms (put n x y p) k d m (by simpa using h1) (by simpa using h2)
  simpa [puts] using this
def IJ (n:Nat) (l:List Dc) (k:Nat):Pr:=puts n (l.take k) ((eQ l).1.take k) qK
theorem vM {n:Nat}{l:List Dc}{k:Nat}{d:Dc}(h:l[k]?=some d):∃m,(eQ l).1[k]?=some m/\m<=4097/\IJ n l (k+1)=put n d m (IJ n l k):=by
 have hk:=(Te.1 h).1;obtain ⟨m,hm⟩:∃m,(eQ l).1[k]?=some m:=⟨_,Pi (by rw [kP];exact hk)⟩;exact ⟨m,hm,(yG l).1 m (T3 hm),rz n l _ qK k d m h hm⟩
theorem J3 (n:Nat) (l:List Dc):(IJ n l l.length).sk.out=jZ n l:=by
 unfold IJ jZ;rw [T4,TZ (by rw [kP];exact gt _)]
theorem D3 (l:List Dc) (k:Nat):qD (l.take k)<=qD l:=by
 unfold qD
 have:(l.map ud).sum=((l.take k).map ud).sum+((l.drop k).map ud).sum:=by
  rw [<-Xc,<-UB,TR]
 omega
theorem Fh {n:Nat}{l:List Dc}(hr:∀d∈l,rt d=true) (k:Nat):Bp (IJ n l k) (qD l):=by
 have:=sV (n:=n) (l.take k) ((eQ l).1.take k) qK 0 (fun d hd=>hr d (Wd hd)) SN;exact this.mono (by have:=D3 l k;omega)
theorem po {n:Nat}{l:List Dc}(hf:cG 0 0 l=none):∀k:Nat,k<=l.length->∃o:Int,0<=o/\o<=k/\((IJ n l k).ar.length:Int)=o/\cG o k (l.drop k)=none
 |0,_=>⟨0,Uq _,Uq _,by simp [IJ,puts,qK],by simpa using hf⟩
 |k+1,hk=>by
  obtain ⟨o,h0,h1,h2,h3⟩:=po hf k (by omega);obtain ⟨d,hd⟩:∃d,l[k]?=some d:=⟨_,Pi (by omega)⟩;obtain ⟨m,_,_,e⟩:=vM (n:=n) hd;rw [kY hd] at h3
  split at h3
  ·rename_i hc
   refine ⟨o+dD d.k,hc.2,?_,?_,h3⟩
   ·have:dD d.k<=1:=by unfold dD;split;omega;split <;> omega
    omega
   ·rw [e];exact Fe hc.1 h2 hc.2
  ·cases h3
theorem Cq {n:Nat}{l:List Dc}(hf:cG 0 0 l=none) {k:Nat}{d:Dc}(hd:l[k]?=some d):d.k=7->(IJ n l k).ar≠[]:=by
 intro h7 hn;have hk:=(Te.1 hd).1;obtain ⟨o,h0,h1,h2,h3⟩:=po (n:=n) hf k (by omega);rw [kY hd] at h3
 split at h3
 ·rename_i hc
  have:=hc.2;rw [h7,show dD 7=-1 from rfl] at this;rw [hn] at h2;simp at h2;omega
 ·cases h3
theorem Fi {w2 w3:World}{gs n:Nat}(hT:kl w2) (ha:Ae (fun _=>0) 1 w2 w3 gs xI):∃own,PS w2.heap.size w2 own (w3.alloc (.cells (J7 n gs ⟨0,false,false⟩ (.slice none 0 0) false) 86)) w3.heap.size gs n qK:=by
 obtain ⟨own3,e1,e2,e3⟩:=ha;have hb:Below w3.heap.size w3 (w3.alloc (.cells (J7 n gs ⟨0,false,false⟩ (.slice none 0 0) false) 86)):=(hH _ _).alloc (gt _) _;have hs3:=e2.size;have hf:Fr 2 own3 (fun k=>if k=w3.heap.size then 2 else own3 k) w3 (w3.alloc (.cells (J7 n gs ⟨0,false,false⟩ (.slice none 0 0) false) 86)):=⟨hb.os,hb.tape,hb.output,hb.size,fun k hk _=>hb.block k hk,fun k hk=>Eq (by omega)⟩;refine ⟨fun k=>if k=w3.heap.size then 2 else own3 k,e1.fr (by omega) ?_ hf,?_,?_,gt _,e3.kept hf (by omega),⟨.slice none 0 0,aq _ _,TU _ _ _ _,fun k h=>by cases h⟩,IO rfl⟩
 ·intro k hk;rw [SX] at hk;show (if k=w3.heap.size then 2 else own3 k)=0;rw [Eq (by omega)];exact e1.nf k (by omega)
 ·intro k hk;show (if k=w3.heap.size then 2 else own3 k)=0;rw [Eq (by omega)];exact e2.old k hk
 ·exact (e2.below (gt _) (fun _ _=>rfl) (by omega)).trans (hb.mono hs3)
theorem Fk (n:Nat) (hn1:1<=n) (hn2:n<=4096) (ao:Option Addr) (l:List Dc) (cap:Nat) (w:World) (hL:Lay w ao l) (hT:kl w) (hlen:l.length<=100000000) (hU:qD l<=2147483647) (hf:cG 0 0 l=none) :
  Ta 16 #[.int .i64 n,.slice ao l.length cap] w fun e w'=>e=.returned (.tuple #[.string ⟨(jZ n l).toArray⟩,.int .i64 0])/\Below w.heap.size w w':=by
 have hrt:=tX l 0 0 hf;have q0:¬((n:Int)<1):=by omega
 have q1:¬((4096:Int)<n):=by omega
 have HM:Hid (Ta 23 #[.slice ao l.length cap] w fun e w'=>e=.returned (.bool true)/\Below w.heap.size w w'):=by
  have:=rJ ao l cap w hL (by omega);rw [hf] at this;exact this
 have HN:Hid (∀W,Below w.heap.size w W->Ta 24 #[.slice ao l.length cap] W fun e w'=>e=.returned (.slice (some ⟨W.heap.size,0,none⟩) l.length l.length)/\w'.heap[W.heap.size]?=some (.cells (ni (eQ l).1).toArray 3 (0,0))/\Below W.heap.size W w'):=fun W hW=>CE ao l cap W (hL.below hW) (hT.below hW) hlen hf
 have HS:Hid (∀W,Below w.heap.size w W->Ta 25 #[] W fun e w'=>e=.returned (.pointer (some ⟨W.heap.size,0,none⟩))/\Ae (fun _=>0) 1 W w' W.heap.size xI):=fun W hW=>N6 _ 1 W ⟨fun _ _=>rfl,hT.below hW,rfl⟩ (by omega)
 have HL:Hid (Lay w ao l/\kl w):=⟨hL,hT⟩;clear hL hT
 go_enter Xk,Xd
 go_wp2_with fail
 refine HM.out.mono ?_;rintro e w1 ⟨rfl,hb1⟩
 go_wp2_with fail
 refine (HN.out w1 hb1).mono ?_;rintro e w2 ⟨rfl,hnd,hb2⟩;have HB2:Hid (Below w.heap.size w w2):=hb1.trans (hb2.mono hb1.size);obtain ⟨nb,hnb⟩:∃nb,w1.heap.size=nb:=⟨_,rfl⟩;rw [hnb] at hnd ⊢;have HND:Hid (w2.heap[nb]?=some (.cells (ni (eQ l).1).toArray 3 (0,0))):=hnd;clear hnd hb2 hb1 hnb HM HN
 go_wp2_with fail
 refine (HS.out w2 HB2.out).mono ?_;rintro e w3 ⟨rfl,ha⟩;obtain ⟨own0,hp0⟩:=Fi (n:=n) (HL.out.2.below HB2.out) ha;have HP0:Hid (∃own,PS w2.heap.size w2 own (w3.alloc (.cells (J7 n w2.heap.size ⟨0,false,false⟩ (.slice none 0 0) false) 86)) w3.heap.size w2.heap.size n qK):=⟨own0,hp0⟩;obtain ⟨gs,hgs⟩:∃gs,w2.heap.size=gs:=⟨_,rfl⟩;obtain ⟨g,hg⟩:∃g,w3.heap.size=g:=⟨_,rfl⟩;rw [hgs,hg] at HP0;clear ha hp0 HS
 go_wp2_with fail
 have hbs:gs<=w2.heap.size:=by omega
 go_loopw [26] (fun i wr=>∃(k:Nat),k<=l.length/\i=.int .i64 k/\Hid (∃own,PS gs w2 own wr g gs n (IJ n l k))) (fun i _=>l.length-(intOf i).toNat)
 case atStart=>exact ⟨0,SW _,rfl,HP0.out⟩
 case round=>
  obtain ⟨k,hk,rfl,HI⟩:=hrel
  by_cases hlt:k<l.length
  ·have q2:(k:Int)<l.length:=by omega
   have q3:(0:Int)<=k:=by omega
   obtain ⟨d,hd⟩:∃d,l[k]?=some d:=⟨_,Pi hlt⟩;obtain ⟨own,hps⟩:=HI.out;have hLr:Lay wr ao l:=(HL.out.1.below HB2.out).below (by rw [hgs];exact hps.bel);obtain ⟨ht,b,off,rfl,c0,c1,c2,c3,c4⟩:=hLr k d hd;obtain ⟨m,hm,hm4,hpe⟩:=vM (n:=n) hd;have hrd:=hrt d (T3 hd);obtain ⟨o,ho0,ho1,ho2,_⟩:=po (n:=n) hf k hk;have hnb:wr.heap[nb]?=some (.cells (ni (eQ l).1).toArray 3 (0,0)):=(hps.bel.block nb (by have:=au HND.out;omega)).trans HND.out;obtain ⟨b1,b2,b3,b4,b5⟩:=hps.box (.cells #[.int .u8 d.k,.string d.t,.int .i64 d.b,.int .i64 d.i,.bool d.e] 89);obtain ⟨W1,hW1⟩:∃W1,wr.alloc (.cells #[.int .u8 d.k,.string d.t,.int .i64 d.b,.int .i64 d.i,.bool d.e] 89)=W1:=⟨_,rfl⟩;rw [hW1] at b1 b2 b4 b5
   have hcell:∀V:World,W1.heap.size<=V.heap.size->V.heap[wr.heap.size]?=W1.heap[wr.heap.size]?->V.heap[nb]?=W1.heap[nb]?->(V.cell? ⟨wr.heap.size,0,none⟩=some (.int .u8 d.k)/\V.cell? ⟨wr.heap.size,1,none⟩=some (.string d.t)/\V.cell? ⟨wr.heap.size,2,none⟩=some (.int .i64 d.b)/\V.cell? ⟨wr.heap.size,3,none⟩=some (.int .i64 d.i)/\V.cell? ⟨wr.heap.size,4,none⟩=some (.bool d.e)/\V.cell? ⟨nb,k,none⟩=some (.int .i64 m)):=by
    intro V _ e1 e2;have a1:=e1.trans b2;have a2:V.heap[nb]?=some (.cells (ni (eQ l).1).toArray 3 (0,0)):=e2.trans (by rw [<-hW1];exact aD hnb _);exact ⟨af a1 rfl,af a1 rfl,af a1 rfl,af a1 rfl,af a1 rfl,af a2 (by simp [ni,hm])⟩
   have HPUT:Hid (∀V,V=W1.drew->Ta 26 #[.pointer (some ⟨g,0,none⟩),.agg #[.int .u8 d.k,.string d.t,.int .i64 d.b,.int .i64 d.i,.bool d.e],.int .i64 m] V fun e w'=>e=.returned (.tuple #[])/\Hid (∃own,PS gs w2 own w' g gs n (IJ n l (k+1)))/\(w'.cell? ⟨wr.heap.size,0,none⟩=some (.int .u8 d.k)/\w'.cell? ⟨wr.heap.size,1,none⟩=some (.string d.t)/\w'.cell? ⟨wr.heap.size,2,none⟩=some (.int .i64 d.b)/\w'.cell? ⟨wr.heap.size,3,none⟩=some (.int .i64 d.i)/\w'.cell? ⟨wr.heap.size,4,none⟩=some (.bool d.e)/\w'.cell? ⟨nb,k,none⟩=some (.int .i64 m))):=by
    intro V hV;subst hV;have hd1:=b1.below (hH _ W1).drew;have:=J1 hd1 (Fh hrt k) (by omega) m (by omega) hn2 (by omega) d hrd (Cq hf hd);refine this.mono ?_;rintro e w' ⟨rfl,own',p1,p2,p3⟩;rw [<-hpe] at p1;have x1:=p2 wr.heap.size (au b2) b3;have hnl:nb<W1.heap.size:=by have:=au hnb;have:=b5;omega
    have x2:w'.heap[nb]?=W1.heap[nb]?:=(p1.bel.block nb (by have:=au HND.out;omega)).trans (b1.bel.block nb (by have:=au HND.out;omega)).symm;exact ⟨rfl,⟨own',p1⟩,hcell w' p3 x1.1 x2⟩
   have HC1:Hid (W1.cell? ⟨wr.heap.size,0,none⟩=some (.int .u8 d.k)/\W1.cell? ⟨wr.heap.size,1,none⟩=some (.string d.t)/\W1.cell? ⟨wr.heap.size,2,none⟩=some (.int .i64 d.b)/\W1.cell? ⟨wr.heap.size,3,none⟩=some (.int .i64 d.i)/\W1.cell? ⟨wr.heap.size,4,none⟩=some (.bool d.e)/\W1.cell? ⟨nb,k,none⟩=some (.int .i64 m)):=hcell W1 (gt _) rfl rfl;have HW1:Hid (wr.alloc (.cells #[.int .u8 d.k,.string d.t,.int .i64 d.b,.int .i64 d.i,.bool d.e] 89)=W1):=hW1;clear HI hps hLr hpe hrd ho0 ho1 ho2 hnb b1 b2 b3 b4 b5 hW1 hcell hd hm
   go_wp2_with fail
   rw [HW1.out]
   go_region_held3 (fun w'=>w'.cell? ⟨wr.heap.size,0,none⟩=some (.int .u8 d.k)/\w'.cell? ⟨wr.heap.size,1,none⟩=some (.string d.t)/\w'.cell? ⟨wr.heap.size,2,none⟩=some (.int .i64 d.b)/\w'.cell? ⟨wr.heap.size,3,none⟩=some (.int .i64 d.i)/\w'.cell? ⟨wr.heap.size,4,none⟩=some (.bool d.e)/\w'.cell? ⟨nb,k,none⟩=some (.int .i64 m)) (first|assumption|(exact HC1.out)|go_keep) (first|(go_at_call 26;refine (HPUT.out _ rfl).mono ?_;rintro e w4 ⟨rfl,HP4,HS4⟩))
   all_goals (
    go_wp2_with fail
    exact ⟨⟨k+1,hlt,by go_num,HP4.out⟩,by simp [intOf];omega⟩)
  ·obtain rfl:k=l.length:=by omega
   have q2:¬((l.length:Int)<l.length):=by omega
   obtain ⟨own,hps⟩:=HI.out;have c1:=hps.c1
   have HT:Hid (Ta 27 #[.pointer (some ⟨gs,0,none⟩)] wr fun e w'=>e=.returned (.string ⟨(jZ n l).toArray⟩)/\Below w.heap.size w w'):=by
    have hbd:=Fh (n:=n) hrt l.length;refine (Jl hps.sk hps.en (by omega) (by have:=hbd.out;omega)).mono ?_;rintro e w' ⟨rfl,ha⟩;obtain ⟨own',p1,_⟩:=hps.sink ha;rw [J3];refine ⟨rfl,HB2.out.trans ?_⟩;have:=p1.bel;exact this.mono (by have:=HB2.out.size;omega)
   clear HI hps
   go_wp2_with (go_at_call 27;refine HT.out.mono ?_;rintro e w5 ⟨rfl,hb5⟩)
   go_ret2
   exact ⟨rfl,hb5⟩
theorem Cs (n:Int) (ao:Option Addr) (l:List Dc) (cap:Nat) (w:World) (hL:Lay w ao l) (hT:kl w) (hlen:l.length<=100000000) (hU:qD l<=2147483647) :
  Ta 16 #[.int .i64 n,.slice ao l.length cap] w fun e w'=>e=.returned (.tuple #[.string (sj n l).1,.int .i64 (sj n l).2])/\Below w.heap.size w w':=by
 by_cases hn:n<1\/4096<n
 ·have e:sj n l=(⟨#[]⟩,1):=IO hn;rw [e]
  by_cases h0:n<1
  ·have q:decide (n<1)=true:=by simp;omega
   clear hn hL hT
   go_enter Xk,Xd
   go_wp2_with fail
   go_ret2
   exact ⟨rfl,hH _ _⟩
  ·have h1:4096<n:=by omega
   clear hn hL hT
   go_enter Xk,Xd
   go_wp2_with fail
   go_ret2
   exact ⟨rfl,hH _ _⟩
 ·by_cases hf:cG 0 0 l=none
  ·have e:sj n l=(⟨(jZ n.toNat l).toArray⟩,0):=by unfold sj;rw [Eq hn,Eq (by simp [hf])]
   rw [e];have:=Fk n.toNat (by omega) (by omega) ao l cap w hL hT hlen hU hf;rw [show ((n.toNat:Nat):Int)=n by omega] at this;exact this
  ·have e:sj n l=(⟨#[]⟩,70):=by unfold sj;rw [Eq hn,IO hf]
   rw [e];have h0:¬n<1:=by omega
   have h1:¬4096<n:=by omega
   have HM:=rJ ao l cap w hL (by omega);rw [Tg hf] at HM;clear hn hL hT
   go_enter Xk,Xd
   go_wp2_with (go_at_call 23;refine HM.mono ?_;rintro e w1 ⟨rfl,hb1⟩)
   go_ret2
   exact ⟨rfl,hb1⟩
end Go.Proofs.YtcjiapphbpiffaaGreatDoor.Lw
