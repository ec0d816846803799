import Derived.RangeFuncNested
import Derived.RangeFuncBound
import Derived.RangeFuncCalls
import Derived.RangeFuncLeaves
import Derived.Shelf.Abstract
import Derived.Shelf.RegionOpen
import Derived.OwnWalkIn
import Derived.TacticsInMore
import Derived.LoopNIn
import Derived.LoopIn
import Derived.Laws.EntriesVeiled
import Derived.Test.YthfjlkfeeglfmaaGreatDoorM11
set_option linter.all false
set_option maxHeartbeats 4000000
set_option maxRecDepth 100000
namespace Go.Proofs.YthfjlkfeeglfmaaGreatDoor.Lw
open Go.Proofs.Tryz
open Lx
open Go.RowKit
variable {W w W' w0:World}{B n g gs gb ga cap j:Nat}{p:Pr}{s:Sp}{l:List Dc}{ao:Option Addr}{st:List Sp}
def PS.pop {own:Nat->Nat}(h:PS B w0 own W g gs n p) {b:Bk}{r:List Bk}(S:p.ar=b :: r):∃q cap,W.cell? (Tw g 5)=some (.slice (some (Tw q 0)) (r.length+1) cap)/\r.length+1<=cap/\cap<=maxLen/\W.cell? ⟨q,r.length*3,none⟩=some (Tu b.ind)/\W.cell? ⟨q,r.length*3+1,none⟩=some (.bool b.ev)/\W.cell? ⟨q,r.length*3+2,none⟩=some (.bool b.ft)/\q≠g /\
  PA B w0 own W g gs n { p with bl:=b,ar:=r } ((((W.setCell ⟨g,2,none⟩ (Tu b.ind)).setCell ⟨g,3,none⟩ (.bool b.ev)).setCell ⟨g,4,none⟩ (.bool b.ft)).setCell ⟨g,5,none⟩ (.slice (some (Tw q 0)) r.length cap)):=by
 obtain⟨v,G,H,O⟩:=h.pr;rw[S]at H;obtain⟨q,cap,rfl,c1,c2,c3,c4,cur,c5⟩:=si LI H;have Y:=aF H G (by decide);have u:q≠g:=λe=>Y (by rw[e];rfl)
 have I:=(((Kp.set W g 2 (Tu b.ind)).trans (Kp.set _ g 3 (.bool b.ev))).trans (Kp.set _ g 4 (.bool b.ft))).trans (Kp.set _ g 5 (.slice (some (Tw q 0)) r.length cap));refine⟨q,cap,aa G rfl,c1,c2,c4 0 _ rfl,c4 1 _ rfl,c4 2 _ rfl,u,own,?_⟩;refine h.turn (((((Fr.refl 2 own W).set' h.lab 2 _).set' h.lab 3 _).set' h.lab 4 _).set' h.lab 5 _) (h.en.nf.below I.size) rfl ⟨.slice (some (Tw q 0)) r.length cap,ag (ag (ag (ag G 2 _) 3 _) 4 _) 5 _,I.row c3 (λk J M=>by cases J;exact u M),λk Q=>O k (by cases Q;rfl)⟩
def J3 {own:Nat->Nat}(h:PS B w0 own W g gs n p) (need:Nat) {b:Bk}{r:List Bk}(S:p.ar=b :: r) (hl:r.length<=1000000000) :
  Sa 20 #[.pointer (some (Tw g 0)),.agg #[.int .u8 7,.string ⟨#[]⟩,Tu 0,Tu 0,.bool false],Tu need] W λx w'=>Uk x (.tuple #[])/\PA B w0 own W g gs n { p with bl:=b,ar:=r } w':=by
 have c2:=h.c2;have c3:=h.c3;have c4:=h.c4;have f2:=h.fz 2;have f3:=h.fz 3;have f4:=h.fz 4;have f5:=h.fz 5;have aa:=h.lt;obtain⟨q,cap,c5,d1,d2,Y,q1,q2,H,own',I,J,G⟩:=h.pop S;have ab:g≠q:=T5 H;have hq:q<W.heap.size:=RV _ _ Y
 have M:Hid (∀o,PA B w0 own W g gs n { p with bl:=b,ar:=r } (((((W.setCell ⟨g,2,none⟩ (Tu b.ind)).setCell ⟨g,3,none⟩ (.bool b.ev)).setCell ⟨g,4,none⟩ (.bool b.ft)).setCell ⟨g,5,none⟩ (.slice (some (Tw q 0)) r.length cap)).alloc o).drew):=by
  intro o;have u:=((gt _ ((((W.setCell ⟨g,2,none⟩ (Tu b.ind)).setCell ⟨g,3,none⟩ (.bool b.ev)).setCell ⟨g,4,none⟩ (.bool b.ft)).setCell ⟨g,5,none⟩ (.slice (some (Tw q 0)) r.length cap))).alloc (ge _) o).drew;exact⟨own',I.below u,J.trans G (λk Q O=>⟨u.block k Q,O⟩),PI G u.size⟩
 have Z:cap<=9223372036854775807:=d2;clear I J G h;go_enter func20,ntmps20;(go_wp2_with fail);go_region
 all_goals(
  (go_wp2_with fail);go_end0;exact⟨rfl,M.out _⟩)
def J6 {own:Nat->Nat}(h:PS B w0 own W g gs n p) {U:Nat}(G:Bp p U) (u:U<=2147483647) (need:Nat) (H:need<=1000000) (J:n<=4096) (hl:p.ar.length<=1000000000) (d:Dc) (hd:rt d=true) (M:d.k=7->p.ar≠[]) :
  Sa 20 #[.pointer (some (Tw g 0)),d.v,Tu need] W λe w'=>Uk e (.tuple #[])/\PA B w0 own W g gs n (put n d need p) w':=by
 cases gu hd with
 |text t hq=>exact Fm h G u need t (fN hq).2
 |brk m hq=>
  obtain⟨O,Q⟩:=im hq;have:=J4 h G u need H J m.toNat (by omega);rw[show((m.toNat:Nat):Int)=m by omega]at this;exact this
 |beg m e hq=>
  obtain⟨O,Q⟩:=im hq;have:=J5 h G u need H J hl m.toNat (by omega) e;rw[show((m.toNat:Nat):Int)=m by omega]at this;exact this
 |blank=>exact Cu h G u need
 |hard=>exact Fo h G u need
 |empty=>exact Ct h G u need
 | «end»=>
  cases I:p.ar with
  |nil=>exact absurd I (M rfl)
  |cons b r=>
   have:=J3 h need I (by rw[I]at hl;simp at hl;omega)
   have e:put n ⟨7,bE,0,0,false⟩ need p={ p with bl:=b,ar:=r }:=by
    show({ p with bl:=p.ar.headD ⟨0,false,false⟩,ar:=p.ar.tail }:Pr)=_;rw[I];rfl
   rw[e];exact this
theorem Ek {x:Sp}{r:List Sp}(h:TL B w gb ga s (x :: r)) (O:Sb s) (Y:Sb x) (M:B<=w.heap.size) (hn:r.length<=1000000000) (i:Int) (e:Bool) :
  Sa 87 #[.agg #[.int .u8 6,.string ⟨#[]⟩,.int .i64 0,.int .i64 i,.bool e],.pointer (some ⟨ga,0,none⟩),.pointer (some ⟨gb,0,none⟩)] w fun e w'=>TA B w gb ga (s.all,x.wid s.all,r) e w':=by
 have Z:=h.ne;have ag:=ai h.hb;have af:ga<w.heap.size:=by obtain ⟨v,J,_⟩:=h.ha;exact ai J
 have b0:w.cell? ⟨gb,0,none⟩=some (.int .i64 s.all):=aa h.hb rfl;have b1:w.cell? ⟨gb,1,none⟩=some (.int .i64 s.hang):=aa h.hb rfl;have ad:w.frozen? ⟨gb,0,none⟩=false:=aj h.hb;have ae:w.frozen? ⟨gb,1,none⟩=false:=aj h.hb;have ac:w.frozen? ⟨ga,0,none⟩=false:=by obtain ⟨v,J,_⟩:=h.ha;exact aj J
 obtain ⟨b,cap,c1,c2,c3,c4,c5,⟨c6,c7,c8⟩,G,H⟩:=h.pop (gt _ _) M;obtain ⟨W1,hW1⟩:∃W1,((w.setCell ⟨gb,0,none⟩ (.int .i64 x.all)).setCell ⟨gb,1,none⟩ (.int .i64 x.hang)).setCell ⟨ga,0,none⟩ (.slice (some ⟨b,0,none⟩) r.length cap)=W1:=⟨_,rfl⟩
 have I:Hid (∀o,TL B (W1.alloc o).drew gb ga x r/\Bo B gb ga w (W1.alloc o).drew):=by
  intro o;rw [hW1] at G H;exact ⟨G.below ((gt _ _).alloc (ge _) _).drew,H.trans (Bo.of_below ((gt _ _).alloc (ge _) _).drew)⟩
 have HW:Hid (∀W,Bo B gb ga w W->TL B W gb ga x r->Sa 88 #[.pointer (some ⟨gb,0,none⟩),.int .i64 s.all] W fun e w'=>e=.returned (.tuple #[])/\TL B w' gb ga (x.wid s.all) r/\Bo B gb ga W w'):=fun W hW hL=>ic hL Y _ (by have:=O.1;omega) (PI M hW.size)
 have ah:s.all<=4097:=O.1;clear h O Y M;have ab:cap<=9223372036854775807:=c3
 go_enter func87,ntmps87
 go_wp2_with fail
 go_region
 all_goals go_wp2_with fail
 refine (HW.out _ (I.out _).2 (I.out _).1).mono ?_;rintro e w2 ⟨rfl,S,u⟩;have Q:Hid (TL B w2 gb ga (x.wid s.all) r/\Bo B gb ga w w2):=⟨S,(I.out _).2.trans u⟩;clear S u
 go_wp2_with fail
 go_ret
 exact ⟨rfl,Q.out.1,Q.out.2⟩
def cI (h:TL B w gb ga s st) (G:Sb s) (H:∀x∈st,Sb x) (u:B<=w.heap.size) (M:∀W,Kp (Sx B gb ga) w W->gj W) (I:st.length<=1000000000) (d:Dc) (hd:rt d=true) (J:d.k=6->st≠[]) :
  Sa 87 #[d.v,.pointer (some (Tw ga 0)),.pointer (some (Tw gb 0))] w λe w'=>TA B w gb ga (bL d (s,st)) e w':=by
 cases gu hd with
 |text t hq=>exact BT h G u M t (fN hq).2
 |brk m hq=>
  obtain⟨O,Q⟩:=im hq;have:=Ej h G u m.toNat (by omega);rw[show((m.toNat:Nat):Int)=m by omega]at this;exact this
 |beg m e hq=>
  cases st with
  |nil=>exact absurd rfl (J rfl)
  |cons x r=>exact Ek h G (H x RZ) u (by simp at I;omega) m e
 |blank=>exact xP h G u
 |hard=>exact qA h G u 4 (.inl rfl)
 |empty=>exact qA h G u 5 (.inr rfl)
 | «end»=>exact Ei h G u I
open Go.RowKit Go.Shelf
attribute [local go_sem] Oper.semAt_some
def Qg (F:Fence) (n:Nat) (P:Program) (gf:Nat) (lb:Array Value) (it:Nat->Array Value) (N:Nat) (G:World->Prop):Prop:=
 ∀(l:Nat) (J:Nat->World->Prop) (W:World),(∀j W,J j W->G W)->AbidesFrom W.heap.size J->(∀j W1,j<N->J j W1->YieldAt F (n-1) P l (it j) W1 λe W'=>Uk e (.bool true)/\J (j+1) W')->J 0 W ->
  CallsIn F n P gf (#[.func (.yield l) #[] #[]]++lb) W λe W'=>(∃v,Uk e v)/\J N W'
def BM {F:Fence}{P:Program}{g:Operand}{ps:Array Tmp}{assign body:Code}{Q:Exit->Act->World->Prop}{a:Act}(hro:F.round=none) (h1:1<=n) {gf:Nat}{lb:Array Value}(hg:a.eval g=.func (.func gf) #[] lb) (hF:F.fn gf)
  (eg:∀args w,(callFunc gf args).run P w=.ok (.enter gf args) w) {it:Nat->Array Value} {N:Nat} {G:World->Prop} (sZ:Qg F (n-1) P gf lb it N G) (hps:∀j,(it j).size=ps.size)
  (I:Nat->World->Prop) (hI:OwnFrom w.heap.size I) (hG:∀j W,I j W->G W) (h0:I 0 w) (Ax:Nat->Act->World->Prop) (hAx:∀j a',OwnFrom w.heap.size (fun(_:Unit) W=>Ax j a' W))
  (hassign:∀(l j:Nat) (W:World) (K:Act->World->Prop),j<N->I j W->(∀a' W',KeepsFrom w.heap.size W W'->I j W'->Ax j a' W'->K a' W') ->
   assign.wpIn (F.inRound l) (n-1-1) P (Exit.then K (λ_ _ _=>False)) { tmps:=(ps.zip (it j)).foldl (λt (p,v)=>t.setIfInBounds p v) a.tmps,defers:=[] } W)
  (hbody:∀(l j:Nat) (a':Act) (W:World),j<N->I j W->Ax j a' W->body.wpIn (F.inRound l) (n-1-1) P (λe _ W'=>e=.normal/\KeepsFrom w.heap.size W W'/\I (j+1) W') a' W)
  (hdone:∀(D:Nat) (W:World),w.heap.size<=D->I N W->W.heap[D]?=some (.deferred (some []))->Q .normal { a with defers:={ target:=.collected D,args:=#[] } :: a.defers } W) :
  (Code.rangeFunc g ps assign body).wpIn F n P Q a w:=by
 refine wpIn_rangeFunc λfn hfn=>?_
 rw[hro];obtain⟨L,hL⟩:∃L:LoopState->Loop,∀st,L st={ state:=st,pending:=none,fn,tmps:=a.tmps,params:=ps,assign,body,defers:=w.heap.size }:=⟨_,λ_=>rfl⟩;have hent:=run_enterLoop_outer (P:=P) (w:=w) fn a.tmps ps assign body;rw[<-hL]at hent;obtain⟨V,hV⟩:=ea ((w.alloc (.deferred (some []))).alloc (.loop (L .ready)));rw[hV]at hent;have e1:(w.alloc (.deferred (some []))).heap.size=w.heap.size+1:=RT _ _;have vr:V.heap[w.heap.size+1]?=some (.loop (L .ready)):=by rw[<-hV,<-e1];exact ak _ _
 have vd:V.heap[w.heap.size]?=some (.deferred (some [])):=by rw[<-hV];exact aI (ak _ _) _
 have vs:w.heap.size+2<=V.heap.size:=by rw[<-hV,RT,e1];exact ge _
 have vi:I 0 V:=by rw[<-hV];exact hI.alloc _ (hI.alloc _ h0)
 refine⟨w.heap.size+1,_,V,{ target:=.fn (.func gf) lb,args:=#[.func (.yield (w.heap.size+1)) #[] #[]] },V,gf,#[.func (.yield (w.heap.size+1)) #[] #[]]++lb,V,hent,?_,?_,?_,λ_=>h1,?_⟩
 ·simp only[resolve,hg];simp[go_sem]
 ·intro f' hf';simp[Target.leads]at hf';subst hf';exact hF
 ·simp[invoke,go_sem,eg]
 refine(sZ (w.heap.size+1) (λj W=>I j W/\W.heap[w.heap.size+1]?=some (.loop (L .ready))/\W.heap[w.heap.size]?=some (.deferred (some []))) V (λj W h=>hG j W h.1) ?_ ?_ ⟨vi,vr,vd⟩).mono ?_
 ·intro j A B row hs hgr hr;refine⟨hI j A B row hs.1 hgr λr e=>?_,(grownBy_keeps hgr (λr e=>(hr r e).2) hs.2.1 rfl).trans hs.2.1,(grownBy_keeps hgr (λr e=>(hr r e).2) hs.2.2 rfl).trans hs.2.2⟩;obtain⟨hb,o,ho,hw⟩:=hr r e;exact⟨by omega,o,ho,Obj.not_cells_of_walk hw⟩
 ·rintro j W hj⟨hi,hr,hd⟩;have hy:=run_yield (P:=P) (args:=it j) hr (by rw[hL];exact hps j);rw[hL]at hy;refine⟨fn,_,assign,body,hy,roundIn_of_wpIn hfn (hassign _ j W _ hj hi ?_)⟩;intro a' W' hk hi' hax;have hr':=hk.same _ _ (by omega) hr rfl;have hd':=hk.same _ _ (ge _) hd rfl;have hlt:=ai hr';refine⟨_,run_beginRound hr' (by rw[hL]),?_⟩;obtain⟨W2,hW2⟩:∃W2,W'.putObj (w.heap.size+1) (.loop { L .ready with state:=.busy })=W2:=⟨_,rfl⟩;have r2:W2.heap[w.heap.size+1]?=some (.loop { L .ready with state:=.busy }):=by rw[<-hW2];exact World.putObj_heap_same hlt
  have d2:W2.heap[w.heap.size]?=some (.deferred (some [])):=by rw[<-hW2];exact(World.putObj_heap_other (by omega)).trans hd'
  have i2:I j W2:=by rw[<-hW2];exact hI.putObj _ hi' (by omega) hr' rfl
  have x2:Ax j a' W2:=by rw[<-hW2];exact(hAx j a').putObj (s:=()) _ hax (by omega) hr' rfl
  rw[hW2];refine wpIn_mono (hbody _ j a' W2 hj i2 x2) ?_;rintro e a3 W3⟨rfl,hk3,i3⟩;have r3:=hk3.same _ _ (by omega) r2 rfl;have d3:=hk3.same _ _ (ge _) d2 rfl;have hend:=run_endRound (P:=P) none r3;rw[hL]at hend;refine⟨_,_,hend,rfl,hI.putObj _ i3 (by omega) r3 rfl,?_,(World.putObj_heap_other (by omega)).trans d3⟩;rw[World.putObj_heap_same (ai r3),hL];rfl
 ·rintro e W⟨⟨v,rfl⟩,hi,hr,hd⟩;have hend:=run_endLoop (P:=P) hr (by rw[hL];simp);rw[hL]at hend;exact⟨none,_,hend,hdone _ _ (ge _) (hI.putObj _ hi (by omega) hr rfl) ((World.putObj_heap_other (by omega)).trans hd)⟩
attribute [local go_sem] Oper.semAt_some
def ub (ao:Option Addr) (n cap:Nat) (w:World):Sa 40 #[.slice ao n cap] w λe w'=>Uk e (.func (.func 90) #[] #[.pointer (some ⟨w.heap.size,0,none⟩)])/\w'=w.alloc (.cells #[.slice ao n cap] 23):=by
 have u:=mkfn;go_enter func40,ntmps40;(go_wp2_with fail);go_ret;exact⟨rfl,rfl⟩
def zD:Dc:=⟨0,bE,0,0,false⟩
def Qm (l:List Dc) (j:Nat):Array Value:=#[Tu ((l.length-1-j:Nat):Int),(l.getD (l.length-1-j) zD).v]
def cL {row:Option Nat}(G:W.grownBy W' row) (u:∀r,row=some r->∃o:Obj,W.heap[r]?=some o/\o.isCells=false) {k:Nat}{cs:Array Value}{T:TypeId}{f:Nat × Nat}(h:W.heap[k]?=some (.cells cs T f)):W'.heap[k]?=some (.cells cs T f):=
 (grownBy_keeps_cells G u h rfl).trans h
def qt (n:Nat) (hn:1<=n) (S:Nat) (ao:Option Addr) (l:List Dc) (cap:Nat) (hl:l.length<=1000000000000) :
  Qg Fence.wide n Tryz.prog 90 #[.pointer (some (Tw S 0))] (Qm l) l.length (λW=>W.cell? (Tw S 0)=some (.slice ao l.length cap)/\Lay W ao l):=by
 intro lp J W hG hA hY Z;refine callsIn_of_wp func90 rfl trivial ?_ rfl;simp only[ntmps90,Vd,List.length_cons,List.length_nil,Nat.reduceAdd,Nat.reduceSub,UL,UM,Ve,UV,SI,R7];have g0:=(hG 0 W Z).1;have ac:(l.length:Int)<=1000000000000:=by omega
 gi_wp2
 gi_loopw [3] (λi wr=>∃(j:Nat) (z:Int),i=Tu z/\z=(l.length:Int)-1-j/\j<=l.length/\J j wr) (λi _=>(intOf i+1).toNat)
 case atStart=>exact⟨0,_,by go_num,by omega,RU _,Z⟩
 case round=>
  obtain⟨j,z,rfl,hz,hj,I⟩:=hrel
  by_cases G:j<l.length
  ·obtain⟨k,hk⟩:∃k:Nat,z=k:=⟨z.toNat,by omega⟩;subst hk;have O:k<l.length:=by omega
   have u:l.length-1-j=k:=by omega
   obtain⟨d,hd⟩:∃d,l[k]?=some d:=⟨_,Pi O⟩;obtain⟨gc,gL⟩:=hG j wr I;obtain⟨ht,b,off,rfl,c0,c1,c2,c3,c4⟩:=gL k d hd;have q1:(0:Int)<=k:=by omega
   have q2:(k:Int)<l.length:=by omega
   have sZ:Qm l j=#[Tu (k:Int),d.v]:=by
    unfold Qm;rw[u,UK,hd];rfl
   obtain⟨fn,ab,H,aa,hy,hR⟩:=hY j wr G I;rw[sZ]at hy;dsimp only[Dc.v]at hy;have Y:Hid (l.length-1-j=k/\j<l.length):=⟨u,G⟩;clear hz sZ u G hd;gi_wp2;refine hR.mono ?_;rintro e W3⟨rfl,M⟩;gi_wp2;go_roundw
   case rel=>exact⟨j+1,(k:Int)-1,by go_num,by have:=Y.out;omega,by have:=Y.out;omega,M⟩
   case measure=>simp[RowKit.intOf]
  ·obtain rfl:j=l.length:=by omega
   have Q:z=-1:=by omega
   subst Q;clear hz;gi_wp2;go_end0;exact⟨⟨_,rfl⟩,I⟩
attribute [local go_sem] Oper.semAt_some
def xO (w:World):Sa 39 #[] w λe w'=>Uk e (.func (.func 87) #[] #[.pointer (some ⟨w.heap.size+1,0,none⟩),.pointer (some ⟨w.heap.size,0,none⟩)])/\w'=(w.alloc (.cells #[Tu 0,Tu 0] 179)).alloc (.cells #[.slice none 0 0] 180):=by
 have u:=mkfn;go_enter func39,ntmps39;(go_wp2_with fail);go_ret;exact⟨rfl,rfl⟩
def ni (l:List Nat):List Value:=l.map fun(x:Nat)=>Tu (x:Int)
def NB (l:List Nat):(ni l).length=l.length:=by simp[ni]
def F1 (l:List Dc) (i:Nat):List Nat:=List.replicate i 0++(aX (l.drop i)).1
def Ky (l:List Dc) (i:Nat) (u:i<=l.length):(F1 l i).length=l.length:=by simp[F1,nG];omega
def Kx (l:List Dc) (i:Nat) (d:Dc) (hd:l[i]?=some d):(F1 l (i+1)).set i (bL d (aX (l.drop (i+1))).2).1=F1 l i:=by
 obtain⟨u,G⟩:=RY.1 hd;unfold F1;rw[Sz u,G,List.replicate_succ',RW,List.set_append_right _ _ (by simp)];simp[aX]
def Pp (N:Nat) (M:N<=100000000) (w:World):(Instr.makeSlice 72 (Tu (N:Int)) (Tu (N:Int))).run Tryz.prog w=.ok (.slice (some ⟨w.heap.size,0,none⟩) N N) (w.alloc (.cells (ni (List.replicate N 0)).toArray 3)):=by
 obtain⟨J,I,u,G,H⟩:=Tf Tryz.info3;have h:=run_make (P:=Tryz.prog) w 72 3 J (Tu 0) underlying72 I u .i64 .i64 (N:Int) (N:Int) (by omega) (by omega) (by rw[H];omega) (by omega);rw[h]
 congr 4
 rw[G]
 apply TJ.1
 show(madeCells #[Tu 0] _).toList=_;rw[VB];simp[ni]
structure NI (w:World) (l:List Dc) (ao:Option Addr) (cap:Nat) (s j:Nat) (W:World):Prop where
 bel:Below s w W
 row:W.heap[s]?=some (.cells (ni (F1 l (l.length-j))).toArray 3 (0,0))
 box:W.heap[s+1]?=some (.cells #[.slice (some ⟨s,0,none⟩) l.length l.length] 72 (0,0))
 tl:TL (s+1+1+1+1+1+1) W (s+1+1) (s+1+1+1) (aX (l.drop (l.length-j))).2.1 (aX (l.drop (l.length-j))).2.2
 fn:W.heap[s+1+1+1+1]?=some (.cells #[.func (.func 87) #[] #[.pointer (some ⟨s+1+1+1,0,none⟩),.pointer (some ⟨s+1+1,0,none⟩)]] 110 (0,0))
 bn:W.heap[s+1+1+1+1+1]?=some (.cells #[.slice ao l.length cap] 23 (0,0))
def TL.own {row:Option Nat}(h:TL B W gb ga s st) (G:W.grownBy W' row) (u:∀r,row=some r->∃o:Obj,W.heap[r]?=some o/\o.isCells=false):TL B W' gb ga s st:=by
 obtain⟨v,Q,I,S⟩:=h.ha;refine⟨cL G u h.hb,⟨v,cL G u Q,⟨I.1,?_⟩,S⟩⟩
 rcases I.2 with Y|⟨g,cap,H,rfl,J,M,O⟩
 ·exact .inl Y
 ·exact .inr ⟨g,cap,H,rfl,J,cL G u M,O⟩
def NI.own {s:Nat}{row:Option Nat}(h:NI w l ao cap s j W) (I:s<=w.heap.size) (G:W.grownBy W' row) (u:∀r,row=some r->s<=r/\∃o:Obj,W.heap[r]?=some o/\o.isCells=false):NI w l ao cap s j W':=
 have H:=λr e=>(u r e).2
 ⟨h.bel.grown G (PI I h.bel.size) (λk e=>(u k e).1),cL G H h.row,cL G H h.box,h.tl.own G H,cL G H h.fn,cL G H h.bn⟩
def FY (w:World) (l:List Dc) (ao:Option Addr) (cap s:Nat) (I:w.heap.size=s):NI w l ao cap s 0 ((((((w.alloc (.cells (ni (List.replicate l.length 0)).toArray 3)).alloc (.cells #[.slice (some (Tw s 0)) l.length l.length] 72)).alloc (.cells #[Tu 0,Tu 0] 179)).alloc (.cells #[.slice none 0 0] 180)).alloc (.cells #[.func (.func 87) #[] #[.pointer (some ⟨s+1+1+1,0,none⟩),.pointer (some ⟨s+1+1,0,none⟩)]] 110)).alloc (.cells #[.slice ao l.length cap] 23))/\((((((w.alloc (.cells (ni (List.replicate l.length 0)).toArray 3)).alloc (.cells #[.slice (some (Tw s 0)) l.length l.length] 72)).alloc (.cells #[Tu 0,Tu 0] 179)).alloc (.cells #[.slice none 0 0] 180)).alloc (.cells #[.func (.func 87) #[] #[.pointer (some ⟨s+1+1+1,0,none⟩),.pointer (some ⟨s+1+1,0,none⟩)]] 110)).alloc (.cells #[.slice ao l.length cap] 23)).heap.size=s+1+1+1+1+1+1:=by
 subst I;have u:aX (l.drop (l.length-0))=([],⟨0,0⟩,[]):=by rw[S4 (by omega)];rfl
 have G:F1 l (l.length-0)=List.replicate l.length 0:=by unfold F1;rw[u];simp
 refine⟨⟨?_,?_,?_,⟨?_,.slice none 0 0,?_,?_,λk H=>by cases H⟩,?_,?_⟩,?_⟩
 ·refine(((((VL ?_ ?_ _).alloc ?_ _).alloc ?_ _).alloc ?_ _).alloc ?_ _).alloc ?_ _
  ·exact gt _ _
  all_goals first|exact ge _|(simp only[RT];omega)
 ·rw[G];exact aI (aI (aI (aI (aI (ak _ _) _) _) _) _) _
 ·have:=ak (w.alloc (.cells (ni (List.replicate l.length 0)).toArray 3)) (.cells #[.slice (some ⟨w.heap.size,0,none⟩) l.length l.length] 72);rw[RT]at this;exact aI (aI (aI (aI this _) _) _) _
 ·rw[u];have:=ak ((w.alloc (.cells (ni (List.replicate l.length 0)).toArray 3)).alloc (.cells #[.slice (some ⟨w.heap.size,0,none⟩) l.length l.length] 72)) (.cells #[Tu 0,Tu 0] 179);rw[RT,RT]at this;exact aI (aI (aI this _) _) _
 ·have:=ak (((w.alloc (.cells (ni (List.replicate l.length 0)).toArray 3)).alloc (.cells #[.slice (some ⟨w.heap.size,0,none⟩) l.length l.length] 72)).alloc (.cells #[Tu 0,Tu 0] 179)) (.cells #[.slice none 0 0] 180);rw[RT,RT,RT]at this;exact aI (aI this _) _
 ·rw[u];exact SU _ _ _ _
 ·have:=ak ((((w.alloc (.cells (ni (List.replicate l.length 0)).toArray 3)).alloc (.cells #[.slice (some ⟨w.heap.size,0,none⟩) l.length l.length] 72)).alloc (.cells #[Tu 0,Tu 0] 179)).alloc (.cells #[.slice none 0 0] 180)) (.cells #[.func (.func 87) #[] #[.pointer (some ⟨w.heap.size+1+1+1,0,none⟩),.pointer (some ⟨w.heap.size+1+1,0,none⟩)]] 110);rw[RT,RT,RT,RT]at this;exact aI this _
 ·have:=ak (((((w.alloc (.cells (ni (List.replicate l.length 0)).toArray 3)).alloc (.cells #[.slice (some ⟨w.heap.size,0,none⟩) l.length l.length] 72)).alloc (.cells #[Tu 0,Tu 0] 179)).alloc (.cells #[.slice none 0 0] 180)).alloc (.cells #[.func (.func 87) #[] #[.pointer (some ⟨w.heap.size+1+1+1,0,none⟩),.pointer (some ⟨w.heap.size+1+1,0,none⟩)]] 110)) (.cells #[.slice ao l.length cap] 23);rw[RT,RT,RT,RT,RT]at this;exact this
 ·simp only[RT]
def wI:∀(l:List Dc) (o:Int) (j:Nat),0<=o->bQ o j l=none->∀i,∃u,0<=u/\bQ u (j+i) (l.drop i)=none
 |l,o,j,ho,h,0=>⟨o,ho,by simpa using h⟩
 |[],o,j,ho,h,i+1=>⟨0,TH _,by simp[bQ]⟩
 |d :: r,o,j,ho,h,i+1=>by
  simp only[bQ]at h
  split at h
  ·rename_i hc
   obtain⟨u,G,H⟩:=wI r _ _ hc.2 h i;refine⟨u,G,?_⟩;rw[show j+(i+1)=j+1+i by omega];exact H
  ·cases h
def AD:∀l,(aX l).2.2.length<=l.length
 |[]=>by simp[aX]
 |d :: r=>by
  have:=AD r;show(bL d (aX r).2).2.2.length<=r.length+1;unfold bL
  repeat' split
  all_goals simp
  all_goals omega
def yC {w':World}(h:Se w w'):w.grownBy w' none:=⟨h.os,h.tape,h.output,h.size,λk u _=>h.block k u⟩
def NI.below {s:Nat}(h:NI w l ao cap s j W) (G:s<=w.heap.size) (u:Below W.heap.size W W'):NI w l ao cap s j W':=h.own G (yC u) (λr e=>by cases e)
def NA (l:List Nat) (i x:Nat):(ni l).toArray.setIfInBounds i (Tu x)=(ni (l.set i x)).toArray:=by
 simp[ni,V2]
def NI.next {J:World}{s i:Nat}{d:Dc}(h:NI w l ao cap s j W) (hd:l[i]?=some d) (hj:l.length-j=i+1) (G:l.length-(j+1)=i)
  (I:TL (s+1+1+1+1+1+1) J (s+1+1) (s+1+1+1) (bL d (aX (l.drop (i+1))).2).2.1 (bL d (aX (l.drop (i+1))).2).2.2) (Y:Bo (s+1+1+1+1+1+1) (s+1+1) (s+1+1+1) W J) :
  NI w l ao cap s (j+1) (J.setCell ⟨s,i,none⟩ (Tu (bL d (aX (l.drop (i+1))).2).1)):=by
 have u:=Y.1
 have H:∀k,k<s+1+1\/k=s+1+1+1+1\/k=s+1+1+1+1+1->¬Sx (s+1+1+1+1+1+1) (s+1+1) (s+1+1+1) k:=by
  intro k u Z;unfold Sx at Z;omega
 have e:aX (l.drop i)=((bL d (aX (l.drop (i+1))).2).1 :: (aX (l.drop (i+1))).1,(bL d (aX (l.drop (i+1))).2).2):=by
  obtain⟨O,Q⟩:=RY.1 hd;rw[Sz O,Q];rfl
 have ks:=Kp.set J s i (Tu ((bL d (aX (l.drop (i+1))).2).1:Nat));have r0:=u.blk h.row (H s (by omega));obtain⟨v,t1,t2,M⟩:=I.ha;refine⟨?_,?_,?_,⟨?_,v,?_,?_,M⟩,?_,?_⟩
 ·exact U8 ⟨u.os.trans h.bel.os,u.tape.trans h.bel.tape,u.output.trans h.bel.output,PI h.bel.size u.size,λk I=>(u.block k (by have:=ai h.row;omega) (H k (by omega))).trans (h.bel.block k I)⟩ (p:=(Tw s i)) (ge _) _
 ·rw[G,<-Kx l i d hd,<-NA,<-hj];exact ag r0 i _
 ·exact az (u.blk h.box (H _ (by omega))) (by omega) _
 ·rw[G,e];exact az I.hb (by omega) _
 ·exact az t1 (by omega) _
 ·rw[G,e];exact ks.row t2 (λk S e2=>by have:=(M k S).1;omega)
 ·exact az (u.blk h.fn (H _ (by omega))) (by omega) _
 ·exact az (u.blk h.bn (H _ (by omega))) (by omega) _
def CN (ao:Option Addr) (l:List Dc) (cap:Nat) (w:World) (hL:Lay w ao l) (hT:gj w) (hn:l.length<=100000000) (hf:bQ 0 0 l=none) :
  Sa 18 #[.slice ao l.length cap] w λe w'=>Uk e (.slice (some ⟨w.heap.size,0,none⟩) l.length l.length)/\w'.heap[w.heap.size]?=some (.cells (ni (aX l).1).toArray 3 (0,0))/\Below w.heap.size w w':=by
 refine(Up (n:=9)).1 ?_;refine callsIn_of_wp_marks func18 rfl trivial ?_ rfl;simp only[ntmps18,Vd,List.length_cons,List.length_nil,Nat.reduceAdd,Nat.reduceSub,UL,UM,Ve,UV,SI,R7];have ap:=Pp l.length hn;gi_wp2;refine⟨trivial,?_⟩;refine(Up.2 (xO _)).mono ?_;rintro e H⟨rfl,rfl⟩;gi_wp2;refine⟨trivial,?_⟩;refine(Up.2 (ub _ _ _ _)).mono ?_;rintro e H⟨rfl,rfl⟩;gi_wp2;obtain⟨s,hs⟩:=ea w.heap.size;rw[hs];obtain⟨W0,hW0⟩:=ea ((((((w.alloc (.cells (ni (List.replicate l.length 0)).toArray 3)).alloc (.cells #[.slice (some (Tw s 0)) l.length l.length] 72)).alloc (.cells #[Tu 0,Tu 0] 179)).alloc (.cells #[.slice none 0 0] 180)).alloc (.cells #[.func (.func 87) #[] #[.pointer (some ⟨s+1+1+1,0,none⟩),.pointer (some ⟨s+1+1,0,none⟩)]] 110)).alloc (.cells #[.slice ao l.length cap] 23))
 have h0:NI w l ao cap s 0 W0/\W0.heap.size=s+1+1+1+1+1+1:=by
  rw[<-hW0];exact FY w l ao cap s hs
 rw[hW0];clear hW0;have hsz:=h0.2
 refine BM rfl (by omega) (gf:=90) (lb:=#[.pointer (some ⟨s+1+1+1+1+1,0,none⟩)]) rfl trivial (enters_of func90 (by kernel_rfl) rfl) (qt 8 (by omega) (s+1+1+1+1+1) ao l cap (by omega)) (λj=>rfl) (λj W=>NI w l ao cap s j W)
  (λj A B row h hg hr=>h.own (by omega) hg (λr e=>⟨by have:=(hr r e).1;omega,(hr r e).2⟩)) (λj W h=>⟨aa h.bn rfl,hL.below (by rw[hs];exact h.bel)⟩) h0.1
  (λj a' W=>∃S,W.heap[S]?=some (.cells (l.getD (l.length-1-j) zD).cs.toArray 37 (0,0))/\a'={ tmps:=#[.slice ao l.length cap,undef,.slice none 0 0,.pointer (some ⟨s+1,0,none⟩),.pointer (some ⟨s+1+1+1+1,0,none⟩),Tu ((l.length-1-j:Nat):Int),.pointer (some (Tw S 0)),.slice ao l.length cap,Tu (l.length:Int),.slice (some (Tw s 0)) l.length l.length,.func (.func 87) #[] #[.pointer (some ⟨s+1+1+1,0,none⟩),.pointer (some ⟨s+1+1,0,none⟩)],.slice ao l.length cap,.func (.func 90) #[] #[.pointer (some ⟨s+1+1+1+1+1,0,none⟩)],Tu ((l.length-1-j:Nat):Int),(l.getD (l.length-1-j) zD).v,undef,undef,undef,undef,undef,undef,undef],defers:=[] })
  (λj a' u A B row h hg hr=>by obtain⟨S,h1,h2⟩:=h;exact⟨S,cL hg (λr e=>(hr r e).2) h1,h2⟩) ?assign ?body ?done
 case assign=>
  intro lp j W K hj J hK;dsimp only[Qm,Dc.v];gi_wp2;exact hK _ _ ((KeepsOthers.alloc _ _).from _) (J.below (by omega) ((gt _ _).alloc (ge _) _)) ⟨W.heap.size,ak _ _,rfl⟩
 case body=>
  rintro lp j a' W hj J⟨S,I,rfl⟩;obtain⟨i,hie⟩:=ea (l.length-1-j);have af:i<l.length:=by omega
  obtain⟨d,hd⟩:∃d,l[i]?=some d:=⟨_,Pi af⟩;have ae:l.getD i zD=d:=by rw[UK,hd];rfl
  rw[hie,ae]at I ⊢;have Z:l.length-j=i+1:=by omega
  have ag:l.length-(j+1)=i:=by omega
  have ah:rt d=true:=jW l 0 0 hf d (SF hd);have G:=J.below (by omega) (gt _ W).drew;have ac:=G.tl;rw[Z]at ac;obtain⟨b1,b2,b3⟩:=oY (l.drop (i+1))
  have h6:d.k=6->(aX (l.drop (i+1))).2.2≠[]:=by
   intro hk;obtain⟨o,ho,O⟩:=wI l 0 0 (TH _) hf i;obtain⟨a1,a2⟩:=RY.1 hd;rw[Sz a1,a2]at O;simp only[bQ]at O
   split at O
   ·rename_i hc
    have:=vZ _ _ _ hc.2 O;intro am;rw[am,hk]at this;have e6:cq 6=1:=rfl;rw[e6]at this;simp at this;omega
   ·cases O
  have ar:=ai J.bn
  have ad:Hid (Sa 87 #[.agg #[.int .u8 d.k,.string d.t,Tu d.b,Tu d.i,.bool d.e],.pointer (some ⟨s+1+1+1,0,none⟩),.pointer (some ⟨s+1+1,0,none⟩)] W.drew λe w'=>TA (s+1+1+1+1+1+1) W.drew (s+1+1) (s+1+1+1) (bL d (aX (l.drop (i+1))).2) e w'):=
   cI ac b2 b3 (by show _<=W.heap.size;omega) (λW' M=>hT.below ⟨M.os.trans G.bel.os,M.tape.trans G.bel.tape,M.output.trans G.bel.output,PI G.bel.size M.size,λk h1=>(M.block k (R4 h1 G.bel.size) (λhS=>by unfold Sx at hS;omega)).trans (G.bel.block k (by omega))⟩) (by have:=AD (l.drop (i+1));simp at this;omega) d ah h6
  have HN:Hid (∀H,TL (s+1+1+1+1+1+1) H (s+1+1) (s+1+1+1) (bL d (aX (l.drop (i+1))).2).2.1 (bL d (aX (l.drop (i+1))).2).2.2->Bo (s+1+1+1+1+1+1) (s+1+1) (s+1+1+1) W.drew H->NI w l ao cap s (j+1) (H.setCell ⟨s,i,none⟩ (Tu (bL d (aX (l.drop (i+1))).2).1))/\∀B,KeepsFrom B W (H.setCell ⟨s,i,none⟩ (Tu (bL d (aX (l.drop (i+1))).2).1))):=
   λH t1 Y=>⟨G.next hd Z ag t1 Y,λB=>(((KeepsOthers.drew _).trans Y.2).trans (KeepsOthers.setCell _ _ _)).from B⟩
  have ab:=J.row;rw[Z]at ab;obtain⟨zc,al⟩:∃v,(ni (F1 l (i+1))).toArray[i]?=some v:=⟨_,Tx (by simp[NB,Ky l (i+1) (by omega)];omega)⟩
  have HR:Hid (∀H,Bo (s+1+1+1+1+1+1) (s+1+1) (s+1+1+1) W.drew H->H.cell? (Tw s i)=some zc/\H.frozen? (Tw s i)=false/\H.cell? ⟨s+1,0,none⟩=some (.slice (some (Tw s 0)) l.length l.length)):=by
   intro H Y;have r1:H.heap[s]?=_:=Y.1.blk (w:=W.drew) ab (λhS=>by unfold Sx at hS;omega);have r2:H.heap[s+1]?=_:=Y.1.blk (w:=W.drew) J.box (λhS=>by unfold Sx at hS;omega);exact⟨aa r1 al,aj r1,aa r2 rfl⟩
  have c1:=aa (k:=0) J.box rfl;have c2:=aa (k:=0) J.fn rfl;have x0:W.cell? (Tw S 0)=some (.int .u8 d.k):=aa I rfl;have x1:W.cell? (Tw S 1)=some (.string d.t):=aa I rfl;have x2:W.cell? (Tw S 2)=some (Tu d.b):=aa I rfl;have x3:W.cell? (Tw S 3)=some (Tu d.i):=aa I rfl;have x4:W.cell? (Tw S 4)=some (.bool d.e):=aa I rfl;have q1:(i:Int)<l.length:=by omega
  have q2:(0:Int)<=i:=by omega
  have q3:i<l.length:=af;clear ac b1 b2 b3 h6 ab al G J I ae hd hie ah Z ag hj;dsimp only[Dc.v];generalize(bL d (aX (l.drop (i+1))).2)=T at *;have aq:Tryz.prog.follows .mixedOrders=true:=by kernel_rfl
  gi_wp2
  gi_region_with_o (refine⟨trivial,?_⟩;gi_at_call 87;refine(CallsIn.inRound lp (Up.2 ad.out)).mono ?_;rintro e H⟨rfl,t1,Y⟩;obtain⟨y1,y2,y3⟩:=HR.out _ Y)
  all_goals gi_wp2
  all_goals(try go_bits)
  all_goals exact⟨(HN.out _ t1 Y).2 _,(HN.out _ t1 Y).1⟩
 case done=>
  intro D W hD J hK;have Q:=J.row;rw[show l.length-l.length=0 by omega]at Q;have e0:F1 l 0=(aX l).1:=by simp[F1]
  rw[e0]at Q;have c1:=aa (k:=0) J.box rfl;gi_wp2;have an:D≠s:=by omega
  refine⟨by simp,.inl ⟨_,_,rfl,run_takeDeferred hK,?_⟩⟩;refine⟨.slice (some (Tw s 0)) l.length l.length,by simp[results,Tryz.f18,go_sem],by rw[hs],?_,?_⟩
  ·rw[hs];exact(World.putObj_heap_other an.symm).trans Q
  ·rw[hs];exact J.bel.trans (belowK_b (w:=w) (by omega) W D _ _ (by omega) hK rfl rfl)
def pR:Dc:=⟨6,bE,0,0,false⟩
def Bq (d:Dc):decide ((ka [pR,d]).2≠1)=rt d:=by
 have I:rt pR=true:=by decide +kernel
 have hd:0<=1+cq d.k:=by unfold cq;split;omega;split<;>omega
 have H:bQ 0 0 [pR,d]=if rt d=true/\0<=1+cq d.k then bQ (1+cq d.k) 2 []else some 1:=by
  have:bQ 0 0 [pR,d]=if rt pR=true/\0<=0+cq pR.k then bQ (0+cq pR.k) 1 [d]else some 0:=rfl
  rw[this,Or ⟨I,by decide⟩];rfl
 have u:(ka [pR,d]).2=1↔rt d=false:=by
  rw[show ka [pR,d]=LD (bQ 0 0 [pR,d])from If (by simp),H];cases G:rt d with
  |false=>rw[Eq (by simp)];simp[LD]
  |true=>
   rw[Or ⟨rfl,hd⟩];have:bQ (1+cq d.k) 2 []=if 0<1+cq d.k then some 2 else none:=rfl
   rw[this]
   by_cases h:0<1+cq d.k
   ·rw[Or h];simp[LD]
   ·rw[Eq h];simp[LD]
 cases G:rt d with
 |false=>exact R9 (λh=>h (u.2 G))
 |true=>exact R8 (λh=>by rw[u.1 h]at G;cases G)
def AN (w:World) (b:Nat) (d:Dc) (ht:d.t.size<=9223372036854775807) (h:w.heap[b]?=some (.cells #[.int .u8 6,.string ⟨#[]⟩,Tu 0,Tu 0,.bool false,.int .u8 d.k,.string d.t,Tu d.b,Tu d.i,.bool d.e] 37 (0,0))):Lay w (some (Tw b 0)) [pR,d]:=by
 intro j x u
 match j,u with
 |0,u=>cases u;exact⟨RU _,b,0,rfl,aa h rfl,aa h rfl,aa h rfl,aa h rfl,aa h rfl⟩
 |1,u=>cases u;exact⟨ht,b,0,rfl,aa h rfl,aa h rfl,aa h rfl,aa h rfl,aa h rfl⟩
 |j+2,u=>simp at u
def xE (d:Dc) (ht:d.t.size<=9223372036854775807) (w:World):Sa 38 #[d.v] w λe w'=>Uk e (.bool (rt d))/\Below w.heap.size w w':=by
 have HC:=aW λW b (h:W.heap[b]?=some (.cells #[.int .u8 6,.string ⟨#[]⟩,Tu 0,Tu 0,.bool false,.int .u8 d.k,.string d.t,Tu d.b,Tu d.i,.bool d.e] 37 (0,0)))=>rB _ [pR,d] 2 W (AN W b d ht h) (by simp)
 have e:=Bq d;rw[<-e];have hb:=Ig [pR,d];generalize(ka [pR,d]).1=k1 at *;generalize(ka [pR,d]).2=k2 at *;clear e ht;obtain⟨Z,dt,Q,Y,S⟩:=d;dsimp only[Dc.v]at *;have M:(w.alloc (.cells #[.int .u8 Z,.string dt,Tu Q,Tu Y,.bool S] 37)).heap.size=w.heap.size+1:=RT _ _;have I:∀u G H,Below ((w.alloc u).alloc G).heap.size ((w.alloc u).alloc G) H->Below w.heap.size w H:=λu G H h=>(((gt _ w).alloc (ge _) u).alloc (by rw[RT];omega) G).trans (h.mono (by rw[RT,RT];omega))
 have O:=aW I;clear I;go_enter func38,ntmps38
 go_wp2_with(go_at_call 54;refine(HC.out _ _ (by rw[<-M];exact ak _ _)).mono ?_;rintro e H⟨rfl,J⟩)
 go_ret;exact⟨by simp[bne,Ub],O.out _ _ _ J⟩
def qU (ao:Option Addr) (l:List Dc) (cap:Nat) (w:World) (hL:Lay w ao l) (hn:l.length<=9223372036854775807) :
  Sa 17 #[.slice ao l.length cap] w λe w'=>Uk e (.bool (decide (bQ 0 0 l=none)))/\Below w.heap.size w w':=by
 obtain⟨R,hR⟩:=ea (bQ 0 0 l);have aa:=aW hR;rw[hR];clear hR;have HL:=aW hL;clear hL;go_enter func17,ntmps17;(go_wp2_with fail)
 go_loopw [3,8] (λo j wr=>∃(k:Nat) (z:Int),k<=l.length/\o=Tu z/\j=Tu k/\0<=z/\z<=k/\Hid (bQ z k (l.drop k)=R/\Below w.heap.size w wr)) (λ_ j _=>l.length-(intOf j).toNat)
 case atStart=>exact⟨0,0,by omega,rfl,rfl,by omega,by omega,aa.out,gt _ _⟩
 case round=>
  obtain⟨k,z,hk,rfl,rfl,ab,ac,HI⟩:=hrel
  by_cases M:k<l.length
  ·have q1:(k:Int)<l.length:=by omega
   obtain⟨d,hd⟩:∃d,l[k]?=some d:=⟨_,Pi M⟩;obtain⟨ht,b,off,rfl,c0,c1,c2,c3,c4⟩:=(HL.out.below HI.out.2) k d hd
   have HS:Hid ((if rt d=true/\0<=z+cq d.k then bQ (z+cq d.k) (k+1) (l.drop (k+1))else some k)=R):=by
    show _=_;rw[<-kK hd];exact HI.out.1
   have Y:=aW HI.out.2;have O:Hid (∀W,Sa 38 #[d.v] W λx w'=>Uk x (.bool (rt d))/\Se W w'):=λW=>xE d ht W
   clear HI hd;obtain⟨Q,dt,db,di,de⟩:=d;simp only[Dc.v]at O;simp only at c0 c1 c2 c3 c4 HS ht;generalize rt ⟨Q,dt,db,di,de⟩=r at *;have I:Hid (r=true->0<=z+cq Q->bQ (z+cq Q) (k+1) (l.drop (k+1))=R):=λh1 h2=>by rw[<-HS.out,Or ⟨h1,h2⟩]
   have H:Hid (¬(r=true/\0<=z+cq Q)->decide (R=none)=false):=λh=>by rw[<-HS.out,Eq h];rfl
   clear HS
   have S:Hid (∀W J,W=wr.alloc (.cells #[.int .u8 Q,.string dt,Tu db,Tu di,.bool de] 37)->Se W J->Se w J):=λW J hW h=>by
    subst hW;exact(Y.out.alloc Y.out.size _).trans (h.mono (by rw[RT];have:=Y.out.size;omega))
   by_cases k6:Q=6
   ·subst k6;have Z:z+cq 6=z+1:=rfl;rw[Z]at I H;cases r
    ·have G:=aW (H.out (by simp));clear I H
     go_wp2_with(go_at_call 38;refine(O.out _).mono ?_;rintro e J⟨rfl,u⟩)
     all_goals(go_ret;rw[G.out];exact⟨rfl,S.out _ _ rfl u⟩)
    ·have G:=aW (I.out rfl (by omega));clear I H
     go_wp2_with(go_at_call 38;refine(O.out _).mono ?_;rintro e J⟨rfl,u⟩)
     exact⟨⟨k+1,z+1,M,by go_num,by go_num,by omega,by omega,G.out,S.out _ _ rfl u⟩,by simp[intOf];omega⟩
   by_cases k7:Q=7
   ·subst k7;have Z:z+cq 7=z-1:=rfl;rw[Z]at I H
    by_cases hz:0<z
    ·cases r
     ·have G:=aW (H.out (by simp));clear I H
      go_wp2_with(go_at_call 38;refine(O.out _).mono ?_;rintro e J⟨rfl,u⟩)
      all_goals(go_ret;rw[G.out];exact⟨rfl,S.out _ _ rfl u⟩)
     ·have G:=aW (I.out rfl (by omega));clear I H
      go_wp2_with(go_at_call 38;refine(O.out _).mono ?_;rintro e J⟨rfl,u⟩)
      exact⟨⟨k+1,z-1,M,by go_num,by go_num,by omega,by omega,G.out,S.out _ _ rfl u⟩,by simp[intOf];omega⟩
    ·obtain rfl:z=0:=by omega
     have G:=aW (H.out (by omega));clear I H
     go_wp2_with(go_at_call 38;refine(O.out _).mono ?_;rintro e J⟨rfl,u⟩)
     all_goals(go_ret;rw[G.out];exact⟨rfl,S.out _ _ rfl (gt _ _)⟩)
   ·have Z:z+cq Q=z:=by simp[cq,k6,k7]
    rw[Z]at I H;cases r
    ·have G:=aW (H.out (by simp));clear I H
     go_wp2_with(go_at_call 38;refine(O.out _).mono ?_;rintro e J⟨rfl,u⟩)
     all_goals(go_ret;rw[G.out];exact⟨rfl,S.out _ _ rfl u⟩)
    ·have G:=aW (I.out rfl (by omega));clear I H
     go_wp2_with(go_at_call 38;refine(O.out _).mono ?_;rintro e J⟨rfl,u⟩)
     exact⟨⟨k+1,z,M,by go_num,by go_num,by omega,by omega,G.out,S.out _ _ rfl u⟩,by simp[intOf];omega⟩
  ·obtain rfl:k=l.length:=by omega
   have q1:¬((l.length:Int)<l.length):=by omega
   have he:=HI.out.1;rw[AW (ge _)]at he;have Y:=aW HI.out.2
   have G:Hid (decide (R=none)=(z==0)):=by
    show _=_;rw[<-he]
    by_cases hz:0<z
    ·rw[Or hz];have:¬z=0:=by omega
     simp[this]
    ·obtain rfl:z=0:=by omega
     rfl
   clear HI he;(go_wp2_with fail);go_ret;rw[G.out];exact⟨rfl,Y.out⟩
def Fy {w2 G:World}{gs n:Nat}(Z:gj w2) (Y:Ae (λ_=>0) 1 w2 G gs MX):∃own,PS w2.heap.size w2 own (G.alloc (.cells (Kf n gs ⟨0,false,false⟩ (.slice none 0 0) false) 79)) G.heap.size gs n pV:=by
 obtain⟨u,O,J,S⟩:=Y;have H:Below G.heap.size G (G.alloc (.cells (Kf n gs ⟨0,false,false⟩ (.slice none 0 0) false) 79)):=(gt _ _).alloc (ge _) _;have M:=J.size;have Q:Fr 2 u (λk=>if k=G.heap.size then 2 else u k) G (G.alloc (.cells (Kf n gs ⟨0,false,false⟩ (.slice none 0 0) false) 79)):=⟨H.os,H.tape,H.output,H.size,λk I _=>H.block k I,λk I=>Eq (by omega)⟩;refine⟨λk=>if k=G.heap.size then 2 else u k,O.fr (by omega) ?_ Q,?_,?_,ge _,S.kept Q (by omega),⟨.slice none 0 0,ak _ _,SU _ _ _ _,λk h=>by cases h⟩,Or rfl⟩
 ·intro k I;rw[RT]at I;show(if k=G.heap.size then 2 else u k)=0;rw[Eq (by omega)];exact O.nf k (by omega)
 ·intro k I;show(if k=G.heap.size then 2 else u k)=0;rw[Eq (by omega)];exact J.old k I
 ·exact(J.below (ge _) (λ_ _=>rfl) (by omega)).trans (H.mono M)
def FB (n:Nat) (av:1<=n) (aq:n<=4096) (ao:Option Addr) (l:List Dc) (cap:Nat) (w:World) (hL:Lay w ao l) (hT:gj w) (ah:l.length<=100000000) (hU:fF l<=2147483647) (Y:bQ 0 0 l=none) :
  Sa 7 #[Tu n,.slice ao l.length cap] w λe w'=>Uk e (.tuple #[.string ⟨(lq n l).toArray⟩,Tu 0])/\Below w.heap.size w w':=by
 have Q:=jW l 0 0 Y;have q0:¬((n:Int)<1):=by omega
 have q1:¬((4096:Int)<n):=by omega
 have HM:Hid (Sa 17 #[.slice ao l.length cap] w λe w'=>Uk e (.bool true)/\Below w.heap.size w w'):=by
  have:=qU ao l cap w hL (by omega);rw[Y]at this;exact this
 have HN:=aW λW (hW:Below w.heap.size w W)=>CN ao l cap W (hL.below hW) (hT.below hW) ah Y
 have HS:=aW λW (hW:Below w.heap.size w W)=>ND _ 1 W ⟨λ_ _=>rfl,hT.below hW,rfl⟩ (by omega)
 have HL:Hid (Lay w ao l/\gj w):=⟨hL,hT⟩;clear hL hT;go_enter func7,ntmps7;(go_wp2_with fail);refine HM.out.mono ?_;rintro e w1⟨rfl,M⟩;(go_wp2_with fail);refine(HN.out w1 M).mono ?_;rintro e w2⟨rfl,O,ad⟩;have I:=aW (M.trans (ad.mono M.size));obtain⟨nb,H⟩:=ea w1.heap.size;rw[H]at O ⊢;have J:=aW O;clear O ad M H HM HN;(go_wp2_with fail);refine(HS.out w2 I.out).mono ?_;rintro e w3⟨rfl,ha⟩;obtain⟨own0,hp0⟩:=Fy (n:=n) (HL.out.2.below I.out) ha;have ab:Hid (∃own,PS w2.heap.size w2 own (w3.alloc (.cells (Kf n w2.heap.size ⟨0,false,false⟩ (.slice none 0 0) false) 79)) w3.heap.size w2.heap.size n pV):=⟨own0,hp0⟩;obtain⟨gs,hgs⟩:=ea w2.heap.size;obtain⟨g,hg⟩:=ea w3.heap.size;rw[hgs,hg]at ab;clear ha hp0 HS;(go_wp2_with fail);have au:gs<=w2.heap.size:=by omega
 go_loopw [26] (λi wr=>∃(k:Nat),k<=l.length/\i=Tu k/\Hid (∃own,PS gs w2 own wr g gs n (fP n l k))) (λi _=>l.length-(intOf i).toNat)
 case atStart=>exact⟨0,RU _,rfl,ab.out⟩
 case round=>
  obtain⟨k,hk,rfl,HI⟩:=hrel
  by_cases ae:k<l.length
  ·have q2:(k:Int)<l.length:=by omega
   have q3:(0:Int)<=k:=by omega
   obtain⟨d,hd⟩:∃d,l[k]?=some d:=⟨_,Pi ae⟩;obtain⟨own,u⟩:=HI.out;have ac:Lay wr ao l:=(HL.out.1.below I.out).below (by rw[hgs];exact u.bel);obtain⟨ht,b,off,rfl,c0,c1,c2,c3,c4⟩:=ac k d hd;obtain⟨m,hm,hm4,hpe⟩:=ip (n:=n) hd;have af:=Q d (SF hd);obtain⟨o,ho0,ho1,ho2,_⟩:=iq (n:=n) Y k hk;have H:wr.heap[nb]?=some (.cells (ni (aX l).1).toArray 3 (0,0)):=(u.bel.block nb (by have:=ai J.out;omega)).trans J.out;obtain⟨b1,b2,b3,b4,b5⟩:=u.box (.cells #[.int .u8 d.k,.string d.t,Tu d.b,Tu d.i,.bool d.e] 37);obtain⟨W1,hW1⟩:=ea (wr.alloc (.cells #[.int .u8 d.k,.string d.t,Tu d.b,Tu d.i,.bool d.e] 37));rw[hW1]at b1 b2 b4 b5
   have G:∀V:World,W1.heap.size<=V.heap.size->V.heap[wr.heap.size]?=W1.heap[wr.heap.size]?->V.heap[nb]?=W1.heap[nb]?->(V.cell? ⟨wr.heap.size,0,none⟩=some (.int .u8 d.k)/\V.cell? ⟨wr.heap.size,1,none⟩=some (.string d.t)/\V.cell? ⟨wr.heap.size,2,none⟩=some (Tu d.b)/\V.cell? ⟨wr.heap.size,3,none⟩=some (Tu d.i)/\V.cell? ⟨wr.heap.size,4,none⟩=some (.bool d.e)/\V.cell? (Tw nb k)=some (Tu m)):=by
    intro V _ e1 e2;have S:=e1.trans b2;have a2:V.heap[nb]?=some (.cells (ni (aX l).1).toArray 3 (0,0)):=e2.trans (by rw[<-hW1];exact aI H _);exact⟨aa S rfl,aa S rfl,aa S rfl,aa S rfl,aa S rfl,aa a2 (by simp[ni,hm])⟩
   have ag:Hid (∀V,V=W1.drew->Sa 20 #[.pointer (some (Tw g 0)),.agg #[.int .u8 d.k,.string d.t,Tu d.b,Tu d.i,.bool d.e],Tu m] V λe w'=>Uk e (.tuple #[])/\Hid (∃own,PS gs w2 own w' g gs n (fP n l (k+1)))/\(w'.cell? ⟨wr.heap.size,0,none⟩=some (.int .u8 d.k)/\w'.cell? ⟨wr.heap.size,1,none⟩=some (.string d.t)/\w'.cell? ⟨wr.heap.size,2,none⟩=some (Tu d.b)/\w'.cell? ⟨wr.heap.size,3,none⟩=some (Tu d.i)/\w'.cell? ⟨wr.heap.size,4,none⟩=some (.bool d.e)/\w'.cell? (Tw nb k)=some (Tu m))):=by
    intro V hV;subst hV;have ap:=b1.below (gt _ W1).drew;have:=J6 ap (Fw Q k) (by omega) m (by omega) aq (by omega) d af (jd Y hd);refine this.mono ?_;rintro e w'⟨rfl,own',Z,p2,p3⟩;rw[<-hpe]at Z;have x1:=p2 wr.heap.size (ai b2) b3;have aw:nb<W1.heap.size:=by have:=ai H;have:=b5;omega
    have x2:w'.heap[nb]?=W1.heap[nb]?:=(Z.bel.block nb (by have:=ai J.out;omega)).trans (b1.bel.block nb (by have:=ai J.out;omega)).symm;exact⟨rfl,⟨own',Z⟩,G w' p3 x1.1 x2⟩
   have aj:=aW (G W1 (ge _) rfl rfl);have al:=aW hW1;clear HI u ac hpe af ho0 ho1 ho2 H b1 b2 b3 b4 b5 hW1 G hd hm;(go_wp2_with fail);rw[al.out]
   go_region_held3 (λw'=>w'.cell? ⟨wr.heap.size,0,none⟩=some (.int .u8 d.k)/\w'.cell? ⟨wr.heap.size,1,none⟩=some (.string d.t)/\w'.cell? ⟨wr.heap.size,2,none⟩=some (Tu d.b)/\w'.cell? ⟨wr.heap.size,3,none⟩=some (Tu d.i)/\w'.cell? ⟨wr.heap.size,4,none⟩=some (.bool d.e)/\w'.cell? (Tw nb k)=some (Tu m)) (first|assumption|(exact aj.out)|go_keep) (first|(go_at_call 20;refine(ag.out _ rfl).mono ?_;rintro e w4⟨rfl,ak,ar⟩))
   all_goals(
    (go_wp2_with fail);exact⟨⟨k+1,ae,by go_num,ak.out⟩,by simp[intOf];omega⟩)
  ·obtain rfl:k=l.length:=by omega
   have q2:¬((l.length:Int)<l.length):=by omega
   obtain⟨own,u⟩:=HI.out;have c1:=u.c1
   have HT:Hid (Sa 21 #[.pointer (some (Tw gs 0))] wr λe w'=>Uk e (.string ⟨(lq n l).toArray⟩)/\Below w.heap.size w w'):=by
    have an:=Fw (n:=n) Q l.length;refine(zE u.sk u.en (by omega) (by have:=an.out;omega)).mono ?_;rintro e w'⟨rfl,ha⟩;obtain⟨own',Z,_⟩:=u.sink ha;rw[sD];refine⟨rfl,I.out.trans ?_⟩;have:=Z.bel;exact this.mono (by have:=I.out.size;omega)
   clear HI u
   go_wp2_with(go_at_call 21;refine HT.out.mono ?_;rintro e w5⟨rfl,am⟩)
   go_ret2;exact⟨rfl,am⟩
def je (n:Int) (ao:Option Addr) (l:List Dc) (cap:Nat) (w:World) (G:Lay w ao l) (I:gj w) (H:l.length<=100000000) (Y:fF l<=2147483647) :
  Sa 7 #[Tu n,.slice ao l.length cap] w λe w'=>Uk e (.tuple #[.string (mQ n l).1,Tu (mQ n l).2])/\Se w w':=by
 by_cases u:n<1\/4096<n
 ·have e:mQ n l=(⟨#[]⟩,1):=Or u;rw[e]
  by_cases Q:n<1
  ·have q:decide (n<1)=true:=by simp;omega
   clear u G I;go_enter func7,ntmps7;(go_wp2_with fail);go_ret2;exact⟨rfl,gt _ _⟩
  ·have S:4096<n:=by omega
   clear u G I;go_enter func7,ntmps7;(go_wp2_with fail);go_ret2;exact⟨rfl,gt _ _⟩
 ·by_cases J:bQ 0 0 l=none
  ·have e:mQ n l=(⟨(lq n.toNat l).toArray⟩,0):=by unfold mQ;rw[Eq u,Eq (by simp[J])]
   rw[e];have:=FB n.toNat (by omega) (by omega) ao l cap w G I H Y J;rw[show((n.toNat:Nat):Int)=n by omega]at this;exact this
  ·have e:mQ n l=(⟨#[]⟩,70):=by unfold mQ;rw[Eq u,Or J]
   rw[e];have Q:¬n<1:=by omega
   have S:¬4096<n:=by omega
   have O:=qU ao l cap w G (by omega);rw[R9 J]at O;clear u G I;go_enter func7,ntmps7
   go_wp2_with(go_at_call 17;refine O.mono ?_;rintro e Z⟨rfl,M⟩)
   go_ret2;exact⟨rfl,M⟩
