import Derived.RangeFuncOwn
import Derived.Test.YtpdlohfdjiaegaaGreatDoorM37
set_option linter.unusedVariables false
set_option linter.unusedSimpArgs false
set_option maxHeartbeats 2000000
namespace Go.Proofs.YtpdlohfdjiaegaaGreatDoor
open Go.RowKit
def Ls (W:World) (ao:Option Addr) (l:List ByteArray):Prop:=∀j s,l[j]?=some s->∃b off,ao=some ⟨b,off,none⟩/\W.cell? ⟨b,off+j,none⟩=some (.string s)
theorem Ls.kp {S:Nat->Prop}{w w':World}{ao:Option Addr}{l:List ByteArray}(h:Ls w ao l) (hb:Kp S w w') (hS:∀a,ao=some a->¬S a.block):Ls w' ao l:=by
 intro j a ha;obtain ⟨b,off,h1,c0⟩:=h j a ha;have hlt:=World.block_lt_of_cell? _ _ c0;have e:w'.heap[b]?=w.heap[b]?:=hb.block b hlt (hS _ h1);exact ⟨b,off,h1,(World.cell?_of_block (a:=⟨b,_,none⟩) e).trans c0⟩
theorem Ls.below {w w':World}{ao:Option Addr}{l:List ByteArray}(h:Ls w ao l) (hb:Below w.heap.size w w'):Ls w' ao l:=h.kp (Kp.of_below (S:=fun _=>False) hb) (fun _ _ h=>h)
theorem vR (l:List ByteArray) (s x:ByteArray) (k:Nat) (hk:l[k]?=some x) (h:has (l.take k) s=false):has (l.take (k+1)) s=(s.toList == x.toList):=by
 rw [Br];unfold has at h ⊢;rw [List.take_add_one,hk,List.any_append,h];simp
theorem vQ (l:List ByteArray) (s:ByteArray) (k:Nat) (h:has (l.take k) s=true):has l s=true:=by
 unfold has at h ⊢;simp only [List.any_eq_true] at h ⊢;obtain ⟨x,hx,e⟩:=h;exact ⟨x,List.mem_of_mem_take hx,e⟩
theorem oT (ao:Option Addr) (l:List ByteArray) (cap:Nat) (s:ByteArray) (W:World) (h:Ls W ao l) (hl:l.length<=1000) :
  Da 218 #[.slice ao l.length cap,.string s] W fun r w'=>(∃z:Int,r=.returned (.int .i64 z)/\(decide (0<=z)=has l s))/\w'=W:=by
 have H:Hid (Ls W ao l):=h;clear h
 go_enter Tryz.func218,Tryz.ntmps218
 go_wp2_with fail
 go_loopw [5,8] (fun _ i wr=>∃k:Nat,k<=l.length/\i=.int .i64 k/\Hid (has (l.take k) s=false)/\wr=W) (fun _ i _=>l.length-(intOf i).toNat)
 case atStart=>exact ⟨0,Nat.zero_le _,rfl,by show has _ _=_;simp [has],rfl⟩
 case round=>
  obtain ⟨k,hk,rfl,HI,rfl⟩:=hrel
  by_cases hlt:k<l.length
  ·have q1:(k:Int)<l.length:=by omega
   have q0:(0:Int)<=k:=by omega
   obtain ⟨x,hx⟩:∃x,l[k]?=some x:=⟨_,List.getElem?_eq_getElem hlt⟩;obtain ⟨b,off,rfl,hc⟩:=H.out k x hx;have HS:Hid (has (l.take (k+1)) s=(s.toList == x.toList)):=vR l s x k hx HI.out;have HT:Hid (has (l.take (k+1)) s=true->has l s=true):=vQ l s _;clear hx
   by_cases he:(s.toList == x.toList)=true
   ·go_wp2_with fail
    go_ret
    exact ⟨⟨_,rfl,by rw [HT.out (HS.out.trans he)];simp⟩,rfl⟩
   ·have he':(s.toList == x.toList)=false:=by simpa using he
    clear he
    go_wp2_with fail
    exact ⟨⟨k+1,hlt,by go_num,HS.out.trans he',trivial⟩,by simp [intOf];omega⟩
  ·obtain rfl:k=l.length:=by omega
   have q1:¬((l.length:Int)<l.length):=by omega
   go_wp2_with fail
   go_ret
   refine ⟨⟨_,rfl,?_⟩,rfl⟩;have:=HI.out;rw [List.take_length] at this;rw [this];rfl
theorem ke (ao:Option Addr) (l:List ByteArray) (cap:Nat) (s:ByteArray) (W:World) (h:Ls W ao l) (hl:l.length<=1000) :
  Da 188 #[.slice ao l.length cap,.string s] W fun r w'=>r=.returned (.bool (has l s))/\w'=W:=by
 have H:Hid (Da 218 #[.slice ao l.length cap,.string s] W fun r w'=>(∃z:Int,r=.returned (.int .i64 z)/\(decide (0<=z)=has l s))/\w'=W):=oT ao l cap s W h hl;clear h
 generalize has l s=b at *
 go_enter Tryz.func188,Tryz.ntmps188
 go_wp2_with (go_at_call 218;refine H.out.mono ?_;rintro r w1 ⟨⟨z,rfl,hz⟩,rfl⟩;subst hz)
 go_ret
 exact ⟨by simp,rfl⟩
def dd (b:Bool):Int:=if b then 2 else 0
theorem cA (b:Bool) (W:World):Da 148 #[.bool b] W fun r w'=>r=.returned (.int .i64 (dd b))/\w'=W:=by
 cases b
 ·go_enter Tryz.func148,Tryz.ntmps148
  go_wp2_with fail
  go_ret
  exact ⟨rfl,rfl⟩
 ·go_enter Tryz.func148,Tryz.ntmps148
  go_wp2_with fail
  go_ret
  exact ⟨rfl,rfl⟩
theorem jI (t:Tv) (W:World):Da 96 #[t.v] W fun r w'=>r=.returned (.int .i64 (dd (t.k == 1)))/\Below W.heap.size W w':=by
 dsimp only [Tv.v]
 go_enter Tryz.func96,Tryz.ntmps96
 go_wp2_with (go_at_call 148;refine (cA _ _).mono ?_;rintro r w1 ⟨rfl,rfl⟩)
 go_ret
 exact ⟨rfl,(Below.refl _ _).alloc (Nat.le_refl _) _⟩
theorem gJ (t:Tv) (W:World):Da 262 #[t.v] W fun r w'=>r=.returned (.int .i64 (dd (t.k == 3 || t.k == 4 || t.k == 5)))/\Below W.heap.size W w':=by
 dsimp only [Tv.v]
 by_cases h3:(t.k == 3)=true
 ·rw [h3]
  go_enter Tryz.func262,Tryz.ntmps262
  go_wp2_with (go_at_call 148;refine (cA _ _).mono ?_;rintro r w1 ⟨rfl,rfl⟩)
  go_ret
  exact ⟨rfl,(Below.refl _ _).alloc (Nat.le_refl _) _⟩
 ·have h3':(t.k == 3)=false:=by simpa using h3
  clear h3
  by_cases h4:(t.k == 4)=true
  ·rw [h3',h4]
   go_enter Tryz.func262,Tryz.ntmps262
   go_wp2_with (go_at_call 148;refine (cA _ _).mono ?_;rintro r w1 ⟨rfl,rfl⟩)
   go_ret
   exact ⟨rfl,(Below.refl _ _).alloc (Nat.le_refl _) _⟩
  ·have h4':(t.k == 4)=false:=by simpa using h4
   clear h4;rw [h3',h4']
   go_enter Tryz.func262,Tryz.ntmps262
   go_wp2_with (go_at_call 148;refine (cA _ _).mono ?_;rintro r w1 ⟨rfl,rfl⟩)
   go_ret
   exact ⟨rfl,(Below.refl _ _).alloc (Nat.le_refl _) _⟩
theorem kq (k:Int) (ao:Option Addr) (l:List ByteArray) (cap:Nat) (t:Tv) (W:World) (h:Ls W ao l) (hl:l.length<=1000) :
  Da 147 #[.agg #[.int .u8 k,.slice ao l.length cap],t.v] W fun r w'=>r=.returned (.int .i64 (dd (t.k == k && has l t.t)))/\Below W.heap.size W w':=by
 have H:Hid (∀V,Db W V->Da 188 #[.slice ao l.length cap,.string t.t] V fun r w'=>r=.returned (.bool (has l t.t))/\w'=V):=fun V hb=>ke ao l cap t.t V (h.below hb) hl
 clear h
 dsimp only [Tv.v]
 generalize has l t.t=b at *
 have HA:Hid (Db W ((W.alloc (.cells #[.int .u8 k,.slice ao l.length cap] 208)).alloc (.cells #[.int .u8 t.k,.string t.t,.int .i64 t.a,.int .i64 t.l,.int .i64 t.c,.int .i64 t.f] 37))):=((Below.refl _ _).alloc (Nat.le_refl _) _).alloc (by rw [World.size_alloc];exact Nat.le_succ _) _
 by_cases hk:(t.k == k)=true
 ·rw [hk,Bool.true_and]
  go_enter Tryz.func147,Tryz.ntmps147
  go_wp2_with (first|(go_at_call 188;refine (H.out _ HA.out).mono ?_;rintro r w1 ⟨rfl,rfl⟩)|(go_at_call 148;refine (cA _ _).mono ?_;rintro r w1 ⟨rfl,rfl⟩))
  go_ret
  exact ⟨rfl,HA.out⟩
 ·have hk':(t.k == k)=false:=by simpa using hk
  clear hk;rw [hk',Bool.false_and]
  go_enter Tryz.func147,Tryz.ntmps147
  go_wp2_with (first|(go_at_call 148;refine (cA _ _).mono ?_;rintro r w1 ⟨rfl,rfl⟩))
  go_ret
  exact ⟨rfl,HA.out⟩
abbrev wdV (k:Int) (v:Value):Value:=.func (.func 147) #[.agg #[.int .u8 k,v]] #[]
theorem yF (v:Value) (W:World) (p:Option Addr) (n c:Nat) (hv:v=.slice p n c):Da 95 #[v] W fun r w'=>r=.returned (wdV 2 v)/\w'=W:=by
 subst hv;have hmf:=mkfn
 go_enter Tryz.func95,Tryz.ntmps95
 go_wp2_with fail
 go_ret
 exact ⟨rfl,rfl⟩
theorem ux (v:Value) (W:World) (p:Option Addr) (n c:Nat) (hv:v=.slice p n c):Da 97 #[v] W fun r w'=>r=.returned (wdV 6 v)/\w'=W:=by
 subst hv;have hmf:=mkfn
 go_enter Tryz.func97,Tryz.ntmps97
 go_wp2_with fail
 go_ret
 exact ⟨rfl,rfl⟩
end Go.Proofs.YtpdlohfdjiaegaaGreatDoor
namespace Go.Proofs.YtpdlohfdjiaegaaGreatDoor
open Go.RowKit Go.Shelf
variable {w w' W W':World}{row:Option Nat}
attribute [local go_sem] Oper.semAt_some
def xh (F:Fence) (n:Nat) (P:Program) (gf:Nat) (lb:Array Value) (it:Nat->Array Value) (N:Nat) (G:World->Prop):Prop:=
 ∀(l:Nat) (J:Nat->World->Prop) (W:World),(∀j W,J j W->G W)->AbidesFrom W.heap.size J->(∀j W1,j<N->J j W1->YieldAt F (n-1) P l (it j) W1 fun e W'=>e=.returned (.bool true)/\J (j+1) W')->J 0 W ->
  CallsIn F n P gf (#[.func (.yield l) #[] #[]]++lb) W fun e W'=>(∃v,e=.returned v)/\J N W'
theorem gW {F:Fence}{n:Nat}{P:Program}{g:Operand}{ps:Array Tmp}{assign body:Code}{Q:Exit->Act->World->Prop}{a:Act}(hro:F.round=none) (h1:1<=n) {gf:Nat}{lb:Array Value}(hg:a.eval g=.func (.func gf) #[] lb) (hF:F.fn gf)
  (eg:∀args w,(callFunc gf args).run P w=.ok (.enter gf args) w) {it:Nat->Array Value} {N:Nat} {G:World->Prop} (hit:xh F (n-1) P gf lb it N G) (hps:∀j,(it j).size=ps.size)
  (I:Nat->World->Prop) (hI:OwnFrom w.heap.size I) (hG:∀j W,I j W->G W) (h0:I 0 w) (Ax:Nat->Act->World->Prop) (hAx:∀j a',OwnFrom w.heap.size (fun (_:Unit) W=>Ax j a' W))
  (hassign:∀(l j:Nat) (W:World) (K:Act->World->Prop),j<N->I j W->(∀a' W',KeepsFrom w.heap.size W W'->I j W'->Ax j a' W'->K a' W') ->
   assign.wpIn (F.inRound l) (n-1-1) P (Exit.then K (fun _ _ _=>False)) { tmps:=(ps.zip (it j)).foldl (fun t (p,v)=>t.setIfInBounds p v) a.tmps,defers:=[] } W)
  (hbody:∀(l j:Nat) (a':Act) (W:World),j<N->I j W->Ax j a' W->body.wpIn (F.inRound l) (n-1-1) P (fun e _ W'=>e=.normal/\KeepsFrom w.heap.size W W'/\I (j+1) W') a' W)
  (hdone:∀(D:Nat) (W:World),w.heap.size<=D->I N W->W.heap[D]?=some (.deferred (some []))->Q .normal { a with defers:={ target:=.collected D,args:=#[] } :: a.defers } W) :
  (Code.rangeFunc g ps assign body).wpIn F n P Q a w:=by
 refine wpIn_rangeFunc fun fn hfn=>?_
 rw [hro];obtain ⟨L,hL⟩:∃L:LoopState->Loop,∀st,L st={ state:=st,pending:=none,fn,tmps:=a.tmps,params:=ps,assign,body,defers:=w.heap.size }:=⟨_,fun _=>rfl⟩;have hent:=run_enterLoop_outer (P:=P) (w:=w) fn a.tmps ps assign body;rw [<-hL] at hent;obtain ⟨V,hV⟩:∃V,(w.alloc (.deferred (some []))).alloc (.loop (L .ready))=V:=⟨_,rfl⟩;rw [hV] at hent;have e1:(w.alloc (.deferred (some []))).heap.size=w.heap.size+1:=World.size_alloc _ _;have vr:V.heap[w.heap.size+1]?=some (.loop (L .ready)):=by rw [<-hV,<-e1];exact am _ _
 have vd:V.heap[w.heap.size]?=some (.deferred (some [])):=by rw [<-hV];exact ay (am _ _) _
 have vs:w.heap.size+2<=V.heap.size:=by rw [<-hV,World.size_alloc,e1];exact Nat.le_refl _
 have vi:I 0 V:=by rw [<-hV];exact hI.alloc _ (hI.alloc _ h0)
 refine ⟨w.heap.size+1,_,V,{ target:=.fn (.func gf) lb,args:=#[.func (.yield (w.heap.size+1)) #[] #[]] },V,gf,#[.func (.yield (w.heap.size+1)) #[] #[]]++lb,V,hent,?_,?_,?_,fun _=>h1,?_⟩
 ·simp only [resolve,hg];simp [go_sem]
 ·intro f' hf';simp [Target.leads] at hf';subst hf';exact hF
 ·simp [invoke,go_sem,eg]
 refine (hit (w.heap.size+1) (fun j W=>I j W/\W.heap[w.heap.size+1]?=some (.loop (L .ready))/\W.heap[w.heap.size]?=some (.deferred (some []))) V (fun j W h=>hG j W h.1) ?_ ?_ ⟨vi,vr,vd⟩).mono ?_
 ·intro j A B row hs hgr hr;refine ⟨hI j A B row hs.1 hgr fun r e=>?_,(grownBy_keeps hgr (fun r e=>(hr r e).2) hs.2.1 rfl).trans hs.2.1,(grownBy_keeps hgr (fun r e=>(hr r e).2) hs.2.2 rfl).trans hs.2.2⟩;obtain ⟨hb,o,ho,hw⟩:=hr r e;exact ⟨by omega,o,ho,Obj.not_cells_of_walk hw⟩
 ·rintro j W hj ⟨hi,hr,hd⟩;have hy:=run_yield (P:=P) (args:=it j) hr (by rw [hL];exact hps j);rw [hL] at hy;refine ⟨fn,_,assign,body,hy,roundIn_of_wpIn hfn (hassign _ j W _ hj hi ?_)⟩;intro a' W' hk hi' hax;have hr':=hk.same _ _ (by omega) hr rfl;have hd':=hk.same _ _ (Nat.le_refl _) hd rfl;have hlt:=ap hr';refine ⟨_,run_beginRound hr' (by rw [hL]),?_⟩;obtain ⟨W2,hW2⟩:∃W2,W'.putObj (w.heap.size+1) (.loop { L .ready with state:=.busy })=W2:=⟨_,rfl⟩;have r2:W2.heap[w.heap.size+1]?=some (.loop { L .ready with state:=.busy }):=by rw [<-hW2];exact World.putObj_heap_same hlt
  have d2:W2.heap[w.heap.size]?=some (.deferred (some [])):=by rw [<-hW2];exact (World.putObj_heap_other (by omega)).trans hd'
  have i2:I j W2:=by rw [<-hW2];exact hI.putObj _ hi' (by omega) hr' rfl
  have x2:Ax j a' W2:=by rw [<-hW2];exact (hAx j a').putObj (s:=()) _ hax (by omega) hr' rfl
  rw [hW2];refine wpIn_mono (hbody _ j a' W2 hj i2 x2) ?_;rintro e a3 W3 ⟨rfl,hk3,i3⟩;have r3:=hk3.same _ _ (by omega) r2 rfl;have d3:=hk3.same _ _ (Nat.le_refl _) d2 rfl;have hend:=run_endRound (P:=P) none r3;rw [hL] at hend;refine ⟨_,_,hend,rfl,hI.putObj _ i3 (by omega) r3 rfl,?_,(World.putObj_heap_other (by omega)).trans d3⟩;rw [World.putObj_heap_same (ap r3),hL];rfl
 ·rintro e W ⟨⟨v,rfl⟩,hi,hr,hd⟩;have hend:=run_endLoop (P:=P) hr (by rw [hL];simp);rw [hL] at hend;exact ⟨none,_,hend,hdone _ _ (Nat.le_refl _) (hI.putObj _ hi (by omega) hr rfl) ((World.putObj_heap_other (by omega)).trans hd)⟩
attribute [local go_sem] Oper.semAt_some
theorem fq (h:Below w.heap.size w w'):KeepsOthers w w':=⟨h.size,fun k o hk _=>(h.block k (ap hk)).trans hk⟩
theorem fp {S:Nat->Prop}(h:Kp S w w') (hS:∀k,S k->∀o,w.heap[k]?=some o->o.isCells=true):KeepsOthers w w':=
 ⟨h.size,fun k o hk ho=>h.blk hk (fun hs=>by rw [hS k hs o hk] at ho;cases ho)⟩
theorem bq (hg:W.grownBy W' row) (hrow:∀r,row=some r->∃o:Obj,W.heap[r]?=some o/\o.isCells=false) {k:Nat}{cs:Array Value}{T:TypeId}{f:Nat × Nat}(h:W.heap[k]?=some (.cells cs T f)):W'.heap[k]?=some (.cells cs T f):=
 (grownBy_keeps_cells hg hrow h rfl).trans h
theorem sS (hg:W.grownBy W' row) (hrow:∀r,row=some r->∃o:Obj,W.heap[r]?=some o/\o.isCells=false) {e sz n:Nat}{v:Value}{xs:List Value}(h:W.ownsRow 0 e sz v n xs):W'.ownsRow 0 e sz v n xs:=by
 refine ⟨h.1,?_⟩
 rcases h.2 with h1|⟨g,cap,cur,rfl,a1,a2,a3⟩
 ·exact .inl h1
 ·exact .inr ⟨g,cap,cur,rfl,a1,bq hg hrow a2,a3⟩
def Lv (W:World) (ao:Option Addr) (l:List Value):Prop:=∀j s,l[j]?=some s->(∃fn fi ca,s=.func fn fi ca)/\∃b off,ao=some ⟨b,off,none⟩/\W.cell? ⟨b,off+j,none⟩=some s
theorem Lv.kp {S:Nat->Prop}{w w':World}{ao:Option Addr}{l:List Value}(h:Lv w ao l) (hb:Kp S w w') (hS:∀a,ao=some a->¬S a.block):Lv w' ao l:=by
 intro j a ha;obtain ⟨h0,b,off,h1,c0⟩:=h j a ha;have hlt:=World.block_lt_of_cell? _ _ c0;have e:w'.heap[b]?=w.heap[b]?:=hb.block b hlt (hS _ h1);exact ⟨h0,b,off,h1,(World.cell?_of_block (a:=⟨b,_,none⟩) e).trans c0⟩
theorem eR (ao:Option Addr) (n cap:Nat) (w:World):Da 187 #[.slice ao n cap] w fun e w'=>e=.returned (.func (.func 217) #[] #[.pointer (some ⟨w.heap.size,0,none⟩)])/\w'=w.alloc (.cells #[.slice ao n cap] 102):=by
 have hmf:=mkfn
 go_enter Tryz.func187,Tryz.ntmps187
 go_wp2_with fail
 go_ret
 exact ⟨rfl,rfl⟩
def itB (l:List Value) (j:Nat):Array Value:=#[.int .i64 ((l.length-1-j:Nat):Int),l.getD (l.length-1-j) .nilFunc]
set_option maxRecDepth 100000 in
theorem ej (n:Nat) (hn:1<=n) (Bn:Nat) (ao:Option Addr) (l:List Value) (cap:Nat) (hl:l.length<=1000000) :
  xh Fence.wide n Tryz.prog 217 #[.pointer (some ⟨Bn,0,none⟩)] (itB l) l.length (fun W=>W.cell? ⟨Bn,0,none⟩=some (.slice ao l.length cap)/\Lv W ao l):=by
 intro lp J W hG hA hY h0;refine callsIn_of_wp Tryz.func217 rfl trivial ?_ rfl;simp only [Tryz.ntmps217,List.size_toArray,List.length_cons,List.length_nil,Nat.reduceAdd,Nat.reduceSub,Array.replicate_succ,Array.replicate_zero,List.push_toArray,List.append_toArray,List.nil_append,List.cons_append];have g0:=(hG 0 W h0).1;have hln:(l.length:Int)<=1000000:=by omega
 gi_wp2
 gi_loopw [3] (fun i wr=>∃(j:Nat) (z:Int),i=.int .i64 z/\z=(l.length:Int)-1-j/\j<=l.length/\J j wr) (fun i _=>(intOf i+1).toNat)
 case atStart=>exact ⟨0,_,by go_num,by omega,Nat.zero_le _,h0⟩
 case round=>
  obtain ⟨j,z,rfl,hz,hj,hJ⟩:=hrel
  by_cases hlt:j<l.length
  ·obtain ⟨k,hk⟩:∃k:Nat,z=k:=⟨z.toNat,by omega⟩;subst hk;have hkl:k<l.length:=by omega
   have hkj:l.length-1-j=k:=by omega
   obtain ⟨d,hd⟩:∃d,l[k]?=some d:=⟨_,List.getElem?_eq_getElem hkl⟩;obtain ⟨gc,gL⟩:=hG j wr hJ;obtain ⟨ht,b,off,rfl,c0⟩:=gL k d hd;have q1:(0:Int)<=k:=by omega
   have q2:(k:Int)<l.length:=by omega
   have hit:itB l j=#[.int .i64 (k:Int),d]:=by
    unfold itB;rw [hkj,List.getD_eq_getElem?_getD,hd];rfl
   obtain ⟨fn,tmps,assign,body,hy,hR⟩:=hY j wr hlt hJ;rw [hit] at hy;have HJ:Hid (l.length-1-j=k/\j<l.length):=⟨hkj,hlt⟩;clear hz hit hkj hlt hd
   gi_wp2
   refine hR.mono ?_;rintro e W3 ⟨rfl,hJ3⟩
   gi_wp2
   go_roundw
   case rel=>exact ⟨j+1,(k:Int)-1,by go_num,by have:=HJ.out;omega,by have:=HJ.out;omega,hJ3⟩
   case measure=>simp [RowKit.intOf]
  ·obtain rfl:j=l.length:=by omega
   have hz':z=-1:=by omega
   subst hz';clear hz
   gi_wp2
   go_end0
   exact ⟨⟨_,rfl⟩,hJ⟩
end Go.Proofs.YtpdlohfdjiaegaaGreatDoor
