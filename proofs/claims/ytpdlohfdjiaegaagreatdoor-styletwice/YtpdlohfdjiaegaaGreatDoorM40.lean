import Derived.Test.YtpdlohfdjiaegaaGreatDoorM39
set_option linter.unusedVariables false
set_option linter.unusedSimpArgs false
set_option maxHeartbeats 400000
namespace Go.Proofs.YtpdlohfdjiaegaaGreatDoor
open Go.RowKit
variable {g lo:Nat}{W W' V W'':World}{vs vt v vs' vt':Value}{n:Int}{K:List It}{E:List Ev}{α:Type}{xs:List α}{x:It}
def M.id:M->Nat
 |.block=>98
 |.variables=>189
 |.constants=>190
 |.procedure=>191
 |.params=>239
 |.param=>252
 |.typed=>219
 |.kind=>224
 |.member=>240
 |.body=>151
 |.statement=>192
 |.expr=>220
 |.rel=>238
 |.sum=>251
 |.term=>260
 |.factor=>264
 |.object=>225
 |.index=>253
 |.selection=>254
 |.args=>255
 |.list=>261
def Dk.id:Dk->Nat
 |.declaration=>149
 |.bracket=>221
 |.detail=>241
abbrev pt (g:Nat):Value:=.pointer (some ⟨g,0,none⟩)
abbrev mtV (g:Nat) (f:Nat):Value:=.func (.func f) #[pt g] #[]
abbrev nmV:Value:=.func (.func 96) #[] #[]
abbrev csV:Value:=.func (.func 262) #[] #[]
abbrev lvV (g:Nat) (n:Int):Value:=.func (.func 146) #[.agg #[pt g,.int .u8 n]] #[]
abbrev ocV (g:Nat) (v:Value):Value:=.func (.func 222) #[.agg #[pt g,v]] #[]
abbrev agV (g:Nat) (v:Value):Value:=.func (.func 150) #[.agg #[pt g,v]] #[]
abbrev alV (b3 b1:Nat):Value:=.func (.func 243) #[] #[pt b3,pt b1]
abbrev rwV (b1 b2:Nat):Value:=.func (.func 244) #[] #[pt b1,pt b2]
abbrev exV (b:Nat):Value:=.func (.func 256) #[] #[pt b]
inductive Al {α:Type}(R:Value->α->Prop):List Value->List α->Prop
 |nil:Al R [] []
 |cons {v:Value} {x:α} {vs:List Value} {xs:List α}:R v x->Al R vs xs->Al R (v :: vs) (x :: xs)
theorem Al.len {R:Value->α->Prop}{vs:List Value}(h:Al R vs xs):vs.length=xs.length:=by
 induction h with
 |nil=>rfl
 |cons _ _ ih=>simp [ih]
theorem Al.mono {R S:Value->α->Prop}{vs:List Value}(h:Al R vs xs) (hRS:∀v x,R v x->S v x):Al S vs xs:=by
 induction h with
 |nil=>exact .nil
 |cons h _ ih=>exact .cons (hRS _ _ h) ih
theorem Al.app {R:Value->α->Prop}{vs us:List Value}{ys:List α}(h:Al R vs xs) (k:Al R us ys):Al R (vs++us) (xs++ys):=by
 induction h with
 |nil=>exact k
 |cons h _ ih=>exact .cons h ih
theorem Al.rev {R:Value->α->Prop}{vs:List Value}(h:Al R vs xs):Al R vs.reverse xs.reverse:=by
 induction h with
 |nil=>exact .nil
 |cons h _ ih=>rw [List.reverse_cons,List.reverse_cons];exact ih.app (.cons h .nil)
theorem Al.map {β:Type}{R:Value->α->Prop}{S:Value->β->Prop}{f:α->β}{vs:List Value}(h:Al R vs xs) (hf:∀v x,R v x->S v (f x)):Al S vs (xs.map f):=by
 induction h with
 |nil=>exact .nil
 |cons h _ ih=>exact .cons (hf _ _ h) ih
theorem Al.at {R:Value->α->Prop}{vs:List Value}(h:Al R vs xs):∀{j:Nat}{v:Value},vs[j]?=some v->∃x,xs[j]?=some x/\R v x:=by
 induction h with
 |nil=>intro j v h;simp at h
 |cons h _ ih=>
  intro j v hj;cases j with
  |zero=>simp at hj;subst hj;exact ⟨_,rfl,h⟩
  |succ j=>simp at hj;simpa using ih hj
section
variable (g:Nat) (D:Nat->Prop) (W:World)
inductive ka:Value->Fl->Prop
 |wd {k:Int} {ao:Option Addr} {ts:List ByteArray} {cap:Nat}:Ls W ao ts->(∀a,ao=some a->D a.block)->ts.length<=1000->ka (wdV k (.slice ao ts.length cap)) (.wd k ts)
 |nm:ka nmV .nm
 |cs:ka csV .cs
 |mt (m:M):ka (mtV g m.id) (.mt m)
structure pX (b3 b1:Nat) (r:List Fl):Prop where
 ex:∃ao cap xs,W.heap[b1]?=some (.cells #[.slice ao xs.length cap] 102 (0,0))/\Lv W ao xs/\Al (ka g D W) xs r/\∀a,ao=some a->D a.block
 pb:W.heap[b3]?=some (.cells #[pt g] 83 (0,0))
 d1:D b1
 d3:D b3
 ln:r.length<=1000
inductive gU:Value->Pk->Prop
 |fn (d:Dk):gU (mtV g d.id) (.fn d)
 |row {b1 b2 b3:Nat} {r:List Fl}:pX g D W b3 b1 r->W.heap[b2]?=some (.cells #[alV b3 b1] 152 (0,0))->D b2->(∃k ts rest,r=Fl.wd k ts :: rest)->gU (rwV b1 b2) (.row r)
 |ex {b:Nat} {m:M}:W.heap[b]?=some (.cells #[mtV g m.id] 153 (0,0))->D b->gU (exV b) (.ex m)
inductive Rep:Value->It->Prop
 |fl {v:Value} {x:Fl}:ka g D W v x->Rep v (.fl x)
 |lv (n:Int):Rep (lvV g n) (.lv n)
 |once {v:Value} {p:Pk}:gU g D W v p->Rep (ocV g v) (.once p)
 |again {v:Value} {p:Pk}:gU g D W v p->Rep (agV g v) (.again p)
 |all {b1 b3:Nat} {r:List Fl}:pX g D W b3 b1 r->Rep (alV b3 b1) (.all r)
end
theorem ka.turn {D D':Nat->Prop}{x:Fl}(h:ka g D W v x) (hD:∀k,D k->D' k) (hW:∀k o,D k->W.heap[k]?=some o->W'.heap[k]?=some o):ka g D' W' v x:=by
 cases h with
 |wd h1 h2 h3=>
  refine .wd (fun j s hj=>?_) (fun a ha=>hD _ (h2 a ha)) h3;obtain ⟨b,off,e,hc⟩:=h1 j s hj;refine ⟨b,off,e,?_⟩;obtain ⟨o,ho⟩:∃o,W.heap[b]?=some o:=⟨_,Array.getElem?_eq_getElem (World.block_lt_of_cell? _ _ hc)⟩;exact (World.cell?_of_block (a:=⟨b,_,none⟩) ((hW b o (h2 _ e) ho).trans ho.symm)).trans hc
 |nm=>exact .nm
 |cs=>exact .cs
 |mt m=>exact .mt m
theorem pX.turn {D D':Nat->Prop}{b3 b1:Nat}{r:List Fl}(h:pX g D W b3 b1 r) (hD:∀k,D k->D' k) (hW:∀k o,D k->W.heap[k]?=some o->W'.heap[k]?=some o):pX g D' W' b3 b1 r:=by
 obtain ⟨ao,cap,xs,h1,h2,h3,h4⟩:=h.ex;refine ⟨⟨ao,cap,xs,hW _ _ h.d1 h1,fun j s hj=>?_,h3.mono (fun v x hx=>hx.turn hD hW),fun a ha=>hD _ (h4 a ha)⟩,hW _ _ h.d3 h.pb,hD _ h.d1,hD _ h.d3,h.ln⟩;obtain ⟨h0,b,off,e,hc⟩:=h2 j s hj;refine ⟨h0,b,off,e,?_⟩;obtain ⟨o,ho⟩:∃o,W.heap[b]?=some o:=⟨_,Array.getElem?_eq_getElem (World.block_lt_of_cell? _ _ hc)⟩;exact (World.cell?_of_block (a:=⟨b,_,none⟩) ((hW b o (h4 _ e) ho).trans ho.symm)).trans hc
theorem gU.turn {D D':Nat->Prop}{x:Pk}(h:gU g D W v x) (hD:∀k,D k->D' k) (hW:∀k o,D k->W.heap[k]?=some o->W'.heap[k]?=some o):gU g D' W' v x:=by
 cases h with
 |fn d=>exact .fn d
 |row h1 h2 h3 h4=>exact .row (h1.turn hD hW) (hW _ _ h3 h2) (hD _ h3) h4
 |ex h1 h2=>exact .ex (hW _ _ h2 h1) (hD _ h2)
theorem Rep.turn {D D':Nat->Prop}(h:Rep g D W v x) (hD:∀k,D k->D' k) (hW:∀k o,D k->W.heap[k]?=some o->W'.heap[k]?=some o):Rep g D' W' v x:=by
 cases h with
 |fl h=>exact .fl (h.turn hD hW)
 |lv n=>exact .lv n
 |once h=>exact .once (h.turn hD hW)
 |again h=>exact .again (h.turn hD hW)
 |all h=>exact .all (h.turn hD hW)
theorem Rep.isFn {D:Nat->Prop}(h:Rep g D W v x):∃fn fi ca,v=.func fn fi ca:=by
 cases h with
 |fl h=>cases h <;> exact ⟨_,_,_,rfl⟩
 |lv n=>exact ⟨_,_,_,rfl⟩
 |once h=>exact ⟨_,_,_,rfl⟩
 |again h=>exact ⟨_,_,_,rfl⟩
 |all h=>exact ⟨_,_,_,rfl⟩
structure Ps (g:Nat) (D:Nat->Prop) (W:World) (n:Int) (K:List It) (E:List Ev) (vs vt:Value):Prop where
 pb:PB W g false 0 n vs vt
 st:∃xs,Rs W vs xs/\Al (Rep g D W) xs K.reverse
 ev:Re W vt E
 dg:¬D g
 ds:∀k,vs.ownBlock=some k->¬D k
 dt:∀k,vt.ownBlock=some k->¬D k
 dl:∀k,D k->k<W.heap.size
def Dn (D:Nat->Prop) (a b:Nat) (k:Nat):Prop:=D k\/(a<=k/\k<b)
theorem Ps.fresh {D:Nat->Prop}(h:Ps g D W n K E vs vt) (hb:Below W.heap.size W W'):Ps g (Dn D W.heap.size W'.heap.size) W' n K E vs vt:=by
 obtain ⟨xs,h1,h2⟩:=h.st;refine ⟨h.pb.below hb,⟨xs,h1.below hb,h2.mono (fun v x hx=>hx.turn (fun k hk=>.inl hk) (fun k o _ ho=>ab ho hb))⟩,h.ev.below hb,?_,?_,?_,?_⟩
 ·rintro (h1|h1)
  ·exact h.dg h1
  ·have:=h.pb.lt;omega
 ·rintro k hk (h3|h3)
  ·exact h.ds k hk h3
  ·have:=h1.lt k hk;omega
 ·rintro k hk (h3|h3)
  ·exact h.dt k hk h3
  ·have:=h.ev.lt k hk;omega
 ·rintro k (h3|h3)
  ·exact Nat.lt_of_lt_of_le (h.dl k h3) hb.size
  ·exact h3.2
def aq (g:Nat) (D:Nat->Prop) (vs vt:Value) (W W':World) (n:Int) (K:List It) (E:List Ev):Prop:=
 ∃D' vs' vt',Ps g D' W' n K E vs' vt'/\Kp (fun k=>k=g\/vs.ownBlock=some k\/vt.ownBlock=some k) W W'/\Nb W vs vs'/\Nb W vt vt'/\(∀k,D k->D' k)/\(∀k,D' k->D k\/W.heap.size<=k)
theorem nx (hs:Nb W vs vs') (ht:Nb W vt vt') (k:Nat) (hk:k<W.heap.size) (h:k=g\/vs'.ownBlock=some k\/vt'.ownBlock=some k):k=g\/vs.ownBlock=some k\/vt.ownBlock=some k:=by
 rcases h with h|h|h
 ·exact .inl h
 ·rcases hs with e|⟨q,e,hq⟩
  ·exact .inr (.inl (by rw [<-e];exact h))
  ·rw [e] at h;simp at h;omega
 ·rcases ht with e|⟨q,e,hq⟩
  ·exact .inr (.inr (by rw [<-e];exact h))
  ·rw [e] at h;simp at h;omega
theorem aq.go {D D':Nat->Prop}(hk:Kp (fun k=>k=g\/vs.ownBlock=some k\/vt.ownBlock=some k) W W') (hs:Nb W vs vs') (ht:Nb W vt vt') (h1:∀k,D k->D' k) (h2:∀k,D' k->D k\/W.heap.size<=k) (h:aq g D' vs' vt' W' W'' n K E):aq g D vs vt W W'' n K E:=by
 obtain ⟨D2,vs2,vt2,p,k2,s2,t2,a1,a2⟩:=h;refine ⟨D2,vs2,vt2,p,hk.step k2 (fun k hlt hor=>nx hs ht k hlt hor),hs.trans s2 hk.size,ht.trans t2 hk.size,fun k h=>a1 k (h1 k h),fun k h=>?_⟩
 rcases a2 k h with h|h
 ·exact h2 k h
 ·exact .inr (Nat.le_trans hk.size h)
theorem aq.fresh {D:Nat->Prop}(hb:Below W.heap.size W W') (h:aq g (Dn D W.heap.size W'.heap.size) vs vt W' W'' n K E):aq g D vs vt W W'' n K E:=
 aq.go (Kp.of_below hb) (Nb.refl _ _) (Nb.refl _ _) (fun k h=>.inl h) (fun k h=>h.imp id (fun h=>h.1)) h
structure Row (g:Nat) (D:Nat->Prop) (W:World) (ao:Option Addr) (xs:List Value) (r:List It):Prop where
 lv:Lv W ao xs
 al:Al (Rep g D W) xs r
 da:∀a,ao=some a->D a.block
theorem Row.turn {D:Nat->Prop}{ao:Option Addr}{xs:List Value}{r:List It}(h:Row g D W ao xs r) (hW:∀k o,D k->W.heap[k]?=some o->W'.heap[k]?=some o):Row g D W' ao xs r:=by
 refine ⟨fun j s hj=>?_,h.al.mono (fun v x hx=>hx.turn (fun _ h=>h) hW),h.da⟩;obtain ⟨h0,b,off,e,hc⟩:=h.lv j s hj;refine ⟨h0,b,off,e,?_⟩;obtain ⟨o,ho⟩:∃o,W.heap[b]?=some o:=⟨_,Array.getElem?_eq_getElem (World.block_lt_of_cell? _ _ hc)⟩;exact (World.cell?_of_block (a:=⟨b,_,none⟩) ((hW b o (h.da _ e) ho).trans ho.symm)).trans hc
theorem iq {D:Nat->Prop}(h:Ps g D W n K E vs vt) (ao:Option Addr) (xs:List Value) (m cap:Nat) (r:List It) (hm:xs.length=m) (hr:Row g D W ao xs r) (hx:xs.length<=1000000) (hy:K.length<=100000000) :
  Da 145 #[pt g,.slice ao m cap] W fun e w'=>e=.returned (.int .i64 1)/\(∃vs',Ps g D w' n (r++K) E vs' vt/\Nb W vs vs')/\Kp (fun k=>k=g\/vs.ownBlock=some k) W w':=by
 subst hm;obtain ⟨ys,h1,h2⟩:=h.st;have hyl:ys.length<=100000000:=by rw [h2.len,List.length_reverse];exact hy
 refine (pE h.pb h1 ao xs cap hr.lv (fun a ha=>⟨fun e=>h.dg (e ▸ hr.da a ha),fun e=>h.ds _ e (hr.da a ha)⟩) hx hyl).mono ?_;rintro e w' ⟨rfl,⟨vs',a1,a2,a3⟩,a4⟩
 have hD:∀k,D k->¬(k=g\/vs.ownBlock=some k):=by
  rintro k hk (e|e)
  ·exact h.dg (e ▸ hk)
  ·exact h.ds k e hk
 have hW:∀k o,D k->W.heap[k]?=some o->w'.heap[k]?=some o:=fun k o hk ho=>a4.blk ho (hD k hk)
 refine ⟨rfl,⟨vs',⟨a1,⟨_,a2,?_⟩,h.ev.kp a4 ?_,h.dg,?_,h.dt,fun k hk=>Nat.lt_of_lt_of_le (h.dl k hk) a4.size⟩,a3⟩,a4⟩
 ·rw [List.reverse_append];exact (h2.mono (fun v x hx=>hx.turn (fun _ h=>h) hW)).app ((hr.al.rev).mono (fun v x hx=>hx.turn (fun _ h=>h) hW))
 ·rintro k hk (e|e)
  ·exact h.ev.ne h.pb (by decide) k hk e
  ·obtain ⟨b,cap',cur,hv,hc⟩:∃b cap' cur,vs=.slice (some ⟨b,0,none⟩) ys.length cap'/\W.heap[b]?=some (.cells cur 153 (0,0)):=by
    rcases h1.2 with ⟨rfl,_⟩|⟨b,cap',cur,hv,_,h3,_⟩
    ·cases e
    ·exact ⟨b,cap',cur,hv,h3⟩
   rw [hv] at e;simp only [Value.ownBlock,Option.some.injEq] at e;exact h.ev.ne hc (by decide) k hk e.symm
 ·intro k hk hd
  rcases a3 with e|⟨q,e,hq⟩
  ·exact h.ds k (by rw [<-e];exact hk) hd
  ·rw [e] at hk;simp at hk;have:=h.dl k hd;omega
theorem fy {D:Nat->Prop}(h:Ps g D W n K E vs vt) (ao:Option Addr) (xs:List Value) (m cap:Nat) (r:List It) (hm:xs.length=m) (hr:Row g D W ao xs r) (hx:xs.length<=1000000) (hy:K.length<=100000000) :
  Da 145 #[pt g,.slice ao m cap] W fun e w'=>e=.returned (.int .i64 1)/\aq g D vs vt W w' n (r++K) E:=by
 refine (iq h ao xs m cap r hm hr hx hy).mono ?_;rintro e w' ⟨rfl,⟨vs',a1,a2⟩,a3⟩;exact ⟨rfl,D,vs',vt,a1,a3.sub (fun k h=>h.elim .inl (fun h=>.inr (.inl h))),a2,Nb.refl _ _,fun _ h=>h,fun _ h=>.inl h⟩
theorem k9 {D:Nat->Prop}(h:Ps g D W n K E vs vt) (d:Ev) (hl:E.length<=1000000000) :
  Da 99 #[pt g,d.v] W fun e w'=>e=.returned (.tuple #[])/\(∃vt',Ps g D w' n K (E++[d]) vs vt'/\Nb W vt vt')/\Kp (fun k=>k=g\/vt.ownBlock=some k) W w':=by
 refine (sw h.pb h.ev d hl).mono ?_;rintro e w' ⟨rfl,⟨vt',a1,a2,a3⟩,a4⟩;obtain ⟨ys,h1,h2⟩:=h.st
 have hD:∀k,D k->¬(k=g\/vt.ownBlock=some k):=by
  rintro k hk (e|e)
  ·exact h.dg (e ▸ hk)
  ·exact h.dt k e hk
 have hW:∀k o,D k->W.heap[k]?=some o->w'.heap[k]?=some o:=fun k o hk ho=>a4.blk ho (hD k hk)
 refine ⟨rfl,⟨vt',⟨a1,⟨ys,h1.kp a4 ?_,h2.mono (fun v x hx=>hx.turn (fun _ h=>h) hW)⟩,a2,h.dg,h.ds,?_,fun k hk=>Nat.lt_of_lt_of_le (h.dl k hk) a4.size⟩,a3⟩,a4⟩
 ·rintro k hk (e|e)
  ·exact h1.ne h.pb (by decide) k hk e
  ·obtain ⟨b,cap',cur,hv,hc⟩:∃b cap' cur,vt=.slice (some ⟨b,0,none⟩) E.length cap'/\W.heap[b]?=some (.cells cur 39 (0,0)):=by
    rcases h.ev.2 with ⟨rfl,_⟩|⟨b,cap',cur,hv,_,h3,_⟩
    ·cases e
    ·exact ⟨b,cap',cur,hv,h3⟩
   rw [hv] at e;simp only [Value.ownBlock,Option.some.injEq] at e;exact h1.ne hc (by decide) k hk e.symm
 ·intro k hk hd
  rcases a3 with e|⟨q,e,hq⟩
  ·exact h.dt k (by rw [<-e];exact hk) hd
  ·rw [e] at hk;simp at hk;have:=h.dl k hd;omega
theorem Ps.nodes {D:Nat->Prop}(h:Ps g D W n K E vs vt) (m:Int):Ps g D (W.setCell ⟨g,2,none⟩ (.int .i64 m)) m K E vs vt:=by
 obtain ⟨ys,h1,h2⟩:=h.st;have hk:=Kp.set W g 2 (.int .i64 m);refine ⟨af h.pb 2 _,⟨ys,h1.kp hk (h1.ne h.pb (by decide)),h2.mono (fun v x hx=>hx.turn (fun _ h=>h) (fun k o hd ho=>hk.blk ho (fun e=>h.dg (e ▸ hd))))⟩,h.ev.kp hk (h.ev.ne h.pb (by decide)),h.dg,h.ds,h.dt,fun k hd=>Nat.lt_of_lt_of_le (h.dl k hd) hk.size⟩
theorem xP {D:Nat->Prop}(h:Ps g D W n K E vs vt) (v:Value) (x:It) (hv:Rep g D W v x) :
  Ps g (Dn D W.heap.size (W.alloc (.cells #[v] 153)).heap.size) (W.alloc (.cells #[v] 153)) n K E vs vt/\Row g (Dn D W.heap.size (W.alloc (.cells #[v] 153)).heap.size) (W.alloc (.cells #[v] 153)) (some ⟨W.heap.size,0,none⟩) [v] [x]:=by
 have hb:Below W.heap.size W (W.alloc (.cells #[v] 153)):=(Below.refl _ _).alloc (Nat.le_refl _) _;refine ⟨h.fresh hb,fun j s hj=>?_,.cons (hv.turn (fun _ h=>.inl h) (fun k o _ ho=>ab ho hb)) .nil,?_⟩
 ·obtain ⟨rfl,rfl⟩:j=0/\s=v:=by
   cases j with
   |zero=>simp at hj;exact ⟨rfl,hj.symm⟩
   |succ j=>simp at hj
  exact ⟨hv.isFn,_,_,rfl,aa (am W _) rfl⟩
 ·intro a ha;cases ha;exact .inr ⟨Nat.le_refl _,by rw [World.size_alloc];exact Nat.lt_succ_self _⟩
theorem yk {D:Nat->Prop}(h:Ps g D W n K E vs vt) (node:Int) (ao:Option Addr) (xs:List Value) (m cap:Nat) (r:List It) (hm:xs.length=m) (hr:Row g D W ao xs r) (hx:xs.length<=1000) (hn0:0<=n) (hn:n<=100000000) (hK:K.length<=10000000) (hE:E.length<=1000000000) :
  Da 94 #[pt g,.int .u8 node,.slice ao m cap] W fun e w'=>e=.returned (.int .i64 1)/\aq g D vs vt W w' (n+1) (r++.lv node :: K) (E++[⟨1,node,tv0⟩]):=by
 have hmf:=mkfn;have HT:Hid (Da 99 #[pt g,.agg #[.int .u8 1,.int .u8 node,.int .u8 0,.string ⟨#[]⟩,.int .i64 0,.int .i64 0,.int .i64 0,.int .i64 0]] W fun e w'=>e=.returned (.tuple #[])/\(∃vt',Ps g D w' n K (E++[⟨1,node,tv0⟩]) vs vt'/\Nb W vt vt')/\Kp (fun k=>k=g\/vt.ownBlock=some k) W w'):=k9 h ⟨1,node,tv0⟩ hE;have HR:Hid (Row g D W ao xs r/\Ps g D W n K E vs vt):=⟨hr,h⟩;have HB:Hid (xs.length<=1000/\K.length<=10000000/\xs.length=m):=⟨hx,hK,hm⟩;clear h hr hE hx hK hm
 go_enter Tryz.func94,Tryz.ntmps94
 go_wp2_with fail
 refine HT.out.mono ?_;rintro e w1 ⟨rfl,⟨vt1,p1,nt1⟩,k1⟩;have hw:IntKind.i64.wrap (n+1)=n+1:=by rw [IntKind.wrap_i64];omega
 obtain ⟨c0,c1,c2,c3,c4⟩:=p1.pb.cells;have f2:=p1.pb.frozen 2;have H1:Hid (Ps g D w1 n K (E++[⟨1,node,tv0⟩]) vs vt1/\Nb W vt vt1/\Kp (fun k=>k=g\/vt.ownBlock=some k) W w1):=⟨p1,nt1,k1⟩;clear p1 nt1 k1
 go_wp2_with fail
 have p2:=H1.out.1.nodes (n+1);obtain ⟨p3,r3⟩:=xP p2 (lvV g node) (.lv node) (.lv node);have hsz:(w1.setCell ⟨g,2,none⟩ (.int .i64 (n+1))).heap.size=w1.heap.size:=by show (w1.heap.modify g _).size=_;rw [Array.size_modify]
 rw [hsz] at r3 p3
 have k2:Kp (fun k=>k=g\/vs.ownBlock=some k\/vt.ownBlock=some k) W ((w1.setCell ⟨g,2,none⟩ (.int .i64 (n+1))).alloc (.cells #[lvV g node] 153)):=
  ((H1.out.2.2.sub (fun k h=>h.elim .inl (fun h=>.inr (.inr h)))).step (Kp.set w1 g 2 (.int .i64 (n+1))) (fun k _ e=>.inl e)).alloc _
 obtain ⟨W3,hW3⟩:∃W3,(w1.setCell ⟨g,2,none⟩ (.int .i64 (n+1))).alloc (.cells #[lvV g node] 153)=W3:=⟨_,rfl⟩;have hs3:W3.heap.size=w1.heap.size+1:=by rw [<-hW3,World.size_alloc,hsz]
 rw [hW3] at p3 r3 k2;have HX:Hid (Da 145 #[pt g,.slice (some ⟨w1.heap.size,0,none⟩) 1 1] W3 fun e w'=>e=.returned (.int .i64 1)/\(∃vs',Ps g (Dn D w1.heap.size W3.heap.size) w' (n+1) ([.lv node]++K) (E++[⟨1,node,tv0⟩]) vs' vt1/\Nb W3 vs vs')/\Kp (fun k=>k=g\/vs.ownBlock=some k) W3 w'):=iq p3 _ [lvV g node] 1 1 [.lv node] rfl r3 (by show 1<=1000000;decide) (by have:=HB.out.2.1;omega);have H3:Hid (Kp (fun k=>k=g\/vs.ownBlock=some k\/vt.ownBlock=some k) W W3/\W3.heap.size=w1.heap.size+1):=⟨k2,hs3⟩;rw [hW3];clear p2 p3 r3 k2 hs3 hW3 hsz c0 c1 c2 c3 c4 f2 hw;refine HX.out.mono ?_;rintro e w4 ⟨rfl,⟨vs4,p4,ns4⟩,k4⟩;have k5:Kp (fun k=>k=g\/vs.ownBlock=some k\/vt.ownBlock=some k) W w4:=H3.out.1.step k4 (fun k _ h=>h.elim .inl (fun h=>.inr (.inl h)))
 have r5:Row g (Dn D w1.heap.size W3.heap.size) w4 ao xs r:=by
  have hr:=HR.out.1
  have hD:∀k o,D k->W.heap[k]?=some o->w4.heap[k]?=some o:=fun k o hk ho=>k5.blk ho (by
   rintro (e|e|e)
   ·exact HR.out.2.dg (e ▸ hk)
   ·exact HR.out.2.ds k e hk
   ·exact HR.out.2.dt k e hk)
  have r1:=hr.turn hD;exact ⟨r1.lv,r1.al.mono (fun v x hx=>hx.turn (fun _ h=>.inl h) (fun _ _ _ h=>h)),fun a ha=>.inl (r1.da a ha)⟩
 have HY:Hid (Da 145 #[pt g,.slice ao m cap] w4 fun e w'=>e=.returned (.int .i64 1)/\(∃vs',Ps g (Dn D w1.heap.size W3.heap.size) w' (n+1) (r++([.lv node]++K)) (E++[⟨1,node,tv0⟩]) vs' vt1/\Nb w4 vs4 vs')/\Kp (fun k=>k=g\/vs4.ownBlock=some k) w4 w'):=iq p4 ao xs m cap r HB.out.2.2 r5 (by have:=HB.out.1;omega) (by have:=HB.out.2.1;simp;omega);have H4:Hid (Kp (fun k=>k=g\/vs.ownBlock=some k\/vt.ownBlock=some k) W w4/\Nb W3 vs vs4):=⟨k5,ns4⟩;clear p4 ns4 k4 k5 r5 HX
 go_wp2_with fail
 refine HY.out.mono ?_;rintro e w6 ⟨rfl,⟨vs6,p6,ns6⟩,k6⟩;have hWs:=H3.out.1.size;have nt1:=H1.out.2.1;have n4:Nb W vs vs4:=(Nb.refl W vs).trans H4.out.2 hWs
 have HG:Hid (aq g D vs vt W w6 (n+1) (r++.lv node :: K) (E++[⟨1,node,tv0⟩])):=
  ⟨_,vs6,vt1,p6,H4.out.1.step k6 (fun k hk h=>nx n4 nt1 k hk (h.elim .inl (fun h=>.inr (.inl h)))),n4.trans ns6 H4.out.1.size,nt1,fun k h=>.inl h,fun k h=>h.imp id (fun h=>Nat.le_trans H1.out.2.2.size h.1)⟩
 clear p6 ns6 k6 n4 nt1 hWs
 go_wp2_with fail
 go_ret
 exact ⟨rfl,HG.out⟩
theorem vF {D:Nat->Prop}(h:Ps g D W n K E vs vt) (node:Int) (t:Tv) (hn0:0<=n) (hn:n<=100000000) (hE:E.length<=1000000000) :
  Da 146 #[.agg #[pt g,.int .u8 node],t.v] W fun e w'=>e=.returned (.int .i64 1)/\aq g D vs vt W w' (n-1) K (E++[⟨3,node,tv0⟩]):=by
 obtain ⟨W1,e1⟩:∃W1,(W.alloc (.cells #[pt g,.int .u8 node] 206)).alloc (.cells #[.int .u8 t.k,.string t.t,.int .i64 t.a,.int .i64 t.l,.int .i64 t.c,.int .i64 t.f] 37)=W1:=⟨_,rfl⟩;have hb:Below W.heap.size W W1:=by rw [<-e1];exact ((Below.refl _ _).alloc (Nat.le_refl _) _).alloc (by rw [World.size_alloc];exact Nat.le_succ _) _
 have m0:W1.heap[W.heap.size]?=some (.cells #[pt g,.int .u8 node] 206 (0,0)):=by rw [<-e1];exact ay (am _ _) _
 have p1:=h.fresh hb;have HT:Hid (Da 99 #[pt g,.agg #[.int .u8 3,.int .u8 node,.int .u8 0,.string ⟨#[]⟩,.int .i64 0,.int .i64 0,.int .i64 0,.int .i64 0]] W1 fun e w'=>e=.returned (.tuple #[])/\(∃vt',Ps g (Dn D W.heap.size W1.heap.size) w' n K (E++[⟨3,node,tv0⟩]) vs vt'/\Nb W1 vt vt')/\Kp (fun k=>k=g\/vt.ownBlock=some k) W1 w'):=k9 p1 ⟨3,node,tv0⟩ hE
 have H0:Hid (Db W W1/\W1.heap[W.heap.size]?=some (.cells #[pt g,.int .u8 node] 206 (0,0))/\(∀k,k=g\/vt.ownBlock=some k->k≠W.heap.size)):=⟨hb,m0,by
  rintro k (e|e)
  ·have:=h.pb.lt;omega
  ·have:=h.ev.lt k e;omega⟩
 have c0:W1.cell? ⟨W.heap.size,0,none⟩=some (pt g):=aa m0 rfl;have c1:W1.cell? ⟨W.heap.size,1,none⟩=some (.int .u8 node):=aa m0 rfl;have HE:Hid ((W.alloc (.cells #[pt g,.int .u8 node] 206)).alloc (.cells #[.int .u8 t.k,.string t.t,.int .i64 t.a,.int .i64 t.l,.int .i64 t.c,.int .i64 t.f] 37)=W1):=e1;clear h hE hb m0 p1 e1 c0 c1
 dsimp only [Tv.v]
 go_enter Tryz.func146,Tryz.ntmps146
 go_wp2_with fail
 rw [HE.out];refine HT.out.mono ?_;rintro e w2 ⟨rfl,⟨vt2,p2,nt2⟩,k2⟩;have hw:IntKind.i64.wrap (n-1)=n-1:=by rw [IntKind.wrap_i64];omega
 obtain ⟨c0,c1,c2,c3,c4⟩:=p2.pb.cells;have f2:=p2.pb.frozen 2;have d0:w2.cell? ⟨W.heap.size,0,none⟩=some (pt g):=aa (k2.blk H0.out.2.1 (fun h=>H0.out.2.2 _ h rfl)) rfl
 have HG:Hid (aq g D vs vt W (w2.setCell ⟨g,2,none⟩ (.int .i64 (n-1))) (n-1) K (E++[⟨3,node,tv0⟩])):=by
  refine aq.fresh H0.out.1 ⟨_,vs,vt2,p2.nodes (n-1),(k2.sub (fun k h=>h.elim .inl (fun h=>.inr (.inr h)))).step (Kp.set w2 g 2 _) (fun k _ e=>.inl e),Nb.refl _ _,nt2,fun _ h=>h,fun _ h=>.inl h⟩
 clear p2 nt2 k2
 go_wp2_with fail
 go_ret
 exact ⟨rfl,HG.out⟩
def Fr0 (lo:Nat) (W:World) (k:Nat):Prop:=lo<=k/\k<W.heap.size
abbrev RF (g lo:Nat) (W:World) (v:Value) (x:Fl):Prop:=ka g (Fr0 lo W) W v x
abbrev RI (g lo:Nat) (W:World) (v:Value) (x:It):Prop:=Rep g (Fr0 lo W) W v x
theorem RF.up {x:Fl}(h:RF g lo W v x) (hb:Below W.heap.size W W'):RF g lo W' v x:=h.turn (fun k hk=>⟨hk.1,Nat.lt_of_lt_of_le hk.2 hb.size⟩) (fun k o _ ho=>ab ho hb)
theorem RI.up (h:RI g lo W v x) (hb:Below W.heap.size W W'):RI g lo W' v x:=h.turn (fun k hk=>⟨hk.1,Nat.lt_of_lt_of_le hk.2 hb.size⟩) (fun k o _ ho=>ab ho hb)
theorem qA (W:World) (ts:List ByteArray) (cs:Array Value) (h:cs=(ts.map Value.string).toArray):Ls (W.alloc (.cells cs 9)) (some ⟨W.heap.size,0,none⟩) ts:=by
 subst h;intro j s hj;refine ⟨_,_,rfl,?_⟩;rw [Nat.zero_add];exact aa (am W _) (by simp [hj])
theorem ai (W:World) (o:Obj):Below W.heap.size W (W.alloc o):=(Below.refl _ _).alloc (Nat.le_refl _) _
theorem bj (g lo:Nat) (W:World) (ts:List ByteArray) (cs:Array Value) (n b:Nat) (hw:W.heap.size=b) (hcs:cs=(ts.map Value.string).toArray) (hn:ts.length=n) (h1:ts.length<=1000) (hlo:lo<=W.heap.size) :
  Da 95 #[.slice (some ⟨b,0,none⟩) n n] (W.alloc (.cells cs 9)) fun r w'=>∃c,r=.returned (wdV 2 (.slice (some ⟨c,0,none⟩) n n))/\RF g lo w' (wdV 2 (.slice (some ⟨c,0,none⟩) n n)) (.wd 2 ts)/\Below W.heap.size W w':=by
 subst hn hw;refine (yF _ _ _ _ _ rfl).mono ?_;rintro r w' ⟨rfl,rfl⟩;exact ⟨_,rfl,.wd (qA W ts cs hcs) (fun a ha=>by cases ha;exact ⟨hlo,by rw [World.size_alloc];exact Nat.lt_succ_self _⟩) h1,ai _ _⟩
theorem aB (g lo:Nat) (W:World) (ts:List ByteArray) (cs:Array Value) (n b:Nat) (hw:W.heap.size=b) (hcs:cs=(ts.map Value.string).toArray) (hn:ts.length=n) (h1:ts.length<=1000) (hlo:lo<=W.heap.size) :
  Da 97 #[.slice (some ⟨b,0,none⟩) n n] (W.alloc (.cells cs 9)) fun r w'=>∃c,r=.returned (wdV 6 (.slice (some ⟨c,0,none⟩) n n))/\RF g lo w' (wdV 6 (.slice (some ⟨c,0,none⟩) n n)) (.wd 6 ts)/\Below W.heap.size W w':=by
 subst hn hw;refine (ux _ _ _ _ _ rfl).mono ?_;rintro r w' ⟨rfl,rfl⟩;exact ⟨_,rfl,.wd (qA W ts cs hcs) (fun a ha=>by cases ha;exact ⟨hlo,by rw [World.size_alloc];exact Nat.lt_succ_self _⟩) h1,ai _ _⟩
theorem kT (g:Nat) (p:Option Addr) (n c:Nat) (W:World) :
  Da 227 #[pt g,.slice p n c] W fun r w'=>r=.returned (rwV (W.heap.size+1) (W.heap.size+1+1))/\w'=((W.alloc (.cells #[pt g] 83)).alloc (.cells #[.slice p n c] 102)).alloc (.cells #[alV W.heap.size (W.heap.size+1)] 152):=by
 have hmf:=mkfn
 go_enter Tryz.func227,Tryz.ntmps227
 go_wp2_with fail
 go_ret
 exact ⟨rfl,rfl⟩
theorem vC (g:Nat) (p:Option Addr) (n c:Nat) (W:World) :
  Da 193 #[pt g,.slice p n c] W fun r w'=>r=.returned (agV g (rwV (W.heap.size+1) (W.heap.size+1+1)))/\w'=((W.alloc (.cells #[pt g] 83)).alloc (.cells #[.slice p n c] 102)).alloc (.cells #[alV W.heap.size (W.heap.size+1)] 152):=by
 have hmf:=mkfn
 go_enter Tryz.func193,Tryz.ntmps193
 go_wp2_with (go_at_call 227;refine (kT _ _ _ _ _).mono ?_;rintro r w1 ⟨rfl,rfl⟩)
 go_ret
 exact ⟨rfl,rfl⟩
theorem sL (g:Nat) (p:Option Addr) (n c:Nat) (W:World) :
  Da 223 #[pt g,.slice p n c] W fun r w'=>r=.returned (ocV g (rwV (W.heap.size+1) (W.heap.size+1+1)))/\w'=((W.alloc (.cells #[pt g] 83)).alloc (.cells #[.slice p n c] 102)).alloc (.cells #[alV W.heap.size (W.heap.size+1)] 152):=by
 have hmf:=mkfn
 go_enter Tryz.func223,Tryz.ntmps223
 go_wp2_with (go_at_call 227;refine (kT _ _ _ _ _).mono ?_;rintro r w1 ⟨rfl,rfl⟩)
 go_ret
 exact ⟨rfl,rfl⟩
theorem sK (g f:Nat) (W:World) :
  Da 242 #[pt g,mtV g f] W fun r w'=>r=.returned (ocV g (exV W.heap.size))/\w'=W.alloc (.cells #[mtV g f] 153):=by
 have hmf:=mkfn
 go_enter Tryz.func242,Tryz.ntmps242
 go_wp2_with fail
 go_ret
 exact ⟨rfl,rfl⟩
theorem mW (xs:List Value) (r:List Fl) (hd:∃k ts rest,r=Fl.wd k ts :: rest) (hl:r.length<=1000) (h:Al (RF g lo W) xs r) (hlo:lo<=W.heap.size) (V W':World) (hV:W.alloc (.cells xs.toArray 153)=V)
  (hW:((V.alloc (.cells #[pt g] 83)).alloc (.cells #[.slice (some ⟨W.heap.size,0,none⟩) xs.length xs.length] 102)).alloc (.cells #[alV V.heap.size (V.heap.size+1)] 152)=W') :
  gU g (Fr0 lo W') W' (rwV (V.heap.size+1) (V.heap.size+1+1)) (.row r)/\Below W.heap.size W W':=by
 have hVs:V.heap.size=W.heap.size+1:=by rw [<-hV,World.size_alloc]
 have hWs:W'.heap.size=V.heap.size+3:=by rw [<-hW];simp only [World.size_alloc]
 have hb0:Below W.heap.size W V:=by rw [<-hV];exact ai _ _
 have hb1:Below V.heap.size V W':=by
  rw [<-hW];exact ((ai _ _).alloc (by rw [World.size_alloc];exact Nat.le_succ _) _).alloc (by simp only [World.size_alloc];omega) _
 have hb:Below W.heap.size W W':=hb0.trans (hb1.mono hb0.size);have x3:W'.heap[V.heap.size]?=some (.cells #[pt g] 83 (0,0)):=by rw [<-hW];exact ay (ay (am _ _) _) _
 have x1:W'.heap[V.heap.size+1]?=some (.cells #[.slice (some ⟨W.heap.size,0,none⟩) xs.length xs.length] 102 (0,0)):=by
  rw [<-hW];have:=am (V.alloc (.cells #[pt g] 83)) (.cells #[.slice (some ⟨W.heap.size,0,none⟩) xs.length xs.length] 102);rw [World.size_alloc] at this;exact ay this _
 have x2:W'.heap[V.heap.size+1+1]?=some (.cells #[alV V.heap.size (V.heap.size+1)] 152 (0,0)):=by
  rw [<-hW];have:=am ((V.alloc (.cells #[pt g] 83)).alloc (.cells #[.slice (some ⟨W.heap.size,0,none⟩) xs.length xs.length] 102)) (.cells #[alV V.heap.size (V.heap.size+1)] 152);rw [World.size_alloc,World.size_alloc] at this;exact this
 refine ⟨.row ⟨⟨_,_,xs,x1,?_,h.mono (fun v x hx=>RF.up hx hb),?_⟩,x3,⟨by omega,by omega⟩,⟨by omega,by omega⟩,hl⟩ x2 ⟨by omega,by omega⟩ hd,hb⟩
 ·intro j s hj;obtain ⟨x,_,hx⟩:=h.at hj;refine ⟨(Rep.fl hx).isFn,_,_,rfl,?_⟩;have hc:V.heap[W.heap.size]?=some (.cells xs.toArray 153 (0,0)):=by rw [<-hV];exact am _ _
  exact aa (ab hc hb1) (by rw [Nat.zero_add];simpa using hj)
 ·intro a ha;cases ha;exact ⟨hlo,by show W.heap.size<_;omega⟩
theorem cK {g lo:Nat}{W:World}(xs:List Value) (n:Nat) (r:List Fl) (hd:∃k ts rest,r=Fl.wd k ts :: rest) (hl:r.length<=1000) (h:Al (RF g lo W) xs r) (hn:xs.length=n) (hlo:lo<=W.heap.size) (b:Nat) (hw:W.heap.size=b) :
  Da 193 #[pt g,.slice (some ⟨b,0,none⟩) n n] (W.alloc (.cells xs.toArray 153)) fun e w'=>∃b1 b2,e=.returned (agV g (rwV b1 b2))/\RI g lo w' (agV g (rwV b1 b2)) (.again (.row r))/\Below W.heap.size W w':=by
 subst hn hw;refine (vC _ _ _ _ _).mono ?_;rintro e w' ⟨rfl,hw⟩;obtain ⟨h1,h2⟩:=mW xs r hd hl h hlo _ _ rfl hw.symm;exact ⟨_,_,rfl,.again h1,h2⟩
theorem fG {g lo:Nat}{W:World}(xs:List Value) (n:Nat) (r:List Fl) (hd:∃k ts rest,r=Fl.wd k ts :: rest) (hl:r.length<=1000) (h:Al (RF g lo W) xs r) (hn:xs.length=n) (hlo:lo<=W.heap.size) (b:Nat) (hw:W.heap.size=b) :
  Da 223 #[pt g,.slice (some ⟨b,0,none⟩) n n] (W.alloc (.cells xs.toArray 153)) fun e w'=>∃b1 b2,e=.returned (ocV g (rwV b1 b2))/\RI g lo w' (ocV g (rwV b1 b2)) (.once (.row r))/\Below W.heap.size W w':=by
 subst hn hw;refine (sL _ _ _ _ _).mono ?_;rintro e w' ⟨rfl,hw⟩;obtain ⟨h1,h2⟩:=mW xs r hd hl h hlo _ _ rfl hw.symm;exact ⟨_,_,rfl,.once h1,h2⟩
theorem kM {g lo:Nat}(W:World) (m:M) (f:Nat) (hf:m.id=f) (hlo:lo<=W.heap.size) :
  Da 242 #[pt g,mtV g f] W fun e w'=>∃b,e=.returned (ocV g (exV b))/\RI g lo w' (ocV g (exV b)) (.once (.ex m))/\Below W.heap.size W w':=by
 subst hf;refine (sK _ _ _).mono ?_;rintro e w' ⟨rfl,rfl⟩;exact ⟨_,rfl,.once (.ex (am _ _) ⟨hlo,by rw [World.size_alloc];exact Nat.lt_succ_self _⟩),ai _ _⟩
theorem qp {D:Nat->Prop}(h:Ps g D W n K E vs vt) (hb:Below W.heap.size W V) (xs:List Value) (r:List It) (hr:Al (RI g W.heap.size V) xs r) (X:World) (hX:V.alloc (.cells xs.toArray 153)=X) :
  Ps g (Dn D W.heap.size X.heap.size) X n K E vs vt/\Row g (Dn D W.heap.size X.heap.size) X (some ⟨V.heap.size,0,none⟩) xs r/\Below W.heap.size W X:=by
 have hb1:Below V.heap.size V X:=by rw [<-hX];exact ai _ _
 have hs:X.heap.size=V.heap.size+1:=by rw [<-hX,World.size_alloc]
 have hb2:Below W.heap.size W X:=hb.trans (hb1.mono hb.size);refine ⟨h.fresh hb2,⟨fun j s hj=>?_,hr.mono (fun v x hx=>(RI.up hx hb1).turn (fun k hk=>.inr hk) (fun _ _ _ h=>h)),?_⟩,hb2⟩
 ·obtain ⟨x,_,hx⟩:=hr.at hj;refine ⟨hx.isFn,_,_,rfl,?_⟩;rw [<-hX];exact aa (am V _) (by rw [Nat.zero_add];simpa using hj)
 ·intro a ha;cases ha;exact .inr ⟨hb.size,by show V.heap.size<_;omega⟩
theorem aC {D:Nat->Prop}(h:Ps g D W n K E vs vt) (hb:Below W.heap.size W V) (node:Int) (xs:List Value) (m:Nat) (r:List It) (hr:Al (RI g W.heap.size V) xs r) (hm:xs.length=m) (hx:xs.length<=1000) (hn0:0<=n) (hn:n<=100000000) (hK:K.length<=10000000) (hE:E.length<=1000000000) (b:Nat) (hw:V.heap.size=b) :
  Da 94 #[pt g,.int .u8 node,.slice (some ⟨b,0,none⟩) m m] (V.alloc (.cells xs.toArray 153)) fun e w'=>e=.returned (.int .i64 1)/\aq g D vs vt W w' (n+1) (r++.lv node :: K) (E++[⟨1,node,tv0⟩]):=by
 subst hw;obtain ⟨h1,h2,h3⟩:=qp h hb xs r hr _ rfl;refine (yk h1 node _ xs m m r hm h2 hx hn0 hn hK hE).mono ?_;rintro e w' ⟨rfl,hG⟩;exact ⟨rfl,aq.fresh h3 hG⟩
theorem fY {D:Nat->Prop}(h:Ps g D W n K E vs vt) (hb:Below W.heap.size W V) (xs:List Value) (m:Nat) (r:List It) (hr:Al (RI g W.heap.size V) xs r) (hm:xs.length=m) (hx:xs.length<=1000) (hK:K.length<=10000000) (b:Nat) (hw:V.heap.size=b) :
  Da 145 #[pt g,.slice (some ⟨b,0,none⟩) m m] (V.alloc (.cells xs.toArray 153)) fun e w'=>e=.returned (.int .i64 1)/\aq g D vs vt W w' n (r++K) E:=by
 subst hw;obtain ⟨h1,h2,h3⟩:=qp h hb xs r hr _ rfl;refine (fy h1 _ xs m m r hm h2 (by omega) (by omega)).mono ?_;rintro e w' ⟨rfl,hG⟩;exact ⟨rfl,aq.fresh h3 hG⟩
end Go.Proofs.YtpdlohfdjiaegaaGreatDoor
