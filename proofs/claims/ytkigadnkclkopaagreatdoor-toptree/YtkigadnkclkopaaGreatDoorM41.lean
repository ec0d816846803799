import Derived.Test.YtkigadnkclkopaaGreatDoorM40
set_option linter.unusedVariables false
set_option linter.unusedSimpArgs false
namespace Go.Proofs.YtkigadnkclkopaaGreatDoor
open Go.RowKit
set_option maxHeartbeats 400000 in
theorem pickRow_any {g:Nat}{D:Nat→Prop}{W:World}{b1 b2 b3:Nat}{r:List Fl}(h:RowB g D W b3 b1 r) (h2:W.heap[b2]?=some (.cells #[alV b3 b1] 106 (0,0))) (hr:∃k ts rest,r=Fl.wd k ts :: rest) (t:Tv) :
  Calls Tryz.prog 182 #[t.v,pt b1,pt b2] W fun e w'=>∃u,e=.returned u∧PV g D W u (Pk.pick t (.row r))∧Below W.heap.size W w':=by
 obtain ⟨k,ts,rest,hrr⟩:=hr
 have HG:Hid (Rep g D W (alV b3 b1) (.all r)):=.all h
 obtain ⟨ao,cap,xs,x1,x2,x3,x4⟩:=h.ex
 rw [hrr] at x3
 obtain ⟨v0,xs',rfl,hv0,_⟩:∃v0 xs',xs=v0 :: xs'∧RepF g D W v0 (.wd k ts)∧True:=by
  cases x3 with
  |cons hv hl=>exact ⟨_,_,rfl,hv,trivial⟩
 obtain ⟨_,b,off,rfl,c0⟩:=x2 0 v0 rfl
 obtain ⟨ao,cp,rfl,hl,hlen⟩:∃ao cp,v0=wdV k (.slice ao ts.length cp)∧Ls W ao ts∧ts.length≤1000:=by
  cases hv0 with
  |wd hl hd hlen=>exact ⟨_,_,rfl,hl,hlen⟩
 ·clear hv0
  have HS:Hid (∀V,Below W.heap.size W V→Calls Tryz.prog 105 #[.agg #[.int .u8 k,.slice ao ts.length cp],.agg #[.int .u8 t.k,.string t.t,.int .i64 t.a,.int .i64 t.l,.int .i64 t.c,.int .i64 t.f]] V fun r w'=>r=.returned (.int .i64 (dd (t.k == k && has ts t.t)))∧Below V.heap.size V w'):=fun V hb=>stand_any k ao ts cp t V (hl.below hb) hlen
  have hp:Pk.pick t (.row r)=if (t.k == k && has ts t.t) then some (.all r) else none:=by rw [hrr];rfl
  rw [hp]
  generalize (t.k == k && has ts t.t)=cb at *
  have y1:W.cell? ⟨b1,0,none⟩=_:=blk_cell x1 rfl
  have y2:W.cell? ⟨b2,0,none⟩=_:=blk_cell h2 rfl
  have z1:=blk_lt x1
  have z2:=blk_lt h2
  have z3:b<W.heap.size:=World.block_lt_of_cell? _ _ c0
  have HY2:Hid (W.heap[b2]?=some (.cells #[alV b3 b1] 106 (0,0))):=h2
  have q1:(0:Int)<(xs'.length:Int)+1:=by omega
  clear h h2 hrr x1 x2 x3 x4 hl hp
  have HA:Hid (Below W.heap.size W (W.alloc (.cells #[.int .u8 t.k,.string t.t,.int .i64 t.a,.int .i64 t.l,.int .i64 t.c,.int .i64 t.f] 42)).drew):=(tok_below W t).drew
  rw [Nat.add_zero] at c0
  dsimp only [wdV] at c0
  dsimp only [Tv.v,List.length_cons] at *
  cases cb
  ·have e0:dd false=0:=rfl
   rw [e0] at HS
   clear e0
   go_enter Tryz.func182,Tryz.ntmps182
   go_wp2_with fail
   go_region_with (go_at_call 105;refine (HS.out _ HA.out).mono ?_;rintro r w1 ⟨rfl,hb1⟩;have HB:Hid (Below W.heap.size W w1):=HA.out.trans (hb1.mono HA.out.size);clear hb1)
   all_goals (
    go_wp2_with fail
    go_ret
    exact ⟨_,rfl,rfl,HB.out⟩)
  ·have e0:dd true=2:=rfl
   rw [e0] at HS
   clear e0
   go_enter Tryz.func182,Tryz.ntmps182
   go_wp2_with fail
   go_region_with (go_at_call 105;refine (HS.out _ HA.out).mono ?_;rintro r w1 ⟨rfl,hb1⟩;have HB:Hid (Below W.heap.size W w1):=HA.out.trans (hb1.mono HA.out.size);have y5:w1.cell? ⟨b2,0,none⟩=some (alV b3 b1):=blk_cell (blk_below HY2.out (HA.out.trans (hb1.mono HA.out.size))) rfl;clear hb1)
   all_goals (
    go_wp2_with fail
    go_ret
    exact ⟨_,rfl,HG.out,HB.out⟩)
set_option maxHeartbeats 400000 in
theorem pickEx_any {g:Nat}{D:Nat→Prop}{W:World}{b:Nat}{m:M}(h2:W.heap[b]?=some (.cells #[mtV g m.id] 107 (0,0))) (t:Tv) :
  Calls Tryz.prog 198 #[t.v,pt b] W fun e w'=>∃u,e=.returned u∧PV g D W u (Pk.pick t (.ex m))∧Below W.heap.size W w':=by
 have HF:Hid (∀V,Calls Tryz.prog 199 #[.agg #[.int .u8 t.k,.string t.t,.int .i64 t.a,.int .i64 t.l,.int .i64 t.c,.int .i64 t.f]] V fun r w'=>r=.returned (.int .u8 (facN t))∧Below V.heap.size V w'):=fun V=>factorN_any t V
 have HA:Hid (Below W.heap.size W (W.alloc (.cells #[.int .u8 t.k,.string t.t,.int .i64 t.a,.int .i64 t.l,.int .i64 t.c,.int .i64 t.f] 42))):=tok_below W t
 have HY:Hid (W.heap[b]?=some (.cells #[mtV g m.id] 107 (0,0))):=h2
 have HP:Hid (Pk.pick t (.ex m)=if facN t == 0 then none else some (.fl (.mt m))):=rfl
 rw [HP.out]
 generalize facN t=z at *
 clear HP h2
 dsimp only [Tv.v]
 by_cases hz:(z == 0)=true
 ·rw [hz]
  go_enter Tryz.func198,Tryz.ntmps198
  go_wp2_with (go_at_call 199;refine (HF.out _).mono ?_;rintro r w1 ⟨rfl,hb1⟩;have HB:Hid (Below W.heap.size W w1):=HA.out.trans (hb1.mono HA.out.size);clear hb1)
  go_ret
  exact ⟨_,rfl,rfl,HB.out⟩
 ·have hz':(z == 0)=false:=by simpa using hz
  clear hz
  rw [hz']
  go_enter Tryz.func198,Tryz.ntmps198
  go_wp2_with (go_at_call 199;refine (HF.out _).mono ?_;rintro r w1 ⟨rfl,hb1⟩;have HB:Hid (Below W.heap.size W w1):=HA.out.trans (hb1.mono HA.out.size);have y5:w1.cell? ⟨b,0,none⟩=some (mtV g m.id):=blk_cell (blk_below HY.out (HA.out.trans (hb1.mono HA.out.size))) rfl;clear hb1)
  go_ret
  exact ⟨_,rfl,.fl (.mt m),HB.out⟩
abbrev Ent (f:Nat):Prop:=∀(args:Array Value) (w:World),(callFunc f args).run Tryz.prog w=.ok (.enter f args) w
theorem pick_any {g:Nat}{D:Nat→Prop}{W:World}{v:Value}{p:Pk}(h:RepP g D W v p) (t:Tv):∃f fi ca,v=.func (.func f) fi ca∧Ent f∧∀V,Below W.heap.size W V→Calls Tryz.prog f (fi.push t.v++ca) V fun e w'=>∃u,e=.returned u∧PV g D V u (Pk.pick t p)∧Below V.heap.size V w':=by
 cases h with
 |fn d=>
  cases d with
  |declaration=>exact ⟨_,_,_,rfl,enters_of Tryz.func107 (by kernel_rfl) rfl,fun V hb=>pdeclaration_any g D t V⟩
  |bracket=>exact ⟨_,_,_,rfl,enters_of Tryz.func151 (by kernel_rfl) rfl,fun V hb=>bracket_any g D t V⟩
  |detail=>exact ⟨_,_,_,rfl,enters_of Tryz.func179 (by kernel_rfl) rfl,fun V hb=>pdetail_any g D t V⟩
 |row h1 h2 h3 h4=>exact ⟨_,_,_,rfl,enters_of Tryz.func182 (by kernel_rfl) rfl,fun V hb=>pickRow_any (h1.turn (fun _ h=>h) (fun k o _ ho=>blk_below ho hb)) (blk_below h2 hb) h4 t⟩
 |ex h1 h2=>exact ⟨_,_,_,rfl,enters_of Tryz.func198 (by kernel_rfl) rfl,fun V hb=>pickEx_any (blk_below h1 hb) t⟩
theorem Ps.below' {g:Nat}{D:Nat→Prop}{W W':World}{n:Int}{K:List It}{E:List Ev}{vs vt:Value}(h:Ps g D W n K E vs vt) (hb:Below W.heap.size W W'):Ps g D W' n K E vs vt:=by
 obtain ⟨xs,h1,h2⟩:=h.st
 exact ⟨h.pb.below hb,⟨xs,h1.below hb,h2.mono (fun v x hx=>hx.turn (fun _ h=>h) (fun k o _ ho=>blk_below ho hb))⟩,h.ev.below hb,h.dg,h.ds,h.dt,fun k hk=>Nat.lt_of_lt_of_le (h.dl k hk) hb.size⟩
theorem Ps.quiet {g:Nat}{D:Nat→Prop}{W W':World}{n:Int}{K:List It}{E:List Ev}{vs vt:Value}(h:Ps g D W n K E vs vt) (hb:Below W.heap.size W W'):Gone g D vs vt W W' n K E:=
 ⟨D,vs,vt,h.below' hb,Kp.of_below hb,Nb.refl _ _,Nb.refl _ _,fun _ h=>h,fun _ h=>.inl h⟩
theorem all_ps {g:Nat}{D:Nat→Prop}{W:World}{n:Int}{K:List It}{E:List Ev}{vs vt:Value}(h:Ps g D W n K E vs vt) {b1 b3:Nat}{r:List Fl}(hr:RowB g D W b3 b1 r) (t:Tv) (hK:K.length≤10000000) :
  Calls Tryz.prog 181 #[t.v,pt b3,pt b1] W fun e w'=>e=.returned (.int .i64 1)∧Gone g D vs vt W w' n (r.map It.fl++K) E:=by
 obtain ⟨ao,cap,xs,x1,x2,x3,x4⟩:=hr.ex
 have hxl:xs.length≤1000:=by rw [x3.len];exact hr.ln
 have y1:W.cell? ⟨b1,0,none⟩=_:=blk_cell x1 rfl
 have y3:W.cell? ⟨b3,0,none⟩=_:=blk_cell hr.pb rfl
 have hR:Row g D W ao xs (r.map It.fl):=⟨x2,x3.map (fun v x hx=>.fl hx),x4⟩
 have HX:Hid (∀V,Below W.heap.size W V→Calls Tryz.prog 103 #[pt g,.slice ao xs.length cap] V fun e w'=>e=.returned (.int .i64 1)∧Gone g D vs vt W w' n (r.map It.fl++K) E):=fun V hb=>by
  refine (expect_gone (h.below' hb) ao xs xs.length cap (r.map It.fl) rfl (hR.turn (fun k o _ ho=>blk_below ho hb)) (by omega) (by omega)).mono ?_
  rintro e w' ⟨rfl,hG⟩
  refine ⟨rfl,Gone.go (Kp.of_below hb) (Nb.refl _ _) (Nb.refl _ _) (fun _ h=>h) (fun _ h=>.inl h) hG⟩
 have HA:Hid (Below W.heap.size W (W.alloc (.cells #[.int .u8 t.k,.string t.t,.int .i64 t.a,.int .i64 t.l,.int .i64 t.c,.int .i64 t.f] 42))):=tok_below W t
 have z1:=blk_lt x1
 have z3:=blk_lt hr.pb
 clear h hr x1 x2 x3 x4 hR hK
 dsimp only [Tv.v]
 go_enter Tryz.func181,Tryz.ntmps181
 go_wp2_with (go_at_call 103;refine (HX.out _ HA.out).mono ?_;rintro e w1 ⟨rfl,hG⟩;have HG:Hid (Gone g D vs vt W w1 n (r.map It.fl++K) E):=hG;clear hG)
 go_ret
 exact ⟨rfl,HG.out⟩
theorem expect_mix {g:Nat}{D:Nat→Prop}{W V:World}{n:Int}{K:List It}{E:List Ev}{vs vt:Value}(h:Ps g D W n K E vs vt) (hb:Below W.heap.size W V) (xs:List Value) (m:Nat) (r:List It) (hr:Al (Rep g D V) xs r) (hm:xs.length=m) (hx:xs.length≤1000) (hK:K.length≤10000000) :
  Calls Tryz.prog 103 #[pt g,.slice (some ⟨V.heap.size,0,none⟩) m m] (V.alloc (.cells xs.toArray 107)) fun e w'=>e=.returned (.int .i64 1)∧Gone g D vs vt W w' n (r++K) E:=by
 obtain ⟨X,hX⟩:∃X,V.alloc (.cells xs.toArray 107)=X:=⟨_,rfl⟩
 have hb1:Below V.heap.size V X:=by rw [←hX];exact pbelow_new _ _
 have hs:X.heap.size=V.heap.size+1:=by rw [←hX,World.size_alloc]
 have hb2:Below W.heap.size W X:=hb.trans (hb1.mono hb.size)
 have hR:Row g (Dn D W.heap.size X.heap.size) X (some ⟨V.heap.size,0,none⟩) xs r:=by
  refine ⟨fun j s hj=>?_,hr.mono (fun v x hx=>hx.turn (fun k hk=>.inl hk) (fun k o _ ho=>blk_below ho hb1)),?_⟩
  ·obtain ⟨x,_,hx⟩:=hr.at hj
   refine ⟨hx.isFn,_,_,rfl,?_⟩
   rw [←hX]
   exact blk_cell (new_at V _) (by rw [Nat.zero_add];simpa using hj)
  ·intro a ha
   cases ha
   exact .inr ⟨hb.size,by show V.heap.size<_;omega⟩
 rw [hX]
 refine (expect_gone (h.fresh hb2) _ xs m m r hm hR (by omega) (by omega)).mono ?_
 rintro e w' ⟨rfl,hG⟩
 exact ⟨rfl,Gone.fresh hb2 hG⟩
theorem eql_nil (w:World):(binOp .eql 107 .nilFunc .nilFunc).run Tryz.prog w=.ok (.bool true) w:=by kernel_rfl
theorem eql_fn (fn:Fn) (fi ca:Array Value) (w:World):(binOp .eql 107 (.func fn fi ca) .nilFunc).run Tryz.prog w=.ok (.bool false) w:=by kernel_rfl
set_option maxHeartbeats 400000 in
theorem once_ps {g:Nat}{D:Nat→Prop}{W:World}{n:Int}{K:List It}{E:List Ev}{vs vt:Value}(h:Ps g D W n K E vs vt) {v:Value}{p:Pk}(hv:RepP g D W v p) (t:Tv) (hK:K.length≤10000000) :
  Calls Tryz.prog 152 #[.agg #[pt g,v],t.v] W fun e w'=>e=.returned (.int .i64 1)∧Gone g D vs vt W w' n ((Pk.pick t p).toList++K) E:=by
 have hv0:=hv
 obtain ⟨f,fi,ca,rfl,eg,hc⟩:=pick_any hv t
 have hmf:∀(fn:Fn) (first cap:Array Value) (w:World),(Instr.makeFunc fn first cap).run Tryz.prog w=.ok (.func fn first cap) w:=fun _ _ _ _=>rfl
 have HC:Hid (∀V,Below W.heap.size W V→Calls Tryz.prog f (fi.push (.agg #[.int .u8 t.k,.string t.t,.int .i64 t.a,.int .i64 t.l,.int .i64 t.c,.int .i64 t.f])++ca) V fun e w'=>∃u,e=.returned u∧PV g D V u (Pk.pick t p)∧Below V.heap.size V w'):=hc
 have HP:Hid (Ps g D W n K E vs vt∧K.length≤10000000∧RepP g D W (.func (.func f) fi ca) p):=⟨h,hK,hv0⟩
 have HA:Hid (Below W.heap.size W ((W.alloc (.cells #[pt g,.func (.func f) fi ca] 133)).alloc (.cells #[.int .u8 t.k,.string t.t,.int .i64 t.a,.int .i64 t.l,.int .i64 t.c,.int .i64 t.f] 42))):=(pbelow_new _ _).alloc (by rw [World.size_alloc];exact Nat.le_succ _) _
 clear hc h hK hv hv0
 dsimp only [Tv.v]
 generalize Pk.pick t p=o at *
 go_enter Tryz.func152,Tryz.ntmps152
 go_wp2_with fail
 refine (HC.out _ HA.out).mono ?_
 rintro e w1 ⟨u,rfl,hu,hb1⟩
 have hb:Below W.heap.size W w1:=HA.out.trans (hb1.mono HA.out.size)
 have d0:w1.cell? ⟨W.heap.size,0,none⟩=some (pt g):=blk_cell (blk_below (alloc_at' (new_at W _) _) hb1) rfl
 have d1:w1.cell? ⟨W.heap.size,1,none⟩=some (.func (.func f) fi ca):=blk_cell (blk_below (alloc_at' (new_at W _) _) hb1) rfl
 have HB:Hid (Below W.heap.size W w1):=hb
 cases o with
 |none=>
  have hu':u=.nilFunc:=hu
  subst hu'
  clear hu hb hb1
  have q0:=eql_nil
  go_wp2_with fail
  go_ret
  exact ⟨rfl,HP.out.1.quiet HB.out⟩
 |some i=>
  have hu':Rep g D w1 u i:=Rep.turn hu (fun _ h=>h) (fun k o _ ho=>blk_below ho hb1)
  obtain ⟨fn,fi2,ca2,rfl⟩:=hu'.isFn
  have HU:Hid (Rep g D w1 (.func fn fi2 ca2) i):=hu'
  clear hu hb hb1 hu'
  have q0:=eql_fn
  go_wp2_with fail
  refine (expect_mix HP.out.1 HB.out [.func fn fi2 ca2] 1 [i] (.cons HU.out .nil) rfl (by show 1≤1000;decide) HP.out.2.1).mono ?_
  rintro e w2 ⟨rfl,hG⟩
  have HG:Hid (Gone g D vs vt W w2 n ([i]++K) E):=hG
  clear hG
  go_wp2_with fail
  go_ret
  exact ⟨rfl,HG.out⟩
set_option maxHeartbeats 400000 in
theorem again_ps {g:Nat}{D:Nat→Prop}{W:World}{n:Int}{K:List It}{E:List Ev}{vs vt:Value}(h:Ps g D W n K E vs vt) {v:Value}{p:Pk}(hv:RepP g D W v p) (t:Tv) (hK:K.length≤10000000) :
  Calls Tryz.prog 108 #[.agg #[pt g,v],t.v] W fun e w'=>e=.returned (.int .i64 1)∧Gone g D vs vt W w' n (agR p (Pk.pick t p)++K) E:=by
 have hv0:=hv
 obtain ⟨f,fi,ca,rfl,eg,hc⟩:=pick_any hv t
 have hmf:∀(fn:Fn) (first cap:Array Value) (w:World),(Instr.makeFunc fn first cap).run Tryz.prog w=.ok (.func fn first cap) w:=fun _ _ _ _=>rfl
 have HC:Hid (∀V,Below W.heap.size W V→Calls Tryz.prog f (fi.push (.agg #[.int .u8 t.k,.string t.t,.int .i64 t.a,.int .i64 t.l,.int .i64 t.c,.int .i64 t.f])++ca) V fun e w'=>∃u,e=.returned u∧PV g D V u (Pk.pick t p)∧Below V.heap.size V w'):=hc
 have HP:Hid (Ps g D W n K E vs vt∧K.length≤10000000∧RepP g D W (.func (.func f) fi ca) p):=⟨h,hK,hv0⟩
 have HA:Hid (Below W.heap.size W ((W.alloc (.cells #[pt g,.func (.func f) fi ca] 133)).alloc (.cells #[.int .u8 t.k,.string t.t,.int .i64 t.a,.int .i64 t.l,.int .i64 t.c,.int .i64 t.f] 42))):=(pbelow_new _ _).alloc (by rw [World.size_alloc];exact Nat.le_succ _) _
 clear hc h hK hv hv0
 dsimp only [Tv.v]
 generalize Pk.pick t p=o at *
 go_enter Tryz.func108,Tryz.ntmps108
 go_wp2_with fail
 refine (HC.out _ HA.out).mono ?_
 rintro e w1 ⟨u,rfl,hu,hb1⟩
 have hb:Below W.heap.size W w1:=HA.out.trans (hb1.mono HA.out.size)
 have d0:w1.cell? ⟨W.heap.size,0,none⟩=some (pt g):=blk_cell (blk_below (alloc_at' (new_at W _) _) hb1) rfl
 have d1:w1.cell? ⟨W.heap.size,1,none⟩=some (.func (.func f) fi ca):=blk_cell (blk_below (alloc_at' (new_at W _) _) hb1) rfl
 have HB:Hid (Below W.heap.size W w1):=hb
 cases o with
 |none=>
  have hu':u=.nilFunc:=hu
  subst hu'
  clear hu hb hb1
  have q0:=eql_nil
  go_wp2_with fail
  go_ret
  exact ⟨rfl,HP.out.1.quiet HB.out⟩
 |some i=>
  have hu':Rep g D w1 u i:=Rep.turn hu (fun _ h=>h) (fun k o _ ho=>blk_below ho hb1)
  obtain ⟨fn,fi2,ca2,rfl⟩:=hu'.isFn
  have HU:Hid (Rep g D w1 (.func fn fi2 ca2) i):=hu'
  clear hu hb hb1 hu'
  have q0:=eql_fn
  go_wp2_with fail
  refine (expect_mix HP.out.1 HB.out [.func fn fi2 ca2,agV g (.func (.func f) fi ca)] 2 [i,.again p] (.cons HU.out (.cons (.again (HP.out.2.2.turn (fun _ h=>h) (fun k o _ ho=>blk_below ho HB.out))) .nil)) rfl (by show 2≤1000;decide) HP.out.2.1).mono ?_
  rintro e w2 ⟨rfl,hG⟩
  have HG:Hid (Gone g D vs vt W w2 n ([i,.again p]++K) E):=hG
  clear hG
  go_wp2_with fail
  go_ret
  exact ⟨rfl,HG.out⟩
def PAft (g:Nat) (D:Nat→Prop) (vs vt:Value) (W:World) (n:Int) (K:List It) (E:List Ev) (e:Ending) (w':World):Gw→Prop
 |.ref=>e=.returned (.int .i64 0)∧Below W.heap.size W w'
 |.ex r=>e=.returned (.int .i64 1)∧Gone g D vs vt W w' n (r++K) E
 |.op nd r=>e=.returned (.int .i64 1)∧Gone g D vs vt W w' (n+1) (r++.lv nd :: K) (E++[⟨1,nd,tv0⟩])
def Psz (g:Nat) (D:Nat→Prop) (W:World) (n:Int) (K:List It) (E:List Ev) (vs vt:Value):Prop:=
 Ps g D W n K E vs vt∧0≤n∧n≤100000000∧K.length≤10000000∧E.length≤1000000000
end Go.Proofs.YtkigadnkclkopaaGreatDoor
