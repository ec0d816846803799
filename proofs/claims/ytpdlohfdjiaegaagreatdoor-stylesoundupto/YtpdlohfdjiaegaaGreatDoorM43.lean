import Derived.Test.YtpdlohfdjiaegaaGreatDoorM42
set_option linter.unusedVariables false
set_option linter.unusedSimpArgs false
namespace Go.Proofs.YtpdlohfdjiaegaaGreatDoor
open Go.RowKit
theorem Ps.below' {g:Nat}{D:Nat→Prop}{W W':World}{n:Int}{K:List It}{E:List Ev}{vs vt:Value}(h:Ps g D W n K E vs vt) (hb:Below W.heap.size W W'):Ps g D W' n K E vs vt:=by
 obtain ⟨xs,h1,h2⟩:=h.st
 exact ⟨h.pb.below hb,⟨xs,h1.below hb,h2.mono (fun v x hx=>hx.turn (fun _ h=>h) (fun k o _ ho=>blk_below ho hb))⟩,h.ev.below hb,h.dg,h.ds,h.dt,fun k hk=>Nat.lt_of_lt_of_le (h.dl k hk) hb.size⟩
theorem Ps.quiet {g:Nat}{D:Nat→Prop}{W W':World}{n:Int}{K:List It}{E:List Ev}{vs vt:Value}(h:Ps g D W n K E vs vt) (hb:Below W.heap.size W W'):Gone g D vs vt W W' n K E:=
 ⟨D,vs,vt,h.below' hb,Kp.of_below hb,Nb.refl _ _,Nb.refl _ _,fun _ h=>h,fun _ h=>.inl h⟩
theorem all_ps {g:Nat}{D:Nat→Prop}{W:World}{n:Int}{K:List It}{E:List Ev}{vs vt:Value}(h:Ps g D W n K E vs vt) {b1 b3:Nat}{r:List Fl}(hr:RowB g D W b3 b1 r) (t:Tv) (hK:K.length≤10000000) :
  Calls Tryz.prog 243 #[t.v,pt b3,pt b1] W fun e w'=>e=.returned (.int .i64 1)∧Gone g D vs vt W w' n (r.map It.fl++K) E:=by
 obtain ⟨ao,cap,xs,x1,x2,x3,x4⟩:=hr.ex
 have hxl:xs.length≤1000:=by rw [x3.len];exact hr.ln
 have y1:W.cell? ⟨b1,0,none⟩=_:=blk_cell x1 rfl
 have y3:W.cell? ⟨b3,0,none⟩=_:=blk_cell hr.pb rfl
 have hR:Row g D W ao xs (r.map It.fl):=⟨x2,x3.map (fun v x hx=>.fl hx),x4⟩
 have HX:Hid (∀V,Below W.heap.size W V→Calls Tryz.prog 145 #[pt g,.slice ao xs.length cap] V fun e w'=>e=.returned (.int .i64 1)∧Gone g D vs vt W w' n (r.map It.fl++K) E):=fun V hb=>by
  refine (expect_gone (h.below' hb) ao xs xs.length cap (r.map It.fl) rfl (hR.turn (fun k o _ ho=>blk_below ho hb)) (by omega) (by omega)).mono ?_
  rintro e w' ⟨rfl,hG⟩
  refine ⟨rfl,Gone.go (Kp.of_below hb) (Nb.refl _ _) (Nb.refl _ _) (fun _ h=>h) (fun _ h=>.inl h) hG⟩
 have HA:Hid (Below W.heap.size W (W.alloc (.cells #[.int .u8 t.k,.string t.t,.int .i64 t.a,.int .i64 t.l,.int .i64 t.c,.int .i64 t.f] 37))):=tok_below W t
 have z1:=blk_lt x1
 have z3:=blk_lt hr.pb
 clear h hr x1 x2 x3 x4 hR hK
 dsimp only [Tv.v]
 go_enter Tryz.func243,Tryz.ntmps243
 go_wp2_with (go_at_call 145;refine (HX.out _ HA.out).mono ?_;rintro e w1 ⟨rfl,hG⟩;have HG:Hid (Gone g D vs vt W w1 n (r.map It.fl++K) E):=hG;clear hG)
 go_ret
 exact ⟨rfl,HG.out⟩
theorem expect_mix {g:Nat}{D:Nat→Prop}{W V:World}{n:Int}{K:List It}{E:List Ev}{vs vt:Value}(h:Ps g D W n K E vs vt) (hb:Below W.heap.size W V) (xs:List Value) (m:Nat) (r:List It) (hr:Al (Rep g D V) xs r) (hm:xs.length=m) (hx:xs.length≤1000) (hK:K.length≤10000000) :
  Calls Tryz.prog 145 #[pt g,.slice (some ⟨V.heap.size,0,none⟩) m m] (V.alloc (.cells xs.toArray 153)) fun e w'=>e=.returned (.int .i64 1)∧Gone g D vs vt W w' n (r++K) E:=by
 obtain ⟨X,hX⟩:∃X,V.alloc (.cells xs.toArray 153)=X:=⟨_,rfl⟩
 have hb1:Below V.heap.size V X:=by rw [←hX];exact pbelow_new _ _
 have hs:X.heap.size=V.heap.size+1:=by rw [←hX,World.size_alloc]
 have hb2:Below W.heap.size W X:=hb.trans (hb1.mono hb.size)
 have hR:Row g (Dn D W.heap.size X.heap.size) X (some ⟨V.heap.size,0,none⟩) xs r:=by
  refine ⟨fun j s hj=>?_,hr.mono (fun v x hx=>hx.turn (fun k hk=>.inl hk) (fun k o _ ho=>blk_below ho hb1)),?_⟩
  ·obtain ⟨x,_,hx⟩:=hr.at hj
   refine ⟨hx.isFn,_,_,rfl,?_⟩
   rw [←hX]
   exact blk_cell (new_at V _) (by rw [Nat.zero_add];simpa using hj)
  ·intro a ha
   cases ha
   exact .inr ⟨hb.size,by show V.heap.size<_;omega⟩
 rw [hX]
 refine (expect_gone (h.fresh hb2) _ xs m m r hm hR (by omega) (by omega)).mono ?_
 rintro e w' ⟨rfl,hG⟩
 exact ⟨rfl,Gone.fresh hb2 hG⟩
theorem eql_nil (w:World):(binOp .eql 153 .nilFunc .nilFunc).run Tryz.prog w=.ok (.bool true) w:=by kernel_rfl
theorem eql_fn (fn:Fn) (fi ca:Array Value) (w:World):(binOp .eql 153 (.func fn fi ca) .nilFunc).run Tryz.prog w=.ok (.bool false) w:=by kernel_rfl
set_option maxHeartbeats 400000 in
theorem once_ps {g:Nat}{D:Nat→Prop}{W:World}{n:Int}{K:List It}{E:List Ev}{vs vt:Value}(h:Ps g D W n K E vs vt) {v:Value}{p:Pk}(hv:RepP g D W v p) (t:Tv) (hK:K.length≤10000000) :
  Calls Tryz.prog 222 #[.agg #[pt g,v],t.v] W fun e w'=>e=.returned (.int .i64 1)∧Gone g D vs vt W w' n ((Pk.pick t p).toList++K) E:=by
 have hv0:=hv
 obtain ⟨f,fi,ca,rfl,eg,hc⟩:=pick_any hv t
 have hmf:∀(fn:Fn) (first cap:Array Value) (w:World),(Instr.makeFunc fn first cap).run Tryz.prog w=.ok (.func fn first cap) w:=fun _ _ _ _=>rfl
 have HC:Hid (∀V,Below W.heap.size W V→Calls Tryz.prog f (fi.push (.agg #[.int .u8 t.k,.string t.t,.int .i64 t.a,.int .i64 t.l,.int .i64 t.c,.int .i64 t.f])++ca) V fun e w'=>∃u,e=.returned u∧PV g D V u (Pk.pick t p)∧Below V.heap.size V w'):=hc
 have HP:Hid (Ps g D W n K E vs vt∧K.length≤10000000∧RepP g D W (.func (.func f) fi ca) p):=⟨h,hK,hv0⟩
 have HA:Hid (Below W.heap.size W ((W.alloc (.cells #[pt g,.func (.func f) fi ca] 212)).alloc (.cells #[.int .u8 t.k,.string t.t,.int .i64 t.a,.int .i64 t.l,.int .i64 t.c,.int .i64 t.f] 37))):=(pbelow_new _ _).alloc (by rw [World.size_alloc];exact Nat.le_succ _) _
 clear hc h hK hv hv0
 dsimp only [Tv.v]
 generalize Pk.pick t p=o at *
 go_enter Tryz.func222,Tryz.ntmps222
 go_wp2_with fail
 refine (HC.out _ HA.out).mono ?_
 rintro e w1 ⟨u,rfl,hu,hb1⟩
 have hb:Below W.heap.size W w1:=HA.out.trans (hb1.mono HA.out.size)
 have d0:w1.cell? ⟨W.heap.size,0,none⟩=some (pt g):=blk_cell (blk_below (alloc_at' (new_at W _) _) hb1) rfl
 have d1:w1.cell? ⟨W.heap.size,1,none⟩=some (.func (.func f) fi ca):=blk_cell (blk_below (alloc_at' (new_at W _) _) hb1) rfl
 have HB:Hid (Below W.heap.size W w1):=hb
 cases o with
 |none=>
  have hu':u=.nilFunc:=hu
  subst hu'
  clear hu hb hb1
  have q0:=eql_nil
  go_wp2_with fail
  go_ret
  exact ⟨rfl,HP.out.1.quiet HB.out⟩
 |some i=>
  have hu':Rep g D w1 u i:=Rep.turn hu (fun _ h=>h) (fun k o _ ho=>blk_below ho hb1)
  obtain ⟨fn,fi2,ca2,rfl⟩:=hu'.isFn
  have HU:Hid (Rep g D w1 (.func fn fi2 ca2) i):=hu'
  clear hu hb hb1 hu'
  have q0:=eql_fn
  go_wp2_with fail
  refine (expect_mix HP.out.1 HB.out [.func fn fi2 ca2] 1 [i] (.cons HU.out .nil) rfl (by show 1≤1000;decide) HP.out.2.1).mono ?_
  rintro e w2 ⟨rfl,hG⟩
  have HG:Hid (Gone g D vs vt W w2 n ([i]++K) E):=hG
  clear hG
  go_wp2_with fail
  go_ret
  exact ⟨rfl,HG.out⟩
set_option maxHeartbeats 400000 in
theorem again_ps {g:Nat}{D:Nat→Prop}{W:World}{n:Int}{K:List It}{E:List Ev}{vs vt:Value}(h:Ps g D W n K E vs vt) {v:Value}{p:Pk}(hv:RepP g D W v p) (t:Tv) (hK:K.length≤10000000) :
  Calls Tryz.prog 150 #[.agg #[pt g,v],t.v] W fun e w'=>e=.returned (.int .i64 1)∧Gone g D vs vt W w' n (agR p (Pk.pick t p)++K) E:=by
 have hv0:=hv
 obtain ⟨f,fi,ca,rfl,eg,hc⟩:=pick_any hv t
 have hmf:∀(fn:Fn) (first cap:Array Value) (w:World),(Instr.makeFunc fn first cap).run Tryz.prog w=.ok (.func fn first cap) w:=fun _ _ _ _=>rfl
 have HC:Hid (∀V,Below W.heap.size W V→Calls Tryz.prog f (fi.push (.agg #[.int .u8 t.k,.string t.t,.int .i64 t.a,.int .i64 t.l,.int .i64 t.c,.int .i64 t.f])++ca) V fun e w'=>∃u,e=.returned u∧PV g D V u (Pk.pick t p)∧Below V.heap.size V w'):=hc
 have HP:Hid (Ps g D W n K E vs vt∧K.length≤10000000∧RepP g D W (.func (.func f) fi ca) p):=⟨h,hK,hv0⟩
 have HA:Hid (Below W.heap.size W ((W.alloc (.cells #[pt g,.func (.func f) fi ca] 212)).alloc (.cells #[.int .u8 t.k,.string t.t,.int .i64 t.a,.int .i64 t.l,.int .i64 t.c,.int .i64 t.f] 37))):=(pbelow_new _ _).alloc (by rw [World.size_alloc];exact Nat.le_succ _) _
 clear hc h hK hv hv0
 dsimp only [Tv.v]
 generalize Pk.pick t p=o at *
 go_enter Tryz.func150,Tryz.ntmps150
 go_wp2_with fail
 refine (HC.out _ HA.out).mono ?_
 rintro e w1 ⟨u,rfl,hu,hb1⟩
 have hb:Below W.heap.size W w1:=HA.out.trans (hb1.mono HA.out.size)
 have d0:w1.cell? ⟨W.heap.size,0,none⟩=some (pt g):=blk_cell (blk_below (alloc_at' (new_at W _) _) hb1) rfl
 have d1:w1.cell? ⟨W.heap.size,1,none⟩=some (.func (.func f) fi ca):=blk_cell (blk_below (alloc_at' (new_at W _) _) hb1) rfl
 have HB:Hid (Below W.heap.size W w1):=hb
 cases o with
 |none=>
  have hu':u=.nilFunc:=hu
  subst hu'
  clear hu hb hb1
  have q0:=eql_nil
  go_wp2_with fail
  go_ret
  exact ⟨rfl,HP.out.1.quiet HB.out⟩
 |some i=>
  have hu':Rep g D w1 u i:=Rep.turn hu (fun _ h=>h) (fun k o _ ho=>blk_below ho hb1)
  obtain ⟨fn,fi2,ca2,rfl⟩:=hu'.isFn
  have HU:Hid (Rep g D w1 (.func fn fi2 ca2) i):=hu'
  clear hu hb hb1 hu'
  have q0:=eql_fn
  go_wp2_with fail
  refine (expect_mix HP.out.1 HB.out [.func fn fi2 ca2,agV g (.func (.func f) fi ca)] 2 [i,.again p] (.cons HU.out (.cons (.again (HP.out.2.2.turn (fun _ h=>h) (fun k o _ ho=>blk_below ho HB.out))) .nil)) rfl (by show 2≤1000;decide) HP.out.2.1).mono ?_
  rintro e w2 ⟨rfl,hG⟩
  have HG:Hid (Gone g D vs vt W w2 n ([i,.again p]++K) E):=hG
  clear hG
  go_wp2_with fail
  go_ret
  exact ⟨rfl,HG.out⟩
def PAft (g:Nat) (D:Nat→Prop) (vs vt:Value) (W:World) (n:Int) (K:List It) (E:List Ev) (e:Ending) (w':World):Gw→Prop
 |.ref=>e=.returned (.int .i64 0)∧Below W.heap.size W w'
 |.ex r=>e=.returned (.int .i64 1)∧Gone g D vs vt W w' n (r++K) E
 |.op nd r=>e=.returned (.int .i64 1)∧Gone g D vs vt W w' (n+1) (r++.lv nd :: K) (E++[⟨1,nd,tv0⟩])
def Psz (g:Nat) (D:Nat→Prop) (W:World) (n:Int) (K:List It) (E:List Ev) (vs vt:Value):Prop:=
 Ps g D W n K E vs vt∧0≤n∧n≤100000000∧K.length≤10000000∧E.length≤1000000000
end Go.Proofs.YtpdlohfdjiaegaaGreatDoor
