import Derived.Test.YtpdlohfdjiaegaaGreatDoorM40
set_option linter.unusedVariables false
set_option linter.unusedSimpArgs false
set_option maxHeartbeats 1000000
namespace Go.Proofs.YtpdlohfdjiaegaaGreatDoor
open Go.RowKit
variable {g:Nat}{W W':World}{n:Int}{K:List It}{E:List Ev}{vs vt:Value}
def PV (g:Nat) (D:Nat->Prop) (W:World) (u:Value):Option It->Prop
 |none=>u=.nilFunc
 |some i=>Rep g D W u i
theorem oZ {D:Nat->Prop}(m:M) (f:Nat) (hf:m.id=f):Rep g D W (.func (.func f) #[pt g] #[]) (.fl (.mt m)):=by subst hf;exact .fl (.mt m)
theorem cz (W:World) (t:Tv):Below W.heap.size W (W.alloc (.cells #[.int .u8 t.k,.string t.t,.int .i64 t.a,.int .i64 t.l,.int .i64 t.c,.int .i64 t.f] 37)):=ai _ _
theorem ot (g:Nat) (D:Nat->Prop) (t:Tv) (W:World):Da 221 #[pt g,t.v] W fun r w'=>∃u,r=.returned u/\PV g D W u (Pk.pick t (.fn .bracket))/\Below W.heap.size W w':=by
 have hmf:=mkfn;obtain ⟨o,ho⟩:∃o,Pk.pick t (.fn .bracket)=o:=⟨_,rfl⟩;have HO:Hid (Pk.pick t (.fn .bracket)=o):=ho;rw [ho];clear ho
 dsimp only [Tv.v]
 go_enter Tryz.func221,Tryz.ntmps221
 go_wp2_with fail
 all_goals (
  go_ret
  refine ⟨_,rfl,?_,cz _ _⟩;rw [<-HO.out];clear HO hmf
  simp_all [Pk.pick,Dk.pick,Tv.is,PV]
  try exact oZ _ _ rfl)
theorem ii (g:Nat) (D:Nat->Prop) (t:Tv) (W:World):Da 149 #[pt g,t.v] W fun r w'=>∃u,r=.returned u/\PV g D W u (Pk.pick t (.fn .declaration))/\Below W.heap.size W w':=by
 have hmf:=mkfn;obtain ⟨o,ho⟩:∃o,Pk.pick t (.fn .declaration)=o:=⟨_,rfl⟩;have HO:Hid (Pk.pick t (.fn .declaration)=o):=ho;rw [ho];clear ho
 dsimp only [Tv.v]
 go_enter Tryz.func149,Tryz.ntmps149
 go_wp2_with fail
 all_goals (
  go_ret
  refine ⟨_,rfl,?_,cz _ _⟩;rw [<-HO.out];clear HO hmf
  simp_all [Pk.pick,Dk.pick,Tv.is,PV]
  try exact oZ _ _ rfl)
theorem nu (g:Nat) (D:Nat->Prop) (t:Tv) (W:World):Da 241 #[pt g,t.v] W fun r w'=>∃u,r=.returned u/\PV g D W u (Pk.pick t (.fn .detail))/\Below W.heap.size W w':=by
 have hmf:=mkfn;obtain ⟨o,ho⟩:∃o,Pk.pick t (.fn .detail)=o:=⟨_,rfl⟩;have HO:Hid (Pk.pick t (.fn .detail)=o):=ho;rw [ho];clear ho
 dsimp only [Tv.v]
 go_enter Tryz.func241,Tryz.ntmps241
 go_wp2_with fail
 all_goals (
  go_ret
  refine ⟨_,rfl,?_,cz _ _⟩;rw [<-HO.out];clear HO hmf
  simp_all [Pk.pick,Dk.pick,Tv.is,PV]
  try exact oZ _ _ rfl)
theorem iE (t:Tv) (W:World):Da 257 #[t.v] W fun r w'=>r=.returned (.int .u8 (cP t))/\Below W.heap.size W w':=by
 obtain ⟨z,hz⟩:∃z,cP t=z:=⟨_,rfl⟩;obtain ⟨cb,hcb⟩:∃cb,(t.k == 3 || t.k == 4 || t.k == 5)=cb:=⟨_,rfl⟩;have HZ:Hid (cP t=z):=hz;have HK:Hid ((t.k == 3 || t.k == 4 || t.k == 5)=cb):=hcb;have HC:Hid (∀V,Da 262 #[t.v] V fun r w'=>r=.returned (.int .i64 (dd cb))/\Db V w'):=fun V=>by rw [<-hcb];exact gJ t V
 rw [hz];clear hcb hz;obtain ⟨k,tt,a,l,c,f⟩:=t;have HA:Hid (Db W (W.alloc (.cells #[.int .u8 k,.string tt,.int .i64 a,.int .i64 l,.int .i64 c,.int .i64 f] 37))):=ai _ _
 dsimp only [Tv.v] at HC HK ⊢
 by_cases k6:k=6
 ·subst k6;cases cb
  ·have e0:dd false=0:=rfl;rw [e0] at HC;clear e0
   go_enter Tryz.func257,Tryz.ntmps257
   go_wp2_with (go_at_call 262;refine (HC.out _).mono ?_;rintro r w1 ⟨rfl,hb1⟩;have HB:Hid (Db W w1):=HA.out.trans (hb1.mono HA.out.size);have q0:w1.cell? ⟨W.heap.size,0,none⟩=some (.int .u8 6):=aa (ab (am W _) hb1) rfl;clear hb1)
   all_goals (
    go_ret
    refine ⟨?_,by first|exact HB.out|exact ai _ _⟩;have hz:=HZ.out;have hk:=HK.out;clear HZ HK HC HA
    simp_all [cP,Tv.is]
    try omega)
  ·have e0:dd true=2:=rfl;rw [e0] at HC;clear e0
   go_enter Tryz.func257,Tryz.ntmps257
   go_wp2_with (go_at_call 262;refine (HC.out _).mono ?_;rintro r w1 ⟨rfl,hb1⟩;have HB:Hid (Db W w1):=HA.out.trans (hb1.mono HA.out.size);have q0:w1.cell? ⟨W.heap.size,0,none⟩=some (.int .u8 6):=aa (ab (am W _) hb1) rfl;clear hb1)
   all_goals (
    go_ret
    refine ⟨?_,by first|exact HB.out|exact ai _ _⟩;have hz:=HZ.out;have hk:=HK.out;clear HZ HK HC HA
    simp_all [cP,Tv.is]
    try omega)
 by_cases k2:k=2
 ·subst k2;cases cb
  ·have e0:dd false=0:=rfl;rw [e0] at HC;clear e0
   go_enter Tryz.func257,Tryz.ntmps257
   go_wp2_with (go_at_call 262;refine (HC.out _).mono ?_;rintro r w1 ⟨rfl,hb1⟩;have HB:Hid (Db W w1):=HA.out.trans (hb1.mono HA.out.size);have q0:w1.cell? ⟨W.heap.size,0,none⟩=some (.int .u8 2):=aa (ab (am W _) hb1) rfl;clear hb1)
   all_goals (
    go_ret
    refine ⟨?_,by first|exact HB.out|exact ai _ _⟩;have hz:=HZ.out;have hk:=HK.out;clear HZ HK HC HA
    simp_all [cP,Tv.is]
    try omega)
  ·have e0:dd true=2:=rfl;rw [e0] at HC;clear e0
   go_enter Tryz.func257,Tryz.ntmps257
   go_wp2_with (go_at_call 262;refine (HC.out _).mono ?_;rintro r w1 ⟨rfl,hb1⟩;have HB:Hid (Db W w1):=HA.out.trans (hb1.mono HA.out.size);have q0:w1.cell? ⟨W.heap.size,0,none⟩=some (.int .u8 2):=aa (ab (am W _) hb1) rfl;clear hb1)
   all_goals (
    go_ret
    refine ⟨?_,by first|exact HB.out|exact ai _ _⟩;have hz:=HZ.out;have hk:=HK.out;clear HZ HK HC HA
    simp_all [cP,Tv.is]
    try omega)
 ·have k6':(k == 6)=false:=by simpa using k6
  have k2':(k == 2)=false:=by simpa using k2
  clear k6 k2;cases cb
  ·have e0:dd false=0:=rfl;rw [e0] at HC;clear e0
   go_enter Tryz.func257,Tryz.ntmps257
   go_wp2_with (go_at_call 262;refine (HC.out _).mono ?_;rintro r w1 ⟨rfl,hb1⟩;have HB:Hid (Db W w1):=HA.out.trans (hb1.mono HA.out.size);have q0:w1.cell? ⟨W.heap.size,0,none⟩=some (.int .u8 k):=aa (ab (am W _) hb1) rfl;clear hb1)
   all_goals (
    go_ret
    refine ⟨?_,by first|exact HB.out|exact ai _ _⟩;have hz:=HZ.out;have hk:=HK.out;clear HZ HK HC HA
    simp_all [cP,Tv.is]
    try omega)
  ·have e0:dd true=2:=rfl;rw [e0] at HC;clear e0
   go_enter Tryz.func257,Tryz.ntmps257
   go_wp2_with (go_at_call 262;refine (HC.out _).mono ?_;rintro r w1 ⟨rfl,hb1⟩;have HB:Hid (Db W w1):=HA.out.trans (hb1.mono HA.out.size);have q0:w1.cell? ⟨W.heap.size,0,none⟩=some (.int .u8 k):=aa (ab (am W _) hb1) rfl;clear hb1)
   all_goals (
    go_ret
    refine ⟨?_,by first|exact HB.out|exact ai _ _⟩;have hz:=HZ.out;have hk:=HK.out;clear HZ HK HC HA
    simp_all [cP,Tv.is]
    try omega)
theorem np {D:Nat->Prop}{b1 b2 b3:Nat}{r:List Fl}(h:pX g D W b3 b1 r) (h2:W.heap[b2]?=some (.cells #[alV b3 b1] 152 (0,0))) (hr:∃k ts rest,r=Fl.wd k ts :: rest) (t:Tv) :
  Da 244 #[t.v,pt b1,pt b2] W fun e w'=>∃u,e=.returned u/\PV g D W u (Pk.pick t (.row r))/\Below W.heap.size W w':=by
 obtain ⟨k,ts,rest,hrr⟩:=hr;have HG:Hid (Rep g D W (alV b3 b1) (.all r)):=.all h;obtain ⟨ao,cap,xs,x1,x2,x3,x4⟩:=h.ex;rw [hrr] at x3
 obtain ⟨v0,xs',rfl,hv0,_⟩:∃v0 xs',xs=v0 :: xs'/\ka g D W v0 (.wd k ts)/\True:=by
  cases x3 with
  |cons hv hl=>exact ⟨_,_,rfl,hv,trivial⟩
 obtain ⟨_,b,off,rfl,c0⟩:=x2 0 v0 rfl
 obtain ⟨ao,cp,rfl,hl,hlen⟩:∃ao cp,v0=wdV k (.slice ao ts.length cp)/\Ls W ao ts/\ts.length<=1000:=by
  cases hv0 with
  |wd hl hd hlen=>exact ⟨_,_,rfl,hl,hlen⟩
 ·clear hv0;have HS:Hid (∀V,Db W V->Da 147 #[.agg #[.int .u8 k,.slice ao ts.length cp],.agg #[.int .u8 t.k,.string t.t,.int .i64 t.a,.int .i64 t.l,.int .i64 t.c,.int .i64 t.f]] V fun r w'=>r=.returned (.int .i64 (dd (t.k == k && has ts t.t)))/\Db V w'):=fun V hb=>kq k ao ts cp t V (hl.below hb) hlen
  have hp:Pk.pick t (.row r)=if (t.k == k && has ts t.t) then some (.all r) else none:=by rw [hrr];rfl
  rw [hp]
  generalize (t.k == k && has ts t.t)=cb at *
  have y1:W.cell? ⟨b1,0,none⟩=_:=aa x1 rfl;have y2:W.cell? ⟨b2,0,none⟩=_:=aa h2 rfl;have z1:=ap x1;have z2:=ap h2;have z3:b<W.heap.size:=World.block_lt_of_cell? _ _ c0;have HY2:Hid (W.heap[b2]?=some (.cells #[alV b3 b1] 152 (0,0))):=h2;have q1:(0:Int)<(xs'.length:Int)+1:=by omega
  clear h h2 hrr x1 x2 x3 x4 hl hp;have HA:Hid (Db W (W.alloc (.cells #[.int .u8 t.k,.string t.t,.int .i64 t.a,.int .i64 t.l,.int .i64 t.c,.int .i64 t.f] 37)).drew):=(cz W t).drew;rw [Nat.add_zero] at c0
  dsimp only [wdV] at c0
  dsimp only [Tv.v,List.length_cons] at *
  cases cb
  ·have e0:dd false=0:=rfl;rw [e0] at HS;clear e0
   go_enter Tryz.func244,Tryz.ntmps244
   go_wp2_with fail
   go_region_with (go_at_call 147;refine (HS.out _ HA.out).mono ?_;rintro r w1 ⟨rfl,hb1⟩;have HB:Hid (Db W w1):=HA.out.trans (hb1.mono HA.out.size);clear hb1)
   all_goals (
    go_wp2_with fail
    go_ret
    exact ⟨_,rfl,rfl,HB.out⟩)
  ·have e0:dd true=2:=rfl;rw [e0] at HS;clear e0
   go_enter Tryz.func244,Tryz.ntmps244
   go_wp2_with fail
   go_region_with (go_at_call 147;refine (HS.out _ HA.out).mono ?_;rintro r w1 ⟨rfl,hb1⟩;have HB:Hid (Db W w1):=HA.out.trans (hb1.mono HA.out.size);have y5:w1.cell? ⟨b2,0,none⟩=some (alV b3 b1):=aa (ab HY2.out (HA.out.trans (hb1.mono HA.out.size))) rfl;clear hb1)
   all_goals (
    go_wp2_with fail
    go_ret
    exact ⟨_,rfl,HG.out,HB.out⟩)
theorem o9 {D:Nat->Prop}{b:Nat}{m:M}(h2:W.heap[b]?=some (.cells #[mtV g m.id] 153 (0,0))) (t:Tv) :
  Da 256 #[t.v,pt b] W fun e w'=>∃u,e=.returned u/\PV g D W u (Pk.pick t (.ex m))/\Below W.heap.size W w':=by
 have HF:Hid (∀V,Da 257 #[.agg #[.int .u8 t.k,.string t.t,.int .i64 t.a,.int .i64 t.l,.int .i64 t.c,.int .i64 t.f]] V fun r w'=>r=.returned (.int .u8 (cP t))/\Db V w'):=fun V=>iE t V
 have HA:Hid (Db W (W.alloc (.cells #[.int .u8 t.k,.string t.t,.int .i64 t.a,.int .i64 t.l,.int .i64 t.c,.int .i64 t.f] 37))):=cz W t;have HY:Hid (W.heap[b]?=some (.cells #[mtV g m.id] 153 (0,0))):=h2;have HP:Hid (Pk.pick t (.ex m)=if cP t == 0 then none else some (.fl (.mt m))):=rfl;rw [HP.out]
 generalize cP t=z at *
 clear HP h2
 dsimp only [Tv.v]
 by_cases hz:(z == 0)=true
 ·rw [hz]
  go_enter Tryz.func256,Tryz.ntmps256
  go_wp2_with (go_at_call 257;refine (HF.out _).mono ?_;rintro r w1 ⟨rfl,hb1⟩;have HB:Hid (Db W w1):=HA.out.trans (hb1.mono HA.out.size);clear hb1)
  go_ret
  exact ⟨_,rfl,rfl,HB.out⟩
 ·have hz':(z == 0)=false:=by simpa using hz
  clear hz;rw [hz']
  go_enter Tryz.func256,Tryz.ntmps256
  go_wp2_with (go_at_call 257;refine (HF.out _).mono ?_;rintro r w1 ⟨rfl,hb1⟩;have HB:Hid (Db W w1):=HA.out.trans (hb1.mono HA.out.size);have y5:w1.cell? ⟨b,0,none⟩=some (mtV g m.id):=aa (ab HY.out (HA.out.trans (hb1.mono HA.out.size))) rfl;clear hb1)
  go_ret
  exact ⟨_,rfl,.fl (.mt m),HB.out⟩
abbrev Ent (f:Nat):Prop:=∀(args:Array Value) (w:World),(callFunc f args).run Tryz.prog w=.ok (.enter f args) w
theorem nk {D:Nat->Prop}{v:Value}{p:Pk}(h:gU g D W v p) (t:Tv):∃f fi ca,v=.func (.func f) fi ca/\Ent f/\∀V,Below W.heap.size W V->Da f (fi.push t.v++ca) V fun e w'=>∃u,e=.returned u/\PV g D V u (Pk.pick t p)/\Below V.heap.size V w':=by
 cases h with
 |fn d=>
  cases d with
  |declaration=>exact ⟨_,_,_,rfl,enters_of Tryz.func149 (by kernel_rfl) rfl,fun V hb=>ii g D t V⟩
  |bracket=>exact ⟨_,_,_,rfl,enters_of Tryz.func221 (by kernel_rfl) rfl,fun V hb=>ot g D t V⟩
  |detail=>exact ⟨_,_,_,rfl,enters_of Tryz.func241 (by kernel_rfl) rfl,fun V hb=>nu g D t V⟩
 |row h1 h2 h3 h4=>exact ⟨_,_,_,rfl,enters_of Tryz.func244 (by kernel_rfl) rfl,fun V hb=>np (h1.turn (fun _ h=>h) (fun k o _ ho=>ab ho hb)) (ab h2 hb) h4 t⟩
 |ex h1 h2=>exact ⟨_,_,_,rfl,enters_of Tryz.func256 (by kernel_rfl) rfl,fun V hb=>o9 (ab h1 hb) t⟩
theorem Ps.below' {D:Nat->Prop}(h:Ps g D W n K E vs vt) (hb:Below W.heap.size W W'):Ps g D W' n K E vs vt:=by
 obtain ⟨xs,h1,h2⟩:=h.st;exact ⟨h.pb.below hb,⟨xs,h1.below hb,h2.mono (fun v x hx=>hx.turn (fun _ h=>h) (fun k o _ ho=>ab ho hb))⟩,h.ev.below hb,h.dg,h.ds,h.dt,fun k hk=>Nat.lt_of_lt_of_le (h.dl k hk) hb.size⟩
theorem Ps.quiet {D:Nat->Prop}(h:Ps g D W n K E vs vt) (hb:Below W.heap.size W W'):aq g D vs vt W W' n K E:=
 ⟨D,vs,vt,h.below' hb,Kp.of_below hb,Nb.refl _ _,Nb.refl _ _,fun _ h=>h,fun _ h=>.inl h⟩
theorem BE {D:Nat->Prop}(h:Ps g D W n K E vs vt) {b1 b3:Nat}{r:List Fl}(hr:pX g D W b3 b1 r) (t:Tv) (hK:K.length<=10000000) :
  Da 243 #[t.v,pt b3,pt b1] W fun e w'=>e=.returned (.int .i64 1)/\aq g D vs vt W w' n (r.map It.fl++K) E:=by
 obtain ⟨ao,cap,xs,x1,x2,x3,x4⟩:=hr.ex;have hxl:xs.length<=1000:=by rw [x3.len];exact hr.ln
 have y1:W.cell? ⟨b1,0,none⟩=_:=aa x1 rfl;have y3:W.cell? ⟨b3,0,none⟩=_:=aa hr.pb rfl;have hR:Row g D W ao xs (r.map It.fl):=⟨x2,x3.map (fun v x hx=>.fl hx),x4⟩
 have HX:Hid (∀V,Db W V->Da 145 #[pt g,.slice ao xs.length cap] V fun e w'=>e=.returned (.int .i64 1)/\aq g D vs vt W w' n (r.map It.fl++K) E):=fun V hb=>by
  refine (fy (h.below' hb) ao xs xs.length cap (r.map It.fl) rfl (hR.turn (fun k o _ ho=>ab ho hb)) (by omega) (by omega)).mono ?_;rintro e w' ⟨rfl,hG⟩;refine ⟨rfl,aq.go (Kp.of_below hb) (Nb.refl _ _) (Nb.refl _ _) (fun _ h=>h) (fun _ h=>.inl h) hG⟩
 have HA:Hid (Db W (W.alloc (.cells #[.int .u8 t.k,.string t.t,.int .i64 t.a,.int .i64 t.l,.int .i64 t.c,.int .i64 t.f] 37))):=cz W t;have z1:=ap x1;have z3:=ap hr.pb;clear h hr x1 x2 x3 x4 hR hK
 dsimp only [Tv.v]
 go_enter Tryz.func243,Tryz.ntmps243
 go_wp2_with (go_at_call 145;refine (HX.out _ HA.out).mono ?_;rintro e w1 ⟨rfl,hG⟩;have HG:Hid (aq g D vs vt W w1 n (r.map It.fl++K) E):=hG;clear hG)
 go_ret
 exact ⟨rfl,HG.out⟩
theorem jY {D:Nat->Prop}{V:World}(h:Ps g D W n K E vs vt) (hb:Below W.heap.size W V) (xs:List Value) (m:Nat) (r:List It) (hr:Al (Rep g D V) xs r) (hm:xs.length=m) (hx:xs.length<=1000) (hK:K.length<=10000000) :
  Da 145 #[pt g,.slice (some ⟨V.heap.size,0,none⟩) m m] (V.alloc (.cells xs.toArray 153)) fun e w'=>e=.returned (.int .i64 1)/\aq g D vs vt W w' n (r++K) E:=by
 obtain ⟨X,hX⟩:∃X,V.alloc (.cells xs.toArray 153)=X:=⟨_,rfl⟩;have hb1:Below V.heap.size V X:=by rw [<-hX];exact ai _ _
 have hs:X.heap.size=V.heap.size+1:=by rw [<-hX,World.size_alloc]
 have hb2:Below W.heap.size W X:=hb.trans (hb1.mono hb.size)
 have hR:Row g (Dn D W.heap.size X.heap.size) X (some ⟨V.heap.size,0,none⟩) xs r:=by
  refine ⟨fun j s hj=>?_,hr.mono (fun v x hx=>hx.turn (fun k hk=>.inl hk) (fun k o _ ho=>ab ho hb1)),?_⟩
  ·obtain ⟨x,_,hx⟩:=hr.at hj;refine ⟨hx.isFn,_,_,rfl,?_⟩;rw [<-hX];exact aa (am V _) (by rw [Nat.zero_add];simpa using hj)
  ·intro a ha;cases ha;exact .inr ⟨hb.size,by show V.heap.size<_;omega⟩
 rw [hX];refine (fy (h.fresh hb2) _ xs m m r hm hR (by omega) (by omega)).mono ?_;rintro e w' ⟨rfl,hG⟩;exact ⟨rfl,aq.fresh hb2 hG⟩
theorem qZ (w:World):(binOp .eql 153 .nilFunc .nilFunc).run Tryz.prog w=.ok (.bool true) w:=by kernel_rfl
theorem wg (fn:Fn) (fi ca:Array Value) (w:World):(binOp .eql 153 (.func fn fi ca) .nilFunc).run Tryz.prog w=.ok (.bool false) w:=by kernel_rfl
theorem yl {D:Nat->Prop}(h:Ps g D W n K E vs vt) {v:Value}{p:Pk}(hv:gU g D W v p) (t:Tv) (hK:K.length<=10000000) :
  Da 222 #[.agg #[pt g,v],t.v] W fun e w'=>e=.returned (.int .i64 1)/\aq g D vs vt W w' n ((Pk.pick t p).toList++K) E:=by
 have hv0:=hv;obtain ⟨f,fi,ca,rfl,eg,hc⟩:=nk hv t;have hmf:=mkfn;have HC:Hid (∀V,Db W V->Da f (fi.push (.agg #[.int .u8 t.k,.string t.t,.int .i64 t.a,.int .i64 t.l,.int .i64 t.c,.int .i64 t.f])++ca) V fun e w'=>∃u,e=.returned u/\PV g D V u (Pk.pick t p)/\Db V w'):=hc;have HP:Hid (Ps g D W n K E vs vt/\K.length<=10000000/\gU g D W (.func (.func f) fi ca) p):=⟨h,hK,hv0⟩;have HA:Hid (Db W ((W.alloc (.cells #[pt g,.func (.func f) fi ca] 212)).alloc (.cells #[.int .u8 t.k,.string t.t,.int .i64 t.a,.int .i64 t.l,.int .i64 t.c,.int .i64 t.f] 37))):=(ai _ _).alloc (by rw [World.size_alloc];exact Nat.le_succ _) _;clear hc h hK hv hv0
 dsimp only [Tv.v]
 generalize Pk.pick t p=o at *
 go_enter Tryz.func222,Tryz.ntmps222
 go_wp2_with fail
 refine (HC.out _ HA.out).mono ?_;rintro e w1 ⟨u,rfl,hu,hb1⟩;have hb:Below W.heap.size W w1:=HA.out.trans (hb1.mono HA.out.size);have d0:w1.cell? ⟨W.heap.size,0,none⟩=some (pt g):=aa (ab (ay (am W _) _) hb1) rfl;have d1:w1.cell? ⟨W.heap.size,1,none⟩=some (.func (.func f) fi ca):=aa (ab (ay (am W _) _) hb1) rfl;have HB:Hid (Db W w1):=hb;cases o with
 |none=>
  have hu':u=.nilFunc:=hu;subst hu';clear hu hb hb1;have q0:=qZ
  go_wp2_with fail
  go_ret
  exact ⟨rfl,HP.out.1.quiet HB.out⟩
 |some i=>
  have hu':Rep g D w1 u i:=Rep.turn hu (fun _ h=>h) (fun k o _ ho=>ab ho hb1);obtain ⟨fn,fi2,ca2,rfl⟩:=hu'.isFn;have HU:Hid (Rep g D w1 (.func fn fi2 ca2) i):=hu';clear hu hb hb1 hu';have q0:=wg
  go_wp2_with fail
  refine (jY HP.out.1 HB.out [.func fn fi2 ca2] 1 [i] (.cons HU.out .nil) rfl (by show 1<=1000;decide) HP.out.2.1).mono ?_;rintro e w2 ⟨rfl,hG⟩;have HG:Hid (aq g D vs vt W w2 n ([i]++K) E):=hG;clear hG
  go_wp2_with fail
  go_ret
  exact ⟨rfl,HG.out⟩
theorem xd {D:Nat->Prop}(h:Ps g D W n K E vs vt) {v:Value}{p:Pk}(hv:gU g D W v p) (t:Tv) (hK:K.length<=10000000) :
  Da 150 #[.agg #[pt g,v],t.v] W fun e w'=>e=.returned (.int .i64 1)/\aq g D vs vt W w' n (agR p (Pk.pick t p)++K) E:=by
 have hv0:=hv;obtain ⟨f,fi,ca,rfl,eg,hc⟩:=nk hv t;have hmf:=mkfn;have HC:Hid (∀V,Db W V->Da f (fi.push (.agg #[.int .u8 t.k,.string t.t,.int .i64 t.a,.int .i64 t.l,.int .i64 t.c,.int .i64 t.f])++ca) V fun e w'=>∃u,e=.returned u/\PV g D V u (Pk.pick t p)/\Db V w'):=hc;have HP:Hid (Ps g D W n K E vs vt/\K.length<=10000000/\gU g D W (.func (.func f) fi ca) p):=⟨h,hK,hv0⟩;have HA:Hid (Db W ((W.alloc (.cells #[pt g,.func (.func f) fi ca] 212)).alloc (.cells #[.int .u8 t.k,.string t.t,.int .i64 t.a,.int .i64 t.l,.int .i64 t.c,.int .i64 t.f] 37))):=(ai _ _).alloc (by rw [World.size_alloc];exact Nat.le_succ _) _;clear hc h hK hv hv0
 dsimp only [Tv.v]
 generalize Pk.pick t p=o at *
 go_enter Tryz.func150,Tryz.ntmps150
 go_wp2_with fail
 refine (HC.out _ HA.out).mono ?_;rintro e w1 ⟨u,rfl,hu,hb1⟩;have hb:Below W.heap.size W w1:=HA.out.trans (hb1.mono HA.out.size);have d0:w1.cell? ⟨W.heap.size,0,none⟩=some (pt g):=aa (ab (ay (am W _) _) hb1) rfl;have d1:w1.cell? ⟨W.heap.size,1,none⟩=some (.func (.func f) fi ca):=aa (ab (ay (am W _) _) hb1) rfl;have HB:Hid (Db W w1):=hb;cases o with
 |none=>
  have hu':u=.nilFunc:=hu;subst hu';clear hu hb hb1;have q0:=qZ
  go_wp2_with fail
  go_ret
  exact ⟨rfl,HP.out.1.quiet HB.out⟩
 |some i=>
  have hu':Rep g D w1 u i:=Rep.turn hu (fun _ h=>h) (fun k o _ ho=>ab ho hb1);obtain ⟨fn,fi2,ca2,rfl⟩:=hu'.isFn;have HU:Hid (Rep g D w1 (.func fn fi2 ca2) i):=hu';clear hu hb hb1 hu';have q0:=wg
  go_wp2_with fail
  refine (jY HP.out.1 HB.out [.func fn fi2 ca2,agV g (.func (.func f) fi ca)] 2 [i,.again p] (.cons HU.out (.cons (.again (HP.out.2.2.turn (fun _ h=>h) (fun k o _ ho=>ab ho HB.out))) .nil)) rfl (by show 2<=1000;decide) HP.out.2.1).mono ?_;rintro e w2 ⟨rfl,hG⟩;have HG:Hid (aq g D vs vt W w2 n ([i,.again p]++K) E):=hG;clear hG
  go_wp2_with fail
  go_ret
  exact ⟨rfl,HG.out⟩
def bi (g:Nat) (D:Nat->Prop) (vs vt:Value) (W:World) (n:Int) (K:List It) (E:List Ev) (e:Ending) (w':World):Gw->Prop
 |.ref=>e=.returned (.int .i64 0)/\Below W.heap.size W w'
 |.ex r=>e=.returned (.int .i64 1)/\aq g D vs vt W w' n (r++K) E
 |.op nd r=>e=.returned (.int .i64 1)/\aq g D vs vt W w' (n+1) (r++.lv nd :: K) (E++[⟨1,nd,tv0⟩])
def Psz (g:Nat) (D:Nat->Prop) (W:World) (n:Int) (K:List It) (E:List Ev) (vs vt:Value):Prop:=
 Ps g D W n K E vs vt/\0<=n/\n<=100000000/\K.length<=10000000/\E.length<=1000000000
end Go.Proofs.YtpdlohfdjiaegaaGreatDoor
