import Derived.Test.YtpdlohfdjiaegaaGreatDoorM43
set_option linter.unusedVariables false
set_option linter.unusedSimpArgs false
namespace Go.Proofs.YtpdlohfdjiaegaaGreatDoor
open Go.RowKit
def Fr0 (lo:Nat) (W:World) (k:Nat):Prop:=lo≤k∧k<W.heap.size
abbrev RF (g lo:Nat) (W:World) (v:Value) (x:Fl):Prop:=RepF g (Fr0 lo W) W v x
abbrev RI (g lo:Nat) (W:World) (v:Value) (x:It):Prop:=Rep g (Fr0 lo W) W v x
theorem RF.up {g lo:Nat}{W W':World}{v:Value}{x:Fl}(h:RF g lo W v x) (hb:Below W.heap.size W W'):RF g lo W' v x:=h.turn (fun k hk=>⟨hk.1,Nat.lt_of_lt_of_le hk.2 hb.size⟩) (fun k o _ ho=>blk_below ho hb)
theorem RI.up {g lo:Nat}{W W':World}{v:Value}{x:It}(h:RI g lo W v x) (hb:Below W.heap.size W W'):RI g lo W' v x:=h.turn (fun k hk=>⟨hk.1,Nat.lt_of_lt_of_le hk.2 hb.size⟩) (fun k o _ ho=>blk_below ho hb)
theorem pls_new (W:World) (ts:List ByteArray) (cs:Array Value) (h:cs=(ts.map Value.string).toArray):Ls (W.alloc (.cells cs 9)) (some ⟨W.heap.size,0,none⟩) ts:=by
 subst h
 intro j s hj
 refine ⟨_,_,rfl,?_⟩
 rw [Nat.zero_add]
 exact blk_cell (new_at W _) (by simp [hj])
theorem pbelow_new (W:World) (o:Obj):Below W.heap.size W (W.alloc o):=(Below.refl _ _).alloc (Nat.le_refl _) _
theorem key_new (g lo:Nat) (W:World) (ts:List ByteArray) (cs:Array Value) (n b:Nat) (hw:W.heap.size=b) (hcs:cs=(ts.map Value.string).toArray) (hn:ts.length=n) (h1:ts.length≤1000) (hlo:lo≤W.heap.size) :
  Calls Tryz.prog 95 #[.slice (some ⟨b,0,none⟩) n n] (W.alloc (.cells cs 9)) fun r w'=>∃c,r=.returned (wdV 2 (.slice (some ⟨c,0,none⟩) n n))∧RF g lo w' (wdV 2 (.slice (some ⟨c,0,none⟩) n n)) (.wd 2 ts)∧Below W.heap.size W w':=by
 subst hn hw
 refine (key_any _ _ _ _ _ rfl).mono ?_
 rintro r w' ⟨rfl,rfl⟩
 exact ⟨_,rfl,.wd (pls_new W ts cs hcs) (fun a ha=>by cases ha;exact ⟨hlo,by rw [World.size_alloc];exact Nat.lt_succ_self _⟩) h1,pbelow_new _ _⟩
theorem sign_new (g lo:Nat) (W:World) (ts:List ByteArray) (cs:Array Value) (n b:Nat) (hw:W.heap.size=b) (hcs:cs=(ts.map Value.string).toArray) (hn:ts.length=n) (h1:ts.length≤1000) (hlo:lo≤W.heap.size) :
  Calls Tryz.prog 97 #[.slice (some ⟨b,0,none⟩) n n] (W.alloc (.cells cs 9)) fun r w'=>∃c,r=.returned (wdV 6 (.slice (some ⟨c,0,none⟩) n n))∧RF g lo w' (wdV 6 (.slice (some ⟨c,0,none⟩) n n)) (.wd 6 ts)∧Below W.heap.size W w':=by
 subst hn hw
 refine (sign_any _ _ _ _ _ rfl).mono ?_
 rintro r w' ⟨rfl,rfl⟩
 exact ⟨_,rfl,.wd (pls_new W ts cs hcs) (fun a ha=>by cases ha;exact ⟨hlo,by rw [World.size_alloc];exact Nat.lt_succ_self _⟩) h1,pbelow_new _ _⟩
theorem begun_run (g:Nat) (p:Option Addr) (n c:Nat) (W:World) :
  Calls Tryz.prog 227 #[pt g,.slice p n c] W fun r w'=>r=.returned (rwV (W.heap.size+1) (W.heap.size+1+1))∧w'=((W.alloc (.cells #[pt g] 83)).alloc (.cells #[.slice p n c] 102)).alloc (.cells #[alV W.heap.size (W.heap.size+1)] 152):=by
 have hmf:∀(fn:Fn) (first cap:Array Value) (w:World),(Instr.makeFunc fn first cap).run Tryz.prog w=.ok (.func fn first cap) w:=fun _ _ _ _=>rfl
 go_enter Tryz.func227,Tryz.ntmps227
 go_wp2_with fail
 go_ret
 exact ⟨rfl,rfl⟩
theorem many_run (g:Nat) (p:Option Addr) (n c:Nat) (W:World) :
  Calls Tryz.prog 193 #[pt g,.slice p n c] W fun r w'=>r=.returned (agV g (rwV (W.heap.size+1) (W.heap.size+1+1)))∧w'=((W.alloc (.cells #[pt g] 83)).alloc (.cells #[.slice p n c] 102)).alloc (.cells #[alV W.heap.size (W.heap.size+1)] 152):=by
 have hmf:∀(fn:Fn) (first cap:Array Value) (w:World),(Instr.makeFunc fn first cap).run Tryz.prog w=.ok (.func fn first cap) w:=fun _ _ _ _=>rfl
 go_enter Tryz.func193,Tryz.ntmps193
 go_wp2_with (go_at_call 227;refine (begun_run _ _ _ _ _).mono ?_;rintro r w1 ⟨rfl,rfl⟩)
 go_ret
 exact ⟨rfl,rfl⟩
theorem maybe_run (g:Nat) (p:Option Addr) (n c:Nat) (W:World) :
  Calls Tryz.prog 223 #[pt g,.slice p n c] W fun r w'=>r=.returned (ocV g (rwV (W.heap.size+1) (W.heap.size+1+1)))∧w'=((W.alloc (.cells #[pt g] 83)).alloc (.cells #[.slice p n c] 102)).alloc (.cells #[alV W.heap.size (W.heap.size+1)] 152):=by
 have hmf:∀(fn:Fn) (first cap:Array Value) (w:World),(Instr.makeFunc fn first cap).run Tryz.prog w=.ok (.func fn first cap) w:=fun _ _ _ _=>rfl
 go_enter Tryz.func223,Tryz.ntmps223
 go_wp2_with (go_at_call 227;refine (begun_run _ _ _ _ _).mono ?_;rintro r w1 ⟨rfl,rfl⟩)
 go_ret
 exact ⟨rfl,rfl⟩
theorem mayex_run (g f:Nat) (W:World) :
  Calls Tryz.prog 242 #[pt g,mtV g f] W fun r w'=>r=.returned (ocV g (exV W.heap.size))∧w'=W.alloc (.cells #[mtV g f] 153):=by
 have hmf:∀(fn:Fn) (first cap:Array Value) (w:World),(Instr.makeFunc fn first cap).run Tryz.prog w=.ok (.func fn first cap) w:=fun _ _ _ _=>rfl
 go_enter Tryz.func242,Tryz.ntmps242
 go_wp2_with fail
 go_ret
 exact ⟨rfl,rfl⟩
theorem rowb_new {g lo:Nat}{W:World}(xs:List Value) (r:List Fl) (hd:∃k ts rest,r=Fl.wd k ts :: rest) (hl:r.length≤1000) (h:Al (RF g lo W) xs r) (hlo:lo≤W.heap.size) (V W':World) (hV:W.alloc (.cells xs.toArray 153)=V)
  (hW:((V.alloc (.cells #[pt g] 83)).alloc (.cells #[.slice (some ⟨W.heap.size,0,none⟩) xs.length xs.length] 102)).alloc (.cells #[alV V.heap.size (V.heap.size+1)] 152)=W') :
  RepP g (Fr0 lo W') W' (rwV (V.heap.size+1) (V.heap.size+1+1)) (.row r)∧Below W.heap.size W W':=by
 have hVs:V.heap.size=W.heap.size+1:=by rw [←hV,World.size_alloc]
 have hWs:W'.heap.size=V.heap.size+3:=by rw [←hW];simp only [World.size_alloc]
 have hb0:Below W.heap.size W V:=by rw [←hV];exact pbelow_new _ _
 have hb1:Below V.heap.size V W':=by
  rw [←hW]
  exact ((pbelow_new _ _).alloc (by rw [World.size_alloc];exact Nat.le_succ _) _).alloc (by simp only [World.size_alloc];omega) _
 have hb:Below W.heap.size W W':=hb0.trans (hb1.mono hb0.size)
 have x3:W'.heap[V.heap.size]?=some (.cells #[pt g] 83 (0,0)):=by rw [←hW];exact alloc_at' (alloc_at' (new_at _ _) _) _
 have x1:W'.heap[V.heap.size+1]?=some (.cells #[.slice (some ⟨W.heap.size,0,none⟩) xs.length xs.length] 102 (0,0)):=by
  rw [←hW]
  have:=new_at (V.alloc (.cells #[pt g] 83)) (.cells #[.slice (some ⟨W.heap.size,0,none⟩) xs.length xs.length] 102)
  rw [World.size_alloc] at this
  exact alloc_at' this _
 have x2:W'.heap[V.heap.size+1+1]?=some (.cells #[alV V.heap.size (V.heap.size+1)] 152 (0,0)):=by
  rw [←hW]
  have:=new_at ((V.alloc (.cells #[pt g] 83)).alloc (.cells #[.slice (some ⟨W.heap.size,0,none⟩) xs.length xs.length] 102)) (.cells #[alV V.heap.size (V.heap.size+1)] 152)
  rw [World.size_alloc,World.size_alloc] at this
  exact this
 refine ⟨.row ⟨⟨_,_,xs,x1,?_,h.mono (fun v x hx=>RF.up hx hb),?_⟩,x3,⟨by omega,by omega⟩,⟨by omega,by omega⟩,hl⟩ x2 ⟨by omega,by omega⟩ hd,hb⟩
 ·intro j s hj
  obtain ⟨x,_,hx⟩:=h.at hj
  refine ⟨(Rep.fl hx).isFn,_,_,rfl,?_⟩
  have hc:V.heap[W.heap.size]?=some (.cells xs.toArray 153 (0,0)):=by rw [←hV];exact new_at _ _
  exact blk_cell (blk_below hc hb1) (by rw [Nat.zero_add];simpa using hj)
 ·intro a ha
  cases ha
  exact ⟨hlo,by show W.heap.size<_;omega⟩
theorem many_new {g lo:Nat}{W:World}(xs:List Value) (n:Nat) (r:List Fl) (hd:∃k ts rest,r=Fl.wd k ts :: rest) (hl:r.length≤1000) (h:Al (RF g lo W) xs r) (hn:xs.length=n) (hlo:lo≤W.heap.size) (b:Nat) (hw:W.heap.size=b) :
  Calls Tryz.prog 193 #[pt g,.slice (some ⟨b,0,none⟩) n n] (W.alloc (.cells xs.toArray 153)) fun e w'=>∃b1 b2,e=.returned (agV g (rwV b1 b2))∧RI g lo w' (agV g (rwV b1 b2)) (.again (.row r))∧Below W.heap.size W w':=by
 subst hn hw
 refine (many_run _ _ _ _ _).mono ?_
 rintro e w' ⟨rfl,hw⟩
 obtain ⟨h1,h2⟩:=rowb_new xs r hd hl h hlo _ _ rfl hw.symm
 exact ⟨_,_,rfl,.again h1,h2⟩
theorem maybe_new {g lo:Nat}{W:World}(xs:List Value) (n:Nat) (r:List Fl) (hd:∃k ts rest,r=Fl.wd k ts :: rest) (hl:r.length≤1000) (h:Al (RF g lo W) xs r) (hn:xs.length=n) (hlo:lo≤W.heap.size) (b:Nat) (hw:W.heap.size=b) :
  Calls Tryz.prog 223 #[pt g,.slice (some ⟨b,0,none⟩) n n] (W.alloc (.cells xs.toArray 153)) fun e w'=>∃b1 b2,e=.returned (ocV g (rwV b1 b2))∧RI g lo w' (ocV g (rwV b1 b2)) (.once (.row r))∧Below W.heap.size W w':=by
 subst hn hw
 refine (maybe_run _ _ _ _ _).mono ?_
 rintro e w' ⟨rfl,hw⟩
 obtain ⟨h1,h2⟩:=rowb_new xs r hd hl h hlo _ _ rfl hw.symm
 exact ⟨_,_,rfl,.once h1,h2⟩
theorem mayex_new {g lo:Nat}(W:World) (m:M) (f:Nat) (hf:m.id=f) (hlo:lo≤W.heap.size) :
  Calls Tryz.prog 242 #[pt g,mtV g f] W fun e w'=>∃b,e=.returned (ocV g (exV b))∧RI g lo w' (ocV g (exV b)) (.once (.ex m))∧Below W.heap.size W w':=by
 subst hf
 refine (mayex_run _ _ _).mono ?_
 rintro e w' ⟨rfl,rfl⟩
 exact ⟨_,rfl,.once (.ex (new_at _ _) ⟨hlo,by rw [World.size_alloc];exact Nat.lt_succ_self _⟩),pbelow_new _ _⟩
theorem row_new {g:Nat}{D:Nat→Prop}{W V:World}{n:Int}{K:List It}{E:List Ev}{vs vt:Value}(h:Ps g D W n K E vs vt) (hb:Below W.heap.size W V) (xs:List Value) (r:List It) (hr:Al (RI g W.heap.size V) xs r) (X:World) (hX:V.alloc (.cells xs.toArray 153)=X) :
  Ps g (Dn D W.heap.size X.heap.size) X n K E vs vt∧Row g (Dn D W.heap.size X.heap.size) X (some ⟨V.heap.size,0,none⟩) xs r∧Below W.heap.size W X:=by
 have hb1:Below V.heap.size V X:=by rw [←hX];exact pbelow_new _ _
 have hs:X.heap.size=V.heap.size+1:=by rw [←hX,World.size_alloc]
 have hb2:Below W.heap.size W X:=hb.trans (hb1.mono hb.size)
 refine ⟨h.fresh hb2,⟨fun j s hj=>?_,hr.mono (fun v x hx=>(RI.up hx hb1).turn (fun k hk=>.inr hk) (fun _ _ _ h=>h)),?_⟩,hb2⟩
 ·obtain ⟨x,_,hx⟩:=hr.at hj
  refine ⟨hx.isFn,_,_,rfl,?_⟩
  rw [←hX]
  exact blk_cell (new_at V _) (by rw [Nat.zero_add];simpa using hj)
 ·intro a ha
  cases ha
  exact .inr ⟨hb.size,by show V.heap.size<_;omega⟩
theorem open_new {g:Nat}{D:Nat→Prop}{W V:World}{n:Int}{K:List It}{E:List Ev}{vs vt:Value}(h:Ps g D W n K E vs vt) (hb:Below W.heap.size W V) (node:Int) (xs:List Value) (m:Nat) (r:List It) (hr:Al (RI g W.heap.size V) xs r) (hm:xs.length=m) (hx:xs.length≤1000) (hn0:0≤n) (hn:n≤100000000) (hK:K.length≤10000000) (hE:E.length≤1000000000) (b:Nat) (hw:V.heap.size=b) :
  Calls Tryz.prog 94 #[pt g,.int .u8 node,.slice (some ⟨b,0,none⟩) m m] (V.alloc (.cells xs.toArray 153)) fun e w'=>e=.returned (.int .i64 1)∧Gone g D vs vt W w' (n+1) (r++.lv node :: K) (E++[⟨1,node,tv0⟩]):=by
 subst hw
 obtain ⟨h1,h2,h3⟩:=row_new h hb xs r hr _ rfl
 refine (open_ps h1 node _ xs m m r hm h2 hx hn0 hn hK hE).mono ?_
 rintro e w' ⟨rfl,hG⟩
 exact ⟨rfl,Gone.fresh h3 hG⟩
theorem expect_new {g:Nat}{D:Nat→Prop}{W V:World}{n:Int}{K:List It}{E:List Ev}{vs vt:Value}(h:Ps g D W n K E vs vt) (hb:Below W.heap.size W V) (xs:List Value) (m:Nat) (r:List It) (hr:Al (RI g W.heap.size V) xs r) (hm:xs.length=m) (hx:xs.length≤1000) (hK:K.length≤10000000) (b:Nat) (hw:V.heap.size=b) :
  Calls Tryz.prog 145 #[pt g,.slice (some ⟨b,0,none⟩) m m] (V.alloc (.cells xs.toArray 153)) fun e w'=>e=.returned (.int .i64 1)∧Gone g D vs vt W w' n (r++K) E:=by
 subst hw
 obtain ⟨h1,h2,h3⟩:=row_new h hb xs r hr _ rfl
 refine (expect_gone h1 _ xs m m r hm h2 (by omega) (by omega)).mono ?_
 rintro e w' ⟨rfl,hG⟩
 exact ⟨rfl,Gone.fresh h3 hG⟩
def PV (g:Nat) (D:Nat→Prop) (W:World) (u:Value):Option It→Prop
 |none=>u=.nilFunc
 |some i=>Rep g D W u i
theorem rep_mt {g:Nat}{D:Nat→Prop}{W:World}(m:M) (f:Nat) (hf:m.id=f):Rep g D W (.func (.func f) #[pt g] #[]) (.fl (.mt m)):=by subst hf;exact .fl (.mt m)
theorem tok_below (W:World) (t:Tv):Below W.heap.size W (W.alloc (.cells #[.int .u8 t.k,.string t.t,.int .i64 t.a,.int .i64 t.l,.int .i64 t.c,.int .i64 t.f] 37)):=pbelow_new _ _
set_option maxHeartbeats 1000000 in
theorem bracket_any (g:Nat) (D:Nat→Prop) (t:Tv) (W:World):Calls Tryz.prog 221 #[pt g,t.v] W fun r w'=>∃u,r=.returned u∧PV g D W u (Pk.pick t (.fn .bracket))∧Below W.heap.size W w':=by
 have hmf:∀(fn:Fn) (first cap:Array Value) (w:World),(Instr.makeFunc fn first cap).run Tryz.prog w=.ok (.func fn first cap) w:=fun _ _ _ _=>rfl
 obtain ⟨o,ho⟩:∃o,Pk.pick t (.fn .bracket)=o:=⟨_,rfl⟩
 have HO:Hid (Pk.pick t (.fn .bracket)=o):=ho
 rw [ho]
 clear ho
 dsimp only [Tv.v]
 go_enter Tryz.func221,Tryz.ntmps221
 go_wp2_with fail
 all_goals (
  go_ret
  refine ⟨_,rfl,?_,tok_below _ _⟩
  rw [←HO.out]
  clear HO hmf
  simp_all [Pk.pick,Dk.pick,Tv.is,PV]
  try exact rep_mt _ _ rfl)
set_option maxHeartbeats 1000000 in
theorem pdeclaration_any (g:Nat) (D:Nat→Prop) (t:Tv) (W:World):Calls Tryz.prog 149 #[pt g,t.v] W fun r w'=>∃u,r=.returned u∧PV g D W u (Pk.pick t (.fn .declaration))∧Below W.heap.size W w':=by
 have hmf:∀(fn:Fn) (first cap:Array Value) (w:World),(Instr.makeFunc fn first cap).run Tryz.prog w=.ok (.func fn first cap) w:=fun _ _ _ _=>rfl
 obtain ⟨o,ho⟩:∃o,Pk.pick t (.fn .declaration)=o:=⟨_,rfl⟩
 have HO:Hid (Pk.pick t (.fn .declaration)=o):=ho
 rw [ho]
 clear ho
 dsimp only [Tv.v]
 go_enter Tryz.func149,Tryz.ntmps149
 go_wp2_with fail
 all_goals (
  go_ret
  refine ⟨_,rfl,?_,tok_below _ _⟩
  rw [←HO.out]
  clear HO hmf
  simp_all [Pk.pick,Dk.pick,Tv.is,PV]
  try exact rep_mt _ _ rfl)
set_option maxHeartbeats 1000000 in
theorem pdetail_any (g:Nat) (D:Nat→Prop) (t:Tv) (W:World):Calls Tryz.prog 241 #[pt g,t.v] W fun r w'=>∃u,r=.returned u∧PV g D W u (Pk.pick t (.fn .detail))∧Below W.heap.size W w':=by
 have hmf:∀(fn:Fn) (first cap:Array Value) (w:World),(Instr.makeFunc fn first cap).run Tryz.prog w=.ok (.func fn first cap) w:=fun _ _ _ _=>rfl
 obtain ⟨o,ho⟩:∃o,Pk.pick t (.fn .detail)=o:=⟨_,rfl⟩
 have HO:Hid (Pk.pick t (.fn .detail)=o):=ho
 rw [ho]
 clear ho
 dsimp only [Tv.v]
 go_enter Tryz.func241,Tryz.ntmps241
 go_wp2_with fail
 all_goals (
  go_ret
  refine ⟨_,rfl,?_,tok_below _ _⟩
  rw [←HO.out]
  clear HO hmf
  simp_all [Pk.pick,Dk.pick,Tv.is,PV]
  try exact rep_mt _ _ rfl)
set_option maxHeartbeats 1000000 in
theorem factorN_any (t:Tv) (W:World):Calls Tryz.prog 257 #[t.v] W fun r w'=>r=.returned (.int .u8 (facN t))∧Below W.heap.size W w':=by
 obtain ⟨z,hz⟩:∃z,facN t=z:=⟨_,rfl⟩
 obtain ⟨cb,hcb⟩:∃cb,(t.k == 3 || t.k == 4 || t.k == 5)=cb:=⟨_,rfl⟩
 have HZ:Hid (facN t=z):=hz
 have HK:Hid ((t.k == 3 || t.k == 4 || t.k == 5)=cb):=hcb
 have HC:Hid (∀V,Calls Tryz.prog 262 #[t.v] V fun r w'=>r=.returned (.int .i64 (dd cb))∧Below V.heap.size V w'):=fun V=>by rw [←hcb];exact constant_any t V
 rw [hz]
 clear hcb hz
 obtain ⟨k,tt,a,l,c,f⟩:=t
 have HA:Hid (Below W.heap.size W (W.alloc (.cells #[.int .u8 k,.string tt,.int .i64 a,.int .i64 l,.int .i64 c,.int .i64 f] 37))):=pbelow_new _ _
 dsimp only [Tv.v] at HC HK ⊢
 by_cases k6:k=6
 ·subst k6
  cases cb
  ·have e0:dd false=0:=rfl
   rw [e0] at HC
   clear e0
   go_enter Tryz.func257,Tryz.ntmps257
   go_wp2_with (go_at_call 262;refine (HC.out _).mono ?_;rintro r w1 ⟨rfl,hb1⟩;have HB:Hid (Below W.heap.size W w1):=HA.out.trans (hb1.mono HA.out.size);have q0:w1.cell? ⟨W.heap.size,0,none⟩=some (.int .u8 6):=blk_cell (blk_below (new_at W _) hb1) rfl;clear hb1)
   all_goals (
    go_ret
    refine ⟨?_,by first|exact HB.out|exact pbelow_new _ _⟩
    have hz:=HZ.out
    have hk:=HK.out
    clear HZ HK HC HA
    simp_all [facN,Tv.is]
    try omega)
  ·have e0:dd true=2:=rfl
   rw [e0] at HC
   clear e0
   go_enter Tryz.func257,Tryz.ntmps257
   go_wp2_with (go_at_call 262;refine (HC.out _).mono ?_;rintro r w1 ⟨rfl,hb1⟩;have HB:Hid (Below W.heap.size W w1):=HA.out.trans (hb1.mono HA.out.size);have q0:w1.cell? ⟨W.heap.size,0,none⟩=some (.int .u8 6):=blk_cell (blk_below (new_at W _) hb1) rfl;clear hb1)
   all_goals (
    go_ret
    refine ⟨?_,by first|exact HB.out|exact pbelow_new _ _⟩
    have hz:=HZ.out
    have hk:=HK.out
    clear HZ HK HC HA
    simp_all [facN,Tv.is]
    try omega)
 by_cases k2:k=2
 ·subst k2
  cases cb
  ·have e0:dd false=0:=rfl
   rw [e0] at HC
   clear e0
   go_enter Tryz.func257,Tryz.ntmps257
   go_wp2_with (go_at_call 262;refine (HC.out _).mono ?_;rintro r w1 ⟨rfl,hb1⟩;have HB:Hid (Below W.heap.size W w1):=HA.out.trans (hb1.mono HA.out.size);have q0:w1.cell? ⟨W.heap.size,0,none⟩=some (.int .u8 2):=blk_cell (blk_below (new_at W _) hb1) rfl;clear hb1)
   all_goals (
    go_ret
    refine ⟨?_,by first|exact HB.out|exact pbelow_new _ _⟩
    have hz:=HZ.out
    have hk:=HK.out
    clear HZ HK HC HA
    simp_all [facN,Tv.is]
    try omega)
  ·have e0:dd true=2:=rfl
   rw [e0] at HC
   clear e0
   go_enter Tryz.func257,Tryz.ntmps257
   go_wp2_with (go_at_call 262;refine (HC.out _).mono ?_;rintro r w1 ⟨rfl,hb1⟩;have HB:Hid (Below W.heap.size W w1):=HA.out.trans (hb1.mono HA.out.size);have q0:w1.cell? ⟨W.heap.size,0,none⟩=some (.int .u8 2):=blk_cell (blk_below (new_at W _) hb1) rfl;clear hb1)
   all_goals (
    go_ret
    refine ⟨?_,by first|exact HB.out|exact pbelow_new _ _⟩
    have hz:=HZ.out
    have hk:=HK.out
    clear HZ HK HC HA
    simp_all [facN,Tv.is]
    try omega)
 ·have k6':(k == 6)=false:=by simpa using k6
  have k2':(k == 2)=false:=by simpa using k2
  clear k6 k2
  cases cb
  ·have e0:dd false=0:=rfl
   rw [e0] at HC
   clear e0
   go_enter Tryz.func257,Tryz.ntmps257
   go_wp2_with (go_at_call 262;refine (HC.out _).mono ?_;rintro r w1 ⟨rfl,hb1⟩;have HB:Hid (Below W.heap.size W w1):=HA.out.trans (hb1.mono HA.out.size);have q0:w1.cell? ⟨W.heap.size,0,none⟩=some (.int .u8 k):=blk_cell (blk_below (new_at W _) hb1) rfl;clear hb1)
   all_goals (
    go_ret
    refine ⟨?_,by first|exact HB.out|exact pbelow_new _ _⟩
    have hz:=HZ.out
    have hk:=HK.out
    clear HZ HK HC HA
    simp_all [facN,Tv.is]
    try omega)
  ·have e0:dd true=2:=rfl
   rw [e0] at HC
   clear e0
   go_enter Tryz.func257,Tryz.ntmps257
   go_wp2_with (go_at_call 262;refine (HC.out _).mono ?_;rintro r w1 ⟨rfl,hb1⟩;have HB:Hid (Below W.heap.size W w1):=HA.out.trans (hb1.mono HA.out.size);have q0:w1.cell? ⟨W.heap.size,0,none⟩=some (.int .u8 k):=blk_cell (blk_below (new_at W _) hb1) rfl;clear hb1)
   all_goals (
    go_ret
    refine ⟨?_,by first|exact HB.out|exact pbelow_new _ _⟩
    have hz:=HZ.out
    have hk:=HK.out
    clear HZ HK HC HA
    simp_all [facN,Tv.is]
    try omega)
set_option maxHeartbeats 400000 in
theorem pickRow_any {g:Nat}{D:Nat→Prop}{W:World}{b1 b2 b3:Nat}{r:List Fl}(h:RowB g D W b3 b1 r) (h2:W.heap[b2]?=some (.cells #[alV b3 b1] 152 (0,0))) (hr:∃k ts rest,r=Fl.wd k ts :: rest) (t:Tv) :
  Calls Tryz.prog 244 #[t.v,pt b1,pt b2] W fun e w'=>∃u,e=.returned u∧PV g D W u (Pk.pick t (.row r))∧Below W.heap.size W w':=by
 obtain ⟨k,ts,rest,hrr⟩:=hr
 have HG:Hid (Rep g D W (alV b3 b1) (.all r)):=.all h
 obtain ⟨ao,cap,xs,x1,x2,x3,x4⟩:=h.ex
 rw [hrr] at x3
 obtain ⟨v0,xs',rfl,hv0,_⟩:∃v0 xs',xs=v0 :: xs'∧RepF g D W v0 (.wd k ts)∧True:=by
  cases x3 with
  |cons hv hl=>exact ⟨_,_,rfl,hv,trivial⟩
 obtain ⟨_,b,off,rfl,c0⟩:=x2 0 v0 rfl
 obtain ⟨ao,cp,rfl,hl,hlen⟩:∃ao cp,v0=wdV k (.slice ao ts.length cp)∧Ls W ao ts∧ts.length≤1000:=by
  cases hv0 with
  |wd hl hd hlen=>exact ⟨_,_,rfl,hl,hlen⟩
 ·clear hv0
  have HS:Hid (∀V,Below W.heap.size W V→Calls Tryz.prog 147 #[.agg #[.int .u8 k,.slice ao ts.length cp],.agg #[.int .u8 t.k,.string t.t,.int .i64 t.a,.int .i64 t.l,.int .i64 t.c,.int .i64 t.f]] V fun r w'=>r=.returned (.int .i64 (dd (t.k == k && has ts t.t)))∧Below V.heap.size V w'):=fun V hb=>stand_any k ao ts cp t V (hl.below hb) hlen
  have hp:Pk.pick t (.row r)=if (t.k == k && has ts t.t) then some (.all r) else none:=by rw [hrr];rfl
  rw [hp]
  generalize (t.k == k && has ts t.t)=cb at *
  have y1:W.cell? ⟨b1,0,none⟩=_:=blk_cell x1 rfl
  have y2:W.cell? ⟨b2,0,none⟩=_:=blk_cell h2 rfl
  have z1:=blk_lt x1
  have z2:=blk_lt h2
  have z3:b<W.heap.size:=World.block_lt_of_cell? _ _ c0
  have HY2:Hid (W.heap[b2]?=some (.cells #[alV b3 b1] 152 (0,0))):=h2
  have q1:(0:Int)<(xs'.length:Int)+1:=by omega
  clear h h2 hrr x1 x2 x3 x4 hl hp
  have HA:Hid (Below W.heap.size W (W.alloc (.cells #[.int .u8 t.k,.string t.t,.int .i64 t.a,.int .i64 t.l,.int .i64 t.c,.int .i64 t.f] 37)).drew):=(tok_below W t).drew
  rw [Nat.add_zero] at c0
  dsimp only [wdV] at c0
  dsimp only [Tv.v,List.length_cons] at *
  cases cb
  ·have e0:dd false=0:=rfl
   rw [e0] at HS
   clear e0
   go_enter Tryz.func244,Tryz.ntmps244
   go_wp2_with fail
   go_region_with (go_at_call 147;refine (HS.out _ HA.out).mono ?_;rintro r w1 ⟨rfl,hb1⟩;have HB:Hid (Below W.heap.size W w1):=HA.out.trans (hb1.mono HA.out.size);clear hb1)
   all_goals (
    go_wp2_with fail
    go_ret
    exact ⟨_,rfl,rfl,HB.out⟩)
  ·have e0:dd true=2:=rfl
   rw [e0] at HS
   clear e0
   go_enter Tryz.func244,Tryz.ntmps244
   go_wp2_with fail
   go_region_with (go_at_call 147;refine (HS.out _ HA.out).mono ?_;rintro r w1 ⟨rfl,hb1⟩;have HB:Hid (Below W.heap.size W w1):=HA.out.trans (hb1.mono HA.out.size);have y5:w1.cell? ⟨b2,0,none⟩=some (alV b3 b1):=blk_cell (blk_below HY2.out (HA.out.trans (hb1.mono HA.out.size))) rfl;clear hb1)
   all_goals (
    go_wp2_with fail
    go_ret
    exact ⟨_,rfl,HG.out,HB.out⟩)
set_option maxHeartbeats 400000 in
theorem pickEx_any {g:Nat}{D:Nat→Prop}{W:World}{b:Nat}{m:M}(h2:W.heap[b]?=some (.cells #[mtV g m.id] 153 (0,0))) (t:Tv) :
  Calls Tryz.prog 256 #[t.v,pt b] W fun e w'=>∃u,e=.returned u∧PV g D W u (Pk.pick t (.ex m))∧Below W.heap.size W w':=by
 have HF:Hid (∀V,Calls Tryz.prog 257 #[.agg #[.int .u8 t.k,.string t.t,.int .i64 t.a,.int .i64 t.l,.int .i64 t.c,.int .i64 t.f]] V fun r w'=>r=.returned (.int .u8 (facN t))∧Below V.heap.size V w'):=fun V=>factorN_any t V
 have HA:Hid (Below W.heap.size W (W.alloc (.cells #[.int .u8 t.k,.string t.t,.int .i64 t.a,.int .i64 t.l,.int .i64 t.c,.int .i64 t.f] 37))):=tok_below W t
 have HY:Hid (W.heap[b]?=some (.cells #[mtV g m.id] 153 (0,0))):=h2
 have HP:Hid (Pk.pick t (.ex m)=if facN t == 0 then none else some (.fl (.mt m))):=rfl
 rw [HP.out]
 generalize facN t=z at *
 clear HP h2
 dsimp only [Tv.v]
 by_cases hz:(z == 0)=true
 ·rw [hz]
  go_enter Tryz.func256,Tryz.ntmps256
  go_wp2_with (go_at_call 257;refine (HF.out _).mono ?_;rintro r w1 ⟨rfl,hb1⟩;have HB:Hid (Below W.heap.size W w1):=HA.out.trans (hb1.mono HA.out.size);clear hb1)
  go_ret
  exact ⟨_,rfl,rfl,HB.out⟩
 ·have hz':(z == 0)=false:=by simpa using hz
  clear hz
  rw [hz']
  go_enter Tryz.func256,Tryz.ntmps256
  go_wp2_with (go_at_call 257;refine (HF.out _).mono ?_;rintro r w1 ⟨rfl,hb1⟩;have HB:Hid (Below W.heap.size W w1):=HA.out.trans (hb1.mono HA.out.size);have y5:w1.cell? ⟨b,0,none⟩=some (mtV g m.id):=blk_cell (blk_below HY.out (HA.out.trans (hb1.mono HA.out.size))) rfl;clear hb1)
  go_ret
  exact ⟨_,rfl,.fl (.mt m),HB.out⟩
abbrev Ent (f:Nat):Prop:=∀(args:Array Value) (w:World),(callFunc f args).run Tryz.prog w=.ok (.enter f args) w
theorem pick_any {g:Nat}{D:Nat→Prop}{W:World}{v:Value}{p:Pk}(h:RepP g D W v p) (t:Tv):∃f fi ca,v=.func (.func f) fi ca∧Ent f∧∀V,Below W.heap.size W V→Calls Tryz.prog f (fi.push t.v++ca) V fun e w'=>∃u,e=.returned u∧PV g D V u (Pk.pick t p)∧Below V.heap.size V w':=by
 cases h with
 |fn d=>
  cases d with
  |declaration=>exact ⟨_,_,_,rfl,enters_of Tryz.func149 (by kernel_rfl) rfl,fun V hb=>pdeclaration_any g D t V⟩
  |bracket=>exact ⟨_,_,_,rfl,enters_of Tryz.func221 (by kernel_rfl) rfl,fun V hb=>bracket_any g D t V⟩
  |detail=>exact ⟨_,_,_,rfl,enters_of Tryz.func241 (by kernel_rfl) rfl,fun V hb=>pdetail_any g D t V⟩
 |row h1 h2 h3 h4=>exact ⟨_,_,_,rfl,enters_of Tryz.func244 (by kernel_rfl) rfl,fun V hb=>pickRow_any (h1.turn (fun _ h=>h) (fun k o _ ho=>blk_below ho hb)) (blk_below h2 hb) h4 t⟩
 |ex h1 h2=>exact ⟨_,_,_,rfl,enters_of Tryz.func256 (by kernel_rfl) rfl,fun V hb=>pickEx_any (blk_below h1 hb) t⟩
theorem Ps.below' {g:Nat}{D:Nat→Prop}{W W':World}{n:Int}{K:List It}{E:List Ev}{vs vt:Value}(h:Ps g D W n K E vs vt) (hb:Below W.heap.size W W'):Ps g D W' n K E vs vt:=by
 obtain ⟨xs,h1,h2⟩:=h.st
 exact ⟨h.pb.below hb,⟨xs,h1.below hb,h2.mono (fun v x hx=>hx.turn (fun _ h=>h) (fun k o _ ho=>blk_below ho hb))⟩,h.ev.below hb,h.dg,h.ds,h.dt,fun k hk=>Nat.lt_of_lt_of_le (h.dl k hk) hb.size⟩
theorem Ps.quiet {g:Nat}{D:Nat→Prop}{W W':World}{n:Int}{K:List It}{E:List Ev}{vs vt:Value}(h:Ps g D W n K E vs vt) (hb:Below W.heap.size W W'):Gone g D vs vt W W' n K E:=
 ⟨D,vs,vt,h.below' hb,Kp.of_below hb,Nb.refl _ _,Nb.refl _ _,fun _ h=>h,fun _ h=>.inl h⟩
theorem all_ps {g:Nat}{D:Nat→Prop}{W:World}{n:Int}{K:List It}{E:List Ev}{vs vt:Value}(h:Ps g D W n K E vs vt) {b1 b3:Nat}{r:List Fl}(hr:RowB g D W b3 b1 r) (t:Tv) (hK:K.length≤10000000) :
  Calls Tryz.prog 243 #[t.v,pt b3,pt b1] W fun e w'=>e=.returned (.int .i64 1)∧Gone g D vs vt W w' n (r.map It.fl++K) E:=by
 obtain ⟨ao,cap,xs,x1,x2,x3,x4⟩:=hr.ex
 have hxl:xs.length≤1000:=by rw [x3.len];exact hr.ln
 have y1:W.cell? ⟨b1,0,none⟩=_:=blk_cell x1 rfl
 have y3:W.cell? ⟨b3,0,none⟩=_:=blk_cell hr.pb rfl
 have hR:Row g D W ao xs (r.map It.fl):=⟨x2,x3.map (fun v x hx=>.fl hx),x4⟩
 have HX:Hid (∀V,Below W.heap.size W V→Calls Tryz.prog 145 #[pt g,.slice ao xs.length cap] V fun e w'=>e=.returned (.int .i64 1)∧Gone g D vs vt W w' n (r.map It.fl++K) E):=fun V hb=>by
  refine (expect_gone (h.below' hb) ao xs xs.length cap (r.map It.fl) rfl (hR.turn (fun k o _ ho=>blk_below ho hb)) (by omega) (by omega)).mono ?_
  rintro e w' ⟨rfl,hG⟩
  refine ⟨rfl,Gone.go (Kp.of_below hb) (Nb.refl _ _) (Nb.refl _ _) (fun _ h=>h) (fun _ h=>.inl h) hG⟩
 have HA:Hid (Below W.heap.size W (W.alloc (.cells #[.int .u8 t.k,.string t.t,.int .i64 t.a,.int .i64 t.l,.int .i64 t.c,.int .i64 t.f] 37))):=tok_below W t
 have z1:=blk_lt x1
 have z3:=blk_lt hr.pb
 clear h hr x1 x2 x3 x4 hR hK
 dsimp only [Tv.v]
 go_enter Tryz.func243,Tryz.ntmps243
 go_wp2_with (go_at_call 145;refine (HX.out _ HA.out).mono ?_;rintro e w1 ⟨rfl,hG⟩;have HG:Hid (Gone g D vs vt W w1 n (r.map It.fl++K) E):=hG;clear hG)
 go_ret
 exact ⟨rfl,HG.out⟩
theorem expect_mix {g:Nat}{D:Nat→Prop}{W V:World}{n:Int}{K:List It}{E:List Ev}{vs vt:Value}(h:Ps g D W n K E vs vt) (hb:Below W.heap.size W V) (xs:List Value) (m:Nat) (r:List It) (hr:Al (Rep g D V) xs r) (hm:xs.length=m) (hx:xs.length≤1000) (hK:K.length≤10000000) :
  Calls Tryz.prog 145 #[pt g,.slice (some ⟨V.heap.size,0,none⟩) m m] (V.alloc (.cells xs.toArray 153)) fun e w'=>e=.returned (.int .i64 1)∧Gone g D vs vt W w' n (r++K) E:=by
 obtain ⟨X,hX⟩:∃X,V.alloc (.cells xs.toArray 153)=X:=⟨_,rfl⟩
 have hb1:Below V.heap.size V X:=by rw [←hX];exact pbelow_new _ _
 have hs:X.heap.size=V.heap.size+1:=by rw [←hX,World.size_alloc]
 have hb2:Below W.heap.size W X:=hb.trans (hb1.mono hb.size)
 have hR:Row g (Dn D W.heap.size X.heap.size) X (some ⟨V.heap.size,0,none⟩) xs r:=by
  refine ⟨fun j s hj=>?_,hr.mono (fun v x hx=>hx.turn (fun k hk=>.inl hk) (fun k o _ ho=>blk_below ho hb1)),?_⟩
  ·obtain ⟨x,_,hx⟩:=hr.at hj
   refine ⟨hx.isFn,_,_,rfl,?_⟩
   rw [←hX]
   exact blk_cell (new_at V _) (by rw [Nat.zero_add];simpa using hj)
  ·intro a ha
   cases ha
   exact .inr ⟨hb.size,by show V.heap.size<_;omega⟩
 rw [hX]
 refine (expect_gone (h.fresh hb2) _ xs m m r hm hR (by omega) (by omega)).mono ?_
 rintro e w' ⟨rfl,hG⟩
 exact ⟨rfl,Gone.fresh hb2 hG⟩
theorem eql_nil (w:World):(binOp .eql 153 .nilFunc .nilFunc).run Tryz.prog w=.ok (.bool true) w:=by kernel_rfl
theorem eql_fn (fn:Fn) (fi ca:Array Value) (w:World):(binOp .eql 153 (.func fn fi ca) .nilFunc).run Tryz.prog w=.ok (.bool false) w:=by kernel_rfl
set_option maxHeartbeats 400000 in
theorem once_ps {g:Nat}{D:Nat→Prop}{W:World}{n:Int}{K:List It}{E:List Ev}{vs vt:Value}(h:Ps g D W n K E vs vt) {v:Value}{p:Pk}(hv:RepP g D W v p) (t:Tv) (hK:K.length≤10000000) :
  Calls Tryz.prog 222 #[.agg #[pt g,v],t.v] W fun e w'=>e=.returned (.int .i64 1)∧Gone g D vs vt W w' n ((Pk.pick t p).toList++K) E:=by
 have hv0:=hv
 obtain ⟨f,fi,ca,rfl,eg,hc⟩:=pick_any hv t
 have hmf:∀(fn:Fn) (first cap:Array Value) (w:World),(Instr.makeFunc fn first cap).run Tryz.prog w=.ok (.func fn first cap) w:=fun _ _ _ _=>rfl
 have HC:Hid (∀V,Below W.heap.size W V→Calls Tryz.prog f (fi.push (.agg #[.int .u8 t.k,.string t.t,.int .i64 t.a,.int .i64 t.l,.int .i64 t.c,.int .i64 t.f])++ca) V fun e w'=>∃u,e=.returned u∧PV g D V u (Pk.pick t p)∧Below V.heap.size V w'):=hc
 have HP:Hid (Ps g D W n K E vs vt∧K.length≤10000000∧RepP g D W (.func (.func f) fi ca) p):=⟨h,hK,hv0⟩
 have HA:Hid (Below W.heap.size W ((W.alloc (.cells #[pt g,.func (.func f) fi ca] 212)).alloc (.cells #[.int .u8 t.k,.string t.t,.int .i64 t.a,.int .i64 t.l,.int .i64 t.c,.int .i64 t.f] 37))):=(pbelow_new _ _).alloc (by rw [World.size_alloc];exact Nat.le_succ _) _
 clear hc h hK hv hv0
 dsimp only [Tv.v]
 generalize Pk.pick t p=o at *
 go_enter Tryz.func222,Tryz.ntmps222
 go_wp2_with fail
 refine (HC.out _ HA.out).mono ?_
 rintro e w1 ⟨u,rfl,hu,hb1⟩
 have hb:Below W.heap.size W w1:=HA.out.trans (hb1.mono HA.out.size)
 have d0:w1.cell? ⟨W.heap.size,0,none⟩=some (pt g):=blk_cell (blk_below (alloc_at' (new_at W _) _) hb1) rfl
 have d1:w1.cell? ⟨W.heap.size,1,none⟩=some (.func (.func f) fi ca):=blk_cell (blk_below (alloc_at' (new_at W _) _) hb1) rfl
 have HB:Hid (Below W.heap.size W w1):=hb
 cases o with
 |none=>
  have hu':u=.nilFunc:=hu
  subst hu'
  clear hu hb hb1
  have q0:=eql_nil
  go_wp2_with fail
  go_ret
  exact ⟨rfl,HP.out.1.quiet HB.out⟩
 |some i=>
  have hu':Rep g D w1 u i:=Rep.turn hu (fun _ h=>h) (fun k o _ ho=>blk_below ho hb1)
  obtain ⟨fn,fi2,ca2,rfl⟩:=hu'.isFn
  have HU:Hid (Rep g D w1 (.func fn fi2 ca2) i):=hu'
  clear hu hb hb1 hu'
  have q0:=eql_fn
  go_wp2_with fail
  refine (expect_mix HP.out.1 HB.out [.func fn fi2 ca2] 1 [i] (.cons HU.out .nil) rfl (by show 1≤1000;decide) HP.out.2.1).mono ?_
  rintro e w2 ⟨rfl,hG⟩
  have HG:Hid (Gone g D vs vt W w2 n ([i]++K) E):=hG
  clear hG
  go_wp2_with fail
  go_ret
  exact ⟨rfl,HG.out⟩
set_option maxHeartbeats 400000 in
theorem again_ps {g:Nat}{D:Nat→Prop}{W:World}{n:Int}{K:List It}{E:List Ev}{vs vt:Value}(h:Ps g D W n K E vs vt) {v:Value}{p:Pk}(hv:RepP g D W v p) (t:Tv) (hK:K.length≤10000000) :
  Calls Tryz.prog 150 #[.agg #[pt g,v],t.v] W fun e w'=>e=.returned (.int .i64 1)∧Gone g D vs vt W w' n (agR p (Pk.pick t p)++K) E:=by
 have hv0:=hv
 obtain ⟨f,fi,ca,rfl,eg,hc⟩:=pick_any hv t
 have hmf:∀(fn:Fn) (first cap:Array Value) (w:World),(Instr.makeFunc fn first cap).run Tryz.prog w=.ok (.func fn first cap) w:=fun _ _ _ _=>rfl
 have HC:Hid (∀V,Below W.heap.size W V→Calls Tryz.prog f (fi.push (.agg #[.int .u8 t.k,.string t.t,.int .i64 t.a,.int .i64 t.l,.int .i64 t.c,.int .i64 t.f])++ca) V fun e w'=>∃u,e=.returned u∧PV g D V u (Pk.pick t p)∧Below V.heap.size V w'):=hc
 have HP:Hid (Ps g D W n K E vs vt∧K.length≤10000000∧RepP g D W (.func (.func f) fi ca) p):=⟨h,hK,hv0⟩
 have HA:Hid (Below W.heap.size W ((W.alloc (.cells #[pt g,.func (.func f) fi ca] 212)).alloc (.cells #[.int .u8 t.k,.string t.t,.int .i64 t.a,.int .i64 t.l,.int .i64 t.c,.int .i64 t.f] 37))):=(pbelow_new _ _).alloc (by rw [World.size_alloc];exact Nat.le_succ _) _
 clear hc h hK hv hv0
 dsimp only [Tv.v]
 generalize Pk.pick t p=o at *
 go_enter Tryz.func150,Tryz.ntmps150
 go_wp2_with fail
 refine (HC.out _ HA.out).mono ?_
 rintro e w1 ⟨u,rfl,hu,hb1⟩
 have hb:Below W.heap.size W w1:=HA.out.trans (hb1.mono HA.out.size)
 have d0:w1.cell? ⟨W.heap.size,0,none⟩=some (pt g):=blk_cell (blk_below (alloc_at' (new_at W _) _) hb1) rfl
 have d1:w1.cell? ⟨W.heap.size,1,none⟩=some (.func (.func f) fi ca):=blk_cell (blk_below (alloc_at' (new_at W _) _) hb1) rfl
 have HB:Hid (Below W.heap.size W w1):=hb
 cases o with
 |none=>
  have hu':u=.nilFunc:=hu
  subst hu'
  clear hu hb hb1
  have q0:=eql_nil
  go_wp2_with fail
  go_ret
  exact ⟨rfl,HP.out.1.quiet HB.out⟩
 |some i=>
  have hu':Rep g D w1 u i:=Rep.turn hu (fun _ h=>h) (fun k o _ ho=>blk_below ho hb1)
  obtain ⟨fn,fi2,ca2,rfl⟩:=hu'.isFn
  have HU:Hid (Rep g D w1 (.func fn fi2 ca2) i):=hu'
  clear hu hb hb1 hu'
  have q0:=eql_fn
  go_wp2_with fail
  refine (expect_mix HP.out.1 HB.out [.func fn fi2 ca2,agV g (.func (.func f) fi ca)] 2 [i,.again p] (.cons HU.out (.cons (.again (HP.out.2.2.turn (fun _ h=>h) (fun k o _ ho=>blk_below ho HB.out))) .nil)) rfl (by show 2≤1000;decide) HP.out.2.1).mono ?_
  rintro e w2 ⟨rfl,hG⟩
  have HG:Hid (Gone g D vs vt W w2 n ([i,.again p]++K) E):=hG
  clear hG
  go_wp2_with fail
  go_ret
  exact ⟨rfl,HG.out⟩
end Go.Proofs.YtpdlohfdjiaegaaGreatDoor
