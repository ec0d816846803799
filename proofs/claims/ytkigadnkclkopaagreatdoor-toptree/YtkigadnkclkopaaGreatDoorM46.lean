import Derived.Laws.AppendOwnNone
import Derived.Test.YtkigadnkclkopaaGreatDoorM37
import Derived.Test.YtkigadnkclkopaaGreatDoorM45
set_option linter.unusedVariables false
set_option linter.unusedSimpArgs false
namespace Go.Proofs.YtkigadnkclkopaaGreatDoor
open Go.RowKit
theorem note_any {g:Nat}{D:Nat→Prop}{W:World}{n:Int}{K:List It}{E:List Ev}{vs vt:Value}(h:Ps g D W n K E vs vt) (t:Tv) (h7:(t.k == 7 || t.k == 8)=true) (hE:E.length≤1000000000) :
  Calls Tryz.prog 30 #[pt g,t.v] W fun e w'=>e=.returned (.int .i64 0)∧Gone g D vs vt W w' n K (E++[⟨4,0,t⟩]):=by
 have hb:Below W.heap.size W (W.alloc (.cells #[.int .u8 t.k,.string t.t,.int .i64 t.a,.int .i64 t.l,.int .i64 t.c,.int .i64 t.f] 42)):=pbelow_new _ _
 have HT:Hid (Calls Tryz.prog 73 #[pt g,.agg #[.int .u8 4,.int .u8 0,.int .u8 t.k,.string t.t,.int .i64 t.a,.int .i64 t.l,.int .i64 t.c,.int .i64 t.f]] (W.alloc (.cells #[.int .u8 t.k,.string t.t,.int .i64 t.a,.int .i64 t.l,.int .i64 t.c,.int .i64 t.f] 42)) fun e w'=>e=.returned (.tuple #[])∧Gone g D vs vt W w' n K (E++[⟨4,0,t⟩])):=tell_gone (h.quiet hb) ⟨4,0,t⟩ hE
 clear h hb hE
 dsimp only [Tv.v]
 by_cases h1:(t.k == 7)=true
 ·clear h7
  go_enter Tryz.func30,Tryz.ntmps30
  go_wp2_with fail
  refine wp_scope_jumps 0 (fun _ _=>False) (fun _ _=>0) rfl ?_ (fun _ _ h=>h.elim)
  go_wp2_with (go_at_call 73;refine HT.out.mono ?_;rintro e w3 ⟨rfl,hG3⟩;have HG3:Hid (Gone g D vs vt W w3 n K (E++[⟨4,0,t⟩])):=hG3;clear hG3)
  simp only [Exit.jump]
  go_ret
  exact ⟨rfl,HG3.out⟩
 ·have h2:(t.k == 7)=false:=by simpa using h1
  have h3:(t.k == 8)=true:=by rw [h2] at h7;simpa using h7
  clear h7 h1
  go_enter Tryz.func30,Tryz.ntmps30
  go_wp2_with fail
  refine wp_scope_jumps 0 (fun _ _=>False) (fun _ _=>0) rfl ?_ (fun _ _ h=>h.elim)
  go_wp2_with (go_at_call 73;refine HT.out.mono ?_;rintro e w3 ⟨rfl,hG3⟩;have HG3:Hid (Gone g D vs vt W w3 n K (E++[⟨4,0,t⟩])):=hG3;clear hG3)
  simp only [Exit.jump]
  go_ret
  exact ⟨rfl,HG3.out⟩
theorem refusal_any {W:World}{g:Nat}{c:Bool}{e n:Int}{vs vt:Value}(h:PB W g c e n vs vt):Calls Tryz.prog 28 #[pt g] W fun r w'=>r=.returned (.int .i64 (if c then 4 else e))∧w'=W:=by
 obtain ⟨c0,c1,c2,c3,c4⟩:=h.cells
 clear h
 cases c
 ·go_enter Tryz.func28,Tryz.ntmps28
  go_wp2_with fail
  go_ret
  exact ⟨rfl,rfl⟩
 ·go_enter Tryz.func28,Tryz.ntmps28
  go_wp2_with fail
  go_ret
  exact ⟨rfl,rfl⟩
abbrev nilS:Value:=.slice none 0 0
theorem new_any (W:World):Calls Tryz.prog 7 #[] W fun r w'=>r=.returned (pt W.heap.size)∧w'=W.alloc (.cells #[.bool false,.int .i64 0,.int .i64 0,nilS,nilS] 71):=by
 go_enter Tryz.func7,Tryz.ntmps7
 go_wp2_with fail
 go_ret
 exact ⟨rfl,rfl⟩
structure Lv1 (S:Nat→Prop) (W:World) (g:Nat) (K:List It) (n:Int) (D:Nat→Prop) (vs:Value):Prop where
 ps:Ps g D W n K [] vs nilS
 sg:S g
 ss:∀k,vs.ownBlock=some k→S k
 sd:∀k,D k→S k
def Pq (S:Nat→Prop) (W:World) (g:Nat):Pst→Prop
 |.live K n=>∃D vs,Lv1 S W g K n D vs
 |.stuck e n=>PB W g false e n nilS nilS∧S g
 |.shut=>PB W g true 0 0 nilS nilS∧S g
theorem Pq.kp {S U:Nat→Prop}{W W':World}{g:Nat}{st:Pst}(h:Pq S W g st) (hk:Kp U W W') (hU:∀k,S k→¬U k):Pq S W' g st:=by
 cases st with
 |live K n=>
  obtain ⟨D,vs,h⟩:=h
  obtain ⟨xs,h1,h2⟩:=h.ps.st
  exact ⟨D,vs,⟨h.ps.pb.kp hk (hU g h.sg),⟨xs,h1.kp hk (fun k e=>hU k (h.ss k e)),h2.mono (fun v x hx=>hx.turn (fun _ h=>h) (fun k o hd ho=>hk.blk ho (hU k (h.sd k hd))))⟩,h.ps.ev.kp hk (fun k e=>by cases e),h.ps.dg,h.ps.ds,h.ps.dt,fun k hd=>Nat.lt_of_lt_of_le (h.ps.dl k hd) hk.size⟩,h.sg,h.ss,h.sd⟩
 |stuck e n=>exact ⟨h.1.kp hk (hU g h.2),h.2⟩
 |shut=>exact ⟨h.1.kp hk (hU g h.2),h.2⟩
theorem Pq.below {S:Nat→Prop}{W W':World}{g:Nat}{st:Pst}(h:Pq S W g st) (hb:Below W.heap.size W W'):Pq S W' g st:=h.kp (Kp.of_below (S:=fun _=>False) hb) (fun _ _ h=>h)
structure Pa (S:Nat→Prop) (g:Nat) (W W':World) (v:Value) (ev:List Ev) (st:Pst):Prop where
 re:Re W' v ev
 ex:∃S',Pq S' W' g st∧(∀k,S k→S' k)∧(∀k,S' k→S k∨(W.heap.size≤k∧k<W'.heap.size))∧(∀k,v.ownBlock=some k→W.heap.size≤k∧¬S' k)
 kp:Kp S W W'
theorem pa_nil {S:Nat→Prop}{g:Nat}{W W':World}{st:Pst}(h:Pq S W' g st) (hk:Kp S W W'):Pa S g W W' nilS [] st:=
 ⟨re_nil _,⟨S,h,fun _ h=>h,fun _ h=>.inl h,fun k e=>by cases e⟩,hk⟩
theorem pa_told {S:Nat→Prop}{g:Nat}{W w:World}{K K':List It}{n n':Int}{D:Nat→Prop}{vs:Value}(h:Lv1 S W g K n D vs) (hl:∀k,S k→k<W.heap.size) {E:List Ev}(hG:Gone g D vs nilS W w n' K' E) :
  ∃vs' vt',PB w g false 0 n' vs' vt'∧Pa S g W (w.setCell ⟨g,4,none⟩ nilS) vt' E (.live K' n'):=by
 obtain ⟨D1,vs1,vt1,p1,k1,ns1,nt1,d1,d2⟩:=hG
 have hk:=Kp.set w g 4 nilS
 obtain ⟨xs,h1,h2⟩:=p1.st
 have hvt:∀k,vt1.ownBlock=some k→W.heap.size≤k:=by
  intro k e
  rcases nt1 with e1|⟨q,e1,hq⟩
  ·rw [e1] at e;cases e
  ·rw [e1] at e;simp at e;omega
 have hvs:∀k,vs1.ownBlock=some k→S k∨W.heap.size≤k:=by
  intro k e
  rcases ns1 with e1|⟨q,e1,hq⟩
  ·exact .inl (h.ss k (by rw [←e1];exact e))
  ·rw [e1] at e;simp at e;exact .inr (by omega)
 have hsz:(w.setCell ⟨g,4,none⟩ nilS).heap.size=w.heap.size:=by show (w.heap.modify g _).size=_;rw [Array.size_modify]
 refine ⟨vs1,vt1,p1.pb,p1.ev.kp hk (p1.ev.ne p1.pb (by decide)),⟨fun k=>S k∨D1 k∨vs1.ownBlock=some k,⟨D1,vs1,⟨blk_set p1.pb 4 _,⟨xs,h1.kp hk (h1.ne p1.pb (by decide)),h2.mono (fun v x hx=>hx.turn (fun _ h=>h) (fun k o hd ho=>hk.blk ho (fun e=>p1.dg (e ▸ hd))))⟩,re_nil _,p1.dg,p1.ds,(fun k e=>by cases e),(fun k hd=>by rw [hsz];exact p1.dl k hd)⟩,.inl h.sg,fun k e=>.inr (.inr e),fun k hd=>.inr (.inl hd)⟩,fun k hk=>.inl hk,?_,?_⟩,?_⟩
 ·rintro k (a|a|a)
  ·exact .inl a
  ·rcases d2 k a with b|b
   ·exact .inl (h.sd k b)
   ·exact .inr ⟨b,by rw [hsz];exact p1.dl k a⟩
  ·rcases hvs k a with b|b
   ·exact .inl b
   ·exact .inr ⟨b,by rw [hsz];exact h1.lt k a⟩
 ·intro k e
  refine ⟨hvt k e,?_⟩
  rintro (a|a|a)
  ·have:=hl k a
   have:=hvt k e
   omega
  ·exact p1.dt k e a
  ·obtain ⟨b,cap',cur,hv,hc⟩:∃b cap' cur,vs1=.slice (some ⟨b,0,none⟩) xs.length cap'∧w.heap[b]?=some (.cells cur 107 (0,0)):=by
    rcases h1.2 with ⟨e1,_⟩|⟨b,cap',cur,hv,_,h3,_⟩
    ·rw [e1] at a;cases a
    ·exact ⟨b,cap',cur,hv,h3⟩
   rw [hv] at a
   simp only [Value.ownBlock,Option.some.injEq] at a
   exact p1.ev.ne hc (by decide) k e a.symm
 ·refine (k1.sub ?_).step hk (fun k _ e=>by rw [e];exact h.sg)
  rintro k (e|e|e)
  ·rw [e];exact h.sg
  ·exact h.ss k e
  ·cases e
theorem pa_err {S:Nat→Prop}{g:Nat}{W w:World}{K:List It}{n:Int}{D:Nat→Prop}{vs:Value}(h:Lv1 S W g K n D vs) {n':Int}{K':List It}{E:List Ev}(hG:Gone g D vs nilS W w n' K' E) (e m:Int) :
  (∃vs' vt',PB w g false 0 n' vs' vt')∧PB (((((w.setCell ⟨g,0,none⟩ (.bool false)).setCell ⟨g,1,none⟩ (.int .i64 e)).setCell ⟨g,2,none⟩ (.int .i64 m)).setCell ⟨g,3,none⟩ nilS).setCell ⟨g,4,none⟩ nilS) g false e m nilS nilS ∧
  Pa S g W ((((((w.setCell ⟨g,0,none⟩ (.bool false)).setCell ⟨g,1,none⟩ (.int .i64 e)).setCell ⟨g,2,none⟩ (.int .i64 m)).setCell ⟨g,3,none⟩ nilS).setCell ⟨g,4,none⟩ nilS).setCell ⟨g,4,none⟩ nilS) nilS [] (.stuck e m):=by
 obtain ⟨D1,vs1,vt1,p1,k1,_⟩:=hG
 have pb:=blk_set (blk_set (blk_set (blk_set (blk_set p1.pb 0 (.bool false)) 1 (.int .i64 e)) 2 (.int .i64 m)) 3 nilS) 4 nilS
 refine ⟨⟨vs1,vt1,p1.pb⟩,pb,pa_nil ⟨blk_set pb 4 _,h.sg⟩ ?_⟩
 have k2:=((((((Kp.set w g 0 (.bool false)).trans (Kp.set _ g 1 (.int .i64 e))).trans (Kp.set _ g 2 (.int .i64 m))).trans (Kp.set _ g 3 nilS)).trans (Kp.set _ g 4 nilS)).trans (Kp.set _ g 4 nilS))
 refine (k1.sub ?_).step k2 (fun k _ e=>by rw [e];exact h.sg)
 rintro k (e|e|e)
 ·rw [e];exact h.sg
 ·exact h.ss k e
 ·cases e
theorem put_off {S:Nat→Prop}{W:World}{g:Nat}{st:Pst}(h:Pq S W g st) (hl:∀k,S k→k<W.heap.size) (t:Tv) {c:Bool}{e n:Int}(hp:PB W g c e n nilS nilS) (hc:(if c then 4 else e)≠0) :
  Calls Tryz.prog 11 #[pt g,t.v] W fun r w'=>r=.returned (.tuple #[nilS,.int .i64 (if c then 4 else e)])∧Pa S g W w' nilS [] st:=by
 obtain ⟨z,hz⟩:∃z:Int,(if c then 4 else e)=z:=⟨_,rfl⟩
 rw [hz] at hc ⊢
 have hb:Below W.heap.size W (W.alloc (.cells #[.int .u8 t.k,.string t.t,.int .i64 t.a,.int .i64 t.l,.int .i64 t.c,.int .i64 t.f] 42)):=tok_below W t
 have HR:Hid (Calls Tryz.prog 28 #[pt g] (W.alloc (.cells #[.int .u8 t.k,.string t.t,.int .i64 t.a,.int .i64 t.l,.int .i64 t.c,.int .i64 t.f] 42)) fun r w'=>r=.returned (.int .i64 z)∧w'=W.alloc (.cells #[.int .u8 t.k,.string t.t,.int .i64 t.a,.int .i64 t.l,.int .i64 t.c,.int .i64 t.f] 42)):=by
  have:=refusal_any (hp.below hb)
  rw [hz] at this
  exact this
 have HX:Hid (Pa S g W (W.alloc (.cells #[.int .u8 t.k,.string t.t,.int .i64 t.a,.int .i64 t.l,.int .i64 t.c,.int .i64 t.f] 42)) nilS [] st):=pa_nil (h.below hb) (Kp.of_below hb)
 have hz1:(z != 0)=true:=by simpa using hc
 clear h hp hb hz hc hl
 dsimp only [Tv.v]
 go_enter Tryz.func11,Tryz.ntmps11
 go_wp2_with (go_at_call 28;refine HR.out.mono ?_;rintro r w1 ⟨rfl,rfl⟩)
 refine bodyPost_ret (v:=.tuple #[nilS,.int .i64 z]) (by simp [results,Tryz.f11,go_sem]) rfl ?_
 exact ⟨rfl,HX.out⟩
theorem beg_bd {K:List It}{n:Int}(h:Lz K n) {k:Nat}(hk:k≤(beg K n).length+20):Bd k (beg K n) (begN n) (begE n):=by
 have h1:=h.lv
 have h2:=h.sn
 have h3:=h.sk
 by_cases h0:n=0
 ·subst h0
  have hl:(beg K 0).length=K.length+6:=by simp [beg,progR]
  have e:lvs (beg K 0)=1 :: lvs K:=by simp [beg,progR,lvs]
  have hlv:(lvs K).length=0:=by omega
  refine ⟨?_,?_,?_,by omega,by simp [begE];omega⟩
  ·refine wfs_app ?_ (wfs_cons trivial h.wf)
   intro i hi
   simp [progR] at hi
   rcases hi with rfl|rfl|rfl|rfl|rfl <;> trivial
  ·rw [e];simp [begN,hlv]
  ·rw [e];simp;omega
 ·have h0':(n == 0)=false:=by simpa using h0
  have e1:beg K n=K:=by simp [beg,h0]
  have e2:begN n=n:=by simp [begN,h0]
  have e3:begE n=[]:=by simp [begE,h0]
  rw [e1] at hk ⊢
  rw [e2,e3]
  exact ⟨h.wf,h1,by omega,by omega,by simp;omega⟩
theorem read_put {g:Nat}{D:Nat→Prop}{vs vt:Value}{W w:World}{K:List It}{n:Int}(hG:Gone g D vs vt W w (begN n) (beg K n) (begE n)) (hz:Lz K n) {t:Tv}{ev:List Ev}{code:Int}{st:Pst}(hp:Putr t (.live K n) ev code st) :
  Calls Tryz.prog 30 #[pt g,t.v] w fun e w'=>e=.returned (.int .i64 code)∧((code=0∧∃L m,st=.live L m∧Gone g D vs vt W w' m L ev)∨(code≠0∧st=.stuck code n∧ev=[]∧∃m L E,Gone g D vs vt W w' m L E)):=by
 obtain ⟨D1,vs1,vt1,p1,k1,ns1,nt1,d1,d2⟩:=hG
 have up:∀{w' m L E},Gone g D1 vs1 vt1 w w' m L E→Gone g D vs vt W w' m L E:=fun h=>Gone.go k1 ns1 nt1 d1 d2 h
 cases hp with
 |note h7=>
  refine (note_any p1 t h7 (by unfold begE;split <;> simp)).mono ?_
  rintro e w' ⟨rfl,h⟩
  exact ⟨rfl,.inl ⟨rfl,_,_,rfl,up h⟩⟩
 |no h7 hR hk=>
  rw [Bool.or_eq_false_iff] at h7
  refine (pread_any p1 t h7.1 h7.2 hR (beg_bd hz hk)).mono ?_
  rintro e w' ⟨rfl,m,L,E,h⟩
  exact ⟨rfl,.inr ⟨by decide,rfl,rfl,m,L,E,up h⟩⟩
 |deep h7 hR hk hm=>
  rw [Bool.or_eq_false_iff] at h7
  refine (pread_any p1 t h7.1 h7.2 hR (beg_bd hz hk)).mono ?_
  intro e w' h
  obtain ⟨rfl,m,L,E,h2⟩:=h.1 hm
  exact ⟨rfl,.inr ⟨by decide,rfl,rfl,m,L,E,up h2⟩⟩
 |yes h7 hR hk hm=>
  rw [Bool.or_eq_false_iff] at h7
  refine (pread_any p1 t h7.1 h7.2 hR (beg_bd hz hk)).mono ?_
  intro e w' h
  obtain ⟨rfl,h2⟩:=h.2 hm
  exact ⟨rfl,.inl ⟨rfl,_,_,rfl,up h2⟩⟩
set_option maxHeartbeats 1000000 in
theorem put_live {S:Nat→Prop}{W:World}{g:Nat}{K:List It}{n:Int}{D:Nat→Prop}{vs:Value}(h:Lv1 S W g K n D vs) (hl:∀k,S k→k<W.heap.size) (hz:Lz K n) {t:Tv}{ev:List Ev}{code:Int}{st:Pst}(hp:Putr t (.live K n) ev code st) :
  Calls Tryz.prog 11 #[pt g,t.v] W fun r w'=>∃v,r=.returned (.tuple #[v,.int .i64 code])∧Pa S g W w' v ev st:=by
 obtain ⟨V,hV⟩:∃V,W.alloc (.cells #[.int .u8 t.k,.string t.t,.int .i64 t.a,.int .i64 t.l,.int .i64 t.c,.int .i64 t.f] 42)=V:=⟨_,rfl⟩
 have hb:Below W.heap.size W V:=by rw [←hV];exact tok_below W t
 have hT:Tb V W.heap.size t:=by rw [←hV];exact new_at _ _
 have pV:=h.ps.below' hb
 have HV:Hid (W.alloc (.cells #[.int .u8 t.k,.string t.t,.int .i64 t.a,.int .i64 t.l,.int .i64 t.c,.int .i64 t.f] 42)=V):=hV
 have HR:Hid (Calls Tryz.prog 28 #[pt g] V fun r w'=>r=.returned (.int .i64 0)∧w'=V):=refusal_any pV.pb
 have HRd:Hid (∀w,Gone g D vs nilS W w (begN n) (beg K n) (begE n)→Calls Tryz.prog 30 #[pt g,.agg #[.int .u8 t.k,.string t.t,.int .i64 t.a,.int .i64 t.l,.int .i64 t.c,.int .i64 t.f]] w fun e w'=>e=.returned (.int .i64 code)∧((code=0∧∃L m,st=.live L m∧Gone g D vs nilS W w' m L ev)∨(code≠0∧st=.stuck code n∧ev=[]∧∃m L E,Gone g D vs nilS W w' m L E))):=fun w hw=>read_put hw hz hp
 have HTold:Hid (∀w L m,Gone g D vs nilS W w m L ev→∃vs' vt',PB w g false 0 m vs' vt'∧Pa S g W (w.setCell ⟨g,4,none⟩ nilS) vt' ev (.live L m)):=fun w L m hG=>pa_told h hl hG
 have HErr:Hid (∀w L m E,Gone g D vs nilS W w m L E→(∃vs' vt',PB w g false 0 m vs' vt')∧PB (((((w.setCell ⟨g,0,none⟩ (.bool false)).setCell ⟨g,1,none⟩ (.int .i64 code)).setCell ⟨g,2,none⟩ (.int .i64 n)).setCell ⟨g,3,none⟩ nilS).setCell ⟨g,4,none⟩ nilS) g false code n nilS nilS∧Pa S g W ((((((w.setCell ⟨g,0,none⟩ (.bool false)).setCell ⟨g,1,none⟩ (.int .i64 code)).setCell ⟨g,2,none⟩ (.int .i64 n)).setCell ⟨g,3,none⟩ nilS).setCell ⟨g,4,none⟩ nilS).setCell ⟨g,4,none⟩ nilS) nilS [] (.stuck code n)):=fun w L m E hG=>pa_err h hG code n
 obtain ⟨c0,c1,c2,c3,c4⟩:=pV.pb.cells
 have HG0:Hid (Gone g D vs nilS W V n K []∧Tb V W.heap.size t∧Ps g D V n K [] vs nilS):=⟨h.ps.quiet hb,hT,pV⟩
 have HPr:Hid (n=0→Calls Tryz.prog 29 #[pt g] V fun e w'=>e=.returned (.int .i64 1)∧Gone g D vs nilS W w' (begN n) (beg K n) (begE n)∧Tb w' W.heap.size t):=fun h0=>by
  subst h0
  have hz2:=hz.sk
  refine (program_ps (g:=g) (D:=D) (W:=V) (n:=0) (K:=K) (E:=[]) (vs:=vs) (vt:=nilS) ⟨pV,by omega,by omega,by omega,by simp⟩).mono ?_
  rintro e w' ⟨rfl,hG⟩
  refine ⟨rfl,Gone.go (Kp.of_below hb) (Nb.refl _ _) (Nb.refl _ _) (fun _ h=>h) (fun _ h=>.inl h) hG,?_⟩
  obtain ⟨_,_,_,_,k5,_⟩:=hG
  exact hT.kp pV k5
 have hnn:0≤n:=by have:=hz.lv;omega
 clear h hl hz hp hV hb pV
 dsimp only [Tv.v]
 by_cases h0:n=0
 ·have q0:(n == 0)=true:=by simpa using h0
  have HP0:Hid (Calls Tryz.prog 29 #[pt g] V fun e w'=>e=.returned (.int .i64 1)∧Gone g D vs nilS W w' (begN n) (beg K n) (begE n)∧Tb w' W.heap.size t):=HPr.out h0
  generalize begN n=n1 at *
  generalize beg K n=K1 at *
  generalize begE n=E1 at *
  clear HPr h0
  go_enter Tryz.func11,Tryz.ntmps11
  go_wp2_with fail
  rw [HV.out]
  refine HR.out.mono ?_
  rintro r w1 ⟨rfl,rfl⟩
  go_wp2_with fail
  refine HP0.out.mono ?_
  rintro r w3 ⟨rfl,hG3,hT3⟩
  obtain ⟨m0,m1,m2,m3,m4,m5⟩:=hT3.cells
  have HG3:Hid (Gone g D vs nilS W w3 n1 K1 E1):=hG3
  clear hG3 hT3
  go_wp2_with fail
  refine (HRd.out _ HG3.out).mono ?_
  rintro r w2 ⟨rfl,h2⟩
  rcases h2 with ⟨rfl,L,m,rfl,hG2⟩|⟨hne,rfl,rfl,m,L,E2,hG2⟩
  ·obtain ⟨vs',vt',pb2,hP⟩:=HTold.out _ _ _ hG2
   obtain ⟨x0,x1,x2,x3,x4⟩:=pb2.cells
   have f4:=pb2.frozen 4
   have HX:Hid (Pa S g W (w2.setCell ⟨g,4,none⟩ nilS) vt' ev (.live L m)):=hP
   obtain ⟨pv,cv,hvt,_⟩:=hP.re.shape
   subst hvt
   clear hP pb2 hG2
   go_wp2_with fail
   refine bodyPost_ret (v:=.tuple #[.slice pv ev.length cv,.int .i64 0]) (by simp [results,Tryz.f11,go_sem]) rfl ?_
   exact ⟨_,rfl,HX.out⟩
  ·obtain ⟨⟨vs',vt',pb2⟩,pb3,hP⟩:=HErr.out _ _ _ _ hG2
   obtain ⟨x0,x1,x2,x3,x4⟩:=pb2.cells
   obtain ⟨y0,y1,y2,y3,y4⟩:=pb3.cells
   have f0:=pb2.frozen 0
   have f1:=pb2.frozen 1
   have f2:=pb2.frozen 2
   have f3:=pb2.frozen 3
   have f4:=pb2.frozen 4
   have g4:=pb3.frozen 4
   have HX:=hid hP
   have q5:(code != 0)=true:=by simpa using hne
   clear hP pb2 pb3 hG2 hne
   go_wp2_with fail
   refine bodyPost_ret (v:=.tuple #[nilS,.int .i64 code]) (by simp [results,Tryz.f11,go_sem]) rfl ?_
   exact ⟨_,rfl,HX.out⟩
 ·have q0:(n == 0)=false:=by simpa using h0
  have e1:beg K n=K:=by simp [beg,h0]
  have e2:begN n=n:=by simp [begN,h0]
  have e3:begE n=[]:=by simp [begE,h0]
  rw [e1,e2,e3] at HRd
  clear e1 e2 e3 HPr h0
  obtain ⟨m0,m1,m2,m3,m4,m5⟩:=hT.cells
  go_enter Tryz.func11,Tryz.ntmps11
  go_wp2_with fail
  rw [HV.out]
  refine HR.out.mono ?_
  rintro r w1 ⟨rfl,rfl⟩
  go_wp2_with fail
  refine (HRd.out _ HG0.out.1).mono ?_
  rintro r w2 ⟨rfl,h2⟩
  rcases h2 with ⟨rfl,L,m,rfl,hG2⟩|⟨hne,rfl,rfl,m,L,E2,hG2⟩
  ·obtain ⟨vs',vt',pb2,hP⟩:=HTold.out _ _ _ hG2
   obtain ⟨x0,x1,x2,x3,x4⟩:=pb2.cells
   have f4:=pb2.frozen 4
   have HX:Hid (Pa S g W (w2.setCell ⟨g,4,none⟩ nilS) vt' ev (.live L m)):=hP
   obtain ⟨pv,cv,hvt,_⟩:=hP.re.shape
   subst hvt
   clear hP pb2 hG2
   go_wp2_with fail
   refine bodyPost_ret (v:=.tuple #[.slice pv ev.length cv,.int .i64 0]) (by simp [results,Tryz.f11,go_sem]) rfl ?_
   exact ⟨_,rfl,HX.out⟩
  ·obtain ⟨⟨vs',vt',pb2⟩,pb3,hP⟩:=HErr.out _ _ _ _ hG2
   obtain ⟨x0,x1,x2,x3,x4⟩:=pb2.cells
   obtain ⟨y0,y1,y2,y3,y4⟩:=pb3.cells
   have f0:=pb2.frozen 0
   have f1:=pb2.frozen 1
   have f2:=pb2.frozen 2
   have f3:=pb2.frozen 3
   have f4:=pb2.frozen 4
   have g4:=pb3.frozen 4
   have HX:=hid hP
   have q5:(code != 0)=true:=by simpa using hne
   clear hP pb2 pb3 hG2 hne
   go_wp2_with fail
   refine bodyPost_ret (v:=.tuple #[nilS,.int .i64 code]) (by simp [results,Tryz.f11,go_sem]) rfl ?_
   exact ⟨_,rfl,HX.out⟩
theorem shut_d (u:FrameMode) {W:World}{g:Nat}{c:Bool}{e n:Int}{vs vt:Value}(h:PB W g c e n vs vt):CallsD Tryz.prog 34 #[pt g] u W fun r u' w'=>u'=u∧(r=.returned (.tuple #[])∧PB w' g true 0 0 nilS nilS∧Kp (fun k=>k=g) W w'):=by
 obtain ⟨c0,c1,c2,c3,c4⟩:=h.cells
 have f0:=h.frozen 0
 have f1:=h.frozen 1
 have f2:=h.frozen 2
 have f3:=h.frozen 3
 have f4:=h.frozen 4
 have HX:Hid (PB (((((W.setCell ⟨g,0,none⟩ (.bool true)).setCell ⟨g,1,none⟩ (.int .i64 0)).setCell ⟨g,2,none⟩ (.int .i64 0)).setCell ⟨g,3,none⟩ nilS).setCell ⟨g,4,none⟩ nilS) g true 0 0 nilS nilS∧Kp (fun k=>k=g) W (((((W.setCell ⟨g,0,none⟩ (.bool true)).setCell ⟨g,1,none⟩ (.int .i64 0)).setCell ⟨g,2,none⟩ (.int .i64 0)).setCell ⟨g,3,none⟩ nilS).setCell ⟨g,4,none⟩ nilS)):=
  ⟨blk_set (blk_set (blk_set (blk_set (blk_set h 0 _) 1 _) 2 _) 3 _) 4 _,(((((Kp.set W g 0 _).trans (Kp.set _ g 1 _)).trans (Kp.set _ g 2 _)).trans (Kp.set _ g 3 _)).trans (Kp.set _ g 4 _))⟩
 clear h
 go_enter_d Tryz.func34,Tryz.ntmps34
 go_wp2_with fail
 go_end0
 exact ⟨rfl,HX.out⟩
theorem close_off {S:Nat→Prop}{W:World}{g:Nat}{c:Bool}{e n:Int}{vs vt:Value}(h:PB W g c e n vs vt) (hS:S g) (hc:(if c then 4 else e)≠0) :
  Calls Tryz.prog 13 #[pt g] W fun r w'=>r=.returned (.tuple #[nilS,.int .i64 (if c then 4 else e)])∧Pa S g W w' nilS [] .shut:=by
 obtain ⟨z,hz⟩:∃z:Int,(if c then 4 else e)=z:=⟨_,rfl⟩
 have HR:Hid (Calls Tryz.prog 28 #[pt g] W fun r w'=>r=.returned (.int .i64 z)∧w'=W):=by
  have:=refusal_any h
  rw [hz] at this
  exact this
 rw [hz] at hc ⊢
 have hz1:(z != 0)=true:=by simpa using hc
 have HD:Hid (CallsD Tryz.prog 34 #[pt g] .returning W fun r u' w'=>u'=.returning∧(r=.returned (.tuple #[])∧PB w' g true 0 0 nilS nilS∧Kp (fun k=>k=g) W w')):=shut_d .returning h
 have HS:Hid (∀w',PB w' g true 0 0 nilS nilS→Kp (fun k=>k=g) W w'→Pa S g W w' nilS [] .shut):=fun w' hp hk=>pa_nil ⟨hp,hS⟩ (hk.sub (fun k e=>by rw [e];exact hS))
 clear h hz hc hS
 go_enter_defers Tryz.func13,Tryz.ntmps13
 go_wp2_with (go_at_call 28;refine HR.out.mono ?_;rintro r w1 ⟨rfl,hw⟩;subst hw)
 refine leaves_cons (f:=34) (args:=#[pt g]) (by simp) (by simp [go_sem]) ?_
 refine HD.out.mono ?_
 rintro r u' w2 ⟨rfl,rfl,hp,hk⟩
 exact ⟨_,(by simp [results,Tryz.f13,go_sem]),rfl,HS.out _ hp hk⟩
theorem re_new (W:World) (d:Ev):Re (W.alloc (.cells #[.int .u8 d.k,.int .u8 d.n,.int .u8 d.d.k,.string d.d.t,.int .i64 d.d.a,.int .i64 d.d.l,.int .i64 d.d.c,.int .i64 d.d.f] 53)) (.slice (some ⟨W.heap.size,0,none⟩) 1 1) [d]:=by
 refine ⟨rfl,.inr ⟨_,1,_,rfl,Nat.zero_le _,new_at W _,Nat.le_refl _,by unfold maxLen;omega,rfl,?_⟩⟩
 simp [ecs,flat,Ev.cs]
set_option maxHeartbeats 1000000 in
theorem close_live {S:Nat→Prop}{W:World}{g:Nat}{K:List It}{n:Int}{D:Nat→Prop}{vs:Value}(h:Lv1 S W g K n D vs) (hl:∀k,S k→k<W.heap.size) (hK:K.length≤1000000) {ev:List Ev}{code:Int}(hp:Clor (.live K n) ev code) :
  Calls Tryz.prog 13 #[pt g] W fun r w'=>∃v,r=.returned (.tuple #[v,.int .i64 code])∧Pa S g W w' v ev .shut:=by
 have HR:Hid (Calls Tryz.prog 28 #[pt g] W fun r w'=>r=.returned (.int .i64 0)∧w'=W):=refusal_any h.ps.pb
 obtain ⟨xs,r1,r2⟩:=h.ps.st
 have hxl:xs.length=K.length:=by rw [r2.len,List.length_reverse]
 obtain ⟨pp,cp,rfl,_⟩:=r1.shape
 obtain ⟨c0,c1,c2,c3,c4⟩:=h.ps.pb.cells
 have HD:Hid (∀V,Below W.heap.size W V→CallsD Tryz.prog 34 #[pt g] .returning V fun r u' w'=>u'=.returning∧(r=.returned (.tuple #[])∧PB w' g true 0 0 nilS nilS∧Kp (fun k=>k=g) V w')):=fun V hb=>shut_d .returning (h.ps.pb.below hb)
 have hS:=h.sg
 have HS:Hid (∀w',PB w' g true 0 0 nilS nilS→Kp (fun k=>k=g) W w'→Pa S g W w' nilS [] .shut):=fun w' hp hk=>pa_nil ⟨hp,hS⟩ (hk.sub (fun k e=>by rw [e];exact hS))
 have HT:Hid (∀w',PB w' g true 0 0 nilS nilS→Kp (fun k=>k=g) (W.alloc (.cells #[.int .u8 3,.int .u8 1,.int .u8 0,.string ⟨#[]⟩,.int .i64 0,.int .i64 0,.int .i64 0,.int .i64 0] 53)) w'→Pa S g W w' (.slice (some ⟨W.heap.size,0,none⟩) 1 1) [⟨3,1,tv0⟩] .shut):=fun w' hp hk=>by
  have hg:=h.ps.pb.lt
  refine ⟨(re_new W ⟨3,1,tv0⟩).kp hk (fun k e=>?_),⟨S,⟨hp,hS⟩,fun _ h=>h,fun _ h=>.inl h,fun k e=>?_⟩,((Kp.of_below (pbelow_new W _)).step hk (fun k _ e=>by rw [e];exact hS))⟩
  ·cases e
   show ¬W.heap.size=g
   omega
  ·cases e
   exact ⟨Nat.le_refl _,fun h=>absurd (hl _ h) (Nat.lt_irrefl _)⟩
 have HB:Hid (∀o,Below W.heap.size W (W.alloc o)):=fun o=>pbelow_new W o
 have hgl:=h.ps.pb.lt
 have HL:Hid (xs.length=K.length∧K.length≤1000000):=⟨hxl,hK⟩
 clear h hl hS r1 r2 hxl hK
 cases hp with
 |all h1=>
  have q1:((xs.length:Int) != 1)=false:=by rw [HL.out.1,h1];rfl
  clear h1
  go_enter_defers Tryz.func13,Tryz.ntmps13
  go_wp2_with (go_at_call 28;refine HR.out.mono ?_;rintro r w1 ⟨rfl,hw⟩;subst hw)
  refine leaves_cons (f:=34) (args:=#[pt g]) (by simp) (by simp [go_sem]) ?_
  refine (HD.out _ (HB.out _)).mono ?_
  rintro r u' w2 ⟨rfl,rfl,hp,hk⟩
  exact ⟨_,(by simp [results,Tryz.f13,go_sem]),_,rfl,HT.out _ hp hk⟩
 | «open» h1=>
  have q1:((xs.length:Int) != 1)=true:=by rw [HL.out.1];simp;omega
  clear h1
  go_enter_defers Tryz.func13,Tryz.ntmps13
  go_wp2_with (go_at_call 28;refine HR.out.mono ?_;rintro r w1 ⟨rfl,hw⟩;subst hw)
  refine leaves_cons (f:=34) (args:=#[pt g]) (by simp) (by simp [go_sem]) ?_
  refine (HD.out _ (Below.refl _ _)).mono ?_
  rintro r u' w2 ⟨rfl,rfl,hp,hk⟩
  exact ⟨_,(by simp [results,Tryz.f13,go_sem]),_,rfl,HS.out _ hp hk⟩
theorem pput_any {S:Nat→Prop}{W:World}{g:Nat}{st:Pst}(h:Pq S W g st) (hl:∀k,S k→k<W.heap.size) (hz:st.ok) {t:Tv}{ev:List Ev}{code:Int}{st':Pst}(hp:Putr t st ev code st') :
  Calls Tryz.prog 11 #[pt g,t.v] W fun r w'=>∃v,r=.returned (.tuple #[v,.int .i64 code])∧Pa S g W w' v ev st':=by
 cases st with
 |live K n=>obtain ⟨D,vs,h⟩:=h;exact put_live h hl hz hp
 |stuck e n=>
  obtain ⟨rfl,rfl,rfl⟩:ev=[]∧code=e∧st'=.stuck e n:=by cases hp;exact ⟨rfl,rfl,rfl⟩
  refine (put_off (st:=.stuck code n) h hl t (c:=false) (e:=code) (n:=n) h.1 hz).mono ?_
  rintro r w' ⟨rfl,hP⟩
  exact ⟨_,rfl,hP⟩
 |shut=>
  cases hp
  refine (put_off (st:=.shut) h hl t (c:=true) (e:=0) (n:=0) h.1 (by decide)).mono ?_
  rintro r w' ⟨rfl,hP⟩
  exact ⟨_,rfl,hP⟩
theorem close_any {S:Nat→Prop}{W:World}{g:Nat}{st:Pst}(h:Pq S W g st) (hl:∀k,S k→k<W.heap.size) (hz:st.ok) {ev:List Ev}{code:Int}(hp:Clor st ev code) :
  Calls Tryz.prog 13 #[pt g] W fun r w'=>∃v,r=.returned (.tuple #[v,.int .i64 code])∧Pa S g W w' v ev .shut:=by
 cases st with
 |live K n=>obtain ⟨D,vs,h⟩:=h;exact close_live h hl (by have:=hz.sk;omega) hp
 |stuck e n=>
  obtain ⟨rfl,rfl⟩:ev=[]∧code=e:=by cases hp;exact ⟨rfl,rfl⟩
  refine (close_off (c:=false) (e:=code) h.1 h.2 hz).mono ?_
  rintro r w' ⟨rfl,hP⟩
  exact ⟨_,rfl,hP⟩
 |shut=>
  cases hp
  refine (close_off (c:=true) (e:=0) h.1 h.2 (by decide)).mono ?_
  rintro r w' ⟨rfl,hP⟩
  exact ⟨_,rfl,hP⟩
theorem new_st (W:World):Calls Tryz.prog 7 #[] W fun r w'=>r=.returned (pt W.heap.size)∧Pq (fun k=>k=W.heap.size) w' W.heap.size (.live [] 0)∧Below W.heap.size W w'∧w'.heap.size=W.heap.size+1:=by
 refine (new_any W).mono ?_
 rintro r w' ⟨rfl,rfl⟩
 refine ⟨rfl,⟨fun _=>False,nilS,⟨new_at _ _,⟨[],rs_nil _,.nil⟩,re_nil _,(fun h=>h),(fun k e=>by cases e),(fun k e=>by cases e),(fun k h=>False.elim h)⟩,rfl,(fun k e=>by cases e),(fun k h=>False.elim h)⟩,pbelow_new _ _,by rw [World.size_alloc]⟩
theorem Lt.cell6 {W:World}{ao:Option Addr}{l:List Tv}(h:Lt W ao l) {j:Nat}{d:Tv}(hj:l[j]?=some d):∃b off,ao=some ⟨b,off,none⟩∧W.cell? ⟨b,off+j*6,none⟩=some (.int .u8 d.k)∧W.cell? ⟨b,off+j*6+1,none⟩=some (.string d.t)∧W.cell? ⟨b,off+j*6+2,none⟩=some (.int .i64 d.a)∧W.cell? ⟨b,off+j*6+3,none⟩=some (.int .i64 d.l)∧W.cell? ⟨b,off+j*6+4,none⟩=some (.int .i64 d.c)∧W.cell? ⟨b,off+j*6+5,none⟩=some (.int .i64 d.f):=h j d hj
theorem app_evs {W:World}{ops:Array Oper}{rest:List Oper}{o:Oper}{a:Act}{Q:Exit→Act→World→Prop}(hgd:o.guard=none) (s x:Operand)
  (ho:o.op=.call { callee:=.builtin .append,args:=#[s,x],argTypes:=#[34,34] }) (v vx:Value) (l ds:List Ev) (hs:a.eval s=v) (hr:Re W v l)
  (hx:a.eval x=vx) (hrx:Re W vx ds) (hl:l.length+ds.length≤1000000000000)
  (h:∀v' w',Re w' v' (l++ds)→Kp (fun k=>v.ownBlock=some k) W w'→Nb W v v'→wpList Tryz.prog ops Q rest (a.put o.dst v') w'):wpList Tryz.prog ops Q (o :: rest) a W:=by
 have hc:=fun g (hg:vx.ownBlock=some g)=>World.ownsRow.cells hrx hg
 obtain ⟨i0,hi,hz0,hz1,hz2⟩:=info_parts Tryz.info53
 rcases hrx.2 with ⟨rfl,h0⟩|⟨g,cap,cur,rfl,_⟩
 ·obtain rfl:ds=[]:=List.eq_nil_of_length_eq_zero h0
  refine wpList_append_own_none (P:=Tryz.prog) (w:=W) hgd s x 34 ho 0 53 i0 8 Tryz.underlying34 hi v _ _ hs hr hx ?_
  exact h v W (by rw [List.append_nil];exact hr) (Kp.refl _ _) (.inl rfl)
 ·refine wpList_append_own_at (P:=Tryz.prog) (w:=W) hgd s x 34 ho 0 53 i0 _ 8 64 Tryz.underlying34 hi hz0 hz1 hz2 rfl (by decide) v _ _ hs hr ⟨g,0,none⟩ ds.length cap (ecs ds) hx (ecs_len ds) (hc g rfl) (ecs_one _) (by unfold maxLen;omega) (by omega) (Nat.zero_le _) ?_
  intro v' w' h1 h2 _ h4
  refine h v' w' ?_ ((Kp.of_grown h2).sub (fun k e=>e.symm)) ?_
  ·unfold Re
   rw [List.length_append,ecs_app]
   exact h1
  ·rcases h4 with h4|h4
   ·exact .inl h4
   ·exact .inr ⟨_,h4,Nat.le_refl _⟩
theorem ru_det {t:Tv}{k:Nat}{K:List It}{n:Int}{E:List Ev}{R:Ro}(h:Ru t k K n E R):∀{k':Nat}{R':Ro},Ru t k' K n E R'→k'=k∧R'=R:=by
 induction h with
 |nil=>intro k' R' h';cases h';exact ⟨rfl,rfl⟩
 |ref hs=>
  intro k' R' h'
  cases h' with
  |ref _=>exact ⟨rfl,rfl⟩
  |tk h=>rw [hs] at h;cases h
  |go h _=>rw [hs] at h;cases h
 |tk hs=>
  intro k' R' h'
  cases h' with
  |ref h=>rw [hs] at h;cases h
  |tk _=>exact ⟨rfl,rfl⟩
  |go h _=>rw [hs] at h;cases h
 |go hs hr ih=>
  intro k' R' h'
  cases h' with
  |ref h=>rw [hs] at h;cases h
  |tk h=>rw [hs] at h;cases h
  |go h hr'=>
   rw [hs] at h
   cases h
   obtain ⟨a,b⟩:=ih hr'
   exact ⟨by omega,b⟩
def ops (E:List Ev):Nat:=(E.filter (fun e=>e.k == 1)).length
theorem ops_app (a b:List Ev):ops (a++b)=ops a+ops b:=by simp [ops]
theorem ops_le (a:List Ev):ops a≤a.length:=List.length_filter_le _ _
theorem ru_few {t:Tv}{k:Nat}{K:List It}{n:Int}{E:List Ev}{R:Ro}(h:Ru t k K n E R):∀{L:List It}{m:Int}{F:List Ev},R=.yes L m F→∃o,F=E++o∧o.length≤k:=by
 induction h with
 |nil=>intro L m F h;cases h
 |ref _=>intro L m F h;cases h
 |tk hs=>intro L m F h;cases h;exact ⟨[],by simp,by simp⟩
 |go hs hr ih=>
  rename_i k i K n d E o r R
  intro L m F h
  obtain ⟨o2,e,hl⟩:=ih h
  refine ⟨o++o2,by rw [e,List.append_assoc],?_⟩
  have:o.length≤1:=by
   cases i with
   |fl x=>
    cases x with
    |mt mm=>
     simp only [It.step,Fl.step] at hs
     cases hrow:M.row t mm with
     |ref=>rw [hrow] at hs;cases hs
     |ex r'=>rw [hrow] at hs;cases hs;simp
     |op nd r'=>rw [hrow] at hs;cases hs;simp
    |_=>simp only [It.step,Fl.step] at hs;split at hs <;> cases hs
   |lv nn=>cases hs;simp
   |once p=>cases hs;simp
   |again p=>cases hs;simp
   |all r'=>cases hs;simp
  simp
  omega
theorem ru_ops (t:Tv):∀(K:List It),wfs K→∀n E,∃k R,Ru t k K n E R∧∀L m F,R=.yes L m F→∃o,F=E++o∧ops o≤10
 |[],_,n,E=>⟨0,_,.nil,fun L m F h=>by cases h⟩
 |i :: K,hw,n,E=>by
  have hi:i.wf:=hw i (List.mem_cons_self ..)
  have hK:wfs K:=fun j hj=>hw j (List.mem_cons_of_mem _ hj)
  have pop:∀d o,ops o=0→It.step t i=.go d o []→∃k R,Ru t k (i :: K) n E R∧∀L m F,R=.yes L m F→∃o,F=E++o∧ops o≤10:=by
   intro d o ho h
   obtain ⟨k,R,hR,hx⟩:=ru_ops t K hK (n+d) (E++o)
   refine ⟨k+1,R,.go h hR,fun L m F e=>?_⟩
   obtain ⟨o2,e2,h2⟩:=hx L m F e
   exact ⟨o++o2,by rw [e2,List.append_assoc],by rw [ops_app];omega⟩
  have soon:∀c,c≤10→Soon t c i→∃k R,Ru t k (i :: K) n E R∧∀L m F,R=.yes L m F→∃o,F=E++o∧ops o≤10:=by
   intro c hc h
   obtain ⟨k,R,hk,hR⟩:=h K n E
   refine ⟨k,R,hR,fun L m F e=>?_⟩
   obtain ⟨o,e2,h2⟩:=ru_few hR e
   exact ⟨o,e2,by have:=ops_le o;omega⟩
  cases i with
  |fl x=>exact soon 8 (by omega) (soon_flat t x)
  |lv nd=>exact pop _ _ (by rfl) rfl
  |once p=>
   cases hp:Pk.pick t p with
   |none=>exact pop 0 [] rfl (by simp [It.step,hp])
   |some j=>exact soon 10 (by omega) (soon_go (r:=[]) (by simp [It.step,hp];exact ⟨rfl,rfl⟩) (soon_pick hi hp))
  |again p=>
   cases hp:Pk.pick t p with
   |none=>exact pop 0 [] rfl (by simp [It.step,hp,agR])
   |some j=>exact soon 10 (by omega) (soon_go (r:=[.again p]) (by simp [It.step,hp,agR];exact ⟨rfl,rfl⟩) (soon_pick hi hp))
  |all r=>
   obtain ⟨⟨k,ts,rest,rfl⟩,_⟩:=hi
   exact soon 1 (by omega) (soon_go (r:=rest.map It.fl) rfl (soon_fl t (.wd k ts) ne_wd 0))
theorem play_ops:∀(o:List Ev) (s s':List Int),(∀e∈o,e.k=1∨e.k=3)→play s o=some s'→o.length+s'.length=s.length+2*ops o
 |[],s,s',_,h=>by cases h;simp [ops]
 |e :: o,s,s',ho,h=>by
  have h0:=ho e (by simp)
  have hr:∀x∈o,x.k=1∨x.k=3:=fun x hx=>ho x (by simp [hx])
  simp only [play] at h
  rcases h0 with h1|h3
  ·rw [if_pos h1] at h
   have:=play_ops o _ _ hr h
   have e1:ops (e :: o)=ops o+1:=by simp [ops,h1]
   simp at this ⊢
   omega
  ·have h1:¬e.k=1:=by omega
   rw [if_neg h1,if_pos h3] at h
   cases s with
   |nil=>cases h
   |cons n s=>
    simp only at h
    split at h
    ·have:=play_ops o _ _ hr h
     have e1:ops (e :: o)=ops o:=by simp [ops,h1]
     simp at this ⊢
     omega
    ·cases h
theorem len_rest:∀(l:List Tv) (K:List It) (n:Int) (E:List Ev) (k:Nat),Good (.live K n)→Bo2 K→Alr (.live K n) l E 0 k→E.length≤(lvs K).length+21*l.length
 |[],K,n,E,k,hg,hb,h=>by
  obtain ⟨hc,rfl⟩:=h.end
  cases hc with
  |all hh=>
   have:1≤(lvs K).length:=by
    rcases hb with rfl|⟨X,rfl⟩
    ·decide
    ·rw [lvs_app];simp [lvs]
   simp
   omega
 |t :: l,K,n,E,k,hg,hb,h=>by
  have hn:=good_pos hg hb
  obtain ⟨b1,b2,b3⟩:=beg_self (K:=K) hn
  obtain ⟨g1,g2,g3,g4,g5,gbot,gbn,gbe⟩:=good_beg hg
  rcases h.inv with ⟨ev,st',hp,hcd,rfl,rfl⟩|⟨ev,st',E2,k2,hp,hR2,rfl,rfl⟩
  ·exact absurd rfl hcd
  ·have hgs:=(put_keep hg hp).1
   cases hp with
   |note hh=>
    rw [b1,b2] at hR2 hgs
    have:=len_rest l K n E2 k2 hgs hb hR2
    rw [b3]
    simp
    omega
   |yes hh hR hk hm2=>
    rename_i L m2 E1 k1
    obtain ⟨c1,c2,c3,o,c4,c5,c6,c7⟩:=ru_keep hR rfl g1 g2 g3
    have hL:=ru_bo2 hR rfl (by rw [b1];exact hb)
    obtain ⟨k9,R9,h9,h9b⟩:=ru_ops t (beg K n) g1 (begN n) (begE n)
    obtain ⟨_,rfl⟩:=ru_det hR h9
    obtain ⟨o2,e2,h2⟩:=h9b _ _ _ rfl
    rw [c4] at e2
    obtain rfl:=List.append_cancel_left e2
    rw [b1] at c5
    have hpl:=play_ops o _ _ (fun e he=>(c6 e he).2.1) c5
    have:=len_rest l L m2 E2 k2 hgs hL hR2
    rw [c4,b3]
    simp
    omega
theorem alr_len {l:List Tv}{E:List Ev}{k:Nat}(h:Alr (.live [] 0) l E 0 k):E.length≤21*l.length+2:=by
 by_cases hl:l=[]
 ·subst hl
  obtain ⟨hc,rfl⟩:=h.end
  cases hc with
  |all hh=>simp at hh
 ·obtain ⟨E1,h1,h2⟩:=alr_first h hl
  have:=len_rest l _ 1 E1 k good_one bo2_prog h1
  rw [h2 rfl]
  have e:(lvs (progR++[.lv 1])).length=1:=rfl
  simp
  omega
def tokE (e:Ev):Option Tv:=if e.k=2∨e.k=4 then some e.d else none
def nml (e:Ev):Prop:=nrm e=e
theorem nml_oc {e:Ev}(hk:e.k=1∨e.k=3) (hd:e.d=tv0):nml e∧tokE e=none:=by
 obtain ⟨k,n,d⟩:=e
 simp only at hk hd
 subst hd
 refine ⟨by simp [nml,nrm,hk],?_⟩
 unfold tokE
 rw [if_neg (by simp only;omega)]
theorem filt_none:∀(o:List Ev),(∀e∈o,tokE e=none)→o.filterMap tokE=[]
 |[],_=>rfl
 |e :: o,h=>by rw [List.filterMap_cons_none (h e (by simp))];exact filt_none o (fun x hx=>h x (by simp [hx]))
theorem tok_rest:∀(l:List Tv) (K:List It) (n:Int) (E:List Ev) (k:Nat),Good (.live K n)→Bo2 K→Alr (.live K n) l E 0 k→E.filterMap tokE=l∧∀e∈E,nml e
 |[],K,n,E,k,hg,hb,h=>by
  obtain ⟨hc,rfl⟩:=h.end
  cases hc with
  |all hh=>
   have:=nml_oc (e:=⟨3,1,tv0⟩) (.inr rfl) rfl
   exact ⟨filt_none _ (fun e he=>by simp at he;subst he;exact this.2),fun e he=>by simp at he;subst he;exact this.1⟩
 |t :: l,K,n,E,k,hg,hb,h=>by
  have hn:=good_pos hg hb
  obtain ⟨b1,b2,b3⟩:=beg_self (K:=K) hn
  obtain ⟨g1,g2,g3,g4,g5,gbot,gbn,gbe⟩:=good_beg hg
  rcases h.inv with ⟨ev,st',hp,hcd,rfl,rfl⟩|⟨ev,st',E2,k2,hp,hR2,rfl,rfl⟩
  ·exact absurd rfl hcd
  ·have hgs:=(put_keep hg hp).1
   cases hp with
   |note hh=>
    rw [b1,b2] at hR2 hgs
    obtain ⟨a1,a2⟩:=tok_rest l K n E2 k2 hgs hb hR2
    rw [b3]
    refine ⟨by simp [tokE,a1],fun e he=>?_⟩
    simp at he
    rcases he with rfl|he
    ·rfl
    ·exact a2 e he
   |yes hh hR hk hm2=>
    rename_i L m2 E1 k1
    obtain ⟨c1,c2,c3,o,c4,c5,c6,c7⟩:=ru_keep hR rfl g1 g2 g3
    have hL:=ru_bo2 hR rfl (by rw [b1];exact hb)
    obtain ⟨a1,a2⟩:=tok_rest l L m2 E2 k2 hgs hL hR2
    rw [c4,b3]
    have ho:=filt_none o (fun e he=>(nml_oc (c6 e he).2.1 (c6 e he).1).2)
    refine ⟨by simp [tokE,a1,ho],fun e he=>?_⟩
    simp at he
    rcases he with he|rfl|he
    ·exact (nml_oc (c6 e he).2.1 (c6 e he).1).1
    ·rfl
    ·exact a2 e he
theorem alr_toks {l:List Tv}{E:List Ev}{k:Nat}(h:Alr (.live [] 0) l E 0 k):E.filterMap tokE=l∧E.map nrm=E:=by
 have fin:∀E:List Ev,(∀e∈E,nml e)→E.map nrm=E:=by
  intro E
  induction E with
  |nil=>intro _;rfl
  |cons e E ih=>intro h;rw [List.map_cons,h e (by simp),ih (fun x hx=>h x (by simp [hx]))]
 by_cases hl:l=[]
 ·subst hl
  obtain ⟨hc,rfl⟩:=h.end
  cases hc with
  |all hh=>simp at hh
 ·obtain ⟨E1,h1,h2⟩:=alr_first h hl
  obtain ⟨a1,a2⟩:=tok_rest l _ 1 E1 k good_one bo2_prog h1
  have hm:=nml_oc (e:=⟨1,1,tv0⟩) (.inl rfl) rfl
  rw [h2 rfl]
  exact ⟨by rw [List.filterMap_cons_none hm.2];exact a1,by rw [List.map_cons,fin E1 a2,show nrm ⟨1,1,tv0⟩=⟨1,1,tv0⟩ from hm.1]⟩
theorem alr_at:∀{l:List Tv}{st:Pst}{E:List Ev}{code:Int}{a:Nat},Good st→Ini st→Alr st l E code a→code≠0→((code=121↔a=l.length)∧a≤l.length)
 |[],st,E,code,a,hg,hi,h,hc=>by
  obtain ⟨h1,rfl⟩:=h.end
  rcases clor_live hi h1 with ⟨h2,_⟩|h2
  ·exact absurd h2 hc
  ·exact ⟨⟨fun _=>rfl,fun _=>h2⟩,Nat.le_refl _⟩
 |t :: l,st,E,code,a,hg,hi,h,hc=>by
  rcases h.inv with ⟨ev,st',hp,hcd,rfl,rfl⟩|⟨ev,st',E2,k2,hp,hR2,rfl,rfl⟩
  ·have:code≠121:=by
    rcases hi with rfl|⟨K,n,rfl,_⟩
    ·cases hp <;> simp_all
    ·cases hp <;> simp_all
   exact ⟨⟨fun h=>absurd h this,fun h=>by simp at h⟩,Nat.zero_le _⟩
  ·obtain ⟨h1,h2⟩:=put_ini hg hi hp
   obtain ⟨h3,h4⟩:=alr_at h1 h2 hR2 hc
   refine ⟨?_,by simp;omega⟩
   rw [h3]
   simp
end Go.Proofs.YtkigadnkclkopaaGreatDoor
