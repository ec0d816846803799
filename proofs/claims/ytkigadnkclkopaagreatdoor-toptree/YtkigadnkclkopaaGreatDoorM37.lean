import Derived.Test.YtkigadnkclkopaaGreatDoorM36
set_option linter.unusedVariables false
set_option linter.unusedSimpArgs false
namespace Go.Proofs.YtkigadnkclkopaaGreatDoor
open Go.RowKit
theorem en_program:Entr 33:=enters_of Tryz.func33 (by kernel_rfl) rfl
theorem prog_node {X:Sx}{W:World}(h:SV X 0 0 [] W) {E:List Ev}{code:Int}{k:Nat}(ha:Alr (.live [] 0) X.l E code k) :
  Calls Tryz.prog 32 #[pg X.g,.int .u8 1,fv 33 X.g] W fun e w'=>(code=0∧e=.returned (.tuple #[])∧E.length≤1000000000∧∃i,SV X i 0 E w')∨(code≠0∧e=.panicked (stop code k)∧Below X.w0.heap.size X.w0 w'):=by
 refine node_raw h (by simp) (by omega) 1 en_program ?_
 intro W1 h1
 refine (program_rc h1).mono ?_
 rintro e w' ⟨dz,hb,hp⟩
 obtain ⟨t1,t2⟩:=alr_top ha hb
 rcases hp with ⟨z,hi,rfl,hs⟩|⟨hlt,rfl,hbl⟩
 ·by_cases hc:code=0
  ·obtain ⟨_,_,E0,e1,e2⟩:=t1 hc
   have hpp:=(rb_path (L:=tks X.l) rfl hb z).2
   have hpl:dz.p.length=0+1:=by rw [hpp,d1_is];rfl
   have hE:E=evX X dz++[⟨3,1,tv0⟩]:=by rw [e2];unfold evX;rw [e1];simp
   have hlen:=hs.len (by omega)
   refine .inl ⟨rfl,ps X.l dz.i,0,evX X dz,by rw [←hpl];exact hs.sv,by omega,by omega,fun w2 h2=>.inl ⟨hc,rfl,by rw [hE,List.length_append,List.length_singleton];omega,_,by rw [hE];exact h2⟩⟩
  ·obtain ⟨a1,a2⟩:=t2 hc
   exfalso
   rcases a1 with a1|⟨_,_,a1⟩
   ·exact hc (a1.symm.trans z)
   ·omega
 ·refine .inr ⟨_,rfl,?_⟩
  by_cases hc:code=0
  ·obtain ⟨b1,b2,_⟩:=t1 hc
   exact absurd (hlt b1) (by omega)
  ·obtain ⟨a1,a2⟩:=t2 hc
   have he:(if dz.e=0 then (120:Int) else dz.e)=code:=by
    rcases a1 with a1|⟨a1,a3,_⟩
    ·rw [a1,if_neg hc]
    ·rw [if_pos a3,a1]
   exact .inr ⟨hc,by rw [he,a2],hbl⟩
theorem tn_shape {O:Nat→Prop}{W:World}{n:Nd}{sv:Value}(h:TN O W n sv):∃p cap,sv=.slice p n.c.length cap∧n.c.length≤cap∧cap≤maxLen:=by
 cases n with
 |mk k d c=>
  rw [TN] at h
  obtain ⟨vs,h1,_⟩:=h
  exact h1.shape
structure Pgm (W:World) (E:List Ev) (code:Int) (k:Nat) (e:Ending) (w':World):Prop where
 bel:Below W.heap.size W w'
 ex:∃(n:Nd) (sv:Value) (at':Nat),e=.returned (.tuple #[ndv n.k n.d sv,.int .i64 (if code=0 then (bo E).2 else code),.int .i64 (at':Int)])∧TN (fun j=>W.heap.size≤j) w' n sv∧(code=0→at'=0∧n=(bo E).1)∧(code≠0→n=.mk 0 tv0 []∧at'=k)
theorem cz_cells {a b c:Nat}{k:Int}{d:Tv}{s:Value}{e i:Int}{w:World}(h:Cz a b c (NdB k d s) e i w):(w.cell? ⟨a,0,none⟩=some (.int .u8 k)∧w.cell? ⟨a,1,none⟩=some (.int .u8 d.k)∧w.cell? ⟨a,2,none⟩=some (.string d.t)∧w.cell? ⟨a,3,none⟩=some (.int .i64 d.a)∧w.cell? ⟨a,4,none⟩=some (.int .i64 d.l)∧w.cell? ⟨a,5,none⟩=some (.int .i64 d.c)∧w.cell? ⟨a,6,none⟩=some (.int .i64 d.f)∧w.cell? ⟨a,7,none⟩=some s)∧w.cell? ⟨b,0,none⟩=some (.int .i64 e)∧w.cell? ⟨c,0,none⟩=some (.int .i64 i):=⟨(nd_cells h.ha).1,blk_cell h.hb rfl,blk_cell h.hc rfl⟩
set_option maxHeartbeats 2000000 in
theorem program_bad {W:World}{ao:Option Addr}{l:List Tv}{cap:Nat}(hl:Lt W ao l) (hn:l.length≤4194304) {E:List Ev}{code:Int}{k:Nat}(ha:Alr (.live [] 0) l E code k) (hc:code≠0) :
  Calls Tryz.prog 12 #[.slice ao l.length cap] W (Pgm W E code k):=by
 have hmf:∀(fn:Fn) (first cap:Array Value) (w:World),(Instr.makeFunc fn first cap).run Tryz.prog w=.ok (.func fn first cap) w:=fun _ _ _ _=>rfl
 obtain ⟨W3,e3⟩:∃W3,((W.alloc (NdB 0 tv0 (.slice none 0 0))).alloc (.cells #[.int .i64 0] 25)).alloc (.cells #[.int .i64 0] 3)=W3:=⟨_,rfl⟩
 have hz3:W3.heap.size=W.heap.size+1+1+1:=by rw [←e3];simp [World.size_alloc]
 have hb3:Below W.heap.size W W3:=by
  rw [←e3]
  exact (((Below.refl _ _).alloc (Nat.le_refl _) _).alloc (by simp [World.size_alloc]) _).alloc (by simp [World.size_alloc];omega) _
 have c3:Cz W.heap.size (W.heap.size+1) (W.heap.size+1+1) (NdB 0 tv0 (.slice none 0 0)) 0 0 W3:=by
  rw [←e3]
  refine ⟨alloc_at' (alloc_at' (new_at _ _) _) _,alloc_at' ?_ _,?_,by omega,by omega,by omega⟩
  ·have:=new_at (W.alloc (NdB 0 tv0 (.slice none 0 0))) (.cells #[.int .i64 0] 25)
   rw [World.size_alloc] at this
   exact this
  ·have:=new_at ((W.alloc (NdB 0 tv0 (.slice none 0 0))).alloc (.cells #[.int .i64 0] 25)) (.cells #[.int .i64 0] 3)
   rw [World.size_alloc,World.size_alloc] at this
   exact this
 have hsv:SV ⟨W3,W3.heap.size,ao,cap,l⟩ 0 0 [] (W3.alloc (.cells #[.slice ao l.length cap,.int .i64 0,.int .i64 0,.slice none 0 0] 86)):=
  ⟨(Below.refl _ _).alloc (Nat.le_refl _) _,hl.below hb3,Nat.le_refl _,hn,.slice none 0 0,new_at _ _,re_nil _,fun k e=>by cases e⟩
 have HN:Hid (Calls Tryz.prog 32 #[pg W3.heap.size,.int .u8 1,fv 33 W3.heap.size] (W3.alloc (.cells #[.slice ao l.length cap,.int .i64 0,.int .i64 0,.slice none 0 0] 86)) fun e w'=>e=.panicked (stop code k)∧Below W3.heap.size W3 w'):=(prog_node (X:=⟨W3,W3.heap.size,ao,cap,l⟩) hsv ha).mono (fun e w' hx=>by
  rcases hx with ⟨h0,_⟩|⟨_,h1,h2⟩
  ·exact absurd h0 hc
  ·exact ⟨h1,h2⟩)
 have HC:Hid (∀w,Below W3.heap.size W3 w→CallsD Tryz.prog 31 #[pg W.heap.size,pg (W.heap.size+1),pg (W.heap.size+1+1)] (.panicking (stop code k)) w fun r u' w'=>r=.returned (.tuple #[])∧u'=.panicking [{ v:=.iface 82 (.agg #[.int .i64 code,.int .i64 (k:Int)]),recovered:=true }]∧Cz W.heap.size (W.heap.size+1) (W.heap.size+1+1) (NdB 0 tv0 (.slice none 0 0)) code k w'∧Below W.heap.size W w'):=fun w hb=>(catch_panic _ _ _ _ _ _ _ _ code k w (c3.below hb)).mono (fun r u' w' ⟨h1,h2,h3,h4⟩=>⟨h1,h2,h3,kp_low (hb3.trans (hb.mono hb3.size)) h4 (fun j hj=>by omega) (hb3.trans (hb.mono hb3.size)).size⟩)
 have HP:Hid (∀w',Below W.heap.size W w'→Pgm W E code k (.returned (.tuple #[ndv 0 tv0 (.slice none 0 0),.int .i64 code,.int .i64 (k:Int)])) w'):=fun w' hb=>⟨hb,.mk 0 tv0 [],.slice none 0 0,k,by rw [if_neg hc];rfl,tn_nil _ _ _ _,fun h=>absurd h hc,fun _=>⟨rfl,rfl⟩⟩
 clear hl ha hc hsv c3 hb3 hn hz3
 dsimp only [NdB,tv0] at e3
 go_enter_defers Tryz.func12,Tryz.ntmps12
 go_wp2_with fail
 refine HN.out.mono ?_
 rintro e w5 ⟨rfl,hb5⟩
 have HB5:=hid hb5
 clear hb5 e3 HN
 go_wp2_with fail
 refine leaves_cons (f:=31) (args:=#[pg W.heap.size,pg (W.heap.size+1),pg (W.heap.size+1+1)]) (by simp) (by simp [go_sem]) ?_
 refine (HC.out _ HB5.out).mono ?_
 rintro e u' w6 ⟨rfl,rfl,h6,hb6⟩
 obtain ⟨⟨n0,n1,n2,n3,n4,n5,n6,n7⟩,b0,c0⟩:=cz_cells h6
 have hp:=HP.out _ hb6
 clear HC HB5 HP h6 hmf
 generalize hv:Ending.returned (.tuple #[ndv 0 tv0 (.slice none 0 0),.int .i64 code,.int .i64 (k:Int)])=rv at hp
 dsimp only [ndv,tv0] at hv n1 n2 n3 n4 n5 n6
 simp [Leaves,settle,results,Tryz.f12,go_sem,n0,n1,n2,n3,n4,n5,n6,n7,b0,c0,hv]
 exact hp
set_option maxHeartbeats 2000000 in
theorem program_good {W:World}{ao:Option Addr}{l:List Tv}{cap:Nat}(hl:Lt W ao l) (hn:l.length≤4194304) {E:List Ev}{k:Nat}(ha:Alr (.live [] 0) l E 0 k) :
  Calls Tryz.prog 12 #[.slice ao l.length cap] W (Pgm W E 0 k):=by
 have hmf:∀(fn:Fn) (first cap:Array Value) (w:World),(Instr.makeFunc fn first cap).run Tryz.prog w=.ok (.func fn first cap) w:=fun _ _ _ _=>rfl
 obtain ⟨W3,e3⟩:∃W3,((W.alloc (NdB 0 tv0 (.slice none 0 0))).alloc (.cells #[.int .i64 0] 25)).alloc (.cells #[.int .i64 0] 3)=W3:=⟨_,rfl⟩
 have hz3:W3.heap.size=W.heap.size+1+1+1:=by rw [←e3];simp [World.size_alloc]
 have hb3:Below W.heap.size W W3:=by
  rw [←e3]
  exact (((Below.refl _ _).alloc (Nat.le_refl _) _).alloc (by simp [World.size_alloc]) _).alloc (by simp [World.size_alloc];omega) _
 have c3:Cz W.heap.size (W.heap.size+1) (W.heap.size+1+1) (NdB 0 tv0 (.slice none 0 0)) 0 0 W3:=by
  rw [←e3]
  refine ⟨alloc_at' (alloc_at' (new_at _ _) _) _,alloc_at' ?_ _,?_,by omega,by omega,by omega⟩
  ·have:=new_at (W.alloc (NdB 0 tv0 (.slice none 0 0))) (.cells #[.int .i64 0] 25)
   rw [World.size_alloc] at this
   exact this
  ·have:=new_at ((W.alloc (NdB 0 tv0 (.slice none 0 0))).alloc (.cells #[.int .i64 0] 25)) (.cells #[.int .i64 0] 3)
   rw [World.size_alloc,World.size_alloc] at this
   exact this
 have hsv:SV ⟨W3,W3.heap.size,ao,cap,l⟩ 0 0 [] (W3.alloc (.cells #[.slice ao l.length cap,.int .i64 0,.int .i64 0,.slice none 0 0] 86)):=
  ⟨(Below.refl _ _).alloc (Nat.le_refl _) _,hl.below hb3,Nat.le_refl _,hn,.slice none 0 0,new_at _ _,re_nil _,fun k e=>by cases e⟩
 have HN:Hid (Calls Tryz.prog 32 #[pg W3.heap.size,.int .u8 1,fv 33 W3.heap.size] (W3.alloc (.cells #[.slice ao l.length cap,.int .i64 0,.int .i64 0,.slice none 0 0] 86)) fun e w'=>e=.returned (.tuple #[])∧Below W3.heap.size W3 w'∧∃ao' cap',w'.cell? ⟨W3.heap.size,3,none⟩=some (.slice ao' E.length cap')∧W3.heap.size<w'.heap.size∧Le w' ao' E∧E.length≤cap'∧cap'≤maxLen∧E.length≤1000000000):=(prog_node (X:=⟨W3,W3.heap.size,ao,cap,l⟩) hsv ha).mono (fun e w' hx=>by
  rcases hx with ⟨_,h1,hlen,i,hs⟩|⟨h0,_⟩
  ·obtain ⟨ve,hb,hre,_⟩:=hs.ex
   obtain ⟨ao',cap',rfl,hle,_,h3,h4⟩:=Le.row hre
   exact ⟨h1,hs.bel,ao',cap',hb.cells.2.2.2,hb.lt,hle,h3,h4,hlen⟩
  ·exact absurd rfl h0)
 have HBd:Hid (∀w ao' cap',Le w ao' E→E.length≤cap'→cap'≤maxLen→E.length≤1000000000→Calls Tryz.prog 15 #[.slice ao' E.length cap'] w fun x w'=>∃sv,x=.returned (.tuple #[ndv (bo E).1.k (bo E).1.d sv,.int .i64 (bo E).2])∧TN (fun k=>w.heap.size≤k) w' (bo E).1 sv∧Below w.heap.size w w'):=fun w ao' cap' h1 h2 h3 h4=>build_any E w ao' cap' h1 h2 h3 h4
 obtain ⟨n,hn0⟩:∃n,(bo E).1=n:=⟨_,rfl⟩
 obtain ⟨bc,hbc⟩:∃bc,(bo E).2=bc:=⟨_,rfl⟩
 rw [hn0,hbc] at HBd
 have HC6:Hid (∀w5 w6 sv,Below W3.heap.size W3 w5→Below w5.heap.size w5 w6→TN (fun k=>w5.heap.size≤k) w6 n sv→Cz W.heap.size (W.heap.size+1) (W.heap.size+1+1) (NdB 0 tv0 (.slice none 0 0)) 0 0 w6∧∃w7,(sets8 w6 W.heap.size n.k n.d sv).setCell ⟨W.heap.size+1,0,none⟩ (.int .i64 bc)=w7∧Cz W.heap.size (W.heap.size+1) (W.heap.size+1+1) (NdB n.k n.d sv) bc 0 w7∧∃w8,(((sets8 w7 W.heap.size n.k n.d sv).setCell ⟨W.heap.size+1,0,none⟩ (.int .i64 bc)).setCell ⟨W.heap.size+1+1,0,none⟩ (.int .i64 0)).drew=w8∧Cz W.heap.size (W.heap.size+1) (W.heap.size+1+1) (NdB n.k n.d sv) bc 0 w8∧∀w9,Below w8.heap.size w8 w9→Cz W.heap.size (W.heap.size+1) (W.heap.size+1+1) (NdB n.k n.d sv) bc 0 w9∧Pgm W E 0 k (.returned (.tuple #[ndv n.k n.d sv,.int .i64 bc,.int .i64 0])) w9):=fun w5 w6 sv hb5 hb6 ht=>by
  have b6:Below W3.heap.size W3 w6:=hb5.trans (hb6.mono hb5.size)
  have c6:=c3.below b6
  have k1:=sets8_kp w6 W.heap.size n.k n.d sv
  have k2:=Kp.set (sets8 w6 W.heap.size n.k n.d sv) (W.heap.size+1) 0 (.int .i64 bc)
  have a1:=sets8_at c6.ha n.k n.d sv
  have c7:Cz W.heap.size (W.heap.size+1) (W.heap.size+1+1) (NdB n.k n.d sv) bc 0 ((sets8 w6 W.heap.size n.k n.d sv).setCell ⟨W.heap.size+1,0,none⟩ (.int .i64 bc)):=
   ⟨k2.blk a1 c6.ab,blk_set (k1.blk c6.hb (fun x=>c6.ab x.symm)) 0 _,k2.blk (k1.blk c6.hc (fun x=>c6.ac x.symm)) (fun x=>c6.bc x.symm),c6.ab,c6.ac,c6.bc⟩
  obtain ⟨c8,k8⟩:=c7.set n.k n.d sv bc 0
  have hdr:∀v:World,Below v.heap.size v v.drew:=fun v=>(Below.refl _ _).drew
  have K:Kp (fun j=>j=W.heap.size∨j=W.heap.size+1∨j=W.heap.size+1+1) w6 ((((sets8 ((sets8 w6 W.heap.size n.k n.d sv).setCell ⟨W.heap.size+1,0,none⟩ (.int .i64 bc)) W.heap.size n.k n.d sv).setCell ⟨W.heap.size+1,0,none⟩ (.int .i64 bc)).setCell ⟨W.heap.size+1+1,0,none⟩ (.int .i64 0)).drew):=(((k1.sub (fun j hj=>.inl hj)).trans (k2.sub (fun j hj=>.inr (.inl hj)))).trans k8).trans (Kp.of_below (hdr _))
  refine ⟨c6,_,rfl,c7,_,rfl,c8.below (hdr _),fun w9 hb9=>⟨(c8.below (hdr _)).below hb9,?_⟩⟩
  have K9:=K.trans (Kp.of_below hb9)
  have B6:Below W.heap.size W w6:=hb3.trans (b6.mono hb3.size)
  refine ⟨kp_low B6 K9 (fun j hj=>by omega) B6.size,n,sv,0,?_,?_,fun _=>⟨rfl,hn0.symm⟩,fun h=>absurd rfl h⟩
  ·rw [if_pos rfl,hbc]
   rfl
  ·have h35:=hb5.size
   have t9:=TN.kp K9 (fun j hj=>by omega) n sv ht
   exact TN.sub (fun j _ hj=>by omega) n sv t9
 have HI:Hid (∀w,CallsD Tryz.prog 31 #[pg W.heap.size,pg (W.heap.size+1),pg (W.heap.size+1+1)] .returning w fun e u' w'=>e=.returned (.tuple #[])∧u'=.returning∧Below w.heap.size w w'):=fun w=>catch_idle _ _ _ w
 clear hl ha hsv c3 hb3 hn hz3 hn0 hbc
 dsimp only [NdB,tv0] at e3
 go_enter_defers Tryz.func12,Tryz.ntmps12
 go_wp2_with fail
 refine HN.out.mono ?_
 rintro e w5 ⟨rfl,hb5,ao',cap',hcel,hgl,hle,hca,hcb,hlen⟩
 have HB5:=hid hb5
 have HL:=hid hle
 clear hb5 e3 HN hle
 go_wp2_with fail
 refine (HBd.out w5 ao' cap' HL.out hca hcb hlen).mono ?_
 rintro e w6 ⟨sv,rfl,ht,hb6⟩
 obtain ⟨pv,cv,rfl,_⟩:=tn_shape ht
 obtain ⟨c6,w7,e7,c7,w8,e8,c8,H9⟩:=HC6.out w5 w6 _ HB5.out hb6 ht
 have HQ:=hid H9
 obtain ⟨⟨⟨n0,n1,n2,n3,n4,n5,n6,n7⟩,b0,c0⟩,f0,f1,f2,f3,f4,f5,f6,f7⟩:=And.intro (cz_cells c6) (nd_frozen c6.ha)
 have fb:w6.frozen? ⟨W.heap.size+1,0,none⟩=false:=blk_frozen c6.hb
 have la:=blk_lt c6.ha
 have lb:=blk_lt c6.hb
 have hab:=c6.ab
 have hac:=c6.ac
 have hbc:=c6.bc
 have hba:=c6.ab.symm
 have hca2:=c6.ac.symm
 have hcb2:=c6.bc.symm
 have C7:=hid c7
 have C8:=hid c8
 have E8:=hid e8
 clear c6 c7 c8 e8 H9 ht hb6 HC6 HBd hcel hgl HL HB5 hca hcb hlen
 generalize W.heap.size+1+1=c at *
 generalize W.heap.size+1=b at *
 generalize hgen:W.heap.size=a at *
 unfold sets8 at e7
 dsimp only [ndv,tv0] at n1 n2 n3 n4 n5 n6 ⊢
 go_wp2_with fail
 clear n0 n1 n2 n3 n4 n5 n6 n7 b0 c0 f0 f1 f2 f3 f4 f5 f6 f7 fb la lb
 obtain ⟨⟨⟨n0,n1,n2,n3,n4,n5,n6,n7⟩,b0,c0⟩,f0,f1,f2,f3,f4,f5,f6,f7⟩:=And.intro (cz_cells C7.out) (nd_frozen C7.out.ha)
 have fb:w7.frozen? ⟨b,0,none⟩=false:=blk_frozen C7.out.hb
 have fc:w7.frozen? ⟨c,0,none⟩=false:=blk_frozen C7.out.hc
 have la:=blk_lt C7.out.ha
 have lb:=blk_lt C7.out.hb
 have lc:=blk_lt C7.out.hc
 go_region
 all_goals (
  have e8:=E8.out
  unfold sets8 at e8
  try rw [e8]
  clear e8 n0 n1 n2 n3 n4 n5 n6 n7 b0 c0 f0 f1 f2 f3 f4 f5 f6 f7 fb fc la lb lc
  go_wp2_with fail
  refine leaves_cons (f:=31) (args:=#[pg a,pg b,pg c]) (by simp) (by simp [go_sem]) ?_
  refine (HI.out _).mono ?_
  rintro e u' w9 ⟨rfl,rfl,hb9⟩
  obtain ⟨c9,hp⟩:=HQ.out w9 hb9
  obtain ⟨⟨n0,n1,n2,n3,n4,n5,n6,n7⟩,b0,c0⟩:=cz_cells c9
  clear HQ HI C7 C8 E8 c9 hb9 hmf
  generalize hv:Ending.returned (.tuple #[ndv n.k n.d (.slice pv n.c.length cv),.int .i64 bc,.int .i64 0])=rv at hp
  dsimp only [ndv] at hv
  simp [Leaves,settle,results,Tryz.f12,go_sem,n0,n1,n2,n3,n4,n5,n6,n7,b0,c0,hv]
  exact hp)
theorem program_any {W:World}{ao:Option Addr}{l:List Tv}{cap:Nat}(hl:Lt W ao l) (hn:l.length≤4194304) {E:List Ev}{code:Int}{k:Nat}(ha:Alr (.live [] 0) l E code k) :
  Calls Tryz.prog 12 #[.slice ao l.length cap] W (Pgm W E code k):=by
 by_cases hc:code=0
 ·subst hc
  exact program_good hl hn ha
 ·exact program_bad hl hn ha hc
def ruF (t:Tv):Nat→List It→Int→List Ev→Option (Nat × Ro)
 |0,_,_,_=>none
 |f+1,[],n,E=>some (0,.no)
 |f+1,i :: K,n,E=>match It.step t i with
  |.ref=>some (0,.no)
  |.tk=>some (0,.yes K n E)
  |.go d o r=>match ruF t f (r++K) (n+d) (E++o) with
   |some (k,R)=>some (k+1,R)
   |none=>none
theorem ruF_is {t:Tv}:∀(f:Nat) (K:List It) (n:Int) (E:List Ev) (k:Nat) (R:Ro),ruF t f K n E=some (k,R)→Ru t k K n E R
 |0,_,_,_,_,_,h=>by cases h
 |f+1,[],n,E,k,R,h=>by cases h;exact .nil
 |f+1,i :: K,n,E,k,R,h=>by
  simp only [ruF] at h
  cases hs:It.step t i with
  |ref=>rw [hs] at h;cases h;exact .ref hs
  |tk=>rw [hs] at h;cases h;exact .tk hs
  |go d o r=>
   rw [hs] at h
   simp only at h
   cases hr:ruF t f (r++K) (n+d) (E++o) with
   |none=>rw [hr] at h;cases h
   |some x=>
    obtain ⟨k',R'⟩:=x
    rw [hr] at h
    cases h
    exact .go hs (ruF_is f _ _ _ _ _ hr)
def putF (t:Tv):Pst→Option (List Ev × Int × Pst)
 |.live K n=>if (t.k == 7 || t.k == 8) then none else match ruF t 20 (beg K n) (begN n) (begE n) with
  |some (k,.yes L m E)=>if m≤1000 then some (E++[⟨2,0,t⟩],0,.live L m) else none
  |some (k,.no)=>some ([],120,.stuck 120 n)
  |none=>none
 |_=>none
theorem ruF_le {t:Tv}:∀(f:Nat) (K:List It) (n:Int) (E:List Ev) (k:Nat) (R:Ro),ruF t f K n E=some (k,R)→k+1≤f
 |0,_,_,_,_,_,h=>by cases h
 |f+1,[],n,E,k,R,h=>by cases h;omega
 |f+1,i :: K,n,E,k,R,h=>by
  simp only [ruF] at h
  cases hs:It.step t i with
  |ref=>rw [hs] at h;cases h;omega
  |tk=>rw [hs] at h;cases h;omega
  |go d o r=>
   rw [hs] at h
   simp only at h
   cases hr:ruF t f (r++K) (n+d) (E++o) with
   |none=>rw [hr] at h;cases h
   |some x=>
    obtain ⟨k',R'⟩:=x
    rw [hr] at h
    cases h
    have:=ruF_le f _ _ _ _ _ hr
    omega
theorem putF_is {t:Tv}{st:Pst}{x:List Ev × Int × Pst}(h:putF t st=some x):Putr t st x.1 x.2.1 x.2.2:=by
 cases st with
 |live K n=>
  simp only [putF] at h
  split at h
  ·cases h
  ·rename_i hc
   have hc':(t.k == 7 || t.k == 8)=false:=by simpa using hc
   cases hr:ruF t 20 (beg K n) (begN n) (begE n) with
   |none=>rw [hr] at h;cases h
   |some y=>
    obtain ⟨k,R⟩:=y
    have h1:=ruF_is _ _ _ _ _ _ hr
    have h2:=ruF_le _ _ _ _ _ _ hr
    rw [hr] at h
    cases R with
    |no=>cases h;exact .no hc' h1 (by omega)
    |yes L m E=>
     simp only at h
     split at h
     ·cases h;exact .yes hc' h1 (by omega) (by assumption)
     ·cases h
 |stuck e n=>cases h
 |shut=>cases h
def alrF:List Tv→Pst→Option (List Ev × Int × Nat)
 |[],.live K n=>if K.length=1 then some ([⟨3,1,tv0⟩],0,0) else some ([],121,0)
 |[],_=>none
 |t :: l,st=>match putF t st with
  |some (ev,c,st')=>if c=0 then (match alrF l st' with|some (E,c',k)=>some (ev++E,c',k+1)|none=>none) else some ([],c,0)
  |none=>none
theorem alrF_is:∀(l:List Tv) (st:Pst) (E:List Ev) (c:Int) (k:Nat),alrF l st=some (E,c,k)→Alr st l E c k
 |[],st,E,c,k,h=>by
  cases st with
  |live K n=>
   simp only [alrF] at h
   split at h
   ·rename_i h1;cases h;exact .nil (.all h1)
   ·rename_i h1;cases h;exact .nil (.open h1)
  |stuck e n=>cases h
  |shut=>cases h
 |t :: l,st,E,c,k,h=>by
  simp only [alrF] at h
  cases hp:putF t st with
  |none=>rw [hp] at h;cases h
  |some x=>
   obtain ⟨ev,c1,st'⟩:=x
   have h1:=putF_is hp
   rw [hp] at h
   simp only at h h1
   split at h
   ·rename_i hc
    subst hc
    cases hr:alrF l st' with
    |none=>rw [hr] at h;cases h
    |some y=>
     obtain ⟨E2,c2,k2⟩:=y
     rw [hr] at h
     cases h
     exact .on h1 (alrF_is l st' _ _ _ hr)
   ·rename_i hc
    cases h
    exact .err h1 hc
theorem play_len {s s':List Int}{a b:List Ev}(h:play s (a++b)=some s'):∃s1,play s a=some s1:=by
 induction a generalizing s with
 |nil=>exact ⟨s,rfl⟩
 |cons e a ih=>
  simp only [play,List.cons_append] at h ⊢
  split
  ·rename_i h1;rw [if_pos h1] at h;exact ih h
  ·rename_i h1
   rw [if_neg h1] at h
   split
   ·rename_i h2
    rw [if_pos h2] at h
    cases s with
    |nil=>cases h
    |cons n s=>
     simp only at h ⊢
     split
     ·rename_i h3;rw [if_pos h3] at h;exact ih h
     ·rename_i h3;rw [if_neg h3] at h;cases h
   ·rename_i h2;rw [if_neg h2] at h;exact ih h
mutual
def Ful:Nd→Prop
 |.mk k d c=>if k=0 then c=[] else c≠[]∧d=tv0∧FulL c
def FulL:List Nd→Prop
 |[]=>True
 |n :: r=>Ful n∧FulL r
end
theorem fulL_app:∀(a b:List Nd),FulL a→FulL b→FulL (a++b)
 |[],b,_,h=>h
 |n :: r,b,h,h'=>by
  simp only [List.cons_append,FulL] at h ⊢
  exact ⟨h.1,fulL_app r b h.2 h'⟩
def FS (S:List (Int × List Nd)):Prop:=∀x∈S,FulL x.2∧x.1≠0
def TopNe (S:List (Int × List Nd)):Prop:=∃k c S',S=(k,c) :: S'∧c≠[]
theorem bld_closes:∀(c:List Ev) (S:List (Int × List Nd)) (s':List Int),(∀e∈c,e.k=3)→play (S.map (·.1)) c=some s'→s'≠[]→FS S→(c≠[]→TopNe S)→∃S',S'.map (·.1)=s'∧FS S'∧(c≠[]→TopNe S')∧(c=[]→S'=S)∧∀rest,bld (c++rest) S=bld rest S'
 |[],S,s',_,h,_,hF,hT=>by cases h;exact ⟨S,rfl,hF,(fun h=>absurd rfl h),fun _=>rfl,fun rest=>rfl⟩
 |e :: c,S,s',hc,h,hs,hF,hT=>by
  have h3:=hc e (List.mem_cons_self ..)
  have h1:¬e.k=1:=by omega
  obtain ⟨k,kids,S1,rfl,hne⟩:=hT (by simp)
  simp only [List.map_cons,play,if_neg h1,if_pos h3] at h
  split at h
  ·rename_i hk
   obtain ⟨k',c',S2,rfl⟩:∃k' c' S2,S1=(k',c') :: S2:=by
    cases S1 with
    |nil=>
     exfalso
     cases c with
     |nil=>simp [play] at h;exact hs h
     |cons e2 c2=>
      have h3':=hc e2 (by simp)
      have h1':¬e2.k=1:=by omega
      simp [play,h1',h3'] at h
    |cons x S2=>exact ⟨x.1,x.2,S2,rfl⟩
   have hk0:k≠0:=(hF (k,kids) (by simp)).2
   have hful:Ful (.mk k tv0 kids):=by rw [Ful,if_neg hk0];exact ⟨hne,rfl,(hF (k,kids) (by simp)).1⟩
   have hF2:FS ((k',c'++[.mk k tv0 kids]) :: S2):=by
    intro x hx
    rcases List.mem_cons.1 hx with rfl|hx
    ·have:=hF (k',c') (by simp)
     exact ⟨fulL_app _ _ this.1 (by simp [FulL,hful]),this.2⟩
    ·exact hF x (by simp [hx])
   have hT2:TopNe ((k',c'++[.mk k tv0 kids]) :: S2):=⟨k',_,S2,rfl,by simp⟩
   obtain ⟨S',a1,a2,a3,a4,a5⟩:=bld_closes c ((k',c'++[.mk k tv0 kids]) :: S2) s' (fun x hx=>hc x (List.mem_cons_of_mem _ hx)) (by simpa using h) hs hF2 (fun _=>hT2)
   refine ⟨S',a1,a2,fun _=>?_,(fun h=>by cases h),fun rest=>?_⟩
   ·by_cases hcn:c=[]
    ·rw [a4 hcn];exact hT2
    ·exact a3 hcn
   ·rw [List.cons_append,←a5 rest]
    simp only [bld,if_neg h1,if_pos h3,if_pos hk]
  ·cases h
theorem bld_opens:∀(o:List Ev) (S:List (Int × List Nd)) (s':List Int),(∀e∈o,e.k=1∧e.n≠0)→play (S.map (·.1)) o=some s'→s'.length≤1000→FS S→∃S',S'.map (·.1)=s'∧FS S'∧S.length≤S'.length∧(∀rest,bld (o++rest) S=bld rest S')
 |[],S,s',_,h,_,hF=>by cases h;exact ⟨S,rfl,hF,Nat.le_refl _,fun rest=>rfl⟩
 |e :: o,S,s',hc,h,hs,hF=>by
  obtain ⟨h1,hn⟩:=hc e (List.mem_cons_self ..)
  simp only [play,if_pos h1] at h
  have hF2:FS ((e.n,[]) :: S):=by
   intro x hx
   rcases List.mem_cons.1 hx with rfl|hx
   ·exact ⟨trivial,hn⟩
   ·exact hF x hx
  obtain ⟨S',a1,a2,a3,a4⟩:=bld_opens o ((e.n,[]) :: S) s' (fun x hx=>hc x (List.mem_cons_of_mem _ hx)) h hs hF2
  have hl:S'.length≤1000:=by have:=congrArg List.length a1;rw [List.length_map] at this;omega
  simp only [List.length_cons] at a3
  refine ⟨S',a1,a2,by omega,fun rest=>?_⟩
  rw [List.cons_append,←a4 rest]
  simp only [bld,if_pos h1]
  rw [if_neg (by intro hh;rcases hh with hh|hh;exact hn hh;omega)]
theorem bld_tok {t:Tv}{S:List (Int × List Nd)}(hS:S≠[]) (hF:FS S):∃S',S'.map (·.1)=S.map (·.1)∧FS S'∧TopNe S'∧∀rest,bld ((if cm t then ⟨4,0,t⟩ else ⟨2,0,t⟩) :: rest) S=bld rest S':=by
 cases S with
 |nil=>exact absurd rfl hS
 |cons x S1=>
  obtain ⟨k,c⟩:=x
  refine ⟨(k,c++[.mk 0 t []]) :: S1,rfl,?_,⟨k,_,S1,rfl,by simp⟩,fun rest=>?_⟩
  ·intro x hx
   rcases List.mem_cons.1 hx with rfl|hx
   ·have:=hF (k,c) (by simp)
    exact ⟨fulL_app _ _ this.1 (by simp [FulL,Ful]),this.2⟩
   ·exact hF x (by simp [hx])
  ·cases hc:cm t <;> simp [bld,hc]
theorem ru_nz {t:Tv}{k:Nat}{K:List It}{n:Int}{E:List Ev}{R:Ro}(h:Ru t k K n E R):∀{L:List It}{m:Int}{F:List Ev},R=.yes L m F→∀e∈F,e∈E∨(e.k=1→e.n≠0):=by
 induction h with
 |nil=>intro L m F h;cases h
 |ref _=>intro L m F h;cases h
 |tk hs=>intro L m F h e he;cases h;exact .inl he
 |go hs hr ih=>
  rename_i k i K n d E o r R
  intro L m F h e he
  rcases ih h e he with h1|h1
  ·rcases List.mem_append.1 h1 with h2|h2
   ·exact .inl h2
   ·refine .inr (fun hk=>?_)
    cases i with
    |fl x=>
     cases x with
     |mt mm=>
      have hro:=row_ok t mm
      simp only [It.step,Fl.step] at hs
      cases hrow:M.row t mm with
      |ref=>rw [hrow] at hs;cases hs
      |ex r'=>rw [hrow] at hs;cases hs;cases h2
      |op nd r'=>
       rw [hrow] at hs hro
       cases hs
       simp at h2
       subst h2
       have:=hro.2.2.2.1
       show nd≠0
       omega
     |_=>simp only [It.step,Fl.step] at hs;split at hs <;> cases hs
    |lv nn=>cases hs;simp at h2;subst h2;cases hk
    |once p=>cases hs;cases h2
    |again p=>cases hs;cases h2
    |all r'=>cases hs;cases h2
  ·exact .inr h1
structure Tj (K:List It) (S:List (Int × List Nd)):Prop where
 pa:S.map (·.1)=lvs K
 fs:FS S
 tn:TopNe S∨K=progR++[.lv 1]
theorem prog_take {t:Tv}{k:Nat}{n m:Int}{E F:List Ev}{L:List It}(h:Ru t k (progR++[.lv 1]) n E (.yes L m F)):F=E:=by
 cases h with
 |tk _=>rfl
 |go hs _=>
  simp only [It.step,Fl.step] at hs
  split at hs <;> cases hs
theorem play_pos:∀(o:List Ev) (s s':List Int),(∀e∈o,e.k=1∧e.n≠1)→play s o=some s'→s'.getLast?=some 1→s≠[]
 |[],s,s',_,h,hl=>by cases h;intro e;subst e;cases hl
 |e :: o,s,s',ho,h,hl=>by
  obtain ⟨h1,h2⟩:=ho e (by simp)
  simp only [play,if_pos h1] at h
  intro es
  subst es
  have key:∀(o:List Ev) (s s':List Int) (x:Int),(∀e∈o,e.k=1)→play s o=some s'→s.getLast?=some x→s'.getLast?=some x:=by
   intro o
   induction o with
   |nil=>intro s s' x _ h hx;cases h;exact hx
   |cons e2 o ih=>
    intro s s' x ho h hx
    simp only [play,if_pos (ho e2 (by simp))] at h
    refine ih (e2.n :: s) s' x (fun y hy=>ho y (by simp [hy])) h ?_
    cases s with
    |nil=>cases hx
    |cons y s=>simpa using hx
  have:=key o [e.n] s' e.n (fun y hy=>(ho y (by simp [hy])).1) h rfl
  rw [this] at hl
  exact h2 (by simpa using hl)
theorem tree_rest:∀(l:List Tv) (K:List It) (n:Int) (S:List (Int × List Nd)) (E:List Ev) (k:Nat),Good (.live K n)→Bo2 K→Tj K S→Alr (.live K n) l E 0 k→∃c,bld E S=some (.mk 1 tv0 c)∧c≠[]∧FulL c
 |[],K,n,S,E,k,hg,hb,hj,h=>by
  obtain ⟨hc,rfl⟩:=h.end
  cases hc with
  |all hh=>
   have hK:K=[.lv 1]:=by
    rcases hb with hb|⟨X,hX⟩
    ·exact hb
    ·rw [hX] at hh;simp at hh
   subst hK
   have hp:=hj.pa
   rcases hj.tn with ⟨k0,c,S',rfl,hne⟩|ht
   ·simp [lvs] at hp
    obtain ⟨rfl,rfl⟩:=hp
    refine ⟨c,?_,hne,(hj.fs (1,c) (by simp)).1⟩
    simp [bld]
   ·cases ht
 |t :: l,K,n,S,E,k,hg,hb,hj,h=>by
  have hn:=good_pos hg hb
  obtain ⟨b1,b2,b3⟩:=beg_self (K:=K) hn
  obtain ⟨g1,g2,g3,g4,g5,gbot,gbn,gbe⟩:=good_beg hg
  have hSne:S≠[]:=by
   intro e
   have:=hj.pa
   rw [e] at this
   have h2:1≤(lvs K).length:=by
    rcases hb with rfl|⟨X,rfl⟩
    ·decide
    ·rw [lvs_app];simp [lvs]
   rw [←this] at h2
   simp at h2
  rcases h.inv with ⟨ev,st',hp,hcd,rfl,rfl⟩|⟨ev,st',E2,k2,hp,hR2,rfl,rfl⟩
  ·exact absurd rfl hcd
  ·have hgs:=(put_keep hg hp).1
   cases hp with
   |note hh=>
    rw [b1,b2] at hR2 hgs
    obtain ⟨S',a1,a2,a3,a4⟩:=bld_tok (t:=t) hSne hj.fs
    have hcm:cm t=true:=hh
    rw [hcm] at a4
    obtain ⟨c,c1,c2,c3⟩:=tree_rest l K n S' E2 k2 hgs hb ⟨a1.trans hj.pa,a2,.inl a3⟩ hR2
    refine ⟨c,?_,c2,c3⟩
    rw [b3,List.nil_append,List.singleton_append,←c1]
    exact a4 E2
   |yes hh hR hk hm2=>
    rename_i L m2 E1 k1
    obtain ⟨c1,c2,c3,o,c4,c5,c6,c7⟩:=ru_keep hR rfl g1 g2 g3
    obtain ⟨cc,oo,d1,d2,d3⟩:=ru_phase hR rfl g1
    have hnz:=ru_nz hR rfl
    have hL:=ru_bo2 hR rfl (by rw [b1];exact hb)
    rw [b3,List.nil_append] at c4 d1
    obtain rfl:o=cc++oo:=c4.symm.trans d1
    rw [b1] at c5 hR
    rw [b3] at hR hnz
    obtain ⟨s1,p1⟩:=play_len c5
    have p2:play s1 oo=some (lvs L):=by rw [←c5,play_app _ _ _ _ p1]
    have hlast:(lvs L).getLast?=some 1:=by
     rcases hL with rfl|⟨X,rfl⟩
     ·rfl
     ·rw [lvs_app];simp [lvs]
    have hs1:=play_pos oo s1 _ (fun e he=>⟨d3 e he,(c6 e (List.mem_append_right _ he)).2.2 (d3 e he)⟩) p2 hlast
    have htop:cc≠[]→TopNe S:=by
     intro hcc
     rcases hj.tn with ht|ht
     ·exact ht
     ·subst ht
      have:=prog_take hR
      rw [c4] at this
      simp at this
      exact absurd this.1 hcc
    obtain ⟨S1,e1,e2,e3,e4,e5⟩:=bld_closes cc S s1 d2 (by rw [hj.pa];exact p1) hs1 hj.fs htop
    obtain ⟨S2,f1,f2,f3,f4⟩:=bld_opens oo S1 (lvs L) (fun e he=>⟨d3 e he,by
     rcases hnz e (by rw [c4];exact List.mem_append_right _ he) with h1|h1
     ·cases h1
     ·exact h1 (d3 e he)⟩) (by rw [e1];exact p2) (by omega) e2
    have hS2:S2≠[]:=by
     intro e
     rw [e] at f1
     have f1':lvs L=[]:=f1.symm
     rw [f1'] at hlast
     cases hlast
    obtain ⟨S3,a1,a2,a3,a4⟩:=bld_tok (t:=t) hS2 f2
    have hcm:cm t=false:=hh
    rw [hcm] at a4
    obtain ⟨c,x1,x2,x3⟩:=tree_rest l L m2 S3 E2 k2 hgs hL ⟨a1.trans f1,a2,.inl a3⟩ hR2
    refine ⟨c,?_,x2,x3⟩
    rw [c4,List.append_assoc,List.append_assoc,e5,f4,←x1]
    exact a4 E2
theorem alr_tree {l:List Tv}{E:List Ev}{k:Nat}(h:Alr (.live [] 0) l E 0 k):∃c,bld E []=some (.mk 1 tv0 c)∧c≠[]∧FulL c:=by
 by_cases hl:l=[]
 ·subst hl
  obtain ⟨hc,rfl⟩:=h.end
  cases hc with
  |all hh=>simp at hh
 ·obtain ⟨E1,h1,h2⟩:=alr_first h hl
  obtain ⟨c,c1,c2,c3⟩:=tree_rest l _ 1 [(1,[])] E1 k good_one bo2_prog ⟨rfl,(fun x hx=>by simp at hx;subst hx;exact ⟨trivial,by decide⟩),.inr rfl⟩ h1
  refine ⟨c,?_,c2,c3⟩
  rw [h2 rfl,←c1]
  simp [bld]
def Ini (st:Pst):Prop:=st=.live [] 0∨∃K n,st=.live K n∧Bo2 K∧n≠0
theorem put_ini {st st':Pst}{t:Tv}{ev:List Ev}(hg:Good st) (hi:Ini st) (hp:Putr t st ev 0 st'):Good st'∧Ini st':=by
 have hg':=(put_keep hg hp).1
 refine ⟨hg',?_⟩
 have hb:∀K n,st=.live K n→Bo2 (beg K n):=by
  intro K n e
  rcases hi with hi|⟨K',n',hi,hb,hn⟩
  ·rw [hi] at e
   cases e
   exact bo2_prog
  ·rw [hi] at e
   cases e
   rw [(beg_self hn).1]
   exact hb
 cases hp with
 |stuck=>rcases hi with hi|⟨_,_,hi,_⟩ <;> cases hi
 |note hh=>
  have hb2:=hb _ _ rfl
  exact .inr ⟨_,_,rfl,hb2,good_pos hg' hb2⟩
 |yes hh hR hk hm=>
  have hb2:=ru_bo2 hR rfl (hb _ _ rfl)
  exact .inr ⟨_,_,rfl,hb2,good_pos hg' hb2⟩
theorem ini_new:Ini (.live [] 0):=.inl rfl
theorem clor_live {st:Pst}{ev:List Ev}{c:Int}(hi:Ini st) (h:Clor st ev c):(c=0∧∃n,st=.live [.lv 1] n∧n≠0)∨c=121:=by
 rcases hi with rfl|⟨K,n,rfl,hb,hn⟩
 ·cases h with
  |all hh=>simp at hh
  | «open» hh=>exact .inr rfl
 ·cases h with
  |all hh=>
   refine .inl ⟨rfl,n,?_,hn⟩
   rcases hb with rfl|⟨X,rfl⟩
   ·rfl
   ·simp at hh
  | «open» hh=>exact .inr rfl
structure Prg (W:World) (E:List Ev) (code:Int) (a:Nat) (e:Ending) (w':World):Prop where
 bel:Below W.heap.size W w'
 ex:∃(n:Nd) (p:Option Addr) (cv:Nat),e=.returned (.tuple #[ndv n.k n.d (.slice p n.c.length cv),.int .i64 code,.int .i64 ((if code=0 then 0 else a:Nat):Int)])∧TN (fun j=>W.heap.size≤j) w' n (.slice p n.c.length cv)∧(code=0→bld E []=some n)∧(code≠0→n=.mk 0 tv0 [])
theorem bo_some {E:List Ev}{n:Nd}(h:bld E []=some n):bo E=(n,0):=by unfold bo;rw [h]
theorem prg_any {W:World}{ao:Option Addr}{l:List Tv}{cap:Nat}(hl:Lt W ao l) (hn:l.length≤4194304) {E:List Ev}{code:Int}{a:Nat}(ha:Alr (.live [] 0) l E code a) :
  Calls Tryz.prog 12 #[.slice ao l.length cap] W (Prg W E code a):=by
 refine (program_any hl hn ha).mono ?_
 rintro e w' ⟨hb,n,sv,at',he,ht,h1,h2⟩
 obtain ⟨p,cv,rfl,_⟩:=tn_shape ht
 by_cases hc:code=0
 ·subst hc
  obtain ⟨c,hbl,_⟩:=alr_tree ha
  have h3:=bo_some hbl
  obtain ⟨rfl,rfl⟩:=h1 rfl
  rw [h3] at he ht
  exact ⟨hb,_,p,cv,he,ht,fun _=>hbl,fun h=>absurd rfl h⟩
 ·obtain ⟨rfl,rfl⟩:=h2 hc
  rw [if_neg hc] at he
  exact ⟨hb,_,p,cv,by rw [if_neg hc];exact he,ht,fun h=>absurd h hc,fun _=>rfl⟩
end Go.Proofs.YtkigadnkclkopaaGreatDoor
