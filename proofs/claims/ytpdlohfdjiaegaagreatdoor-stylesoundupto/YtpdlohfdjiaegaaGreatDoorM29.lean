import Derived.Test.YtpdlohfdjiaegaaGreatDoorM28
set_option linter.unusedVariables false
set_option linter.unusedSimpArgs false
namespace Go.Proofs.YtpdlohfdjiaegaaGreatDoor
open Go.RowKit
open Lw (Dc bE rt frm dep rtT rtN dcs dcs_len dcs_one)
structure HW (S:World→Prop) where
 W:World
 h:S W
theorem wp_region_quiet_in {P:Program}{S:World→Prop}{id:Nat}{Q:Exit→Act→World→Prop}{a:Act}{w:World}{l:List Oper}(hm:P.follows .mixedOrders=true) (hB:Region.lexB .any l.toArray=true) (hC:S w.drew)
  (h:wpQuiet P l.toArray (fun w'=>∃x:HW S,w'=x.W) (fun a'=>∀w',(∃x:HW S,w'=x.W)→Q .normal a' w') l a):(Code.region id l.toArray true).wp P Q a w:=
 wp_region_quiet (C:=fun w'=>∃x:HW S,w'=x.W) hm hB ⟨⟨w.drew,hC⟩,rfl⟩ (by simpa using h)
theorem Calls.quiet_in {P:Program}{S:World→Prop}{f:FuncId}{args:Array Value}{v:Value}(x:HW S) (h:Calls P f args x.W fun e w'=>e=.returned v∧Below x.W.heap.size x.W w') (hS:∀W W',S W→Below W.heap.size W W'→S W') :
  Calls P f args x.W fun e w''=>e=.returned v∧∃y:HW S,w''=y.W:=
 h.mono fun e w' ⟨he,hb⟩=>⟨he,⟨w',hS _ _ x.h hb⟩,rfl⟩
theorem cell_up {w w':World}{p:Addr}{v:Value}(h:w.cell? p=some v) (hb:Below w.heap.size w w'):w'.cell? p=some v:=(hb.cell (World.block_lt_of_cell? w p h)).trans h
def SG (V W:World):Prop:=Below V.heap.size V W
theorem SG.keep {V W W':World}(h:SG V W) (hb:Below W.heap.size W W'):SG V W':=Below.trans h (hb.mono (Below.size h))
theorem is_any (n:Nd) (k:Int) (W:World):Calls Tryz.prog 179 #[.agg #[.int .u8 n.k,.int .i64 n.b,.bool n.s],.int .u8 k] W fun e w'=>e=.returned (.bool (n.is k))∧Below W.heap.size W w':=by
 have HB:Hid (∀o,Below W.heap.size W (W.alloc o)):=fun o=>(Below.refl _ _).alloc (Nat.le_refl _) _
 by_cases h33:k=33
 ·subst h33
  have HQ:Hid (n.is 33=(n.k == 5 && (n.b:Int) == 0)):=by
   show _=_
   unfold Nd.is
   rw [if_pos rfl]
   by_cases a:n.k=5 <;> by_cases b:n.b=0 <;> simp [a,b]
  go_enter Tryz.func179,Tryz.ntmps179
  go_wp2_with fail
  all_goals (go_ret;rw [HQ.out];refine ⟨?_,HB.out _⟩;simp_all)
 ·have q:(k == 33)=false:=by simpa using h33
  have HQ:Hid (n.is k=(n.k == k)):=by
   show _=_
   unfold Nd.is
   rw [if_neg h33]
   by_cases a:n.k=k <;> simp [a]
  clear h33
  go_enter Tryz.func179,Tryz.ntmps179
  go_wp2_with fail
  go_ret
  rw [HQ.out]
  exact ⟨rfl,HB.out _⟩
def Lk (w:World) (b:Nat) (l:List Int):Prop:=∀j d,l[j]?=some d→w.cell? ⟨b,j,none⟩=some (.int .u8 d)
theorem Lk.below {w w':World}{b:Nat}{l:List Int}(h:Lk w b l) (hb:Below w.heap.size w w'):Lk w' b l:=fun j d hj=>(hb.cell (World.block_lt_of_cell? _ _ (h j d hj))).trans (h j d hj)
set_option maxHeartbeats 400000 in
theorem ixn_any (n:Nd) (b:Nat) (l:List Int) (cap:Nat) (W:World) (h:Lk W b l) (hl:l.length≤1000000000) :
  Calls Tryz.prog 205 #[.slice (some ⟨b,0,none⟩) l.length cap,.func (.func 179) #[.agg #[.int .u8 n.k,.int .i64 n.b,.bool n.s]] #[]] W fun r w'=>(∃z:Int,r=.returned (.int .i64 z)∧(decide (0≤z)=l.any n.is))∧Below W.heap.size W w':=by
 have H:Hid (Lk W b l):=h
 clear h
 have HP:Hid (∀(k:Int) (V:World),Calls Tryz.prog 179 #[.agg #[.int .u8 n.k,.int .i64 n.b,.bool n.s],.int .u8 k] V fun e w'=>e=.returned (.bool (n.is k))∧Below V.heap.size V w'):=is_any n
 go_enter Tryz.func205,Tryz.ntmps205
 go_wp2_with fail
 go_loopw [5,8] (fun _ i wr=>∃k:Nat,k≤l.length∧i=.int .i64 k∧Hid ((l.take k).any n.is=false)∧Hid (Below W.heap.size W wr)) (fun _ i _=>l.length-(intOf i).toNat)
 case atStart=>exact ⟨0,Nat.zero_le _,rfl,by show _=_;simp,Below.refl _ _⟩
 case round=>
  obtain ⟨k,hk,rfl,HI,HB⟩:=hrel
  by_cases hlt:k<l.length
  ·have q1:(k:Int)<l.length:=by omega
   have q0:(0:Int)≤k:=by omega
   obtain ⟨x,hx⟩:∃x,l[k]?=some x:=⟨_,List.getElem?_eq_getElem hlt⟩
   have c0:=(H.out.below HB.out) k x hx
   have HS:Hid ((l.take (k+1)).any n.is=n.is x):=any_step n.is l k x hx HI.out
   have HT:Hid ((l.take (k+1)).any n.is=true→l.any n.is=true):=any_take n.is l _
   clear hx
   by_cases he:n.is x=true
   ·go_wp2_with (go_at_call 179;refine (HP.out x _).mono ?_;rintro e w1 ⟨rfl,hb1⟩;rw [he];have HC:Hid (Below W.heap.size W w1):=HB.out.trans (hb1.mono HB.out.size);clear hb1)
    go_ret
    exact ⟨⟨_,rfl,by rw [HT.out (HS.out.trans he)];simp⟩,HC.out⟩
   ·have he':n.is x=false:=by simpa using he
    clear he
    go_wp2_with (go_at_call 179;refine (HP.out x _).mono ?_;rintro e w1 ⟨rfl,hb1⟩;rw [he'];have HC:Hid (Below W.heap.size W w1):=HB.out.trans (hb1.mono HB.out.size);clear hb1)
    exact ⟨⟨k+1,hlt,by go_num,HS.out.trans he',HC⟩,by simp [intOf];omega⟩
  ·obtain rfl:k=l.length:=by omega
   have q1:¬((l.length:Int)<l.length):=by omega
   go_wp2_with fail
   go_ret
   refine ⟨⟨_,rfl,?_⟩,HB.out⟩
   have:=HI.out
   rw [List.take_length] at this
   rw [this]
   rfl
theorem ctn_any (n:Nd) (b:Nat) (l:List Int) (cap:Nat) (W:World) (h:Lk W b l) (hl:l.length≤1000000000) :
  Calls Tryz.prog 178 #[.slice (some ⟨b,0,none⟩) l.length cap,.func (.func 179) #[.agg #[.int .u8 n.k,.int .i64 n.b,.bool n.s]] #[]] W fun r w'=>r=.returned (.bool (l.any n.is))∧Below W.heap.size W w':=by
 have H:Hid (Calls Tryz.prog 205 #[.slice (some ⟨b,0,none⟩) l.length cap,.func (.func 179) #[.agg #[.int .u8 n.k,.int .i64 n.b,.bool n.s]] #[]] W fun r w'=>(∃z:Int,r=.returned (.int .i64 z)∧(decide (0≤z)=l.any n.is))∧Below W.heap.size W w'):=ixn_any n b l cap W h hl
 clear h
 generalize l.any n.is=bb at *
 go_enter Tryz.func178,Tryz.ntmps178
 go_wp2_with (go_at_call 205;refine H.out.mono ?_;rintro r w1 ⟨⟨z,rfl,hz⟩,hb1⟩;have HB:Hid (Below W.heap.size W w1):=hb1;clear hb1;subst hz)
 go_ret
 exact ⟨by simp,HB.out⟩
set_option maxHeartbeats 1000000 in
theorem fits_any' (n0 n1 n2 n3 n4 n5:Int) (t:ByteArray) (fa fb:Nat) (n:Nd) (tx:ByteArray) (W:World) :
  Calls Tryz.prog 121 #[.agg #[.int .u8 n0,.int .u8 n1,.int .u8 n2,.int .u8 n3,.int .u8 n4,.int .u8 n5,.string t,.func (.func fa) #[] #[],.func (.func fb) #[] #[]],.agg #[.int .u8 n.k,.int .i64 n.b,.bool n.s],.string tx] W fun e w'=>e=.returned (.bool ((t.toList == [] || t.toList == tx.toList) && [n0,n1,n2,n3,n4,n5].any n.is))∧Below W.heap.size W w':=by
 obtain ⟨V,hV⟩:∃V,(W.alloc (.cells #[.int .u8 n0,.int .u8 n1,.int .u8 n2,.int .u8 n3,.int .u8 n4,.int .u8 n5,.string t,.func (.func fa) #[] #[],.func (.func fb) #[] #[]] 132)).alloc (.cells #[.int .u8 n.k,.int .i64 n.b,.bool n.s] 121)=V:=⟨_,rfl⟩
 have hs:(W.alloc (.cells #[.int .u8 n0,.int .u8 n1,.int .u8 n2,.int .u8 n3,.int .u8 n4,.int .u8 n5,.string t,.func (.func fa) #[] #[],.func (.func fb) #[] #[]] 132)).heap.size=W.heap.size+1:=by show (W.heap.push _).size=_;simp
 have hr:V.heap[W.heap.size]?=some (.cells #[.int .u8 n0,.int .u8 n1,.int .u8 n2,.int .u8 n3,.int .u8 n4,.int .u8 n5,.string t,.func (.func fa) #[] #[],.func (.func fb) #[] #[]] 132 (0,0)):=by rw [←hV];exact alloc_at' (new_at W _) _
 have hd:V.heap[W.heap.size+1]?=some (.cells #[.int .u8 n.k,.int .i64 n.b,.bool n.s] 121 (0,0)):=by rw [←hV,←hs];exact new_at _ _
 have hB:Below W.heap.size W V:=by rw [←hV];exact ((Below.refl _ _).alloc (Nat.le_refl _) _).alloc (by omega) _
 have HV:Hid ((W.alloc (.cells #[.int .u8 n0,.int .u8 n1,.int .u8 n2,.int .u8 n3,.int .u8 n4,.int .u8 n5,.string t,.func (.func fa) #[] #[],.func (.func fb) #[] #[]] 132)).alloc (.cells #[.int .u8 n.k,.int .i64 n.b,.bool n.s] 121)=V):=hV
 have HLk:Lk V W.heap.size [n0,n1,n2,n3,n4,n5]:=fun j d hj=>by
  match j,hj with
  |0,hj=>cases hj;exact blk_cell hr rfl
  |1,hj=>cases hj;exact blk_cell hr rfl
  |2,hj=>cases hj;exact blk_cell hr rfl
  |3,hj=>cases hj;exact blk_cell hr rfl
  |4,hj=>cases hj;exact blk_cell hr rfl
  |5,hj=>cases hj;exact blk_cell hr rfl
  |j+6,hj=>simp at hj
 have HC:Hid (∀X,Below V.heap.size V X→Calls Tryz.prog 178 #[.slice (some ⟨W.heap.size,0,none⟩) 6 6,.func (.func 179) #[.agg #[.int .u8 n.k,.int .i64 n.b,.bool n.s]] #[]] X fun r w'=>r=.returned (.bool ([n0,n1,n2,n3,n4,n5].any n.is))∧Below X.heap.size X w'):=fun X hX=>ctn_any n W.heap.size [n0,n1,n2,n3,n4,n5] 6 X (HLk.below hX) (by simp)
 have HF:Hid (∀X,Below V.heap.size V X→Below W.heap.size W X):=fun X hX=>hB.trans (hX.mono hB.size)
 have m6:V.cell? ⟨W.heap.size,6,none⟩=some (.string t):=blk_cell hr rfl
 have m0:V.cell? ⟨W.heap.size+1,0,none⟩=some (.int .u8 n.k):=blk_cell hd rfl
 have m1:V.cell? ⟨W.heap.size+1,1,none⟩=some (.int .i64 n.b):=blk_cell hd rfl
 have m2:V.cell? ⟨W.heap.size+1,2,none⟩=some (.bool n.s):=blk_cell hd rfl
 have HK:Hid (∀X,Below V.heap.size V X→(X.cell? ⟨W.heap.size,6,none⟩=some (.string t)∧X.cell? ⟨W.heap.size+1,0,none⟩=some (.int .u8 n.k)∧X.cell? ⟨W.heap.size+1,1,none⟩=some (.int .i64 n.b)∧X.cell? ⟨W.heap.size+1,2,none⟩=some (.bool n.s)∧Below V.heap.size V X)):=fun X hX=>⟨(hX.cell (blk_lt hr)).trans m6,(hX.cell (blk_lt hd)).trans m0,(hX.cell (blk_lt hd)).trans m1,(hX.cell (blk_lt hd)).trans m2,hX⟩
 have HD:Hid (∀m,Below V.heap.size V (V.drewN m)):=fun m=>bel_dn (Below.refl _ _) m
 clear hr hd hB HLk hs hV
 generalize [n0,n1,n2,n3,n4,n5].any n.is=bb at *
 by_cases hq:(t.toList == [] || t.toList == tx.toList)=true
 ·rw [hq,Bool.true_and]
  by_cases he:(t.toList == [])=true
  ·have p0:t.toList.isEmpty=true:=by simpa using he
   have hc6:∀x:HW (SG V),x.W.cell? ⟨W.heap.size,6,none⟩=some (.string t):=fun x=>cell_up m6 x.h
   have hc0:∀x:HW (SG V),x.W.cell? ⟨W.heap.size+1,0,none⟩=some (.int .u8 n.k):=fun x=>cell_up m0 x.h
   have hc1:∀x:HW (SG V),x.W.cell? ⟨W.heap.size+1,1,none⟩=some (.int .i64 n.b):=fun x=>cell_up m1 x.h
   have hc2:∀x:HW (SG V),x.W.cell? ⟨W.heap.size+1,2,none⟩=some (.bool n.s):=fun x=>cell_up m2 x.h
   have hne:Nonempty (HW (SG V)):=⟨⟨V.drew,(Below.refl _ _).drew⟩⟩
   have hex:∀x:HW (SG V),∃y:HW (SG V),x.W=y.W:=fun x=>⟨x,rfl⟩
   have KT:Hid (∀x:HW (SG V),Calls Tryz.prog 178 #[.slice (some ⟨W.heap.size,0,none⟩) 6 6,.func (.func 179) #[.agg #[.int .u8 n.k,.int .i64 n.b,.bool n.s]] #[]] x.W fun r w'=>r=.returned (.bool bb)∧Below x.W.heap.size x.W w'):=fun x=>HC.out x.W x.h
   clear m6 m0 m1 m2
   go_enter Tryz.func121,Tryz.ntmps121
   go_wp2_with fail
   rw [HV.out]
   refine wp_region_quiet_in (S:=SG V) (by kernel_rfl) (by kernel_rfl) (Below.refl _ _).drew ?_
   repeat (go_big_quiet_step ((go_at_call 178;exact Calls.quiet_in _ (KT.out _) (fun _ _=>SG.keep))))
   refine wpQuiet_nil ?_
   rintro w5 ⟨⟨W5,hS5⟩,rfl⟩
   have HS5:Hid (Below V.heap.size V w5):=hS5
   clear hc0 hc1 hc2 hc6 hS5 hne hex
   go_wp2_with fail
   go_ret
   exact ⟨rfl,HF.out _ HS5.out⟩
  ·have he':(t.toList == [])=false:=by simpa using he
   have p2:(t.toList == tx.toList)=true:=by rw [he',Bool.false_or] at hq;exact hq
   clear he hq
   have hc6:∀x:HW (SG V),x.W.cell? ⟨W.heap.size,6,none⟩=some (.string t):=fun x=>cell_up m6 x.h
   have hc0:∀x:HW (SG V),x.W.cell? ⟨W.heap.size+1,0,none⟩=some (.int .u8 n.k):=fun x=>cell_up m0 x.h
   have hc1:∀x:HW (SG V),x.W.cell? ⟨W.heap.size+1,1,none⟩=some (.int .i64 n.b):=fun x=>cell_up m1 x.h
   have hc2:∀x:HW (SG V),x.W.cell? ⟨W.heap.size+1,2,none⟩=some (.bool n.s):=fun x=>cell_up m2 x.h
   have hne:Nonempty (HW (SG V)):=⟨⟨V.drew,(Below.refl _ _).drew⟩⟩
   have hex:∀x:HW (SG V),∃y:HW (SG V),x.W=y.W:=fun x=>⟨x,rfl⟩
   have KT:Hid (∀x:HW (SG V),Calls Tryz.prog 178 #[.slice (some ⟨W.heap.size,0,none⟩) 6 6,.func (.func 179) #[.agg #[.int .u8 n.k,.int .i64 n.b,.bool n.s]] #[]] x.W fun r w'=>r=.returned (.bool bb)∧Below x.W.heap.size x.W w'):=fun x=>HC.out x.W x.h
   clear m6 m0 m1 m2
   go_enter Tryz.func121,Tryz.ntmps121
   go_wp2_with fail
   rw [HV.out]
   refine wp_region_quiet_in (S:=SG V) (by kernel_rfl) (by kernel_rfl) (Below.refl _ _).drew ?_
   repeat (go_big_quiet_step ((go_at_call 178;exact Calls.quiet_in _ (KT.out _) (fun _ _=>SG.keep))))
   refine wpQuiet_nil ?_
   rintro w5 ⟨⟨W5,hS5⟩,rfl⟩
   have HS5:Hid (Below V.heap.size V w5):=hS5
   clear hc0 hc1 hc2 hc6 hS5 hne hex
   go_wp2_with fail
   go_ret
   exact ⟨rfl,HF.out _ HS5.out⟩
 ·have hq':(t.toList == [] || t.toList == tx.toList)=false:=by simpa using hq
  rw [hq',Bool.false_and]
  rw [Bool.or_eq_false_iff] at hq'
  obtain ⟨p1,p2⟩:=hq'
  clear hq
  go_enter Tryz.func121,Tryz.ntmps121
  go_wp2_with fail
  rw [HV.out]
  go_quiet (fail)
  go_wp2_with fail
  go_ret
  exact ⟨rfl,HF.out _ (HD.out _)⟩
def Rw.cs (r:Rw):List Value:=r.ns.map (Value.int .u8)++[.string ⟨r.t.toArray⟩,.func (.func r.a.id) #[] #[],.func (.func r.b.id) #[] #[]]
def tabC:List Value:=tab.flatMap Rw.cs
theorem tabC_len:tabC.length=360:=by decide +kernel
theorem tabC_one:∀v∈tabC,v.oneCell'=true:=by
 intro v hv
 obtain ⟨r,hr,hv⟩:=List.mem_flatMap.1 hv
 unfold Rw.cs at hv
 rcases List.mem_append.1 hv with h|h
 ·obtain ⟨k,_,rfl⟩:=List.mem_map.1 h
  rfl
 ·simp only [List.mem_cons,List.not_mem_nil,or_false] at h
  rcases h with rfl|rfl|rfl <;> rfl
theorem upon_store {o:Oper}{a:Act}{K:Act→World→Prop}{Q:Exit→Act→World→Prop}{w0 w1:World}{N:Nat}{L:List Value}{f:Unit→World→Result Next}(hL:L=tabC) (hr:(storeCells ⟨N,0,none⟩ tabC).run Tryz.prog w0=.ok () w1) (h:Oper.upon Tryz.prog o a K Q (f () w1)):Oper.upon Tryz.prog o a K Q ((Sem.run Tryz.prog (storeCells ⟨N,0,none⟩ L) w0).andThen f):=by
 subst hL
 rw [hr]
 exact h
theorem results_cell {P:Program}{fn:Func}{tmps:Array Value}{w:World}{a:Nat}{t:TypeId}{ad:Addr}{v:Value}(h:fn.results=#[.cell a t]) (ha:tmps.getD a undef=.pointer (some ad)) (hl:(loadVar t ad).run P w=.ok v w):(results fn tmps).run P w=.ok v w:=by
 have ha':tmps[a]?.getD undef=.pointer (some ad):=by rw [←Array.getD_eq_getD_getElem?];exact ha
 simp [results,h,ha',asAddr,hl]
set_option maxRecDepth 100000 in
set_option maxHeartbeats 4000000 in
theorem table_any (W:World):Calls Tryz.prog 120 #[] W fun e w'=>e=.returned (.agg tabC.toArray)∧Below W.heap.size W w':=by
 obtain ⟨W0,hW0⟩:∃W0,W.alloc (.cells Tryz.zeroCells184 184)=W0:=⟨_,rfl⟩
 have hz:(Tryz.zeroCells184).size=360:=by kernel_rfl
 have hb0:W0.heap[W.heap.size]?=some (.cells Tryz.zeroCells184 184 (0,0)):=by rw [←hW0];exact new_at W _
 have hB0:Below W.heap.size W W0:=by rw [←hW0];exact (Below.refl _ _).alloc (Nat.le_refl _) _
 have hst:=run_storeCells_at Tryz.prog W.heap.size 0 184 tabC 0 Tryz.zeroCells184 W0 hb0 (by rw [tabC_len,hz];decide) tabC_one
 have e1:(Tryz.zeroCells184).toList.take (0+0)++tabC++(Tryz.zeroCells184).toList.drop (0+0+tabC.length)=tabC:=by
  rw [tabC_len,List.drop_eq_nil_of_le (by rw [Array.length_toList,hz];decide)]
  simp
 rw [e1] at hst
 obtain ⟨W1,hW1⟩:∃W1,W0.setRow W.heap.size tabC.toArray=W1:=⟨_,rfl⟩
 rw [hW1] at hst
 have hb1:W1.heap[W.heap.size]?=some (.cells tabC.toArray 184 (0,0)):=by rw [←hW1];exact setRow_heap W0 _ _ _ _ _ hb0
 have hB1:Below W.heap.size W W1:=by rw [←hW1];exact kp_low2 hB0 (Kp.setRow W0 _ _) (fun k e=>by omega) hB0.size
 have hl:(loadVar 184 ⟨W.heap.size,0,none⟩).run Tryz.prog W1=.ok (.agg tabC.toArray) W1:=run_loadVar_row (P:=Tryz.prog) W1 W.heap.size 184 184 tabC.toArray (0,0) _ hb1 Tryz.underlying184 (by first|rfl|kernel_rfl) (by first|rfl|kernel_rfl)
 have HS:Hid ((storeCells ⟨W.heap.size,0,none⟩ tabC).run Tryz.prog W0=.ok () W1):=hst
 have HL:Hid ((loadVar 184 ⟨W.heap.size,0,none⟩).run Tryz.prog W1=.ok (.agg tabC.toArray) W1):=hl
 have HB:Hid (Below W.heap.size W W1):=hB1
 have HW:Hid (W.alloc (.cells Tryz.zeroCells184 184)=W0):=hW0
 clear hW0 hz hb0 hB0 hst e1 hW1 hb1 hB1 hl
 go_enter Tryz.func120,Tryz.ntmps120
 go_wp2_with fail
 rw [HW.out]
 refine upon_store (by kernel_rfl) HS.out ?_
 go_wp2_with fail
 refine bodyPost_ret (v:=.agg tabC.toArray) (results_cell (a:=0) (t:=184) (ad:=⟨W.heap.size,0,none⟩) (by kernel_rfl) (by rfl) HL.out) rfl ?_
 exact ⟨rfl,HB.out⟩
theorem SS.nd {S:Nat→Prop}{W:World}{g:Nat}{st:Sy}(h:SS S W g st) {b cap:Nat}{n m:Nd}{r:List Nd}(e:st.ns=n :: r) (hc:W.cell? ⟨g,1,none⟩=some (.slice (some ⟨b,0,none⟩) (r.length+1) cap)) (j:Nat) (u:Value) (hj:j<3) (hm:n.cs.set j u=m.cs) :
  W.frozen? ⟨b,r.length*3+j,none⟩=false∧Mv S g W (W.setCell ⟨b,r.length*3+j,none⟩ u) { st with ns:=m :: r }:=by
 obtain ⟨vn,vw,hv,s1,s2⟩:=h.ex
 have e1:vn=.slice (some ⟨b,0,none⟩) (r.length+1) cap:=by have:=hv.sb.cells.2.1;rw [hc] at this;exact (Option.some.inj this).symm
 subst e1
 have hn:Rn tN W (.slice (some ⟨b,0,none⟩) (r.length+1) cap) (n :: r):=by rw [←e];exact hv.rn
 refine ⟨World.ownsRow.frozenAt hn _,Mv.mk' (SV.nd e hv j u hj hm) h.sg (fun k e=>.inl (s1 k e)) (fun k e=>.inl (s2 k e)) ((Kp.set _ _ _ _).sub (fun k e=>by rw [e];exact s1 b rfl)) hv.sb.cells.2.1⟩
theorem SS.nodes {S:Nat→Prop}{W:World}{g:Nat}{st:Sy}(h:SS S W g st) {n:Nd}{r:List Nd}(e:st.ns=n :: r):∃b cap,W.cell? ⟨g,1,none⟩=some (.slice (some ⟨b,0,none⟩) (r.length+1) cap)∧W.cell? ⟨b,r.length*3,none⟩=some (.int .u8 n.k)∧W.cell? ⟨b,r.length*3+1,none⟩=some (.int .i64 n.b)∧W.cell? ⟨b,r.length*3+2,none⟩=some (.bool n.s)∧r.length+1≤cap:=by
 obtain ⟨vn,vw,hv,s1,s2⟩:=h.ex
 have hn1:=hv.rn
 rw [e] at hn1
 obtain ⟨b,cap,rfl,hc1,hc2⟩:=rn_some hn1
 obtain ⟨a0,a1,a2⟩:=rn_cells hn1
 exact ⟨b,cap,hv.sb.cells.2.1,a0,a1,a2,hc2⟩
theorem SS.cells2 {S:Nat→Prop}{W:World}{g b cap:Nat}{st:Sy}(h:SS S W g st) {n:Nd}{r:List Nd}(e:st.ns=n :: r) (hc:W.cell? ⟨g,1,none⟩=some (.slice (some ⟨b,0,none⟩) (r.length+1) cap)):W.cell? ⟨b,r.length*3,none⟩=some (.int .u8 n.k)∧W.cell? ⟨b,r.length*3+1,none⟩=some (.int .i64 n.b)∧W.cell? ⟨b,r.length*3+2,none⟩=some (.bool n.s):=by
 obtain ⟨b',cap',h1,h2,h3,h4,_⟩:=h.nodes e
 rw [hc] at h1
 cases h1
 exact ⟨h2,h3,h4⟩
set_option maxHeartbeats 1000000 in
theorem openExprIn_any {S:Nat→Prop}{W:World}{g:Nat}{st:Sy}(h:SS S W g st) (hz:Bz 999999980 st) {n:Nd}{r:List Nd}(e:st.ns=n :: r) {b cap:Nat}(hc:W.cell? ⟨g,1,none⟩=some (.slice (some ⟨b,0,none⟩) (r.length+1) cap)) :
  Calls Tryz.prog 65 #[spg g,.pointer (some ⟨b,r.length*3,none⟩)] W fun rr w'=>rr=.returned (.tuple #[])∧Mv S g W w' st.exprIn:=by
 have hns:st.ns≠[]:=by rw [e];simp
 obtain ⟨a0,a1,a2⟩:=h.cells2 e hc
 by_cases h19:n.k=19
 ·have e9:st.exprIn={ (st.aws [.S,.I 3]) with ns:=⟨n.k,n.b+1,true⟩ :: r }:=by unfold Sy.exprIn;rw [e];simp only;rw [if_pos h19,if_pos h19]
  have en:(st.aws [.S,.I 3]).ns=⟨n.k,n.b+1,n.s⟩ :: r:=by show awN (.I 3) (awN .S st.ns)=_;rw [e];rfl
  have HF:Hid (Calls Tryz.prog 118 #[spg g] W fun rr w'=>rr=.returned (.tuple #[])∧Mv S g W w' (st.aws Fx.blankIn3.pz)):=fx_blankIn3 h hns (hz.mono (by omega))
  have HX:Hid (∀w',Mv S g W w' (st.aws Fx.blankIn3.pz)→w'.frozen? ⟨b,r.length*3+2,none⟩=false∧w'.cell? ⟨b,r.length*3+2,none⟩=some (.bool n.s)∧Mv S g W (w'.setCell ⟨b,r.length*3+2,none⟩ (.bool true)) st.exprIn):=fun w' m=>by
   have hcc:=m.2.2.trans hc
   obtain ⟨S1,t1,u1⟩:=Mv.seq m
   obtain ⟨x1,x2⟩:=SS.nd t1 (n:=⟨n.k,n.b+1,n.s⟩) (m:=⟨n.k,n.b+1,true⟩) en hcc 2 (.bool true) (by omega) rfl
   refine ⟨x1,(t1.cells2 en hcc).2.2,?_⟩
   rw [e9]
   exact u1 _ _ x2
  have q1:(n.k == 19)=true:=by simpa using h19
  clear h hz hns e9 en h19
  go_enter Tryz.func65,Tryz.ntmps65
  go_wp2_with (go_at_call 118;refine HF.out.mono ?_;rintro r1 w1 ⟨rfl,m1⟩;obtain ⟨x1,x2,x3⟩:=HX.out _ m1;have HY:=show Hid (Mv S g W (w1.setCell ⟨b,r.length*3+2,none⟩ (.bool true)) st.exprIn) from x3;clear x3 m1)
  go_end0
  exact ⟨rfl,HY.out⟩
 ·have q1:(n.k == 19)=false:=by simpa using h19
  by_cases h31:n.k=31∧n.s=false
  ·have e9:st.exprIn={ (st.aws [.B0]) with ns:=⟨n.k,n.b,true⟩ :: r }:=by unfold Sy.exprIn;rw [e];simp only;rw [if_neg h19,if_pos h31,if_neg h19]
   have en:(st.aws [.B0]).ns=⟨n.k,n.b,n.s⟩ :: r:=by show awN .B0 st.ns=_;rw [e];rfl
   have HF:Hid (Calls Tryz.prog 119 #[spg g,.agg #[.int .u8 3,.string ⟨#[]⟩,.int .i64 0,.int .i64 0,.bool false]] W fun rr w'=>rr=.returned (.tuple #[])∧Mv S g W w' (st.aw .B0)):=waitp h .B0 ⟨rfl,by decide⟩ (hz.mono (by omega)) (.inr trivial)
   have HX:Hid (∀w',Mv S g W w' (st.aw .B0)→w'.frozen? ⟨b,r.length*3+2,none⟩=false∧w'.cell? ⟨b,r.length*3+2,none⟩=some (.bool n.s)∧Mv S g W (w'.setCell ⟨b,r.length*3+2,none⟩ (.bool true)) st.exprIn):=fun w' m=>by
    have hcc:=m.2.2.trans hc
    obtain ⟨S1,t1,u1⟩:=Mv.seq m
    obtain ⟨x1,x2⟩:=SS.nd t1 (n:=⟨n.k,n.b,n.s⟩) (m:=⟨n.k,n.b,true⟩) en hcc 2 (.bool true) (by omega) rfl
    refine ⟨x1,(t1.cells2 en hcc).2.2,?_⟩
    rw [e9]
    exact u1 _ _ x2
   have q2:(n.k == 31)=true:=by simpa using h31.1
   rw [h31.2] at a2
   clear h hz hns e9 en h19 h31
   go_enter Tryz.func65,Tryz.ntmps65
   go_wp2_with (go_at_call 119;refine HF.out.mono ?_;rintro r1 w1 ⟨rfl,m1⟩;obtain ⟨x1,x2,x3⟩:=HX.out _ m1;have HY:=show Hid (Mv S g W (w1.setCell ⟨b,r.length*3+2,none⟩ (.bool true)) st.exprIn) from x3;clear x3 m1)
   go_end0
   exact ⟨rfl,HY.out⟩
  ·have e9:st.exprIn={ st with ns:=⟨n.k,n.b,true⟩ :: r }:=by unfold Sy.exprIn;rw [e];simp only;rw [if_neg h19,if_neg h31,if_neg h19]
   obtain ⟨x1,x2⟩:=SS.nd h (n:=n) (m:=⟨n.k,n.b,true⟩) e hc 2 (.bool true) (by omega) rfl
   rw [←e9] at x2
   have HY:=show Hid (Mv S g W (W.setCell ⟨b,r.length*3+2,none⟩ (.bool true)) st.exprIn) from x2
   clear x2 e9 h hz hns
   by_cases h31':n.k=31
   ·have q2:(n.k == 31)=true:=by simpa using h31'
    have hs:n.s=true:=by cases hq:n.s with|true=>rfl|false=>exact absurd ⟨h31',hq⟩ h31
    rw [hs] at a2
    clear h31 h31' h19 hs
    go_enter Tryz.func65,Tryz.ntmps65
    go_wp2_with fail
    go_end0
    exact ⟨rfl,HY.out⟩
   ·have q2:(n.k == 31)=false:=by simpa using h31'
    clear h31 h31' h19
    go_enter Tryz.func65,Tryz.ntmps65
    go_wp2_with fail
    go_end0
    exact ⟨rfl,HY.out⟩
def Mw (S:Nat→Prop) (g:Nat) (W W':World) (st:Sy):Prop:=(∃S',SS S' W' g st∧∀k,S' k→S k∨W.heap.size≤k)∧Kp S W W'
theorem Mv.w {S:Nat→Prop}{W W':World}{g:Nat}{st:Sy}(h:Mv S g W W' st):Mw S g W W' st:=⟨h.1,h.2.1⟩
theorem Mw.mk' {S:Nat→Prop}{W W':World}{g:Nat}{st:Sy}{vn vw:Value}(hv:SV W' g st vn vw) (hs:S g) (h1:∀k,vn.ownBlock=some k→S k∨W.heap.size≤k) (h2:∀k,vw.ownBlock=some k→S k∨W.heap.size≤k) (hk:Kp S W W'):Mw S g W W' st:=
 ⟨⟨fun k=>(S k∨W.heap.size≤k)∧k<W'.heap.size,⟨⟨vn,vw,hv,fun k e=>⟨h1 k e,row_lt hv.rn k e⟩,fun k e=>⟨h2 k e,row_lt hv.rd k e⟩⟩,⟨.inl hs,hv.sb.lt⟩,fun _ h=>h.2⟩,fun _ h=>h.1⟩,hk⟩
theorem Mw.seq {S:Nat→Prop}{W W1:World}{g:Nat}{st:Sy}(h:Mw S g W W1 st):∃S1,SS S1 W1 g st∧∀W2 st2,Mw S1 g W1 W2 st2→Mw S g W W2 st2:=by
 obtain ⟨⟨S1,s1,s2⟩,hk⟩:=h
 refine ⟨S1,s1,?_⟩
 rintro W2 st2 ⟨⟨S2,t1,t2⟩,hk2⟩
 refine ⟨⟨S2,t1,fun k hk'=>?_⟩,hk.step hk2 (fun k hlt hs=>?_)⟩
 ·rcases t2 k hk' with a|a
  ·exact s2 k a
  ·exact .inr (Nat.le_trans hk.size a)
 ·rcases s2 k hs with a|a
  ·exact a
  ·omega
theorem Tryz.info121:(Tryz.prog.info? 121).map (fun i=>(i.zero,i.size,i.bytes))=some (some (.agg #[.int .u8 0,.int .i64 0,.bool false]),3,24):=by kernel_rfl
theorem app_n {W:World}{ops:Array Oper}{rest:List Oper}{o:Oper}{a:Act}{Q:Exit→Act→World→Prop}(hgd:o.guard=none) (s x:Operand)
  (ho:o.op=.call { callee:=.builtin .append,args:=#[s,x],argTypes:=#[72,72] }) (v:Value) (l:List Nd) (d:Nd) (hs:a.eval s=v) (hr:Rn tN W v l)
  (g c:Nat) (hx:a.eval x=.slice (some ⟨g,0,none⟩) 1 c) (hg:W.heap[g]?=some (.cells #[.int .u8 d.k,.int .i64 d.b,.bool d.s] 121 (0,0))) (hl:l.length≤1000000000)
  (h:∀v' w',Rn tN w' v' (d :: l)→W.grownBy w' v.ownBlock→Nb W v v'→wpList Tryz.prog ops Q rest (a.put o.dst v') w'):wpList Tryz.prog ops Q (o :: rest) a W:=by
 obtain ⟨i0,hi,hz0,hz1,hz2⟩:=info_parts Tryz.info121
 refine wpList_append_own_at (P:=Tryz.prog) (w:=W) hgd s x 72 ho 0 121 i0 _ 3 24 Tryz.underlying72 hi hz0 hz1 hz2 rfl (by decide) v _ _ hs hr ⟨g,0,none⟩ 1 c (ncs [d]) hx (by rw [ncs_len];rfl) ?_ (ncs_one [d]) (by unfold maxLen;omega) (by omega) (Nat.zero_le _) ?_
 ·intro j u hu
  refine World.news_of_block hg j u ?_
  have e:ncs [d]=[.int .u8 d.k,.int .i64 d.b,.bool d.s]:=by simp [ncs,flat,Nd.cs]
  rw [e] at hu
  simpa using hu
 ·intro v' w' h1 h2 _ h4
  refine h v' w' ?_ h2 ?_
  ·unfold Rn
   rw [List.reverse_cons,ncs_app,List.length_cons]
   exact h1
  ·rcases h4 with h4|h4
   ·exact .inl h4
   ·exact .inr ⟨_,h4,Nat.le_refl _⟩
theorem SV.push {S:Nat→Prop}{W W1 w3:World}{g:Nat}{st:Sy}{vn vw v':Value}{d:Nd}(h:SV W g st vn vw) (hs:S g) (h1:∀k,vn.ownBlock=some k→S k) (h2:∀k,vw.ownBlock=some k→S k) (hb:Below W.heap.size W W1) (hg:W1.grownBy w3 vn.ownBlock) (hr:Rn tN w3 v' (d :: st.ns)) (hn:Nb W1 vn v') :
  (w3.cell? ⟨g,1,none⟩=some vn∧w3.frozen? ⟨g,1,none⟩=false)∧Mw S g W (w3.setCell ⟨g,1,none⟩ v') { st with ns:=d :: st.ns }:=by
 have k1:=h.below hb
 have hk:=(Kp.of_grown hg).sub (S:=fun k=>vn.ownBlock=some k) (fun k e=>e.symm)
 have hne:¬vn.ownBlock=some g:=row_ne k1.rn k1.sb (by decide)
 have h3:=k1.sb.kp hk hne
 have d3:=hk.row k1.rd (fun k e1 e2=>row_two k1.rd k1.rn (by decide) k e1 e2)
 refine ⟨⟨blk_cell h3 rfl,h3.frozen 1⟩,Mw.mk' (vn:=v') (vw:=vw) ⟨blk_set h3 1 _,(Kp.set _ _ _ _).row hr (fun k e1 e2=>row_ne hr h3 (by decide) (by rw [e1,e2])),(Kp.set _ _ _ _).row d3 (fun k e1 e2=>row_ne d3 h3 (by decide) (by rw [e1,e2]))⟩ hs (fun k e=>?_) (fun k e=>.inl (h2 k e)) (((Kp.of_below hb).step hk (fun k _ e=>h1 k e)).step (Kp.set _ _ _ _) (fun k _ e=>by rw [e];exact hs))⟩
 rcases hn with hn|⟨q,hq,hq2⟩
 ·exact .inl (h1 k (by rw [←hn];exact e))
 ·rw [hq] at e
  cases e
  exact .inr (Nat.le_trans hb.size hq2)
theorem SS.mark {S:Nat→Prop}{W:World}{g:Nat}{st:Sy}(h:SS S W g st) (n:Nat) :
  Mv S g W ((W.setCell ⟨g,3,none⟩ (.bool true)).setCell ⟨g,4,none⟩ (.int .i64 n)) { st with mr:=some n }:=by
 obtain ⟨vn,vw,hv,s1,s2⟩:=h.ex
 have hk:Kp (fun k=>k=g) W ((W.setCell ⟨g,3,none⟩ (.bool true)).setCell ⟨g,4,none⟩ (.int .i64 n)):=(Kp.set W g 3 _).trans (Kp.set _ g 4 _)
 exact Mv.mk' ⟨blk_set (blk_set hv.sb 3 _) 4 _,hk.row hv.rn (fun k e1 e2=>row_ne hv.rn hv.sb (by decide) (by rw [e1,e2])),hk.row hv.rd (fun k e1 e2=>row_ne hv.rd hv.sb (by decide) (by rw [e1,e2]))⟩ h.sg (fun k e=>.inl (s1 k e)) (fun k e=>.inl (s2 k e)) (hk.sub (fun k e=>by rw [e];exact h.sg)) hv.sb.cells.2.1
end Go.Proofs.YtpdlohfdjiaegaaGreatDoor
