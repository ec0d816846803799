import Derived.Test.YtkigadnkclkopaaGreatDoorM36
set_option linter.unusedVariables false
set_option linter.unusedSimpArgs false
namespace Go.Proofs.YtkigadnkclkopaaGreatDoor
open Go.RowKit
abbrev Sn (W:World) (ao:Option Addr) (c:List Nd):Prop:=(ao=none→c=[])∧∀a,ao=some a→c=[]∨∃b o,a=⟨b,o,none⟩∧HL W b o c
theorem Sn.below {W W':World}{ao:Option Addr}{c:List Nd}(h:Sn W ao c) (hb:Below W.heap.size W W'):Sn W' ao c:=
 ⟨h.1,fun a ha=>(h.2 a ha).imp id (fun ⟨b,o,e,hl⟩=>⟨b,o,e,HL.below hb c b o hl⟩)⟩
def SN (W:World) (v:Value) (c:List Nd):Prop:=∃ao cap,v=.slice ao c.length cap∧c.length≤cap∧cap≤maxLen∧Sn W ao c
theorem SN.below {W W':World}{v:Value}{c:List Nd}(h:SN W v c) (hb:Below W.heap.size W W'):SN W' v c:=by
 obtain ⟨ao,cap,h1,h2,h3,h4⟩:=h
 exact ⟨ao,cap,h1,h2,h3,h4.below hb⟩
def VL (W:World) (c:List Nd) (vs:List Value):Prop:=∀(j:Nat) (n:Nd),c[j]?=some n→∃x,vs[j]?=some x∧Nv W (ndv n.k n.d x) n
theorem VL.below {W W':World}{c:List Nd}{vs:List Value}(h:VL W c vs) (hb:Below W.heap.size W W'):VL W' c vs:=fun j n hj=>by
 obtain ⟨x,h1,h2⟩:=h j n hj
 exact ⟨x,h1,h2.below hb⟩
theorem VL.app {W:World}{c:List Nd}{vs:List Value}(h:VL W c vs) (hl:vs.length=c.length) {n:Nd}{x:Value}(hn:Nv W (ndv n.k n.d x) n):VL W (c++[n]) (vs++[x]):=by
 intro j m hj
 by_cases hlt:j<c.length
 ·rw [List.getElem?_append_left hlt] at hj
  obtain ⟨y,h1,h2⟩:=h j m hj
  exact ⟨y,by rw [List.getElem?_append_left (by omega)];exact h1,h2⟩
 ·rw [List.getElem?_append_right (by omega)] at hj
  have h0:=(List.getElem?_eq_some_iff.1 hj).1
  simp at h0
  rw [show j-c.length=0 by omega] at hj
  simp at hj
  subst hj
  exact ⟨x,by rw [List.getElem?_append_right (by omega),show j-vs.length=0 by omega];rfl,hn⟩
theorem nv_slot {W:World}{n:Nd}{k:Int}{d:Tv}{x:Value}(h:Nv W (ndv k d x) n):∃ao cap,x=.slice ao n.c.length cap∧n.c.length≤cap∧cap≤maxLen∧(ao=none→n.c=[])∧(∀a,ao=some a→n.c=[]∨∃b o,a=⟨b,o,none⟩∧HL W b o n.c):=by
 obtain ⟨ao,cp,q0,q1,q2,q3,q4⟩:=h
 refine ⟨ao,cp,?_,q1,q2,q3,q4⟩
 simp only [ndv,Value.agg.injEq] at q0
 have:=congrArg (fun a:Array Value=>a[7]?) q0
 simpa using this
theorem sn_of {W:World}{v:Value}{c:List Nd}{vs:List Value}(h1:RN W v c vs) (h3:VL W c vs):SN W v c:=by
 have hr:=h1.2.2
 rcases hr with ⟨e1,e2⟩|⟨b,cap,cur,e1,_,e3,e4,e5,_⟩
 ·have:c=[]:=List.eq_nil_of_length_eq_zero e2
  subst this
  exact ⟨none,0,e1,Nat.le_refl _,Nat.zero_le _,(fun _=>rfl),(fun a ha=>by cases ha)⟩
 ·refine ⟨some ⟨b,0,none⟩,cap,e1,e4,e5,(fun h=>by cases h),fun a ha=>?_⟩
  cases ha
  refine .inr ⟨b,0,rfl,hl_of (fun j m hj=>?_)⟩
  obtain ⟨y,hy,hm⟩:=h3 j m hj
  obtain ⟨ao,cp,rfl,q1,q2,q3,q4⟩:=nv_slot hm
  have hc:∀i u,(nc m (.slice ao m.c.length cp))[i]?=some u→W.cell? ⟨b,0+j*8+i,none⟩=some u:=fun i u hu=>by
   rw [Nat.zero_add]
   exact h1.cell e1 hj hy hu
  have hc0:=hc 0 _ rfl
  obtain ⟨mk',md,mc⟩:=m
  rw [HN]
  exact ⟨⟨hc0,hc 1 _ rfl,hc 2 _ rfl,hc 3 _ rfl,hc 4 _ rfl,hc 5 _ rfl,hc 6 _ rfl⟩,ao,cp,hc 7 _ rfl,q1,q2,q3,q4⟩
structure NR (W:World) (v:Value) (c:List Nd) (vs:List Value) (V:World):Prop where
 bel:Below W.heap.size W V
 rn:RN V v c vs
 vB:∀k,v.ownBlock=some k→W.heap.size≤k
 vl:VL W c vs
theorem NR.below {W V V':World}{v:Value}{c:List Nd}{vs:List Value}(h:NR W v c vs V) (hb:Below V.heap.size V V'):NR W v c vs V':=
 ⟨h.bel.trans (hb.mono h.bel.size),h.rn.kp (Kp.of_below (S:=fun _=>False) hb) (fun _ _ h=>h),h.vB,h.vl⟩
theorem NR.push {W V V1 w3:World}{v v' x:Value}{c:List Nd}{vs:List Value}{n:Nd}(h:NR W v c vs V) (hb:Below V.heap.size V V1) (hr:RN w3 v' (c++[n]) (vs++[x])) (hg:V1.grownBy w3 v.ownBlock) (hq:Nb V1 v v') (hn:Nv W (ndv n.k n.d x) n):NR W v' (c++[n]) (vs++[x]) w3:=by
 refine ⟨Kp.low (h.bel.trans (hb.mono h.bel.size)) (Kp.of_grown hg) (fun k e=>h.vB k e.symm) (Nat.le_trans h.bel.size hb.size),hr,?_,h.vl.app h.rn.1 hn⟩
 intro q e
 rcases hq with e1|⟨r,e1,hr1⟩
 ·exact h.vB q (by rw [←e1];exact e)
 ·rw [e1] at e
  simp at e
  have:=h.bel.size
  have:=hb.size
  omega
theorem NR.sn {W V:World}{v:Value}{c:List Nd}{vs:List Value}(h:NR W v c vs V):SN V v c:=sn_of h.rn (h.vl.below h.bel)
def pl (c:List Nd):List Nd:=c.filter (fun x=>!isN x)
theorem pl_take {c:List Nd}{j:Nat}{m:Nd}(h:c[j]?=some m):pl (c.take (j+1))=if isN m then pl (c.take j) else pl (c.take j)++[m]:=by
 unfold pl
 rw [List.take_add_one,h,List.filter_append]
 cases hm:isN m <;> simp [hm]
theorem pl_le (c:List Nd) (j:Nat):(pl (c.take j)).length≤c.length:=by
 unfold pl
 have h1:=List.length_filter_le (fun x=>!isN x) (c.take j)
 have h2:(c.take j).length≤c.length:=by rw [List.length_take];omega
 omega
theorem isN_kof (m:Nd):(kof m.d != 4)=!cm m.d:=by
 unfold kof
 cases cm m.d <;> rfl
set_option maxRecDepth 100000 in
set_option maxHeartbeats 1000000 in
theorem without_any (c:List Nd) (ao:Option Addr) (cap:Nat) (W:World) (h:Sn W ao c) (h1:c.length≤cap) (h2:cap≤maxLen) (hl:c.length≤1000000000):Calls Tryz.prog 41 #[.slice ao c.length cap] W fun r w'=>∃v,r=.returned v∧SN w' v (pl c)∧Below W.heap.size W w':=by
 have HQ:Hid (Sn W ao c):=h
 have hcl:(c.length:Int)≤1000000000:=by omega
 clear h
 go_enter Tryz.func41,Tryz.ntmps41
 go_wp2_with fail
 go_loopw [3,8] (fun lv iv wr=>∃(j:Nat) (vs:List Value),j≤c.length∧iv=.int .i64 j∧Hid (NR W lv (pl (c.take j)) vs wr)) (fun _ iv _=>c.length-(intOf iv).toNat)
 case atStart=>exact ⟨0,[],Nat.zero_le _,rfl,⟨Below.refl _ _,rn_nil _,(fun k e=>by cases e),fun j n hj=>by simp [pl] at hj⟩⟩
 case round=>
  obtain ⟨j,vs,hj,rfl,HJ⟩:=hrel
  obtain ⟨pv,cv,hv,_⟩:=HJ.out.rn.shape
  obtain ⟨nl,hnl⟩:∃nl,(pl (c.take j)).length=nl:=⟨_,rfl⟩
  rw [hnl] at hv
  subst hv
  by_cases hlt:j<c.length
  ·have z1:(j:Int)<c.length:=by omega
   have z2:(0:Int)≤j:=by omega
   obtain ⟨m,hm⟩:∃m,c[j]?=some m:=⟨_,List.getElem?_eq_getElem hlt⟩
   obtain ⟨b,o,rfl,hbl,ao2,cap2,⟨v0,v1,v2,v3,v4,v5,v6,v7⟩,hv⟩:=kid0 HQ.out HJ.out.bel hm
   have ht:=pl_take hm
   have hll:(pl (c.take j)).length≤1000000000:=by have:=pl_le c j;omega
   have HLL:=hid hll
   have HTk:Hid (∀V,Calls Tryz.prog 36 #[ndv m.k m.d (.slice ao2 m.c.length cap2)] V fun r w'=>r=.returned (.bool (m.k == 0))∧Below V.heap.size V w'):=fun V=>isTok_any m.k m.d ao2 m.c.length cap2 V
   have HKf:Hid (∀V,Calls Tryz.prog 37 #[.agg #[.int .u8 m.d.k,.string m.d.t,.int .i64 m.d.a,.int .i64 m.d.l,.int .i64 m.d.c,.int .i64 m.d.f]] V fun r w'=>r=.returned (.int .u8 (kof m.d))∧Below V.heap.size V w'):=fun V=>kindOf_any m.d V
   obtain ⟨W4,eW4⟩:∃W4,wr.alloc (NdB m.k m.d (.slice ao2 m.c.length cap2))=W4:=⟨_,rfl⟩
   have H4:Hid (Below wr.heap.size wr W4∧W4.heap[wr.heap.size]?=some (NdB m.k m.d (.slice ao2 m.c.length cap2))):=by rw [←eW4];exact ⟨below_new _ _,new_at _ _⟩
   have HV:=hid hv
   have hcmB:=isN_kof m
   have hisN:isN m=(m.k == 0 && cm m.d):=rfl
   clear hv hm hll hnl
   go_upto_region 5 with fail
   try rw [eW4]
   clear eW4 v0 v1 v2 v3 v4 v5 v6 v7
   obtain ⟨⟨i0,i1,i2,i3,i4,i5,i6,i7⟩,il⟩:=nd_cells H4.out.2
   go_cut [20] from 12 to 19 (fun t wx=>t=.bool (!isN m)∧Hid (Below wr.heap.size wr wx∧wx.heap[wr.heap.size]?=some (NdB m.k m.d (.slice ao2 m.c.length cap2))))
   case first=>
    cases hk0:(m.k == 0) with
    |false=>
     rw [hk0] at HTk
     rw [hk0] at hisN
     have HN:Hid (isN m=false):=by unfold Hid;rw [hisN];rfl
     clear hisN hk0
     go_wp2_with (go_at_call 36;refine (HTk.out _).mono ?_;rintro r w5 ⟨rfl,hb5⟩;have H5:Hid (Below wr.heap.size wr w5∧w5.heap[wr.heap.size]?=some (NdB m.k m.d (.slice ao2 m.c.length cap2))):=⟨H4.out.1.trans (hb5.mono H4.out.1.size),blk_below H4.out.2 hb5⟩;clear hb5)
     go_meet
     exact ⟨by rw [HN.out];rfl,H5⟩
    |true=>
     rw [hk0] at HTk
     rw [hk0] at hisN
     have HN:Hid ((kof m.d != 4)=!isN m):=by unfold Hid;rw [hisN,hcmB];rfl
     clear hisN hk0 hcmB
     go_wp2_with (first|(go_at_call 36;refine (HTk.out _).mono ?_;rintro r w5 ⟨rfl,hb5⟩;have H5:Hid (Below wr.heap.size wr w5∧w5.heap[wr.heap.size]?=some (NdB m.k m.d (.slice ao2 m.c.length cap2))):=⟨H4.out.1.trans (hb5.mono H4.out.1.size),blk_below H4.out.2 hb5⟩;clear hb5;obtain ⟨⟨j0,j1,j2,j3,j4,j5,j6,j7⟩,jl⟩:=nd_cells H5.out.2)|(go_at_call 37;refine (HKf.out _).mono ?_;rintro r w6 ⟨rfl,hb6⟩;have H6:Hid (Below wr.heap.size wr w6∧w6.heap[wr.heap.size]?=some (NdB m.k m.d (.slice ao2 m.c.length cap2))):=⟨H5.out.1.trans (hb6.mono H5.out.1.size),blk_below H5.out.2 hb6⟩;clear hb6))
     go_meet
     exact ⟨by rw [←HN.out],H6⟩
   case rest=>
    obtain ⟨rfl,H5⟩:=hcut
    obtain ⟨⟨j0,j1,j2,j3,j4,j5,j6,j7⟩,jl⟩:=nd_cells H5.out.2
    have H7:Hid (NR W (.slice pv nl cv) (pl (c.take j)) vs wc):=HJ.out.below H5.out.1
    cases hn:isN m with
    |true=>
     rw [hn] at ht
     simp only [if_true] at ht
     have HT:Hid (pl (c.take (j+1))=pl (c.take j)):=ht
     clear ht hn hisN
     go_wp2_with fail
     exact ⟨⟨j+1,vs,hlt,by go_num,by rw [HT.out];exact H7⟩,by simp [intOf];omega⟩
    |false=>
     rw [hn] at ht
     simp only [Bool.false_eq_true,if_false] at ht
     have HT:Hid (pl (c.take (j+1))=pl (c.take j)++[m]):=ht
     clear ht hn hisN
     go_wp2_with (at_builtin;refine app_nd (by rfl) _ _ (by rfl) (.slice pv nl cv) (pl (c.take j)) vs m ao2 m.c.length cap2 (by rfl) (H7.out.below (below_new _ _)).rn wc.heap.size 1 (by rfl) (new_at _ _) HLL.out ?_;intro v8 w8 h1 h2 h3;obtain ⟨p8,c8,hv8,_⟩:=h1.shape;obtain ⟨l8,hl8⟩:∃l8,(pl (c.take j)++[m]).length=l8:=⟨_,rfl⟩;rw [hl8] at hv8;subst hv8;have H8:Hid (NR W (.slice p8 l8 c8) (pl (c.take j)++[m]) (vs++[.slice ao2 m.c.length cap2]) w8):=H7.out.push (below_new _ _) h1 h2 h3 HV.out;clear h1 h2 h3 hl8)
     exact ⟨⟨j+1,_,hlt,by go_num,by rw [HT.out];exact H8⟩,by simp [intOf];omega⟩
  ·obtain rfl:j=c.length:=by omega
   have z1:¬((c.length:Int)<c.length):=by omega
   rw [List.take_length] at HJ
   clear hnl
   go_wp2_with fail
   go_ret
   exact ⟨_,rfl,HJ.out.sn,HJ.out.bel⟩
def eqF:List Nd→List Nd→Bool
 |[],[]=>true
 |x :: r,y :: m=>same x y && eqF r m
 |_,_=>false
theorem sameL_eqF:∀(c m:List Nd),sameL c m=eqF (pl c) m
 |[],m=>by cases m <;> simp [sameL,pl,eqF]
 |x :: r,m=>by
  simp only [sameL]
  cases hx:isN x with
  |true=>
   simp only [if_true]
   rw [sameL_eqF r m]
   have:pl (x :: r)=pl r:=by unfold pl;rw [List.filter_cons_of_neg (by simp [hx])]
   rw [this]
  |false=>
   simp only [Bool.false_eq_true,if_false]
   have:pl (x :: r)=x :: pl r:=by unfold pl;rw [List.filter_cons_of_pos (by simp [hx])]
   rw [this]
   cases m with
   |nil=>simp [eqF]
   |cons y m'=>simp only [eqF];rw [sameL_eqF r m']
theorem same_mk (k:Int) (d:Tv) (c:List Nd) (n:Nd):same (.mk k d c) n=if k=n.k then (if k=0 then (d.k == n.d.k && decide (d.t=n.d.t)) else eqF (pl c) (pl n.c)) else false:=by
 rw [same]
 rw [sameL_eqF]
 rfl
theorem eqF_len:∀{a b:List Nd},a.length≠b.length→eqF a b=false
 |[],[],h=>absurd rfl h
 |[],y :: m,_=>rfl
 |x :: r,[],_=>rfl
 |x :: r,y :: m,h=>by
  simp only [eqF]
  rw [eqF_len (a:=r) (b:=m) (by simpa using h),Bool.and_false]
theorem eqF_step {a b:List Nd}{j:Nat}{x y:Nd}(hx:a[j]?=some x) (hy:b[j]?=some y):eqF (a.drop j) (b.drop j)=(same x y && eqF (a.drop (j+1)) (b.drop (j+1))):=by
 obtain ⟨a1,a2⟩:=List.getElem?_eq_some_iff.1 hx
 obtain ⟨b1,b2⟩:=List.getElem?_eq_some_iff.1 hy
 rw [List.drop_eq_getElem_cons a1,List.drop_eq_getElem_cons b1,a2,b2]
 rfl
abbrev sameF (p:Nat):Value:=.func (.func 39) #[] #[.pointer (some ⟨p,0,none⟩)]
def SmC (a b:Nd):Prop:=∀va vb W p,Nv W va a→Nv W vb b→W.heap[p]?=some (.cells #[sameF p] 56 (0,0))→Calls Tryz.prog 39 #[va,vb,.pointer (some ⟨p,0,none⟩)] W fun r w'=>r=.returned (.bool (same a b))∧Below W.heap.size W w'
set_option maxRecDepth 100000 in
set_option maxHeartbeats 1000000 in
theorem equal_any (a b:List Nd) (ao bo:Option Addr) (ca cb p:Nat) (W:World) (ha:Sn W ao a) (hb:Sn W bo b) (h1:a.length≤ca) (h2:ca≤maxLen) (h3:b.length≤cb) (h4:cb≤maxLen) (hp:W.heap[p]?=some (.cells #[sameF p] 56 (0,0))) (IH:∀x y,x∈a→y∈b→SmC x y) :
  Calls Tryz.prog 40 #[.slice ao a.length ca,.slice bo b.length cb,sameF p] W fun r w'=>r=.returned (.bool (eqF a b))∧Below W.heap.size W w':=by
 have HA:Hid (Sn W ao a):=ha
 have HB:Hid (Sn W bo b):=hb
 have HP:=hid hp
 have HIH:=hid IH
 have hal:(a.length:Int)≤9223372036854775807:=by have:maxLen=9223372036854775807:=rfl;omega
 clear ha hb hp IH
 by_cases hl:a.length=b.length
 ·have hl1:((a.length:Int) == (b.length:Int))=true:=by simp [hl]
  have hl2:((a.length:Int) != (b.length:Int))=false:=by simp [hl]
  obtain ⟨R,hR⟩:∃R,eqF a b=R:=⟨_,rfl⟩
  rw [hR]
  have HR:Hid (eqF (a.drop 0) (b.drop 0)=R):=by unfold Hid;simpa using hR
  have HL:Hid (a.length=b.length):=hl
  have hlI:(a.length:Int)=(b.length:Int):=by omega
  clear hR hl
  go_enter Tryz.func40,Tryz.ntmps40
  go_wp2_with fail
  go_loopw [17] (fun iv wr=>∃j:Nat,j≤a.length∧iv=.int .i64 j∧Hid (eqF (a.drop j) (b.drop j)=R∧Below W.heap.size W wr)) (fun iv _=>a.length-(intOf iv).toNat)
  case atStart=>exact ⟨0,Nat.zero_le _,rfl,HR.out,Below.refl _ _⟩
  case round=>
   obtain ⟨j,hj,rfl,HJ⟩:=hrel
   by_cases hlt:j<a.length
   ·have z1:(j:Int)<a.length:=by omega
    have z1b:(j:Int)<b.length:=by omega
    have z2:(0:Int)≤j:=by omega
    obtain ⟨x,hx⟩:∃x,a[j]?=some x:=⟨_,List.getElem?_eq_getElem hlt⟩
    obtain ⟨y,hy⟩:∃y,b[j]?=some y:=⟨_,List.getElem?_eq_getElem (by have:=HL.out;omega)⟩
    obtain ⟨b1,o1,rfl,hbl,ao2,cap2,⟨v0,v1,v2,v3,v4,v5,v6,v7⟩,hv⟩:=Nv.kid HA.out HJ.out.2 hx
    obtain ⟨b2,o2,rfl,hbl2,ao3,cap3,⟨u0,u1,u2,u3,u4,u5,u6,u7⟩,hu⟩:=Nv.kid HB.out HJ.out.2 hy
    have hst:=eqF_step hx hy
    rw [HJ.out.1] at hst
    have HST:=hid hst
    have HC:Hid (∀V,Below wr.heap.size wr V→Calls Tryz.prog 39 #[ndv x.k x.d (.slice ao2 x.c.length cap2),ndv y.k y.d (.slice ao3 y.c.length cap3),.pointer (some ⟨p,0,none⟩)] V fun r w'=>r=.returned (.bool (same x y))∧Below V.heap.size V w'):=fun V hb=>HIH.out x y (List.mem_of_getElem? hx) (List.mem_of_getElem? hy) _ _ V p (hv.below hb) (hu.below hb) (blk_below (blk_below HP.out HJ.out.2) hb)
    have b4:=below_new wr (NdB x.k x.d (.slice ao2 x.c.length cap2))
    have b5:=below_new (wr.alloc (NdB x.k x.d (.slice ao2 x.c.length cap2))) (NdB y.k y.d (.slice ao3 y.c.length cap3))
    have H5:Hid (Below wr.heap.size wr ((wr.alloc (NdB x.k x.d (.slice ao2 x.c.length cap2))).alloc (NdB y.k y.d (.slice ao3 y.c.length cap3)))):=b4.trans (b5.mono b4.size)
    clear hv hu hst hx hy b4 b5
    go_wp2_with fail
    refine (HC.out _ H5.out).mono ?_
    rintro r w6 ⟨rfl,hb6⟩
    have H6:Hid (Below W.heap.size W w6):=HJ.out.2.trans ((H5.out.trans (hb6.mono H5.out.size)).mono HJ.out.2.size)
    clear hb6
    cases hs:same x y with
    |true=>
     rw [hs] at HST
     go_wp2_with fail
     exact ⟨⟨j+1,hlt,by go_num,by have:=HST.out;simpa using this.symm,H6.out⟩,by simp [intOf];omega⟩
    |false=>
     rw [hs] at HST
     go_wp2_with fail
     go_ret
     exact ⟨by rw [HST.out];rfl,H6.out⟩
   ·obtain rfl:j=a.length:=by omega
    have z1:¬((a.length:Int)<a.length):=by omega
    have HE:Hid (R=true∧Below W.heap.size W wr):=⟨by rw [←HJ.out.1];rw [List.drop_length,HL.out,List.drop_length];rfl,HJ.out.2⟩
    go_wp2_with fail
    go_ret
    exact ⟨by rw [HE.out.1];rfl,HE.out.2⟩
 ·have hlI:¬(a.length:Int)=(b.length:Int):=by omega
  have hl1:((a.length:Int) == (b.length:Int))=false:=by simpa using hlI
  have hl2:((a.length:Int) != (b.length:Int))=true:=by simpa using hlI
  rw [eqF_len hl]
  go_enter Tryz.func40,Tryz.ntmps40
  go_wp2_with fail
  go_ret
  exact ⟨rfl,Below.refl _ _⟩
theorem tl_inj {a b:ByteArray}(h:a.toList=b.toList):a=b:=by
 rw [ByteArray.toList_eq,ByteArray.toList_eq] at h
 have:=Array.toList_inj.1 h
 cases a;cases b;simp_all
theorem tl_eq (a b:ByteArray):(a.toList == b.toList)=decide (a=b):=by
 by_cases e:a=b
 ·subst e;simp
 ·have:¬a.toList=b.toList:=fun h=>e (tl_inj h)
  simp [e,this]
theorem big_c {n:Nd}(h:nsz n≤100000000):n.c.length≤100000000:=by
 obtain ⟨k,d,c⟩:=n
 have:∀c:List Nd,c.length≤nszL c:=by
  intro c
  induction c with
  |nil=>simp
  |cons x r ih=>
   have:0<nsz x:=by obtain ⟨a,b,e⟩:=x;simp [nsz]
   simp only [nszL,List.length_cons]
   omega
 have:=this c
 simp only [nsz] at h
 show c.length≤_
 omega
theorem mem_pl {c:List Nd}{x:Nd}(h:x∈pl c):x∈c:=(List.mem_filter.1 h).1
set_option maxRecDepth 100000 in
set_option maxHeartbeats 1000000 in
theorem sm_step (a b:Nd) (hba:nsz a≤100000000) (hbb:nsz b≤100000000) (IH:∀x y,x∈a.c→y∈b.c→SmC x y):SmC a b:=by
 intro va vb W p ha hb hp
 obtain ⟨ao,ca,rfl,q1,q2,q3,q4⟩:=ha
 obtain ⟨bo,cb,rfl,q1',q2',q3',q4'⟩:=hb
 have hla:=big_c hba
 have hlb:=big_c hbb
 obtain ⟨k,d,c⟩:=a
 obtain ⟨k2,d2,c2⟩:=b
 dsimp only [Nd.k,Nd.d,Nd.c] at *
 rw [same_mk]
 dsimp only [Nd.k,Nd.d,Nd.c]
 have b4:=below_new W (NdB k d (.slice ao c.length ca))
 have b5:=below_new (W.alloc (NdB k d (.slice ao c.length ca))) (NdB k2 d2 (.slice bo c2.length cb))
 obtain ⟨W2,eW2⟩:∃W2,(W.alloc (NdB k d (.slice ao c.length ca))).alloc (NdB k2 d2 (.slice bo c2.length cb))=W2:=⟨_,rfl⟩
 have H2:Hid (Below W.heap.size W W2∧W2.heap[W.heap.size]?=some (NdB k d (.slice ao c.length ca))∧W2.heap[W.heap.size+1]?=some (NdB k2 d2 (.slice bo c2.length cb))):=by
  rw [←eW2]
  exact ⟨b4.trans (b5.mono b4.size),alloc_at' (new_at _ _) _,by rw [←size_al W (NdB k d (.slice ao c.length ca))];exact new_at _ _⟩
 obtain ⟨⟨i0,i1,i2,i3,i4,i5,i6,i7⟩,il⟩:=nd_cells H2.out.2.1
 obtain ⟨⟨j0,j1,j2,j3,j4,j5,j6,j7⟩,jl⟩:=nd_cells H2.out.2.2
 have HQ:Hid (Sn W ao c∧Sn W bo c2∧W.heap[p]?=some (.cells #[sameF p] 56 (0,0))):=⟨⟨q3,q4⟩,⟨q3',q4'⟩,hp⟩
 clear q3 q4 q3' q4' b4 b5 hp
 by_cases hk:k=k2
 ·subst hk
  have hkb:(k != k)=false:=by simp
  simp only [if_true]
  by_cases h0:k=0
  ·subst h0
   simp only [if_true]
   have HTk:Hid (∀V,Calls Tryz.prog 36 #[ndv 0 d (.slice ao c.length ca)] V fun r w'=>r=.returned (.bool true)∧Below V.heap.size V w'):=fun V=>isTok_any 0 d ao c.length ca V
   obtain ⟨b7,e7⟩:∃b,(d.k == d2.k)=b:=⟨_,rfl⟩
   clear IH
   cases b7 with
   |true=>
    rw [e7]
    go_enter Tryz.func39,Tryz.ntmps39
    go_wp2_with fail
    try rw [eW2]
    refine (HTk.out _).mono ?_
    rintro r w3 ⟨rfl,hb3⟩
    obtain ⟨⟨l0,l1,l2,l3,l4,l5,l6,l7⟩,ll⟩:=nd_cells (blk_below H2.out.2.1 hb3)
    obtain ⟨⟨m0,m1,m2,m3,m4,m5,m6,m7⟩,ml⟩:=nd_cells (blk_below H2.out.2.2 hb3)
    have H3:Hid (Below W.heap.size W w3):=H2.out.1.trans (hb3.mono H2.out.1.size)
    clear hb3
    go_wp2_with fail
    go_ret
    exact ⟨by first|rfl|(simp only [Bool.true_and,Bool.false_and,tl_eq];first|done|rfl|congr)|simp [tl_eq],H3.out⟩
   |false=>
    rw [e7]
    go_enter Tryz.func39,Tryz.ntmps39
    go_wp2_with fail
    try rw [eW2]
    refine (HTk.out _).mono ?_
    rintro r w3 ⟨rfl,hb3⟩
    obtain ⟨⟨l0,l1,l2,l3,l4,l5,l6,l7⟩,ll⟩:=nd_cells (blk_below H2.out.2.1 hb3)
    obtain ⟨⟨m0,m1,m2,m3,m4,m5,m6,m7⟩,ml⟩:=nd_cells (blk_below H2.out.2.2 hb3)
    have H3:Hid (Below W.heap.size W w3):=H2.out.1.trans (hb3.mono H2.out.1.size)
    clear hb3
    go_wp2_with fail
    go_ret
    exact ⟨by first|rfl|(simp only [Bool.true_and,Bool.false_and,tl_eq];first|done|rfl|congr)|simp [tl_eq],H3.out⟩
  ·simp only [h0,if_false]
   have h0b:(k == 0)=false:=by simpa using h0
   have HTk:Hid (∀V,Calls Tryz.prog 36 #[ndv k d (.slice ao c.length ca)] V fun r w'=>r=.returned (.bool false)∧Below V.heap.size V w'):=fun V=>by have:=isTok_any k d ao c.length ca V;rw [h0b] at this;exact this
   obtain ⟨R,hR⟩:∃R,eqF (pl c) (pl c2)=R:=⟨_,rfl⟩
   have HIH:=hid IH
   have HW:Hid (∀V ao' cap' c',Below W.heap.size W V→(ao'=ao∧cap'=ca∧c'=c∨ao'=bo∧cap'=cb∧c'=c2)→Calls Tryz.prog 41 #[.slice ao' c'.length cap'] V fun r w'=>∃ao2 cap2,r=.returned (.slice ao2 (pl c').length cap2)∧(SN w' (.slice ao2 (pl c').length cap2) (pl c'))∧Below V.heap.size V w'):=fun V ao' cap' c' hb hc=>by
    rcases hc with ⟨rfl,rfl,rfl⟩|⟨rfl,rfl,rfl⟩
    ·refine (without_any _ _ _ V (HQ.out.1.below hb) q1 q2 (by omega)).mono ?_
     rintro r w' ⟨v,rfl,hs,hb'⟩
     obtain ⟨a2,c2,e,h⟩:=hs
     exact ⟨a2,c2,by rw [e],⟨a2,c2,rfl,h⟩,hb'⟩
    ·refine (without_any _ _ _ V (HQ.out.2.1.below hb) q1' q2' (by omega)).mono ?_
     rintro r w' ⟨v,rfl,hs,hb'⟩
     obtain ⟨a2,c2,e,h⟩:=hs
     exact ⟨a2,c2,by rw [e],⟨a2,c2,rfl,h⟩,hb'⟩
   have HE:Hid (∀V a1 c1 a2 c3,Below W.heap.size W V→SN V (.slice a1 (pl c).length c1) (pl c)→SN V (.slice a2 (pl c2).length c3) (pl c2)→Calls Tryz.prog 40 #[.slice a1 (pl c).length c1,.slice a2 (pl c2).length c3,sameF p] V fun r w'=>r=.returned (.bool R)∧Below V.heap.size V w'):=fun V a1 c1 a2 c3 hb h1 h2=>by
    obtain ⟨_,_,e1,r1,r2,r3⟩:=h1
    obtain ⟨_,_,e2,s1,s2,s3⟩:=h2
    simp only [Value.slice.injEq,true_and] at e1 e2
    obtain ⟨rfl,rfl⟩:=e1
    obtain ⟨rfl,rfl⟩:=e2
    have:=equal_any (pl c) (pl c2) a1 a2 c1 c3 p V r3 s3 r1 r2 s1 s2 (blk_below HQ.out.2.2 hb) (fun x y hx hy=>HIH.out x y (mem_pl hx) (mem_pl hy))
    rw [hR] at this
    exact this
   rw [hR]
   clear IH hR
   have HK:Hid (∀V,Below W2.heap.size W2 V→V.cell? ⟨W.heap.size,7,none⟩=some (.slice ao c.length ca)∧V.cell? ⟨W.heap.size+1,7,none⟩=some (.slice bo c2.length cb)∧V.cell? ⟨p,0,none⟩=some (sameF p)∧Below W2.heap.size W2 V):=fun V hb=>⟨(nd_cells (blk_below H2.out.2.1 hb)).1.2.2.2.2.2.2.2,(nd_cells (blk_below H2.out.2.2 hb)).1.2.2.2.2.2.2.2,blk_cell (blk_below (blk_below HQ.out.2.2 H2.out.1) hb) rfl,hb⟩
   have hpl:p<W2.heap.size:=Nat.lt_of_lt_of_le (blk_lt HQ.out.2.2) H2.out.1.size
   go_enter Tryz.func39,Tryz.ntmps39
   go_wp2_with fail
   try rw [eW2]
   clear eW2
   refine (HTk.out _).mono ?_
   rintro r w3 ⟨rfl,hb3⟩
   have H3:Hid (Below W2.heap.size W2 w3):=hb3
   have HKK:Hid (∀V,Below w3.heap.size w3 V→V.cell? ⟨W.heap.size,7,none⟩=some (.slice ao c.length ca)∧V.cell? ⟨W.heap.size+1,7,none⟩=some (.slice bo c2.length cb)∧V.cell? ⟨p,0,none⟩=some (sameF p)∧Below w3.heap.size w3 V):=fun V hb=>by
    obtain ⟨a1,a2,a3,_⟩:=HK.out V (H3.out.trans (hb.mono H3.out.size))
    exact ⟨a1,a2,a3,hb⟩
   have H3W:Hid (∀V,Below w3.heap.size w3 V→Below W.heap.size W V):=fun V hb=>H2.out.1.trans ((H3.out.trans (hb.mono H3.out.size)).mono H2.out.1.size)
   obtain ⟨l1,l2,l3,_⟩:=HKK.out w3 (Below.refl _ _)
   have wl:W.heap.size+1<w3.heap.size:=World.block_lt_of_cell? _ _ l2
   have wp:p<w3.heap.size:=World.block_lt_of_cell? _ _ l3
   clear hb3 i0 i1 i2 i3 i4 i5 i6 i7 j0 j1 j2 j3 j4 j5 j6 j7 il jl
   go_wp2_with fail
   go_region_held3 (fun w'=>w'.cell? ⟨W.heap.size,7,none⟩=some (.slice ao c.length ca)∧w'.cell? ⟨W.heap.size+1,7,none⟩=some (.slice bo c2.length cb)∧w'.cell? ⟨p,0,none⟩=some (sameF p)∧Below w3.heap.size w3 w') (first|(exact HKK.out _ (by assumption))|(exact HKK.out _ (Below.refl _ _))|(exact HKK.out _ (Below.refl _ _).drew)|go_keep) (first|(have hgd:=hs1;clear hgd;go_at_call 41;refine (HW.out _ _ _ _ (H3W.out _ hB1) (by first|exact .inl ⟨rfl,rfl,rfl⟩|exact .inr ⟨rfl,rfl,rfl⟩)).mono ?_;rintro r w5 ⟨a5,c5,rfl,hs2,hb5⟩;have hB2:Below w3.heap.size w3 w5:=hB1.trans (hb5.mono hB1.size);replace hs1:=hs1.below hb5)|(go_at_call 41;refine (HW.out _ _ _ _ (H3W.out _ (Below.refl _ _).drew) (by first|exact .inl ⟨rfl,rfl,rfl⟩|exact .inr ⟨rfl,rfl,rfl⟩)).mono ?_;rintro r w4 ⟨a4,c4,rfl,hs1,hb4⟩;have hB1:Below w3.heap.size w3 w4:=(Below.refl w3.heap.size w3).drew.trans (hb4.mono (Nat.le_refl _)))|(go_at_call 40;refine (HE.out _ _ _ _ _ (H3W.out _ hB2) (by assumption) (by assumption)).mono ?_;rintro r w6 ⟨rfl,hb6⟩;have hB3:Below w3.heap.size w3 w6:=hB2.trans (hb6.mono hB2.size)))
   all_goals (
    go_wp2_with fail
    go_ret
    exact ⟨rfl,H3W.out _ hB3⟩)
 ·have hkb:(k != k2)=true:=by simpa using hk
  simp only [hk,if_false]
  clear IH
  go_enter Tryz.func39,Tryz.ntmps39
  go_wp2_with fail
  try rw [eW2]
  go_ret
  exact ⟨rfl,H2.out.1⟩
theorem sm_any (a b:Nd) (ha:nsz a≤100000000) (hb:nsz b≤100000000):SmC a b:=by
 obtain ⟨s,hs⟩:∃s,nsz a=s:=⟨_,rfl⟩
 induction s using Nat.strongRecOn generalizing a b with
 |ind s ih=>exact sm_step a b ha hb (fun x y hx hy=>ih (nsz x) (by rw [←hs];exact nsz_kid hx) x y (by have:=nsz_kid hx;omega) (by have:=nsz_kid hy;omega) rfl)
theorem same_start (W:World) (o o2:Obj):(((W.alloc o).alloc o2).alloc (.cells #[sameF (W.heap.size+1+1)] 56)).heap[W.heap.size+1+1]?=some (.cells #[sameF (W.heap.size+1+1)] 56 (0,0)):=by
 rw [←size_al W o,←size_al (W.alloc o) o2]
 exact new_at _ _
theorem below3 (W:World) (o o2 o3:Obj):Below W.heap.size W (((W.alloc o).alloc o2).alloc o3):=by
 have b1:=below_new W o
 have b2:=below_new (W.alloc o) o2
 have b3:=below_new ((W.alloc o).alloc o2) o3
 exact (b1.trans (b2.mono b1.size)).trans (b3.mono (by rw [size_al,size_al];omega))
set_option maxRecDepth 100000 in
theorem same_any (a b:Nd) (va vb:Value) (W:World) (ha:Nv W va a) (hb:Nv W vb b) (hsa:nsz a≤100000000) (hsb:nsz b≤100000000):Calls Tryz.prog 16 #[va,vb] W fun r w'=>r=.returned (.bool (same a b))∧Below W.heap.size W w':=by
 have hmf:∀(fn:Fn) (first cap:Array Value) (w:World),(Instr.makeFunc fn first cap).run Tryz.prog w=.ok (.func fn first cap) w:=fun _ _ _ _=>rfl
 have HL:Hid (∀V,Below W.heap.size W V→V.heap[W.heap.size+1+1]?=some (.cells #[sameF (W.heap.size+1+1)] 56 (0,0))→Calls Tryz.prog 39 #[va,vb,.pointer (some ⟨W.heap.size+1+1,0,none⟩)] V fun r w'=>r=.returned (.bool (same a b))∧Below W.heap.size W w'):=fun V hV hp=>by
  refine (sm_any a b hsa hsb va vb V _ (ha.below hV) (hb.below hV) hp).mono ?_
  rintro r w' ⟨rfl,h1⟩
  exact ⟨rfl,hV.trans (h1.mono hV.size)⟩
 obtain ⟨ao,cap,rfl,_⟩:=ha
 obtain ⟨bo,cap',rfl,_⟩:=hb
 go_enter Tryz.func16,Tryz.ntmps16
 go_wp2_with fail
 refine (HL.out _ (below3 _ _ _ _) (same_start _ _ _)).mono ?_
 rintro r w1 ⟨rfl,h1⟩
 have H1:=hid h1
 clear h1 HL
 go_wp2_with fail
 go_ret
 exact ⟨rfl,H1.out⟩
end Go.Proofs.YtkigadnkclkopaaGreatDoor
