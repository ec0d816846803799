import Derived.Test.YtpdlohfdjiaegaaGreatDoorM15
import Derived.Test.YtpdlohfdjiaegaaGreatDoorM36
set_option linter.unusedVariables false
set_option linter.unusedSimpArgs false
namespace Go.Proofs.YtpdlohfdjiaegaaGreatDoor
open Go.RowKit
open Lw (Dc bE rt frm dep rtT rtN dcs dcs_len dcs_one)
section
variable {w0:World} {g h:Nat} {va vo vt:Value} {D:List Dc} {ks:List Int} {T:List ByteArray} {s:Sy} {S:Nat→Prop} {W:World}
set_option maxHeartbeats 2000000 in
theorem puts_no (H:HI w0 g h va vo vt D ks T (.live s) S W) (hz:Sbd (.live s)) (e:Ev) (ht:e.d.t.size≤9223372036854775807) (hs:sput s e=none) :
  Calls Tryz.prog 13 #[spg h,spg g,.agg #[.int .u8 e.k,.int .u8 e.n,.int .u8 e.d.k,.string e.d.t,.int .i64 e.d.a,.int .i64 e.d.l,.int .i64 e.d.c,.int .i64 e.d.f]] W fun r w'=>r=.returned (.bool true)∧∃S',HI w0 g h va vo vt D ks T (.live s) S' w':=by
 have hpp:pput e (.live s)=(130,[],.live s):=by show (match sput s e with|none=>_|some (s',l)=>_)=_;rw [hs]
 have HP:Hid (∀V,Below W.heap.size W V→Calls Tryz.prog 21 #[spg g,.agg #[.int .u8 e.k,.int .u8 e.n,.int .u8 e.d.k,.string e.d.t,.int .i64 e.d.a,.int .i64 e.d.l,.int .i64 e.d.c,.int .i64 e.d.f]] V fun rr w'=>∃v,rr=.returned (.tuple #[v,.int .i64 130])∧(∃S',HI w0 g h va vo vt D ks T (.live s) S' w')∧Rd w' v []):=fun V hb=>by
  have:=sput_any (H.below hb).sq hz e ht
  rw [hpp] at this
  exact this.mono (fun r w' ⟨v,e1,e2⟩=>⟨v,e1,(H.below hb).call e2⟩)
 clear H hz ht hs hpp
 go_enter Tryz.func13,Tryz.ntmps13
 go_wp2_with fail
 refine (HP.out _ ((Below.refl _ _).alloc (Nat.le_refl _) _)).mono ?_
 rintro r w6 ⟨x,rfl,h6,hx⟩
 have H6:Hid (∃S',HI w0 g h va vo vt D ks T (.live s) S' w6):=h6
 obtain ⟨px,cx,hxs,_⟩:=rd_shape hx
 subst hxs
 rw [List.length_nil]
 clear h6 hx HP
 go_wp2_with fail
 go_ret
 exact ⟨rfl,H6.out⟩
set_option maxHeartbeats 4000000 in
theorem puts_yes (H:HI w0 g h va vo vt D ks T (.live s) S W) (hz:Sbd (.live s)) (e:Ev) (ht:e.d.t.size≤9223372036854775807) {s':Sy}{ds:List Dc}(hs:sput s e=some (s',ds)) (hks:s.ks=ks) (hD:D.length+ds.length≤1000000000) (hK:ks.length≤1000000000) (hT:T.length≤1000000000) :
  Calls Tryz.prog 13 #[spg h,spg g,.agg #[.int .u8 e.k,.int .u8 e.n,.int .u8 e.d.k,.string e.d.t,.int .i64 e.d.a,.int .i64 e.d.l,.int .i64 e.d.c,.int .i64 e.d.f]] W fun r w'=>r=.returned (.bool true)∧∃va' vo' vt' S',HI w0 g h va' vo' vt' (D++ds) (evK e ks) (T++evT e) (.live s') S' w':=by
 have hpp:pput e (.live s)=(0,ds,.live s'):=by show (match sput s e with|none=>_|some (s',l)=>_)=_;rw [hs]
 obtain ⟨pa,ca,rfl,_⟩:=rd_shape H.ra
 obtain ⟨R,hR⟩:∃R,ks.reverse=R:=⟨_,rfl⟩
 have hRl:R.length=ks.length:=by rw [←hR,List.length_reverse]
 have hro:=H.ro
 rw [hR] at hro
 obtain ⟨po,co,rfl,_⟩:=row_shape hro
 obtain ⟨pt,ct,rfl,_⟩:=row_shape H.rt
 clear hro
 obtain ⟨vo,hvo⟩:∃v,Value.slice po R.length co=v:=⟨_,rfl⟩
 obtain ⟨vt,hvt⟩:∃v,Value.slice pt T.length ct=v:=⟨_,rfl⟩
 rw [hvo,hvt] at H
 have hne:∀V,Eb V W.heap.size e→HB V h (.slice pa D.length ca) vo vt→W.heap.size≠h:=fun V h1 h2 e1=>by unfold Eb at h1;unfold HB at h2;rw [e1,h2] at h1;injection h1 with h1;injection h1 with _ h1 _;exact absurd h1 (by decide)
 have HP:Hid (∀V,Below W.heap.size W V→Eb V W.heap.size e→Calls Tryz.prog 21 #[spg g,.agg #[.int .u8 e.k,.int .u8 e.n,.int .u8 e.d.k,.string e.d.t,.int .i64 e.d.a,.int .i64 e.d.l,.int .i64 e.d.c,.int .i64 e.d.f]] V fun rr w'=>∃v,rr=.returned (.tuple #[v,.int .i64 0])∧(∃S',HI w0 g h (.slice pa D.length ca) vo vt D ks T (.live s') S' w')∧Rd w' v ds∧Eb w' W.heap.size e):=fun V hb hE=>by
  have h1:=sput_any (H.below hb).sq hz e ht
  rw [hpp] at h1
  refine h1.mono (fun r w' ⟨v,e1,e2⟩=>⟨v,e1,((H.below hb).call e2).1,((H.below hb).call e2).2,?_⟩)
  exact e2.2.2.blk hE (fun hs=>by have:=H.sq.lt _ hs;omega)
 have HA:Hid (∀w6 w7 v',(∃S',HI w0 g h (.slice pa D.length ca) vo vt D ks T (.live s') S' w6)→Eb w6 W.heap.size e→Kp (fun k=>(Value.slice pa D.length ca).ownBlock=some k) w6 w7→Rd w7 v' (D++ds)→Nb w6 (.slice pa D.length ca) v'→(w7.cell? ⟨h,0,none⟩=some (.slice pa D.length ca)∧w7.frozen? ⟨h,0,none⟩=false)∧(∃S',HI w0 g h v' vo vt (D++ds) ks T (.live s') S' (w7.setCell ⟨h,0,none⟩ v'))∧Eb (w7.setCell ⟨h,0,none⟩ v') W.heap.size e):=fun w6 w7 v' ⟨S',h6⟩ hE hk hr hn=>by
  obtain ⟨a1,a2⟩:=h6.all hk hr hn
  refine ⟨a1,⟨S',a2⟩,blk_other (hk.blk hE (row_ne h6.ra hE (by decide))) (hne _ hE h6.hb) _⟩
 have hm:s.may e=true:=by unfold sput at hs;split at hs;assumption;cases hs
 have HD:Hid (D.length+ds.length≤1000000000000):=by have:D.length+ds.length≤1000000000:=hD;exact (by omega:D.length+ds.length≤1000000000000)
 have HR:Hid (∀w6,(∃S',HI w0 g h (.slice pa D.length ca) vo vt D ks T (.live s') S' w6)→Rd w6 (.slice pa D.length ca) D∧HB w6 h (.slice pa D.length ca) vo vt):=fun w6 ⟨S',h6⟩=>⟨h6.ra,h6.hb⟩
 clear H hz ht hs hpp hne hD
 go_enter Tryz.func13,Tryz.ntmps13
 go_wp2_with fail
 refine (HP.out _ ((Below.refl _ _).alloc (Nat.le_refl _) _) (new_at _ _)).mono ?_
 rintro r w6 ⟨x,rfl,h6,hx,hE6⟩
 have H6:Hid ((∃S',HI w0 g h (.slice pa D.length ca) vo vt D ks T (.live s') S' w6)∧Rd w6 x ds∧Eb w6 W.heap.size e):=⟨h6,hx,hE6⟩
 obtain ⟨px,cx,hxs,_⟩:=rd_shape hx
 subst hxs
 have c6:=(HR.out _ h6).2.cells.1
 obtain ⟨eb,heb⟩:∃b,W.heap.size=b:=⟨_,rfl⟩
 rw [heb] at H6 HA ⊢
 clear h6 hx hE6 HP heb
 go_upto_region 5 with (at_builtin;refine app_ds (by rfl) _ _ (by rfl) (.slice pa D.length ca) (.slice px ds.length cx) D ds (by rfl) (HR.out _ H6.out.1).1 (by rfl) H6.out.2.1 HD.out ?_;intro v3 w7 h3 k3 n3;obtain ⟨⟨f1,f2⟩,f3⟩:=HA.out _ _ _ H6.out.1 H6.out.2.2 k3 h3 n3;obtain ⟨p3,c3,hv3,_⟩:=rd_shape h3;subst hv3;have HX:Hid ((∃S',HI w0 g h (.slice p3 (D++ds).length c3) vo vt (D++ds) ks T (.live s') S' (w7.setCell ⟨h,0,none⟩ (.slice p3 (D++ds).length c3)))∧Eb (w7.setCell ⟨h,0,none⟩ (.slice p3 (D++ds).length c3)) eb e):=f3;clear f3 h3 k3 n3)
 rw [List.length_append] at HX
 obtain ⟨w8,hw8⟩:∃w8,w7.setCell ⟨h,0,none⟩ (.slice p3 (D.length+ds.length) c3)=w8:=⟨_,rfl⟩
 rw [hw8] at HX ⊢
 obtain ⟨va,hva⟩:∃v,Value.slice p3 (D.length+ds.length) c3=v:=⟨_,rfl⟩
 rw [hva] at HX
 clear hw8 f1 f2 H6 HA HR HD c6
 obtain ⟨⟨S8,i8⟩,E8⟩:=HX.out
 obtain ⟨x0,x1,x2⟩:=i8.hb.cells
 obtain ⟨e0,e1,_,e3,_,_,_,_⟩:=E8.cells
 rw [←hvo] at x1
 rw [←hvt] at x2
 have y1:w8.frozen? ⟨h,1,none⟩=false:=blk_frozen i8.hb
 have y2:w8.frozen? ⟨h,2,none⟩=false:=blk_frozen i8.hb
 have hhl:h<w8.heap.size:=blk_lt i8.hb
 have hel:eb<w8.heap.size:=blk_lt E8
 by_cases h1:e.k=1
 ·have HW:Hid (∀V,Below w8.heap.size w8 V→Rk V (.slice po R.length co) R):=fun V hb=>by have:=row_below i8.ro hb;rw [hR,←hvo] at this;exact this
  have HT:Hid (∀W1 w9 q cp,Below w8.heap.size w8 W1→Rk w9 (.slice (some ⟨q,0,none⟩) (R.length+1) cp) (R++[e.n])→W1.grownBy w9 (Value.slice po R.length co).ownBlock→((Value.slice po R.length co).ownBlock=some q∨q=W1.heap.size)→(w9.cell? ⟨h,1,none⟩=some (.slice po R.length co)∧w9.frozen? ⟨h,1,none⟩=false)∧∃va' vo' vt' S',HI w0 g h va' vo' vt' (D++ds) (evK e ks) (T++evT e) (.live s') S' (w9.setCell ⟨h,1,none⟩ (.slice (some ⟨q,0,none⟩) (R.length+1) cp))):=fun W1 w9 q cp hb hr hg hq=>by
   have i9:=i8.below hb
   rw [←hvo] at i9
   have ek:evK e ks=e.n :: ks:=by unfold evK;rw [if_pos h1]
   have et:evT e=[]:=by unfold evT;rw [if_pos h1]
   have hr':Rk w9 (.slice (some ⟨q,0,none⟩) (R.length+1) cp) (e.n :: ks).reverse:=by rw [List.reverse_cons,hR];exact hr
   obtain ⟨a1,a2⟩:=i9.opn ((Kp.of_grown hg).sub (fun k e=>e.symm)) hr' (by rcases hq with h|h;exact .inl h.symm;exact .inr ⟨q,rfl,by omega⟩)
   rw [ek,et,List.append_nil]
   exact ⟨a1,_,_,_,_,a2⟩
  have HB:Hid (∀o,Below w8.heap.size w8 (w8.drew.alloc o)):=fun o=>((Below.refl _ _).drew).alloc (Nat.le_refl _) _
  have hl:R.length≤1000000000:=by omega
  rw [h1] at e0
  clear HX i8 E8 x0 x2 e3 hm hks
  clear hvo hvt hva h1 hR hRl
  go_wp2_with fail
  go_region_law (refine step_k (by rfl) _ _ (by rfl) (.slice po R.length co) R e.n (by rfl) (HW.out _ (HB.out _)) w8.heap.size 1 (by rfl) (new_at w8.drew _) hl ?_;intro q cp w9 hr9 hg9 hq9;obtain ⟨⟨x1,x2⟩,x3⟩:=HT.out _ w9 q cp (HB.out _) hr9 hg9 hq9;have HX:=show Hid (∃va' vo' vt' S',HI w0 g h va' vo' vt' (D++ds) (evK e ks) (T++evT e) (.live s') S' (w9.setCell ⟨h,1,none⟩ (.slice (some ⟨q,0,none⟩) (R.length+1) cp))) from x3;clear x3 hr9 hg9 hq9)
  all_goals (
   go_wp2_with fail
   go_ret
   exact ⟨rfl,HX.out⟩)
 ·by_cases h3:e.k=3
  ·obtain ⟨r,hr⟩:∃r,ks=e.n :: r:=by
    unfold Sy.may at hm
    rw [if_neg h1,if_pos h3] at hm
    rw [←hks]
    unfold Sy.ks
    cases hc:s.ns with
    |nil=>rw [hc] at hm;cases hm
    |cons n ns=>rw [hc] at hm;exact ⟨ns.map (·.k),by rw [List.map_cons,of_decide_eq_true hm]⟩
   have hro:=i8.ro
   rw [hr] at hro
   obtain ⟨b,cap,hv,hcap,hc,hr2⟩:=rk_last hro
   rw [←hvo] at hv
   injection hv with v1 v2 v3
   subst v1 v3
   have hRr:R.length=r.length+1:=by rw [hRl,hr];rfl
   have HT:Hid (∀V,Below w8.heap.size w8 V→∃va' vo' vt' S',HI w0 g h va' vo' vt' (D++ds) (evK e ks) (T++evT e) (.live s') S' (V.setCell ⟨h,1,none⟩ (.slice (some ⟨b,0,none⟩) r.length co))):=fun V hV=>by
    have ek:evK e ks=r:=by unfold evK;rw [if_neg h1,if_pos h3,hr];rfl
    have et:evT e=[]:=by unfold evT;rw [if_neg h1,if_pos h3]
    rw [ek,et,List.append_nil]
    rw [←hvo] at i8
    exact ⟨_,_,_,_,((i8.below hV).opn (Kp.refl _ _) (row_below hr2 hV) (.inl rfl)).2⟩
   rw [hRr] at x1
   have hl:r.length≤1000000000:=by omega
   rw [h3] at e0
   have q1:IntKind.i64.wrap ((r.length:Int)+1-1)=r.length:=by rw [IntKind.wrap_i64];omega
   have q2:¬((r.length:Int)<0):=by omega
   have q3:(0:Int)≤r.length:=by omega
   have q4:(r.length:Int)<(r.length:Int)+1:=by omega
   have q5:(r.length:Int)≤co:=by omega
   clear HX i8 E8 x0 x2 e3 hm hks hro hr2 hK hRr hRl hvo hvt hva h3 hR hr v2
   go_wp2_with fail
   go_quiet (fail)
   go_wp2_with fail
   go_ret
   exact ⟨rfl,HT.out _ (bel_dn (Below.refl _ _) _)⟩
  ·have HW:Hid (∀V,Below w8.heap.size w8 V→Rx V (.slice pt T.length ct) T):=fun V hb=>by have:=row_below i8.rt hb;rw [←hvt] at this;exact this
   have HT:Hid (∀W1 w9 q cp,Below w8.heap.size w8 W1→Rx w9 (.slice (some ⟨q,0,none⟩) (T.length+1) cp) (T++[e.d.t])→W1.grownBy w9 (Value.slice pt T.length ct).ownBlock→((Value.slice pt T.length ct).ownBlock=some q∨q=W1.heap.size)→(w9.cell? ⟨h,2,none⟩=some (.slice pt T.length ct)∧w9.frozen? ⟨h,2,none⟩=false)∧∃va' vo' vt' S',HI w0 g h va' vo' vt' (D++ds) (evK e ks) (T++evT e) (.live s') S' (w9.setCell ⟨h,2,none⟩ (.slice (some ⟨q,0,none⟩) (T.length+1) cp))):=fun W1 w9 q cp hb hr hg hq=>by
    have i9:=i8.below hb
    rw [←hvt] at i9
    have ek:evK e ks=ks:=by unfold evK;rw [if_neg h1,if_neg h3]
    have et:evT e=[e.d.t]:=by unfold evT;rw [if_neg h1,if_neg h3]
    obtain ⟨a1,a2⟩:=i9.txt ((Kp.of_grown hg).sub (fun k e=>e.symm)) hr (by rcases hq with h|h;exact .inl h.symm;exact .inr ⟨q,rfl,by omega⟩)
    rw [ek,et]
    exact ⟨a1,_,_,_,_,a2⟩
   have HB:Hid (∀o,Below w8.heap.size w8 (w8.drew.alloc o)):=fun o=>((Below.refl _ _).drew).alloc (Nat.le_refl _) _
   clear HX i8 E8 x0 e1 hm hks
   clear hvo hvt hva hR hRl
   go_wp2_with fail
   go_region_law (refine step_x (by rfl) _ _ (by rfl) (.slice pt T.length ct) T e.d.t (by rfl) (HW.out _ (HB.out _)) w8.heap.size 1 (by rfl) (new_at w8.drew _) hT ?_;intro q cp w9 hr9 hg9 hq9;obtain ⟨⟨x1,x2⟩,x3⟩:=HT.out _ w9 q cp (HB.out _) hr9 hg9 hq9;have HX:=show Hid (∃va' vo' vt' S',HI w0 g h va' vo' vt' (D++ds) (evK e ks) (T++evT e) (.live s') S' (w9.setCell ⟨h,2,none⟩ (.slice (some ⟨q,0,none⟩) (T.length+1) cp))) from x3;clear x3 hr9 hg9 hq9)
   all_goals (
    go_wp2_with fail
    go_ret
    exact ⟨rfl,HX.out⟩)
end
def HS (w0:World) (g h:Nat) (W:World) (j:Nat) (ks:List Int):Prop:=∃va vo vt D T s S,HI w0 g h va vo vt D ks T (.live s) S W∧Snd D s∧txs D=T∧s.ks=ks∧D.length+phi s≤12*j∧s.ns.length≤j∧Mo s∧T.length≤j
theorem hs_put {w0 W:World}{g h j:Nat}{ks:List Int}(H:HS w0 g h W j ks) (hj:j≤20000000) (e:Ev) (ht:e.d.t.size≤9223372036854775807) :
  Calls Tryz.prog 13 #[spg h,spg g,.agg #[.int .u8 e.k,.int .u8 e.n,.int .u8 e.d.k,.string e.d.t,.int .i64 e.d.a,.int .i64 e.d.l,.int .i64 e.d.c,.int .i64 e.d.f]] W fun r w'=>r=.returned (.bool true)∧∃ks',HS w0 g h w' (j+1) ks'∧ks'.length≤ks.length+1∧∀k l,e.k=3→ks=k :: l→e.n=k→ks'=l:=by
 obtain ⟨va,vo,vt,D,T,s,S,hI,hS,hT,hk,hz,hn,hm,hTl⟩:=H
 have hbd:Sbd (.live s):=sbd_of (j:=j) (by omega) hn hm (by omega)
 cases hp:sput s e with
 |none=>
  refine (puts_no hI hbd e ht hp).mono ?_
  rintro r w' ⟨rfl,S',h'⟩
  refine ⟨rfl,ks,⟨va,vo,vt,D,T,s,S',h',hS,hT,hk,by omega,by omega,hm,by omega⟩,by omega,fun k l h3 e1 e2=>?_⟩
  exfalso
  have hmy:s.may e=true:=by
   unfold Sy.may
   rw [if_neg (show ¬e.k=1 by omega),if_pos h3]
   rw [e1] at hk
   unfold Sy.ks at hk
   cases hc:s.ns with
   |nil=>rw [hc] at hk;cases hk
   |cons n ns=>
    rw [hc,List.map_cons] at hk
    injection hk with k1 k2
    exact decide_eq_true (by rw [k1,e2])
  unfold sput at hp
  rw [if_pos hmy] at hp
  cases hp
 |some pr=>
  obtain ⟨s',ds⟩:=pr
  obtain ⟨z1,z2,z3⟩:=phi_put hp
  obtain ⟨y1,y2,y3⟩:=snd_put hS hp
  have hkl:ks.length=s.ns.length:=by rw [←hk];unfold Sy.ks;rw [List.length_map]
  refine (puts_yes hI hbd e ht hp hk (by omega) (by omega) (by omega)).mono ?_
  rintro r w' ⟨rfl,va',vo',vt',S',h'⟩
  refine ⟨rfl,evK e ks,⟨va',vo',vt',D++ds,T++evT e,s',S',h',y1,by rw [txs_app,hT,y2],by rw [y3,hk],by rw [List.length_append];omega,by omega,z3 hm,?_⟩,?_,fun k l h3 e1 e2=>by unfold evK;rw [if_neg (by omega),if_pos h3,e1];rfl⟩
  rotate_left
  ·unfold evK
   split
   ·simp
   ·split
    ·rw [List.length_tail];omega
    ·omega
  rw [List.length_append]
  have:(evT e).length≤1:=by
   unfold evT
   split
   ·simp
   ·split <;> simp
  omega
theorem hs_new {w0 W:World}{g:Nat}(hb:Below w0.heap.size w0 W) (hq:Sq (fun k=>k=g) W g (.live sy0)) (hg:w0.heap.size≤g) (V:World) (hV:W.alloc (.cells #[.slice none 0 0,.slice none 0 0,.slice none 0 0] 50)=V):HS w0 g W.heap.size V 0 []:=by
 have hB:Below W.heap.size W V:=by rw [←hV];exact (Below.refl _ _).alloc (Nat.le_refl _) _
 have hn:HB V W.heap.size (.slice none 0 0) (.slice none 0 0) (.slice none 0 0):=by rw [←hV];exact new_at _ _
 refine ⟨_,_,_,[],[],sy0,_,⟨hb.trans (hB.mono hb.size),hq.below hB,(fun k e=>by rw [e];exact hg),hn,hb.size,fun e=>?_,rd_nil _,World.ownsRow_nil _ 0 _ 1,World.ownsRow_nil _ 0 _ 1,fun k e=>by rcases e with e|e|e <;> cases e⟩,snd_new,rfl,rfl,by decide,by decide,(fun m hm=>by cases hm),Nat.le_refl _⟩
 have:=hq.lt _ rfl
 have e':W.heap.size=g:=e
 omega
def mO (h:Nat) (w:World):Nat:=match w.cell? ⟨h,1,none⟩ with
 |some (.slice _ n _)=>n
 |_=>0
theorem hs_cell {w0 W:World}{g h j:Nat}{ks:List Int}(H:HS w0 g h W j ks):∃p c,W.cell? ⟨h,1,none⟩=some (.slice p ks.length c)∧mO h W=ks.length∧Below w0.heap.size w0 W∧∀k l,ks=k :: l→∃b,p=some ⟨b,0,none⟩∧W.cell? ⟨b,l.length,none⟩=some (.int .u8 k):=by
 obtain ⟨va,vo,vt,D,T,s,S,hI,_⟩:=H
 obtain ⟨p,c,e,_⟩:=row_shape hI.ro
 have e1:=hI.hb.cells.2.1
 rw [e,List.length_reverse] at e1
 refine ⟨p,c,e1,by unfold mO;rw [e1],hI.bel,fun k l hk=>?_⟩
 have hr:=hI.ro
 rw [hk] at hr
 obtain ⟨b,cap,h1,_,h2,_⟩:=rk_last hr
 rw [e] at h1
 injection h1 with h1
 exact ⟨b,h1,h2⟩
structure HF (W0:World) (h:Nat) (vt:Value) (p:Option Addr) (c:Nat) (A:List Dc) (T:List ByteArray) (W:World):Prop where
 bel:Below W0.heap.size W0 W
 c2:W.cell? ⟨h,2,none⟩=some vt
 rt:Rx W vt T
 rd:Rd W (.slice p A.length c) A
 tx:txs A=T
 fm:frm 0 0 A=none
 sz:∀d∈A,d.t.size≤9223372036854775807
theorem HF.below {W0:World}{h:Nat}{vt:Value}{p:Option Addr}{c:Nat}{A:List Dc}{T:List ByteArray}{W W':World}(H:HF W0 h vt p c A T W) (hb:Below W.heap.size W W'):HF W0 h vt p c A T W':=
 ⟨H.bel.trans (hb.mono H.bel.size),(hb.cell (World.block_lt_of_cell? _ _ H.c2)).trans H.c2,row_below H.rt hb,row_below H.rd hb,H.tx,H.fm,H.sz⟩
theorem frm_sz {A:List Dc}(h:frm 0 0 A=none):∀d∈A,d.t.size≤9223372036854775807:=fun d hd=>by
 have:=Lw.frm_rt A 0 0 h d hd
 cases Lw.rt_of this with
 |text t hq=>have:=(Lw.rtT_len hq).2;show t.size≤_;omega
 |_=>show (bE).size≤_;exact Nat.zero_le _
theorem txs_split {A:List Dc}{i:Nat}{d:Dc}(h:A[i]?=some d):txs A=txs (A.take i)++(txs [d]++txs (A.drop (i+1)))∧txs (A.take (i+1))=txs (A.take i)++txs [d]:=by
 obtain ⟨h1,h2⟩:=List.getElem?_eq_some_iff.1 h
 constructor
 ·rw [←txs_app,←txs_app,List.singleton_append,←h2,←List.drop_eq_getElem_cons h1,List.take_append_drop]
 ·rw [←txs_app,List.take_succ_eq_append_getElem h1,h2]
set_option maxHeartbeats 4000000 in
theorem ssound_any (L:List Ev) (ao:Option Addr) (cap:Nat) (W:World) (hL:Lev W ao L) (hl:L.length≤5000000) (ht:∀e∈L,e.d.t.size≤9223372036854775807)
  (hA:∀V,Below W.heap.size W V→Calls Tryz.prog 9 #[] V fun r w'=>r=.returned (.bool true)∧Below V.heap.size V w') :
  Calls Tryz.prog 5 #[.slice ao L.length cap] W fun r w'=>r=.returned (.bool true)∧Below W.heap.size W w':=by
 have HM:Hid (L.length≤5000000∧∀e∈L,e.d.t.size≤9223372036854775807):=⟨hl,ht⟩
 have HLe:Hid (∀V,Below W.heap.size W V→Lev V ao L):=fun V hb=>hL.below hb
 have HNew:Hid (Calls Tryz.prog 10 #[] W fun r w'=>r=.returned (spg W.heap.size)∧Sq (fun k=>k=W.heap.size) w' W.heap.size (.live sy0)∧Below W.heap.size W w'):=new_styler W
 have HAw:Hid (∀V,Below W.heap.size W V→Calls Tryz.prog 9 #[] V fun r w'=>r=.returned (.bool true)∧Below V.heap.size V w'):=hA
 clear hL hl ht hA
 go_enter Tryz.func5,Tryz.ntmps5
 go_wp2_with fail
 refine HNew.out.mono ?_
 rintro r w1 ⟨rfl,hq,hb⟩
 have H1:Hid (Sq (fun k=>k=W.heap.size) w1 W.heap.size (.live sy0)∧Below W.heap.size W w1):=⟨hq,hb⟩
 clear hq hb HNew
 go_wp2_with fail
 refine (HAw.out _ H1.out.2).mono ?_
 rintro r w2 ⟨rfl,hb2⟩
 have H2:Hid (∀V,w2.alloc (.cells #[.slice none 0 0,.slice none 0 0,.slice none 0 0] 50)=V→HS W W.heap.size w2.heap.size V 0 []):=fun V hV=>hs_new (H1.out.2.trans (hb2.mono H1.out.2.size)) (H1.out.1.below hb2) (Nat.le_refl _) V hV
 clear hb2 H1 HAw
 obtain ⟨g,hg⟩:∃g,W.heap.size=g:=⟨_,rfl⟩
 rw [hg] at H2 ⊢
 go_wp2_with fail
 obtain ⟨V,hV⟩:∃V,w2.alloc (.cells #[.slice none 0 0,.slice none 0 0,.slice none 0 0] 50)=V:=⟨_,rfl⟩
 have H3:Hid (HS W g w2.heap.size V 0 []):=H2.out V hV
 obtain ⟨h,hh⟩:∃h,w2.heap.size=h:=⟨_,rfl⟩
 rw [hh] at H3 ⊢
 rw [hV]
 clear hV hh H2
 go_loopw [5] (fun i wr=>∃j:Nat,j≤L.length∧i=.int .i64 j∧Hid (∃ks,HS W g h wr j ks∧ks.length≤j)) (fun i _=>L.length-(intOf i).toNat)
 case atStart=>exact ⟨0,Nat.zero_le _,rfl,[],H3.out,Nat.le_refl _⟩
 case round=>
  obtain ⟨j,hj,rfl,HJ⟩:=hrel
  obtain ⟨ks,hI,hkl⟩:=HJ.out
  obtain ⟨hLl,hLt⟩:=HM.out
  by_cases hlt:j<L.length
  ·have q1:(j:Int)<L.length:=by omega
   have q0:(0:Int)≤j:=by omega
   obtain ⟨t,hT⟩:∃t,L[j]?=some t:=⟨_,List.getElem?_eq_getElem hlt⟩
   obtain ⟨b,off,rfl,x0,x1,x2,x3,x4,x5,x6,x7⟩:=HLe.out wr (hs_cell hI).choose_spec.choose_spec.2.2.1 j t hT
   have HP:Hid (Calls Tryz.prog 13 #[spg h,spg g,.agg #[.int .u8 t.k,.int .u8 t.n,.int .u8 t.d.k,.string t.d.t,.int .i64 t.d.a,.int .i64 t.d.l,.int .i64 t.d.c,.int .i64 t.d.f]] wr fun r w'=>r=.returned (.bool true)∧∃ks',HS W g h w' (j+1) ks'∧ks'.length≤j+1):=(hs_put hI (by omega) t (hLt t (List.mem_of_getElem? hT))).mono (fun r w' ⟨h1,ks',h2,h3,_⟩=>⟨h1,ks',h2,by omega⟩)
   clear HJ hI hkl hLt hT H3
   go_wp2_with fail
   refine HP.out.mono ?_
   rintro r w6 ⟨rfl,h6⟩
   have H6:Hid (∃ks',HS W g h w6 (j+1) ks'∧ks'.length≤j+1):=h6
   clear h6
   go_wp2_with fail
   exact ⟨⟨j+1,hlt,by go_num,H6.out⟩,by simp [intOf];omega⟩
  ·obtain rfl:j=L.length:=by omega
   have q1:¬((L.length:Int)<L.length):=by omega
   have H4:Hid (∃j ks,HS W g h wr j ks∧j+ks.length≤2*L.length):=⟨L.length,ks,hI,by omega⟩
   clear HJ hI hkl hLt H3
   go_wp2_with fail
   go_loopw [6] (fun _ wr=>Hid (∃j ks,HS W g h wr j ks∧j+ks.length≤2*L.length)) (fun _ wr=>mO h wr)
   case atStart=>exact H4.out
   case round=>
    obtain ⟨j,ks,hI,hjl⟩:=hrel.out
    obtain ⟨p,c,c1,hmo,hbl,hks⟩:=hs_cell hI
    cases hk:ks with
    |cons k l=>
     obtain ⟨b,rfl,hc⟩:=hks k l hk
     rw [hk,List.length_cons] at c1
     have q5:(0:Int)<(l.length:Int)+1:=by omega
     have hl9:l.length≤10000000:=by rw [hk,List.length_cons] at hjl;omega
     have HP:Hid (Calls Tryz.prog 13 #[spg h,spg g,.agg #[.int .u8 3,.int .u8 k,.int .u8 0,.string ⟨#[]⟩,.int .i64 0,.int .i64 0,.int .i64 0,.int .i64 0]] wr fun r w'=>r=.returned (.bool true)∧(∃j ks,HS W g h w' j ks∧j+ks.length≤2*L.length)∧mO h w' < mO h wr∧∃p c,w'.cell? ⟨h,1,none⟩=some (.slice p l.length c)):=(hs_put hI (by omega) ⟨3,k,tv0⟩ (show tv0.t.size≤9223372036854775807 by decide)).mono (fun r w' ⟨h1,ks',h2,h3,h4⟩=>by
      obtain rfl:=h4 k l rfl hk rfl
      obtain ⟨p',c',d1,d2,_,_⟩:=hs_cell h2
      rw [hk,List.length_cons] at hjl hmo
      exact ⟨h1,⟨j+1,_,h2,by omega⟩,by omega,p',c',d1⟩)
     clear hI hks hjl hmo hbl hk H4 hrel
     go_wp2_with fail
     refine HP.out.mono ?_
     rintro r w11 ⟨rfl,h6,h7,p',c',c2⟩
     have H6:Hid ((∃j ks,HS W g h w11 j ks∧j+ks.length≤2*L.length)∧mO h w11<mO h wr):=⟨h6,h7⟩
     have q6:¬((l.length:Int)=(l.length:Int)+1):=by omega
     clear h6 h7
     go_wp2_with fail
     exact ⟨H6.out.1,H6.out.2⟩
    |nil=>
     rw [hk] at c1 hI
     rw [List.length_nil] at c1
     obtain ⟨va,vo,vt,D,T,s,S,hI,hS,hT,hks2,hz,hn,hm,hTl⟩:=hI
     have hns:s.ns=[]:=List.map_eq_nil_iff.1 hks2
     have hcl:sclo s=some s.endl.ws:=by unfold sclo;rw [if_pos hns]
     obtain ⟨ds,hds⟩:∃ds,s.endl.ws=ds:=⟨_,rfl⟩
     rw [hds] at hcl
     obtain ⟨f1,f2⟩:=snd_clo hS hcl
     have hdl:ds.length≤phi s+1:=by
      rw [←hds]
      unfold Sy.endl phi
      split
      ·show (dH :: s.ws).length≤_;simp only [List.length_cons];omega
      ·omega
     have hpp:pclo (.live s)=(0,ds,.done):=by show (match sclo s with|none=>_|some l=>_)=_;rw [hcl]
     have hP:=sclose_any hI.sq (sbd_of (j:=j) (by omega) hn hm (by omega))
     rw [hpp] at hP
     obtain ⟨pa,ca,hva,_⟩:=rd_shape hI.ra
     obtain ⟨pt,ct,hvt,_⟩:=row_shape hI.rt
     subst hva hvt
     have HP:Hid (Calls Tryz.prog 14 #[spg g] wr fun rr w'=>∃v,rr=.returned (.tuple #[v,.int .i64 0])∧(∃S',HI W g h (.slice pa D.length ca) vo (.slice pt T.length ct) D [] T .done S' w')∧Rd w' v ds):=hP.mono (fun r w' ⟨v,e1,e2⟩=>⟨v,e1,hI.call e2⟩)
     have HA:Hid (∀w6 w7 v',(∃S',HI W g h (.slice pa D.length ca) vo (.slice pt T.length ct) D [] T .done S' w6)→Kp (fun k=>(Value.slice pa D.length ca).ownBlock=some k) w6 w7→Rd w7 v' (D++ds)→∃p c,v'=.slice p (D++ds).length c∧HF W h (.slice pt T.length ct) p c (D++ds) T w7):=fun w6 w7 v' ⟨S',h6⟩ hk hr=>by
      obtain ⟨p,c,e,_⟩:=rd_shape hr
      subst e
      have h2:HB w7 h (.slice pa D.length ca) vo (.slice pt T.length ct):=hk.blk h6.hb (row_ne h6.ra h6.hb (by decide))
      refine ⟨p,c,rfl,kp_low2 h6.bel hk (fun k e=>(h6.vB k (.inl e)).1) h6.bel.size,h2.cells.2.2,hk.row h6.rt (fun k e1 e2=>row_two h6.rt h6.ra (by decide) k e1 e2),hr,by rw [txs_app,hT,f2,List.append_nil],f1,frm_sz f1⟩
     have HR:Hid (∀w6,(∃S',HI W g h (.slice pa D.length ca) vo (.slice pt T.length ct) D [] T .done S' w6)→Rd w6 (.slice pa D.length ca) D∧w6.cell? ⟨h,0,none⟩=some (.slice pa D.length ca)):=fun w6 ⟨S',h6⟩=>⟨h6.ra,h6.hb.cells.1⟩
     have HD:Hid (D.length+ds.length≤1000000000000):=(show D.length+ds.length≤1000000000000 by omega)
     have hAl:(D++ds).length≤400000000:=by rw [List.length_append];omega
     obtain ⟨A,hA⟩:∃A,D++ds=A:=⟨_,rfl⟩
     have hAe:D.length+ds.length=A.length:=by rw [←hA,List.length_append]
     rw [hA] at HA hAl
     have HE:Hid (D.length+ds.length=A.length∧D++ds=A):=⟨hAe,hA⟩
     have hTl2:T.length≤20000000:=by omega
     clear hrel hI hS hT hks2 hz hn hm hTl hns hcl hds f1 f2 hdl hpp hP hks hjl hmo hbl hk H4 hAe hA
     go_wp2_with fail
     refine HP.out.mono ?_
     rintro r w6 ⟨x,rfl,h6,hx⟩
     have H6:Hid ((∃S',HI W g h (.slice pa D.length ca) vo (.slice pt T.length ct) D [] T .done S' w6)∧Rd w6 x ds):=⟨h6,hx⟩
     obtain ⟨px,cx,hxs,_⟩:=rd_shape hx
     subst hxs
     have c6:=(HR.out _ h6).2
     clear h6 hx HP c1
     go_wp2_with (at_builtin;refine app_ds (by rfl) _ _ (by rfl) (.slice pa D.length ca) (.slice px ds.length cx) D ds (by rfl) (HR.out _ H6.out.1).1 (by rfl) H6.out.2 HD.out ?_;intro v3 w7 h3 k3 n3;rw [HE.out.2] at h3;obtain ⟨p3,c3,hv3,h7⟩:=HA.out _ _ _ H6.out.1 k3 h3;subst hv3;have H7:Hid (HF W h (.slice pt T.length ct) p3 c3 A T w7):=h7;clear h3 k3 n3 h7)
     clear H6 HA HR HD HE c6
     go_loopw [10,11] (fun n i wr=>∃j:Nat,j≤A.length∧i=.int .i64 j∧n=.int .i64 ((txs (A.take j)).length:Nat)∧Hid (HF W h (.slice pt T.length ct) p3 c3 A T wr)) (fun _ i _=>A.length-(intOf i).toNat)
     case atStart=>exact ⟨0,Nat.zero_le _,rfl,rfl,H7.out⟩
     case round=>
      obtain ⟨j,hj,rfl,rfl,HJ⟩:=hrel
      clear H7
      have hF:=HJ.out
      obtain ⟨ao3,cap3,e3,_,hLay,_⟩:=Lw.Lay.row hF.rd hF.sz
      injection e3 with e31 e32 e33
      subst e31 e33
      by_cases hlt:j<A.length
      ·obtain ⟨d,hd⟩:∃d,A[j]?=some d:=⟨_,List.getElem?_eq_getElem hlt⟩
       obtain ⟨_,b,off,rfl,x0,x1,_,_,_⟩:=hLay j d hd
       obtain ⟨s1,s2⟩:=txs_split hd
       have q1:(j:Int)<A.length:=by omega
       have q0:(0:Int)≤j:=by omega
       have c2:=hF.c2
       by_cases hk:d.k=1
       ·have ed:txs [d]=[d.t]:=by simp [txs,hk]
        rw [ed] at s1 s2
        obtain ⟨m,hm⟩:∃m,(txs (A.take j)).length=m:=⟨_,rfl⟩
        have hTm:T[m]?=some d.t:=by rw [←hF.tx,s1,List.getElem?_append_right (by omega),hm,Nat.sub_self];rfl
        have hmT:m<T.length:=(List.getElem?_eq_some_iff.1 hTm).1
        have hm2:(txs (A.take (j+1))).length=m+1:=by rw [s2,List.length_append,hm];rfl
        obtain ⟨bt,hbt⟩:∃bt,pt=some ⟨bt,0,none⟩:=by
         rcases hF.rt.2 with ⟨h1,h2⟩|⟨b',cap',cur,h1,_⟩
         ·omega
         ·injection h1 with h1;exact ⟨b',h1⟩
        subst hbt
        have ct:=World.ownsRow.cells hF.rt (g:=bt) rfl m (.string d.t) (by rw [List.getElem?_map,hTm];rfl)
        rw [Addr.add_lit,Nat.zero_add] at ct
        have HN:Hid ((txs (A.take (j+1))).length=m+1):=hm2
        have HB:Hid (∀V,Below wr.heap.size wr V→HF W h (.slice (some ⟨bt,0,none⟩) T.length _) _ _ A T V):=fun V hb=>hF.below hb
        have q2:¬((T.length:Int)≤m):=by omega
        have q3:(0:Int)≤m:=by omega
        have g1:decide ((T.length:Int)≤(m:Int))=false:=decide_eq_false q2
        have g2:decide (T.length≤m)=false:=decide_eq_false (by omega)
        have q4:(m:Int)<T.length:=by omega
        have q5:IntKind.i64.wrap ((m:Int)+1)=m+1:=by rw [IntKind.wrap_i64];omega
        rw [hk] at x0
        rw [hm]
        clear hF HJ hLay hd s1 s2 hm hTm hm2 ed hmT hk
        go_wp2_with fail
        go_quiet (fail)
        go_wp2_with fail
        exact ⟨⟨j+1,hlt,by go_num,by rw [HN.out];go_num,HB.out _ (bel_dn (Below.refl _ _) _)⟩,by simp [intOf];omega⟩
       ·have ed:txs [d]=[]:=by simp [txs,hk]
        rw [ed,List.append_nil] at s2
        have HN:Hid (txs (A.take (j+1))=txs (A.take j)):=s2
        obtain ⟨m,hm⟩:∃m,(txs (A.take j)).length=m:=⟨_,rfl⟩
        have HM2:Hid ((txs (A.take j)).length=m):=hm
        rw [hm]
        clear hF hLay hd s1 s2 hm ed
        go_wp2_with fail
        exact ⟨⟨j+1,hlt,by go_num,by rw [HN.out,HM2.out],HJ.out⟩,by simp [intOf];omega⟩
      ·obtain rfl:j=A.length:=by omega
       have q1:¬((A.length:Int)<A.length):=by omega
       have en:(txs (A.take A.length)).length=T.length:=by rw [List.take_length,hF.tx]
       rw [en]
       have c2:=hF.c2
       have HFo:Hid (Calls Tryz.prog 15 #[.slice p3 A.length c3] wr fun e w'=>e=.returned (.int .i64 (-1))∧Below W.heap.size W w'):=(Lw.rform_any p3 A c3 wr hLay (by omega)).mono (fun r w' ⟨e1,e2⟩=>⟨by rw [e1,hF.fm];rfl,hF.bel.trans (e2.mono hF.bel.size)⟩)
       clear hF hLay en HJ
       go_wp2_with (go_at_call 15;refine HFo.out.mono ?_;rintro r w9 ⟨rfl,h9⟩;have H9:Hid (Below W.heap.size W w9):=h9;clear h9)
       go_ret
       exact ⟨rfl,H9.out⟩
end Go.Proofs.YtpdlohfdjiaegaaGreatDoor
