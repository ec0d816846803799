import Derived.Test.YtpdlohfdjiaegaaGreatDoorM31
set_option linter.unusedVariables false
set_option linter.unusedSimpArgs false
namespace Go.Proofs.YtpdlohfdjiaegaaGreatDoor
open Go.RowKit
open Lw (Dc bE rt frm dep rtT rtN dcs aD bk)
variable {st:Sy}{g T q a b n:Nat}{W V:World}{t:Tv}
def Rwb (W:World) (q:Nat) (a b:Nat):Prop:=∃c0 c1 c2 c3 c4 c5 c6,W.heap[q]?=some (.cells #[c0,c1,c2,c3,c4,c5,c6,.func (.func a) #[] #[],.func (.func b) #[] #[]] 132 (0,0))
theorem Rwb.cells {W:World}{q a b:Nat}(h:Rwb W q a b):W.cell? ⟨q,7,none⟩=some (.func (.func a) #[] #[])/\W.cell? ⟨q,8,none⟩=some (.func (.func b) #[] #[]):=by
 obtain ⟨c0,c1,c2,c3,c4,c5,c6,h⟩:=h;exact ⟨aa h rfl,aa h rfl⟩
structure LC (S:Nat->Prop) (g:Nat) (W:World) (T:Nat) (t:Tv) (q a b:Nat) (V:World) (st:Sy):Prop where
 ex:∃Si,SS Si V g st/\(∀k,Si k->S k\/W.heap.size<=k)/\¬Si T/\¬Si q
 kp:Kp S W V
 tb:Tkb V T t
 rb:Rwb V q a b
 tq:T<V.heap.size/\q<V.heap.size/\S g
theorem LC.step {S:Nat->Prop}{g:Nat}{W:World}{T:Nat}{t:Tv}{q a b:Nat}{V V':World}{st st':Sy}(h:LC S g W T t q a b V st) {Si:Nat->Prop}(h1:∀k,Si k->S k\/W.heap.size<=k) (h2:¬Si T) (h3:¬Si q) (m:Mw Si g V V' st'):LC S g W T t q a b V' st':=by
 obtain ⟨⟨S1,a1,a2⟩,hk⟩:=m;obtain ⟨b1,b2,b3⟩:=h.tq;refine ⟨⟨S1,a1,fun k hs=>?_,fun hs=>?_,fun hs=>?_⟩,h.kp.step hk (fun k hlt hs=>?_),hk.blk h.tb h2,?_,Nat.lt_of_lt_of_le b1 hk.size,Nat.lt_of_lt_of_le b2 hk.size,b3⟩
 ·rcases a2 k hs with e|e
  ·exact h1 k e
  ·exact .inr (Nat.le_trans h.kp.size e)
 ·rcases a2 T hs with e|e
  ·exact h2 e
  ·omega
 ·rcases a2 q hs with e|e
  ·exact h3 e
  ·omega
 ·rcases h1 k hs with e|e
  ·exact e
  ·omega
 ·obtain ⟨c0,c1,c2,c3,c4,c5,c6,h9⟩:=h.rb;exact ⟨c0,c1,c2,c3,c4,c5,c6,hk.blk h9 h3⟩
theorem LC.below {S:Nat->Prop}{V':World}(h:LC S g W T t q a b V st) (hb:Below V.heap.size V V'):LC S g W T t q a b V' st:=by
 obtain ⟨Si,s1,s2,s3,s4⟩:=h.ex;exact h.step s2 s3 s4 ⟨⟨Si,s1.below hb,fun _ h=>.inl h⟩,Kp.of_below hb⟩
theorem vW (f:Fx) (args:Array Value) (w:World):(callFunc f.id args).run Tryz.prog w=.ok (.enter f.id args) w:=by
 cases f <;> kernel_rfl
theorem Bz.aws {n:Nat}{st:Sy}(h:Bz n st) (l:List Pz):Bz (n+l.length) (st.aws l):=by
 induction l generalizing n st with
 |nil=>exact h
 |cons p l ih=>
  have:=ih (h.aw p);rw [bA,List.length_cons];exact this.mono (by omega)
theorem wX (st:Sy) (l:List Pz):(st.aws l).mr=st.mr/\st.ws.length<=(st.aws l).ws.length/\(st.aws l).ns.length=st.ns.length:=by
 induction l generalizing st with
 |nil=>exact ⟨rfl,Nat.le_refl _,rfl⟩
 |cons p l ih=>
  obtain ⟨i1,i2,i3⟩:=ih (st.aw p);rw [bA];refine ⟨i1,?_,i3.trans (jb p st.ns)⟩;have:st.ws.length<=(st.aw p).ws.length:=by rw [kV,List.length_append];omega
  omega
theorem Bz.emp (h:Bz n st) (f:Int):Bz (n+1) (st.emp f):=by
 unfold Sy.emp
 split
 ·exact h.mono (by omega)
 ·split
  ·exact h.mono (by omega)
  ·refine ⟨?_,by have:=h.2.1;show st.ns.length<=_;omega,fun x hx=>by have:=h.2.2 x hx;omega⟩;have:=h.1
   rename_i m _ _
   show (st.ws.take m++dE :: st.ws.drop m).length<=n+1
   simp only [List.length_append,List.length_take,List.length_cons,List.length_drop];omega
theorem Bz.endl (h:Bz n st):Bz (n+1) st.endl:=by
 unfold Sy.endl
 split
 ·exact ⟨by have:=h.1;show (dH :: st.ws).length<=_;simp;omega,by have:=h.2.1;show st.ns.length<=_;omega,fun x hx=>by have:=h.2.2 x hx;omega⟩
 ·exact h.mono (by omega)
theorem l9 (st:Sy) (f:Int):(st.emp f).ns=st.ns:=by unfold Sy.emp;split;rfl;split <;> rfl
theorem gI (st:Sy):st.endl.ns=st.ns:=by unfold Sy.endl;split <;> rfl
theorem iT (st:Sy):st.part.ns=st.ns:=by unfold Sy.part;split <;> rfl
theorem po (f:Fx):f.pz.length<=2:=by cases f <;> decide
theorem LC.lay {S:Nat->Prop}(h:LC S g W T t q a b V st) :
  ∃vw,V.cell? ⟨g,2,none⟩=some vw/\(∃p c,vw=.slice p st.ws.length c)/\Rd V vw st.ws/\∀V1 w3 v' l,Below V.heap.size V V1->Rd w3 v' l->V1.grownBy w3 vw.ownBlock->Nb V1 vw v' ->
   (SB w3 g false (V.cell? ⟨g,1,none⟩ |>.getD undef) vw st.mr.isSome (st.mr.getD 0:Nat) st.wr st.en st.pt) /\
   ∀w5,Kp (fun k=>k=g) w3 w5->SB w5 g false (V.cell? ⟨g,1,none⟩ |>.getD undef) (.slice none 0 0) false 0 true false false ->
    ∃Si,SS Si w5 g ⟨st.ns,[],none,true,false,false⟩/\Rwb w5 q a b/\∀w6 st6,Mw Si g w5 w6 st6->An S g W w6 v' l st6:=by
 obtain ⟨Si,s1,s2,s3,s4⟩:=h.ex;obtain ⟨vn,vw,hv,v1,v2⟩:=s1.ex;obtain ⟨p,c,ew,_⟩:=aS hv.rd;have hcn:=hv.sb.cells.2.1;refine ⟨vw,hv.sb.cells.2.2.1,⟨p,c,ew⟩,hv.rd,fun V1 w3 v' l hb hr hg hn=>?_⟩;rw [hcn,Option.getD_some];have k1:=hv.below hb;have hk:Kp (fun k=>vw.ownBlock=some k) V1 w3:=(Kp.of_grown hg).sub (fun k e=>e.symm);have hne:¬vw.ownBlock=some g:=aA k1.rd k1.sb (by decide);have h3:=k1.sb.kp hk hne;have n3:=hk.row k1.rn (fun k e1 e2=>gu k1.rn k1.rd (by decide) k e1 e2);refine ⟨h3,fun w5 hk5 hsb5=>?_⟩;have n5:Rn tN w5 vn st.ns:=hk5.row n3 (fun k e1 e2=>aA n3 h3 (by decide) (by rw [e1,e2]));have r5:Rd w5 v' l:=hk5.row hr (fun k e1 e2=>aA hr h3 (by decide) (by rw [e1,e2]));have hLb:=h.below hb
 have hv':∀k,v'.ownBlock=some k->S k\/W.heap.size<=k:=fun k e=>by
  rcases hn with hn|⟨q',hq,hq2⟩
  ·exact s2 k (v2 k (by rw [<-hn];exact e))
  ·rw [hq] at e;cases e;exact .inr (Nat.le_trans hLb.kp.size hq2)
 have hvn':∀k,vn.ownBlock=some k->v'.ownBlock≠some k:=fun k e e2=>by
  rcases hn with hn|⟨q',hq,hq2⟩
  ·exact gu k1.rn k1.rd (by decide) k e (by rw [<-hn];exact e2)
  ·rw [hq] at e2;cases e2;have:=eJ k1.rn k e;omega
 have hvg:v'.ownBlock≠some g:=aA hr h3 (by decide);refine ⟨fun k=>Si k/\v'.ownBlock≠some k,⟨⟨vn,.slice none 0 0,⟨hsb5,n5,ic _⟩,fun k e=>⟨v1 k e,hvn' k e⟩,fun k e=>by cases e⟩,⟨s1.sg,hvg⟩,fun k hs=>?_⟩,?_,?_⟩
 ·exact Nat.lt_of_lt_of_le (s1.lt k hs.1) (Nat.le_trans hb.size (Nat.le_trans hk.size hk5.size))
 ·obtain ⟨c0,c1,c2,c3,c4,c5,c6,h9⟩:=hLb.rb;exact ⟨c0,c1,c2,c3,c4,c5,c6,hk5.blk (hk.blk h9 (fun e=>s4 (v2 q e))) (fun e=>s4 (by rw [e];exact s1.sg))⟩
 ·rintro w6 st6 ⟨⟨S6,a1,a2⟩,hk6⟩
  have hkS:Kp S W w5:=(hLb.kp.step hk (fun k hlt e=>by
   rcases s2 k (v2 k e) with e2|e2
   ·exact e2
   ·omega)).step hk5 (fun k _ e=>by rw [e];exact h.tq.2.2)
  refine ⟨⟨S6,a1,fun k hs=>?_,fun k e=>⟨hv' k e,fun hs=>?_⟩⟩,qr r5 hk6 (fun k e hs=>hs.2 e),hkS.step hk6 (fun k hlt hs=>?_)⟩
  ·rcases a2 k hs with e|e
   ·exact s2 k e.1
   ·exact .inr (Nat.le_trans hkS.size e)
  ·rcases a2 k hs with e2|e2
   ·exact e2.2 e
   ·have:=eJ r5 k e;omega
  ·rcases s2 k hs.1 with e|e
   ·exact e
   ·omega
set_option maxRecDepth 100000 in
set_option maxHeartbeats 4000000 in
theorem vG {S:Nat->Prop}(h:SS S W g st) (hz:Bz 900000000 st) (hm:∀m,st.mr=some m->m<=st.ws.length) {n:Nd}{r:List Nd}(e:st.ns=n :: r) (t:Tv) :
  Da 37 #[spg g,.agg #[.int .u8 t.k,.string t.t,.int .i64 t.a,.int .i64 t.l,.int .i64 t.c,.int .i64 t.f]] W fun rr w'=>∃v,rr=.returned v/\An S g W w' v (st.leaf t).2 (st.leaf t).1:=by
 obtain ⟨V,hV⟩:∃V,W.alloc (.cells #[.int .u8 t.k,.string t.t,.int .i64 t.a,.int .i64 t.l,.int .i64 t.c,.int .i64 t.f] 37)=V:=⟨_,rfl⟩;have hB:Below W.heap.size W V:=by rw [<-hV];exact (Below.refl _ _).alloc (Nat.le_refl _) _
 have hT:Tkb V W.heap.size t:=by rw [<-hV];exact am _ _
 have hVs:V.heap.size=W.heap.size+1:=by rw [<-hV];show (W.heap.push _).size=_;simp
 have HV:Hid (W.alloc (.cells #[.int .u8 t.k,.string t.t,.int .i64 t.a,.int .i64 t.l,.int .i64 t.c,.int .i64 t.f] 37)=V):=hV;obtain ⟨b,cap,hc,y0,y1,y2,y3⟩:=(h.below hB).nodes e;obtain ⟨R,hR⟩:∃R,au n t=R:=⟨_,rfl⟩
 obtain ⟨a,b',c,d,e',f',hsix⟩:∃a b c d e f,R.ns=[a,b,c,d,e,f]:=by
  rw [<-hR];unfold au
  split
  ·cases hq:tab.find? (fun r=>r.fits n t.t) with
   |none=>exact ⟨0,0,0,0,0,0,rfl⟩
   |some x=>exact six (qb x (List.mem_of_find?_eq_some hq))
  ·exact ⟨0,0,0,0,0,0,rfl⟩
 have hRv:R.v=.agg #[.int .u8 a,.int .u8 b',.int .u8 c,.int .u8 d,.int .u8 e',.int .u8 f',.string ⟨R.t.toArray⟩,.func (.func R.a.id) #[] #[],.func (.func R.b.id) #[] #[]]:=by
  have:R=⟨[a,b',c,d,e',f'],R.t,R.a,R.b⟩:=by rw [<-hsix]
  rw [this];exact zE _ _ _ _ _ _ _ _ _
 have HRow:Hid (∀X,Da 70 #[.agg #[.int .u8 n.k,.int .i64 n.b,.bool n.s],.agg #[.int .u8 t.k,.string t.t,.int .i64 t.a,.int .i64 t.l,.int .i64 t.c,.int .i64 t.f]] X fun e w'=>e=.returned (.agg #[.int .u8 a,.int .u8 b',.int .u8 c,.int .u8 d,.int .u8 e',.int .u8 f',.string ⟨R.t.toArray⟩,.func (.func R.a.id) #[] #[],.func (.func R.b.id) #[] #[]])/\Below X.heap.size X w'):=fun X=>by rw [<-hRv,<-hR];exact sh n t X
 have HI:Hid (∀X,Below V.heap.size V X->Da 62 #[spg g] X fun rr w'=>rr=.returned (.pointer (some ⟨b,r.length*3,none⟩))/\Below X.heap.size X w'):=fun X hX=>dL (aY hc hX) (by have:=hz.2.1;rw [e] at this;simp at this;omega)
 have HK:Hid (∀X,Below V.heap.size V X->(X.cell? ⟨b,r.length*3,none⟩=some (.int .u8 n.k)/\X.cell? ⟨b,r.length*3+1,none⟩=some (.int .i64 n.b)/\X.cell? ⟨b,r.length*3+2,none⟩=some (.bool n.s))/\Tkb X W.heap.size t):=fun X hX=>⟨⟨aY y0 hX,aY y1 hX,aY y2 hX⟩,ab hT hX⟩
 obtain ⟨t0,t1,t2,t3,t4,t5⟩:=hT.cells;have hbl:=World.block_lt_of_cell? _ _ y0;have HVs:=show Hid (V.heap.size=W.heap.size+1) from hVs
 have hTlt:W.heap.size<V.heap.size:=by omega
 clear y3 hV hVs
 go_enter Tryz.func37,Tryz.ntmps37
 go_upto_region 1 with fail
 rw [HV.out];have HBz:Hid (Below V.heap.size V (V.alloc (.cells #[.int .u8 0,.int .u8 0,.int .u8 0,.int .u8 0,.int .u8 0,.int .u8 0,.string ⟨#[]⟩,.nilFunc,.nilFunc] 132)).drew):=((Below.refl _ V).alloc (Nat.le_refl _) _).drew;have HQz:Hid (∀w',Below (V.alloc (.cells #[.int .u8 0,.int .u8 0,.int .u8 0,.int .u8 0,.int .u8 0,.int .u8 0,.string ⟨#[]⟩,.nilFunc,.nilFunc] 132)).drew.heap.size (V.alloc (.cells #[.int .u8 0,.int .u8 0,.int .u8 0,.int .u8 0,.int .u8 0,.int .u8 0,.string ⟨#[]⟩,.nilFunc,.nilFunc] 132)).drew w'->w'.heap[V.heap.size]?=some (.cells #[.int .u8 0,.int .u8 0,.int .u8 0,.int .u8 0,.int .u8 0,.int .u8 0,.string ⟨#[]⟩,.nilFunc,.nilFunc] 132 (0,0))):=fun w' hw=>ab (W:=(V.alloc (.cells #[.int .u8 0,.int .u8 0,.int .u8 0,.int .u8 0,.int .u8 0,.int .u8 0,.string ⟨#[]⟩,.nilFunc,.nilFunc] 132)).drew) (am V _) hw
 have HQy:Hid (∀w1 w',Below (w1.alloc (.cells #[.int .u8 0,.int .u8 0,.int .u8 0,.int .u8 0,.int .u8 0,.int .u8 0,.string ⟨#[]⟩,.nilFunc,.nilFunc] 132)).heap.size (w1.alloc (.cells #[.int .u8 0,.int .u8 0,.int .u8 0,.int .u8 0,.int .u8 0,.int .u8 0,.string ⟨#[]⟩,.nilFunc,.nilFunc] 132)) w'->w'.heap[w1.heap.size]?=some (.cells #[.int .u8 0,.int .u8 0,.int .u8 0,.int .u8 0,.int .u8 0,.int .u8 0,.string ⟨#[]⟩,.nilFunc,.nilFunc] 132 (0,0))/\Below w1.heap.size w1 w'):=fun w1 w' hw=>⟨ab (am w1 _) hw,((Below.refl _ w1).alloc (Nat.le_refl _) _).trans (hw.mono (by show _<=(w1.heap.push _).size;simp))⟩
 go_cut [5] from 7 to 12 (fun t9 wx=>∃q,t9=.pointer (some ⟨q,0,none⟩)/\Hid (Below V.heap.size V wx/\V.heap.size<=q/\wx.heap[q]?=some (.cells #[.int .u8 a,.int .u8 b',.int .u8 c,.int .u8 d,.int .u8 e',.int .u8 f',.string ⟨R.t.toArray⟩,.func (.func R.a.id) #[] #[],.func (.func R.b.id) #[] #[]] 132 (0,0))))
 case first=>
  clear h hz hm e hB hc hR hsix hRv
  go_region_law (first|(go_simp;go_at_call 62;refine (HI.out _ (by first|exact (Below.refl _ _).drew|exact HBz.out)).mono ?_;rintro r1 w1 ⟨rfl,hb1⟩;have HB1:=show Hid (Below V.heap.size V w1) from (by first|exact (Below.refl V.heap.size V).drew.trans (hb1.mono (Nat.le_refl _))|exact HBz.out.trans (hb1.mono HBz.out.size));obtain ⟨⟨z0,z1,z2⟩,zt⟩:=HK.out _ HB1.out;obtain ⟨u0,u1,u2,u3,u4,u5⟩:=zt.cells;have hb9:=World.block_lt_of_cell? _ _ z0;have hbt:=World.block_lt_of_cell? _ _ u0;(try (have hq1:=HQz.out _ hb1));clear hb1 zt)|(go_simp;go_at_call 70;refine (HRow.out _).mono ?_;rintro r2 w2 ⟨rfl,hb2⟩;first|(have hq2:=ab hq1 hb2;have HB2:=show Hid (Below w1.heap.size w1 w2) from hb2;have zz0:=aa (k:=0) hq2 rfl;have zz1:=aa (k:=1) hq2 rfl;have zz2:=aa (k:=2) hq2 rfl;have zz3:=aa (k:=3) hq2 rfl;have zz4:=aa (k:=4) hq2 rfl;have zz5:=aa (k:=5) hq2 rfl;have zz6:=aa (k:=6) hq2 rfl;have zz7:=aa (k:=7) hq2 rfl;have zz8:=aa (k:=8) hq2 rfl;have zf:=fun j=>ak (k:=j) hq2;clear hb2 hq1)|(have hq5:=HQy.out _ _ hb2;have hq2:=hq5.1;have HB2:=show Hid (Below w1.heap.size w1 w2) from hq5.2;have zz0:=aa (k:=0) hq2 rfl;have zz1:=aa (k:=1) hq2 rfl;have zz2:=aa (k:=2) hq2 rfl;have zz3:=aa (k:=3) hq2 rfl;have zz4:=aa (k:=4) hq2 rfl;have zz5:=aa (k:=5) hq2 rfl;have zz6:=aa (k:=6) hq2 rfl;have zz7:=aa (k:=7) hq2 rfl;have zz8:=aa (k:=8) hq2 rfl;have zf:=fun j=>ak (k:=j) hq2;clear hb2 hq5)|(have HB2:=show Hid (Below w1.heap.size w1 w2) from hb2;clear hb2)))
  all_goals (
   go_wp2_with fail
   go_meet
   have hB12:=HB1.out.trans (HB2.out.mono HB1.out.size)
   first
    | (refine ⟨w2.heap.size,rfl,?_⟩;exact ⟨hB12.alloc hB12.size _,hB12.size,am w2 _⟩)
    | (refine ⟨V.heap.size,rfl,?_⟩;have hle:V.heap.size<=V.heap.size:=Nat.le_refl _;exact ⟨(((((((((hB12.setCell (p:=⟨V.heap.size,0,none⟩) hle _).setCell (p:=⟨V.heap.size,1,none⟩) hle _).setCell (p:=⟨V.heap.size,2,none⟩) hle _).setCell (p:=⟨V.heap.size,3,none⟩) hle _).setCell (p:=⟨V.heap.size,4,none⟩) hle _).setCell (p:=⟨V.heap.size,5,none⟩) hle _).setCell (p:=⟨V.heap.size,6,none⟩) hle _).setCell (p:=⟨V.heap.size,7,none⟩) hle _).setCell (p:=⟨V.heap.size,8,none⟩) hle _),hle,(af (af (af (af (af (af (af (af (af hq2 0 (.int .u8 a)) 1 (.int .u8 b')) 2 (.int .u8 c)) 3 (.int .u8 d)) 4 (.int .u8 e')) 5 (.int .u8 f')) 6 (.string ⟨R.t.toArray⟩)) 7 (.func (.func R.a.id) #[] #[])) 8 (.func (.func R.b.id) #[] #[])).trans (by kernel_rfl)⟩)
    | (refine ⟨w1.heap.size,rfl,?_⟩;have hle:V.heap.size<=w1.heap.size:=HB1.out.size;exact ⟨(((((((((hB12.setCell (p:=⟨w1.heap.size,0,none⟩) hle _).setCell (p:=⟨w1.heap.size,1,none⟩) hle _).setCell (p:=⟨w1.heap.size,2,none⟩) hle _).setCell (p:=⟨w1.heap.size,3,none⟩) hle _).setCell (p:=⟨w1.heap.size,4,none⟩) hle _).setCell (p:=⟨w1.heap.size,5,none⟩) hle _).setCell (p:=⟨w1.heap.size,6,none⟩) hle _).setCell (p:=⟨w1.heap.size,7,none⟩) hle _).setCell (p:=⟨w1.heap.size,8,none⟩) hle _),hle,(af (af (af (af (af (af (af (af (af hq2 0 (.int .u8 a)) 1 (.int .u8 b')) 2 (.int .u8 c)) 3 (.int .u8 d)) 4 (.int .u8 e')) 5 (.int .u8 f')) 6 (.string ⟨R.t.toArray⟩)) 7 (.func (.func R.a.id) #[] #[])) 8 (.func (.func R.b.id) #[] #[])).trans (by kernel_rfl)⟩))
 case rest=>
  obtain ⟨q,rfl,HQ⟩:=hcut;obtain ⟨w1,hw1⟩:∃w1,w1=wc:=⟨wc,rfl⟩;subst hw1;obtain ⟨s1,hs1⟩:∃s1,st.aws R.a.pz=s1:=⟨_,rfl⟩;obtain ⟨s2,hs2⟩:∃s2,s1.emp t.f=s2:=⟨_,rfl⟩;obtain ⟨s3,hs3⟩:∃s3,s2.endl=s3:=⟨_,rfl⟩;obtain ⟨s4,hs4⟩:∃s4,s3.part=s4:=⟨_,rfl⟩;have z1:Bz 900000002 s1:=by rw [<-hs1];exact (hz.aws _).mono (by have:=po R.a;omega)
  have z2:Bz 900000003 s2:=by rw [<-hs2];exact z1.emp _
  have z3:Bz 900000004 s3:=by rw [<-hs3];exact z2.endl
  have z4:s4.ws.length<=900000005:=by
   rw [<-hs4];unfold Sy.part
   split
   ·have:=z3.1;show (s3.ws++[dS]).length<=_;simp;omega
   ·have:=z3.1;omega
  have e1:s1.ns≠[]:=by
   intro h0;have:=(wX st R.a.pz).2.2;rw [hs1,h0,e] at this;simp at this
  have e3:s3.ns=s1.ns:=by rw [<-hs3,gI,<-hs2,l9]
  have e4:s4.ns=s1.ns:=by rw [<-hs4,iT,e3]
  have z4n:∀x∈s4.ns,x.b<=900000005:=fun x hx=>by rw [e4] at hx;have:=z1.2.2 x hx;omega
  have z4l:s4.ns.length<=900000005:=by rw [e4];have:=z1.2.1;omega
  have hm1:∀m,s1.mr=some m->m<=s1.ws.length:=fun m h0=>by
   obtain ⟨x1,x2,_⟩:=wX st R.a.pz;rw [hs1] at x1 x2;have:=hm m (by rw [<-x1];exact h0);omega
  have HL1:Hid (LC S g W W.heap.size t q R.a.id R.b.id w1 st):=by
   have hbw:Below W.heap.size W w1:=hB.trans (HQ.out.1.mono hB.size);have hnT:¬S W.heap.size:=fun hs=>by have:=h.lt _ hs;omega
   have hnq:¬S q:=fun hs=>by have:=h.lt _ hs;have:=HQ.out.2.1;omega
   exact ⟨⟨S,h.below hbw,fun _ h=>.inl h,hnT,hnq⟩,Kp.of_below hbw,ab hT HQ.out.1,⟨_,_,_,_,_,_,_,HQ.out.2.2⟩,by have:=HQ.out.1.size;omega,ap HQ.out.2.2,h.sg⟩
  have HA:Hid (∀X,LC S g W W.heap.size t q R.a.id R.b.id X st->Da R.a.id #[spg g] X fun rr w'=>rr=.returned (.tuple #[])/\LC S g W W.heap.size t q R.a.id R.b.id w' s1):=fun X hX=>by
   obtain ⟨Si,x1,x2,x3,x4⟩:=hX.ex;refine (vY R.a x1 (by rw [e];simp) (hz.mono (by omega))).mono ?_;rintro rr w' ⟨rfl,m⟩;rw [hs1] at m;exact ⟨rfl,hX.step x2 x3 x4 m.w⟩
  have HP:Hid (∀X,LC S g W W.heap.size t q R.a.id R.b.id X s1->Da 71 #[spg g,.int .i64 t.f] X fun rr w'=>rr=.returned (.tuple #[])/\LC S g W W.heap.size t q R.a.id R.b.id w' s2):=fun X hX=>by
   obtain ⟨Si,x1,x2,x3,x4⟩:=hX.ex;refine (lD x1 (by have:=z1.1;omega) hm1 t.f).mono ?_;rintro rr w' ⟨rfl,m⟩;rw [hs2] at m;exact ⟨rfl,hX.step x2 x3 x4 m.w⟩
  have HEn:Hid (∀X,LC S g W W.heap.size t q R.a.id R.b.id X s2->Da 26 #[spg g] X fun rr w'=>rr=.returned (.tuple #[])/\LC S g W W.heap.size t q R.a.id R.b.id w' s3):=fun X hX=>by
   obtain ⟨Si,x1,x2,x3,x4⟩:=hX.ex;refine (iG x1 (by have:=z2.1;omega)).mono ?_;rintro rr w' ⟨rfl,m⟩;rw [hs3] at m;exact ⟨rfl,hX.step x2 x3 x4 m.w⟩
  have HAn:Hid (∀X,LC S g W W.heap.size t q R.a.id R.b.id X s3->Da 46 #[spg g,.func (.func 72) #[] #[]] X fun rr w'=>rr=.returned (.bool (s3.ws.any bm))/\LC S g W W.heap.size t q R.a.id R.b.id w' s3):=fun X hX=>by
   obtain ⟨Si,x1,x2,x3,x4⟩:=hX.ex;obtain ⟨vn,vw,hv,_⟩:=x1.ex;refine (tQ hv (by have:=z3.1;omega)).mono ?_;rintro rr w' ⟨rfl,hb⟩;exact ⟨rfl,hX.below hb⟩
  have HBl:Hid (∀X,LC S g W W.heap.size t q R.a.id R.b.id X s3->s3.pt=true/\s3.ws.any bm=false->Da 73 #[spg g] X fun rr w'=>rr=.returned (.tuple #[])/\LC S g W W.heap.size t q R.a.id R.b.id w' s4):=fun X hX hd=>by
   obtain ⟨Si,x1,x2,x3,x4⟩:=hX.ex;refine (fL x1 (by rw [e3];exact e1) (z3.mono (by omega))).mono ?_;rintro rr w' ⟨rfl,m⟩
   have e9:s3.aw .S=s4:=by
    rw [<-hs4];unfold Sy.part;rw [if_pos hd];unfold Sy.aw;have:awN .S s3.ns=s3.ns:=by cases s3.ns with|nil=>rfl|cons x y=>rfl
    rw [this];rfl
   rw [e9] at m;exact ⟨rfl,hX.step x2 x3 x4 m.w⟩
  have HNp:Hid (¬(s3.pt=true/\s3.ws.any bm=false)->s3=s4):=fun hd=>by rw [<-hs4];unfold Sy.part;rw [if_neg hd]
  have HCp:Hid (∀X,LC S g W W.heap.size t q R.a.id R.b.id X s3->X.cell? ⟨g,7,none⟩=some (.bool s3.pt)):=fun X hX=>by
   obtain ⟨Si,x1,x2,x3,x4⟩:=hX.ex;obtain ⟨vn,vw,hv,_⟩:=x1.ex;exact hv.sb.cells.2.2.2.2.2.2.2
  have HLf:Hid ((st.leaf t).2=s4.ws++[dT t.t]/\(st.leaf t).1=Sy.aws ⟨s4.ns,[],none,true,false,false⟩ R.b.pz):=by
   unfold Sy.leaf;rw [e];simp only;rw [hR];have:st.ready R.a t.f=s4:=by unfold Sy.ready;rw [hs1,hs2,hs3,hs4]
   rw [this];exact ⟨rfl,rfl⟩
  have HTx:Hid (∀X,Da 74 #[.agg #[.int .u8 t.k,.string t.t,.int .i64 t.a,.int .i64 t.l,.int .i64 t.c,.int .i64 t.f]] X fun e w'=>e=.returned (.agg #[.int .u8 1,.string t.t,.int .i64 0,.int .i64 0,.bool false])/\Below X.heap.size X w'):=jj t;have HZ4:=show Hid (s4.ns≠[]/\s4.ws.length<=900000005/\(∀x∈s4.ns,x.b<=900000005)/\s4.ns.length<=900000005) from ⟨by rw [e4];exact e1,z4,z4n,z4l⟩
  have eA:=vW R.a;have eB:=vW R.b;clear h hz hm e hB hT hc y0 y1 y2 hR hsix hRv HRow HI HK t0 t1 t2 t3 t4 t5 hbl hTlt HV HVs HBz HQz HQy hs1 hs2 hs3 hs4 z1 z2 z3 z4 e1 e3 e4 z4n z4l hm1;obtain ⟨r7,r8⟩:=HL1.out.rb.cells
  go_wp2_with fail
  refine (HA.out _ HL1.out).mono ?_;rintro rr w2 ⟨rfl,hL2⟩;obtain ⟨t0,t1,t2,t3,t4,t5⟩:=hL2.tb.cells;have HL2:=show Hid (LC S g W W.heap.size t q R.a.id R.b.id w2 s1) from hL2
  clear hL2 HA HL1 r7 r8 eA
  go_upto_region 5 with (first|(go_at_call 71;refine (HP.out _ HL2.out).mono ?_;rintro rr w3 ⟨rfl,hL3⟩;have HL3:=show Hid (LC S g W W.heap.size t q R.a.id R.b.id w3 s2) from hL3;clear hL3)|(go_at_call 26;refine (HEn.out _ HL3.out).mono ?_;rintro rr w4 ⟨rfl,hL4⟩;have HL4:=show Hid (LC S g W W.heap.size t q R.a.id R.b.id w4 s3) from hL4;clear hL4))
  clear t0 t1 t2 t3 t4 t5 HP HEn HL2 HL3;have c7:=HCp.out _ HL4.out;obtain ⟨b9,hb9⟩:∃b9:Bool,decide (s3.pt=true/\s3.ws.any bm=false)=b9:=⟨_,rfl⟩;have HX9:=show Hid (decide (s3.pt=true/\s3.ws.any bm=false)=b9) from hb9
  clear hb9
  go_cut [31] from 23 to 31 (fun t9 wx=>t9=.bool b9/\Hid (LC S g W W.heap.size t q R.a.id R.b.id wx s3))
  case first=>
   cases hp:s3.pt with
   |false=>
    have HY:Hid (false=b9):=by rw [<-HX9.out,decide_eq_false (fun h=>by rw [hp] at h;cases h.1)];exact rfl
    rw [hp] at c7;clear HX9 hp HBl HNp HCp
    go_wp2_with fail
    go_meet
    exact ⟨by rw [HY.out],HL4⟩
   |true=>
    rw [hp] at c7;cases ha:s3.ws.any bm with
    |true=>
     have HY:Hid (false=b9):=by rw [<-HX9.out,decide_eq_false (fun h=>by rw [ha] at h;cases h.2)];exact rfl
     rw [ha] at HAn;clear HX9 hp ha HBl HNp HCp
     go_wp2_with (go_at_call 46;refine (HAn.out _ HL4.out).mono ?_;rintro rr w5 ⟨rfl,hL5⟩;have HL5:=show Hid (LC S g W W.heap.size t q R.a.id R.b.id w5 s3) from hL5;clear hL5)
     go_meet
     exact ⟨by rw [HY.out],HL5⟩
    |false=>
     have HY:Hid (true=b9):=by rw [<-HX9.out,decide_eq_true ⟨hp,ha⟩];exact rfl
     rw [ha] at HAn;clear HX9 hp ha HBl HNp HCp
     go_wp2_with (go_at_call 46;refine (HAn.out _ HL4.out).mono ?_;rintro rr w5 ⟨rfl,hL5⟩;have HL5:=show Hid (LC S g W W.heap.size t q R.a.id R.b.id w5 s3) from hL5;clear hL5)
     go_meet
     exact ⟨by rw [HY.out],HL5⟩
  case rest=>
  obtain ⟨rfl,HL5⟩:=hcut;obtain ⟨w5,hw5⟩:∃w5,w5=wc:=⟨wc,rfl⟩;subst hw5;clear HL4 c7
  go_upto_if 31 with fail
  go_cut [] from 32 to 33 (fun wx=>Hid (LC S g W W.heap.size t q R.a.id R.b.id wx s4))
  case first=>
   cases b9 with
   |true=>
    have HB:=show Hid (Da 73 #[spg g] w5 fun rr w'=>rr=.returned (.tuple #[])/\LC S g W W.heap.size t q R.a.id R.b.id w' s4) from HBl.out _ HL5.out (of_decide_eq_true HX9.out)
    clear HX9 HBl HNp HCp HAn
    go_wp2_with (go_at_call 73;refine HB.out.mono ?_;rintro rr w6 ⟨rfl,hL6⟩;have HL6:=show Hid (LC S g W W.heap.size t q R.a.id R.b.id w6 s4) from hL6;clear hL6)
    go_meet
    exact HL6
   |false=>
    have HL6:=show Hid (LC S g W W.heap.size t q R.a.id R.b.id w5 s4) from (by have:=HNp.out (of_decide_eq_false HX9.out);rw [<-this];exact HL5.out)
    clear HX9 HBl HNp HCp HAn
    go_wp2_with fail
    go_meet
    exact HL6
  case rest=>
  have HL6:=hcut;obtain ⟨w6,hw6⟩:∃w6,w6=wc:=⟨wc,rfl⟩;subst hw6;clear hcut HL5 HX9 HBl HNp HCp HAn;obtain ⟨vw,k1,⟨pw,cw,evw⟩,k3,k4⟩:=HL6.out.lay;subst evw;obtain ⟨vnv,hvn⟩:∃vnv,(w6.cell? ⟨g,1,none⟩).getD undef=vnv:=⟨_,rfl⟩;rw [hvn] at k4;have HK4:=show Hid (∀V1 w3 v' l,Below w6.heap.size w6 V1->Rd w3 v' l->V1.grownBy w3 (Value.slice pw s4.ws.length cw).ownBlock->Nb V1 (.slice pw s4.ws.length cw) v'->(SB w3 g false vnv (.slice pw s4.ws.length cw) s4.mr.isSome (s4.mr.getD 0:Nat) s4.wr s4.en s4.pt)/\∀w5,Kp (fun k=>k=g) w3 w5->SB w5 g false vnv (.slice none 0 0) false 0 true false false->∃Si,SS Si w5 g ⟨s4.ns,[],none,true,false,false⟩/\Rwb w5 q R.a.id R.b.id/\∀w6 st6,Mw Si g w5 w6 st6->An S g W w6 v' l st6) from k4
  have HK3:=show Hid (∀X,Below w6.heap.size w6 X->Rd X (.slice pw s4.ws.length cw) s4.ws) from (fun X hX=>cf k3 hX)
  obtain ⟨t0,t1,t2,t3,t4,t5⟩:=HL6.out.tb.cells;have hTl:=HL6.out.tq.1;have hll:=HZ4.out.2.1;have HKc:=show Hid (∀X,Below w6.heap.size w6 X->X.cell? ⟨g,2,none⟩=some (.slice pw s4.ws.length cw)/\Tkb X W.heap.size t) from (fun X hX=>⟨aY k1 hX,ab HL6.out.tb hX⟩)
  clear k3 k4 hvn
  go_upto_region 7 with fail
  go_cut [6] from 34 to 41 (fun t9 wx=>∃p n c,t9=.slice p n c/\Hid ((SB wx g false vnv (.slice pw s4.ws.length cw) s4.mr.isSome (s4.mr.getD 0:Nat) s4.wr s4.en s4.pt)/\∀w5,Kp (fun k=>k=g) wx w5->SB w5 g false vnv (.slice none 0 0) false 0 true false false->∃Si,SS Si w5 g ⟨s4.ns,[],none,true,false,false⟩/\Rwb w5 q R.a.id R.b.id/\∀w6 st6,Mw Si g w5 w6 st6->An S g W w6 (.slice p n c) (s4.ws++[dT t.t]) st6))
  case first=>
   have HBd:=show Hid (Below w6.heap.size w6 w6.drew) from (Below.refl _ _).drew
   go_region_law (first|(go_simp;go_at_call 74;refine (HTx.out _).mono ?_;rintro rr w7 ⟨rfl,hb7⟩;have HB7:=show Hid (Below w6.heap.size w6 w7) from (Below.refl w6.heap.size w6).drew.trans (hb7.mono (Nat.le_refl _));have y1:=(HKc.out _ HB7.out).1;obtain ⟨u0,u1,u2,u3,u4,u5⟩:=(HKc.out _ HB7.out).2.cells;have hg7:=World.block_lt_of_cell? _ _ y1;clear hb7)|(refine ul (by rfl) _ _ (by rfl) (.slice pw s4.ws.length cw) s4.ws (dT t.t) (by rfl) (HK3.out _ (HB7.out.alloc HB7.out.size _)) w7.heap.size 1 (by rfl) (am w7 _) (by omega) ?_;intro q9 cp w8 hr8 hg8 hq8;have HX8:=show Hid _ from HK4.out _ _ _ _ (HB7.out.alloc HB7.out.size _) hr8 hg8 (by rcases hq8 with h|h;exact .inl h.symm;exact .inr ⟨q9,rfl,by omega⟩);clear hr8 hg8 hq8))
   all_goals (
    go_wp2_with fail
    go_meet
    exact ⟨_,_,_,rfl,HX8⟩)
  case rest=>
  obtain ⟨p9,n9,c9,rfl,HX⟩:=hcut;obtain ⟨w8,hw8⟩:∃w8,w8=wc:=⟨wc,rfl⟩;subst hw8;have hsb:=HX.out.1;obtain ⟨c0,c1,c2,c3,c4,c5,c6,c7⟩:=hsb.cells;have f2:=hsb.frozen 2;have f3:=hsb.frozen 3;have f4:=hsb.frozen 4;have f5:=hsb.frozen 5;have f6:=hsb.frozen 6;have f7:=hsb.frozen 7;have hk9:Kp (fun k=>k=g) w8 ((((((w8.setCell ⟨g,2,none⟩ (.slice none 0 0)).setCell ⟨g,3,none⟩ (.bool false)).setCell ⟨g,4,none⟩ (.int .i64 0)).setCell ⟨g,6,none⟩ (.bool false)).setCell ⟨g,7,none⟩ (.bool false)).setCell ⟨g,5,none⟩ (.bool true)):=(((((Kp.set _ _ _ _).trans (Kp.set _ _ _ _)).trans (Kp.set _ _ _ _)).trans (Kp.set _ _ _ _)).trans (Kp.set _ _ _ _)).trans (Kp.set _ _ _ _);have hs9:SB ((((((w8.setCell ⟨g,2,none⟩ (.slice none 0 0)).setCell ⟨g,3,none⟩ (.bool false)).setCell ⟨g,4,none⟩ (.int .i64 0)).setCell ⟨g,6,none⟩ (.bool false)).setCell ⟨g,7,none⟩ (.bool false)).setCell ⟨g,5,none⟩ (.bool true)) g false vnv (.slice none 0 0) false 0 true false false:=af (af (af (af (af (af hsb 2 _) 3 _) 4 _) 6 _) 7 _) 5 _;obtain ⟨Si,x1,x2,x3⟩:=HX.out.2 _ hk9 hs9;have HSi:=hid x1;have HFi:=hid x3;have r8:=x2.cells.2;obtain ⟨w9,hw9⟩:∃w9,(((((w8.setCell ⟨g,2,none⟩ (.slice none 0 0)).setCell ⟨g,3,none⟩ (.bool false)).setCell ⟨g,4,none⟩ (.int .i64 0)).setCell ⟨g,6,none⟩ (.bool false)).setCell ⟨g,7,none⟩ (.bool false)).setCell ⟨g,5,none⟩ (.bool true)=w9:=⟨_,rfl⟩;rw [hw9] at r8;have HW9:=show Hid ((((((w8.setCell ⟨g,2,none⟩ (.slice none 0 0)).setCell ⟨g,3,none⟩ (.bool false)).setCell ⟨g,4,none⟩ (.int .i64 0)).setCell ⟨g,6,none⟩ (.bool false)).setCell ⟨g,7,none⟩ (.bool false)).setCell ⟨g,5,none⟩ (.bool true)=w9) from hw9
  have HBe:Hid (Da R.b.id #[spg g] w9 fun rr w'=>rr=.returned (.tuple #[])/\An S g W w' (.slice p9 n9 c9) (st.leaf t).2 (st.leaf t).1):=by
   rw [<-hw9];obtain ⟨y1,y2,y3,y4⟩:=HZ4.out;refine (vY R.b HSi.out y1 ⟨by simp,by show s4.ns.length<=_;omega,fun x hx=>by have:=y3 x hx;omega⟩).mono ?_;rintro rr w' ⟨rfl,m⟩;rw [HLf.out.1,HLf.out.2];exact ⟨rfl,HFi.out _ _ m.w⟩
  clear hw9 hk9 hs9 x1 x2 x3 hsb HX HSi HFi HLf HK3 HK4 HKc HL6 t0 t1 t2 t3 t4 t5 k1 hTl HTx
  go_upto_region 10 with fail
  rw [HW9.out];clear c0 c1 c2 c3 c4 c5 c6 c7 f2 f3 f4 f5 f6 f7
  go_wp2_with fail
  refine HBe.out.mono ?_;rintro rr w10 ⟨rfl,hA⟩;have HAn:=show Hid (An S g W w10 (.slice p9 n9 c9) (st.leaf t).2 (st.leaf t).1) from hA
  clear hA HBe
  go_wp2_with fail
  go_ret
  exact ⟨_,rfl,HAn.out⟩
end Go.Proofs.YtpdlohfdjiaegaaGreatDoor
