import Derived.Test.YtpdlohfdjiaegaaGreatDoorM17
import Derived.Test.YtpdlohfdjiaegaaGreatDoorM39
set_option linter.unusedVariables false
set_option linter.unusedSimpArgs false
namespace Go.Proofs.YtpdlohfdjiaegaaGreatDoor
open Go.RowKit
open Lw (Dc bE rt frm dep rtT rtN dcs dcs_len dcs_one)
def Lev (w:World) (ao:Option Addr) (l:List Ev):Prop:=∀j e,l[j]?=some e→∃b off,ao=some ⟨b,off,none⟩ ∧
 w.cell? ⟨b,off+j*8,none⟩=some (.int .u8 e.k)∧w.cell? ⟨b,off+j*8+1,none⟩=some (.int .u8 e.n)∧w.cell? ⟨b,off+j*8+2,none⟩=some (.int .u8 e.d.k)∧w.cell? ⟨b,off+j*8+3,none⟩=some (.string e.d.t)∧w.cell? ⟨b,off+j*8+4,none⟩=some (.int .i64 e.d.a)∧w.cell? ⟨b,off+j*8+5,none⟩=some (.int .i64 e.d.l)∧w.cell? ⟨b,off+j*8+6,none⟩=some (.int .i64 e.d.c)∧w.cell? ⟨b,off+j*8+7,none⟩=some (.int .i64 e.d.f)
theorem Lev.below {w w':World}{ao:Option Addr}{l:List Ev}(h:Lev w ao l) (hb:Below w.heap.size w w'):Lev w' ao l:=by
 intro j a ha
 obtain ⟨b,off,h1,c0,c1,c2,c3,c4,c5,c6,c7⟩:=h j a ha
 have hlt:=World.block_lt_of_cell? _ _ c0
 have e:w'.heap[b]?=w.heap[b]?:=(Kp.of_below (S:=fun _=>False) hb).block b hlt (fun h=>h)
 exact ⟨b,off,h1,(World.cell?_of_block (a:=⟨b,_,none⟩) e).trans c0,(World.cell?_of_block (a:=⟨b,_,none⟩) e).trans c1,(World.cell?_of_block (a:=⟨b,_,none⟩) e).trans c2,(World.cell?_of_block (a:=⟨b,_,none⟩) e).trans c3,(World.cell?_of_block (a:=⟨b,_,none⟩) e).trans c4,(World.cell?_of_block (a:=⟨b,_,none⟩) e).trans c5,(World.cell?_of_block (a:=⟨b,_,none⟩) e).trans c6,(World.cell?_of_block (a:=⟨b,_,none⟩) e).trans c7⟩
theorem re_lev {w:World}{p:Option Addr}{n cap:Nat}{l:List Ev}(h:Re w (.slice p n cap) l):Lev w p l:=by
 intro j d hj
 rcases h.2 with ⟨h1,h0⟩|⟨g,cap',cur,h1,_⟩
 ·have:l=[]:=List.eq_nil_of_length_eq_zero h0
  subst this
  simp at hj
 ·cases h1
  have hc:∀(k:Nat) (u:Value),(ecs l)[k]?=some u→w.cell? ⟨g,k,none⟩=some u:=fun k u hu=>by
   have:=World.ownsRow.cells h (g:=g) rfl k u hu
   rw [Addr.add_lit,Nat.zero_add] at this
   exact this
  refine ⟨g,0,rfl,?_,?_,?_,?_,?_,?_,?_,?_⟩
  ·rw [Nat.zero_add];exact hc _ _ (flat_at Ev.cs 8 Ev.cs_len l j 0 d _ hj rfl)
  ·rw [Nat.zero_add];exact hc _ _ (flat_at Ev.cs 8 Ev.cs_len l j 1 d _ hj rfl)
  ·rw [Nat.zero_add];exact hc _ _ (flat_at Ev.cs 8 Ev.cs_len l j 2 d _ hj rfl)
  ·rw [Nat.zero_add];exact hc _ _ (flat_at Ev.cs 8 Ev.cs_len l j 3 d _ hj rfl)
  ·rw [Nat.zero_add];exact hc _ _ (flat_at Ev.cs 8 Ev.cs_len l j 4 d _ hj rfl)
  ·rw [Nat.zero_add];exact hc _ _ (flat_at Ev.cs 8 Ev.cs_len l j 5 d _ hj rfl)
  ·rw [Nat.zero_add];exact hc _ _ (flat_at Ev.cs 8 Ev.cs_len l j 6 d _ hj rfl)
  ·rw [Nat.zero_add];exact hc _ _ (flat_at Ev.cs 8 Ev.cs_len l j 7 d _ hj rfl)
structure YI (w:World) (g:Nat) (v:Value) (D:List Dc) (st:Sst) (S:Nat→Prop) (W:World):Prop where
 bel:Below w.heap.size w W
 sq:Sq S W g st
 sB:∀k,S k→w.heap.size≤k
 rd:Rd W v D
 vB:∀k,v.ownBlock=some k→w.heap.size≤k∧¬S k
structure YJ (w:World) (g:Nat) (v x:Value) (D ds:List Dc) (st:Sst) (W:World):Prop where
 rv:Rd W v D
 rx:Rd W x ds
 fin:∀v' w',Rd w' v' (D++ds)→Kp (fun k=>v.ownBlock=some k) W w'→Nb W v v'→∃S,YI w g v' (D++ds) st S w'
 ex:∃S,YI w g v D st S W
theorem rd_lt {W:World}{v:Value}{l:List Dc}(h:Rd W v l):∀k,v.ownBlock=some k→k<W.heap.size:=by
 intro k hk
 rcases h.2 with ⟨rfl,_⟩|⟨b,cap,cur,rfl,_,h3,_⟩
 ·cases hk
 ·simp only [Value.ownBlock,Option.some.injEq] at hk
  subst hk
  exact blk_lt h3
theorem YI.call {w:World}{g:Nat}{v:Value}{D:List Dc}{st:Sst}{S:Nat→Prop}{W W':World}(h:YI w g v D st S W) {x:Value}{ds:List Dc}{st':Sst}(hp:Aq S g W W' x ds st'):YJ w g v x D ds st' W':=by
 obtain ⟨⟨S',p1,p3,p4⟩,hre,hkp⟩:=hp
 have hb:Below w.heap.size w W':=kp_low2 h.bel hkp (fun k hk=>h.sB k hk) h.bel.size
 have hs':∀k,S' k→w.heap.size≤k:=by
  intro k hk
  rcases p3 k hk with a|a
  ·exact h.sB k a
  ·exact Nat.le_trans h.bel.size a
 have hv:Rd W' v D:=hkp.row h.rd (fun k e=>(h.vB k e).2)
 have hvS:∀k,v.ownBlock=some k→w.heap.size≤k∧¬S' k:=by
  intro k e
  refine ⟨(h.vB k e).1,fun hs=>?_⟩
  rcases p3 k hs with a|a
  ·exact (h.vB k e).2 a
  ·have:=rd_lt h.rd k e;omega
 refine ⟨hv,hre,fun v' w' hr hk hn=>⟨S',?_⟩,S',hb,p1,hs',hv,hvS⟩
 refine ⟨kp_low2 hb hk (fun k e=>(h.vB k e).1) hb.size,p1.kp hk (fun k hs e=>(hvS k e).2 hs),hs',hr,?_⟩
 intro k e
 rcases hn with e1|⟨q,e1,hq⟩
 ·exact hvS k (by rw [←e1];exact e)
 ·rw [e1] at e
  simp at e
  subst e
  exact ⟨Nat.le_trans hb.size hq,fun hs=>by have:=p1.lt _ hs;omega⟩
def LyP (W:World) (E:List Ev) (r:Ending) (w':World):Prop:=
 ∃p n c,r=.returned (.tuple #[.slice p n c,.bool (slay sy0 E).isSome])∧Below W.heap.size W w'∧∀L,slay sy0 E=some L→Rd w' (.slice p n c) L∧(∀k,(Value.slice p n c).ownBlock=some k→W.heap.size≤k)∧L.length≤12*E.length+12
theorem slay_put {s:Sy}{e:Ev}{r:List Ev}:slay s (e :: r)=match sput s e with|none=>none|some (s',l)=>(slay s' r).map (l++·):=rfl
set_option maxHeartbeats 2000000 in
theorem layout_any (E:List Ev) (ao:Option Addr) (cap:Nat) (W:World) (hL:Lev W ao E) (hl:E.length≤30000000) (ht:∀e∈E,e.d.t.size≤9223372036854775807) :
  Calls Tryz.prog 32 #[.slice ao E.length cap] W fun r w'=>LyP W E r w':=by
 have HM:Hid (E.length≤30000000∧∀e∈E,e.d.t.size≤9223372036854775807):=⟨hl,ht⟩
 have HLe:Hid (∀V,Below W.heap.size W V→Lev V ao E):=fun V hb=>hL.below hb
 have HNew:Hid (∀V,Calls Tryz.prog 10 #[] V fun r w'=>r=.returned (spg V.heap.size)∧Sq (fun k=>k=V.heap.size) w' V.heap.size (.live sy0)∧Below V.heap.size V w'):=new_styler
 clear hL hl ht
 go_enter Tryz.func32,Tryz.ntmps32
 go_wp2_with fail
 refine (HNew.out _).mono ?_
 rintro r w5 ⟨rfl,hq,hb⟩
 obtain ⟨g,hg⟩:∃g,W.heap.size=g:=⟨_,rfl⟩
 have HI:Hid (∃S,YI W W.heap.size (.slice none 0 0) [] (.live sy0) S w5):=⟨_,hb,hq,fun k e=>by rw [e];omega,rd_nil _,fun k e=>by cases e⟩
 rw [hg] at HI ⊢
 clear hq hb hg HNew
 go_wp2_with fail
 go_loopw [5,6,7,8] (fun v i _ _ wr=>∃j:Nat,j≤E.length∧i=.int .i64 j∧Hid (∃S s D,YI W g v D (.live s) S wr∧slay sy0 E=(slay s (E.drop j)).map (D++·)∧D.length+phi s≤12*j∧s.ns.length≤j∧Mo s)) (fun _ i _ _ _=>E.length-(intOf i).toNat)
 case atStart=>
  obtain ⟨S,hI⟩:=HI.out
  exact ⟨0,Nat.zero_le _,rfl,S,_,[],hI,by simp,by decide,by decide,fun m hm=>by cases hm⟩
 case round=>
  obtain ⟨j,hj,rfl,HJ⟩:=hrel
  obtain ⟨S,s,D,hI,hR,hz,hn,hm⟩:=HJ.out
  obtain ⟨pv,cpv,hv,_⟩:=rd_shape hI.rd
  subst hv
  obtain ⟨hEl,hEt⟩:=HM.out
  have hbd:Sbd (.live s):=sbd_of (j:=j) (by omega) hn hm (by omega)
  by_cases hlt:j<E.length
  ·have q1:(j:Int)<E.length:=by omega
   have q0:(0:Int)≤j:=by omega
   obtain ⟨t,hT⟩:∃t,E[j]?=some t:=⟨_,List.getElem?_eq_getElem hlt⟩
   have hdr:E.drop j=t :: E.drop (j+1):=by
    obtain ⟨a1,a2⟩:=List.getElem?_eq_some_iff.1 hT
    rw [List.drop_eq_getElem_cons a1,a2]
   have htt:=hEt t (List.mem_of_getElem? hT)
   obtain ⟨b,off,rfl,x0,x1,x2,x3,x4,x5,x6,x7⟩:=HLe.out wr hI.bel j t hT
   rw [hdr,slay_put] at hR
   have hP:=sput_any hI.sq hbd t htt
   clear HJ HI hdr hT hbd htt hEt
   cases hs:sput s t with
   |none=>
    rw [hs] at hR
    have hpp:pput t (.live s)=(130,[],.live s):=by show (match sput s t with|none=>_|some (s',l)=>_)=_;rw [hs]
    rw [hpp] at hP
    have HP:Hid (Calls Tryz.prog 21 #[spg g,.agg #[.int .u8 t.k,.int .u8 t.n,.int .u8 t.d.k,.string t.d.t,.int .i64 t.d.a,.int .i64 t.d.l,.int .i64 t.d.c,.int .i64 t.d.f]] wr fun rr w'=>∃v,rr=.returned (.tuple #[v,.int .i64 130])∧Aq S g wr w' v [] (.live s)):=hP
    have HN:Hid (∀w' x,Aq S g wr w' x [] (.live s)→YJ W g (.slice pv D.length cpv) x D [] (.live s) w'):=fun w' x hx=>hI.call hx
    have HR:Hid (slay sy0 E=none):=hR
    clear hI hR hP hpp hs hz hn hm
    go_wp2_with fail
    refine HP.out.mono ?_
    rintro r w6 ⟨x,rfl,hx⟩
    have H6:Hid (YJ W g (.slice pv D.length cpv) x D [] (.live s) w6):=HN.out _ _ hx
    obtain ⟨px,cx,hxs,_⟩:=rd_shape H6.out.rx
    subst hxs
    clear hx
    go_wp2_with fail
    obtain ⟨S2,hI2⟩:=H6.out.ex
    refine bodyPost_ret (v:=.tuple #[.slice none 0 0,.bool false]) (by simp [results,Tryz.f32,go_sem]) rfl ?_
    exact ⟨none,0,0,by rw [HR.out];rfl,hI2.bel,fun L hL=>by rw [HR.out] at hL;cases hL⟩
   |some pr=>
    obtain ⟨s',ds⟩:=pr
    rw [hs] at hR
    have hpp:pput t (.live s)=(0,ds,.live s'):=by show (match sput s t with|none=>_|some (s',l)=>_)=_;rw [hs]
    rw [hpp] at hP
    have HP:Hid (Calls Tryz.prog 21 #[spg g,.agg #[.int .u8 t.k,.int .u8 t.n,.int .u8 t.d.k,.string t.d.t,.int .i64 t.d.a,.int .i64 t.d.l,.int .i64 t.d.c,.int .i64 t.d.f]] wr fun rr w'=>∃v,rr=.returned (.tuple #[v,.int .i64 0])∧Aq S g wr w' v ds (.live s')):=hP
    have HN:Hid (∀w' x,Aq S g wr w' x ds (.live s')→YJ W g (.slice pv D.length cpv) x D ds (.live s') w'):=fun w' x hx=>hI.call hx
    obtain ⟨z1,z2,z3⟩:=phi_put hs
    have hR2:slay sy0 E=((slay s' (E.drop (j+1))).map (ds++·)).map (D++·):=hR
    have HK:Hid (slay sy0 E=(slay s' (E.drop (j+1))).map ((D++ds)++·)∧(D++ds).length+phi s'≤12*(j+1)∧s'.ns.length≤j+1∧Mo s'∧D.length+ds.length≤1000000000000):=⟨by rw [hR2];generalize slay s' (E.drop (j+1))=o;cases o <;> simp,by rw [List.length_append];omega,by omega,z3 hm,by omega⟩
    clear hI hR hR2 hP hpp hs hz hn hm z1 z2 z3
    go_wp2_with fail
    refine HP.out.mono ?_
    rintro r w6 ⟨x,rfl,hx⟩
    have H6:Hid (YJ W g (.slice pv D.length cpv) x D ds (.live s') w6):=HN.out _ _ hx
    obtain ⟨px,cx,hxs,_⟩:=rd_shape H6.out.rx
    subst hxs
    clear hx
    go_wp2_with (at_builtin;refine app_ds (by rfl) _ _ (by rfl) (.slice pv D.length cpv) (.slice px ds.length cx) D ds (by rfl) H6.out.rv (by rfl) H6.out.rx HK.out.2.2.2.2 ?_;intro v3 w7 h3 k3 n3;have H7:Hid (∃S,YI W g v3 (D++ds) (.live s') S w7):=H6.out.fin _ _ h3 k3 n3;clear h3 k3 n3)
    obtain ⟨S3,hI3⟩:=H7.out
    exact ⟨⟨j+1,hlt,by go_num,S3,s',D++ds,hI3,HK.out.1,HK.out.2.1,HK.out.2.2.1,HK.out.2.2.2.1⟩,by simp [intOf];omega⟩
  ·obtain rfl:j=E.length:=by omega
   have q1:¬((E.length:Int)<E.length):=by omega
   rw [List.drop_length] at hR
   have hR':slay sy0 E=(sclo s).map (D++·):=hR
   have hP:=sclose_any hI.sq hbd
   obtain ⟨z,ds,st',hpp⟩:∃z ds st',pclo (.live s)=(z,ds,st'):=⟨_,_,_,rfl⟩
   have hcl:(sclo s).isSome=(z == 0)∧(∀l,sclo s=some l→ds=l)∧ds.length≤phi s+1:=by
    have hx:pclo (.live s)=(match sclo s with|none=>(130,[],.live s)|some l=>(0,l,.done)):=rfl
    rw [hx] at hpp
    cases hc:sclo s with
    |none=>
     rw [hc] at hpp
     cases hpp
     exact ⟨rfl,fun l h=>(nomatch h),Nat.zero_le _⟩
    |some l=>
     rw [hc] at hpp
     cases hpp
     refine ⟨rfl,fun l' h=>Option.some.inj h,?_⟩
     have h1:ds=s.endl.ws:=by
      unfold sclo at hc
      split at hc
      ·exact (Option.some.inj hc).symm
      ·cases hc
     rw [h1]
     unfold Sy.endl phi
     split
     ·show (dH :: s.ws).length≤_;simp only [List.length_cons];omega
     ·omega
   rw [hpp] at hP
   have HP:Hid (Calls Tryz.prog 14 #[spg g] wr fun rr w'=>∃v,rr=.returned (.tuple #[v,.int .i64 z])∧Aq S g wr w' v ds st'):=hP
   have HN:Hid (∀w' x,Aq S g wr w' x ds st'→YJ W g (.slice pv D.length cpv) x D ds st' w'):=fun w' x hx=>hI.call hx
   have HK:Hid ((slay sy0 E).isSome=(z == 0)∧(∀L,slay sy0 E=some L→L=D++ds)∧D.length+ds.length≤12*E.length+12∧D.length+ds.length≤1000000000000):=by
    refine ⟨by rw [hR',Option.isSome_map];exact hcl.1,fun L h=>?_,by have:=hcl.2.2;omega,by have:=hcl.2.2;omega⟩
    rw [hR'] at h
    obtain ⟨l,e1,e2⟩:=Option.map_eq_some_iff.1 h
    rw [←e2,hcl.2.1 l e1]
   clear hI hR hR' hP hpp hcl hz hn hm HJ HI hbd hEt
   go_wp2_with fail
   refine HP.out.mono ?_
   rintro r w6 ⟨x,rfl,hx⟩
   have H6:Hid (YJ W g (.slice pv D.length cpv) x D ds st' w6):=HN.out _ _ hx
   obtain ⟨px,cx,hxs,_⟩:=rd_shape H6.out.rx
   subst hxs
   clear hx
   go_wp2_with (at_builtin;refine app_ds (by rfl) _ _ (by rfl) (.slice pv D.length cpv) (.slice px ds.length cx) D ds (by rfl) H6.out.rv (by rfl) H6.out.rx HK.out.2.2.2 ?_;intro v3 w7 h3 k3 n3;have H7:Hid (∃S,YI W g v3 (D++ds) st' S w7):=H6.out.fin _ _ h3 k3 n3;obtain ⟨p3,c3,e3,_⟩:=rd_shape h3;rw [List.length_append] at e3;subst e3;clear h3 k3 n3)
   obtain ⟨S7,hI7⟩:=H7.out
   obtain ⟨y1,y2,y3,y4⟩:=HK.out
   refine bodyPost_ret (v:=.tuple #[.slice p3 (D.length+ds.length) c3,.bool (z == 0)]) (by simp [results,Tryz.f32,go_sem]) rfl ?_
   exact ⟨p3,_,c3,by rw [y1],hI7.bel,fun L hL=>by rw [y2 L hL];exact ⟨hI7.rd,fun k e=>(hI7.vB k e).1,by rw [List.length_append];exact y3⟩⟩
structure NI (w0:World) (ga gb:Nat) (sa sb:Sst) (S1 S2:Nat→Prop) (W:World):Prop where
 bel:Below w0.heap.size w0 W
 a:Sq S1 W ga sa
 b:Sq S2 W gb sb
 B1:∀k,S1 k→w0.heap.size≤k
 B2:∀k,S2 k→w0.heap.size≤k
 d:∀k,S1 k→¬S2 k
theorem NI.putA {w0:World}{ga gb:Nat}{sa sb:Sst}{S1 S2:Nat→Prop}{W W':World}(h:NI w0 ga gb sa sb S1 S2 W) {x:Value}{ds:List Dc}{st':Sst}(hp:Aq S1 ga W W' x ds st'):∃S1',NI w0 ga gb st' sb S1' S2 W'∧Rd W' x ds∧∀k,x.ownBlock=some k→¬S2 k:=by
 obtain ⟨⟨S',p1,p3,p4⟩,hre,hkp⟩:=hp
 refine ⟨S',⟨kp_low2 h.bel hkp h.B1 h.bel.size,p1,h.b.kp hkp (fun k h2 h1=>h.d k h1 h2),fun k hk=>(p3 k hk).elim (h.B1 k) (fun e=>Nat.le_trans h.bel.size e),h.B2,fun k hk h2=>?_⟩,hre,fun k hk h2=>?_⟩
 ·rcases p3 k hk with e|e
  ·exact h.d k e h2
  ·have:=h.b.lt k h2;omega
 ·rcases (p4 k hk).1 with e|e
  ·exact h.d k e h2
  ·have:=h.b.lt k h2;omega
theorem NI.putB {w0:World}{ga gb:Nat}{sa sb:Sst}{S1 S2:Nat→Prop}{W W':World}(h:NI w0 ga gb sa sb S1 S2 W) {x:Value}{ds:List Dc}{st':Sst}(hp:Aq S2 gb W W' x ds st'):∃S2',NI w0 ga gb sa st' S1 S2' W'∧Rd W' x ds:=by
 obtain ⟨⟨S',p1,p3,p4⟩,hre,hkp⟩:=hp
 refine ⟨S',⟨kp_low2 h.bel hkp h.B2 h.bel.size,h.a.kp hkp (fun k h1 h2=>h.d k h1 h2),p1,h.B1,fun k hk=>(p3 k hk).elim (h.B2 k) (fun e=>Nat.le_trans h.bel.size e),fun k h1 hk=>?_⟩,hre⟩
 rcases p3 k hk with e|e
 ·exact h.d k h1 e
 ·have:=h.a.lt k h1;omega
theorem NI.below {w0:World}{ga gb:Nat}{sa sb:Sst}{S1 S2:Nat→Prop}{W W':World}(h:NI w0 ga gb sa sb S1 S2 W) (hb:Below W.heap.size W W'):NI w0 ga gb sa sb S1 S2 W':=⟨h.bel.trans (hb.mono h.bel.size),h.a.below hb,h.b.below hb,h.B1,h.B2,h.d⟩
theorem rnD_rt:∀(l:List Dc) (o x:Int),rnD o l=some x→∀d∈l,rt d=true
 |[],_,_,_=>fun d hd=>by cases hd
 |a :: l,o,x,h=>by
  simp only [rnD] at h
  split at h
  ·rename_i hc
   intro d hd
   rcases List.mem_cons.1 hd with rfl|hd
   ·exact hc.1
   ·exact rnD_rt l _ _ h d hd
  ·cases h
theorem rt_sz {d:Dc}(h:rt d=true):d.t.size≤9223372036854775807:=by
 cases Lw.rt_of h with
 |text t hq=>have:=(Lw.rtT_len hq).2;show t.size≤_;omega
 |_=>show (bE).size≤_;exact Nat.zero_le _
def NJ (w0:World) (ga gb:Nat) (E:List Ev) (kk:Int) (j:Nat) (h l:Bool) (W:World):Prop:=
 ∃s sb S1 S2,NI w0 ga gb (.live s) sb S1 S2 W∧nck s h l (E.drop j)∧((j:Int)≤kk→sb=.live s)∧phi s≤12*j∧s.ns.length≤j∧Mo s∧∃L,Snd L s
def NK (w0:World) (ga gb:Nat) (E:List Ev) (kk:Int) (j:Nat) (t:Ev) (x:Value) (m:List Dc) (h l h' l':Bool) (W:World):Prop:=
 ∃s s' sb S1 S2,NI w0 ga gb (.live s') sb S1 S2 W∧Rd W x m∧(∀k,x.ownBlock=some k→¬S2 k)∧sput s t=some (s',m)∧pck (evL t) h l m=some (h',l')∧nck s' h' l' (E.drop (j+1))∧((j:Int)≤kk→sb=.live s)∧phi s≤12*j∧s.ns.length≤j∧Mo s∧∃L,Snd L s
theorem nj_put {w0 W:World}{ga gb j:Nat}{E:List Ev}{kk:Int}{h l:Bool}(H:NJ w0 ga gb E kk j h l W) {t:Ev}(ht:E[j]?=some t) (hj:j≤20000000) (hz:t.d.t.size≤9223372036854775807) :
  Calls Tryz.prog 21 #[spg ga,.agg #[.int .u8 t.k,.int .u8 t.n,.int .u8 t.d.k,.string t.d.t,.int .i64 t.d.a,.int .i64 t.d.l,.int .i64 t.d.c,.int .i64 t.d.f]] W fun rr w'=>∃p m c h' l',rr=.returned (.tuple #[.slice p (m:List Dc).length c,.int .i64 0])∧m.length≤400000000∧NK w0 ga gb E kk j t (.slice p m.length c) m h l h' l' w':=by
 obtain ⟨s,sb,S1,S2,hI,hN,hb,hp,hn,hm,L,hS⟩:=H
 have hdr:E.drop j=t :: E.drop (j+1):=by
  obtain ⟨a1,a2⟩:=List.getElem?_eq_some_iff.1 ht
  rw [List.drop_eq_getElem_cons a1,a2]
 rw [hdr] at hN
 obtain ⟨s',m,h',l',hs,hck,hN2⟩:=hN
 have hpp:pput t (.live s)=(0,m,.live s'):=by show (match sput s t with|none=>_|some (s',l)=>_)=_;rw [hs]
 have hP:=sput_any hI.a (sbd_of (j:=j) hp hn hm (by omega)) t hz
 rw [hpp] at hP
 refine hP.mono ?_
 rintro r w' ⟨v,rfl,hx⟩
 obtain ⟨S1',n1,n2,n3⟩:=hI.putA hx
 obtain ⟨p,c,hv,_⟩:=rd_shape n2
 subst hv
 have:=(phi_put hs).1
 exact ⟨p,m,c,h',l',rfl,by omega,s,s',sb,S1',S2,n1,n2,n3,hs,hck,hN2,hb,hp,hn,hm,L,hS⟩
theorem nk_next {w0 W:World}{ga gb j:Nat}{E:List Ev}{kk:Int}{t:Ev}{x:Value}{m:List Dc}{h l h' l':Bool}(H:NK w0 ga gb E kk j t x m h l h' l' W) (hk:¬(j:Int)<kk):NJ w0 ga gb E kk (j+1) h' l' W:=by
 obtain ⟨s,s',sb,S1,S2,n1,n2,n3,hs,hck,hN2,hb,hp,hn,hm,L,hS⟩:=H
 obtain ⟨z1,z2,z3⟩:=phi_put hs
 exact ⟨s',sb,S1,S2,n1,hN2,fun h=>by omega,by omega,by omega,z3 hm,_,(snd_put hS hs).1⟩
theorem nk_put {w0 W:World}{ga gb j:Nat}{E:List Ev}{kk:Int}{t:Ev}{p:Option Addr}{c:Nat}{m:List Dc}{h l h' l':Bool}(H:NK w0 ga gb E kk j t (.slice p m.length c) m h l h' l' W) (hk:(j:Int)<kk) (hj:j≤20000000) (hz:t.d.t.size≤9223372036854775807) :
  Calls Tryz.prog 21 #[spg gb,.agg #[.int .u8 t.k,.int .u8 t.n,.int .u8 t.d.k,.string t.d.t,.int .i64 t.d.a,.int .i64 t.d.l,.int .i64 t.d.c,.int .i64 t.d.f]] W fun rr w'=>∃p' c',rr=.returned (.tuple #[.slice p' m.length c',.int .i64 0])∧NJ w0 ga gb E kk (j+1) h' l' w'∧Lw.Lay w' p m∧Lw.Lay w' p' m:=by
 obtain ⟨s,s',sb,S1,S2,n1,n2,n3,hs,hck,hN2,hb,hp,hn,hm,L,hS⟩:=H
 obtain rfl:=hb (by omega)
 have hpp:pput t (.live s)=(0,m,.live s'):=by show (match sput s t with|none=>_|some (s',l)=>_)=_;rw [hs]
 have hP:=sput_any n1.b (sbd_of (j:=j) hp hn hm (by omega)) t hz
 rw [hpp] at hP
 refine hP.mono ?_
 rintro r w' ⟨v,rfl,hx⟩
 obtain ⟨S2',y1,y2⟩:=n1.putB hx
 obtain ⟨p',c',hv,_⟩:=rd_shape y2
 subst hv
 obtain ⟨z1,z2,z3⟩:=phi_put hs
 have n2':Rd w' (.slice p m.length c) m:=hx.2.2.row n2 n3
 have hsz:∀d∈m,d.t.size≤9223372036854775807:=fun d hd=>rt_sz (rnD_rt _ _ _ (snd_put hS hs).1.r d (List.mem_append_left _ (List.mem_append_right _ hd)))
 obtain ⟨a1,b1,e1,_,l1,_⟩:=Lw.Lay.row n2' hsz
 obtain ⟨a2,b2,e2,_,l2,_⟩:=Lw.Lay.row y2 hsz
 injection e1 with e11
 injection e2 with e21
 subst e11 e21
 exact ⟨_,_,rfl,⟨s',.live s',S1,S2',y1,hN2,fun _=>rfl,by omega,by omega,z3 hm,_,(snd_put hS hs).1⟩,l1,l2⟩
end Go.Proofs.YtpdlohfdjiaegaaGreatDoor
namespace Go.Proofs.YtpdlohfdjiaegaaGreatDoor
open Go.RowKit
def PB (W:World) (g:Nat) (c:Bool) (e n:Int) (vs vt:Value):Prop:=W.heap[g]?=some (.cells #[.bool c,.int .i64 e,.int .i64 n,vs,vt] 104 (0,0))
theorem PB.cells {W:World}{g:Nat}{c:Bool}{e n:Int}{vs vt:Value}(h:PB W g c e n vs vt) :
  W.cell? ⟨g,0,none⟩=some (.bool c)∧W.cell? ⟨g,1,none⟩=some (.int .i64 e)∧W.cell? ⟨g,2,none⟩=some (.int .i64 n)∧W.cell? ⟨g,3,none⟩=some vs∧W.cell? ⟨g,4,none⟩=some vt:=
 ⟨blk_cell h rfl,blk_cell h rfl,blk_cell h rfl,blk_cell h rfl,blk_cell h rfl⟩
theorem PB.frozen {W:World}{g:Nat}{c:Bool}{e n:Int}{vs vt:Value}(h:PB W g c e n vs vt) (j:Nat):W.frozen? ⟨g,j,none⟩=false:=blk_frozen h
theorem PB.kp {S:Nat→Prop}{W W':World}{g:Nat}{c:Bool}{e n:Int}{vs vt:Value}(h:PB W g c e n vs vt) (hk:Kp S W W') (hS:¬S g):PB W' g c e n vs vt:=hk.blk h hS
theorem PB.below {W W':World}{g:Nat}{c:Bool}{e n:Int}{vs vt:Value}(h:PB W g c e n vs vt) (hb:Below W.heap.size W W'):PB W' g c e n vs vt:=blk_below h hb
theorem PB.lt {W:World}{g:Nat}{c:Bool}{e n:Int}{vs vt:Value}(h:PB W g c e n vs vt):g<W.heap.size:=blk_lt h
theorem pstep_ev {W:World}{ops:Array Oper}{o:Oper}{a:Act}{K:Act→World→Prop}{Q:Exit→Act→World→Prop}{E:Prop}(hgd:o.guard=none) (s x:Operand)
  (ho:o.op=.call { callee:=.builtin .append,args:=#[s,x],argTypes:=#[44,44] }) (v:Value) (l:List Ev) (d:Ev) (hs:a.eval s=v) (hr:Re W v l)
  (g c:Nat) (hx:a.eval x=.slice (some ⟨g,0,none⟩) 1 c) (hg:W.heap[g]?=some (.cells #[.int .u8 d.k,.int .u8 d.n,.int .u8 d.d.k,.string d.d.t,.int .i64 d.d.a,.int .i64 d.d.l,.int .i64 d.d.c,.int .i64 d.d.f] 39 (0,0))) (hl:l.length≤1000000000)
  (h:∀q cap w',Re w' (.slice (some ⟨q,0,none⟩) (l.length+1) cap) (l++[d])→W.grownBy w' v.ownBlock→(v.ownBlock=some q∨q=W.heap.size)→K (a.put o.dst (.slice (some ⟨q,0,none⟩) (l.length+1) cap)) w') :
  if Region.wanted o (yielded ops a.tmps)=true then Oper.wp Tryz.prog o a W K Q else E:=by
 obtain ⟨i0,hi,hz0,hz1,hz2⟩:=info_parts Tryz.info39
 refine step_append_lies W hgd s x 44 ho 0 39 i0 _ 8 64 Tryz.underlying44 hi hz0 hz1 hz2 rfl (by decide) v _ _ hs hr ⟨g,0,none⟩ 1 c (ecs [d]) hx (by rw [ecs_len];rfl) ?_ (ecs_one [d]) (by omega) (by unfold maxLen;omega) (by omega) (Nat.zero_le _) _ rfl ?_
 ·intro j u hu
  refine World.news_of_block hg j u ?_
  have e:ecs [d]=[.int .u8 d.k,.int .u8 d.n,.int .u8 d.d.k,.string d.d.t,.int .i64 d.d.a,.int .i64 d.d.l,.int .i64 d.d.c,.int .i64 d.d.f]:=by simp [ecs,flat,Ev.cs]
  rw [e] at hu
  simpa using hu
 ·intro q cap w' a1 a2 a3 _
  refine h q cap w' ?_ a2 a3
  unfold Re
  rw [List.length_append,ecs_app]
  exact a1
structure Told (W W':World) (g:Nat) (c:Bool) (e n:Int) (vs vt:Value) (E:List Ev):Prop where
 ex:∃vt',PB W' g c e n vs vt'∧Re W' vt' E∧Nb W vt vt'
 kp:Kp (fun k=>k=g∨vt.ownBlock=some k) W W'
theorem told_mk {W W1 w3:World}{g:Nat}{c:Bool}{e n:Int}{vs vt:Value}{E E':List Ev}(h:PB W g c e n vs vt) (hE:Re W vt E) (hb:Below W.heap.size W W1) {q cap n':Nat}(hr:Re w3 (.slice (some ⟨q,0,none⟩) n' cap) E') (hg:W1.grownBy w3 vt.ownBlock) (hq:vt.ownBlock=some q∨q=W1.heap.size) :
  (w3.cell? ⟨g,4,none⟩=some vt∧w3.frozen? ⟨g,4,none⟩=false)∧Told W (w3.setCell ⟨g,4,none⟩ (.slice (some ⟨q,0,none⟩) n' cap)) g c e n vs vt E':=by
 have h1:=h.below hb
 have hne:¬some g=vt.ownBlock:=fun e=>(hE.below hb).ne h1 (by decide) g e.symm rfl
 have h3:PB w3 g c e n vs vt:=h1.kp (Kp.of_grown hg) hne
 refine ⟨⟨blk_cell h3 rfl,h3.frozen 4⟩,⟨⟨.slice (some ⟨q,0,none⟩) n' cap,blk_set h3 4 _,hr.kp (Kp.set _ _ _ _) (hr.ne h3 (by decide)),?_⟩,?_⟩⟩
 ·rcases hq with hq|hq
  ·exact .inl hq.symm
  ·exact .inr ⟨q,rfl,by rw [hq];exact hb.size⟩
 ·exact ((Kp.of_below hb).step (Kp.of_grown hg) (fun k _ e=>.inr e.symm)).step (Kp.set _ _ _ _) (fun k _ e=>.inl e)
set_option maxHeartbeats 1000000 in
theorem ptell_any {W:World}{g:Nat}{c:Bool}{e n:Int}{vs vt:Value}{E:List Ev}(h:PB W g c e n vs vt) (hE:Re W vt E) (d:Ev) (hl:E.length≤1000000000) :
  Calls Tryz.prog 99 #[.pointer (some ⟨g,0,none⟩),d.v] W fun r w'=>r=.returned (.tuple #[])∧Told W w' g c e n vs vt (E++[d]):=by
 obtain ⟨p,cap,rfl,_⟩:=hE.shape
 have HW:Hid (∀V,Below W.heap.size W V→Re V (.slice p E.length cap) E):=fun V hb=>hE.below hb
 have HT:Hid (∀W1 w3 q cp,Below W.heap.size W W1→Re w3 (.slice (some ⟨q,0,none⟩) (E.length+1) cp) (E++[d])→W1.grownBy w3 (Value.slice p E.length cap).ownBlock→((Value.slice p E.length cap).ownBlock=some q∨q=W1.heap.size)→(w3.cell? ⟨g,4,none⟩=some (.slice p E.length cap)∧w3.frozen? ⟨g,4,none⟩=false)∧Told W (w3.setCell ⟨g,4,none⟩ (.slice (some ⟨q,0,none⟩) (E.length+1) cp)) g c e n vs (.slice p E.length cap) (E++[d])):=
  fun W1 w3 q cp hb h1 h2 h3=>told_mk h hE hb h1 h2 h3
 obtain ⟨c0,c1,c2,c3,c4⟩:=h.cells
 have hf:=h.frozen 4
 have hg:=h.lt
 clear h hE
 dsimp only [Ev.v]
 obtain ⟨⟨k0,n0,⟨k1,t,a,l,cc,f⟩⟩,hd⟩:∃x,d=x:=⟨_,rfl⟩
 subst hd
 go_enter Tryz.func99,Tryz.ntmps99
 go_wp2_with fail
 obtain ⟨W1,e1⟩:∃W1,W.alloc (.cells #[.int .u8 k0,.int .u8 n0,.int .u8 k1,.string t,.int .i64 a,.int .i64 l,.int .i64 cc,.int .i64 f] 39)=W1:=⟨_,rfl⟩
 have hb:Below W.heap.size W W1:=by rw [←e1];exact (Below.refl _ _).alloc (Nat.le_refl _) _
 have hn:W1.heap[W.heap.size]?=some (.cells #[.int .u8 k0,.int .u8 n0,.int .u8 k1,.string t,.int .i64 a,.int .i64 l,.int .i64 cc,.int .i64 f] 39):=by rw [←e1];exact new_at _ _
 rw [e1]
 clear e1
 have m0:W1.cell? ⟨W.heap.size,0,none⟩=_:=blk_cell hn rfl
 have m1:W1.cell? ⟨W.heap.size,1,none⟩=_:=blk_cell hn rfl
 have m2:W1.cell? ⟨W.heap.size,2,none⟩=_:=blk_cell hn rfl
 have m3:W1.cell? ⟨W.heap.size,3,none⟩=_:=blk_cell hn rfl
 have m4:W1.cell? ⟨W.heap.size,4,none⟩=_:=blk_cell hn rfl
 have m5:W1.cell? ⟨W.heap.size,5,none⟩=_:=blk_cell hn rfl
 have m6:W1.cell? ⟨W.heap.size,6,none⟩=_:=blk_cell hn rfl
 have m7:W1.cell? ⟨W.heap.size,7,none⟩=_:=blk_cell hn rfl
 have d4:W1.cell? ⟨g,4,none⟩=some (.slice p E.length cap):=(hb.cell hg).trans c4
 have HB:Hid (∀o,Below W.heap.size W (W1.drew.alloc o)):=fun o=>(hb.drew).alloc hb.size _
 have hg1:g<W1.heap.size:=Nat.lt_of_lt_of_le hg hb.size
 clear hb hn c0 c1 c2 c3 c4 hf hg
 go_region_law (refine pstep_ev (by rfl) _ _ (by rfl) (.slice p E.length cap) E ⟨k0,n0,⟨k1,t,a,l,cc,f⟩⟩ (by rfl) (HW.out _ (HB.out _)) W1.heap.size 1 (by rfl) (new_at W1.drew _) hl ?_;intro q cp w3 hr3 hg3 hq3;obtain ⟨⟨x1,x2⟩,x3⟩:=HT.out _ w3 q cp (HB.out _) hr3 hg3 hq3;have HX:=hid x3;clear x3 hr3 hg3 hq3)
 all_goals (
  go_wp2_with fail
  go_end0
  exact ⟨rfl,HX.out⟩)
def Ls (W:World) (ao:Option Addr) (l:List ByteArray):Prop:=∀j s,l[j]?=some s→∃b off,ao=some ⟨b,off,none⟩∧W.cell? ⟨b,off+j,none⟩=some (.string s)
theorem Ls.kp {S:Nat→Prop}{w w':World}{ao:Option Addr}{l:List ByteArray}(h:Ls w ao l) (hb:Kp S w w') (hS:∀a,ao=some a→¬S a.block):Ls w' ao l:=by
 intro j a ha
 obtain ⟨b,off,h1,c0⟩:=h j a ha
 have hlt:=World.block_lt_of_cell? _ _ c0
 have e:w'.heap[b]?=w.heap[b]?:=hb.block b hlt (hS _ h1)
 exact ⟨b,off,h1,(World.cell?_of_block (a:=⟨b,_,none⟩) e).trans c0⟩
theorem Ls.below {w w':World}{ao:Option Addr}{l:List ByteArray}(h:Ls w ao l) (hb:Below w.heap.size w w'):Ls w' ao l:=h.kp (Kp.of_below (S:=fun _=>False) hb) (fun _ _ h=>h)
theorem has_step (l:List ByteArray) (s x:ByteArray) (k:Nat) (hk:l[k]?=some x) (h:has (l.take k) s=false):has (l.take (k+1)) s=(s.toList == x.toList):=by
 rw [btl_eq]
 unfold has at h ⊢
 rw [List.take_add_one,hk,List.any_append,h]
 simp
theorem has_take (l:List ByteArray) (s:ByteArray) (k:Nat) (h:has (l.take k) s=true):has l s=true:=by
 unfold has at h ⊢
 simp only [List.any_eq_true] at h ⊢
 obtain ⟨x,hx,e⟩:=h
 exact ⟨x,List.mem_of_mem_take hx,e⟩
set_option maxHeartbeats 400000 in
theorem sIndex_any (ao:Option Addr) (l:List ByteArray) (cap:Nat) (s:ByteArray) (W:World) (h:Ls W ao l) (hl:l.length≤1000) :
  Calls Tryz.prog 218 #[.slice ao l.length cap,.string s] W fun r w'=>(∃z:Int,r=.returned (.int .i64 z)∧(decide (0≤z)=has l s))∧w'=W:=by
 have H:Hid (Ls W ao l):=h
 clear h
 go_enter Tryz.func218,Tryz.ntmps218
 go_wp2_with fail
 go_loopw [5,8] (fun _ i wr=>∃k:Nat,k≤l.length∧i=.int .i64 k∧Hid (has (l.take k) s=false)∧wr=W) (fun _ i _=>l.length-(intOf i).toNat)
 case atStart=>exact ⟨0,Nat.zero_le _,rfl,by show has _ _=_;simp [has],rfl⟩
 case round=>
  obtain ⟨k,hk,rfl,HI,rfl⟩:=hrel
  by_cases hlt:k<l.length
  ·have q1:(k:Int)<l.length:=by omega
   have q0:(0:Int)≤k:=by omega
   obtain ⟨x,hx⟩:∃x,l[k]?=some x:=⟨_,List.getElem?_eq_getElem hlt⟩
   obtain ⟨b,off,rfl,hc⟩:=H.out k x hx
   have HS:Hid (has (l.take (k+1)) s=(s.toList == x.toList)):=has_step l s x k hx HI.out
   have HT:Hid (has (l.take (k+1)) s=true→has l s=true):=has_take l s _
   clear hx
   by_cases he:(s.toList == x.toList)=true
   ·go_wp2_with fail
    go_ret
    exact ⟨⟨_,rfl,by rw [HT.out (HS.out.trans he)];simp⟩,rfl⟩
   ·have he':(s.toList == x.toList)=false:=by simpa using he
    clear he
    go_wp2_with fail
    exact ⟨⟨k+1,hlt,by go_num,HS.out.trans he',trivial⟩,by simp [intOf];omega⟩
  ·obtain rfl:k=l.length:=by omega
   have q1:¬((l.length:Int)<l.length):=by omega
   go_wp2_with fail
   go_ret
   refine ⟨⟨_,rfl,?_⟩,rfl⟩
   have:=HI.out
   rw [List.take_length] at this
   rw [this]
   rfl
theorem sContains_any (ao:Option Addr) (l:List ByteArray) (cap:Nat) (s:ByteArray) (W:World) (h:Ls W ao l) (hl:l.length≤1000) :
  Calls Tryz.prog 188 #[.slice ao l.length cap,.string s] W fun r w'=>r=.returned (.bool (has l s))∧w'=W:=by
 have H:Hid (Calls Tryz.prog 218 #[.slice ao l.length cap,.string s] W fun r w'=>(∃z:Int,r=.returned (.int .i64 z)∧(decide (0≤z)=has l s))∧w'=W):=sIndex_any ao l cap s W h hl
 clear h
 generalize has l s=b at *
 go_enter Tryz.func188,Tryz.ntmps188
 go_wp2_with (go_at_call 218;refine H.out.mono ?_;rintro r w1 ⟨⟨z,rfl,hz⟩,rfl⟩;subst hz)
 go_ret
 exact ⟨by simp,rfl⟩
def dd (b:Bool):Int:=if b then 2 else 0
theorem takenIf_any (b:Bool) (W:World):Calls Tryz.prog 148 #[.bool b] W fun r w'=>r=.returned (.int .i64 (dd b))∧w'=W:=by
 cases b
 ·go_enter Tryz.func148,Tryz.ntmps148
  go_wp2_with fail
  go_ret
  exact ⟨rfl,rfl⟩
 ·go_enter Tryz.func148,Tryz.ntmps148
  go_wp2_with fail
  go_ret
  exact ⟨rfl,rfl⟩
set_option maxHeartbeats 400000 in
theorem name_any (t:Tv) (W:World):Calls Tryz.prog 96 #[t.v] W fun r w'=>r=.returned (.int .i64 (dd (t.k == 1)))∧Below W.heap.size W w':=by
 dsimp only [Tv.v]
 go_enter Tryz.func96,Tryz.ntmps96
 go_wp2_with (go_at_call 148;refine (takenIf_any _ _).mono ?_;rintro r w1 ⟨rfl,rfl⟩)
 go_ret
 exact ⟨rfl,(Below.refl _ _).alloc (Nat.le_refl _) _⟩
set_option maxHeartbeats 400000 in
theorem constant_any (t:Tv) (W:World):Calls Tryz.prog 262 #[t.v] W fun r w'=>r=.returned (.int .i64 (dd (t.k == 3 || t.k == 4 || t.k == 5)))∧Below W.heap.size W w':=by
 dsimp only [Tv.v]
 by_cases h3:(t.k == 3)=true
 ·rw [h3]
  go_enter Tryz.func262,Tryz.ntmps262
  go_wp2_with (go_at_call 148;refine (takenIf_any _ _).mono ?_;rintro r w1 ⟨rfl,rfl⟩)
  go_ret
  exact ⟨rfl,(Below.refl _ _).alloc (Nat.le_refl _) _⟩
 ·have h3':(t.k == 3)=false:=by simpa using h3
  clear h3
  by_cases h4:(t.k == 4)=true
  ·rw [h3',h4]
   go_enter Tryz.func262,Tryz.ntmps262
   go_wp2_with (go_at_call 148;refine (takenIf_any _ _).mono ?_;rintro r w1 ⟨rfl,rfl⟩)
   go_ret
   exact ⟨rfl,(Below.refl _ _).alloc (Nat.le_refl _) _⟩
  ·have h4':(t.k == 4)=false:=by simpa using h4
   clear h4
   rw [h3',h4']
   go_enter Tryz.func262,Tryz.ntmps262
   go_wp2_with (go_at_call 148;refine (takenIf_any _ _).mono ?_;rintro r w1 ⟨rfl,rfl⟩)
   go_ret
   exact ⟨rfl,(Below.refl _ _).alloc (Nat.le_refl _) _⟩
theorem stand_any (k:Int) (ao:Option Addr) (l:List ByteArray) (cap:Nat) (t:Tv) (W:World) (h:Ls W ao l) (hl:l.length≤1000) :
  Calls Tryz.prog 147 #[.agg #[.int .u8 k,.slice ao l.length cap],t.v] W fun r w'=>r=.returned (.int .i64 (dd (t.k == k && has l t.t)))∧Below W.heap.size W w':=by
 have H:Hid (∀V,Below W.heap.size W V→Calls Tryz.prog 188 #[.slice ao l.length cap,.string t.t] V fun r w'=>r=.returned (.bool (has l t.t))∧w'=V):=fun V hb=>sContains_any ao l cap t.t V (h.below hb) hl
 clear h
 dsimp only [Tv.v]
 generalize has l t.t=b at *
 have HA:Hid (Below W.heap.size W ((W.alloc (.cells #[.int .u8 k,.slice ao l.length cap] 208)).alloc (.cells #[.int .u8 t.k,.string t.t,.int .i64 t.a,.int .i64 t.l,.int .i64 t.c,.int .i64 t.f] 37))):=((Below.refl _ _).alloc (Nat.le_refl _) _).alloc (by rw [World.size_alloc];exact Nat.le_succ _) _
 by_cases hk:(t.k == k)=true
 ·rw [hk,Bool.true_and]
  go_enter Tryz.func147,Tryz.ntmps147
  go_wp2_with (first|(go_at_call 188;refine (H.out _ HA.out).mono ?_;rintro r w1 ⟨rfl,rfl⟩)|(go_at_call 148;refine (takenIf_any _ _).mono ?_;rintro r w1 ⟨rfl,rfl⟩))
  go_ret
  exact ⟨rfl,HA.out⟩
 ·have hk':(t.k == k)=false:=by simpa using hk
  clear hk
  rw [hk',Bool.false_and]
  go_enter Tryz.func147,Tryz.ntmps147
  go_wp2_with (first|(go_at_call 148;refine (takenIf_any _ _).mono ?_;rintro r w1 ⟨rfl,rfl⟩))
  go_ret
  exact ⟨rfl,HA.out⟩
abbrev wdV (k:Int) (v:Value):Value:=.func (.func 147) #[.agg #[.int .u8 k,v]] #[]
theorem key_any (v:Value) (W:World) (p:Option Addr) (n c:Nat) (hv:v=.slice p n c):Calls Tryz.prog 95 #[v] W fun r w'=>r=.returned (wdV 2 v)∧w'=W:=by
 subst hv
 have hmf:∀(fn:Fn) (first cap:Array Value) (w:World),(Instr.makeFunc fn first cap).run Tryz.prog w=.ok (.func fn first cap) w:=fun _ _ _ _=>rfl
 go_enter Tryz.func95,Tryz.ntmps95
 go_wp2_with fail
 go_ret
 exact ⟨rfl,rfl⟩
theorem sign_any (v:Value) (W:World) (p:Option Addr) (n c:Nat) (hv:v=.slice p n c):Calls Tryz.prog 97 #[v] W fun r w'=>r=.returned (wdV 6 v)∧w'=W:=by
 subst hv
 have hmf:∀(fn:Fn) (first cap:Array Value) (w:World),(Instr.makeFunc fn first cap).run Tryz.prog w=.ok (.func fn first cap) w:=fun _ _ _ _=>rfl
 go_enter Tryz.func97,Tryz.ntmps97
 go_wp2_with fail
 go_ret
 exact ⟨rfl,rfl⟩
end Go.Proofs.YtpdlohfdjiaegaaGreatDoor
