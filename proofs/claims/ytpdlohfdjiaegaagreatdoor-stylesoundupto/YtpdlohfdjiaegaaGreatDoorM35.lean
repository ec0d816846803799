import Derived.Test.YtpdlohfdjiaegaaGreatDoorM34
set_option linter.unusedVariables false
set_option linter.unusedSimpArgs false
namespace Go.Proofs.YtpdlohfdjiaegaaGreatDoor
open Go.RowKit
open Lw (Dc bE rt frm dep rtT rtN dcs dcs_len dcs_one)
def Lev (w:World) (ao:Option Addr) (l:List Ev):Prop:=∀j e,l[j]?=some e→∃b off,ao=some ⟨b,off,none⟩ ∧
 w.cell? ⟨b,off+j*8,none⟩=some (.int .u8 e.k)∧w.cell? ⟨b,off+j*8+1,none⟩=some (.int .u8 e.n)∧w.cell? ⟨b,off+j*8+2,none⟩=some (.int .u8 e.d.k)∧w.cell? ⟨b,off+j*8+3,none⟩=some (.string e.d.t)∧w.cell? ⟨b,off+j*8+4,none⟩=some (.int .i64 e.d.a)∧w.cell? ⟨b,off+j*8+5,none⟩=some (.int .i64 e.d.l)∧w.cell? ⟨b,off+j*8+6,none⟩=some (.int .i64 e.d.c)∧w.cell? ⟨b,off+j*8+7,none⟩=some (.int .i64 e.d.f)
theorem Lev.below {w w':World}{ao:Option Addr}{l:List Ev}(h:Lev w ao l) (hb:Below w.heap.size w w'):Lev w' ao l:=by
 intro j a ha
 obtain ⟨b,off,h1,c0,c1,c2,c3,c4,c5,c6,c7⟩:=h j a ha
 have hlt:=World.block_lt_of_cell? _ _ c0
 have e:w'.heap[b]?=w.heap[b]?:=(Kp.of_below (S:=fun _=>False) hb).block b hlt (fun h=>h)
 exact ⟨b,off,h1,(World.cell?_of_block (a:=⟨b,_,none⟩) e).trans c0,(World.cell?_of_block (a:=⟨b,_,none⟩) e).trans c1,(World.cell?_of_block (a:=⟨b,_,none⟩) e).trans c2,(World.cell?_of_block (a:=⟨b,_,none⟩) e).trans c3,(World.cell?_of_block (a:=⟨b,_,none⟩) e).trans c4,(World.cell?_of_block (a:=⟨b,_,none⟩) e).trans c5,(World.cell?_of_block (a:=⟨b,_,none⟩) e).trans c6,(World.cell?_of_block (a:=⟨b,_,none⟩) e).trans c7⟩
theorem re_lev {w:World}{p:Option Addr}{n cap:Nat}{l:List Ev}(h:Re w (.slice p n cap) l):Lev w p l:=by
 intro j d hj
 rcases h.2 with ⟨h1,h0⟩|⟨g,cap',cur,h1,_⟩
 ·have:l=[]:=List.eq_nil_of_length_eq_zero h0
  subst this
  simp at hj
 ·cases h1
  have hc:∀(k:Nat) (u:Value),(ecs l)[k]?=some u→w.cell? ⟨g,k,none⟩=some u:=fun k u hu=>by
   have:=World.ownsRow.cells h (g:=g) rfl k u hu
   rw [Addr.add_lit,Nat.zero_add] at this
   exact this
  refine ⟨g,0,rfl,?_,?_,?_,?_,?_,?_,?_,?_⟩
  ·rw [Nat.zero_add];exact hc _ _ (flat_at Ev.cs 8 Ev.cs_len l j 0 d _ hj rfl)
  ·rw [Nat.zero_add];exact hc _ _ (flat_at Ev.cs 8 Ev.cs_len l j 1 d _ hj rfl)
  ·rw [Nat.zero_add];exact hc _ _ (flat_at Ev.cs 8 Ev.cs_len l j 2 d _ hj rfl)
  ·rw [Nat.zero_add];exact hc _ _ (flat_at Ev.cs 8 Ev.cs_len l j 3 d _ hj rfl)
  ·rw [Nat.zero_add];exact hc _ _ (flat_at Ev.cs 8 Ev.cs_len l j 4 d _ hj rfl)
  ·rw [Nat.zero_add];exact hc _ _ (flat_at Ev.cs 8 Ev.cs_len l j 5 d _ hj rfl)
  ·rw [Nat.zero_add];exact hc _ _ (flat_at Ev.cs 8 Ev.cs_len l j 6 d _ hj rfl)
  ·rw [Nat.zero_add];exact hc _ _ (flat_at Ev.cs 8 Ev.cs_len l j 7 d _ hj rfl)
structure YI (w:World) (g:Nat) (v:Value) (D:List Dc) (st:Sst) (S:Nat→Prop) (W:World):Prop where
 bel:Below w.heap.size w W
 sq:Sq S W g st
 sB:∀k,S k→w.heap.size≤k
 rd:Rd W v D
 vB:∀k,v.ownBlock=some k→w.heap.size≤k∧¬S k
structure YJ (w:World) (g:Nat) (v x:Value) (D ds:List Dc) (st:Sst) (W:World):Prop where
 rv:Rd W v D
 rx:Rd W x ds
 fin:∀v' w',Rd w' v' (D++ds)→Kp (fun k=>v.ownBlock=some k) W w'→Nb W v v'→∃S,YI w g v' (D++ds) st S w'
 ex:∃S,YI w g v D st S W
theorem rd_lt {W:World}{v:Value}{l:List Dc}(h:Rd W v l):∀k,v.ownBlock=some k→k<W.heap.size:=by
 intro k hk
 rcases h.2 with ⟨rfl,_⟩|⟨b,cap,cur,rfl,_,h3,_⟩
 ·cases hk
 ·simp only [Value.ownBlock,Option.some.injEq] at hk
  subst hk
  exact blk_lt h3
theorem YI.call {w:World}{g:Nat}{v:Value}{D:List Dc}{st:Sst}{S:Nat→Prop}{W W':World}(h:YI w g v D st S W) {x:Value}{ds:List Dc}{st':Sst}(hp:Aq S g W W' x ds st'):YJ w g v x D ds st' W':=by
 obtain ⟨⟨S',p1,p3,p4⟩,hre,hkp⟩:=hp
 have hb:Below w.heap.size w W':=kp_low2 h.bel hkp (fun k hk=>h.sB k hk) h.bel.size
 have hs':∀k,S' k→w.heap.size≤k:=by
  intro k hk
  rcases p3 k hk with a|a
  ·exact h.sB k a
  ·exact Nat.le_trans h.bel.size a
 have hv:Rd W' v D:=hkp.row h.rd (fun k e=>(h.vB k e).2)
 have hvS:∀k,v.ownBlock=some k→w.heap.size≤k∧¬S' k:=by
  intro k e
  refine ⟨(h.vB k e).1,fun hs=>?_⟩
  rcases p3 k hs with a|a
  ·exact (h.vB k e).2 a
  ·have:=rd_lt h.rd k e;omega
 refine ⟨hv,hre,fun v' w' hr hk hn=>⟨S',?_⟩,S',hb,p1,hs',hv,hvS⟩
 refine ⟨kp_low2 hb hk (fun k e=>(h.vB k e).1) hb.size,p1.kp hk (fun k hs e=>(hvS k e).2 hs),hs',hr,?_⟩
 intro k e
 rcases hn with e1|⟨q,e1,hq⟩
 ·exact hvS k (by rw [←e1];exact e)
 ·rw [e1] at e
  simp at e
  subst e
  exact ⟨Nat.le_trans hb.size hq,fun hs=>by have:=p1.lt _ hs;omega⟩
def LyP (W:World) (E:List Ev) (r:Ending) (w':World):Prop:=
 ∃p n c,r=.returned (.tuple #[.slice p n c,.bool (slay sy0 E).isSome])∧Below W.heap.size W w'∧∀L,slay sy0 E=some L→Rd w' (.slice p n c) L∧(∀k,(Value.slice p n c).ownBlock=some k→W.heap.size≤k)∧L.length≤12*E.length+12
theorem slay_put {s:Sy}{e:Ev}{r:List Ev}:slay s (e :: r)=match sput s e with|none=>none|some (s',l)=>(slay s' r).map (l++·):=rfl
set_option maxHeartbeats 2000000 in
theorem layout_any (E:List Ev) (ao:Option Addr) (cap:Nat) (W:World) (hL:Lev W ao E) (hl:E.length≤30000000) (ht:∀e∈E,e.d.t.size≤9223372036854775807) :
  Calls Tryz.prog 32 #[.slice ao E.length cap] W fun r w'=>LyP W E r w':=by
 have HM:Hid (E.length≤30000000∧∀e∈E,e.d.t.size≤9223372036854775807):=⟨hl,ht⟩
 have HLe:Hid (∀V,Below W.heap.size W V→Lev V ao E):=fun V hb=>hL.below hb
 have HNew:Hid (∀V,Calls Tryz.prog 10 #[] V fun r w'=>r=.returned (spg V.heap.size)∧Sq (fun k=>k=V.heap.size) w' V.heap.size (.live sy0)∧Below V.heap.size V w'):=new_styler
 clear hL hl ht
 go_enter Tryz.func32,Tryz.ntmps32
 go_wp2_with fail
 refine (HNew.out _).mono ?_
 rintro r w5 ⟨rfl,hq,hb⟩
 obtain ⟨g,hg⟩:∃g,W.heap.size=g:=⟨_,rfl⟩
 have HI:Hid (∃S,YI W W.heap.size (.slice none 0 0) [] (.live sy0) S w5):=⟨_,hb,hq,fun k e=>by rw [e];omega,rd_nil _,fun k e=>by cases e⟩
 rw [hg] at HI ⊢
 clear hq hb hg HNew
 go_wp2_with fail
 go_loopw [5,6,7,8] (fun v i _ _ wr=>∃j:Nat,j≤E.length∧i=.int .i64 j∧Hid (∃S s D,YI W g v D (.live s) S wr∧slay sy0 E=(slay s (E.drop j)).map (D++·)∧D.length+phi s≤12*j∧s.ns.length≤j∧Mo s)) (fun _ i _ _ _=>E.length-(intOf i).toNat)
 case atStart=>
  obtain ⟨S,hI⟩:=HI.out
  exact ⟨0,Nat.zero_le _,rfl,S,_,[],hI,by simp,by decide,by decide,fun m hm=>by cases hm⟩
 case round=>
  obtain ⟨j,hj,rfl,HJ⟩:=hrel
  obtain ⟨S,s,D,hI,hR,hz,hn,hm⟩:=HJ.out
  obtain ⟨pv,cpv,hv,_⟩:=rd_shape hI.rd
  subst hv
  obtain ⟨hEl,hEt⟩:=HM.out
  have hbd:Sbd (.live s):=sbd_of (j:=j) (by omega) hn hm (by omega)
  by_cases hlt:j<E.length
  ·have q1:(j:Int)<E.length:=by omega
   have q0:(0:Int)≤j:=by omega
   obtain ⟨t,hT⟩:∃t,E[j]?=some t:=⟨_,List.getElem?_eq_getElem hlt⟩
   have hdr:E.drop j=t :: E.drop (j+1):=by
    obtain ⟨a1,a2⟩:=List.getElem?_eq_some_iff.1 hT
    rw [List.drop_eq_getElem_cons a1,a2]
   have htt:=hEt t (List.mem_of_getElem? hT)
   obtain ⟨b,off,rfl,x0,x1,x2,x3,x4,x5,x6,x7⟩:=HLe.out wr hI.bel j t hT
   rw [hdr,slay_put] at hR
   have hP:=sput_any hI.sq hbd t htt
   clear HJ HI hdr hT hbd htt hEt
   cases hs:sput s t with
   |none=>
    rw [hs] at hR
    have hpp:pput t (.live s)=(130,[],.live s):=by show (match sput s t with|none=>_|some (s',l)=>_)=_;rw [hs]
    rw [hpp] at hP
    have HP:Hid (Calls Tryz.prog 21 #[spg g,.agg #[.int .u8 t.k,.int .u8 t.n,.int .u8 t.d.k,.string t.d.t,.int .i64 t.d.a,.int .i64 t.d.l,.int .i64 t.d.c,.int .i64 t.d.f]] wr fun rr w'=>∃v,rr=.returned (.tuple #[v,.int .i64 130])∧Aq S g wr w' v [] (.live s)):=hP
    have HN:Hid (∀w' x,Aq S g wr w' x [] (.live s)→YJ W g (.slice pv D.length cpv) x D [] (.live s) w'):=fun w' x hx=>hI.call hx
    have HR:Hid (slay sy0 E=none):=hR
    clear hI hR hP hpp hs hz hn hm
    go_wp2_with fail
    refine HP.out.mono ?_
    rintro r w6 ⟨x,rfl,hx⟩
    have H6:Hid (YJ W g (.slice pv D.length cpv) x D [] (.live s) w6):=HN.out _ _ hx
    obtain ⟨px,cx,hxs,_⟩:=rd_shape H6.out.rx
    subst hxs
    clear hx
    go_wp2_with fail
    obtain ⟨S2,hI2⟩:=H6.out.ex
    refine bodyPost_ret (v:=.tuple #[.slice none 0 0,.bool false]) (by simp [results,Tryz.f32,go_sem]) rfl ?_
    exact ⟨none,0,0,by rw [HR.out];rfl,hI2.bel,fun L hL=>by rw [HR.out] at hL;cases hL⟩
   |some pr=>
    obtain ⟨s',ds⟩:=pr
    rw [hs] at hR
    have hpp:pput t (.live s)=(0,ds,.live s'):=by show (match sput s t with|none=>_|some (s',l)=>_)=_;rw [hs]
    rw [hpp] at hP
    have HP:Hid (Calls Tryz.prog 21 #[spg g,.agg #[.int .u8 t.k,.int .u8 t.n,.int .u8 t.d.k,.string t.d.t,.int .i64 t.d.a,.int .i64 t.d.l,.int .i64 t.d.c,.int .i64 t.d.f]] wr fun rr w'=>∃v,rr=.returned (.tuple #[v,.int .i64 0])∧Aq S g wr w' v ds (.live s')):=hP
    have HN:Hid (∀w' x,Aq S g wr w' x ds (.live s')→YJ W g (.slice pv D.length cpv) x D ds (.live s') w'):=fun w' x hx=>hI.call hx
    obtain ⟨z1,z2,z3⟩:=phi_put hs
    have hR2:slay sy0 E=((slay s' (E.drop (j+1))).map (ds++·)).map (D++·):=hR
    have HK:Hid (slay sy0 E=(slay s' (E.drop (j+1))).map ((D++ds)++·)∧(D++ds).length+phi s'≤12*(j+1)∧s'.ns.length≤j+1∧Mo s'∧D.length+ds.length≤1000000000000):=⟨by rw [hR2];generalize slay s' (E.drop (j+1))=o;cases o <;> simp,by rw [List.length_append];omega,by omega,z3 hm,by omega⟩
    clear hI hR hR2 hP hpp hs hz hn hm z1 z2 z3
    go_wp2_with fail
    refine HP.out.mono ?_
    rintro r w6 ⟨x,rfl,hx⟩
    have H6:Hid (YJ W g (.slice pv D.length cpv) x D ds (.live s') w6):=HN.out _ _ hx
    obtain ⟨px,cx,hxs,_⟩:=rd_shape H6.out.rx
    subst hxs
    clear hx
    go_wp2_with (at_builtin;refine app_ds (by rfl) _ _ (by rfl) (.slice pv D.length cpv) (.slice px ds.length cx) D ds (by rfl) H6.out.rv (by rfl) H6.out.rx HK.out.2.2.2.2 ?_;intro v3 w7 h3 k3 n3;have H7:Hid (∃S,YI W g v3 (D++ds) (.live s') S w7):=H6.out.fin _ _ h3 k3 n3;clear h3 k3 n3)
    obtain ⟨S3,hI3⟩:=H7.out
    exact ⟨⟨j+1,hlt,by go_num,S3,s',D++ds,hI3,HK.out.1,HK.out.2.1,HK.out.2.2.1,HK.out.2.2.2.1⟩,by simp [intOf];omega⟩
  ·obtain rfl:j=E.length:=by omega
   have q1:¬((E.length:Int)<E.length):=by omega
   rw [List.drop_length] at hR
   have hR':slay sy0 E=(sclo s).map (D++·):=hR
   have hP:=sclose_any hI.sq hbd
   obtain ⟨z,ds,st',hpp⟩:∃z ds st',pclo (.live s)=(z,ds,st'):=⟨_,_,_,rfl⟩
   have hcl:(sclo s).isSome=(z == 0)∧(∀l,sclo s=some l→ds=l)∧ds.length≤phi s+1:=by
    have hx:pclo (.live s)=(match sclo s with|none=>(130,[],.live s)|some l=>(0,l,.done)):=rfl
    rw [hx] at hpp
    cases hc:sclo s with
    |none=>
     rw [hc] at hpp
     cases hpp
     exact ⟨rfl,fun l h=>(nomatch h),Nat.zero_le _⟩
    |some l=>
     rw [hc] at hpp
     cases hpp
     refine ⟨rfl,fun l' h=>Option.some.inj h,?_⟩
     have h1:ds=s.endl.ws:=by
      unfold sclo at hc
      split at hc
      ·exact (Option.some.inj hc).symm
      ·cases hc
     rw [h1]
     unfold Sy.endl phi
     split
     ·show (dH :: s.ws).length≤_;simp only [List.length_cons];omega
     ·omega
   rw [hpp] at hP
   have HP:Hid (Calls Tryz.prog 14 #[spg g] wr fun rr w'=>∃v,rr=.returned (.tuple #[v,.int .i64 z])∧Aq S g wr w' v ds st'):=hP
   have HN:Hid (∀w' x,Aq S g wr w' x ds st'→YJ W g (.slice pv D.length cpv) x D ds st' w'):=fun w' x hx=>hI.call hx
   have HK:Hid ((slay sy0 E).isSome=(z == 0)∧(∀L,slay sy0 E=some L→L=D++ds)∧D.length+ds.length≤12*E.length+12∧D.length+ds.length≤1000000000000):=by
    refine ⟨by rw [hR',Option.isSome_map];exact hcl.1,fun L h=>?_,by have:=hcl.2.2;omega,by have:=hcl.2.2;omega⟩
    rw [hR'] at h
    obtain ⟨l,e1,e2⟩:=Option.map_eq_some_iff.1 h
    rw [←e2,hcl.2.1 l e1]
   clear hI hR hR' hP hpp hcl hz hn hm HJ HI hbd hEt
   go_wp2_with fail
   refine HP.out.mono ?_
   rintro r w6 ⟨x,rfl,hx⟩
   have H6:Hid (YJ W g (.slice pv D.length cpv) x D ds st' w6):=HN.out _ _ hx
   obtain ⟨px,cx,hxs,_⟩:=rd_shape H6.out.rx
   subst hxs
   clear hx
   go_wp2_with (at_builtin;refine app_ds (by rfl) _ _ (by rfl) (.slice pv D.length cpv) (.slice px ds.length cx) D ds (by rfl) H6.out.rv (by rfl) H6.out.rx HK.out.2.2.2 ?_;intro v3 w7 h3 k3 n3;have H7:Hid (∃S,YI W g v3 (D++ds) st' S w7):=H6.out.fin _ _ h3 k3 n3;obtain ⟨p3,c3,e3,_⟩:=rd_shape h3;rw [List.length_append] at e3;subst e3;clear h3 k3 n3)
   obtain ⟨S7,hI7⟩:=H7.out
   obtain ⟨y1,y2,y3,y4⟩:=HK.out
   refine bodyPost_ret (v:=.tuple #[.slice p3 (D.length+ds.length) c3,.bool (z == 0)]) (by simp [results,Tryz.f32,go_sem]) rfl ?_
   exact ⟨p3,_,c3,by rw [y1],hI7.bel,fun L hL=>by rw [y2 L hL];exact ⟨hI7.rd,fun k e=>(hI7.vB k e).1,by rw [List.length_append];exact y3⟩⟩
end Go.Proofs.YtpdlohfdjiaegaaGreatDoor
