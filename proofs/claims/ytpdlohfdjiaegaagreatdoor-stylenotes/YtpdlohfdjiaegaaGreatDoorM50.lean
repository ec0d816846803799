import Derived.Test.YtpdlohfdjiaegaaGreatDoorM14
import Derived.Test.YtpdlohfdjiaegaaGreatDoorM24
import Derived.Test.YtpdlohfdjiaegaaGreatDoorM49
set_option linter.unusedVariables false
set_option linter.unusedSimpArgs false
namespace Go.Proofs.YtpdlohfdjiaegaaGreatDoor
open Go.RowKit
abbrev stk (s:ByteArray):List Tv:=(Lx.scn s).1.map (Lx.tv s)
def EvP (W:World) (T:List Tv) (E:List Ev) (code:Int) (r:Ending) (w':World):Prop:=
 ∃p n c p2 n2 c2,r=.returned (.tuple #[.slice p n c,.slice p2 n2 c2,.bool (decide (code=0))])∧Below W.heap.size W w'∧(code=0→Re w' (.slice p n c) E∧(∀k,(Value.slice p n c).ownBlock=some k→W.heap.size≤k)∧Rt W.heap.size w' (.slice p2 n2 c2) T)
theorem events_bad (s:ByteArray) (W:World) (hT:Lx.Kab W) (hs:s.size≤1000000000) (h0:(Lx.scn s).2.1≠0) :
  Calls Tryz.prog 16 #[.string s] W fun r w'=>r=.returned (.tuple #[.slice none 0 0,.slice none 0 0,.bool false])∧Below W.heap.size W w':=by
 have HA:Hid (Calls Tryz.prog 28 #[.string s] W fun e w'=>∃p n c z x y u,e=.returned (.tuple #[.slice p n c,.int .i64 z,.agg #[.int .i64 x,.int .i64 y,.int .i64 u]])∧(z != 0)=true∧Below W.heap.size W w'):=by
  refine (Lx.all_any s W hT hs).mono ?_
  rintro e w' ⟨⟨v,rfl,hr⟩,hb⟩
  obtain ⟨p,c,rfl,_⟩:=hr.shape
  exact ⟨p,_,c,_,_,_,_,rfl,by simp;omega,hb⟩
 clear hT hs h0
 go_enter Tryz.func16,Tryz.ntmps16
 go_wp2_with (go_at_call 28;refine HA.out.mono ?_;rintro e w1 ⟨p,n,c,z,x,y,u,rfl,q1,hb1⟩;have HB:Hid (∀o,Below W.heap.size W (w1.alloc o)):=(fun o=>hb1.alloc hb1.size _);clear hb1)
 refine bodyPost_ret (v:=.tuple #[.slice none 0 0,.slice none 0 0,.bool false]) (by simp [results,Tryz.f16,go_sem]) rfl ?_
 exact ⟨rfl,HB.out _⟩
set_option maxHeartbeats 2000000 in
theorem events_good (s:ByteArray) (W:World) (hT:Lx.Kab W) (hs:s.size≤1000000000) (h0:(Lx.scn s).2.1=0) {E:List Ev}{code:Int}{a:Nat}(hl:(stk s).length≤4194304) (hA:Alr (.live [] 0) (stk s) E code a) :
  Calls Tryz.prog 16 #[.string s] W fun r w'=>EvP W (stk s) E code r w':=by
 obtain ⟨T,hTT⟩:∃T,stk s=T:=⟨_,rfl⟩
 have HS:Hid (Calls Tryz.prog 28 #[.string s] W fun e w'=>∃p c x y u,e=.returned (.tuple #[.slice p T.length c,.int .i64 0,.agg #[.int .i64 x,.int .i64 y,.int .i64 u]])∧Rt W.heap.size w' (.slice p T.length c) T∧Below W.heap.size W w'):=by
  refine (Lx.all_any s W hT hs).mono ?_
  rintro e w' ⟨⟨v,rfl,hr⟩,hb⟩
  rw [h0]
  have hr':Rt W.heap.size w' v T:=by rw [←hTT];exact hr
  obtain ⟨p,c,rfl,_⟩:=hr'.shape
  exact ⟨p,c,_,_,_,rfl,hr',hb⟩
 rw [hTT] at hl hA ⊢
 have HM:Hid (Alr (.live [] 0) T E code a∧T.length≤4194304):=⟨hA,hl⟩
 have HNew:Hid (∀V,Calls Tryz.prog 29 #[] V fun r w'=>r=.returned (pt V.heap.size)∧Pq (fun k=>k=V.heap.size) w' V.heap.size (.live [] 0)∧Below V.heap.size V w'∧w'.heap.size=V.heap.size+1):=new_st
 clear hT hs h0 hTT hl hA
 go_enter Tryz.func16,Tryz.ntmps16
 go_upto_region 4 with (go_at_call 28;refine HS.out.mono ?_;rintro e w1 ⟨pT,cT,x9,y9,u9,rfl,hRt,hb1⟩;have HR1:Hid (∀o,Rt W.heap.size (w1.alloc o) (.slice pT T.length cT) T∧Below W.heap.size W (w1.alloc o)):=(fun o=>⟨hRt.below ((Below.refl _ _).alloc (Nat.le_refl _) _),hb1.alloc hb1.size _⟩);clear hRt hb1)
 obtain ⟨V4,eV4⟩:∃V4,w1.alloc (.cells #[.int .i64 x9,.int .i64 y9,.int .i64 u9] 35)=V4:=⟨_,rfl⟩
 have H4:=HR1.out (.cells #[.int .i64 x9,.int .i64 y9,.int .i64 u9] 35)
 rw [eV4] at H4 ⊢
 have HR:Hid (Rt W.heap.size V4 (.slice pT T.length cT) T∧Below W.heap.size W V4):=H4
 have HLt:Hid (∀V,Below V4.heap.size V4 V→Lt V pT T∧Rt W.heap.size V (.slice pT T.length cT) T∧Below W.heap.size W V):=fun V hb=>by
  have h5:=H4.1.below hb
  obtain ⟨ao,cap,e1,h6,_⟩:=Lt.row h5
  cases e1
  exact ⟨h6,h5,H4.2.trans (hb.mono H4.2.size)⟩
 clear H4 HR1 eV4 HS
 go_wp2_with fail
 refine (HNew.out _).mono ?_
 rintro r w5 ⟨rfl,hq,hb,hs1⟩
 obtain ⟨g,hg⟩:∃g,V4.heap.size=g:=⟨_,rfl⟩
 have HI:Hid (∃S,PAI V4 V4.heap.size nilS [] (.live [] 0) S w5):=⟨_,hb,hq,good_new,fun k e=>by rw [e];omega,re_nil _,fun k e=>by cases e⟩
 rw [hg] at HI ⊢
 clear hq hb hs1 hg HNew
 go_wp2_with fail
 go_loopw [9,10,11,12] (fun v i _ _ wr=>∃j:Nat,j≤T.length∧i=.int .i64 j∧Hid (∃S st E0 E1 k1,PAI V4 g v E0 st S wr∧Alr st (T.drop j) E1 code k1∧E=E0++E1∧E0.length≤30000*j)) (fun _ i _ _ _=>T.length-(intOf i).toNat)
 case atStart=>
  obtain ⟨S,hI⟩:=HI.out
  exact ⟨0,Nat.zero_le _,rfl,S,_,[],E,a,hI,HM.out.1,rfl,by simp⟩
 case round=>
  obtain ⟨j,hj,rfl,HJ⟩:=hrel
  obtain ⟨S,st,E0,E1,k1,hI,hR,hE,hz⟩:=HJ.out
  obtain ⟨pv,cpv,hv,_⟩:=hI.re.shape
  subst hv
  have hTl:=HM.out.2
  by_cases hlt:j<T.length
  ·have q1:(j:Int)<T.length:=by omega
   have q0:(0:Int)≤j:=by omega
   obtain ⟨t,ht⟩:∃t,T[j]?=some t:=⟨_,List.getElem?_eq_getElem hlt⟩
   have hdr:T.drop j=t :: T.drop (j+1):=by
    obtain ⟨a1,a2⟩:=List.getElem?_eq_some_iff.1 ht
    rw [List.drop_eq_getElem_cons a1,a2]
   obtain ⟨b,off,rfl,x0,x1,x2,x3,x4,x5⟩:=(HLt.out wr hI.bel).1.cell6 ht
   rw [hdr] at hR
   clear HJ HI hdr ht
   rcases hR.inv with ⟨ev,st',hp,hc,rfl,rfl⟩|⟨ev,st',E2,k2,hp,hR2,rfl,rfl⟩
   ·have HP:Hid (Calls Tryz.prog 30 #[pt g,.agg #[.int .u8 t.k,.string t.t,.int .i64 t.a,.int .i64 t.l,.int .i64 t.c,.int .i64 t.f]] wr fun r w'=>∃v,r=.returned (.tuple #[v,.int .i64 code])∧Pa S g wr w' v ev st'):=pput_any hI.pq (fun k hk=>(hI.sB k hk).2) hI.gd.ok hp
    have HN:Hid (∀w' x,Pa S g wr w' x ev st'→PAJ V4 g (.slice pv E0.length cpv) x E0 ev st' w'):=fun w' x hx=>hI.call hx (put_keep hI.gd hp).1
    have q5:(code != 0)=true:=by simpa using hc
    have HC:Hid (code≠0):=hc
    clear hI hR hp hc hE
    go_wp2_with fail
    refine HP.out.mono ?_
    rintro r w6 ⟨x,rfl,hx⟩
    have H6:Hid (PAJ V4 g (.slice pv E0.length cpv) x E0 ev st' w6):=HN.out _ _ hx
    obtain ⟨px,cx,hxs,_⟩:=hx.re.shape
    subst hxs
    clear hx
    go_wp2_with fail
    obtain ⟨S2,hI2⟩:=H6.out.ex
    refine bodyPost_ret (v:=.tuple #[.slice none 0 0,.slice none 0 0,.bool false]) (by simp [results,Tryz.f16,go_sem]) rfl ?_
    exact ⟨none,0,0,none,0,0,by rw [decide_eq_false HC.out],(HLt.out _ hI2.bel).2.2,fun h=>absurd h HC.out⟩
   ·have HP:Hid (Calls Tryz.prog 30 #[pt g,.agg #[.int .u8 t.k,.string t.t,.int .i64 t.a,.int .i64 t.l,.int .i64 t.c,.int .i64 t.f]] wr fun r w'=>∃v,r=.returned (.tuple #[v,.int .i64 0])∧Pa S g wr w' v ev st'):=pput_any hI.pq (fun k hk=>(hI.sB k hk).2) hI.gd.ok hp
    have HN:Hid (∀w' x,Pa S g wr w' x ev st'→PAJ V4 g (.slice pv E0.length cpv) x E0 ev st' w'):=fun w' x hx=>hI.call hx (put_keep hI.gd hp).1
    have hel:=(put_keep hI.gd hp).2.1
    have HK:Hid (Alr st' (T.drop (j+1)) E2 code k2∧E=(E0++ev)++E2∧(E0++ev).length≤30000*(j+1)∧E0.length+ev.length≤1000000000000):=⟨hR2,by rw [hE,List.append_assoc],by simp;omega,by omega⟩
    clear hI hR hp hE hR2 hel
    go_wp2_with fail
    refine HP.out.mono ?_
    rintro r w6 ⟨x,rfl,hx⟩
    have H6:Hid (PAJ V4 g (.slice pv E0.length cpv) x E0 ev st' w6):=HN.out _ _ hx
    obtain ⟨px,cx,hxs,_⟩:=hx.re.shape
    subst hxs
    clear hx
    go_wp2_with (at_builtin;refine app_evs (by rfl) _ _ (by rfl) (.slice pv E0.length cpv) (.slice px ev.length cx) E0 ev (by rfl) H6.out.rv (by rfl) H6.out.rx HK.out.2.2.2 ?_;intro v3 w7 h3 k3 n3;have H7:Hid (∃S,PAI V4 g v3 (E0++ev) st' S w7):=H6.out.fin _ _ h3 k3 n3;clear h3 k3 n3)
    obtain ⟨S3,hI3⟩:=H7.out
    exact ⟨⟨j+1,hlt,by go_num,S3,st',E0++ev,E2,k2,hI3,HK.out.1,HK.out.2.1,HK.out.2.2.1⟩,by simp [intOf];omega⟩
  ·obtain rfl:j=T.length:=by omega
   have q1:¬((T.length:Int)<T.length):=by omega
   rw [List.drop_length] at hR
   obtain ⟨hc,rfl⟩:=hR.end
   have HP:Hid (Calls Tryz.prog 31 #[pt g] wr fun r w'=>∃v,r=.returned (.tuple #[v,.int .i64 code])∧Pa S g wr w' v E1 .shut):=close_any hI.pq (fun k hk=>(hI.sB k hk).2) hI.gd.ok hc
   have HN:Hid (∀w' x,Pa S g wr w' x E1 .shut→PAJ V4 g (.slice pv E0.length cpv) x E0 E1 .shut w'):=fun w' x hx=>hI.call hx trivial
   have HK:Hid (E=E0++E1∧E0.length+E1.length≤1000000000000):=⟨hE,by
    have h1:E1.length≤1:=by cases hc <;> simp
    omega⟩
   clear hI hR hE hc HJ HI
   go_wp2_with fail
   refine HP.out.mono ?_
   rintro r w6 ⟨x,rfl,hx⟩
   have H6:Hid (PAJ V4 g (.slice pv E0.length cpv) x E0 E1 .shut w6):=HN.out _ _ hx
   obtain ⟨px,cx,hxs,_⟩:=hx.re.shape
   subst hxs
   clear hx
   go_wp2_with (at_builtin;refine app_evs (by rfl) _ _ (by rfl) (.slice pv E0.length cpv) (.slice px E1.length cx) E0 E1 (by rfl) H6.out.rv (by rfl) H6.out.rx HK.out.2 ?_;intro v3 w7 h3 k3 n3;have H7:Hid (∃S,PAI V4 g v3 (E0++E1) .shut S w7):=H6.out.fin _ _ h3 k3 n3;obtain ⟨p3,c3,e3,_⟩:=h3.shape;subst e3;clear h3 k3 n3)
   obtain ⟨S7,hI7⟩:=H7.out
   obtain ⟨y1,y2,y3⟩:=HLt.out _ hI7.bel
   refine bodyPost_ret (v:=.tuple #[.slice p3 (E0.length+E1.length) c3,.slice pT T.length cT,.bool (code == 0)]) (by simp [results,Tryz.f16,go_sem]) rfl ?_
   have e9:(code == 0)=decide (code=0):=by by_cases q:code=0 <;> simp [q]
   have e8:(E0++E1).length=E0.length+E1.length:=List.length_append
   have hre:=hI7.re
   have hvb:=hI7.vB
   rw [e8] at hre hvb
   exact ⟨_,_,_,_,_,_,by rw [e9],y3,fun h=>⟨by rw [HK.out.1];exact hre,fun k e=>Nat.le_trans HR.out.2.size (hvb k e).1,y2⟩⟩
end Go.Proofs.YtpdlohfdjiaegaaGreatDoor
namespace Go.Proofs.YtpdlohfdjiaegaaGreatDoor
open Go.RowKit
open Lw (Dc bE rt frm dep rtT rtN dcs dcs_len dcs_one)
set_option maxHeartbeats 4000000 in
set_option maxRecDepth 100000 in
theorem snotes_go (s:ByteArray) (cut:Int) (h1:-9223372036854775808≤cut) (h2:cut≤9223372036854775807) (W:World) (hs:s.size≤20000) {E:List Ev}
  (hl:E.length≤20000000) (hz:∀e∈E,e.d.t.size≤9223372036854775807) (hN:nck sy0 true false E)
  (hEv:Calls Tryz.prog 16 #[.string s] W fun r w'=>∃p c p2 n2 c2,r=.returned (.tuple #[.slice p E.length c,.slice p2 n2 c2,.bool true])∧Below W.heap.size W w'∧Lev w' p E)
  (hA:∀V,Below W.heap.size W V→Calls Tryz.prog 9 #[] V fun r w'=>r=.returned (.bool true)∧Below V.heap.size V w') :
  Calls Tryz.prog 7 #[.string s,.int .i64 cut] W fun r w'=>r=.returned (.bool true)∧Below W.heap.size W w':=by
 have HM:Hid (E.length≤20000000∧(∀e∈E,e.d.t.size≤9223372036854775807)∧nck sy0 true false E):=⟨hl,hz,hN⟩
 have HEv:Hid (Calls Tryz.prog 16 #[.string s] W fun r w'=>∃p c p2 n2 c2,r=.returned (.tuple #[.slice p E.length c,.slice p2 n2 c2,.bool true])∧Below W.heap.size W w'∧Lev w' p E):=hEv
 have HAw:Hid (∀V,Below W.heap.size W V→Calls Tryz.prog 9 #[] V fun r w'=>r=.returned (.bool true)∧Below V.heap.size V w'):=hA
 have HNew:Hid (∀V,Calls Tryz.prog 10 #[] V fun r w'=>r=.returned (spg V.heap.size)∧Sq (fun k=>k=V.heap.size) w' V.heap.size (.live sy0)∧Below V.heap.size V w'):=new_styler
 have q20:¬((20000:Int)<(s.size:Int)):=by omega
 have qn:¬((E.length:Int)+1=0):=by omega
 have qw:IntKind.i64.wrap ((E.length:Int)+1)=(E.length:Int)+1:=by rw [IntKind.wrap_i64];omega
 have hl9:E.length≤20000000:=hl
 clear hl hz hN hEv hA
 go_enter Tryz.func7,Tryz.ntmps7
 go_wp2_with fail
 refine HEv.out.mono ?_
 rintro r w1 ⟨p,c,p2,n2,c2,rfl,hb1,hL1⟩
 have H1:Hid (Below W.heap.size W w1∧Lev w1 p E):=⟨hb1,hL1⟩
 clear hb1 hL1 HEv
 by_cases hc:cut<0
 case' pos=>
  go_upto_region 9 with fail
  obtain ⟨kk,hkk⟩:∃kk:Int,-((cut+1).tmod ((E.length:Int)+1))=kk:=⟨_,rfl⟩
  rw [hkk]
 case' neg=>
  go_upto_region 9 with fail
  obtain ⟨kk,hkk⟩:∃kk:Int,cut % ((E.length:Int)+1)=kk:=⟨_,rfl⟩
  rw [hkk]
 all_goals (
  clear hkk hc h1 h2 qn qw q20
  go_wp2_with fail
  refine (HNew.out _).mono ?_
  rintro r w2 ⟨rfl,hq2,hb2⟩
  have H2:Hid (Sq (fun k=>k=w1.heap.size) w2 w1.heap.size (.live sy0)∧Below w1.heap.size w1 w2):=⟨hq2,hb2⟩
  clear hq2 hb2
  go_wp2_with fail
  refine (HNew.out _).mono ?_
  rintro r w3 ⟨rfl,hq3,hb3⟩
  have H3:Hid (NJ w1 w1.heap.size w2.heap.size E kk 0 true false w3):=by
   obtain ⟨a1,a2⟩:=H2.out
   refine ⟨sy0,.live sy0,_,_,⟨a2.trans (hb3.mono a2.size),a1.below hb3,hq3,fun k e=>by rw [e];exact Nat.le_refl _,fun k e=>by rw [e];exact a2.size,fun k e1 e2=>?_⟩,HM.out.2.2,fun _=>rfl,by decide,by decide,(fun m hm=>by cases hm),[],snd_new⟩
   have:=a1.lt _ rfl
   have e1':k=w1.heap.size:=e1
   have e2':k=w2.heap.size:=e2
   omega
  clear hq3 hb3 H2 HNew
  obtain ⟨ga,hga⟩:∃g,w1.heap.size=g:=⟨_,rfl⟩
  obtain ⟨gb,hgb⟩:∃g,w2.heap.size=g:=⟨_,rfl⟩
  rw [hga,hgb] at H3 ⊢
  clear hga hgb
  go_wp2_with fail
  go_loopw [11,12,13,14,15,16,17,18] (fun hv lv i _ _ _ _ _ wr=>∃(j:Nat) (h l:Bool),j≤E.length∧i=.int .i64 j∧hv=.bool h∧lv=.bool l∧Hid (NJ w1 ga gb E kk j h l wr)) (fun _ _ i _ _ _ _ _ _=>E.length-(intOf i).toNat)
  case atStart=>exact ⟨0,true,false,Nat.zero_le _,rfl,rfl,rfl,H3.out⟩
  case round=>
   obtain ⟨j,h,l,hj,rfl,rfl,rfl,HJ⟩:=hrel
   have hbw:Below w1.heap.size w1 wr:=by obtain ⟨s,sb,S1,S2,hI,_⟩:=HJ.out;exact hI.bel
   by_cases hlt:j<E.length
   ·have q1:(j:Int)<E.length:=by omega
    have q0:(0:Int)≤j:=by omega
    obtain ⟨t,hT⟩:∃t,E[j]?=some t:=⟨_,List.getElem?_eq_getElem hlt⟩
    have htz:=HM.out.2.1 t (List.mem_of_getElem? hT)
    obtain ⟨b,off,rfl,x0,x1,x2,x3,x4,x5,x6,x7⟩:=(H1.out.2.below hbw) j t hT
    have HP:Hid (Calls Tryz.prog 21 #[spg ga,.agg #[.int .u8 t.k,.int .u8 t.n,.int .u8 t.d.k,.string t.d.t,.int .i64 t.d.a,.int .i64 t.d.l,.int .i64 t.d.c,.int .i64 t.d.f]] wr fun rr w'=>∃p m c h' l',rr=.returned (.tuple #[.slice p (m:List Dc).length c,.int .i64 0])∧m.length≤400000000∧NK w1 ga gb E kk j t (.slice p m.length c) m h l h' l' w'):=nj_put HJ.out hT (by omega) htz
    have HT:Hid (E[j]?=some t∧t.d.t.size≤9223372036854775807):=⟨hT,htz⟩
    clear HJ hbw hT htz H3
    go_wp2_with fail
    refine HP.out.mono ?_
    rintro r w4 ⟨p4,m,c4,h',l',rfl,hml,h4⟩
    have H4:Hid (NK w1 ga gb E kk j t (.slice p4 m.length c4) m h l h' l' w4):=h4
    have hbw4:Below w1.heap.size w1 w4:=by obtain ⟨s,s',sb,S1,S2,hI,_⟩:=h4;exact hI.bel
    have hck:pck (evL t) h l m=some (h',l'):=by obtain ⟨s,s',sb,S1,S2,_,_,_,_,hck,_⟩:=h4;exact hck
    have hLay:Lw.Lay w4 p4 m:=by
     obtain ⟨s,s',sb,S1,S2,_,n2,_,hs,_,_,_,_,_,_,L,hS⟩:=h4
     obtain ⟨a1,b1,e1,_,l1,_⟩:=Lw.Lay.row n2 (fun d hd=>rt_sz (rnD_rt _ _ _ (snd_put hS hs).1.r d (List.mem_append_left _ (List.mem_append_right _ hd))))
     injection e1 with e11
     subst e11
     exact l1
    obtain ⟨b',off',e',x0,x1,x2,x3,x4,x5,x6,x7⟩:=(H1.out.2.below hbw4) j t HT.out.1
    injection e' with e'
    injection e' with e1' e2'
    subst e1' e2'
    have HC:Hid (pck (evL t) h l m=some (h',l')):=hck
    have HLy:Hid (Lw.Lay w4 p4 m):=hLay
    clear h4 hbw4 hck hLay HP
    go_wp2_with fail
    go_loop [11,12,16] (fun hv lv n=>∃(i:Nat) (hh ll:Bool),i≤m.length∧n=.int .i64 i∧hv=.bool hh∧lv=.bool ll∧Hid (pck (evL t) hh ll (m.drop i)=some (h',l'))) (fun _ _ n=>m.length-(intOf n).toNat)
    case atStart=>exact ⟨0,h,l,Nat.zero_le _,rfl,rfl,rfl,HC.out⟩
    case round=>
     obtain ⟨i,hh,ll,hi,rfl,rfl,rfl,HI⟩:=hrel
     clear HC
     by_cases hil:i<m.length
     ·have r1:(i:Int)<m.length:=by omega
      have r0:(0:Int)≤i:=by omega
      obtain ⟨d,hd⟩:∃d,m[i]?=some d:=⟨_,List.getElem?_eq_getElem hil⟩
      obtain ⟨_,bm,om,rfl,y0,_⟩:=HLy.out i d hd
      have hI:=HI.out
      have hdr:m.drop i=d :: m.drop (i+1):=by
       obtain ⟨a1,a2⟩:=List.getElem?_eq_some_iff.1 hd
       rw [List.drop_eq_getElem_cons a1,a2]
      rw [hdr] at hI
      simp only [pck] at hI
      clear HI hdr hd
      by_cases hd1:d.k=1
      ·rw [if_pos hd1] at hI
       rw [hd1] at y0
       split at hI
       ·cases hI
       ·rename_i hno
        have HQ:Hid (pck (evL t) false (evL t) (m.drop (i+1))=some (h',l')):=hI
        clear hI
        by_cases h4:t.k=4
        ·by_cases h7:t.d.k=7
         ·have HE:Hid (evL t=true):=by show (decide (t.k=4) && decide (t.d.k=7))=true;rw [decide_eq_true h4,decide_eq_true h7];rfl
          rw [h4] at x0
          rw [h7] at x2
          clear h4 h7 hd1
          cases hh <;> cases ll <;> first|exact absurd ⟨rfl,rfl⟩ hno|(clear hno;go_wp2_with fail;exact ⟨⟨i+1,false,true,hil,by go_num,rfl,rfl,by have:=HQ.out;rw [HE.out] at this ⊢;exact this⟩,by simp [intOf];omega⟩)
         ·have HE:Hid (evL t=false):=by show (decide (t.k=4) && decide (t.d.k=7))=false;rw [decide_eq_false h7,Bool.and_false]
          rw [h4] at x0
          clear h4 hd1
          cases hh <;> cases ll <;> first|exact absurd ⟨rfl,rfl⟩ hno|(clear hno;go_wp2_with fail;exact ⟨⟨i+1,false,false,hil,by go_num,rfl,by first|rfl|simp [h7],by have:=HQ.out;rw [HE.out] at this ⊢;exact this⟩,by simp [intOf];omega⟩)
        ·have HE:Hid (evL t=false):=by show (decide (t.k=4) && decide (t.d.k=7))=false;rw [decide_eq_false h4,Bool.false_and]
         clear hd1
         cases hh <;> cases ll <;> first|exact absurd ⟨rfl,rfl⟩ hno|(clear hno;go_wp2_with fail;exact ⟨⟨i+1,false,false,hil,by go_num,rfl,rfl,by have:=HQ.out;rw [HE.out] at this ⊢;exact this⟩,by simp [intOf];omega⟩)
      ·rw [if_neg hd1] at hI
       by_cases hd4:d.k=4
       ·rw [decide_eq_true hd4,Bool.or_true] at hI
        have HQ:Hid (pck (evL t) true ll (m.drop (i+1))=some (h',l')):=hI
        rw [hd4] at y0
        clear hI hd4 hd1
        cases hh <;> (go_wp2_with fail;exact ⟨⟨i+1,true,ll,hil,by go_num,rfl,rfl,HQ.out⟩,by simp [intOf];omega⟩)
       ·rw [decide_eq_false hd4,Bool.or_false] at hI
        have HQ:Hid (pck (evL t) hh ll (m.drop (i+1))=some (h',l')):=hI
        clear hI
        cases hh <;> go_wp2_with fail
        ·exact ⟨⟨i+1,false,ll,hil,by go_num,by first|rfl|simp [hd4],rfl,HQ.out⟩,by simp [intOf];omega⟩
        ·exact ⟨⟨i+1,true,ll,hil,by go_num,by first|rfl|simp [hd4],rfl,HQ.out⟩,by simp [intOf];omega⟩
     ·obtain rfl:i=m.length:=by omega
      have r1:¬((m.length:Int)<m.length):=by omega
      have hI:=HI.out
      rw [List.drop_length] at hI
      simp only [pck,Option.some.injEq,Prod.mk.injEq] at hI
      obtain ⟨rfl,rfl⟩:=hI
      clear HI
      by_cases hjk:(j:Int)<kk
      ·have HP2:Hid (Calls Tryz.prog 21 #[spg gb,.agg #[.int .u8 t.k,.int .u8 t.n,.int .u8 t.d.k,.string t.d.t,.int .i64 t.d.a,.int .i64 t.d.l,.int .i64 t.d.c,.int .i64 t.d.f]] w4 fun rr w'=>∃p' c',rr=.returned (.tuple #[.slice p' m.length c',.int .i64 0])∧NJ w1 ga gb E kk (j+1) hh ll w'∧Lw.Lay w' p4 m∧Lw.Lay w' p' m):=nk_put H4.out hjk (by omega) HT.out.2
       go_wp2_with fail
       refine HP2.out.mono ?_
       rintro r w5 ⟨p5,c5,rfl,n5,l5,l6⟩
       have H5:Hid (NJ w1 ga gb E kk (j+1) hh ll w5):=n5
       have HSm:Hid (Calls Tryz.prog 18 #[.slice p4 m.length c4,.slice p5 m.length c5] w5 fun r w'=>r=.returned (.bool true)∧Below w5.heap.size w5 w'):=(Lw.same_any p4 p5 m m c4 c5 w5 l5 l6 (by omega) (by omega)).mono (fun r w' ⟨e1,e2⟩=>⟨by rw [e1];simp,e2⟩)
       clear n5 l5 l6 HP2
       go_wp2_with (go_at_call 18;refine HSm.out.mono ?_;rintro r w6 ⟨rfl,hb6⟩;have H6:Hid (NJ w1 ga gb E kk (j+1) hh ll w6):=(by obtain ⟨s,sb,S1,S2,hI,rest⟩:=H5.out;exact ⟨s,sb,S1,S2,hI.below hb6,rest⟩);clear hb6)
       exact ⟨⟨j+1,hh,ll,hlt,by go_num,rfl,rfl,H6.out⟩,by simp [intOf];omega⟩
      ·have H6:Hid (NJ w1 ga gb E kk (j+1) hh ll w4):=nk_next H4.out hjk
       go_wp2_with fail
       exact ⟨⟨j+1,hh,ll,hlt,by go_num,rfl,rfl,H6.out⟩,by simp [intOf];omega⟩
   ·obtain rfl:j=E.length:=by omega
    have q1:¬((E.length:Int)<E.length):=by omega
    have HB:Hid (Below W.heap.size W wr):=H1.out.1.trans (hbw.mono H1.out.1.size)
    clear hbw HJ H3
    go_wp2_with fail
    refine (HAw.out _ HB.out).mono ?_
    rintro r w9 ⟨rfl,hb9⟩
    have H9:Hid (Below W.heap.size W w9):=HB.out.trans (hb9.mono HB.out.size)
    clear hb9
    go_wp2_with fail
    go_ret
    exact ⟨rfl,H9.out⟩)
def PrP (W:World) (n:Int) (L:List Dc) (r:Ending) (w':World):Prop:=
 ∃p c,r=.returned (.tuple #[.string (Lw.wprn n L).1,.slice p L.length c,.bool (decide ((Lw.wprn n L).2=0))])∧Rd w' (.slice p L.length c) L∧(∀k,(Value.slice p L.length c).ownBlock=some k→W.heap.size≤k)∧Below W.heap.size W w'
set_option maxHeartbeats 2000000 in
theorem printed_good (n:Int) (s:ByteArray) (W:World) (hT:Lx.Kab W) (hW:Lw.Tab W) (hs:s.size≤1000000000) (h0:(Lx.scn s).2.1=0) {E:List Ev}{a:Nat}(hl:(stk s).length≤4194304) (hA:Alr (.live [] 0) (stk s) E 0 a)
  (hE:E.length≤8000000) (ht:∀e∈E,e.d.t.size≤9223372036854775807) {L:List Dc} (hL:slay sy0 E=some L) (hd:∀d∈L,d.t.size≤9223372036854775807) (hU:Lw.uds L≤268435456) :
  Calls Tryz.prog 17 #[.int .i64 n,.string s] W fun r w'=>PrP W n L r w':=by
 have HV:Hid (Calls Tryz.prog 16 #[.string s] W fun r w'=>∃p c p2 n2 c2,r=.returned (.tuple #[.slice p E.length c,.slice p2 n2 c2,.bool true])∧Lev w' p E∧Below W.heap.size W w'):=by
  refine (events_good s W hT hs h0 hl hA).mono ?_
  rintro r w' ⟨p,m,c,p2,n2,c2,rfl,hb,hx⟩
  obtain ⟨x1,x2,x3⟩:=hx rfl
  obtain ⟨p',c',e,_⟩:=x1.shape
  cases e
  exact ⟨p,c,p2,n2,c2,rfl,re_lev x1,hb⟩
 have HL:Hid (∀V p c,Lev V p E→Calls Tryz.prog 32 #[.slice p E.length c] V fun r w'=>∃p c,r=.returned (.tuple #[.slice p L.length c,.bool true])∧Rd w' (.slice p L.length c) L∧Lw.Lay w' p L∧(∀k,(Value.slice p L.length c).ownBlock=some k→V.heap.size≤k)∧Below V.heap.size V w'∧L.length≤100000000):=fun V p c h=>by
  refine (layout_any E p c V h (by omega) ht).mono ?_
  rintro r w' ⟨p,m,c,rfl,hb,hx⟩
  obtain ⟨x1,x2,x3⟩:=hx L hL
  obtain ⟨p',c',e,_⟩:=rd_shape x1
  cases e
  obtain ⟨ao,cap,e1,e2,e3,_⟩:=Lw.Lay.row x1 hd
  cases e1
  exact ⟨p,c,by rw [hL];rfl,x1,e3,x2,hb,by omega⟩
 have HP:Hid (∀V p c,Lw.Lay V p L→L.length≤100000000→Below W.heap.size W V→Calls Tryz.prog 33 #[.int .i64 n,.slice p L.length c] V fun e w'=>e=.returned (.tuple #[.string (Lw.wprn n L).1,.int .i64 (Lw.wprn n L).2])∧Below V.heap.size V w'):=fun V p c h h1 hb=>Lw.print_any n p L c V h (hW.below hb) h1 hU
 obtain ⟨t,z,hz⟩:∃t z,Lw.wprn n L=(t,z):=⟨_,_,rfl⟩
 unfold PrP
 rw [hz] at HP ⊢
 clear hT hW hs h0 hl hA hE ht hL hd hU hz
 go_enter Tryz.func17,Tryz.ntmps17
 go_wp2_with (first
  | (go_at_call 16;refine HV.out.mono ?_;rintro r1 w1 ⟨p1,c1,p2,n2,c2,rfl,hLev,hb1⟩;have HX1:Hid (Lev w1 p1 E∧Below W.heap.size W w1):=⟨hLev,hb1⟩;clear hLev hb1)
  | (go_at_call 32;refine (HL.out _ _ _ HX1.out.1).mono ?_;rintro r2 w2 ⟨p3,c3,rfl,y1,y2,y3,y4,y5⟩;have HX2:Hid (Rd w2 (.slice p3 L.length c3) L∧Lw.Lay w2 p3 L∧(∀k,(Value.slice p3 L.length c3).ownBlock=some k→W.heap.size≤k)∧Below W.heap.size W w2∧L.length≤100000000):=(⟨y1,y2,fun k e=>Nat.le_trans HX1.out.2.size (y3 k e),HX1.out.2.trans (y4.mono HX1.out.2.size),y5⟩);clear y1 y2 y3 y4 y5)
  | (go_at_call 33;refine (HP.out _ _ _ HX2.out.2.1 HX2.out.2.2.2.2 HX2.out.2.2.2.1).mono ?_;rintro r3 w3 ⟨rfl,y6⟩;have HX3:Hid (Below w2.heap.size w2 w3):=y6;clear y6))
 refine bodyPost_ret (v:=.tuple #[.string t,.slice p3 L.length c3,.bool (z == 0)]) (by simp [results,Tryz.f17,go_sem]) rfl ?_
 have e9:(z == 0)=decide (z=0):=by by_cases q:z=0 <;> simp [q]
 obtain ⟨x1,x2,x3,x4,x5⟩:=HX2.out
 exact ⟨p3,c3,by rw [e9],row_below x1 HX3.out,x3,x4.trans (HX3.out.mono x4.size)⟩
end Go.Proofs.YtpdlohfdjiaegaaGreatDoor
namespace Go.Proofs.YtpdlohfdjiaegaaGreatDoor
open Go.RowKit
def ruF (t:Tv):Nat→List It→Int→List Ev→Option (Nat × Ro)
 |0,_,_,_=>none
 |f+1,[],n,E=>some (0,.no)
 |f+1,i :: K,n,E=>match It.step t i with
  |.ref=>some (0,.no)
  |.tk=>some (0,.yes K n E)
  |.go d o r=>match ruF t f (r++K) (n+d) (E++o) with
   |some (k,R)=>some (k+1,R)
   |none=>none
theorem ruF_is {t:Tv}:∀(f:Nat) (K:List It) (n:Int) (E:List Ev) (k:Nat) (R:Ro),ruF t f K n E=some (k,R)→Ru t k K n E R
 |0,_,_,_,_,_,h=>by cases h
 |f+1,[],n,E,k,R,h=>by cases h;exact .nil
 |f+1,i :: K,n,E,k,R,h=>by
  simp only [ruF] at h
  cases hs:It.step t i with
  |ref=>rw [hs] at h;cases h;exact .ref hs
  |tk=>rw [hs] at h;cases h;exact .tk hs
  |go d o r=>
   rw [hs] at h
   simp only at h
   cases hr:ruF t f (r++K) (n+d) (E++o) with
   |none=>rw [hr] at h;cases h
   |some x=>
    obtain ⟨k',R'⟩:=x
    rw [hr] at h
    cases h
    exact .go hs (ruF_is f _ _ _ _ _ hr)
def putF (t:Tv):Pst→Option (List Ev × Int × Pst)
 |.live K n=>if (t.k == 7 || t.k == 8) then some (begE n++[⟨4,0,t⟩],0,.live (beg K n) (begN n)) else match ruF t 20 (beg K n) (begN n) (begE n) with
  |some (k,.yes L m E)=>if m≤1000 then some (E++[⟨2,0,t⟩],0,.live L m) else none
  |some (k,.no)=>some ([],120,.stuck 120 n)
  |none=>none
 |_=>none
theorem ruF_le {t:Tv}:∀(f:Nat) (K:List It) (n:Int) (E:List Ev) (k:Nat) (R:Ro),ruF t f K n E=some (k,R)→k+1≤f
 |0,_,_,_,_,_,h=>by cases h
 |f+1,[],n,E,k,R,h=>by cases h;omega
 |f+1,i :: K,n,E,k,R,h=>by
  simp only [ruF] at h
  cases hs:It.step t i with
  |ref=>rw [hs] at h;cases h;omega
  |tk=>rw [hs] at h;cases h;omega
  |go d o r=>
   rw [hs] at h
   simp only at h
   cases hr:ruF t f (r++K) (n+d) (E++o) with
   |none=>rw [hr] at h;cases h
   |some x=>
    obtain ⟨k',R'⟩:=x
    rw [hr] at h
    cases h
    have:=ruF_le f _ _ _ _ _ hr
    omega
theorem putF_is {t:Tv}{st:Pst}{x:List Ev × Int × Pst}(h:putF t st=some x):Putr t st x.1 x.2.1 x.2.2:=by
 cases st with
 |live K n=>
  simp only [putF] at h
  split at h
  ·rename_i hc
   cases h
   exact .note hc
  ·rename_i hc
   have hc':(t.k == 7 || t.k == 8)=false:=by simpa using hc
   cases hr:ruF t 20 (beg K n) (begN n) (begE n) with
   |none=>rw [hr] at h;cases h
   |some y=>
    obtain ⟨k,R⟩:=y
    have h1:=ruF_is _ _ _ _ _ _ hr
    have h2:=ruF_le _ _ _ _ _ _ hr
    rw [hr] at h
    cases R with
    |no=>cases h;exact .no hc' h1 (by omega)
    |yes L m E=>
     simp only at h
     split at h
     ·cases h;exact .yes hc' h1 (by omega) (by assumption)
     ·cases h
 |stuck e n=>cases h
 |shut=>cases h
def alrF:List Tv→Pst→Option (List Ev × Int × Nat)
 |[],.live K n=>if K.length=1 then some ([⟨3,1,tv0⟩],0,0) else some ([],121,0)
 |[],_=>none
 |t :: l,st=>match putF t st with
  |some (ev,c,st')=>if c=0 then (match alrF l st' with|some (E,c',k)=>some (ev++E,c',k+1)|none=>none) else some ([],c,0)
  |none=>none
theorem alrF_is:∀(l:List Tv) (st:Pst) (E:List Ev) (c:Int) (k:Nat),alrF l st=some (E,c,k)→Alr st l E c k
 |[],st,E,c,k,h=>by
  cases st with
  |live K n=>
   simp only [alrF] at h
   split at h
   ·rename_i h1;cases h;exact .nil (.all h1)
   ·rename_i h1;cases h;exact .nil (.open h1)
  |stuck e n=>cases h
  |shut=>cases h
 |t :: l,st,E,c,k,h=>by
  simp only [alrF] at h
  cases hp:putF t st with
  |none=>rw [hp] at h;cases h
  |some x=>
   obtain ⟨ev,c1,st'⟩:=x
   have h1:=putF_is hp
   rw [hp] at h
   simp only at h h1
   split at h
   ·rename_i hc
    subst hc
    cases hr:alrF l st' with
    |none=>rw [hr] at h;cases h
    |some y=>
     obtain ⟨E2,c2,k2⟩:=y
     rw [hr] at h
     cases h
     exact .on h1 (alrF_is l st' _ _ _ hr)
   ·rename_i hc
    cases h
    exact .err h1 hc
end Go.Proofs.YtpdlohfdjiaegaaGreatDoor
namespace Go.Proofs.YtpdlohfdjiaegaaGreatDoor
open Go.RowKit
open Lw (Dc bE rt frm dep rtT rtN dcs dcs_len dcs_one)
def runs (n:Int) (s o:ByteArray):Bool:=
 decide (s.size≤1000) && decide ((Lx.scn s).2.1=0) && decide ((stk s).length≤4194304) && match alrF (stk s) (.live [] 0) with
 |some (E,c,_)=>decide (c=0) && decide (E.length≤8000000) && E.all (fun e=>decide (e.d.t.size≤1000)) && match slay sy0 E with
  |some L=>L.all (fun d=>decide (d.t.size≤1000)) && decide (Lw.uds L≤268435456) && decide ((Lw.wprn n L).2=0) && decide ((Lw.wprn n L).1.data.toList=o.data.toList)
  |none=>false
 |none=>false
abbrev src1:ByteArray:=⟨#[112,114,111,103,114,97,109,32,112,59,98,101,103,105,110,32,120,58,61,49,59,121,58,61,102,40,97,44,98,41,101,110,100,46]⟩
abbrev out1:ByteArray:=⟨#[112,114,111,103,114,97,109,32,112,59,10,98,101,103,105,110,10,32,32,120,32,58,61,32,49,59,10,32,32,121,32,58,61,32,102,40,97,44,32,98,41,10,101,110,100,46,10]⟩
abbrev src2:ByteArray:=⟨#[112,114,111,103,114,97,109,32,112,59,32,47,47,32,113,10,98,101,103,105,110,32,123,120,125,32,120,58,61,32,47,47,32,111,110,101,10,10,10,49,59,32,123,116,119,111,125,32,115,107,105,112,10,47,47,32,116,104,114,101,101,10,101,110,100,46]⟩
abbrev out2:ByteArray:=⟨#[112,114,111,103,114,97,109,32,112,59,32,47,47,32,113,10,98,101,103,105,110,32,123,120,125,10,32,32,120,32,58,61,32,47,47,32,111,110,101,10,32,32,32,32,49,59,32,123,116,119,111,125,10,32,32,115,107,105,112,10,32,32,47,47,32,116,104,114,101,101,10,101,110,100,46,10]⟩
theorem runs1:runs 20 src1 out1=true:=by kernel_rfl
theorem runs2:runs 20 src2 out2=true:=by kernel_rfl
theorem ba_ext {a b:ByteArray}(h:a.data.toList=b.data.toList):a=b:=by
 obtain ⟨⟨x⟩⟩:=a
 obtain ⟨⟨y⟩⟩:=b
 exact congrArg (fun l=>(⟨⟨l⟩⟩:ByteArray)) h
theorem runs_print {n:Int}{s o:ByteArray}(h:runs n s o=true) (W:World) (hT:Lx.Kab W) (hW:Lw.Tab W) :
  Calls Tryz.prog 17 #[.int .i64 n,.string s] W fun r w'=>∃p m c,r=.returned (.tuple #[.string o,.slice p m c,.bool true])∧Below W.heap.size W w':=by
 unfold runs at h
 rw [Bool.and_eq_true,Bool.and_eq_true,Bool.and_eq_true] at h
 obtain ⟨⟨⟨h1,h2⟩,h3⟩,h4⟩:=h
 cases ha:alrF (stk s) (.live [] 0) with
 |none=>rw [ha] at h4;cases h4
 |some x=>
  obtain ⟨E,c,k⟩:=x
  rw [ha] at h4
  simp only at h4
  rw [Bool.and_eq_true,Bool.and_eq_true,Bool.and_eq_true] at h4
  obtain ⟨⟨⟨h5,h6⟩,h7⟩,h8⟩:=h4
  have hc:=of_decide_eq_true h5
  subst hc
  cases hL:slay sy0 E with
  |none=>rw [hL] at h8;cases h8
  |some L=>
   rw [hL] at h8
   simp only at h8
   rw [Bool.and_eq_true,Bool.and_eq_true,Bool.and_eq_true] at h8
   obtain ⟨⟨⟨g1,g2⟩,g3⟩,g4⟩:=h8
   have hsz:=of_decide_eq_true h1
   refine (printed_good n s W hT hW (by omega) (of_decide_eq_true h2) (of_decide_eq_true h3) (alrF_is _ _ _ _ _ ha) (of_decide_eq_true h6) (fun e he=>?_) hL (fun d hd=>?_) (of_decide_eq_true g2)).mono ?_
   ·have:=of_decide_eq_true (List.all_eq_true.1 h7 e he);omega
   ·have:=of_decide_eq_true (List.all_eq_true.1 g1 d hd);omega
   ·rintro r w' ⟨p,c,rfl,_,_,hb⟩
    rw [ba_ext (of_decide_eq_true g4),decide_eq_true (of_decide_eq_true g3)]
    exact ⟨p,_,c,rfl,hb⟩
set_option maxHeartbeats 2000000 in
theorem awake_any (W:World) (hT:Lx.Kab W) (hW:Lw.Tab W):Calls Tryz.prog 9 #[] W fun r w'=>r=.returned (.bool true)∧Below W.heap.size W w':=by
 have H1:Hid (Calls Tryz.prog 17 #[.int .i64 20,.string src1] W fun r w'=>∃p m c,r=.returned (.tuple #[.string out1,.slice p m c,.bool true])∧Below W.heap.size W w'):=runs_print runs1 W hT hW
 have H2:Hid (∀V,Below W.heap.size W V→Calls Tryz.prog 17 #[.int .i64 20,.string src2] V fun r w'=>∃p m c,r=.returned (.tuple #[.string out2,.slice p m c,.bool true])∧Below V.heap.size V w'):=fun V hb=>runs_print runs2 V (hT.below hb) (hW.below hb)
 clear hT hW
 go_enter Tryz.func9,Tryz.ntmps9
 go_wp2_with fail
 refine H1.out.mono ?_
 rintro r1 w1 ⟨p1,m1,c1,rfl,hb1⟩
 have HB1:Hid (Below W.heap.size W w1):=hb1
 clear hb1 H1
 go_wp2_with fail
 refine (H2.out _ HB1.out).mono ?_
 rintro r2 w2 ⟨p2,m2,c2,rfl,hb2⟩
 have HB2:Hid (Below W.heap.size W w2):=HB1.out.trans (hb2.mono HB1.out.size)
 clear hb2 H2
 go_wp2_with fail
 go_ret
 exact ⟨rfl,HB2.out⟩
end Go.Proofs.YtpdlohfdjiaegaaGreatDoor
