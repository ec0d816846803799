import Derived.Test.YtpdlohfdjiaegaaGreatDoorTie
import Derived.Test.YtpdlohfdjiaegaaGreatDoorCards
import Derived.ShutString
import Derived.ChangeOld
import Derived.SevenTiedAt
import Derived.Lib.SmallJoins
import Derived.Deep.Slices
import Derived.Deep.DeepHandedRow
import Derived.Test.YtpdlohfdjiaegaaGreatDoorM12
import Derived.Test.YtpdlohfdjiaegaaGreatDoorM23
import Derived.Test.YtpdlohfdjiaegaaGreatDoorM37
import Derived.Test.YtpdlohfdjiaegaaGreatDoorM47
set_option linter.unusedVariables false
set_option linter.unusedSimpArgs false
namespace Go.Proofs.YtpdlohfdjiaegaaGreatDoor
open Go.RowKit
abbrev stk (s:ByteArray):List Tv:=(Lx.scn s).1.map (Lx.tv s)
def EvP (W:World) (T:List Tv) (E:List Ev) (code:Int) (r:Ending) (w':World):Prop:=
 ∃p n c p2 n2 c2,r=.returned (.tuple #[.slice p n c,.slice p2 n2 c2,.bool (decide (code=0))])∧Below W.heap.size W w'∧(code=0→Re w' (.slice p n c) E∧(∀k,(Value.slice p n c).ownBlock=some k→W.heap.size≤k)∧Rt W.heap.size w' (.slice p2 n2 c2) T)
set_option maxHeartbeats 2000000 in
theorem events_good (s:ByteArray) (W:World) (hT:Lx.Kab W) (hs:s.size≤1000000000) (h0:(Lx.scn s).2.1=0) {E:List Ev}{code:Int}{a:Nat}(hl:(stk s).length≤4194304) (hA:Alr (.live [] 0) (stk s) E code a) :
  Calls Tryz.prog 16 #[.string s] W fun r w'=>EvP W (stk s) E code r w':=by
 obtain ⟨T,hTT⟩:∃T,stk s=T:=⟨_,rfl⟩
 have HS:Hid (Calls Tryz.prog 28 #[.string s] W fun e w'=>∃p c x y u,e=.returned (.tuple #[.slice p T.length c,.int .i64 0,.agg #[.int .i64 x,.int .i64 y,.int .i64 u]])∧Rt W.heap.size w' (.slice p T.length c) T∧Below W.heap.size W w'):=by
  refine (Lx.all_any s W hT hs).mono ?_
  rintro e w' ⟨⟨v,rfl,hr⟩,hb⟩
  rw [h0]
  have hr':Rt W.heap.size w' v T:=by rw [←hTT];exact hr
  obtain ⟨p,c,rfl,_⟩:=hr'.shape
  exact ⟨p,c,_,_,_,rfl,hr',hb⟩
 rw [hTT] at hl hA ⊢
 have HM:Hid (Alr (.live [] 0) T E code a∧T.length≤4194304):=⟨hA,hl⟩
 have HNew:Hid (∀V,Calls Tryz.prog 29 #[] V fun r w'=>r=.returned (pt V.heap.size)∧Pq (fun k=>k=V.heap.size) w' V.heap.size (.live [] 0)∧Below V.heap.size V w'∧w'.heap.size=V.heap.size+1):=new_st
 clear hT hs h0 hTT hl hA
 go_enter Tryz.func16,Tryz.ntmps16
 go_upto_region 4 with (go_at_call 28;refine HS.out.mono ?_;rintro e w1 ⟨pT,cT,x9,y9,u9,rfl,hRt,hb1⟩;have HR1:Hid (∀o,Rt W.heap.size (w1.alloc o) (.slice pT T.length cT) T∧Below W.heap.size W (w1.alloc o)):=(fun o=>⟨hRt.below ((Below.refl _ _).alloc (Nat.le_refl _) _),hb1.alloc hb1.size _⟩);clear hRt hb1)
 obtain ⟨V4,eV4⟩:∃V4,w1.alloc (.cells #[.int .i64 x9,.int .i64 y9,.int .i64 u9] 35)=V4:=⟨_,rfl⟩
 have H4:=HR1.out (.cells #[.int .i64 x9,.int .i64 y9,.int .i64 u9] 35)
 rw [eV4] at H4 ⊢
 have HR:Hid (Rt W.heap.size V4 (.slice pT T.length cT) T∧Below W.heap.size W V4):=H4
 have HLt:Hid (∀V,Below V4.heap.size V4 V→Lt V pT T∧Rt W.heap.size V (.slice pT T.length cT) T∧Below W.heap.size W V):=fun V hb=>by
  have h5:=H4.1.below hb
  obtain ⟨ao,cap,e1,h6,_⟩:=Lt.row h5
  cases e1
  exact ⟨h6,h5,H4.2.trans (hb.mono H4.2.size)⟩
 clear H4 HR1 eV4 HS
 go_wp2_with fail
 refine (HNew.out _).mono ?_
 rintro r w5 ⟨rfl,hq,hb,hs1⟩
 obtain ⟨g,hg⟩:∃g,V4.heap.size=g:=⟨_,rfl⟩
 have HI:Hid (∃S,PAI V4 V4.heap.size nilS [] (.live [] 0) S w5):=⟨_,hb,hq,good_new,fun k e=>by rw [e];omega,re_nil _,fun k e=>by cases e⟩
 rw [hg] at HI ⊢
 clear hq hb hs1 hg HNew
 go_wp2_with fail
 go_loopw [9,10,11,12] (fun v i _ _ wr=>∃j:Nat,j≤T.length∧i=.int .i64 j∧Hid (∃S st E0 E1 k1,PAI V4 g v E0 st S wr∧Alr st (T.drop j) E1 code k1∧E=E0++E1∧E0.length≤30000*j)) (fun _ i _ _ _=>T.length-(intOf i).toNat)
 case atStart=>
  obtain ⟨S,hI⟩:=HI.out
  exact ⟨0,Nat.zero_le _,rfl,S,_,[],E,a,hI,HM.out.1,rfl,by simp⟩
 case round=>
  obtain ⟨j,hj,rfl,HJ⟩:=hrel
  obtain ⟨S,st,E0,E1,k1,hI,hR,hE,hz⟩:=HJ.out
  obtain ⟨pv,cpv,hv,_⟩:=hI.re.shape
  subst hv
  have hTl:=HM.out.2
  by_cases hlt:j<T.length
  ·have q1:(j:Int)<T.length:=by omega
   have q0:(0:Int)≤j:=by omega
   obtain ⟨t,ht⟩:∃t,T[j]?=some t:=⟨_,List.getElem?_eq_getElem hlt⟩
   have hdr:T.drop j=t :: T.drop (j+1):=by
    obtain ⟨a1,a2⟩:=List.getElem?_eq_some_iff.1 ht
    rw [List.drop_eq_getElem_cons a1,a2]
   obtain ⟨b,off,rfl,x0,x1,x2,x3,x4,x5⟩:=(HLt.out wr hI.bel).1.cell6 ht
   rw [hdr] at hR
   clear HJ HI hdr ht
   rcases hR.inv with ⟨ev,st',hp,hc,rfl,rfl⟩|⟨ev,st',E2,k2,hp,hR2,rfl,rfl⟩
   ·have HP:Hid (Calls Tryz.prog 30 #[pt g,.agg #[.int .u8 t.k,.string t.t,.int .i64 t.a,.int .i64 t.l,.int .i64 t.c,.int .i64 t.f]] wr fun r w'=>∃v,r=.returned (.tuple #[v,.int .i64 code])∧Pa S g wr w' v ev st'):=pput_any hI.pq (fun k hk=>(hI.sB k hk).2) hI.gd.ok hp
    have HN:Hid (∀w' x,Pa S g wr w' x ev st'→PAJ V4 g (.slice pv E0.length cpv) x E0 ev st' w'):=fun w' x hx=>hI.call hx (put_keep hI.gd hp).1
    have q5:(code != 0)=true:=by simpa using hc
    have HC:Hid (code≠0):=hc
    clear hI hR hp hc hE
    go_wp2_with fail
    refine HP.out.mono ?_
    rintro r w6 ⟨x,rfl,hx⟩
    have H6:Hid (PAJ V4 g (.slice pv E0.length cpv) x E0 ev st' w6):=HN.out _ _ hx
    obtain ⟨px,cx,hxs,_⟩:=hx.re.shape
    subst hxs
    clear hx
    go_wp2_with fail
    obtain ⟨S2,hI2⟩:=H6.out.ex
    refine bodyPost_ret (v:=.tuple #[.slice none 0 0,.slice none 0 0,.bool false]) (by simp [results,Tryz.f16,go_sem]) rfl ?_
    exact ⟨none,0,0,none,0,0,by rw [decide_eq_false HC.out],(HLt.out _ hI2.bel).2.2,fun h=>absurd h HC.out⟩
   ·have HP:Hid (Calls Tryz.prog 30 #[pt g,.agg #[.int .u8 t.k,.string t.t,.int .i64 t.a,.int .i64 t.l,.int .i64 t.c,.int .i64 t.f]] wr fun r w'=>∃v,r=.returned (.tuple #[v,.int .i64 0])∧Pa S g wr w' v ev st'):=pput_any hI.pq (fun k hk=>(hI.sB k hk).2) hI.gd.ok hp
    have HN:Hid (∀w' x,Pa S g wr w' x ev st'→PAJ V4 g (.slice pv E0.length cpv) x E0 ev st' w'):=fun w' x hx=>hI.call hx (put_keep hI.gd hp).1
    have hel:=(put_keep hI.gd hp).2.1
    have HK:Hid (Alr st' (T.drop (j+1)) E2 code k2∧E=(E0++ev)++E2∧(E0++ev).length≤30000*(j+1)∧E0.length+ev.length≤1000000000000):=⟨hR2,by rw [hE,List.append_assoc],by simp;omega,by omega⟩
    clear hI hR hp hE hR2 hel
    go_wp2_with fail
    refine HP.out.mono ?_
    rintro r w6 ⟨x,rfl,hx⟩
    have H6:Hid (PAJ V4 g (.slice pv E0.length cpv) x E0 ev st' w6):=HN.out _ _ hx
    obtain ⟨px,cx,hxs,_⟩:=hx.re.shape
    subst hxs
    clear hx
    go_wp2_with (at_builtin;refine app_evs (by rfl) _ _ (by rfl) (.slice pv E0.length cpv) (.slice px ev.length cx) E0 ev (by rfl) H6.out.rv (by rfl) H6.out.rx HK.out.2.2.2 ?_;intro v3 w7 h3 k3 n3;have H7:Hid (∃S,PAI V4 g v3 (E0++ev) st' S w7):=H6.out.fin _ _ h3 k3 n3;clear h3 k3 n3)
    obtain ⟨S3,hI3⟩:=H7.out
    exact ⟨⟨j+1,hlt,by go_num,S3,st',E0++ev,E2,k2,hI3,HK.out.1,HK.out.2.1,HK.out.2.2.1⟩,by simp [intOf];omega⟩
  ·obtain rfl:j=T.length:=by omega
   have q1:¬((T.length:Int)<T.length):=by omega
   rw [List.drop_length] at hR
   obtain ⟨hc,rfl⟩:=hR.end
   have HP:Hid (Calls Tryz.prog 31 #[pt g] wr fun r w'=>∃v,r=.returned (.tuple #[v,.int .i64 code])∧Pa S g wr w' v E1 .shut):=close_any hI.pq (fun k hk=>(hI.sB k hk).2) hI.gd.ok hc
   have HN:Hid (∀w' x,Pa S g wr w' x E1 .shut→PAJ V4 g (.slice pv E0.length cpv) x E0 E1 .shut w'):=fun w' x hx=>hI.call hx trivial
   have HK:Hid (E=E0++E1∧E0.length+E1.length≤1000000000000):=⟨hE,by
    have h1:E1.length≤1:=by cases hc <;> simp
    omega⟩
   clear hI hR hE hc HJ HI
   go_wp2_with fail
   refine HP.out.mono ?_
   rintro r w6 ⟨x,rfl,hx⟩
   have H6:Hid (PAJ V4 g (.slice pv E0.length cpv) x E0 E1 .shut w6):=HN.out _ _ hx
   obtain ⟨px,cx,hxs,_⟩:=hx.re.shape
   subst hxs
   clear hx
   go_wp2_with (at_builtin;refine app_evs (by rfl) _ _ (by rfl) (.slice pv E0.length cpv) (.slice px E1.length cx) E0 E1 (by rfl) H6.out.rv (by rfl) H6.out.rx HK.out.2 ?_;intro v3 w7 h3 k3 n3;have H7:Hid (∃S,PAI V4 g v3 (E0++E1) .shut S w7):=H6.out.fin _ _ h3 k3 n3;obtain ⟨p3,c3,e3,_⟩:=h3.shape;subst e3;clear h3 k3 n3)
   obtain ⟨S7,hI7⟩:=H7.out
   obtain ⟨y1,y2,y3⟩:=HLt.out _ hI7.bel
   refine bodyPost_ret (v:=.tuple #[.slice p3 (E0.length+E1.length) c3,.slice pT T.length cT,.bool (code == 0)]) (by simp [results,Tryz.f16,go_sem]) rfl ?_
   have e9:(code == 0)=decide (code=0):=by by_cases q:code=0 <;> simp [q]
   have e8:(E0++E1).length=E0.length+E1.length:=List.length_append
   have hre:=hI7.re
   have hvb:=hI7.vB
   rw [e8] at hre hvb
   exact ⟨_,_,_,_,_,_,by rw [e9],y3,fun h=>⟨by rw [HK.out.1];exact hre,fun k e=>Nat.le_trans HR.out.2.size (hvb k e).1,y2⟩⟩
end Go.Proofs.YtpdlohfdjiaegaaGreatDoor
namespace Go.Proofs.YtpdlohfdjiaegaaGreatDoor
open Go.RowKit
open Lw (Dc bE rt frm dep rtT rtN dcs dcs_len dcs_one)
def PrP (W:World) (n:Int) (L:List Dc) (r:Ending) (w':World):Prop:=
 ∃p c,r=.returned (.tuple #[.string (Lw.wprn n L).1,.slice p L.length c,.bool (decide ((Lw.wprn n L).2=0))])∧Rd w' (.slice p L.length c) L∧(∀k,(Value.slice p L.length c).ownBlock=some k→W.heap.size≤k)∧Below W.heap.size W w'
set_option maxHeartbeats 2000000 in
theorem printed_good (n:Int) (s:ByteArray) (W:World) (hT:Lx.Kab W) (hW:Lw.Tab W) (hs:s.size≤1000000000) (h0:(Lx.scn s).2.1=0) {E:List Ev}{a:Nat}(hl:(stk s).length≤4194304) (hA:Alr (.live [] 0) (stk s) E 0 a)
  (hE:E.length≤8000000) (ht:∀e∈E,e.d.t.size≤9223372036854775807) {L:List Dc} (hL:slay sy0 E=some L) (hd:∀d∈L,d.t.size≤9223372036854775807) (hU:Lw.uds L≤268435456) :
  Calls Tryz.prog 17 #[.int .i64 n,.string s] W fun r w'=>PrP W n L r w':=by
 have HV:Hid (Calls Tryz.prog 16 #[.string s] W fun r w'=>∃p c p2 n2 c2,r=.returned (.tuple #[.slice p E.length c,.slice p2 n2 c2,.bool true])∧Lev w' p E∧Below W.heap.size W w'):=by
  refine (events_good s W hT hs h0 hl hA).mono ?_
  rintro r w' ⟨p,m,c,p2,n2,c2,rfl,hb,hx⟩
  obtain ⟨x1,x2,x3⟩:=hx rfl
  obtain ⟨p',c',e,_⟩:=x1.shape
  cases e
  exact ⟨p,c,p2,n2,c2,rfl,re_lev x1,hb⟩
 have HL:Hid (∀V p c,Lev V p E→Calls Tryz.prog 32 #[.slice p E.length c] V fun r w'=>∃p c,r=.returned (.tuple #[.slice p L.length c,.bool true])∧Rd w' (.slice p L.length c) L∧Lw.Lay w' p L∧(∀k,(Value.slice p L.length c).ownBlock=some k→V.heap.size≤k)∧Below V.heap.size V w'∧L.length≤100000000):=fun V p c h=>by
  refine (layout_any E p c V h (by omega) ht).mono ?_
  rintro r w' ⟨p,m,c,rfl,hb,hx⟩
  obtain ⟨x1,x2,x3⟩:=hx L hL
  obtain ⟨p',c',e,_⟩:=rd_shape x1
  cases e
  obtain ⟨ao,cap,e1,e2,e3,_⟩:=Lw.Lay.row x1 hd
  cases e1
  exact ⟨p,c,by rw [hL];rfl,x1,e3,x2,hb,by omega⟩
 have HP:Hid (∀V p c,Lw.Lay V p L→L.length≤100000000→Below W.heap.size W V→Calls Tryz.prog 33 #[.int .i64 n,.slice p L.length c] V fun e w'=>e=.returned (.tuple #[.string (Lw.wprn n L).1,.int .i64 (Lw.wprn n L).2])∧Below V.heap.size V w'):=fun V p c h h1 hb=>Lw.print_any n p L c V h (hW.below hb) h1 hU
 obtain ⟨t,z,hz⟩:∃t z,Lw.wprn n L=(t,z):=⟨_,_,rfl⟩
 unfold PrP
 rw [hz] at HP ⊢
 clear hT hW hs h0 hl hA hE ht hL hd hU hz
 go_enter Tryz.func17,Tryz.ntmps17
 go_wp2_with (first
  | (go_at_call 16;refine HV.out.mono ?_;rintro r1 w1 ⟨p1,c1,p2,n2,c2,rfl,hLev,hb1⟩;have HX1:Hid (Lev w1 p1 E∧Below W.heap.size W w1):=⟨hLev,hb1⟩;clear hLev hb1)
  | (go_at_call 32;refine (HL.out _ _ _ HX1.out.1).mono ?_;rintro r2 w2 ⟨p3,c3,rfl,y1,y2,y3,y4,y5⟩;have HX2:Hid (Rd w2 (.slice p3 L.length c3) L∧Lw.Lay w2 p3 L∧(∀k,(Value.slice p3 L.length c3).ownBlock=some k→W.heap.size≤k)∧Below W.heap.size W w2∧L.length≤100000000):=(⟨y1,y2,fun k e=>Nat.le_trans HX1.out.2.size (y3 k e),HX1.out.2.trans (y4.mono HX1.out.2.size),y5⟩);clear y1 y2 y3 y4 y5)
  | (go_at_call 33;refine (HP.out _ _ _ HX2.out.2.1 HX2.out.2.2.2.2 HX2.out.2.2.2.1).mono ?_;rintro r3 w3 ⟨rfl,y6⟩;have HX3:Hid (Below w2.heap.size w2 w3):=y6;clear y6))
 refine bodyPost_ret (v:=.tuple #[.string t,.slice p3 L.length c3,.bool (z == 0)]) (by simp [results,Tryz.f17,go_sem]) rfl ?_
 have e9:(z == 0)=decide (z=0):=by by_cases q:z=0 <;> simp [q]
 obtain ⟨x1,x2,x3,x4,x5⟩:=HX2.out
 exact ⟨p3,c3,by rw [e9],row_below x1 HX3.out,x3,x4.trans (HX3.out.mono x4.size)⟩
end Go.Proofs.YtpdlohfdjiaegaaGreatDoor
namespace Go.Proofs.YtpdlohfdjiaegaaGreatDoor
open Go.RowKit
def ruF (t:Tv):Nat→List It→Int→List Ev→Option (Nat × Ro)
 |0,_,_,_=>none
 |f+1,[],n,E=>some (0,.no)
 |f+1,i :: K,n,E=>match It.step t i with
  |.ref=>some (0,.no)
  |.tk=>some (0,.yes K n E)
  |.go d o r=>match ruF t f (r++K) (n+d) (E++o) with
   |some (k,R)=>some (k+1,R)
   |none=>none
theorem ruF_is {t:Tv}:∀(f:Nat) (K:List It) (n:Int) (E:List Ev) (k:Nat) (R:Ro),ruF t f K n E=some (k,R)→Ru t k K n E R
 |0,_,_,_,_,_,h=>by cases h
 |f+1,[],n,E,k,R,h=>by cases h;exact .nil
 |f+1,i :: K,n,E,k,R,h=>by
  simp only [ruF] at h
  cases hs:It.step t i with
  |ref=>rw [hs] at h;cases h;exact .ref hs
  |tk=>rw [hs] at h;cases h;exact .tk hs
  |go d o r=>
   rw [hs] at h
   simp only at h
   cases hr:ruF t f (r++K) (n+d) (E++o) with
   |none=>rw [hr] at h;cases h
   |some x=>
    obtain ⟨k',R'⟩:=x
    rw [hr] at h
    cases h
    exact .go hs (ruF_is f _ _ _ _ _ hr)
def putF (t:Tv):Pst→Option (List Ev × Int × Pst)
 |.live K n=>if (t.k == 7 || t.k == 8) then some (begE n++[⟨4,0,t⟩],0,.live (beg K n) (begN n)) else match ruF t 20 (beg K n) (begN n) (begE n) with
  |some (k,.yes L m E)=>if m≤1000 then some (E++[⟨2,0,t⟩],0,.live L m) else none
  |some (k,.no)=>some ([],120,.stuck 120 n)
  |none=>none
 |_=>none
theorem ruF_le {t:Tv}:∀(f:Nat) (K:List It) (n:Int) (E:List Ev) (k:Nat) (R:Ro),ruF t f K n E=some (k,R)→k+1≤f
 |0,_,_,_,_,_,h=>by cases h
 |f+1,[],n,E,k,R,h=>by cases h;omega
 |f+1,i :: K,n,E,k,R,h=>by
  simp only [ruF] at h
  cases hs:It.step t i with
  |ref=>rw [hs] at h;cases h;omega
  |tk=>rw [hs] at h;cases h;omega
  |go d o r=>
   rw [hs] at h
   simp only at h
   cases hr:ruF t f (r++K) (n+d) (E++o) with
   |none=>rw [hr] at h;cases h
   |some x=>
    obtain ⟨k',R'⟩:=x
    rw [hr] at h
    cases h
    have:=ruF_le f _ _ _ _ _ hr
    omega
theorem putF_is {t:Tv}{st:Pst}{x:List Ev × Int × Pst}(h:putF t st=some x):Putr t st x.1 x.2.1 x.2.2:=by
 cases st with
 |live K n=>
  simp only [putF] at h
  split at h
  ·rename_i hc
   cases h
   exact .note hc
  ·rename_i hc
   have hc':(t.k == 7 || t.k == 8)=false:=by simpa using hc
   cases hr:ruF t 20 (beg K n) (begN n) (begE n) with
   |none=>rw [hr] at h;cases h
   |some y=>
    obtain ⟨k,R⟩:=y
    have h1:=ruF_is _ _ _ _ _ _ hr
    have h2:=ruF_le _ _ _ _ _ _ hr
    rw [hr] at h
    cases R with
    |no=>cases h;exact .no hc' h1 (by omega)
    |yes L m E=>
     simp only at h
     split at h
     ·cases h;exact .yes hc' h1 (by omega) (by assumption)
     ·cases h
 |stuck e n=>cases h
 |shut=>cases h
def alrF:List Tv→Pst→Option (List Ev × Int × Nat)
 |[],.live K n=>if K.length=1 then some ([⟨3,1,tv0⟩],0,0) else some ([],121,0)
 |[],_=>none
 |t :: l,st=>match putF t st with
  |some (ev,c,st')=>if c=0 then (match alrF l st' with|some (E,c',k)=>some (ev++E,c',k+1)|none=>none) else some ([],c,0)
  |none=>none
theorem alrF_is:∀(l:List Tv) (st:Pst) (E:List Ev) (c:Int) (k:Nat),alrF l st=some (E,c,k)→Alr st l E c k
 |[],st,E,c,k,h=>by
  cases st with
  |live K n=>
   simp only [alrF] at h
   split at h
   ·rename_i h1;cases h;exact .nil (.all h1)
   ·rename_i h1;cases h;exact .nil (.open h1)
  |stuck e n=>cases h
  |shut=>cases h
 |t :: l,st,E,c,k,h=>by
  simp only [alrF] at h
  cases hp:putF t st with
  |none=>rw [hp] at h;cases h
  |some x=>
   obtain ⟨ev,c1,st'⟩:=x
   have h1:=putF_is hp
   rw [hp] at h
   simp only at h h1
   split at h
   ·rename_i hc
    subst hc
    cases hr:alrF l st' with
    |none=>rw [hr] at h;cases h
    |some y=>
     obtain ⟨E2,c2,k2⟩:=y
     rw [hr] at h
     cases h
     exact .on h1 (alrF_is l st' _ _ _ hr)
   ·rename_i hc
    cases h
    exact .err h1 hc
end Go.Proofs.YtpdlohfdjiaegaaGreatDoor
namespace Go.Proofs.YtpdlohfdjiaegaaGreatDoor
open Go.RowKit
open Lw (Dc bE rt frm dep rtT rtN dcs dcs_len dcs_one)
def runs (n:Int) (s o:ByteArray):Bool:=
 decide (s.size≤1000) && decide ((Lx.scn s).2.1=0) && decide ((stk s).length≤4194304) && match alrF (stk s) (.live [] 0) with
 |some (E,c,_)=>decide (c=0) && decide (E.length≤8000000) && E.all (fun e=>decide (e.d.t.size≤1000)) && match slay sy0 E with
  |some L=>L.all (fun d=>decide (d.t.size≤1000)) && decide (Lw.uds L≤268435456) && decide ((Lw.wprn n L).2=0) && decide ((Lw.wprn n L).1.data.toList=o.data.toList)
  |none=>false
 |none=>false
abbrev src1:ByteArray:=⟨#[112,114,111,103,114,97,109,32,112,59,98,101,103,105,110,32,120,58,61,49,59,121,58,61,102,40,97,44,98,41,101,110,100,46]⟩
abbrev out1:ByteArray:=⟨#[112,114,111,103,114,97,109,32,112,59,10,98,101,103,105,110,10,32,32,120,32,58,61,32,49,59,10,32,32,121,32,58,61,32,102,40,97,44,32,98,41,10,101,110,100,46,10]⟩
abbrev src2:ByteArray:=⟨#[112,114,111,103,114,97,109,32,112,59,32,47,47,32,113,10,98,101,103,105,110,32,123,120,125,32,120,58,61,32,47,47,32,111,110,101,10,10,10,49,59,32,123,116,119,111,125,32,115,107,105,112,10,47,47,32,116,104,114,101,101,10,101,110,100,46]⟩
abbrev out2:ByteArray:=⟨#[112,114,111,103,114,97,109,32,112,59,32,47,47,32,113,10,98,101,103,105,110,32,123,120,125,10,32,32,120,32,58,61,32,47,47,32,111,110,101,10,32,32,32,32,49,59,32,123,116,119,111,125,10,32,32,115,107,105,112,10,32,32,47,47,32,116,104,114,101,101,10,101,110,100,46,10]⟩
theorem runs1:runs 20 src1 out1=true:=by kernel_rfl
theorem runs2:runs 20 src2 out2=true:=by kernel_rfl
theorem ba_ext {a b:ByteArray}(h:a.data.toList=b.data.toList):a=b:=by
 obtain ⟨⟨x⟩⟩:=a
 obtain ⟨⟨y⟩⟩:=b
 exact congrArg (fun l=>(⟨⟨l⟩⟩:ByteArray)) h
theorem runs_print {n:Int}{s o:ByteArray}(h:runs n s o=true) (W:World) (hT:Lx.Kab W) (hW:Lw.Tab W) :
  Calls Tryz.prog 17 #[.int .i64 n,.string s] W fun r w'=>∃p m c,r=.returned (.tuple #[.string o,.slice p m c,.bool true])∧Below W.heap.size W w':=by
 unfold runs at h
 rw [Bool.and_eq_true,Bool.and_eq_true,Bool.and_eq_true] at h
 obtain ⟨⟨⟨h1,h2⟩,h3⟩,h4⟩:=h
 cases ha:alrF (stk s) (.live [] 0) with
 |none=>rw [ha] at h4;cases h4
 |some x=>
  obtain ⟨E,c,k⟩:=x
  rw [ha] at h4
  simp only at h4
  rw [Bool.and_eq_true,Bool.and_eq_true,Bool.and_eq_true] at h4
  obtain ⟨⟨⟨h5,h6⟩,h7⟩,h8⟩:=h4
  have hc:=of_decide_eq_true h5
  subst hc
  cases hL:slay sy0 E with
  |none=>rw [hL] at h8;cases h8
  |some L=>
   rw [hL] at h8
   simp only at h8
   rw [Bool.and_eq_true,Bool.and_eq_true,Bool.and_eq_true] at h8
   obtain ⟨⟨⟨g1,g2⟩,g3⟩,g4⟩:=h8
   have hsz:=of_decide_eq_true h1
   refine (printed_good n s W hT hW (by omega) (of_decide_eq_true h2) (of_decide_eq_true h3) (alrF_is _ _ _ _ _ ha) (of_decide_eq_true h6) (fun e he=>?_) hL (fun d hd=>?_) (of_decide_eq_true g2)).mono ?_
   ·have:=of_decide_eq_true (List.all_eq_true.1 h7 e he);omega
   ·have:=of_decide_eq_true (List.all_eq_true.1 g1 d hd);omega
   ·rintro r w' ⟨p,c,rfl,_,_,hb⟩
    rw [ba_ext (of_decide_eq_true g4),decide_eq_true (of_decide_eq_true g3)]
    exact ⟨p,_,c,rfl,hb⟩
set_option maxHeartbeats 2000000 in
theorem awake_any (W:World) (hT:Lx.Kab W) (hW:Lw.Tab W):Calls Tryz.prog 9 #[] W fun r w'=>r=.returned (.bool true)∧Below W.heap.size W w':=by
 have H1:Hid (Calls Tryz.prog 17 #[.int .i64 20,.string src1] W fun r w'=>∃p m c,r=.returned (.tuple #[.string out1,.slice p m c,.bool true])∧Below W.heap.size W w'):=runs_print runs1 W hT hW
 have H2:Hid (∀V,Below W.heap.size W V→Calls Tryz.prog 17 #[.int .i64 20,.string src2] V fun r w'=>∃p m c,r=.returned (.tuple #[.string out2,.slice p m c,.bool true])∧Below V.heap.size V w'):=fun V hb=>runs_print runs2 V (hT.below hb) (hW.below hb)
 clear hT hW
 go_enter Tryz.func9,Tryz.ntmps9
 go_wp2_with fail
 refine H1.out.mono ?_
 rintro r1 w1 ⟨p1,m1,c1,rfl,hb1⟩
 have HB1:Hid (Below W.heap.size W w1):=hb1
 clear hb1 H1
 go_wp2_with fail
 refine (H2.out _ HB1.out).mono ?_
 rintro r2 w2 ⟨p2,m2,c2,rfl,hb2⟩
 have HB2:Hid (Below W.heap.size W w2):=HB1.out.trans (hb2.mono HB1.out.size)
 clear hb2 H2
 go_wp2_with fail
 go_ret
 exact ⟨rfl,HB2.out⟩
end Go.Proofs.YtpdlohfdjiaegaaGreatDoor
namespace Go.Proofs.YtpdlohfdjiaegaaGreatDoor
open Go.ChangeShapes Go.WideShapes Go.ChangeAt Go.RowKit
open Go.ChangeMaps (open_string shut_string)
theorem trod_sv3 {H:Type}{enc:TypeId × Value→H}{P:Program}{w:World}{base:Nat}{spare:Nat→Bool}{held:Bool}{t:TypeId}{f0 f1 f2:Field}{fuel:Nat}{cs:List Value}{x:DataW H × List MemPlace}(ht:P.underlying t=some (.struct #[f0,f1,f2])) (h:DataW.trod enc P w base spare held fuel t cs=some x) :
  ∃y0 y1 y2 n,fuel=n+1∧cs.length=P.cellsOf t∧DataW.trod enc P w base spare held n f0.type ((cs.drop f0.offset).take (P.cellsOf f0.type))=some y0 ∧
   DataW.trod enc P w base spare held n f1.type ((cs.drop f1.offset).take (P.cellsOf f1.type))=some y1∧DataW.trod enc P w base spare held n f2.type ((cs.drop f2.offset).take (P.cellsOf f2.type))=some y2:=by
 obtain ⟨xs,n,e,rfl,hl,hlen,hf⟩:=DataW.trod_struct ht h
 match xs,hlen with
 |[y0,y1,y2],_=>exact ⟨y0,y1,y2,n,e,hl,by simpa using hf 0 f0 rfl,by simpa using hf 1 f1 rfl,by simpa using hf 2 f2 rfl⟩
theorem pick {α:Type}(P:Nat→α→Prop):∀n,(∀j,j<n→∃a,P j a)→∃l:List α,l.length=n∧∀j a,l[j]?=some a→P j a
 |0,_=>⟨[],rfl,fun j a h=>by simp at h⟩
 |n+1,h=>by
  obtain ⟨l,hl,hp⟩:=pick P n (fun j hj=>h j (by omega))
  obtain ⟨a,ha⟩:=h n (by omega)
  refine ⟨l++[a],by simp [hl],fun j b hb=>?_⟩
  by_cases hj:j<l.length
  ·rw [List.getElem?_append_left hj] at hb;exact hp j b hb
  ·rw [List.getElem?_append_right (by omega)] at hb
   have h0:=(List.getElem?_eq_some_iff.1 hb).1
   simp at h0
   have:j=n:=by omega
   subst this
   rw [show j-l.length=0 by omega] at hb
   simp at hb
   subst hb;exact ha
theorem bulk_one {H:Type}(d:DataW H):1≤Rows.uptoBulk d:=by
 unfold Rows.uptoBulk
 split <;> omega
theorem bulkAll_len {H:Type}:∀l:List (DataW H),l.length≤Rows.uptoBulkAll l
 |[]=>by simp
 |d :: l=>by
  have:=bulkAll_len l
  have:=bulk_one d
  rw [List.length_cons,Rows.uptoBulkAll]
  omega
set_option maxRecDepth 100000 in
theorem lev_of {H:Type}{enc:TypeId × Value→H}{W:World}{spare:Nat→Bool}{held:Bool}{fuel n cap:Nat}{ao:Option Addr}{x:DataW H × List MemPlace}
  (h:DataW.trod enc Tryz.prog W 0 spare held fuel 44 (Value.slice ao n cap).cells.toList=some x):∃l:List Ev,l.length=n∧Lev W ao l∧(∀o∈l,o.d.t.size≤9223372036854775807)∧n+1≤Rows.uptoBulk x.1:=by
 have hce:Tryz.prog.cellsOf 39=8:=by kernel_rfl
 rcases Go.Deep.open_slice Tryz.underlying44 h with ⟨hcs,hx⟩|⟨a,len,cap',m,k,D,Pl,hcs,_,hl,hmx,hm,hxe,hx⟩
 ·simp [Value.cells] at hcs
  obtain ⟨rfl,rfl,rfl⟩:=hcs
  exact ⟨[],rfl,(fun j a h=>by simp at h),by simp,bulk_one _⟩
 ·simp [Value.cells] at hcs
  obtain ⟨rfl,rfl,rfl⟩:=hcs
  have hnm:n≤m:=by rw [hm];split <;> omega
  have each:∀j,j<n→∃y:Ev,y.d.t.size≤9223372036854775807∧W.cell? ((a.add (j*8)).add 0)=some (.int .u8 y.k)∧W.cell? ((a.add (j*8)).add 1)=some (.int .u8 y.n)∧W.cell? ((a.add (j*8)).add 2)=some (.int .u8 y.d.k)∧W.cell? ((a.add (j*8)).add 3)=some (.string y.d.t)∧W.cell? ((a.add (j*8)).add 4)=some (.int .i64 y.d.a)∧W.cell? ((a.add (j*8)).add 5)=some (.int .i64 y.d.l)∧W.cell? ((a.add (j*8)).add 6)=some (.int .i64 y.d.c)∧W.cell? ((a.add (j*8)).add 7)=some (.int .i64 y.d.f):=by
   intro j hj
   obtain ⟨cs',h1,h2⟩:=hx j (by omega)
   rw [hce] at h1
   obtain ⟨_,hlen,hcell⟩:=World.cells?_some h1
   match cs',hlen with
   |[c0,c1,c2,c3,c4,c5,c6,c7],_=>
    have ci:Tryz.prog.cellsOf 3=1:=by kernel_rfl
    have cs:Tryz.prog.cellsOf 9=1:=by kernel_rfl
    have ck:Tryz.prog.cellsOf 33=1:=by kernel_rfl
    have cp:Tryz.prog.cellsOf 35=3:=by kernel_rfl
    have ct:Tryz.prog.cellsOf 37=6:=by kernel_rfl
    have cek:Tryz.prog.cellsOf 31=1:=by kernel_rfl
    have cnk:Tryz.prog.cellsOf 32=1:=by kernel_rfl
    obtain ⟨y0,y1,y2,n',_,_,t0,t1,t2⟩:=trod_sv3 Tryz.underlying39 h2
    simp [cek,cnk,ct] at t0 t1 t2
    obtain ⟨b0,e0,_,_⟩:=DataW.trod_int Tryz.underlying31 t0
    obtain ⟨b1,e1,_,_⟩:=DataW.trod_int Tryz.underlying32 t1
    obtain ⟨z0,z1,z2,z3,n2,_,_,s0,s1,s2,s3⟩:=Go.Joins.trod_struct4 Tryz.underlying37 t2
    simp [ci,cs,ck,cp] at s0 s1 s2 s3
    obtain ⟨b2,e2,_,_⟩:=DataW.trod_int Tryz.underlying33 s0
    obtain ⟨b3,e3,_,hb3⟩:=DataW.trod_string Tryz.underlying9 s1
    obtain ⟨u0,u1,u2,n3,_,_,r0,r1,r2⟩:=trod_sv3 Tryz.underlying35 s2
    simp [ci] at r0 r1 r2
    obtain ⟨b4,e4,_,_⟩:=DataW.trod_int Tryz.underlying3 r0
    obtain ⟨b5,e5,_,_⟩:=DataW.trod_int Tryz.underlying3 r1
    obtain ⟨b6,e6,_,_⟩:=DataW.trod_int Tryz.underlying3 r2
    obtain ⟨b7,e7,_,_⟩:=DataW.trod_int Tryz.underlying3 s3
    simp at e0 e1 e2 e3 e4 e5 e6 e7
    subst e0 e1 e2 e3 e4 e5 e6 e7
    exact ⟨⟨b0,b1,⟨b2,b3,b4,b5,b6,b7⟩⟩,by simpa [maxLen] using hb3,hcell 0 (by omega),hcell 1 (by omega),hcell 2 (by omega),hcell 3 (by omega),hcell 4 (by omega),hcell 5 (by omega),hcell 6 (by omega),hcell 7 (by omega)⟩
  obtain ⟨l,hal,hap⟩:=pick _ n each
  refine ⟨l,hal,?_,(fun o ho=>by obtain ⟨j,hj⟩:=List.getElem?_of_mem ho;exact (hap j o hj).1),?_⟩
  ·intro j y hy
   have hjl:=(List.getElem?_eq_some_iff.1 hy).1
   obtain ⟨_,e0,e1,e2,e3,e4,e5,e6,e7⟩:=hap j y hy
   obtain ⟨_,_,f0,_⟩:=each 0 (by omega)
   have hsp:a.spot=none:=by simpa [Addr.add] using World.cell?_spot f0
   obtain ⟨b,off,sp⟩:=a
   simp only at hsp
   subst hsp
   rw [Addr.add_lit,Addr.add_lit] at e0 e1 e2 e3 e4 e5 e6 e7
   exact ⟨b,off,rfl,e0,e1,e2,e3,e4,e5,e6,e7⟩
  ·have hb:=bulkAll_len ((List.range n).map D)
   rw [List.length_map,List.length_range] at hb
   rw [hxe]
   show n+1≤Rows.uptoBulkAll ((List.range n).map D)+Rows.uptoBulkAll _+1
   omega
theorem styleSound_own:ownKnob Tryz.prog.godebug=none:=by kernel_rfl
theorem styleSound_laidOut:laidOutB Tryz.prog=true:=by kernel_rfl
set_option maxRecDepth 100000 in
theorem styleSound_contract (H:Type) (enc:TypeId × Value→H) (W:World) (base:Nat) (args:Array Value) (ds gs:List (DataW H)) (before:List MemPlace)
  (hval0:∀(j:Nat) t v,Tryz.f5.params[j]?=some t→args[j]?=some v→Value.okWide Tryz.prog W .any base t v)
  (hW:DataW.Whole enc Tryz.prog Tryz.f5.params.toList Rows.styleSoundSpec.vars false W args.toList ds gs before) (hk:Rows.uptoSmall H (ds++gs)=true) (hL:laidMetH Tryz.prog [("colophon/width.spans",Rows.laid_colophon_width_spans),("unicode/utf8.acceptRanges",Rows.laid_unicode_utf8_acceptRanges),("colophon/class.spans",Rows.laid_colophon_class_spans),("colophon/class.words",Rows.laid_colophon_class_words),("colophon/class.signs",Rows.laid_colophon_class_signs),("unicode/utf8.first",Rows.laid_unicode_utf8_first)] W) :
  Calls Tryz.prog 5 args W fun e W'=>∃v,e=.returned v∧Rows.styleSoundSpec.post enc Tryz.prog Tryz.f5 false true false false W args v W':=by
 have hval:∀(j:Nat) t v,Tryz.f5.params[j]?=some t→args[j]?=some v→Value.okWide Tryz.prog W .any base t v:=hval0
 have hW':=hW
 obtain ⟨p,q,hA0,hV,rfl,_,_⟩:=hW
 have hA:DataW.TrodAll enc Tryz.prog W 0 (fun _=>true) true Tryz.f5.params.toList args.toList ds p:=hA0
 rw [Tryz.params5] at hA hval
 obtain ⟨v0,d0,rfl,rfl,h0⟩:=trodAll_one hA
 obtain ⟨rfl,rfl⟩:=trodVars_none hV
 obtain ⟨ao,len0,cap,rfl⟩:=okWide_slice Tryz.underlying44 (hval 0 44 v0 rfl rfl)
 have h0k:=h0
 obtain ⟨fuel0,hf0⟩:=h0
 obtain ⟨l,hal,hsc,hts,hbk⟩:=lev_of hf0
 have hbq:len0+1≤Rows.uptoBulk d0:=hbk
 subst hal
 have hlt0:∀x∈p,x.block<W.heap.size:=fun x hx=>hA.lt x (by simp [hx])
 have hbd:Rows.uptoBulkAll _≤1048576:=of_decide_eq_true hk
 simp only [Rows.uptoBulkAll,List.cons_append,List.nil_append] at hbd
 clear hA0 hval0
 have hKab:=Lx.kab_of_laid (by kernel_rfl) (by exact .tail _ (.tail _ (.head _))) (by exact .tail _ (.tail _ (.tail _ (.head _)))) (by exact .tail _ (.tail _ (.tail _ (.tail _ (.head _))))) hL
 have hTab:=Lw.tab_of_laid (by kernel_rfl) (by exact .head _) hL
 refine (ssound_any l ao cap W hsc (by omega) hts (fun V hb=>awake_any V (hKab.below hb) (hTab.below hb))).mono fun e W' ⟨he,bel⟩=>?_
 subst he
 exact ⟨_,rfl,_,_,_,[],_,[],hW',trodAll_mk1 (shut_bool Tryz.underlying4 _),(trodAll_mk1 (Below.trod styleSound_laidOut (by kernel_rfl) (of_decide_eq_true (by kernel_rfl)) h0k bel hlt0)),rfl,bel.frame _,fun h=>by cases h⟩
theorem styleSound_laid (os:Os):laidMet Tryz.prog Rows.styleSoundUptoRow.laid ((World.laidAll Tryz.prog os [("colophon/width.spans",Rows.laid_colophon_width_spans),("unicode/utf8.acceptRanges",Rows.laid_unicode_utf8_acceptRanges),("colophon/class.spans",Rows.laid_colophon_class_spans),("colophon/class.words",Rows.laid_colophon_class_words),("colophon/class.signs",Rows.laid_colophon_class_signs),("unicode/utf8.first",Rows.laid_unicode_utf8_first)]).forCall (fun _ _=>0) ⟨#[],#[.slice none 0 0],[]⟩).memory:=
 laidMet_of_run' 8 (by kernel_rfl) (by kernel_rfl)
theorem styleSound_reads (os:Os) {H:Type}(enc:TypeId × Value→H):∃places,DataW.whole enc Tryz.prog ((World.laidAll Tryz.prog os [("colophon/width.spans",Rows.laid_colophon_width_spans),("unicode/utf8.acceptRanges",Rows.laid_unicode_utf8_acceptRanges),("colophon/class.spans",Rows.laid_colophon_class_spans),("colophon/class.words",Rows.laid_colophon_class_words),("colophon/class.signs",Rows.laid_colophon_class_signs),("unicode/utf8.first",Rows.laid_unicode_utf8_first)]).forCall (fun _ _=>0) ⟨#[],#[.slice none 0 0],[]⟩).memory Tryz.f5.params.toList Rows.styleSoundSpec.vars false (#[.slice none 0 0]:Array Value).toList 8=some ([.nil],[],places):=
 ⟨[],by kernel_rfl⟩
set_option maxRecDepth 100000 in
theorem styleSound_lifted (os:Os) (started:os.Started) (H:Type) (enc:TypeId × Value→H) (F:Stop.Interp) :
  ReturnsInHanded {} Tryz.checked os 5 .any ((Rows.OpenSpec.upto Rows.styleSoundSpec).preRow enc Tryz.prog Tryz.f5 Rows.styleSoundUptoRow.domain false Rows.styleSoundUptoRow.laid) (((Rows.OpenSpec.upto Rows.styleSoundSpec).at F).post enc Tryz.prog Tryz.f5 false true false false):=by
 obtain ⟨places,hx⟩:=styleSound_reads os enc
 refine returnsInHanded_of_row (C:=Tryz.checked) (s:=Rows.OpenSpec.upto Rows.styleSoundSpec) styleSound_own started (by kernel_rfl) Tryz.func5
  (witness_row_at (enc:=enc) (C:=Tryz.checked) false (World.laidAll Tryz.prog os [("colophon/width.spans",Rows.laid_colophon_width_spans),("unicode/utf8.acceptRanges",Rows.laid_unicode_utf8_acceptRanges),("colophon/class.spans",Rows.laid_colophon_class_spans),("colophon/class.words",Rows.laid_colophon_class_words),("colophon/class.signs",Rows.laid_colophon_class_signs),("unicode/utf8.first",Rows.laid_unicode_utf8_first)]) #[.slice none 0 0] (World.laidAll_os _ _ _) (by kernel_rfl) (by kernel_rfl) (by kernel_rfl)
   (OpenSpec.preRow_of_cond 8 hx (by kernel_rfl) (fun k hk=>by cases hk;kernel_rfl) (by kernel_rfl) (styleSound_laid os))) ?_
 intro W base args ds gs before hval hW _ hcond _ hL _ _
 exact styleSound_contract H enc W base args ds gs before hval hW (hcond _ rfl) hL
theorem styleSound_holds:Rows.StyleSoundUptoSaid:=
 OpenClaim.holds_of_cond 5 Tryz.f5 rfl rfl rfl rfl rfl rfl rfl ⟨rfl,rfl,rfl,rfl,rfl⟩ rfl rfl rfl rfl rfl (by kernel_rfl) Tryz.func5 (by kernel_rfl)
  (of_decide_eq_true (by kernel_rfl)) (by unfold Func.isWrapper;first|(rw [if_pos (by decide +kernel)];kernel_rfl)|(rw [if_neg (by decide +kernel)];exact ⟨rfl,rfl⟩))
  (fun os started H enc _ F=>by rw [OpenClaim.pre_eq_preRow];exact styleSound_lifted os started H enc F)
theorem styleSound_card:Rows.StyleSoundUptoCardSaid:=
 Claim7.holds_tied_plain_at .later [] [.data,.data,.data,.data,.data,.pinned] true (true, "578e1a3834ba7666d9f0fd33b5d498d9dd5720c433983a585d4f19fad1170be7") false
  styleSound_holds (fun _ h=>by cases h) (by kernel_rfl) (fun _ h=>by cases h) styleSoundUpto_row_tie rfl ⟨rfl,rfl⟩ (by kernel_rfl) rfl
  (fun f fn hf hfn=>by
   obtain rfl:f=5:=Option.some.inj ((show Tryz.prog.funcNamed "colophon/colophonlaw15.StyleSound"=some 5 by kernel_rfl).symm.trans hf) |>.symm
   obtain rfl:fn=Tryz.f5:=(Option.some.inj (Tryz.func5.symm.trans hfn)).symm
   exact ⟨by kernel_rfl,fun j t ht=>by
    rw [Tryz.params5] at ht
    have hm:t∈[44]:=by simpa using Array.mem_of_getElem? ht
    have hall:([44].all fun u=>!Tryz.prog.wantsStandIn u)=true:=by kernel_rfl
    exact (show Tryz.prog.wantsStandIn t=false by simpa using List.all_eq_true.1 hall t hm)⟩)
  (by kernel_rfl)
#print axioms styleSound_card
end Go.Proofs.YtpdlohfdjiaegaaGreatDoor
