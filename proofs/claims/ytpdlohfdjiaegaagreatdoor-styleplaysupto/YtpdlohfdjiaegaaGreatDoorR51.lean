import Derived.Test.YtpdlohfdjiaegaaGreatDoorR12
import Derived.Test.YtpdlohfdjiaegaaGreatDoorR21
import Derived.Test.YtpdlohfdjiaegaaGreatDoorR41
import Derived.Test.YtpdlohfdjiaegaaGreatDoorR50
set_option linter.unusedVariables false
set_option linter.unusedSimpArgs false
set_option maxHeartbeats 2000000
namespace Go.Proofs.YtpdlohfdjiaegaaGreatDoor
open Go.RowKit
abbrev stk (s:ByteArray):List Tv:=(Lx.scn s).1.map (Lx.tv s)
def EvP (W:World) (T:List Tv) (E:List Ev) (code:Int) (r:Ending) (w':World):Prop:=
 ∃p n c p2 n2 c2,r=.returned (.tuple #[.slice p n c,.slice p2 n2 c2,.bool (decide (code=0))])/\Below W.heap.size W w'/\(code=0->Re w' (.slice p n c) E/\(∀k,(Value.slice p n c).ownBlock=some k->W.heap.size<=k)/\Rt W.heap.size w' (.slice p2 n2 c2) T)
theorem lQ (s:ByteArray) (W:World) (hT:Lx.Kab W) (hs:s.size<=1000000000) (h0:(Lx.scn s).2.1=0) {E:List Ev}{code:Int}{a:Nat}(hl:(stk s).length<=4194304) (hA:Alr (.live [] 0) (stk s) E code a) :
  Aa 16 #[.string s] W fun r w'=>EvP W (stk s) E code r w':=by
 obtain ⟨T,hTT⟩:∃T,stk s=T:=⟨_,rfl⟩
 have HS:Hid (Aa 28 #[.string s] W fun e w'=>∃p c x y u,e=.returned (.tuple #[.slice p T.length c,.int .i64 0,.agg #[.int .i64 x,.int .i64 y,.int .i64 u]])/\Rt W.heap.size w' (.slice p T.length c) T/\Below W.heap.size W w'):=by
  refine (Lx.wD s W hT hs).mono ?_;rintro e w' ⟨⟨v,rfl,hr⟩,hb⟩;rw [h0];have hr':Rt W.heap.size w' v T:=by rw [<-hTT];exact hr
  obtain ⟨p,c,rfl,_⟩:=hr'.shape;exact ⟨p,c,_,_,_,rfl,hr',hb⟩
 rw [hTT] at hl hA ⊢;have HM:Hid (Alr (.live [] 0) T E code a/\T.length<=4194304):=⟨hA,hl⟩;have HNew:Hid (∀V,Aa 29 #[] V fun r w'=>r=.returned (pt V.heap.size)/\Pq (fun k=>k=V.heap.size) w' V.heap.size (.live [] 0)/\Below V.heap.size V w'/\w'.heap.size=V.heap.size+1):=mR;clear hT hs h0 hTT hl hA
 go_enter Tryz.func16,Tryz.ntmps16
 go_upto_region 4 with (go_at_call 28;refine HS.out.mono ?_;rintro e w1 ⟨pT,cT,x9,y9,u9,rfl,hRt,hb1⟩;have HR1:Hid (∀o,Rt W.heap.size (w1.alloc o) (.slice pT T.length cT) T/\Below W.heap.size W (w1.alloc o)):=(fun o=>⟨hRt.below ((gt _ _).alloc (eq _) _),hb1.alloc hb1.size _⟩);clear hRt hb1)
 obtain ⟨V4,eV4⟩:∃V4,w1.alloc (.cells #[.int .i64 x9,.int .i64 y9,.int .i64 u9] 35)=V4:=⟨_,rfl⟩;have H4:=HR1.out (.cells #[.int .i64 x9,.int .i64 y9,.int .i64 u9] 35);rw [eV4] at H4 ⊢;have HR:Hid (Rt W.heap.size V4 (.slice pT T.length cT) T/\Below W.heap.size W V4):=H4
 have HLt:Hid (∀V,Below V4.heap.size V4 V->Lt V pT T/\Rt W.heap.size V (.slice pT T.length cT) T/\Below W.heap.size W V):=fun V hb=>by
  have h5:=H4.1.below hb;obtain ⟨ao,cap,e1,h6,_⟩:=Lt.row h5;cases e1;exact ⟨h6,h5,H4.2.trans (hb.mono H4.2.size)⟩
 clear H4 HR1 eV4 HS
 go_wp2_with fail
 refine (HNew.out _).mono ?_;rintro r w5 ⟨rfl,hq,hb,hs1⟩;obtain ⟨g,hg⟩:∃g,V4.heap.size=g:=⟨_,rfl⟩;have HI:Hid (∃S,PAI V4 V4.heap.size aM [] (.live [] 0) S w5):=⟨_,hb,hq,sQ,fun k e=>by rw [e];omega,jX _,fun k e=>by cases e⟩;rw [hg] at HI ⊢;clear hq hb hs1 hg HNew
 go_wp2_with fail
 go_loopw [9,10,11,12] (fun v i _ _ wr=>∃j:Nat,j<=T.length/\i=.int .i64 j/\Hid (∃S st E0 E1 k1,PAI V4 g v E0 st S wr/\Alr st (T.drop j) E1 code k1/\E=E0++E1/\E0.length<=30000*j)) (fun _ i _ _ _=>T.length-(intOf i).toNat)
 case atStart=>
  obtain ⟨S,hI⟩:=HI.out;exact ⟨0,zx _,rfl,S,_,[],E,a,hI,HM.out.1,rfl,by simp⟩
 case round=>
  obtain ⟨j,hj,rfl,HJ⟩:=hrel;obtain ⟨S,st,E0,E1,k1,hI,hR,hE,hz⟩:=HJ.out;obtain ⟨pv,cpv,hv,_⟩:=hI.re.shape;subst hv;have hTl:=HM.out.2
  by_cases hlt:j<T.length
  ·have q1:(j:Int)<T.length:=by omega
   have q0:(0:Int)<=j:=by omega
   obtain ⟨t,ht⟩:∃t,T[j]?=some t:=⟨_,hH hlt⟩
   have hdr:T.drop j=t :: T.drop (j+1):=by
    obtain ⟨a1,a2⟩:=zv.1 ht;rw [Ad a1,a2]
   obtain ⟨b,off,rfl,x0,x1,x2,x3,x4,x5⟩:=(HLt.out wr hI.bel).1.cell6 ht;rw [hdr] at hR;clear HJ HI hdr ht
   rcases hR.inv with ⟨ev,st',hp,hc,rfl,rfl⟩|⟨ev,st',E2,k2,hp,hR2,rfl,rfl⟩
   ·have HP:Hid (Aa 30 #[pt g,.agg #[.int .u8 t.k,.string t.t,.int .i64 t.a,.int .i64 t.l,.int .i64 t.c,.int .i64 t.f]] wr fun r w'=>∃v,r=.returned (.tuple #[v,.int .i64 code])/\Pa S g wr w' v ev st'):=kW hI.pq (fun k hk=>(hI.sB k hk).2) hI.gd.ok hp;have HN:Hid (∀w' x,Pa S g wr w' x ev st'->PAJ V4 g (.slice pv E0.length cpv) x E0 ev st' w'):=fun w' x hx=>hI.call hx (iG hI.gd hp).1
    have q5:(code != 0)=true:=by simpa using hc
    have HC:Hid (code≠0):=hc;clear hI hR hp hc hE
    go_wp2_with fail
    refine HP.out.mono ?_;rintro r w6 ⟨x,rfl,hx⟩;have H6:Hid (PAJ V4 g (.slice pv E0.length cpv) x E0 ev st' w6):=HN.out _ _ hx;obtain ⟨px,cx,hxs,_⟩:=hx.re.shape;subst hxs;clear hx
    go_wp2_with fail
    obtain ⟨S2,hI2⟩:=H6.out.ex;refine zE (v:=.tuple #[.slice none 0 0,.slice none 0 0,.bool false]) (by simp [results,Tryz.f16,go_sem]) rfl ?_;exact ⟨none,0,0,none,0,0,by rw [zA HC.out],(HLt.out _ hI2.bel).2.2,fun h=>absurd h HC.out⟩
   ·have HP:Hid (Aa 30 #[pt g,.agg #[.int .u8 t.k,.string t.t,.int .i64 t.a,.int .i64 t.l,.int .i64 t.c,.int .i64 t.f]] wr fun r w'=>∃v,r=.returned (.tuple #[v,.int .i64 0])/\Pa S g wr w' v ev st'):=kW hI.pq (fun k hk=>(hI.sB k hk).2) hI.gd.ok hp;have HN:Hid (∀w' x,Pa S g wr w' x ev st'->PAJ V4 g (.slice pv E0.length cpv) x E0 ev st' w'):=fun w' x hx=>hI.call hx (iG hI.gd hp).1
    have hel:=(iG hI.gd hp).2.1;have HK:Hid (Alr st' (T.drop (j+1)) E2 code k2/\E=(E0++ev)++E2/\(E0++ev).length<=30000*(j+1)/\E0.length+ev.length<=1000000000000):=⟨hR2,by rw [hE,zJ],by simp;omega,by omega⟩;clear hI hR hp hE hR2 hel
    go_wp2_with fail
    refine HP.out.mono ?_;rintro r w6 ⟨x,rfl,hx⟩;have H6:Hid (PAJ V4 g (.slice pv E0.length cpv) x E0 ev st' w6):=HN.out _ _ hx;obtain ⟨px,cx,hxs,_⟩:=hx.re.shape;subst hxs;clear hx
    go_wp2_with (at_builtin;refine oN (by rfl) _ _ (by rfl) (.slice pv E0.length cpv) (.slice px ev.length cx) E0 ev (by rfl) H6.out.rv (by rfl) H6.out.rx HK.out.2.2.2 ?_;intro v3 w7 h3 k3 n3;have H7:Hid (∃S,PAI V4 g v3 (E0++ev) st' S w7):=H6.out.fin _ _ h3 k3 n3;clear h3 k3 n3)
    obtain ⟨S3,hI3⟩:=H7.out;exact ⟨⟨j+1,hlt,by go_num,S3,st',E0++ev,E2,k2,hI3,HK.out.1,HK.out.2.1,HK.out.2.2.1⟩,by simp [intOf];omega⟩
  ·obtain rfl:j=T.length:=by omega
   have q1:¬((T.length:Int)<T.length):=by omega
   rw [A5] at hR;obtain ⟨hc,rfl⟩:=hR.end;have HP:Hid (Aa 31 #[pt g] wr fun r w'=>∃v,r=.returned (.tuple #[v,.int .i64 code])/\Pa S g wr w' v E1 .shut):=qC hI.pq (fun k hk=>(hI.sB k hk).2) hI.gd.ok hc;have HN:Hid (∀w' x,Pa S g wr w' x E1 .shut->PAJ V4 g (.slice pv E0.length cpv) x E0 E1 .shut w'):=fun w' x hx=>hI.call hx trivial
   have HK:Hid (E=E0++E1/\E0.length+E1.length<=1000000000000):=⟨hE,by
    have h1:E1.length<=1:=by cases hc <;> simp
    omega⟩
   clear hI hR hE hc HJ HI
   go_wp2_with fail
   refine HP.out.mono ?_;rintro r w6 ⟨x,rfl,hx⟩;have H6:Hid (PAJ V4 g (.slice pv E0.length cpv) x E0 E1 .shut w6):=HN.out _ _ hx;obtain ⟨px,cx,hxs,_⟩:=hx.re.shape;subst hxs;clear hx
   go_wp2_with (at_builtin;refine oN (by rfl) _ _ (by rfl) (.slice pv E0.length cpv) (.slice px E1.length cx) E0 E1 (by rfl) H6.out.rv (by rfl) H6.out.rx HK.out.2 ?_;intro v3 w7 h3 k3 n3;have H7:Hid (∃S,PAI V4 g v3 (E0++E1) .shut S w7):=H6.out.fin _ _ h3 k3 n3;obtain ⟨p3,c3,e3,_⟩:=h3.shape;subst e3;clear h3 k3 n3)
   obtain ⟨S7,hI7⟩:=H7.out;obtain ⟨y1,y2,y3⟩:=HLt.out _ hI7.bel;refine zE (v:=.tuple #[.slice p3 (E0.length+E1.length) c3,.slice pT T.length cT,.bool (code == 0)]) (by simp [results,Tryz.f16,go_sem]) rfl ?_;have e9:(code == 0)=decide (code=0):=by by_cases q:code=0 <;> simp [q]
   have e8:(E0++E1).length=E0.length+E1.length:=zq;have hre:=hI7.re;have hvb:=hI7.vB;rw [e8] at hre hvb;exact ⟨_,_,_,_,_,_,by rw [e9],y3,fun h=>⟨by rw [HK.out.1];exact hre,fun k e=>zr HR.out.2.size (hvb k e).1,y2⟩⟩
end Go.Proofs.YtpdlohfdjiaegaaGreatDoor
namespace Go.Proofs.YtpdlohfdjiaegaaGreatDoor
open Go.RowKit
open Lw (Dc bE rt frm dep rtT rtN dcs au aH)
def PrP (W:World) (n:Int) (L:List Dc) (r:Ending) (w':World):Prop:=
 ∃p c,r=.returned (.tuple #[.string (Lw.fw n L).1,.slice p L.length c,.bool (decide ((Lw.fw n L).2=0))])/\Rd w' (.slice p L.length c) L/\(∀k,(Value.slice p L.length c).ownBlock=some k->W.heap.size<=k)/\Below W.heap.size W w'
theorem j6 (n:Int) (s:ByteArray) (W:World) (hT:Lx.Kab W) (hW:Lw.Tab W) (hs:s.size<=1000000000) (h0:(Lx.scn s).2.1=0) {E:List Ev}{a:Nat}(hl:(stk s).length<=4194304) (hA:Alr (.live [] 0) (stk s) E 0 a)
  (hE:E.length<=8000000) (ht:∀e∈E,e.d.t.size<=9223372036854775807) {L:List Dc} (hL:d9 sy0 E=some L) (hd:∀d∈L,d.t.size<=9223372036854775807) (hU:Lw.uds L<=268435456) :
  Aa 17 #[.int .i64 n,.string s] W fun r w'=>PrP W n L r w':=by
 have HV:Hid (Aa 16 #[.string s] W fun r w'=>∃p c p2 n2 c2,r=.returned (.tuple #[.slice p E.length c,.slice p2 n2 c2,.bool true])/\Lev w' p E/\Ab W w'):=by
  refine (lQ s W hT hs h0 hl hA).mono ?_;rintro r w' ⟨p,m,c,p2,n2,c2,rfl,hb,hx⟩;obtain ⟨x1,x2,x3⟩:=hx rfl;obtain ⟨p',c',e,_⟩:=x1.shape;cases e;exact ⟨p,c,p2,n2,c2,rfl,xr x1,hb⟩
 have HL:Hid (∀V p c,Lev V p E->Aa 32 #[.slice p E.length c] V fun r w'=>∃p c,r=.returned (.tuple #[.slice p L.length c,.bool true])/\Rd w' (.slice p L.length c) L/\Lw.Lay w' p L/\(∀k,(Value.slice p L.length c).ownBlock=some k->V.heap.size<=k)/\Ab V w'/\L.length<=100000000):=fun V p c h=>by
  refine (mT E p c V h (by omega) ht).mono ?_;rintro r w' ⟨p,m,c,rfl,hb,hx⟩;obtain ⟨x1,x2,x3⟩:=hx L hL;obtain ⟨p',c',e,_⟩:=aL x1;cases e;obtain ⟨ao,cap,e1,e2,e3,_⟩:=Lw.Lay.row x1 hd;cases e1;exact ⟨p,c,by rw [hL];rfl,x1,e3,x2,hb,by omega⟩
 have HP:Hid (∀V p c,Lw.Lay V p L->L.length<=100000000->Ab W V->Aa 33 #[.int .i64 n,.slice p L.length c] V fun e w'=>e=.returned (.tuple #[.string (Lw.fw n L).1,.int .i64 (Lw.fw n L).2])/\Ab V w'):=fun V p c h h1 hb=>Lw.pH n p L c V h (hW.below hb) h1 hU
 obtain ⟨t,z,hz⟩:∃t z,Lw.fw n L=(t,z):=⟨_,_,rfl⟩;unfold PrP;rw [hz] at HP ⊢;clear hT hW hs h0 hl hA hE ht hL hd hU hz
 go_enter Tryz.func17,Tryz.ntmps17
 go_wp2_with (first
  | (go_at_call 16;refine HV.out.mono ?_;rintro r1 w1 ⟨p1,c1,p2,n2,c2,rfl,hLev,hb1⟩;have HX1:Hid (Lev w1 p1 E/\Ab W w1):=⟨hLev,hb1⟩;clear hLev hb1)
  | (go_at_call 32;refine (HL.out _ _ _ HX1.out.1).mono ?_;rintro r2 w2 ⟨p3,c3,rfl,y1,y2,y3,y4,y5⟩;have HX2:Hid (Rd w2 (.slice p3 L.length c3) L/\Lw.Lay w2 p3 L/\(∀k,(Value.slice p3 L.length c3).ownBlock=some k->W.heap.size<=k)/\Ab W w2/\L.length<=100000000):=(⟨y1,y2,fun k e=>zr HX1.out.2.size (y3 k e),HX1.out.2.trans (y4.mono HX1.out.2.size),y5⟩);clear y1 y2 y3 y4 y5)
  | (go_at_call 33;refine (HP.out _ _ _ HX2.out.2.1 HX2.out.2.2.2.2 HX2.out.2.2.2.1).mono ?_;rintro r3 w3 ⟨rfl,y6⟩;have HX3:Hid (Ab w2 w3):=y6;clear y6))
 refine zE (v:=.tuple #[.string t,.slice p3 L.length c3,.bool (z == 0)]) (by simp [results,Tryz.f17,go_sem]) rfl ?_;have e9:(z == 0)=decide (z=0):=by by_cases q:z=0 <;> simp [q]
 obtain ⟨x1,x2,x3,x4,x5⟩:=HX2.out;exact ⟨p3,c3,by rw [e9],aE x1 HX3.out,x3,x4.trans (HX3.out.mono x4.size)⟩
end Go.Proofs.YtpdlohfdjiaegaaGreatDoor
namespace Go.Proofs.YtpdlohfdjiaegaaGreatDoor
open Go.RowKit
variable {t:Tv}
def ruF (t:Tv):Nat->List It->Int->List Ev->Option (Nat × Ro)
 |0,_,_,_=>none
 |f+1,[],n,E=>some (0,.no)
 |f+1,i :: K,n,E=>match It.step t i with
  |.ref=>some (0,.no)
  |.tk=>some (0,.yes K n E)
  |.go d o r=>match ruF t f (r++K) (n+d) (E++o) with
   |some (k,R)=>some (k+1,R)
   |none=>none
theorem rA :∀(f:Nat) (K:List It) (n:Int) (E:List Ev) (k:Nat) (R:Ro),ruF t f K n E=some (k,R)->Ru t k K n E R
 |0,_,_,_,_,_,h=>by cases h
 |f+1,[],n,E,k,R,h=>by cases h;exact .nil
 |f+1,i :: K,n,E,k,R,h=>by
  simp only [ruF] at h;cases hs:It.step t i with
  |ref=>rw [hs] at h;cases h;exact .ref hs
  |tk=>rw [hs] at h;cases h;exact .tk hs
  |go d o r=>
   rw [hs] at h;simp only at h;cases hr:ruF t f (r++K) (n+d) (E++o) with
   |none=>rw [hr] at h;cases h
   |some x=>
    obtain ⟨k',R'⟩:=x;rw [hr] at h;cases h;exact .go hs (rA f _ _ _ _ _ hr)
def uV (t:Tv):Pst->Option (List Ev × Int × Pst)
 |.live K n=>if (t.k == 7 || t.k == 8) then some (cX n++[⟨4,0,t⟩],0,.live (beg K n) (dq n)) else match ruF t 20 (beg K n) (dq n) (cX n) with
  |some (k,.yes L m E)=>if m<=1000 then some (E++[⟨2,0,t⟩],0,.live L m) else none
  |some (k,.no)=>some ([],120,.stuck 120 n)
  |none=>none
 |_=>none
theorem rz :∀(f:Nat) (K:List It) (n:Int) (E:List Ev) (k:Nat) (R:Ro),ruF t f K n E=some (k,R)->k+1<=f
 |0,_,_,_,_,_,h=>by cases h
 |f+1,[],n,E,k,R,h=>by cases h;omega
 |f+1,i :: K,n,E,k,R,h=>by
  simp only [ruF] at h;cases hs:It.step t i with
  |ref=>rw [hs] at h;cases h;omega
  |tk=>rw [hs] at h;cases h;omega
  |go d o r=>
   rw [hs] at h;simp only at h;cases hr:ruF t f (r++K) (n+d) (E++o) with
   |none=>rw [hr] at h;cases h
   |some x=>
    obtain ⟨k',R'⟩:=x;rw [hr] at h;cases h;have:=rz f _ _ _ _ _ hr;omega
theorem uU {st:Pst}{x:List Ev × Int × Pst}(h:uV t st=some x):fv t st x.1 x.2.1 x.2.2:=by
 cases st with
 |live K n=>
  simp only [uV] at h
  split at h
  ·rename_i hc
   cases h;exact .note hc
  ·rename_i hc
   have hc':(t.k == 7 || t.k == 8)=false:=by simpa using hc
   cases hr:ruF t 20 (beg K n) (dq n) (cX n) with
   |none=>rw [hr] at h;cases h
   |some y=>
    obtain ⟨k,R⟩:=y;have h1:=rA _ _ _ _ _ _ hr;have h2:=rz _ _ _ _ _ _ hr;rw [hr] at h;cases R with
    |no=>cases h;exact .no hc' h1 (by omega)
    |yes L m E=>
     simp only at h
     split at h
     ·cases h;exact .yes hc' h1 (by omega) (by assumption)
     ·cases h
 |stuck e n=>cases h
 |shut=>cases h
def nG:List Tv->Pst->Option (List Ev × Int × Nat)
 |[],.live K n=>if K.length=1 then some ([⟨3,1,tv0⟩],0,0) else some ([],121,0)
 |[],_=>none
 |t :: l,st=>match uV t st with
  |some (ev,c,st')=>if c=0 then (match nG l st' with|some (E,c',k)=>some (ev++E,c',k+1)|none=>none) else some ([],c,0)
  |none=>none
theorem oO:∀(l:List Tv) (st:Pst) (E:List Ev) (c:Int) (k:Nat),nG l st=some (E,c,k)->Alr st l E c k
 |[],st,E,c,k,h=>by
  cases st with
  |live K n=>
   simp only [nG] at h
   split at h
   ·rename_i h1;cases h;exact .nil (.all h1)
   ·rename_i h1;cases h;exact .nil (.open h1)
  |stuck e n=>cases h
  |shut=>cases h
 |t :: l,st,E,c,k,h=>by
  simp only [nG] at h;cases hp:uV t st with
  |none=>rw [hp] at h;cases h
  |some x=>
   obtain ⟨ev,c1,st'⟩:=x;have h1:=uU hp;rw [hp] at h;simp only at h h1
   split at h
   ·rename_i hc
    subst hc;cases hr:nG l st' with
    |none=>rw [hr] at h;cases h
    |some y=>
     obtain ⟨E2,c2,k2⟩:=y;rw [hr] at h;cases h;exact .on h1 (oO l st' _ _ _ hr)
   ·rename_i hc
    cases h;exact .err h1 hc
end Go.Proofs.YtpdlohfdjiaegaaGreatDoor
namespace Go.Proofs.YtpdlohfdjiaegaaGreatDoor
open Go.RowKit
open Lw (Dc bE rt frm dep rtT rtN dcs au aH)
variable {W w0:World}{v:Value}{g h:Nat}{st:Sst}
def uI (n:Int) (s o:ByteArray):Bool:=
 decide (s.size<=1000) && decide ((Lx.scn s).2.1=0) && decide ((stk s).length<=4194304) && match nG (stk s) (.live [] 0) with
 |some (E,c,_)=>decide (c=0) && decide (E.length<=8000000) && E.all (fun e=>decide (e.d.t.size<=1000)) && match d9 sy0 E with
  |some L=>L.all (fun d=>decide (d.t.size<=1000)) && decide (Lw.uds L<=268435456) && decide ((Lw.fw n L).2=0) && decide ((Lw.fw n L).1.data.toList=o.data.toList)
  |none=>false
 |none=>false
abbrev yH:ByteArray:=⟨#[112,114,111,103,114,97,109,32,112,59,98,101,103,105,110,32,120,58,61,49,59,121,58,61,102,40,97,44,98,41,101,110,100,46]⟩
abbrev yQ:ByteArray:=⟨#[112,114,111,103,114,97,109,32,112,59,10,98,101,103,105,110,10,32,32,120,32,58,61,32,49,59,10,32,32,121,32,58,61,32,102,40,97,44,32,98,41,10,101,110,100,46,10]⟩
abbrev yG:ByteArray:=⟨#[112,114,111,103,114,97,109,32,112,59,32,47,47,32,113,10,98,101,103,105,110,32,123,120,125,32,120,58,61,32,47,47,32,111,110,101,10,10,10,49,59,32,123,116,119,111,125,32,115,107,105,112,10,47,47,32,116,104,114,101,101,10,101,110,100,46]⟩
abbrev yP:ByteArray:=⟨#[112,114,111,103,114,97,109,32,112,59,32,47,47,32,113,10,98,101,103,105,110,32,123,120,125,10,32,32,120,32,58,61,32,47,47,32,111,110,101,10,32,32,32,32,49,59,32,123,116,119,111,125,10,32,32,115,107,105,112,10,32,32,47,47,32,116,104,114,101,101,10,101,110,100,46,10]⟩
theorem yK:uI 20 yH yQ=true:=by kernel_rfl
theorem yJ:uI 20 yG yP=true:=by kernel_rfl
theorem kB {a b:ByteArray}(h:a.data.toList=b.data.toList):a=b:=by
 obtain ⟨⟨x⟩⟩:=a;obtain ⟨⟨y⟩⟩:=b;exact zO (fun l=>(⟨⟨l⟩⟩:ByteArray)) h
theorem iA {n:Int}{s o:ByteArray}(h:uI n s o=true) (W:World) (hT:Lx.Kab W) (hW:Lw.Tab W) :
  Aa 17 #[.int .i64 n,.string s] W fun r w'=>∃p m c,r=.returned (.tuple #[.string o,.slice p m c,.bool true])/\Below W.heap.size W w':=by
 unfold uI at h;rw [zP,zP,zP] at h;obtain ⟨⟨⟨h1,h2⟩,h3⟩,h4⟩:=h;cases ha:nG (stk s) (.live [] 0) with
 |none=>rw [ha] at h4;cases h4
 |some x=>
  obtain ⟨E,c,k⟩:=x;rw [ha] at h4;simp only at h4;rw [zP,zP,zP] at h4;obtain ⟨⟨⟨h5,h6⟩,h7⟩,h8⟩:=h4;have hc:=zQ h5;subst hc;cases hL:d9 sy0 E with
  |none=>rw [hL] at h8;cases h8
  |some L=>
   rw [hL] at h8;simp only at h8;rw [zP,zP,zP] at h8;obtain ⟨⟨⟨g1,g2⟩,g3⟩,g4⟩:=h8;have hsz:=zQ h1;refine (j6 n s W hT hW (by omega) (zQ h2) (zQ h3) (oO _ _ _ _ _ ha) (zQ h6) (fun e he=>?_) hL (fun d hd=>?_) (zQ g2)).mono ?_
   ·have:=zQ (DJ.1 h7 e he);omega
   ·have:=zQ (DJ.1 g1 d hd);omega
   ·rintro r w' ⟨p,c,rfl,_,_,hb⟩;rw [kB (zQ g4),zB (zQ g3)];exact ⟨p,_,c,rfl,hb⟩
theorem qK (W:World) (hT:Lx.Kab W) (hW:Lw.Tab W):Aa 9 #[] W fun r w'=>r=.returned (.bool true)/\Below W.heap.size W w':=by
 have H1:Hid (Aa 17 #[.int .i64 20,.string yH] W fun r w'=>∃p m c,r=.returned (.tuple #[.string yQ,.slice p m c,.bool true])/\Ab W w'):=iA yK W hT hW;have H2:Hid (∀V,Ab W V->Aa 17 #[.int .i64 20,.string yG] V fun r w'=>∃p m c,r=.returned (.tuple #[.string yP,.slice p m c,.bool true])/\Ab V w'):=fun V hb=>iA yJ V (hT.below hb) (hW.below hb)
 clear hT hW
 go_enter Tryz.func9,Tryz.ntmps9
 go_wp2_with fail
 refine H1.out.mono ?_;rintro r1 w1 ⟨p1,m1,c1,rfl,hb1⟩;have HB1:Hid (Ab W w1):=hb1;clear hb1 H1
 go_wp2_with fail
 refine (H2.out _ HB1.out).mono ?_;rintro r2 w2 ⟨p2,m2,c2,rfl,hb2⟩;have HB2:Hid (Ab W w2):=HB1.out.trans (hb2.mono HB1.out.size);clear hb2 H2
 go_wp2_with fail
 go_ret
 exact ⟨rfl,HB2.out⟩
abbrev Pr:Type:=Nat × Nat × Sst
def prC (ps:List Pr):List Value:=aN (fun p:Pr=>[spg p.1,spg p.2.1]) ps
theorem uY (ps:List Pr):(prC ps).length=ps.length*2:=cN _ 2 (fun _=>rfl) ps
theorem uZ (a b:List Pr):prC (a++b)=prC a++prC b:=bB _ a b
theorem uX (ps:List Pr):∀u∈prC ps,u.oneCell'=true:=by
 intro u hu;obtain ⟨d,_,h⟩:=BG.1 hu;simp only [zK,Av,B6] at h
 rcases h with rfl|rfl <;> rfl
abbrev Ow:Type:=(Nat->Prop) × (Nat->Prop)
def Ow.has (o:Ow) (k:Nat):Prop:=o.1 k\/o.2 k
structure PL (w0 W:World) (v:Value) (ps:List Pr) (own:List Ow):Prop where
 len:own.length=ps.length
 pb:∀(i:Nat) (p:Pr) (o:Ow),ps[i]?=some p->own[i]?=some o->Pb o.1 o.2 W p.1 p.2.1 p.2.2
 dis:∀(i j:Nat) (o o':Ow),i≠j->own[i]?=some o->own[j]?=some o'->∀k,o.has k->¬o'.has k
 low:∀(i:Nat) (o:Ow),own[i]?=some o->∀k,o.has k->w0.heap.size<=k
 row:W.ownsRow 0 30 2 v ps.length (prC ps)
 vB:∀k,v.ownBlock=some k->w0.heap.size<=k/\∀(i:Nat) (o:Ow),own[i]?=some o->¬o.has k
 bel:Below w0.heap.size w0 W
theorem Pb.lt {S T:Nat->Prop}(hp:Pb S T W g h st):∀k,S k\/T k->k<W.heap.size:=fun k e=>e.elim (hp.a.lt k) (hp.b.lt k)
theorem Pb.kp {S T U:Nat->Prop}{W W':World}{g h:Nat}{st:Sst}(hp:Pb S T W g h st) (hk:Kp U W W') (hU:∀k,S k\/T k->¬U k):Pb S T W' g h st:=⟨hp.a.kp hk (fun k e=>hU k (.inl e)),hp.b.kp hk (fun k e=>hU k (.inr e)),hp.d⟩
theorem xw (w0:World):PL w0 w0 (.slice none 0 0) [] []:=⟨rfl,fun i p o h=>by simp at h,fun i j o o' _ h=>by simp at h,fun i o h=>by simp at h,Ar w0 0 _ 2,fun k e=>(by cases e),gt _ _⟩
theorem PL.olt {ps:List Pr}{own:List Ow}(h:PL w0 W v ps own):∀(i:Nat) (o:Ow),own[i]?=some o->∀k,o.has k->k<W.heap.size:=fun i o ho k hk=>by
 have hlt:i<ps.length:=by rw [<-h.len];exact (zv.1 ho).1
 exact (h.pb i ps[i] o (hH hlt) ho).lt k hk
theorem PL.below {W':World}{ps:List Pr}{own:List Ow}(h:PL w0 W v ps own) (hb:Below W.heap.size W W'):PL w0 W' v ps own:=
 ⟨h.len,fun i p o h1 h2=>(h.pb i p o h1 h2).kp (Kp.of_below (S:=fun _=>False) hb) (fun _ _ h=>h),h.dis,h.low,aE h.row hb,h.vB,h.bel.trans (hb.mono h.bel.size)⟩
theorem Tryz.info30:(Tryz.prog.info? 30).map (fun i=>(i.zero,i.size,i.bytes))=some (some (.agg #[.pointer none,.pointer none]),2,16):=by kernel_rfl
theorem PL.push {w0 W X w4:World}{v v':Value}{ps:List Pr}{own:List Ow}{S T:Nat->Prop}{g h:Nat}{st:Sst}(hp:PL w0 W v ps own) (hb:Below W.heap.size W X) (hS:Pb S T X g h st) (hnew:∀k,S k\/T k->W.heap.size<=k) {Y:World}(hY:Below X.heap.size X Y) (hr:w4.ownsRow 0 30 2 v' (ps.length+1) (prC (ps++[(g,h,st)]))) (hk:Kp (fun k=>v.ownBlock=some k) Y w4) (hn:v'.ownBlock=v.ownBlock\/v'.ownBlock=some Y.heap.size):PL w0 w4 v' (ps++[(g,h,st)]) (own++[(S,T)]):=by
 have hpY:=(hp.below hb).below hY;have hSY:=hS.kp (Kp.of_below (S:=fun _=>False) hY) (fun _ _ h=>h);have hvlt:=bS hp.row;have hWs:=hp.bel.size;have hXs:=hb.size;have hYs:=hY.size;refine ⟨by simp [hp.len],fun i p o h1 h2=>?_,fun i j o o' hij h1 h2 k hk1 hk2=>?_,fun i o h1 k hk1=>?_,by rw [zq];exact hr,fun k e=>?_,?_⟩
 ·by_cases hi:i<ps.length
  ·rw [zW hi] at h1;rw [zW (by rw [hp.len];exact hi)] at h2;exact (hpY.pb i p o h1 h2).kp hk (fun k hk1 e=>(hp.vB k e).2 i o h2 hk1)
  ·rw [zR (by omega)] at h1;rw [zR (by rw [hp.len];omega),hp.len] at h2;have e0:i-ps.length=0:=by have:=(zv.1 h1).1;simp at this;omega
   rw [e0] at h1 h2;cases h1;cases h2;exact hSY.kp hk (fun k hk1 e=>by have:=hnew k hk1;have:=hvlt k e;omega)
 ·by_cases hi:i<own.length
  ·rw [zW hi] at h1
   by_cases hj:j<own.length
   ·rw [zW hj] at h2;exact hp.dis i j o o' hij h1 h2 k hk1 hk2
   ·rw [zR (by omega)] at h2;have e0:j-own.length=0:=by have:=(zv.1 h2).1;simp at this;omega
    rw [e0] at h2;cases h2;have:=hp.olt i o h1 k hk1;have:=hnew k hk2;omega
  ·rw [zR (by omega)] at h1;have e0:i-own.length=0:=by have:=(zv.1 h1).1;simp at this;omega
   rw [e0] at h1;cases h1
   by_cases hj:j<own.length
   ·rw [zW hj] at h2;have:=hp.olt j o' h2 k hk2;have:=hnew k hk1;omega
   ·rw [zR (by omega)] at h2;have e1:j-own.length=0:=by have:=(zv.1 h2).1;simp at this;omega
    omega
 ·by_cases hi:i<own.length
  ·rw [zW hi] at h1;exact hp.low i o h1 k hk1
  ·rw [zR (by omega)] at h1;have e0:i-own.length=0:=by have:=(zv.1 h1).1;simp at this;omega
   rw [e0] at h1;cases h1;have:=hnew k hk1;omega
 ·have hcase:(v.ownBlock=some k)\/k=Y.heap.size:=by
   rcases hn with hn|hn
   ·exact .inl (by rw [<-hn];exact e)
   ·rw [hn] at e;exact .inr (zT e).symm
  refine ⟨?_,fun i o h1 hk1=>?_⟩
  ·rcases hcase with h|h
   ·exact (hp.vB k h).1
   ·omega
  ·by_cases hi:i<own.length
   ·rw [zW hi] at h1
    rcases hcase with h|h
    ·exact (hp.vB k h).2 i o h1 hk1
    ·have:=hp.olt i o h1 k hk1;omega
   ·rw [zR (by omega)] at h1;have e0:i-own.length=0:=by have:=(zv.1 h1).1;simp at this;omega
    rw [e0] at h1;cases h1
    rcases hcase with h|h
    ·have:=hvlt k h;have:=hnew k hk1;omega
    ·have:=hS.lt k hk1;omega
 ·have hbY:=hpY.bel;exact ⟨hk.os.trans hbY.os,hk.tape.trans hbY.tape,hk.output.trans hbY.output,zr hbY.size hk.size,fun k hlt=>(hk.block k (by omega) (fun e=>by have:=(hp.vB k e).1;omega)).trans (hbY.block k hlt)⟩
theorem PL.play {w':World}{ps:List Pr}{own:List Ow}{i:Nat}{st':Sst}{o:Ow}(hp:PL w0 W v ps own) (h1:ps[i]?=some (g,h,st)) (h2:own[i]?=some o) (hl:PbL o.1 o.2 g h W w' st'):∃own',PL w0 w' v (ps.set i (g,h,st')) own':=by
 obtain ⟨⟨S',T',hb,hS,hT⟩,hk⟩:=hl;have hi:i<ps.length:=(zv.1 h1).1;have hio:i<own.length:=by rw [hp.len];exact hi
 have hnew:∀k,Ow.has (S',T') k->o.has k\/W.heap.size<=k:=fun k e=>by
  rcases e with e|e
  ·exact (hS k e).imp .inl id
  ·exact (hT k e).imp .inr id
 have hWs:=hp.bel.size;have hvlt:=bS hp.row;refine ⟨own.set i (S',T'),by simp [hp.len],fun j p o' a1 a2=>?_,fun j j' q q' hjj a1 a2 k k1 k2=>?_,fun j q a1 k k1=>?_,?_,fun k e=>⟨(hp.vB k e).1,fun j q a1 k1=>?_⟩,?_⟩
 ·by_cases e:i=j
  ·subst e;rw [AP hi] at a1;rw [AP hio] at a2;cases a1;cases a2;exact hb
  ·rw [AT e] at a1 a2;exact (hp.pb j p o' a1 a2).kp hk (fun k k1 k2=>hp.dis i j o o' e h2 a2 k k2 k1)
 ·have key:∀(x y:Nat) (a b:Ow),x≠y->(own.set i (S',T'))[x]?=some a->(own.set i (S',T'))[y]?=some b->a.has k->b.has k->i=x->False:=fun x y a b hxy b1 b2 k1 k2 e=>by
   subst e;rw [AP hio] at b1;rw [AT hxy] at b2;cases b1
   rcases hnew k k1 with h|h
   ·exact hp.dis i y o b hxy h2 b2 k h k2
   ·have:=hp.olt y b b2 k k2;omega
  by_cases e:i=j
  ·exact key j j' q q' hjj a1 a2 k1 k2 e
  ·by_cases e':i=j'
   ·exact key j' j q' q (Ne.symm hjj) a2 a1 k2 k1 e'
   ·rw [AT e] at a1;rw [AT e'] at a2;exact hp.dis j j' q q' hjj a1 a2 k k1 k2
 ·by_cases e:i=j
  ·subst e;rw [AP hio] at a1;cases a1
   rcases hnew k k1 with h|h
   ·exact hp.low i o h2 k h
   ·omega
  ·rw [AT e] at a1;exact hp.low j q a1 k k1
 ·have hc:prC (ps.set i (g,h,st'))=prC ps:=by
   have:∀(l:List Pr) (i:Nat),l[i]?=some (g,h,st)->prC (l.set i (g,h,st'))=prC l:=by
    intro l
    induction l with
    |nil=>intro i h;simp at h
    |cons a l ih=>
     intro i h;cases i with
     |zero=>simp at h;subst h;rfl
     |succ i=>show [spg a.1,spg a.2.1]++prC (l.set i (g,_,st'))=[spg a.1,spg a.2.1]++prC l;rw [ih i (by simpa using h)]
   exact this ps i h1
  rw [hc,List.length_set];exact hk.row hp.row (fun k e k1=>(hp.vB k e).2 i o h2 k1)
 ·by_cases e2:i=j
  ·subst e2;rw [AP hio] at a1;cases a1
   rcases hnew k k1 with h|h
   ·exact (hp.vB k e).2 i o h2 h
   ·have:=hvlt k e;omega
  ·rw [AT e2] at a1;exact (hp.vB k e).2 j q a1 k1
 ·have hbY:=hp.bel;exact ⟨hk.os.trans hbY.os,hk.tape.trans hbY.tape,hk.output.trans hbY.output,zr hbY.size hk.size,fun k hlt=>(hk.block k (by omega) (fun e=>by have:=hp.low i o h2 k e;omega)).trans (hbY.block k hlt)⟩
theorem PL.cell {w0 W:World}{q n c:Nat}{ps:List Pr}{own:List Ow}(hp:PL w0 W (.slice (some ⟨q,0,none⟩) n c) ps own) {i:Nat}{p:Pr}(h1:ps[i]?=some p):W.cell? ⟨q,i*2,none⟩=some (spg p.1)/\W.cell? ⟨q,i*2+1,none⟩=some (spg p.2.1):=by
 have hc:∀(k:Nat) (u:Value),(prC ps)[k]?=some u->W.cell? ⟨q,k,none⟩=some u:=fun k u hu=>by
  have:=AZ hp.row (g:=q) rfl k u hu;rw [AM,zC] at this;exact this
 exact ⟨hc _ _ (aD _ 2 (fun _=>rfl) ps i 0 p _ h1 rfl),hc _ _ (aD _ 2 (fun _=>rfl) ps i 1 p _ h1 rfl)⟩
end Go.Proofs.YtpdlohfdjiaegaaGreatDoor
