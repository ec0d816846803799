import Derived.Test.YtnljjdhodelhdaaGreatDoorM14
import Derived.Test.YtnljjdhodelhdaaGreatDoorM38
set_option linter.unusedVariables false
set_option linter.unusedSimpArgs false
set_option maxHeartbeats 2000000
set_option maxRecDepth 100000
namespace Go.Proofs.YtnljjdhodelhdaaGreatDoor
open Go.RowKit
open Lw (Dc bE rt cB dq fi ik bW aX cj)
variable {w W:World}{ao:Option Addr}{l:List Ev}{v:Value}
def G8 (w:World) (ao:Option Addr) (l:List Ev):Prop:=∀j e,l[j]?=some e->∃b off,ao=some ⟨b,off,none⟩ /\
 w.cell? ⟨b,off+j*8,none⟩=some (.int .u8 e.k)/\w.cell? ⟨b,off+j*8+1,none⟩=some (.int .u8 e.n)/\w.cell? ⟨b,off+j*8+2,none⟩=some (.int .u8 e.d.k)/\w.cell? ⟨b,off+j*8+3,none⟩=some (.string e.d.t)/\w.cell? ⟨b,off+j*8+4,none⟩=some (.int .i64 e.d.a)/\w.cell? ⟨b,off+j*8+5,none⟩=some (.int .i64 e.d.l)/\w.cell? ⟨b,off+j*8+6,none⟩=some (.int .i64 e.d.c)/\w.cell? ⟨b,off+j*8+7,none⟩=some (.int .i64 e.d.f)
theorem G8.below {w':World}(h:G8 w ao l) (hb:Below w.heap.size w w'):G8 w' ao l:=by
 intro j a ha;obtain ⟨b,off,h1,c0,c1,c2,c3,c4,c5,c6,c7⟩:=h j a ha;have hlt:=QV _ _ c0;have e:w'.heap[b]?=w.heap[b]?:=(Kp.of_below (S:=fun _=>False) hb).block b hlt (fun h=>h);exact ⟨b,off,h1,(Q6 (a:=⟨b,_,none⟩) e).trans c0,(Q6 (a:=⟨b,_,none⟩) e).trans c1,(Q6 (a:=⟨b,_,none⟩) e).trans c2,(Q6 (a:=⟨b,_,none⟩) e).trans c3,(Q6 (a:=⟨b,_,none⟩) e).trans c4,(Q6 (a:=⟨b,_,none⟩) e).trans c5,(Q6 (a:=⟨b,_,none⟩) e).trans c6,(Q6 (a:=⟨b,_,none⟩) e).trans c7⟩
theorem Mr {p:Option Addr}{n cap:Nat}(h:Re w (.slice p n cap) l):G8 w p l:=by
 intro j d hj
 rcases h.2 with ⟨h1,h0⟩|⟨g,cap',cur,h1,_⟩
 ·have:l=[]:=Rh h0;subst this;simp at hj
 ·cases h1
  have hc:∀(k:Nat) (u:Value),(wX l)[k]?=some u->w.cell? ⟨g,k,none⟩=some u:=fun k u hu=>by
   have:=Tz h (g:=g) rfl k u hu;rw [SZ,Q8] at this;exact this
  refine ⟨g,0,rfl,?_,?_,?_,?_,?_,?_,?_,?_⟩
  ·rw [Q8];exact hc _ _ (aV Ev.cs 8 Ev.cs_len l j 0 d _ hj rfl)
  ·rw [Q8];exact hc _ _ (aV Ev.cs 8 Ev.cs_len l j 1 d _ hj rfl)
  ·rw [Q8];exact hc _ _ (aV Ev.cs 8 Ev.cs_len l j 2 d _ hj rfl)
  ·rw [Q8];exact hc _ _ (aV Ev.cs 8 Ev.cs_len l j 3 d _ hj rfl)
  ·rw [Q8];exact hc _ _ (aV Ev.cs 8 Ev.cs_len l j 4 d _ hj rfl)
  ·rw [Q8];exact hc _ _ (aV Ev.cs 8 Ev.cs_len l j 5 d _ hj rfl)
  ·rw [Q8];exact hc _ _ (aV Ev.cs 8 Ev.cs_len l j 6 d _ hj rfl)
  ·rw [Q8];exact hc _ _ (aV Ev.cs 8 Ev.cs_len l j 7 d _ hj rfl)
theorem G8.kp {S:Nat->Prop}{w w':World}{ao:Option Addr}{l:List Ev}(h:G8 w ao l) (hk:Kp S w w') (hS:∀b off,ao=some ⟨b,off,none⟩->¬S b):G8 w' ao l:=by
 intro j a ha;obtain ⟨b,off,h1,c0,c1,c2,c3,c4,c5,c6,c7⟩:=h j a ha;have hlt:=QV _ _ c0;have e:w'.heap[b]?=w.heap[b]?:=hk.block b hlt (hS b off h1);exact ⟨b,off,h1,(Q6 (a:=⟨b,_,none⟩) e).trans c0,(Q6 (a:=⟨b,_,none⟩) e).trans c1,(Q6 (a:=⟨b,_,none⟩) e).trans c2,(Q6 (a:=⟨b,_,none⟩) e).trans c3,(Q6 (a:=⟨b,_,none⟩) e).trans c4,(Q6 (a:=⟨b,_,none⟩) e).trans c5,(Q6 (a:=⟨b,_,none⟩) e).trans c6,(Q6 (a:=⟨b,_,none⟩) e).trans c7⟩
structure YI (w:World) (ao:Option Addr) (E:List Ev) (g:Nat) (v:Value) (D:List Dc) (st:wP) (S:Nat->Prop) (W:World):Prop where
 bel:Below w.heap.size w W
 sq:Sq S W g st
 sB:∀k,S k->w.heap.size<=k
 rd:Rd W v D
 vB:∀k,v.ownBlock=some k->w.heap.size<=k/\¬S k
 lev:G8 W ao E
 eb:∀b off,ao=some ⟨b,off,none⟩->b<W.heap.size/\¬S b/\v.ownBlock≠some b
structure YJ (w:World) (ao:Option Addr) (E:List Ev) (g:Nat) (v x:Value) (D ds:List Dc) (st:wP) (W:World):Prop where
 rv:Rd W v D
 rx:Rd W x ds
 fin:∀v' w',Rd w' v' (D++ds)->Kp (fun k=>v.ownBlock=some k) W w'->Nb W v v'->∃S,YI w ao E g v' (D++ds) st S w'
theorem Ov {l:List Dc}(h:Rd W v l):∀k,v.ownBlock=some k->k<W.heap.size:=by
 intro k hk
 rcases h.2 with ⟨rfl,_⟩|⟨b,cap,cur,rfl,_,h3,_⟩
 ·cases hk
 ·simp only [Value.ownBlock,RF] at hk;subst hk;exact au h3
theorem YI.call {E:List Ev}{g:Nat}{D:List Dc}{st:wP}{S:Nat->Prop}{W':World}(h:YI w ao E g v D st S W) {x:Value}{ds:List Dc}{st':wP}(hp:Aq S g W W' x ds st'):YJ w ao E g v x D ds st' W':=by
 obtain ⟨⟨S',p1,p3,p4⟩,hre,hkp⟩:=hp;have hb:Below w.heap.size w W':=nF h.bel hkp (fun k hk=>h.sB k hk) h.bel.size
 have hs':∀k,S' k->w.heap.size<=k:=by
  intro k hk
  rcases p3 k hk with a|a
  ·exact h.sB k a
  ·exact Q0 h.bel.size a
 have hv:Rd W' v D:=hkp.row h.rd (fun k e=>(h.vB k e).2)
 have hvS:∀k,v.ownBlock=some k->w.heap.size<=k/\¬S' k:=by
  intro k e;refine ⟨(h.vB k e).1,fun hs=>?_⟩
  rcases p3 k hs with a|a
  ·exact (h.vB k e).2 a
  ·have:=Ov h.rd k e;omega
 have hlv:G8 W' ao E:=h.lev.kp hkp (fun b off e=>(h.eb b off e).2.1)
 have heb:∀b off,ao=some ⟨b,off,none⟩->b<W'.heap.size/\¬S' b:=by
  intro b off e;obtain ⟨e1,e2,e3⟩:=h.eb b off e;refine ⟨Rk e1 hkp.size,fun hs=>?_⟩
  rcases p3 b hs with a|a
  ·exact e2 a
  ·omega
 refine ⟨hv,hre,fun v' w' hr hk hn=>⟨S',?_⟩⟩;refine ⟨nF hb hk (fun k e=>(h.vB k e).1) hb.size,p1.kp hk (fun k hs e=>(hvS k e).2 hs),hs',hr,?_,hlv.kp hk (fun b off e=>(h.eb b off e).2.2),?_⟩
 ·intro k e
  rcases hn with e1|⟨q,e1,hq⟩
  ·exact hvS k (by rw [<-e1];exact e)
  ·rw [e1] at e;simp at e;subst e;exact ⟨Q0 hb.size hq,fun hs=>by have:=p1.lt _ hs;omega⟩
 ·intro b off e;obtain ⟨e1,e2⟩:=heb b off e;refine ⟨Rk e1 hk.size,e2,?_⟩
  rcases hn with e3|⟨q,e3,hq⟩
  ·rw [e3];exact (h.eb b off e).2.2
  ·rw [e3];intro e4;simp at e4;omega
theorem DD {s:Sy}{e:Ev}{r:List Ev}:cO s (e :: r)=match dF s e with|none=>none|some (s',l)=>(cO s' r).map (l++·):=rfl
theorem JE {O:Nat->Prop}(n:aQ) (pn:Option Addr) (cn:Nat) (W:World) (ht:TN O W n (.slice pn n.c.length cn)) {E:List Ev}(hev:nQ n=E) (hl:E.length<=30000000) (htx:∀e∈E,e.d.t.size<=9223372036854775807) {L:List Dc}(hL:cO qi E=some L) :
  Ra 26 #[cL n.k n.d (.slice pn n.c.length cn)] W fun r w'=>∃p c,r=.returned (.tuple #[.slice p L.length c,.int .i64 0])/\Rd w' (.slice p L.length c) L/\Below W.heap.size W w'/\L.length<=12*E.length+12:=by
 obtain ⟨W0,e0⟩:∃W0,W.alloc (aY n.k n.d (.slice pn n.c.length cn))=W0:=⟨_,rfl⟩;obtain ⟨g0,hg0⟩:∃g0,W.heap.size=g0:=⟨_,rfl⟩;have hb0:Below W.heap.size W W0:=by rw [<-e0];exact (hH _ _).alloc (gt _) _
 have H0:Hid (Below W.heap.size W W0/\W0.heap[g0]?=some (aY n.k n.d (.slice pn n.c.length cn))):=⟨hb0,by rw [<-e0,<-hg0];exact aq _ _⟩;have HM:Hid (E.length<=30000000/\∀e∈E,e.d.t.size<=9223372036854775807):=⟨hl,htx⟩
 have HEv:Hid (∀V,Below W0.heap.size W0 V->Ra 58 #[cL n.k n.d (.slice pn n.c.length cn)] V fun r w'=>∃p c,r=.returned (.slice p E.length c)/\G8 w' p E/\Below V.heap.size V w'/\(∀b off,p=some ⟨b,off,none⟩->V.heap.size<=b/\b<w'.heap.size)):=fun V hb=>by
  have hx:Below W.heap.size W V:=hb0.trans (hb.mono hb0.size);refine (ya n _ V (TN.see n _ (TN.kp (Kp.of_below (S:=fun _=>False) hx) (fun _ _ h=>h) n _ ht)) (by rw [hev];omega)).mono ?_;rintro r w' ⟨v',rfl,h1,h2,h3⟩;rw [hev] at h2;obtain ⟨p',c',e,_⟩:=h2.shape;subst e;refine ⟨p',c',rfl,Mr h2,h1,fun b off e=>?_⟩;subst e
  have hlt:b<w'.heap.size:=by
   rcases h2.2 with ⟨h9,_⟩|⟨b9,cap9,cur9,h9,_,h10,_⟩
   ·cases h9
   ·cases h9;exact au h10
  exact ⟨h3 b rfl,hlt⟩
 have HNew:Hid (∀V,Ra 57 #[] V fun r w'=>r=.returned (bX V.heap.size)/\Sq (fun k=>k=V.heap.size) w' V.heap.size (.live qi)/\Below V.heap.size V w'):=xN;have HL:Hid (cO qi E=some L):=hL
 dsimp only [aY] at e0
 clear hl htx hb0 ht hev hL
 go_enter Tryz.func26,Tryz.ntmps26
 go_wp2_with fail
 try rw [e0]
 try rw [hg0]
 clear e0;refine (HNew.out _).mono ?_;rintro r w5 ⟨rfl,hq,hb⟩;obtain ⟨g,hg⟩:∃g,W0.heap.size=g:=⟨_,rfl⟩;have HQ:Hid (Sq (fun k=>k=g) w5 g (.live qi)/\Below W0.heap.size W0 w5):=by rw [<-hg];exact ⟨hq,hb⟩
 obtain ⟨⟨c0,c1,c2,c3,c4,c5,c6,c7⟩,cl⟩:=aB (ag H0.out.2 hb);have hgw:g<w5.heap.size:=HQ.out.1.lt g rfl;clear hq hb HNew
 go_wp2_with fail
 refine (HEv.out _ HQ.out.2).mono ?_;rintro r w6 ⟨ao,ca,rfl,hLv,hb6,hao⟩
 try rw [hg]
 have HI:Hid (∃S,YI W0 ao E g (.slice none 0 0) [] (.live qi) S w6):=⟨_,HQ.out.2.trans (hb6.mono HQ.out.2.size),HQ.out.1.below hb6,fun k e=>by rw [e,hg];exact gt _,lD _,(fun k e=>by cases e),hLv,fun b off e=>⟨(hao b off e).2,(fun e'=>by have e2:b=g:=e';have:=(hao b off e).1;omega),(fun e=>by cases e)⟩⟩;clear hLv hb6 hao c0 c1 c2 c3 c4 c5 c6 c7 cl hgw hg
 go_wp2_with fail
 go_loopw [5,7,8,9,16] (fun v _ _ _ i wr=>∃j:Nat,j<=E.length/\i=.int .i64 j/\Hid (∃S s D,YI W0 ao E g v D (.live s) S wr/\cO qi E=(cO s (E.drop j)).map (D++·)/\D.length+fA s<=12*j/\s.ns.length<=j/\Mo s)) (fun _ _ _ _ i _=>E.length-(intOf i).toNat)
 case atStart=>
  obtain ⟨S,hI⟩:=HI.out;exact ⟨0,QU _,rfl,S,_,[],hI,by simp,by decide,by decide,fun m hm=>by cases hm⟩
 case round=>
  obtain ⟨j,hj,rfl,HJ⟩:=hrel;obtain ⟨S,s,D,hI,hR,hz,hn,hm⟩:=HJ.out;obtain ⟨pv,cpv,hv,_⟩:=bF hI.rd;subst hv;obtain ⟨hEl,hEt⟩:=HM.out;have hbd:PG (.live s):=L9 (j:=j) (by omega) hn hm (by omega)
  by_cases hlt:j<E.length
  ·have q1:(j:Int)<E.length:=by omega
   have q0:(0:Int)<=j:=by omega
   obtain ⟨t,hT⟩:∃t,E[j]?=some t:=⟨_,Pi hlt⟩
   have hdr:E.drop j=t :: E.drop (j+1):=by
    obtain ⟨a1,a2⟩:=Q7.1 hT;rw [RK a1,a2]
   have htt:=hEt t (RV hT);obtain ⟨b,off,rfl,x0,x1,x2,x3,x4,x5,x6,x7⟩:=hI.lev j t hT;rw [hdr,DD] at hR;have hbn:Below wr.heap.size wr (wr.alloc (CV t.k t.n t.d)):=(hH _ _).alloc (gt _) _;obtain ⟨V1,eV1⟩:∃V1,wr.alloc (CV t.k t.n t.d)=V1:=⟨_,rfl⟩;rw [eV1] at hbn;have hI1:YI W0 (some ⟨b,off,none⟩) E g (.slice pv D.length cpv) D (.live s) S V1:=⟨hI.bel.trans (hbn.mono hI.bel.size),hI.sq.below hbn,hI.sB,bu hI.rd hbn,hI.vB,hI.lev.below hbn,fun b' off' e=>⟨Rk (hI.eb b' off' e).1 hbn.size,(hI.eb b' off' e).2⟩⟩;obtain ⟨g7,hg7⟩:∃g7,wr.heap.size=g7:=⟨_,rfl⟩;have hbk:V1.heap[g7]?=some (CV t.k t.n t.d):=by rw [<-eV1,<-hg7];exact aq _ _
   obtain ⟨⟨y0,y1,y2,y3,y4,y5,y6,y7⟩,yl⟩:=pQ hbk;have hP:=DB hI1.sq hbd t htt;clear HJ HI hdr hT hbd htt hEt hI hbk;cases hs:dF s t with
   |none=>
    rw [hs,HL.out] at hR;cases hR
   |some pr=>
    obtain ⟨s',ds⟩:=pr;rw [hs] at hR;have hpp:BC t (.live s)=(0,ds,.live s'):=by show (match dF s t with|none=>_|some (s',l)=>_)=_;rw [hs]
    rw [hpp] at hP;have HP:Hid (Ra 59 #[bX g,.agg #[.int .u8 t.k,.int .u8 t.n,.int .u8 t.d.k,.string t.d.t,.int .i64 t.d.a,.int .i64 t.d.l,.int .i64 t.d.c,.int .i64 t.d.f]] V1 fun rr w'=>∃v,rr=.returned (.tuple #[v,.int .i64 0])/\Aq S g V1 w' v ds (.live s')):=hP;have HN:Hid (∀w' x,Aq S g V1 w' x ds (.live s')->YJ W0 (some ⟨b,off,none⟩) E g (.slice pv D.length cpv) x D ds (.live s') w'):=fun w' x hx=>hI1.call hx
    obtain ⟨z1,z2,z3⟩:=Jb hs;have hR2:cO qi E=((cO s' (E.drop (j+1))).map (ds++·)).map (D++·):=hR;have HK:Hid (cO qi E=(cO s' (E.drop (j+1))).map ((D++ds)++·)/\(D++ds).length+fA s'<=12*(j+1)/\s'.ns.length<=j+1/\Mo s'/\D.length+ds.length<=1000000000000):=⟨by rw [hR2];generalize cO s' (E.drop (j+1))=o;cases o <;> simp,by rw [Or];omega,by omega,z3 hm,by omega⟩
    dsimp only [CV] at eV1
    clear hI1 hR hR2 hP hpp hs hz hn hm z1 z2 z3 hbn
    go_wp2_with fail
    try rw [eV1]
    try rw [hg7]
    clear eV1 hg7;refine HP.out.mono ?_;rintro r w7 ⟨x,rfl,hx⟩;have H6:Hid (YJ W0 (some ⟨b,off,none⟩) E g (.slice pv D.length cpv) x D ds (.live s') w7):=HN.out _ _ hx;obtain ⟨px,cx,hxs,_⟩:=bF H6.out.rx;subst hxs;clear hx y0 y1 y2 y3 y4 y5 y6 y7 yl
    go_wp2_with (at_builtin;refine GM (by rfl) _ _ (by rfl) (.slice pv D.length cpv) (.slice px ds.length cx) D ds (by rfl) H6.out.rv (by rfl) H6.out.rx HK.out.2.2.2.2 ?_;intro v3 w8 h3 k3 n3;have H7:Hid (∃S,YI W0 (some ⟨b,off,none⟩) E g v3 (D++ds) (.live s') S w8):=H6.out.fin _ _ h3 k3 n3;clear h3 k3 n3)
    obtain ⟨S3,hI3⟩:=H7.out;exact ⟨⟨j+1,hlt,by go_num,S3,s',D++ds,hI3,HK.out.1,HK.out.2.1,HK.out.2.2.1,HK.out.2.2.2.1⟩,by simp [intOf];omega⟩
  ·obtain rfl:j=E.length:=by omega
   have q1:¬((E.length:Int)<E.length):=by omega
   rw [Th] at hR;have hR':cO qi E=(ie s).map (D++·):=hR;have hP:=xr hI.sq hbd
   obtain ⟨ds,hcl⟩:∃ds,ie s=some ds:=by
    cases hc:ie s with
    |none=>rw [hc,HL.out] at hR';cases hR'
    |some l=>exact ⟨l,rfl⟩
   have hpp:xL (.live s)=(0,ds,.done):=by
    have hx:xL (.live s)=(match ie s with|none=>(130,[],.live s)|some l=>(0,l,.done)):=rfl;rw [hx,hcl]
   have gK:ds.length<=fA s+1:=by
    have h1:ds=s.endl.ws:=by
     unfold ie at hcl
     split at hcl
     ·exact (RJ hcl).symm
     ·cases hcl
    rw [h1];unfold Sy.endl fA
    split
    ·show (dH :: s.ws).length<=_;simp only [List.length_cons];omega
    ·omega
   rw [hpp] at hP;have HP:Hid (Ra 60 #[bX g] wr fun rr w'=>∃v,rr=.returned (.tuple #[v,.int .i64 0])/\Aq S g wr w' v ds .done):=hP;have HN:Hid (∀w' x,Aq S g wr w' x ds .done->YJ W0 ao E g (.slice pv D.length cpv) x D ds .done w'):=fun w' x hx=>hI.call hx
   have HK:Hid (L=D++ds/\D.length+ds.length<=12*E.length+12/\D.length+ds.length<=1000000000000):=by
    refine ⟨?_,by omega,by omega⟩;rw [hcl,HL.out] at hR';exact RJ hR'
   clear hI hR hR' hP hpp hcl gK hz hn hm HJ HI hbd hEt
   go_wp2_with fail
   refine HP.out.mono ?_;rintro r w7 ⟨x,rfl,hx⟩;have H6:Hid (YJ W0 ao E g (.slice pv D.length cpv) x D ds .done w7):=HN.out _ _ hx;obtain ⟨px,cx,hxs,_⟩:=bF H6.out.rx;subst hxs;clear hx
   go_wp2_with (at_builtin;refine GM (by rfl) _ _ (by rfl) (.slice pv D.length cpv) (.slice px ds.length cx) D ds (by rfl) H6.out.rv (by rfl) H6.out.rx HK.out.2.2 ?_;intro v3 w8 h3 k3 n3;have H7:Hid (∃S,YI W0 ao E g v3 (D++ds) .done S w8):=H6.out.fin _ _ h3 k3 n3;obtain ⟨p3,c3,e3,_⟩:=bF h3;rw [Or] at e3;subst e3;clear h3 k3 n3)
   obtain ⟨S7,hI7⟩:=H7.out;obtain ⟨k1,k2,k3⟩:=HK.out;refine Rg (v:=.tuple #[.slice p3 (D.length+ds.length) c3,.int .i64 0]) (by simp [results,Tryz.f26,go_sem]) rfl ?_;refine ⟨p3,c3,by rw [k1,Or],by rw [k1,Or];rw [Or] at *;exact hI7.rd,H0.out.1.trans (hI7.bel.mono H0.out.1.size),by rw [k1,Or];exact k2⟩
end Go.Proofs.YtnljjdhodelhdaaGreatDoor
namespace Go.Proofs.YtnljjdhodelhdaaGreatDoor
open Go.RowKit
open Lw (Dc bE rt cB dq fi ik jm ud qh)
variable {s:ByteArray}{W:World}{E:List Ev}{L:List Dc}{n:Int}
def CW (W:World) (v:Value) (Q:Int->Int->Int->Int->Prop) (r:Ending) (w':World):Prop:=∃g c x y u,Q c x y u/\r=.returned (.tuple #[v,nO g])/\w'.heap[g]?=some (qx c x y u)/\Below W.heap.size W w'
theorem pM (h:Fd s E L):E.length<=8000000/\(∀e∈E,e.d.t.size<=9223372036854775807)/\cB 0 0 L=none/\qh L<=2147483647/\(∀d∈L,rt d=true)/\(fC s).length<=262144:=by
 obtain ⟨a,hA⟩:=h.al;have hls:=rO s;have hsz:=h.sz;have hcn:E.length<=0+23*(fC s).length+1:=nZ (fC s) [] 0 E a hA dO;obtain ⟨hU,hr⟩:=Da hA h.ly hsz hls;have hf:cB 0 0 L=none:=by have h:=kl E kj h.ly;rw [RG] at h;exact h
 refine ⟨by omega,fun e he=>?_,hf,hU,hr,by omega⟩
 rcases LF (fC s) [] 0 E a hA dO e he with h|h
 ·rw [h];exact QU _
 ·have:=L4 s _ h;omega
theorem vz (h:Fd s E L) {W:World}(hT:Lx.qk W) (hE:mM W) :
  Ra 11 #[.string s] W fun r w'=>∃p c,r=.returned (.tuple #[.slice p L.length c,.nilIface])/\Rd w' (.slice p L.length c) L/\Below W.heap.size W w'/\L.length<=100000000:=by
 obtain ⟨a,hA⟩:=h.al;obtain ⟨f1,f2,f3,f4,f5,f6⟩:=pM h;have hsz:=h.sz;have q1:¬((s.size:Int)>262144):=by omega
 have HR:Hid (Ra 25 #[.string s] W (QH W E)):=Br hT hE (by omega) (z:=0) (by rw [h.sc];rfl) (by omega) hA rfl
 have HL:Hid (∀n p cv V,TN (fun j=>W.heap.size<=j) V n (.slice p n.c.length cv)->et E []=some n->Ra 26 #[cL n.k n.d (.slice p n.c.length cv)] V fun r w'=>∃p c,r=.returned (.tuple #[.slice p L.length c,.int .i64 0])/\Rd w' (.slice p L.length c) L/\Below V.heap.size V w'/\L.length<=100000000):=fun n p cv V ht hb=>by
  have hev:nQ n=E:=by rw [(Cd hb).1,(GQ hA).2]
  refine (JE n p cv V ht hev (by omega) f2 h.ly).mono ?_;rintro r w' ⟨p,c,e1,e2,e3,e4⟩;exact ⟨p,c,e1,e2,e3,by omega⟩
 have HF:Hid (∀V,Ra 10 #[.int .i64 0,.agg #[.int .i64 0,.int .i64 0,.int .i64 0]] V fun r w'=>r=.returned .nilIface/\Below V.heap.size V w'):=fun V=>rk 0 0 0 V
 clear h hT hE hA f1 f2 f3 f4 f5 f6 hsz
 go_enter Tryz.func11,Tryz.ntmps11
 go_wp2_with fail
 refine HR.out.mono ?_;rintro r w1 ⟨n,p,cv,rfl,ht,hbl,hb1⟩;obtain ⟨V1,eV1⟩:∃V1,w1.alloc (aY n.k n.d (.slice p n.c.length cv))=V1:=⟨_,rfl⟩;obtain ⟨g1,hg1⟩:∃g1,w1.heap.size=g1:=⟨_,rfl⟩;have hx:Below w1.heap.size w1 V1:=by rw [<-eV1];exact (hH _ _).alloc (gt _) _
 have H1:Hid (Below W.heap.size W V1/\TN (fun j=>W.heap.size<=j) V1 n (.slice p n.c.length cv)/\et E []=some n):=⟨hb1.trans (hx.mono hb1.size),TN.kp (Kp.of_below (S:=fun _=>False) hx) (fun _ _ h=>h) n _ ht,hbl⟩;have hk:V1.heap[g1]?=some (aY n.k n.d (.slice p n.c.length cv)):=by rw [<-eV1,<-hg1];exact aq _ _
 obtain ⟨⟨c0,c1,c2,c3,c4,c5,c6,c7⟩,cl⟩:=aB hk
 dsimp only [aY] at eV1
 clear ht hbl hb1 hx hk HR
 go_wp2_with fail
 try rw [eV1]
 try rw [hg1]
 clear eV1 hg1
 go_wp2_with fail
 refine (HL.out n p cv V1 H1.out.2.1 H1.out.2.2).mono ?_;rintro r w2 ⟨p2,c2',rfl,y1,y2,y3⟩;have H2:Hid (Rd w2 (.slice p2 L.length c2') L/\Below W.heap.size W w2/\L.length<=100000000):=⟨y1,H1.out.1.trans (y2.mono H1.out.1.size),y3⟩;clear y1 y2 y3
 go_wp2_with fail
 refine (HF.out _).mono ?_;rintro r w3 ⟨rfl,y4⟩;have H3:Hid (Below w2.heap.size w2 w3):=y4;clear y4
 go_wp2_with fail
 refine Rg (v:=.tuple #[.slice p2 L.length c2',.nilIface]) (by simp [results,Tryz.f11,go_sem]) rfl ?_;exact ⟨p2,c2',rfl,bu H2.out.1 H3.out,H2.out.2.1.trans (H3.out.mono H2.out.2.1.size),H2.out.2.2⟩
theorem vy (hs:262144<s.size) (hm:s.size<=maxLen):Ra 11 #[.string s] W (CW W (.slice none 0 0) (fun _ _ _ _=>True)):=by
 have q1:(s.size:Int)>262144:=by omega
 have HF:Hid (∀V,Ra 10 #[.int .i64 2,.agg #[.int .i64 0,.int .i64 0,.int .i64 0]] V fun r w'=>∃g,r=.returned (nO g)/\w'.heap[g]?=some (qx 2 0 0 0)/\V.heap.size<=g/\Rc V w'):=fun V=>jv 2 0 0 0 (by decide) V
 clear hs
 go_enter Tryz.func11,Tryz.ntmps11
 go_wp2_with fail
 refine (HF.out _).mono ?_;rintro r w1 ⟨g,rfl,y1,y2,y3⟩;have H1:Hid (w1.heap[g]?=some (qx 2 0 0 0)/\Rc W w1):=⟨y1,y3⟩;clear y1 y2 y3
 go_wp2_with fail
 refine Rg (v:=.tuple #[.slice none 0 0,nO g]) (by simp [results,Tryz.f11,go_sem]) rfl ?_;exact ⟨g,2,0,0,0,trivial,rfl,H1.out.1,H1.out.2⟩
theorem pi {Q:Int->Int->Int->Int->Prop}(hs:s.size<=262144) (hR:Ra 25 #[.string s] W (CW W (cL 0 aC (.slice none 0 0)) Q)) :
  Ra 11 #[.string s] W (CW W (.slice none 0 0) Q):=by
 have q1:¬((s.size:Int)>262144):=by omega
 have HR:Hid (Ra 25 #[.string s] W (CW W (cL 0 aC (.slice none 0 0)) Q)):=hR;clear hs hR
 go_enter Tryz.func11,Tryz.ntmps11
 go_wp2_with fail
 refine HR.out.mono ?_;rintro r w1 ⟨g,c,x,y,u,hq,rfl,h1,h2⟩;have H1:Hid (Q c x y u/\w1.heap[g]?=some (qx c x y u)/\Rc W w1):=⟨hq,h1,h2⟩;clear hq h1 h2
 go_wp2_with fail
 refine Rg (v:=.tuple #[.slice none 0 0,nO g]) (by simp [results,Tryz.f11,go_sem]) rfl ?_;exact ⟨g,c,x,y,u,H1.out.1,rfl,ag H1.out.2.1 ((hH _ _).alloc (gt _) _),H1.out.2.2.alloc H1.out.2.2.size _⟩
theorem iN (h:Fd s E L) {n:Int}(h1:1<=n) (h2:n<=4096) {W:World}(hT:Lx.qk W) (hW:Lw.jQ W) (hE:mM W) :
  Ra 5 #[.int .i64 n,.string s] W fun r w'=>r=.returned (.tuple #[.string (wo n L),.nilIface])/\Below W.heap.size W w':=by
 obtain ⟨f1,f2,f3,f4,f5,f6⟩:=pM h;have q1:¬(n<1):=by omega
 have q2:¬(n>4096):=by omega
 have hd:∀d∈L,d.t.size<=9223372036854775807:=fun d hd=>Oq (f5 d hd)
 have hw:Lw.rI n L=(wo n L,0):=by
  unfold Lw.rI;rw [Eq (by omega),Eq (by rw [f3];simp)]
 have HL:Hid (Ra 11 #[.string s] W fun r w'=>∃p c,r=.returned (.tuple #[.slice p L.length c,.nilIface])/\Lw.Lay w' p L/\Rc W w'/\L.length<=100000000):=by
  refine (vz h hT hE).mono ?_;rintro r w' ⟨p,c,rfl,y1,y2,y3⟩;obtain ⟨ao,cap,e1,e2,e3,_⟩:=Lw.Lay.row y1 hd;cases e1;exact ⟨p,c,rfl,e3,y2,y3⟩
 obtain ⟨T,hTT⟩:∃T,wo n L=T:=⟨_,rfl⟩;rw [hTT] at hw ⊢
 have HP:Hid (∀V p c,Lw.Lay V p L->L.length<=100000000->Rc W V->Ra 12 #[.int .i64 n,.slice p L.length c] V fun e w'=>e=.returned (.tuple #[.string T,.int .i64 0])/\Rc V w'):=fun V p c h h1 hb=>by
  have:=Lw.BB n p L c V h (hW.below hb) h1 f4;rw [hw] at this;exact this
 have HF:Hid (∀V,Ra 10 #[.int .i64 0,.agg #[.int .i64 0,.int .i64 0,.int .i64 0]] V fun r w'=>r=.returned .nilIface/\Rc V w'):=fun V=>rk 0 0 0 V
 clear h hT hE hW f1 f2 f3 f4 f5 f6 hd hw hTT
 go_enter Tryz.func5,Tryz.ntmps5
 go_wp2_with fail
 refine HL.out.mono ?_;rintro r w1 ⟨p,c,rfl,y1,y2,y3⟩;have H1:Hid (Lw.Lay w1 p L/\Rc W w1/\L.length<=100000000):=⟨y1,y2,y3⟩;clear y1 y2 y3
 go_wp2_with fail
 refine (HP.out w1 p c H1.out.1 H1.out.2.2 H1.out.2.1).mono ?_;rintro r w2 ⟨rfl,y4⟩;have H2:Hid (Rc W w2):=H1.out.2.1.trans (y4.mono H1.out.2.1.size);clear y4
 go_wp2_with fail
 refine (HF.out _).mono ?_;rintro r w3 ⟨rfl,y5⟩;have H3:Hid (Rc W w3):=H2.out.trans (y5.mono H2.out.size);clear y5
 go_wp2_with fail
 refine Rg (v:=.tuple #[.string T,.nilIface]) (by simp [results,Tryz.f5,go_sem]) rfl ?_;exact ⟨rfl,H3.out⟩
theorem jY {Q:Int->Int->Int->Int->Prop}(h1:1<=n) (h2:n<=4096) (hR:Ra 11 #[.string s] W (CW W (.slice none 0 0) Q)) :
  Ra 5 #[.int .i64 n,.string s] W (CW W (.string ⟨#[]⟩) Q):=by
 have q1:¬(n<1):=by omega
 have q2:¬(n>4096):=by omega
 have HR:Hid (Ra 11 #[.string s] W (CW W (.slice none 0 0) Q)):=hR;clear hR
 go_enter Tryz.func5,Tryz.ntmps5
 go_wp2_with fail
 refine HR.out.mono ?_;rintro r w1 ⟨g,c,x,y,u,hq,rfl,y1,y2⟩;have H1:Hid (Q c x y u/\w1.heap[g]?=some (qx c x y u)/\Rc W w1):=⟨hq,y1,y2⟩;clear hq y1 y2
 go_wp2_with fail
 refine Rg (v:=.tuple #[.string ⟨#[]⟩,nO g]) (by simp [results,Tryz.f5,go_sem]) rfl ?_;exact ⟨g,c,x,y,u,H1.out.1,rfl,H1.out.2.1,H1.out.2.2⟩
theorem pF (hn:n<1\/4096<n):Ra 5 #[.int .i64 n,.string s] W (CW W (.string ⟨#[]⟩) (fun _ _ _ _=>True)):=by
 have HF:Hid (∀V,Ra 10 #[.int .i64 1,.agg #[.int .i64 0,.int .i64 0,.int .i64 0]] V fun r w'=>∃g,r=.returned (nO g)/\w'.heap[g]?=some (qx 1 0 0 0)/\V.heap.size<=g/\Rc V w'):=fun V=>jv 1 0 0 0 (by decide) V
 by_cases q1:n<1
 case' pos=>clear hn
 case' neg=>
  have q2:n>4096:=by omega
  clear hn
 all_goals (
  go_enter Tryz.func5,Tryz.ntmps5
  go_wp2_with fail
  refine (HF.out _).mono ?_;rintro r w1 ⟨g,rfl,y1,y2,y3⟩;have H1:Hid (w1.heap[g]?=some (qx 1 0 0 0)/\Rc W w1):=⟨y1,y3⟩;clear y1 y2 y3
  go_wp2_with fail
  refine Rg (v:=.tuple #[.string ⟨#[]⟩,nO g]) (by simp [results,Tryz.f5,go_sem]) rfl ?_;exact ⟨g,1,0,0,0,trivial,rfl,H1.out.1,H1.out.2⟩)
theorem B4 (s:ByteArray) (hm:s.size<=maxLen) (n:Int):(1<=n/\n<=4096/\∃E L,Fd s E L)\/∀W,Lx.qk W->mM W->Ra 5 #[.int .i64 n,.string s] W (CW W (.string ⟨#[]⟩) (fun _ _ _ _=>True)):=by
 by_cases h1:n<1\/4096<n
 ·exact .inr fun W _ _=>pF h1
 ·by_cases h2:262144<s.size
  ·exact .inr fun W _ _=>jY (by omega) (by omega) (vy h2 hm)
  ·obtain ⟨E,code,a,hA⟩:=GS (fC s) (.live [] 0) dO;have hls:=rO s
   have key:∀{W:World},Lx.qk W->mM W->(code=0/\((Lx.fy s).2.1:Int)≠0\/code=121/\a=(fC s).length)->Ra 5 #[.int .i64 n,.string s] W (CW W (.string ⟨#[]⟩) (fun _ _ _ _=>True)):=fun {W} k1 k2 h=>by
    refine jY (by omega) (by omega) (pi (by omega) ((D4 k1 k2 (by omega) rfl (by omega) hA h).mono ?_));rintro r w' ⟨g,c,x,y,u,e1,e2,e3,e4⟩;exact ⟨g,c,x,y,u,trivial,e1,e2,e4⟩
   by_cases hc:code=0
   ·subst hc
    by_cases hz:(Lx.fy s).2.1=0
    ·obtain ⟨L,hL,_⟩:=oq s hz hA;exact .inl ⟨by omega,by omega,E,L,by omega,hz,⟨a,hA⟩,hL⟩
    ·exact .inr fun W k1 k2=>key k1 k2 (.inl ⟨rfl,by omega⟩)
   ·obtain ⟨a1,a2⟩:=GT dO JJ hA hc
    by_cases ha:a=(fC s).length
    ·exact .inr fun W k1 k2=>key k1 k2 (.inr ⟨a1.2 ha,ha⟩)
    ·obtain ⟨t,ht⟩:∃t,(fC s)[a]?=some t:=⟨_,Pi (by omega)⟩;refine .inr fun W k1 k2=>jY (by omega) (by omega) (pi (by omega) ((D3 k1 k2 (by omega) rfl (by omega) hA hc ht).mono ?_))
     rintro r w' ⟨g,e1,e2,e3,e4⟩;exact ⟨g,_,_,_,_,trivial,e1,e2,e4⟩
end Go.Proofs.YtnljjdhodelhdaaGreatDoor
namespace Go.Proofs.YtnljjdhodelhdaaGreatDoor
open Go.RowKit
variable {W W' V:World}{c:List aQ}{vs:List Value}{v x:Value}{j:Nat}
abbrev Sn (W:World) (ao:Option Addr) (c:List aQ):Prop:=(ao=none->c=[])/\∀a,ao=some a->c=[]\/∃b o,a=⟨b,o,none⟩/\HL W b o c
theorem Sn.below {ao:Option Addr}(h:Sn W ao c) (hb:Below W.heap.size W W'):Sn W' ao c:=
 ⟨h.1,fun a ha=>(h.2 a ha).imp id (fun ⟨b,o,e,hl⟩=>⟨b,o,e,HL.below hb c b o hl⟩)⟩
def SN (W:World) (v:Value) (c:List aQ):Prop:=∃ao cap,v=.slice ao c.length cap/\c.length<=cap/\cap<=maxLen/\Sn W ao c
theorem SN.below (h:SN W v c) (hb:Below W.heap.size W W'):SN W' v c:=by
 obtain ⟨ao,cap,h1,h2,h3,h4⟩:=h;exact ⟨ao,cap,h1,h2,h3,h4.below hb⟩
def VL (W:World) (c:List aQ) (vs:List Value):Prop:=∀(j:Nat) (n:aQ),c[j]?=some n->∃x,vs[j]?=some x/\Nv W (cL n.k n.d x) n
theorem VL.below (h:VL W c vs) (hb:Below W.heap.size W W'):VL W' c vs:=fun j n hj=>by
 obtain ⟨x,h1,h2⟩:=h j n hj;exact ⟨x,h1,h2.below hb⟩
theorem VL.app (h:VL W c vs) (hl:vs.length=c.length) {n:aQ}{x:Value}(hn:Nv W (cL n.k n.d x) n):VL W (c++[n]) (vs++[x]):=by
 intro j m hj
 by_cases hlt:j<c.length
 ·rw [Tn hlt] at hj;obtain ⟨y,h1,h2⟩:=h j m hj;exact ⟨y,by rw [Tn (by omega)];exact h1,h2⟩
 ·rw [SJ (by omega)] at hj;have h0:=(Q7.1 hj).1;simp at h0;rw [show j-c.length=0 by omega] at hj;simp at hj;subst hj;exact ⟨x,by rw [SJ (by omega),show j-vs.length=0 by omega];rfl,hn⟩
theorem Jk {n:aQ}{k:Int}{d:Tv}(h:Nv W (cL k d x) n):∃ao cap,x=.slice ao n.c.length cap/\n.c.length<=cap/\cap<=maxLen/\(ao=none->n.c=[])/\(∀a,ao=some a->n.c=[]\/∃b o,a=⟨b,o,none⟩/\HL W b o n.c):=by
 obtain ⟨ao,cp,q0,q1,q2,q3,q4⟩:=h;refine ⟨ao,cp,?_,q1,q2,q3,q4⟩;simp only [cL,Value.agg.injEq] at q0;have:=Rj (fun a:Array Value=>a[7]?) q0
 simpa using this
theorem Oh (h1:RN W v c vs) (h3:VL W c vs):SN W v c:=by
 have hr:=h1.2.2
 rcases hr with ⟨e1,e2⟩|⟨b,cap,cur,e1,_,e3,e4,e5,_⟩
 ·have:c=[]:=Rh e2;subst this;exact ⟨none,0,e1,gt _,QU _,(fun _=>rfl),(fun a ha=>by cases ha)⟩
 ·refine ⟨some ⟨b,0,none⟩,cap,e1,e4,e5,(fun h=>by cases h),fun a ha=>?_⟩;cases ha;refine .inr ⟨b,0,rfl,Fc (fun j m hj=>?_)⟩;obtain ⟨y,hy,hm⟩:=h3 j m hj;obtain ⟨ao,cp,rfl,q1,q2,q3,q4⟩:=Jk hm
  have hc:∀i u,(nc m (.slice ao m.c.length cp))[i]?=some u->W.cell? ⟨b,0+j*8+i,none⟩=some u:=fun i u hu=>by
   rw [Q8];exact h1.cell e1 hj hy hu
  have hc0:=hc 0 _ rfl;obtain ⟨mk',md,mc⟩:=m;rw [HN];exact ⟨⟨hc0,hc 1 _ rfl,hc 2 _ rfl,hc 3 _ rfl,hc 4 _ rfl,hc 5 _ rfl,hc 6 _ rfl⟩,ao,cp,hc 7 _ rfl,q1,q2,q3,q4⟩
structure NR (W:World) (v:Value) (c:List aQ) (vs:List Value) (V:World):Prop where
 bel:Below W.heap.size W V
 rn:RN V v c vs
 vB:∀k,v.ownBlock=some k->W.heap.size<=k
 vl:VL W c vs
theorem NR.below {V':World}(h:NR W v c vs V) (hb:Below V.heap.size V V'):NR W v c vs V':=
 ⟨h.bel.trans (hb.mono h.bel.size),h.rn.kp (Kp.of_below (S:=fun _=>False) hb) (fun _ _ h=>h),h.vB,h.vl⟩
theorem NR.push {V1 w3:World}{v':Value}{n:aQ}(h:NR W v c vs V) (hb:Below V.heap.size V V1) (hr:RN w3 v' (c++[n]) (vs++[x])) (hg:V1.grownBy w3 v.ownBlock) (hq:Nb V1 v v') (hn:Nv W (cL n.k n.d x) n):NR W v' (c++[n]) (vs++[x]) w3:=by
 refine ⟨Kp.low (h.bel.trans (hb.mono h.bel.size)) (Kp.of_grown hg) (fun k e=>h.vB k e.symm) (Q0 h.bel.size hb.size),hr,?_,h.vl.app h.rn.1 hn⟩;intro q e
 rcases hq with e1|⟨r,e1,hr1⟩
 ·exact h.vB q (by rw [<-e1];exact e)
 ·rw [e1] at e;simp at e;have:=h.bel.size;have:=hb.size;omega
theorem NR.sn (h:NR W v c vs V):SN V v c:=Oh h.rn (h.vl.below h.bel)
def pl (c:List aQ):List aQ:=c.filter (fun x=>!vD x)
theorem Ja {m:aQ}(h:c[j]?=some m):pl (c.take (j+1))=if vD m then pl (c.take j) else pl (c.take j)++[m]:=by
 unfold pl;rw [S9,h,List.filter_append];cases hm:vD m <;> simp [hm]
theorem Oy (c:List aQ) (j:Nat):(pl (c.take j)).length<=c.length:=by
 unfold pl;have h1:=List.length_filter_le (fun x=>!vD x) (c.take j);have h2:(c.take j).length<=c.length:=by rw [Ry];omega
 omega
theorem JI (m:aQ):(qj m.d != 4)=!cm m.d:=by
 unfold qj;cases cm m.d <;> rfl
theorem mh (c:List aQ) (ao:Option Addr) (cap:Nat) (W:World) (h:Sn W ao c) (h1:c.length<=cap) (h2:cap<=maxLen) (hl:c.length<=1000000000):Ra 24 #[.slice ao c.length cap] W fun r w'=>∃v,r=.returned v/\SN w' v (pl c)/\Below W.heap.size W w':=by
 have HQ:Hid (Sn W ao c):=h;have hcl:(c.length:Int)<=1000000000:=by omega
 clear h
 go_enter Tryz.func24,Tryz.ntmps24
 go_wp2_with fail
 go_loopw [3,8] (fun lv iv wr=>∃(j:Nat) (vs:List Value),j<=c.length/\iv=.int .i64 j/\Hid (NR W lv (pl (c.take j)) vs wr)) (fun _ iv _=>c.length-(intOf iv).toNat)
 case atStart=>exact ⟨0,[],QU _,rfl,⟨hH _ _,xw _,(fun k e=>by cases e),fun j n hj=>by simp [pl] at hj⟩⟩
 case round=>
  obtain ⟨j,vs,hj,rfl,HJ⟩:=hrel;obtain ⟨pv,cv,hv,_⟩:=HJ.out.rn.shape;obtain ⟨nl,hnl⟩:∃nl,(pl (c.take j)).length=nl:=⟨_,rfl⟩;rw [hnl] at hv;subst hv
  by_cases hlt:j<c.length
  ·have z1:(j:Int)<c.length:=by omega
   have z2:(0:Int)<=j:=by omega
   obtain ⟨m,hm⟩:∃m,c[j]?=some m:=⟨_,Pi hlt⟩;obtain ⟨b,o,rfl,hbl,ao2,cap2,⟨v0,v1,v2,v3,v4,v5,v6,v7⟩,hv⟩:=OJ HQ.out HJ.out.bel hm;have ht:=Ja hm;have hll:(pl (c.take j)).length<=1000000000:=by have:=Oy c j;omega
   have HLL:=ai hll;have HTk:Hid (∀V,Ra 22 #[cL m.k m.d (.slice ao2 m.c.length cap2)] V fun r w'=>r=.returned (.bool (m.k == 0))/\Rc V w'):=fun V=>eO m.k m.d ao2 m.c.length cap2 V
   have HKf:Hid (∀V,Ra 52 #[.agg #[.int .u8 m.d.k,.string m.d.t,.int .i64 m.d.a,.int .i64 m.d.l,.int .i64 m.d.c,.int .i64 m.d.f]] V fun r w'=>r=.returned (.int .u8 (qj m.d))/\Rc V w'):=fun V=>jV m.d V
   obtain ⟨W4,eW4⟩:∃W4,wr.alloc (aY m.k m.d (.slice ao2 m.c.length cap2))=W4:=⟨_,rfl⟩;have H4:Hid (Rc wr W4/\W4.heap[wr.heap.size]?=some (aY m.k m.d (.slice ao2 m.c.length cap2))):=by rw [<-eW4];exact ⟨aE _ _,aq _ _⟩
   have HV:=ai hv;have hcmB:=JI m;have hisN:vD m=(m.k == 0 && cm m.d):=rfl;clear hv hm hll hnl
   go_upto_region 5 with fail
   try rw [eW4]
   clear eW4 v0 v1 v2 v3 v4 v5 v6 v7;obtain ⟨⟨i0,i1,i2,i3,i4,i5,i6,i7⟩,il⟩:=aB H4.out.2
   go_cut [20] from 12 to 19 (fun t wx=>t=.bool (!vD m)/\Hid (Below wr.heap.size wr wx/\wx.heap[wr.heap.size]?=some (aY m.k m.d (.slice ao2 m.c.length cap2))))
   case first=>
    cases hk0:(m.k == 0) with
    |false=>
     rw [hk0] at HTk;rw [hk0] at hisN;have HN:Hid (vD m=false):=by unfold Hid;rw [hisN];rfl
     clear hisN hk0
     go_wp2_with (go_at_call 22;refine (HTk.out _).mono ?_;rintro r w5 ⟨rfl,hb5⟩;have H5:Hid (Rc wr w5/\w5.heap[wr.heap.size]?=some (aY m.k m.d (.slice ao2 m.c.length cap2))):=⟨H4.out.1.trans (hb5.mono H4.out.1.size),ag H4.out.2 hb5⟩;clear hb5)
     go_meet
     exact ⟨by rw [HN.out];rfl,H5⟩
    |true=>
     rw [hk0] at HTk;rw [hk0] at hisN;have HN:Hid ((qj m.d != 4)=!vD m):=by unfold Hid;rw [hisN,hcmB];rfl
     clear hisN hk0 hcmB
     go_wp2_with (first|(go_at_call 22;refine (HTk.out _).mono ?_;rintro r w5 ⟨rfl,hb5⟩;have H5:Hid (Rc wr w5/\w5.heap[wr.heap.size]?=some (aY m.k m.d (.slice ao2 m.c.length cap2))):=⟨H4.out.1.trans (hb5.mono H4.out.1.size),ag H4.out.2 hb5⟩;clear hb5;obtain ⟨⟨j0,j1,j2,j3,j4,j5,j6,j7⟩,jl⟩:=aB H5.out.2)|(go_at_call 52;refine (HKf.out _).mono ?_;rintro r w6 ⟨rfl,hb6⟩;have H6:Hid (Rc wr w6/\w6.heap[wr.heap.size]?=some (aY m.k m.d (.slice ao2 m.c.length cap2))):=⟨H5.out.1.trans (hb6.mono H5.out.1.size),ag H5.out.2 hb6⟩;clear hb6))
     go_meet
     exact ⟨by rw [<-HN.out],H6⟩
   case rest=>
    obtain ⟨rfl,H5⟩:=hcut;obtain ⟨⟨j0,j1,j2,j3,j4,j5,j6,j7⟩,jl⟩:=aB H5.out.2;have H7:Hid (NR W (.slice pv nl cv) (pl (c.take j)) vs wc):=HJ.out.below H5.out.1;cases hn:vD m with
    |true=>
     rw [hn] at ht;simp only [SY] at ht;have HT:Hid (pl (c.take (j+1))=pl (c.take j)):=ht;clear ht hn hisN
     go_wp2_with fail
     exact ⟨⟨j+1,vs,hlt,by go_num,by rw [HT.out];exact H7⟩,by simp [intOf];omega⟩
    |false=>
     rw [hn] at ht;simp only [Rp,R7] at ht;have HT:Hid (pl (c.take (j+1))=pl (c.take j)++[m]):=ht;clear ht hn hisN
     go_wp2_with (at_builtin;refine GK (by rfl) _ _ (by rfl) (.slice pv nl cv) (pl (c.take j)) vs m ao2 m.c.length cap2 (by rfl) (H7.out.below (aE _ _)).rn wc.heap.size 1 (by rfl) (aq _ _) HLL.out ?_;intro v8 w8 h1 h2 h3;obtain ⟨p8,c8,hv8,_⟩:=h1.shape;obtain ⟨l8,hl8⟩:∃l8,(pl (c.take j)++[m]).length=l8:=⟨_,rfl⟩;rw [hl8] at hv8;subst hv8;have H8:Hid (NR W (.slice p8 l8 c8) (pl (c.take j)++[m]) (vs++[.slice ao2 m.c.length cap2]) w8):=H7.out.push (aE _ _) h1 h2 h3 HV.out;clear h1 h2 h3 hl8)
     exact ⟨⟨j+1,_,hlt,by go_num,by rw [HT.out];exact H8⟩,by simp [intOf];omega⟩
  ·obtain rfl:j=c.length:=by omega
   have z1:¬((c.length:Int)<c.length):=by omega
   rw [R3] at HJ;clear hnl
   go_wp2_with fail
   go_ret
   exact ⟨_,rfl,HJ.out.sn,HJ.out.bel⟩
def yc:List aQ->List aQ->Bool
 |[],[]=>true
 |x :: r,y :: m=>same x y && yc r m
 |_,_=>false
theorem lA:∀(c m:List aQ),mq c m=yc (pl c) m
 |[],m=>by cases m <;> simp [mq,pl,yc]
 |x :: r,m=>by
  simp only [mq];cases hx:vD x with
  |true=>
   simp only [SY];rw [lA r m];have:pl (x :: r)=pl r:=by unfold pl;rw [List.filter_cons_of_neg (by simp [hx])]
   rw [this]
  |false=>
   simp only [Rp,R7];have:pl (x :: r)=x :: pl r:=by unfold pl;rw [List.filter_cons_of_pos (by simp [hx])]
   rw [this];cases m with
   |nil=>simp [yc]
   |cons y m'=>simp only [yc];rw [lA r m']
theorem Iv (k:Int) (d:Tv) (c:List aQ) (n:aQ):same (.mk k d c) n=if k=n.k then (if k=0 then (d.k == n.d.k && decide (d.t=n.d.t)) else yc (pl c) (pl n.c)) else false:=by
 rw [same];rw [lA];rfl
theorem Ad:∀{a b:List aQ},a.length≠b.length->yc a b=false
 |[],[],h=>absurd rfl h
 |[],y :: m,_=>rfl
 |x :: r,[],_=>rfl
 |x :: r,y :: m,h=>by
  simp only [yc];rw [Ad (a:=r) (b:=m) (by simpa using h),S4]
theorem FC {a b:List aQ}{x y:aQ}(hx:a[j]?=some x) (hy:b[j]?=some y):yc (a.drop j) (b.drop j)=(same x y && yc (a.drop (j+1)) (b.drop (j+1))):=by
 obtain ⟨a1,a2⟩:=Q7.1 hx;obtain ⟨b1,b2⟩:=Q7.1 hy;rw [RK a1,RK b1,a2,b2];rfl
abbrev ix (p:Nat):Value:=.func (.func 21) #[] #[.pointer (some ⟨p,0,none⟩)]
def PF (a b:aQ):Prop:=∀va vb W p,Nv W va a->Nv W vb b->W.heap[p]?=some (.cells #[ix p] 43 (0,0))->Ra 21 #[va,vb,.pointer (some ⟨p,0,none⟩)] W fun r w'=>r=.returned (.bool (same a b))/\Below W.heap.size W w'
theorem Cf (a b:List aQ) (ao bo:Option Addr) (ca cb p:Nat) (W:World) (ha:Sn W ao a) (hb:Sn W bo b) (h1:a.length<=ca) (h2:ca<=maxLen) (h3:b.length<=cb) (h4:cb<=maxLen) (hp:W.heap[p]?=some (.cells #[ix p] 43 (0,0))) (IH:∀x y,x∈a->y∈b->PF x y) :
  Ra 23 #[.slice ao a.length ca,.slice bo b.length cb,ix p] W fun r w'=>r=.returned (.bool (yc a b))/\Below W.heap.size W w':=by
 have HA:Hid (Sn W ao a):=ha;have HB:Hid (Sn W bo b):=hb;have HP:=ai hp;have HIH:=ai IH;have hal:(a.length:Int)<=9223372036854775807:=by have:maxLen=9223372036854775807:=rfl;omega
 clear ha hb hp IH
 by_cases hl:a.length=b.length
 ·have hl1:((a.length:Int) == (b.length:Int))=true:=by simp [hl]
  have hl2:((a.length:Int) != (b.length:Int))=false:=by simp [hl]
  obtain ⟨R,hR⟩:∃R,yc a b=R:=⟨_,rfl⟩;rw [hR];have HR:Hid (yc (a.drop 0) (b.drop 0)=R):=by unfold Hid;simpa using hR
  have HL:Hid (a.length=b.length):=hl;have hlI:(a.length:Int)=(b.length:Int):=by omega
  clear hR hl
  go_enter Tryz.func23,Tryz.ntmps23
  go_wp2_with fail
  go_loopw [17] (fun iv wr=>∃j:Nat,j<=a.length/\iv=.int .i64 j/\Hid (yc (a.drop j) (b.drop j)=R/\Below W.heap.size W wr)) (fun iv _=>a.length-(intOf iv).toNat)
  case atStart=>exact ⟨0,QU _,rfl,HR.out,hH _ _⟩
  case round=>
   obtain ⟨j,hj,rfl,HJ⟩:=hrel
   by_cases hlt:j<a.length
   ·have z1:(j:Int)<a.length:=by omega
    have z1b:(j:Int)<b.length:=by omega
    have z2:(0:Int)<=j:=by omega
    obtain ⟨x,hx⟩:∃x,a[j]?=some x:=⟨_,Pi hlt⟩;obtain ⟨y,hy⟩:∃y,b[j]?=some y:=⟨_,Pi (by have:=HL.out;omega)⟩;obtain ⟨b1,o1,rfl,hbl,ao2,cap2,⟨v0,v1,v2,v3,v4,v5,v6,v7⟩,hv⟩:=Nv.kid HA.out HJ.out.2 hx;obtain ⟨b2,o2,rfl,hbl2,ao3,cap3,⟨u0,u1,u2,u3,u4,u5,u6,u7⟩,hu⟩:=Nv.kid HB.out HJ.out.2 hy;have hst:=FC hx hy;rw [HJ.out.1] at hst;have HST:=ai hst;have HC:Hid (∀V,Rc wr V->Ra 21 #[cL x.k x.d (.slice ao2 x.c.length cap2),cL y.k y.d (.slice ao3 y.c.length cap3),.pointer (some ⟨p,0,none⟩)] V fun r w'=>r=.returned (.bool (same x y))/\Rc V w'):=fun V hb=>HIH.out x y (RV hx) (RV hy) _ _ V p (hv.below hb) (hu.below hb) (ag (ag HP.out HJ.out.2) hb)
    have b4:=aE wr (aY x.k x.d (.slice ao2 x.c.length cap2));have b5:=aE (wr.alloc (aY x.k x.d (.slice ao2 x.c.length cap2))) (aY y.k y.d (.slice ao3 y.c.length cap3));have H5:Hid (Rc wr ((wr.alloc (aY x.k x.d (.slice ao2 x.c.length cap2))).alloc (aY y.k y.d (.slice ao3 y.c.length cap3)))):=b4.trans (b5.mono b4.size);clear hv hu hst hx hy b4 b5
    go_wp2_with fail
    refine (HC.out _ H5.out).mono ?_;rintro r w6 ⟨rfl,hb6⟩;have H6:Hid (Rc W w6):=HJ.out.2.trans ((H5.out.trans (hb6.mono H5.out.size)).mono HJ.out.2.size);clear hb6;cases hs:same x y with
    |true=>
     rw [hs] at HST
     go_wp2_with fail
     exact ⟨⟨j+1,hlt,by go_num,by have:=HST.out;simpa using this.symm,H6.out⟩,by simp [intOf];omega⟩
    |false=>
     rw [hs] at HST
     go_wp2_with fail
     go_ret
     exact ⟨by rw [HST.out];rfl,H6.out⟩
   ·obtain rfl:j=a.length:=by omega
    have z1:¬((a.length:Int)<a.length):=by omega
    have HE:Hid (R=true/\Rc W wr):=⟨by rw [<-HJ.out.1];rw [Th,HL.out,Th];rfl,HJ.out.2⟩
    go_wp2_with fail
    go_ret
    exact ⟨by rw [HE.out.1];rfl,HE.out.2⟩
 ·have hlI:¬(a.length:Int)=(b.length:Int):=by omega
  have hl1:((a.length:Int) == (b.length:Int))=false:=by simpa using hlI
  have hl2:((a.length:Int) != (b.length:Int))=true:=by simpa using hlI
  rw [Ad hl]
  go_enter Tryz.func23,Tryz.ntmps23
  go_wp2_with fail
  go_ret
  exact ⟨rfl,hH _ _⟩
end Go.Proofs.YtnljjdhodelhdaaGreatDoor
