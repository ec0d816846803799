import Derived.Test.YtjiepkenkcgkhaaGreatDoorM15
import Derived.Test.YtjiepkenkcgkhaaGreatDoorM40
set_option linter.unusedVariables false
set_option linter.unusedSimpArgs false
set_option maxHeartbeats 4000000
set_option maxRecDepth 100000
namespace Go.Proofs.YtjiepkenkcgkhaaGreatDoor
open Go.RowKit
open Lw (Dc bE rt cy dh eZ ij bU aW cg)
variable {w W:World}{ao:Option Addr}{l:List Ev}{v:Value}
def GO (w:World) (ao:Option Addr) (l:List Ev):Prop:=∀j e,l[j]?=some e->∃b off,ao=some ⟨b,off,none⟩ /\
 w.cell? ⟨b,off+j*8,none⟩=some (.int .u8 e.k)/\w.cell? ⟨b,off+j*8+1,none⟩=some (.int .u8 e.n)/\w.cell? ⟨b,off+j*8+2,none⟩=some (.int .u8 e.d.k)/\w.cell? ⟨b,off+j*8+3,none⟩=some (.string e.d.t)/\w.cell? ⟨b,off+j*8+4,none⟩=some (.int .i64 e.d.a)/\w.cell? ⟨b,off+j*8+5,none⟩=some (.int .i64 e.d.l)/\w.cell? ⟨b,off+j*8+6,none⟩=some (.int .i64 e.d.c)/\w.cell? ⟨b,off+j*8+7,none⟩=some (.int .i64 e.d.f)
theorem GO.below {w':World}(h:GO w ao l) (hb:Below w.heap.size w w'):GO w' ao l:=by
 intro j a ha;obtain ⟨b,off,h1,c0,c1,c2,c3,c4,c5,c6,c7⟩:=h j a ha;have hlt:=QP _ _ c0;have e:w'.heap[b]?=w.heap[b]?:=(Kp.of_below (S:=fun _=>False) hb).block b hlt (fun h=>h);exact ⟨b,off,h1,(QS (a:=⟨b,_,none⟩) e).trans c0,(QS (a:=⟨b,_,none⟩) e).trans c1,(QS (a:=⟨b,_,none⟩) e).trans c2,(QS (a:=⟨b,_,none⟩) e).trans c3,(QS (a:=⟨b,_,none⟩) e).trans c4,(QS (a:=⟨b,_,none⟩) e).trans c5,(QS (a:=⟨b,_,none⟩) e).trans c6,(QS (a:=⟨b,_,none⟩) e).trans c7⟩
theorem L7 {p:Option Addr}{n cap:Nat}(h:Re w (.slice p n cap) l):GO w p l:=by
 intro j d hj
 rcases h.2 with ⟨h1,h0⟩|⟨g,cap',cur,h1,_⟩
 ·have:l=[]:=QZ h0;subst this;simp at hj
 ·cases h1
  have hc:∀(k:Nat) (u:Value),(wM l)[k]?=some u->w.cell? ⟨g,k,none⟩=some u:=fun k u hu=>by
   have:=Tf h (g:=g) rfl k u hu;rw [SE,QU] at this;exact this
  refine ⟨g,0,rfl,?_,?_,?_,?_,?_,?_,?_,?_⟩
  ·rw [QU];exact hc _ _ (aU Ev.cs 8 Ev.cs_len l j 0 d _ hj rfl)
  ·rw [QU];exact hc _ _ (aU Ev.cs 8 Ev.cs_len l j 1 d _ hj rfl)
  ·rw [QU];exact hc _ _ (aU Ev.cs 8 Ev.cs_len l j 2 d _ hj rfl)
  ·rw [QU];exact hc _ _ (aU Ev.cs 8 Ev.cs_len l j 3 d _ hj rfl)
  ·rw [QU];exact hc _ _ (aU Ev.cs 8 Ev.cs_len l j 4 d _ hj rfl)
  ·rw [QU];exact hc _ _ (aU Ev.cs 8 Ev.cs_len l j 5 d _ hj rfl)
  ·rw [QU];exact hc _ _ (aU Ev.cs 8 Ev.cs_len l j 6 d _ hj rfl)
  ·rw [QU];exact hc _ _ (aU Ev.cs 8 Ev.cs_len l j 7 d _ hj rfl)
theorem GO.kp {S:Nat->Prop}{w w':World}{ao:Option Addr}{l:List Ev}(h:GO w ao l) (hk:Kp S w w') (hS:∀b off,ao=some ⟨b,off,none⟩->¬S b):GO w' ao l:=by
 intro j a ha;obtain ⟨b,off,h1,c0,c1,c2,c3,c4,c5,c6,c7⟩:=h j a ha;have hlt:=QP _ _ c0;have e:w'.heap[b]?=w.heap[b]?:=hk.block b hlt (hS b off h1);exact ⟨b,off,h1,(QS (a:=⟨b,_,none⟩) e).trans c0,(QS (a:=⟨b,_,none⟩) e).trans c1,(QS (a:=⟨b,_,none⟩) e).trans c2,(QS (a:=⟨b,_,none⟩) e).trans c3,(QS (a:=⟨b,_,none⟩) e).trans c4,(QS (a:=⟨b,_,none⟩) e).trans c5,(QS (a:=⟨b,_,none⟩) e).trans c6,(QS (a:=⟨b,_,none⟩) e).trans c7⟩
structure YI (w:World) (ao:Option Addr) (E:List Ev) (g:Nat) (v:Value) (D:List Dc) (st:wD) (S:Nat->Prop) (W:World):Prop where
 bel:Below w.heap.size w W
 sq:Sq S W g st
 sB:∀k,S k->w.heap.size<=k
 rd:Rd W v D
 vB:∀k,v.ownBlock=some k->w.heap.size<=k/\¬S k
 lev:GO W ao E
 eb:∀b off,ao=some ⟨b,off,none⟩->b<W.heap.size/\¬S b/\v.ownBlock≠some b
structure YJ (w:World) (ao:Option Addr) (E:List Ev) (g:Nat) (v x:Value) (D ds:List Dc) (st:wD) (W:World):Prop where
 rv:Rd W v D
 rx:Rd W x ds
 fin:∀v' w',Rd w' v' (D++ds)->Kp (fun k=>v.ownBlock=some k) W w'->Nb W v v'->∃S,YI w ao E g v' (D++ds) st S w'
theorem Oc {l:List Dc}(h:Rd W v l):∀k,v.ownBlock=some k->k<W.heap.size:=by
 intro k hk
 rcases h.2 with ⟨rfl,_⟩|⟨b,cap,cur,rfl,_,h3,_⟩
 ·cases hk
 ·simp only [Value.ownBlock,Rp] at hk;subst hk;exact aq h3
theorem YI.call {E:List Ev}{g:Nat}{D:List Dc}{st:wD}{S:Nat->Prop}{W':World}(h:YI w ao E g v D st S W) {x:Value}{ds:List Dc}{st':wD}(hp:Aq S g W W' x ds st'):YJ w ao E g v x D ds st' W':=by
 obtain ⟨⟨S',p1,p3,p4⟩,hre,hkp⟩:=hp;have hb:Below w.heap.size w W':=ny h.bel hkp (fun k hk=>h.sB k hk) h.bel.size
 have hs':∀k,S' k->w.heap.size<=k:=by
  intro k hk
  rcases p3 k hk with a|a
  ·exact h.sB k a
  ·exact QQ h.bel.size a
 have hv:Rd W' v D:=hkp.row h.rd (fun k e=>(h.vB k e).2)
 have hvS:∀k,v.ownBlock=some k->w.heap.size<=k/\¬S' k:=by
  intro k e;refine ⟨(h.vB k e).1,fun hs=>?_⟩
  rcases p3 k hs with a|a
  ·exact (h.vB k e).2 a
  ·have:=Oc h.rd k e;omega
 have hlv:GO W' ao E:=h.lev.kp hkp (fun b off e=>(h.eb b off e).2.1)
 have heb:∀b off,ao=some ⟨b,off,none⟩->b<W'.heap.size/\¬S' b:=by
  intro b off e;obtain ⟨e1,e2,e3⟩:=h.eb b off e;refine ⟨Q1 e1 hkp.size,fun hs=>?_⟩
  rcases p3 b hs with a|a
  ·exact e2 a
  ·omega
 refine ⟨hv,hre,fun v' w' hr hk hn=>⟨S',?_⟩⟩;refine ⟨ny hb hk (fun k e=>(h.vB k e).1) hb.size,p1.kp hk (fun k hs e=>(hvS k e).2 hs),hs',hr,?_,hlv.kp hk (fun b off e=>(h.eb b off e).2.2),?_⟩
 ·intro k e
  rcases hn with e1|⟨q,e1,hq⟩
  ·exact hvS k (by rw [<-e1];exact e)
  ·rw [e1] at e;simp at e;subst e;exact ⟨QQ hb.size hq,fun hs=>by have:=p1.lt _ hs;omega⟩
 ·intro b off e;obtain ⟨e1,e2⟩:=heb b off e;refine ⟨Q1 e1 hk.size,e2,?_⟩
  rcases hn with e3|⟨q,e3,hq⟩
  ·rw [e3];exact (h.eb b off e).2.2
  ·rw [e3];intro e4;simp at e4;omega
theorem Dm {s:Sy}{e:Ev}{r:List Ev}:cK s (e :: r)=match dy s e with|none=>none|some (s',l)=>(cK s' r).map (l++·):=rfl
theorem Jj {O:Nat->Prop}(n:bO) (pn:Option Addr) (cn:Nat) (W:World) (ht:TN O W n (.slice pn n.c.length cn)) {E:List Ev}(hev:nN n=E) (hl:E.length<=30000000) (htx:∀e∈E,e.d.t.size<=9223372036854775807) {L:List Dc}(hL:cK qd E=some L) :
  Ra 14 #[dY n.k n.d (.slice pn n.c.length cn)] W fun r w'=>∃p c,r=.returned (.tuple #[.slice p L.length c,.int .i64 0])/\Rd w' (.slice p L.length c) L/\Below W.heap.size W w'/\L.length<=12*E.length+12:=by
 obtain ⟨W0,e0⟩:∃W0,W.alloc (bv n.k n.d (.slice pn n.c.length cn))=W0:=⟨_,rfl⟩;obtain ⟨g0,hg0⟩:∃g0,W.heap.size=g0:=⟨_,rfl⟩;have hb0:Below W.heap.size W W0:=by rw [<-e0];exact (hH _ _).alloc (gt _) _
 have H0:Hid (Below W.heap.size W W0/\W0.heap[g0]?=some (bv n.k n.d (.slice pn n.c.length cn))):=⟨hb0,by rw [<-e0,<-hg0];exact au _ _⟩;have HM:Hid (E.length<=30000000/\∀e∈E,e.d.t.size<=9223372036854775807):=⟨hl,htx⟩
 have HEv:Hid (∀V,Below W0.heap.size W0 V->Ra 30 #[dY n.k n.d (.slice pn n.c.length cn)] V fun r w'=>∃p c,r=.returned (.slice p E.length c)/\GO w' p E/\Below V.heap.size V w'/\(∀b off,p=some ⟨b,off,none⟩->V.heap.size<=b/\b<w'.heap.size)):=fun V hb=>by
  have hx:Below W.heap.size W V:=hb0.trans (hb.mono hb0.size);refine (xO n _ V (TN.see n _ (TN.kp (Kp.of_below (S:=fun _=>False) hx) (fun _ _ h=>h) n _ ht)) (by rw [hev];omega)).mono ?_;rintro r w' ⟨v',rfl,h1,h2,h3⟩;rw [hev] at h2;obtain ⟨p',c',e,_⟩:=h2.shape;subst e;refine ⟨p',c',rfl,L7 h2,h1,fun b off e=>?_⟩;subst e
  have hlt:b<w'.heap.size:=by
   rcases h2.2 with ⟨h9,_⟩|⟨b9,cap9,cur9,h9,_,h10,_⟩
   ·cases h9
   ·cases h9;exact aq h10
  exact ⟨h3 b rfl,hlt⟩
 have HNew:Hid (∀V,Ra 29 #[] V fun r w'=>r=.returned (bV V.heap.size)/\Sq (fun k=>k=V.heap.size) w' V.heap.size (.live qd)/\Below V.heap.size V w'):=xz;have HL:Hid (cK qd E=some L):=hL
 dsimp only [bv] at e0
 clear hl htx hb0 ht hev hL
 go_enter Tryz.func14,Tryz.ntmps14
 go_wp2_with fail
 try rw [e0]
 try rw [hg0]
 clear e0;refine (HNew.out _).mono ?_;rintro r w5 ⟨rfl,hq,hb⟩;obtain ⟨g,hg⟩:∃g,W0.heap.size=g:=⟨_,rfl⟩;have HQ:Hid (Sq (fun k=>k=g) w5 g (.live qd)/\Below W0.heap.size W0 w5):=by rw [<-hg];exact ⟨hq,hb⟩
 obtain ⟨⟨c0,c1,c2,c3,c4,c5,c6,c7⟩,cl⟩:=aD (ag H0.out.2 hb);have hgw:g<w5.heap.size:=HQ.out.1.lt g rfl;clear hq hb HNew
 go_wp2_with fail
 refine (HEv.out _ HQ.out.2).mono ?_;rintro r w6 ⟨ao,ca,rfl,hLv,hb6,hao⟩
 try rw [hg]
 have HI:Hid (∃S,YI W0 ao E g (.slice none 0 0) [] (.live qd) S w6):=⟨_,HQ.out.2.trans (hb6.mono HQ.out.2.size),HQ.out.1.below hb6,fun k e=>by rw [e,hg];exact gt _,lA _,(fun k e=>by cases e),hLv,fun b off e=>⟨(hao b off e).2,(fun e'=>by have e2:b=g:=e';have:=(hao b off e).1;omega),(fun e=>by cases e)⟩⟩;clear hLv hb6 hao c0 c1 c2 c3 c4 c5 c6 c7 cl hgw hg
 go_wp2_with fail
 go_loopw [5,7,8,9,16] (fun v _ _ _ i wr=>∃j:Nat,j<=E.length/\i=.int .i64 j/\Hid (∃S s D,YI W0 ao E g v D (.live s) S wr/\cK qd E=(cK s (E.drop j)).map (D++·)/\D.length+fw s<=12*j/\s.ns.length<=j/\Mo s)) (fun _ _ _ _ i _=>E.length-(intOf i).toNat)
 case atStart=>
  obtain ⟨S,hI⟩:=HI.out;exact ⟨0,QK _,rfl,S,_,[],hI,by simp,by decide,by decide,fun m hm=>by cases hm⟩
 case round=>
  obtain ⟨j,hj,rfl,HJ⟩:=hrel;obtain ⟨S,s,D,hI,hR,hz,hn,hm⟩:=HJ.out;obtain ⟨pv,cpv,hv,_⟩:=bB hI.rd;subst hv;obtain ⟨hEl,hEt⟩:=HM.out;have hbd:Ph (.live s):=LO (j:=j) (by omega) hn hm (by omega)
  by_cases hlt:j<E.length
  ·have q1:(j:Int)<E.length:=by omega
   have q0:(0:Int)<=j:=by omega
   obtain ⟨t,hT⟩:∃t,E[j]?=some t:=⟨_,Pi hlt⟩
   have hdr:E.drop j=t :: E.drop (j+1):=by
    obtain ⟨a1,a2⟩:=QT.1 hT;rw [RF a1,a2]
   have htt:=hEt t (RU hT);obtain ⟨b,off,rfl,x0,x1,x2,x3,x4,x5,x6,x7⟩:=hI.lev j t hT;rw [hdr,Dm] at hR;have hbn:Below wr.heap.size wr (wr.alloc (CC t.k t.n t.d)):=(hH _ _).alloc (gt _) _;obtain ⟨V1,eV1⟩:∃V1,wr.alloc (CC t.k t.n t.d)=V1:=⟨_,rfl⟩;rw [eV1] at hbn;have hI1:YI W0 (some ⟨b,off,none⟩) E g (.slice pv D.length cpv) D (.live s) S V1:=⟨hI.bel.trans (hbn.mono hI.bel.size),hI.sq.below hbn,hI.sB,bp hI.rd hbn,hI.vB,hI.lev.below hbn,fun b' off' e=>⟨Q1 (hI.eb b' off' e).1 hbn.size,(hI.eb b' off' e).2⟩⟩;obtain ⟨g7,hg7⟩:∃g7,wr.heap.size=g7:=⟨_,rfl⟩;have hbk:V1.heap[g7]?=some (CC t.k t.n t.d):=by rw [<-eV1,<-hg7];exact au _ _
   obtain ⟨⟨y0,y1,y2,y3,y4,y5,y6,y7⟩,yl⟩:=pN hbk;have hP:=Di hI1.sq hbd t htt;clear HJ HI hdr hT hbd htt hEt hI hbk;cases hs:dy s t with
   |none=>
    rw [hs,HL.out] at hR;cases hR
   |some pr=>
    obtain ⟨s',ds⟩:=pr;rw [hs] at hR;have hpp:Bg t (.live s)=(0,ds,.live s'):=by show (match dy s t with|none=>_|some (s',l)=>_)=_;rw [hs]
    rw [hpp] at hP;have HP:Hid (Ra 31 #[bV g,.agg #[.int .u8 t.k,.int .u8 t.n,.int .u8 t.d.k,.string t.d.t,.int .i64 t.d.a,.int .i64 t.d.l,.int .i64 t.d.c,.int .i64 t.d.f]] V1 fun rr w'=>∃v,rr=.returned (.tuple #[v,.int .i64 0])/\Aq S g V1 w' v ds (.live s')):=hP;have HN:Hid (∀w' x,Aq S g V1 w' x ds (.live s')->YJ W0 (some ⟨b,off,none⟩) E g (.slice pv D.length cpv) x D ds (.live s') w'):=fun w' x hx=>hI1.call hx
    obtain ⟨z1,z2,z3⟩:=IG hs;have hR2:cK qd E=((cK s' (E.drop (j+1))).map (ds++·)).map (D++·):=hR;have HK:Hid (cK qd E=(cK s' (E.drop (j+1))).map ((D++ds)++·)/\(D++ds).length+fw s'<=12*(j+1)/\s'.ns.length<=j+1/\Mo s'/\D.length+ds.length<=1000000000000):=⟨by rw [hR2];generalize cK s' (E.drop (j+1))=o;cases o <;> simp,by rw [Or];omega,by omega,z3 hm,by omega⟩
    dsimp only [CC] at eV1
    clear hI1 hR hR2 hP hpp hs hz hn hm z1 z2 z3 hbn
    go_wp2_with fail
    try rw [eV1]
    try rw [hg7]
    clear eV1 hg7;refine HP.out.mono ?_;rintro r w7 ⟨x,rfl,hx⟩;have H6:Hid (YJ W0 (some ⟨b,off,none⟩) E g (.slice pv D.length cpv) x D ds (.live s') w7):=HN.out _ _ hx;obtain ⟨px,cx,hxs,_⟩:=bB H6.out.rx;subst hxs;clear hx y0 y1 y2 y3 y4 y5 y6 y7 yl
    go_wp2_with (at_builtin;refine Gq (by rfl) _ _ (by rfl) (.slice pv D.length cpv) (.slice px ds.length cx) D ds (by rfl) H6.out.rv (by rfl) H6.out.rx HK.out.2.2.2.2 ?_;intro v3 w8 h3 k3 n3;have H7:Hid (∃S,YI W0 (some ⟨b,off,none⟩) E g v3 (D++ds) (.live s') S w8):=H6.out.fin _ _ h3 k3 n3;clear h3 k3 n3)
    obtain ⟨S3,hI3⟩:=H7.out;exact ⟨⟨j+1,hlt,by go_num,S3,s',D++ds,hI3,HK.out.1,HK.out.2.1,HK.out.2.2.1,HK.out.2.2.2.1⟩,by simp [intOf];omega⟩
  ·obtain rfl:j=E.length:=by omega
   have q1:¬((E.length:Int)<E.length):=by omega
   rw [TF] at hR;have hR':cK qd E=(ic s).map (D++·):=hR;have hP:=xe hI.sq hbd
   obtain ⟨ds,hcl⟩:∃ds,ic s=some ds:=by
    cases hc:ic s with
    |none=>rw [hc,HL.out] at hR';cases hR'
    |some l=>exact ⟨l,rfl⟩
   have hpp:xx (.live s)=(0,ds,.done):=by
    have hx:xx (.live s)=(match ic s with|none=>(130,[],.live s)|some l=>(0,l,.done)):=rfl;rw [hx,hcl]
   have gJ:ds.length<=fw s+1:=by
    have h1:ds=s.endl.ws:=by
     unfold ic at hcl
     split at hcl
     ·exact (Ry hcl).symm
     ·cases hcl
    rw [h1];unfold Sy.endl fw
    split
    ·show (dH :: s.ws).length<=_;simp only [List.length_cons];omega
    ·omega
   rw [hpp] at hP;have HP:Hid (Ra 32 #[bV g] wr fun rr w'=>∃v,rr=.returned (.tuple #[v,.int .i64 0])/\Aq S g wr w' v ds .done):=hP;have HN:Hid (∀w' x,Aq S g wr w' x ds .done->YJ W0 ao E g (.slice pv D.length cpv) x D ds .done w'):=fun w' x hx=>hI.call hx
   have HK:Hid (L=D++ds/\D.length+ds.length<=12*E.length+12/\D.length+ds.length<=1000000000000):=by
    refine ⟨?_,by omega,by omega⟩;rw [hcl,HL.out] at hR';exact Ry hR'
   clear hI hR hR' hP hpp hcl gJ hz hn hm HJ HI hbd hEt
   go_wp2_with fail
   refine HP.out.mono ?_;rintro r w7 ⟨x,rfl,hx⟩;have H6:Hid (YJ W0 ao E g (.slice pv D.length cpv) x D ds .done w7):=HN.out _ _ hx;obtain ⟨px,cx,hxs,_⟩:=bB H6.out.rx;subst hxs;clear hx
   go_wp2_with (at_builtin;refine Gq (by rfl) _ _ (by rfl) (.slice pv D.length cpv) (.slice px ds.length cx) D ds (by rfl) H6.out.rv (by rfl) H6.out.rx HK.out.2.2 ?_;intro v3 w8 h3 k3 n3;have H7:Hid (∃S,YI W0 ao E g v3 (D++ds) .done S w8):=H6.out.fin _ _ h3 k3 n3;obtain ⟨p3,c3,e3,_⟩:=bB h3;rw [Or] at e3;subst e3;clear h3 k3 n3)
   obtain ⟨S7,hI7⟩:=H7.out;obtain ⟨k1,k2,k3⟩:=HK.out;refine QV (v:=.tuple #[.slice p3 (D.length+ds.length) c3,.int .i64 0]) (by simp [results,Tryz.f14,go_sem]) rfl ?_;refine ⟨p3,c3,by rw [k1,Or],by rw [k1,Or];rw [Or] at *;exact hI7.rd,H0.out.1.trans (hI7.bel.mono H0.out.1.size),by rw [k1,Or];exact k2⟩
end Go.Proofs.YtjiepkenkcgkhaaGreatDoor
namespace Go.Proofs.YtjiepkenkcgkhaaGreatDoor
open Go.RowKit
open Lw (Dc bE rt cy dh eZ ij ji ud qc)
variable {s:ByteArray}{W:World}{E:List Ev}{L:List Dc}{n:Int}
def GQ (W:World) (v:Value) (Q:Int->Int->Int->Int->Prop) (r:Ending) (w':World):Prop:=∃g c x y u,Q c x y u/\r=.returned (.tuple #[v,nL g])/\w'.heap[g]?=some (qq c x y u)/\Below W.heap.size W w'
theorem pI (h:Fd s E L):E.length<=8000000/\(∀e∈E,e.d.t.size<=9223372036854775807)/\cy 0 0 L=none/\qc L<=2147483647/\(∀d∈L,rt d=true)/\(eY s).length<=262144:=by
 obtain ⟨a,hA⟩:=h.al;have hls:=mR s;have hsz:=h.sz;have hcn:E.length<=0+23*(eY s).length+1:=Al (eY s) [] 0 E a hA fj;obtain ⟨hU,hr⟩:=CO hA h.ly hsz hls;have hf:cy 0 0 L=none:=by have h:=ki E kh h.ly;rw [Rr] at h;exact h
 refine ⟨by omega,fun e he=>?_,hf,hU,hr,by omega⟩
 rcases Lb (eY s) [] 0 E a hA fj e he with h|h
 ·rw [h];exact QK _
 ·have:=LF s _ h;omega
theorem mq (h:Fd s E L) {W:World}(hT:Lx.nX W) (hE:k9 W) :
  Ra 9 #[.string s] W fun r w'=>∃p c,r=.returned (.tuple #[.slice p L.length c,.nilIface])/\Rd w' (.slice p L.length c) L/\Below W.heap.size W w'/\L.length<=100000000:=by
 obtain ⟨a,hA⟩:=h.al;obtain ⟨f1,f2,f3,f4,f5,f6⟩:=pI h;have hsz:=h.sz;have q1:¬((s.size:Int)>262144):=by omega
 have HR:Hid (Ra 13 #[.string s] W (Qv W E)):=A7 hT hE (by omega) (z:=0) (by rw [h.sc];rfl) (by omega) hA rfl
 have HL:Hid (∀n p cv V,TN (fun j=>W.heap.size<=j) V n (.slice p n.c.length cv)->fZ E []=some n->Ra 14 #[dY n.k n.d (.slice p n.c.length cv)] V fun r w'=>∃p c,r=.returned (.tuple #[.slice p L.length c,.int .i64 0])/\Rd w' (.slice p L.length c) L/\Below V.heap.size V w'/\L.length<=100000000):=fun n p cv V ht hb=>by
  have hev:nN n=E:=by rw [(BV hb).1,(Gt hA).2]
  refine (Jj n p cv V ht hev (by omega) f2 h.ly).mono ?_;rintro r w' ⟨p,c,e1,e2,e3,e4⟩;exact ⟨p,c,e1,e2,e3,by omega⟩
 have HF:Hid (∀V,Ra 8 #[.int .i64 0,.agg #[.int .i64 0,.int .i64 0,.int .i64 0]] V fun r w'=>r=.returned .nilIface/\Below V.heap.size V w'):=fun V=>q8 0 0 0 V
 clear h hT hE hA f1 f2 f3 f4 f5 f6 hsz
 go_enter Tryz.func9,Tryz.ntmps9
 go_wp2_with fail
 refine HR.out.mono ?_;rintro r w1 ⟨n,p,cv,rfl,ht,hbl,hb1⟩;obtain ⟨V1,eV1⟩:∃V1,w1.alloc (bv n.k n.d (.slice p n.c.length cv))=V1:=⟨_,rfl⟩;obtain ⟨g1,hg1⟩:∃g1,w1.heap.size=g1:=⟨_,rfl⟩;have hx:Below w1.heap.size w1 V1:=by rw [<-eV1];exact (hH _ _).alloc (gt _) _
 have H1:Hid (Below W.heap.size W V1/\TN (fun j=>W.heap.size<=j) V1 n (.slice p n.c.length cv)/\fZ E []=some n):=⟨hb1.trans (hx.mono hb1.size),TN.kp (Kp.of_below (S:=fun _=>False) hx) (fun _ _ h=>h) n _ ht,hbl⟩;have hk:V1.heap[g1]?=some (bv n.k n.d (.slice p n.c.length cv)):=by rw [<-eV1,<-hg1];exact au _ _
 obtain ⟨⟨c0,c1,c2,c3,c4,c5,c6,c7⟩,cl⟩:=aD hk
 dsimp only [bv] at eV1
 clear ht hbl hb1 hx hk HR
 go_wp2_with fail
 try rw [eV1]
 try rw [hg1]
 clear eV1 hg1
 go_wp2_with fail
 refine (HL.out n p cv V1 H1.out.2.1 H1.out.2.2).mono ?_;rintro r w2 ⟨p2,c2',rfl,y1,y2,y3⟩;have H2:Hid (Rd w2 (.slice p2 L.length c2') L/\Below W.heap.size W w2/\L.length<=100000000):=⟨y1,H1.out.1.trans (y2.mono H1.out.1.size),y3⟩;clear y1 y2 y3
 go_wp2_with fail
 refine (HF.out _).mono ?_;rintro r w3 ⟨rfl,y4⟩;have H3:Hid (Below w2.heap.size w2 w3):=y4;clear y4
 go_wp2_with fail
 refine QV (v:=.tuple #[.slice p2 L.length c2',.nilIface]) (by simp [results,Tryz.f9,go_sem]) rfl ?_;exact ⟨p2,c2',rfl,bp H2.out.1 H3.out,H2.out.2.1.trans (H3.out.mono H2.out.2.1.size),H2.out.2.2⟩
theorem vb (hs:262144<s.size) (hm:s.size<=maxLen):Ra 9 #[.string s] W (GQ W (.slice none 0 0) (fun _ _ _ _=>True)):=by
 have q1:(s.size:Int)>262144:=by omega
 have HF:Hid (∀V,Ra 8 #[.int .i64 2,.agg #[.int .i64 0,.int .i64 0,.int .i64 0]] V fun r w'=>∃g,r=.returned (nL g)/\w'.heap[g]?=some (qq 2 0 0 0)/\V.heap.size<=g/\Rc V w'):=fun V=>jt 2 0 0 0 (by decide) V
 clear hs
 go_enter Tryz.func9,Tryz.ntmps9
 go_wp2_with fail
 refine (HF.out _).mono ?_;rintro r w1 ⟨g,rfl,y1,y2,y3⟩;have H1:Hid (w1.heap[g]?=some (qq 2 0 0 0)/\Rc W w1):=⟨y1,y3⟩;clear y1 y2 y3
 go_wp2_with fail
 refine QV (v:=.tuple #[.slice none 0 0,nL g]) (by simp [results,Tryz.f9,go_sem]) rfl ?_;exact ⟨g,2,0,0,0,trivial,rfl,H1.out.1,H1.out.2⟩
theorem pe {Q:Int->Int->Int->Int->Prop}(hs:s.size<=262144) (hR:Ra 13 #[.string s] W (GQ W (dY 0 aB (.slice none 0 0)) Q)) :
  Ra 9 #[.string s] W (GQ W (.slice none 0 0) Q):=by
 have q1:¬((s.size:Int)>262144):=by omega
 have HR:Hid (Ra 13 #[.string s] W (GQ W (dY 0 aB (.slice none 0 0)) Q)):=hR;clear hs hR
 go_enter Tryz.func9,Tryz.ntmps9
 go_wp2_with fail
 refine HR.out.mono ?_;rintro r w1 ⟨g,c,x,y,u,hq,rfl,h1,h2⟩;have H1:Hid (Q c x y u/\w1.heap[g]?=some (qq c x y u)/\Rc W w1):=⟨hq,h1,h2⟩;clear hq h1 h2
 go_wp2_with fail
 refine QV (v:=.tuple #[.slice none 0 0,nL g]) (by simp [results,Tryz.f9,go_sem]) rfl ?_;exact ⟨g,c,x,y,u,H1.out.1,rfl,ag H1.out.2.1 ((hH _ _).alloc (gt _) _),H1.out.2.2.alloc H1.out.2.2.size _⟩
theorem vG (h:Fd s E L) {n:Int}(h1:1<=n) (h2:n<=4096) {W:World}(hT:Lx.nX W) (hW:Lw.jF W) (hE:k9 W) :
  Ra 5 #[.int .i64 n,.string s] W fun r w'=>r=.returned (.tuple #[.string (wo n L),.nilIface])/\Below W.heap.size W w':=by
 obtain ⟨f1,f2,f3,f4,f5,f6⟩:=pI h;have q1:¬(n<1):=by omega
 have q2:¬(n>4096):=by omega
 have hd:∀d∈L,d.t.size<=9223372036854775807:=fun d hd=>N9 (f5 d hd)
 have hw:Lw.rD n L=(wo n L,0):=by
  unfold Lw.rD;rw [Eq (by omega),Eq (by rw [f3];simp)]
 have HL:Hid (Ra 9 #[.string s] W fun r w'=>∃p c,r=.returned (.tuple #[.slice p L.length c,.nilIface])/\Lw.Lay w' p L/\Rc W w'/\L.length<=100000000):=by
  refine (mq h hT hE).mono ?_;rintro r w' ⟨p,c,rfl,y1,y2,y3⟩;obtain ⟨ao,cap,e1,e2,e3,_⟩:=Lw.Lay.row y1 hd;cases e1;exact ⟨p,c,rfl,e3,y2,y3⟩
 obtain ⟨T,hTT⟩:∃T,wo n L=T:=⟨_,rfl⟩;rw [hTT] at hw ⊢
 have HP:Hid (∀V p c,Lw.Lay V p L->L.length<=100000000->Rc W V->Ra 10 #[.int .i64 n,.slice p L.length c] V fun e w'=>e=.returned (.tuple #[.string T,.int .i64 0])/\Rc V w'):=fun V p c h h1 hb=>by
  have:=Lw.Bf n p L c V h (hW.below hb) h1 f4;rw [hw] at this;exact this
 have HF:Hid (∀V,Ra 8 #[.int .i64 0,.agg #[.int .i64 0,.int .i64 0,.int .i64 0]] V fun r w'=>r=.returned .nilIface/\Rc V w'):=fun V=>q8 0 0 0 V
 clear h hT hE hW f1 f2 f3 f4 f5 f6 hd hw hTT
 go_enter Tryz.func5,Tryz.ntmps5
 go_wp2_with fail
 refine HL.out.mono ?_;rintro r w1 ⟨p,c,rfl,y1,y2,y3⟩;have H1:Hid (Lw.Lay w1 p L/\Rc W w1/\L.length<=100000000):=⟨y1,y2,y3⟩;clear y1 y2 y3
 go_wp2_with fail
 refine (HP.out w1 p c H1.out.1 H1.out.2.2 H1.out.2.1).mono ?_;rintro r w2 ⟨rfl,y4⟩;have H2:Hid (Rc W w2):=H1.out.2.1.trans (y4.mono H1.out.2.1.size);clear y4
 go_wp2_with fail
 refine (HF.out _).mono ?_;rintro r w3 ⟨rfl,y5⟩;have H3:Hid (Rc W w3):=H2.out.trans (y5.mono H2.out.size);clear y5
 go_wp2_with fail
 refine QV (v:=.tuple #[.string T,.nilIface]) (by simp [results,Tryz.f5,go_sem]) rfl ?_;exact ⟨rfl,H3.out⟩
theorem jV {Q:Int->Int->Int->Int->Prop}(h1:1<=n) (h2:n<=4096) (hR:Ra 9 #[.string s] W (GQ W (.slice none 0 0) Q)) :
  Ra 5 #[.int .i64 n,.string s] W (GQ W (.string ⟨#[]⟩) Q):=by
 have q1:¬(n<1):=by omega
 have q2:¬(n>4096):=by omega
 have HR:Hid (Ra 9 #[.string s] W (GQ W (.slice none 0 0) Q)):=hR;clear hR
 go_enter Tryz.func5,Tryz.ntmps5
 go_wp2_with fail
 refine HR.out.mono ?_;rintro r w1 ⟨g,c,x,y,u,hq,rfl,y1,y2⟩;have H1:Hid (Q c x y u/\w1.heap[g]?=some (qq c x y u)/\Rc W w1):=⟨hq,y1,y2⟩;clear hq y1 y2
 go_wp2_with fail
 refine QV (v:=.tuple #[.string ⟨#[]⟩,nL g]) (by simp [results,Tryz.f5,go_sem]) rfl ?_;exact ⟨g,c,x,y,u,H1.out.1,rfl,H1.out.2.1,H1.out.2.2⟩
theorem xL (hn:n<1\/4096<n):Ra 5 #[.int .i64 n,.string s] W (GQ W (.string ⟨#[]⟩) (fun _ _ _ _=>True)):=by
 have HF:Hid (∀V,Ra 8 #[.int .i64 1,.agg #[.int .i64 0,.int .i64 0,.int .i64 0]] V fun r w'=>∃g,r=.returned (nL g)/\w'.heap[g]?=some (qq 1 0 0 0)/\V.heap.size<=g/\Rc V w'):=fun V=>jt 1 0 0 0 (by decide) V
 by_cases q1:n<1
 case' pos=>clear hn
 case' neg=>
  have q2:n>4096:=by omega
  clear hn
 all_goals (
  go_enter Tryz.func5,Tryz.ntmps5
  go_wp2_with fail
  refine (HF.out _).mono ?_;rintro r w1 ⟨g,rfl,y1,y2,y3⟩;have H1:Hid (w1.heap[g]?=some (qq 1 0 0 0)/\Rc W w1):=⟨y1,y3⟩;clear y1 y2 y3
  go_wp2_with fail
  refine QV (v:=.tuple #[.string ⟨#[]⟩,nL g]) (by simp [results,Tryz.f5,go_sem]) rfl ?_;exact ⟨g,1,0,0,0,trivial,rfl,H1.out.1,H1.out.2⟩)
theorem BN (s:ByteArray) (hm:s.size<=maxLen) (n:Int):(1<=n/\n<=4096/\∃E L,Fd s E L)\/∀W,Lx.nX W->k9 W->Ra 5 #[.int .i64 n,.string s] W (GQ W (.string ⟨#[]⟩) (fun _ _ _ _=>True)):=by
 by_cases h1:n<1\/4096<n
 ·exact .inr fun W _ _=>xL h1
 ·by_cases h2:262144<s.size
  ·exact .inr fun W _ _=>jV (by omega) (by omega) (vb h2 hm)
  ·obtain ⟨E,code,a,hA⟩:=Gv (eY s) (.live [] 0) fj;have hls:=mR s
   have key:∀{W:World},Lx.nX W->k9 W->(code=0/\((Lx.fu s).2.1:Int)≠0\/code=121/\a=(eY s).length)->Ra 5 #[.int .i64 n,.string s] W (GQ W (.string ⟨#[]⟩) (fun _ _ _ _=>True)):=fun {W} k1 k2 h=>by
    refine jV (by omega) (by omega) (pe (by omega) ((DO k1 k2 (by omega) rfl (by omega) hA h).mono ?_));rintro r w' ⟨g,c,x,y,u,e1,e2,e3,e4⟩;exact ⟨g,c,x,y,u,trivial,e1,e2,e4⟩
   by_cases hc:code=0
   ·subst hc
    by_cases hz:(Lx.fu s).2.1=0
    ·obtain ⟨L,hL,_⟩:=oj s hz hA;exact .inl ⟨by omega,by omega,E,L,by omega,hz,⟨a,hA⟩,hL⟩
    ·exact .inr fun W k1 k2=>key k1 k2 (.inl ⟨rfl,by omega⟩)
   ·obtain ⟨a1,a2⟩:=Gx fj Jn hA hc
    by_cases ha:a=(eY s).length
    ·exact .inr fun W k1 k2=>key k1 k2 (.inr ⟨a1.2 ha,ha⟩)
    ·obtain ⟨t,ht⟩:∃t,(eY s)[a]?=some t:=⟨_,Pi (by omega)⟩;refine .inr fun W k1 k2=>jV (by omega) (by omega) (pe (by omega) ((DN k1 k2 (by omega) rfl (by omega) hA hc ht).mono ?_))
     rintro r w' ⟨g,e1,e2,e3,e4⟩;exact ⟨g,_,_,_,_,trivial,e1,e2,e4⟩
end Go.Proofs.YtjiepkenkcgkhaaGreatDoor
namespace Go.Proofs.YtjiepkenkcgkhaaGreatDoor
open Go.RowKit
variable {W:World}{l:List Tv}{s:ByteArray}
def tC (j:Nat) (t:Tv):Bool:=(t.k == 7 || t.k == 8) && t.f == 0 && decide (0<j)
abbrev NH (j:Nat) (t:Tv):Value:=.agg #[.int .u8 t.k,.string t.t,.bool (tC j t)]
theorem NK {w w':World}{p:Addr}{v:Value}(h:w.cell? p=some v) (hb:Below w.heap.size w w'):w'.cell? p=some v:=(hb.cell (QP w p h)).trans h
theorem uw {j:Nat}{t:Tv}(ht:l[j]?=some t) {W:World}{ao:Option Addr}{c:Nat}(hL:Lt W ao l) (hl:l.length<=1000000000) :
  Ra 24 #[.slice ao l.length c,.int .i64 j] W fun r w'=>r=.returned (NH j t)/\Below W.heap.size W w':=by
 have hlt:=(QT.1 ht).1;have q1:(j:Int)<l.length:=by omega
 have q0:(0:Int)<=j:=by omega
 obtain ⟨b,off,rfl,x0,x1,x2,x3,x4,x5⟩:=hL j t ht;have hb0:Below W.heap.size W (W.alloc (.cells #[.int .u8 0,.string ⟨#[]⟩,.bool false] 80)):=(hH _ _).alloc (gt _) _;have y0:=NK x0 hb0;have y1:=NK x1 hb0;have y2:=NK x2 hb0;have y3:=NK x3 hb0;have y4:=NK x4 hb0;have y5:=NK x5 hb0;clear x0 x1 x2 x3 x4 x5 hb0
 go_enter Tryz.func24,Tryz.ntmps24
 go_wp2_with fail
 all_goals (
  refine QV (v:=NH j t) (by simp [results,Tryz.f24,go_sem,NH,tC, *]) rfl ⟨rfl,?_⟩;exact ((hH _ _).alloc (gt _) _).alloc (by rw [QL];omega) _)
theorem wU {t:ByteArray}(h:s.toList=t.toList):s=t:=by
 rw [Lx.ka,Lx.ka] at h;obtain ⟨⟨a⟩⟩:=s;obtain ⟨⟨b⟩⟩:=t
 simpa using h
def GL (j:Nat) (t t':Tv):Bool:=t.k == t'.k && decide (t.t=t'.t) && tC j t == tC j t'
def GM (l m:List Tv):Prop:=l.length=m.length/\∀(j:Nat) t t',l[j]?=some t->m[j]?=some t'->GL j t t'=true
def CsP (l m:List Tv) (W:World) (r:Ending) (w':World):Prop:=∃v,r=.returned (.bool v)/\(v=true↔GM l m)/\Below W.heap.size W w'
theorem zJ (j:Nat) (t t':Tv):GL j t t'=true↔t.k=t'.k/\t.t=t'.t/\tC j t=tC j t':=by
 simp [GL,and_assoc]
theorem FJ {m:List Tv}{p q:Option Addr}{c d:Nat}(hL:Lt W p l) (hM:Lt W q m) (hl:l.length<=1000000000) (hm:m.length<=1000000000) :
  Ra 12 #[.slice p l.length c,.slice q m.length d] W (CsP l m W):=by
 by_cases hlm:l.length=m.length
 rotate_left
 ·have q1:¬((l.length:Int)=m.length):=by omega
  have q2:((l.length:Int) == m.length)=false:=by simpa using q1
  clear hL hM;have HN:Hid (¬GM l m):=fun h=>hlm h.1
  clear hlm
  go_enter Tryz.func12,Tryz.ntmps12
  go_wp2_with fail
  refine QV (v:=.bool false) (by simp [results,Tryz.f12,go_sem]) rfl ?_;exact ⟨false,rfl,⟨(fun h=>by cases h),fun h=>absurd h HN.out⟩,hH _ _⟩
 have HS:Hid (∀V,Rc W V->∀j t t',l[j]?=some t->m[j]?=some t'->Ra 24 #[.slice p l.length c,.int .i64 (j:Nat)] V (fun r w'=>r=.returned (NH j t)/\Rc V w')/\∀V',Rc V V'->Ra 24 #[.slice q m.length d,.int .i64 (j:Nat)] V' fun r w'=>r=.returned (NH j t')/\Rc W w'):=fun V hb j t t' h1 h2=>⟨uw h1 (hL.below hb) hl,fun V' hb'=>(uw h2 ((hM.below hb).below hb') hm).mono fun r w' h=>⟨h.1,by have h3:=hb.trans (hb'.mono hb.size);exact h3.trans (h.2.mono h3.size)⟩⟩
 obtain ⟨n,hn⟩:∃n,m.length=n:=⟨_,rfl⟩;rw [hn] at hlm;rw [hn,hlm] at HS;rw [hn] at hm;have HN:Hid (l.length=n/\m.length=n):=⟨hlm,hn⟩;rw [hn,hlm];clear hL hM hlm hl hn
 go_enter Tryz.func12,Tryz.ntmps12
 go_wp2_with fail
 go_loopw [5,13] (fun _ i wr=>∃j:Nat,j<=n/\i=.int .i64 j/\Hid (Below W.heap.size W wr/\∀(k:Nat) t t',k<j->l[k]?=some t->m[k]?=some t'->GL k t t'=true)) (fun _ i _=>n-(intOf i).toNat)
 case atStart=>exact ⟨0,QK _,rfl,hH _ _,fun k t t' h=>by omega⟩
 case round=>
  obtain ⟨j,hj,rfl,HJ⟩:=hrel
  by_cases hlt:j<n
  ·have q1:(j:Int)<n:=by omega
   have q0:(0:Int)<=j:=by omega
   obtain ⟨t,ht⟩:∃t,l[j]?=some t:=⟨_,Pi (by rw [HN.out.1];exact hlt)⟩;obtain ⟨t',ht'⟩:∃t',m[j]?=some t':=⟨_,Pi (by rw [HN.out.2];exact hlt)⟩;have HA:=show Hid _ from HS.out wr HJ.out.1 j t t' ht ht'
   obtain ⟨x,hx⟩:∃x,tC j t=x:=⟨_,rfl⟩;obtain ⟨x',hx'⟩:∃x,tC j t'=x:=⟨_,rfl⟩;have hE:=zJ j t t'
   have HK:Hid (GL j t t'=true->∀(k:Nat) t t',k<j+1->l[k]?=some t->m[k]?=some t'->GL k t t'=true):=fun he k u u' hk h1 h2=>by
    by_cases hkj:k=j
    ·subst hkj;cases ht.symm.trans h1;cases ht'.symm.trans h2;exact he
    ·exact HJ.out.2 k u u' (by omega) h1 h2
   have HF:Hid (¬GL j t t'=true->¬GM l m):=fun he h=>he (h.2 j t t' ht ht')
   unfold NH at HA;rw [hx,hx'] at HA hE;obtain ⟨k,hk⟩:∃x,t.k=x:=⟨_,rfl⟩;obtain ⟨k',hk'⟩:∃x,t'.k=x:=⟨_,rfl⟩;obtain ⟨s,hs⟩:∃x,t.t=x:=⟨_,rfl⟩;obtain ⟨s',hs'⟩:∃x,t'.t=x:=⟨_,rfl⟩;rw [hk,hk',hs,hs'] at HA hE;obtain ⟨bb,hbb⟩:∃x,GL j t t'=x:=⟨_,rfl⟩;rw [hbb] at HK HF hE;clear hx hx' hk hk' hs hs' hbb ht ht' HS;cases bb
   case' true=>
    obtain ⟨rfl,rfl,rfl⟩:=hE.1 rfl;clear HF
   case' false=>
    have h9:Hid (¬(k=k'/\s.toList=s'.toList/\x=x')):=fun h=>by cases hE.2 ⟨h.1,wU h.2.1,h.2.2⟩
    clear HK
   all_goals clear hE
   all_goals (
    go_wp2_with fail
    refine HA.out.1.mono ?_;rintro r w1 ⟨rfl,hb1⟩;have H1:=ai hb1;clear hb1
    go_wp2_with fail
    refine (HA.out.2 _ H1.out).mono ?_;rintro r w2 ⟨rfl,hb2⟩;have H2:=ai hb2;clear hb2
    go_wp2_with fail)
   all_goals first
    |exact ⟨⟨j+1,hlt,by go_num,H2.out,HK.out (by simp)⟩,by simp [intOf];omega⟩
    | (exfalso;apply h9.out;refine ⟨?_,?_,?_⟩ <;> assumption)
    | (refine QV (v:=.bool false) (by simp [results,Tryz.f12,go_sem]) rfl ?_;exact ⟨false,rfl,⟨(fun h=>by cases h),fun h=>absurd h (HF.out (by simp))⟩,H2.out⟩)
  ·obtain rfl:j=n:=by omega
   have q1:¬((j:Int)<j):=by omega
   have HZ:Hid (GM l m):=by
    exact ⟨HN.out.1.trans HN.out.2.symm,fun k t t' h1 h2=>HJ.out.2 k t t' (by have:=(QT.1 h1).1;rw [HN.out.1] at this;exact this) h1 h2⟩
   go_wp2_with fail
   refine QV (v:=.bool true) (by simp [results,Tryz.f12,go_sem]) rfl ?_;exact ⟨true,rfl,⟨fun _=>HZ.out,fun _=>rfl⟩,HJ.out.1⟩
abbrev uM (x y z:Int):Obj:=.cells #[.int .i64 x,.int .i64 y,.int .i64 z] 34
abbrev QH (l:List Tv) (V:World) (e:Ending) (w':World):Prop:=∃p c x y u,e=.returned (.tuple #[.slice p l.length c,.int .i64 0,.agg #[.int .i64 x,.int .i64 y,.int .i64 u]])/\Lt w' p l/\Below V.heap.size V w'
theorem xS {a b:ByteArray}{l m:List Tv}{v:Bool}{W:World}
  (HL:Hid (∀x,x=a\/x=b->∀V,Below W.heap.size W V->Ra 9 #[.string x] V fun r w'=>∃u,r=.returned (.tuple #[u,.nilIface])/\Below V.heap.size V w'))
  (H1:Hid (∀V,Below W.heap.size W V->Ra 11 #[.string a] V (QH l V)))
  (H2:Hid (∀V,Below W.heap.size W V->Ra 11 #[.string b] V (QH m V)))
  (hl:l.length<=1000000000) (hm:m.length<=1000000000) (hv:v=true↔GM l m) :
  Ra 6 #[.string a,.string b] W fun r w'=>r=.returned (.tuple #[.bool v,.nilIface])/\Below W.heap.size W w':=by
 have HS:Hid (∀V p q c d,Lt V p l->Lt V q m->Ra 12 #[.slice p l.length c,.slice q m.length d] V fun r w'=>r=.returned (.bool v)/\Rc V w'):=fun V p q c d h1 h2=>by
  refine (FJ h1 h2 hl hm).mono ?_;rintro r w' ⟨v',rfl,h3,h4⟩;have:v'=v:=by rw [Se,h3,hv]
  exact ⟨by rw [this],h4⟩
 have i0:∀w:World,(Instr.index 40 (.agg #[.string a,.string b]) (.int .i64 0)).run Tryz.prog w=.ok (.string a) w:=fun _=>by kernel_rfl
 have i1:∀w:World,(Instr.index 40 (.agg #[.string a,.string b]) (.int .i64 1)).run Tryz.prog w=.ok (.string b) w:=fun _=>by kernel_rfl
 clear hl hm hv
 go_enter Tryz.func6,Tryz.ntmps6
 go_wp2_with fail
 go_loopw [19] (fun i wr=>∃j:Nat,j<=2/\i=.int .i64 j/\Hid (Below W.heap.size W wr)) (fun i _=>2-(intOf i).toNat)
 case atStart=>exact ⟨0,QK _,rfl,hH _ _⟩
 case round=>
  obtain ⟨j,hj,rfl,HJ⟩:=hrel
  by_cases h2:j=2
  ·subst h2
   go_wp2_with fail
   refine (H1.out _ HJ.out).mono ?_;rintro e w3 ⟨p3,c3,x3,y3,u3,rfl,hL3,hb3⟩;obtain ⟨V3,eV3⟩:∃V3,w3.alloc (uM x3 y3 u3)=V3:=⟨_,rfl⟩
   have H3:Hid (Rc W V3/\Lt V3 p3 l):=by
    have hx:Below w3.heap.size w3 V3:=by rw [<-eV3];exact (hH _ _).alloc (gt _) _
    have hy:=HJ.out.trans (hb3.mono HJ.out.size);exact ⟨hy.trans (hx.mono hy.size),hL3.below hx⟩
   clear hL3 hb3 H1
   go_wp2_with fail
   try rw [eV3]
   clear eV3;refine (H2.out _ H3.out.1).mono ?_;rintro e w4 ⟨p4,c4,x4,y4,u4,rfl,hL4,hb4⟩;obtain ⟨V4,eV4⟩:∃V4,w4.alloc (uM x4 y4 u4)=V4:=⟨_,rfl⟩
   have H4:Hid (Rc W V4/\Lt V4 p3 l/\Lt V4 p4 m):=by
    have hx:Below w4.heap.size w4 V4:=by rw [<-eV4];exact (hH _ _).alloc (gt _) _
    have hy:=hb4.trans (hx.mono hb4.size);exact ⟨H3.out.1.trans (hy.mono H3.out.1.size),H3.out.2.below hy,hL4.below hx⟩
   clear hL4 hb4 H3 H2
   go_wp2_with fail
   try rw [eV4]
   clear eV4;refine (HS.out _ _ _ _ _ H4.out.2.1 H4.out.2.2).mono ?_;rintro e w5 ⟨rfl,hb5⟩;have H5:Hid (Rc W w5):=H4.out.1.trans (hb5.mono H4.out.1.size);clear hb5
   go_wp2_with fail
   refine QV (v:=.tuple #[.bool v,.nilIface]) (by simp [results,Tryz.f6,go_sem]) rfl ?_;exact ⟨rfl,H5.out⟩
  have hjj:j=0\/j=1:=by omega
  clear H1 H2 HS h2 hj
  rcases hjj with rfl|rfl
  case' inl=>have HX:=show Hid _ from HL.out a (.inl rfl)
  case' inr=>have HX:=show Hid _ from HL.out b (.inr rfl)
  all_goals (
   clear HL
   go_wp2_with fail
   refine (HX.out _ HJ.out).mono ?_;rintro r w6 ⟨u,rfl,hb6⟩;have H6:Hid (Rc W w6):=HJ.out.trans (hb6.mono HJ.out.size);clear hb6
   go_wp2_with fail
   first
    |exact ⟨⟨1,by decide,rfl,H6.out⟩,by decide⟩
    |exact ⟨⟨2,by decide,rfl,H6.out⟩,by decide⟩)
abbrev wH (W:World) (f:Nat) (args:Array Value) (v:Value):Prop:=∀V,Below W.heap.size W V->Ra f args V fun r w'=>r=.returned v/\Below W.heap.size W w'
theorem nz {n:Int}{T:ByteArray}(H:Hid (wH W 5 #[.int .i64 n,.string s] (.tuple #[.string T,.nilIface]))) {b:Bool}(hb:decide (T=s)=b) :
  wH W 7 #[.int .i64 n,.string s] (.tuple #[.bool b,.nilIface]):=by
 intro V hV;have HV:=ai hV;clear hV
 by_cases hs:T=s
 case' pos=>
  obtain rfl:b=true:=by rw [<-hb];simpa using hs
  subst hs
 case' neg=>
  obtain rfl:b=false:=by rw [<-hb];simpa using hs
  have h8:¬T.toList=s.toList:=fun h=>hs (wU h)
  have h9:(T.toList == s.toList)=false:=by simpa using h8
  clear hs
 all_goals (
  clear hb
  go_enter Tryz.func7,Tryz.ntmps7
  go_wp2_with fail
  refine (H.out _ HV.out).mono ?_;rintro r w1 ⟨rfl,y1⟩;have H1:Hid (Rc W w1):=y1;clear y1
  go_wp2_with fail)
 ·refine QV (v:=.tuple #[.bool false,.nilIface]) (by simp [results,Tryz.f7,go_sem]) rfl ?_;exact ⟨rfl,H1.out⟩
 ·refine QV (v:=.tuple #[.bool true,.nilIface]) (by simp [results,Tryz.f7,go_sem]) rfl ?_;exact ⟨rfl,H1.out⟩
abbrev oB:ByteArray:=⟨#[112,114,111,103,114,97,109,32,112,59,10,98,101,103,105,110,10,32,32,115,107,105,112,10,101,110,100,46,10]⟩
abbrev NZ:ByteArray:=⟨#[112,114,111,103,114,97,109,32,112,59,10,98,101,103,105,110,10,32,32,115,107,105,112,10,101,110,100,46,10,10]⟩
abbrev LJ:ByteArray:=⟨#[112,114,111,103,114,97,109,32,112,59,32,98,101,103,105,110,32,115,107,105,112,32,101,110,100,46]⟩
abbrev LH:ByteArray:=⟨#[112,114,111,103,114,97,109,32,113,59,32,98,101,103,105,110,32,115,107,105,112,32,101,110,100,46]⟩
abbrev Pw:ByteArray:=⟨#[112,114,111,103,114,97,109,32,113,59,10,98,101,103,105,110,10,32,32,115,107,105,112,10,101,110,100,46,10]⟩
theorem ye (H1:Hid (wH W 7 #[.int .i64 72,.string oB] (.tuple #[.bool true,.nilIface])))
  (H2:Hid (wH W 7 #[.int .i64 72,.string NZ] (.tuple #[.bool false,.nilIface])))
  (H3:Hid (wH W 6 #[.string oB,.string LJ] (.tuple #[.bool true,.nilIface])))
  (H4:Hid (wH W 6 #[.string oB,.string LH] (.tuple #[.bool false,.nilIface]))) :
  wH W 4 #[] (.bool true):=by
 intro V hV;have HV:=ai hV;clear hV
 go_enter Tryz.func4,Tryz.ntmps4
 go_wp2_with fail
 refine (H1.out _ HV.out).mono ?_;rintro r w1 ⟨rfl,y1⟩;have K1:Hid (Rc W w1):=y1;clear y1 H1
 go_wp2_with fail
 refine (H2.out _ K1.out).mono ?_;rintro r w2 ⟨rfl,y2⟩;have K2:Hid (Rc W w2):=y2;clear y2 H2
 go_wp2_with fail
 refine (H3.out _ K2.out).mono ?_;rintro r w3 ⟨rfl,y3⟩;have K3:Hid (Rc W w3):=y3;clear y3 H3
 go_wp2_with fail
 refine (H4.out _ K3.out).mono ?_;rintro r w4 ⟨rfl,y4⟩;have K4:Hid (Rc W w4):=y4;clear y4 H4
 go_wp2_with fail
 go_ret
 exact ⟨rfl,K4.out⟩
theorem rp {n:Int}{s T:ByteArray}{W:World}(hs:s.size<=maxLen) (hT:T.size<=2147483647)
  (HA:Hid (wH W 4 #[] (.bool true)))
  (HC:1048576<s.size\/(∀V,Below W.heap.size W V->Ra 5 #[.int .i64 n,.string s] V fun r w'=>∃i x,r=.returned (.tuple #[.string ⟨#[]⟩,.iface i x])/\Below W.heap.size W w')\/(wH W 5 #[.int .i64 n,.string s] (.tuple #[.string T,.nilIface])/\(T.size<=262144->wH W 6 #[.string s,.string s] (.tuple #[.bool true,.nilIface])/\wH W 6 #[.string T,.string s] (.tuple #[.bool true,.nilIface])/\wH W 7 #[.int .i64 n,.string T] (.tuple #[.bool true,.nilIface])/\wH W 7 #[.int .i64 n,.string s] (.tuple #[.bool (decide (T=s)),.nilIface])))) :
  wH W 3 #[.int .i64 n,.string s] (.bool true):=by
 intro V hV;have HV:=ai hV;clear hV
 by_cases hb:1048576<s.size
 ·have q:(s.size:Int)>1048576:=by omega
  clear hb HC
  go_enter Vn,Tryz.ntmps3
  go_wp2_with fail
  refine (HA.out _ HV.out).mono ?_;rintro r w1 ⟨rfl,hb1⟩;have H1:Hid (Rc W w1):=hb1;clear hb1
  go_wp2_with fail
  go_ret
  exact ⟨rfl,H1.out⟩
 have q:¬((s.size:Int)>1048576):=by omega
 rcases HC with h|hX|⟨hF,hR⟩
 ·exact absurd h hb
 ·have HX:=ai hX;clear hX hb
  go_enter Vn,Tryz.ntmps3
  go_wp2_with fail
  refine (HA.out _ HV.out).mono ?_;rintro r w1 ⟨rfl,hb1⟩;have H1:Hid (Rc W w1):=hb1;clear hb1
  go_wp2_with fail
  refine (HX.out _ H1.out).mono ?_;rintro r w2 ⟨i,x,rfl,hb2⟩;have H2:Hid (Rc W w2):=hb2;clear hb2
  go_wp2_with fail
  go_ret
  exact ⟨rfl,H2.out⟩
 have HF:=ai hF;have HR:=ai hR;clear hF hR hb
 go_enter Vn,Tryz.ntmps3
 go_wp2_with fail
 refine (HA.out _ HV.out).mono ?_;rintro r w1 ⟨rfl,hb1⟩;have H1:Hid (Rc W w1):=hb1;clear hb1 HA
 go_wp2_with fail
 refine (HF.out _ H1.out).mono ?_;rintro r w2 ⟨rfl,hb2⟩;have H2:Hid (Rc W w2):=hb2;clear hb2 HF
 by_cases hlong:262144<T.size
 ·have q2:(T.size:Int)>262144:=by omega
  clear hlong HR
  go_wp2_with fail
  go_ret
  exact ⟨rfl,H2.out⟩
 have q2:¬((T.size:Int)>262144):=by omega
 obtain ⟨h3,h4,h5,h6⟩:=HR.out (by omega);have H3:=ai h3;have H4:=ai h4;have H5:=ai h5;have H6:=ai h6;clear h3 h4 h5 h6 HR hlong
 by_cases hsT:T=s
 case' pos=>
  rw [QW hsT] at H6;subst hsT
 case' neg=>
  rw [QX hsT] at H6;have h8:¬s.toList=T.toList:=fun h=>hsT (wU h).symm
  have h9:(s.toList == T.toList)=false:=by simpa using h8
  clear hsT
 all_goals (
  go_wp2_with fail
  refine (H3.out _ H2.out).mono ?_;rintro r w3 ⟨rfl,hb3⟩;have K3:Hid (Rc W w3):=hb3;clear hb3 H3
  go_wp2_with fail
  refine (H4.out _ K3.out).mono ?_;rintro r w4 ⟨rfl,hb4⟩;have K4:Hid (Rc W w4):=hb4;clear hb4 H4
  go_wp2_with fail
  refine (H5.out _ K4.out).mono ?_;rintro r w5 ⟨rfl,hb5⟩;have K5:Hid (Rc W w5):=hb5;clear hb5 H5
  go_wp2_with fail
  refine (H6.out _ K5.out).mono ?_;rintro r w6 ⟨rfl,hb6⟩;have K6:Hid (Rc W w6):=hb6;clear hb6 H6
  go_wp2_with fail
  go_ret
  exact ⟨rfl,K6.out⟩)
end Go.Proofs.YtjiepkenkcgkhaaGreatDoor
namespace Go.Proofs.YtjiepkenkcgkhaaGreatDoor
open Go.RowKit
open Lw (Dc bE rt cy dh eZ ij ji ud qc)
variable {s:ByteArray}{E:List Ev}{L:List Dc}
structure Tld (s:ByteArray) (E:List Ev) (L:List Dc) (T:ByteArray):Prop where
 tw:QG s T
 sc:(Lx.fu T).2.1=0
 ev:∃E',(∃a,gA (.live [] 0) (eY T) E' 0 a)/\cK qd E'=some L/\E'.map er=E.map er
 sz:T.size<=2147483647
theorem LA (h:Fd s E L) (n:Int):Tld s E L (wo n L):=by
 obtain ⟨a,hA⟩:=h.al;obtain ⟨L2,hL2,_,hall⟩:=oj s h.sc hA;obtain rfl:=Ry (hL2.symm.trans h.ly);obtain ⟨c1,⟨E',hA',hL',hE'⟩,hR⟩:=hall n.toNat;obtain ⟨f1,f2,f3,f4,f5,f6⟩:=pI h
 have hz:(wo n L2).size<=qc L2:=by
  have h9:=Lw.rZ (n:=n.toNat) L2 (Lw.eF L2).1 Lw.ql 0 f5 Lw.QE;have h1:=h9.out;show (Lw.ik n.toNat L2).toArray.size<=_;rw [Tw];show (Lw.puts n.toNat L2 (Lw.eF L2).1 Lw.ql).sk.out.length<=_;omega
 refine ⟨⟨LZ hR,fun j t t' x1 x2=>?_⟩,c1,⟨E',⟨a,hA'⟩,hL',hE'⟩,by omega⟩;obtain ⟨a1,a2,a3⟩:=Oa hR x1 x2;exact ⟨a1,a2,fun hj hn=>a3 (.inr hj) hn⟩
def AT (n:Nat) (s o:ByteArray):Bool:=
 decide (s.size<=1000) && decide ((Lx.fu s).2.1=0) && match yf (eY s) (.live [] 0) with
 |some (E,c,_)=>decide (c=0) && match cK qd E with
  |some L=>decide (Lw.ik n L=o.data.toList)
  |none=>false
 |none=>false
theorem mU {n:Nat}{o:ByteArray}(h:AT n s o=true):∃E L,Fd s E L/\wo n L=o:=by
 unfold AT at h;rw [QR,QR] at h;obtain ⟨⟨h1,h2⟩,h4⟩:=h;cases ha:yf (eY s) (.live [] 0) with
 |none=>rw [ha] at h4;cases h4
 |some x=>
  obtain ⟨E,c,k⟩:=x;rw [ha] at h4;simp only at h4;rw [QR] at h4;obtain ⟨h5,h8⟩:=h4;have hc:=Rm h5;subst hc;cases hL:cK qd E with
  |none=>rw [hL] at h8;cases h8
  |some L=>
   rw [hL] at h8;simp only at h8;have hsz:=Rm h1;refine ⟨E,L,⟨by omega,Rm h2,⟨k,Am _ _ _ _ _ ha⟩,hL⟩,?_⟩;have:=Rm h8;obtain ⟨⟨y⟩⟩:=o;show (⟨(Lw.ik n L).toArray⟩:ByteArray)=_;rw [this]
theorem kJ (h:Fd s E L) {n:Int}(h1:1<=n) (h2:n<=4096) {W:World}(hT:Lx.nX W) (hW:Lw.jF W) (hE:k9 W) {T:ByteArray}(hw:wo n L=T):wH W 5 #[.int .i64 n,.string s] (.tuple #[.string T,.nilIface]):=fun V hb=>by
 refine (vG h h1 h2 (hT.below hb) (hW.below hb) (hE.below hb)).mono ?_;rintro r w' ⟨rfl,y⟩;exact ⟨by rw [hw],hb.trans (y.mono hb.size)⟩
theorem jx {a b:ByteArray}{E':List Ev}{L':List Dc}(ha:Fd a E L) (hb:Fd b E' L') {W:World}(hT:Lx.nX W) (hE:k9 W) {v:Bool}(hv:v=true↔GM (eY a) (eY b)):wH W 6 #[.string a,.string b] (.tuple #[.bool v,.nilIface]):=fun V hV=>by
 have e1:=ha.sz;have e2:=hb.sz;have e3:=mR a;have e4:=mR b;refine (xS (a:=a) (b:=b) (v:=v) (W:=V) (fun x hx V' hb'=>?_) (fun V' hb'=>jc ((hT.below hV).below hb') (by omega) rfl (by rw [ha.sc];rfl)) (fun V' hb'=>jc ((hT.below hV).below hb') (by omega) rfl (by rw [hb.sc];rfl)) (by omega) (by omega) hv).mono ?_
 ·have h:∀{x E L},Fd x E L->Ra 9 #[.string x] V' fun r w'=>∃u,r=.returned (.tuple #[u,.nilIface])/\Below V'.heap.size V' w':=fun h=>by
   refine (mq h ((hT.below hV).below hb') ((hE.below hV).below hb')).mono ?_;rintro r w' ⟨p,c,rfl,_,y,_⟩;exact ⟨_,rfl,y⟩
  rcases hx with rfl|rfl
  ·exact h ha
  ·exact h hb
 ·rintro r w' ⟨rfl,y⟩;exact ⟨rfl,hV.trans (y.mono hV.size)⟩
def Pb (l m:List Tv):Bool:=l.length == m.length && (List.range l.length).all fun j=>match l[j]?,m[j]? with
 |some t,some t'=>GL j t t'
 |_,_=>true
theorem yF (l m:List Tv):Pb l m=true↔GM l m:=by
 simp only [Pb,GM,QR,RM,Ti,List.mem_range];refine and_congr_right fun _=>⟨fun h j t t' h1 h2=>?_,fun h j hj=>?_⟩
 ·have:=h j (QT.1 h1).1;rw [h1,h2] at this;exact this
 ·split
  ·rename_i t t' h1 h2
   exact h j t t' h1 h2
  ·rfl
theorem Dl (l:List Tv):GM l l:=⟨rfl,fun j t t' h1 h2=>by cases h1.symm.trans h2;simp [GL]⟩
theorem LK {T:ByteArray}(h:QG s T):GM (eY T) (eY s):=⟨h.len,fun j t' t h1 h2=>by
 obtain ⟨e1,e2,e3⟩:=h.at_ j t t' h2 h1;rw [zJ];refine ⟨e1,e2,?_⟩;unfold tC;rw [e1]
 by_cases hj:0<j
 ·cases hk:(t.k == 7 || t.k == 8) with
  |false=>simp
  |true=>
   have:=e3 hj (by simpa [gE] using hk);have h9:(t'.f == 0)=(t.f == 0):=by rw [Se,RM,RM];exact this.symm
   rw [h9]
 ·simp [hj]⟩
theorem N6:AT 72 oB oB=true:=by kernel_rfl
theorem N5:AT 72 NZ oB=true:=by kernel_rfl
theorem N4:AT 72 LJ oB=true:=by kernel_rfl
theorem N3:AT 72 LH Pw=true:=by kernel_rfl
theorem Pt:Pb (eY oB) (eY LJ)=true:=by kernel_rfl
theorem Ps:Pb (eY oB) (eY LH)=false:=by kernel_rfl
theorem Kh {W:World}(hT:Lx.nX W) (hW:Lw.jF W) (hE:k9 W):wH W 4 #[] (.bool true):=by
 obtain ⟨E1,L1,a1,w1⟩:=mU N6;obtain ⟨E2,L2,a2,w2⟩:=mU N5;obtain ⟨E3,L3,a3,w3⟩:=mU N4;obtain ⟨E4,L4,a4,w4⟩:=mU N3;have w1':wo (72:Int) L1=oB:=w1;have w2':wo (72:Int) L2=oB:=w2;exact ye (nz (kJ a1 (by decide) (by decide) hT hW hE w1') (by simp)) (nz (kJ a2 (by decide) (by decide) hT hW hE w2') (by decide)) (jx a1 a3 hT hE (by rw [<-yF,Pt])) (jx a1 a4 hT hE (by rw [<-yF,Ps]))
theorem FK (n:Int) (s:ByteArray) (hs:s.size<=maxLen) (W:World) (hT:Lx.nX W) (hW:Lw.jF W) (hE:k9 W) :
  Ra 3 #[.int .i64 n,.string s] W fun r w'=>r=.returned (.bool true)/\Below W.heap.size W w':=by
 have hA:=Kh hT hW hE
 rcases BN s hs n with ⟨n1,n2,E,L,hF⟩|hX
 ·have hTo:=LA hF n;refine rp (T:=wo n L) hs hTo.sz hA (.inr (.inr ⟨kJ hF n1 n2 hT hW hE rfl,fun hz=>?_⟩)) W (hH _ _);obtain ⟨E',⟨a',hA'⟩,hL',_⟩:=hTo.ev;have hF':Fd (wo n L) E' L:=⟨hz,hTo.sc,⟨a',hA'⟩,hL'⟩;exact ⟨jx hF hF hT hE ⟨fun _=>Dl _,fun _=>rfl⟩,jx hF' hF hT hE ⟨fun _=>LK hTo.tw,fun _=>rfl⟩,nz (kJ hF' n1 n2 hT hW hE rfl) (by simp),nz (kJ hF n1 n2 hT hW hE rfl) rfl⟩
 ·refine rp (T:=⟨#[]⟩) hs (by decide) hA (.inr (.inl fun V hb=>?_)) W (hH _ _);refine (hX V (hT.below hb) (hE.below hb)).mono ?_;rintro r w' ⟨g,c,x,y,u,_,rfl,_,y2⟩;exact ⟨_,_,rfl,hb.trans (y2.mono hb.size)⟩
end Go.Proofs.YtjiepkenkcgkhaaGreatDoor
