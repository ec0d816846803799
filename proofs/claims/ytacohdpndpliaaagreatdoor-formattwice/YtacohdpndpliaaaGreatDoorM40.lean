import Derived.Test.YtacohdpndpliaaaGreatDoorM15
import Derived.Test.YtacohdpndpliaaaGreatDoorM39
set_option linter.all false
set_option maxHeartbeats 4000000
set_option maxRecDepth 100000
namespace Go.Proofs.YtacohdpndpliaaaGreatDoor
open Go.Proofs.Tryz
open Go.RowKit
open Lw (Dc bE rt cM dN fT j9 bW aY cr)
variable {s:ByteArray}{W w:World}{E l:List Ev}{L:List Dc}{ao:Option Addr}{n g:Nat}{v:Value}
def GT (w:World) (ao:Option Addr) (l:List Ev):Prop:=∀j e,l[j]?=some e->∃b off,ao=some ⟨b,off,none⟩ /\
 w.cell? ⟨b,off+j*8,none⟩=some (.int .u8 e.k)/\w.cell? ⟨b,off+j*8+1,none⟩=some (.int .u8 e.n)/\w.cell? ⟨b,off+j*8+2,none⟩=some (.int .u8 e.d.k)/\w.cell? ⟨b,off+j*8+3,none⟩=some (.string e.d.t)/\w.cell? ⟨b,off+j*8+4,none⟩=some (.int .i64 e.d.a)/\w.cell? ⟨b,off+j*8+5,none⟩=some (.int .i64 e.d.l)/\w.cell? ⟨b,off+j*8+6,none⟩=some (.int .i64 e.d.c)/\w.cell? ⟨b,off+j*8+7,none⟩=some (.int .i64 e.d.f)
theorem GT.below {w':World}(h:GT w ao l) (hb:Below w.heap.size w w'):GT w' ao l:=by
 intro j a ha;obtain ⟨b,off,h1,c0,c1,c2,c3,c4,c5,c6,c7⟩:=h j a ha;have hlt:=QD _ _ c0;have e:w'.heap[b]?=w.heap[b]?:=(Kp.of_below (S:=fun _=>False) hb).block b hlt (fun h=>h);exact ⟨b,off,h1,(QE (a:=⟨b,_,none⟩) e).trans c0,(QE (a:=⟨b,_,none⟩) e).trans c1,(QE (a:=⟨b,_,none⟩) e).trans c2,(QE (a:=⟨b,_,none⟩) e).trans c3,(QE (a:=⟨b,_,none⟩) e).trans c4,(QE (a:=⟨b,_,none⟩) e).trans c5,(QE (a:=⟨b,_,none⟩) e).trans c6,(QE (a:=⟨b,_,none⟩) e).trans c7⟩
theorem L3 {p:Option Addr}{cap:Nat}(h:Re w (.slice p n cap) l):GT w p l:=by
 intro j d hj
 rcases h.2 with ⟨h1,h0⟩|⟨g,cap',cur,h1,_⟩
 ·have:l=[]:=QL h0;subst this;simp at hj
 ·cases h1
  have hc:∀(k:Nat) (u:Value),(wT l)[k]?=some u->w.cell? ⟨g,k,none⟩=some u:=fun k u hu=>by
   have:=ST h (g:=g) rfl k u hu;rw [Sg,QG] at this;exact this
  refine ⟨g,0,rfl,?_,?_,?_,?_,?_,?_,?_,?_⟩
  ·rw [QG];exact hc _ _ (aW Ev.cs 8 Ev.cs_len l j 0 d _ hj rfl)
  ·rw [QG];exact hc _ _ (aW Ev.cs 8 Ev.cs_len l j 1 d _ hj rfl)
  ·rw [QG];exact hc _ _ (aW Ev.cs 8 Ev.cs_len l j 2 d _ hj rfl)
  ·rw [QG];exact hc _ _ (aW Ev.cs 8 Ev.cs_len l j 3 d _ hj rfl)
  ·rw [QG];exact hc _ _ (aW Ev.cs 8 Ev.cs_len l j 4 d _ hj rfl)
  ·rw [QG];exact hc _ _ (aW Ev.cs 8 Ev.cs_len l j 5 d _ hj rfl)
  ·rw [QG];exact hc _ _ (aW Ev.cs 8 Ev.cs_len l j 6 d _ hj rfl)
  ·rw [QG];exact hc _ _ (aW Ev.cs 8 Ev.cs_len l j 7 d _ hj rfl)
theorem GT.kp {S:Nat->Prop}{w w':World}{ao:Option Addr}{l:List Ev}(h:GT w ao l) (hk:Kp S w w') (hS:∀b off,ao=some ⟨b,off,none⟩->¬S b):GT w' ao l:=by
 intro j a ha;obtain ⟨b,off,h1,c0,c1,c2,c3,c4,c5,c6,c7⟩:=h j a ha;have hlt:=QD _ _ c0;have e:w'.heap[b]?=w.heap[b]?:=hk.block b hlt (hS b off h1);exact ⟨b,off,h1,(QE (a:=⟨b,_,none⟩) e).trans c0,(QE (a:=⟨b,_,none⟩) e).trans c1,(QE (a:=⟨b,_,none⟩) e).trans c2,(QE (a:=⟨b,_,none⟩) e).trans c3,(QE (a:=⟨b,_,none⟩) e).trans c4,(QE (a:=⟨b,_,none⟩) e).trans c5,(QE (a:=⟨b,_,none⟩) e).trans c6,(QE (a:=⟨b,_,none⟩) e).trans c7⟩
structure YI (w:World) (ao:Option Addr) (E:List Ev) (g:Nat) (v:Value) (D:List Dc) (st:wL) (S:Nat->Prop) (W:World):Prop where
 bel:Below w.heap.size w W
 sq:Sq S W g st
 sB:∀k,S k->w.heap.size<=k
 rd:Rd W v D
 vB:∀k,v.ownBlock=some k->w.heap.size<=k/\¬S k
 lev:GT W ao E
 eb:∀b off,ao=some ⟨b,off,none⟩->b<W.heap.size/\¬S b/\v.ownBlock≠some b
structure YJ (w:World) (ao:Option Addr) (E:List Ev) (g:Nat) (v x:Value) (D ds:List Dc) (st:wL) (W:World):Prop where
 rv:Rd W v D
 rx:Rd W x ds
 fin:∀v' w',Rd w' v' (D++ds)->Kp (fun k=>v.ownBlock=some k) W w'->Nb W v v'->∃S,YI w ao E g v' (D++ds) st S w'
theorem N1 {l:List Dc}(h:Rd W v l):∀k,v.ownBlock=some k->k<W.heap.size:=by
 intro k hk
 rcases h.2 with ⟨rfl,_⟩|⟨b,cap,cur,rfl,_,h3,_⟩
 ·cases hk
 ·simp only [Value.ownBlock,QZ] at hk;subst hk;exact aq h3
theorem YI.call {D:List Dc}{st:wL}{S:Nat->Prop}{W':World}(h:YI w ao E g v D st S W) {x:Value}{ds:List Dc}{st':wL}(hp:Aq S g W W' x ds st'):YJ w ao E g v x D ds st' W':=by
 obtain ⟨⟨S',p1,p3,p4⟩,hre,hkp⟩:=hp;have hb:Below w.heap.size w W':=nM h.bel hkp (fun k hk=>h.sB k hk) h.bel.size
 have hs':∀k,S' k->w.heap.size<=k:=by
  intro k hk
  rcases p3 k hk with a|a
  ·exact h.sB k a
  ·exact QC h.bel.size a
 have hv:Rd W' v D:=hkp.row h.rd (fun k e=>(h.vB k e).2)
 have hvS:∀k,v.ownBlock=some k->w.heap.size<=k/\¬S' k:=by
  intro k e;refine ⟨(h.vB k e).1,fun hs=>?_⟩
  rcases p3 k hs with a|a
  ·exact (h.vB k e).2 a
  ·have:=N1 h.rd k e;omega
 have hlv:GT W' ao E:=h.lev.kp hkp (fun b off e=>(h.eb b off e).2.1)
 have heb:∀b off,ao=some ⟨b,off,none⟩->b<W'.heap.size/\¬S' b:=by
  intro b off e;obtain ⟨e1,e2,e3⟩:=h.eb b off e;refine ⟨QN e1 hkp.size,fun hs=>?_⟩
  rcases p3 b hs with a|a
  ·exact e2 a
  ·omega
 refine ⟨hv,hre,fun v' w' hr hk hn=>⟨S',?_⟩⟩;refine ⟨nM hb hk (fun k e=>(h.vB k e).1) hb.size,p1.kp hk (fun k hs e=>(hvS k e).2 hs),hs',hr,?_,hlv.kp hk (fun b off e=>(h.eb b off e).2.2),?_⟩
 ·intro k e
  rcases hn with e1|⟨q,e1,hq⟩
  ·exact hvS k (by rw [<-e1];exact e)
  ·rw [e1] at e;simp at e;subst e;exact ⟨QC hb.size hq,fun hs=>by have:=p1.lt _ hs;omega⟩
 ·intro b off e;obtain ⟨e1,e2⟩:=heb b off e;refine ⟨QN e1 hk.size,e2,?_⟩
  rcases hn with e3|⟨q,e3,hq⟩
  ·rw [e3];exact (h.eb b off e).2.2
  ·rw [e3];intro e4;simp at e4;omega
theorem Dv {s:Sy}{e:Ev}{r:List Ev}:cQ s (e :: r)=match dC s e with|none=>none|some (s',l)=>(cQ s' r).map (l++·):=rfl
theorem Jj {O:Nat->Prop}(n:bO) (pn:Option Addr) (cn:Nat) (W:World) (ht:TN O W n (.slice pn n.c.length cn)) {E:List Ev}(hev:nX n=E) (hl:E.length<=30000000) (htx:∀e∈E,e.d.t.size<=9223372036854775807) {L:List Dc}(hL:cQ oH E=some L) :
  Qu 31 #[ef n.k n.d (.slice pn n.c.length cn)] W fun r w'=>∃p c,r=.returned (.tuple #[.slice p L.length c,.int .i64 0])/\Rd w' (.slice p L.length c) L/\Below W.heap.size W w'/\L.length<=12*E.length+12:=by
 obtain ⟨W0,e0⟩:∃W0,W.alloc (bv n.k n.d (.slice pn n.c.length cn))=W0:=⟨_,rfl⟩;obtain ⟨g0,hg0⟩:∃g0,W.heap.size=g0:=⟨_,rfl⟩;have hb0:Below W.heap.size W W0:=by rw [<-e0];exact (hH _ _).alloc (gt _) _
 have H0:Hid (Below W.heap.size W W0/\W0.heap[g0]?=some (bv n.k n.d (.slice pn n.c.length cn))):=⟨hb0,by rw [<-e0,<-hg0];exact au _ _⟩;have HM:Hid (E.length<=30000000/\∀e∈E,e.d.t.size<=9223372036854775807):=⟨hl,htx⟩
 have HEv:Hid (∀V,Below W0.heap.size W0 V->Qu 70 #[ef n.k n.d (.slice pn n.c.length cn)] V fun r w'=>∃p c,r=.returned (.slice p E.length c)/\GT w' p E/\Below V.heap.size V w'/\(∀b off,p=some ⟨b,off,none⟩->V.heap.size<=b/\b<w'.heap.size)):=fun V hb=>by
  have hx:Below W.heap.size W V:=hb0.trans (hb.mono hb0.size);refine (xW n _ V (TN.see n _ (TN.kp (Kp.of_below (S:=fun _=>False) hx) (fun _ _ h=>h) n _ ht)) (by rw [hev];omega)).mono ?_;rintro r w' ⟨v',rfl,h1,h2,h3⟩;rw [hev] at h2;obtain ⟨p',c',e,_⟩:=h2.shape;subst e;refine ⟨p',c',rfl,L3 h2,h1,fun b off e=>?_⟩;subst e
  have hlt:b<w'.heap.size:=by
   rcases h2.2 with ⟨h9,_⟩|⟨b9,cap9,cur9,h9,_,h10,_⟩
   ·cases h9
   ·cases h9;exact aq h10
  exact ⟨h3 b rfl,hlt⟩
 have HNew:Hid (∀V,Qu 69 #[] V fun r w'=>r=.returned (bX V.heap.size)/\Sq (fun k=>k=V.heap.size) w' V.heap.size (.live oH)/\Below V.heap.size V w'):=xH;have HL:Hid (cQ oH E=some L):=hL
 dsimp only [bv] at e0
 clear hl htx hb0 ht hev hL
 go_enter func31,ntmps31
 go_wp2_with fail
 try rw [e0]
 try rw [hg0]
 clear e0;refine (HNew.out _).mono ?_;rintro r w5 ⟨rfl,hq,hb⟩;obtain ⟨g,hg⟩:∃g,W0.heap.size=g:=⟨_,rfl⟩;have HQ:Hid (Sq (fun k=>k=g) w5 g (.live oH)/\Below W0.heap.size W0 w5):=by rw [<-hg];exact ⟨hq,hb⟩
 obtain ⟨⟨c0,c1,c2,c3,c4,c5,c6,c7⟩,cl⟩:=aD (ag H0.out.2 hb);have hgw:g<w5.heap.size:=HQ.out.1.lt g rfl;clear hq hb HNew
 go_wp2_with fail
 refine (HEv.out _ HQ.out.2).mono ?_;rintro r w6 ⟨ao,ca,rfl,hLv,hb6,hao⟩
 try rw [hg]
 have HI:Hid (∃S,YI W0 ao E g (.slice none 0 0) [] (.live oH) S w6):=⟨_,HQ.out.2.trans (hb6.mono HQ.out.2.size),HQ.out.1.below hb6,fun k e=>by rw [e,hg];exact gt _,lG _,(fun k e=>by cases e),hLv,fun b off e=>⟨(hao b off e).2,(fun e'=>by have e2:b=g:=e';have:=(hao b off e).1;omega),(fun e=>by cases e)⟩⟩;clear hLv hb6 hao c0 c1 c2 c3 c4 c5 c6 c7 cl hgw hg
 go_wp2_with fail
 go_loopw [5,7,8,9,16] (fun v _ _ _ i wr=>∃j:Nat,j<=E.length/\i=.int .i64 j/\Hid (∃S s D,YI W0 ao E g v D (.live s) S wr/\cQ oH E=(cQ s (E.drop j)).map (D++·)/\D.length+fw s<=12*j/\s.ns.length<=j/\Mo s)) (fun _ _ _ _ i _=>E.length-(intOf i).toNat)
 case atStart=>
  obtain ⟨S,hI⟩:=HI.out;exact ⟨0,Qw _,rfl,S,_,[],hI,by simp,by decide,by decide,fun m hm=>by cases hm⟩
 case round=>
  obtain ⟨j,hj,rfl,HJ⟩:=hrel;obtain ⟨S,s,D,hI,hR,hz,hn,hm⟩:=HJ.out;obtain ⟨pv,cpv,hv,_⟩:=bD hI.rd;subst hv;obtain ⟨hEl,hEt⟩:=HM.out;have hbd:O6 (.live s):=LK (j:=j) (by omega) hn hm (by omega)
  by_cases hlt:j<E.length
  ·have q1:(j:Int)<E.length:=by omega
   have q0:(0:Int)<=j:=by omega
   obtain ⟨t,hT⟩:∃t,E[j]?=some t:=⟨_,Pi hlt⟩
   have hdr:E.drop j=t :: E.drop (j+1):=by
    obtain ⟨a1,a2⟩:=QI.1 hT;rw [Rj a1,a2]
   have htt:=hEt t (Rz hT);obtain ⟨b,off,rfl,x0,x1,x2,x3,x4,x5,x6,x7⟩:=hI.lev j t hT;rw [hdr,Dv] at hR;have hbn:Below wr.heap.size wr (wr.alloc (CM t.k t.n t.d)):=(hH _ _).alloc (gt _) _;obtain ⟨V1,eV1⟩:∃V1,wr.alloc (CM t.k t.n t.d)=V1:=⟨_,rfl⟩;rw [eV1] at hbn;have hI1:YI W0 (some ⟨b,off,none⟩) E g (.slice pv D.length cpv) D (.live s) S V1:=⟨hI.bel.trans (hbn.mono hI.bel.size),hI.sq.below hbn,hI.sB,bq hI.rd hbn,hI.vB,hI.lev.below hbn,fun b' off' e=>⟨QN (hI.eb b' off' e).1 hbn.size,(hI.eb b' off' e).2⟩⟩;obtain ⟨g7,hg7⟩:∃g7,wr.heap.size=g7:=⟨_,rfl⟩;have hbk:V1.heap[g7]?=some (CM t.k t.n t.d):=by rw [<-eV1,<-hg7];exact au _ _
   obtain ⟨⟨y0,y1,y2,y3,y4,y5,y6,y7⟩,yl⟩:=pZ hbk;have hP:=Dt hI1.sq hbd t htt;clear HJ HI hdr hT hbd htt hEt hI hbk;cases hs:dC s t with
   |none=>
    rw [hs,HL.out] at hR;cases hR
   |some pr=>
    obtain ⟨s',ds⟩:=pr;rw [hs] at hR;have hpp:Br t (.live s)=(0,ds,.live s'):=by show (match dC s t with|none=>_|some (s',l)=>_)=_;rw [hs]
    rw [hpp] at hP;have HP:Hid (Qu 71 #[bX g,.agg #[.int .u8 t.k,.int .u8 t.n,.int .u8 t.d.k,.string t.d.t,.int .i64 t.d.a,.int .i64 t.d.l,.int .i64 t.d.c,.int .i64 t.d.f]] V1 fun rr w'=>∃v,rr=.returned (.tuple #[v,.int .i64 0])/\Aq S g V1 w' v ds (.live s')):=hP;have HN:Hid (∀w' x,Aq S g V1 w' x ds (.live s')->YJ W0 (some ⟨b,off,none⟩) E g (.slice pv D.length cpv) x D ds (.live s') w'):=fun w' x hx=>hI1.call hx
    obtain ⟨z1,z2,z3⟩:=IJ hs;have hR2:cQ oH E=((cQ s' (E.drop (j+1))).map (ds++·)).map (D++·):=hR;have HK:Hid (cQ oH E=(cQ s' (E.drop (j+1))).map ((D++ds)++·)/\(D++ds).length+fw s'<=12*(j+1)/\s'.ns.length<=j+1/\Mo s'/\D.length+ds.length<=1000000000000):=⟨by rw [hR2];generalize cQ s' (E.drop (j+1))=o;cases o <;> simp,by rw [Or];omega,by omega,z3 hm,by omega⟩
    dsimp only [CM] at eV1
    clear hI1 hR hR2 hP hpp hs hz hn hm z1 z2 z3 hbn
    go_wp2_with fail
    try rw [eV1]
    try rw [hg7]
    clear eV1 hg7;refine HP.out.mono ?_;rintro r w7 ⟨x,rfl,hx⟩;have H6:Hid (YJ W0 (some ⟨b,off,none⟩) E g (.slice pv D.length cpv) x D ds (.live s') w7):=HN.out _ _ hx;obtain ⟨px,cx,hxs,_⟩:=bD H6.out.rx;subst hxs;clear hx y0 y1 y2 y3 y4 y5 y6 y7 yl
    go_wp2_with (at_builtin;refine Gx (by rfl) _ _ (by rfl) (.slice pv D.length cpv) (.slice px ds.length cx) D ds (by rfl) H6.out.rv (by rfl) H6.out.rx HK.out.2.2.2.2 ?_;intro v3 w8 h3 k3 n3;have H7:Hid (∃S,YI W0 (some ⟨b,off,none⟩) E g v3 (D++ds) (.live s') S w8):=H6.out.fin _ _ h3 k3 n3;clear h3 k3 n3)
    obtain ⟨S3,hI3⟩:=H7.out;exact ⟨⟨j+1,hlt,by go_num,S3,s',D++ds,hI3,HK.out.1,HK.out.2.1,HK.out.2.2.1,HK.out.2.2.2.1⟩,by simp [intOf];omega⟩
  ·obtain rfl:j=E.length:=by omega
   have q1:¬((E.length:Int)<E.length):=by omega
   rw [Tl] at hR;have hR':cQ oH E=(ik s).map (D++·):=hR;have hP:=xn hI.sq hbd
   obtain ⟨ds,hcl⟩:∃ds,ik s=some ds:=by
    cases hc:ik s with
    |none=>rw [hc,HL.out] at hR';cases hR'
    |some l=>exact ⟨l,rfl⟩
   have hpp:xF (.live s)=(0,ds,.done):=by
    have hx:xF (.live s)=(match ik s with|none=>(130,[],.live s)|some l=>(0,l,.done)):=rfl;rw [hx,hcl]
   have gF:ds.length<=fw s+1:=by
    have h1:ds=s.endl.ws:=by
     unfold ik at hcl
     split at hcl
     ·exact (Q7 hcl).symm
     ·cases hcl
    rw [h1];unfold Sy.endl fw
    split
    ·show (dH :: s.ws).length<=_;simp only [List.length_cons];omega
    ·omega
   rw [hpp] at hP;have HP:Hid (Qu 72 #[bX g] wr fun rr w'=>∃v,rr=.returned (.tuple #[v,.int .i64 0])/\Aq S g wr w' v ds .done):=hP;have HN:Hid (∀w' x,Aq S g wr w' x ds .done->YJ W0 ao E g (.slice pv D.length cpv) x D ds .done w'):=fun w' x hx=>hI.call hx
   have HK:Hid (L=D++ds/\D.length+ds.length<=12*E.length+12/\D.length+ds.length<=1000000000000):=by
    refine ⟨?_,by omega,by omega⟩;rw [hcl,HL.out] at hR';exact Q7 hR'
   clear hI hR hR' hP hpp hcl gF hz hn hm HJ HI hbd hEt
   go_wp2_with fail
   refine HP.out.mono ?_;rintro r w7 ⟨x,rfl,hx⟩;have H6:Hid (YJ W0 ao E g (.slice pv D.length cpv) x D ds .done w7):=HN.out _ _ hx;obtain ⟨px,cx,hxs,_⟩:=bD H6.out.rx;subst hxs;clear hx
   go_wp2_with (at_builtin;refine Gx (by rfl) _ _ (by rfl) (.slice pv D.length cpv) (.slice px ds.length cx) D ds (by rfl) H6.out.rv (by rfl) H6.out.rx HK.out.2.2 ?_;intro v3 w8 h3 k3 n3;have H7:Hid (∃S,YI W0 ao E g v3 (D++ds) .done S w8):=H6.out.fin _ _ h3 k3 n3;obtain ⟨p3,c3,e3,_⟩:=bD h3;rw [Or] at e3;subst e3;clear h3 k3 n3)
   obtain ⟨S7,hI7⟩:=H7.out;obtain ⟨k1,k2,k3⟩:=HK.out;refine QK (v:=.tuple #[.slice p3 (D.length+ds.length) c3,.int .i64 0]) (by simp [results,Tryz.f31,go_sem]) rfl ?_;refine ⟨p3,c3,by rw [k1,Or],by rw [k1,Or];rw [Or] at *;exact hI7.rd,H0.out.1.trans (hI7.bel.mono H0.out.1.size),by rw [k1,Or];exact k2⟩
open Lw (Dc bE rt cM dN fT j9 jD ud qI)
def Az (W:World) (v:Value) (Q:Int->Int->Int->Int->Prop) (r:Ending) (w':World):Prop:=∃g c x y u,Q c x y u/\r=.returned (.tuple #[v,lk g])/\w'.heap[g]?=some (jE c x y u)/\Below W.heap.size W w'
theorem pU (h:Fd s E L):E.length<=8000000/\(∀e∈E,e.d.t.size<=9223372036854775807)/\cM 0 0 L=none/\qI L<=2147483647/\(∀d∈L,rt d=true)/\(eG s).length<=262144:=by
 obtain ⟨a,hA⟩:=h.al;have hls:=na s;have hsz:=h.sz;have hcn:E.length<=0+23*(eG s).length+1:=Au (eG s) [] 0 E a hA fk;obtain ⟨hU,hr⟩:=CZ hA h.ly hsz hls;have hf:cM 0 0 L=none:=by have h:=kn E km h.ly;rw [Q0] at h;exact h
 refine ⟨by omega,fun e he=>?_,hf,hU,hr,by omega⟩
 rcases Lb (eG s) [] 0 E a hA fk e he with h|h
 ·rw [h];exact Qw _
 ·have:=LF s _ h;omega
theorem vt (h:Fd s E L) {W:World}(hT:Lx.qp W) (hE:mh W) :
  Qu 10 #[.string s] W fun r w'=>∃p c,r=.returned (.tuple #[.slice p L.length c,.nilIface])/\Rd w' (.slice p L.length c) L/\Below W.heap.size W w'/\L.length<=100000000:=by
 obtain ⟨a,hA⟩:=h.al;obtain ⟨f1,f2,f3,f4,f5,f6⟩:=pU h;have hsz:=h.sz;have q1:¬((s.size:Int)>262144):=by omega
 have HR:Hid (Qu 30 #[.string s] W (Qg W E)):=Bf hT hE (by omega) (z:=0) (by rw [h.sc];rfl) (by omega) hA rfl
 have HL:Hid (∀n p cv V,TN (fun j=>W.heap.size<=j) V n (.slice p n.c.length cv)->f9 E []=some n->Qu 31 #[ef n.k n.d (.slice p n.c.length cv)] V fun r w'=>∃p c,r=.returned (.tuple #[.slice p L.length c,.int .i64 0])/\Rd w' (.slice p L.length c) L/\Below V.heap.size V w'/\L.length<=100000000):=fun n p cv V ht hb=>by
  have hev:nX n=E:=by rw [(B4 hb).1,(GA hA).2]
  refine (Jj n p cv V ht hev (by omega) f2 h.ly).mono ?_;rintro r w' ⟨p,c,e1,e2,e3,e4⟩;exact ⟨p,c,e1,e2,e3,by omega⟩
 have HF:Hid (∀V,Qu 29 #[.int .i64 0,.agg #[.int .i64 0,.int .i64 0,.int .i64 0]] V fun r w'=>r=.returned .nilIface/\Below V.heap.size V w'):=fun V=>rz 0 0 0 V
 clear h hT hE hA f1 f2 f3 f4 f5 f6 hsz
 go_enter func10,ntmps10
 go_wp2_with fail
 refine HR.out.mono ?_;rintro r w1 ⟨n,p,cv,rfl,ht,hbl,hb1⟩;obtain ⟨V1,eV1⟩:∃V1,w1.alloc (bv n.k n.d (.slice p n.c.length cv))=V1:=⟨_,rfl⟩;obtain ⟨g1,hg1⟩:∃g1,w1.heap.size=g1:=⟨_,rfl⟩;have hx:Below w1.heap.size w1 V1:=by rw [<-eV1];exact (hH _ _).alloc (gt _) _
 have H1:Hid (Below W.heap.size W V1/\TN (fun j=>W.heap.size<=j) V1 n (.slice p n.c.length cv)/\f9 E []=some n):=⟨hb1.trans (hx.mono hb1.size),TN.kp (Kp.of_below (S:=fun _=>False) hx) (fun _ _ h=>h) n _ ht,hbl⟩;have hk:V1.heap[g1]?=some (bv n.k n.d (.slice p n.c.length cv)):=by rw [<-eV1,<-hg1];exact au _ _
 obtain ⟨⟨c0,c1,c2,c3,c4,c5,c6,c7⟩,cl⟩:=aD hk
 dsimp only [bv] at eV1
 clear ht hbl hb1 hx hk HR
 go_wp2_with fail
 try rw [eV1]
 try rw [hg1]
 clear eV1 hg1
 go_wp2_with fail
 refine (HL.out n p cv V1 H1.out.2.1 H1.out.2.2).mono ?_;rintro r w2 ⟨p2,c2',rfl,y1,y2,y3⟩;have H2:Hid (Rd w2 (.slice p2 L.length c2') L/\Below W.heap.size W w2/\L.length<=100000000):=⟨y1,H1.out.1.trans (y2.mono H1.out.1.size),y3⟩;clear y1 y2 y3
 go_wp2_with fail
 refine (HF.out _).mono ?_;rintro r w3 ⟨rfl,y4⟩;have H3:Hid (Below w2.heap.size w2 w3):=y4;clear y4
 go_wp2_with fail
 refine QK (v:=.tuple #[.slice p2 L.length c2',.nilIface]) (by simp [results,Tryz.f10,go_sem]) rfl ?_;exact ⟨p2,c2',rfl,bq H2.out.1 H3.out,H2.out.2.1.trans (H3.out.mono H2.out.2.1.size),H2.out.2.2⟩
theorem vq (hs:262144<s.size) (hm:s.size<=maxLen):Qu 10 #[.string s] W (Az W (.slice none 0 0) (fun _ _ _ _=>True)):=by
 have q1:(s.size:Int)>262144:=by omega
 have HF:Hid (∀V,Qu 29 #[.int .i64 2,.agg #[.int .i64 0,.int .i64 0,.int .i64 0]] V fun r w'=>∃g,r=.returned (lk g)/\w'.heap[g]?=some (jE 2 0 0 0)/\V.heap.size<=g/\Qv V w'):=fun V=>jv 2 0 0 0 (by decide) V
 clear hs
 go_enter func10,ntmps10
 go_wp2_with fail
 refine (HF.out _).mono ?_;rintro r w1 ⟨g,rfl,y1,y2,y3⟩;have H1:Hid (w1.heap[g]?=some (jE 2 0 0 0)/\Qv W w1):=⟨y1,y3⟩;clear y1 y2 y3
 go_wp2_with fail
 refine QK (v:=.tuple #[.slice none 0 0,lk g]) (by simp [results,Tryz.f10,go_sem]) rfl ?_;exact ⟨g,2,0,0,0,trivial,rfl,H1.out.1,H1.out.2⟩
theorem jV {Q:Int->Int->Int->Int->Prop}(hs:s.size<=262144) (hR:Qu 30 #[.string s] W (Az W (ef 0 aB (.slice none 0 0)) Q)) :
  Qu 10 #[.string s] W (Az W (.slice none 0 0) Q):=by
 have q1:¬((s.size:Int)>262144):=by omega
 have HR:Hid (Qu 30 #[.string s] W (Az W (ef 0 aB (.slice none 0 0)) Q)):=hR;clear hs hR
 go_enter func10,ntmps10
 go_wp2_with fail
 refine HR.out.mono ?_;rintro r w1 ⟨g,c,x,y,u,hq,rfl,h1,h2⟩;have H1:Hid (Q c x y u/\w1.heap[g]?=some (jE c x y u)/\Qv W w1):=⟨hq,h1,h2⟩;clear hq h1 h2
 go_wp2_with fail
 refine QK (v:=.tuple #[.slice none 0 0,lk g]) (by simp [results,Tryz.f10,go_sem]) rfl ?_;exact ⟨g,c,x,y,u,H1.out.1,rfl,ag H1.out.2.1 ((hH _ _).alloc (gt _) _),H1.out.2.2.alloc H1.out.2.2.size _⟩
theorem gw (h:Fd s E L) {n:Int}(h1:1<=n) (h2:n<=4096) {W:World}(hT:Lx.qp W) (hW:Lw.jR W) (hE:mh W) :
  Qu 14 #[.int .i64 n,.string s] W fun r w'=>r=.returned (.tuple #[.string (wo n L),.nilIface])/\Qv W w':=by
 obtain ⟨f1,f2,f3,f4,f5,f6⟩:=pU h;have q1:¬(n<1):=by omega
 have q2:¬(n>4096):=by omega
 have hd:∀d∈L,d.t.size<=9223372036854775807:=fun d hd=>NY (f5 d hd)
 have hw:Lw.rO n L=(wo n L,0):=by
  unfold Lw.rO;rw [Eq (by omega),Eq (by rw [f3];simp)]
 have HL:Hid (Qu 10 #[.string s] W fun r w'=>∃p c,r=.returned (.tuple #[.slice p L.length c,.nilIface])/\Lw.Lay w' p L/\Qv W w'/\L.length<=100000000):=by
  refine (vt h hT hE).mono ?_;rintro r w' ⟨p,c,rfl,y1,y2,y3⟩;obtain ⟨ao,cap,e1,e2,e3,_⟩:=Lw.Lay.row y1 hd;cases e1;exact ⟨p,c,rfl,e3,y2,y3⟩
 obtain ⟨T,hTT⟩:∃T,wo n L=T:=⟨_,rfl⟩;rw [hTT] at hw ⊢
 have HP:Hid (∀V p c,Lw.Lay V p L->L.length<=100000000->Qv W V->Qu 22 #[.int .i64 n,.slice p L.length c] V fun e w'=>e=.returned (.tuple #[.string T,.int .i64 0])/\Qv V w'):=fun V p c h h1 hb=>by
  have:=Lw.Bq n p L c V h (hW.below hb) h1 f4;rw [hw] at this;exact this
 have HF:Hid (∀V,Qu 29 #[.int .i64 0,.agg #[.int .i64 0,.int .i64 0,.int .i64 0]] V fun r w'=>r=.returned .nilIface/\Qv V w'):=fun V=>rz 0 0 0 V
 clear h hT hE hW f1 f2 f3 f4 f5 f6 hd hw hTT
 go_enter func14,ntmps14
 go_wp2_with fail
 refine HL.out.mono ?_;rintro r w1 ⟨p,c,rfl,y1,y2,y3⟩;have H1:Hid (Lw.Lay w1 p L/\Qv W w1/\L.length<=100000000):=⟨y1,y2,y3⟩;clear y1 y2 y3
 go_wp2_with fail
 refine (HP.out w1 p c H1.out.1 H1.out.2.2 H1.out.2.1).mono ?_;rintro r w2 ⟨rfl,y4⟩;have H2:Hid (Qv W w2):=H1.out.2.1.trans (y4.mono H1.out.2.1.size);clear y4
 go_wp2_with fail
 refine (HF.out _).mono ?_;rintro r w3 ⟨rfl,y5⟩;have H3:Hid (Qv W w3):=H2.out.trans (y5.mono H2.out.size);clear y5
 go_wp2_with fail
 refine QK (v:=.tuple #[.string T,.nilIface]) (by simp [results,Tryz.f14,go_sem]) rfl ?_;exact ⟨rfl,H3.out⟩
theorem ic {Q:Int->Int->Int->Int->Prop}{n:Int}(h1:1<=n) (h2:n<=4096) (hR:Qu 10 #[.string s] W (Az W (.slice none 0 0) Q)) :
  Qu 14 #[.int .i64 n,.string s] W (Az W (.string ⟨#[]⟩) Q):=by
 have q1:¬(n<1):=by omega
 have q2:¬(n>4096):=by omega
 have HR:Hid (Qu 10 #[.string s] W (Az W (.slice none 0 0) Q)):=hR;clear hR
 go_enter func14,ntmps14
 go_wp2_with fail
 refine HR.out.mono ?_;rintro r w1 ⟨g,c,x,y,u,hq,rfl,y1,y2⟩;have H1:Hid (Q c x y u/\w1.heap[g]?=some (jE c x y u)/\Qv W w1):=⟨hq,y1,y2⟩;clear hq y1 y2
 go_wp2_with fail
 refine QK (v:=.tuple #[.string ⟨#[]⟩,lk g]) (by simp [results,Tryz.f14,go_sem]) rfl ?_;exact ⟨g,c,x,y,u,H1.out.1,rfl,H1.out.2.1,H1.out.2.2⟩
theorem pN {n:Int}(hn:n<1\/4096<n):Qu 14 #[.int .i64 n,.string s] W (Az W (.string ⟨#[]⟩) (fun _ _ _ _=>True)):=by
 have HF:Hid (∀V,Qu 29 #[.int .i64 1,.agg #[.int .i64 0,.int .i64 0,.int .i64 0]] V fun r w'=>∃g,r=.returned (lk g)/\w'.heap[g]?=some (jE 1 0 0 0)/\V.heap.size<=g/\Qv V w'):=fun V=>jv 1 0 0 0 (by decide) V
 by_cases q1:n<1
 case' pos=>clear hn
 case' neg=>
  have q2:n>4096:=by omega
  clear hn
 all_goals (
  go_enter func14,ntmps14
  go_wp2_with fail
  refine (HF.out _).mono ?_;rintro r w1 ⟨g,rfl,y1,y2,y3⟩;have H1:Hid (w1.heap[g]?=some (jE 1 0 0 0)/\Qv W w1):=⟨y1,y3⟩;clear y1 y2 y3
  go_wp2_with fail
  refine QK (v:=.tuple #[.string ⟨#[]⟩,lk g]) (by simp [results,Tryz.f14,go_sem]) rfl ?_;exact ⟨g,1,0,0,0,trivial,rfl,H1.out.1,H1.out.2⟩)
theorem BU (s:ByteArray) (hm:s.size<=maxLen) (n:Int):(1<=n/\n<=4096/\∃E L,Fd s E L)\/∀W,Lx.qp W->mh W->Qu 14 #[.int .i64 n,.string s] W (Az W (.string ⟨#[]⟩) (fun _ _ _ _=>True)):=by
 by_cases h1:n<1\/4096<n
 ·exact .inr fun W _ _=>pN h1
 ·by_cases h2:262144<s.size
  ·exact .inr fun W _ _=>ic (by omega) (by omega) (vq h2 hm)
  ·obtain ⟨E,code,a,hA⟩:=GC (eG s) (.live [] 0) fk;have hls:=na s
   have key:∀{W:World},Lx.qp W->mh W->(code=0/\((Lx.eM s).2.1:Int)≠0\/code=121/\a=(eG s).length)->Qu 14 #[.int .i64 n,.string s] W (Az W (.string ⟨#[]⟩) (fun _ _ _ _=>True)):=fun {W} k1 k2 h=>by
    refine ic (by omega) (by omega) (jV (by omega) ((DW k1 k2 (by omega) rfl (by omega) hA h).mono ?_));rintro r w' ⟨g,c,x,y,u,e1,e2,e3,e4⟩;exact ⟨g,c,x,y,u,trivial,e1,e2,e4⟩
   by_cases hc:code=0
   ·subst hc
    by_cases hz:(Lx.eM s).2.1=0
    ·obtain ⟨L,hL,_⟩:=ox s hz hA;exact .inl ⟨by omega,by omega,E,L,by omega,hz,⟨a,hA⟩,hL⟩
    ·exact .inr fun W k1 k2=>key k1 k2 (.inl ⟨rfl,by omega⟩)
   ·obtain ⟨a1,a2⟩:=GD fk Jn hA hc
    by_cases ha:a=(eG s).length
    ·exact .inr fun W k1 k2=>key k1 k2 (.inr ⟨a1.2 ha,ha⟩)
    ·obtain ⟨t,ht⟩:∃t,(eG s)[a]?=some t:=⟨_,Pi (by omega)⟩;refine .inr fun W k1 k2=>ic (by omega) (by omega) (jV (by omega) ((uI k1 k2 (by omega) rfl (by omega) hA hc ht).mono ?_))
     rintro r w' ⟨g,e1,e2,e3,e4⟩;exact ⟨g,_,_,_,_,trivial,e1,e2,e4⟩
theorem pS {c x y u:Int}(h:w.heap[g]?=some (jE c x y u)):w.cell? ⟨g,0,none⟩=some (.int .i64 c)/\w.cell? ⟨g,1,none⟩=some (.int .i64 x)/\w.cell? ⟨g,2,none⟩=some (.int .i64 y)/\w.cell? ⟨g,3,none⟩=some (.int .i64 u):=
 ⟨af h rfl,af h rfl,af h rfl,af h rfl⟩
theorem wg {b:Nat}{v:World}(h:Below b w v):∀m,Below b w (v.drewN m)
 |0=>h
 |m+1=>(wg h m).drew
theorem EJ (g:Nat) (W:World) (hE:mh W) (hg:W.heap[g]?=some (jE 120 10 1 11)):Qu 11 #[lk g,.agg #[.int .i64 120,.int .i64 10,.int .i64 1,.int .i64 11]] W fun r w'=>r=.returned (.bool true)/\Below W.heap.size W w':=by
 obtain ⟨W0,e0⟩:∃W0,W.alloc (jE 120 10 1 11)=W0:=⟨_,rfl⟩;obtain ⟨g0,hg0⟩:∃g0,W.heap.size=g0:=⟨_,rfl⟩;have h0:Below W.heap.size W W0:=by rw [<-e0];exact (hH _ _).alloc (gt _) _
 have k0:W0.heap[g0]?=some (jE 120 10 1 11):=by rw [<-e0,<-hg0];exact au _ _
 have z0:W0.heap.size=g0+1:=by rw [<-e0,Qy,hg0]
 obtain ⟨V1,e1⟩:∃V1,W0.alloc (D3 none)=V1:=⟨_,rfl⟩;have h1:Below W0.heap.size W0 V1:=by rw [<-e1];exact (hH _ _).alloc (gt _) _
 have k1:V1.heap[g0+1]?=some (D3 none):=by rw [<-e1,<-z0];exact au _ _
 have hgl:g<g0:=by rw [<-hg0];exact aq hg
 have H1:Hid (Below W.heap.size W V1/\V1.heap[g]?=some (jE 120 10 1 11)/\V1.heap[g0]?=some (jE 120 10 1 11)/\V1.heap[g0+1]?=some (D3 none)):=⟨h0.trans (h1.mono h0.size),ag (ag hg h0) h1,ag k0 h1,k1⟩;have HAs:Hid (Qu 32 #[lk g,.iface 84 (.pointer (some ⟨g0+1,0,none⟩))] V1 fun ev w'=>ev=.returned (.bool true)/\∃w1,Below V1.heap.size V1 w1/\w'=w1.setCell ⟨g0+1,0,none⟩ (.pointer (some ⟨g,0,none⟩))):=Gt _ _ (.pointer none) _ ((hE.below h0).below h1) (af k1 rfl) (am k1);obtain ⟨c0,c1,c2,c3⟩:=pS k0;clear hE hg h0 h1 k0 k1
 go_enter func11,ntmps11
 go_wp2_with fail
 try rw [e0]
 try rw [hg0]
 clear e0
 go_wp2_with fail
 try rw [z0]
 try rw [e1]
 clear e1 z0 c0 c1 c2 c3;refine HAs.out.mono ?_;rintro e w5 ⟨rfl,w6,hb6,hw5⟩;have y1:w5.heap[g]?=some (jE 120 10 1 11):=by rw [hw5];exact aU (ag H1.out.2.1 hb6) (by omega) _
 have y2:w5.heap[g0]?=some (jE 120 10 1 11):=by rw [hw5];exact aU (ag H1.out.2.2.1 hb6) (by omega) _
 have y3:w5.cell? ⟨g0+1,0,none⟩=some (.pointer (some ⟨g,0,none⟩)):=by rw [hw5];exact af (aj (ag H1.out.2.2.2 hb6) 0 _) (by simp)
 have H5:Hid (Below W.heap.size W w5):=by
  rw [hw5];exact Kp.low (H1.out.1.trans (hb6.mono H1.out.1.size)) (Kp.set _ _ _ _) (fun k e=>by subst e;omega) (QC H1.out.1.size hb6.size)
 obtain ⟨c0,c1,c2,c3⟩:=pS y1;obtain ⟨d0,d1,d2,d3⟩:=pS y2;have HIs:Hid (∀V,V.heap[g]?=some (jE 120 10 1 11)->Qu 33 #[lk g,.iface 24 (.int .i64 120)] V fun e w'=>e=.returned (.bool true)/\w'=V):=fun V h=>Mu g 120 10 1 11 V h
 have HY:Hid (w5.heap[g]?=some (jE 120 10 1 11)):=y1;clear hw5 hb6 y1 y2 HAs
 go_wp2_with fail
 go_quiet ((go_at_call 33;exact Calls.quiet_of_same (HIs.out _ HY.out)))
 go_wp2_with fail
 go_ret
 exact ⟨rfl,wg H5.out _⟩
def LM (n:Nat) (s o:ByteArray):Bool:=
 decide (s.size<=1000) && decide ((Lx.eM s).2.1=0) && match ua (eG s) (.live [] 0) with
 |some (E,c,_)=>decide (c=0) && match cQ oH E with
  |some L=>decide (Lw.gH n L=o.data.toList)
  |none=>false
 |none=>false
abbrev NR:ByteArray:=⟨#[112,114,111,103,114,97,109,32,112,59,98,101,103,105,110,32,115,107,105,112,59,120,58,61,49,32,101,110,100,46]⟩
abbrev Mc:ByteArray:=⟨#[112,114,111,103,114,97,109,32,112,59,10,98,101,103,105,110,10,32,32,115,107,105,112,59,10,32,32,120,32,58,61,32,49,10,101,110,100,46,10]⟩
abbrev qu:ByteArray:=⟨#[112,114,111,103,114,97,109,32,112,32,98,101,103,105,110]⟩
theorem NV:LM 72 NR Mc=true:=by kernel_rfl
theorem Ih {o:ByteArray}(h:LM n s o=true):∃E L,Fd s E L/\wo n L=o:=by
 unfold LM at h;rw [Qx,Qx] at h;obtain ⟨⟨h1,h2⟩,h4⟩:=h;cases ha:ua (eG s) (.live [] 0) with
 |none=>rw [ha] at h4;cases h4
 |some x=>
  obtain ⟨E,c,k⟩:=x;rw [ha] at h4;simp only at h4;rw [Qx] at h4;obtain ⟨h5,h8⟩:=h4;have hc:=QS h5;subst hc;cases hL:cQ oH E with
  |none=>rw [hL] at h8;cases h8
  |some L=>
   rw [hL] at h8;simp only at h8;have hsz:=QS h1;refine ⟨E,L,⟨by omega,QS h2,⟨k,t8 _ _ _ _ _ ha⟩,hL⟩,?_⟩;have:=QS h8;obtain ⟨⟨y⟩⟩:=o;show (⟨(Lw.gH n L).toArray⟩:ByteArray)=_;rw [this]
def OJ:Bool:=match ua (eG qu) (.live [] 0) with
 |some (_,c,k)=>decide (c=120) && decide (k=2) && match (eG qu)[2]? with
  |some t=>decide (t.a=10) && decide (t.l=1) && decide (t.c=11)
  |none=>false
 |none=>false
theorem Kg:OJ=true:=by kernel_rfl
theorem Kh:∃E t,gi (.live [] 0) (eG qu) E 120 2/\(eG qu)[2]?=some t/\t.a=10/\t.l=1/\t.c=11:=by
 have h:=Kg;unfold OJ at h;cases ha:ua (eG qu) (.live [] 0) with
 |none=>rw [ha] at h;cases h
 |some x=>
  obtain ⟨E,c,k⟩:=x;rw [ha] at h;simp only at h;rw [Qx,Qx] at h;obtain ⟨⟨h1,h2⟩,h3⟩:=h;obtain rfl:=QS h1;obtain rfl:=QS h2;cases ht:(eG qu)[2]? with
  |none=>rw [ht] at h3;cases h3
  |some t=>
   rw [ht] at h3;simp only at h3;rw [Qx,Qx] at h3;exact ⟨E,t,t8 _ _ _ _ _ ha,rfl,QS h3.1.1,QS h3.1.2,QS h3.2⟩
theorem G5:(eG qu).length<=4194304:=by have:=na qu;have:qu.size=15:=rfl;omega
theorem Cy (W:World) (hT:Lx.qp W) (hW:Lw.jR W) (hE:mh W):Qu 8 #[] W fun r w'=>r=.returned (.bool true)/\Qv W w':=by
 obtain ⟨E,L,hF,hw⟩:=Ih NV;obtain ⟨E2,t,hA2,ht,t1,t2,t3⟩:=Kh
 have H1:Hid (Qu 14 #[.int .i64 72,.string NR] W fun r w'=>r=.returned (.tuple #[.string Mc,.nilIface])/\Qv W w'):=by
  have:=gw hF (n:=72) (by decide) (by decide) hT hW hE;have e:wo (72:Int) L=Mc:=hw;rw [e] at this;exact this
 have H2:Hid (∀V,Qv W V->Qu 14 #[.int .i64 72,.string qu] V (Az V (.string ⟨#[]⟩) (fun c x y u=>c=120/\x=10/\y=1/\u=11))):=fun V hb=>by
  refine ic (by decide) (by decide) (jV (by decide) ((uI (hT.below hb) (hE.below hb) (by decide) rfl G5 hA2 (by decide) ht).mono ?_));rintro r w' ⟨g,e1,e2,e3,e4⟩;exact ⟨g,_,_,_,_,⟨rfl,t1,t2,t3⟩,e1,e2,e4⟩
 have H3:Hid (∀V g,Qv W V->V.heap[g]?=some (jE 120 10 1 11)->Qu 11 #[lk g,.agg #[.int .i64 120,.int .i64 10,.int .i64 1,.int .i64 11]] V fun r w'=>r=.returned (.bool true)/\Qv V w'):=fun V g hb h=>EJ g V (hE.below hb) h
 clear hT hW hE hF hw hA2 ht t1 t2 t3
 go_enter func8,ntmps8
 go_wp2_with fail
 refine H1.out.mono ?_;rintro r1 w1 ⟨rfl,hb1⟩;have HB1:Hid (Qv W w1):=hb1;clear hb1 H1
 go_wp2_with fail
 refine (H2.out _ HB1.out).mono ?_;rintro r2 w2 ⟨g,c,x,y,u,⟨rfl,rfl,rfl,rfl⟩,rfl,y1,y2⟩;have HB2:Hid (Qv W w2/\w2.heap[g]?=some (jE 120 10 1 11)):=⟨HB1.out.trans (y2.mono HB1.out.size),y1⟩;clear y1 y2 H2
 go_wp2_with fail
 refine (H3.out _ _ HB2.out.1 HB2.out.2).mono ?_;rintro r3 w3 ⟨rfl,y3⟩;have HB3:Hid (Qv W w3):=HB2.out.1.trans (y3.mono HB2.out.1.size);clear y3 H3
 go_wp2_with fail
 go_ret
 exact ⟨rfl,HB3.out⟩
theorem qU {S:ByteArray}(hF:Qr s S) (h0:(Lx.eM s).2.1=0) (h1:(Lx.eM S).2.1=0) (hs:s.size<=1000000000) (hS:S.size<=1000000000) {W:World}(hT:Lx.qp W) :
  Qu 15 #[.string s,.string S] W fun r w'=>r=.returned (.bool true)/\Qv W w':=by
 obtain ⟨l,hl⟩:∃l,eG s=l:=⟨_,rfl⟩;obtain ⟨l',hl'⟩:∃l',eG S=l':=⟨_,rfl⟩;have hlen:l'.length=l.length:=by rw [<-hl,<-hl'];exact hF.len
 have HLn:Hid (l'.length=l.length/\l.length<=1000000000):=⟨hlen,by have:=na s;rw [hl] at this;omega⟩;have HAt:Hid (∀(j:Nat) t t',l[j]?=some t->l'[j]?=some t'->t'.k=t.k/\t'.t=t.t/\(0<j->gE t->(t.f=0↔t'.f=0))):=by rw [<-hl,<-hl'];exact hF.at_
 have HS1:Hid (Qu 17 #[.string s] W fun e w'=>∃p c x y u,e=.returned (.tuple #[.slice p l.length c,.int .i64 0,.agg #[.int .i64 x,.int .i64 y,.int .i64 u]])/\Lt w' p l/\Qv W w'):=jf hT hs hl (by rw [h0];rfl)
 have HS2:Hid (∀V,Qv W V->Qu 17 #[.string S] V fun e w'=>∃p c x y u,e=.returned (.tuple #[.slice p l.length c,.int .i64 0,.agg #[.int .i64 x,.int .i64 y,.int .i64 u]])/\Lt w' p l'/\Qv V w'):=fun V hb=>by
  have:=jf (hT.below hb) hS hl' (z:=0) (by rw [h1];rfl);rw [hlen] at this;exact this
 clear hF h0 h1 hs hS hT hl hl' hlen
 go_enter func15,ntmps15
 go_wp2_with fail
 refine HS1.out.mono ?_;rintro e w1 ⟨p2,c2,x,y,u,rfl,hL1,hb1⟩;obtain ⟨V1,eV1⟩:∃V1,w1.alloc (Eh x y u)=V1:=⟨_,rfl⟩
 have H1:Hid (Qv W V1/\Lt V1 p2 l):=by
  have hx:Qv w1 V1:=by rw [<-eV1];exact (hH _ _).alloc (gt _) _
  exact ⟨hb1.trans (hx.mono hb1.size),hL1.below hx⟩
 clear hL1 hb1 HS1
 go_wp2_with fail
 try rw [eV1]
 clear eV1;refine (HS2.out _ H1.out.1).mono ?_;rintro e w2 ⟨p6,c6,x',y',u',rfl,hL2,hb2⟩;obtain ⟨V2,eV2⟩:∃V2,w2.alloc (Eh x' y' u')=V2:=⟨_,rfl⟩
 have H2:Hid (Qv W V2/\Lt V2 p2 l/\Lt V2 p6 l'):=by
  have hx:Qv w2 V2:=by rw [<-eV2];exact (hH _ _).alloc (gt _) _
  have hy:Qv V1 V2:=hb2.trans (hx.mono hb2.size);exact ⟨H1.out.1.trans (hy.mono H1.out.1.size),H1.out.2.below hy,hL2.below hx⟩
 clear hL2 hb2 H1 HS2
 go_wp2_with fail
 try rw [eV2]
 clear eV2
 go_loopw [11,12] (fun i _ wr=>∃j:Nat,j<=l.length/\i=.int .i64 j/\Hid (Qv W wr/\Lt wr p2 l/\Lt wr p6 l')) (fun i _ _=>l.length-(intOf i).toNat)
 case atStart=>exact ⟨0,Qw _,rfl,H2.out⟩
 case round=>
  obtain ⟨j,hj,rfl,HJ⟩:=hrel;clear H2;have hll:=HLn.out.2
  by_cases hlt:j<l.length
  ·have q1:(j:Int)<l.length:=by omega
   have q0:(0:Int)<=j:=by omega
   obtain ⟨t,ht⟩:∃t,l[j]?=some t:=⟨_,Pi hlt⟩;obtain ⟨t',ht'⟩:∃t',l'[j]?=some t':=⟨_,Pi (by rw [HLn.out.1];exact hlt)⟩;obtain ⟨e1,e2,e3⟩:=HAt.out j t t' ht ht';obtain ⟨b,off,rfl,x0,x1,x2,x3,x4,x5⟩:=HJ.out.2.1 j t ht;obtain ⟨b',off',rfl,y0,y1,y2,y3,y4,y5⟩:=HJ.out.2.2 j t' ht';rw [e1] at y0;rw [e2] at y1;obtain ⟨f',hf'⟩:∃f',t'.f=f':=⟨_,rfl⟩;rw [hf'] at y5 e3;obtain ⟨k,tt,ta,tl,tc,f⟩:=t
   dsimp only at *
   have e4:0<j->(k=7\/k=8)->(f=0↔f'=0):=fun h1 h2=>e3 h1 h2
   have HX:Hid (∀V,Qv wr V->Qv W V/\Lt V (some ⟨b,off,none⟩) l/\Lt V (some ⟨b',off',none⟩) l'):=fun V hb=>⟨HJ.out.1.trans (hb.mono HJ.out.1.size),HJ.out.2.1.below hb,HJ.out.2.2.below hb⟩
   have hcs:(k≠7/\k≠8)\/((k=7\/k=8)/\(j=0\/(0<j/\((f=0/\f'=0)\/(f≠0/\f'≠0))))):=by
    by_cases h7:k=7\/k=8
    ·refine .inr ⟨h7,?_⟩
     by_cases hj0:0<j
     ·refine .inr ⟨hj0,?_⟩;have:=e4 hj0 h7
      by_cases hf:f=0
      ·exact .inl ⟨hf,this.1 hf⟩
      ·exact .inr ⟨hf,fun h=>hf (this.2 h)⟩
     ·exact .inl (by omega)
    ·exact .inl ⟨fun h=>h7 (.inl h),fun h=>h7 (.inr h)⟩
   clear ht ht' e1 e2 e3 e4 hf' HJ HAt x2 x3 x4 y2 y3 y4
   rcases hcs with ⟨h7,h8⟩|⟨hk,hr⟩
   case' inl=>
    have q7:(k == 7)=false:=by simpa using h7
    have q8:(k == 8)=false:=by simpa using h8
    clear h7 h8
   case' inr=>
    rcases hr with hj0|⟨hj0,hr⟩
    case' inl=>
     have r0:¬(0:Int)<j:=by omega
     have r2:decide ((0:Int)<(j:Int))=false:=QH r0;have r3:decide (0<j)=false:=QH (by omega);have r4:¬0<j:=by omega
     clear hj0
    case' inr=>
     have r0:(0:Int)<j:=by omega
     have r2:decide ((0:Int)<(j:Int))=true:=QF r0;have r3:decide (0<j)=true:=QF hj0;have r4:0<j:=hj0;clear hj0
     rcases hr with ⟨rfl,rfl⟩|⟨hf,hf'⟩
     case' inl=>skip
     case' inr=>
      have q5:(f == 0)=false:=by simpa using hf
      have q6:(f' == 0)=false:=by simpa using hf'
      clear hf hf'
    all_goals rcases hk with rfl|rfl
   all_goals (
    go_wp2_with fail
    have u0:=fun x:HW (SG wr)=>bR x0 x.h
    have u1:=fun x:HW (SG wr)=>bR x1 x.h
    have u5:=fun x:HW (SG wr)=>bR x5 x.h
    have v0:=fun x:HW (SG wr)=>bR y0 x.h
    have v1:=fun x:HW (SG wr)=>bR y1 x.h
    have v5:=fun x:HW (SG wr)=>bR y5 x.h
    have hne:Nonempty (HW (SG wr)):=⟨⟨wr.drew,(hH _ _).drew⟩⟩;have hex:∀x:HW (SG wr),∃y:HW (SG wr),x.W=y.W:=fun x=>⟨x,rfl⟩
    clear x0 x1 x5 y0 y1 y5;refine cP (S:=SG wr) (by kernel_rfl) (by kernel_rfl) (hH _ _).drew ?_
    iterate 46 (go_big_quiet_step (fail))
    refine wpQuiet_nil ?_;rintro w9 ⟨⟨W9,hS9⟩,rfl⟩;have H9:Hid (Qv wr w9):=hS9;clear hS9 hne hex u0 u1 u5 v0 v1 v5
    go_wp2_with fail
    exact ⟨⟨_,hlt,by go_num,HX.out _ H9.out⟩,by simp [intOf];omega⟩)
  ·obtain rfl:j=l.length:=by omega
   have q1:¬((l.length:Int)<l.length):=by omega
   have HB:Hid (Qv W wr):=HJ.out.1;clear HJ
   go_wp2_with fail
   go_ret
   exact ⟨rfl,HB.out⟩
theorem C4 {x:ByteArray}(h:x.size≠0):x.toList.isEmpty=false:=by
 rw [Lx.m9,List.isEmpty_eq_false_iff];intro e;have h2:=QM List.length e;rw [Rh] at h2;exact h h2
structure Qf (s:ByteArray) (L:List Dc) (n:Int) (T:ByteArray):Prop where
 pos:0<T.size
 fst:(Lx.ay T 0:Nat)≠10
 lst:Lx.ay T (T.size-1)=10
 tw:Qr s T
 sc:(Lx.eM T).2.1=0
 fd:T.size<=262144->∃E',Fd T E' L
 sz:T.size<=2147483647
theorem yy (h:Fd s E L) (n:Int):Qf s L n (wo n L):=by
 obtain ⟨a,hA⟩:=h.al;obtain ⟨L2,hL2,_,hall⟩:=ox s h.sc hA;obtain rfl:=Q7 (hL2.symm.trans h.ly);obtain ⟨c1,⟨E',hA',hL'⟩,hR⟩:=hall n.toNat;obtain ⟨f1,f2,f3,f4,f5,f6⟩:=pU h;obtain ⟨y,m,e,hy⟩:=xa h.sc hA h.ly n.toNat
 have hz:(wo n L2).size<=qI L2:=by
  have h9:=Lw.sp (n:=n.toNat) L2 (Lw.eJ L2).1 Lw.qy 0 f5 Lw.Qp;have h1:=h9.out;show (Lw.gH n.toNat L2).toArray.size<=_;rw [SH];show (Lw.puts n.toNat L2 (Lw.eJ L2).1 Lw.qy).sk.out.length<=_;omega
 have hs:(wo n L2).size=m.length+2:=by
  show (Lw.gH n.toNat L2).toArray.size=_
  rw [SH,e];simp
 have hl:jD (wo n L2)=y :: (m++[10]):=by
  show (Lw.gH n.toNat L2).toArray.toList=_
  rw [e]
 have b0:=jk (wo n L2) 0 (by omega);have b1:=jk (wo n L2) ((wo n L2).size-1) (by omega);rw [hl] at b0 b1;have hs1:(wo n L2).size-1=m.length+1:=by omega
 refine ⟨by omega,?_,?_,⟨LX hR,fun j t t' x1 x2=>?_⟩,c1,fun h2=>⟨E',h2,c1,⟨a,hA'⟩,hL'⟩,by omega⟩
 ·rw [<-b0];simpa using hy
 ·rw [<-b1,hs1];simp
 ·obtain ⟨a1,a2,a3⟩:=NZ hR x1 x2;exact ⟨a1,a2,fun hj hn=>a3 (.inr hj) hn⟩
theorem xR (n m:Int) (s:ByteArray) (hs:s.size<=maxLen) (W:World) (hT:Lx.qp W) (hW:Lw.jR W) (hE:mh W) :
  Qu 5 #[.int .i64 n,.int .i64 m,.string s] W fun r w'=>r=.returned (.bool true)/\Qv W w':=by
 have HAw:Hid (Qu 8 #[] W fun r w'=>r=.returned (.bool true)/\Qv W w'):=Cy W hT hW hE
 by_cases hb:1048576<s.size
 ·have q:(s.size:Int)>1048576:=by omega
  clear hT hW hE hb
  go_enter func5,ntmps5
  go_wp2_with fail
  refine HAw.out.mono ?_;rintro r w1 ⟨rfl,hb1⟩;have H1:Hid (Qv W w1):=hb1;clear hb1
  go_wp2_with fail
  go_ret
  exact ⟨rfl,H1.out⟩
 ·have q:¬((s.size:Int)>1048576):=by omega
  have hsz:s.size<=1048576:=by omega
  clear hb
  rcases BU s hs n with ⟨n1,n2,E,L,hF⟩|hX
  ·have hTo:=yy hF n;have HF1:Hid (∀V,Qv W V->Qu 14 #[.int .i64 n,.string s] V fun r w'=>r=.returned (.tuple #[.string (wo n L),.nilIface])/\Qv V w'):=fun V hb=>gw hF n1 n2 (hT.below hb) (hW.below hb) (hE.below hb)
   obtain ⟨T,hTT⟩:∃T,wo n L=T:=⟨_,rfl⟩;rw [hTT] at hTo HF1;have hpos:=hTo.pos;have z1:T.toList.isEmpty=false:=C4 (by omega);have hsT:=hTo.sz;have z2:((T.size:Int)-1).toNat<T.size:=by omega
   have z3:wrap64 ((T.size:Int)-1)=(T.size:Int)-1:=by unfold wrap64;omega
   have z4:(((T[0]'hpos).toNat:Int) == 10)=false:=by
    have:=Lx.Am T 0 hpos;have:=hTo.fst;simp only [QQ,ne_eq];omega
   have z5:((T[T.size-1]'(by omega)).toNat:Int)=10:=by
    have h1:=Lx.Am T (T.size-1) (by omega);have h2:=hTo.lst;omega
   have z6:(0:Int)<=(T.size:Int)-1/\(T.size:Int)-1<T.size:=by omega
   by_cases hlong:262144<T.size
   ·have q2:(T.size:Int)>262144:=by omega
    clear hT hW hE hF hTo hTT hlong
    go_enter func5,ntmps5
    go_wp2_with fail
    refine HAw.out.mono ?_;rintro r w1 ⟨rfl,hb1⟩;have H1:Hid (Qv W w1):=hb1;clear hb1
    go_wp2_with fail
    refine (HF1.out _ H1.out).mono ?_;rintro r w2 ⟨rfl,hb2⟩;have H2:Hid (Qv W w2):=H1.out.trans (hb2.mono H1.out.size);clear hb2
    go_wp2_with fail
    go_ret
    exact ⟨rfl,H2.out⟩
   ·have q2:¬((T.size:Int)>262144):=by omega
    obtain ⟨E',hF'⟩:=hTo.fd (by omega)
    have HF2:Hid (∀V,Qv W V->Qu 14 #[.int .i64 n,.string T] V fun r w'=>r=.returned (.tuple #[.string T,.nilIface])/\Qv V w'):=fun V hb=>by
     have:=gw hF' n1 n2 (hT.below hb) (hW.below hb) (hE.below hb);rw [hTT] at this;exact this
    have HSy:Hid (∀V,Qv W V->Qu 15 #[.string s,.string T] V fun r w'=>r=.returned (.bool true)/\Qv V w'):=fun V hb=>qU hTo.tw hF.sc hTo.sc (by omega) (by omega) (hT.below hb)
    have hcs:(∃S,S.size<=2147483647/\262144<S.size/\∀V,Qv W V->Qu 14 #[.int .i64 m,.string T] V fun r w'=>r=.returned (.tuple #[.string S,.nilIface])/\Qv V w') \/
      (∃S,S.size<=262144/\(∀V,Qv W V->Qu 14 #[.int .i64 m,.string T] V fun r w'=>r=.returned (.tuple #[.string S,.nilIface])/\Qv V w')/\∀V,Qv W V->Qu 15 #[.string s,.string S] V fun r w'=>r=.returned (.bool true)/\Qv V w') \/
      ∀V,Qv W V->Qu 14 #[.int .i64 m,.string T] V (Az V (.string ⟨#[]⟩) (fun _ _ _ _=>True)):=by
     by_cases hm:m<1\/4096<m
     ·exact .inr (.inr fun V hb=>pN hm)
     ·have hTm:=yy hF m;have hF3:=fun V (hb:Qv W V)=>gw hF' (n:=m) (by omega) (by omega) (hT.below hb) (hW.below hb) (hE.below hb)
      by_cases h9:(wo m L).size<=262144
      ·exact .inr (.inl ⟨_,h9,hF3,fun V hb=>qU hTm.tw hF.sc hTm.sc (by omega) (by omega) (hT.below hb)⟩)
      ·exact .inl ⟨_,hTm.sz,by omega,hF3⟩
    clear hT hW hE hF hF' hTo hTT hlong
    go_enter func5,ntmps5
    go_wp2_with fail
    refine HAw.out.mono ?_;rintro r w1 ⟨rfl,hb1⟩;have H1:Hid (Qv W w1):=hb1;clear hb1 HAw
    go_wp2_with fail
    refine (HF1.out _ H1.out).mono ?_;rintro r w2 ⟨rfl,hb2⟩;have H2:Hid (Qv W w2):=H1.out.trans (hb2.mono H1.out.size);clear hb2 HF1
    go_wp2_with fail
    refine (HF2.out _ H2.out).mono ?_;rintro r w3 ⟨rfl,hb3⟩;have H3:Hid (Qv W w3):=H2.out.trans (hb3.mono H2.out.size);clear hb3 HF2
    go_wp2_with fail
    refine (HSy.out _ H3.out).mono ?_;rintro r w4 ⟨rfl,hb4⟩;have H4:Hid (Qv W w4):=H3.out.trans (hb4.mono H3.out.size);clear hb4 HSy
    rcases hcs with ⟨S,s1,s2,hF3⟩|⟨S,s1,hF3,hSy⟩|hX
    ·have HF3:Hid (∀V,Qv W V->Qu 14 #[.int .i64 m,.string T] V fun r w'=>r=.returned (.tuple #[.string S,.nilIface])/\Qv V w'):=hF3;have q3:(S.size:Int)>262144:=by omega
     clear hF3 s2
     go_wp2_with fail
     refine (HF3.out _ H4.out).mono ?_;rintro r w5 ⟨rfl,hb5⟩;have H5:Hid (Qv W w5):=H4.out.trans (hb5.mono H4.out.size);clear hb5
     go_wp2_with fail
     go_ret
     exact ⟨rfl,H5.out⟩
    ·have HF3:Hid (∀V,Qv W V->Qu 14 #[.int .i64 m,.string T] V fun r w'=>r=.returned (.tuple #[.string S,.nilIface])/\Qv V w'):=hF3;have HSy:Hid (∀V,Qv W V->Qu 15 #[.string s,.string S] V fun r w'=>r=.returned (.bool true)/\Qv V w'):=hSy;have q3:¬((S.size:Int)>262144):=by omega
     clear hF3 hSy
     go_wp2_with fail
     refine (HF3.out _ H4.out).mono ?_;rintro r w5 ⟨rfl,hb5⟩;have H5:Hid (Qv W w5):=H4.out.trans (hb5.mono H4.out.size);clear hb5
     go_wp2_with fail
     refine (HSy.out _ H5.out).mono ?_;rintro r w6 ⟨rfl,hb6⟩;have H6:Hid (Qv W w6):=H5.out.trans (hb6.mono H5.out.size);clear hb6
     go_wp2_with fail
     go_ret
     exact ⟨rfl,H6.out⟩
    ·have HX:Hid (∀V,Qv W V->Qu 14 #[.int .i64 m,.string T] V (Az V (.string ⟨#[]⟩) (fun _ _ _ _=>True))):=hX;clear hX
     go_wp2_with fail
     refine (HX.out _ H4.out).mono ?_;rintro r w5 ⟨g,c,x,y,u,_,rfl,_,hb5⟩;have H5:Hid (Qv W w5):=H4.out.trans (hb5.mono H4.out.size);clear hb5
     go_wp2_with fail
     go_ret
     exact ⟨rfl,H5.out⟩
  ·have HX:Hid (∀V,Qv W V->Qu 14 #[.int .i64 n,.string s] V (Az V (.string ⟨#[]⟩) (fun _ _ _ _=>True))):=fun V hb=>hX V (hT.below hb) (hE.below hb)
   clear hX hT hW hE
   go_enter func5,ntmps5
   go_wp2_with fail
   refine HAw.out.mono ?_;rintro r w1 ⟨rfl,hb1⟩;have H1:Hid (Qv W w1):=hb1;clear hb1
   go_wp2_with fail
   refine (HX.out _ H1.out).mono ?_;rintro r w2 ⟨g,c,x,y,u,_,rfl,_,hb2⟩;have H2:Hid (Qv W w2):=H1.out.trans (hb2.mono H1.out.size);clear hb2
   go_wp2_with fail
   go_ret
   exact ⟨rfl,H2.out⟩
end Go.Proofs.YtacohdpndpliaaaGreatDoor
