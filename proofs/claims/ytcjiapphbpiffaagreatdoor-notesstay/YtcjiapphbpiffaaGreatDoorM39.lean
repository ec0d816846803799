import Derived.Test.YtcjiapphbpiffaaGreatDoorM15
import Derived.Test.YtcjiapphbpiffaaGreatDoorM38
set_option linter.unusedVariables false
set_option linter.unusedSimpArgs false
set_option maxHeartbeats 2000000
namespace Go.Proofs.YtcjiapphbpiffaaGreatDoor
open Go.RowKit
open Lw (Dc bE rt cG dD fu iC bZ aX cy)
variable {w W:World}{ao:Option Addr}{l:List Ev}{v:Value}
def IP (w:World) (ao:Option Addr) (l:List Ev):Prop:=∀j e,l[j]?=some e->∃b off,ao=some ⟨b,off,none⟩ /\
 w.cell? ⟨b,off+j*8,none⟩=some (.int .u8 e.k)/\w.cell? ⟨b,off+j*8+1,none⟩=some (.int .u8 e.n)/\w.cell? ⟨b,off+j*8+2,none⟩=some (.int .u8 e.d.k)/\w.cell? ⟨b,off+j*8+3,none⟩=some (.string e.d.t)/\w.cell? ⟨b,off+j*8+4,none⟩=some (.int .i64 e.d.a)/\w.cell? ⟨b,off+j*8+5,none⟩=some (.int .i64 e.d.l)/\w.cell? ⟨b,off+j*8+6,none⟩=some (.int .i64 e.d.c)/\w.cell? ⟨b,off+j*8+7,none⟩=some (.int .i64 e.d.f)
theorem IP.below {w':World}(h:IP w ao l) (M:Below w.heap.size w w'):IP w' ao l:=by
 intro j a J;obtain ⟨b,F,I,c0,c1,c2,c3,c4,G,c6,H⟩:=h j a J;have C:=S9 _ _ c0;have e:w'.heap[b]?=w.heap[b]?:=(Kp.of_below (S:=fun _=>False) M).block b C (fun h=>h);exact ⟨b,F,I,(S8 (a:=⟨b,_,none⟩) e).trans c0,(S8 (a:=⟨b,_,none⟩) e).trans c1,(S8 (a:=⟨b,_,none⟩) e).trans c2,(S8 (a:=⟨b,_,none⟩) e).trans c3,(S8 (a:=⟨b,_,none⟩) e).trans c4,(S8 (a:=⟨b,_,none⟩) e).trans G,(S8 (a:=⟨b,_,none⟩) e).trans c6,(S8 (a:=⟨b,_,none⟩) e).trans H⟩
theorem ND {p:Option Addr}{n cap:Nat}(h:Re w (.slice p n cap) l):IP w p l:=by
 intro j d C
 rcases h.2 with ⟨G,H⟩|⟨g,cap',J,G,_⟩
 ·have:l=[]:=Tl H;subst this;simp at C
 ·cases G
  have F:∀(k:Nat) (u:Value),(xM l)[k]?=some u->w.cell? ⟨g,k,none⟩=some u:=fun k u I=>by
   have:=Vd h (g:=g) rfl k u I;rw [UA,Td] at this;exact this
  refine ⟨g,0,rfl,?_,?_,?_,?_,?_,?_,?_,?_⟩
  ·rw [Td];exact F _ _ (aR Ev.cs 8 Ev.cs_len l j 0 d _ C rfl)
  ·rw [Td];exact F _ _ (aR Ev.cs 8 Ev.cs_len l j 1 d _ C rfl)
  ·rw [Td];exact F _ _ (aR Ev.cs 8 Ev.cs_len l j 2 d _ C rfl)
  ·rw [Td];exact F _ _ (aR Ev.cs 8 Ev.cs_len l j 3 d _ C rfl)
  ·rw [Td];exact F _ _ (aR Ev.cs 8 Ev.cs_len l j 4 d _ C rfl)
  ·rw [Td];exact F _ _ (aR Ev.cs 8 Ev.cs_len l j 5 d _ C rfl)
  ·rw [Td];exact F _ _ (aR Ev.cs 8 Ev.cs_len l j 6 d _ C rfl)
  ·rw [Td];exact F _ _ (aR Ev.cs 8 Ev.cs_len l j 7 d _ C rfl)
theorem IP.kp {S:Nat->Prop}{w w':World}{ao:Option Addr}{l:List Ev}(h:IP w ao l) (O:Kp S w w') (J:∀b C,ao=some ⟨b,C,none⟩->¬S b):IP w' ao l:=by
 intro j a M;obtain ⟨b,C,G,c0,c1,c2,c3,c4,H,c6,I⟩:=h j a M;have F:=S9 _ _ c0;have e:w'.heap[b]?=w.heap[b]?:=O.block b F (J b C G);exact ⟨b,C,G,(S8 (a:=⟨b,_,none⟩) e).trans c0,(S8 (a:=⟨b,_,none⟩) e).trans c1,(S8 (a:=⟨b,_,none⟩) e).trans c2,(S8 (a:=⟨b,_,none⟩) e).trans c3,(S8 (a:=⟨b,_,none⟩) e).trans c4,(S8 (a:=⟨b,_,none⟩) e).trans H,(S8 (a:=⟨b,_,none⟩) e).trans c6,(S8 (a:=⟨b,_,none⟩) e).trans I⟩
structure YI (w:World) (ao:Option Addr) (E:List Ev) (g:Nat) (v:Value) (D:List Dc) (st:xE) (S:Nat->Prop) (W:World):Prop where
 bel:Below w.heap.size w W
 sq:Sq S W g st
 sB:∀k,S k->w.heap.size<=k
 rd:Rd W v D
 vB:∀k,v.ownBlock=some k->w.heap.size<=k/\¬S k
 lev:IP W ao E
 eb:∀b off,ao=some ⟨b,off,none⟩->b<W.heap.size/\¬S b/\v.ownBlock≠some b
structure YJ (w:World) (ao:Option Addr) (E:List Ev) (g:Nat) (v x:Value) (D ds:List Dc) (st:xE) (W:World):Prop where
 rv:Rd W v D
 rx:Rd W x ds
 fin:∀v' w',Rd w' v' (D++ds)->Kp (fun k=>v.ownBlock=some k) W w'->Nb W v v'->∃S,YI w ao E g v' (D++ds) st S w'
theorem PV {l:List Dc}(h:Rd W v l):∀k,v.ownBlock=some k->k<W.heap.size:=by
 intro k C
 rcases h.2 with ⟨rfl,_⟩|⟨b,cap,G,rfl,_,F,_⟩
 ·cases C
 ·simp only [Value.ownBlock,Tp] at C;subst C;exact au F
theorem YI.call {E:List Ev}{g:Nat}{D:List Dc}{st:xE}{S:Nat->Prop}{W':World}(h:YI w ao E g v D st S W) {x:Value}{ds:List Dc}{st':xE}(hp:Aq S g W W' x ds st'):YJ w ao E g v x D ds st' W':=by
 obtain ⟨⟨M,p1,Y,p4⟩,ab,F⟩:=hp;have U:Below w.heap.size w W':=nY h.bel F (fun k G=>h.sB k G) h.bel.size
 have ac:∀k,M k->w.heap.size<=k:=by
  intro k G
  rcases Y k G with a|a
  ·exact h.sB k a
  ·exact SY h.bel.size a
 have hv:Rd W' v D:=F.row h.rd (fun k e=>(h.vB k e).2)
 have J:∀k,v.ownBlock=some k->w.heap.size<=k/\¬M k:=by
  intro k e;refine ⟨(h.vB k e).1,fun I=>?_⟩
  rcases Y k I with a|a
  ·exact (h.vB k e).2 a
  ·have:=PV h.rd k e;omega
 have aa:IP W' ao E:=h.lev.kp F (fun b C e=>(h.eb b C e).2.1)
 have Z:∀b C,ao=some ⟨b,C,none⟩->b<W'.heap.size/\¬M b:=by
  intro b C e;obtain ⟨H,Q,O⟩:=h.eb b C e;refine ⟨Tn H F.size,fun I=>?_⟩
  rcases Y b I with a|a
  ·exact Q a
  ·omega
 refine ⟨hv,ab,fun v' w' hr G hn=>⟨M,?_⟩⟩;refine ⟨nY U G (fun k e=>(h.vB k e).1) U.size,p1.kp G (fun k I e=>(J k e).2 I),ac,hr,?_,aa.kp G (fun b C e=>(h.eb b C e).2.2),?_⟩
 ·intro k e
  rcases hn with H|⟨q,H,hq⟩
  ·exact J k (by rw [<-H];exact e)
  ·rw [H] at e;simp at e;subst e;exact ⟨SY U.size hq,fun I=>by have:=p1.lt _ I;omega⟩
 ·intro b C e;obtain ⟨H,Q⟩:=Z b C e;refine ⟨Tn H G.size,Q,?_⟩
  rcases hn with O|⟨q,O,hq⟩
  ·rw [O];exact (h.eb b C e).2.2
  ·rw [O];intro e4;simp at e4;omega
theorem EC {s:Sy}{e:Ev}{r:List Ev}:du s (e :: r)=match dO s e with|none=>none|some (s',l)=>(du s' r).map (l++·):=rfl
theorem KK {O:Nat->Prop}(n:bQ) (pn:Option Addr) (cn:Nat) (W:World) (ht:TN O W n (.slice pn n.c.length cn)) {E:List Ev}(ai:om n=E) (hl:E.length<=30000000) (ar:∀e∈E,e.d.t.size<=9223372036854775807) {L:List Dc}(hL:du sx E=some L) :
  Ta 22 #[eF n.k n.d (.slice pn n.c.length cn)] W fun r w'=>∃p c,r=.returned (.tuple #[.slice p L.length c,.int .i64 0])/\Rd w' (.slice p L.length c) L/\Below W.heap.size W w'/\L.length<=12*E.length+12:=by
 obtain ⟨G,e0⟩:∃G,W.alloc (bz n.k n.d (.slice pn n.c.length cn))=G:=⟨_,rfl⟩;obtain ⟨g0,hg0⟩:∃g0,W.heap.size=g0:=⟨_,rfl⟩;have Z:Below W.heap.size W G:=by rw [<-e0];exact (hH _ _).alloc (gt _) _
 have H0:Hid (Below W.heap.size W G/\G.heap[g0]?=some (bz n.k n.d (.slice pn n.c.length cn))):=⟨Z,by rw [<-e0,<-hg0];exact aq _ _⟩;have HM:Hid (E.length<=30000000/\∀e∈E,e.d.t.size<=9223372036854775807):=⟨hl,ar⟩
 have av:Hid (∀V,Below G.heap.size G V->Ta 38 #[eF n.k n.d (.slice pn n.c.length cn)] V fun r w'=>∃p c,r=.returned (.slice p E.length c)/\IP w' p E/\Below V.heap.size V w'/\(∀b F,p=some ⟨b,F,none⟩->V.heap.size<=b/\b<w'.heap.size)):=fun V hb=>by
  have M:Below W.heap.size W V:=Z.trans (hb.mono Z.size);refine (yV n _ V (TN.see n _ (TN.kp (Kp.of_below (S:=fun _=>False) M) (fun _ _ h=>h) n _ ht)) (by rw [ai];omega)).mono ?_;rintro r w' ⟨v',rfl,h1,h2,h3⟩;rw [ai] at h2;obtain ⟨p',c',e,_⟩:=h2.shape;subst e;refine ⟨p',c',rfl,ND h2,h1,fun b F e=>?_⟩;subst e
  have ab:b<w'.heap.size:=by
   rcases h2.2 with ⟨h9,_⟩|⟨b9,az,ba,h9,_,aw,_⟩
   ·cases h9
   ·cases h9;exact au aw
  exact ⟨h3 b rfl,ab⟩
 have ac:Hid (∀V,Ta 37 #[] V fun r w'=>r=.returned (cd V.heap.size)/\Sq (fun k=>k=V.heap.size) w' V.heap.size (.live sx)/\Below V.heap.size V w'):=yF;have HL:Hid (du sx E=some L):=hL
 dsimp only [bz] at e0
 clear hl ar Z ht ai hL
 go_enter Tryz.func22,Tryz.ntmps22
 go_wp2_with fail
 try rw [e0]
 try rw [hg0]
 clear e0;refine (ac.out _).mono ?_;rintro r w5 ⟨rfl,hq,hb⟩;obtain ⟨g,hg⟩:∃g,G.heap.size=g:=⟨_,rfl⟩;have HQ:Hid (Sq (fun k=>k=g) w5 g (.live sx)/\Below G.heap.size G w5):=by rw [<-hg];exact ⟨hq,hb⟩
 obtain ⟨⟨c0,c1,c2,c3,c4,c5,c6,c7⟩,cl⟩:=aE (ag H0.out.2 hb);have ay:g<w5.heap.size:=HQ.out.1.lt g rfl;clear hq hb ac
 go_wp2_with fail
 refine (av.out _ HQ.out.2).mono ?_;rintro r w6 ⟨ao,ca,rfl,ak,ah,af⟩
 try rw [hg]
 have HI:Hid (∃S,YI G ao E g (.slice none 0 0) [] (.live sx) S w6):=⟨_,HQ.out.2.trans (ah.mono HQ.out.2.size),HQ.out.1.below ah,fun k e=>by rw [e,hg];exact gt _,lS _,(fun k e=>by cases e),ak,fun b F e=>⟨(af b F e).2,(fun e'=>by have e2:b=g:=e';have:=(af b F e).1;omega),(fun e=>by cases e)⟩⟩;clear ak ah af c0 c1 c2 c3 c4 c5 c6 c7 cl ay hg
 go_wp2_with fail
 go_loopw [5,7,8,9,16] (fun v _ _ _ i wr=>∃j:Nat,j<=E.length/\i=.int .i64 j/\Hid (∃S s D,YI G ao E g v D (.live s) S wr/\du sx E=(du s (E.drop j)).map (D++·)/\D.length+fI s<=12*j/\s.ns.length<=j/\Mo s)) (fun _ _ _ _ i _=>E.length-(intOf i).toNat)
 case atStart=>
  obtain ⟨S,H⟩:=HI.out;exact ⟨0,SW _,rfl,S,_,[],H,by simp,by decide,by decide,fun m hm=>by cases hm⟩
 case round=>
  obtain ⟨j,hj,rfl,HJ⟩:=hrel;obtain ⟨S,s,D,H,hR,hz,hn,hm⟩:=HJ.out;obtain ⟨pv,cpv,hv,_⟩:=bG H.rd;subst hv;obtain ⟨hEl,hEt⟩:=HM.out;have aa:Q1 (.live s):=Nk (j:=j) (by omega) hn hm (by omega)
  by_cases ab:j<E.length
  ·have q1:(j:Int)<E.length:=by omega
   have q0:(0:Int)<=j:=by omega
   obtain ⟨t,hT⟩:∃t,E[j]?=some t:=⟨_,Pi ab⟩
   have an:E.drop j=t :: E.drop (j+1):=by
    obtain ⟨a1,a2⟩:=Te.1 hT;rw [TD a1,a2]
   have ap:=hEt t (T3 hT);obtain ⟨b,F,rfl,x0,x1,x2,x3,x4,x5,x6,x7⟩:=H.lev j t hT;rw [an,EC] at hR;have I:Below wr.heap.size wr (wr.alloc (DT t.k t.n t.d)):=(hH _ _).alloc (gt _) _;obtain ⟨V1,eV1⟩:∃V1,wr.alloc (DT t.k t.n t.d)=V1:=⟨_,rfl⟩;rw [eV1] at I;have ae:YI G (some ⟨b,F,none⟩) E g (.slice pv D.length cpv) D (.live s) S V1:=⟨H.bel.trans (I.mono H.bel.size),H.sq.below I,H.sB,bv H.rd I,H.vB,H.lev.below I,fun b' ad e=>⟨Tn (H.eb b' ad e).1 I.size,(H.eb b' ad e).2⟩⟩;obtain ⟨g7,hg7⟩:∃g7,wr.heap.size=g7:=⟨_,rfl⟩;have am:V1.heap[g7]?=some (DT t.k t.n t.d):=by rw [<-eV1,<-hg7];exact aq _ _
   obtain ⟨⟨y0,y1,y2,y3,y4,y5,y6,y7⟩,yl⟩:=ql am;have hP:=EA ae.sq aa t ap;clear HJ HI an hT aa ap hEt H am;cases hs:dO s t with
   |none=>
    rw [hs,HL.out] at hR;cases hR
   |some pr=>
    obtain ⟨s',C⟩:=pr;rw [hs] at hR;have U:Ct t (.live s)=(0,C,.live s'):=by show (match dO s t with|none=>_|some (s',l)=>_)=_;rw [hs]
    rw [U] at hP;have HP:Hid (Ta 39 #[cd g,.agg #[.int .u8 t.k,.int .u8 t.n,.int .u8 t.d.k,.string t.d.t,.int .i64 t.d.a,.int .i64 t.d.l,.int .i64 t.d.c,.int .i64 t.d.f]] V1 fun rr w'=>∃v,rr=.returned (.tuple #[v,.int .i64 0])/\Aq S g V1 w' v C (.live s')):=hP;have HN:Hid (∀w' x,Aq S g V1 w' x C (.live s')->YJ G (some ⟨b,F,none⟩) E g (.slice pv D.length cpv) x D C (.live s') w'):=fun w' x M=>ae.call M
    obtain ⟨z1,z2,z3⟩:=Ka hs;have al:du sx E=((du s' (E.drop (j+1))).map (C++·)).map (D++·):=hR;have HK:Hid (du sx E=(du s' (E.drop (j+1))).map ((D++C)++·)/\(D++C).length+fI s'<=12*(j+1)/\s'.ns.length<=j+1/\Mo s'/\D.length+C.length<=1000000000000):=⟨by rw [al];generalize du s' (E.drop (j+1))=o;cases o <;> simp,by rw [Or];omega,by omega,z3 hm,by omega⟩
    dsimp only [DT] at eV1
    clear ae hR al hP U hs hz hn hm z1 z2 z3 I
    go_wp2_with fail
    try rw [eV1]
    try rw [hg7]
    clear eV1 hg7;refine HP.out.mono ?_;rintro r w7 ⟨x,rfl,M⟩;have Y:Hid (YJ G (some ⟨b,F,none⟩) E g (.slice pv D.length cpv) x D C (.live s') w7):=HN.out _ _ M;obtain ⟨px,cx,hxs,_⟩:=bG Y.out.rx;subst hxs;clear M y0 y1 y2 y3 y4 y5 y6 y7 yl
    go_wp2_with (at_builtin;refine Io (by rfl) _ _ (by rfl) (.slice pv D.length cpv) (.slice px C.length cx) D C (by rfl) Y.out.rv (by rfl) Y.out.rx HK.out.2.2.2.2 ?_;intro v3 w8 h3 k3 n3;have H7:Hid (∃S,YI G (some ⟨b,F,none⟩) E g v3 (D++C) (.live s') S w8):=Y.out.fin _ _ h3 k3 n3;clear h3 k3 n3)
    obtain ⟨S3,ax⟩:=H7.out;exact ⟨⟨j+1,ab,by go_num,S3,s',D++C,ax,HK.out.1,HK.out.2.1,HK.out.2.2.1,HK.out.2.2.2.1⟩,by simp [intOf];omega⟩
  ·obtain rfl:j=E.length:=by omega
   have q1:¬((E.length:Int)<E.length):=by omega
   rw [US] at hR;have Q:du sx E=(iy s).map (D++·):=hR;have hP:=yf H.sq aa
   obtain ⟨C,J⟩:∃C,iy s=some C:=by
    cases hc:iy s with
    |none=>rw [hc,HL.out] at Q;cases Q
    |some l=>exact ⟨l,rfl⟩
   have U:yB (.live s)=(0,C,.done):=by
    have M:yB (.live s)=(match iy s with|none=>(130,[],.live s)|some l=>(0,l,.done)):=rfl;rw [M,J]
   have g8:C.length<=fI s+1:=by
    have h1:C=s.endl.ws:=by
     unfold iy at J
     split at J
     ·exact (TE J).symm
     ·cases J
    rw [h1];unfold Sy.endl fI
    split
    ·show (dH :: s.ws).length<=_;simp only [List.length_cons];omega
    ·omega
   rw [U] at hP;have HP:Hid (Ta 40 #[cd g] wr fun rr w'=>∃v,rr=.returned (.tuple #[v,.int .i64 0])/\Aq S g wr w' v C .done):=hP;have HN:Hid (∀w' x,Aq S g wr w' x C .done->YJ G ao E g (.slice pv D.length cpv) x D C .done w'):=fun w' x M=>H.call M
   have HK:Hid (L=D++C/\D.length+C.length<=12*E.length+12/\D.length+C.length<=1000000000000):=by
    refine ⟨?_,by omega,by omega⟩;rw [J,HL.out] at Q;exact TE Q
   clear H hR Q hP U J g8 hz hn hm HJ HI aa hEt
   go_wp2_with fail
   refine HP.out.mono ?_;rintro r w7 ⟨x,rfl,M⟩;have Y:Hid (YJ G ao E g (.slice pv D.length cpv) x D C .done w7):=HN.out _ _ M;obtain ⟨px,cx,hxs,_⟩:=bG Y.out.rx;subst hxs;clear M
   go_wp2_with (at_builtin;refine Io (by rfl) _ _ (by rfl) (.slice pv D.length cpv) (.slice px C.length cx) D C (by rfl) Y.out.rv (by rfl) Y.out.rx HK.out.2.2 ?_;intro v3 w8 h3 k3 n3;have H7:Hid (∃S,YI G ao E g v3 (D++C) .done S w8):=Y.out.fin _ _ h3 k3 n3;obtain ⟨p3,c3,e3,_⟩:=bG h3;rw [Or] at e3;subst e3;clear h3 k3 n3)
   obtain ⟨S7,aj⟩:=H7.out;obtain ⟨k1,k2,k3⟩:=HK.out;refine Ti (v:=.tuple #[.slice p3 (D.length+C.length) c3,.int .i64 0]) (by simp [results,Tryz.f22,go_sem]) rfl ?_;refine ⟨p3,c3,by rw [k1,Or],by rw [k1,Or];rw [Or] at *;exact aj.rd,H0.out.1.trans (aj.bel.mono H0.out.1.size),by rw [k1,Or];exact k2⟩
end Go.Proofs.YtcjiapphbpiffaaGreatDoor
namespace Go.Proofs.YtcjiapphbpiffaaGreatDoor
open Go.RowKit
open Lw (Dc bE rt cG dD fu iC jw ud qD)
variable {s:ByteArray}{W:World}{E:List Ev}{L:List Dc}{n:Int}
def IQ (W:World) (v:Value) (Q:Int->Int->Int->Int->Prop) (r:Ending) (w':World):Prop:=∃g c x y u,Q c x y u/\r=.returned (.tuple #[v,oj g])/\w'.heap[g]?=some (qQ c x y u)/\Below W.heap.size W w'
theorem qh (h:Fd s E L):E.length<=8000000/\(∀e∈E,e.d.t.size<=9223372036854775807)/\cG 0 0 L=none/\qD L<=2147483647/\(∀d∈L,rt d=true)/\(gR s).length<=262144:=by
 obtain ⟨a,C⟩:=h.al;have F:=zP s;have hsz:=h.sz;have I:E.length<=0+23*(gR s).length+1:=BC (gR s) [] 0 E a C fB;obtain ⟨hU,hr⟩:=D5 C h.ly hsz F;have H:cG 0 0 L=none:=by have h:=kD E kC h.ly;rw [TB] at h;exact h
 refine ⟨by omega,fun e G=>?_,H,hU,hr,by omega⟩
 rcases MR (gR s) [] 0 E a C fB e G with h|h
 ·rw [h];exact SW _
 ·have:=Nh s _ h;omega
theorem wu (h:Fd s E L) {W:World}(hT:Lx.nt W) (hE:nu W) :
  Ta 15 #[.string s] W fun r w'=>∃p c,r=.returned (.tuple #[.slice p L.length c,.nilIface])/\Rd w' (.slice p L.length c) L/\Below W.heap.size W w'/\L.length<=100000000:=by
 obtain ⟨a,Y⟩:=h.al;obtain ⟨f1,f2,f3,f4,f5,f6⟩:=qh h;have hsz:=h.sz;have q1:¬((s.size:Int)>262144):=by omega
 have HR:Hid (Ta 21 #[.string s] W (Sw W E)):=Ck hT hE (by omega) (z:=0) (by rw [h.sc];rfl) (by omega) Y rfl
 have HL:Hid (∀n p C V,TN (fun j=>W.heap.size<=j) V n (.slice p n.c.length C)->gx E []=some n->Ta 22 #[eF n.k n.d (.slice p n.c.length C)] V fun r w'=>∃p c,r=.returned (.tuple #[.slice p L.length c,.int .i64 0])/\Rd w' (.slice p L.length c) L/\Below V.heap.size V w'/\L.length<=100000000):=fun n p C V ht hb=>by
  have aa:om n=E:=by rw [(Dg hb).1,(Ir Y).2]
  refine (KK n p C V ht aa (by omega) f2 h.ly).mono ?_;rintro r w' ⟨p,c,e1,e2,e3,e4⟩;exact ⟨p,c,e1,e2,e3,by omega⟩
 have HF:Hid (∀V,Ta 14 #[.int .i64 0,.agg #[.int .i64 0,.int .i64 0,.int .i64 0]] V fun r w'=>r=.returned .nilIface/\Below V.heap.size V w'):=fun V=>rO 0 0 0 V
 clear h hT hE Y f1 f2 f3 f4 f5 f6 hsz
 go_enter Tryz.func15,Tryz.ntmps15
 go_wp2_with fail
 refine HR.out.mono ?_;rintro r O ⟨n,p,C,rfl,ht,I,H⟩;obtain ⟨F,eV1⟩:∃F,O.alloc (bz n.k n.d (.slice p n.c.length C))=F:=⟨_,rfl⟩;obtain ⟨U,hg1⟩:∃U,O.heap.size=U:=⟨_,rfl⟩;have Z:Below O.heap.size O F:=by rw [<-eV1];exact (hH _ _).alloc (gt _) _
 have J:Hid (Below W.heap.size W F/\TN (fun j=>W.heap.size<=j) F n (.slice p n.c.length C)/\gx E []=some n):=⟨H.trans (Z.mono H.size),TN.kp (Kp.of_below (S:=fun _=>False) Z) (fun _ _ h=>h) n _ ht,I⟩;have hk:F.heap[U]?=some (bz n.k n.d (.slice p n.c.length C)):=by rw [<-eV1,<-hg1];exact aq _ _
 obtain ⟨⟨c0,c1,c2,c3,c4,c5,c6,c7⟩,cl⟩:=aE hk
 dsimp only [bz] at eV1
 clear ht I H Z hk HR
 go_wp2_with fail
 try rw [eV1]
 try rw [hg1]
 clear eV1 hg1
 go_wp2_with fail
 refine (HL.out n p C F J.out.2.1 J.out.2.2).mono ?_;rintro r Q ⟨p2,G,rfl,y1,y2,y3⟩;have M:Hid (Rd Q (.slice p2 L.length G) L/\Below W.heap.size W Q/\L.length<=100000000):=⟨y1,J.out.1.trans (y2.mono J.out.1.size),y3⟩;clear y1 y2 y3
 go_wp2_with fail
 refine (HF.out _).mono ?_;rintro r w3 ⟨rfl,y4⟩;have H3:Hid (Below Q.heap.size Q w3):=y4;clear y4
 go_wp2_with fail
 refine Ti (v:=.tuple #[.slice p2 L.length G,.nilIface]) (by simp [results,Tryz.f15,go_sem]) rfl ?_;exact ⟨p2,G,rfl,bv M.out.1 H3.out,M.out.2.1.trans (H3.out.mono M.out.2.1.size),M.out.2.2⟩
theorem wq (J:262144<s.size) (O:s.size<=maxLen):Ta 15 #[.string s] W (IQ W (.slice none 0 0) (fun _ _ _ _=>True)):=by
 have Q:(s.size:Int)>262144:=by omega
 have I:Hid (∀V,Ta 14 #[.int .i64 2,.agg #[.int .i64 0,.int .i64 0,.int .i64 0]] V fun r w'=>∃g,r=.returned (oj g)/\w'.heap[g]?=some (qQ 2 0 0 0)/\V.heap.size<=g/\Tb V w'):=fun V=>jG 2 0 0 0 (by decide) V
 clear J
 go_enter Tryz.func15,Tryz.ntmps15
 go_wp2_with fail
 refine (I.out _).mono ?_;rintro r F ⟨g,rfl,G,M,H⟩;have C:Hid (F.heap[g]?=some (qQ 2 0 0 0)/\Tb W F):=⟨G,H⟩;clear G M H
 go_wp2_with fail
 refine Ti (v:=.tuple #[.slice none 0 0,oj g]) (by simp [results,Tryz.f15,go_sem]) rfl ?_;exact ⟨g,2,0,0,0,trivial,rfl,C.out.1,C.out.2⟩
theorem pK {Q:Int->Int->Int->Int->Prop}(O:s.size<=262144) (H:Ta 21 #[.string s] W (IQ W (eF 0 aB (.slice none 0 0)) Q)) :
  Ta 15 #[.string s] W (IQ W (.slice none 0 0) Q):=by
 have S:¬((s.size:Int)>262144):=by omega
 have M:Hid (Ta 21 #[.string s] W (IQ W (eF 0 aB (.slice none 0 0)) Q)):=H;clear O H
 go_enter Tryz.func15,Tryz.ntmps15
 go_wp2_with fail
 refine M.out.mono ?_;rintro r J ⟨g,c,x,y,u,I,rfl,F,G⟩;have C:Hid (Q c x y u/\J.heap[g]?=some (qQ c x y u)/\Tb W J):=⟨I,F,G⟩;clear I F G
 go_wp2_with fail
 refine Ti (v:=.tuple #[.slice none 0 0,oj g]) (by simp [results,Tryz.f15,go_sem]) rfl ?_;exact ⟨g,c,x,y,u,C.out.1,rfl,ag C.out.2.1 ((hH _ _).alloc (gt _) _),C.out.2.2.alloc C.out.2.2.size _⟩
theorem wP (h:Fd s E L) {n:Int}(Y:1<=n) (h2:n<=4096) {W:World}(hT:Lx.nt W) (hW:Lw.kl W) (Z:nu W) :
  Ta 7 #[.int .i64 n,.string s] W fun r w'=>r=.returned (.tuple #[.string (wo n L),.nilIface])/\Below W.heap.size W w':=by
 obtain ⟨f1,f2,Q,S,U,f6⟩:=qh h;have q1:¬(n<1):=by omega
 have q2:¬(n>4096):=by omega
 have hd:∀d∈L,d.t.size<=9223372036854775807:=fun d hd=>PP (U d hd)
 have J:Lw.sj n L=(wo n L,0):=by
  unfold Lw.sj;rw [Eq (by omega),Eq (by rw [Q];simp)]
 have HL:Hid (Ta 15 #[.string s] W fun r w'=>∃p c,r=.returned (.tuple #[.slice p L.length c,.nilIface])/\Lw.Lay w' p L/\Tb W w'/\L.length<=100000000):=by
  refine (wu h hT Z).mono ?_;rintro r w' ⟨p,c,rfl,G,H,I⟩;obtain ⟨ao,cap,e1,e2,e3,_⟩:=Lw.Lay.row G hd;cases e1;exact ⟨p,c,rfl,e3,H,I⟩
 obtain ⟨T,F⟩:∃T,wo n L=T:=⟨_,rfl⟩;rw [F] at J ⊢
 have HP:Hid (∀V p c,Lw.Lay V p L->L.length<=100000000->Tb W V->Ta 16 #[.int .i64 n,.slice p L.length c] V fun e w'=>e=.returned (.tuple #[.string T,.int .i64 0])/\Tb V w'):=fun V p c h Y hb=>by
  have:=Lw.Cs n p L c V h (hW.below hb) Y S;rw [J] at this;exact this
 have HF:Hid (∀V,Ta 14 #[.int .i64 0,.agg #[.int .i64 0,.int .i64 0,.int .i64 0]] V fun r w'=>r=.returned .nilIface/\Tb V w'):=fun V=>rO 0 0 0 V
 clear h hT Z hW f1 f2 Q S U f6 hd J F
 go_enter Tryz.func7,Tryz.ntmps7
 go_wp2_with fail
 refine HL.out.mono ?_;rintro r M ⟨p,c,rfl,G,H,I⟩;have C:Hid (Lw.Lay M p L/\Tb W M/\L.length<=100000000):=⟨G,H,I⟩;clear G H I
 go_wp2_with fail
 refine (HP.out M p c C.out.1 C.out.2.2 C.out.2.1).mono ?_;rintro r w2 ⟨rfl,y4⟩;have O:Hid (Tb W w2):=C.out.2.1.trans (y4.mono C.out.2.1.size);clear y4
 go_wp2_with fail
 refine (HF.out _).mono ?_;rintro r w3 ⟨rfl,y5⟩;have H3:Hid (Tb W w3):=O.out.trans (y5.mono O.out.size);clear y5
 go_wp2_with fail
 refine Ti (v:=.tuple #[.string T,.nilIface]) (by simp [results,Tryz.f7,go_sem]) rfl ?_;exact ⟨rfl,H3.out⟩
theorem kh {Q:Int->Int->Int->Int->Prop}(O:1<=n) (S:n<=4096) (F:Ta 15 #[.string s] W (IQ W (.slice none 0 0) Q)) :
  Ta 7 #[.int .i64 n,.string s] W (IQ W (.string ⟨#[]⟩) Q):=by
 have U:¬(n<1):=by omega
 have Y:¬(n>4096):=by omega
 have M:Hid (Ta 15 #[.string s] W (IQ W (.slice none 0 0) Q)):=F;clear F
 go_enter Tryz.func7,Tryz.ntmps7
 go_wp2_with fail
 refine M.out.mono ?_;rintro r H ⟨g,c,x,y,u,G,rfl,I,J⟩;have C:Hid (Q c x y u/\H.heap[g]?=some (qQ c x y u)/\Tb W H):=⟨G,I,J⟩;clear G I J
 go_wp2_with fail
 refine Ti (v:=.tuple #[.string ⟨#[]⟩,oj g]) (by simp [results,Tryz.f7,go_sem]) rfl ?_;exact ⟨g,c,x,y,u,C.out.1,rfl,C.out.2.1,C.out.2.2⟩
theorem yS (F:n<1\/4096<n):Ta 7 #[.int .i64 n,.string s] W (IQ W (.string ⟨#[]⟩) (fun _ _ _ _=>True)):=by
 have J:Hid (∀V,Ta 14 #[.int .i64 1,.agg #[.int .i64 0,.int .i64 0,.int .i64 0]] V fun r w'=>∃g,r=.returned (oj g)/\w'.heap[g]?=some (qQ 1 0 0 0)/\V.heap.size<=g/\Tb V w'):=fun V=>jG 1 0 0 0 (by decide) V
 by_cases O:n<1
 case' pos=>clear F
 case' neg=>
  have Q:n>4096:=by omega
  clear F
 all_goals (
  go_enter Tryz.func7,Tryz.ntmps7
  go_wp2_with fail
  refine (J.out _).mono ?_;rintro r G ⟨g,rfl,H,M,I⟩;have C:Hid (G.heap[g]?=some (qQ 1 0 0 0)/\Tb W G):=⟨H,I⟩;clear H M I
  go_wp2_with fail
  refine Ti (v:=.tuple #[.string ⟨#[]⟩,oj g]) (by simp [results,Tryz.f7,go_sem]) rfl ?_;exact ⟨g,1,0,0,0,trivial,rfl,C.out.1,C.out.2⟩)
theorem C5 (s:ByteArray) (hm:s.size<=maxLen) (n:Int):(1<=n/\n<=4096/\∃E L,Fd s E L)\/∀W,Lx.nt W->nu W->Ta 7 #[.int .i64 n,.string s] W (IQ W (.string ⟨#[]⟩) (fun _ _ _ _=>True)):=by
 by_cases Z:n<1\/4096<n
 ·exact .inr fun W _ _=>yS Z
 ·by_cases h2:262144<s.size
  ·exact .inr fun W _ _=>kh (by omega) (by omega) (wq h2 hm)
  ·obtain ⟨E,code,a,G⟩:=Iu (gR s) (.live [] 0) fB;have aa:=zP s
   have H:∀{W:World},Lx.nt W->nu W->(code=0/\((Lx.cV s).2.1:Int)≠0\/code=121/\a=(gR s).length)->Ta 7 #[.int .i64 n,.string s] W (IQ W (.string ⟨#[]⟩) (fun _ _ _ _=>True)):=fun {W} C F h=>by
    refine kh (by omega) (by omega) (pK (by omega) ((E7 C F (by omega) rfl (by omega) G h).mono ?_));rintro r w' ⟨g,c,x,y,u,I,J,Y,M⟩;exact ⟨g,c,x,y,u,trivial,I,J,M⟩
   by_cases O:code=0
   ·subst O
    by_cases S:(Lx.cV s).2.1=0
    ·obtain ⟨L,hL,_⟩:=oK s S G;exact .inl ⟨by omega,by omega,E,L,by omega,S,⟨a,G⟩,hL⟩
    ·exact .inr fun W C F=>H C F (.inl ⟨rfl,by omega⟩)
   ·obtain ⟨U,a2⟩:=Iv fB KO G O
    by_cases Q:a=(gR s).length
    ·exact .inr fun W C F=>H C F (.inr ⟨U.2 Q,Q⟩)
    ·obtain ⟨t,ht⟩:∃t,(gR s)[a]?=some t:=⟨_,Pi (by omega)⟩;refine .inr fun W C F=>kh (by omega) (by omega) (pK (by omega) ((E6 C F (by omega) rfl (by omega) G O ht).mono ?_))
     rintro r w' ⟨g,I,J,Y,M⟩;exact ⟨g,_,_,_,_,trivial,I,J,M⟩
end Go.Proofs.YtcjiapphbpiffaaGreatDoor
