import Derived.Test.YtpdlohfdjiaegaaGreatDoorR40
set_option linter.unusedVariables false
set_option linter.unusedSimpArgs false
set_option maxHeartbeats 4000000
namespace Go.Proofs.YtpdlohfdjiaegaaGreatDoor
open Go.RowKit
open Lw (Dc bE rt frm dep rtT rtN dcs au aH)
variable {s:Sy}{st':Sst}{W W1 w2 w w3:World}{j g h n:Nat}{l:List Dc}{v v':Value}{p:Option Addr}
def Tz (s:Sy):Prop:=∀d∈s.ws,d.t=bE
theorem yE (p:Pz):p.d.t=bE:=by cases p <;> rfl
theorem Tz.aw (h:Tz s) (p:Pz):Tz (s.aw p):=by
 intro d hd;rw [jF] at hd
 rcases Ai.1 hd with hd|hd
 ·exact h d hd
 ·unfold awW at hd
  split at hd
  ·cases hd
  ·rw [AN] at hd;rw [hd];exact yE p
theorem Tz.aws (h:Tz s) (l:List Pz):Tz (s.aws l):=by
 induction l generalizing s with
 |nil=>exact h
 |cons p l ih=>rw [bJ];exact ih (h.aw p)
theorem Tz.emp (h:Tz s) (f:Int):Tz (s.emp f):=by
 unfold Sy.emp
 split
 ·exact h
 ·split
  ·exact h
  ·intro d hd
   rcases Ai.1 hd with hd|hd
   ·exact h d (Bu hd)
   ·rcases zK.1 hd with hd|hd
    ·rw [hd];rfl
    ·exact h d (List.mem_of_mem_drop hd)
theorem Tz.endl (h:Tz s):Tz s.endl:=by
 unfold Sy.endl
 split
 ·intro d hd
  rcases zK.1 hd with hd|hd
  ·rw [hd];rfl
  ·exact h d hd
 ·exact h
theorem Tz.part {s:Sy}(h:Tz s):Tz s.part:=by
 unfold Sy.part
 split
 ·intro d hd
  rcases Ai.1 hd with hd|hd
  ·exact h d hd
  ·rw [AN] at hd;rw [hd];rfl
 ·exact h
theorem Tz.ready (h:Tz s) (a:Fx) (f:Int):Tz (s.ready a f):=((((h.aws _).emp _).endl)).part
theorem Tz.exprIn (h:Tz s):Tz s.exprIn:=by
 unfold Sy.exprIn
 split
 ·exact h
 ·rename_i n r e
  intro d hd
  have:Tz (if n.k=19 then s.aws [.S,.I 3] else if n.k=31/\n.s=false then s.aws [.B0] else s):=by
   split
   ·exact h.aws _
   ·split
    ·exact h.aws _
    ·exact h
  exact this d hd
theorem Tz.opens (h:Tz s) (k:Int):Tz (s.opens k):=by
 unfold Sy.opens;simp only;refine Tz.aws ?_ _;have h1:Tz (if k=21 then s.exprIn else s):=by split;exact h.exprIn;exact h
 intro d hd;have e:((if k=21 then s.exprIn else s).mark k).ws=(if k=21 then s.exprIn else s).ws:=gX _ _;exact h1 d (by rw [<-e];exact hd)
theorem Tz.leaves (h:Tz s):Tz s.leaves:=by
 unfold Sy.leaves
 split
 ·exact h
 ·intro d hd
  rcases Ai.1 hd with hd|hd
  ·rcases Ai.1 hd with hd|hd
   ·exact h d hd
   ·rw [(List.mem_replicate.1 hd).2];rfl
  ·split at hd
   ·rw [AN] at hd;rw [hd];rfl
   ·cases hd
theorem eZ:bE.size<=9223372036854775807:=by decide
theorem ul (h:Tz s) (t:Tv) (ht:t.t.size<=9223372036854775807):Tz (s.leaf t).1/\∀d∈(s.leaf t).2,d.t.size<=9223372036854775807:=by
 unfold Sy.leaf
 split
 ·exact ⟨h,fun d hd=>by cases hd⟩
 ·refine ⟨?_,fun d hd=>?_⟩
  ·show Tz (Sy.aws _ _)
   exact Tz.aws (fun d hd=>by cases hd) _
  ·rcases Ai.1 hd with hd|hd
   ·rw [(h.ready _ _) d hd];exact eZ
   ·rw [AN] at hd;rw [hd];exact ht
theorem uk (h:Tz s) (t:Tv) (ht:t.t.size<=9223372036854775807):Tz (s.note t).1/\∀d∈(s.note t).2,d.t.size<=9223372036854775807:=by
 have hd1:∀d∈s.ws.dropWhile aK,d.t=bE:=fun d hd=>h d ((List.dropWhile_sublist _).subset hd)
 have hd2:∀d∈s.ws.takeWhile aK,d.t.size<=9223372036854775807:=fun d hd=>by rw [h d ((List.takeWhile_sublist _).subset hd)];exact eZ
 unfold Sy.note;simp only
 split
 ·refine ⟨hd1,fun d hd=>?_⟩
  rcases Ai.1 hd with hd|hd
  ·exact hd2 d hd
  ·simp only [zK,Av,B6] at hd
   rcases hd with hd|hd
   ·rw [hd];exact eZ
   ·rw [hd];exact ht
 ·refine ⟨hd1,fun d hd=>?_⟩
  rcases Ai.1 hd with hd|hd
  ·exact hd2 d hd
  ·rcases zK.1 hd with hd|hd
   ·rw [hd];exact eZ
   ·rcases Ai.1 hd with hd|hd
    ·split at hd
     ·rw [AN] at hd;rw [hd];exact eZ
     ·cases hd
    ·rw [AN] at hd;rw [hd];exact ht
def Zs (j:Nat):Sst->Prop
 |.done=>True
 |.live s=>phi s<=12*j/\s.ns.length<=j/\Mo s/\Tz s
theorem wX:Zs 0 (.live sy0):=by
 refine ⟨by simp [phi,sy0,cB],by simp [sy0],?_,?_⟩
 ·intro m e;cases e
 ·intro d hd;cases hd
theorem Zs.sbd {st:Sst}(h:Zs j st) (hj:j<=20000000):Sbd st/\Sbe st:=by
 cases st with
 |done=>exact ⟨trivial,trivial⟩
 |live s=>
  obtain ⟨h1,h2,h3,_⟩:=h;refine ⟨ry h1 h2 h3 (by omega),⟨?_,?_,fun x hx=>?_⟩,h3⟩
  ·unfold phi at h1;omega
  ·omega
  ·have:=mc hx;unfold phi at h1;omega
theorem Zs.mono {k:Nat}{st:Sst}(h:Zs j st) (hk:j<=k):Zs k st:=by
 cases st with
 |done=>trivial
 |live s=>exact ⟨by have:=h.1;omega,by have:=h.2.1;omega,h.2.2⟩
theorem Zs.put {st:Sst}(h:Zs j st) (e:Ev) (ht:e.d.t.size<=9223372036854775807):Zs (j+1) (dO e st).2.2/\(dO e st).2.1.length<=12*j+12/\∀d∈(dO e st).2.1,d.t.size<=9223372036854775807:=by
 cases st with
 |done=>exact ⟨trivial,by simp [dO],fun d hd=>by cases hd⟩
 |live s=>
  have hm:=h.mono (Ce j);obtain ⟨h1,h2,h3,h4⟩:=h;cases hs:dK s e with
  |none=>
   have hp:dO e (.live s)=(130,[],.live s):=by show (match dK s e with|none=>_|some (s',l)=>_)=_;rw [hs]
   rw [hp];exact ⟨hm,by simp,fun d hd=>by cases hd⟩
  |some x=>
   obtain ⟨s',l⟩:=x;have hp:dO e (.live s)=(0,l,.live s'):=by show (match dK s e with|none=>_|some (s',l)=>_)=_;rw [hs]
   rw [hp];obtain ⟨b1,b2,b3⟩:=od hs
   have hz:Tz s'/\∀d∈l,d.t.size<=9223372036854775807:=by
    unfold dK at hs
    split at hs
    ·have h':=zT hs;obtain ⟨e1,e2⟩:(s.step e).1=s'/\(s.step e).2=l:=⟨by rw [h'],by rw [h']⟩;rw [<-e1,<-e2];unfold Sy.step
     split
     ·exact ⟨h4.opens _,fun d hd=>by cases hd⟩
     ·split
      ·exact ⟨h4.leaves,fun d hd=>by cases hd⟩
      ·split
       ·exact ul h4 e.d ht
       ·exact uk h4 e.d ht
    ·cases hs
   exact ⟨⟨by omega,by omega,b3 h3,hz.1⟩,by show l.length<=_;unfold phi at b1 h1;omega,hz.2⟩
theorem Zs.clo {st:Sst}(h:Zs j st):Zs (j+1) (dP st).2.2/\(dP st).2.1.length<=12*j+12/\∀d∈(dP st).2.1,d.t.size<=9223372036854775807:=by
 cases st with
 |done=>exact ⟨trivial,by simp [dP],fun d hd=>by cases hd⟩
 |live s=>
  have hm:=h.mono (Ce j);obtain ⟨h1,h2,h3,h4⟩:=h;cases hs:dL s with
  |none=>
   have hp:dP (.live s)=(130,[],.live s):=by show (match dL s with|none=>_|some l=>_)=_;rw [hs]
   rw [hp];exact ⟨hm,by simp,fun d hd=>by cases hd⟩
  |some l=>
   have hp:dP (.live s)=(0,l,.done):=by show (match dL s with|none=>_|some l=>_)=_;rw [hs]
   rw [hp]
   have hl:l=s.endl.ws:=by
    unfold dL at hs
    split at hs
    ·exact (zT hs).symm
    ·cases hs
   refine ⟨trivial,?_,fun d hd=>?_⟩
   ·show l.length<=_
    have:s.endl.ws.length<=s.ws.length+1:=by unfold Sy.endl;split <;> simp
    rw [hl];unfold phi at h1;omega
   ·have:d∈l:=hd;rw [hl] at this;rw [h4.endl d this];exact eZ
structure Pb (S T:Nat->Prop) (W:World) (g h:Nat) (st:Sst):Prop where
 a:Sq S W g st
 b:DQ T W h st
 d:∀k,S k->¬T k
def PbL (S T:Nat->Prop) (g h:Nat) (W W':World) (st:Sst):Prop:=(∃S' T',Pb S' T' W' g h st/\(∀k,S' k->S k\/W.heap.size<=k)/\∀k,T' k->T k\/W.heap.size<=k)/\Kp (fun k=>S k\/T k) W W'
theorem gR {c:Nat}(h:Rof W (.slice p n c) l) (ht:∀d∈l,d.t.size<=9223372036854775807):Lw.Lay W p l:=by
 intro j d hj;refine ⟨ht d (Ah hj),?_⟩
 rcases h with ⟨_,e⟩|⟨b,o,cap,cur,e,h2⟩
 ·rw [e] at hj;simp at hj
 ·cases e;exact ⟨b,o,rfl,Rof.cell5 (.inr ⟨b,o,c,cur,rfl,h2⟩:Rof W (.slice (some ⟨b,o,none⟩) l.length c) l) hj⟩
theorem rY {S T:Nat->Prop}{w4 w5:World}{st:Sst}(hp:Pb S T W g h st) (hb:Below W.heap.size W W1) (h2:Aq S g W1 w2 v l st') (h3:DAq T h w2 w3 v' l st') (h4:Below w3.heap.size w3 w4) (h5:Kp (fun k=>some k=v.ownBlock) w4 w5):PbL S T g h W w5 st':=by
 obtain ⟨⟨S',s1,s2,s3⟩,hr,hk⟩:=h2;obtain ⟨⟨T',t1,t2,t3⟩,hr',hk'⟩:=h3;have hSlt:=hp.a.lt;have hTlt:=hp.b.lt;have hW1:=hb.size;have hw2:=hk.size;have hw3:=hk'.size;have hv2:∀k,v.ownBlock=some k->k<w2.heap.size:=fun k e=>bS hr k e
 have hS'2:∀k,S' k->k<w2.heap.size:=fun k e=>s1.lt k e
 have hvT:∀k,v.ownBlock=some k->¬T' k:=fun k e e2=>by
  rcases t2 k e2 with e3|e3
  ·rcases (s3 k e).1 with e4|e4
   ·exact hp.d k e4 e3
   ·have:=hTlt k e3;omega
  ·have:=hv2 k e;omega
 have hST:∀k,S' k->¬T' k:=fun k e e2=>by
  rcases t2 k e2 with e3|e3
  ·rcases s2 k e with e4|e4
   ·exact hp.d k e4 e3
   ·have:=hTlt k e3;omega
  ·have:=hS'2 k e;omega
 have q3:Sq S' w3 g st':=s1.kp hk' (fun k e e2=>by
  rcases s2 k e with e4|e4
  ·exact hp.d k e4 e2
  ·have:=hTlt k e2;omega)
 refine ⟨⟨S',T',⟨(q3.below h4).kp h5 (fun k e e2=>(s3 k e2.symm).2 e),(t1.below h4).kp h5 (fun k e e2=>hvT k e2.symm e),hST⟩,fun k e=>?_,fun k e=>?_⟩,((((Kp.of_below (S:=fun k=>S k\/T k) hb).step hk (fun k _ e=>.inl e)).step hk' (fun k _ e=>.inr e)).step (Kp.of_below (S:=fun _=>False) h4) (fun _ _ h=>h.elim)).step h5 (fun k hlt e=>?_)⟩
 ·rcases s2 k e with e2|e2
  ·exact .inl e2
  ·exact .inr (by omega)
 ·rcases t2 k e with e2|e2
  ·exact .inl e2
  ·exact .inr (by omega)
 ·rcases (s3 k e.symm).1 with e2|e2
  ·exact .inl e2
  ·omega
theorem rZ {S T:Nat->Prop}{st:Sst}(hp:Pb S T W g h st) (hb:Below W.heap.size W W1) (h2:Aq S g W1 w2 v l st'):DQ T w2 h st:=by
 obtain ⟨⟨S',s1,s2,s3⟩,hr,hk⟩:=h2;exact (hp.b.below hb).kp hk (fun k e e2=>hp.d k e2 e)
theorem oe {S T:Nat->Prop}{st:Sst}(hp:Pb S T W g h st) (hb:Below W.heap.size W W1) (h2:Aq S g W1 w2 v l st') (h3:DAq T h w2 w3 v' l st'):Rd w3 v l/\Rof w3 v' l:=by
 obtain ⟨⟨S',s1,s2,s3⟩,hr,hk⟩:=h2;obtain ⟨⟨T',t1,t2,t3⟩,hr',hk'⟩:=h3;refine ⟨kS hr hk' (fun k e e2=>?_),hr'⟩
 rcases (s3 k e).1 with e4|e4
 ·exact hp.d k e4 e2
 ·have:=hp.b.lt k e2;have:=hb.size;omega
structure Opz where
 e:Ev
 on:Int
 fin:Bool
def Opz.st (o:Opz) (st:Sst):Sst:=if o.fin=true then (dP st).2.2 else (dO o.e st).2.2
theorem pI {S T:Nat->Prop}{st:Sst}(hp:Pb S T W g h st) (hz:Zs j st) (hj:j<=10000000) (o:Opz) (ht:o.e.d.t.size<=9223372036854775807) :
  Aa 12 #[.agg #[spg g,spg h],.agg #[.int .u8 o.e.k,.int .u8 o.e.n,.int .u8 o.e.d.k,.string o.e.d.t,.int .i64 o.e.d.a,.int .i64 o.e.d.l,.int .i64 o.e.d.c,.int .i64 o.e.d.f,.int .i64 o.on,.bool o.fin]] W fun rr w'=>rr=.returned (.bool true)/\PbL S T g h W w' (o.st st):=by
 obtain ⟨V,hV⟩:∃V,(W.alloc (.cells #[spg g,spg h] 30)).alloc (.cells #[.int .u8 o.e.k,.int .u8 o.e.n,.int .u8 o.e.d.k,.string o.e.d.t,.int .i64 o.e.d.a,.int .i64 o.e.d.l,.int .i64 o.e.d.c,.int .i64 o.e.d.f,.int .i64 o.on,.bool o.fin] 41)=V:=⟨_,rfl⟩;have hs0:(W.alloc (.cells #[spg g,spg h] 30)).heap.size=W.heap.size+1:=ge _ _;have hB:Below W.heap.size W V:=by rw [<-hV];exact ((gt _ _).alloc (eq _) _).alloc (by omega) _
 have hb1:V.heap[W.heap.size]?=some (.cells #[spg g,spg h] 30 (0,0)):=by rw [<-hV];exact aB (ag W _) _
 have hb2:V.heap[W.heap.size+1]?=some (.cells #[.int .u8 o.e.k,.int .u8 o.e.n,.int .u8 o.e.d.k,.string o.e.d.t,.int .i64 o.e.d.a,.int .i64 o.e.d.l,.int .i64 o.e.d.c,.int .i64 o.e.d.f,.int .i64 o.on,.bool o.fin] 41 (0,0)):=by rw [<-hV,<-hs0];exact ag _ _
 have HV:Hid ((W.alloc (.cells #[spg g,spg h] 30)).alloc (.cells #[.int .u8 o.e.k,.int .u8 o.e.n,.int .u8 o.e.d.k,.string o.e.d.t,.int .i64 o.e.d.a,.int .i64 o.e.d.l,.int .i64 o.e.d.c,.int .i64 o.e.d.f,.int .i64 o.on,.bool o.fin] 41)=V):=hV;obtain ⟨hz1,hz2⟩:=hz.sbd (by omega);have hSlt:=hp.a.lt;have hTlt:=hp.b.lt;have HKp:Hid (∀X,Kp S V X->X.heap[W.heap.size]?=some (.cells #[spg g,spg h] 30 (0,0))/\X.heap[W.heap.size+1]?=some (.cells #[.int .u8 o.e.k,.int .u8 o.e.n,.int .u8 o.e.d.k,.string o.e.d.t,.int .i64 o.e.d.a,.int .i64 o.e.d.l,.int .i64 o.e.d.c,.int .i64 o.e.d.f,.int .i64 o.on,.bool o.fin] 41 (0,0))):=fun X hX=>⟨hX.blk hb1 (fun e=>by have:=hSlt _ e;omega),hX.blk hb2 (fun e=>by have:=hSlt _ e;omega)⟩
 have x0:=aa (k:=0) hb1 rfl;have x1:=aa (k:=1) hb1 rfl;have y0:=aa (k:=0) hb2 rfl;have y1:=aa (k:=1) hb2 rfl;have y2:=aa (k:=2) hb2 rfl;have y3:=aa (k:=3) hb2 rfl;have y4:=aa (k:=4) hb2 rfl;have y5:=aa (k:=5) hb2 rfl;have y6:=aa (k:=6) hb2 rfl;have y7:=aa (k:=7) hb2 rfl;have y9:=aa (k:=9) hb2 rfl;have hl1:=ah hb1;have hl2:=ah hb2;cases hf:o.fin with
 |true=>
  obtain ⟨z1,z2,z3⟩:=hz.clo;obtain ⟨code,L,st',hpc⟩:∃code L st',dP st=(code,L,st'):=⟨_,_,_,rfl⟩;rw [hpc] at z1 z2 z3;have zl:L.length<=120000012:=by have h0:L.length<=12*j+12:=z2;omega
  have z3':∀d∈L,d.t.size<=9223372036854775807:=z3;have hst:o.st st=st':=by unfold Opz.st;rw [zw hf,hpc]
  rw [hst]
  have HC:Hid (Aa 14 #[spg g] V fun rr w'=>∃p n c,rr=.returned (.tuple #[.slice p n c,.int .i64 code])/\Aq S g V w' (.slice p n c) L st'):=by
   have:=iz (hp.a.below hB) hz1;rw [hpc] at this;refine this.mono ?_;rintro rr w' ⟨v,e,hA⟩;obtain ⟨p,c,ev,_⟩:=aL hA.2.1;subst ev;exact ⟨p,_,c,e,hA⟩
  have HD:Hid (∀w2 v,Aq S g V w2 v L st'->Aa 22 #[spg h] w2 fun rr w'=>∃p n c,rr=.returned (.tuple #[.slice p n c,.int .i64 code])/\DAq T h w2 w' (.slice p n c) L st'):=fun w2 v hA=>by
   have:=mM (rZ hp hB hA) hz2;rw [hpc] at this;refine this.mono ?_;rintro rr w' ⟨v,e,hA⟩;obtain ⟨p,c,ev,_⟩:=hA.2.1.shape;subst ev;exact ⟨p,_,c,e,hA⟩
  have HS:Hid (∀w2 w3 p n c p' n' c',Aq S g V w2 (.slice p n c) L st'->DAq T h w2 w3 (.slice p' n' c') L st'->Aa 18 #[.slice p n c,.slice p' n' c'] w3 fun rr w'=>rr=.returned (.bool true)/\Below w3.heap.size w3 w'/\OrD w' (.slice p n c) n/\n<=900000000):=fun w2 w3 p n c p' n' c' h2 h3=>by
   obtain ⟨r1,r2⟩:=oe hp hB h2 h3;obtain ⟨pp,cc,ee,_⟩:=aL r1;cases ee;obtain ⟨pp',cc',ee',_⟩:=r2.shape;cases ee';refine (Lw.kO p p' L L c c' w3 (gR (nS r1) z3') (gR r2 z3') (by omega) (by omega)).mono ?_;rintro rr w' ⟨e,hb⟩;rw [zB rfl] at e;exact ⟨e,hb,⟨_,aE r1 hb⟩,by omega⟩
  have HE:Hid (∀w2 w3 w4 w5 v v',Aq S g V w2 v L st'->DAq T h w2 w3 v' L st'->Below w3.heap.size w3 w4->Kp (fun k=>some k=v.ownBlock) w4 w5->PbL S T g h W w5 st'):=fun w2 w3 w4 w5 v v' h2 h3 h4 h5=>rY hp hB h2 h3 h4 h5
  rw [hf] at y9 HV HKp;have q1:(code == code)=true:=by simp
  clear hV hs0 hB hb1 hb2 hz1 hz2 hSlt hTlt hp hz z1 z2 z3 z3' zl hpc hst hf y0 y1 y2 y3 y4 y5 y6 y7
  go_enter Tryz.func12,Tryz.ntmps12
  go_upto_region 1 with fail
  rw [HV.out]
  go_wp2_with (first
   | (go_at_call 14;refine HC.out.mono ?_;rintro r1 w2 ⟨p1,n1,c1,rfl,hA⟩;have HA:=show Hid (Aq S g V w2 (.slice p1 n1 c1) L st') from hA;obtain ⟨k1,k2⟩:=HKp.out _ hA.2.2;have x1':=aa (k:=1) k1 rfl;have l1':=ah k1;clear hA k1 k2)
   | (go_at_call 22;refine (HD.out _ _ HA.out).mono ?_;rintro r2 w3 ⟨p2,n2,c2,rfl,hD⟩;have HD2:=show Hid (DAq T h w2 w3 (.slice p2 n2 c2) L st') from hD;clear hD)
   | (go_at_call 18;refine (HS.out _ _ _ _ _ _ _ _ HA.out HD2.out).mono ?_;rintro r3 w4 ⟨rfl,hb4,hO4,hn4⟩;have HB4:=show Hid (Below w3.heap.size w3 w4) from hb4;have HO4:=show Hid (OrD w4 (.slice p1 n1 c1) n1/\n1<=900000000) from ⟨hO4,hn4⟩;clear hb4 hO4 hn4)
   | (go_at_call 23;refine (gA HO4.out.1 HO4.out.2).mono ?_;rintro r4 w5 ⟨rfl,hk5⟩;have HX:=show Hid (PbL S T g h W w5 st') from HE.out _ _ _ _ _ _ HA.out HD2.out HB4.out hk5;clear hk5))
  go_ret
  exact ⟨by first|rfl|simp,HX.out⟩
 |false=>
  obtain ⟨z1,z2,z3⟩:=hz.put o.e ht;obtain ⟨code,L,st',hpc⟩:∃code L st',dO o.e st=(code,L,st'):=⟨_,_,_,rfl⟩;rw [hpc] at z1 z2 z3;have zl:L.length<=120000012:=by have h0:L.length<=12*j+12:=z2;omega
  have z3':∀d∈L,d.t.size<=9223372036854775807:=z3;have hst:o.st st=st':=by unfold Opz.st;rw [zu (by rw [hf];simp),hpc]
  rw [hst]
  have HC:Hid (Aa 21 #[spg g,.agg #[.int .u8 o.e.k,.int .u8 o.e.n,.int .u8 o.e.d.k,.string o.e.d.t,.int .i64 o.e.d.a,.int .i64 o.e.d.l,.int .i64 o.e.d.c,.int .i64 o.e.d.f]] V fun rr w'=>∃p n c,rr=.returned (.tuple #[.slice p n c,.int .i64 code])/\Aq S g V w' (.slice p n c) L st'):=by
   have:=kL (hp.a.below hB) hz1 o.e ht;rw [hpc] at this;refine this.mono ?_;rintro rr w' ⟨v,e,hA⟩;obtain ⟨p,c,ev,_⟩:=aL hA.2.1;subst ev;exact ⟨p,_,c,e,hA⟩
  have HD:Hid (∀w2 v,Aq S g V w2 v L st'->Aa 24 #[spg h,.agg #[.int .u8 o.e.k,.int .u8 o.e.n,.int .u8 o.e.d.k,.string o.e.d.t,.int .i64 o.e.d.a,.int .i64 o.e.d.l,.int .i64 o.e.d.c,.int .i64 o.e.d.f]] w2 fun rr w'=>∃p n c,rr=.returned (.tuple #[.slice p n c,.int .i64 code])/\DAq T h w2 w' (.slice p n c) L st'):=fun w2 v hA=>by
   have:=rC (rZ hp hB hA) hz2 o.e ht;rw [hpc] at this;refine this.mono ?_;rintro rr w' ⟨v,e,hA⟩;obtain ⟨p,c,ev,_⟩:=hA.2.1.shape;subst ev;exact ⟨p,_,c,e,hA⟩
  have HS:Hid (∀w2 w3 p n c p' n' c',Aq S g V w2 (.slice p n c) L st'->DAq T h w2 w3 (.slice p' n' c') L st'->Aa 18 #[.slice p n c,.slice p' n' c'] w3 fun rr w'=>rr=.returned (.bool true)/\Below w3.heap.size w3 w'/\OrD w' (.slice p n c) n/\n<=900000000):=fun w2 w3 p n c p' n' c' h2 h3=>by
   obtain ⟨r1,r2⟩:=oe hp hB h2 h3;obtain ⟨pp,cc,ee,_⟩:=aL r1;cases ee;obtain ⟨pp',cc',ee',_⟩:=r2.shape;cases ee';refine (Lw.kO p p' L L c c' w3 (gR (nS r1) z3') (gR r2 z3') (by omega) (by omega)).mono ?_;rintro rr w' ⟨e,hb⟩;rw [zB rfl] at e;exact ⟨e,hb,⟨_,aE r1 hb⟩,by omega⟩
  have HE:Hid (∀w2 w3 w4 w5 v v',Aq S g V w2 v L st'->DAq T h w2 w3 v' L st'->Below w3.heap.size w3 w4->Kp (fun k=>some k=v.ownBlock) w4 w5->PbL S T g h W w5 st'):=fun w2 w3 w4 w5 v v' h2 h3 h4 h5=>rY hp hB h2 h3 h4 h5
  rw [hf] at y9 HV HKp;have q1:(code == code)=true:=by simp
  clear hV hs0 hB hb1 hb2 hz1 hz2 hSlt hTlt hp hz z1 z2 z3 z3' zl hpc hst hf
  go_enter Tryz.func12,Tryz.ntmps12
  go_upto_region 1 with fail
  rw [HV.out]
  go_wp2_with (first
   | (go_at_call 21;refine HC.out.mono ?_;rintro r1 w2 ⟨p1,n1,c1,rfl,hA⟩;have HA:=show Hid (Aq S g V w2 (.slice p1 n1 c1) L st') from hA;obtain ⟨k1,k2⟩:=HKp.out _ hA.2.2;have x1':=aa (k:=1) k1 rfl;have l1':=ah k1;have l2':=ah k2;have v0:=aa (k:=0) k2 rfl;have v1:=aa (k:=1) k2 rfl;have v2:=aa (k:=2) k2 rfl;have v3:=aa (k:=3) k2 rfl;have v4:=aa (k:=4) k2 rfl;have v5:=aa (k:=5) k2 rfl;have v6:=aa (k:=6) k2 rfl;have v7:=aa (k:=7) k2 rfl;clear hA k1 k2)
   | (go_at_call 24;refine (HD.out _ _ HA.out).mono ?_;rintro r2 w3 ⟨p2,n2,c2,rfl,hD⟩;have HD2:=show Hid (DAq T h w2 w3 (.slice p2 n2 c2) L st') from hD;clear hD)
   | (go_at_call 18;refine (HS.out _ _ _ _ _ _ _ _ HA.out HD2.out).mono ?_;rintro r3 w4 ⟨rfl,hb4,hO4,hn4⟩;have HB4:=show Hid (Below w3.heap.size w3 w4) from hb4;have HO4:=show Hid (OrD w4 (.slice p1 n1 c1) n1/\n1<=900000000) from ⟨hO4,hn4⟩;clear hb4 hO4 hn4)
   | (go_at_call 23;refine (gA HO4.out.1 HO4.out.2).mono ?_;rintro r4 w5 ⟨rfl,hk5⟩;have HX:=show Hid (PbL S T g h W w5 st') from HE.out _ _ _ _ _ _ HA.out HD2.out HB4.out hk5;clear hk5))
  go_ret
  exact ⟨by first|rfl|simp,HX.out⟩
def Lev (w:World) (ao:Option Addr) (l:List Ev):Prop:=∀j e,l[j]?=some e->∃b off,ao=some ⟨b,off,none⟩ /\
 w.cell? ⟨b,off+j*8,none⟩=some (.int .u8 e.k)/\w.cell? ⟨b,off+j*8+1,none⟩=some (.int .u8 e.n)/\w.cell? ⟨b,off+j*8+2,none⟩=some (.int .u8 e.d.k)/\w.cell? ⟨b,off+j*8+3,none⟩=some (.string e.d.t)/\w.cell? ⟨b,off+j*8+4,none⟩=some (.int .i64 e.d.a)/\w.cell? ⟨b,off+j*8+5,none⟩=some (.int .i64 e.d.l)/\w.cell? ⟨b,off+j*8+6,none⟩=some (.int .i64 e.d.c)/\w.cell? ⟨b,off+j*8+7,none⟩=some (.int .i64 e.d.f)
theorem Lev.below {w':World}{ao:Option Addr}{l:List Ev}(h:Lev w ao l) (hb:Below w.heap.size w w'):Lev w' ao l:=by
 intro j a ha;obtain ⟨b,off,h1,c0,c1,c2,c3,c4,c5,c6,c7⟩:=h j a ha;have hlt:=zy _ _ c0;have e:w'.heap[b]?=w.heap[b]?:=(Kp.of_below (S:=fun _=>False) hb).block b hlt (fun h=>h);exact ⟨b,off,h1,(zG (a:=⟨b,_,none⟩) e).trans c0,(zG (a:=⟨b,_,none⟩) e).trans c1,(zG (a:=⟨b,_,none⟩) e).trans c2,(zG (a:=⟨b,_,none⟩) e).trans c3,(zG (a:=⟨b,_,none⟩) e).trans c4,(zG (a:=⟨b,_,none⟩) e).trans c5,(zG (a:=⟨b,_,none⟩) e).trans c6,(zG (a:=⟨b,_,none⟩) e).trans c7⟩
theorem xr {cap:Nat}{l:List Ev}(h:Re w (.slice p n cap) l):Lev w p l:=by
 intro j d hj
 rcases h.2 with ⟨h1,h0⟩|⟨g,cap',cur,h1,_⟩
 ·have:l=[]:=zI h0;subst this;simp at hj
 ·cases h1
  have hc:∀(k:Nat) (u:Value),(ecs l)[k]?=some u->w.cell? ⟨g,k,none⟩=some u:=fun k u hu=>by
   have:=AZ h (g:=g) rfl k u hu;rw [AM,zC] at this;exact this
  refine ⟨g,0,rfl,?_,?_,?_,?_,?_,?_,?_,?_⟩
  ·rw [zC];exact hc _ _ (aD Ev.cs 8 Ev.cs_len l j 0 d _ hj rfl)
  ·rw [zC];exact hc _ _ (aD Ev.cs 8 Ev.cs_len l j 1 d _ hj rfl)
  ·rw [zC];exact hc _ _ (aD Ev.cs 8 Ev.cs_len l j 2 d _ hj rfl)
  ·rw [zC];exact hc _ _ (aD Ev.cs 8 Ev.cs_len l j 3 d _ hj rfl)
  ·rw [zC];exact hc _ _ (aD Ev.cs 8 Ev.cs_len l j 4 d _ hj rfl)
  ·rw [zC];exact hc _ _ (aD Ev.cs 8 Ev.cs_len l j 5 d _ hj rfl)
  ·rw [zC];exact hc _ _ (aD Ev.cs 8 Ev.cs_len l j 6 d _ hj rfl)
  ·rw [zC];exact hc _ _ (aD Ev.cs 8 Ev.cs_len l j 7 d _ hj rfl)
structure YI (w:World) (g:Nat) (v:Value) (D:List Dc) (st:Sst) (S:Nat->Prop) (W:World):Prop where
 bel:Below w.heap.size w W
 sq:Sq S W g st
 sB:∀k,S k->w.heap.size<=k
 rd:Rd W v D
 vB:∀k,v.ownBlock=some k->w.heap.size<=k/\¬S k
structure YJ (w:World) (g:Nat) (v x:Value) (D ds:List Dc) (st:Sst) (W:World):Prop where
 rv:Rd W v D
 rx:Rd W x ds
 fin:∀v' w',Rd w' v' (D++ds)->Kp (fun k=>v.ownBlock=some k) W w'->Nb W v v'->∃S,YI w g v' (D++ds) st S w'
 ex:∃S,YI w g v D st S W
theorem yM (h:Rd W v l):∀k,v.ownBlock=some k->k<W.heap.size:=by
 intro k hk
 rcases h.2 with ⟨rfl,_⟩|⟨b,cap,cur,rfl,_,h3,_⟩
 ·cases hk
 ·simp only [Value.ownBlock,zL] at hk;subst hk;exact ah h3
theorem YI.call {D:List Dc}{st:Sst}{S:Nat->Prop}{W':World}(h:YI w g v D st S W) {x:Value}{ds:List Dc}{st':Sst}(hp:Aq S g W W' x ds st'):YJ w g v x D ds st' W':=by
 obtain ⟨⟨S',p1,p3,p4⟩,hre,hkp⟩:=hp;have hb:Below w.heap.size w W':=gY h.bel hkp (fun k hk=>h.sB k hk) h.bel.size
 have hs':∀k,S' k->w.heap.size<=k:=by
  intro k hk
  rcases p3 k hk with a|a
  ·exact h.sB k a
  ·exact zr h.bel.size a
 have hv:Rd W' v D:=hkp.row h.rd (fun k e=>(h.vB k e).2)
 have hvS:∀k,v.ownBlock=some k->w.heap.size<=k/\¬S' k:=by
  intro k e;refine ⟨(h.vB k e).1,fun hs=>?_⟩
  rcases p3 k hs with a|a
  ·exact (h.vB k e).2 a
  ·have:=yM h.rd k e;omega
 refine ⟨hv,hre,fun v' w' hr hk hn=>⟨S',?_⟩,S',hb,p1,hs',hv,hvS⟩;refine ⟨gY hb hk (fun k e=>(h.vB k e).1) hb.size,p1.kp hk (fun k hs e=>(hvS k e).2 hs),hs',hr,?_⟩;intro k e
 rcases hn with e1|⟨q,e1,hq⟩
 ·exact hvS k (by rw [<-e1];exact e)
 ·rw [e1] at e;simp at e;subst e;exact ⟨zr hb.size hq,fun hs=>by have:=p1.lt _ hs;omega⟩
def LyP (W:World) (E:List Ev) (r:Ending) (w':World):Prop:=
 ∃p n c,r=.returned (.tuple #[.slice p n c,.bool (d9 sy0 E).isSome])/\Below W.heap.size W w'/\∀L,d9 sy0 E=some L->Rd w' (.slice p n c) L/\(∀k,(Value.slice p n c).ownBlock=some k->W.heap.size<=k)/\L.length<=12*E.length+12
theorem rj {e:Ev}{r:List Ev}:d9 s (e :: r)=match dK s e with|none=>none|some (s',l)=>(d9 s' r).map (l++·):=rfl
theorem mT (E:List Ev) (ao:Option Addr) (cap:Nat) (W:World) (hL:Lev W ao E) (hl:E.length<=30000000) (ht:∀e∈E,e.d.t.size<=9223372036854775807) :
  Aa 32 #[.slice ao E.length cap] W fun r w'=>LyP W E r w':=by
 have HM:Hid (E.length<=30000000/\∀e∈E,e.d.t.size<=9223372036854775807):=⟨hl,ht⟩;have HLe:Hid (∀V,Below W.heap.size W V->Lev V ao E):=fun V hb=>hL.below hb
 have HNew:Hid (∀V,Aa 10 #[] V fun r w'=>r=.returned (spg V.heap.size)/\Sq (fun k=>k=V.heap.size) w' V.heap.size (.live sy0)/\Below V.heap.size V w'):=iL;clear hL hl ht
 go_enter Tryz.func32,Tryz.ntmps32
 go_wp2_with fail
 refine (HNew.out _).mono ?_;rintro r w5 ⟨rfl,hq,hb⟩;obtain ⟨g,hg⟩:∃g,W.heap.size=g:=⟨_,rfl⟩;have HI:Hid (∃S,YI W W.heap.size (.slice none 0 0) [] (.live sy0) S w5):=⟨_,hb,hq,fun k e=>by rw [e];omega,fm _,fun k e=>by cases e⟩;rw [hg] at HI ⊢;clear hq hb hg HNew
 go_wp2_with fail
 go_loopw [5,6,7,8] (fun v i _ _ wr=>∃j:Nat,j<=E.length/\i=.int .i64 j/\Hid (∃S s D,YI W g v D (.live s) S wr/\d9 sy0 E=(d9 s (E.drop j)).map (D++·)/\D.length+phi s<=12*j/\s.ns.length<=j/\Mo s)) (fun _ i _ _ _=>E.length-(intOf i).toNat)
 case atStart=>
  obtain ⟨S,hI⟩:=HI.out;exact ⟨0,zx _,rfl,S,_,[],hI,by simp,by decide,by decide,fun m hm=>by cases hm⟩
 case round=>
  obtain ⟨j,hj,rfl,HJ⟩:=hrel;obtain ⟨S,s,D,hI,hR,hz,hn,hm⟩:=HJ.out;obtain ⟨pv,cpv,hv,_⟩:=aL hI.rd;subst hv;obtain ⟨hEl,hEt⟩:=HM.out;have hbd:Sbd (.live s):=ry (j:=j) (by omega) hn hm (by omega)
  by_cases hlt:j<E.length
  ·have q1:(j:Int)<E.length:=by omega
   have q0:(0:Int)<=j:=by omega
   obtain ⟨t,hT⟩:∃t,E[j]?=some t:=⟨_,hH hlt⟩
   have hdr:E.drop j=t :: E.drop (j+1):=by
    obtain ⟨a1,a2⟩:=zv.1 hT;rw [Ad a1,a2]
   have htt:=hEt t (Ah hT);obtain ⟨b,off,rfl,x0,x1,x2,x3,x4,x5,x6,x7⟩:=HLe.out wr hI.bel j t hT;rw [hdr,rj] at hR;have hP:=kL hI.sq hbd t htt;clear HJ HI hdr hT hbd htt hEt;cases hs:dK s t with
   |none=>
    rw [hs] at hR;have hpp:dO t (.live s)=(130,[],.live s):=by show (match dK s t with|none=>_|some (s',l)=>_)=_;rw [hs]
    rw [hpp] at hP;have HP:Hid (Aa 21 #[spg g,.agg #[.int .u8 t.k,.int .u8 t.n,.int .u8 t.d.k,.string t.d.t,.int .i64 t.d.a,.int .i64 t.d.l,.int .i64 t.d.c,.int .i64 t.d.f]] wr fun rr w'=>∃v,rr=.returned (.tuple #[v,.int .i64 130])/\Aq S g wr w' v [] (.live s)):=hP;have HN:Hid (∀w' x,Aq S g wr w' x [] (.live s)->YJ W g (.slice pv D.length cpv) x D [] (.live s) w'):=fun w' x hx=>hI.call hx
    have HR:Hid (d9 sy0 E=none):=hR;clear hI hR hP hpp hs hz hn hm
    go_wp2_with fail
    refine HP.out.mono ?_;rintro r w6 ⟨x,rfl,hx⟩;have H6:Hid (YJ W g (.slice pv D.length cpv) x D [] (.live s) w6):=HN.out _ _ hx;obtain ⟨px,cx,hxs,_⟩:=aL H6.out.rx;subst hxs;clear hx
    go_wp2_with fail
    obtain ⟨S2,hI2⟩:=H6.out.ex;refine zE (v:=.tuple #[.slice none 0 0,.bool false]) (by simp [results,Tryz.f32,go_sem]) rfl ?_;exact ⟨none,0,0,by rw [HR.out];rfl,hI2.bel,fun L hL=>by rw [HR.out] at hL;cases hL⟩
   |some pr=>
    obtain ⟨s',ds⟩:=pr;rw [hs] at hR;have hpp:dO t (.live s)=(0,ds,.live s'):=by show (match dK s t with|none=>_|some (s',l)=>_)=_;rw [hs]
    rw [hpp] at hP;have HP:Hid (Aa 21 #[spg g,.agg #[.int .u8 t.k,.int .u8 t.n,.int .u8 t.d.k,.string t.d.t,.int .i64 t.d.a,.int .i64 t.d.l,.int .i64 t.d.c,.int .i64 t.d.f]] wr fun rr w'=>∃v,rr=.returned (.tuple #[v,.int .i64 0])/\Aq S g wr w' v ds (.live s')):=hP;have HN:Hid (∀w' x,Aq S g wr w' x ds (.live s')->YJ W g (.slice pv D.length cpv) x D ds (.live s') w'):=fun w' x hx=>hI.call hx
    obtain ⟨z1,z2,z3⟩:=od hs;have hR2:d9 sy0 E=((d9 s' (E.drop (j+1))).map (ds++·)).map (D++·):=hR;have HK:Hid (d9 sy0 E=(d9 s' (E.drop (j+1))).map ((D++ds)++·)/\(D++ds).length+phi s'<=12*(j+1)/\s'.ns.length<=j+1/\Mo s'/\D.length+ds.length<=1000000000000):=⟨by rw [hR2];generalize d9 s' (E.drop (j+1))=o;cases o <;> simp,by rw [zq];omega,by omega,z3 hm,by omega⟩;clear hI hR hR2 hP hpp hs hz hn hm z1 z2 z3
    go_wp2_with fail
    refine HP.out.mono ?_;rintro r w6 ⟨x,rfl,hx⟩;have H6:Hid (YJ W g (.slice pv D.length cpv) x D ds (.live s') w6):=HN.out _ _ hx;obtain ⟨px,cx,hxs,_⟩:=aL H6.out.rx;subst hxs;clear hx
    go_wp2_with (at_builtin;refine uc (by rfl) _ _ (by rfl) (.slice pv D.length cpv) (.slice px ds.length cx) D ds (by rfl) H6.out.rv (by rfl) H6.out.rx HK.out.2.2.2.2 ?_;intro v3 w7 h3 k3 n3;have H7:Hid (∃S,YI W g v3 (D++ds) (.live s') S w7):=H6.out.fin _ _ h3 k3 n3;clear h3 k3 n3)
    obtain ⟨S3,hI3⟩:=H7.out;exact ⟨⟨j+1,hlt,by go_num,S3,s',D++ds,hI3,HK.out.1,HK.out.2.1,HK.out.2.2.1,HK.out.2.2.2.1⟩,by simp [intOf];omega⟩
  ·obtain rfl:j=E.length:=by omega
   have q1:¬((E.length:Int)<E.length):=by omega
   rw [A5] at hR;have hR':d9 sy0 E=(dL s).map (D++·):=hR;have hP:=iz hI.sq hbd;obtain ⟨z,ds,st',hpp⟩:∃z ds st',dP (.live s)=(z,ds,st'):=⟨_,_,_,rfl⟩
   have hcl:(dL s).isSome=(z == 0)/\(∀l,dL s=some l->ds=l)/\ds.length<=phi s+1:=by
    have hx:dP (.live s)=(match dL s with|none=>(130,[],.live s)|some l=>(0,l,.done)):=rfl;rw [hx] at hpp;cases hc:dL s with
    |none=>
     rw [hc] at hpp;cases hpp;exact ⟨rfl,fun l h=>(nomatch h),zx _⟩
    |some l=>
     rw [hc] at hpp;cases hpp;refine ⟨rfl,fun l' h=>zT h,?_⟩
     have h1:ds=s.endl.ws:=by
      unfold dL at hc
      split at hc
      ·exact (zT hc).symm
      ·cases hc
     rw [h1];unfold Sy.endl phi
     split
     ·show (dH :: s.ws).length<=_;simp only [List.length_cons];omega
     ·omega
   rw [hpp] at hP;have HP:Hid (Aa 14 #[spg g] wr fun rr w'=>∃v,rr=.returned (.tuple #[v,.int .i64 z])/\Aq S g wr w' v ds st'):=hP;have HN:Hid (∀w' x,Aq S g wr w' x ds st'->YJ W g (.slice pv D.length cpv) x D ds st' w'):=fun w' x hx=>hI.call hx
   have HK:Hid ((d9 sy0 E).isSome=(z == 0)/\(∀L,d9 sy0 E=some L->L=D++ds)/\D.length+ds.length<=12*E.length+12/\D.length+ds.length<=1000000000000):=by
    refine ⟨by rw [hR',Option.isSome_map];exact hcl.1,fun L h=>?_,by have:=hcl.2.2;omega,by have:=hcl.2.2;omega⟩;rw [hR'] at h;obtain ⟨l,e1,e2⟩:=BJ.1 h;rw [<-e2,hcl.2.1 l e1]
   clear hI hR hR' hP hpp hcl hz hn hm HJ HI hbd hEt
   go_wp2_with fail
   refine HP.out.mono ?_;rintro r w6 ⟨x,rfl,hx⟩;have H6:Hid (YJ W g (.slice pv D.length cpv) x D ds st' w6):=HN.out _ _ hx;obtain ⟨px,cx,hxs,_⟩:=aL H6.out.rx;subst hxs;clear hx
   go_wp2_with (at_builtin;refine uc (by rfl) _ _ (by rfl) (.slice pv D.length cpv) (.slice px ds.length cx) D ds (by rfl) H6.out.rv (by rfl) H6.out.rx HK.out.2.2.2 ?_;intro v3 w7 h3 k3 n3;have H7:Hid (∃S,YI W g v3 (D++ds) st' S w7):=H6.out.fin _ _ h3 k3 n3;obtain ⟨p3,c3,e3,_⟩:=aL h3;rw [zq] at e3;subst e3;clear h3 k3 n3)
   obtain ⟨S7,hI7⟩:=H7.out;obtain ⟨y1,y2,y3,y4⟩:=HK.out;refine zE (v:=.tuple #[.slice p3 (D.length+ds.length) c3,.bool (z == 0)]) (by simp [results,Tryz.f32,go_sem]) rfl ?_;exact ⟨p3,_,c3,by rw [y1],hI7.bel,fun L hL=>by rw [y2 L hL];exact ⟨hI7.rd,fun k e=>(hI7.vB k e).1,by rw [zq];exact y3⟩⟩
end Go.Proofs.YtpdlohfdjiaegaaGreatDoor
