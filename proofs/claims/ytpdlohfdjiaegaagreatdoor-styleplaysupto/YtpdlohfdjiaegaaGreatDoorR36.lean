import Derived.Laws.EntriesVeiled
import Derived.Test.YtpdlohfdjiaegaaGreatDoorR35
set_option linter.unusedVariables false
set_option linter.unusedSimpArgs false
set_option maxHeartbeats 4000000
set_option maxRecDepth 100000
namespace Go.Proofs.YtpdlohfdjiaegaaGreatDoor
open Go.RowKit
open Lw (Dc bE rt frm dep rtT rtN)
variable {a b s:Sy}
def nm (n:Nd):Nd:=⟨n.k,n.b,if n.k=31 then n.s else false⟩
structure Sim (a b:Sy):Prop where
 ns:a.ns.map nm=b.ns.map nm
 ws:a.ws=b.ws
 mr:a.mr=b.mr
 wr:a.wr=b.wr
 en:a.en=b.en
 pt:a.pt=b.pt
theorem iK {n m:Nd}(h:nm n=nm m):n.k=m.k/\n.b=m.b/\(n.k=31->n.s=m.s):=by
 unfold nm at h;injection h with h1 h2 h3
 refine ⟨h1,h2,fun e=>?_⟩;rw [zw e,zw (h1 ▸ e)] at h3;exact h3
theorem Sim.head (h:Sim a b) {n:Nd}{r:List Nd}(e:b.ns=n :: r):∃n' r',a.ns=n' :: r'/\nm n'=nm n/\r'.map nm=r.map nm:=by
 have h1:=h.ns;rw [e] at h1;cases ha:a.ns with
 |nil=>rw [ha] at h1;cases h1
 |cons n' r'=>
  rw [ha,Bj,Bj] at h1;injection h1 with h2 h3
  exact ⟨n',r',rfl,h2,h3⟩
theorem Sim.nil (h:Sim a b) (e:b.ns=[]):a.ns=[]:=by
 have h1:=h.ns;rw [e] at h1;cases ha:a.ns with
 |nil=>rfl
 |cons n' r'=>rw [ha] at h1;cases h1
theorem Sim.len (h:Sim a b):a.ns.length=b.ns.length:=by have:=zO List.length h.ns;simpa using this
theorem yT (p:Pz) {n n':Nd}(h:nm n'=nm n):nm (if p=.X then { n' with b:=n'.b-1 } else { n' with b:=n'.b+p.n })=nm (if p=.X then { n with b:=n.b-1 } else { n with b:=n.b+p.n }):=by
 obtain ⟨h1,h2,h3⟩:=iK h
 by_cases hp:p=.X
 ·rw [zw hp,zw hp];unfold nm;simp only [h1,h2]
  by_cases h31:n.k=31
  ·simp [h31,h3 (h1.trans h31)]
  ·simp [h31]
 ·rw [zu hp,zu hp];unfold nm;simp only [h1,h2]
  by_cases h31:n.k=31
  ·simp [h31,h3 (h1.trans h31)]
  ·simp [h31]
theorem Sim.aw (h:Sim a b) (p:Pz):Sim (a.aw p) (b.aw p):=by
 refine ⟨?_,?_,h.mr,h.wr,h.en,h.pt⟩
 ·show (awN p a.ns).map nm=(awN p b.ns).map nm
  cases hb:b.ns with
  |nil=>rw [h.nil hb]
  |cons n r=>
   obtain ⟨n',r',e1,e2,e3⟩:=h.head hb;rw [e1];simp only [awN,Bj];rw [yT p e2,e3]
 ·show a.ws++awW p a.ns=b.ws++awW p b.ns
  rw [h.ws]
  congr 1
  have hh:((a.ns.head?.map (·.b)).getD 0)=((b.ns.head?.map (·.b)).getD 0):=by
   cases hb:b.ns with
   |nil=>rw [h.nil hb]
   |cons n r=>
    obtain ⟨n',r',e1,e2,e3⟩:=h.head hb;rw [e1];exact (iK e2).2.1
  unfold awW;rw [hh]
theorem Sim.aws (h:Sim a b) (l:List Pz):Sim (a.aws l) (b.aws l):=by
 induction l generalizing a b with
 |nil=>exact h
 |cons p l ih=>rw [bJ,bJ];exact ih (h.aw p)
theorem Sim.mark (h:Sim a b) (k:Int):Sim (a.mark k) (b.mark k):=by
 obtain ⟨an,aw,am,ar,ae,ap⟩:=a;obtain ⟨bn,bw,bm,br,be,bp⟩:=b;obtain ⟨h1,h2,h3,h4,h5,h6⟩:=h;simp only at h1 h2 h3 h4 h5 h6;subst h2 h3 h4 h5 h6;unfold Sy.mark;simp only
 split
 ·exact ⟨h1,rfl,rfl,rfl,rfl,rfl⟩
 ·exact ⟨h1,rfl,rfl,rfl,rfl,rfl⟩
theorem Sim.dexpr (h:Sim a b):Sim a.dexpr b.exprIn:=by
 cases hb:b.ns with
 |nil=>
  have e1:a.dexpr=a:=by unfold Sy.dexpr;rw [h.nil hb]
  have e2:b.exprIn=b:=by unfold Sy.exprIn;rw [hb]
  rw [e1,e2];exact h
 |cons n r=>
  obtain ⟨n',r',e1,e2,e3⟩:=h.head hb;obtain ⟨f1,f2,f3⟩:=iK e2
  by_cases h19:n.k=19
  ·have g1:a.dexpr=a.aws [.S,.I 3]:=by unfold Sy.dexpr;rw [e1];simp only;rw [zw (f1.trans h19)]
   have g2:b.exprIn={ b.aws [.S,.I 3] with ns:=⟨n.k,n.b+1,true⟩ :: r }:=by unfold Sy.exprIn;rw [hb];simp only [zw h19]
   rw [g1,g2];have h2:=h.aws [.S,.I 3];refine ⟨?_,h2.ws,h2.mr,h2.wr,h2.en,h2.pt⟩;show (awN (.I 3) (awN .S a.ns)).map nm=nm ⟨n.k,n.b+1,true⟩ :: r.map nm;rw [e1,<-e3];show nm ⟨n'.k,n'.b+0+1,n'.s⟩ :: r'.map nm=_;unfold nm;simp [f1,h19,f2]
  ·by_cases h31:n.k=31/\n.s=false
   ·have g1:a.dexpr=({ a with ns:=⟨n'.k,n'.b,true⟩ :: r' }:Sy).aws [.B0]:=by unfold Sy.dexpr;rw [e1];simp only;rw [zu (fun e=>h19 (f1.symm.trans e)),zw ⟨f1.trans h31.1,(f3 (f1.trans h31.1)).trans h31.2⟩]
    have g2:b.exprIn={ b.aws [.B0] with ns:=⟨n.k,n.b,true⟩ :: r }:=by unfold Sy.exprIn;rw [hb];simp only [zu h19,zw h31]
    rw [g1,g2];have h2:=h.aws [.B0];refine ⟨?_,?_,h2.mr,h2.wr,h2.en,h2.pt⟩
    ·show nm ⟨n'.k,n'.b+0,true⟩ :: r'.map nm=nm ⟨n.k,n.b,true⟩ :: r.map nm
     rw [e3,f1,f2];rfl
    ·show a.ws++awW .B0 _=b.ws++awW .B0 _
     rw [h.ws];rfl
   ·have g1:a.dexpr=a:=by unfold Sy.dexpr;rw [e1];simp only;rw [zu (fun e=>h19 (f1.symm.trans e)),zu (fun e=>h31 ⟨f1.symm.trans e.1,(f3 e.1).symm.trans e.2⟩)]
    have g2:b.exprIn={ b with ns:=⟨n.k,n.b,true⟩ :: r }:=by unfold Sy.exprIn;rw [hb];simp only [zu h19,zu h31]
    rw [g1,g2];refine ⟨?_,h.ws,h.mr,h.wr,h.en,h.pt⟩;rw [e1,Bj,e3];show _=nm ⟨n.k,n.b,true⟩ :: r.map nm
    congr 1
    unfold nm
    by_cases hk:n.k=31
    ·have hs:n.s=true:=by cases hs:n.s with|true=>rfl|false=>exact absurd ⟨hk,hs⟩ h31
     simp [f1,f2,hk,f3 (f1.trans hk),hs]
    ·simp [f1,f2,hk]
theorem Sim.opens (h:Sim a b) (k:Int):Sim (a.dopens k) (b.opens k):=by
 unfold Sy.dopens Sy.opens;simp only;refine Sim.aws ?_ _;have h1:Sim (if k=21 then a.dexpr else a) (if k=21 then b.exprIn else b):=by split;exact h.dexpr;exact h
 have h2:=h1.mark k;exact ⟨by show nm _ :: _=nm _ :: _;rw [h2.ns],h2.ws,h2.mr,h2.wr,h2.en,h2.pt⟩
theorem Sim.leaves (h:Sim a b):Sim a.leaves b.leaves:=by
 unfold Sy.leaves;cases hb:b.ns with
 |nil=>rw [h.nil hb];exact h
 |cons n r=>
  obtain ⟨n',r',e1,e2,e3⟩:=h.head hb;obtain ⟨f1,f2,_⟩:=iK e2;rw [e1];exact ⟨e3,by show a.ws++_++_=b.ws++_++_;rw [h.ws,f1,f2],h.mr,h.wr,h.en,h.pt⟩
theorem Sim.emp (h:Sim a b) (f:Int):Sim (a.emp f) (b.emp f):=by
 obtain ⟨an,aw,am,ar,ae,ap⟩:=a;obtain ⟨bn,bw,bm,br,be,bp⟩:=b;obtain ⟨h1,h2,h3,h4,h5,h6⟩:=h;simp only at h1 h2 h3 h4 h5 h6;subst h2 h3 h4 h5 h6;unfold Sy.emp;simp only
 split
 ·exact ⟨h1,rfl,rfl,rfl,rfl,rfl⟩
 ·split
  ·exact ⟨h1,rfl,rfl,rfl,rfl,rfl⟩
  ·exact ⟨h1,rfl,rfl,rfl,rfl,rfl⟩
theorem Sim.endl (h:Sim a b):Sim a.endl b.endl:=by
 obtain ⟨an,aw,am,ar,ae,ap⟩:=a;obtain ⟨bn,bw,bm,br,be,bp⟩:=b;obtain ⟨h1,h2,h3,h4,h5,h6⟩:=h;simp only at h1 h2 h3 h4 h5 h6;subst h2 h3 h4 h5 h6;unfold Sy.endl;simp only
 split
 ·exact ⟨h1,rfl,rfl,rfl,rfl,rfl⟩
 ·exact ⟨h1,rfl,rfl,rfl,rfl,rfl⟩
theorem Sim.part {a b:Sy}(h:Sim a b):Sim a.part b.part:=by
 obtain ⟨an,aw,am,ar,ae,ap⟩:=a;obtain ⟨bn,bw,bm,br,be,bp⟩:=b;obtain ⟨h1,h2,h3,h4,h5,h6⟩:=h;simp only at h1 h2 h3 h4 h5 h6;subst h2 h3 h4 h5 h6;unfold Sy.part;simp only
 split
 ·exact ⟨h1,rfl,rfl,rfl,rfl,rfl⟩
 ·exact ⟨h1,rfl,rfl,rfl,rfl,rfl⟩
theorem xm (t:Tv) {n n':Nd}(h:nm n'=nm n):aQ n' t=aQ n t:=by
 obtain ⟨f1,f2,_⟩:=iK h;have:n'.is=n.is:=by funext k;unfold Nd.is;rw [f1,f2]
 unfold aQ Rw.fits;rw [this]
theorem Sim.leaf (h:Sim a b) (t:Tv):Sim (a.leaf t).1 (b.leaf t).1/\(a.leaf t).2=(b.leaf t).2:=by
 unfold Sy.leaf;cases hb:b.ns with
 |nil=>rw [h.nil hb];exact ⟨h,rfl⟩
 |cons n r=>
  obtain ⟨n',r',e1,e2,e3⟩:=h.head hb;rw [e1];simp only;rw [xm t e2];have h2:Sim (a.ready (aQ n t).a t.f) (b.ready (aQ n t).a t.f):=by unfold Sy.ready;exact (((h.aws _).emp _).endl).part
  have h3:Sim ⟨(a.ready (aQ n t).a t.f).ns,[],none,true,false,false⟩ ⟨(b.ready (aQ n t).a t.f).ns,[],none,true,false,false⟩:=⟨h2.ns,rfl,rfl,rfl,rfl,rfl⟩;refine ⟨?_,by rw [h2.ws]⟩;show Sim (Sy.aws ⟨(a.ready (aQ n t).a t.f).ns,[],none,true,false,false⟩ _) (Sy.aws ⟨(b.ready (aQ n t).a t.f).ns,[],none,true,false,false⟩ _);exact h3.aws _
theorem Sim.note (h:Sim a b) (t:Tv):Sim (a.note t).1 (b.note t).1/\(a.note t).2=(b.note t).2:=by
 obtain ⟨an,aw,am,ar,ae,ap⟩:=a;obtain ⟨bn,bw,bm,br,be,bp⟩:=b;obtain ⟨h1,h2,h3,h4,h5,h6⟩:=h;simp only at h1 h2 h3 h4 h5 h6;subst h2 h3 h4 h5 h6;unfold Sy.note;simp only
 split
 ·exact ⟨⟨h1,rfl,rfl,rfl,rfl,rfl⟩,rfl⟩
 ·exact ⟨⟨h1,rfl,rfl,rfl,rfl,rfl⟩,rfl⟩
theorem Sim.may (h:Sim a b) (e:Ev):a.may e=b.may e:=by
 unfold Sy.may;cases hb:b.ns with
 |nil=>rw [h.nil hb]
 |cons n r=>
  obtain ⟨n',r',e1,e2,e3⟩:=h.head hb;rw [e1];simp only [(iK e2).1];rfl
def Nk (s:Sy):Prop:=∀n∈s.ns,1<=n.k/\n.k<=32
theorem Nk.aw (h:Nk s) (p:Pz):Nk (s.aw p):=by
 intro n hn;have hn':n∈awN p s.ns:=hn;cases hc:s.ns with
 |nil=>rw [hc] at hn';cases hn'
 |cons m r=>
  rw [hc] at hn'
  rcases zK.1 hn' with e|e
  ·have:=h m (by rw [hc];exact zV);rw [e]
   split <;> exact this
  ·exact h n (by rw [hc];exact zX _ e)
theorem Nk.aws (h:Nk s) (l:List Pz):Nk (s.aws l):=by
 induction l generalizing s with
 |nil=>exact h
 |cons p l ih=>rw [bJ];exact ih (h.aw p)
theorem Nk.of {u:Sy}(h:Nk s) (e:u.ns=s.ns):Nk u:=fun n hn=>h n (by rw [<-e];exact hn)
theorem Nk.dopens (h:Nk s) {k:Int}(h1:1<=k) (h2:k<=32):Nk (s.dopens k):=by
 rw [gr];unfold Sy.opn;refine Nk.aws ?_ _
 have hd:Nk s.dexpr:=by
  unfold Sy.dexpr
  split
  ·exact h
  ·rename_i n r e
   split
   ·exact h.aws _
   ·split
    ·refine Nk.aws (fun m hm=>?_) _
     rcases zK.1 hm with e2|e2
     ·rw [e2];exact h n (by rw [e];exact zV)
     ·exact h m (by rw [e];exact zX _ e2)
    ·exact h
 intro m hm
 rcases zK.1 hm with e|e
 ·rw [e];exact ⟨h1,h2⟩
 ·have:Nk (if k=21 then s.dexpr else s):=by split;exact hd;exact h
  exact this m e
theorem Nk.leaves (h:Nk s):Nk s.leaves:=by
 unfold Sy.leaves
 split
 ·exact h
 ·rename_i n r e
  exact fun m hm=>h m (by rw [e];exact zX _ hm)
theorem Wk.dopens (h:Wk s) (k:Int):Wk (s.dopens k):=by
 rw [gr];unfold Sy.opn;refine Wk.aws ?_ _
 have hd:Wk s.dexpr:=by
  unfold Sy.dexpr
  split
  ·exact h
  ·split
   ·exact h.aws _
   ·split
    ·have h9:∀ns:List Nd,Wk ({ s with ns:=ns }:Sy):=fun ns d hd=>h d hd
     exact (h9 _).aws _
    ·exact h
 have:Wk (if k=21 then s.dexpr else s):=by split;exact hd;exact h
 intro d hd2;have e:((if k=21 then s.dexpr else s).mark k).ws=(if k=21 then s.dexpr else s).ws:=gX _ _;exact this d (by rw [<-e];exact hd2)
theorem Wk.leaves (h:Wk s):Wk s.leaves:=by
 unfold Sy.leaves
 split
 ·exact h
 ·intro d hd
  rcases Ai.1 hd with hd|hd
  ·rcases Ai.1 hd with hd|hd
   ·exact h d hd
   ·rw [(List.mem_replicate.1 hd).2];simp [wkP,dX]
  ·split at hd
   ·rw [AN] at hd;rw [hd];simp [wkP,dH]
   ·cases hd
theorem Wk.leaf (h:Wk s) (t:Tv):Wk (s.leaf t).1:=by
 unfold Sy.leaf
 split
 ·exact h
 ·show Wk (Sy.aws _ _)
  exact Wk.aws (fun d hd=>by cases hd) _
theorem Wk.note (h:Wk s) (t:Tv):Wk (s.note t).1:=by
 have hd:∀d∈s.ws.dropWhile aK,d∈s.ws:=fun d hd=>(List.dropWhile_sublist _).subset hd
 unfold Sy.note;simp only
 split <;> exact fun d h2=>h d (hd d h2)
theorem Nk.leaf (h:Nk s) (t:Tv):Nk (s.leaf t).1:=by
 unfold Sy.leaf
 split
 ·exact h
 ·rename_i n r e
  show Nk (Sy.aws _ _)
  refine Nk.aws ?_ _;show Nk ⟨(s.ready _ _).ns,[],none,true,false,false⟩
  have:(s.ready (aQ n t).a t.f).ns=(s.aws (aQ n t).a.pz).ns:=by
   unfold Sy.ready;have h1:∀u:Sy,u.part.ns=u.ns:=fun u=>by unfold Sy.part;split <;> rfl
   have h2:∀u:Sy,u.endl.ns=u.ns:=fun u=>by unfold Sy.endl;split <;> rfl
   rw [h1,h2,nU]
  exact (h.aws (aQ n t).a.pz).of this
theorem Nk.note (h:Nk s) (t:Tv):Nk (s.note t).1:=by
 unfold Sy.note;simp only
 split <;> exact h
end Go.Proofs.YtpdlohfdjiaegaaGreatDoor
namespace Go.Proofs.YtpdlohfdjiaegaaGreatDoor
open Go.RowKit
open Lw (Dc bE rt frm dep rtT rtN dcs au aH)
def Rw.cs (r:Rw):List Value:=r.ns.map (Value.int .u8)++[.string ⟨r.t.toArray⟩,.func (.func r.a.id) #[] #[],.func (.func r.b.id) #[] #[]]
def d8:List Value:=tab.flatMap Rw.cs
theorem kJ:d8.length=360:=by decide +kernel
theorem ra:∀v∈d8,v.oneCell'=true:=by
 intro v hv;obtain ⟨r,hr,hv⟩:=BG.1 hv;unfold Rw.cs at hv
 rcases Ai.1 hv with h|h
 ·obtain ⟨k,_,rfl⟩:=Cf.1 h;rfl
 ·simp only [zK,Av,B6] at h
  rcases h with rfl|rfl|rfl <;> rfl
theorem mx {o:Oper}{a:Act}{K:Act->World->Prop}{Q:Exit->Act->World->Prop}{w0 w1:World}{N:Nat}{L:List Value}{f:Unit->World->Result Next}(hL:L=d8) (hr:(storeCells ⟨N,0,none⟩ d8).run Tryz.prog w0=.ok () w1) (h:Oper.upon Tryz.prog o a K Q (f () w1)):Oper.upon Tryz.prog o a K Q ((Sem.run Tryz.prog (storeCells ⟨N,0,none⟩ L) w0).andThen f):=by
 subst hL;rw [hr];exact h
theorem cW {P:Program}{fn:Func}{tmps:Array Value}{w:World}{a:Nat}{t:TypeId}{ad:Addr}{v:Value}(h:fn.results=#[.cell a t]) (ha:tmps.getD a undef=.pointer (some ad)) (hl:(loadVar t ad).run P w=.ok v w):(results fn tmps).run P w=.ok v w:=by
 have ha':tmps[a]?.getD undef=.pointer (some ad):=by rw [<-BL];exact ha
 simp [results,h,ha',asAddr,hl]
theorem o0 (W:World):Aa 120 #[] W fun e w'=>e=.returned (.agg d8.toArray)/\Below W.heap.size W w':=by
 obtain ⟨W0,hW0⟩:∃W0,W.alloc (.cells Tryz.zeroCells184 184)=W0:=⟨_,rfl⟩;have hz:(Tryz.zeroCells184).size=360:=by kernel_rfl
 have hb0:W0.heap[W.heap.size]?=some (.cells Tryz.zeroCells184 184 (0,0)):=by rw [<-hW0];exact ag W _
 have hB0:Below W.heap.size W W0:=by rw [<-hW0];exact (gt _ _).alloc (eq _) _
 have hst:=Ds Tryz.prog W.heap.size 0 184 d8 0 Tryz.zeroCells184 W0 hb0 (by rw [kJ,hz];decide) ra
 have e1:(Tryz.zeroCells184).toList.take (0+0)++d8++(Tryz.zeroCells184).toList.drop (0+0+d8.length)=d8:=by
  rw [kJ,AO (by rw [AC,hz];decide)];simp
 rw [e1] at hst;obtain ⟨W1,hW1⟩:∃W1,W0.setRow W.heap.size d8.toArray=W1:=⟨_,rfl⟩;rw [hW1] at hst;have hb1:W1.heap[W.heap.size]?=some (.cells d8.toArray 184 (0,0)):=by rw [<-hW1];exact CA W0 _ _ _ _ _ hb0
 have hB1:Below W.heap.size W W1:=by rw [<-hW1];exact gY hB0 (Kp.setRow W0 _ _) (fun k e=>by omega) hB0.size
 have hl:(loadVar 184 ⟨W.heap.size,0,none⟩).run Tryz.prog W1=.ok (.agg d8.toArray) W1:=C7 (P:=Tryz.prog) W1 W.heap.size 184 184 d8.toArray (0,0) _ hb1 Tryz.underlying184 (by first|rfl|kernel_rfl) (by first|rfl|kernel_rfl);have HS:Hid ((storeCells ⟨W.heap.size,0,none⟩ d8).run Tryz.prog W0=.ok () W1):=hst;have HL:Hid ((loadVar 184 ⟨W.heap.size,0,none⟩).run Tryz.prog W1=.ok (.agg d8.toArray) W1):=hl;have HB:Hid (Ab W W1):=hB1;have HW:Hid (W.alloc (.cells Tryz.zeroCells184 184)=W0):=hW0;clear hW0 hz hb0 hB0 hst e1 hW1 hb1 hB1 hl
 go_enter Tryz.func120,Tryz.ntmps120
 go_wp2_with fail
 rw [HW.out];refine mx (by kernel_rfl) HS.out ?_
 go_wp2_with fail
 refine zE (v:=.agg d8.toArray) (cW (a:=0) (t:=184) (ad:=⟨W.heap.size,0,none⟩) (by kernel_rfl) (by rfl) HL.out) rfl ?_;exact ⟨rfl,HB.out⟩
theorem nL:tab.length=40:=by decide
theorem nK:∀r∈tab,r.ns.length=6:=by decide
theorem six {l:List Int}(h:l.length=6):∃a b c d e f,l=[a,b,c,d,e,f]:=by
 match l,h with
 |[a,b,c,d,e,f],_=>exact ⟨a,b,c,d,e,f,rfl⟩
def Rw.v (r:Rw):Value:=.agg r.cs.toArray
theorem vJ (w:World):∀k,k<40->(Instr.index 184 (Value.agg d8.toArray) (.int .i64 (k:Nat))).run Tryz.prog w=.ok (tab.getD k rw0).v w
 |0,_=>by kernel_rfl
 |1,_=>by kernel_rfl
 |2,_=>by kernel_rfl
 |3,_=>by kernel_rfl
 |4,_=>by kernel_rfl
 |5,_=>by kernel_rfl
 |6,_=>by kernel_rfl
 |7,_=>by kernel_rfl
 |8,_=>by kernel_rfl
 |9,_=>by kernel_rfl
 |10,_=>by kernel_rfl
 |11,_=>by kernel_rfl
 |12,_=>by kernel_rfl
 |13,_=>by kernel_rfl
 |14,_=>by kernel_rfl
 |15,_=>by kernel_rfl
 |16,_=>by kernel_rfl
 |17,_=>by kernel_rfl
 |18,_=>by kernel_rfl
 |19,_=>by kernel_rfl
 |20,_=>by kernel_rfl
 |21,_=>by kernel_rfl
 |22,_=>by kernel_rfl
 |23,_=>by kernel_rfl
 |24,_=>by kernel_rfl
 |25,_=>by kernel_rfl
 |26,_=>by kernel_rfl
 |27,_=>by kernel_rfl
 |28,_=>by kernel_rfl
 |29,_=>by kernel_rfl
 |30,_=>by kernel_rfl
 |31,_=>by kernel_rfl
 |32,_=>by kernel_rfl
 |33,_=>by kernel_rfl
 |34,_=>by kernel_rfl
 |35,_=>by kernel_rfl
 |36,_=>by kernel_rfl
 |37,_=>by kernel_rfl
 |38,_=>by kernel_rfl
 |39,_=>by kernel_rfl
 |k+40,h=>absurd h (by omega)
theorem wH (a b c d e f:Int) (t:List UInt8) (x y:Fx):(Rw.mk [a,b,c,d,e,f] t x y).v=.agg #[.int .u8 a,.int .u8 b,.int .u8 c,.int .u8 d,.int .u8 e,.int .u8 f,.string ⟨t.toArray⟩,.func (.func x.id) #[] #[],.func (.func y.id) #[] #[]]:=rfl
theorem s9 (r:Rw) {a b c d e f:Int}(hr:r.ns=[a,b,c,d,e,f]) (n:Nd) (tx:ByteArray) (W:World) :
  Aa 121 #[.agg #[.int .u8 a,.int .u8 b,.int .u8 c,.int .u8 d,.int .u8 e,.int .u8 f,.string ⟨r.t.toArray⟩,.func (.func r.a.id) #[] #[],.func (.func r.b.id) #[] #[]],.agg #[.int .u8 n.k,.int .i64 n.b,.bool n.s],.string tx] W fun e w'=>e=.returned (.bool (r.fits n tx))/\Below W.heap.size W w':=by
 have h1:(⟨r.t.toArray⟩:ByteArray).toList=r.t:=by rw [Lib.toList_data]
 have h2:tx.toList=tx.data.toList:=Lib.toList_data tx
 have he:r.fits n tx=(((⟨r.t.toArray⟩:ByteArray).toList == [] || (⟨r.t.toArray⟩:ByteArray).toList == tx.toList) && [a,b,c,d,e,f].any n.is):=by
  unfold Rw.fits;rw [h1,h2,hr]
  congr 2
  ·by_cases q:r.t=[] <;> simp [q]
  ·by_cases q:r.t=tx.data.toList <;> simp [q]
 rw [he];exact qk a b c d e f ⟨r.t.toArray⟩ r.a.id r.b.id n tx W
theorem qm {α:Type}(p:α->Bool) (l:List α) (k:Nat) (x:α) (hx:l[k]?=some x) (h:(l.take k).find? p=none) (hp:p x=false):(l.take (k+1)).find? p=none:=by
 rw [Cz,hx,Dy,h];simp [hp]
theorem vS {α:Type}(p:α->Bool) (l:List α) (k:Nat) (x:α) (hx:l[k]?=some x) (h:(l.take k).find? p=none) (hp:p x=true):l.find? p=some x:=by
 have hlt:=(zv.1 hx).1
 have e:l=l.take k++x :: l.drop (k+1):=by
  have:=Ad hlt;rw [(zv.1 hx).2] at this;rw [<-this,CG]
 rw [e,Dy,h];simp [hp]
theorem pj (n:Nd) (t:Tv) (W:World) (hk:t.k=2\/t.k=6) :
  Aa 70 #[.agg #[.int .u8 n.k,.int .i64 n.b,.bool n.s],.agg #[.int .u8 t.k,.string t.t,.int .i64 t.a,.int .i64 t.l,.int .i64 t.c,.int .i64 t.f]] W fun e w'=>e=.returned (aQ n t).v/\Below W.heap.size W w':=by
 have HTab:Hid (∀V,Aa 120 #[] V fun e w'=>e=.returned (.agg d8.toArray)/\Below V.heap.size V w'):=o0;have q1:(t.k == 2)=true\/((t.k == 2)=false/\(t.k == 6)=true):=by rcases hk with h|h <;> simp [h]
 go_enter Tryz.func70,Tryz.ntmps70
 go_upto_region 1 with fail
 go_cut [14] from 7 to 14 (fun t9 wx=>t9=.bool true/\wx=(((W.alloc (.cells #[.int .u8 n.k,.int .i64 n.b,.bool n.s] 121)).alloc (.cells #[.int .u8 t.k,.string t.t,.int .i64 t.a,.int .i64 t.l,.int .i64 t.c,.int .i64 t.f] 37)).alloc (.cells #[.int .u8 0,.int .u8 0,.int .u8 0,.int .u8 0,.int .u8 0,.int .u8 0,.string ⟨#[]⟩,.nilFunc,.nilFunc] 132)))
 case first=>
  rcases q1 with q1|⟨q1,q2⟩
  ·go_wp2_with fail
   go_meet
   exact ⟨rfl,rfl⟩
  ·go_wp2_with fail
   go_meet
   exact ⟨rfl,rfl⟩
 case rest=>
 obtain ⟨rfl,hwc⟩:=hcut;obtain ⟨V,hV⟩:∃V,V=wc:=⟨wc,rfl⟩;subst hV;have hsz1:(W.alloc (.cells #[.int .u8 n.k,.int .i64 n.b,.bool n.s] 121)).heap.size=W.heap.size+1:=by show (W.heap.push _).size=_;simp
 have hsz2:((W.alloc (.cells #[.int .u8 n.k,.int .i64 n.b,.bool n.s] 121)).alloc (.cells #[.int .u8 t.k,.string t.t,.int .i64 t.a,.int .i64 t.l,.int .i64 t.c,.int .i64 t.f] 37)).heap.size=W.heap.size+1+1:=by show ((W.heap.push _).push _).size=_;simp
 have hN:V.heap[W.heap.size]?=some (.cells #[.int .u8 n.k,.int .i64 n.b,.bool n.s] 121 (0,0)):=by rw [hwc];exact aB (aB (ag _ _) _) _
 have hTk:V.heap[W.heap.size+1]?=some (.cells #[.int .u8 t.k,.string t.t,.int .i64 t.a,.int .i64 t.l,.int .i64 t.c,.int .i64 t.f] 37 (0,0)):=by rw [hwc,<-hsz1];exact aB (ag _ _) _
 have hRs:V.heap[W.heap.size+1+1]?=some (.cells #[.int .u8 0,.int .u8 0,.int .u8 0,.int .u8 0,.int .u8 0,.int .u8 0,.string ⟨#[]⟩,.nilFunc,.nilFunc] 132 (0,0)):=by rw [hwc,<-hsz2];exact ag _ _
 have hBV:Below W.heap.size W V:=by rw [hwc];exact (((gt _ _).alloc (eq _) _).alloc (by omega) _).alloc (by omega) _
 clear hsz1 hsz2 hwc
 go_upto_if 14 with fail
 go_wp2_with (go_at_call 120;refine (HTab.out _).mono ?_;rintro e w1 ⟨rfl,hb1⟩;have HB1:=show Hid (Below V.heap.size V w1) from hb1;clear hb1)
 go_loopw [6,16] (fun _ i wr=>∃k:Nat,k<=40/\i=.int .i64 k/\Hid ((tab.take k).find? (fun r=>r.fits n t.t)=none)/\Hid (Below V.heap.size V wr)) (fun _ i _=>40-(intOf i).toNat)
 case atStart=>exact ⟨0,by omega,rfl,by show _=_;simp,HB1.out⟩
 case round=>
  obtain ⟨k,hk40,rfl,HI,HB⟩:=hrel
  by_cases hlt:k<40
  ·have q3:(k:Int)<40:=by omega
   have q4:(0:Int)<=k:=by omega
   obtain ⟨x,hx⟩:∃x,tab[k]?=some x:=⟨_,hH (by rw [nL];exact hlt)⟩;obtain ⟨a,b,c,d,e,f,hsix⟩:=six (nK x (Ah hx))
   have hxv:x.v=.agg #[.int .u8 a,.int .u8 b,.int .u8 c,.int .u8 d,.int .u8 e,.int .u8 f,.string ⟨x.t.toArray⟩,.func (.func x.a.id) #[] #[],.func (.func x.b.id) #[] #[]]:=by
    have:x=⟨[a,b,c,d,e,f],x.t,x.a,x.b⟩:=by rw [<-hsix]
    rw [this];exact wH _ _ _ _ _ _ _ _ _
   have hix:(Instr.index 184 (Value.agg d8.toArray) (.int .i64 (k:Nat))).run Tryz.prog wr=.ok (.agg #[.int .u8 a,.int .u8 b,.int .u8 c,.int .u8 d,.int .u8 e,.int .u8 f,.string ⟨x.t.toArray⟩,.func (.func x.a.id) #[] #[],.func (.func x.b.id) #[] #[]]) wr:=by
    rw [vJ wr k hlt,AY,hx,<-hxv];rfl
   have HFt:Hid (∀X,Aa 121 #[.agg #[.int .u8 a,.int .u8 b,.int .u8 c,.int .u8 d,.int .u8 e,.int .u8 f,.string ⟨x.t.toArray⟩,.func (.func x.a.id) #[] #[],.func (.func x.b.id) #[] #[]],.agg #[.int .u8 n.k,.int .i64 n.b,.bool n.s],.string t.t] X fun e w'=>e=.returned (.bool (x.fits n t.t))/\Below X.heap.size X w'):=s9 x hsix n t.t;obtain ⟨U,hU⟩:∃U,wr.alloc (.cells #[.int .u8 a,.int .u8 b,.int .u8 c,.int .u8 d,.int .u8 e,.int .u8 f,.string ⟨x.t.toArray⟩,.func (.func x.a.id) #[] #[],.func (.func x.b.id) #[] #[]] 132)=U:=⟨_,rfl⟩;have hUb:Below wr.heap.size wr U:=by rw [<-hU];exact (gt _ _).alloc (eq _) _
   have hUr:U.heap[wr.heap.size]?=some (.cells #[.int .u8 a,.int .u8 b,.int .u8 c,.int .u8 d,.int .u8 e,.int .u8 f,.string ⟨x.t.toArray⟩,.func (.func x.a.id) #[] #[],.func (.func x.b.id) #[] #[]] 132 (0,0)):=by rw [<-hU];exact ag _ _
   have hVU:Below V.heap.size V U:=HB.out.trans (hUb.mono HB.out.size);have hNU:=ab hN hVU;have hTU:=ab hTk hVU;have hRU:=ab hRs hVU;have HUU:=show Hid (wr.alloc (.cells #[.int .u8 a,.int .u8 b,.int .u8 c,.int .u8 d,.int .u8 e,.int .u8 f,.string ⟨x.t.toArray⟩,.func (.func x.a.id) #[] #[],.func (.func x.b.id) #[] #[]] 132)=U) from hU
   clear hU hUb
   go_upto_region 5 with fail
   rw [HUU.out];have l0:=aa (k:=0) hUr rfl;have l1:=aa (k:=1) hUr rfl;have l2:=aa (k:=2) hUr rfl;have l3:=aa (k:=3) hUr rfl;have l4:=aa (k:=4) hUr rfl;have l5:=aa (k:=5) hUr rfl;have l6:=aa (k:=6) hUr rfl;have l7:=aa (k:=7) hUr rfl;have l8:=aa (k:=8) hUr rfl;have n0:=aa (k:=0) hNU rfl;have n1:=aa (k:=1) hNU rfl;have n2:=aa (k:=2) hNU rfl;have k1:=aa (k:=1) hTU rfl;have HVU:=show Hid (Below V.heap.size V U) from hVU
   by_cases hfit:x.fits n t.t=true
   ·have hro:aQ n t=x:=by unfold aQ;rw [zw hk,vS _ tab k x hx HI.out hfit];rfl
    have HRo:=show Hid ((aQ n t).v=.agg #[.int .u8 a,.int .u8 b,.int .u8 c,.int .u8 d,.int .u8 e,.int .u8 f,.string ⟨x.t.toArray⟩,.func (.func x.a.id) #[] #[],.func (.func x.b.id) #[] #[]]) from (by rw [hro];exact hxv)
    rw [hfit] at HFt;have HAll:=show Hid (U.heap[wr.heap.size]?=some (.cells #[.int .u8 a,.int .u8 b,.int .u8 c,.int .u8 d,.int .u8 e,.int .u8 f,.string ⟨x.t.toArray⟩,.func (.func x.a.id) #[] #[],.func (.func x.b.id) #[] #[]] 132 (0,0))/\U.heap[W.heap.size+1+1]?=some (.cells #[.int .u8 0,.int .u8 0,.int .u8 0,.int .u8 0,.int .u8 0,.int .u8 0,.string ⟨#[]⟩,.nilFunc,.nilFunc] 132 (0,0))) from ⟨hUr,hRU⟩
    have HBV:=show Hid (Below W.heap.size W V/\W.heap.size<=W.heap.size+1+1) from ⟨hBV,by omega⟩
    clear hxv hsix hix hUr hVU hNU hTU hRU hN hTk hRs hBV hro hx HI hfit HTab
    go_upto_region 6 with (go_at_call 121;refine (HFt.out _).mono ?_;rintro e9 w9 ⟨rfl,hb9⟩)
    obtain ⟨hA1,hA2⟩:=HAll.out;have hA1':=ab hA1 hb9;have hA2':=ab hA2 hb9;have HFin:=show Hid (w9.heap[W.heap.size+1+1]?=some (.cells #[.int .u8 0,.int .u8 0,.int .u8 0,.int .u8 0,.int .u8 0,.int .u8 0,.string ⟨#[]⟩,.nilFunc,.nilFunc] 132 (0,0))/\Below W.heap.size W w9) from ⟨hA2',HBV.out.1.trans ((HVU.out.trans (hb9.mono HVU.out.size)).mono HBV.out.1.size)⟩
    have p0:=aa (k:=0) hA1' rfl;have p1:=aa (k:=1) hA1' rfl;have p2:=aa (k:=2) hA1' rfl;have p3:=aa (k:=3) hA1' rfl;have p4:=aa (k:=4) hA1' rfl;have p5:=aa (k:=5) hA1' rfl;have p6:=aa (k:=6) hA1' rfl;have p7:=aa (k:=7) hA1' rfl;have p8:=aa (k:=8) hA1' rfl;have s0:=aa (k:=0) hA2' rfl;have s1:=aa (k:=1) hA2' rfl;have s2:=aa (k:=2) hA2' rfl;have s3:=aa (k:=3) hA2' rfl;have s4:=aa (k:=4) hA2' rfl;have s5:=aa (k:=5) hA2' rfl;have s6:=aa (k:=6) hA2' rfl;have s7:=aa (k:=7) hA2' rfl;have s8:=aa (k:=8) hA2' rfl;have f0:=fun j=>aj (k:=j) hA2'
    clear hA1 hA2 hA1' hA2' hb9 l0 l1 l2 l3 l4 l5 l6 l7 l8 n0 n1 n2 k1 HFt
    go_wp2_with fail
    obtain ⟨hA2',hbF⟩:=HFin.out;have h9:=af (af (af (af (af (af (af (af (af hA2' 0 (.int .u8 a)) 1 (.int .u8 b)) 2 (.int .u8 c)) 3 (.int .u8 d)) 4 (.int .u8 e)) 5 (.int .u8 f)) 6 (.string ⟨x.t.toArray⟩)) 7 (.func (.func x.a.id) #[] #[])) 8 (.func (.func x.b.id) #[] #[]);have h9:=h9.trans (show _=some (Obj.cells #[.int .u8 a,.int .u8 b,.int .u8 c,.int .u8 d,.int .u8 e,.int .u8 f,.string ⟨x.t.toArray⟩,.func (.func x.a.id) #[] #[],.func (.func x.b.id) #[] #[]] 132 (0,0)) by kernel_rfl);have hld:=C7 (P:=Tryz.prog) _ (W.heap.size+1+1) 132 132 _ (0,0) _ h9 Di (by first|rfl|kernel_rfl) (by first|rfl|kernel_rfl);refine zE (v:=.agg #[.int .u8 a,.int .u8 b,.int .u8 c,.int .u8 d,.int .u8 e,.int .u8 f,.string ⟨x.t.toArray⟩,.func (.func x.a.id) #[] #[],.func (.func x.b.id) #[] #[]]) (cW (a:=4) (t:=132) (ad:=⟨W.heap.size+1+1,0,none⟩) (by kernel_rfl) (by rfl) hld) rfl ?_;refine ⟨by rw [HRo.out],?_⟩;have hle:=HBV.out.2;exact ((((((((hbF.setCell (p:=⟨W.heap.size+1+1,0,none⟩) hle _).setCell (p:=⟨W.heap.size+1+1,1,none⟩) hle _).setCell (p:=⟨W.heap.size+1+1,2,none⟩) hle _).setCell (p:=⟨W.heap.size+1+1,3,none⟩) hle _).setCell (p:=⟨W.heap.size+1+1,4,none⟩) hle _).setCell (p:=⟨W.heap.size+1+1,5,none⟩) hle _).setCell (p:=⟨W.heap.size+1+1,6,none⟩) hle _).setCell (p:=⟨W.heap.size+1+1,7,none⟩) hle _).setCell (p:=⟨W.heap.size+1+1,8,none⟩) hle _
   ·have hfit':x.fits n t.t=false:=by simpa using hfit
    have HNx:=show Hid ((tab.take (k+1)).find? (fun r=>r.fits n t.t)=none) from qm _ tab k x hx HI.out hfit'
    rw [hfit'] at HFt;clear hxv hsix hix hUr hVU hNU hTU hRU hN hTk hRs hBV hx HI hfit hfit' HTab
    go_wp2_with (go_at_call 121;refine (HFt.out _).mono ?_;rintro e9 w9 ⟨rfl,hb9⟩;have HB9:=show Hid (Below V.heap.size V w9) from HVU.out.trans (hb9.mono HVU.out.size);clear hb9)
    exact ⟨⟨k+1,hlt,by go_num,HNx,HB9⟩,by simp [intOf];omega⟩
  ·obtain rfl:k=40:=by omega
   have hro:aQ n t=rw0:=by
    unfold aQ;rw [zw hk];have:=HI.out;rw [Ak (by rw [nL];omega)] at this;rw [this];rfl
   have HRo:=show Hid ((aQ n t).v=.agg #[.int .u8 0,.int .u8 0,.int .u8 0,.int .u8 0,.int .u8 0,.int .u8 0,.string ⟨#[]⟩,.func (.func 122) #[] #[],.func (.func 122) #[] #[]]) from (by rw [hro];rfl)
   have hA2':=ab hRs HB.out;have HFin:=show Hid (wr.heap[W.heap.size+1+1]?=some (.cells #[.int .u8 0,.int .u8 0,.int .u8 0,.int .u8 0,.int .u8 0,.int .u8 0,.string ⟨#[]⟩,.nilFunc,.nilFunc] 132 (0,0))/\Below W.heap.size W wr) from ⟨hA2',hBV.trans (HB.out.mono hBV.size)⟩
   have s0:=aa (k:=0) hA2' rfl;have s1:=aa (k:=1) hA2' rfl;have s2:=aa (k:=2) hA2' rfl;have s3:=aa (k:=3) hA2' rfl;have s4:=aa (k:=4) hA2' rfl;have s5:=aa (k:=5) hA2' rfl;have s6:=aa (k:=6) hA2' rfl;have s7:=aa (k:=7) hA2' rfl;have s8:=aa (k:=8) hA2' rfl;have f0:=fun j=>aj (k:=j) hA2'
   clear hA2' hro hN hTk hRs hBV HTab HI
   go_wp2_with fail
   obtain ⟨hA2',hbF⟩:=HFin.out;have h9:=af (af (af (af (af (af (af (af (af hA2' 0 (.int .u8 0)) 1 (.int .u8 0)) 2 (.int .u8 0)) 3 (.int .u8 0)) 4 (.int .u8 0)) 5 (.int .u8 0)) 6 (.string ⟨#[]⟩)) 7 (.func (.func 122) #[] #[])) 8 (.func (.func 122) #[] #[]);have h9:=h9.trans (show _=some (Obj.cells #[.int .u8 0,.int .u8 0,.int .u8 0,.int .u8 0,.int .u8 0,.int .u8 0,.string ⟨#[]⟩,.func (.func 122) #[] #[],.func (.func 122) #[] #[]] 132 (0,0)) by kernel_rfl);have hld:=C7 (P:=Tryz.prog) _ (W.heap.size+1+1) 132 132 _ (0,0) _ h9 Di (by first|rfl|kernel_rfl) (by first|rfl|kernel_rfl);refine zE (v:=.agg #[.int .u8 0,.int .u8 0,.int .u8 0,.int .u8 0,.int .u8 0,.int .u8 0,.string ⟨#[]⟩,.func (.func 122) #[] #[],.func (.func 122) #[] #[]]) (cW (a:=4) (t:=132) (ad:=⟨W.heap.size+1+1,0,none⟩) (by kernel_rfl) (by rfl) hld) rfl ?_;refine ⟨by rw [HRo.out],?_⟩;have hle:W.heap.size<=W.heap.size+1+1:=by omega
   exact ((((((((hbF.setCell (p:=⟨W.heap.size+1+1,0,none⟩) hle _).setCell (p:=⟨W.heap.size+1+1,1,none⟩) hle _).setCell (p:=⟨W.heap.size+1+1,2,none⟩) hle _).setCell (p:=⟨W.heap.size+1+1,3,none⟩) hle _).setCell (p:=⟨W.heap.size+1+1,4,none⟩) hle _).setCell (p:=⟨W.heap.size+1+1,5,none⟩) hle _).setCell (p:=⟨W.heap.size+1+1,6,none⟩) hle _).setCell (p:=⟨W.heap.size+1+1,7,none⟩) hle _).setCell (p:=⟨W.heap.size+1+1,8,none⟩) hle _
theorem pk (n:Nd) (t:Tv) (W:World) :
  Aa 70 #[.agg #[.int .u8 n.k,.int .i64 n.b,.bool n.s],.agg #[.int .u8 t.k,.string t.t,.int .i64 t.a,.int .i64 t.l,.int .i64 t.c,.int .i64 t.f]] W fun e w'=>e=.returned (aQ n t).v/\Below W.heap.size W w':=by
 by_cases hk:t.k=2\/t.k=6
 ·exact pj n t W hk
 ·have hro:aQ n t=rw0:=by unfold aQ;rw [zu hk]
  have HRo:=show Hid ((aQ n t).v=.agg #[.int .u8 0,.int .u8 0,.int .u8 0,.int .u8 0,.int .u8 0,.int .u8 0,.string ⟨#[]⟩,.func (.func 122) #[] #[],.func (.func 122) #[] #[]]) from (by rw [hro];rfl)
  have q1:(t.k == 2)=false:=by simp;exact fun h=>hk (.inl h)
  have q2:(t.k == 6)=false:=by simp;exact fun h=>hk (.inr h)
  obtain ⟨U,hU⟩:∃U,(W.alloc (.cells #[.int .u8 n.k,.int .i64 n.b,.bool n.s] 121)).alloc (.cells #[.int .u8 t.k,.string t.t,.int .i64 t.a,.int .i64 t.l,.int .i64 t.c,.int .i64 t.f] 37)=U:=⟨_,rfl⟩;have hsz:U.heap.size=W.heap.size+1+1:=by rw [<-hU];show ((W.heap.push _).push _).size=_;simp
  have hUb:Below W.heap.size W U:=by rw [<-hU];exact ((gt _ _).alloc (eq _) _).alloc (by show _<=(W.heap.push _).size;simp) _
  have h9:=ag U (.cells #[.int .u8 0,.int .u8 0,.int .u8 0,.int .u8 0,.int .u8 0,.int .u8 0,.string ⟨#[]⟩,.func (.func 122) #[] #[],.func (.func 122) #[] #[]] 132);rw [hsz] at h9;have hld:=C7 (P:=Tryz.prog) _ (W.heap.size+1+1) 132 132 _ (0,0) _ h9 Di (by first|rfl|kernel_rfl) (by first|rfl|kernel_rfl);have hBf:Below W.heap.size W (U.alloc (.cells #[.int .u8 0,.int .u8 0,.int .u8 0,.int .u8 0,.int .u8 0,.int .u8 0,.string ⟨#[]⟩,.func (.func 122) #[] #[],.func (.func 122) #[] #[]] 132)):=hUb.alloc hUb.size _;rw [<-hU] at hld hBf;have HLd:=hid hld;have HBf:=hid hBf;clear hld hBf h9 hsz hUb hU hro hk
  go_enter Tryz.func70,Tryz.ntmps70
  go_wp2_with fail
  refine zE (v:=.agg #[.int .u8 0,.int .u8 0,.int .u8 0,.int .u8 0,.int .u8 0,.int .u8 0,.string ⟨#[]⟩,.func (.func 122) #[] #[],.func (.func 122) #[] #[]]) (cW (a:=4) (t:=132) (ad:=⟨W.heap.size+1+1,0,none⟩) (by kernel_rfl) (by rfl) HLd.out) rfl ?_;exact ⟨by rw [HRo.out],HBf.out⟩
end Go.Proofs.YtpdlohfdjiaegaaGreatDoor
