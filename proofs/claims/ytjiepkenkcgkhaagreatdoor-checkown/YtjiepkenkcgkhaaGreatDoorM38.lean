import Derived.Test.YtjiepkenkcgkhaaGreatDoorM09
import Derived.Test.YtjiepkenkcgkhaaGreatDoorM37
set_option linter.unusedVariables false
set_option linter.unusedSimpArgs false
namespace Go.Proofs.YtjiepkenkcgkhaaGreatDoor
open Go.RowKit
open Lw (Dc bE rt cy dh eZ ij)
variable {s:Sy}{L l a:List Dc}{c:Cl}
def je:Int->List Dc->Option Int
 |o,[]=>some o
 |o,d :: r=>if rt d=true/\0<=o+dh d.k then je (o+dh d.k) r else none
theorem mY:∀(a:List Dc) (o:Int) (b:List Dc),je o (a++b)=(je o a).bind (fun x=>je x b)
 |[],o,b=>rfl
 |d :: a,o,b=>by
  simp only [Rh,je]
  split
  ·exact mY a _ b
  ·rfl
theorem DH:∀(a:List Dc) {o x:Int},0<=o->je o a=some x->0<=x
 |[],o,x,h,e=>by cases e;exact h
 |d :: a,o,x,h,e=>by
  simp only [je] at e
  split at e
  ·rename_i hc;exact DH a hc.2 e
  ·cases e
theorem zF:∀(l:List Dc) (o:Int) (j:Nat),je o l=some 0->cy o j l=none
 |[],o,j,h=>by cases h;rfl
 |d :: l,o,j,h=>by
  simp only [je] at h;simp only [cy]
  split at h
  ·rename_i hc;rw [IO hc];exact zF l _ _ h
  ·cases h
def NO (d:Dc):Prop:=rt d=true/\dh d.k=0
theorem Ei:NO dS:=⟨rfl,rfl⟩
theorem sy:NO dH:=⟨rfl,rfl⟩
theorem Ej:NO dE:=⟨rfl,rfl⟩
theorem sx {t:ByteArray}(h:eZ t=true):NO (dT t):=⟨by simp [rt,dT,h],rfl⟩
theorem eP {d:Dc}(hd:NO d) (a b:List Dc) {o:Int}(ho:0<=o):je o (a++d :: b)=je o (a++b):=by
 rw [mY,mY];cases h:je o a with
 |none=>rfl
 |some x=>
  have hx:=DH a ho h;show je x (d :: b)=je x b;simp only [je];rw [hd.2,IO ⟨hd.1,by omega⟩,Int.add_zero]
theorem rW {o:Int}{x:Int}(h:je o a=some x) {d:Dc}(hd:rt d=true) (h0:0<=x+dh d.k):je o (a++[d])=some (x+dh d.k):=by
 rw [mY,h];show je x [d]=_;simp only [je];rw [IO ⟨hd,h0⟩]
def Pz.fine:Pz->Prop
 |.I n=>n<=4
 |_=>True
theorem JB {p:Pz}(h:p.fine):rt p.d=true:=by
 cases p with
 |I n=>
  have h4:n<=4:=h
  rcases n with _|_|_|_|_|n
  ·rfl
  ·rfl
  ·rfl
  ·rfl
  ·rfl
  ·omega
 |_=>rfl
theorem sO (a:Fx):∀p∈a.pz,p.fine:=by
 cases a <;> simp [Fx.pz,Pz.fine]
theorem ML (p:Pz):p.d.k≠1:=by cases p <;> (intro h;exact absurd h (by show ¬(_:Int)=1;simp [Pz.d,dS,dB,dH,dI,dX]))
theorem vI (p:Pz) (h:p≠.X):dh p.d.k=(p.n:Int):=by cases p <;> first|rfl|exact absurd rfl h
structure eL (L:List Dc) (s:Sy):Prop where
 r:je 0 (L++s.ws)=some (cI s.ns:Int)
 n:∀d∈s.ws,d.k≠1
def Sy.ks (s:Sy):List Int:=s.ns.map (·.k)
theorem OX (s:Sy) (p:Pz):(s.aw p).ks=s.ks:=by
 show (ia p s.ns).map (·.k)=s.ns.map (·.k)
 cases s.ns with
 |nil=>rfl
 |cons n r=>simp only [ia];split <;> rfl
theorem tP (s:Sy) (l:List Pz):(s.aws l).ks=s.ks:=by
 induction l generalizing s with
 |nil=>rfl
 |cons p l ih=>rw [bZ,ih,OX]
theorem eL.aw (h:eL L s) (hn:s.ns≠[]) {p:Pz}(hp:p.fine):eL L (s.aw p):=by
 obtain ⟨n,r,e⟩:∃n r,s.ns=n :: r:=by cases h1:s.ns with|nil=>exact absurd h1 hn|cons n r=>exact ⟨n,r,rfl⟩
 have hr:=h.r;rw [e,bk] at hr;refine ⟨?_,?_⟩
 ·show je 0 (L++(s.ws++jB p s.ns))=some (cI (ia p s.ns):Int)
  rw [e]
  by_cases hX:p=.X
  ·subst hX;have e2:ia .X (n :: r)={ n with b:=n.b-1 } :: r:=rfl;rw [e2,bk]
   by_cases hb:n.b=0
   ·have e1:jB .X (n :: r)=[]:=IO ⟨rfl,hb⟩;rw [e1,Rx,hr];show some ((n.b+cI r:Nat):Int)=some ((n.b-1+cI r:Nat):Int);rw [hb]
   ·have e1:jB .X (n :: r)=[dX]:=Eq (fun h=>hb h.2);rw [e1,<-QM,rW hr (d:=dX) rfl (by show 0<=_+(-1:Int);omega)];show some ((n.b+cI r:Nat)+(-1:Int))=some ((n.b-1+cI r:Nat):Int)
    congr 1;omega
  ·have e1:jB p (n :: r)=[p.d]:=Eq (fun h=>hX h.1);have e2:ia p (n :: r)={ n with b:=n.b+p.n } :: r:=by simp only [ia];rw [Eq hX]
   rw [e1,e2,bk,<-QM,rW hr (JB hp) (by rw [vI p hX];omega),vI p hX];show some ((n.b+cI r:Nat)+(p.n:Int))=some ((n.b+p.n+cI r:Nat):Int)
   congr 1;omega
 ·intro d hd;have hd':d∈s.ws++jB p s.ns:=hd
  rcases Q6.1 hd' with hd|hd
  ·exact h.n d hd
  ·unfold jB at hd
   split at hd
   ·cases hd
   ·rw [Sw] at hd;rw [hd];exact ML p
theorem eL.aws {L:List Dc}{s:Sy}(h:eL L s) (hn:s.ns≠[]) (l:List Pz) (hl:∀p∈l,p.fine):eL L (s.aws l):=by
 induction l generalizing s with
 |nil=>exact h
 |cons p l ih=>rw [bZ];exact ih (h.aw hn (hl p (QN ..))) (mF hn p) (fun q hq=>hl q (QO _ hq))
theorem Nk (l:List Pz) (h:s.ns≠[]):(s.aws l).ns≠[]:=by
 induction l generalizing s with
 |nil=>exact h
 |cons p l ih=>rw [bZ];exact ih (mF h p)
theorem eL.ins (h:eL L s) {d:Dc}(hd:NO d) (h1:d.k≠1) (a b:List Dc) (hab:s.ws=a++b):eL L { s with ws:=a++d :: b }:=by
 refine ⟨?_,?_⟩
 ·show je 0 (L++(a++d :: b))=_
  rw [<-QM,eP hd _ _ (Sn 0),QM,<-hab];exact h.r
 ·intro x hx;have hx':x∈a++d :: b:=hx
  rcases Q6.1 hx' with hx|hx
  ·exact h.n x (by rw [hab];exact Uo _ hx)
  ·rcases Rg.1 hx with rfl|hx
   ·exact h1
   ·exact h.n x (by rw [hab];exact RX _ hx)
theorem eL.exprIn (h:eL L s):eL L s.exprIn/\s.exprIn.ks=s.ks:=by
 unfold Sy.exprIn
 split
 ·exact ⟨h,rfl⟩
 ·rename_i n r e
  have hne:s.ns≠[]:=by rw [e];exact Vb _ _
  have ek:s.ks=n.k :: r.map (·.k):=by unfold Sy.ks;rw [e];rfl
  refine ⟨?_,by rw [ek];rfl⟩
  by_cases h19:n.k=19
  ·simp only [IO h19];have h2:=h.aws hne [.S,.I 3] (by simp [Pz.fine])
   have e2:(s.aws [.S,.I 3]).ns=⟨n.k,n.b+0+1,n.s⟩ :: r:=by
    show ia (.I 3) (ia .S s.ns)=_
    rw [e];rfl
   refine ⟨?_,h2.n⟩;have:=h2.r;rw [e2,bk] at this;show je 0 (L++(s.aws [.S,.I 3]).ws)=some (cI (⟨n.k,n.b+1,true⟩ :: r):Int);rw [bk];exact this
  ·by_cases h31:n.k=31/\n.s=false
   ·simp only [Eq h19,IO h31];have h2:=h.aws hne [.B0] (by simp [Pz.fine])
    have e2:(s.aws [.B0]).ns=⟨n.k,n.b+0,n.s⟩ :: r:=by
     show ia .B0 s.ns=_
     rw [e];rfl
    refine ⟨?_,h2.n⟩;have:=h2.r;rw [e2,bk] at this;show je 0 (L++(s.aws [.B0]).ws)=some (cI (⟨n.k,n.b,true⟩ :: r):Int);rw [bk];exact this
   ·simp only [Eq h19,Eq h31];refine ⟨?_,h.n⟩;have:=h.r;rw [e,bk] at this;show je 0 (L++s.ws)=some (cI (⟨n.k,n.b,true⟩ :: r):Int);rw [bk];exact this
theorem eL.mark (h:eL L s) (k:Int):eL L (s.mark k)/\(s.mark k).ks=s.ks:=by
 unfold Sy.mark
 split
 ·exact ⟨⟨h.r,h.n⟩,rfl⟩
 ·exact ⟨h,rfl⟩
theorem eL.opens (h:eL L s) (k:Int):eL L (s.opens k)/\(s.opens k).ks=k :: s.ks:=by
 obtain ⟨s1,hs1⟩:∃s1,(if k=21 then s.exprIn else s)=s1:=⟨_,rfl⟩
 have h1:eL L s1/\s1.ks=s.ks:=by
  rw [<-hs1];split
  ·exact h.exprIn
  ·exact ⟨h,rfl⟩
 obtain ⟨h2,h3⟩:=h1.1.mark k;have e:s.opens k=Sy.aws { (s1.mark k) with ns:=⟨k,0,false⟩ :: (s1.mark k).ns } (qm k):=by unfold Sy.opens;simp only;rw [hs1]
 rw [e]
 have h4:eL L { (s1.mark k) with ns:=⟨k,0,false⟩ :: (s1.mark k).ns }:=by
  refine ⟨?_,h2.n⟩;have:=h2.r;show je 0 (L++(s1.mark k).ws)=some (cI (⟨k,0,false⟩ :: (s1.mark k).ns):Int);rw [bk,this];show some _=some ((0+cI (s1.mark k).ns:Nat):Int);rw [QU]
 refine ⟨h4.aws (Vb _ _) _ ?_,?_⟩
 ·intro p hp;unfold qm at hp
  split at hp
  ·simp at hp;subst hp;show (0:Nat)<=4;decide
  ·split at hp
   ·simp at hp;subst hp;show (2:Nat)<=4;decide
   ·cases hp
 ·rw [tP];show k :: (s1.mark k).ks=_;rw [h3,h1.2]
theorem uB:∀(b:Nat) {a:List Dc}{x:Nat},je 0 a=some ((b+x:Nat):Int)->je 0 (a++List.replicate b dX)=some (x:Int)
 |0,a,x,h=>by rw [List.replicate_zero,Rx,h,QU]
 |b+1,a,x,h=>by
  have h1:=rW h (d:=dX) rfl (by show 0<=_+(-1:Int);omega);rw [List.replicate_succ,show a++dX :: List.replicate b dX=(a++[dX])++List.replicate b dX by simp];refine uB b ?_;rw [h1];show some (((b+1+x:Nat):Int)+(-1:Int))=_
  congr 1;omega
theorem eL.leaves (h:eL L s):eL L s.leaves/\s.leaves.ks=s.ks.tail:=by
 unfold Sy.leaves
 split
 ·rename_i e;exact ⟨h,by unfold Sy.ks;rw [e];rfl⟩
 ·rename_i n r e
  have hr:=h.r;rw [e,bk] at hr;have h1:=uB n.b hr;refine ⟨⟨?_,?_⟩,by unfold Sy.ks;rw [e];rfl⟩
  ·show je 0 (L++(s.ws++List.replicate n.b dX++(if n.k=1 then [dH] else [])))=some (cI r:Int)
   rw [<-QM,<-QM]
   split
   ·rw [eP sy _ [] (Sn 0),Rx];exact h1
   ·rw [Rx];exact h1
  ·intro d hd;have hd':d∈s.ws++List.replicate n.b dX++(if n.k=1 then [dH] else []):=hd
   rcases Q6.1 hd' with hd|hd
   ·rcases Q6.1 hd with hd|hd
    ·exact h.n d hd
    ·rw [List.eq_of_mem_replicate hd];decide
   ·split at hd
    ·rw [Sw] at hd;rw [hd];decide
    ·cases hd
theorem eL.emp (h:eL L s) (f:Int):eL L (s.emp f):=by
 unfold Sy.emp
 split
 ·exact h
 ·split
  ·exact h
  ·rename_i m _ _;exact h.ins Ej (by decide) _ _ (RJ m s.ws).symm
theorem eL.endl (h:eL L s):eL L s.endl:=by
 unfold Sy.endl
 split
 ·exact h.ins sy (by decide) [] s.ws rfl
 ·exact h
theorem eL.part (h:eL L s):eL L s.part:=by
 unfold Sy.part
 split
 ·exact h.ins Ei (by decide) s.ws [] (Rx _).symm
 ·exact h
def oi (l:List Dc):List ByteArray:=l.filterMap (fun d=>if d.k=1 then some d.t else none)
theorem j9 (a b:List Dc):oi (a++b)=oi a++oi b:=List.filterMap_append
theorem j8 (h:∀d∈l,d.k≠1):oi l=[]:=by
 unfold oi;rw [List.filterMap_eq_nil_iff];intro d hd;rw [Eq (h d hd)]
theorem eL.leaf (h:eL L s) (hn:s.ns≠[]) (t:Tv) (ht:eZ t.t=true):eL (L++(s.leaf t).2) (s.leaf t).1/\oi (s.leaf t).2=[t.t]/\(s.leaf t).1.ks=s.ks:=by
 unfold Sy.leaf
 split
 ·rename_i e;exact absurd e hn
 ·rename_i n r e
  have h1:eL L (s.ready (aG n t).a t.f):=((((h.aws hn _ (sO _)).emp t.f).endl).part);have hne:(s.ready (aG n t).a t.f).ns≠[]:=by unfold Sy.ready;rw [np,kM,sY];exact Nk _ hn
  have hks:(s.ready (aG n t).a t.f).ks=s.ks:=by unfold Sy.ready Sy.ks;rw [np,kM,sY];exact tP s _
  refine ⟨?_,?_,?_⟩
  ·show eL (L++((s.ready (aG n t).a t.f).ws++[dT t.t])) (Sy.aws ⟨(s.ready (aG n t).a t.f).ns,[],none,true,false,false⟩ _)
   refine eL.aws (s:=⟨_,[],none,true,false,false⟩) ⟨?_,fun d hd=>(nomatch (show d∈([]:List Dc) from hd))⟩ hne _ (sO _);show je 0 (L++((s.ready (aG n t).a t.f).ws++[dT t.t])++[])=_;rw [Rx,<-QM,eP (sx ht) _ [] (Sn 0),Rx];exact h1.r
  ·show oi ((s.ready (aG n t).a t.f).ws++[dT t.t])=_
   rw [j9,j8 h1.n];rfl
  ·show (Sy.aws ⟨(s.ready (aG n t).a t.f).ns,[],none,true,false,false⟩ _).ks=_
   rw [tP];exact hks
theorem eL.note {L:List Dc}{s:Sy}(h:eL L s) (t:Tv) (ht:eZ t.t=true):eL (L++(s.note t).2) (s.note t).1/\oi (s.note t).2=[t.t]/\(s.note t).1.ks=s.ks:=by
 have hsp:s.ws.takeWhile be++s.ws.dropWhile be=s.ws:=S8;obtain ⟨bg,hbg⟩:∃bg,s.ws.takeWhile be=bg:=⟨_,rfl⟩;obtain ⟨rs,hrs⟩:∃rs,s.ws.dropWhile be=rs:=⟨_,rfl⟩;rw [hbg,hrs] at hsp;have hb1:∀d∈bg,d.k≠1:=fun d hd=>h.n d (by rw [<-hsp];exact Uo _ hd)
 have hr1:∀d∈rs,d.k≠1:=fun d hd=>h.n d (by rw [<-hsp];exact RX _ hd)
 have h0:=h.r;rw [<-hsp] at h0;unfold Sy.note;rw [hbg,hrs];simp only
 split
 ·refine ⟨⟨?_,hr1⟩,?_,rfl⟩
  ·show je 0 ((L++(bg++[dS,dT t.t]))++rs)=_
   rw [show (L++(bg++[dS,dT t.t]))++rs=(L++bg)++dS :: (dT t.t :: rs) by simp,eP Ei _ _ (Sn 0),eP (sx ht) _ _ (Sn 0),QM];exact h0
  ·show oi (bg++[dS,dT t.t])=_
   rw [j9,j8 hb1];rfl
 ·refine ⟨⟨?_,hr1⟩,?_,rfl⟩
  ·show je 0 ((L++(bg++dH :: ((if _ then [dE] else [])++[dT t.t])))++rs)=_
   split
   ·rw [show (L++(bg++dH :: ([dE]++[dT t.t])))++rs=(L++bg)++dH :: (dE :: (dT t.t :: rs)) by simp,eP sy _ _ (Sn 0),eP Ej _ _ (Sn 0),eP (sx ht) _ _ (Sn 0),QM];exact h0
   ·rw [show (L++(bg++dH :: ([]++[dT t.t])))++rs=(L++bg)++dH :: (dT t.t :: rs) by simp,eP sy _ _ (Sn 0),eP (sx ht) _ _ (Sn 0),QM];exact h0
  ·show oi (bg++dH :: ((if _ then [dE] else [])++[dT t.t]))=_
   rw [j9,j8 hb1]
   split <;> rfl
def QD (e:Ev) (ks:List Int):List Int:=if e.k=1 then e.n :: ks else if e.k=3 then ks.tail else ks
def MP (e:Ev):List ByteArray:=if e.k=1 then [] else if e.k=3 then [] else [e.d.t]
theorem yD {s':Sy}{e:Ev}(h:eL L s) (hp:dy s e=some (s',l)):eL (L++l) s'/\oi l=MP e/\s'.ks=QD e s.ks:=by
 unfold dy at hp
 split at hp
 ·rename_i hm
  have h':=Ry hp;obtain ⟨e1,e2⟩:(s.step e).1=s'/\(s.step e).2=l:=⟨by rw [h'],by rw [h']⟩;rw [<-e1,<-e2];unfold Sy.may at hm;unfold Sy.step MP QD
  by_cases h1:e.k=1
  ·rw [IO h1,IO h1,IO h1];show eL (L++[]) (s.opens e.n)/\oi []=[]/\_;rw [Rx];exact ⟨(h.opens e.n).1,rfl,(h.opens e.n).2⟩
  ·rw [Eq h1,Eq h1,Eq h1];rw [Eq h1] at hm
   by_cases h3:e.k=3
   ·rw [IO h3,IO h3,IO h3];show eL (L++[]) s.leaves/\oi []=[]/\_;rw [Rx];exact ⟨h.leaves.1,rfl,h.leaves.2⟩
   ·rw [Eq h3,Eq h3,Eq h3];rw [Eq h3] at hm
    by_cases h2:e.k=2
    ·rw [IO h2] at hm ⊢;rw [QR] at hm;have hne:s.ns≠[]:=by intro hh;rw [hh] at hm;exact absurd hm.1 (by decide)
     exact h.leaf hne e.d hm.2
    ·rw [Eq h2] at hm ⊢
     by_cases h4:e.k=4
     ·rw [IO h4,QR,QR] at hm;exact h.note e.d hm.2.1
     ·rw [Eq h4] at hm;cases hm
 ·cases hp
theorem kh:eL [] qd:=⟨rfl,fun d hd=>by cases hd⟩
theorem yE (h:eL L s) (hc:ic s=some l):cy 0 0 (L++l)=none/\oi l=[]:=by
 unfold ic at hc
 split at hc
 ·rename_i hn
  cases hc;have h1:=h.endl;have h2:=h1.r;rw [kM,hn] at h2;exact ⟨zF _ _ _ h2,j8 h1.n⟩
 ·cases hc
def aK (s:Sy) (o:List Ev):Sy:=o.foldl (fun s e=>(s.step e).1) s
theorem qI (s:Sy) (a b:List Ev):aK s (a++b)=aK (aK s a) b:=List.foldl_append
theorem cA (s:Sy) (e:Ev) (b:List Ev):aK s (e :: b)=aK (s.step e).1 b:=rfl
def nY (o:List Ev):Prop:=∀e∈o,e.k=1\/e.k=3
theorem BU (s:Sy):s.exprIn.ks=s.ks:=by
 unfold Sy.exprIn
 split
 ·rfl
 ·rename_i n r e
  unfold Sy.ks;rw [e];rfl
theorem Jc (s:Sy) (k:Int):(s.mark k).ks=s.ks:=by unfold Sy.mark;split <;> rfl
theorem oU (s:Sy) (k:Int):(s.opens k).ks=k :: s.ks:=by
 unfold Sy.opens;simp only;rw [tP];show k :: ((if k=21 then s.exprIn else s).mark k).ks=_;rw [Jc]
 split
 ·rw [BU]
 ·rfl
theorem lG (s:Sy):s.leaves.ks=s.ks.tail:=by
 unfold Sy.leaves
 split
 ·rename_i e;unfold Sy.ks;rw [e];rfl
 ·rename_i n r e;unfold Sy.ks;rw [e];rfl
theorem Nl (s:Sy) (p:Pz):s.ws <+: (s.aw p).ws:=by rw [ru];exact List.prefix_append _ _
theorem fN (s:Sy) (l:List Pz):s.ws <+: (s.aws l).ws:=by
 induction l generalizing s with
 |nil=>exact Sf
 |cons p l ih=>rw [bZ];exact (Nl s p).trans (ih _)
theorem pM (s:Sy):s.ws <+: s.exprIn.ws:=by
 unfold Sy.exprIn
 split
 ·exact Sf
 ·rename_i n r e
  show s.ws <+: (if n.k=19 then s.aws [.S,.I 3] else if n.k=31/\n.s=false then s.aws [.B0] else s).ws
  split
  ·exact fN _ _
  ·split
   ·exact fN _ _
   ·exact Sf
theorem sD (s:Sy) (k:Int):(s.mark k).ws=s.ws:=by unfold Sy.mark;split <;> rfl
theorem qS (s:Sy) (k:Int):s.ws <+: (s.opens k).ws:=by
 unfold Sy.opens;simp only;refine List.IsPrefix.trans ?_ (fN _ _);show s.ws <+: ((if k=21 then s.exprIn else s).mark k).ws;rw [sD]
 split
 ·exact pM s
 ·exact Sf
theorem g8 (s:Sy):s.ws <+: s.leaves.ws:=by
 unfold Sy.leaves
 split
 ·exact Sf
 ·grind
theorem cF (s:Sy) {e:Ev}(h:e.k=1):s.step e=(s.opens e.n,[]):=by unfold Sy.step;rw [IO h]
theorem cz (s:Sy) {e:Ev}(h:e.k=3):s.step e=(s.leaves,[]):=by unfold Sy.step;rw [Eq (by omega),IO h]
theorem qH {o:List Ev}(h:nY o) (s:Sy):s.ws <+: (aK s o).ws:=by
 induction o generalizing s with
 |nil=>exact Sf
 |cons e o ih=>
  rw [cA];refine List.IsPrefix.trans ?_ (ih (fun x hx=>h x (QO _ hx)) _)
  rcases h e (QN ..) with h1|h1
  ·rw [cF s h1];exact qS s _
  ·rw [cz s h1];exact g8 s
theorem ib {f:Dc->Bool}{b:List Dc}(h:a <+: b) (ha:a.any f=true):b.any f=true:=by
 obtain ⟨r,rfl⟩:=h;rw [Rk,ha,TT]
theorem DJ {r:List Int}(h:s.ks=19 :: r):(s.opens 21).ws.any bQ=true:=by
 obtain ⟨n,ns,e⟩:∃n ns,s.ns=n :: ns:=by
  cases h1:s.ns with
  |nil=>unfold Sy.ks at h;rw [h1] at h;cases h
  |cons n ns=>exact ⟨n,ns,rfl⟩
 have hk:n.k=19:=by unfold Sy.ks at h;rw [e] at h;injection h
 unfold Sy.opens;simp only [Td];refine ib (fN _ _) ?_;show (s.exprIn.mark 21).ws.any bQ=true;rw [sD];unfold Sy.exprIn;rw [e];show (if n.k=19 then s.aws [.S,.I 3] else if n.k=31/\n.s=false then s.aws [.B0] else s).ws.any bQ=true;rw [IO hk]
 have:s.ws++[dS] <+: (s.aws [.S,.I 3]).ws:=by
  rw [bZ];exact fN (s.aw .S) _
 refine ib this ?_;rw [Rk];simp [bQ,dS]
theorem qT (K:List It):aQ K=(bJ K).headD 0:=by
 induction K with
 |nil=>rfl
 |cons i K ih=>cases i <;> first|rfl|exact ih
structure Cl.Dyn (c:Cl) (bad:Tv->Prop):Prop where
 tB:∀n k x t,c.tB n k x=true->bad t->t.k=k->t.t=x->lu n t.k t.t=true
 nB:c.nB=true->∀t,bad t->t.k≠1/\t.k≠3/\t.k≠4/\t.k≠5
 dB:∀d,c.dB d=true->d≠.declaration/\∀t,bad t->t.k≠6
 xB:∀n m,c.xB n m=true->n=19/\m=.expr
 mB:∀m,c.mB m=false
theorem Ie {t:Tv}{k:Nat}{K:List It}{n:Int}{E:List Ev}{R:Ro}{m:M}(hm:m=.params\/m=.index\/m=.selection\/m=.args) (h:Ru t k (.fl (.mt m) :: K) n E R) {L:List It}{z:Int}{F:List Ev}(hR:R=.yes L z F):t.k=6:=by
 have key:∀(x:ByteArray) (r:List It),It.step t (.fl (.mt m))=.go 1 [⟨1,(match M.row t m with|.op nd _=>nd|_=>0),aB⟩] (.fl (.wd 6 [x]) :: r)->t.k=6:=by
  intro x r hs;cases h with
  |ref h1=>rw [hs] at h1;cases h1
  |tk h1=>rw [hs] at h1;cases h1
  |go h1 h2=>
   rw [hs] at h1;cases h1;cases h2 with
   |ref h3=>cases hR
   |tk h3=>
    simp only [It.step,Fl.step] at h3
    split at h3
    ·rename_i h4;simp only [Fl.takes,QR,RM] at h4;exact h4.1
    ·cases h3
   |go h3 _=>simp only [It.step,Fl.step] at h3;split at h3 <;> cases h3
 rcases hm with rfl|rfl|rfl|rfl <;> exact key _ _ rfl
theorem C1 {bad:Tv->Prop}(hc:c.Dyn bad) {t:Tv}(hb:bad t) {x:Fl}(ht:x.takes t=true) {n:Int}(h:x.ba c n=true):lu n t.k t.t=true:=by
 cases x with
 |wd k ts=>
  simp only [Fl.takes,QR,RM] at ht;obtain ⟨y,h1,h2⟩:=Sj.1 ht.2;exact hc.tB n k y t (Ti.1 h y h1) hb ht.1 (Rm h2)
 |nm=>
  have:=hc.nB h t hb;simp only [Fl.takes,RM] at ht;exact absurd ht this.1
 |cs=>
  have:=hc.nB h t hb;simp only [Fl.takes,QY,RM] at ht
  rcases ht with (ht|ht)|ht
  ·exact absurd ht this.2.1
  ·exact absurd ht this.2.2.1
  ·exact absurd ht this.2.2.2
 |mt m=>cases ht
theorem dyn {bad:Tv->Prop}(hc:c.Dyn bad) {t:Tv}(hb:bad t) {k:Nat}{K:List It}{n:Int}{E:List Ev}{R:Ro}(h:Ru t k K n E R):∀{L:List It}{m:Int}{F:List Ev},R=.yes L m F->jQ K->fb K->((bJ K).length:Int)=n->fo c K=true->∀s:Sy,s.ks=bJ K ->
  ∃o,F=E++o/\nY o/\(aK s o).ks=bJ L/\((aK s o).ws.any bQ=true\/lu (aQ L) t.k t.t=true):=by
 induction h with
 |nil=>intro L m F h;cases h
 |ref _=>intro L m F h;cases h
 |tk hs=>
  rename_i i K n E
  intro L m F h hw hf hn hbar s hk;cases h
  obtain ⟨x,rfl,hx⟩:∃x,i=.fl x/\x.takes t=true:=by
   cases i with
   |fl x=>
    refine ⟨x,rfl,?_⟩;cases x with
    |mt m=>exfalso;simp only [It.step,Fl.step] at hs;cases hrow:M.row t m <;> rw [hrow] at hs <;> cases hs
    |_=>simp only [It.step,Fl.step] at hs;split at hs;assumption;cases hs
   |_=>cases hs
  simp only [fo,QR] at hbar;exact ⟨[],by simp,fun e he=>by simp at he,hk,.inr (C1 hc hb hx hbar.1)⟩
 |go hs hr ih=>
  rename_i k i K n d E o r R
  intro L m F h hw hf hn hbar s hk;have hi:=hw i (QN ..);obtain ⟨a1,a2,a3,a4⟩:=fF (K:=K) hs hi;have hw2:=fD a1 (fun j hj=>hw j (QO _ hj));have hf2:=rJ hs hf;have hn2:((bJ (r++K)).length:Int)=n+d:=by omega
  have hbar0:=hbar;simp only [fo,QR,QY,SI] at hbar;obtain ⟨hba,hnul⟩:=hbar
  have go:∀s1,(s.ws <+: s1.ws)->aK s o=s1->nY o->s1.ks=bJ (r++K)->fo c (r++K)=true->∃o,F=E++o/\nY o/\(aK s o).ks=bJ L/\((aK s o).ws.any bQ=true\/lu (aQ L) t.k t.t=true):=by
   intro s1 hp e1 hB hk1 hb1;obtain ⟨o2,b1,b2,b3,b4⟩:=ih h hw2 hf2 hn2 hb1 s1 hk1;refine ⟨o++o2,by rw [b1,QM],fun e he=>(Q6.1 he).elim (hB e) (b2 e),?_,?_⟩ <;> rw [qI,e1]
   ·exact b3
   ·exact b4
  have nilB:nY []:=fun e he=>by simp at he
  have row1:∀(rr:List Fl) (K':List It),aQ K'=aQ K->K7 c (aQ K) rr=true->fo c (rr.map It.fl++K')=true:=by
   intro rr K' e hh;cases rr with
   |nil=>cases hh
   |cons x rr=>
    show (x.ba c (aQ (rr.map It.fl++K')) && (!false || _))=true
    rw [lE (jS rr),e,show x.ba c (aQ K)=true from hh];rfl
  have picks:∀(p:Pk) (j:It) (K':List It),aQ K'=aQ K->r++K=j :: K'->o=[]->Pk.pick t p=some j->p.wf->p.ba c (aQ K)=true->∃o,F=E++o/\nY o/\(aK s o).ks=bJ L/\((aK s o).ws.any bQ=true\/lu (aQ L) t.k t.t=true):=by
   intro p j K' eK er eo hp hpw hpb;subst eo
   have hkr:s.ks=bJ (r++K):=by
    have:=lq (K:=K) hs hi;simp only [cB,Rp] at this;rw [hk,this]
   cases p with
   |fn dk=>
    simp only [Pk.pick,Q9] at hp;obtain ⟨mm,hm,rfl⟩:=hp;obtain ⟨h1,h2⟩:=hc.dB dk hpb
    exfalso
    refine h2 t hb ?_;rw [er] at hr;refine Ie ?_ hr h;cases dk with
    |declaration=>exact absurd rfl h1
    |bracket=>simp only [Dk.pick] at hm;split at hm <;> cases hm;exact .inl rfl
    |detail=>
     simp only [Dk.pick] at hm
     split at hm
     ·cases hm;exact .inr (.inl rfl)
     ·split at hm
      ·cases hm;exact .inr (.inr (.inl rfl))
      ·split at hm <;> cases hm;exact .inr (.inr (.inr rfl))
   |row rr=>
    simp only [Pk.pick] at hp
    split at hp
    ·cases hp;refine go s Sf rfl nilB hkr ?_;rw [er];show (K7 c (aQ K') rr && (!false || _))=true;rw [eK,show K7 c (aQ K) rr=true from hpb];rfl
    ·cases hp
   |ex mm=>
    simp only [Pk.pick] at hp
    split at hp
    ·cases hp
    ·cases hp;obtain ⟨h1,rfl⟩:=hc.xB _ _ hpb;rw [er] at hr;cases hr with
     |ref h3=>cases h
     |tk h3=>cases h3
     |go h3 h4=>
      rename_i k2 d2 o2 r2
      have e3:o2=[⟨1,21,aB⟩]:=by cases h3;rfl
      obtain ⟨c1,c2,c3,c4⟩:=fF (K:=K') h3 trivial;have hwK:jQ (It.fl (.mt .expr) :: K'):=by rw [<-er];exact hw2
      have hfK:fb (It.fl (.mt .expr) :: K'):=by rw [<-er];exact hf2
      have hnK:((bJ (It.fl (.mt .expr) :: K')).length:Int)=n+d:=by rw [<-er];exact hn2
      obtain ⟨_,_,_,o3,b4,b5,b6,_⟩:=eu h4 h (fD c1 (fun j hj=>hwK j (QO _ hj))) (rJ h3 hfK) (by omega);have hB3:nY o3:=fun e he=>(b6 e he).2.1
      have hs19:∃rr,s.ks=19 :: rr:=by
       have hh:aQ (r++K)=19:=by rw [er];show aQ K'=19;rw [eK];exact h1
       rw [qT,<-hkr] at hh;cases hh2:s.ks with
       |nil=>rw [hh2] at hh;cases hh
       |cons a b=>rw [hh2] at hh;exact ⟨b,by rw [show a=19 from hh]⟩
      obtain ⟨rr,hrr⟩:=hs19;refine ⟨⟨1,21,aB⟩ :: o3,by rw [b4,e3];simp,?_,?_,.inl ?_⟩
      ·intro e he
       rcases Rg.1 he with rfl|he
       ·exact .inl rfl
       ·exact hB3 e he
      ·have hpl:∀(o:List Ev) (s:Sy) (l:List Int),nY o->cB s.ks o=some l->(aK s o).ks=l:=by
        intro o
        induction o with
        |nil=>intro s l _ h;cases h;rfl
        |cons e o ih=>
         intro s l hB h;rw [cA]
         rcases hB e (QN ..) with h1|h1
         ·rw [cF s h1];refine ih _ _ (fun x hx=>hB x (QO _ hx)) ?_;simp only [cB,IO h1] at h;rw [oU];exact h
         ·rw [cz s h1];refine ih _ _ (fun x hx=>hB x (QO _ hx)) ?_;rw [lG];simp only [cB] at h;rw [Eq (by omega),IO h1] at h;cases h5:s.ks with
          |nil=>rw [h5] at h;cases h
          |cons a b=>
           rw [h5] at h;simp only at h
           split at h
           ·exact h
           ·cases h
       rw [cA];refine hpl o3 _ _ hB3 ?_;rw [cF s rfl];show cB (s.opens 21).ks o3=_;rw [oU,hkr,er];have:=lq (K:=K') h3 trivial;rw [e3] at this;simp only [cB,Td,Rp] at this;rw [this];exact b5
      ·rw [cA,cF s rfl];exact ib (qH hB3 _) (DJ hrr)
  cases i with
  |fl x=>
   exfalso
   have hm:∃m,x=.mt m:=by
    cases x with
    |mt m=>exact ⟨m,rfl⟩
    |_=>simp only [It.step,Fl.step] at hs;split at hs <;> cases hs
   obtain ⟨m,rfl⟩:=hm;rw [show (It.fl (.mt m)).ba c (aQ K)=c.mB m from rfl,hc.mB m] at hba;cases hba
  |lv a=>
   cases hs;refine go s.leaves (g8 s) ?_ (fun e he=>by simp at he;subst he;exact .inr rfl) ?_ ?_
   ·rw [cA,cz s rfl];rfl
   ·rw [lG,hk];rfl
   ·rcases hnul with h1|h1
    ·cases h1
    ·exact h1
  |once p=>
   simp only [It.step] at hs;cases hp:Pk.pick t p with
   |none=>
    rw [hp] at hs;cases hs;refine go s Sf rfl nilB hk ?_
    rcases hnul with h1|h1
    ·cases h1
    ·exact h1
   |some j=>
    rw [hp] at hs;cases hs;exact picks p j K rfl rfl rfl hp hi hba
  |again p=>
   simp only [It.step] at hs;cases hp:Pk.pick t p with
   |none=>
    rw [hp] at hs;cases hs;refine go s Sf rfl nilB hk ?_
    rcases hnul with h1|h1
    ·cases h1
    ·exact h1
   |some j=>
    rw [hp] at hs;cases hs;exact picks p j (.again p :: K) rfl rfl rfl hp hi hba
  |all rr=>
   cases hs;refine go s Sf rfl nilB ?_ (row1 rr K rfl hba);rw [hk,bM,jS];rfl
end Go.Proofs.YtjiepkenkcgkhaaGreatDoor
namespace Go.Proofs.YtjiepkenkcgkhaaGreatDoor
open Go.RowKit
open Lw (Dc bE rt cy dh eZ ij ji zO)
theorem sE (T:ByteArray) (i:Nat) (h:i<T.size):((ji T).getD i 0).toNat=Lx.ay T i:=by
 have h':i<T.data.size:=h
 have e1:(ji T).getD i 0=T.data[i]:=by
  unfold ji;rw [SP,Pi (by simpa using h')];simp
 rw [e1];unfold Lx.ay;show _=(T.data[i]!).toNat;rw [Ue T.data i h']
theorem NW {k:Nat}{T:ByteArray}(h:Lx.Tx k T):eZ T=true:=by
 obtain ⟨⟨a1,a2⟩,⟨b1,b2⟩,c⟩:=Lx.G0 h;have hp:=h.pos;have e0:=sE T 0 hp;have e1:=sE T (T.size-1) (by omega)
 have key:∀x:UInt8,x.toNat≠32->x.toNat≠10->zO x=false:=by
  intro x h1 h2;unfold zO;rw [SZ];exact ⟨Q7.2 (fun e=>h1 (by rw [e];rfl)),Q7.2 (fun e=>h2 (by rw [e];rfl))⟩
 unfold eZ;rw [key _ (by rw [e0];exact a1) (by rw [e0];exact a2),key _ (by rw [e1];exact b1) (by rw [e1];exact b2),QW c,QW (show 1<=T.size by omega)];rfl
structure OZ (l:List Tv):Prop where
 tx:∀t∈l,∃k,Lx.Tx k t.t/\t.k=(Lx.wL k t.t:Nat)
 ln:∀(i:Nat) t u,l[i]?=some t->l[i+1]?=some u->t.k=7->1<=u.f
 fd:∀t∈l,0<=t.f
theorem OZ.tail {t:Tv}{l:List Tv}(h:OZ (t :: l)):OZ l:=⟨fun x hx=>h.tx x (QO _ hx),fun i x u h1 h2 h3=>h.ln (i+1) x u h1 h2 h3,fun x hx=>h.fd x (QO _ hx)⟩
theorem Hl (s:ByteArray) (h:(Lx.fu s).2.1=0):OZ ((Lx.fu s).1.map (Lx.tv s)):=by
 obtain ⟨h1,_,h3⟩:=Lx.pE s _ 0 0 (gt _) h;refine ⟨?_,?_,?_⟩
 ·intro t ht;obtain ⟨x,hx,rfl⟩:=Tm.1 ht;obtain ⟨k,a,b⟩:=h1 x hx;exact ⟨k,a,by show (x.k:Int)=_;rw [b];rfl⟩
 ·intro i t u ht hu hk;rw [Sk] at ht hu;obtain ⟨x,hx,rfl⟩:=Q9.1 ht;obtain ⟨y,hy,rfl⟩:=Q9.1 hu;have:=h3 i x y hx hy (by have:(x.k:Int)=7:=hk;omega);show (1:Int)<=(y.f:Int);omega
 ·intro t ht;obtain ⟨x,hx,rfl⟩:=Tm.1 ht;show (0:Int)<=(x.f:Int);omega
theorem oG {t:Tv}{k:Nat}{K:List It}{n:Int}{E:List Ev}{R:Ro}(h:Ru t k K n E R):∀{L:List It}{m:Int}{F:List Ev},R=.yes L m F->(∀e∈E,e.k=1->1<=e.n/\e.n<=32)->∀e∈F,e.k=1->1<=e.n/\e.n<=32:=by
 induction h with
 |nil=>intro L m F h;cases h
 |ref _=>intro L m F h;cases h
 |tk hs=>intro L m F h hE;cases h;exact hE
 |go hs _ ih=>
  rename_i k i K n d E o r R _
  intro L m F h hE;refine ih h (fun e he=>(Q6.1 he).elim (hE e) (fun ho=>?_));cases i with
  |fl x=>
   have hm:∃m,x=.mt m:=by
    cases x with
    |mt m=>exact ⟨m,rfl⟩
    |_=>simp only [It.step,Fl.step] at hs;split at hs <;> cases hs
   obtain ⟨m,rfl⟩:=hm;have hr:=gV t m;simp only [It.step,Fl.step] at hs;cases hrow:M.row t m with
   |ref=>rw [hrow] at hs;cases hs
   |ex r'=>rw [hrow] at hs;cases hs;simp at ho
   |op nd r'=>
    rw [hrow] at hs hr;cases hs;simp at ho;subst ho;intro _;have:=hr.2.2.2;exact ⟨by show 1<=nd;omega,this.2⟩
  |lv a=>cases hs;simp at ho;subst ho;intro h;cases h
  |once p=>cases hs;simp at ho
  |again p=>cases hs;simp at ho
  |all r'=>cases hs;simp at ho
def wJ:Sy->List Ev->Option (Sy × List Dc)
 |s,[]=>some (s,[])
 |s,e :: r=>match dy s e with
  |none=>none
  |some (s1,l)=>(wJ s1 r).map (fun x=>(x.1,l++x.2))
theorem Hs (s:Sy) (a b:List Ev) {s1:Sy}{l:List Dc}(h:wJ s a=some (s1,l)):wJ s (a++b)=(wJ s1 b).map (fun x=>(x.1,l++x.2)):=by
 induction a generalizing s l with
 |nil=>cases h;show wJ s1 b=_;cases wJ s1 b <;> simp
 |cons e a ih=>
  simp only [wJ,Rh] at h ⊢;cases hp:dy s e with
  |none=>rw [hp] at h;cases h
  |some x=>
   obtain ⟨s2,l2⟩:=x;rw [hp] at h;simp only at h ⊢;obtain ⟨⟨y1,y2⟩,hy,e2⟩:=Q9.1 h;simp only [Prod.mk.injEq] at e2;obtain ⟨rfl,rfl⟩:=e2;rw [ih _ hy];cases wJ y1 b <;> simp
theorem kf {o:List Ev}(hB:nY o) (hn:∀e∈o,e.k=1->1<=e.n/\e.n<=32):∀(s:Sy) {l:List Int},cB s.ks o=some l->wJ s o=some (aK s o,[])/\(aK s o).ks=l:=by
 induction o with
 |nil=>intro s l h;cases h;exact ⟨rfl,rfl⟩
 |cons e o ih=>
  intro s l h;have hB':nY o:=fun x hx=>hB x (QO _ hx)
  have hn':∀x∈o,x.k=1->1<=x.n/\x.n<=32:=fun x hx=>hn x (QO _ hx)
  rw [cA];simp only [wJ]
  rcases hB e (QN ..) with h1|h3
  ·have hm:s.may e=true:=by
    obtain ⟨a,b⟩:=hn e (QN ..) h1;unfold Sy.may;rw [IO h1,QW a,QW b];rfl
   have hp:dy s e=some (s.opens e.n,[]):=by unfold dy;rw [IO hm,cF s h1]
   rw [hp,cF s h1];simp only [cB,IO h1] at h;rw [<-oU] at h;obtain ⟨a,b⟩:=ih hB' hn' _ h;exact ⟨by simp only [a,SJ,Rr],b⟩
  ·have h1:¬e.k=1:=by omega
   simp only [cB,Eq h1,IO h3] at h;cases hk:s.ks with
   |nil=>rw [hk] at h;cases h
   |cons n r=>
    rw [hk] at h;simp only at h
    split at h
    ·rename_i hne
     have hm:s.may e=true:=by
      unfold Sy.may;rw [Eq h1,IO h3];unfold Sy.ks at hk;cases hc:s.ns with
      |nil=>rw [hc] at hk;cases hk
      |cons nd ns=>rw [hc,Sg] at hk;injection hk with k1 k2;exact QW (k1.trans hne)
     have hp:dy s e=some (s.leaves,[]):=by unfold dy;rw [IO hm,cz s h3]
     rw [hp,cz s h3];have hl:s.leaves.ks=r:=by rw [lG,hk];rfl
     rw [<-hl] at h;obtain ⟨a,b⟩:=ih hB' hn' _ h;exact ⟨by simp only [a,SJ,Rr],b⟩
    ·cases h
end Go.Proofs.YtjiepkenkcgkhaaGreatDoor
namespace Go.Proofs.YtjiepkenkcgkhaaGreatDoor
open Go.RowKit
open Lw (Dc bE rt cy dh eZ ij)
variable {s:Sy}{o:List Ev}
theorem jz (n:Int):nY (bK n)/\(∀e∈bK n,e.k=1->1<=e.n/\e.n<=32):=by
 unfold bK
 split
 ·exact ⟨fun e he=>by simp at he;subst he;exact .inl rfl,fun e he _=>by simp at he;subst he;exact ⟨by decide,by decide⟩⟩
 ·exact ⟨fun e he=>by simp at he,fun e he=>by simp at he⟩
theorem yQ {K:List It}{n:Int}{t:Tv}{ev:List Ev}{st':lW}(hg:fX (.live K n)) (hk:s.ks=bJ K) (hp:jG t (.live K n) ev 0 st') :
  ∃o e K' n',ev=o++[e]/\st'=.live K' n'/\fX (.live K' n')/\nY o/\(∀e∈o,e.k=1->1<=e.n/\e.n<=32)/\cB s.ks o=some (bJ K')/\1<=(bJ K').length/\e=⟨if (t.k == 7 || t.k == 8)=true then 4 else 2,0,t⟩:=by
 obtain ⟨b1,b2,b3,b4,b5,hbot,hbn,hbe⟩:=cG hg;obtain ⟨c1,c2⟩:=jz n;have hgk:=(dF hg hp).1;cases hp with
 |note hc=>
  exact ⟨bK n,_,_,_,rfl,rfl,hgk,c1,c2,by rw [hk];exact b4,iT hbot,by rw [IO hc]⟩
 |yes hc hR hkk hm=>
  rename_i L m E kk
  obtain ⟨d1,d2,d3,o,d4,d5,d6,d7⟩:=eu hR rfl b1 b2 b3;have hn:=oG hR rfl c2;have hL:=oI hR rfl hbot;refine ⟨E,_,_,_,rfl,rfl,hgk,?_,hn,?_,iT hL,by rw [Eq (by rw [hc];decide)]⟩
  ·rw [d4];intro e he
   rcases Q6.1 he with he|he
   ·exact c1 e he
   ·exact (d6 e he).2.1
  ·rw [d4,hk];exact (dG _ _ _ _ b4).trans d5
theorem mh (hB:nY o):∀s:Sy,(aK s o).en=s.en/\(aK s o).pt=s.pt/\(aK s o).wr=s.wr:=by
 have haw:∀(l:List Pz) (s:Sy),(s.aws l).en=s.en/\(s.aws l).pt=s.pt/\(s.aws l).wr=s.wr:=by
  intro l
  induction l with
  |nil=>intro s;exact ⟨rfl,rfl,rfl⟩
  |cons p l ih=>intro s;rw [bZ];exact ih (s.aw p)
 have hex:∀s:Sy,s.exprIn.en=s.en/\s.exprIn.pt=s.pt/\s.exprIn.wr=s.wr:=by
  intro s;unfold Sy.exprIn
  split
  ·exact ⟨rfl,rfl,rfl⟩
  ·grind
 have hmk:∀(s:Sy) (k:Int),(s.mark k).en=s.en/\(s.mark k).pt=s.pt/\(s.mark k).wr=s.wr:=by
  intro s k;unfold Sy.mark;split <;> exact ⟨rfl,rfl,rfl⟩
 have hop:∀(s:Sy) (k:Int),(s.opens k).en=s.en/\(s.opens k).pt=s.pt/\(s.opens k).wr=s.wr:=by
  intro s k;unfold Sy.opens;simp only;obtain ⟨a1,a2,a3⟩:=haw (qm k) { ((if k=21 then s.exprIn else s).mark k) with ns:=⟨k,0,false⟩ :: ((if k=21 then s.exprIn else s).mark k).ns };obtain ⟨b1,b2,b3⟩:=hmk (if k=21 then s.exprIn else s) k
  have hc:(if k=21 then s.exprIn else s).en=s.en/\(if k=21 then s.exprIn else s).pt=s.pt/\(if k=21 then s.exprIn else s).wr=s.wr:=by
   split
   ·exact hex s
   ·exact ⟨rfl,rfl,rfl⟩
  exact ⟨a1.trans (b1.trans hc.1),a2.trans (b2.trans hc.2.1),a3.trans (b3.trans hc.2.2)⟩
 have hlv:∀s:Sy,s.leaves.en=s.en/\s.leaves.pt=s.pt/\s.leaves.wr=s.wr:=by
  intro s;unfold Sy.leaves;split <;> exact ⟨rfl,rfl,rfl⟩
 induction o with
 |nil=>intro s;exact ⟨rfl,rfl,rfl⟩
 |cons e o ih=>
  intro s;rw [cA];obtain ⟨a1,a2,a3⟩:=ih (fun x hx=>hB x (QO _ hx)) (s.step e).1
  rcases hB e (QN ..) with h2|h2
  ·rw [cF s h2] at a1 a2 a3 ⊢;obtain ⟨b1,b2,b3⟩:=hop s e.n;exact ⟨a1.trans b1,a2.trans b2,a3.trans b3⟩
  ·rw [cz s h2] at a1 a2 a3 ⊢;obtain ⟨b1,b2,b3⟩:=hlv s;exact ⟨a1.trans b1,a2.trans b2,a3.trans b3⟩
theorem uq {L:List Dc}(hB:nY o):∀{s:Sy},eL L s->eL L (aK s o):=by
 induction o with
 |nil=>intro s h;exact h
 |cons e o ih=>
  intro s h;rw [cA];refine ih (fun x hx=>hB x (QO _ hx)) ?_
  rcases hB e (QN ..) with h2|h2
  ·rw [cF s h2];exact (h.opens e.n).1
  ·rw [cz s h2];exact h.leaves.1
theorem DL (h:s.en=true) (a:Fx) (f:Int):(s.ready a f).ws.any bD=true:=by
 have haw:∀(l:List Pz) (s:Sy),(s.aws l).en=s.en:=by
  intro l
  induction l with
  |nil=>intro s;rfl
  |cons p l ih=>intro s;rw [bZ];exact ih (s.aw p)
 have hem:∀s:Sy,(s.emp f).en=s.en:=by
  intro s;unfold Sy.emp;split
  ·rfl
  ·split <;> rfl
 have he:(((s.aws a.pz).emp f).endl).ws.any bD=true:=by
  unfold Sy.endl
  split
  ·rfl
  ·rename_i hc
   have e1:((s.aws a.pz).emp f).en=true:=by rw [hem,haw,h]
   cases hb:((s.aws a.pz).emp f).ws.any bD with
   |true=>rfl
   |false=>exact absurd ⟨e1,hb⟩ hc
 unfold Sy.ready
 generalize ((s.aws a.pz).emp f).endl=u at he
 unfold Sy.part
 split
 ·show (u.ws++[dS]).any bD=true
  rw [Rk,he,TT]
 ·exact he
end Go.Proofs.YtjiepkenkcgkhaaGreatDoor
