import Derived.Test.YtnljjdhodelhdaaGreatDoorM08
import Derived.Test.YtnljjdhodelhdaaGreatDoorM35
set_option linter.unusedVariables false
set_option linter.unusedSimpArgs false
namespace Go.Proofs.YtnljjdhodelhdaaGreatDoor
open Go.RowKit
open Lw (Dc bE rt cB dq fi ik)
variable {s:Sy}{L l a:List Dc}{c:Cl}
def jh:Int->List Dc->Option Int
 |o,[]=>some o
 |o,d :: r=>if rt d=true/\0<=o+dq d.k then jh (o+dq d.k) r else none
theorem na:∀(a:List Dc) (o:Int) (b:List Dc),jh o (a++b)=(jh o a).bind (fun x=>jh x b)
 |[],o,b=>rfl
 |d :: a,o,b=>by
  simp only [RA,jh]
  split
  ·exact na a _ b
  ·rfl
theorem DX:∀(a:List Dc) {o x:Int},0<=o->jh o a=some x->0<=x
 |[],o,x,h,e=>by cases e;exact h
 |d :: a,o,x,h,e=>by
  simp only [jh] at e
  split at e
  ·rename_i hc;exact DX a hc.2 e
  ·cases e
theorem zW:∀(l:List Dc) (o:Int) (j:Nat),jh o l=some 0->cB o j l=none
 |[],o,j,h=>by cases h;rfl
 |d :: l,o,j,h=>by
  simp only [jh] at h;simp only [cB]
  split at h
  ·rename_i hc;rw [IO hc];exact zW l _ _ h
  ·cases h
def N5 (d:Dc):Prop:=rt d=true/\dq d.k=0
theorem EC:N5 dS:=⟨rfl,rfl⟩
theorem sG:N5 dH:=⟨rfl,rfl⟩
theorem ED:N5 dE:=⟨rfl,rfl⟩
theorem sF {t:ByteArray}(h:fi t=true):N5 (dT t):=⟨by simp [rt,dT,h],rfl⟩
theorem eY {d:Dc}(hd:N5 d) (a b:List Dc) {o:Int}(ho:0<=o):jh o (a++d :: b)=jh o (a++b):=by
 rw [na,na];cases h:jh o a with
 |none=>rfl
 |some x=>
  have hx:=DX a ho h;show jh x (d :: b)=jh x b;simp only [jh];rw [hd.2,IO ⟨hd.1,by omega⟩,Int.add_zero]
theorem se {o:Int}{x:Int}(h:jh o a=some x) {d:Dc}(hd:rt d=true) (h0:0<=x+dq d.k):jh o (a++[d])=some (x+dq d.k):=by
 rw [na,h];show jh x [d]=_;simp only [jh];rw [IO ⟨hd,h0⟩]
def Pz.fine:Pz->Prop
 |.I n=>n<=4
 |_=>True
theorem JZ {p:Pz}(h:p.fine):rt p.d=true:=by
 cases p with
 |I n=>
  have h4:n<=4:=h
  rcases n with _|_|_|_|_|n
  ·rfl
  ·rfl
  ·rfl
  ·rfl
  ·rfl
  ·omega
 |_=>rfl
theorem sV (a:Fx):∀p∈a.pz,p.fine:=by
 cases a <;> simp [Fx.pz,Pz.fine]
theorem M5 (p:Pz):p.d.k≠1:=by cases p <;> (intro h;exact absurd h (by show ¬(_:Int)=1;simp [Pz.d,dS,dB,dH,dI,dX]))
theorem vT (p:Pz) (h:p≠.X):dq p.d.k=(p.n:Int):=by cases p <;> first|rfl|exact absurd rfl h
structure eS (L:List Dc) (s:Sy):Prop where
 r:jh 0 (L++s.ws)=some (cK s.ns:Int)
 n:∀d∈s.ws,d.k≠1
def Sy.ks (s:Sy):List Int:=s.ns.map (·.k)
theorem Pe (s:Sy) (p:Pz):(s.aw p).ks=s.ks:=by
 show (ib p s.ns).map (·.k)=s.ns.map (·.k)
 cases s.ns with
 |nil=>rfl
 |cons n r=>simp only [ib];split <;> rfl
theorem tW (s:Sy) (l:List Pz):(s.aws l).ks=s.ks:=by
 induction l generalizing s with
 |nil=>rfl
 |cons p l ih=>rw [ce,ih,Pe]
theorem eS.aw (h:eS L s) (hn:s.ns≠[]) {p:Pz}(hp:p.fine):eS L (s.aw p):=by
 obtain ⟨n,r,e⟩:∃n r,s.ns=n :: r:=by cases h1:s.ns with|nil=>exact absurd h1 hn|cons n r=>exact ⟨n,r,rfl⟩
 have hr:=h.r;rw [e,bq] at hr;refine ⟨?_,?_⟩
 ·show jh 0 (L++(s.ws++jC p s.ns))=some (cK (ib p s.ns):Int)
  rw [e]
  by_cases hX:p=.X
  ·subst hX;have e2:ib .X (n :: r)={ n with b:=n.b-1 } :: r:=rfl;rw [e2,bq]
   by_cases hb:n.b=0
   ·have e1:jC .X (n :: r)=[]:=IO ⟨rfl,hb⟩;rw [e1,RI,hr];show some ((n.b+cK r:Nat):Int)=some ((n.b-1+cK r:Nat):Int);rw [hb]
   ·have e1:jC .X (n :: r)=[dX]:=Eq (fun h=>hb h.2);rw [e1,<-QW,se hr (d:=dX) rfl (by show 0<=_+(-1:Int);omega)];show some ((n.b+cK r:Nat)+(-1:Int))=some ((n.b-1+cK r:Nat):Int)
    congr 1;omega
  ·have e1:jC p (n :: r)=[p.d]:=Eq (fun h=>hX h.1);have e2:ib p (n :: r)={ n with b:=n.b+p.n } :: r:=by simp only [ib];rw [Eq hX]
   rw [e1,e2,bq,<-QW,se hr (JZ hp) (by rw [vT p hX];omega),vT p hX];show some ((n.b+cK r:Nat)+(p.n:Int))=some ((n.b+p.n+cK r:Nat):Int)
   congr 1;omega
 ·intro d hd;have hd':d∈s.ws++jC p s.ns:=hd
  rcases Rm.1 hd' with hd|hd
  ·exact h.n d hd
  ·unfold jC at hd
   split at hd
   ·cases hd
   ·rw [ST] at hd;rw [hd];exact M5 p
theorem eS.aws {L:List Dc}{s:Sy}(h:eS L s) (hn:s.ns≠[]) (l:List Pz) (hl:∀p∈l,p.fine):eS L (s.aws l):=by
 induction l generalizing s with
 |nil=>exact h
 |cons p l ih=>rw [ce];exact ih (h.aw hn (hl p (QY ..))) (mL hn p) (fun q hq=>hl q (QZ _ hq))
theorem NG (l:List Pz) (h:s.ns≠[]):(s.aws l).ns≠[]:=by
 induction l generalizing s with
 |nil=>exact h
 |cons p l ih=>rw [ce];exact ih (mL h p)
theorem eS.ins (h:eS L s) {d:Dc}(hd:N5 d) (h1:d.k≠1) (a b:List Dc) (hab:s.ws=a++b):eS L { s with ws:=a++d :: b }:=by
 refine ⟨?_,?_⟩
 ·show jh 0 (L++(a++d :: b))=_
  rw [<-QW,eY hd _ _ (SH 0),QW,<-hab];exact h.r
 ·intro x hx;have hx':x∈a++d :: b:=hx
  rcases Rm.1 hx' with hx|hx
  ·exact h.n x (by rw [hab];exact UD _ hx)
  ·rcases Rz.1 hx with rfl|hx
   ·exact h1
   ·exact h.n x (by rw [hab];exact Sf _ hx)
theorem eS.exprIn (h:eS L s):eS L s.exprIn/\s.exprIn.ks=s.ks:=by
 unfold Sy.exprIn
 split
 ·exact ⟨h,rfl⟩
 ·rename_i n r e
  have hne:s.ns≠[]:=by rw [e];exact Vo _ _
  have ek:s.ks=n.k :: r.map (·.k):=by unfold Sy.ks;rw [e];rfl
  refine ⟨?_,by rw [ek];rfl⟩
  by_cases h19:n.k=19
  ·simp only [IO h19];have h2:=h.aws hne [.S,.I 3] (by simp [Pz.fine])
   have e2:(s.aws [.S,.I 3]).ns=⟨n.k,n.b+0+1,n.s⟩ :: r:=by
    show ib (.I 3) (ib .S s.ns)=_
    rw [e];rfl
   refine ⟨?_,h2.n⟩;have:=h2.r;rw [e2,bq] at this;show jh 0 (L++(s.aws [.S,.I 3]).ws)=some (cK (⟨n.k,n.b+1,true⟩ :: r):Int);rw [bq];exact this
  ·by_cases h31:n.k=31/\n.s=false
   ·simp only [Eq h19,IO h31];have h2:=h.aws hne [.B0] (by simp [Pz.fine])
    have e2:(s.aws [.B0]).ns=⟨n.k,n.b+0,n.s⟩ :: r:=by
     show ib .B0 s.ns=_
     rw [e];rfl
    refine ⟨?_,h2.n⟩;have:=h2.r;rw [e2,bq] at this;show jh 0 (L++(s.aws [.B0]).ws)=some (cK (⟨n.k,n.b,true⟩ :: r):Int);rw [bq];exact this
   ·simp only [Eq h19,Eq h31];refine ⟨?_,h.n⟩;have:=h.r;rw [e,bq] at this;show jh 0 (L++s.ws)=some (cK (⟨n.k,n.b,true⟩ :: r):Int);rw [bq];exact this
theorem eS.mark (h:eS L s) (k:Int):eS L (s.mark k)/\(s.mark k).ks=s.ks:=by
 unfold Sy.mark
 split
 ·exact ⟨⟨h.r,h.n⟩,rfl⟩
 ·exact ⟨h,rfl⟩
theorem eS.opens (h:eS L s) (k:Int):eS L (s.opens k)/\(s.opens k).ks=k :: s.ks:=by
 obtain ⟨s1,hs1⟩:∃s1,(if k=21 then s.exprIn else s)=s1:=⟨_,rfl⟩
 have h1:eS L s1/\s1.ks=s.ks:=by
  rw [<-hs1];split
  ·exact h.exprIn
  ·exact ⟨h,rfl⟩
 obtain ⟨h2,h3⟩:=h1.1.mark k;have e:s.opens k=Sy.aws { (s1.mark k) with ns:=⟨k,0,false⟩ :: (s1.mark k).ns } (qu k):=by unfold Sy.opens;simp only;rw [hs1]
 rw [e]
 have h4:eS L { (s1.mark k) with ns:=⟨k,0,false⟩ :: (s1.mark k).ns }:=by
  refine ⟨?_,h2.n⟩;have:=h2.r;show jh 0 (L++(s1.mark k).ws)=some (cK (⟨k,0,false⟩ :: (s1.mark k).ns):Int);rw [bq,this];show some _=some ((0+cK (s1.mark k).ns:Nat):Int);rw [Q8]
 refine ⟨h4.aws (Vo _ _) _ ?_,?_⟩
 ·intro p hp;unfold qu at hp
  split at hp
  ·simp at hp;subst hp;show (0:Nat)<=4;decide
  ·split at hp
   ·simp at hp;subst hp;show (2:Nat)<=4;decide
   ·cases hp
 ·rw [tW];show k :: (s1.mark k).ks=_;rw [h3,h1.2]
theorem uJ:∀(b:Nat) {a:List Dc}{x:Nat},jh 0 a=some ((b+x:Nat):Int)->jh 0 (a++List.replicate b dX)=some (x:Int)
 |0,a,x,h=>by rw [List.replicate_zero,RI,h,Q8]
 |b+1,a,x,h=>by
  have h1:=se h (d:=dX) rfl (by show 0<=_+(-1:Int);omega);rw [List.replicate_succ,show a++dX :: List.replicate b dX=(a++[dX])++List.replicate b dX by simp];refine uJ b ?_;rw [h1];show some (((b+1+x:Nat):Int)+(-1:Int))=_
  congr 1;omega
theorem eS.leaves (h:eS L s):eS L s.leaves/\s.leaves.ks=s.ks.tail:=by
 unfold Sy.leaves
 split
 ·rename_i e;exact ⟨h,by unfold Sy.ks;rw [e];rfl⟩
 ·rename_i n r e
  have hr:=h.r;rw [e,bq] at hr;have h1:=uJ n.b hr;refine ⟨⟨?_,?_⟩,by unfold Sy.ks;rw [e];rfl⟩
  ·show jh 0 (L++(s.ws++List.replicate n.b dX++(if n.k=1 then [dH] else [])))=some (cK r:Int)
   rw [<-QW,<-QW]
   split
   ·rw [eY sG _ [] (SH 0),RI];exact h1
   ·rw [RI];exact h1
  ·intro d hd;have hd':d∈s.ws++List.replicate n.b dX++(if n.k=1 then [dH] else []):=hd
   rcases Rm.1 hd' with hd|hd
   ·rcases Rm.1 hd with hd|hd
    ·exact h.n d hd
    ·rw [List.eq_of_mem_replicate hd];decide
   ·split at hd
    ·rw [ST] at hd;rw [hd];decide
    ·cases hd
theorem eS.emp (h:eS L s) (f:Int):eS L (s.emp f):=by
 unfold Sy.emp
 split
 ·exact h
 ·split
  ·exact h
  ·rename_i m _ _;exact h.ins ED (by decide) _ _ (RY m s.ws).symm
theorem eS.endl (h:eS L s):eS L s.endl:=by
 unfold Sy.endl
 split
 ·exact h.ins sG (by decide) [] s.ws rfl
 ·exact h
theorem eS.part (h:eS L s):eS L s.part:=by
 unfold Sy.part
 split
 ·exact h.ins EC (by decide) s.ws [] (RI _).symm
 ·exact h
def om (l:List Dc):List ByteArray:=l.filterMap (fun d=>if d.k=1 then some d.t else none)
theorem kc (a b:List Dc):om (a++b)=om a++om b:=List.filterMap_append
theorem kb (h:∀d∈l,d.k≠1):om l=[]:=by
 unfold om;rw [List.filterMap_eq_nil_iff];intro d hd;rw [Eq (h d hd)]
theorem eS.leaf (h:eS L s) (hn:s.ns≠[]) (t:Tv) (ht:fi t.t=true):eS (L++(s.leaf t).2) (s.leaf t).1/\om (s.leaf t).2=[t.t]/\(s.leaf t).1.ks=s.ks:=by
 unfold Sy.leaf
 split
 ·rename_i e;exact absurd e hn
 ·rename_i n r e
  have h1:eS L (s.ready (aH n t).a t.f):=((((h.aws hn _ (sV _)).emp t.f).endl).part);have hne:(s.ready (aH n t).a t.f).ns≠[]:=by unfold Sy.ready;rw [nv,kO,tg];exact NG _ hn
  have hks:(s.ready (aH n t).a t.f).ks=s.ks:=by unfold Sy.ready Sy.ks;rw [nv,kO,tg];exact tW s _
  refine ⟨?_,?_,?_⟩
  ·show eS (L++((s.ready (aH n t).a t.f).ws++[dT t.t])) (Sy.aws ⟨(s.ready (aH n t).a t.f).ns,[],none,true,false,false⟩ _)
   refine eS.aws (s:=⟨_,[],none,true,false,false⟩) ⟨?_,fun d hd=>(nomatch (show d∈([]:List Dc) from hd))⟩ hne _ (sV _);show jh 0 (L++((s.ready (aH n t).a t.f).ws++[dT t.t])++[])=_;rw [RI,<-QW,eY (sF ht) _ [] (SH 0),RI];exact h1.r
  ·show om ((s.ready (aH n t).a t.f).ws++[dT t.t])=_
   rw [kc,kb h1.n];rfl
  ·show (Sy.aws ⟨(s.ready (aH n t).a t.f).ns,[],none,true,false,false⟩ _).ks=_
   rw [tW];exact hks
theorem eS.note {L:List Dc}{s:Sy}(h:eS L s) (t:Tv) (ht:fi t.t=true):eS (L++(s.note t).2) (s.note t).1/\om (s.note t).2=[t.t]/\(s.note t).1.ks=s.ks:=by
 have hsp:s.ws.takeWhile bi++s.ws.dropWhile bi=s.ws:=Ts;obtain ⟨bg,hbg⟩:∃bg,s.ws.takeWhile bi=bg:=⟨_,rfl⟩;obtain ⟨rs,hrs⟩:∃rs,s.ws.dropWhile bi=rs:=⟨_,rfl⟩;rw [hbg,hrs] at hsp;have hb1:∀d∈bg,d.k≠1:=fun d hd=>h.n d (by rw [<-hsp];exact UD _ hd)
 have hr1:∀d∈rs,d.k≠1:=fun d hd=>h.n d (by rw [<-hsp];exact Sf _ hd)
 have h0:=h.r;rw [<-hsp] at h0;unfold Sy.note;rw [hbg,hrs];simp only
 split
 ·refine ⟨⟨?_,hr1⟩,?_,rfl⟩
  ·show jh 0 ((L++(bg++[dS,dT t.t]))++rs)=_
   rw [show (L++(bg++[dS,dT t.t]))++rs=(L++bg)++dS :: (dT t.t :: rs) by simp,eY EC _ _ (SH 0),eY (sF ht) _ _ (SH 0),QW];exact h0
  ·show om (bg++[dS,dT t.t])=_
   rw [kc,kb hb1];rfl
 ·refine ⟨⟨?_,hr1⟩,?_,rfl⟩
  ·show jh 0 ((L++(bg++dH :: ((if _ then [dE] else [])++[dT t.t])))++rs)=_
   split
   ·rw [show (L++(bg++dH :: ([dE]++[dT t.t])))++rs=(L++bg)++dH :: (dE :: (dT t.t :: rs)) by simp,eY sG _ _ (SH 0),eY ED _ _ (SH 0),eY (sF ht) _ _ (SH 0),QW];exact h0
   ·rw [show (L++(bg++dH :: ([]++[dT t.t])))++rs=(L++bg)++dH :: (dT t.t :: rs) by simp,eY sG _ _ (SH 0),eY (sF ht) _ _ (SH 0),QW];exact h0
  ·show om (bg++dH :: ((if _ then [dE] else [])++[dT t.t]))=_
   rw [kc,kb hb1]
   split <;> rfl
def QP (e:Ev) (ks:List Int):List Int:=if e.k=1 then e.n :: ks else if e.k=3 then ks.tail else ks
def M9 (e:Ev):List ByteArray:=if e.k=1 then [] else if e.k=3 then [] else [e.d.t]
theorem yR {s':Sy}{e:Ev}(h:eS L s) (hp:dF s e=some (s',l)):eS (L++l) s'/\om l=M9 e/\s'.ks=QP e s.ks:=by
 unfold dF at hp
 split at hp
 ·rename_i hm
  have h':=RJ hp;obtain ⟨e1,e2⟩:(s.step e).1=s'/\(s.step e).2=l:=⟨by rw [h'],by rw [h']⟩;rw [<-e1,<-e2];unfold Sy.may at hm;unfold Sy.step M9 QP
  by_cases h1:e.k=1
  ·rw [IO h1,IO h1,IO h1];show eS (L++[]) (s.opens e.n)/\om []=[]/\_;rw [RI];exact ⟨(h.opens e.n).1,rfl,(h.opens e.n).2⟩
  ·rw [Eq h1,Eq h1,Eq h1];rw [Eq h1] at hm
   by_cases h3:e.k=3
   ·rw [IO h3,IO h3,IO h3];show eS (L++[]) s.leaves/\om []=[]/\_;rw [RI];exact ⟨h.leaves.1,rfl,h.leaves.2⟩
   ·rw [Eq h3,Eq h3,Eq h3];rw [Eq h3] at hm
    by_cases h2:e.k=2
    ·rw [IO h2] at hm ⊢;rw [Q1] at hm;have hne:s.ns≠[]:=by intro hh;rw [hh] at hm;exact absurd hm.1 (by decide)
     exact h.leaf hne e.d hm.2
    ·rw [Eq h2] at hm ⊢
     by_cases h4:e.k=4
     ·rw [IO h4,Q1,Q1] at hm;exact h.note e.d hm.2.1
     ·rw [Eq h4] at hm;cases hm
 ·cases hp
theorem kj:eS [] qi:=⟨rfl,fun d hd=>by cases hd⟩
theorem yS (h:eS L s) (hc:ie s=some l):cB 0 0 (L++l)=none/\om l=[]:=by
 unfold ie at hc
 split at hc
 ·rename_i hn
  cases hc;have h1:=h.endl;have h2:=h1.r;rw [kO,hn] at h2;exact ⟨zW _ _ _ h2,kb h1.n⟩
 ·cases hc
def aL (s:Sy) (o:List Ev):Sy:=o.foldl (fun s e=>(s.step e).1) s
theorem qO (s:Sy) (a b:List Ev):aL s (a++b)=aL (aL s a) b:=List.foldl_append
theorem cE (s:Sy) (e:Ev) (b:List Ev):aL s (e :: b)=aL (s.step e).1 b:=rfl
def oc (o:List Ev):Prop:=∀e∈o,e.k=1\/e.k=3
theorem Cc (s:Sy):s.exprIn.ks=s.ks:=by
 unfold Sy.exprIn
 split
 ·rfl
 ·rename_i n r e
  unfold Sy.ks;rw [e];rfl
theorem Jv (s:Sy) (k:Int):(s.mark k).ks=s.ks:=by unfold Sy.mark;split <;> rfl
theorem oY (s:Sy) (k:Int):(s.opens k).ks=k :: s.ks:=by
 unfold Sy.opens;simp only;rw [tW];show k :: ((if k=21 then s.exprIn else s).mark k).ks=_;rw [Jv]
 split
 ·rw [Cc]
 ·rfl
theorem lJ (s:Sy):s.leaves.ks=s.ks.tail:=by
 unfold Sy.leaves
 split
 ·rename_i e;unfold Sy.ks;rw [e];rfl
 ·rename_i n r e;unfold Sy.ks;rw [e];rfl
theorem NH (s:Sy) (p:Pz):s.ws <+: (s.aw p).ws:=by rw [rC];exact List.prefix_append _ _
theorem fR (s:Sy) (l:List Pz):s.ws <+: (s.aws l).ws:=by
 induction l generalizing s with
 |nil=>exact Sv
 |cons p l ih=>rw [ce];exact (NH s p).trans (ih _)
theorem pP (s:Sy):s.ws <+: s.exprIn.ws:=by
 unfold Sy.exprIn
 split
 ·exact Sv
 ·rename_i n r e
  show s.ws <+: (if n.k=19 then s.aws [.S,.I 3] else if n.k=31/\n.s=false then s.aws [.B0] else s).ws
  split
  ·exact fR _ _
  ·split
   ·exact fR _ _
   ·exact Sv
theorem sJ (s:Sy) (k:Int):(s.mark k).ws=s.ws:=by unfold Sy.mark;split <;> rfl
theorem qY (s:Sy) (k:Int):s.ws <+: (s.opens k).ws:=by
 unfold Sy.opens;simp only;refine List.IsPrefix.trans ?_ (fR _ _);show s.ws <+: ((if k=21 then s.exprIn else s).mark k).ws;rw [sJ]
 split
 ·exact pP s
 ·exact Sv
theorem g9 (s:Sy):s.ws <+: s.leaves.ws:=by
 unfold Sy.leaves
 split
 ·exact Sv
 ·grind
theorem cH (s:Sy) {e:Ev}(h:e.k=1):s.step e=(s.opens e.n,[]):=by unfold Sy.step;rw [IO h]
theorem cC (s:Sy) {e:Ev}(h:e.k=3):s.step e=(s.leaves,[]):=by unfold Sy.step;rw [Eq (by omega),IO h]
theorem qN {o:List Ev}(h:oc o) (s:Sy):s.ws <+: (aL s o).ws:=by
 induction o generalizing s with
 |nil=>exact Sv
 |cons e o ih=>
  rw [cE];refine List.IsPrefix.trans ?_ (ih (fun x hx=>h x (QZ _ hx)) _)
  rcases h e (QY ..) with h1|h1
  ·rw [cH s h1];exact qY s _
  ·rw [cC s h1];exact g9 s
theorem ic {f:Dc->Bool}{b:List Dc}(h:a <+: b) (ha:a.any f=true):b.any f=true:=by
 obtain ⟨r,rfl⟩:=h;rw [RD,ha,T7]
theorem DZ {r:List Int}(h:s.ks=19 :: r):(s.opens 21).ws.any bS=true:=by
 obtain ⟨n,ns,e⟩:∃n ns,s.ns=n :: ns:=by
  cases h1:s.ns with
  |nil=>unfold Sy.ks at h;rw [h1] at h;cases h
  |cons n ns=>exact ⟨n,ns,rfl⟩
 have hk:n.k=19:=by unfold Sy.ks at h;rw [e] at h;injection h
 unfold Sy.opens;simp only [SY];refine ic (fR _ _) ?_;show (s.exprIn.mark 21).ws.any bS=true;rw [sJ];unfold Sy.exprIn;rw [e];show (if n.k=19 then s.aws [.S,.I 3] else if n.k=31/\n.s=false then s.aws [.B0] else s).ws.any bS=true;rw [IO hk]
 have:s.ws++[dS] <+: (s.aws [.S,.I 3]).ws:=by
  rw [ce];exact fR (s.aw .S) _
 refine ic this ?_;rw [RD];simp [bS,dS]
theorem qZ (K:List It):aR K=(bM K).headD 0:=by
 induction K with
 |nil=>rfl
 |cons i K ih=>cases i <;> first|rfl|exact ih
structure Cl.Dyn (c:Cl) (bad:Tv->Prop):Prop where
 tB:∀n k x t,c.tB n k x=true->bad t->t.k=k->t.t=x->lx n t.k t.t=true
 nB:c.nB=true->∀t,bad t->t.k≠1/\t.k≠3/\t.k≠4/\t.k≠5
 dB:∀d,c.dB d=true->d≠.declaration/\∀t,bad t->t.k≠6
 xB:∀n m,c.xB n m=true->n=19/\m=.expr
 mB:∀m,c.mB m=false
theorem Iz {t:Tv}{k:Nat}{K:List It}{n:Int}{E:List Ev}{R:Ro}{m:M}(hm:m=.params\/m=.index\/m=.selection\/m=.args) (h:Ru t k (.fl (.mt m) :: K) n E R) {L:List It}{z:Int}{F:List Ev}(hR:R=.yes L z F):t.k=6:=by
 have key:∀(x:ByteArray) (r:List It),It.step t (.fl (.mt m))=.go 1 [⟨1,(match M.row t m with|.op nd _=>nd|_=>0),aC⟩] (.fl (.wd 6 [x]) :: r)->t.k=6:=by
  intro x r hs;cases h with
  |ref h1=>rw [hs] at h1;cases h1
  |tk h1=>rw [hs] at h1;cases h1
  |go h1 h2=>
   rw [hs] at h1;cases h1;cases h2 with
   |ref h3=>cases hR
   |tk h3=>
    simp only [It.step,Fl.step] at h3
    split at h3
    ·rename_i h4;simp only [Fl.takes,Q1,R5] at h4;exact h4.1
    ·cases h3
   |go h3 _=>simp only [It.step,Fl.step] at h3;split at h3 <;> cases h3
 rcases hm with rfl|rfl|rfl|rfl <;> exact key _ _ rfl
theorem Dn {bad:Tv->Prop}(hc:c.Dyn bad) {t:Tv}(hb:bad t) {x:Fl}(ht:x.takes t=true) {n:Int}(h:x.ba c n=true):lx n t.k t.t=true:=by
 cases x with
 |wd k ts=>
  simp only [Fl.takes,Q1,R5] at ht;obtain ⟨y,h1,h2⟩:=Sz.1 ht.2;exact hc.tB n k y t (TY.1 h y h1) hb ht.1 (RE h2)
 |nm=>
  have:=hc.nB h t hb;simp only [Fl.takes,R5] at ht;exact absurd ht this.1
 |cs=>
  have:=hc.nB h t hb;simp only [Fl.takes,Ri,R5] at ht
  rcases ht with (ht|ht)|ht
  ·exact absurd ht this.2.1
  ·exact absurd ht this.2.2.1
  ·exact absurd ht this.2.2.2
 |mt m=>cases ht
theorem dyn {bad:Tv->Prop}(hc:c.Dyn bad) {t:Tv}(hb:bad t) {k:Nat}{K:List It}{n:Int}{E:List Ev}{R:Ro}(h:Ru t k K n E R):∀{L:List It}{m:Int}{F:List Ev},R=.yes L m F->jR K->fb K->((bM K).length:Int)=n->fu c K=true->∀s:Sy,s.ks=bM K ->
  ∃o,F=E++o/\oc o/\(aL s o).ks=bM L/\((aL s o).ws.any bS=true\/lx (aR L) t.k t.t=true):=by
 induction h with
 |nil=>intro L m F h;cases h
 |ref _=>intro L m F h;cases h
 |tk hs=>
  rename_i i K n E
  intro L m F h hw hf hn hbar s hk;cases h
  obtain ⟨x,rfl,hx⟩:∃x,i=.fl x/\x.takes t=true:=by
   cases i with
   |fl x=>
    refine ⟨x,rfl,?_⟩;cases x with
    |mt m=>exfalso;simp only [It.step,Fl.step] at hs;cases hrow:M.row t m <;> rw [hrow] at hs <;> cases hs
    |_=>simp only [It.step,Fl.step] at hs;split at hs;assumption;cases hs
   |_=>cases hs
  simp only [fu,Q1] at hbar;exact ⟨[],by simp,fun e he=>by simp at he,hk,.inr (Dn hc hb hx hbar.1)⟩
 |go hs hr ih=>
  rename_i k i K n d E o r R
  intro L m F h hw hf hn hbar s hk;have hi:=hw i (QY ..);obtain ⟨a1,a2,a3,a4⟩:=fJ (K:=K) hs hi;have hw2:=fH a1 (fun j hj=>hw j (QZ _ hj));have hf2:=rQ hs hf;have hn2:((bM (r++K)).length:Int)=n+d:=by omega
  have hbar0:=hbar;simp only [fu,Q1,Ri,Ta] at hbar;obtain ⟨hba,hnul⟩:=hbar
  have go:∀s1,(s.ws <+: s1.ws)->aL s o=s1->oc o->s1.ks=bM (r++K)->fu c (r++K)=true->∃o,F=E++o/\oc o/\(aL s o).ks=bM L/\((aL s o).ws.any bS=true\/lx (aR L) t.k t.t=true):=by
   intro s1 hp e1 hB hk1 hb1;obtain ⟨o2,b1,b2,b3,b4⟩:=ih h hw2 hf2 hn2 hb1 s1 hk1;refine ⟨o++o2,by rw [b1,QW],fun e he=>(Rm.1 he).elim (hB e) (b2 e),?_,?_⟩ <;> rw [qO,e1]
   ·exact b3
   ·exact b4
  have nilB:oc []:=fun e he=>by simp at he
  have row1:∀(rr:List Fl) (K':List It),aR K'=aR K->LB c (aR K) rr=true->fu c (rr.map It.fl++K')=true:=by
   intro rr K' e hh;cases rr with
   |nil=>cases hh
   |cons x rr=>
    show (x.ba c (aR (rr.map It.fl++K')) && (!false || _))=true
    rw [lH (jU rr),e,show x.ba c (aR K)=true from hh];rfl
  have picks:∀(p:Pk) (j:It) (K':List It),aR K'=aR K->r++K=j :: K'->o=[]->Pk.pick t p=some j->p.wf->p.ba c (aR K)=true->∃o,F=E++o/\oc o/\(aL s o).ks=bM L/\((aL s o).ws.any bS=true\/lx (aR L) t.k t.t=true):=by
   intro p j K' eK er eo hp hpw hpb;subst eo
   have hkr:s.ks=bM (r++K):=by
    have:=ls (K:=K) hs hi;simp only [cF,RF] at this;rw [hk,this]
   cases p with
   |fn dk=>
    simp only [Pk.pick,Rv] at hp;obtain ⟨mm,hm,rfl⟩:=hp;obtain ⟨h1,h2⟩:=hc.dB dk hpb
    exfalso
    refine h2 t hb ?_;rw [er] at hr;refine Iz ?_ hr h;cases dk with
    |declaration=>exact absurd rfl h1
    |bracket=>simp only [Dk.pick] at hm;split at hm <;> cases hm;exact .inl rfl
    |detail=>
     simp only [Dk.pick] at hm
     split at hm
     ·cases hm;exact .inr (.inl rfl)
     ·split at hm
      ·cases hm;exact .inr (.inr (.inl rfl))
      ·split at hm <;> cases hm;exact .inr (.inr (.inr rfl))
   |row rr=>
    simp only [Pk.pick] at hp
    split at hp
    ·cases hp;refine go s Sv rfl nilB hkr ?_;rw [er];show (LB c (aR K') rr && (!false || _))=true;rw [eK,show LB c (aR K) rr=true from hpb];rfl
    ·cases hp
   |ex mm=>
    simp only [Pk.pick] at hp
    split at hp
    ·cases hp
    ·cases hp;obtain ⟨h1,rfl⟩:=hc.xB _ _ hpb;rw [er] at hr;cases hr with
     |ref h3=>cases h
     |tk h3=>cases h3
     |go h3 h4=>
      rename_i k2 d2 o2 r2
      have e3:o2=[⟨1,21,aC⟩]:=by cases h3;rfl
      obtain ⟨c1,c2,c3,c4⟩:=fJ (K:=K') h3 trivial;have hwK:jR (It.fl (.mt .expr) :: K'):=by rw [<-er];exact hw2
      have hfK:fb (It.fl (.mt .expr) :: K'):=by rw [<-er];exact hf2
      have hnK:((bM (It.fl (.mt .expr) :: K')).length:Int)=n+d:=by rw [<-er];exact hn2
      obtain ⟨_,_,_,o3,b4,b5,b6,_⟩:=eF h4 h (fH c1 (fun j hj=>hwK j (QZ _ hj))) (rQ h3 hfK) (by omega);have hB3:oc o3:=fun e he=>(b6 e he).2.1
      have hs19:∃rr,s.ks=19 :: rr:=by
       have hh:aR (r++K)=19:=by rw [er];show aR K'=19;rw [eK];exact h1
       rw [qZ,<-hkr] at hh;cases hh2:s.ks with
       |nil=>rw [hh2] at hh;cases hh
       |cons a b=>rw [hh2] at hh;exact ⟨b,by rw [show a=19 from hh]⟩
      obtain ⟨rr,hrr⟩:=hs19;refine ⟨⟨1,21,aC⟩ :: o3,by rw [b4,e3];simp,?_,?_,.inl ?_⟩
      ·intro e he
       rcases Rz.1 he with rfl|he
       ·exact .inl rfl
       ·exact hB3 e he
      ·have hpl:∀(o:List Ev) (s:Sy) (l:List Int),oc o->cF s.ks o=some l->(aL s o).ks=l:=by
        intro o
        induction o with
        |nil=>intro s l _ h;cases h;rfl
        |cons e o ih=>
         intro s l hB h;rw [cE]
         rcases hB e (QY ..) with h1|h1
         ·rw [cH s h1];refine ih _ _ (fun x hx=>hB x (QZ _ hx)) ?_;simp only [cF,IO h1] at h;rw [oY];exact h
         ·rw [cC s h1];refine ih _ _ (fun x hx=>hB x (QZ _ hx)) ?_;rw [lJ];simp only [cF] at h;rw [Eq (by omega),IO h1] at h;cases h5:s.ks with
          |nil=>rw [h5] at h;cases h
          |cons a b=>
           rw [h5] at h;simp only at h
           split at h
           ·exact h
           ·cases h
       rw [cE];refine hpl o3 _ _ hB3 ?_;rw [cH s rfl];show cF (s.opens 21).ks o3=_;rw [oY,hkr,er];have:=ls (K:=K') h3 trivial;rw [e3] at this;simp only [cF,SY,RF] at this;rw [this];exact b5
      ·rw [cE,cH s rfl];exact ic (qN hB3 _) (DZ hrr)
  cases i with
  |fl x=>
   exfalso
   have hm:∃m,x=.mt m:=by
    cases x with
    |mt m=>exact ⟨m,rfl⟩
    |_=>simp only [It.step,Fl.step] at hs;split at hs <;> cases hs
   obtain ⟨m,rfl⟩:=hm;rw [show (It.fl (.mt m)).ba c (aR K)=c.mB m from rfl,hc.mB m] at hba;cases hba
  |lv a=>
   cases hs;refine go s.leaves (g9 s) ?_ (fun e he=>by simp at he;subst he;exact .inr rfl) ?_ ?_
   ·rw [cE,cC s rfl];rfl
   ·rw [lJ,hk];rfl
   ·rcases hnul with h1|h1
    ·cases h1
    ·exact h1
  |once p=>
   simp only [It.step] at hs;cases hp:Pk.pick t p with
   |none=>
    rw [hp] at hs;cases hs;refine go s Sv rfl nilB hk ?_
    rcases hnul with h1|h1
    ·cases h1
    ·exact h1
   |some j=>
    rw [hp] at hs;cases hs;exact picks p j K rfl rfl rfl hp hi hba
  |again p=>
   simp only [It.step] at hs;cases hp:Pk.pick t p with
   |none=>
    rw [hp] at hs;cases hs;refine go s Sv rfl nilB hk ?_
    rcases hnul with h1|h1
    ·cases h1
    ·exact h1
   |some j=>
    rw [hp] at hs;cases hs;exact picks p j (.again p :: K) rfl rfl rfl hp hi hba
  |all rr=>
   cases hs;refine go s Sv rfl nilB ?_ (row1 rr K rfl hba);rw [hk,bP,jU];rfl
end Go.Proofs.YtnljjdhodelhdaaGreatDoor
namespace Go.Proofs.YtnljjdhodelhdaaGreatDoor
open Go.RowKit
open Lw (Dc bE rt cB dq fi ik jm Aj)
theorem sK (T:ByteArray) (i:Nat) (h:i<T.size):((jm T).getD i 0).toNat=Lx.ay T i:=by
 have h':i<T.data.size:=h
 have e1:(jm T).getD i 0=T.data[i]:=by
  unfold jm;rw [Tg,Pi (by simpa using h')];simp
 rw [e1];unfold Lx.ay;show _=(T.data[i]!).toNat;rw [Ut T.data i h']
theorem Od {k:Nat}{T:ByteArray}(h:Lx.Tx k T):fi T=true:=by
 obtain ⟨⟨a1,a2⟩,⟨b1,b2⟩,c⟩:=Lx.Hk h;have hp:=h.pos;have e0:=sK T 0 hp;have e1:=sK T (T.size-1) (by omega)
 have key:∀x:UInt8,x.toNat≠32->x.toNat≠10->Aj x=false:=by
  intro x h1 h2;unfold Aj;rw [Tq];exact ⟨Rr.2 (fun e=>h1 (by rw [e];rfl)),Rr.2 (fun e=>h2 (by rw [e];rfl))⟩
 unfold fi;rw [key _ (by rw [e0];exact a1) (by rw [e0];exact a2),key _ (by rw [e1];exact b1) (by rw [e1];exact b2),Q9 c,Q9 (show 1<=T.size by omega)];rfl
structure Pg (l:List Tv):Prop where
 tx:∀t∈l,∃k,Lx.Tx k t.t/\t.k=(Lx.wW k t.t:Nat)
 ln:∀(i:Nat) t u,l[i]?=some t->l[i+1]?=some u->t.k=7->1<=u.f
 fd:∀t∈l,0<=t.f
theorem Pg.tail {t:Tv}{l:List Tv}(h:Pg (t :: l)):Pg l:=⟨fun x hx=>h.tx x (QZ _ hx),fun i x u h1 h2 h3=>h.ln (i+1) x u h1 h2 h3,fun x hx=>h.fd x (QZ _ hx)⟩
theorem If (s:ByteArray) (h:(Lx.fy s).2.1=0):Pg ((Lx.fy s).1.map (Lx.tv s)):=by
 obtain ⟨h1,_,h3⟩:=Lx.pH s _ 0 0 (gt _) h;refine ⟨?_,?_,?_⟩
 ·intro t ht;obtain ⟨x,hx,rfl⟩:=TE.1 ht;obtain ⟨k,a,b⟩:=h1 x hx;exact ⟨k,a,by show (x.k:Int)=_;rw [b];rfl⟩
 ·intro i t u ht hu hk;rw [SC] at ht hu;obtain ⟨x,hx,rfl⟩:=Rv.1 ht;obtain ⟨y,hy,rfl⟩:=Rv.1 hu;have:=h3 i x y hx hy (by have:(x.k:Int)=7:=hk;omega);show (1:Int)<=(y.f:Int);omega
 ·intro t ht;obtain ⟨x,hx,rfl⟩:=TE.1 ht;show (0:Int)<=(x.f:Int);omega
theorem oJ {t:Tv}{k:Nat}{K:List It}{n:Int}{E:List Ev}{R:Ro}(h:Ru t k K n E R):∀{L:List It}{m:Int}{F:List Ev},R=.yes L m F->(∀e∈E,e.k=1->1<=e.n/\e.n<=32)->∀e∈F,e.k=1->1<=e.n/\e.n<=32:=by
 induction h with
 |nil=>intro L m F h;cases h
 |ref _=>intro L m F h;cases h
 |tk hs=>intro L m F h hE;cases h;exact hE
 |go hs _ ih=>
  rename_i k i K n d E o r R _
  intro L m F h hE;refine ih h (fun e he=>(Rm.1 he).elim (hE e) (fun ho=>?_));cases i with
  |fl x=>
   have hm:∃m,x=.mt m:=by
    cases x with
    |mt m=>exact ⟨m,rfl⟩
    |_=>simp only [It.step,Fl.step] at hs;split at hs <;> cases hs
   obtain ⟨m,rfl⟩:=hm;have hr:=gX t m;simp only [It.step,Fl.step] at hs;cases hrow:M.row t m with
   |ref=>rw [hrow] at hs;cases hs
   |ex r'=>rw [hrow] at hs;cases hs;simp at ho
   |op nd r'=>
    rw [hrow] at hs hr;cases hs;simp at ho;subst ho;intro _;have:=hr.2.2.2;exact ⟨by show 1<=nd;omega,this.2⟩
  |lv a=>cases hs;simp at ho;subst ho;intro h;cases h
  |once p=>cases hs;simp at ho
  |again p=>cases hs;simp at ho
  |all r'=>cases hs;simp at ho
def wU:Sy->List Ev->Option (Sy × List Dc)
 |s,[]=>some (s,[])
 |s,e :: r=>match dF s e with
  |none=>none
  |some (s1,l)=>(wU s1 r).map (fun x=>(x.1,l++x.2))
theorem Il (s:Sy) (a b:List Ev) {s1:Sy}{l:List Dc}(h:wU s a=some (s1,l)):wU s (a++b)=(wU s1 b).map (fun x=>(x.1,l++x.2)):=by
 induction a generalizing s l with
 |nil=>cases h;show wU s1 b=_;cases wU s1 b <;> simp
 |cons e a ih=>
  simp only [wU,RA] at h ⊢;cases hp:dF s e with
  |none=>rw [hp] at h;cases h
  |some x=>
   obtain ⟨s2,l2⟩:=x;rw [hp] at h;simp only at h ⊢;obtain ⟨⟨y1,y2⟩,hy,e2⟩:=Rv.1 h;simp only [Prod.mk.injEq] at e2;obtain ⟨rfl,rfl⟩:=e2;rw [ih _ hy];cases wU y1 b <;> simp
theorem ki {o:List Ev}(hB:oc o) (hn:∀e∈o,e.k=1->1<=e.n/\e.n<=32):∀(s:Sy) {l:List Int},cF s.ks o=some l->wU s o=some (aL s o,[])/\(aL s o).ks=l:=by
 induction o with
 |nil=>intro s l h;cases h;exact ⟨rfl,rfl⟩
 |cons e o ih=>
  intro s l h;have hB':oc o:=fun x hx=>hB x (QZ _ hx)
  have hn':∀x∈o,x.k=1->1<=x.n/\x.n<=32:=fun x hx=>hn x (QZ _ hx)
  rw [cE];simp only [wU]
  rcases hB e (QY ..) with h1|h3
  ·have hm:s.may e=true:=by
    obtain ⟨a,b⟩:=hn e (QY ..) h1;unfold Sy.may;rw [IO h1,Q9 a,Q9 b];rfl
   have hp:dF s e=some (s.opens e.n,[]):=by unfold dF;rw [IO hm,cH s h1]
   rw [hp,cH s h1];simp only [cF,IO h1] at h;rw [<-oY] at h;obtain ⟨a,b⟩:=ih hB' hn' _ h;exact ⟨by simp only [a,Tb,RG],b⟩
  ·have h1:¬e.k=1:=by omega
   simp only [cF,Eq h1,IO h3] at h;cases hk:s.ks with
   |nil=>rw [hk] at h;cases h
   |cons n r=>
    rw [hk] at h;simp only at h
    split at h
    ·rename_i hne
     have hm:s.may e=true:=by
      unfold Sy.may;rw [Eq h1,IO h3];unfold Sy.ks at hk;cases hc:s.ns with
      |nil=>rw [hc] at hk;cases hk
      |cons nd ns=>rw [hc,Sc] at hk;injection hk with k1 k2;exact Q9 (k1.trans hne)
     have hp:dF s e=some (s.leaves,[]):=by unfold dF;rw [IO hm,cC s h3]
     rw [hp,cC s h3];have hl:s.leaves.ks=r:=by rw [lJ,hk];rfl
     rw [<-hl] at h;obtain ⟨a,b⟩:=ih hB' hn' _ h;exact ⟨by simp only [a,Tb,RG],b⟩
    ·cases h
end Go.Proofs.YtnljjdhodelhdaaGreatDoor
namespace Go.Proofs.YtnljjdhodelhdaaGreatDoor
open Go.RowKit
open Lw (Dc bE rt cB dq fi ik)
variable {s:Sy}{o:List Ev}
theorem jA (n:Int):oc (bN n)/\(∀e∈bN n,e.k=1->1<=e.n/\e.n<=32):=by
 unfold bN
 split
 ·exact ⟨fun e he=>by simp at he;subst he;exact .inl rfl,fun e he _=>by simp at he;subst he;exact ⟨by decide,by decide⟩⟩
 ·exact ⟨fun e he=>by simp at he,fun e he=>by simp at he⟩
theorem zj {K:List It}{n:Int}{t:Tv}{ev:List Ev}{st':lZ}(hg:gi (.live K n)) (hk:s.ks=bM K) (hp:jG t (.live K n) ev 0 st') :
  ∃o e K' n',ev=o++[e]/\st'=.live K' n'/\gi (.live K' n')/\oc o/\(∀e∈o,e.k=1->1<=e.n/\e.n<=32)/\cF s.ks o=some (bM K')/\1<=(bM K').length/\e=⟨if (t.k == 7 || t.k == 8)=true then 4 else 2,0,t⟩:=by
 obtain ⟨b1,b2,b3,b4,b5,hbot,hbn,hbe⟩:=cI hg;obtain ⟨c1,c2⟩:=jA n;have hgk:=(dL hg hp).1;cases hp with
 |note hc=>
  exact ⟨bN n,_,_,_,rfl,rfl,hgk,c1,c2,by rw [hk];exact b4,iW hbot,by rw [IO hc]⟩
 |yes hc hR hkk hm=>
  rename_i L m E kk
  obtain ⟨d1,d2,d3,o,d4,d5,d6,d7⟩:=eF hR rfl b1 b2 b3;have hn:=oJ hR rfl c2;have hL:=oL hR rfl hbot;refine ⟨E,_,_,_,rfl,rfl,hgk,?_,hn,?_,iW hL,by rw [Eq (by rw [hc];decide)]⟩
  ·rw [d4];intro e he
   rcases Rm.1 he with he|he
   ·exact c1 e he
   ·exact (d6 e he).2.1
  ·rw [d4,hk];exact (dM _ _ _ _ b4).trans d5
theorem mp (hB:oc o):∀s:Sy,(aL s o).en=s.en/\(aL s o).pt=s.pt/\(aL s o).wr=s.wr:=by
 have haw:∀(l:List Pz) (s:Sy),(s.aws l).en=s.en/\(s.aws l).pt=s.pt/\(s.aws l).wr=s.wr:=by
  intro l
  induction l with
  |nil=>intro s;exact ⟨rfl,rfl,rfl⟩
  |cons p l ih=>intro s;rw [ce];exact ih (s.aw p)
 have hex:∀s:Sy,s.exprIn.en=s.en/\s.exprIn.pt=s.pt/\s.exprIn.wr=s.wr:=by
  intro s;unfold Sy.exprIn
  split
  ·exact ⟨rfl,rfl,rfl⟩
  ·grind
 have hmk:∀(s:Sy) (k:Int),(s.mark k).en=s.en/\(s.mark k).pt=s.pt/\(s.mark k).wr=s.wr:=by
  intro s k;unfold Sy.mark;split <;> exact ⟨rfl,rfl,rfl⟩
 have hop:∀(s:Sy) (k:Int),(s.opens k).en=s.en/\(s.opens k).pt=s.pt/\(s.opens k).wr=s.wr:=by
  intro s k;unfold Sy.opens;simp only;obtain ⟨a1,a2,a3⟩:=haw (qu k) { ((if k=21 then s.exprIn else s).mark k) with ns:=⟨k,0,false⟩ :: ((if k=21 then s.exprIn else s).mark k).ns };obtain ⟨b1,b2,b3⟩:=hmk (if k=21 then s.exprIn else s) k
  have hc:(if k=21 then s.exprIn else s).en=s.en/\(if k=21 then s.exprIn else s).pt=s.pt/\(if k=21 then s.exprIn else s).wr=s.wr:=by
   split
   ·exact hex s
   ·exact ⟨rfl,rfl,rfl⟩
  exact ⟨a1.trans (b1.trans hc.1),a2.trans (b2.trans hc.2.1),a3.trans (b3.trans hc.2.2)⟩
 have hlv:∀s:Sy,s.leaves.en=s.en/\s.leaves.pt=s.pt/\s.leaves.wr=s.wr:=by
  intro s;unfold Sy.leaves;split <;> exact ⟨rfl,rfl,rfl⟩
 induction o with
 |nil=>intro s;exact ⟨rfl,rfl,rfl⟩
 |cons e o ih=>
  intro s;rw [cE];obtain ⟨a1,a2,a3⟩:=ih (fun x hx=>hB x (QZ _ hx)) (s.step e).1
  rcases hB e (QY ..) with h2|h2
  ·rw [cH s h2] at a1 a2 a3 ⊢;obtain ⟨b1,b2,b3⟩:=hop s e.n;exact ⟨a1.trans b1,a2.trans b2,a3.trans b3⟩
  ·rw [cC s h2] at a1 a2 a3 ⊢;obtain ⟨b1,b2,b3⟩:=hlv s;exact ⟨a1.trans b1,a2.trans b2,a3.trans b3⟩
theorem uA {L:List Dc}(hB:oc o):∀{s:Sy},eS L s->eS L (aL s o):=by
 induction o with
 |nil=>intro s h;exact h
 |cons e o ih=>
  intro s h;rw [cE];refine ih (fun x hx=>hB x (QZ _ hx)) ?_
  rcases hB e (QY ..) with h2|h2
  ·rw [cH s h2];exact (h.opens e.n).1
  ·rw [cC s h2];exact h.leaves.1
theorem D1 (h:s.en=true) (a:Fx) (f:Int):(s.ready a f).ws.any bH=true:=by
 have haw:∀(l:List Pz) (s:Sy),(s.aws l).en=s.en:=by
  intro l
  induction l with
  |nil=>intro s;rfl
  |cons p l ih=>intro s;rw [ce];exact ih (s.aw p)
 have hem:∀s:Sy,(s.emp f).en=s.en:=by
  intro s;unfold Sy.emp;split
  ·rfl
  ·split <;> rfl
 have he:(((s.aws a.pz).emp f).endl).ws.any bH=true:=by
  unfold Sy.endl
  split
  ·rfl
  ·rename_i hc
   have e1:((s.aws a.pz).emp f).en=true:=by rw [hem,haw,h]
   cases hb:((s.aws a.pz).emp f).ws.any bH with
   |true=>rfl
   |false=>exact absurd ⟨e1,hb⟩ hc
 unfold Sy.ready
 generalize ((s.aws a.pz).emp f).endl=u at he
 unfold Sy.part
 split
 ·show (u.ws++[dS]).any bH=true
  rw [RD,he,T7]
 ·exact he
end Go.Proofs.YtnljjdhodelhdaaGreatDoor
