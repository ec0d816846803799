import Derived.Test.YtcjiapphbpiffaaGreatDoorM09
import Derived.Test.YtcjiapphbpiffaaGreatDoorM35
set_option linter.unusedVariables false
set_option linter.unusedSimpArgs false
namespace Go.Proofs.YtcjiapphbpiffaaGreatDoor
open Go.RowKit
open Lw (Dc bE rt cG dD fu iC)
variable {s:Sy}{L l a:List Dc}{c:Cl}
def js:Int->List Dc->Option Int
 |o,[]=>some o
 |o,d :: r=>if rt d=true/\0<=o+dD d.k then js (o+dD d.k) r else none
theorem nJ:∀(a:List Dc) (o:Int) (b:List Dc),js o (a++b)=(js o a).bind (fun x=>js x b)
 |[],o,b=>rfl
 |d :: a,o,b=>by
  simp only [Tr,js]
  split
  ·exact nJ a _ b
  ·rfl
theorem EU:∀(a:List Dc) {o x:Int},0<=o->js o a=some x->0<=x
 |[],o,x,h,e=>by cases e;exact h
 |d :: a,o,x,h,e=>by
  simp only [js] at e
  split at e
  ·rename_i C;exact EU a C.2 e
  ·cases e
theorem AX:∀(l:List Dc) (o:Int) (j:Nat),js o l=some 0->cG o j l=none
 |[],o,j,h=>by cases h;rfl
 |d :: l,o,j,h=>by
  simp only [js] at h;simp only [cG]
  split at h
  ·rename_i C;rw [IO C];exact AX l _ _ h
  ·cases h
def Pt (d:Dc):Prop:=rt d=true/\dD d.k=0
theorem FH:Pt dS:=⟨rfl,rfl⟩
theorem tz:Pt dH:=⟨rfl,rfl⟩
theorem FI:Pt dE:=⟨rfl,rfl⟩
theorem tu {t:ByteArray}(h:fu t=true):Pt (dT t):=⟨by simp [rt,dT,h],rfl⟩
theorem fm {d:Dc}(hd:Pt d) (a b:List Dc) {o:Int}(C:0<=o):js o (a++d :: b)=js o (a++b):=by
 rw [nJ,nJ];cases h:js o a with
 |none=>rfl
 |some x=>
  have F:=EU a C h;show js x (d :: b)=js x b;simp only [js];rw [hd.2,IO ⟨hd.1,by omega⟩,Int.add_zero]
theorem sR {o:Int}{x:Int}(h:js o a=some x) {d:Dc}(hd:rt d=true) (C:0<=x+dD d.k):js o (a++[d])=some (x+dD d.k):=by
 rw [nJ,h];show js x [d]=_;simp only [js];rw [IO ⟨hd,C⟩]
def Pz.fine:Pz->Prop
 |.I n=>n<=4
 |_=>True
theorem K5 {p:Pz}(h:p.fine):rt p.d=true:=by
 cases p with
 |I n=>
  have C:n<=4:=h
  rcases n with _|_|_|_|_|n
  ·rfl
  ·rfl
  ·rfl
  ·rfl
  ·rfl
  ·omega
 |_=>rfl
theorem tV (a:Fx):∀p∈a.pz,p.fine:=by
 cases a <;> simp [Fx.pz,Pz.fine]
theorem Ov (p:Pz):p.d.k≠1:=by cases p <;> (intro h;exact absurd h (by show ¬(_:Int)=1;simp [Pz.d,dS,dB,dH,dI,dX]))
theorem wQ (p:Pz) (h:p≠.X):dD p.d.k=(p.n:Int):=by cases p <;> first|rfl|exact absurd rfl h
structure fi (L:List Dc) (s:Sy):Prop where
 r:js 0 (L++s.ws)=some (cU s.ns:Int)
 n:∀d∈s.ws,d.k≠1
def Sy.ks (s:Sy):List Int:=s.ns.map (·.k)
theorem QH (s:Sy) (p:Pz):(s.aw p).ks=s.ks:=by
 show (iw p s.ns).map (·.k)=s.ns.map (·.k)
 cases s.ns with
 |nil=>rfl
 |cons n r=>simp only [iw];split <;> rfl
theorem uJ (s:Sy) (l:List Pz):(s.aws l).ks=s.ks:=by
 induction l generalizing s with
 |nil=>rfl
 |cons p l ih=>rw [cj,ih,QH]
theorem fi.aw (h:fi L s) (O:s.ns≠[]) {p:Pz}(Q:p.fine):fi L (s.aw p):=by
 obtain ⟨n,r,e⟩:∃n r,s.ns=n :: r:=by cases M:s.ns with|nil=>exact absurd M O|cons n r=>exact ⟨n,r,rfl⟩
 have G:=h.r;rw [e,br] at G;refine ⟨?_,?_⟩
 ·show js 0 (L++(s.ws++jN p s.ns))=some (cU (iw p s.ns):Int)
  rw [e]
  by_cases F:p=.X
  ·subst F;have H:iw .X (n :: r)={ n with b:=n.b-1 } :: r:=rfl;rw [H,br]
   by_cases I:n.b=0
   ·have C:jN .X (n :: r)=[]:=IO ⟨rfl,I⟩;rw [C,TG,G];show some ((n.b+cU r:Nat):Int)=some ((n.b-1+cU r:Nat):Int);rw [I]
   ·have C:jN .X (n :: r)=[dX]:=Eq (fun h=>I h.2);rw [C,<-S5,sR G (d:=dX) rfl (by show 0<=_+(-1:Int);omega)];show some ((n.b+cU r:Nat)+(-1:Int))=some ((n.b-1+cU r:Nat):Int)
    congr 1;omega
  ·have C:jN p (n :: r)=[p.d]:=Eq (fun h=>F h.1);have H:iw p (n :: r)={ n with b:=n.b+p.n } :: r:=by simp only [iw];rw [Eq F]
   rw [C,H,br,<-S5,sR G (K5 Q) (by rw [wQ p F];omega),wQ p F];show some ((n.b+cU r:Nat)+(p.n:Int))=some ((n.b+p.n+cU r:Nat):Int)
   congr 1;omega
 ·intro d hd;have J:d∈s.ws++jN p s.ns:=hd
  rcases To.1 J with hd|hd
  ·exact h.n d hd
  ·unfold jN at hd
   split at hd
   ·cases hd
   ·rw [UE] at hd;rw [hd];exact Ov p
theorem fi.aws {L:List Dc}{s:Sy}(h:fi L s) (F:s.ns≠[]) (l:List Pz) (C:∀p∈l,p.fine):fi L (s.aws l):=by
 induction l generalizing s with
 |nil=>exact h
 |cons p l ih=>rw [cj];exact ih (h.aw F (C p (S4 ..))) (mY F p) (fun q G=>C q (SZ _ G))
theorem O0 (l:List Pz) (h:s.ns≠[]):(s.aws l).ns≠[]:=by
 induction l generalizing s with
 |nil=>exact h
 |cons p l ih=>rw [cj];exact ih (mY h p)
theorem fi.ins (h:fi L s) {d:Dc}(hd:Pt d) (H:d.k≠1) (a b:List Dc) (F:s.ws=a++b):fi L { s with ws:=a++d :: b }:=by
 refine ⟨?_,?_⟩
 ·show js 0 (L++(a++d :: b))=_
  rw [<-S5,fm hd _ _ (Uq 0),S5,<-F];exact h.r
 ·intro x C;have G:x∈a++d :: b:=C
  rcases To.1 G with C|C
  ·exact h.n x (by rw [F];exact We _ C)
  ·rcases Tt.1 C with rfl|C
   ·exact H
   ·exact h.n x (by rw [F];exact Ub _ C)
theorem fi.exprIn (h:fi L s):fi L s.exprIn/\s.exprIn.ks=s.ks:=by
 unfold Sy.exprIn
 split
 ·exact ⟨h,rfl⟩
 ·rename_i n r e
  have H:s.ns≠[]:=by rw [e];exact WY _ _
  have ek:s.ks=n.k :: r.map (·.k):=by unfold Sy.ks;rw [e];rfl
  refine ⟨?_,by rw [ek];rfl⟩
  by_cases C:n.k=19
  ·simp only [IO C];have F:=h.aws H [.S,.I 3] (by simp [Pz.fine])
   have I:(s.aws [.S,.I 3]).ns=⟨n.k,n.b+0+1,n.s⟩ :: r:=by
    show iw (.I 3) (iw .S s.ns)=_
    rw [e];rfl
   refine ⟨?_,F.n⟩;have:=F.r;rw [I,br] at this;show js 0 (L++(s.aws [.S,.I 3]).ws)=some (cU (⟨n.k,n.b+1,true⟩ :: r):Int);rw [br];exact this
  ·by_cases G:n.k=31/\n.s=false
   ·simp only [Eq C,IO G];have F:=h.aws H [.B0] (by simp [Pz.fine])
    have I:(s.aws [.B0]).ns=⟨n.k,n.b+0,n.s⟩ :: r:=by
     show iw .B0 s.ns=_
     rw [e];rfl
    refine ⟨?_,F.n⟩;have:=F.r;rw [I,br] at this;show js 0 (L++(s.aws [.B0]).ws)=some (cU (⟨n.k,n.b,true⟩ :: r):Int);rw [br];exact this
   ·simp only [Eq C,Eq G];refine ⟨?_,h.n⟩;have:=h.r;rw [e,br] at this;show js 0 (L++s.ws)=some (cU (⟨n.k,n.b,true⟩ :: r):Int);rw [br];exact this
theorem fi.mark (h:fi L s) (k:Int):fi L (s.mark k)/\(s.mark k).ks=s.ks:=by
 unfold Sy.mark
 split
 ·exact ⟨⟨h.r,h.n⟩,rfl⟩
 ·exact ⟨h,rfl⟩
theorem fi.opens (h:fi L s) (k:Int):fi L (s.opens k)/\(s.opens k).ks=k :: s.ks:=by
 obtain ⟨C,G⟩:∃C,(if k=21 then s.exprIn else s)=C:=⟨_,rfl⟩
 have H:fi L C/\C.ks=s.ks:=by
  rw [<-G];split
  ·exact h.exprIn
  ·exact ⟨h,rfl⟩
 obtain ⟨I,J⟩:=H.1.mark k;have e:s.opens k=Sy.aws { (C.mark k) with ns:=⟨k,0,false⟩ :: (C.mark k).ns } (qL k):=by unfold Sy.opens;simp only;rw [G]
 rw [e]
 have M:fi L { (C.mark k) with ns:=⟨k,0,false⟩ :: (C.mark k).ns }:=by
  refine ⟨?_,I.n⟩;have:=I.r;show js 0 (L++(C.mark k).ws)=some (cU (⟨k,0,false⟩ :: (C.mark k).ns):Int);rw [br,this];show some _=some ((0+cU (C.mark k).ns:Nat):Int);rw [Td]
 refine ⟨M.aws (WY _ _) _ ?_,?_⟩
 ·intro p F;unfold qL at F
  split at F
  ·simp at F;subst F;show (0:Nat)<=4;decide
  ·split at F
   ·simp at F;subst F;show (2:Nat)<=4;decide
   ·cases F
 ·rw [uJ];show k :: (C.mark k).ks=_;rw [J,H.2]
theorem vG:∀(b:Nat) {a:List Dc}{x:Nat},js 0 a=some ((b+x:Nat):Int)->js 0 (a++List.replicate b dX)=some (x:Int)
 |0,a,x,h=>by rw [List.replicate_zero,TG,h,Td]
 |b+1,a,x,h=>by
  have C:=sR h (d:=dX) rfl (by show 0<=_+(-1:Int);omega);rw [List.replicate_succ,show a++dX :: List.replicate b dX=(a++[dX])++List.replicate b dX by simp];refine vG b ?_;rw [C];show some (((b+1+x:Nat):Int)+(-1:Int))=_
  congr 1;omega
theorem fi.leaves (h:fi L s):fi L s.leaves/\s.leaves.ks=s.ks.tail:=by
 unfold Sy.leaves
 split
 ·rename_i e;exact ⟨h,by unfold Sy.ks;rw [e];rfl⟩
 ·rename_i n r e
  have G:=h.r;rw [e,br] at G;have F:=vG n.b G;refine ⟨⟨?_,?_⟩,by unfold Sy.ks;rw [e];rfl⟩
  ·show js 0 (L++(s.ws++List.replicate n.b dX++(if n.k=1 then [dH] else [])))=some (cU r:Int)
   rw [<-S5,<-S5]
   split
   ·rw [fm tz _ [] (Uq 0),TG];exact F
   ·rw [TG];exact F
  ·intro d hd;have C:d∈s.ws++List.replicate n.b dX++(if n.k=1 then [dH] else []):=hd
   rcases To.1 C with hd|hd
   ·rcases To.1 hd with hd|hd
    ·exact h.n d hd
    ·rw [List.eq_of_mem_replicate hd];decide
   ·split at hd
    ·rw [UE] at hd;rw [hd];decide
    ·cases hd
theorem fi.emp (h:fi L s) (f:Int):fi L (s.emp f):=by
 unfold Sy.emp
 split
 ·exact h
 ·split
  ·exact h
  ·rename_i m _ _;exact h.ins FI (by decide) _ _ (TR m s.ws).symm
theorem fi.endl (h:fi L s):fi L s.endl:=by
 unfold Sy.endl
 split
 ·exact h.ins tz (by decide) [] s.ws rfl
 ·exact h
theorem fi.part (h:fi L s):fi L s.part:=by
 unfold Sy.part
 split
 ·exact h.ins FH (by decide) s.ws [] (TG _).symm
 ·exact h
def oJ (l:List Dc):List ByteArray:=l.filterMap (fun d=>if d.k=1 then some d.t else none)
theorem kv (a b:List Dc):oJ (a++b)=oJ a++oJ b:=List.filterMap_append
theorem kr (h:∀d∈l,d.k≠1):oJ l=[]:=by
 unfold oJ;rw [List.filterMap_eq_nil_iff];intro d hd;rw [Eq (h d hd)]
theorem fi.leaf (h:fi L s) (C:s.ns≠[]) (t:Tv) (ht:fu t.t=true):fi (L++(s.leaf t).2) (s.leaf t).1/\oJ (s.leaf t).2=[t.t]/\(s.leaf t).1.ks=s.ks:=by
 unfold Sy.leaf
 split
 ·rename_i e;exact absurd e C
 ·rename_i n r e
  have H:fi L (s.ready (aH n t).a t.f):=((((h.aws C _ (tV _)).emp t.f).endl).part);have G:(s.ready (aH n t).a t.f).ns≠[]:=by unfold Sy.ready;rw [nQ,lg,uf];exact O0 _ C
  have F:(s.ready (aH n t).a t.f).ks=s.ks:=by unfold Sy.ready Sy.ks;rw [nQ,lg,uf];exact uJ s _
  refine ⟨?_,?_,?_⟩
  ·show fi (L++((s.ready (aH n t).a t.f).ws++[dT t.t])) (Sy.aws ⟨(s.ready (aH n t).a t.f).ns,[],none,true,false,false⟩ _)
   refine fi.aws (s:=⟨_,[],none,true,false,false⟩) ⟨?_,fun d hd=>(nomatch (show d∈([]:List Dc) from hd))⟩ G _ (tV _);show js 0 (L++((s.ready (aH n t).a t.f).ws++[dT t.t])++[])=_;rw [TG,<-S5,fm (tu ht) _ [] (Uq 0),TG];exact H.r
  ·show oJ ((s.ready (aH n t).a t.f).ws++[dT t.t])=_
   rw [kv,kr H.n];rfl
  ·show (Sy.aws ⟨(s.ready (aH n t).a t.f).ns,[],none,true,false,false⟩ _).ks=_
   rw [uJ];exact F
theorem fi.note {L:List Dc}{s:Sy}(h:fi L s) (t:Tv) (ht:fu t.t=true):fi (L++(s.note t).2) (s.note t).1/\oJ (s.note t).2=[t.t]/\(s.note t).1.ks=s.ks:=by
 have F:s.ws.takeWhile bj++s.ws.dropWhile bj=s.ws:=U6;obtain ⟨bg,H⟩:∃bg,s.ws.takeWhile bj=bg:=⟨_,rfl⟩;obtain ⟨C,hrs⟩:∃C,s.ws.dropWhile bj=C:=⟨_,rfl⟩;rw [H,hrs] at F;have G:∀d∈bg,d.k≠1:=fun d hd=>h.n d (by rw [<-F];exact We _ hd)
 have I:∀d∈C,d.k≠1:=fun d hd=>h.n d (by rw [<-F];exact Ub _ hd)
 have J:=h.r;rw [<-F] at J;unfold Sy.note;rw [H,hrs];simp only
 split
 ·refine ⟨⟨?_,I⟩,?_,rfl⟩
  ·show js 0 ((L++(bg++[dS,dT t.t]))++C)=_
   rw [show (L++(bg++[dS,dT t.t]))++C=(L++bg)++dS :: (dT t.t :: C) by simp,fm FH _ _ (Uq 0),fm (tu ht) _ _ (Uq 0),S5];exact J
  ·show oJ (bg++[dS,dT t.t])=_
   rw [kv,kr G];rfl
 ·refine ⟨⟨?_,I⟩,?_,rfl⟩
  ·show js 0 ((L++(bg++dH :: ((if _ then [dE] else [])++[dT t.t])))++C)=_
   split
   ·rw [show (L++(bg++dH :: ([dE]++[dT t.t])))++C=(L++bg)++dH :: (dE :: (dT t.t :: C)) by simp,fm tz _ _ (Uq 0),fm FI _ _ (Uq 0),fm (tu ht) _ _ (Uq 0),S5];exact J
   ·rw [show (L++(bg++dH :: ([]++[dT t.t])))++C=(L++bg)++dH :: (dT t.t :: C) by simp,fm tz _ _ (Uq 0),fm (tu ht) _ _ (Uq 0),S5];exact J
  ·show oJ (bg++dH :: ((if _ then [dE] else [])++[dT t.t]))=_
   rw [kv,kr G]
   split <;> rfl
def SM (e:Ev) (ks:List Int):List Int:=if e.k=1 then e.n :: ks else if e.k=3 then ks.tail else ks
def Oz (e:Ev):List ByteArray:=if e.k=1 then [] else if e.k=3 then [] else [e.d.t]
theorem zS {s':Sy}{e:Ev}(h:fi L s) (H:dO s e=some (s',l)):fi (L++l) s'/\oJ l=Oz e/\s'.ks=SM e s.ks:=by
 unfold dO at H
 split at H
 ·rename_i C
  have J:=TE H;obtain ⟨Q,S⟩:(s.step e).1=s'/\(s.step e).2=l:=⟨by rw [J],by rw [J]⟩;rw [<-Q,<-S];unfold Sy.may at C;unfold Sy.step Oz SM
  by_cases F:e.k=1
  ·rw [IO F,IO F,IO F];show fi (L++[]) (s.opens e.n)/\oJ []=[]/\_;rw [TG];exact ⟨(h.opens e.n).1,rfl,(h.opens e.n).2⟩
  ·rw [Eq F,Eq F,Eq F];rw [Eq F] at C
   by_cases G:e.k=3
   ·rw [IO G,IO G,IO G];show fi (L++[]) s.leaves/\oJ []=[]/\_;rw [TG];exact ⟨h.leaves.1,rfl,h.leaves.2⟩
   ·rw [Eq G,Eq G,Eq G];rw [Eq G] at C
    by_cases M:e.k=2
    ·rw [IO M] at C ⊢;rw [Tc] at C;have I:s.ns≠[]:=by intro U;rw [U] at C;exact absurd C.1 (by decide)
     exact h.leaf I e.d C.2
    ·rw [Eq M] at C ⊢
     by_cases O:e.k=4
     ·rw [IO O,Tc,Tc] at C;exact h.note e.d C.2.1
     ·rw [Eq O] at C;cases C
 ·cases H
theorem kC:fi [] sx:=⟨rfl,fun d hd=>by cases hd⟩
theorem zV (h:fi L s) (hc:iy s=some l):cG 0 0 (L++l)=none/\oJ l=[]:=by
 unfold iy at hc
 split at hc
 ·rename_i G
  cases hc;have C:=h.endl;have F:=C.r;rw [lg,G] at F;exact ⟨AX _ _ _ F,kr C.n⟩
 ·cases hc
def aL (s:Sy) (o:List Ev):Sy:=o.foldl (fun s e=>(s.step e).1) s
theorem rp (s:Sy) (a b:List Ev):aL s (a++b)=aL (aL s a) b:=List.foldl_append
theorem cI (s:Sy) (e:Ev) (b:List Ev):aL s (e :: b)=aL (s.step e).1 b:=rfl
def oA (o:List Ev):Prop:=∀e∈o,e.k=1\/e.k=3
theorem De (s:Sy):s.exprIn.ks=s.ks:=by
 unfold Sy.exprIn
 split
 ·rfl
 ·rename_i n r e
  unfold Sy.ks;rw [e];rfl
theorem KD (s:Sy) (k:Int):(s.mark k).ks=s.ks:=by unfold Sy.mark;split <;> rfl
theorem pA (s:Sy) (k:Int):(s.opens k).ks=k :: s.ks:=by
 unfold Sy.opens;simp only;rw [uJ];show k :: ((if k=21 then s.exprIn else s).mark k).ks=_;rw [KD]
 split
 ·rw [De]
 ·rfl
theorem lZ (s:Sy):s.leaves.ks=s.ks.tail:=by
 unfold Sy.leaves
 split
 ·rename_i e;unfold Sy.ks;rw [e];rfl
 ·rename_i n r e;unfold Sy.ks;rw [e];rfl
theorem O1 (s:Sy) (p:Pz):s.ws <+: (s.aw p).ws:=by rw [sa];exact List.prefix_append _ _
theorem fZ (s:Sy) (l:List Pz):s.ws <+: (s.aws l).ws:=by
 induction l generalizing s with
 |nil=>exact Ul
 |cons p l ih=>rw [cj];exact (O1 s p).trans (ih _)
theorem qk (s:Sy):s.ws <+: s.exprIn.ws:=by
 unfold Sy.exprIn
 split
 ·exact Ul
 ·rename_i n r e
  show s.ws <+: (if n.k=19 then s.aws [.S,.I 3] else if n.k=31/\n.s=false then s.aws [.B0] else s).ws
  split
  ·exact fZ _ _
  ·split
   ·exact fZ _ _
   ·exact Ul
theorem tI (s:Sy) (k:Int):(s.mark k).ws=s.ws:=by unfold Sy.mark;split <;> rfl
theorem rG (s:Sy) (k:Int):s.ws <+: (s.opens k).ws:=by
 unfold Sy.opens;simp only;refine List.IsPrefix.trans ?_ (fZ _ _);show s.ws <+: ((if k=21 then s.exprIn else s).mark k).ws;rw [tI]
 split
 ·exact qk s
 ·exact Ul
theorem iu (s:Sy):s.ws <+: s.leaves.ws:=by
 unfold Sy.leaves
 split
 ·exact Ul
 ·grind
theorem cP (s:Sy) {e:Ev}(h:e.k=1):s.step e=(s.opens e.n,[]):=by unfold Sy.step;rw [IO h]
theorem cH (s:Sy) {e:Ev}(h:e.k=3):s.step e=(s.leaves,[]):=by unfold Sy.step;rw [Eq (by omega),IO h]
theorem ro {o:List Ev}(h:oA o) (s:Sy):s.ws <+: (aL s o).ws:=by
 induction o generalizing s with
 |nil=>exact Ul
 |cons e o ih=>
  rw [cI];refine List.IsPrefix.trans ?_ (ih (fun x F=>h x (SZ _ F)) _)
  rcases h e (S4 ..) with C|C
  ·rw [cP s C];exact rG s _
  ·rw [cH s C];exact iu s
theorem ix {f:Dc->Bool}{b:List Dc}(h:a <+: b) (C:a.any f=true):b.any f=true:=by
 obtain ⟨r,rfl⟩:=h;rw [TC,C,VC]
theorem EY {r:List Int}(h:s.ks=19 :: r):(s.opens 21).ws.any bU=true:=by
 obtain ⟨n,C,e⟩:∃n C,s.ns=n :: C:=by
  cases F:s.ns with
  |nil=>unfold Sy.ks at h;rw [F] at h;cases h
  |cons n C=>exact ⟨n,C,rfl⟩
 have G:n.k=19:=by unfold Sy.ks at h;rw [e] at h;injection h
 unfold Sy.opens;simp only [Vb];refine ix (fZ _ _) ?_;show (s.exprIn.mark 21).ws.any bU=true;rw [tI];unfold Sy.exprIn;rw [e];show (if n.k=19 then s.aws [.S,.I 3] else if n.k=31/\n.s=false then s.aws [.B0] else s).ws.any bU=true;rw [IO G]
 have:s.ws++[dS] <+: (s.aws [.S,.I 3]).ws:=by
  rw [cj];exact fZ (s.aw .S) _
 refine ix this ?_;rw [TC];simp [bU,dS]
theorem rH (K:List It):aS K=(bM K).headD 0:=by
 induction K with
 |nil=>rfl
 |cons i K ih=>cases i <;> first|rfl|exact ih
structure Cl.Dyn (c:Cl) (bad:Tv->Prop):Prop where
 tB:∀n k x t,c.tB n k x=true->bad t->t.k=k->t.t=x->lP n t.k t.t=true
 nB:c.nB=true->∀t,bad t->t.k≠1/\t.k≠3/\t.k≠4/\t.k≠5
 dB:∀d,c.dB d=true->d≠.declaration/\∀t,bad t->t.k≠6
 xB:∀n m,c.xB n m=true->n=19/\m=.expr
 mB:∀m,c.mB m=false
theorem JK {t:Tv}{k:Nat}{K:List It}{n:Int}{E:List Ev}{R:Ro}{m:M}(J:m=.params\/m=.index\/m=.selection\/m=.args) (h:Ru t k (.fl (.mt m) :: K) n E R) {L:List It}{z:Int}{F:List Ev}(I:R=.yes L z F):t.k=6:=by
 have G:∀(x:ByteArray) (r:List It),It.step t (.fl (.mt m))=.go 1 [⟨1,(match M.row t m with|.op nd _=>nd|_=>0),aB⟩] (.fl (.wd 6 [x]) :: r)->t.k=6:=by
  intro x r C;cases h with
  |ref h1=>rw [C] at h1;cases h1
  |tk h1=>rw [C] at h1;cases h1
  |go h1 h2=>
   rw [C] at h1;cases h1;cases h2 with
   |ref h3=>cases I
   |tk h3=>
    simp only [It.step,Fl.step] at h3
    split at h3
    ·rename_i H;simp only [Fl.takes,Tc,TY] at H;exact H.1
    ·cases h3
   |go h3 _=>simp only [It.step,Fl.step] at h3;split at h3 <;> cases h3
 rcases J with rfl|rfl|rfl|rfl <;> exact G _ _ rfl
theorem Eh {bad:Tv->Prop}(hc:c.Dyn bad) {t:Tv}(C:bad t) {x:Fl}(ht:x.takes t=true) {n:Int}(h:x.ba c n=true):lP n t.k t.t=true:=by
 cases x with
 |wd k ts=>
  simp only [Fl.takes,Tc,TY] at ht;obtain ⟨y,F,G⟩:=Un.1 ht.2;exact hc.tB n k y t (Vu.1 h y F) C ht.1 (TI G)
 |nm=>
  have:=hc.nB h t C;simp only [Fl.takes,TY] at ht;exact absurd ht this.1
 |cs=>
  have:=hc.nB h t C;simp only [Fl.takes,Th,TY] at ht
  rcases ht with (ht|ht)|ht
  ·exact absurd ht this.2.1
  ·exact absurd ht this.2.2.1
  ·exact absurd ht this.2.2.2
 |mt m=>cases ht
theorem dyn {bad:Tv->Prop}(hc:c.Dyn bad) {t:Tv}(hb:bad t) {k:Nat}{K:List It}{n:Int}{E:List Ev}{R:Ro}(h:Ru t k K n E R):∀{L:List It}{m:Int}{F:List Ev},R=.yes L m F->j8 K->fb K->((bM K).length:Int)=n->fF c K=true->∀s:Sy,s.ks=bM K ->
  ∃o,F=E++o/\oA o/\(aL s o).ks=bM L/\((aL s o).ws.any bU=true\/lP (aS L) t.k t.t=true):=by
 induction h with
 |nil=>intro L m F h;cases h
 |ref _=>intro L m F h;cases h
 |tk hs=>
  rename_i i K n E
  intro L m F h hw hf hn G s hk;cases h
  obtain ⟨x,rfl,hx⟩:∃x,i=.fl x/\x.takes t=true:=by
   cases i with
   |fl x=>
    refine ⟨x,rfl,?_⟩;cases x with
    |mt m=>exfalso;simp only [It.step,Fl.step] at hs;cases ah:M.row t m <;> rw [ah] at hs <;> cases hs
    |_=>simp only [It.step,Fl.step] at hs;split at hs;assumption;cases hs
   |_=>cases hs
  simp only [fF,Tc] at G;exact ⟨[],by simp,fun e J=>by simp at J,hk,.inr (Eh hc hb hx G.1)⟩
 |go hs hr ih=>
  rename_i k i K n d E o r R
  intro L m F h hw hf hn G s hk;have hi:=hw i (S4 ..);obtain ⟨a1,a2,a3,a4⟩:=fQ (K:=K) hs hi;have ag:=fO a1 (fun j hj=>hw j (SZ _ hj));have ad:=sC hs hf;have af:((bM (r++K)).length:Int)=n+d:=by omega
  have ar:=G;simp only [fF,Tc,Th,UL] at G;obtain ⟨S,U⟩:=G
  have go:∀s1,(s.ws <+: s1.ws)->aL s o=s1->oA o->s1.ks=bM (r++K)->fF c (r++K)=true->∃o,F=E++o/\oA o/\(aL s o).ks=bM L/\((aL s o).ws.any bU=true\/lP (aS L) t.k t.t=true):=by
   intro s1 H e1 hB am ak;obtain ⟨o2,b1,b2,b3,b4⟩:=ih h ag ad af ak s1 am;refine ⟨o++o2,by rw [b1,S5],fun e J=>(To.1 J).elim (hB e) (b2 e),?_,?_⟩ <;> rw [rp,e1]
   ·exact b3
   ·exact b4
  have O:oA []:=fun e J=>by simp at J
  have aj:∀(I:List Fl) (K':List It),aS K'=aS K->MO c (aS K) I=true->fF c (I.map It.fl++K')=true:=by
   intro I K' e Z;cases I with
   |nil=>cases Z
   |cons x I=>
    show (x.ba c (aS (I.map It.fl++K')) && (!false || _))=true
    rw [lX (kb I),e,show x.ba c (aS K)=true from Z];rfl
  have Y:∀(p:Pk) (j:It) (K':List It),aS K'=aS K->r++K=j :: K'->o=[]->Pk.pick t p=some j->p.wf->p.ba c (aS K)=true->∃o,F=E++o/\oA o/\(aL s o).ks=bM L/\((aL s o).ws.any bU=true\/lP (aS L) t.k t.t=true):=by
   intro p j K' eK er eo H av ac;subst eo
   have ab:s.ks=bM (r++K):=by
    have:=lK (K:=K) hs hi;simp only [cJ,Tp] at this;rw [hk,this]
   cases p with
   |fn dk=>
    simp only [Pk.pick,Ts] at H;obtain ⟨mm,Q,rfl⟩:=H;obtain ⟨C,h2⟩:=hc.dB dk ac
    exfalso
    refine h2 t hb ?_;rw [er] at hr;refine JK ?_ hr h;cases dk with
    |declaration=>exact absurd rfl C
    |bracket=>simp only [Dk.pick] at Q;split at Q <;> cases Q;exact .inl rfl
    |detail=>
     simp only [Dk.pick] at Q
     split at Q
     ·cases Q;exact .inr (.inl rfl)
     ·split at Q
      ·cases Q;exact .inr (.inr (.inl rfl))
      ·split at Q <;> cases Q;exact .inr (.inr (.inr rfl))
   |row I=>
    simp only [Pk.pick] at H
    split at H
    ·cases H;refine go s Ul rfl O ab ?_;rw [er];show (MO c (aS K') I && (!false || _))=true;rw [eK,show MO c (aS K) I=true from ac];rfl
    ·cases H
   |ex mm=>
    simp only [Pk.pick] at H
    split at H
    ·cases H
    ·cases H;obtain ⟨C,rfl⟩:=hc.xB _ _ ac;rw [er] at hr;cases hr with
     |ref h3=>cases h
     |tk h3=>cases h3
     |go h3 h4=>
      rename_i k2 d2 o2 r2
      have e3:o2=[⟨1,21,aB⟩]:=by cases h3;rfl
      obtain ⟨c1,c2,c3,c4⟩:=fQ (K:=K') h3 trivial;have aq:j8 (It.fl (.mt .expr) :: K'):=by rw [<-er];exact ag
      have al:fb (It.fl (.mt .expr) :: K'):=by rw [<-er];exact ad
      have au:((bM (It.fl (.mt .expr) :: K')).length:Int)=n+d:=by rw [<-er];exact af
      obtain ⟨_,_,_,o3,b4,b5,b6,_⟩:=eM h4 h (fO c1 (fun j hj=>aq j (SZ _ hj))) (sC h3 al) (by omega);have aa:oA o3:=fun e J=>(b6 e J).2.1
      have ai:∃I,s.ks=19 :: I:=by
       have Z:aS (r++K)=19:=by rw [er];show aS K'=19;rw [eK];exact C
       rw [rH,<-ab] at Z;cases ae:s.ks with
       |nil=>rw [ae] at Z;cases Z
       |cons a b=>rw [ae] at Z;exact ⟨b,by rw [show a=19 from Z]⟩
      obtain ⟨I,ap⟩:=ai;refine ⟨⟨1,21,aB⟩ :: o3,by rw [b4,e3];simp,?_,?_,.inl ?_⟩
      ·intro e J
       rcases Tt.1 J with rfl|J
       ·exact .inl rfl
       ·exact aa e J
      ·have an:∀(o:List Ev) (s:Sy) (l:List Int),oA o->cJ s.ks o=some l->(aL s o).ks=l:=by
        intro o
        induction o with
        |nil=>intro s l _ h;cases h;rfl
        |cons e o ih=>
         intro s l hB h;rw [cI]
         rcases hB e (S4 ..) with C|C
         ·rw [cP s C];refine ih _ _ (fun x hx=>hB x (SZ _ hx)) ?_;simp only [cJ,IO C] at h;rw [pA];exact h
         ·rw [cH s C];refine ih _ _ (fun x hx=>hB x (SZ _ hx)) ?_;rw [lZ];simp only [cJ] at h;rw [Eq (by omega),IO C] at h;cases h5:s.ks with
          |nil=>rw [h5] at h;cases h
          |cons a b=>
           rw [h5] at h;simp only at h
           split at h
           ·exact h
           ·cases h
       rw [cI];refine an o3 _ _ aa ?_;rw [cP s rfl];show cJ (s.opens 21).ks o3=_;rw [pA,ab,er];have:=lK (K:=K') h3 trivial;rw [e3] at this;simp only [cJ,Vb,Tp] at this;rw [this];exact b5
      ·rw [cI,cP s rfl];exact ix (ro aa _) (EY ap)
  cases i with
  |fl x=>
   exfalso
   have Q:∃m,x=.mt m:=by
    cases x with
    |mt m=>exact ⟨m,rfl⟩
    |_=>simp only [It.step,Fl.step] at hs;split at hs <;> cases hs
   obtain ⟨m,rfl⟩:=Q;rw [show (It.fl (.mt m)).ba c (aS K)=c.mB m from rfl,hc.mB m] at S;cases S
  |lv a=>
   cases hs;refine go s.leaves (iu s) ?_ (fun e J=>by simp at J;subst J;exact .inr rfl) ?_ ?_
   ·rw [cI,cH s rfl];rfl
   ·rw [lZ,hk];rfl
   ·rcases U with C|C
    ·cases C
    ·exact C
  |once p=>
   simp only [It.step] at hs;cases H:Pk.pick t p with
   |none=>
    rw [H] at hs;cases hs;refine go s Ul rfl O hk ?_
    rcases U with C|C
    ·cases C
    ·exact C
   |some j=>
    rw [H] at hs;cases hs;exact Y p j K rfl rfl rfl H hi S
  |again p=>
   simp only [It.step] at hs;cases H:Pk.pick t p with
   |none=>
    rw [H] at hs;cases hs;refine go s Ul rfl O hk ?_
    rcases U with C|C
    ·cases C
    ·exact C
   |some j=>
    rw [H] at hs;cases hs;exact Y p j (.again p :: K) rfl rfl rfl H hi S
  |all I=>
   cases hs;refine go s Ul rfl O ?_ (aj I K rfl S);rw [hk,bO,kb];rfl
end Go.Proofs.YtcjiapphbpiffaaGreatDoor
namespace Go.Proofs.YtcjiapphbpiffaaGreatDoor
open Go.RowKit
open Lw (Dc bE rt cG dD fu iC jw A6)
theorem tJ (T:ByteArray) (i:Nat) (h:i<T.size):((jw T).getD i 0).toNat=Lx.ay T i:=by
 have C:i<T.data.size:=h
 have F:(jw T).getD i 0=T.data[i]:=by
  unfold jw;rw [UR,Pi (by simpa using C)];simp
 rw [F];unfold Lx.ay;show _=(T.data[i]!).toNat;rw [VZ T.data i C]
theorem PG {k:Nat}{T:ByteArray}(h:Lx.Tx k T):fu T=true:=by
 obtain ⟨⟨H,I⟩,⟨J,M⟩,c⟩:=Lx.I0 h;have S:=h.pos;have F:=tJ T 0 S;have G:=tJ T (T.size-1) (by omega)
 have C:∀x:UInt8,x.toNat≠32->x.toNat≠10->A6 x=false:=by
  intro x O Q;unfold A6;rw [U3];exact ⟨Tq.2 (fun e=>O (by rw [e];rfl)),Tq.2 (fun e=>Q (by rw [e];rfl))⟩
 unfold fu;rw [C _ (by rw [F];exact H) (by rw [F];exact I),C _ (by rw [G];exact J) (by rw [G];exact M),Tf c,Tf (show 1<=T.size by omega)];rfl
structure QJ (l:List Tv):Prop where
 tx:∀t∈l,∃k,Lx.Tx k t.t/\t.k=(Lx.xL k t.t:Nat)
 ln:∀(i:Nat) t u,l[i]?=some t->l[i+1]?=some u->t.k=7->1<=u.f
 fd:∀t∈l,0<=t.f
theorem QJ.tail {t:Tv}{l:List Tv}(h:QJ (t :: l)):QJ l:=⟨fun x C=>h.tx x (SZ _ C),fun i x u F G H=>h.ln (i+1) x u F G H,fun x C=>h.fd x (SZ _ C)⟩
theorem Jr (s:ByteArray) (h:(Lx.cV s).2.1=0):QJ ((Lx.cV s).1.map (Lx.tv s)):=by
 obtain ⟨G,_,H⟩:=Lx.qb s _ 0 0 (gt _) h;refine ⟨?_,?_,?_⟩
 ·intro t ht;obtain ⟨x,C,rfl⟩:=UV.1 ht;obtain ⟨k,a,b⟩:=G x C;exact ⟨k,a,by show (x.k:Int)=_;rw [b];rfl⟩
 ·intro i t u ht F I;rw [T8] at ht F;obtain ⟨x,C,rfl⟩:=Ts.1 ht;obtain ⟨y,hy,rfl⟩:=Ts.1 F;have:=H i x y C hy (by have:(x.k:Int)=7:=I;omega);show (1:Int)<=(y.f:Int);omega
 ·intro t ht;obtain ⟨x,C,rfl⟩:=UV.1 ht;show (0:Int)<=(x.f:Int);omega
theorem pb {t:Tv}{k:Nat}{K:List It}{n:Int}{E:List Ev}{R:Ro}(h:Ru t k K n E R):∀{L:List It}{m:Int}{F:List Ev},R=.yes L m F->(∀e∈E,e.k=1->1<=e.n/\e.n<=32)->∀e∈F,e.k=1->1<=e.n/\e.n<=32:=by
 induction h with
 |nil=>intro L m F h;cases h
 |ref _=>intro L m F h;cases h
 |tk hs=>intro L m F h H;cases h;exact H
 |go hs _ ih=>
  rename_i k i K n d E o r R _
  intro L m F h H;refine ih h (fun e J=>(To.1 J).elim (H e) (fun G=>?_));cases i with
  |fl x=>
   have O:∃m,x=.mt m:=by
    cases x with
    |mt m=>exact ⟨m,rfl⟩
    |_=>simp only [It.step,Fl.step] at hs;split at hs <;> cases hs
   obtain ⟨m,rfl⟩:=O;have I:=io t m;simp only [It.step,Fl.step] at hs;cases C:M.row t m with
   |ref=>rw [C] at hs;cases hs
   |ex r'=>rw [C] at hs;cases hs;simp at G
   |op nd r'=>
    rw [C] at hs I;cases hs;simp at G;subst G;intro _;have:=I.2.2.2;exact ⟨by show 1<=nd;omega,this.2⟩
  |lv a=>cases hs;simp at G;subst G;intro h;cases h
  |once p=>cases hs;simp at G
  |again p=>cases hs;simp at G
  |all r'=>cases hs;simp at G
def xJ:Sy->List Ev->Option (Sy × List Dc)
 |s,[]=>some (s,[])
 |s,e :: r=>match dO s e with
  |none=>none
  |some (s1,l)=>(xJ s1 r).map (fun x=>(x.1,l++x.2))
theorem Jy (s:Sy) (a b:List Ev) {C:Sy}{l:List Dc}(h:xJ s a=some (C,l)):xJ s (a++b)=(xJ C b).map (fun x=>(x.1,l++x.2)):=by
 induction a generalizing s l with
 |nil=>cases h;show xJ C b=_;cases xJ C b <;> simp
 |cons e a ih=>
  simp only [xJ,Tr] at h ⊢;cases F:dO s e with
  |none=>rw [F] at h;cases h
  |some x=>
   obtain ⟨H,G⟩:=x;rw [F] at h;simp only at h ⊢;obtain ⟨⟨y1,y2⟩,hy,e2⟩:=Ts.1 h;simp only [Prod.mk.injEq] at e2;obtain ⟨rfl,rfl⟩:=e2;rw [ih _ hy];cases xJ y1 b <;> simp
theorem kB {o:List Ev}(S:oA o) (Y:∀e∈o,e.k=1->1<=e.n/\e.n<=32):∀(s:Sy) {l:List Int},cJ s.ks o=some l->xJ s o=some (aL s o,[])/\(aL s o).ks=l:=by
 induction o with
 |nil=>intro s l h;cases h;exact ⟨rfl,rfl⟩
 |cons e o ih=>
  intro s l h;have G:oA o:=fun x O=>S x (SZ _ O)
  have H:∀x∈o,x.k=1->1<=x.n/\x.n<=32:=fun x O=>Y x (SZ _ O)
  rw [cI];simp only [xJ]
  rcases S e (S4 ..) with C|I
  ·have J:s.may e=true:=by
    obtain ⟨a,b⟩:=Y e (S4 ..) C;unfold Sy.may;rw [IO C,Tf a,Tf b];rfl
   have M:dO s e=some (s.opens e.n,[]):=by unfold dO;rw [IO J,cP s C]
   rw [M,cP s C];simp only [cJ,IO C] at h;rw [<-pA] at h;obtain ⟨a,b⟩:=ih G H _ h;exact ⟨by simp only [a,UM,TB],b⟩
  ·have C:¬e.k=1:=by omega
   simp only [cJ,Eq C,IO I] at h;cases F:s.ks with
   |nil=>rw [F] at h;cases h
   |cons n r=>
    rw [F] at h;simp only at h
    split at h
    ·rename_i Q
     have J:s.may e=true:=by
      unfold Sy.may;rw [Eq C,IO I];unfold Sy.ks at F;cases U:s.ns with
      |nil=>rw [U] at F;cases F
      |cons nd ns=>rw [U,T1] at F;injection F with k1 k2;exact Tf (k1.trans Q)
     have M:dO s e=some (s.leaves,[]):=by unfold dO;rw [IO J,cH s I]
     rw [M,cH s I];have Z:s.leaves.ks=r:=by rw [lZ,F];rfl
     rw [<-Z] at h;obtain ⟨a,b⟩:=ih G H _ h;exact ⟨by simp only [a,UM,TB],b⟩
    ·cases h
end Go.Proofs.YtcjiapphbpiffaaGreatDoor
namespace Go.Proofs.YtcjiapphbpiffaaGreatDoor
open Go.RowKit
open Lw (Dc bE rt cG dD fu iC)
variable {s:Sy}{o:List Ev}
theorem jL (n:Int):oA (bR n)/\(∀e∈bR n,e.k=1->1<=e.n/\e.n<=32):=by
 unfold bR
 split
 ·exact ⟨fun e C=>by simp at C;subst C;exact .inl rfl,fun e C _=>by simp at C;subst C;exact ⟨by decide,by decide⟩⟩
 ·exact ⟨fun e C=>by simp at C,fun e C=>by simp at C⟩
theorem Ak {K:List It}{n:Int}{t:Tv}{ev:List Ev}{st':qU}(J:gu (.live K n)) (M:s.ks=bM K) (O:kn t (.live K n) ev 0 st') :
  ∃o e K' Q,ev=o++[e]/\st'=.live K' Q/\gu (.live K' Q)/\oA o/\(∀e∈o,e.k=1->1<=e.n/\e.n<=32)/\cJ s.ks o=some (bM K')/\1<=(bM K').length/\e=⟨if (t.k == 7 || t.k == 8)=true then 4 else 2,0,t⟩:=by
 obtain ⟨S,U,Y,H,b5,C,ab,aa⟩:=cQ J;obtain ⟨c1,c2⟩:=jL n;have G:=(dU J O).1;cases O with
 |note hc=>
  exact ⟨bR n,_,_,_,rfl,rfl,G,c1,c2,by rw [M];exact H,jh C,by rw [IO hc]⟩
 |yes hc hR hkk hm=>
  rename_i L m E kk
  obtain ⟨d1,d2,d3,o,I,Z,d6,d7⟩:=eM hR rfl S U Y;have hn:=pb hR rfl c2;have hL:=pd hR rfl C;refine ⟨E,_,_,_,rfl,rfl,G,?_,hn,?_,jh hL,by rw [Eq (by rw [hc];decide)]⟩
  ·rw [I];intro e F
   rcases To.1 F with F|F
   ·exact c1 e F
   ·exact (d6 e F).2.1
  ·rw [I,M];exact (dV _ _ _ _ H).trans Z
theorem mN (hB:oA o):∀s:Sy,(aL s o).en=s.en/\(aL s o).pt=s.pt/\(aL s o).wr=s.wr:=by
 have Q:∀(l:List Pz) (s:Sy),(s.aws l).en=s.en/\(s.aws l).pt=s.pt/\(s.aws l).wr=s.wr:=by
  intro l
  induction l with
  |nil=>intro s;exact ⟨rfl,rfl,rfl⟩
  |cons p l ih=>intro s;rw [cj];exact ih (s.aw p)
 have S:∀s:Sy,s.exprIn.en=s.en/\s.exprIn.pt=s.pt/\s.exprIn.wr=s.wr:=by
  intro s;unfold Sy.exprIn
  split
  ·exact ⟨rfl,rfl,rfl⟩
  ·grind
 have Y:∀(s:Sy) (k:Int),(s.mark k).en=s.en/\(s.mark k).pt=s.pt/\(s.mark k).wr=s.wr:=by
  intro s k;unfold Sy.mark;split <;> exact ⟨rfl,rfl,rfl⟩
 have Z:∀(s:Sy) (k:Int),(s.opens k).en=s.en/\(s.opens k).pt=s.pt/\(s.opens k).wr=s.wr:=by
  intro s k;unfold Sy.opens;simp only;obtain ⟨C,F,G⟩:=Q (qL k) { ((if k=21 then s.exprIn else s).mark k) with ns:=⟨k,0,false⟩ :: ((if k=21 then s.exprIn else s).mark k).ns };obtain ⟨H,I,J⟩:=Y (if k=21 then s.exprIn else s) k
  have O:(if k=21 then s.exprIn else s).en=s.en/\(if k=21 then s.exprIn else s).pt=s.pt/\(if k=21 then s.exprIn else s).wr=s.wr:=by
   split
   ·exact S s
   ·exact ⟨rfl,rfl,rfl⟩
  exact ⟨C.trans (H.trans O.1),F.trans (I.trans O.2.1),G.trans (J.trans O.2.2)⟩
 have U:∀s:Sy,s.leaves.en=s.en/\s.leaves.pt=s.pt/\s.leaves.wr=s.wr:=by
  intro s;unfold Sy.leaves;split <;> exact ⟨rfl,rfl,rfl⟩
 induction o with
 |nil=>intro s;exact ⟨rfl,rfl,rfl⟩
 |cons e o ih=>
  intro s;rw [cI];obtain ⟨C,F,G⟩:=ih (fun x hx=>hB x (SZ _ hx)) (s.step e).1
  rcases hB e (S4 ..) with M|M
  ·rw [cP s M] at C F G ⊢;obtain ⟨H,I,J⟩:=Z s e.n;exact ⟨C.trans H,F.trans I,G.trans J⟩
  ·rw [cH s M] at C F G ⊢;obtain ⟨H,I,J⟩:=U s;exact ⟨C.trans H,F.trans I,G.trans J⟩
theorem vt {L:List Dc}(F:oA o):∀{s:Sy},fi L s->fi L (aL s o):=by
 induction o with
 |nil=>intro s h;exact h
 |cons e o ih=>
  intro s h;rw [cI];refine ih (fun x G=>F x (SZ _ G)) ?_
  rcases F e (S4 ..) with C|C
  ·rw [cP s C];exact (h.opens e.n).1
  ·rw [cH s C];exact h.leaves.1
theorem E4 (h:s.en=true) (a:Fx) (f:Int):(s.ready a f).ws.any bI=true:=by
 have F:∀(l:List Pz) (s:Sy),(s.aws l).en=s.en:=by
  intro l
  induction l with
  |nil=>intro s;rfl
  |cons p l ih=>intro s;rw [cj];exact ih (s.aw p)
 have G:∀s:Sy,(s.emp f).en=s.en:=by
  intro s;unfold Sy.emp;split
  ·rfl
  ·split <;> rfl
 have C:(((s.aws a.pz).emp f).endl).ws.any bI=true:=by
  unfold Sy.endl
  split
  ·rfl
  ·rename_i J
   have H:((s.aws a.pz).emp f).en=true:=by rw [G,F,h]
   cases I:((s.aws a.pz).emp f).ws.any bI with
   |true=>rfl
   |false=>exact absurd ⟨H,I⟩ J
 unfold Sy.ready
 generalize ((s.aws a.pz).emp f).endl=u at C
 unfold Sy.part
 split
 ·show (u.ws++[dS]).any bI=true
  rw [TC,C,VC]
 ·exact C
end Go.Proofs.YtcjiapphbpiffaaGreatDoor
