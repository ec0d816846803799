import Derived.Test.YtpdlohfdjiaegaaGreatDoorM33
set_option linter.unusedVariables false
set_option linter.unusedSimpArgs false
namespace Go.Proofs.YtpdlohfdjiaegaaGreatDoor
open Go.RowKit
open Lw (Dc bE rt frm dep rtT rtN)
variable {s:Sy}{L l a:List Dc}{c:Cl}
def rnD:Int->List Dc->Option Int
 |o,[]=>some o
 |o,d :: r=>if rt d=true/\0<=o+dep d.k then rnD (o+dep d.k) r else none
theorem iQ:∀(a:List Dc) (o:Int) (b:List Dc),rnD o (a++b)=(rnD o a).bind (fun x=>rnD x b)
 |[],o,b=>rfl
 |d :: a,o,b=>by
  simp only [List.cons_append,rnD]
  split
  ·exact iQ a _ b
  ·rfl
theorem uG:∀(a:List Dc) {o x:Int},0<=o->rnD o a=some x->0<=x
 |[],o,x,h,e=>by cases e;exact h
 |d :: a,o,x,h,e=>by
  simp only [rnD] at e
  split at e
  ·rename_i hc;exact uG a hc.2 e
  ·cases e
theorem qV:∀(l:List Dc) (o:Int) (j:Nat),rnD o l=some 0->frm o j l=none
 |[],o,j,h=>by cases h;rfl
 |d :: l,o,j,h=>by
  simp only [rnD] at h;simp only [frm]
  split at h
  ·rename_i hc;rw [if_pos hc];exact qV l _ _ h
  ·cases h
def Ntr (d:Dc):Prop:=rt d=true/\dep d.k=0
theorem vm:Ntr dS:=⟨rfl,rfl⟩
theorem lO:Ntr dH:=⟨rfl,rfl⟩
theorem vo:Ntr dE:=⟨rfl,rfl⟩
theorem lM {t:ByteArray}(h:rtT t=true):Ntr (dT t):=⟨by simp [rt,dT,h],rfl⟩
theorem cV {d:Dc}(hd:Ntr d) (a b:List Dc) {o:Int}(ho:0<=o):rnD o (a++d :: b)=rnD o (a++b):=by
 rw [iQ,iQ];cases h:rnD o a with
 |none=>rfl
 |some x=>
  have hx:=uG a ho h;show rnD x (d :: b)=rnD x b;simp only [rnD];rw [hd.2,if_pos ⟨hd.1,by omega⟩,Int.add_zero]
theorem ly {o:Int}{x:Int}(h:rnD o a=some x) {d:Dc}(hd:rt d=true) (h0:0<=x+dep d.k):rnD o (a++[d])=some (x+dep d.k):=by
 rw [iQ,h];show rnD x [d]=_;simp only [rnD];rw [if_pos ⟨hd,h0⟩]
def Pz.fine:Pz->Prop
 |.I n=>n<=4
 |_=>True
theorem yP {p:Pz}(h:p.fine):rt p.d=true:=by
 cases p with
 |I n=>
  have h4:n<=4:=h
  rcases n with _|_|_|_|_|n
  ·rfl
  ·rfl
  ·rfl
  ·rfl
  ·rfl
  ·omega
 |_=>rfl
theorem lW (a:Fx):∀p∈a.pz,p.fine:=by
 cases a <;> simp [Fx.pz,Pz.fine]
theorem A7 (p:Pz):p.d.k≠1:=by cases p <;> (intro h;exact absurd h (by show ¬(_:Int)=1;simp [Pz.d,dS,dB,dH,dI,dX]))
theorem nX (p:Pz) (h:p≠.X):dep p.d.k=(p.n:Int):=by cases p <;> first|rfl|exact absurd rfl h
structure Snd (L:List Dc) (s:Sy):Prop where
 r:rnD 0 (L++s.ws)=some (bP s.ns:Int)
 n:∀d∈s.ws,d.k≠1
def Sy.ks (s:Sy):List Int:=s.ns.map (·.k)
theorem Cx (s:Sy) (p:Pz):(s.aw p).ks=s.ks:=by
 show (awN p s.ns).map (·.k)=s.ns.map (·.k)
 cases s.ns with
 |nil=>rfl
 |cons n r=>simp only [awN];split <;> rfl
theorem mC (s:Sy) (l:List Pz):(s.aws l).ks=s.ks:=by
 induction l generalizing s with
 |nil=>rfl
 |cons p l ih=>rw [bA,ih,Cx]
theorem Snd.aw (h:Snd L s) (hn:s.ns≠[]) {p:Pz}(hp:p.fine):Snd L (s.aw p):=by
 obtain ⟨n,r,e⟩:∃n r,s.ns=n :: r:=by cases h1:s.ns with|nil=>exact absurd h1 hn|cons n r=>exact ⟨n,r,rfl⟩
 have hr:=h.r;rw [e,aN] at hr;refine ⟨?_,?_⟩
 ·show rnD 0 (L++(s.ws++awW p s.ns))=some (bP (awN p s.ns):Int)
  rw [e]
  by_cases hX:p=.X
  ·subst hX;have e2:awN .X (n :: r)={ n with b:=n.b-1 } :: r:=rfl;rw [e2,aN]
   by_cases hb:n.b=0
   ·have e1:awW .X (n :: r)=[]:=if_pos ⟨rfl,hb⟩;rw [e1,List.append_nil,hr];show some ((n.b+bP r:Nat):Int)=some ((n.b-1+bP r:Nat):Int);rw [hb]
   ·have e1:awW .X (n :: r)=[dX]:=if_neg (fun h=>hb h.2);rw [e1,<-List.append_assoc,ly hr (d:=dX) rfl (by show 0<=_+(-1:Int);omega)];show some ((n.b+bP r:Nat)+(-1:Int))=some ((n.b-1+bP r:Nat):Int)
    congr 1;omega
  ·have e1:awW p (n :: r)=[p.d]:=if_neg (fun h=>hX h.1);have e2:awN p (n :: r)={ n with b:=n.b+p.n } :: r:=by simp only [awN];rw [if_neg hX]
   rw [e1,e2,aN,<-List.append_assoc,ly hr (yP hp) (by rw [nX p hX];omega),nX p hX];show some ((n.b+bP r:Nat)+(p.n:Int))=some ((n.b+p.n+bP r:Nat):Int)
   congr 1;omega
 ·intro d hd;have hd':d∈s.ws++awW p s.ns:=hd
  rcases List.mem_append.1 hd' with hd|hd
  ·exact h.n d hd
  ·unfold awW at hd
   split at hd
   ·cases hd
   ·rw [List.mem_singleton] at hd;rw [hd];exact A7 p
theorem Snd.aws {L:List Dc}{s:Sy}(h:Snd L s) (hn:s.ns≠[]) (l:List Pz) (hl:∀p∈l,p.fine):Snd L (s.aws l):=by
 induction l generalizing s with
 |nil=>exact h
 |cons p l ih=>rw [bA];exact ih (h.aw hn (hl p (List.mem_cons_self ..))) (iH hn p) (fun q hq=>hl q (List.mem_cons_of_mem _ hq))
theorem BB (l:List Pz) (h:s.ns≠[]):(s.aws l).ns≠[]:=by
 induction l generalizing s with
 |nil=>exact h
 |cons p l ih=>rw [bA];exact ih (iH h p)
theorem Snd.ins (h:Snd L s) {d:Dc}(hd:Ntr d) (h1:d.k≠1) (a b:List Dc) (hab:s.ws=a++b):Snd L { s with ws:=a++d :: b }:=by
 refine ⟨?_,?_⟩
 ·show rnD 0 (L++(a++d :: b))=_
  rw [<-List.append_assoc,cV hd _ _ (Int.le_refl 0),List.append_assoc,<-hab];exact h.r
 ·intro x hx;have hx':x∈a++d :: b:=hx
  rcases List.mem_append.1 hx' with hx|hx
  ·exact h.n x (by rw [hab];exact List.mem_append_left _ hx)
  ·rcases List.mem_cons.1 hx with rfl|hx
   ·exact h1
   ·exact h.n x (by rw [hab];exact List.mem_append_right _ hx)
theorem Snd.exprIn (h:Snd L s):Snd L s.exprIn/\s.exprIn.ks=s.ks:=by
 unfold Sy.exprIn
 split
 ·exact ⟨h,rfl⟩
 ·rename_i n r e
  have hne:s.ns≠[]:=by rw [e];exact List.cons_ne_nil _ _
  have ek:s.ks=n.k :: r.map (·.k):=by unfold Sy.ks;rw [e];rfl
  refine ⟨?_,by rw [ek];rfl⟩
  by_cases h19:n.k=19
  ·simp only [if_pos h19];have h2:=h.aws hne [.S,.I 3] (by simp [Pz.fine])
   have e2:(s.aws [.S,.I 3]).ns=⟨n.k,n.b+0+1,n.s⟩ :: r:=by
    show awN (.I 3) (awN .S s.ns)=_
    rw [e];rfl
   refine ⟨?_,h2.n⟩;have:=h2.r;rw [e2,aN] at this;show rnD 0 (L++(s.aws [.S,.I 3]).ws)=some (bP (⟨n.k,n.b+1,true⟩ :: r):Int);rw [aN];exact this
  ·by_cases h31:n.k=31/\n.s=false
   ·simp only [if_neg h19,if_pos h31];have h2:=h.aws hne [.B0] (by simp [Pz.fine])
    have e2:(s.aws [.B0]).ns=⟨n.k,n.b+0,n.s⟩ :: r:=by
     show awN .B0 s.ns=_
     rw [e];rfl
    refine ⟨?_,h2.n⟩;have:=h2.r;rw [e2,aN] at this;show rnD 0 (L++(s.aws [.B0]).ws)=some (bP (⟨n.k,n.b,true⟩ :: r):Int);rw [aN];exact this
   ·simp only [if_neg h19,if_neg h31];refine ⟨?_,h.n⟩;have:=h.r;rw [e,aN] at this;show rnD 0 (L++s.ws)=some (bP (⟨n.k,n.b,true⟩ :: r):Int);rw [aN];exact this
theorem Snd.mark (h:Snd L s) (k:Int):Snd L (s.mark k)/\(s.mark k).ks=s.ks:=by
 unfold Sy.mark
 split
 ·exact ⟨⟨h.r,h.n⟩,rfl⟩
 ·exact ⟨h,rfl⟩
theorem Snd.opens (h:Snd L s) (k:Int):Snd L (s.opens k)/\(s.opens k).ks=k :: s.ks:=by
 obtain ⟨s1,hs1⟩:∃s1,(if k=21 then s.exprIn else s)=s1:=⟨_,rfl⟩
 have h1:Snd L s1/\s1.ks=s.ks:=by
  rw [<-hs1];split
  ·exact h.exprIn
  ·exact ⟨h,rfl⟩
 obtain ⟨h2,h3⟩:=h1.1.mark k;have e:s.opens k=Sy.aws { (s1.mark k) with ns:=⟨k,0,false⟩ :: (s1.mark k).ns } (opP k):=by unfold Sy.opens;simp only;rw [hs1]
 rw [e]
 have h4:Snd L { (s1.mark k) with ns:=⟨k,0,false⟩ :: (s1.mark k).ns }:=by
  refine ⟨?_,h2.n⟩;have:=h2.r;show rnD 0 (L++(s1.mark k).ws)=some (bP (⟨k,0,false⟩ :: (s1.mark k).ns):Int);rw [aN,this];show some _=some ((0+bP (s1.mark k).ns:Nat):Int);rw [Nat.zero_add]
 refine ⟨h4.aws (List.cons_ne_nil _ _) _ ?_,?_⟩
 ·intro p hp;unfold opP at hp
  split at hp
  ·simp at hp;subst hp;show (0:Nat)<=4;decide
  ·split at hp
   ·simp at hp;subst hp;show (2:Nat)<=4;decide
   ·cases hp
 ·rw [mC];show k :: (s1.mark k).ks=_;rw [h3,h1.2]
theorem mY:∀(b:Nat) {a:List Dc}{x:Nat},rnD 0 a=some ((b+x:Nat):Int)->rnD 0 (a++List.replicate b dX)=some (x:Int)
 |0,a,x,h=>by rw [List.replicate_zero,List.append_nil,h,Nat.zero_add]
 |b+1,a,x,h=>by
  have h1:=ly h (d:=dX) rfl (by show 0<=_+(-1:Int);omega);rw [List.replicate_succ,show a++dX :: List.replicate b dX=(a++[dX])++List.replicate b dX by simp];refine mY b ?_;rw [h1];show some (((b+1+x:Nat):Int)+(-1:Int))=_
  congr 1;omega
theorem Snd.leaves (h:Snd L s):Snd L s.leaves/\s.leaves.ks=s.ks.tail:=by
 unfold Sy.leaves
 split
 ·rename_i e;exact ⟨h,by unfold Sy.ks;rw [e];rfl⟩
 ·rename_i n r e
  have hr:=h.r;rw [e,aN] at hr;have h1:=mY n.b hr;refine ⟨⟨?_,?_⟩,by unfold Sy.ks;rw [e];rfl⟩
  ·show rnD 0 (L++(s.ws++List.replicate n.b dX++(if n.k=1 then [dH] else [])))=some (bP r:Int)
   rw [<-List.append_assoc,<-List.append_assoc]
   split
   ·rw [cV lO _ [] (Int.le_refl 0),List.append_nil];exact h1
   ·rw [List.append_nil];exact h1
  ·intro d hd;have hd':d∈s.ws++List.replicate n.b dX++(if n.k=1 then [dH] else []):=hd
   rcases List.mem_append.1 hd' with hd|hd
   ·rcases List.mem_append.1 hd with hd|hd
    ·exact h.n d hd
    ·rw [List.eq_of_mem_replicate hd];decide
   ·split at hd
    ·rw [List.mem_singleton] at hd;rw [hd];decide
    ·cases hd
theorem Snd.emp (h:Snd L s) (f:Int):Snd L (s.emp f):=by
 unfold Sy.emp
 split
 ·exact h
 ·split
  ·exact h
  ·rename_i m _ _;exact h.ins vo (by decide) _ _ (List.take_append_drop m s.ws).symm
theorem Snd.endl (h:Snd L s):Snd L s.endl:=by
 unfold Sy.endl
 split
 ·exact h.ins lO (by decide) [] s.ws rfl
 ·exact h
theorem Snd.part (h:Snd L s):Snd L s.part:=by
 unfold Sy.part
 split
 ·exact h.ins vm (by decide) s.ws [] (List.append_nil _).symm
 ·exact h
def txs (l:List Dc):List ByteArray:=l.filterMap (fun d=>if d.k=1 then some d.t else none)
theorem gj (a b:List Dc):txs (a++b)=txs a++txs b:=List.filterMap_append
theorem gi (h:∀d∈l,d.k≠1):txs l=[]:=by
 unfold txs;rw [List.filterMap_eq_nil_iff];intro d hd;rw [if_neg (h d hd)]
theorem Snd.leaf (h:Snd L s) (hn:s.ns≠[]) (t:Tv) (ht:rtT t.t=true):Snd (L++(s.leaf t).2) (s.leaf t).1/\txs (s.leaf t).2=[t.t]/\(s.leaf t).1.ks=s.ks:=by
 unfold Sy.leaf
 split
 ·rename_i e;exact absurd e hn
 ·rename_i n r e
  have h1:Snd L (s.ready (au n t).a t.f):=((((h.aws hn _ (lW _)).emp t.f).endl).part);have hne:(s.ready (au n t).a t.f).ns≠[]:=by unfold Sy.ready;rw [iT,gI,l9];exact BB _ hn
  have hks:(s.ready (au n t).a t.f).ks=s.ks:=by unfold Sy.ready Sy.ks;rw [iT,gI,l9];exact mC s _
  refine ⟨?_,?_,?_⟩
  ·show Snd (L++((s.ready (au n t).a t.f).ws++[dT t.t])) (Sy.aws ⟨(s.ready (au n t).a t.f).ns,[],none,true,false,false⟩ _)
   refine Snd.aws (s:=⟨_,[],none,true,false,false⟩) ⟨?_,fun d hd=>(nomatch (show d∈([]:List Dc) from hd))⟩ hne _ (lW _);show rnD 0 (L++((s.ready (au n t).a t.f).ws++[dT t.t])++[])=_;rw [List.append_nil,<-List.append_assoc,cV (lM ht) _ [] (Int.le_refl 0),List.append_nil];exact h1.r
  ·show txs ((s.ready (au n t).a t.f).ws++[dT t.t])=_
   rw [gj,gi h1.n];rfl
  ·show (Sy.aws ⟨(s.ready (au n t).a t.f).ns,[],none,true,false,false⟩ _).ks=_
   rw [mC];exact hks
theorem Snd.note (h:Snd L s) (t:Tv) (ht:rtT t.t=true):Snd (L++(s.note t).2) (s.note t).1/\txs (s.note t).2=[t.t]/\(s.note t).1.ks=s.ks:=by
 have hsp:s.ws.takeWhile aK++s.ws.dropWhile aK=s.ws:=List.takeWhile_append_dropWhile;obtain ⟨bg,hbg⟩:∃bg,s.ws.takeWhile aK=bg:=⟨_,rfl⟩;obtain ⟨rs,hrs⟩:∃rs,s.ws.dropWhile aK=rs:=⟨_,rfl⟩;rw [hbg,hrs] at hsp;have hb1:∀d∈bg,d.k≠1:=fun d hd=>h.n d (by rw [<-hsp];exact List.mem_append_left _ hd)
 have hr1:∀d∈rs,d.k≠1:=fun d hd=>h.n d (by rw [<-hsp];exact List.mem_append_right _ hd)
 have h0:=h.r;rw [<-hsp] at h0;unfold Sy.note;rw [hbg,hrs];simp only
 split
 ·refine ⟨⟨?_,hr1⟩,?_,rfl⟩
  ·show rnD 0 ((L++(bg++[dS,dT t.t]))++rs)=_
   rw [show (L++(bg++[dS,dT t.t]))++rs=(L++bg)++dS :: (dT t.t :: rs) by simp,cV vm _ _ (Int.le_refl 0),cV (lM ht) _ _ (Int.le_refl 0),List.append_assoc];exact h0
  ·show txs (bg++[dS,dT t.t])=_
   rw [gj,gi hb1];rfl
 ·refine ⟨⟨?_,hr1⟩,?_,rfl⟩
  ·show rnD 0 ((L++(bg++dH :: ((if _ then [dE] else [])++[dT t.t])))++rs)=_
   split
   ·rw [show (L++(bg++dH :: ([dE]++[dT t.t])))++rs=(L++bg)++dH :: (dE :: (dT t.t :: rs)) by simp,cV lO _ _ (Int.le_refl 0),cV vo _ _ (Int.le_refl 0),cV (lM ht) _ _ (Int.le_refl 0),List.append_assoc];exact h0
   ·rw [show (L++(bg++dH :: ([]++[dT t.t])))++rs=(L++bg)++dH :: (dT t.t :: rs) by simp,cV lO _ _ (Int.le_refl 0),cV (lM ht) _ _ (Int.le_refl 0),List.append_assoc];exact h0
  ·show txs (bg++dH :: ((if _ then [dE] else [])++[dT t.t]))=_
   rw [gj,gi hb1]
   split <;> rfl
def evK (e:Ev) (ks:List Int):List Int:=if e.k=1 then e.n :: ks else if e.k=3 then ks.tail else ks
def evT (e:Ev):List ByteArray:=if e.k=1 then [] else if e.k=3 then [] else [e.d.t]
theorem qj {s':Sy}{e:Ev}(h:Snd L s) (hp:cd s e=some (s',l)):Snd (L++l) s'/\txs l=evT e/\s'.ks=evK e s.ks:=by
 unfold cd at hp
 split at hp
 ·rename_i hm
  have h':=Option.some.inj hp;obtain ⟨e1,e2⟩:(s.step e).1=s'/\(s.step e).2=l:=⟨by rw [h'],by rw [h']⟩;rw [<-e1,<-e2];unfold Sy.may at hm;unfold Sy.step evT evK
  by_cases h1:e.k=1
  ·rw [if_pos h1,if_pos h1,if_pos h1];show Snd (L++[]) (s.opens e.n)/\txs []=[]/\_;rw [List.append_nil];exact ⟨(h.opens e.n).1,rfl,(h.opens e.n).2⟩
  ·rw [if_neg h1,if_neg h1,if_neg h1];rw [if_neg h1] at hm
   by_cases h3:e.k=3
   ·rw [if_pos h3,if_pos h3,if_pos h3];show Snd (L++[]) s.leaves/\txs []=[]/\_;rw [List.append_nil];exact ⟨h.leaves.1,rfl,h.leaves.2⟩
   ·rw [if_neg h3,if_neg h3,if_neg h3];rw [if_neg h3] at hm
    by_cases h2:e.k=2
    ·rw [if_pos h2] at hm ⊢;rw [Bool.and_eq_true] at hm;have hne:s.ns≠[]:=by intro hh;rw [hh] at hm;exact absurd hm.1 (by decide)
     exact h.leaf hne e.d hm.2
    ·rw [if_neg h2] at hm ⊢
     by_cases h4:e.k=4
     ·rw [if_pos h4,Bool.and_eq_true,Bool.and_eq_true] at hm;exact h.note e.d hm.2.1
     ·rw [if_neg h4] at hm;cases hm
 ·cases hp
theorem iN:Snd [] sy0:=⟨rfl,fun d hd=>by cases hd⟩
theorem qk (h:Snd L s) (hc:eh s=some l):frm 0 0 (L++l)=none/\txs l=[]:=by
 unfold eh at hc
 split at hc
 ·rename_i hn
  cases hc;have h1:=h.endl;have h2:=h1.r;rw [gI,hn] at h2;exact ⟨qV _ _ _ h2,gi h1.n⟩
 ·cases hc
def az (s:Sy) (o:List Ev):Sy:=o.foldl (fun s e=>(s.step e).1) s
theorem kC (s:Sy) (a b:List Ev):az s (a++b)=az (az s a) b:=List.foldl_append
theorem bM (s:Sy) (e:Ev) (b:List Ev):az s (e :: b)=az (s.step e).1 b:=rfl
def Brk (o:List Ev):Prop:=∀e∈o,e.k=1\/e.k=3
theorem th (s:Sy):s.exprIn.ks=s.ks:=by
 unfold Sy.exprIn
 split
 ·rfl
 ·rename_i n r e
  unfold Sy.ks;rw [e];rfl
theorem yx (s:Sy) (k:Int):(s.mark k).ks=s.ks:=by unfold Sy.mark;split <;> rfl
theorem jE (s:Sy) (k:Int):(s.opens k).ks=k :: s.ks:=by
 unfold Sy.opens;simp only;rw [mC];show k :: ((if k=21 then s.exprIn else s).mark k).ks=_;rw [yx]
 split
 ·rw [th]
 ·rfl
theorem im (s:Sy):s.leaves.ks=s.ks.tail:=by
 unfold Sy.leaves
 split
 ·rename_i e;unfold Sy.ks;rw [e];rfl
 ·rename_i n r e;unfold Sy.ks;rw [e];rfl
theorem BC (s:Sy) (p:Pz):s.ws <+: (s.aw p).ws:=by rw [kV];exact List.prefix_append _ _
theorem dG (s:Sy) (l:List Pz):s.ws <+: (s.aws l).ws:=by
 induction l generalizing s with
 |nil=>exact List.prefix_rfl
 |cons p l ih=>rw [bA];exact (BC s p).trans (ih _)
theorem jX (s:Sy):s.ws <+: s.exprIn.ws:=by
 unfold Sy.exprIn
 split
 ·exact List.prefix_rfl
 ·rename_i n r e
  show s.ws <+: (if n.k=19 then s.aws [.S,.I 3] else if n.k=31/\n.s=false then s.aws [.B0] else s).ws
  split
  ·exact dG _ _
  ·split
   ·exact dG _ _
   ·exact List.prefix_rfl
theorem lQ (s:Sy) (k:Int):(s.mark k).ws=s.ws:=by unfold Sy.mark;split <;> rfl
theorem kJ (s:Sy) (k:Int):s.ws <+: (s.opens k).ws:=by
 unfold Sy.opens;simp only;refine List.IsPrefix.trans ?_ (dG _ _);show s.ws <+: ((if k=21 then s.exprIn else s).mark k).ws;rw [lQ]
 split
 ·exact jX s
 ·exact List.prefix_rfl
theorem eO (s:Sy):s.ws <+: s.leaves.ws:=by
 unfold Sy.leaves
 split
 ·exact List.prefix_rfl
 ·show s.ws <+: s.ws++_++_
  rw [List.append_assoc];exact List.prefix_append _ _
theorem bO (s:Sy) {e:Ev}(h:e.k=1):s.step e=(s.opens e.n,[]):=by unfold Sy.step;rw [if_pos h]
theorem bK (s:Sy) {e:Ev}(h:e.k=3):s.step e=(s.leaves,[]):=by unfold Sy.step;rw [if_neg (by omega),if_pos h]
theorem kB {o:List Ev}(h:Brk o) (s:Sy):s.ws <+: (az s o).ws:=by
 induction o generalizing s with
 |nil=>exact List.prefix_rfl
 |cons e o ih=>
  rw [bM];refine List.IsPrefix.trans ?_ (ih (fun x hx=>h x (List.mem_cons_of_mem _ hx)) _)
  rcases h e (List.mem_cons_self ..) with h1|h1
  ·rw [bO s h1];exact kJ s _
  ·rw [bK s h1];exact eO s
theorem eS {f:Dc->Bool}{b:List Dc}(h:a <+: b) (ha:a.any f=true):b.any f=true:=by
 obtain ⟨r,rfl⟩:=h;rw [List.any_append,ha,Bool.true_or]
theorem uH {r:List Int}(h:s.ks=19 :: r):(s.opens 21).ws.any bm=true:=by
 obtain ⟨n,ns,e⟩:∃n ns,s.ns=n :: ns:=by
  cases h1:s.ns with
  |nil=>unfold Sy.ks at h;rw [h1] at h;cases h
  |cons n ns=>exact ⟨n,ns,rfl⟩
 have hk:n.k=19:=by unfold Sy.ks at h;rw [e] at h;injection h
 unfold Sy.opens;simp only [if_true];refine eS (dG _ _) ?_;show (s.exprIn.mark 21).ws.any bm=true;rw [lQ];unfold Sy.exprIn;rw [e];show (if n.k=19 then s.aws [.S,.I 3] else if n.k=31/\n.s=false then s.aws [.B0] else s).ws.any bm=true;rw [if_pos hk]
 have:s.ws++[dS] <+: (s.aws [.S,.I 3]).ws:=by
  rw [bA];exact dG (s.aw .S) _
 refine eS this ?_;rw [List.any_append];simp [bm,dS]
theorem kK (K:List It):aE K=(lvs K).headD 0:=by
 induction K with
 |nil=>rfl
 |cons i K ih=>cases i <;> first|rfl|exact ih
structure Cl.Dyn (c:Cl) (bad:Tv->Prop):Prop where
 tB:∀n k x t,c.tB n k x=true->bad t->t.k=k->t.t=x->g9 n t.k t.t=true
 nB:c.nB=true->∀t,bad t->t.k≠1/\t.k≠3/\t.k≠4/\t.k≠5
 dB:∀d,c.dB d=true->d≠.declaration/\∀t,bad t->t.k≠6
 xB:∀n m,c.xB n m=true->n=19/\m=.expr
 mB:∀m,c.mB m=false
theorem xN {t:Tv}{k:Nat}{K:List It}{n:Int}{E:List Ev}{R:Ro}{m:M}(hm:m=.params\/m=.index\/m=.selection\/m=.args) (h:Ru t k (.fl (.mt m) :: K) n E R) {L:List It}{z:Int}{F:List Ev}(hR:R=.yes L z F):t.k=6:=by
 have key:∀(x:ByteArray) (r:List It),It.step t (.fl (.mt m))=.go 1 [⟨1,(match M.row t m with|.op nd _=>nd|_=>0),tv0⟩] (.fl (.wd 6 [x]) :: r)->t.k=6:=by
  intro x r hs;cases h with
  |ref h1=>rw [hs] at h1;cases h1
  |tk h1=>rw [hs] at h1;cases h1
  |go h1 h2=>
   rw [hs] at h1;cases h1;cases h2 with
   |ref h3=>cases hR
   |tk h3=>
    simp only [It.step,Fl.step] at h3
    split at h3
    ·rename_i h4;simp only [Fl.takes,Bool.and_eq_true,beq_iff_eq] at h4;exact h4.1
    ·cases h3
   |go h3 _=>simp only [It.step,Fl.step] at h3;split at h3 <;> cases h3
 rcases hm with rfl|rfl|rfl|rfl <;> exact key _ _ rfl
theorem ug {bad:Tv->Prop}(hc:c.Dyn bad) {t:Tv}(hb:bad t) {x:Fl}(ht:x.takes t=true) {n:Int}(h:x.ba c n=true):g9 n t.k t.t=true:=by
 cases x with
 |wd k ts=>
  simp only [Fl.takes,Bool.and_eq_true,beq_iff_eq] at ht;obtain ⟨y,h1,h2⟩:=List.any_eq_true.1 ht.2;exact hc.tB n k y t (List.all_eq_true.1 h y h1) hb ht.1 (of_decide_eq_true h2)
 |nm=>
  have:=hc.nB h t hb;simp only [Fl.takes,beq_iff_eq] at ht;exact absurd ht this.1
 |cs=>
  have:=hc.nB h t hb;simp only [Fl.takes,Bool.or_eq_true,beq_iff_eq] at ht
  rcases ht with (ht|ht)|ht
  ·exact absurd ht this.2.1
  ·exact absurd ht this.2.2.1
  ·exact absurd ht this.2.2.2
 |mt m=>cases ht
theorem dyn {bad:Tv->Prop}(hc:c.Dyn bad) {t:Tv}(hb:bad t) {k:Nat}{K:List It}{n:Int}{E:List Ev}{R:Ro}(h:Ru t k K n E R):∀{L:List It}{m:Int}{F:List Ev},R=.yes L m F->wfs K->fb K->((lvs K).length:Int)=n->dr c K=true->∀s:Sy,s.ks=lvs K ->
  ∃o,F=E++o/\Brk o/\(az s o).ks=lvs L/\((az s o).ws.any bm=true\/g9 (aE L) t.k t.t=true):=by
 induction h with
 |nil=>intro L m F h;cases h
 |ref _=>intro L m F h;cases h
 |tk hs=>
  rename_i i K n E
  intro L m F h hw hf hn hbar s hk;cases h
  obtain ⟨x,rfl,hx⟩:∃x,i=.fl x/\x.takes t=true:=by
   cases i with
   |fl x=>
    refine ⟨x,rfl,?_⟩;cases x with
    |mt m=>exfalso;simp only [It.step,Fl.step] at hs;cases hrow:M.row t m <;> rw [hrow] at hs <;> cases hs
    |_=>simp only [It.step,Fl.step] at hs;split at hs;assumption;cases hs
   |_=>cases hs
  simp only [dr,Bool.and_eq_true] at hbar;exact ⟨[],by simp,fun e he=>by simp at he,hk,.inr (ug hc hb hx hbar.1)⟩
 |go hs hr ih=>
  rename_i k i K n d E o r R
  intro L m F h hw hf hn hbar s hk;have hi:=hw i (List.mem_cons_self ..);obtain ⟨a1,a2,a3,a4⟩:=dV (K:=K) hs hi;have hw2:=dy a1 (fun j hj=>hw j (List.mem_cons_of_mem _ hj));have hf2:=lh hs hf;have hn2:((lvs (r++K)).length:Int)=n+d:=by omega
  have hbar0:=hbar;simp only [dr,Bool.and_eq_true,Bool.or_eq_true,Bool.not_eq_true'] at hbar;obtain ⟨hba,hnul⟩:=hbar
  have go:∀s1,(s.ws <+: s1.ws)->az s o=s1->Brk o->s1.ks=lvs (r++K)->dr c (r++K)=true->∃o,F=E++o/\Brk o/\(az s o).ks=lvs L/\((az s o).ws.any bm=true\/g9 (aE L) t.k t.t=true):=by
   intro s1 hp e1 hB hk1 hb1;obtain ⟨o2,b1,b2,b3,b4⟩:=ih h hw2 hf2 hn2 hb1 s1 hk1;refine ⟨o++o2,by rw [b1,List.append_assoc],fun e he=>(List.mem_append.1 he).elim (hB e) (b2 e),?_,?_⟩ <;> rw [kC,e1]
   ·exact b3
   ·exact b4
  have nilB:Brk []:=fun e he=>by simp at he
  have row1:∀(rr:List Fl) (K':List It),aE K'=aE K->baH c (aE K) rr=true->dr c (rr.map It.fl++K')=true:=by
   intro rr K' e hh;cases rr with
   |nil=>cases hh
   |cons x rr=>
    show (x.ba c (aE (rr.map It.fl++K')) && (!false || _))=true
    rw [ij (il rr),e,show x.ba c (aE K)=true from hh];rfl
  have picks:∀(p:Pk) (j:It) (K':List It),aE K'=aE K->r++K=j :: K'->o=[]->Pk.pick t p=some j->p.wf->p.ba c (aE K)=true->∃o,F=E++o/\Brk o/\(az s o).ks=lvs L/\((az s o).ws.any bm=true\/g9 (aE L) t.k t.t=true):=by
   intro p j K' eK er eo hp hpw hpb;subst eo
   have hkr:s.ks=lvs (r++K):=by
    have:=g7 (K:=K) hs hi;simp only [cJ,Option.some.injEq] at this;rw [hk,this]
   cases p with
   |fn dk=>
    simp only [Pk.pick,Option.map_eq_some_iff] at hp;obtain ⟨mm,hm,rfl⟩:=hp;obtain ⟨h1,h2⟩:=hc.dB dk hpb
    exfalso
    refine h2 t hb ?_;rw [er] at hr;refine xN ?_ hr h;cases dk with
    |declaration=>exact absurd rfl h1
    |bracket=>simp only [Dk.pick] at hm;split at hm <;> cases hm;exact .inl rfl
    |detail=>
     simp only [Dk.pick] at hm
     split at hm
     ·cases hm;exact .inr (.inl rfl)
     ·split at hm
      ·cases hm;exact .inr (.inr (.inl rfl))
      ·split at hm <;> cases hm;exact .inr (.inr (.inr rfl))
   |row rr=>
    simp only [Pk.pick] at hp
    split at hp
    ·cases hp;refine go s List.prefix_rfl rfl nilB hkr ?_;rw [er];show (baH c (aE K') rr && (!false || _))=true;rw [eK,show baH c (aE K) rr=true from hpb];rfl
    ·cases hp
   |ex mm=>
    simp only [Pk.pick] at hp
    split at hp
    ·cases hp
    ·cases hp;obtain ⟨h1,rfl⟩:=hc.xB _ _ hpb;rw [er] at hr;cases hr with
     |ref h3=>cases h
     |tk h3=>cases h3
     |go h3 h4=>
      rename_i k2 d2 o2 r2
      have e3:o2=[⟨1,21,tv0⟩]:=by cases h3;rfl
      obtain ⟨c1,c2,c3,c4⟩:=dV (K:=K') h3 trivial;have hwK:wfs (It.fl (.mt .expr) :: K'):=by rw [<-er];exact hw2
      have hfK:fb (It.fl (.mt .expr) :: K'):=by rw [<-er];exact hf2
      have hnK:((lvs (It.fl (.mt .expr) :: K')).length:Int)=n+d:=by rw [<-er];exact hn2
      obtain ⟨_,_,_,o3,b4,b5,b6,_⟩:=eI h4 h (dy c1 (fun j hj=>hwK j (List.mem_cons_of_mem _ hj))) (lh h3 hfK) (by omega);have hB3:Brk o3:=fun e he=>(b6 e he).2.1
      have hs19:∃rr,s.ks=19 :: rr:=by
       have hh:aE (r++K)=19:=by rw [er];show aE K'=19;rw [eK];exact h1
       rw [kK,<-hkr] at hh;cases hh2:s.ks with
       |nil=>rw [hh2] at hh;cases hh
       |cons a b=>rw [hh2] at hh;exact ⟨b,by rw [show a=19 from hh]⟩
      obtain ⟨rr,hrr⟩:=hs19;refine ⟨⟨1,21,tv0⟩ :: o3,by rw [b4,e3];simp,?_,?_,.inl ?_⟩
      ·intro e he
       rcases List.mem_cons.1 he with rfl|he
       ·exact .inl rfl
       ·exact hB3 e he
      ·have hpl:∀(o:List Ev) (s:Sy) (l:List Int),Brk o->cJ s.ks o=some l->(az s o).ks=l:=by
        intro o
        induction o with
        |nil=>intro s l _ h;cases h;rfl
        |cons e o ih=>
         intro s l hB h;rw [bM]
         rcases hB e (List.mem_cons_self ..) with h1|h1
         ·rw [bO s h1];refine ih _ _ (fun x hx=>hB x (List.mem_cons_of_mem _ hx)) ?_;simp only [cJ,if_pos h1] at h;rw [jE];exact h
         ·rw [bK s h1];refine ih _ _ (fun x hx=>hB x (List.mem_cons_of_mem _ hx)) ?_;rw [im];simp only [cJ] at h;rw [if_neg (by omega),if_pos h1] at h;cases h5:s.ks with
          |nil=>rw [h5] at h;cases h
          |cons a b=>
           rw [h5] at h;simp only at h
           split at h
           ·exact h
           ·cases h
       rw [bM];refine hpl o3 _ _ hB3 ?_;rw [bO s rfl];show cJ (s.opens 21).ks o3=_;rw [jE,hkr,er];have:=g7 (K:=K') h3 trivial;rw [e3] at this;simp only [cJ,if_true,Option.some.injEq] at this;rw [this];exact b5
      ·rw [bM,bO s rfl];exact eS (kB hB3 _) (uH hrr)
  cases i with
  |fl x=>
   exfalso
   have hm:∃m,x=.mt m:=by
    cases x with
    |mt m=>exact ⟨m,rfl⟩
    |_=>simp only [It.step,Fl.step] at hs;split at hs <;> cases hs
   obtain ⟨m,rfl⟩:=hm;rw [show (It.fl (.mt m)).ba c (aE K)=c.mB m from rfl,hc.mB m] at hba;cases hba
  |lv a=>
   cases hs;refine go s.leaves (eO s) ?_ (fun e he=>by simp at he;subst he;exact .inr rfl) ?_ ?_
   ·rw [bM,bK s rfl];rfl
   ·rw [im,hk];rfl
   ·rcases hnul with h1|h1
    ·cases h1
    ·exact h1
  |once p=>
   simp only [It.step] at hs;cases hp:Pk.pick t p with
   |none=>
    rw [hp] at hs;cases hs;refine go s List.prefix_rfl rfl nilB hk ?_
    rcases hnul with h1|h1
    ·cases h1
    ·exact h1
   |some j=>
    rw [hp] at hs;cases hs;exact picks p j K rfl rfl rfl hp hi hba
  |again p=>
   simp only [It.step] at hs;cases hp:Pk.pick t p with
   |none=>
    rw [hp] at hs;cases hs;refine go s List.prefix_rfl rfl nilB hk ?_
    rcases hnul with h1|h1
    ·cases h1
    ·exact h1
   |some j=>
    rw [hp] at hs;cases hs;exact picks p j (.again p :: K) rfl rfl rfl hp hi hba
  |all rr=>
   cases hs;refine go s List.prefix_rfl rfl nilB ?_ (row1 rr K rfl hba);rw [hk,bY,il];rfl
end Go.Proofs.YtpdlohfdjiaegaaGreatDoor
