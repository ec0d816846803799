import Derived.Test.YtpdlohfdjiaegaaGreatDoorM26
import Derived.Test.YtpdlohfdjiaegaaGreatDoorM37
set_option linter.unusedVariables false
set_option linter.unusedSimpArgs false
namespace Go.Proofs.YtpdlohfdjiaegaaGreatDoor
open Go.RowKit
open Lw (Dc bE rt frm dep rtT rtN)
def rnD:Int→List Dc→Option Int
 |o,[]=>some o
 |o,d :: r=>if rt d=true∧0≤o+dep d.k then rnD (o+dep d.k) r else none
theorem rnD_app:∀(a:List Dc) (o:Int) (b:List Dc),rnD o (a++b)=(rnD o a).bind (fun x=>rnD x b)
 |[],o,b=>rfl
 |d :: a,o,b=>by
  simp only [List.cons_append,rnD]
  split
  ·exact rnD_app a _ b
  ·rfl
theorem rnD_nn:∀(a:List Dc) {o x:Int},0≤o→rnD o a=some x→0≤x
 |[],o,x,h,e=>by cases e;exact h
 |d :: a,o,x,h,e=>by
  simp only [rnD] at e
  split at e
  ·rename_i hc;exact rnD_nn a hc.2 e
  ·cases e
def Ntr (d:Dc):Prop:=rt d=true∧dep d.k=0
theorem ntr_dS:Ntr dS:=⟨rfl,rfl⟩
theorem ntr_dH:Ntr dH:=⟨rfl,rfl⟩
theorem ntr_dE:Ntr dE:=⟨rfl,rfl⟩
theorem ntr_dT {t:ByteArray}(h:rtT t=true):Ntr (dT t):=⟨by simp [rt,dT,h],rfl⟩
theorem rnD_ins {d:Dc}(hd:Ntr d) (a b:List Dc) {o:Int}(ho:0≤o):rnD o (a++d :: b)=rnD o (a++b):=by
 rw [rnD_app,rnD_app]
 cases h:rnD o a with
 |none=>rfl
 |some x=>
  have hx:=rnD_nn a ho h
  show rnD x (d :: b)=rnD x b
  simp only [rnD]
  rw [hd.2,if_pos ⟨hd.1,by omega⟩,Int.add_zero]
theorem rnD_one {o:Int}{a:List Dc}{x:Int}(h:rnD o a=some x) {d:Dc}(hd:rt d=true) (h0:0≤x+dep d.k):rnD o (a++[d])=some (x+dep d.k):=by
 rw [rnD_app,h]
 show rnD x [d]=_
 simp only [rnD]
 rw [if_pos ⟨hd,h0⟩]
def Pz.fine:Pz→Prop
 |.I n=>n≤4
 |_=>True
theorem fine_rt {p:Pz}(h:p.fine):rt p.d=true:=by
 cases p with
 |I n=>
  have h4:n≤4:=h
  rcases n with _|_|_|_|_|n
  ·rfl
  ·rfl
  ·rfl
  ·rfl
  ·rfl
  ·omega
 |_=>rfl
theorem fx_fine (a:Fx):∀p∈a.pz,p.fine:=by
 cases a <;> simp [Fx.pz,Pz.fine]
theorem fine_k (p:Pz):p.d.k≠1:=by cases p <;> (intro h;exact absurd h (by show ¬(_:Int)=1;simp [Pz.d,dS,dB,dH,dI,dX]))
theorem fine_dep (p:Pz) (h:p≠.X):dep p.d.k=(p.n:Int):=by cases p <;> first|rfl|exact absurd rfl h
structure Snd (L:List Dc) (s:Sy):Prop where
 r:rnD 0 (L++s.ws)=some (bsum s.ns:Int)
 n:∀d∈s.ws,d.k≠1
def Sy.ks (s:Sy):List Int:=s.ns.map (·.k)
theorem aw_ks (s:Sy) (p:Pz):(s.aw p).ks=s.ks:=by
 show (awN p s.ns).map (·.k)=s.ns.map (·.k)
 cases s.ns with
 |nil=>rfl
 |cons n r=>simp only [awN];split <;> rfl
theorem aws_ks (s:Sy) (l:List Pz):(s.aws l).ks=s.ks:=by
 induction l generalizing s with
 |nil=>rfl
 |cons p l ih=>rw [aws_cons,ih,aw_ks]
theorem Snd.aw {L:List Dc}{s:Sy}(h:Snd L s) (hn:s.ns≠[]) {p:Pz}(hp:p.fine):Snd L (s.aw p):=by
 obtain ⟨n,r,e⟩:∃n r,s.ns=n :: r:=by cases h1:s.ns with|nil=>exact absurd h1 hn|cons n r=>exact ⟨n,r,rfl⟩
 have hr:=h.r
 rw [e,bsum_cons] at hr
 refine ⟨?_,?_⟩
 ·show rnD 0 (L++(s.ws++awW p s.ns))=some (bsum (awN p s.ns):Int)
  rw [e]
  by_cases hX:p=.X
  ·subst hX
   have e2:awN .X (n :: r)={ n with b:=n.b-1 } :: r:=rfl
   rw [e2,bsum_cons]
   by_cases hb:n.b=0
   ·have e1:awW .X (n :: r)=[]:=if_pos ⟨rfl,hb⟩
    rw [e1,List.append_nil,hr]
    show some ((n.b+bsum r:Nat):Int)=some ((n.b-1+bsum r:Nat):Int)
    rw [hb]
   ·have e1:awW .X (n :: r)=[dX]:=if_neg (fun h=>hb h.2)
    rw [e1,←List.append_assoc,rnD_one hr (d:=dX) rfl (by show 0≤_+(-1:Int);omega)]
    show some ((n.b+bsum r:Nat)+(-1:Int))=some ((n.b-1+bsum r:Nat):Int)
    congr 1;omega
  ·have e1:awW p (n :: r)=[p.d]:=if_neg (fun h=>hX h.1)
   have e2:awN p (n :: r)={ n with b:=n.b+p.n } :: r:=by simp only [awN];rw [if_neg hX]
   rw [e1,e2,bsum_cons,←List.append_assoc,rnD_one hr (fine_rt hp) (by rw [fine_dep p hX];omega),fine_dep p hX]
   show some ((n.b+bsum r:Nat)+(p.n:Int))=some ((n.b+p.n+bsum r:Nat):Int)
   congr 1;omega
 ·intro d hd
  have hd':d∈s.ws++awW p s.ns:=hd
  rcases List.mem_append.1 hd' with hd|hd
  ·exact h.n d hd
  ·unfold awW at hd
   split at hd
   ·cases hd
   ·rw [List.mem_singleton] at hd;rw [hd];exact fine_k p
theorem Snd.aws {L:List Dc}{s:Sy}(h:Snd L s) (hn:s.ns≠[]) (l:List Pz) (hl:∀p∈l,p.fine):Snd L (s.aws l):=by
 induction l generalizing s with
 |nil=>exact h
 |cons p l ih=>rw [aws_cons];exact ih (h.aw hn (hl p (List.mem_cons_self ..))) (aw_ne hn p) (fun q hq=>hl q (List.mem_cons_of_mem _ hq))
theorem aws_ne {s:Sy}(l:List Pz) (h:s.ns≠[]):(s.aws l).ns≠[]:=by
 induction l generalizing s with
 |nil=>exact h
 |cons p l ih=>rw [aws_cons];exact ih (aw_ne h p)
theorem Snd.ins {L:List Dc}{s:Sy}(h:Snd L s) {d:Dc}(hd:Ntr d) (h1:d.k≠1) (a b:List Dc) (hab:s.ws=a++b):Snd L { s with ws:=a++d :: b }:=by
 refine ⟨?_,?_⟩
 ·show rnD 0 (L++(a++d :: b))=_
  rw [←List.append_assoc,rnD_ins hd _ _ (Int.le_refl 0),List.append_assoc,←hab];exact h.r
 ·intro x hx
  have hx':x∈a++d :: b:=hx
  rcases List.mem_append.1 hx' with hx|hx
  ·exact h.n x (by rw [hab];exact List.mem_append_left _ hx)
  ·rcases List.mem_cons.1 hx with rfl|hx
   ·exact h1
   ·exact h.n x (by rw [hab];exact List.mem_append_right _ hx)
theorem Snd.exprIn {L:List Dc}{s:Sy}(h:Snd L s):Snd L s.exprIn∧s.exprIn.ks=s.ks:=by
 unfold Sy.exprIn
 split
 ·exact ⟨h,rfl⟩
 ·rename_i n r e
  have hne:s.ns≠[]:=by rw [e];exact List.cons_ne_nil _ _
  have ek:s.ks=n.k :: r.map (·.k):=by unfold Sy.ks;rw [e];rfl
  refine ⟨?_,by rw [ek];rfl⟩
  by_cases h19:n.k=19
  ·simp only [if_pos h19]
   have h2:=h.aws hne [.S,.I 3] (by simp [Pz.fine])
   have e2:(s.aws [.S,.I 3]).ns=⟨n.k,n.b+0+1,n.s⟩ :: r:=by
    show awN (.I 3) (awN .S s.ns)=_
    rw [e];rfl
   refine ⟨?_,h2.n⟩
   have:=h2.r
   rw [e2,bsum_cons] at this
   show rnD 0 (L++(s.aws [.S,.I 3]).ws)=some (bsum (⟨n.k,n.b+1,true⟩ :: r):Int)
   rw [bsum_cons]
   exact this
  ·by_cases h31:n.k=31∧n.s=false
   ·simp only [if_neg h19,if_pos h31]
    have h2:=h.aws hne [.B0] (by simp [Pz.fine])
    have e2:(s.aws [.B0]).ns=⟨n.k,n.b+0,n.s⟩ :: r:=by
     show awN .B0 s.ns=_
     rw [e];rfl
    refine ⟨?_,h2.n⟩
    have:=h2.r
    rw [e2,bsum_cons] at this
    show rnD 0 (L++(s.aws [.B0]).ws)=some (bsum (⟨n.k,n.b,true⟩ :: r):Int)
    rw [bsum_cons]
    exact this
   ·simp only [if_neg h19,if_neg h31]
    refine ⟨?_,h.n⟩
    have:=h.r
    rw [e,bsum_cons] at this
    show rnD 0 (L++s.ws)=some (bsum (⟨n.k,n.b,true⟩ :: r):Int)
    rw [bsum_cons]
    exact this
theorem Snd.mark {L:List Dc}{s:Sy}(h:Snd L s) (k:Int):Snd L (s.mark k)∧(s.mark k).ks=s.ks:=by
 unfold Sy.mark
 split
 ·exact ⟨⟨h.r,h.n⟩,rfl⟩
 ·exact ⟨h,rfl⟩
theorem Snd.opens {L:List Dc}{s:Sy}(h:Snd L s) (k:Int):Snd L (s.opens k)∧(s.opens k).ks=k :: s.ks:=by
 obtain ⟨s1,hs1⟩:∃s1,(if k=21 then s.exprIn else s)=s1:=⟨_,rfl⟩
 have h1:Snd L s1∧s1.ks=s.ks:=by
  rw [←hs1];split
  ·exact h.exprIn
  ·exact ⟨h,rfl⟩
 obtain ⟨h2,h3⟩:=h1.1.mark k
 have e:s.opens k=Sy.aws { (s1.mark k) with ns:=⟨k,0,false⟩ :: (s1.mark k).ns } (opP k):=by unfold Sy.opens;simp only;rw [hs1]
 rw [e]
 have h4:Snd L { (s1.mark k) with ns:=⟨k,0,false⟩ :: (s1.mark k).ns }:=by
  refine ⟨?_,h2.n⟩
  have:=h2.r
  show rnD 0 (L++(s1.mark k).ws)=some (bsum (⟨k,0,false⟩ :: (s1.mark k).ns):Int)
  rw [bsum_cons,this]
  show some _=some ((0+bsum (s1.mark k).ns:Nat):Int)
  rw [Nat.zero_add]
 refine ⟨h4.aws (List.cons_ne_nil _ _) _ ?_,?_⟩
 ·intro p hp
  unfold opP at hp
  split at hp
  ·simp at hp;subst hp;show (0:Nat)≤4;decide
  ·split at hp
   ·simp at hp;subst hp;show (2:Nat)≤4;decide
   ·cases hp
 ·rw [aws_ks]
  show k :: (s1.mark k).ks=_
  rw [h3,h1.2]
theorem rnD_ends:∀(b:Nat) {a:List Dc}{x:Nat},rnD 0 a=some ((b+x:Nat):Int)→rnD 0 (a++List.replicate b dX)=some (x:Int)
 |0,a,x,h=>by rw [List.replicate_zero,List.append_nil,h,Nat.zero_add]
 |b+1,a,x,h=>by
  have h1:=rnD_one h (d:=dX) rfl (by show 0≤_+(-1:Int);omega)
  rw [List.replicate_succ,show a++dX :: List.replicate b dX=(a++[dX])++List.replicate b dX by simp]
  refine rnD_ends b ?_
  rw [h1]
  show some (((b+1+x:Nat):Int)+(-1:Int))=_
  congr 1;omega
theorem Snd.leaves {L:List Dc}{s:Sy}(h:Snd L s):Snd L s.leaves∧s.leaves.ks=s.ks.tail:=by
 unfold Sy.leaves
 split
 ·rename_i e;exact ⟨h,by unfold Sy.ks;rw [e];rfl⟩
 ·rename_i n r e
  have hr:=h.r
  rw [e,bsum_cons] at hr
  have h1:=rnD_ends n.b hr
  refine ⟨⟨?_,?_⟩,by unfold Sy.ks;rw [e];rfl⟩
  ·show rnD 0 (L++(s.ws++List.replicate n.b dX++(if n.k=1 then [dH] else [])))=some (bsum r:Int)
   rw [←List.append_assoc,←List.append_assoc]
   split
   ·rw [rnD_ins ntr_dH _ [] (Int.le_refl 0),List.append_nil];exact h1
   ·rw [List.append_nil];exact h1
  ·intro d hd
   have hd':d∈s.ws++List.replicate n.b dX++(if n.k=1 then [dH] else []):=hd
   rcases List.mem_append.1 hd' with hd|hd
   ·rcases List.mem_append.1 hd with hd|hd
    ·exact h.n d hd
    ·rw [List.eq_of_mem_replicate hd];decide
   ·split at hd
    ·rw [List.mem_singleton] at hd;rw [hd];decide
    ·cases hd
theorem Snd.emp {L:List Dc}{s:Sy}(h:Snd L s) (f:Int):Snd L (s.emp f):=by
 unfold Sy.emp
 split
 ·exact h
 ·split
  ·exact h
  ·rename_i m _ _;exact h.ins ntr_dE (by decide) _ _ (List.take_append_drop m s.ws).symm
theorem Snd.endl {L:List Dc}{s:Sy}(h:Snd L s):Snd L s.endl:=by
 unfold Sy.endl
 split
 ·exact h.ins ntr_dH (by decide) [] s.ws rfl
 ·exact h
theorem Snd.part {L:List Dc}{s:Sy}(h:Snd L s):Snd L s.part:=by
 unfold Sy.part
 split
 ·exact h.ins ntr_dS (by decide) s.ws [] (List.append_nil _).symm
 ·exact h
def txs (l:List Dc):List ByteArray:=l.filterMap (fun d=>if d.k=1 then some d.t else none)
theorem txs_app (a b:List Dc):txs (a++b)=txs a++txs b:=List.filterMap_append
theorem txs_none {l:List Dc}(h:∀d∈l,d.k≠1):txs l=[]:=by
 unfold txs
 rw [List.filterMap_eq_nil_iff]
 intro d hd
 rw [if_neg (h d hd)]
theorem Snd.leaf {L:List Dc}{s:Sy}(h:Snd L s) (hn:s.ns≠[]) (t:Tv) (ht:rtT t.t=true):Snd (L++(s.leaf t).2) (s.leaf t).1∧txs (s.leaf t).2=[t.t]∧(s.leaf t).1.ks=s.ks:=by
 unfold Sy.leaf
 split
 ·rename_i e;exact absurd e hn
 ·rename_i n r e
  have h1:Snd L (s.ready (rowOf n t).a t.f):=((((h.aws hn _ (fx_fine _)).emp t.f).endl).part)
  have hne:(s.ready (rowOf n t).a t.f).ns≠[]:=by unfold Sy.ready;rw [part_ns,endl_ns,emp_ns];exact aws_ne _ hn
  have hks:(s.ready (rowOf n t).a t.f).ks=s.ks:=by unfold Sy.ready Sy.ks;rw [part_ns,endl_ns,emp_ns];exact aws_ks s _
  refine ⟨?_,?_,?_⟩
  ·show Snd (L++((s.ready (rowOf n t).a t.f).ws++[dT t.t])) (Sy.aws ⟨(s.ready (rowOf n t).a t.f).ns,[],none,true,false,false⟩ _)
   refine Snd.aws (s:=⟨_,[],none,true,false,false⟩) ⟨?_,fun d hd=>(nomatch (show d∈([]:List Dc) from hd))⟩ hne _ (fx_fine _)
   show rnD 0 (L++((s.ready (rowOf n t).a t.f).ws++[dT t.t])++[])=_
   rw [List.append_nil,←List.append_assoc,rnD_ins (ntr_dT ht) _ [] (Int.le_refl 0),List.append_nil]
   exact h1.r
  ·show txs ((s.ready (rowOf n t).a t.f).ws++[dT t.t])=_
   rw [txs_app,txs_none h1.n];rfl
  ·show (Sy.aws ⟨(s.ready (rowOf n t).a t.f).ns,[],none,true,false,false⟩ _).ks=_
   rw [aws_ks];exact hks
theorem Snd.note {L:List Dc}{s:Sy}(h:Snd L s) (t:Tv) (ht:rtT t.t=true):Snd (L++(s.note t).2) (s.note t).1∧txs (s.note t).2=[t.t]∧(s.note t).1.ks=s.ks:=by
 have hsp:s.ws.takeWhile isBg++s.ws.dropWhile isBg=s.ws:=List.takeWhile_append_dropWhile
 obtain ⟨bg,hbg⟩:∃bg,s.ws.takeWhile isBg=bg:=⟨_,rfl⟩
 obtain ⟨rs,hrs⟩:∃rs,s.ws.dropWhile isBg=rs:=⟨_,rfl⟩
 rw [hbg,hrs] at hsp
 have hb1:∀d∈bg,d.k≠1:=fun d hd=>h.n d (by rw [←hsp];exact List.mem_append_left _ hd)
 have hr1:∀d∈rs,d.k≠1:=fun d hd=>h.n d (by rw [←hsp];exact List.mem_append_right _ hd)
 have h0:=h.r
 rw [←hsp] at h0
 unfold Sy.note
 rw [hbg,hrs]
 simp only
 split
 ·refine ⟨⟨?_,hr1⟩,?_,rfl⟩
  ·show rnD 0 ((L++(bg++[dS,dT t.t]))++rs)=_
   rw [show (L++(bg++[dS,dT t.t]))++rs=(L++bg)++dS :: (dT t.t :: rs) by simp,rnD_ins ntr_dS _ _ (Int.le_refl 0),rnD_ins (ntr_dT ht) _ _ (Int.le_refl 0),List.append_assoc]
   exact h0
  ·show txs (bg++[dS,dT t.t])=_
   rw [txs_app,txs_none hb1];rfl
 ·refine ⟨⟨?_,hr1⟩,?_,rfl⟩
  ·show rnD 0 ((L++(bg++dH :: ((if _ then [dE] else [])++[dT t.t])))++rs)=_
   split
   ·rw [show (L++(bg++dH :: ([dE]++[dT t.t])))++rs=(L++bg)++dH :: (dE :: (dT t.t :: rs)) by simp,rnD_ins ntr_dH _ _ (Int.le_refl 0),rnD_ins ntr_dE _ _ (Int.le_refl 0),rnD_ins (ntr_dT ht) _ _ (Int.le_refl 0),List.append_assoc]
    exact h0
   ·rw [show (L++(bg++dH :: ([]++[dT t.t])))++rs=(L++bg)++dH :: (dT t.t :: rs) by simp,rnD_ins ntr_dH _ _ (Int.le_refl 0),rnD_ins (ntr_dT ht) _ _ (Int.le_refl 0),List.append_assoc]
    exact h0
  ·show txs (bg++dH :: ((if _ then [dE] else [])++[dT t.t]))=_
   rw [txs_app,txs_none hb1]
   split <;> rfl
def evK (e:Ev) (ks:List Int):List Int:=if e.k=1 then e.n :: ks else if e.k=3 then ks.tail else ks
def evT (e:Ev):List ByteArray:=if e.k=1 then [] else if e.k=3 then [] else [e.d.t]
theorem snd_put {L l:List Dc}{s s':Sy}{e:Ev}(h:Snd L s) (hp:sput s e=some (s',l)):Snd (L++l) s'∧txs l=evT e∧s'.ks=evK e s.ks:=by
 unfold sput at hp
 split at hp
 ·rename_i hm
  have h':=Option.some.inj hp
  obtain ⟨e1,e2⟩:(s.step e).1=s'∧(s.step e).2=l:=⟨by rw [h'],by rw [h']⟩
  rw [←e1,←e2]
  unfold Sy.may at hm
  unfold Sy.step evT evK
  by_cases h1:e.k=1
  ·rw [if_pos h1,if_pos h1,if_pos h1]
   show Snd (L++[]) (s.opens e.n)∧txs []=[]∧_
   rw [List.append_nil]
   exact ⟨(h.opens e.n).1,rfl,(h.opens e.n).2⟩
  ·rw [if_neg h1,if_neg h1,if_neg h1]
   rw [if_neg h1] at hm
   by_cases h3:e.k=3
   ·rw [if_pos h3,if_pos h3,if_pos h3]
    show Snd (L++[]) s.leaves∧txs []=[]∧_
    rw [List.append_nil]
    exact ⟨h.leaves.1,rfl,h.leaves.2⟩
   ·rw [if_neg h3,if_neg h3,if_neg h3]
    rw [if_neg h3] at hm
    by_cases h2:e.k=2
    ·rw [if_pos h2] at hm ⊢
     rw [Bool.and_eq_true] at hm
     have hne:s.ns≠[]:=by intro hh;rw [hh] at hm;exact absurd hm.1 (by decide)
     exact h.leaf hne e.d hm.2
    ·rw [if_neg h2] at hm ⊢
     by_cases h4:e.k=4
     ·rw [if_pos h4,Bool.and_eq_true,Bool.and_eq_true] at hm
      exact h.note e.d hm.2.1
     ·rw [if_neg h4] at hm;cases hm
 ·cases hp
theorem snd_new:Snd [] sy0:=⟨rfl,fun d hd=>by cases hd⟩
def sfold (s:Sy) (o:List Ev):Sy:=o.foldl (fun s e=>(s.step e).1) s
theorem sfold_cons (s:Sy) (e:Ev) (b:List Ev):sfold s (e :: b)=sfold (s.step e).1 b:=rfl
def Brk (o:List Ev):Prop:=∀e∈o,e.k=1∨e.k=3
theorem exprIn_ks (s:Sy):s.exprIn.ks=s.ks:=by
 unfold Sy.exprIn
 split
 ·rfl
 ·rename_i n r e
  unfold Sy.ks;rw [e];rfl
theorem mark_ks (s:Sy) (k:Int):(s.mark k).ks=s.ks:=by unfold Sy.mark;split <;> rfl
theorem opens_ks (s:Sy) (k:Int):(s.opens k).ks=k :: s.ks:=by
 unfold Sy.opens
 simp only
 rw [aws_ks]
 show k :: ((if k=21 then s.exprIn else s).mark k).ks=_
 rw [mark_ks]
 split
 ·rw [exprIn_ks]
 ·rfl
theorem leaves_ks (s:Sy):s.leaves.ks=s.ks.tail:=by
 unfold Sy.leaves
 split
 ·rename_i e;unfold Sy.ks;rw [e];rfl
 ·rename_i n r e;unfold Sy.ks;rw [e];rfl
theorem step_open (s:Sy) {e:Ev}(h:e.k=1):s.step e=(s.opens e.n,[]):=by unfold Sy.step;rw [if_pos h]
theorem step_close (s:Sy) {e:Ev}(h:e.k=3):s.step e=(s.leaves,[]):=by unfold Sy.step;rw [if_neg (by omega),if_pos h]
end Go.Proofs.YtpdlohfdjiaegaaGreatDoor
