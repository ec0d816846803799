import Derived.Test.YtpdlohfdjiaegaaGreatDoorM35
set_option linter.unusedVariables false
set_option linter.unusedSimpArgs false
namespace Go.Proofs.YtpdlohfdjiaegaaGreatDoor
open Go.RowKit
open Lw (Dc bE rt frm dep rtT rtN)
def rnD:Int→List Dc→Option Int
 |o,[]=>some o
 |o,d :: r=>if rt d=true∧0≤o+dep d.k then rnD (o+dep d.k) r else none
theorem rnD_app:∀(a:List Dc) (o:Int) (b:List Dc),rnD o (a++b)=(rnD o a).bind (fun x=>rnD x b)
 |[],o,b=>rfl
 |d :: a,o,b=>by
  simp only [List.cons_append,rnD]
  split
  ·exact rnD_app a _ b
  ·rfl
theorem rnD_nn:∀(a:List Dc) {o x:Int},0≤o→rnD o a=some x→0≤x
 |[],o,x,h,e=>by cases e;exact h
 |d :: a,o,x,h,e=>by
  simp only [rnD] at e
  split at e
  ·rename_i hc;exact rnD_nn a hc.2 e
  ·cases e
theorem frm_rnD:∀(l:List Dc) (o:Int) (j:Nat),rnD o l=some 0→frm o j l=none
 |[],o,j,h=>by cases h;rfl
 |d :: l,o,j,h=>by
  simp only [rnD] at h
  simp only [frm]
  split at h
  ·rename_i hc;rw [if_pos hc];exact frm_rnD l _ _ h
  ·cases h
def Ntr (d:Dc):Prop:=rt d=true∧dep d.k=0
theorem ntr_dS:Ntr dS:=⟨rfl,rfl⟩
theorem ntr_dH:Ntr dH:=⟨rfl,rfl⟩
theorem ntr_dE:Ntr dE:=⟨rfl,rfl⟩
theorem ntr_dT {t:ByteArray}(h:rtT t=true):Ntr (dT t):=⟨by simp [rt,dT,h],rfl⟩
theorem rnD_ins {d:Dc}(hd:Ntr d) (a b:List Dc) {o:Int}(ho:0≤o):rnD o (a++d :: b)=rnD o (a++b):=by
 rw [rnD_app,rnD_app]
 cases h:rnD o a with
 |none=>rfl
 |some x=>
  have hx:=rnD_nn a ho h
  show rnD x (d :: b)=rnD x b
  simp only [rnD]
  rw [hd.2,if_pos ⟨hd.1,by omega⟩,Int.add_zero]
theorem rnD_one {o:Int}{a:List Dc}{x:Int}(h:rnD o a=some x) {d:Dc}(hd:rt d=true) (h0:0≤x+dep d.k):rnD o (a++[d])=some (x+dep d.k):=by
 rw [rnD_app,h]
 show rnD x [d]=_
 simp only [rnD]
 rw [if_pos ⟨hd,h0⟩]
def Pz.fine:Pz→Prop
 |.I n=>n≤4
 |_=>True
theorem fine_rt {p:Pz}(h:p.fine):rt p.d=true:=by
 cases p with
 |I n=>
  have h4:n≤4:=h
  rcases n with _|_|_|_|_|n
  ·rfl
  ·rfl
  ·rfl
  ·rfl
  ·rfl
  ·omega
 |_=>rfl
theorem fx_fine (a:Fx):∀p∈a.pz,p.fine:=by
 cases a <;> simp [Fx.pz,Pz.fine]
theorem fine_k (p:Pz):p.d.k≠1:=by cases p <;> (intro h;exact absurd h (by show ¬(_:Int)=1;simp [Pz.d,dS,dB,dH,dI,dX]))
theorem fine_dep (p:Pz) (h:p≠.X):dep p.d.k=(p.n:Int):=by cases p <;> first|rfl|exact absurd rfl h
structure Snd (L:List Dc) (s:Sy):Prop where
 r:rnD 0 (L++s.ws)=some (bsum s.ns:Int)
 n:∀d∈s.ws,d.k≠1
def Sy.ks (s:Sy):List Int:=s.ns.map (·.k)
theorem aw_ks (s:Sy) (p:Pz):(s.aw p).ks=s.ks:=by
 show (awN p s.ns).map (·.k)=s.ns.map (·.k)
 cases s.ns with
 |nil=>rfl
 |cons n r=>simp only [awN];split <;> rfl
theorem aws_ks (s:Sy) (l:List Pz):(s.aws l).ks=s.ks:=by
 induction l generalizing s with
 |nil=>rfl
 |cons p l ih=>rw [aws_cons,ih,aw_ks]
theorem Snd.aw {L:List Dc}{s:Sy}(h:Snd L s) (hn:s.ns≠[]) {p:Pz}(hp:p.fine):Snd L (s.aw p):=by
 obtain ⟨n,r,e⟩:∃n r,s.ns=n :: r:=by cases h1:s.ns with|nil=>exact absurd h1 hn|cons n r=>exact ⟨n,r,rfl⟩
 have hr:=h.r
 rw [e,bsum_cons] at hr
 refine ⟨?_,?_⟩
 ·show rnD 0 (L++(s.ws++awW p s.ns))=some (bsum (awN p s.ns):Int)
  rw [e]
  by_cases hX:p=.X
  ·subst hX
   have e2:awN .X (n :: r)={ n with b:=n.b-1 } :: r:=rfl
   rw [e2,bsum_cons]
   by_cases hb:n.b=0
   ·have e1:awW .X (n :: r)=[]:=if_pos ⟨rfl,hb⟩
    rw [e1,List.append_nil,hr]
    show some ((n.b+bsum r:Nat):Int)=some ((n.b-1+bsum r:Nat):Int)
    rw [hb]
   ·have e1:awW .X (n :: r)=[dX]:=if_neg (fun h=>hb h.2)
    rw [e1,←List.append_assoc,rnD_one hr (d:=dX) rfl (by show 0≤_+(-1:Int);omega)]
    show some ((n.b+bsum r:Nat)+(-1:Int))=some ((n.b-1+bsum r:Nat):Int)
    congr 1;omega
  ·have e1:awW p (n :: r)=[p.d]:=if_neg (fun h=>hX h.1)
   have e2:awN p (n :: r)={ n with b:=n.b+p.n } :: r:=by simp only [awN];rw [if_neg hX]
   rw [e1,e2,bsum_cons,←List.append_assoc,rnD_one hr (fine_rt hp) (by rw [fine_dep p hX];omega),fine_dep p hX]
   show some ((n.b+bsum r:Nat)+(p.n:Int))=some ((n.b+p.n+bsum r:Nat):Int)
   congr 1;omega
 ·intro d hd
  have hd':d∈s.ws++awW p s.ns:=hd
  rcases List.mem_append.1 hd' with hd|hd
  ·exact h.n d hd
  ·unfold awW at hd
   split at hd
   ·cases hd
   ·rw [List.mem_singleton] at hd;rw [hd];exact fine_k p
theorem Snd.aws {L:List Dc}{s:Sy}(h:Snd L s) (hn:s.ns≠[]) (l:List Pz) (hl:∀p∈l,p.fine):Snd L (s.aws l):=by
 induction l generalizing s with
 |nil=>exact h
 |cons p l ih=>rw [aws_cons];exact ih (h.aw hn (hl p (List.mem_cons_self ..))) (aw_ne hn p) (fun q hq=>hl q (List.mem_cons_of_mem _ hq))
theorem aws_ne {s:Sy}(l:List Pz) (h:s.ns≠[]):(s.aws l).ns≠[]:=by
 induction l generalizing s with
 |nil=>exact h
 |cons p l ih=>rw [aws_cons];exact ih (aw_ne h p)
theorem Snd.ins {L:List Dc}{s:Sy}(h:Snd L s) {d:Dc}(hd:Ntr d) (h1:d.k≠1) (a b:List Dc) (hab:s.ws=a++b):Snd L { s with ws:=a++d :: b }:=by
 refine ⟨?_,?_⟩
 ·show rnD 0 (L++(a++d :: b))=_
  rw [←List.append_assoc,rnD_ins hd _ _ (Int.le_refl 0),List.append_assoc,←hab];exact h.r
 ·intro x hx
  have hx':x∈a++d :: b:=hx
  rcases List.mem_append.1 hx' with hx|hx
  ·exact h.n x (by rw [hab];exact List.mem_append_left _ hx)
  ·rcases List.mem_cons.1 hx with rfl|hx
   ·exact h1
   ·exact h.n x (by rw [hab];exact List.mem_append_right _ hx)
theorem Snd.exprIn {L:List Dc}{s:Sy}(h:Snd L s):Snd L s.exprIn∧s.exprIn.ks=s.ks:=by
 unfold Sy.exprIn
 split
 ·exact ⟨h,rfl⟩
 ·rename_i n r e
  have hne:s.ns≠[]:=by rw [e];exact List.cons_ne_nil _ _
  have ek:s.ks=n.k :: r.map (·.k):=by unfold Sy.ks;rw [e];rfl
  refine ⟨?_,by rw [ek];rfl⟩
  by_cases h19:n.k=19
  ·simp only [if_pos h19]
   have h2:=h.aws hne [.S,.I 3] (by simp [Pz.fine])
   have e2:(s.aws [.S,.I 3]).ns=⟨n.k,n.b+0+1,n.s⟩ :: r:=by
    show awN (.I 3) (awN .S s.ns)=_
    rw [e];rfl
   refine ⟨?_,h2.n⟩
   have:=h2.r
   rw [e2,bsum_cons] at this
   show rnD 0 (L++(s.aws [.S,.I 3]).ws)=some (bsum (⟨n.k,n.b+1,true⟩ :: r):Int)
   rw [bsum_cons]
   exact this
  ·by_cases h31:n.k=31∧n.s=false
   ·simp only [if_neg h19,if_pos h31]
    have h2:=h.aws hne [.B0] (by simp [Pz.fine])
    have e2:(s.aws [.B0]).ns=⟨n.k,n.b+0,n.s⟩ :: r:=by
     show awN .B0 s.ns=_
     rw [e];rfl
    refine ⟨?_,h2.n⟩
    have:=h2.r
    rw [e2,bsum_cons] at this
    show rnD 0 (L++(s.aws [.B0]).ws)=some (bsum (⟨n.k,n.b,true⟩ :: r):Int)
    rw [bsum_cons]
    exact this
   ·simp only [if_neg h19,if_neg h31]
    refine ⟨?_,h.n⟩
    have:=h.r
    rw [e,bsum_cons] at this
    show rnD 0 (L++s.ws)=some (bsum (⟨n.k,n.b,true⟩ :: r):Int)
    rw [bsum_cons]
    exact this
theorem Snd.mark {L:List Dc}{s:Sy}(h:Snd L s) (k:Int):Snd L (s.mark k)∧(s.mark k).ks=s.ks:=by
 unfold Sy.mark
 split
 ·exact ⟨⟨h.r,h.n⟩,rfl⟩
 ·exact ⟨h,rfl⟩
theorem Snd.opens {L:List Dc}{s:Sy}(h:Snd L s) (k:Int):Snd L (s.opens k)∧(s.opens k).ks=k :: s.ks:=by
 obtain ⟨s1,hs1⟩:∃s1,(if k=21 then s.exprIn else s)=s1:=⟨_,rfl⟩
 have h1:Snd L s1∧s1.ks=s.ks:=by
  rw [←hs1];split
  ·exact h.exprIn
  ·exact ⟨h,rfl⟩
 obtain ⟨h2,h3⟩:=h1.1.mark k
 have e:s.opens k=Sy.aws { (s1.mark k) with ns:=⟨k,0,false⟩ :: (s1.mark k).ns } (opP k):=by unfold Sy.opens;simp only;rw [hs1]
 rw [e]
 have h4:Snd L { (s1.mark k) with ns:=⟨k,0,false⟩ :: (s1.mark k).ns }:=by
  refine ⟨?_,h2.n⟩
  have:=h2.r
  show rnD 0 (L++(s1.mark k).ws)=some (bsum (⟨k,0,false⟩ :: (s1.mark k).ns):Int)
  rw [bsum_cons,this]
  show some _=some ((0+bsum (s1.mark k).ns:Nat):Int)
  rw [Nat.zero_add]
 refine ⟨h4.aws (List.cons_ne_nil _ _) _ ?_,?_⟩
 ·intro p hp
  unfold opP at hp
  split at hp
  ·simp at hp;subst hp;show (0:Nat)≤4;decide
  ·split at hp
   ·simp at hp;subst hp;show (2:Nat)≤4;decide
   ·cases hp
 ·rw [aws_ks]
  show k :: (s1.mark k).ks=_
  rw [h3,h1.2]
theorem rnD_ends:∀(b:Nat) {a:List Dc}{x:Nat},rnD 0 a=some ((b+x:Nat):Int)→rnD 0 (a++List.replicate b dX)=some (x:Int)
 |0,a,x,h=>by rw [List.replicate_zero,List.append_nil,h,Nat.zero_add]
 |b+1,a,x,h=>by
  have h1:=rnD_one h (d:=dX) rfl (by show 0≤_+(-1:Int);omega)
  rw [List.replicate_succ,show a++dX :: List.replicate b dX=(a++[dX])++List.replicate b dX by simp]
  refine rnD_ends b ?_
  rw [h1]
  show some (((b+1+x:Nat):Int)+(-1:Int))=_
  congr 1;omega
theorem Snd.leaves {L:List Dc}{s:Sy}(h:Snd L s):Snd L s.leaves∧s.leaves.ks=s.ks.tail:=by
 unfold Sy.leaves
 split
 ·rename_i e;exact ⟨h,by unfold Sy.ks;rw [e];rfl⟩
 ·rename_i n r e
  have hr:=h.r
  rw [e,bsum_cons] at hr
  have h1:=rnD_ends n.b hr
  refine ⟨⟨?_,?_⟩,by unfold Sy.ks;rw [e];rfl⟩
  ·show rnD 0 (L++(s.ws++List.replicate n.b dX++(if n.k=1 then [dH] else [])))=some (bsum r:Int)
   rw [←List.append_assoc,←List.append_assoc]
   split
   ·rw [rnD_ins ntr_dH _ [] (Int.le_refl 0),List.append_nil];exact h1
   ·rw [List.append_nil];exact h1
  ·intro d hd
   have hd':d∈s.ws++List.replicate n.b dX++(if n.k=1 then [dH] else []):=hd
   rcases List.mem_append.1 hd' with hd|hd
   ·rcases List.mem_append.1 hd with hd|hd
    ·exact h.n d hd
    ·rw [List.eq_of_mem_replicate hd];decide
   ·split at hd
    ·rw [List.mem_singleton] at hd;rw [hd];decide
    ·cases hd
theorem Snd.emp {L:List Dc}{s:Sy}(h:Snd L s) (f:Int):Snd L (s.emp f):=by
 unfold Sy.emp
 split
 ·exact h
 ·split
  ·exact h
  ·rename_i m _ _;exact h.ins ntr_dE (by decide) _ _ (List.take_append_drop m s.ws).symm
theorem Snd.endl {L:List Dc}{s:Sy}(h:Snd L s):Snd L s.endl:=by
 unfold Sy.endl
 split
 ·exact h.ins ntr_dH (by decide) [] s.ws rfl
 ·exact h
theorem Snd.part {L:List Dc}{s:Sy}(h:Snd L s):Snd L s.part:=by
 unfold Sy.part
 split
 ·exact h.ins ntr_dS (by decide) s.ws [] (List.append_nil _).symm
 ·exact h
def txs (l:List Dc):List ByteArray:=l.filterMap (fun d=>if d.k=1 then some d.t else none)
theorem txs_app (a b:List Dc):txs (a++b)=txs a++txs b:=List.filterMap_append
theorem txs_none {l:List Dc}(h:∀d∈l,d.k≠1):txs l=[]:=by
 unfold txs
 rw [List.filterMap_eq_nil_iff]
 intro d hd
 rw [if_neg (h d hd)]
theorem Snd.leaf {L:List Dc}{s:Sy}(h:Snd L s) (hn:s.ns≠[]) (t:Tv) (ht:rtT t.t=true):Snd (L++(s.leaf t).2) (s.leaf t).1∧txs (s.leaf t).2=[t.t]∧(s.leaf t).1.ks=s.ks:=by
 unfold Sy.leaf
 split
 ·rename_i e;exact absurd e hn
 ·rename_i n r e
  have h1:Snd L (s.ready (rowOf n t).a t.f):=((((h.aws hn _ (fx_fine _)).emp t.f).endl).part)
  have hne:(s.ready (rowOf n t).a t.f).ns≠[]:=by unfold Sy.ready;rw [part_ns,endl_ns,emp_ns];exact aws_ne _ hn
  have hks:(s.ready (rowOf n t).a t.f).ks=s.ks:=by unfold Sy.ready Sy.ks;rw [part_ns,endl_ns,emp_ns];exact aws_ks s _
  refine ⟨?_,?_,?_⟩
  ·show Snd (L++((s.ready (rowOf n t).a t.f).ws++[dT t.t])) (Sy.aws ⟨(s.ready (rowOf n t).a t.f).ns,[],none,true,false,false⟩ _)
   refine Snd.aws (s:=⟨_,[],none,true,false,false⟩) ⟨?_,fun d hd=>(nomatch (show d∈([]:List Dc) from hd))⟩ hne _ (fx_fine _)
   show rnD 0 (L++((s.ready (rowOf n t).a t.f).ws++[dT t.t])++[])=_
   rw [List.append_nil,←List.append_assoc,rnD_ins (ntr_dT ht) _ [] (Int.le_refl 0),List.append_nil]
   exact h1.r
  ·show txs ((s.ready (rowOf n t).a t.f).ws++[dT t.t])=_
   rw [txs_app,txs_none h1.n];rfl
  ·show (Sy.aws ⟨(s.ready (rowOf n t).a t.f).ns,[],none,true,false,false⟩ _).ks=_
   rw [aws_ks];exact hks
theorem Snd.note {L:List Dc}{s:Sy}(h:Snd L s) (t:Tv) (ht:rtT t.t=true):Snd (L++(s.note t).2) (s.note t).1∧txs (s.note t).2=[t.t]∧(s.note t).1.ks=s.ks:=by
 have hsp:s.ws.takeWhile isBg++s.ws.dropWhile isBg=s.ws:=List.takeWhile_append_dropWhile
 obtain ⟨bg,hbg⟩:∃bg,s.ws.takeWhile isBg=bg:=⟨_,rfl⟩
 obtain ⟨rs,hrs⟩:∃rs,s.ws.dropWhile isBg=rs:=⟨_,rfl⟩
 rw [hbg,hrs] at hsp
 have hb1:∀d∈bg,d.k≠1:=fun d hd=>h.n d (by rw [←hsp];exact List.mem_append_left _ hd)
 have hr1:∀d∈rs,d.k≠1:=fun d hd=>h.n d (by rw [←hsp];exact List.mem_append_right _ hd)
 have h0:=h.r
 rw [←hsp] at h0
 unfold Sy.note
 rw [hbg,hrs]
 simp only
 split
 ·refine ⟨⟨?_,hr1⟩,?_,rfl⟩
  ·show rnD 0 ((L++(bg++[dS,dT t.t]))++rs)=_
   rw [show (L++(bg++[dS,dT t.t]))++rs=(L++bg)++dS :: (dT t.t :: rs) by simp,rnD_ins ntr_dS _ _ (Int.le_refl 0),rnD_ins (ntr_dT ht) _ _ (Int.le_refl 0),List.append_assoc]
   exact h0
  ·show txs (bg++[dS,dT t.t])=_
   rw [txs_app,txs_none hb1];rfl
 ·refine ⟨⟨?_,hr1⟩,?_,rfl⟩
  ·show rnD 0 ((L++(bg++dH :: ((if _ then [dE] else [])++[dT t.t])))++rs)=_
   split
   ·rw [show (L++(bg++dH :: ([dE]++[dT t.t])))++rs=(L++bg)++dH :: (dE :: (dT t.t :: rs)) by simp,rnD_ins ntr_dH _ _ (Int.le_refl 0),rnD_ins ntr_dE _ _ (Int.le_refl 0),rnD_ins (ntr_dT ht) _ _ (Int.le_refl 0),List.append_assoc]
    exact h0
   ·rw [show (L++(bg++dH :: ([]++[dT t.t])))++rs=(L++bg)++dH :: (dT t.t :: rs) by simp,rnD_ins ntr_dH _ _ (Int.le_refl 0),rnD_ins (ntr_dT ht) _ _ (Int.le_refl 0),List.append_assoc]
    exact h0
  ·show txs (bg++dH :: ((if _ then [dE] else [])++[dT t.t]))=_
   rw [txs_app,txs_none hb1]
   split <;> rfl
def evK (e:Ev) (ks:List Int):List Int:=if e.k=1 then e.n :: ks else if e.k=3 then ks.tail else ks
def evT (e:Ev):List ByteArray:=if e.k=1 then [] else if e.k=3 then [] else [e.d.t]
theorem snd_put {L l:List Dc}{s s':Sy}{e:Ev}(h:Snd L s) (hp:sput s e=some (s',l)):Snd (L++l) s'∧txs l=evT e∧s'.ks=evK e s.ks:=by
 unfold sput at hp
 split at hp
 ·rename_i hm
  have h':=Option.some.inj hp
  obtain ⟨e1,e2⟩:(s.step e).1=s'∧(s.step e).2=l:=⟨by rw [h'],by rw [h']⟩
  rw [←e1,←e2]
  unfold Sy.may at hm
  unfold Sy.step evT evK
  by_cases h1:e.k=1
  ·rw [if_pos h1,if_pos h1,if_pos h1]
   show Snd (L++[]) (s.opens e.n)∧txs []=[]∧_
   rw [List.append_nil]
   exact ⟨(h.opens e.n).1,rfl,(h.opens e.n).2⟩
  ·rw [if_neg h1,if_neg h1,if_neg h1]
   rw [if_neg h1] at hm
   by_cases h3:e.k=3
   ·rw [if_pos h3,if_pos h3,if_pos h3]
    show Snd (L++[]) s.leaves∧txs []=[]∧_
    rw [List.append_nil]
    exact ⟨h.leaves.1,rfl,h.leaves.2⟩
   ·rw [if_neg h3,if_neg h3,if_neg h3]
    rw [if_neg h3] at hm
    by_cases h2:e.k=2
    ·rw [if_pos h2] at hm ⊢
     rw [Bool.and_eq_true] at hm
     have hne:s.ns≠[]:=by intro hh;rw [hh] at hm;exact absurd hm.1 (by decide)
     exact h.leaf hne e.d hm.2
    ·rw [if_neg h2] at hm ⊢
     by_cases h4:e.k=4
     ·rw [if_pos h4,Bool.and_eq_true,Bool.and_eq_true] at hm
      exact h.note e.d hm.2.1
     ·rw [if_neg h4] at hm;cases hm
 ·cases hp
theorem snd_new:Snd [] sy0:=⟨rfl,fun d hd=>by cases hd⟩
theorem snd_clo {L l:List Dc}{s:Sy}(h:Snd L s) (hc:sclo s=some l):frm 0 0 (L++l)=none∧txs l=[]:=by
 unfold sclo at hc
 split at hc
 ·rename_i hn
  cases hc
  have h1:=h.endl
  have h2:=h1.r
  rw [endl_ns,hn] at h2
  exact ⟨frm_rnD _ _ _ h2,txs_none h1.n⟩
 ·cases hc
end Go.Proofs.YtpdlohfdjiaegaaGreatDoor
namespace Go.Proofs.YtpdlohfdjiaegaaGreatDoor
open Go.RowKit
open Lw (Dc bE rt frm dep rtT rtN dcs dcs_len dcs_one)
abbrev Rk (W:World) (v:Value) (l:List Int):Prop:=W.ownsRow 0 32 1 v l.length (l.map (Value.int .u8))
abbrev Rx (W:World) (v:Value) (l:List ByteArray):Prop:=W.ownsRow 0 9 1 v l.length (l.map Value.string)
def HB (W:World) (h:Nat) (va vo vt:Value):Prop:=W.heap[h]?=some (.cells #[va,vo,vt] 50 (0,0))
theorem HB.cells {W:World}{h:Nat}{va vo vt:Value}(H:HB W h va vo vt):W.cell? ⟨h,0,none⟩=some va∧W.cell? ⟨h,1,none⟩=some vo∧W.cell? ⟨h,2,none⟩=some vt:=⟨blk_cell H rfl,blk_cell H rfl,blk_cell H rfl⟩
structure HI (w0:World) (g h:Nat) (va vo vt:Value) (D:List Dc) (ks:List Int) (T:List ByteArray) (st:Sst) (S:Nat→Prop) (W:World):Prop where
 bel:Below w0.heap.size w0 W
 sq:Sq S W g st
 sB:∀k,S k→w0.heap.size≤k
 hb:HB W h va vo vt
 h0:w0.heap.size≤h
 hS:¬S h
 ra:Rd W va D
 ro:Rk W vo ks.reverse
 rt:Rx W vt T
 vB:∀k,va.ownBlock=some k∨vo.ownBlock=some k∨vt.ownBlock=some k→w0.heap.size≤k∧¬S k
section
variable {w0:World} {g h:Nat} {va vo vt:Value} {D:List Dc} {ks:List Int} {T:List ByteArray} {st:Sst} {S:Nat→Prop} {W:World}
theorem HI.below (H:HI w0 g h va vo vt D ks T st S W) {W':World}(hb:Below W.heap.size W W'):HI w0 g h va vo vt D ks T st S W':=
 ⟨H.bel.trans (hb.mono H.bel.size),H.sq.below hb,H.sB,blk_below H.hb hb,H.h0,H.hS,row_below H.ra hb,row_below H.ro hb,row_below H.rt hb,H.vB⟩
theorem HI.upd (H:HI w0 g h va vo vt D ks T st S W) {W':World}{va' vo' vt':Value}{D':List Dc}{ks':List Int}{T':List ByteArray}{U:Nat→Prop}(hk:Kp U W W') (hU:∀k,U k→k=h∨va.ownBlock=some k∨vo.ownBlock=some k∨vt.ownBlock=some k)
  (hb:HB W' h va' vo' vt') (ra:Rd W' va' D') (ro:Rk W' vo' ks'.reverse) (rt:Rx W' vt' T') (hB:∀k,va'.ownBlock=some k∨vo'.ownBlock=some k∨vt'.ownBlock=some k→(va.ownBlock=some k∨vo.ownBlock=some k∨vt.ownBlock=some k)∨W.heap.size≤k):HI w0 g h va' vo' vt' D' ks' T' st S W':=by
 have hu:∀k,U k→w0.heap.size≤k∧¬S k:=fun k e=>(hU k e).elim (fun e=>by rw [e];exact ⟨H.h0,H.hS⟩) (fun e=>H.vB k e)
 refine ⟨kp_low2 H.bel hk (fun k e=>(hu k e).1) H.bel.size,H.sq.kp hk (fun k hs e=>(hu k e).2 hs),H.sB,hb,H.h0,H.hS,ra,ro,rt,fun k e=>?_⟩
 rcases hB k e with e|e
 ·exact H.vB k e
 ·exact ⟨Nat.le_trans H.bel.size e,fun hs=>by have:=H.sq.lt k hs;omega⟩
theorem nb_old {W:World}{v v':Value}(hn:Nb W v v'):∀k,v'.ownBlock=some k→v.ownBlock=some k∨W.heap.size≤k:=fun k e=>by
 rcases hn with e1|⟨q,e1,hq⟩
 ·exact .inl (by rw [←e1];exact e)
 ·rw [e1] at e;cases e;exact .inr hq
theorem HI.all (H:HI w0 g h va vo vt D ks T st S W) {w2:World}{v':Value}{D':List Dc}(hk:Kp (fun k=>va.ownBlock=some k) W w2) (hr:Rd w2 v' D') (hn:Nb W va v') :
  (w2.cell? ⟨h,0,none⟩=some va∧w2.frozen? ⟨h,0,none⟩=false)∧HI w0 g h v' vo vt D' ks T st S (w2.setCell ⟨h,0,none⟩ v'):=by
 have h2:HB w2 h va vo vt:=hk.blk H.hb (row_ne H.ra H.hb (by decide))
 have o2:=hk.row H.ro (fun k e1 e2=>row_two H.ro H.ra (by decide) k e1 e2)
 have t2:=hk.row H.rt (fun k e1 e2=>row_two H.rt H.ra (by decide) k e1 e2)
 refine ⟨⟨h2.cells.1,blk_frozen h2⟩,H.upd (U:=fun k=>va.ownBlock=some k∨k=h) ((hk.sub (fun k e=>.inl e)).step (Kp.set _ _ _ _) (fun k _ e=>.inr e)) (fun k e=>e.elim (fun e=>.inr (.inl e)) .inl) (blk_set h2 0 _)
  ((Kp.set _ _ _ _).row hr (fun k e1 e2=>row_ne hr h2 (by decide) (by rw [e1,e2]))) ((Kp.set _ _ _ _).row o2 (fun k e1 e2=>row_ne o2 h2 (by decide) (by rw [e1,e2]))) ((Kp.set _ _ _ _).row t2 (fun k e1 e2=>row_ne t2 h2 (by decide) (by rw [e1,e2]))) (fun k e=>?_)⟩
 rcases e with e|e
 ·exact (nb_old hn k e).imp .inl id
 ·exact .inl (.inr e)
theorem HI.opn (H:HI w0 g h va vo vt D ks T st S W) {w2:World}{v':Value}{ks':List Int}(hk:Kp (fun k=>vo.ownBlock=some k) W w2) (hr:Rk w2 v' ks'.reverse) (hn:Nb W vo v') :
  (w2.cell? ⟨h,1,none⟩=some vo∧w2.frozen? ⟨h,1,none⟩=false)∧HI w0 g h va v' vt D ks' T st S (w2.setCell ⟨h,1,none⟩ v'):=by
 have h2:HB w2 h va vo vt:=hk.blk H.hb (row_ne H.ro H.hb (by decide))
 have o2:=hk.row H.ra (fun k e1 e2=>row_two H.ra H.ro (by decide) k e1 e2)
 have t2:=hk.row H.rt (fun k e1 e2=>row_two H.rt H.ro (by decide) k e1 e2)
 refine ⟨⟨h2.cells.2.1,blk_frozen h2⟩,H.upd (U:=fun k=>vo.ownBlock=some k∨k=h) ((hk.sub (fun k e=>.inl e)).step (Kp.set _ _ _ _) (fun k _ e=>.inr e)) (fun k e=>e.elim (fun e=>.inr (.inr (.inl e))) .inl) (blk_set h2 1 _)
  ((Kp.set _ _ _ _).row o2 (fun k e1 e2=>row_ne o2 h2 (by decide) (by rw [e1,e2]))) ((Kp.set _ _ _ _).row hr (fun k e1 e2=>row_ne hr h2 (by decide) (by rw [e1,e2]))) ((Kp.set _ _ _ _).row t2 (fun k e1 e2=>row_ne t2 h2 (by decide) (by rw [e1,e2]))) (fun k e=>?_)⟩
 rcases e with e|e|e
 ·exact .inl (.inl e)
 ·exact (nb_old hn k e).imp (fun e=>.inr (.inl e)) id
 ·exact .inl (.inr (.inr e))
theorem HI.txt (H:HI w0 g h va vo vt D ks T st S W) {w2:World}{v':Value}{T':List ByteArray}(hk:Kp (fun k=>vt.ownBlock=some k) W w2) (hr:Rx w2 v' T') (hn:Nb W vt v') :
  (w2.cell? ⟨h,2,none⟩=some vt∧w2.frozen? ⟨h,2,none⟩=false)∧HI w0 g h va vo v' D ks T' st S (w2.setCell ⟨h,2,none⟩ v'):=by
 have h2:HB w2 h va vo vt:=hk.blk H.hb (row_ne H.rt H.hb (by decide))
 have o2:=hk.row H.ra (fun k e1 e2=>row_two H.ra H.rt (by decide) k e1 e2)
 have t2:=hk.row H.ro (fun k e1 e2=>row_two H.ro H.rt (by decide) k e1 e2)
 refine ⟨⟨h2.cells.2.2,blk_frozen h2⟩,H.upd (U:=fun k=>vt.ownBlock=some k∨k=h) ((hk.sub (fun k e=>.inl e)).step (Kp.set _ _ _ _) (fun k _ e=>.inr e)) (fun k e=>e.elim (fun e=>.inr (.inr (.inr e))) .inl) (blk_set h2 2 _)
  ((Kp.set _ _ _ _).row o2 (fun k e1 e2=>row_ne o2 h2 (by decide) (by rw [e1,e2]))) ((Kp.set _ _ _ _).row t2 (fun k e1 e2=>row_ne t2 h2 (by decide) (by rw [e1,e2]))) ((Kp.set _ _ _ _).row hr (fun k e1 e2=>row_ne hr h2 (by decide) (by rw [e1,e2]))) (fun k e=>?_)⟩
 rcases e with e|e|e
 ·exact .inl (.inl e)
 ·exact .inl (.inr (.inl e))
 ·exact (nb_old hn k e).imp (fun e=>.inr (.inr e)) id
theorem HI.call (H:HI w0 g h va vo vt D ks T st S W) {W':World}{x:Value}{ds:List Dc}{st':Sst}(hp:Aq S g W W' x ds st'):(∃S',HI w0 g h va vo vt D ks T st' S' W')∧Rd W' x ds:=by
 obtain ⟨⟨S',p1,p3,p4⟩,hre,hkp⟩:=hp
 have hn:∀k,(k=h∨va.ownBlock=some k∨vo.ownBlock=some k∨vt.ownBlock=some k)→¬S k:=fun k e=>e.elim (fun e=>by rw [e];exact H.hS) (fun e=>(H.vB k e).2)
 have hlt:∀k,(k=h∨va.ownBlock=some k∨vo.ownBlock=some k∨vt.ownBlock=some k)→k<W.heap.size:=fun k e=>by
  rcases e with e|e|e|e
  ·rw [e];exact blk_lt H.hb
  ·exact row_lt H.ra k e
  ·exact row_lt H.ro k e
  ·exact row_lt H.rt k e
 have hn':∀k,(k=h∨va.ownBlock=some k∨vo.ownBlock=some k∨vt.ownBlock=some k)→¬S' k:=fun k e hs=>by
  rcases p3 k hs with a|a
  ·exact hn k e a
  ·have:=hlt k e;omega
 refine ⟨⟨S',kp_low2 H.bel hkp (fun k hk=>H.sB k hk) H.bel.size,p1,fun k hk=>(p3 k hk).elim (H.sB k) (fun e=>Nat.le_trans H.bel.size e),hkp.blk H.hb (hn h (.inl rfl)),H.h0,hn' h (.inl rfl),
  hkp.row H.ra (fun k e=>hn k (.inr (.inl e))),hkp.row H.ro (fun k e=>hn k (.inr (.inr (.inl e)))),hkp.row H.rt (fun k e=>hn k (.inr (.inr (.inr e)))),fun k e=>⟨(H.vB k e).1,hn' k (.inr e)⟩⟩,hre⟩
end
theorem inf_kind:(Tryz.prog.info? 32).map (fun i=>(i.zero,i.size,i.bytes))=some (some (.int .u8 0),1,1):=by kernel_rfl
theorem inf_str:(Tryz.prog.info? 9).map (fun i=>(i.zero,i.size,i.bytes))=some (some (.string ⟨#[]⟩),1,16):=by kernel_rfl
theorem step_k {W:World}{ops:Array Oper}{o:Oper}{a:Act}{K:Act→World→Prop}{Q:Exit→Act→World→Prop}{E:Prop}(hgd:o.guard=none) (s x:Operand)
  (ho:o.op=.call { callee:=.builtin .append,args:=#[s,x],argTypes:=#[47,47] }) (v:Value) (l:List Int) (d:Int) (hs:a.eval s=v) (hr:Rk W v l)
  (g c:Nat) (hx:a.eval x=.slice (some ⟨g,0,none⟩) 1 c) (hg:W.heap[g]?=some (.cells #[.int .u8 d] 32 (0,0))) (hl:l.length≤1000000000)
  (h:∀q cap w',Rk w' (.slice (some ⟨q,0,none⟩) (l.length+1) cap) (l++[d])→W.grownBy w' v.ownBlock→(v.ownBlock=some q∨q=W.heap.size)→K (a.put o.dst (.slice (some ⟨q,0,none⟩) (l.length+1) cap)) w') :
  if Region.wanted o (yielded ops a.tmps)=true then Oper.wp Tryz.prog o a W K Q else E:=by
 obtain ⟨i0,hi,hz0,hz1,hz2⟩:=info_parts inf_kind
 refine step_append_lies W hgd s x 47 ho 0 32 i0 _ 1 1 Tryz.underlying47 hi hz0 hz1 hz2 rfl (by decide) v _ _ hs hr ⟨g,0,none⟩ 1 c [.int .u8 d] hx rfl ?_ (by intro u hu;simp at hu;subst hu;rfl) (by omega) (by unfold maxLen;omega) (by omega) (Nat.zero_le _) _ rfl ?_
 ·intro j u hu
  exact World.news_of_block hg j u (by simpa using hu)
 ·intro q cap w' a1 a2 a3 _
  refine h q cap w' ?_ a2 a3
  unfold Rk
  rw [List.length_append,List.map_append]
  exact a1
theorem step_x {W:World}{ops:Array Oper}{o:Oper}{a:Act}{K:Act→World→Prop}{Q:Exit→Act→World→Prop}{E:Prop}(hgd:o.guard=none) (s x:Operand)
  (ho:o.op=.call { callee:=.builtin .append,args:=#[s,x],argTypes:=#[48,48] }) (v:Value) (l:List ByteArray) (d:ByteArray) (hs:a.eval s=v) (hr:Rx W v l)
  (g c:Nat) (hx:a.eval x=.slice (some ⟨g,0,none⟩) 1 c) (hg:W.heap[g]?=some (.cells #[.string d] 9 (0,0))) (hl:l.length≤1000000000)
  (h:∀q cap w',Rx w' (.slice (some ⟨q,0,none⟩) (l.length+1) cap) (l++[d])→W.grownBy w' v.ownBlock→(v.ownBlock=some q∨q=W.heap.size)→K (a.put o.dst (.slice (some ⟨q,0,none⟩) (l.length+1) cap)) w') :
  if Region.wanted o (yielded ops a.tmps)=true then Oper.wp Tryz.prog o a W K Q else E:=by
 obtain ⟨i0,hi,hz0,hz1,hz2⟩:=info_parts inf_str
 refine step_append_lies W hgd s x 48 ho 0 9 i0 _ 1 16 Tryz.underlying48 hi hz0 hz1 hz2 rfl (by decide) v _ _ hs hr ⟨g,0,none⟩ 1 c [.string d] hx rfl ?_ (by intro u hu;simp at hu;subst hu;rfl) (by omega) (by unfold maxLen;omega) (by omega) (Nat.zero_le _) _ rfl ?_
 ·intro j u hu
  exact World.news_of_block hg j u (by simpa using hu)
 ·intro q cap w' a1 a2 a3 _
  refine h q cap w' ?_ a2 a3
  unfold Rx
  rw [List.length_append,List.map_append]
  exact a1
theorem rk_last {W:World}{v:Value}{ys:List Int}{x:Int}(h:Rk W v (x :: ys).reverse):∃b cap,v=.slice (some ⟨b,0,none⟩) (ys.length+1) cap∧ys.length+1≤cap∧W.cell? ⟨b,ys.length,none⟩=some (.int .u8 x)∧Rk W (.slice (some ⟨b,0,none⟩) ys.length cap) ys.reverse:=by
 rcases h.2 with ⟨_,h0⟩|⟨b,cap,cur,hv,h1,h2,h3,h4,h5,h6⟩
 ·simp at h0
 ·have hl:(x :: ys).reverse.length=ys.length+1:=by simp
  rw [hl] at hv h3
  have hc:=World.ownsRow.cells h (g:=b) (by rw [hv];rfl) ys.length (.int .u8 x) (by simp)
  rw [Addr.add_lit,Nat.zero_add] at hc
  refine ⟨b,cap,hv,h3,hc,by simp,.inr ⟨b,cap,cur,by rw [List.length_reverse],h1,h2,by rw [List.length_reverse];omega,h4,h5,?_⟩⟩
  rw [hl] at h6
  have:=congrArg (List.take ys.length) h6
  rw [List.take_take] at this
  rw [List.length_reverse]
  simpa [Nat.min_eq_left] using this
end Go.Proofs.YtpdlohfdjiaegaaGreatDoor
