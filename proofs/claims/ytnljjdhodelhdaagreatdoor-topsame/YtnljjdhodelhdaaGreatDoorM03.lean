import Derived.Lib.Bytealg
import Derived.Lib.Walk
import Derived.Shelf.RegionOpenPlain
import Derived.RangeFuncNested
import Derived.RangeFuncBound
import Derived.RangeFuncCalls
import Derived.RangeFuncLeaves
import Derived.Shelf.Abstract
import Derived.Shelf.RegionOpen
import Derived.OwnWalkIn
import Derived.TacticsInMore
import Derived.LoopNIn
import Derived.LoopIn
import Derived.Test.YtnljjdhodelhdaaGreatDoorM02
set_option linter.unusedVariables false
set_option linter.unusedSimpArgs false
set_option maxHeartbeats 2000000
set_option maxRecDepth 100000
namespace Go.Proofs.YtnljjdhodelhdaaGreatDoor.Lx
open Go.RowKit
variable {z m p b:Nat}{s:ByteArray}
inductive Rd where
 |out (p e:Nat)
 |on (n:Nat)
def rZ (g:Nat->Nat->Rd):Nat->Nat->Nat->Nat × Nat
 |0,a,_=>(a,0)
 |f+1,a,m=>match g a m with
  |.out p e=>(p,e)
  |.on n=>rZ g f (a+n) (m+1)
def run (g:Nat->Nat->Rd) (z a m:Nat):Nat × Nat:=rZ g (z+1-a) a m
def gj (g:Nat->Nat->Rd) (z:Nat):Prop:=∀a m n,g a m=.on n->1<=n/\a+n<=z
theorem qP {g:Nat->Nat->Rd}(hg:gj g z):∀(f f' a m:Nat),z+1<=a+f->z+1<=a+f'->a<=z->rZ g f a m=rZ g f' a m
 |0,_,_,_,h,_,h2=>by omega
 |_+1,0,_,_,_,h,h2=>by omega
 |f+1,f'+1,a,m,h,h1,h2=>by
  unfold rZ;cases e:g a m with
  |out p e=>rfl
  |on n=>
   obtain ⟨h3,h4⟩:=hg a m n e;exact qP hg f f' (a+n) (m+1) (by omega) (by omega) h4
theorem cr {g:Nat->Nat->Rd}{a e:Nat}(ha:a<=z) (h:g a m=.out p e):run g z a m=(p,e):=by
 unfold run;rw [show z+1-a=(z-a)+1 by omega];unfold rZ;rw [h]
theorem fD {g:Nat->Nat->Rd}{a n:Nat}(hg:gj g z) (ha:a<=z) (h:g a m=.on n):run g z a m=run g z (a+n) (m+1):=by
 obtain ⟨h1,h2⟩:=hg a m n h;unfold run;rw [show z+1-a=(z-a)+1 by omega];rw [show rZ g (z-a+1) a m=rZ g (z-a) (a+n) (m+1) by rw [rZ,h]];exact qP hg _ _ _ _ (by omega) (by omega) h2
theorem cZ {g:Nat->Nat->Rd}(hg:gj g z) (I:Nat->Nat->Prop) (Q:Nat × Nat->Prop)
  (hO:∀a m p e,a<=z->I a m->g a m=.out p e->Q (p,e)) (hN:∀a m n,a<=z->I a m->g a m=.on n->I (a+n) (m+1)) :
  ∀(d a m:Nat),z-a<=d->a<=z->I a m->Q (run g z a m)
 |d,a,m,hd,ha,hI=>by
  cases e:g a m with
  |out p q=>rw [cr ha e];exact hO a m p q ha hI e
  |on n=>
   obtain ⟨h3,h4⟩:=hg a m n e;rw [fD hg ha e];cases d with
   |zero=>omega
   |succ d=>exact cZ hg I Q hO hN d (a+n) (m+1) (by omega) h4 (hN a m n ha hI e)
def cV (c:Nat):Bool:=c == 32 || c == 9 || c == 13
def gn (s:ByteArray) (i:Nat):Bool:=gd s i && (decide (dp s i<32) || dp s i == 127)
def cM (c:Nat):Bool:=decide (48<=c) && decide (c<=57)
def ak (s:ByteArray) (a:Nat):Nat:=
 if (gd s a && fG (dp s a))=true then 1 else if cM (ay s a)=true then 3 else if ay s a=34 then 4 else if ay s a=39 then 5
 else if ay s a=47/\a+1<s.size/\ay s (a+1)=47 then 7 else if ay s a=123 then 8 else if (sg s a).size≠0 then 6 else 0
def ci (s:ByteArray) (f k:Nat) (a _:Nat):Rd:=
 if s.size<=a then .out a 0
 else if (k=1/\(gd s a && jD (dp s a))=false)\/(k=3/\cM (ay s a)=false) then .out a 0
 else if 65535<a+dw s a-f then .out f 103
 else .on (dw s a)
def cy (s:ByteArray) (f q:Nat) (only:Bool) (a m:Nat):Rd:=
 if s.size<=a\/ay s a=10 then .out f 101
 else if 65535<a+dw s a-f then .out f 103
 else if ay s a=q/\(only=false\/m=1) then .out (a+1) 0
 else if gn s a=true\/(only=true/\(m=1\/ay s a=q)) then .out a 102
 else .on (dw s a)
def bI (s:ByteArray) (f:Nat) (blk:Bool) (a _:Nat):Rd:=
 if s.size<=a then (if blk=true then .out f 101 else .out a 0)
 else if blk=false/\ay s a=10 then .out a 0
 else if 65535<a+1-f then .out f 103
 else if blk=true/\ay s a=125 then .out (a+1) 0
 else .on 1
theorem da (s:ByteArray) (f k:Nat):gj (ci s f k) s.size:=by
 intro a m n h;unfold ci at h
 split at h
 ·cases h
 ·rename_i h1
  obtain ⟨h2,h3,h4⟩:=aW s a (by omega)
  split at h
  ·cases h
  ·split at h
   ·cases h
   ·cases h;exact ⟨h2,h4⟩
theorem fe (s:ByteArray) (f q:Nat) (o:Bool):gj (cy s f q o) s.size:=by
 intro a m n h;unfold cy at h
 split at h
 ·cases h
 ·rename_i h1
  obtain ⟨h2,h3,h4⟩:=aW s a (by omega)
  split at h
  ·cases h
  ·split at h
   ·cases h
   ·split at h
    ·cases h
    ·cases h;exact ⟨h2,h4⟩
theorem dd (s:ByteArray) (f:Nat) (o:Bool):gj (bI s f o) s.size:=by
 intro a m n h;unfold bI at h
 split at h
 ·split at h <;> cases h
 ·rename_i h1
  split at h
  ·cases h
  ·split at h
   ·cases h
   ·split at h
    ·cases h
    ·cases h;exact ⟨gt _,by omega⟩
def ap (s:ByteArray) (a k:Nat):Nat × Nat:=
 if k=4 then run (cy s a 34 false) s.size (a+1) 0
 else if k=5 then run (cy s a 39 true) s.size (a+1) 0
 else if k=7 then run (bI s a false) s.size a 0
 else if k=8 then run (bI s a true) s.size a 0
 else if k=6 then (a+(sg s a).size,0)
 else run (ci s a k) s.size a 0
theorem jJ (s:ByteArray) (a:Nat) (h:(sg s a).size≠0):a+(sg s a).size<=s.size/\s.extract a (a+(sg s a).size)=sg s a/\sg s a∈bk:=by
 unfold sg at h ⊢;cases e:bk.find? (pre s a) with
 |none=>rw [e] at h;exact absurd rfl h
 |some x=>
  have h1:=List.find?_some e;have h2:=TU e;unfold pre at h1;have h3:=RE h1;exact ⟨h3.1,h3.2,h2⟩
theorem L7 (s:ByteArray) (a:Nat):(sg s a).size<=2:=by
 by_cases h:(sg s a).size≠0
 ·have h1:=(jJ s a h).2.2;have h2:∀x∈bk,x.size<=2:=by decide
  exact h2 _ h1
 ·omega
theorem eC (s:ByteArray) (a k p:Nat) (ha:a<s.size) (hk:ak s a=k) (h0:k≠0) (h:ap s a k=(p,0)):a<p/\p<=s.size:=by
 obtain ⟨d1,d2,d3⟩:=aW s a ha
 have hQ:∀q o,run (cy s a q o) s.size (a+1) 0=(p,0)->a<p/\p<=s.size:=by
  intro q o h
  have:=cZ (fe s a q o) (fun b _=>a<b) (fun r=>r.2=0->a<r.1/\r.1<=s.size) (by
   intro b m x e hb hI hx he;unfold cy at hx
   split at hx
   ·cases hx;cases he
   ·split at hx
    ·cases hx;cases he
    ·split at hx
     ·cases hx;exact ⟨by show a<b+1;omega,by show b+1<=s.size;omega⟩
     ·split at hx
      ·cases hx;cases he
      ·cases hx) (by intro b m n hb hI hx;show a<b+n;omega) _ (a+1) 0 (gt _) (by omega) (by show a<a+1;omega)
  rw [h] at this;exact this rfl
 have hC:∀o,(o=true->ay s a≠125)->(o=false->ay s a≠10)->run (bI s a o) s.size a 0=(p,0)->a<p/\p<=s.size:=by
  intro o h1 h2 h
  have:=cZ (dd s a o) (fun b _=>a<=b) (fun r=>r.2=0->a<r.1/\r.1<=s.size) (by
   intro b m x e hb hI hx he;unfold bI at hx
   split at hx
   ·split at hx
    ·cases hx;cases he
    ·cases hx;exact ⟨by show a<b;omega,hb⟩
   ·split at hx
    ·rename_i h3
     cases hx;refine ⟨?_,hb⟩;show a<b
     rcases Uu a b with h4|h4
     ·exact h4
     ·exact absurd (by rw [show a=b by omega];exact h3.2) (h2 h3.1)
    ·split at hx
     ·cases hx;cases he
     ·split at hx
      ·cases hx;exact ⟨by show a<b+1;omega,by show b+1<=s.size;omega⟩
      ·cases hx) (by intro b m n hb hI hx;show a<=b+n;omega) _ a 0 (gt _) (by omega) (gt _)
  rw [h] at this;exact this rfl
 have hR:((k=1/\(gd s a && jD (dp s a))=false)\/(k=3/\cM (ay s a)=false)->False)->run (ci s a k) s.size a 0=(p,0)->a<p/\p<=s.size:=by
  intro h1 h
  have:=cZ (da s a k) (fun b _=>a<=b) (fun r=>r.2=0->a<r.1/\r.1<=s.size) (by
   intro b m x e hb hI hx he;unfold ci at hx
   split at hx
   ·cases hx;exact ⟨by show a<b;omega,hb⟩
   ·split at hx
    ·rename_i h3
     cases hx;refine ⟨?_,hb⟩;show a<b
     rcases Uu a b with h4|h4
     ·exact h4
     ·have:b=a:=Nat.le_antisymm h4 hI;rw [this] at h3;exact absurd h3 h1
    ·split at hx
     ·cases hx;cases he
     ·cases hx) (by intro b m n hb hI hx;show a<=b+n;omega) _ a 0 (gt _) (by omega) (gt _)
  rw [h] at this;exact this rfl
 unfold ap at h;unfold ak at hk
 by_cases c1:(gd s a && fG (dp s a))=true
 ·rw [IO c1] at hk;subst hk;simp only [show ¬(1:Nat)=4 by decide,show ¬(1:Nat)=5 by decide,show ¬(1:Nat)=7 by decide,show ¬(1:Nat)=8 by decide,show ¬(1:Nat)=6 by decide,R7] at h;refine hR ?_ h;rintro (⟨_,h3⟩|⟨h3,_⟩)
  ·rw [Q1] at c1;rw [c1.1,uR c1.2] at h3;cases h3
  ·cases h3
 ·rw [Eq c1] at hk
  by_cases c2:cM (ay s a)=true
  ·rw [IO c2] at hk;subst hk;simp only [show ¬(3:Nat)=4 by decide,show ¬(3:Nat)=5 by decide,show ¬(3:Nat)=7 by decide,show ¬(3:Nat)=8 by decide,show ¬(3:Nat)=6 by decide,R7] at h;refine hR ?_ h;rintro (⟨h3,_⟩|⟨_,h3⟩)
   ·cases h3
   ·rw [c2] at h3;cases h3
  ·rw [Eq c2] at hk
   by_cases c3:ay s a=34
   ·rw [IO c3] at hk;subst hk;rw [IO rfl] at h;exact hQ _ _ h
   ·rw [Eq c3] at hk
    by_cases c4:ay s a=39
    ·rw [IO c4] at hk;subst hk;rw [Eq (by decide),IO rfl] at h;exact hQ _ _ h
    ·rw [Eq c4] at hk
     by_cases c5:ay s a=47/\a+1<s.size/\ay s (a+1)=47
     ·rw [IO c5] at hk;subst hk;rw [Eq (by decide),Eq (by decide),IO rfl] at h;exact hC false (by intro h;cases h) (by intro _;rw [c5.1];decide) h
     ·rw [Eq c5] at hk
      by_cases c6:ay s a=123
      ·rw [IO c6] at hk;subst hk;rw [Eq (by decide),Eq (by decide),Eq (by decide),IO rfl] at h;exact hC true (by intro _;rw [c6];decide) (by intro h;cases h) h
      ·rw [Eq c6] at hk
       by_cases c7:(sg s a).size≠0
       ·rw [IO c7] at hk;subst hk;rw [Eq (by decide),Eq (by decide),Eq (by decide),Eq (by decide),IO rfl] at h;cases h;exact ⟨by omega,(jJ s a c7).1⟩
       ·rw [Eq c7] at hk;exact absurd hk.symm h0
structure Tk where
 k:Nat
 a:Nat
 e:Nat
 f:Nat
def be (s:ByteArray):Nat->Nat
 |0=>0
 |p+1=>if cV (ay s p)=true then be s p else p+1
def cQ (s:ByteArray) (k a p f:Nat):Tk:=⟨if k=1/\ky (s.extract a p)=true then 2 else k,a,if k=7 then be s p else p,f⟩
def lP (s:ByteArray):Nat->Nat->Nat->List Tk × Nat × Nat
 |0,_,_=>([],0,0)
 |g+1,a,f=>
  if s.size<=a then ([],0,0)
  else if ay s a=10 then lP s g (a+1) (f+1)
  else if cV (ay s a)=true then lP s g (a+1) f
  else if ak s a=0 then ([],100,a)
  else if (ap s a (ak s a)).2≠0 then ([],(ap s a (ak s a)).2,(ap s a (ak s a)).1)
  else (cQ s (ak s a) a (ap s a (ak s a)).1 f :: (lP s g (ap s a (ak s a)).1 0).1,(lP s g (ap s a (ak s a)).1 0).2)
def gT (s:ByteArray) (a f:Nat):List Tk × Nat × Nat:=lP s (s.size-a) a f
theorem ju (s:ByteArray):∀(g g' a f:Nat),s.size<=a+g->s.size<=a+g'->lP s g a f=lP s g' a f
 |0,0,_,_,_,_=>rfl
 |0,g'+1,a,f,h,_=>by unfold lP;rw [IO (by omega)]
 |g+1,0,a,f,_,h=>by
  rw [show lP s 0 a f=([],0,0) from rfl];unfold lP;rw [IO (by omega)]
 |g+1,g'+1,a,f,h,h'=>by
  unfold lP
  by_cases h1:s.size<=a
  ·rw [IO h1,IO h1]
  ·rw [Eq h1,Eq h1,ju s g g' (a+1) (f+1) (by omega) (by omega),ju s g g' (a+1) f (by omega) (by omega)]
   by_cases h2:ak s a=0
   ·rw [IO h2,IO h2]
   ·by_cases h3:(ap s a (ak s a)).2≠0
    ·rw [IO h3,IO h3]
    ·have h4:=eC s a (ak s a) (ap s a (ak s a)).1 (by omega) rfl h2 (UW rfl (by simpa using h3));rw [ju s g g' _ 0 (by omega) (by omega)]
theorem eG (s:ByteArray) (a f:Nat) (h:s.size<=a):gT s a f=([],0,0):=by
 unfold gT;rw [show s.size-a=0 by omega];rfl
theorem cq (s:ByteArray) (a f:Nat) (h:a<s.size):gT s a f =
  if ay s a=10 then gT s (a+1) (f+1)
  else if cV (ay s a)=true then gT s (a+1) f
  else if ak s a=0 then ([],100,a)
  else if (ap s a (ak s a)).2≠0 then ([],(ap s a (ak s a)).2,(ap s a (ak s a)).1)
  else (cQ s (ak s a) a (ap s a (ak s a)).1 f :: (gT s (ap s a (ak s a)).1 0).1,(gT s (ap s a (ak s a)).1 0).2):=by
 have h0:gT s a f=lP s ((s.size-(a+1))+1) a f:=by unfold gT;rw [show s.size-a=(s.size-(a+1))+1 by omega]
 rw [h0];unfold lP;rw [Eq (by omega)]
 by_cases h2:ak s a=0
 ·simp only [IO h2];rfl
 ·by_cases h3:(ap s a (ak s a)).2≠0
  ·simp only [IO h3];rfl
  ·have h4:=eC s a (ak s a) (ap s a (ak s a)).1 h rfl h2 (UW rfl (by simpa using h3));rw [ju s (s.size-(a+1)) (s.size-(ap s a (ak s a)).1) (ap s a (ak s a)).1 0 (by omega) (by omega)];rfl
def fy (s:ByteArray):List Tk × Nat × Nat:=gT s 0 0
theorem fS (s:ByteArray):∀p,be s p<=p
 |0=>gt _
 |p+1=>by
  unfold be
  split
  ·have:=fS s p;omega
  ·exact gt _
theorem ja (s:ByteArray) (a:Nat) (h:cV (ay s a)=false):∀p,a<p->a<be s p
 |0,h1=>by omega
 |p+1,h1=>by
  unfold be
  by_cases e:cV (ay s p)=true
  ·rw [IO e];refine ja s a h p ?_
   rcases Uu a p with h2|h2
   ·exact h2
   ·rw [show a=p by omega,e] at h;cases h
  ·rw [Eq e];exact h1
theorem ox (s:ByteArray):∀p i,be s p<=i->i<p->cV (ay s i)=true
 |0,_,_,h=>by omega
 |p+1,i,h,h1=>by
  unfold be at h
  by_cases e:cV (ay s p)=true
  ·rw [IO e] at h
   by_cases e2:i=p
   ·rw [e2];exact e
   ·exact ox s p i h (by omega)
  ·rw [Eq e] at h;omega
theorem iO (s:ByteArray):∀(d a f:Nat),s.size-a<=d->∀t∈(gT s a f).1,a<=t.a/\t.a<t.e/\t.e<=s.size
 |d,a,f,hd,t,ht=>by
  by_cases h:a<s.size
  ·rw [cq s a f h] at ht;cases d with
   |zero=>omega
   |succ d=>
    by_cases h1:ay s a=10
    ·rw [IO h1] at ht;have:=iO s d (a+1) (f+1) (by omega) t ht;exact ⟨by omega,this.2⟩
    ·rw [Eq h1] at ht
     by_cases h2:cV (ay s a)=true
     ·rw [IO h2] at ht;have:=iO s d (a+1) f (by omega) t ht;exact ⟨by omega,this.2⟩
     ·rw [Eq h2] at ht
      by_cases h3:ak s a=0
      ·rw [IO h3] at ht;cases ht
      ·rw [Eq h3] at ht
       by_cases h4:(ap s a (ak s a)).2≠0
       ·rw [IO h4] at ht;cases ht
       ·rw [Eq h4] at ht;have h5:=eC s a (ak s a) (ap s a (ak s a)).1 h rfl h3 (UW rfl (by simpa using h4))
        rcases Rz.1 ht with rfl|ht
        ·refine ⟨gt _,?_,?_⟩
         ·show a<if _ then _ else _
          split
          ·exact ja s a (by simpa using h2) _ h5.1
          ·exact h5.1
         ·show (if _ then _ else _)<=s.size
          split
          ·exact Q0 (fS s _) h5.2
          ·exact h5.2
        ·have:=iO s d _ 0 (by omega) t ht;exact ⟨by omega,this.2⟩
  ·rw [eG s a f (by omega)] at ht;cases ht
theorem bv (s:ByteArray) (i:Nat) (h:ay s i<128):dw s i=1/\dp s i=ay s i/\gd s i=true:=by
 have e:Utf8.decode s i=(ay s i,1):=by rw [bZ];unfold D;rw [IO h]
 unfold gd dw dp;rw [e];refine ⟨rfl,rfl,?_⟩;show JT (ay s i:Int) 1=true;have hn:((ay s i:Int) != 65533)=true:=by simp;omega
 unfold JT;rw [hn];rfl
theorem FW (s:ByteArray) (i:Nat) (h:dp s i<128):ay s i=dp s i:=by
 by_cases h8:ay s i<128
 ·exact (bv s i h8).2.1.symm
 ·exfalso
  unfold dp at h;rw [bZ] at h;unfold D at h;rw [Eq h8] at h
  repeat' split at h
  all_goals first|(rename_i h2;simp only [ge_iff_le,Q1,RC] at h2;omega)|(simp only [] at h;omega)|(exact absurd h (by decide))
theorem Lj (s:ByteArray) (i c:Nat) (hc:c<128):dp s i=c↔ay s i=c:=by
 constructor
 ·intro h;rw [FW s i (by omega),h]
 ·intro h;rw [(bv s i (by omega)).2.1,h]
theorem jZ (s:ByteArray) (j:Nat) (hj:j<s.size) (h:ay s j<128):bd s j/\bd s (j+1):=by
 obtain ⟨m,h1,h2,h3,h4,h5⟩:=kh s j (P s).length (by rw [oF s _ (gt _)];exact hj)
 have e:st s m=j:=by
  apply RH;intro hne
  have:=(jx s (st s m) (j-st s m) (by omega) (by omega)).2;rw [show st s m+(j-st s m)=j by omega] at this;omega
 refine ⟨⟨m,by omega,e⟩,⟨m+1,by omega,?_⟩⟩;rw [eX s m h2,e,(bv s j h).1]
theorem jB {a:Nat}(h:bd s a) (ha:a<s.size):bd s (a+dw s a):=by
 obtain ⟨k,hk,rfl⟩:=h;have hk2:=(gq s k).1 ha;exact ⟨k+1,by omega,eX s k hk2⟩
theorem KB {a:Nat}(ha:bd s a) (hb:bd s b) (hab:a<=b):bd (s.extract 0 b) a:=by
 obtain ⟨i,hi,rfl⟩:=ha;obtain ⟨j,hj,rfl⟩:=hb
 have hij:i<=j:=by
  apply RH;intro h
  have:=lu s j i (by omega) hi;omega
 have e:=ux s j hj i hij;have e2:=Pm s j hj;unfold hd at e e2;exact ⟨i,by omega,e⟩
def pL (s:ByteArray) (a:Nat):Int:=fw 1 (s.extract 0 a)
def pC (s:ByteArray) (a:Nat):Int:=jE 1 (s.extract 0 a)
theorem MC (s:ByteArray):pL s 0=1/\pC s 0=1:=by
 have e:s.extract 0 0=ByteArray.empty:=by
  have hz:(s.extract 0 0).size=0:=by rw [az s 0 0 (QU _)]
  exact fh _ _ (by rw [hz];rfl) (fun j hj=>by omega)
 unfold pL pC;rw [e];have z:ByteArray.empty.size=0:=rfl
 have hp:(P (ByteArray.empty.extract (lf ByteArray.empty 0) 0)).length=0:=by
  have h1:=AH (ByteArray.empty.extract (lf ByteArray.empty 0) 0);have h2:=az ByteArray.empty (lf ByteArray.empty 0) 0 (QU _);omega
 constructor
 ·unfold fw;rw [z];show wrap64 (1+((0:Nat):Int))=1;unfold wrap64;omega
 ·unfold jE;rw [z,hp];show wrap64 (1+((0:Nat):Int))=1;unfold wrap64;omega
theorem GW {a:Nat}(ha:bd s a) (hb:bd s b) (hab:a<=b) (hs:s.size<=2147483647) :
  LG a (s.extract a b)=b/\fw (pL s a) (s.extract a b)=pL s b/\jE (pC s a) (s.extract a b)=pC s b:=by
 have hb2:=Gy hb;have z:(s.extract 0 b).size=b:=by rw [az s 0 b hb2];rfl
 have e1:(s.extract 0 b).extract 0 a=s.extract 0 a:=by
  rw [gz s 0 b 0 a hb2 (by omega) (QU _),Q8,Q8]
 have e2:(s.extract 0 b).extract a b=s.extract a b:=by
  rw [gz s 0 b a b hb2 (by omega) hab,Q8,Q8]
 refine ⟨?_,?_,?_⟩
 ·unfold LG;rw [az s a b hb2];unfold wrap64;omega
 ·have h:=BP (s.extract 0 b) a (by omega) 1;rw [z,e1,e2] at h;exact h
 ·have h:=F9 (s.extract 0 b) a (KB ha hb hab) 1;rw [z,e1,e2] at h;exact h
theorem Oz (s:ByteArray) (a:Nat):-9223372036854775808<=pL s a/\pL s a<=9223372036854775807:=by
 unfold pL fw wrap64;omega
theorem uD:∀x∈bk,(x.size=1\/x.size=2)/\ay x (x.size-1)<128:=by decide
theorem Na {a k e:Nat}(hs:bd s a) (ha:a<s.size) (hk:ak s a=k) (h0:k≠0) (h:ap s a k=(p,e)):bd s p:=by
 have hQ:∀q o,q<128->ay s a=q->run (cy s a q o) s.size (a+1) 0=(p,e)->bd s p:=by
  intro q o hq hq2 h
  have:=cZ (fe s a q o) (fun b _=>bd s b) (fun r=>bd s r.1) (by
   intro b m x e hb hI hx;unfold cy at hx
   split at hx
   ·cases hx;exact hs
   ·rename_i h1
    split at hx
    ·cases hx;exact hs
    ·split at hx
     ·rename_i h3
      cases hx;exact (jZ s b (by omega) (by omega)).2
     ·split at hx
      ·cases hx;exact hI
      ·cases hx) (by
   intro b m n hb hI hx;unfold cy at hx
   split at hx
   ·cases hx
   ·rename_i h1
    split at hx
    ·cases hx
    ·split at hx
     ·cases hx
     ·split at hx
      ·cases hx
      ·cases hx;exact jB hI (by omega)) _ (a+1) 0 (gt _) (by omega) (jZ s a ha (by omega)).2
  rw [h] at this;exact this
 have hC:∀o,run (bI s a o) s.size a 0=(p,e)->bd s p:=by
  intro o h
  have:=cZ (dd s a o) (fun _ _=>True) (fun r=>bd s r.1) (by
   intro b m x e hb hI hx;unfold bI at hx
   split at hx
   ·split at hx
    ·cases hx;exact hs
    ·cases hx;rw [show b=s.size by omega];exact AA s
   ·split at hx
    ·rename_i h3
     cases hx;exact (Gx s b h3.2).1
    ·split at hx
     ·cases hx;exact hs
     ·split at hx
      ·rename_i h3
       cases hx;exact (jZ s b (by omega) (by omega)).2
      ·cases hx) (by intros;trivial) _ a 0 (gt _) (by omega) trivial
  rw [h] at this;exact this
 have hR:∀k,run (ci s a k) s.size a 0=(p,e)->bd s p:=by
  intro k h
  have:=cZ (da s a k) (fun b _=>bd s b) (fun r=>bd s r.1) (by
   intro b m x e hb hI hx;unfold ci at hx
   split at hx
   ·cases hx;exact hI
   ·split at hx
    ·cases hx;exact hI
    ·split at hx
     ·cases hx;exact hs
     ·cases hx) (by
   intro b m n hb hI hx;unfold ci at hx
   split at hx
   ·cases hx
   ·split at hx
    ·cases hx
    ·split at hx
     ·cases hx
     ·cases hx;exact jB hI (by omega)) _ a 0 (gt _) (by omega) hs
  rw [h] at this;exact this
 unfold ap at h
 by_cases k4:k=4
 ·rw [IO k4] at h;refine hQ 34 _ (by decide) ?_ h;rw [k4] at hk;unfold ak at hk
  repeat' split at hk
  all_goals first|assumption|(cases hk;done)
 ·rw [Eq k4] at h
  by_cases k5:k=5
  ·rw [IO k5] at h;refine hQ 39 _ (by decide) ?_ h;rw [k5] at hk;unfold ak at hk
   repeat' split at hk
   all_goals first|assumption|(cases hk;done)
  ·rw [Eq k5] at h
   by_cases k7:k=7
   ·rw [IO k7] at h;exact hC _ h
   ·rw [Eq k7] at h
    by_cases k8:k=8
    ·rw [IO k8] at h;exact hC _ h
    ·rw [Eq k8] at h
     by_cases k6:k=6
     ·rw [IO k6] at h;cases h
      have hsz:(sg s a).size≠0:=by
       rw [k6] at hk;unfold ak at hk
       repeat' split at hk
       all_goals first|assumption|(cases hk;done)
      obtain ⟨g1,g2,g3⟩:=jJ s a hsz;obtain ⟨g4,g5⟩:=uD _ g3
      have e1:ay s (a+((sg s a).size-1))<128:=by
       rw [<-g2] at g5;rw [az s _ _ g1,aS s a _ _ (by omega)] at g5;rw [show a+((sg s a).size-1)=a+(a+(sg s a).size-a-1) by omega];exact g5
      have:=(jZ s _ (by omega) e1).2;rw [show a+((sg s a).size-1)+1=a+(sg s a).size by omega] at this;exact this
     ·rw [Eq k6] at h;exact hR _ h
theorem Ny {c:Nat}(h:cV c=true):c<128:=by
 unfold cV at h;simp at h;omega
theorem J8 {s:ByteArray}{a k p e:Nat}(ha:a<s.size) (h:ap s a k=(p,e)) (he:e≠0):(p=a/\(e=101\/e=103))\/(e=102/\a<p/\p<=s.size):=by
 have hQ:∀q o,run (cy s a q o) s.size (a+1) 0=(p,e)->(p=a/\(e=101\/e=103))\/(e=102/\a<p/\p<=s.size):=by
  intro q o h
  have:=cZ (fe s a q o) (fun b _=>a<b) (fun r=>r.2≠0->(r.1=a/\(r.2=101\/r.2=103))\/(r.2=102/\a<r.1/\r.1<=s.size)) (by
   intro b m x e hb hI hx he;unfold cy at hx
   split at hx
   ·cases hx;exact .inl ⟨rfl,.inl rfl⟩
   ·split at hx
    ·cases hx;exact .inl ⟨rfl,.inr rfl⟩
    ·split at hx
     ·cases hx;exact absurd rfl he
     ·split at hx
      ·cases hx;exact .inr ⟨rfl,hI,hb⟩
      ·cases hx) (by intro b m n hb hI hx;show a<b+n;omega) _ (a+1) 0 (gt _) (by omega) (by show a<a+1;omega)
  rw [h] at this;exact this he
 have hC:∀o,run (bI s a o) s.size a 0=(p,e)->p=a/\(e=101\/e=103):=by
  intro o h
  have:=cZ (dd s a o) (fun _ _=>True) (fun r=>r.2≠0->r.1=a/\(r.2=101\/r.2=103)) (by
   intro b m x e hb hI hx he;unfold bI at hx
   split at hx
   ·split at hx
    ·cases hx;exact ⟨rfl,.inl rfl⟩
    ·cases hx;exact absurd rfl he
   ·split at hx
    ·cases hx;exact absurd rfl he
    ·split at hx
     ·cases hx;exact ⟨rfl,.inr rfl⟩
     ·split at hx
      ·cases hx;exact absurd rfl he
      ·cases hx) (by intros;trivial) _ a 0 (gt _) (by omega) trivial
  rw [h] at this;exact this he
 have hR:∀k,run (ci s a k) s.size a 0=(p,e)->p=a/\(e=101\/e=103):=by
  intro k h
  have:=cZ (da s a k) (fun _ _=>True) (fun r=>r.2≠0->r.1=a/\(r.2=101\/r.2=103)) (by
   intro b m x e hb hI hx he;unfold ci at hx
   split at hx
   ·cases hx;exact absurd rfl he
   ·split at hx
    ·cases hx;exact absurd rfl he
    ·split at hx
     ·cases hx;exact ⟨rfl,.inr rfl⟩
     ·cases hx) (by intros;trivial) _ a 0 (gt _) (by omega) trivial
  rw [h] at this;exact this he
 unfold ap at h
 split at h
 ·exact hQ _ _ h
 ·split at h
  ·exact hQ _ _ h
  ·split at h
   ·exact .inl (hC _ h)
   ·split at h
    ·exact .inl (hC _ h)
    ·split at h
     ·cases h;exact absurd rfl he
     ·exact .inl (hR _ h)
def tv (s:ByteArray) (t:Tk):Tv:=⟨t.k,s.extract t.a t.e,t.a,pL s t.a,pC s t.a,t.f⟩
def AV (w:World) (s:ByteArray) (e:Ending) (w':World):Prop:=
 (∃v,e=.returned (.tuple #[v,.int .i64 (fy s).2.1,.agg #[.int .i64 (if (fy s).2.1=0 then 0 else (fy s).2.2),.int .i64 (if (fy s).2.1=0 then 0 else pL s (fy s).2.2),.int .i64 (if (fy s).2.1=0 then 0 else pC s (fy s).2.2)]])/\Rt w.heap.size w' v ((fy s).1.map (tv s)))/\Below w.heap.size w w'
theorem Py:∀l:List UInt8,(Lib.indexByte l 10=-1/\∀k:Nat,k<l.length->l[k]?≠some (10:UInt8))\/∃j:Nat,Lib.indexByte l 10=(j:Int)/\j<l.length/\l[j]?=some (10:UInt8)/\∀k,k<j->l[k]?≠some (10:UInt8)
 |[]=>.inl ⟨rfl,fun k h=>by simp at h⟩
 |b :: l=>by
  unfold Lib.indexByte
  by_cases hb:b=10
  ·exact .inr ⟨0,by simp [hb],by simp,by simp [hb],fun k h=>by omega⟩
  ·have hb':(b == (10:UInt8))=false:=by simpa using hb
   rw [hb']
   rcases Py l with ⟨h1,h2⟩|⟨j,h1,h2,h3,h4⟩
   ·left
    refine ⟨by simp [h1],fun k hk=>?_⟩;cases k with
    |zero=>simpa using hb
    |succ k=>simp only [Sh];exact h2 k (by simpa using hk)
   ·right
    refine ⟨j+1,?_,by simp;omega,by simpa using h3,fun k hk=>?_⟩
    ·have:¬((j:Int)=-1):=by omega
     simp [h1,this]
    ·cases k with
     |zero=>simpa using hb
     |succ k=>simp only [Sh];exact h4 k (by omega)
theorem pZ (s:ByteArray) (k:Nat) (h:k<s.size):ay s k=10↔s.data.toList[k]?=some (10:UInt8):=by
 have hz:k<s.data.size:=h
 have e:s.get! k=s.data.toList[k]?.getD default:=by
  show s.data[k]! = _
  rw [Ui,Tc,TF]
 unfold ay;rw [e,TF,Su hz];simp;constructor
 ·intro h;exact UL.1 h
 ·intro h;rw [h];rfl
def G4 (r:ByteArray):Int:=if nl r 0<r.size then (nl r 0:Int) else -1
theorem vI (r:ByteArray):Lib.indexByte r.data.toList 10=G4 r:=by
 have hz:r.data.toList.length=r.size:=by simp
 rcases Py r.data.toList with ⟨h1,h2⟩|⟨j,h1,h2,h3,h4⟩
 ·have e:nl r 0=r.size:=vh r 0 r.size (QU _) (gt _) (fun k _ hk=>fun hc=>h2 k (by omega) ((pZ r k hk).1 hc)) (.inl rfl);rw [h1];unfold G4;rw [Eq (by omega)]
 ·have e:nl r 0=j:=vh r 0 j (QU _) (by omega) (fun k _ hk=>fun hc=>h4 k hk ((pZ r k (by omega)).1 hc)) (.inr ((pZ r j (by omega)).2 h3));rw [h1];unfold G4;rw [IO (by omega),e]
theorem jW (s:ByteArray) (w:World) :
  Ra 217 #[.string s,.int .u8 10] w fun e w'=>e=.returned (.int .i64 (G4 s))/\w'=w:=by
 go_enter Tryz.func217,Tryz.ntmps217
 go_wp2
 rw [run_callFunc_extern Tryz.func245 (by kernel_rfl) (by kernel_rfl) (by kernel_rfl) (e:=Extern.BytealgIndexByte.indexByte) (by kernel_rfl),Lib.run_indexByteString];simp only [Result.andThen];rw [Oper.upon_value]
 go_wp2
 go_ret
 exact ⟨by rw [<-vI];rfl,rfl⟩
theorem jo (s:ByteArray) (w:World) :
  Ra 243 #[.string s,.string ⟨#[10]⟩] w fun e w'=>e=.returned (.int .i64 (G4 s))/\w'=w:=by
 go_enter Tryz.func243,Tryz.ntmps243
 go_wp2_with (go_at_call 217;refine (jW _ _).mono ?_;rintro e w' ⟨rfl,rfl⟩)
 ·have h:([(10:UInt8)] == s.toList)=true:=by assumption
  have e:s.data.toList=[10]:=by rw [<-Lib.toList_data];exact (R5.1 h).symm
  have e2:G4 s=0:=by rw [<-vI,e];rfl
  go_ret
  exact ⟨by rw [e2];rfl,rfl⟩
 ·go_ret
  exact ⟨rfl,rfl⟩
def tA (r:ByteArray):ByteArray:=r.extract 0 (nl r 0)
def qy (r:ByteArray):ByteArray:=if nl r 0<r.size then r.extract (nl r 0+1) r.size else ⟨#[]⟩
def qA (r:ByteArray):Bool:=decide (nl r 0<r.size)
theorem A2 (s:ByteArray) (w:World) (hs:s.size<=maxLen) :
  Ra 220 #[.string s,.string ⟨#[10]⟩] w fun e w'=>e=.returned (.tuple #[.string (tA s),.string (qy s),.bool (qA s)])/\Below w.heap.size w w':=by
 unfold maxLen at hs;have hn:=iB s 0 (QU _)
 by_cases h:nl s 0<s.size
 ·have Hi:Hid (G4 s=(nl s 0:Int)):=by show _=_;unfold G4;rw [IO h]
  have HL:Hid (tA s=s.extract 0 (nl s 0)):=rfl;have HR:Hid (qy s=s.extract (nl s 0+1) s.size):=by show _=_;unfold qy;rw [IO h]
  have HB:Hid (qA s=true):=by show _=_;unfold qA;simp [h]
  obtain ⟨n,hn'⟩:∃n,nl s 0=n:=⟨_,rfl⟩;rw [hn'] at Hi HL HR hn h;clear hn'
  go_enter Tryz.func220,Tryz.ntmps220
  go_wp2_with (go_at_call 243;refine (jo _ _).mono ?_;rintro e w' ⟨rfl,rfl⟩;rw [Hi.out])
  go_region
  go_wp2
  go_ret3
  exact ⟨by rw [HL.out,HR.out,HB.out];rfl,(hH _ _).drew⟩
 ·have Hi:Hid (G4 s=-1):=by show _=_;unfold G4;rw [Eq h]
  have HL:Hid (tA s=s):=by show _=_;unfold tA;rw [show nl s 0=s.size by omega,mG]
  have HR:Hid (qy s=⟨#[]⟩):=by show _=_;unfold qy;rw [Eq h]
  have HB:Hid (qA s=false):=by show _=_;unfold qA;simp [h]
  clear hn h
  go_enter Tryz.func220,Tryz.ntmps220
  go_wp2_with (go_at_call 243;refine (jo _ _).mono ?_;rintro e w' ⟨rfl,rfl⟩;rw [Hi.out])
  go_ret3
  exact ⟨by rw [HL.out,HR.out,HB.out];rfl,hH _ _⟩
theorem Ki (s:ByteArray) (w:World) (hs:s.size<=maxLen) :
  Ra 183 #[.string s,.string ⟨#[10]⟩] w fun e w'=>e=.returned (.tuple #[.string (tA s),.string (qy s),.bool (qA s)])/\Below w.heap.size w w':=by
 go_enter Tryz.func183,Tryz.ntmps183
 go_wp2_with (go_at_call 220;refine (A2 _ _ hs).mono ?_;rintro e w' ⟨rfl,hb⟩)
 go_ret3
 exact ⟨rfl,hb⟩
theorem BO (s:ByteArray) (w:World) :
  Ra 132 #[.string s] w fun e w'=>e=.returned (.func (.func 182) #[] #[.pointer (some ⟨w.heap.size,0,none⟩)])/\w'=w.alloc (.cells #[.string s] 9):=by
 have hmf:=mkfn
 go_enter Tryz.func132,Tryz.ntmps132
 go_wp2
 go_ret
 exact ⟨rfl,rfl⟩
end Go.Proofs.YtnljjdhodelhdaaGreatDoor.Lx
namespace Go.Proofs.YtnljjdhodelhdaaGreatDoor.Lx
open Go.RowKit Go.Shelf
variable {W W' w w':World}{B:Nat}{a l c:Int}{row:Option Nat}
attribute [local go_sem] Oper.semAt_some
def LN (s:ByteArray):Nat:=cn s s.size+1
def mO (s:ByteArray) (k:Nat):List (Int × ByteArray):=(List.range k).map (fun i=>(((i+1:Nat):Int),ln s i))
theorem lj (s:ByteArray) (k:Nat):mO s (k+1)=mO s k++[(((k+1:Nat):Int),ln s k)]:=by
 unfold mO;rw [List.range_succ,SQ];rfl
theorem C5 (s:ByteArray) (k:Nat):(mO s k).length=k:=by unfold mO;simp
theorem Jm (s:ByteArray) (a:Nat) (ha:a<=s.size):nl (s.extract a s.size) 0=nl s a-a:=by
 have z:=az s a s.size (gt _);obtain ⟨h1,h2,h3,h4⟩:=iB s a ha;refine vh _ 0 _ (QU _) (by omega) (fun k _ hk=>?_) ?_
 ·rw [aS s a s.size k (by omega)];exact h3 _ (by omega) (by omega)
 ·by_cases e:nl s a=s.size
  ·left;omega
  ·right;rw [aS s a s.size _ (by omega),show a+(nl s a-a)=nl s a by omega];exact h4 (by omega)
theorem Nn (s:ByteArray) (k:Nat) (h:k<LN s):tA (s.extract (bg s k) s.size)=ln s k/\qA (s.extract (bg s k) s.size)=decide (k+1<LN s) /\
  (k+1<LN s->qy (s.extract (bg s k) s.size)=s.extract (bg s (k+1)) s.size):=by
 unfold LN at h ⊢;have hb:=qc s k (by omega);obtain ⟨h1,h2,h3⟩:=K8 s k (by omega);have z:=az s (bg s k) s.size (gt _);have e:=Jm s (bg s k) hb.1;refine ⟨?_,?_,fun hk=>?_⟩
 ·unfold tA;rw [e,gz s (bg s k) s.size 0 _ (gt _) (by omega) (QU _),So,show bg s k+(nl s (bg s k)-bg s k)=nl s (bg s k) by omega];rfl
 ·unfold qA;rw [e,z]
  by_cases hc:nl s (bg s k)<s.size
  ·have:=h3.1 hc;rw [Q9 (by omega),Q9 (by omega)]
  ·have:¬k<cn s s.size:=fun hh=>hc (h3.2 hh)
   rw [Rf (by omega),Rf (by omega)]
 ·have hc:=h3.2 (by omega);unfold qy;rw [e,z,IO (by omega),gz s (bg s k) s.size _ _ (gt _) (by omega) (by omega)];show s.extract _ _=s.extract (nl s (bg s k)+1) _
  congr 1 <;> omega
abbrev Ln:={ x:Int × ByteArray // x.2.size<=maxLen }
abbrev Lc (x:Ln):Array Value:=#[.int .i64 x.1.1,.string x.1.2]
theorem iL (h:Below w.heap.size w w'):w.grownBy w' none:=⟨h.os,h.tape,h.output,h.size,fun k hk _=>h.block k hk⟩
theorem iH (h:Below w.heap.size w w'):KeepsOthers w w':=KeepsOthers.of_grownBy (iL h) (fun _ _ e=>by cases e)
theorem vu (n:Nat) (hn:1<=n) (Bn:Nat) (s:ByteArray) (hs:s.size<=2147483647) (w:World) (hB:Bn<w.heap.size) (hc:w.cell? ⟨Bn,0,none⟩=some (.string s)) :
  SeqStopsK Fence.wide n Tryz.prog 182 #[.pointer (some ⟨Bn,0,none⟩)] Lc (fun _ _=>True) (fun xs=>xs.map (·.1)=mO s (LN s)) (fun pre=>∃k,k<=LN s/\pre.map (·.1)=mO s k) (LN s) w:=fun l J Jx W hW hJ hJx hY h0=>by
 have hL:LN s<=2147483648:=by have:=Lo s s.size;unfold LN;omega
 have hcW:W.cell? ⟨Bn,0,none⟩=some (.string s):=(hW.cell (p:=⟨Bn,0,none⟩) hB).trans hc;refine callsIn_of_wp Tryz.func182 rfl trivial ?_ rfl;simp only [Tryz.ntmps182,TQ,List.length_cons,List.length_nil,Nat.reduceAdd,Nat.reduceSub,TR,TS,Um,TZ,RG,RA]
 gi_wp2
 gi_loopw [3,4,5] (fun r b m wr=>∃(k:Nat) (pre:List Ln) (q:ByteArray) (z:Int),r=.string q/\b=.bool (decide (k<LN s))/\m=.int .i64 z/\Hid (z=((k+1:Nat):Int))/\Hid (k<=LN s)/\Hid (pre.map (·.1)=mO s k)/\Hid (k<LN s->q=s.extract (bg s k) s.size)/\J pre wr)
  (fun _ _ m _=>LN s+1-(RowKit.intOf m).toNat)
 case atStart=>
  refine ⟨0,[],s,1,rfl,by rw [Q9 (by unfold LN;omega)],rfl,rfl,QU _,rfl,?_,h0⟩;intro _;rw [show bg s 0=0 from rfl,mG]
 case round=>
  obtain ⟨k,pre,q,z,rfl,rfl,rfl,HZ,HK,HP,HQ,hJs⟩:=hrel
  by_cases hk:k<LN s
  ·obtain ⟨e1,e2,e3⟩:=Nn s k hk;have hq:=HQ.out hk;have hqs:q.size<=maxLen:=by rw [hq,az _ _ _ (gt _)];unfold maxLen;omega
   have hls:(ln s k).size<=maxLen:=by have:=Jy s k (by unfold LN at hk;omega);unfold maxLen;omega
   rw [<-hq] at e1 e2 e3;obtain ⟨b,hb⟩:∃b,decide (k<LN s)=b:=⟨_,rfl⟩;have hbt:b=true:=by rw [<-hb];exact Q9 hk
   rw [hb,hbt];have HE1:Hid (tA q=ln s k):=e1;have HE2:Hid (qA q=decide (k+1<LN s)):=e2;have HE3:Hid (k+1<LN s->qy q=s.extract (bg s (k+1)) s.size):=e3;have HKL:Hid (k<LN s):=hk;have hz1:0<=z:=by have:=HZ.out;omega
   have hz2:z<=2147483648:=by have:=HZ.out;omega
   have HLEN:Hid (pre.length<LN s):=by
    show _<_
    have:=Rj List.length HP.out;rw [C5,Ua] at this;omega
   clear e1 e2 e3 hq hb hbt HQ hk;obtain ⟨L,hLL⟩:∃L,ln s k=L:=⟨_,rfl⟩;obtain ⟨CL,hCL⟩:∃L,tA q=L:=⟨_,rfl⟩;obtain ⟨CR,hCR⟩:∃L,qy q=L:=⟨_,rfl⟩;obtain ⟨CB,hCB⟩:∃L,qA q=L:=⟨_,rfl⟩
   have hcut:∀w,Ra 183 #[.string q,.string ⟨#[10]⟩] w fun e w'=>e=.returned (.tuple #[.string CL,.string CR,.bool CB])/\Below w.heap.size w w':=by
    intro w;rw [<-hCL,<-hCR,<-hCB];exact Ki q w hqs
   rw [hCL,hLL] at HE1;rw [hCB] at HE2;rw [hCR] at HE3;rw [hLL] at hls;obtain rfl:=HE1.out;have HLL:Hid (ln s k=CL):=hLL;clear hCL hCR hCB hLL
   gi_wp2
   refine ⟨trivial,?_⟩;refine (Tt.2 (hcut _)).mono ?_;rintro e w1 ⟨rfl,hb1⟩;have hJ1:=hJ pre _ w1 none hJs (iL hb1) (fun r e=>by cases e);obtain ⟨fn,tmps,assign,body,hy,hR⟩:=hY pre ⟨(z,CL),hls⟩ w1 hJ1 HLEN.out
   dsimp only [Lc] at hy
   gi_wp2
   refine hR.mono ?_;rintro e W3 (⟨rfl,hJ3,_⟩|⟨rfl,hJx3⟩)
   ·gi_wp2
    go_roundw
    case rel=>exact ⟨k+1,pre++[⟨(z,CL),hls⟩],CR,z+1,rfl,by rw [HE2.out],by go_num,by show _=_;rw [HZ.out];omega,HKL.out,by show _=_;rw [SQ,HP.out,lj,HLL.out,HZ.out];rfl,HE3.out,hJ3⟩
    case measure=>simp [RowKit.intOf];have:=HZ.out;have:=HKL.out;omega
   ·gi_wp2
    refine Rg (results_none rfl _ _ _) rfl ?_;exact ⟨⟨_,rfl⟩,.inr ⟨pre++[⟨(z,CL),hls⟩],⟨k+1,HKL.out,by rw [SQ,HP.out,lj,HLL.out,HZ.out];rfl⟩,hJx3⟩⟩
  ·have hbf:decide (k<LN s)=false:=Rf hk;rw [hbf];have HE:Hid (k=LN s):=by show _=_;have:=HK.out;omega
   clear hbf hk HQ
   gi_wp2
   go_end0
   exact ⟨⟨_,rfl⟩,.inl ⟨pre,by rw [HP.out,HE.out],hJs⟩⟩
attribute [local go_sem] Oper.semAt_some
attribute [local go_sem] Oper.semAt_some
def PP (a l c:Int):Value:=.agg #[.int .i64 a,.int .i64 l,.int .i64 c]
def bV (W:World) (B:Nat) (a l c:Int):Prop:=W.heap[B]?=some (.cells #[.int .i64 a,.int .i64 l,.int .i64 c] 30 (0,0))
theorem bV.lt (h:bV W B a l c):B<W.heap.size:=(Sl.1 h).1
theorem bV.cell0 (h:bV W B a l c):W.cell? ⟨B,0,none⟩=some (.int .i64 a):=by simp [World.cell?,show W.heap[B]?=_ from h]
theorem bV.cell1 (h:bV W B a l c):W.cell? ⟨B,1,none⟩=some (.int .i64 l):=by simp [World.cell?,show W.heap[B]?=_ from h]
theorem bV.cell2 (h:bV W B a l c):W.cell? ⟨B,2,none⟩=some (.int .i64 c):=by simp [World.cell?,show W.heap[B]?=_ from h]
theorem bV.frozen (h:bV W B a l c) (k:Nat):W.frozen? ⟨B,k,none⟩=false:=by simp [World.frozen?,show W.heap[B]?=_ from h]
theorem bV.new (W:World) (a l c:Int):bV (W.alloc (.cells #[.int .i64 a,.int .i64 l,.int .i64 c] 30)) W.heap.size a l c:=World.alloc_heap_new W _
theorem bV.kept (h:bV W B a l c) (hg:W.grownBy W' row) (hne:some B≠row):bV W' B a l c:=(hg.block B h.lt hne).trans h
theorem bV.alloc {W:World}{B:Nat}{a l c:Int}(h:bV W B a l c) (o:Obj):bV (W.alloc o) B a l c:=h.kept (World.grownBy_alloc W o none) (by simp)
theorem bV.below (h:bV W B a l c) (hb:Below W.heap.size W W'):bV W' B a l c:=(hb.block B h.lt).trans h
theorem bV.drew {W:World}{B:Nat}{a l c:Int}(h:bV W B a l c):bV W.drew B a l c:=h
theorem bV.set0 (h:bV W B a l c) (v:Int):bV (W.setCell ⟨B,0,none⟩ (.int .i64 v)) B v l c:=by
 obtain ⟨hlt,hk⟩:=Sl.1 h;show (W.heap.modify B _)[B]?=_;rw [Su (by rw [SL];exact hlt),Tm,hk];rfl
theorem bV.set1 (h:bV W B a l c) (v:Int):bV (W.setCell ⟨B,1,none⟩ (.int .i64 v)) B a v c:=by
 obtain ⟨hlt,hk⟩:=Sl.1 h;show (W.heap.modify B _)[B]?=_;rw [Su (by rw [SL];exact hlt),Tm,hk];rfl
theorem bV.set2 (h:bV W B a l c) (v:Int):bV (W.setCell ⟨B,2,none⟩ (.int .i64 v)) B a l v:=by
 obtain ⟨hlt,hk⟩:=Sl.1 h;show (W.heap.modify B _)[B]?=_;rw [Su (by rw [SL];exact hlt),Tm,hk];rfl
theorem jp (W:World) (p:Addr) (v:Value):W.grownBy (W.setCell p v) (some p.block):=
 ⟨rfl,rfl,rfl,(KeepsWalks.setCell W _ v).size,fun k _ hk=>T8 _ _ _ k (fun e=>hk (by rw [e]))⟩
theorem lU (h:bV W B a l c) (hg:W.grownBy W' row) (hr:∀r,row=some r->∃o:Obj,W.heap[r]?=some o/\o.isCells=false):bV W' B a l c:=
 h.kept hg (fun e=>by
  obtain ⟨o,ho,hc⟩:=hr B e.symm;rw [show W.heap[B]?=_ from h] at ho;cases ho;cases hc)
theorem Gp {W:World}{B:Nat}{a l c:Int}(h:bV W B a l c) {D:Nat}{o o':Obj}(hK:W.heap[D]?=some o) (ho:o.isCells=false):bV (W.putObj D o') B a l c:=
 lU h (grownBy_putObj' W D o') (fun r e=>by cases e;exact ⟨o,hK,ho⟩)
theorem F6 (s:ByteArray) (w:World) (hs:s.size<=maxLen) :
  Ra 133 #[.string s] w fun e w'=>e=.returned (.int .i64 (P s).length)/\Below w.heap.size w w':=
 (Cr s w hs).mono (fun e w' h=>⟨h.1,by obtain ⟨p,rfl⟩:=h.2;exact dY _ _ _⟩)
def iE (q:Int × Int) (x:Ln):Int × Int:=if 1<x.1.1 then (wrap64 (q.1+1),wrap64 (1+(P x.1.2).length)) else (q.1,wrap64 (q.2+(P x.1.2).length))
def jM (l c:Int) (xs:List Ln):Int × Int:=xs.foldl iE (l,c)
theorem ph (l c:Int) (xs:List Ln) (x:Ln):jM l c (xs++[x])=iE (jM l c xs) x:=by unfold jM;rw [List.foldl_append];rfl
theorem zQ (s:ByteArray) (l c:Int):∀(k:Nat) (xs:List Ln),xs.map (·.1)=mO s k->0<k->jM l c xs=(wrap64 (l+(k-1:Nat)),wrap64 ((if k=1 then c else 1)+(P (ln s (k-1))).length))\/(k=1/\jM l c xs=(l,wrap64 (c+(P (ln s 0)).length)))
 |0,_,_,h=>by omega
 |k+1,xs,hx,_=>by
  rw [lj] at hx
  obtain ⟨xs',y,rfl,h1,h2⟩:∃xs' y,xs=xs'++[y]/\xs'.map (·.1)=mO s k/\y.1=(((k+1:Nat):Int),ln s k):=by
   rcases List.eq_nil_or_concat xs with rfl|⟨xs',y,rfl⟩
   ·simp at hx
   ·rw [List.concat_eq_append,SQ] at hx;have:=TW hx (by simp);exact ⟨xs',y,by rw [List.concat_eq_append],this.1,by simpa using this.2⟩
  rw [ph];unfold iE;rw [h2]
  by_cases hk:k=0
  ·subst hk
   right
   obtain rfl:xs'=[]:=by simpa [mO] using h1
   rw [Eq (by simp)];exact ⟨rfl,rfl⟩
  ·left
   rw [IO (by show (1:Int)<((k+1:Nat):Int);omega),Eq (by omega)];show (_,_)=(_,_)
   congr 1
   rcases zQ s l c k xs' h1 (by omega) with e|⟨rfl,e⟩
   ·rw [e];show wrap64 (wrap64 (l+((k-1:Nat):Int))+1)=_;rw [oe];congr 1;omega
   ·rw [e];rfl
theorem Hh (x:Int) (h:-9223372036854775808<=x/\x<=9223372036854775807):wrap64 x=x:=by unfold wrap64;omega
theorem MO (s:ByteArray) (l c:Int) (hl:-9223372036854775808<=l/\l<=9223372036854775807) (xs:List Ln) (hx:xs.map (·.1)=mO s (LN s)):jM l c xs=(fw l s,jE c s):=by
 have hln:=Jz s;unfold fw jE
 rcases zQ s l c (LN s) xs hx (by unfold LN;omega) with e|⟨h1,e⟩
 ·rw [e];unfold LN;rw [show cn s s.size+1-1=cn s s.size by omega,hln]
  by_cases hz:cn s s.size=0
  ·rw [IO (by omega),IO hz]
  ·rw [Eq (by omega),Eq hz]
 ·have hz:cn s s.size=0:=by unfold LN at h1;omega
  rw [hz] at hln;rw [e,hz,IO rfl,hln]
  congr 1
  rw [Hh _ (by simp;exact hl)];simp
theorem KJ (a0 l0 c0:Int) (s:ByteArray) (w:World) (hs:s.size<=2147483647) (hl0:-9223372036854775808<=l0/\l0<=9223372036854775807) :
  Ra 90 #[.agg #[.int .i64 a0,.int .i64 l0,.int .i64 c0],.string s] w fun e w'=>e=.returned (PP (LG a0 s) (fw l0 s) (jE c0 s))/\Below w.heap.size w w':=by
 refine (Tt (n:=9)).1 ?_;refine callsIn_of_wp_marks Tryz.func90 rfl trivial ?_ rfl;simp only [Tryz.ntmps90,TQ,List.length_cons,List.length_nil,Nat.reduceAdd,Nat.reduceSub,TR,TS,Um,TZ,RG,RA]
 gi_wp2
 refine ⟨trivial,?_⟩;refine (Tt.2 (BO _ _)).mono ?_;rintro e w1 ⟨rfl,rfl⟩
 gi_wp2
 obtain ⟨a1,ha1⟩:∃a1,wrap64 (a0+(s.size:Int))=a1:=⟨_,rfl⟩;rw [ha1];have HA:Hid (LG a0 s=a1):=ha1;clear ha1;obtain ⟨W0,hW0⟩:∃W0,(((w.alloc (Obj.cells #[Value.int IntKind.i64 a1,Value.int IntKind.i64 l0,Value.int IntKind.i64 c0] 30)).alloc (Obj.cells #[Value.int IntKind.i64 0,Value.int IntKind.i64 0,Value.int IntKind.i64 0] 30)).alloc (Obj.cells #[Value.string s] 9))=W0:=⟨_,rfl⟩;have hsz:W0.heap.size=w.heap.size+1+1+1:=by rw [<-hW0];simp
 have b0:bV W0 w.heap.size a1 l0 c0:=by rw [<-hW0];exact ((bV.new w _ _ _).alloc _).alloc _
 have b1:bV W0 (w.heap.size+1) 0 0 0:=by rw [<-hW0];have:=(bV.new (w.alloc (Obj.cells #[Value.int IntKind.i64 a1,Value.int IntKind.i64 l0,Value.int IntKind.i64 c0] 30)) 0 0 0).alloc (Obj.cells #[Value.string s] 9);rw [QX] at this;exact this
 have b2:Boxed W0 (w.heap.size+1+1) 9 (.string s):=by rw [<-hW0];have:=Boxed.new ((w.alloc (Obj.cells #[Value.int IntKind.i64 a1,Value.int IntKind.i64 l0,Value.int IntKind.i64 c0] 30)).alloc (Obj.cells #[Value.int IntKind.i64 0,Value.int IntKind.i64 0,Value.int IntKind.i64 0] 30)) 9 (.string s);rw [QX,QX] at this;exact this
 have hB0:Below w.heap.size w W0:=by rw [<-hW0];exact (((hH _ w).alloc (gt _) _).alloc (by simp) _).alloc (by simp;omega) _
 rw [hW0];clear hW0;have hmx:Tryz.prog.follows .mixedOrders=true:=by kernel_rfl
 refine wpIn_rangeFunc_ownF rfl (by omega) (gf:=182) (lb:=#[.pointer (some ⟨w.heap.size+1+1,0,none⟩)]) rfl trivial (enters_of Tryz.func182 (by kernel_rfl) rfl)
  (vu 8 (by omega) (w.heap.size+1+1) s hs W0 (by omega) b2.cell) (fun _ _=>trivial) (fun _ _ _ _ _ _ _ _=>trivial) (hH _ _) (fun _=>rfl)
  (fun pre W=>(bV W w.heap.size a1 (jM l0 c0 pre).1 (jM l0 c0 pre).2/\bV W (w.heap.size+1) 0 0 0)/\Below w.heap.size w W)
  (fun _ _ _=>False)
  (OwnFrom.and (Own.from (fun s A B row hs hg hr=>⟨lU hs.1 hg hr,lU hs.2 hg hr⟩) _) (ownFrom_below (gt _) (by omega)))
  (fun _ _ _ _ _ hs _ _=>hs)
  ⟨⟨b0,b1⟩,hB0⟩
  (fun x=>{ tmps:=#[.agg #[.int .i64 a0,.int .i64 l0,.int .i64 c0],.string s,.pointer (some ⟨w.heap.size,0,none⟩),undef,.pointer (some ⟨w.heap.size+1,0,none⟩),.int .i64 x.1.1,.string x.1.2,.pointer (some ⟨w.heap.size,0,none⟩),.int .i64 a0,.string s,.int .i64 s.size,.int .i64 a1,.pointer (some ⟨w.heap.size,0,none⟩),.string s,.func (.func 182) #[] #[.pointer (some ⟨w.heap.size+1+1,0,none⟩)],.int .i64 x.1.1,.string x.1.2,undef,undef,undef,undef,undef,undef,undef,undef,undef,undef,undef,undef,undef,undef],defers:=[] }) ?assign ?body ?done ?stop
 case assign=>
  intro l x W K hK
  gi_wp2
  exact hK
 case body=>
  rintro l pre x W ⟨⟨k0,k1⟩,hB⟩ _;obtain ⟨q,hq⟩:∃q,jM l0 c0 pre=q:=⟨_,rfl⟩;have HQ:Hid (jM l0 c0 (pre++[x])=iE q x):=by show _=_;rw [ph,hq]
  rw [hq] at k0;clear hq;have g1:=k0.cell1;have g2:=k0.cell2;have f1:=k0.frozen 1;have f2:=k0.frozen 2;have hcount:∀w,Ra 133 #[.string x.1.2] w fun e w'=>e=.returned (.int .i64 (P x.1.2).length)/\Below w.heap.size w w':=fun w=>F6 _ w x.2
  by_cases hx:1<x.1.1
  ·have HX:Hid (iE q x=(wrap64 (q.1+1),wrap64 (1+(P x.1.2).length))):=by show _=_;unfold iE;rw [IO hx]
   gi_wp2
   have r0:=(k0.set1 (wrap64 (q.1+1))).set2 1;have r1:=(k1.kept (jp W ⟨w.heap.size,1,none⟩ (.int .i64 (wrap64 (q.1+1)))) (by simp)).kept (jp _ ⟨w.heap.size,2,none⟩ (.int .i64 1)) (by simp);have hkW:=(KeepsOthers.setCell W ⟨w.heap.size,1,none⟩ (.int .i64 (wrap64 (q.1+1)))).trans (KeepsOthers.setCell _ ⟨w.heap.size,2,none⟩ (.int .i64 1));have hB1:=(hB.setCell (p:=⟨w.heap.size,1,none⟩) (gt _) (.int .i64 (wrap64 (q.1+1)))).setCell (p:=⟨w.heap.size,2,none⟩) (gt _) (.int .i64 1);obtain ⟨Wm,hWm⟩:∃Wm,(W.setCell ⟨w.heap.size,1,none⟩ (.int .i64 (wrap64 (q.1+1)))).setCell ⟨w.heap.size,2,none⟩ (.int .i64 1)=Wm:=⟨_,rfl⟩;rw [hWm] at r0 r1 hkW hB1 ⊢;clear hWm g1 g2 f1 f2;have g2:=r0.cell2;have f2:=r0.frozen 2
   gi_region_with_o (refine ⟨trivial,?_⟩;gi_at_call 133;refine (CallsIn.inRound l (Tt.2 (hcount _))).mono ?_;rintro e w1 ⟨rfl,hb1⟩;have g3:=(r0.drew.below hb1).cell2;have f3:=(r0.drew.below hb1).frozen 2)
   all_goals gi_wp2
   all_goals (try go_bits)
   all_goals exact ⟨((hkW.trans (KeepsOthers.drew _)).trans (iH hb1)).trans (KeepsOthers.setCell _ _ _),trivial,⟨by rw [HQ.out,HX.out];exact (r0.drew.below hb1).set2 _,(bV.drew r1 |>.below hb1).kept (jp _ _ _) (by simp)⟩,(hB1.drew.trans (hb1.mono hB1.size)).setCell (p:=⟨w.heap.size,2,none⟩) (gt _) _⟩
  ·have HX:Hid (iE q x=(q.1,wrap64 (q.2+(P x.1.2).length))):=by show _=_;unfold iE;rw [Eq hx]
   gi_wp2
   gi_region_with_o (refine ⟨trivial,?_⟩;gi_at_call 133;refine (CallsIn.inRound l (Tt.2 (hcount _))).mono ?_;rintro e w1 ⟨rfl,hb1⟩;have g3:=(k0.drew.below hb1).cell2;have f3:=(k0.drew.below hb1).frozen 2)
   all_goals gi_wp2
   all_goals (try go_bits)
   all_goals exact ⟨((KeepsOthers.drew _).trans (iH hb1)).trans (KeepsOthers.setCell _ _ _),trivial,⟨by rw [HQ.out,HX.out];exact (k0.drew.below hb1).set2 _,(k1.drew.below hb1).kept (jp _ _ _) (by simp)⟩,(hB.drew.trans (hb1.mono hB.size)).setCell (p:=⟨w.heap.size,2,none⟩) (gt _) _⟩
 case done=>
  rintro D ys W hD hS ⟨⟨k0,k1⟩,hB⟩ hK;rw [MO s l0 c0 hl0 ys hS] at k0;obtain ⟨L,hL⟩:∃L,fw l0 s=L:=⟨_,rfl⟩;obtain ⟨C,hC⟩:∃C,jE c0 s=C:=⟨_,rfl⟩;rw [hL,hC] at k0;have HL:Hid (fw l0 s=L):=hL;have HC:Hid (jE c0 s=C):=hC;clear hL hC;have g0:=k0.cell0;have g1:=k0.cell1;have g2:=k0.cell2;have e0:=k1.cell0;have e1:=k1.cell1;have e2:=k1.cell2;have f0:=k1.frozen 0;have f1:=k1.frozen 1;have f2:=k1.frozen 2
  gi_wp2
  have hK':=(((KeepsOthers.setCell W ⟨w.heap.size+1,0,none⟩ (.int .i64 a1)).trans (KeepsOthers.setCell _ ⟨w.heap.size+1,1,none⟩ (.int .i64 L))).trans (KeepsOthers.setCell _ ⟨w.heap.size+1,2,none⟩ (.int .i64 C))).same D _ hK rfl;have j1:=((k1.set0 a1).set1 L).set2 C;have hB3:=((hB.setCell (p:=⟨w.heap.size+1,0,none⟩) (by simp) (.int .i64 a1)).setCell (p:=⟨w.heap.size+1,1,none⟩) (by simp) (.int .i64 L)).setCell (p:=⟨w.heap.size+1,2,none⟩) (by simp) (.int .i64 C);have m:=Gp (o':=.deferred none) j1 hK' rfl;have m0:=m.cell0;have m1:=m.cell1;have m2:=m.cell2;refine ⟨by simp,.inl ⟨_,_,rfl,run_takeDeferred hK',?_⟩⟩;refine ⟨.agg #[.int .i64 a1,.int .i64 L,.int .i64 C],?_,by rw [HA.out,HL.out,HC.out];rfl,hB3.trans (belowK_b (w:=w) (gt _) _ D _ _ (by omega) hK' rfl rfl)⟩;simp [results,Tryz.f90,go_sem,m0,m1,m2]
 case stop=>
  rintro D c pre W _ _ h _;exact h.elim
end Go.Proofs.YtnljjdhodelhdaaGreatDoor.Lx
