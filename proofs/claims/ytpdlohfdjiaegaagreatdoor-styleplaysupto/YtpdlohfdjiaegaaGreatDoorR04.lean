import Derived.Lib.Bytealg
import Derived.Lib.Walk
import Derived.Shelf.RegionOpenPlain
import Derived.RangeFuncNested
import Derived.RangeFuncBound
import Derived.RangeFuncCalls
import Derived.RangeFuncLeaves
import Derived.Shelf.Abstract
import Derived.Shelf.RegionOpen
import Derived.OwnWalkIn
import Derived.TacticsInMore
import Derived.LoopNIn
import Derived.LoopIn
import Derived.Test.YtpdlohfdjiaegaaGreatDoorR01
import Derived.Test.YtpdlohfdjiaegaaGreatDoorR03
set_option linter.unusedVariables false
set_option linter.unusedSimpArgs false
set_option maxHeartbeats 2000000
set_option maxRecDepth 100000
namespace Go.Proofs.YtpdlohfdjiaegaaGreatDoor.Lx
open Go.RowKit
variable {z m p b:Nat}{s:ByteArray}
inductive Rd where
 |out (p e:Nat)
 |on (n:Nat)
def jT (g:Nat->Nat->Rd):Nat->Nat->Nat->Nat × Nat
 |0,a,_=>(a,0)
 |f+1,a,m=>match g a m with
  |.out p e=>(p,e)
  |.on n=>jT g f (a+n) (m+1)
def run (g:Nat->Nat->Rd) (z a m:Nat):Nat × Nat:=jT g (z+1-a) a m
def gy (g:Nat->Nat->Rd) (z:Nat):Prop:=∀a m n,g a m=.on n->1<=n/\a+n<=z
theorem jt {g:Nat->Nat->Rd}(hg:gy g z):∀(f f' a m:Nat),z+1<=a+f->z+1<=a+f'->a<=z->jT g f a m=jT g f' a m
 |0,_,_,_,h,_,h2=>by omega
 |_+1,0,_,_,_,h,h2=>by omega
 |f+1,f'+1,a,m,h,h1,h2=>by
  unfold jT;cases e:g a m with
  |out p e=>rfl
  |on n=>
   obtain ⟨h3,h4⟩:=hg a m n e;exact jt hg f f' (a+n) (m+1) (by omega) (by omega) h4
theorem cr {g:Nat->Nat->Rd}{a e:Nat}(ha:a<=z) (h:g a m=.out p e):run g z a m=(p,e):=by
 unfold run;rw [show z+1-a=(z-a)+1 by omega];unfold jT;rw [h]
theorem jS {g:Nat->Nat->Rd}{a n:Nat}(hg:gy g z) (ha:a<=z) (h:g a m=.on n):run g z a m=run g z (a+n) (m+1):=by
 obtain ⟨h1,h2⟩:=hg a m n h;unfold run;rw [show z+1-a=(z-a)+1 by omega];rw [show jT g (z-a+1) a m=jT g (z-a) (a+n) (m+1) by rw [jT,h]];exact jt hg _ _ _ _ (by omega) (by omega) h2
theorem cJ {g:Nat->Nat->Rd}(hg:gy g z) (I:Nat->Nat->Prop) (Q:Nat × Nat->Prop)
  (hO:∀a m p e,a<=z->I a m->g a m=.out p e->Q (p,e)) (hN:∀a m n,a<=z->I a m->g a m=.on n->I (a+n) (m+1)) :
  ∀(d a m:Nat),z-a<=d->a<=z->I a m->Q (run g z a m)
 |d,a,m,hd,ha,hI=>by
  cases e:g a m with
  |out p q=>rw [cr ha e];exact hO a m p q ha hI e
  |on n=>
   obtain ⟨h3,h4⟩:=hg a m n e;rw [jS hg ha e];cases d with
   |zero=>omega
   |succ d=>exact cJ hg I Q hO hN d (a+n) (m+1) (by omega) h4 (hN a m n ha hI e)
def cC (c:Nat):Bool:=c == 32 || c == 9 || c == 13
def dJ (s:ByteArray) (i:Nat):Bool:=gd s i && (decide (dp s i<32) || dp s i == 127)
def bV (c:Nat):Bool:=decide (48<=c) && decide (c<=57)
def aq (s:ByteArray) (a:Nat):Nat:=
 if (gd s a && lt' (dp s a))=true then 1 else if bV (by8 s a)=true then 3 else if by8 s a=34 then 4 else if by8 s a=39 then 5
 else if by8 s a=47/\a+1<s.size/\by8 s (a+1)=47 then 7 else if by8 s a=123 then 8 else if (sg s a).size≠0 then 6 else 0
def bW (s:ByteArray) (f k:Nat) (a _:Nat):Rd:=
 if s.size<=a then .out a 0
 else if (k=1/\(gd s a && pr' (dp s a))=false)\/(k=3/\bV (by8 s a)=false) then .out a 0
 else if 65535<a+dw s a-f then .out f 103
 else .on (dw s a)
def bT (s:ByteArray) (f q:Nat) (only:Bool) (a m:Nat):Rd:=
 if s.size<=a\/by8 s a=10 then .out f 101
 else if 65535<a+dw s a-f then .out f 103
 else if by8 s a=q/\(only=false\/m=1) then .out (a+1) 0
 else if dJ s a=true\/(only=true/\(m=1\/by8 s a=q)) then .out a 102
 else .on (dw s a)
def bP (s:ByteArray) (f:Nat) (blk:Bool) (a _:Nat):Rd:=
 if s.size<=a then (if blk=true then .out f 101 else .out a 0)
 else if blk=false/\by8 s a=10 then .out a 0
 else if 65535<a+1-f then .out f 103
 else if blk=true/\by8 s a=125 then .out (a+1) 0
 else .on 1
theorem g6 (s:ByteArray) (f k:Nat):gy (bW s f k) s.size:=by
 intro a m n h;unfold bW at h
 split at h
 ·cases h
 ·rename_i h1
  obtain ⟨h2,h3,h4⟩:=aJ s a (by omega)
  split at h
  ·cases h
  ·split at h
   ·cases h
   ·cases h;exact ⟨h2,h4⟩
theorem g7 (s:ByteArray) (f q:Nat) (o:Bool):gy (bT s f q o) s.size:=by
 intro a m n h;unfold bT at h
 split at h
 ·cases h
 ·rename_i h1
  obtain ⟨h2,h3,h4⟩:=aJ s a (by omega)
  split at h
  ·cases h
  ·split at h
   ·cases h
   ·split at h
    ·cases h
    ·cases h;exact ⟨h2,h4⟩
theorem g8 (s:ByteArray) (f:Nat) (o:Bool):gy (bP s f o) s.size:=by
 intro a m n h;unfold bP at h
 split at h
 ·split at h <;> cases h
 ·rename_i h1
  split at h
  ·cases h
  ·split at h
   ·cases h
   ·split at h
    ·cases h
    ·cases h;exact ⟨eq _,by omega⟩
def ai (s:ByteArray) (a k:Nat):Nat × Nat:=
 if k=4 then run (bT s a 34 false) s.size (a+1) 0
 else if k=5 then run (bT s a 39 true) s.size (a+1) 0
 else if k=7 then run (bP s a false) s.size a 0
 else if k=8 then run (bP s a true) s.size a 0
 else if k=6 then (a+(sg s a).size,0)
 else run (bW s a k) s.size a 0
theorem ru (s:ByteArray) (a:Nat) (h:(sg s a).size≠0):a+(sg s a).size<=s.size/\s.extract a (a+(sg s a).size)=sg s a/\sg s a∈bD:=by
 unfold sg at h ⊢;cases e:bD.find? (pre s a) with
 |none=>rw [e] at h;exact absurd rfl h
 |some x=>
  have h1:=List.find?_some e;have h2:=List.mem_of_find?_eq_some e;unfold pre at h1;have h3:=zQ h1;exact ⟨h3.1,h3.2,h2⟩
theorem iq (s:ByteArray) (a k p:Nat) (ha:a<s.size) (hk:aq s a=k) (h0:k≠0) (h:ai s a k=(p,0)):a<p/\p<=s.size:=by
 obtain ⟨d1,d2,d3⟩:=aJ s a ha
 have hQ:∀q o,run (bT s a q o) s.size (a+1) 0=(p,0)->a<p/\p<=s.size:=by
  intro q o h
  have:=cJ (g7 s a q o) (fun b _=>a<b) (fun r=>r.2=0->a<r.1/\r.1<=s.size) (by
   intro b m x e hb hI hx he;unfold bT at hx
   split at hx
   ·cases hx;cases he
   ·split at hx
    ·cases hx;cases he
    ·split at hx
     ·cases hx;exact ⟨by show a<b+1;omega,by show b+1<=s.size;omega⟩
     ·split at hx
      ·cases hx;cases he
      ·cases hx) (by intro b m n hb hI hx;show a<b+n;omega) _ (a+1) 0 (eq _) (by omega) (by show a<a+1;omega)
  rw [h] at this;exact this rfl
 have hC:∀o,(o=true->by8 s a≠125)->(o=false->by8 s a≠10)->run (bP s a o) s.size a 0=(p,0)->a<p/\p<=s.size:=by
  intro o h1 h2 h
  have:=cJ (g8 s a o) (fun b _=>a<=b) (fun r=>r.2=0->a<r.1/\r.1<=s.size) (by
   intro b m x e hb hI hx he;unfold bP at hx
   split at hx
   ·split at hx
    ·cases hx;cases he
    ·cases hx;exact ⟨by show a<b;omega,hb⟩
   ·split at hx
    ·rename_i h3
     cases hx;refine ⟨?_,hb⟩;show a<b
     rcases Nat.lt_or_ge a b with h4|h4
     ·exact h4
     ·exact absurd (by rw [show a=b by omega];exact h3.2) (h2 h3.1)
    ·split at hx
     ·cases hx;cases he
     ·split at hx
      ·cases hx;exact ⟨by show a<b+1;omega,by show b+1<=s.size;omega⟩
      ·cases hx) (by intro b m n hb hI hx;show a<=b+n;omega) _ a 0 (eq _) (by omega) (eq _)
  rw [h] at this;exact this rfl
 have hR:((k=1/\(gd s a && pr' (dp s a))=false)\/(k=3/\bV (by8 s a)=false)->False)->run (bW s a k) s.size a 0=(p,0)->a<p/\p<=s.size:=by
  intro h1 h
  have:=cJ (g6 s a k) (fun b _=>a<=b) (fun r=>r.2=0->a<r.1/\r.1<=s.size) (by
   intro b m x e hb hI hx he;unfold bW at hx
   split at hx
   ·cases hx;exact ⟨by show a<b;omega,hb⟩
   ·split at hx
    ·rename_i h3
     cases hx;refine ⟨?_,hb⟩;show a<b
     rcases Nat.lt_or_ge a b with h4|h4
     ·exact h4
     ·have:b=a:=Nat.le_antisymm h4 hI;rw [this] at h3;exact absurd h3 h1
    ·split at hx
     ·cases hx;cases he
     ·cases hx) (by intro b m n hb hI hx;show a<=b+n;omega) _ a 0 (eq _) (by omega) (eq _)
  rw [h] at this;exact this rfl
 unfold ai at h;unfold aq at hk
 by_cases c1:(gd s a && lt' (dp s a))=true
 ·rw [zw c1] at hk;subst hk;simp only [show ¬(1:Nat)=4 by decide,show ¬(1:Nat)=5 by decide,show ¬(1:Nat)=7 by decide,show ¬(1:Nat)=8 by decide,show ¬(1:Nat)=6 by decide,if_false] at h;refine hR ?_ h;rintro (⟨_,h3⟩|⟨h3,_⟩)
  ·rw [zP] at c1;rw [c1.1,kV c1.2] at h3;cases h3
  ·cases h3
 ·rw [zu c1] at hk
  by_cases c2:bV (by8 s a)=true
  ·rw [zw c2] at hk;subst hk;simp only [show ¬(3:Nat)=4 by decide,show ¬(3:Nat)=5 by decide,show ¬(3:Nat)=7 by decide,show ¬(3:Nat)=8 by decide,show ¬(3:Nat)=6 by decide,if_false] at h;refine hR ?_ h;rintro (⟨h3,_⟩|⟨_,h3⟩)
   ·cases h3
   ·rw [c2] at h3;cases h3
  ·rw [zu c2] at hk
   by_cases c3:by8 s a=34
   ·rw [zw c3] at hk;subst hk;rw [zw rfl] at h;exact hQ _ _ h
   ·rw [zu c3] at hk
    by_cases c4:by8 s a=39
    ·rw [zw c4] at hk;subst hk;rw [zu (by decide),zw rfl] at h;exact hQ _ _ h
    ·rw [zu c4] at hk
     by_cases c5:by8 s a=47/\a+1<s.size/\by8 s (a+1)=47
     ·rw [zw c5] at hk;subst hk;rw [zu (by decide),zu (by decide),zw rfl] at h;exact hC false (by intro h;cases h) (by intro _;rw [c5.1];decide) h
     ·rw [zu c5] at hk
      by_cases c6:by8 s a=123
      ·rw [zw c6] at hk;subst hk;rw [zu (by decide),zu (by decide),zu (by decide),zw rfl] at h;exact hC true (by intro _;rw [c6];decide) (by intro h;cases h) h
      ·rw [zu c6] at hk
       by_cases c7:(sg s a).size≠0
       ·rw [zw c7] at hk;subst hk;rw [zu (by decide),zu (by decide),zu (by decide),zu (by decide),zw rfl] at h;cases h;exact ⟨by omega,(ru s a c7).1⟩
       ·rw [zu c7] at hk;exact absurd hk.symm h0
structure Tk where
 k:Nat
 a:Nat
 e:Nat
 f:Nat
def aZ (s:ByteArray):Nat->Nat
 |0=>0
 |p+1=>if cC (by8 s p)=true then aZ s p else p+1
def cj (s:ByteArray) (k a p f:Nat):Tk:=⟨if k=1/\ky (s.extract a p)=true then 2 else k,a,if k=7 then aZ s p else p,f⟩
def gn (s:ByteArray):Nat->Nat->Nat->List Tk × Nat × Nat
 |0,_,_=>([],0,0)
 |g+1,a,f=>
  if s.size<=a then ([],0,0)
  else if by8 s a=10 then gn s g (a+1) (f+1)
  else if cC (by8 s a)=true then gn s g (a+1) f
  else if aq s a=0 then ([],100,a)
  else if (ai s a (aq s a)).2≠0 then ([],(ai s a (aq s a)).2,(ai s a (aq s a)).1)
  else (cj s (aq s a) a (ai s a (aq s a)).1 f :: (gn s g (ai s a (aq s a)).1 0).1,(gn s g (ai s a (aq s a)).1 0).2)
def fnd (s:ByteArray) (a f:Nat):List Tk × Nat × Nat:=gn s (s.size-a) a f
theorem eT (s:ByteArray):∀(g g' a f:Nat),s.size<=a+g->s.size<=a+g'->gn s g a f=gn s g' a f
 |0,0,_,_,_,_=>rfl
 |0,g'+1,a,f,h,_=>by unfold gn;rw [zw (by omega)]
 |g+1,0,a,f,_,h=>by
  rw [show gn s 0 a f=([],0,0) from rfl];unfold gn;rw [zw (by omega)]
 |g+1,g'+1,a,f,h,h'=>by
  unfold gn
  by_cases h1:s.size<=a
  ·rw [zw h1,zw h1]
  ·rw [zu h1,zu h1,eT s g g' (a+1) (f+1) (by omega) (by omega),eT s g g' (a+1) f (by omega) (by omega)]
   by_cases h2:aq s a=0
   ·rw [zw h2,zw h2]
   ·by_cases h3:(ai s a (aq s a)).2≠0
    ·rw [zw h3,zw h3]
    ·have h4:=iq s a (aq s a) (ai s a (aq s a)).1 (by omega) rfl h2 (Prod.ext rfl (by simpa using h3));rw [eT s g g' _ 0 (by omega) (by omega)]
theorem vQ (s:ByteArray) (a f:Nat) (h:s.size<=a):fnd s a f=([],0,0):=by
 unfold fnd;rw [show s.size-a=0 by omega];rfl
theorem eI (s:ByteArray) (a f:Nat) (h:a<s.size):fnd s a f =
  if by8 s a=10 then fnd s (a+1) (f+1)
  else if cC (by8 s a)=true then fnd s (a+1) f
  else if aq s a=0 then ([],100,a)
  else if (ai s a (aq s a)).2≠0 then ([],(ai s a (aq s a)).2,(ai s a (aq s a)).1)
  else (cj s (aq s a) a (ai s a (aq s a)).1 f :: (fnd s (ai s a (aq s a)).1 0).1,(fnd s (ai s a (aq s a)).1 0).2):=by
 have h0:fnd s a f=gn s ((s.size-(a+1))+1) a f:=by unfold fnd;rw [show s.size-a=(s.size-(a+1))+1 by omega]
 rw [h0];unfold gn;rw [zu (by omega)]
 by_cases h2:aq s a=0
 ·simp only [zw h2];rfl
 ·by_cases h3:(ai s a (aq s a)).2≠0
  ·simp only [zw h3];rfl
  ·have h4:=iq s a (aq s a) (ai s a (aq s a)).1 h rfl h2 (Prod.ext rfl (by simpa using h3));rw [eT s (s.size-(a+1)) (s.size-(ai s a (aq s a)).1) (ai s a (aq s a)).1 0 (by omega) (by omega)];rfl
def scn (s:ByteArray):List Tk × Nat × Nat:=fnd s 0 0
theorem fZ (s:ByteArray):∀p,aZ s p<=p
 |0=>eq _
 |p+1=>by
  unfold aZ
  split
  ·have:=fZ s p;omega
  ·exact eq _
theorem jo (s:ByteArray) (a:Nat) (h:cC (by8 s a)=false):∀p,a<p->a<aZ s p
 |0,h1=>by omega
 |p+1,h1=>by
  unfold aZ
  by_cases e:cC (by8 s p)=true
  ·rw [zw e];refine jo s a h p ?_
   rcases Nat.lt_or_ge a p with h2|h2
   ·exact h2
   ·rw [show a=p by omega,e] at h;cases h
  ·rw [zu e];exact h1
theorem ip (s:ByteArray):∀p i,aZ s p<=i->i<p->cC (by8 s i)=true
 |0,_,_,h=>by omega
 |p+1,i,h,h1=>by
  unfold aZ at h
  by_cases e:cC (by8 s p)=true
  ·rw [zw e] at h
   by_cases e2:i=p
   ·rw [e2];exact e
   ·exact ip s p i h (by omega)
  ·rw [zu e] at h;omega
theorem bj (s:ByteArray) (i:Nat) (h:by8 s i<128):dw s i=1/\dp s i=by8 s i/\gd s i=true:=by
 have e:Utf8.decode s i=(by8 s i,1):=by rw [bR];unfold D;rw [zw h]
 unfold gd dw dp;rw [e];refine ⟨rfl,rfl,?_⟩;show gdb (by8 s i:Int) 1=true;have hn:((by8 s i:Int) != 65533)=true:=by simp;omega
 unfold gdb;rw [hn];rfl
theorem tu (s:ByteArray) (i:Nat) (h:dp s i<128):by8 s i=dp s i:=by
 by_cases h8:by8 s i<128
 ·exact (bj s i h8).2.1.symm
 ·exfalso
  unfold dp at h;rw [bR] at h;unfold D at h;rw [zu h8] at h
  repeat' split at h
  all_goals first|(rename_i h2;simp only [ge_iff_le,zP,zM] at h2;omega)|(simp only [] at h;omega)|(exact absurd h (by decide))
theorem wP (s:ByteArray) (i c:Nat) (hc:c<128):dp s i=c↔by8 s i=c:=by
 constructor
 ·intro h;rw [tu s i (by omega),h]
 ·intro h;rw [(bj s i (by omega)).2.1,h]
theorem fu (s:ByteArray) (j:Nat) (hj:j<s.size) (h:by8 s j<128):bd s j/\bd s (j+1):=by
 obtain ⟨m,h1,h2,h3,h4,h5⟩:=fA s j (P s).length (by rw [iy s _ (eq _)];exact hj)
 have e:st s m=j:=by
  apply Ap;intro hne
  have:=(gu s (st s m) (j-st s m) (by omega) (by omega)).2;rw [show st s m+(j-st s m)=j by omega] at this;omega
 refine ⟨⟨m,by omega,e⟩,⟨m+1,by omega,?_⟩⟩;rw [cI s m h2,e,(bj s j h).1]
theorem eY {a:Nat}(h:bd s a) (ha:a<s.size):bd s (a+dw s a):=by
 obtain ⟨k,hk,rfl⟩:=h;have hk2:=(dr s k).1 ha;exact ⟨k+1,by omega,cI s k hk2⟩
theorem ww {a:Nat}(ha:bd s a) (hb:bd s b) (hab:a<=b):bd (s.extract 0 b) a:=by
 obtain ⟨i,hi,rfl⟩:=ha;obtain ⟨j,hj,rfl⟩:=hb
 have hij:i<=j:=by
  apply Ap;intro h
  have:=gi s j i (by omega) hi;omega
 have e:=kK s j hj i hij;have e2:=zp s j hj;unfold hd at e e2;exact ⟨i,by omega,e⟩
def pL (s:ByteArray) (a:Nat):Int:=dD 1 (s.extract 0 a)
def pC (s:ByteArray) (a:Nat):Int:=gx 1 (s.extract 0 a)
theorem xA (s:ByteArray):pL s 0=1/\pC s 0=1:=by
 have e:s.extract 0 0=ByteArray.empty:=by
  have hz:(s.extract 0 0).size=0:=by rw [aC s 0 0 (zx _)]
  exact fP _ _ (by rw [hz];rfl) (fun j hj=>by omega)
 unfold pL pC;rw [e];have z:ByteArray.empty.size=0:=rfl
 have hp:(P (ByteArray.empty.extract (lf ByteArray.empty 0) 0)).length=0:=by
  have h1:=oP (ByteArray.empty.extract (lf ByteArray.empty 0) 0);have h2:=aC ByteArray.empty (lf ByteArray.empty 0) 0 (zx _);omega
 constructor
 ·unfold dD;rw [z];show wrap64 (1+((0:Nat):Int))=1;unfold wrap64;omega
 ·unfold gx;rw [z,hp];show wrap64 (1+((0:Nat):Int))=1;unfold wrap64;omega
theorem uf {a:Nat}(ha:bd s a) (hb:bd s b) (hab:a<=b) (hs:s.size<=2147483647) :
  aAt a (s.extract a b)=b/\dD (pL s a) (s.extract a b)=pL s b/\gx (pC s a) (s.extract a b)=pC s b:=by
 have hb2:=t6 hb;have z:(s.extract 0 b).size=b:=by rw [aC s 0 b hb2];rfl
 have e1:(s.extract 0 b).extract 0 a=s.extract 0 a:=by
  rw [ec s 0 b 0 a hb2 (by omega) (zx _),zC,zC]
 have e2:(s.extract 0 b).extract a b=s.extract a b:=by
  rw [ec s 0 b a b hb2 (by omega) hab,zC,zC]
 refine ⟨?_,?_,?_⟩
 ·unfold aAt;rw [aC s a b hb2];unfold wrap64;omega
 ·have h:=pZ (s.extract 0 b) a (by omega) 1;rw [z,e1,e2] at h;exact h
 ·have h:=tP (s.extract 0 b) a (ww ha hb hab) 1;rw [z,e1,e2] at h;exact h
theorem yO (s:ByteArray) (a:Nat):-9223372036854775808<=pL s a/\pL s a<=9223372036854775807:=by
 unfold pL dD wrap64;omega
theorem kN:∀x∈bD,(x.size=1\/x.size=2)/\by8 x (x.size-1)<128:=by decide
theorem xV {a k e:Nat}(hs:bd s a) (ha:a<s.size) (hk:aq s a=k) (h0:k≠0) (h:ai s a k=(p,e)):bd s p:=by
 have hQ:∀q o,q<128->by8 s a=q->run (bT s a q o) s.size (a+1) 0=(p,e)->bd s p:=by
  intro q o hq hq2 h
  have:=cJ (g7 s a q o) (fun b _=>bd s b) (fun r=>bd s r.1) (by
   intro b m x e hb hI hx;unfold bT at hx
   split at hx
   ·cases hx;exact hs
   ·rename_i h1
    split at hx
    ·cases hx;exact hs
    ·split at hx
     ·rename_i h3
      cases hx;exact (fu s b (by omega) (by omega)).2
     ·split at hx
      ·cases hx;exact hI
      ·cases hx) (by
   intro b m n hb hI hx;unfold bT at hx
   split at hx
   ·cases hx
   ·rename_i h1
    split at hx
    ·cases hx
    ·split at hx
     ·cases hx
     ·split at hx
      ·cases hx
      ·cases hx;exact eY hI (by omega)) _ (a+1) 0 (eq _) (by omega) (fu s a ha (by omega)).2
  rw [h] at this;exact this
 have hC:∀o,run (bP s a o) s.size a 0=(p,e)->bd s p:=by
  intro o h
  have:=cJ (g8 s a o) (fun _ _=>True) (fun r=>bd s r.1) (by
   intro b m x e hb hI hx;unfold bP at hx
   split at hx
   ·split at hx
    ·cases hx;exact hs
    ·cases hx;rw [show b=s.size by omega];exact oM s
   ·split at hx
    ·rename_i h3
     cases hx;exact (tZ s b h3.2).1
    ·split at hx
     ·cases hx;exact hs
     ·split at hx
      ·rename_i h3
       cases hx;exact (fu s b (by omega) (by omega)).2
      ·cases hx) (by intros;trivial) _ a 0 (eq _) (by omega) trivial
  rw [h] at this;exact this
 have hR:∀k,run (bW s a k) s.size a 0=(p,e)->bd s p:=by
  intro k h
  have:=cJ (g6 s a k) (fun b _=>bd s b) (fun r=>bd s r.1) (by
   intro b m x e hb hI hx;unfold bW at hx
   split at hx
   ·cases hx;exact hI
   ·split at hx
    ·cases hx;exact hI
    ·split at hx
     ·cases hx;exact hs
     ·cases hx) (by
   intro b m n hb hI hx;unfold bW at hx
   split at hx
   ·cases hx
   ·split at hx
    ·cases hx
    ·split at hx
     ·cases hx
     ·cases hx;exact eY hI (by omega)) _ a 0 (eq _) (by omega) hs
  rw [h] at this;exact this
 unfold ai at h
 by_cases k4:k=4
 ·rw [zw k4] at h;refine hQ 34 _ (by decide) ?_ h;rw [k4] at hk;unfold aq at hk
  repeat' split at hk
  all_goals first|assumption|(cases hk;done)
 ·rw [zu k4] at h
  by_cases k5:k=5
  ·rw [zw k5] at h;refine hQ 39 _ (by decide) ?_ h;rw [k5] at hk;unfold aq at hk
   repeat' split at hk
   all_goals first|assumption|(cases hk;done)
  ·rw [zu k5] at h
   by_cases k7:k=7
   ·rw [zw k7] at h;exact hC _ h
   ·rw [zu k7] at h
    by_cases k8:k=8
    ·rw [zw k8] at h;exact hC _ h
    ·rw [zu k8] at h
     by_cases k6:k=6
     ·rw [zw k6] at h;cases h
      have hsz:(sg s a).size≠0:=by
       rw [k6] at hk;unfold aq at hk
       repeat' split at hk
       all_goals first|assumption|(cases hk;done)
      obtain ⟨g1,g2,g3⟩:=ru s a hsz;obtain ⟨g4,g5⟩:=kN _ g3
      have e1:by8 s (a+((sg s a).size-1))<128:=by
       rw [<-g2] at g5;rw [aC s _ _ g1,bv s a _ _ (by omega)] at g5;rw [show a+((sg s a).size-1)=a+(a+(sg s a).size-a-1) by omega];exact g5
      have:=(fu s _ (by omega) e1).2;rw [show a+((sg s a).size-1)+1=a+(sg s a).size by omega] at this;exact this
     ·rw [zu k6] at h;exact hR _ h
theorem yj {c:Nat}(h:cC c=true):c<128:=by
 unfold cC at h;simp at h;omega
theorem vY {s:ByteArray}{a k p e:Nat}(ha:a<s.size) (h:ai s a k=(p,e)) (he:e≠0):(p=a/\(e=101\/e=103))\/(e=102/\a<p/\p<=s.size):=by
 have hQ:∀q o,run (bT s a q o) s.size (a+1) 0=(p,e)->(p=a/\(e=101\/e=103))\/(e=102/\a<p/\p<=s.size):=by
  intro q o h
  have:=cJ (g7 s a q o) (fun b _=>a<b) (fun r=>r.2≠0->(r.1=a/\(r.2=101\/r.2=103))\/(r.2=102/\a<r.1/\r.1<=s.size)) (by
   intro b m x e hb hI hx he;unfold bT at hx
   split at hx
   ·cases hx;exact .inl ⟨rfl,.inl rfl⟩
   ·split at hx
    ·cases hx;exact .inl ⟨rfl,.inr rfl⟩
    ·split at hx
     ·cases hx;exact absurd rfl he
     ·split at hx
      ·cases hx;exact .inr ⟨rfl,hI,hb⟩
      ·cases hx) (by intro b m n hb hI hx;show a<b+n;omega) _ (a+1) 0 (eq _) (by omega) (by show a<a+1;omega)
  rw [h] at this;exact this he
 have hC:∀o,run (bP s a o) s.size a 0=(p,e)->p=a/\(e=101\/e=103):=by
  intro o h
  have:=cJ (g8 s a o) (fun _ _=>True) (fun r=>r.2≠0->r.1=a/\(r.2=101\/r.2=103)) (by
   intro b m x e hb hI hx he;unfold bP at hx
   split at hx
   ·split at hx
    ·cases hx;exact ⟨rfl,.inl rfl⟩
    ·cases hx;exact absurd rfl he
   ·split at hx
    ·cases hx;exact absurd rfl he
    ·split at hx
     ·cases hx;exact ⟨rfl,.inr rfl⟩
     ·split at hx
      ·cases hx;exact absurd rfl he
      ·cases hx) (by intros;trivial) _ a 0 (eq _) (by omega) trivial
  rw [h] at this;exact this he
 have hR:∀k,run (bW s a k) s.size a 0=(p,e)->p=a/\(e=101\/e=103):=by
  intro k h
  have:=cJ (g6 s a k) (fun _ _=>True) (fun r=>r.2≠0->r.1=a/\(r.2=101\/r.2=103)) (by
   intro b m x e hb hI hx he;unfold bW at hx
   split at hx
   ·cases hx;exact absurd rfl he
   ·split at hx
    ·cases hx;exact absurd rfl he
    ·split at hx
     ·cases hx;exact ⟨rfl,.inr rfl⟩
     ·cases hx) (by intros;trivial) _ a 0 (eq _) (by omega) trivial
  rw [h] at this;exact this he
 unfold ai at h
 split at h
 ·exact hQ _ _ h
 ·split at h
  ·exact hQ _ _ h
  ·split at h
   ·exact .inl (hC _ h)
   ·split at h
    ·exact .inl (hC _ h)
    ·split at h
     ·cases h;exact absurd rfl he
     ·exact .inl (hR _ h)
def tv (s:ByteArray) (t:Tk):Tv:=⟨t.k,s.extract t.a t.e,t.a,pL s t.a,pC s t.a,t.f⟩
def AV (w:World) (s:ByteArray) (e:Ending) (w':World):Prop:=
 (∃v,e=.returned (.tuple #[v,.int .i64 (scn s).2.1,.agg #[.int .i64 (if (scn s).2.1=0 then 0 else (scn s).2.2),.int .i64 (if (scn s).2.1=0 then 0 else pL s (scn s).2.2),.int .i64 (if (scn s).2.1=0 then 0 else pC s (scn s).2.2)]])/\Rt w.heap.size w' v ((scn s).1.map (tv s)))/\Below w.heap.size w w'
theorem ixb:∀l:List UInt8,(Lib.indexByte l 10=-1/\∀k:Nat,k<l.length->l[k]?≠some (10:UInt8))\/∃j:Nat,Lib.indexByte l 10=(j:Int)/\j<l.length/\l[j]?=some (10:UInt8)/\∀k,k<j->l[k]?≠some (10:UInt8)
 |[]=>.inl ⟨rfl,fun k h=>by simp at h⟩
 |b :: l=>by
  unfold Lib.indexByte
  by_cases hb:b=10
  ·exact .inr ⟨0,by simp [hb],by simp,by simp [hb],fun k h=>by omega⟩
  ·have hb':(b == (10:UInt8))=false:=by simpa using hb
   rw [hb']
   rcases ixb l with ⟨h1,h2⟩|⟨j,h1,h2,h3,h4⟩
   ·left
    refine ⟨by simp [h1],fun k hk=>?_⟩;cases k with
    |zero=>simpa using hb
    |succ k=>simp only [BD];exact h2 k (by simpa using hk)
   ·right
    refine ⟨j+1,?_,by simp;omega,by simpa using h3,fun k hk=>?_⟩
    ·have:¬((j:Int)=-1):=by omega
     simp [h1,this]
    ·cases k with
     |zero=>simpa using hb
     |succ k=>simp only [BD];exact h4 k (by omega)
theorem ja (s:ByteArray) (k:Nat) (h:k<s.size):by8 s k=10↔s.data.toList[k]?=some (10:UInt8):=by
 have hz:k<s.data.size:=h
 have e:s.get! k=s.data.toList[k]?.getD default:=by
  show s.data[k]! = _
  rw [Array.getElem!_eq_getD,BL,BM]
 unfold by8;rw [e,BM,zY hz];simp;constructor
 ·intro h;exact DR.1 h
 ·intro h;rw [h];rfl
def nlI (r:ByteArray):Int:=if nl r 0<r.size then (nl r 0:Int) else -1
theorem lG (r:ByteArray):Lib.indexByte r.data.toList 10=nlI r:=by
 have hz:r.data.toList.length=r.size:=by simp
 rcases ixb r.data.toList with ⟨h1,h2⟩|⟨j,h1,h2,h3,h4⟩
 ·have e:nl r 0=r.size:=lr r 0 r.size (zx _) (eq _) (fun k _ hk=>fun hc=>h2 k (by omega) ((ja r k hk).1 hc)) (.inl rfl);rw [h1];unfold nlI;rw [zu (by omega)]
 ·have e:nl r 0=j:=lr r 0 j (zx _) (by omega) (fun k _ hk=>fun hc=>h4 k hk ((ja r k (by omega)).1 hc)) (.inr ((ja r j (by omega)).2 h3));rw [h1];unfold nlI;rw [zw (by omega),e]
theorem fq (s:ByteArray) (w:World) :
  Aa 234 #[.string s,.int .u8 10] w fun e w'=>e=.returned (.int .i64 (nlI s))/\w'=w:=by
 go_enter Tryz.func234,Tryz.ntmps234
 go_wp2
 rw [C1 Tryz.func248 (by kernel_rfl) (by kernel_rfl) (by kernel_rfl) (e:=Extern.BytealgIndexByte.indexByte) (by kernel_rfl),Lib.run_indexByteString];simp only [Result.andThen];rw [Oper.upon_value]
 go_wp2
 go_ret
 exact ⟨by rw [<-lG];rfl,rfl⟩
theorem eP (s:ByteArray) (w:World) :
  Aa 246 #[.string s,.string ⟨#[10]⟩] w fun e w'=>e=.returned (.int .i64 (nlI s))/\w'=w:=by
 go_enter Tryz.func246,Tryz.ntmps246
 go_wp2_with (go_at_call 234;refine (fq _ _).mono ?_;rintro e w' ⟨rfl,rfl⟩)
 ·have h:([(10:UInt8)] == s.toList)=true:=by assumption
  have e:s.data.toList=[10]:=by rw [<-Lib.toList_data];exact (Ch.1 h).symm
  have e2:nlI s=0:=by rw [<-lG,e];rfl
  go_ret
  exact ⟨by rw [e2];rfl,rfl⟩
 ·go_ret
  exact ⟨rfl,rfl⟩
def km (r:ByteArray):ByteArray:=r.extract 0 (nl r 0)
def jk (r:ByteArray):ByteArray:=if nl r 0<r.size then r.extract (nl r 0+1) r.size else ⟨#[]⟩
def jl (r:ByteArray):Bool:=decide (nl r 0<r.size)
theorem pe (s:ByteArray) (w:World) (hs:s.size<=maxLen) :
  Aa 237 #[.string s,.string ⟨#[10]⟩] w fun e w'=>e=.returned (.tuple #[.string (km s),.string (jk s),.bool (jl s)])/\Below w.heap.size w w':=by
 unfold maxLen at hs;have hn:=et s 0 (zx _)
 by_cases h:nl s 0<s.size
 ·have Hi:Hid (nlI s=(nl s 0:Int)):=by show _=_;unfold nlI;rw [zw h]
  have HL:Hid (km s=s.extract 0 (nl s 0)):=rfl;have HR:Hid (jk s=s.extract (nl s 0+1) s.size):=by show _=_;unfold jk;rw [zw h]
  have HB:Hid (jl s=true):=by show _=_;unfold jl;simp [h]
  obtain ⟨n,hn'⟩:∃n,nl s 0=n:=⟨_,rfl⟩;rw [hn'] at Hi HL HR hn h;clear hn'
  go_enter Tryz.func237,Tryz.ntmps237
  go_wp2_with (go_at_call 246;refine (eP _ _).mono ?_;rintro e w' ⟨rfl,rfl⟩;rw [Hi.out])
  go_region
  go_wp2
  go_ret3
  exact ⟨by rw [HL.out,HR.out,HB.out];rfl,(gt _ _).drew⟩
 ·have Hi:Hid (nlI s=-1):=by show _=_;unfold nlI;rw [zu h]
  have HL:Hid (km s=s):=by show _=_;unfold km;rw [show nl s 0=s.size by omega,gH]
  have HR:Hid (jk s=⟨#[]⟩):=by show _=_;unfold jk;rw [zu h]
  have HB:Hid (jl s=false):=by show _=_;unfold jl;simp [h]
  clear hn h
  go_enter Tryz.func237,Tryz.ntmps237
  go_wp2_with (go_at_call 246;refine (eP _ _).mono ?_;rintro e w' ⟨rfl,rfl⟩;rw [Hi.out])
  go_ret3
  exact ⟨by rw [HL.out,HR.out,HB.out];rfl,gt _ _⟩
theorem we (s:ByteArray) (w:World) (hs:s.size<=maxLen) :
  Aa 216 #[.string s,.string ⟨#[10]⟩] w fun e w'=>e=.returned (.tuple #[.string (km s),.string (jk s),.bool (jl s)])/\Below w.heap.size w w':=by
 go_enter Tryz.func216,Tryz.ntmps216
 go_wp2_with (go_at_call 237;refine (pe _ _ hs).mono ?_;rintro e w' ⟨rfl,hb⟩)
 go_ret3
 exact ⟨rfl,hb⟩
theorem pY (s:ByteArray) (w:World) :
  Aa 185 #[.string s] w fun e w'=>e=.returned (.func (.func 215) #[] #[.pointer (some ⟨w.heap.size,0,none⟩)])/\w'=w.alloc (.cells #[.string s] 9):=by
 have hmf:=mkfn
 go_enter Tryz.func185,Tryz.ntmps185
 go_wp2
 go_ret
 exact ⟨rfl,rfl⟩
end Go.Proofs.YtpdlohfdjiaegaaGreatDoor.Lx
namespace Go.Proofs.YtpdlohfdjiaegaaGreatDoor.Lx
open Go.RowKit Go.Shelf
variable {w w':World}
attribute [local go_sem] Oper.semAt_some
def LN (s:ByteArray):Nat:=cn s s.size+1
def upto (s:ByteArray) (k:Nat):List (Int × ByteArray):=(List.range k).map (fun i=>(((i+1:Nat):Int),ln s i))
theorem fY (s:ByteArray) (k:Nat):upto s (k+1)=upto s k++[(((k+1:Nat):Int),ln s k)]:=by
 unfold upto;rw [List.range_succ,BO];rfl
theorem qR (s:ByteArray) (k:Nat):(upto s k).length=k:=by unfold upto;simp
theorem vj (s:ByteArray) (a:Nat) (ha:a<=s.size):nl (s.extract a s.size) 0=nl s a-a:=by
 have z:=aC s a s.size (eq _);obtain ⟨h1,h2,h3,h4⟩:=et s a ha;refine lr _ 0 _ (zx _) (by omega) (fun k _ hk=>?_) ?_
 ·rw [bv s a s.size k (by omega)];exact h3 _ (by omega) (by omega)
 ·by_cases e:nl s a=s.size
  ·left;omega
  ·right;rw [bv s a s.size _ (by omega),show a+(nl s a-a)=nl s a by omega];exact h4 (by omega)
theorem xZ (s:ByteArray) (k:Nat) (h:k<LN s):km (s.extract (bg s k) s.size)=ln s k/\jl (s.extract (bg s k) s.size)=decide (k+1<LN s) /\
  (k+1<LN s->jk (s.extract (bg s k) s.size)=s.extract (bg s (k+1)) s.size):=by
 unfold LN at h ⊢;have hb:=jb s k (by omega);obtain ⟨h1,h2,h3⟩:=wK s k (by omega);have z:=aC s (bg s k) s.size (eq _);have e:=vj s (bg s k) hb.1;refine ⟨?_,?_,fun hk=>?_⟩
 ·unfold km;rw [e,ec s (bg s k) s.size 0 _ (eq _) (by omega) (zx _),A3,show bg s k+(nl s (bg s k)-bg s k)=nl s (bg s k) by omega];rfl
 ·unfold jl;rw [e,z]
  by_cases hc:nl s (bg s k)<s.size
  ·have:=h3.1 hc;rw [zB (by omega),zB (by omega)]
  ·have:¬k<cn s s.size:=fun hh=>hc (h3.2 hh)
   rw [zA (by omega),zA (by omega)]
 ·have hc:=h3.2 (by omega);unfold jk;rw [e,z,zw (by omega),ec s (bg s k) s.size _ _ (eq _) (by omega) (by omega)];show s.extract _ _=s.extract (nl s (bg s k)+1) _
  congr 1 <;> omega
abbrev Ln:={ x:Int × ByteArray // x.2.size<=maxLen }
abbrev wN (x:Ln):Array Value:=#[.int .i64 x.1.1,.string x.1.2]
theorem eH (h:Below w.heap.size w w'):w.grownBy w' none:=⟨h.os,h.tape,h.output,h.size,fun k hk _=>h.block k hk⟩
theorem eF (h:Below w.heap.size w w'):KeepsOthers w w':=KeepsOthers.of_grownBy (eH h) (fun _ _ e=>by cases e)
theorem ly (n:Nat) (hn:1<=n) (Bn:Nat) (s:ByteArray) (hs:s.size<=2147483647) (w:World) (hB:Bn<w.heap.size) (hc:w.cell? ⟨Bn,0,none⟩=some (.string s)) :
  SeqStopsK Fence.wide n Tryz.prog 215 #[.pointer (some ⟨Bn,0,none⟩)] wN (fun _ _=>True) (fun xs=>xs.map (·.1)=upto s (LN s)) (fun pre=>∃k,k<=LN s/\pre.map (·.1)=upto s k) (LN s) w:=fun l J Jx W hW hJ hJx hY h0=>by
 have hL:LN s<=2147483648:=by have:=wS s s.size;unfold LN;omega
 have hcW:W.cell? ⟨Bn,0,none⟩=some (.string s):=(hW.cell (p:=⟨Bn,0,none⟩) hB).trans hc;refine callsIn_of_wp Tryz.func215 rfl trivial ?_ rfl;simp only [Tryz.ntmps215,Bv,List.length_cons,Ao,Nat.reduceAdd,Nat.reduceSub,A6,A7,By,Bb,Ay,AI]
 gi_wp2
 gi_loopw [3,4,5] (fun r b m wr=>∃(k:Nat) (pre:List Ln) (q:ByteArray) (z:Int),r=.string q/\b=.bool (decide (k<LN s))/\m=.int .i64 z/\Hid (z=((k+1:Nat):Int))/\Hid (k<=LN s)/\Hid (pre.map (·.1)=upto s k)/\Hid (k<LN s->q=s.extract (bg s k) s.size)/\J pre wr)
  (fun _ _ m _=>LN s+1-(RowKit.intOf m).toNat)
 case atStart=>
  refine ⟨0,[],s,1,rfl,by rw [zB (by unfold LN;omega)],rfl,rfl,zx _,rfl,?_,h0⟩;intro _;rw [show bg s 0=0 from rfl,gH]
 case round=>
  obtain ⟨k,pre,q,z,rfl,rfl,rfl,HZ,HK,HP,HQ,hJs⟩:=hrel
  by_cases hk:k<LN s
  ·obtain ⟨e1,e2,e3⟩:=xZ s k hk;have hq:=HQ.out hk;have hqs:q.size<=maxLen:=by rw [hq,aC _ _ _ (eq _)];unfold maxLen;omega
   have hls:(ln s k).size<=maxLen:=by have:=vz s k (by unfold LN at hk;omega);unfold maxLen;omega
   rw [<-hq] at e1 e2 e3;obtain ⟨b,hb⟩:∃b,decide (k<LN s)=b:=⟨_,rfl⟩;have hbt:b=true:=by rw [<-hb];exact zB hk
   rw [hb,hbt];have HE1:Hid (km q=ln s k):=e1;have HE2:Hid (jl q=decide (k+1<LN s)):=e2;have HE3:Hid (k+1<LN s->jk q=s.extract (bg s (k+1)) s.size):=e3;have HKL:Hid (k<LN s):=hk;have hz1:0<=z:=by have:=HZ.out;omega
   have hz2:z<=2147483648:=by have:=HZ.out;omega
   have HLEN:Hid (pre.length<LN s):=by
    show _<_
    have:=zO List.length HP.out;rw [qR,C3] at this;omega
   clear e1 e2 e3 hq hb hbt HQ hk;obtain ⟨L,hLL⟩:∃L,ln s k=L:=⟨_,rfl⟩;obtain ⟨CL,hCL⟩:∃L,km q=L:=⟨_,rfl⟩;obtain ⟨CR,hCR⟩:∃L,jk q=L:=⟨_,rfl⟩;obtain ⟨CB,hCB⟩:∃L,jl q=L:=⟨_,rfl⟩
   have hcut:∀w,Aa 216 #[.string q,.string ⟨#[10]⟩] w fun e w'=>e=.returned (.tuple #[.string CL,.string CR,.bool CB])/\Below w.heap.size w w':=by
    intro w;rw [<-hCL,<-hCR,<-hCB];exact we q w hqs
   rw [hCL,hLL] at HE1;rw [hCB] at HE2;rw [hCR] at HE3;rw [hLL] at hls;obtain rfl:=HE1.out;have HLL:Hid (ln s k=CL):=hLL;clear hCL hCR hCB hLL
   gi_wp2
   refine ⟨trivial,?_⟩;refine (A9.2 (hcut _)).mono ?_;rintro e w1 ⟨rfl,hb1⟩;have hJ1:=hJ pre _ w1 none hJs (eH hb1) (fun r e=>by cases e);obtain ⟨fn,tmps,assign,body,hy,hR⟩:=hY pre ⟨(z,CL),hls⟩ w1 hJ1 HLEN.out
   dsimp only [wN] at hy
   gi_wp2
   refine hR.mono ?_;rintro e W3 (⟨rfl,hJ3,_⟩|⟨rfl,hJx3⟩)
   ·gi_wp2
    go_roundw
    case rel=>exact ⟨k+1,pre++[⟨(z,CL),hls⟩],CR,z+1,rfl,by rw [HE2.out],by go_num,by show _=_;rw [HZ.out];omega,HKL.out,by show _=_;rw [BO,HP.out,fY,HLL.out,HZ.out];rfl,HE3.out,hJ3⟩
    case measure=>simp [RowKit.intOf];have:=HZ.out;have:=HKL.out;omega
   ·gi_wp2
    refine zE (results_none rfl _ _ _) rfl ?_;exact ⟨⟨_,rfl⟩,.inr ⟨pre++[⟨(z,CL),hls⟩],⟨k+1,HKL.out,by rw [BO,HP.out,fY,HLL.out,HZ.out];rfl⟩,hJx3⟩⟩
  ·have hbf:decide (k<LN s)=false:=zA hk;rw [hbf];have HE:Hid (k=LN s):=by show _=_;have:=HK.out;omega
   clear hbf hk HQ
   gi_wp2
   go_end0
   exact ⟨⟨_,rfl⟩,.inl ⟨pre,by rw [HP.out,HE.out],hJs⟩⟩
attribute [local go_sem] Oper.semAt_some
end Go.Proofs.YtpdlohfdjiaegaaGreatDoor.Lx
