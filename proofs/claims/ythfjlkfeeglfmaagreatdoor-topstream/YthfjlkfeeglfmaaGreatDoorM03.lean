import Derived.Lib.Bytealg
import Derived.Lib.Walk
import Derived.Shelf.RegionOpenPlain
import Derived.RangeFuncNested
import Derived.RangeFuncBound
import Derived.RangeFuncCalls
import Derived.RangeFuncLeaves
import Derived.Shelf.Abstract
import Derived.Shelf.RegionOpen
import Derived.OwnWalkIn
import Derived.TacticsInMore
import Derived.LoopNIn
import Derived.LoopIn
import Derived.Test.YthfjlkfeeglfmaaGreatDoorM02
set_option linter.all false
set_option maxHeartbeats 2000000
set_option maxRecDepth 100000
namespace Go.Proofs.YthfjlkfeeglfmaaGreatDoor.Lx
open Go.Proofs.Tryz
open Go.RowKit
variable {W w w' W':World}{B z m p b:Nat}{l c:Int}{s:ByteArray}
inductive Rd where
 |out (p e:Nat)
 |on (n:Nat)
def sf (g:Nat->Nat->Rd):Nat->Nat->Nat->Nat × Nat
 |0,a,_=>(a,0)
 |f+1,a,m=>match g a m with
  |.out p e=>(p,e)
  |.on n=>sf g f (a+n) (m+1)
def run (g:Nat->Nat->Rd) (z a m:Nat):Nat × Nat:=sf g (z+1-a) a m
def mg (g:Nat->Nat->Rd) (z:Nat):Prop:=∀a m n,g a m=.on n->1<=n/\a+n<=z
def qK {g:Nat->Nat->Rd}(u:mg g z):∀(f f' a m:Nat),z+1<=a+f->z+1<=a+f'->a<=z->sf g f a m=sf g f' a m
 |0,_,_,_,h,_,h2=>by omega
 |_+1,0,_,_,_,h,h2=>by omega
 |f+1,f'+1,a,m,h,h1,h2=>by
  unfold sf;cases e:g a m with
  |out p e=>rfl
  |on n=>
   obtain⟨H,G⟩:=u a m n e;exact qK u f f' (a+n) (m+1) (by omega) (by omega) G
def dO {g:Nat->Nat->Rd}{a e:Nat}(u:a<=z) (h:g a m=.out p e):run g z a m=(p,e):=by
 unfold run;rw[show z+1-a=(z-a)+1 by omega];unfold sf;rw[h]
def se {g:Nat->Nat->Rd}{a n:Nat}(u:mg g z) (I:a<=z) (h:g a m=.on n):run g z a m=run g z (a+n) (m+1):=by
 obtain⟨H,G⟩:=u a m n h;unfold run;rw[show z+1-a=(z-a)+1 by omega];rw[show sf g (z-a+1) a m=sf g (z-a) (a+n) (m+1)by rw[sf,h]];exact qK u _ _ _ _ (by omega) (by omega) G
def eD {g:Nat->Nat->Rd}(u:mg g z) (I:Nat->Nat->Prop) (Q:Nat × Nat->Prop)
  (H:∀a m p e,a<=z->I a m->g a m=.out p e->Q (p,e)) (G:∀a m n,a<=z->I a m->g a m=.on n->I (a+n) (m+1)) :
  ∀(d a m:Nat),z-a<=d->a<=z->I a m->Q (run g z a m)
 |d,a,m,hd,ha,hI=>by
  cases e:g a m with
  |out p q=>rw[dO ha e];exact H a m p q ha hI e
  |on n=>
   obtain⟨M,J⟩:=u a m n e;rw[se u ha e];cases d with
   |zero=>omega
   |succ d=>exact eD u I Q H G d (a+n) (m+1) (by omega) J (G a m n ha hI e)
def dY (c:Nat):Bool:=c==32||c==9||c==13
def jG (s:ByteArray) (i:Nat):Bool:=gd s i&&(decide (dp s i<32)||dp s i==127)
def dF (c:Nat):Bool:=decide (48<=c)&&decide (c<=57)
def au (s:ByteArray) (a:Nat):Nat:=
 if(gd s a&&jL (dp s a))=true then 1 else if dF (aK s a)=true then 3 else if aK s a=34 then 4 else if aK s a=39 then 5
 else if aK s a=47/\a+1<s.size/\aK s (a+1)=47 then 7 else if aK s a=123 then 8 else if(sg s a).size≠0 then 6 else 0
def dJ (s:ByteArray) (f k:Nat) (a _:Nat):Rd:=
 if s.size<=a then .out a 0
 else if(k=1/\(gd s a&&pX (dp s a))=false)\/(k=3/\dF (aK s a)=false)then .out a 0
 else if 65535<a+dw s a-f then .out f 103
 else .on (dw s a)
def dr (s:ByteArray) (f q:Nat) (only:Bool) (a m:Nat):Rd:=
 if s.size<=a\/aK s a=10 then .out f 101
 else if 65535<a+dw s a-f then .out f 103
 else if aK s a=q/\(only=false\/m=1)then .out (a+1) 0
 else if jG s a=true\/(only=true/\(m=1\/aK s a=q))then .out a 102
 else .on (dw s a)
def cP (s:ByteArray) (f:Nat) (blk:Bool) (a _:Nat):Rd:=
 if s.size<=a then(if blk=true then .out f 101 else .out a 0)
 else if blk=false/\aK s a=10 then .out a 0
 else if 65535<a+1-f then .out f 103
 else if blk=true/\aK s a=125 then .out (a+1) 0
 else .on 1
def nP (s:ByteArray) (f k:Nat):mg (dJ s f k) s.size:=by
 intro a m n h;unfold dJ at h
 split at h
 ·cases h
 ·rename_i H
  obtain⟨u,I,G⟩:=aQ s a (by omega)
  split at h
  ·cases h
  ·split at h
   ·cases h
   ·cases h;exact⟨u,G⟩
def nQ (s:ByteArray) (f q:Nat) (o:Bool):mg (dr s f q o) s.size:=by
 intro a m n h;unfold dr at h
 split at h
 ·cases h
 ·rename_i H
  obtain⟨u,I,G⟩:=aQ s a (by omega)
  split at h
  ·cases h
  ·split at h
   ·cases h
   ·split at h
    ·cases h
    ·cases h;exact⟨u,G⟩
def nR (s:ByteArray) (f:Nat) (o:Bool):mg (cP s f o) s.size:=by
 intro a m n h;unfold cP at h
 split at h
 ·split at h<;>cases h
 ·rename_i u
  split at h
  ·cases h
  ·split at h
   ·cases h
   ·split at h
    ·cases h
    ·cases h;exact⟨ge _,by omega⟩
def aq (s:ByteArray) (a k:Nat):Nat × Nat:=
 if k=4 then run (dr s a 34 false) s.size (a+1) 0
 else if k=5 then run (dr s a 39 true) s.size (a+1) 0
 else if k=7 then run (cP s a false) s.size a 0
 else if k=8 then run (cP s a true) s.size a 0
 else if k=6 then(a+(sg s a).size,0)
 else run (dJ s a k) s.size a 0
def EM (s:ByteArray) (a:Nat) (h:(sg s a).size≠0):a+(sg s a).size<=s.size/\s.extract a (a+(sg s a).size)=sg s a/\sg s a∈cg:=by
 unfold sg at h ⊢;cases e:cg.find? (pre s a)with
 |none=>rw[e]at h;exact absurd rfl h
 |some x=>
  have u:=List.find?_some e;have H:=List.mem_of_find?_eq_some e;unfold pre at u;have G:=SE u;exact⟨G.1,G.2,H⟩
def gn (s:ByteArray) (a k p:Nat) (ha:a<s.size) (G:au s a=k) (h0:k≠0) (h:aq s a k=(p,0)):a<p/\p<=s.size:=by
 obtain⟨d1,d2,d3⟩:=aQ s a ha
 have Z:∀q o,run (dr s a q o) s.size (a+1) 0=(p,0)->a<p/\p<=s.size:=by
  intro q o h
  have:=eD (nQ s a q o) (λb _=>a<b) (λr=>r.2=0->a<r.1/\r.1<=s.size) (by
   intro b m x e I O u J;unfold dr at u
   split at u
   ·cases u;cases J
   ·split at u
    ·cases u;cases J
    ·split at u
     ·cases u;exact⟨by show a<b+1;omega,by show b+1<=s.size;omega⟩
     ·split at u
      ·cases u;cases J
      ·cases u) (by intro b m n I O u;show a<b+n;omega) _ (a+1) 0 (ge _) (by omega) (by show a<a+1;omega)
  rw[h]at this;exact this rfl
 have Y:∀o,(o=true->aK s a≠125)->(o=false->aK s a≠10)->run (cP s a o) s.size a 0=(p,0)->a<p/\p<=s.size:=by
  intro o S h2 h
  have:=eD (nR s a o) (λb _=>a<=b) (λr=>r.2=0->a<r.1/\r.1<=s.size) (by
   intro b m x e I O u J;unfold cP at u
   split at u
   ·split at u
    ·cases u;cases J
    ·cases u;exact⟨by show a<b;omega,I⟩
   ·split at u
    ·rename_i H
     cases u;refine⟨?_,I⟩;show a<b
     rcases Uo a b with M|M
     ·exact M
     ·exact absurd (by rw[show a=b by omega];exact H.2) (h2 H.1)
    ·split at u
     ·cases u;cases J
     ·split at u
      ·cases u;exact⟨by show a<b+1;omega,by show b+1<=s.size;omega⟩
      ·cases u) (by intro b m n I O u;show a<=b+n;omega) _ a 0 (ge _) (by omega) (ge _)
  rw[h]at this;exact this rfl
 have hR:((k=1/\(gd s a&&pX (dp s a))=false)\/(k=3/\dF (aK s a)=false)->False)->run (dJ s a k) s.size a 0=(p,0)->a<p/\p<=s.size:=by
  intro S h
  have:=eD (nP s a k) (λb _=>a<=b) (λr=>r.2=0->a<r.1/\r.1<=s.size) (by
   intro b m x e I O u J;unfold dJ at u
   split at u
   ·cases u;exact⟨by show a<b;omega,I⟩
   ·split at u
    ·rename_i H
     cases u;refine⟨?_,I⟩;show a<b
     rcases Uo a b with M|M
     ·exact M
     ·have:b=a:=Nat.le_antisymm M O;rw[this]at H;exact absurd H S
    ·split at u
     ·cases u;cases J
     ·cases u) (by intro b m n I O u;show a<=b+n;omega) _ a 0 (ge _) (by omega) (ge _)
  rw[h]at this;exact this rfl
 unfold aq at h;unfold au at G
 by_cases c1:(gd s a&&jL (dp s a))=true
 ·rw[Or c1]at G;subst G;simp only[show ¬(1:Nat)=4 by decide,show ¬(1:Nat)=5 by decide,show ¬(1:Nat)=7 by decide,show ¬(1:Nat)=8 by decide,show ¬(1:Nat)=6 by decide,SW]at h;refine hR ?_ h;rintro(⟨_,H⟩|⟨H,_⟩)
  ·rw[Sf]at c1;rw[c1.1,vJ c1.2]at H;cases H
  ·cases H
 ·rw[Eq c1]at G
  by_cases c2:dF (aK s a)=true
  ·rw[Or c2]at G;subst G;simp only[show ¬(3:Nat)=4 by decide,show ¬(3:Nat)=5 by decide,show ¬(3:Nat)=7 by decide,show ¬(3:Nat)=8 by decide,show ¬(3:Nat)=6 by decide,SW]at h;refine hR ?_ h;rintro(⟨H,_⟩|⟨_,H⟩)
   ·cases H
   ·rw[c2]at H;cases H
  ·rw[Eq c2]at G
   by_cases c3:aK s a=34
   ·rw[Or c3]at G;subst G;rw[Or rfl]at h;exact Z _ _ h
   ·rw[Eq c3]at G
    by_cases c4:aK s a=39
    ·rw[Or c4]at G;subst G;rw[Eq (by decide),Or rfl]at h;exact Z _ _ h
    ·rw[Eq c4]at G
     by_cases c5:aK s a=47/\a+1<s.size/\aK s (a+1)=47
     ·rw[Or c5]at G;subst G;rw[Eq (by decide),Eq (by decide),Or rfl]at h;exact Y false (by intro h;cases h) (by intro _;rw[c5.1];decide) h
     ·rw[Eq c5]at G
      by_cases c6:aK s a=123
      ·rw[Or c6]at G;subst G;rw[Eq (by decide),Eq (by decide),Eq (by decide),Or rfl]at h;exact Y true (by intro _;rw[c6];decide) (by intro h;cases h) h
      ·rw[Eq c6]at G
       by_cases Q:(sg s a).size≠0
       ·rw[Or Q]at G;subst G;rw[Eq (by decide),Eq (by decide),Eq (by decide),Eq (by decide),Or rfl]at h;cases h;exact⟨by omega,(EM s a Q).1⟩
       ·rw[Eq Q]at G;exact absurd G.symm h0
structure Tk where
 k:Nat
 a:Nat
 e:Nat
 f:Nat
def bJ (s:ByteArray):Nat->Nat
 |0=>0
 |p+1=>if dY (aK s p)=true then bJ s p else p+1
def dM (s:ByteArray) (k a p f:Nat):Tk:=⟨if k=1/\ky (s.extract a p)=true then 2 else k,a,if k=7 then bJ s p else p,f⟩
def lU (s:ByteArray):Nat->Nat->Nat->List Tk × Nat × Nat
 |0,_,_=>([],0,0)
 |g+1,a,f=>
  if s.size<=a then([],0,0)
  else if aK s a=10 then lU s g (a+1) (f+1)
  else if dY (aK s a)=true then lU s g (a+1) f
  else if au s a=0 then([],100,a)
  else if(aq s a (au s a)).2≠0 then([],(aq s a (au s a)).2,(aq s a (au s a)).1)
  else(dM s (au s a) a (aq s a (au s a)).1 f :: (lU s g (aq s a (au s a)).1 0).1,(lU s g (aq s a (au s a)).1 0).2)
def yJ (s:ByteArray) (a f:Nat):List Tk × Nat × Nat:=lU s (s.size-a) a f
def jt (s:ByteArray):∀(g u a f:Nat),s.size<=a+g->s.size<=a+u->lU s g a f=lU s u a f
 |0,0,_,_,_,_=>rfl
 |0,u+1,a,f,h,_=>by unfold lU;rw[Or (by omega)]
 |g+1,0,a,f,_,h=>by
  rw[show lU s 0 a f=([],0,0)from rfl];unfold lU;rw[Or (by omega)]
 |g+1,u+1,a,f,h,h'=>by
  unfold lU
  by_cases G:s.size<=a
  ·rw[Or G,Or G]
  ·rw[Eq G,Eq G,jt s g u (a+1) (f+1) (by omega) (by omega),jt s g u (a+1) f (by omega) (by omega)]
   by_cases H:au s a=0
   ·rw[Or H,Or H]
   ·by_cases I:(aq s a (au s a)).2≠0
    ·rw[Or I,Or I]
    ·have J:=gn s a (au s a) (aq s a (au s a)).1 (by omega) rfl H (W6 rfl (by simpa using I));rw[jt s g u _ 0 (by omega) (by omega)]
def kN (s:ByteArray) (a f:Nat) (h:s.size<=a):yJ s a f=([],0,0):=by
 unfold yJ;rw[show s.size-a=0 by omega];rfl
def eK (s:ByteArray) (a f:Nat) (h:a<s.size):yJ s a f =
  if aK s a=10 then yJ s (a+1) (f+1)
  else if dY (aK s a)=true then yJ s (a+1) f
  else if au s a=0 then([],100,a)
  else if(aq s a (au s a)).2≠0 then([],(aq s a (au s a)).2,(aq s a (au s a)).1)
  else(dM s (au s a) a (aq s a (au s a)).1 f :: (yJ s (aq s a (au s a)).1 0).1,(yJ s (aq s a (au s a)).1 0).2):=by
 have H:yJ s a f=lU s ((s.size-(a+1))+1) a f:=by unfold yJ;rw[show s.size-a=(s.size-(a+1))+1 by omega]
 rw[H];unfold lU;rw[Eq (by omega)]
 by_cases u:au s a=0
 ·simp only[Or u];rfl
 ·by_cases G:(aq s a (au s a)).2≠0
  ·simp only[Or G];rfl
  ·have I:=gn s a (au s a) (aq s a (au s a)).1 h rfl u (W6 rfl (by simpa using G));rw[jt s (s.size-(a+1)) (s.size-(aq s a (au s a)).1) (aq s a (au s a)).1 0 (by omega) (by omega)];rfl
def fY (s:ByteArray):List Tk × Nat × Nat:=yJ s 0 0
def gm (s:ByteArray):∀p,bJ s p<=p
 |0=>ge _
 |p+1=>by
  unfold bJ
  split
  ·have:=gm s p;omega
  ·exact ge _
def lA (s:ByteArray) (a:Nat) (h:dY (aK s a)=false):∀p,a<p->a<bJ s p
 |0,h1=>by omega
 |p+1,h1=>by
  unfold bJ
  by_cases e:dY (aK s p)=true
  ·rw[Or e];refine lA s a h p ?_
   rcases Uo a p with u|u
   ·exact u
   ·rw[show a=p by omega,e]at h;cases h
  ·rw[Eq e];exact h1
def oz (s:ByteArray):∀p i,bJ s p<=i->i<p->dY (aK s i)=true
 |0,_,_,h=>by omega
 |p+1,i,h,h1=>by
  unfold bJ at h
  by_cases e:dY (aK s p)=true
  ·rw[Or e]at h
   by_cases u:i=p
   ·rw[u];exact e
   ·exact oz s p i h (by omega)
  ·rw[Eq e]at h;omega
def kM (s:ByteArray):∀(d a f:Nat),s.size-a<=d->∀t∈(yJ s a f).1,a<=t.a/\t.a<t.e/\t.e<=s.size
 |d,a,f,hd,t,ht=>by
  by_cases h:a<s.size
  ·rw[eK s a f h]at ht;cases d with
   |zero=>omega
   |succ d=>
    by_cases J:aK s a=10
    ·rw[Or J]at ht;have:=kM s d (a+1) (f+1) (by omega) t ht;exact⟨by omega,this.2⟩
    ·rw[Eq J]at ht
     by_cases G:dY (aK s a)=true
     ·rw[Or G]at ht;have:=kM s d (a+1) f (by omega) t ht;exact⟨by omega,this.2⟩
     ·rw[Eq G]at ht
      by_cases H:au s a=0
      ·rw[Or H]at ht;cases ht
      ·rw[Eq H]at ht
       by_cases I:(aq s a (au s a)).2≠0
       ·rw[Or I]at ht;cases ht
       ·rw[Eq I]at ht;have u:=gn s a (au s a) (aq s a (au s a)).1 h rfl H (W6 rfl (by simpa using I))
        rcases Sm.1 ht with rfl|ht
        ·refine⟨ge _,?_,?_⟩
         ·show a<if _ then _ else _
          split
          ·exact lA s a (by simpa using G) _ u.1
          ·exact u.1
         ·show(if _ then _ else _)<=s.size
          split
          ·exact PI (gm s _) u.2
          ·exact u.2
        ·have:=kM s d _ 0 (by omega) t ht;exact⟨by omega,this.2⟩
  ·rw[kN s a f (by omega)]at ht;cases ht
def bZ (s:ByteArray) (i:Nat) (h:aK s i<128):dw s i=1/\dp s i=aK s i/\gd s i=true:=by
 have e:Utf8.decode s i=(aK s i,1):=by rw[cV];unfold D;rw[Or h]
 unfold gd dw dp;rw[e];refine⟨rfl,rfl,?_⟩;show KP (aK s i:Int) 1=true;have u:((aK s i:Int) != 65533)=true:=by simp;omega
 unfold KP;rw[u];rfl
def Hc (s:ByteArray) (i:Nat) (h:dp s i<128):aK s i=dp s i:=by
 by_cases u:aK s i<128
 ·exact(bZ s i u).2.1.symm
 ·exfalso
  unfold dp at h;rw[cV]at h;unfold D at h;rw[Eq u]at h
  repeat' split at h
  all_goals first|(rename_i G;simp only[ge_iff_le,Sf,So]at G;omega)|(simp only[]at h;omega)|(exact absurd h (by decide))
def Mt (s:ByteArray) (i c:Nat) (hc:c<128):dp s i=c↔aK s i=c:=by
 constructor
 ·intro h;rw[Hc s i (by omega),h]
 ·intro h;rw[(bZ s i (by omega)).2.1,h]
def jZ (s:ByteArray) (j:Nat) (G:j<s.size) (h:aK s j<128):bd s j/\bd s (j+1):=by
 obtain⟨m,I,u,J,M,O⟩:=kj s j (P s).length (by rw[oF s _ (ge _)];exact G)
 have e:st s m=j:=by
  apply SQ;intro H
  have:=(lZ s (st s m) (j-st s m) (by omega) (by omega)).2;rw[show st s m+(j-st s m)=j by omega]at this;omega
 refine⟨⟨m,by omega,e⟩,⟨m+1,by omega,?_⟩⟩;rw[eC s m u,e,(bZ s j h).1]
def jz {a:Nat}(h:bd s a) (G:a<s.size):bd s (a+dw s a):=by
 obtain⟨k,H,rfl⟩:=h;have u:=(fK s k).1 G;exact⟨k+1,by omega,eC s k u⟩
def LL {a:Nat}(H:bd s a) (I:bd s b) (M:a<=b):bd (s.extract 0 b) a:=by
 obtain⟨i,J,rfl⟩:=H;obtain⟨j,hj,rfl⟩:=I
 have u:i<=j:=by
  apply SQ;intro h
  have:=lE s j i (by omega) J;omega
 have e:=uN s j hj i u;have G:=Qc s j hj;unfold hd at e G;exact⟨i,by omega,e⟩
def pL (s:ByteArray) (a:Nat):Int:=eP 1 (s.extract 0 a)
def pC (s:ByteArray) (a:Nat):Int:=jC 1 (s.extract 0 a)
def Ns (s:ByteArray):pL s 0=1/\pC s 0=1:=by
 have e:s.extract 0 0=ByteArray.empty:=by
  have G:(s.extract 0 0).size=0:=by rw[aE s 0 0 (RU _)]
  exact kY _ _ (by rw[G];rfl) (λj J=>by omega)
 unfold pL pC;rw[e];have z:ByteArray.empty.size=0:=rfl
 have u:(P (ByteArray.empty.extract (lf ByteArray.empty 0) 0)).length=0:=by
  have H:=BJ (ByteArray.empty.extract (lf ByteArray.empty 0) 0);have I:=aE ByteArray.empty (lf ByteArray.empty 0) 0 (RU _);omega
 constructor
 ·unfold eP;rw[z];show wrap64 (1+((0:Nat):Int))=1;unfold wrap64;omega
 ·unfold jC;rw[z,u];show wrap64 (1+((0:Nat):Int))=1;unfold wrap64;omega
def IK {a:Nat}(M:bd s a) (J:bd s b) (G:a<=b) (O:s.size<=2147483647) :
  MC a (s.extract a b)=b/\eP (pL s a) (s.extract a b)=pL s b/\jC (pC s a) (s.extract a b)=pC s b:=by
 have u:=Io J;have z:(s.extract 0 b).size=b:=by rw[aE s 0 b u];rfl
 have H:(s.extract 0 b).extract 0 a=s.extract 0 a:=by
  rw[gT s 0 b 0 a u (by omega) (RU _),R3,R3]
 have I:(s.extract 0 b).extract a b=s.extract a b:=by
  rw[gT s 0 b a b u (by omega) G,R3,R3]
 refine⟨?_,?_,?_⟩
 ·unfold MC;rw[aE s a b u];unfold wrap64;omega
 ·have h:=CQ (s.extract 0 b) a (by omega) 1;rw[z,H,I]at h;exact h
 ·have h:=Hv (s.extract 0 b) a (LL M J G) 1;rw[z,H,I]at h;exact h
def Pc (s:ByteArray) (a:Nat):-9223372036854775808<=pL s a/\pL s a<=9223372036854775807:=by
 unfold pL eP wrap64;omega
def uS:∀x∈cg,(x.size=1\/x.size=2)/\aK x (x.size-1)<128:=by decide
def Oa {a k e:Nat}(I:bd s a) (ha:a<s.size) (G:au s a=k) (h0:k≠0) (h:aq s a k=(p,e)):bd s p:=by
 have Z:∀q o,q<128->aK s a=q->run (dr s a q o) s.size (a+1) 0=(p,e)->bd s p:=by
  intro q o hq aa h
  have:=eD (nQ s a q o) (λb _=>bd s b) (λr=>bd s r.1) (by
   intro b m x e J H u;unfold dr at u
   split at u
   ·cases u;exact I
   ·rename_i h1
    split at u
    ·cases u;exact I
    ·split at u
     ·rename_i M
      cases u;exact(jZ s b (by omega) (by omega)).2
     ·split at u
      ·cases u;exact H
      ·cases u) (by
   intro b m n J H u;unfold dr at u
   split at u
   ·cases u
   ·rename_i h1
    split at u
    ·cases u
    ·split at u
     ·cases u
     ·split at u
      ·cases u
      ·cases u;exact jz H (by omega)) _ (a+1) 0 (ge _) (by omega) (jZ s a ha (by omega)).2
  rw[h]at this;exact this
 have Y:∀o,run (cP s a o) s.size a 0=(p,e)->bd s p:=by
  intro o h
  have:=eD (nR s a o) (λ_ _=>True) (λr=>bd s r.1) (by
   intro b m x e J H u;unfold cP at u
   split at u
   ·split at u
    ·cases u;exact I
    ·cases u;rw[show b=s.size by omega];exact BA s
   ·split at u
    ·rename_i M
     cases u;exact(In s b M.2).1
    ·split at u
     ·cases u;exact I
     ·split at u
      ·rename_i M
       cases u;exact(jZ s b (by omega) (by omega)).2
      ·cases u) (by intros;trivial) _ a 0 (ge _) (by omega) trivial
  rw[h]at this;exact this
 have hR:∀k,run (dJ s a k) s.size a 0=(p,e)->bd s p:=by
  intro k h
  have:=eD (nP s a k) (λb _=>bd s b) (λr=>bd s r.1) (by
   intro b m x e J H u;unfold dJ at u
   split at u
   ·cases u;exact H
   ·split at u
    ·cases u;exact H
    ·split at u
     ·cases u;exact I
     ·cases u) (by
   intro b m n J H u;unfold dJ at u
   split at u
   ·cases u
   ·split at u
    ·cases u
    ·split at u
     ·cases u
     ·cases u;exact jz H (by omega)) _ a 0 (ge _) (by omega) I
  rw[h]at this;exact this
 unfold aq at h
 by_cases O:k=4
 ·rw[Or O]at h;refine Z 34 _ (by decide) ?_ h;rw[O]at G;unfold au at G
  repeat' split at G
  all_goals first|assumption|(cases G;done)
 ·rw[Eq O]at h
  by_cases Q:k=5
  ·rw[Or Q]at h;refine Z 39 _ (by decide) ?_ h;rw[Q]at G;unfold au at G
   repeat' split at G
   all_goals first|assumption|(cases G;done)
  ·rw[Eq Q]at h
   by_cases k7:k=7
   ·rw[Or k7]at h;exact Y _ h
   ·rw[Eq k7]at h
    by_cases k8:k=8
    ·rw[Or k8]at h;exact Y _ h
    ·rw[Eq k8]at h
     by_cases S:k=6
     ·rw[Or S]at h;cases h
      have hsz:(sg s a).size≠0:=by
       rw[S]at G;unfold au at G
       repeat' split at G
       all_goals first|assumption|(cases G;done)
      obtain⟨g1,g2,g3⟩:=EM s a hsz;obtain⟨g4,g5⟩:=uS _ g3
      have e1:aK s (a+((sg s a).size-1))<128:=by
       rw[<-g2]at g5;rw[aE s _ _ g1,bX s a _ _ (by omega)]at g5;rw[show a+((sg s a).size-1)=a+(a+(sg s a).size-a-1)by omega];exact g5
      have:=(jZ s _ (by omega) e1).2;rw[show a+((sg s a).size-1)+1=a+(sg s a).size by omega]at this;exact this
     ·rw[Eq S]at h;exact hR _ h
def Ou {c:Nat}(h:dY c=true):c<128:=by
 unfold dY at h;simp at h;omega
def K8 {s:ByteArray}{a k p e:Nat}(Q:a<s.size) (h:aq s a k=(p,e)) (G:e≠0):(p=a/\(e=101\/e=103))\/(e=102/\a<p/\p<=s.size):=by
 have M:∀q o,run (dr s a q o) s.size (a+1) 0=(p,e)->(p=a/\(e=101\/e=103))\/(e=102/\a<p/\p<=s.size):=by
  intro q o h
  have:=eD (nQ s a q o) (λb _=>a<b) (λr=>r.2≠0->(r.1=a/\(r.2=101\/r.2=103))\/(r.2=102/\a<r.1/\r.1<=s.size)) (by
   intro b m x e I H u G;unfold dr at u
   split at u
   ·cases u;exact .inl ⟨rfl,.inl rfl⟩
   ·split at u
    ·cases u;exact .inl ⟨rfl,.inr rfl⟩
    ·split at u
     ·cases u;exact absurd rfl G
     ·split at u
      ·cases u;exact .inr ⟨rfl,H,I⟩
      ·cases u) (by intro b m n I H u;show a<b+n;omega) _ (a+1) 0 (ge _) (by omega) (by show a<a+1;omega)
  rw[h]at this;exact this G
 have J:∀o,run (cP s a o) s.size a 0=(p,e)->p=a/\(e=101\/e=103):=by
  intro o h
  have:=eD (nR s a o) (λ_ _=>True) (λr=>r.2≠0->r.1=a/\(r.2=101\/r.2=103)) (by
   intro b m x e I H u G;unfold cP at u
   split at u
   ·split at u
    ·cases u;exact⟨rfl,.inl rfl⟩
    ·cases u;exact absurd rfl G
   ·split at u
    ·cases u;exact absurd rfl G
    ·split at u
     ·cases u;exact⟨rfl,.inr rfl⟩
     ·split at u
      ·cases u;exact absurd rfl G
      ·cases u) (by intros;trivial) _ a 0 (ge _) (by omega) trivial
  rw[h]at this;exact this G
 have O:∀k,run (dJ s a k) s.size a 0=(p,e)->p=a/\(e=101\/e=103):=by
  intro k h
  have:=eD (nP s a k) (λ_ _=>True) (λr=>r.2≠0->r.1=a/\(r.2=101\/r.2=103)) (by
   intro b m x e I H u G;unfold dJ at u
   split at u
   ·cases u;exact absurd rfl G
   ·split at u
    ·cases u;exact absurd rfl G
    ·split at u
     ·cases u;exact⟨rfl,.inr rfl⟩
     ·cases u) (by intros;trivial) _ a 0 (ge _) (by omega) trivial
  rw[h]at this;exact this G
 unfold aq at h
 split at h
 ·exact M _ _ h
 ·split at h
  ·exact M _ _ h
  ·split at h
   ·exact .inl (J _ h)
   ·split at h
    ·exact .inl (J _ h)
    ·split at h
     ·cases h;exact absurd rfl G
     ·exact .inl (O _ h)
def tv (s:ByteArray) (t:Tk):Tv:=⟨t.k,s.extract t.a t.e,t.a,pL s t.a,pC s t.a,t.f⟩
def AV (w:World) (s:ByteArray) (e:Ending) (w':World):Prop:=
 (∃v,Uk e (.tuple #[v,Tu (fY s).2.1,.agg #[Tu (if(fY s).2.1=0 then 0 else(fY s).2.2),Tu (if(fY s).2.1=0 then 0 else pL s (fY s).2.2),Tu (if(fY s).2.1=0 then 0 else pC s (fY s).2.2)]])/\Rt w.heap.size w' v ((fY s).1.map (tv s)))/\Below w.heap.size w w'
def Ql:∀l:List UInt8,(Lib.indexByte l 10=-1/\∀k:Nat,k<l.length->l[k]?≠some (10:UInt8))\/∃j:Nat,Lib.indexByte l 10=(j:Int)/\j<l.length/\l[j]?=some (10:UInt8)/\∀k,k<j->l[k]?≠some (10:UInt8)
 |[]=>.inl ⟨rfl,λk h=>by simp at h⟩
 |b :: l=>by
  unfold Lib.indexByte
  by_cases u:b=10
  ·exact .inr ⟨0,by simp[u],by simp,by simp[u],λk h=>by omega⟩
  ·have H:(b==(10:UInt8))=false:=by simpa using u
   rw[H]
   rcases Ql l with⟨G,I⟩|⟨j,G,I,M,O⟩
   ·left
    refine⟨by simp[G],λk J=>?_⟩;cases k with
    |zero=>simpa using u
    |succ k=>simp only[Tq];exact I k (by simpa using J)
   ·right
    refine⟨j+1,?_,by simp;omega,by simpa using M,λk J=>?_⟩
    ·have:¬((j:Int)=-1):=by omega
     simp[G,this]
    ·cases k with
     |zero=>simpa using u
     |succ k=>simp only[Tq];exact O k (by omega)
def pO (s:ByteArray) (k:Nat) (h:k<s.size):aK s k=10↔s.data.toList[k]?=some (10:UInt8):=by
 have u:k<s.data.size:=h
 have e:s.get! k=s.data.toList[k]?.getD default:=by
  show s.data[k]! = _;rw[Array.getElem!_eq_getD,UA,Vn]
 unfold aK;rw[e,Vn,Tx u];simp;constructor
 ·intro h;exact VJ.1 h
 ·intro h;rw[h];rfl
def IS (r:ByteArray):Int:=if nl r 0<r.size then(nl r 0:Int)else -1
def wy (r:ByteArray):Lib.indexByte r.data.toList 10=IS r:=by
 have M:r.data.toList.length=r.size:=by simp
 rcases Ql r.data.toList with⟨u,H⟩|⟨j,u,H,I,J⟩
 ·have e:nl r 0=r.size:=vV r 0 r.size (RU _) (ge _) (λk _ G=>λhc=>H k (by omega) ((pO r k G).1 hc)) (.inl rfl);rw[u];unfold IS;rw[Eq (by omega)]
 ·have e:nl r 0=j:=vV r 0 j (RU _) (by omega) (λk _ G=>λhc=>J k G ((pO r k (by omega)).1 hc)) (.inr ((pO r j (by omega)).2 I));rw[u];unfold IS;rw[Or (by omega),e]
def jU (s:ByteArray) (w:World) :
  Sa 251 #[.string s,.int .u8 10] w λe w'=>Uk e (Tu (IS s))/\w'=w:=by
 go_enter func251,ntmps251;go_wp2
 rw[run_callFunc_extern func273 (by kernel_rfl) (by kernel_rfl) (by kernel_rfl) (e:=Extern.BytealgIndexByte.indexByte) (by kernel_rfl),Lib.run_indexByteString];simp only[Result.andThen];rw[Oper.upon_value];go_wp2;go_ret;exact⟨by rw[<-wy];rfl,rfl⟩
def jn (s:ByteArray) (w:World) :
  Sa 223 #[.string s,.string ⟨#[10]⟩] w λe w'=>Uk e (Tu (IS s))/\w'=w:=by
 go_enter func223,ntmps223
 go_wp2_with(go_at_call 251;refine(jU _ _).mono ?_;rintro e w'⟨rfl,rfl⟩)
 ·have h:([(10:UInt8)]==s.toList)=true:=by assumption
  have e:s.data.toList=[10]:=by rw[<-Lib.toList_data];exact(T8.1 h).symm
  have u:IS s=0:=by rw[<-wy,e];rfl
  go_ret;exact⟨by rw[u];rfl,rfl⟩
 ·go_ret;exact⟨rfl,rfl⟩
def tM (r:ByteArray):ByteArray:=r.extract 0 (nl r 0)
def qo (r:ByteArray):ByteArray:=if nl r 0<r.size then r.extract (nl r 0+1) r.size else⟨#[]⟩
def qp (r:ByteArray):Bool:=decide (nl r 0<r.size)
def Ca (s:ByteArray) (w:World) (M:s.size<=maxLen) :
  Sa 235 #[.string s,.string ⟨#[10]⟩] w λe w'=>Uk e (.tuple #[.string (tM s),.string (qo s),.bool (qp s)])/\Se w w':=by
 unfold maxLen at M;have J:=ir s 0 (RU _)
 by_cases h:nl s 0<s.size
 ·have H:Hid (IS s=(nl s 0:Int)):=by show _=_;unfold IS;rw[Or h]
  have HL:Hid (tM s=s.extract 0 (nl s 0)):=rfl;have G:Hid (qo s=s.extract (nl s 0+1) s.size):=by show _=_;unfold qo;rw[Or h]
  have I:Hid (qp s=true):=by show _=_;unfold qp;simp[h]
  obtain⟨n,u⟩:=ea (nl s 0);rw[u]at H HL G J h;clear u;go_enter func235,ntmps235
  go_wp2_with(go_at_call 223;refine(jn _ _).mono ?_;rintro e w'⟨rfl,rfl⟩;rw[H.out])
  go_region;go_wp2
  go_ret3;exact⟨by rw[HL.out,G.out,I.out];rfl,(gt _ _).drew⟩
 ·have H:Hid (IS s=-1):=by show _=_;unfold IS;rw[Eq h]
  have HL:Hid (tM s=s):=by show _=_;unfold tM;rw[show nl s 0=s.size by omega,mM]
  have G:Hid (qo s=⟨#[]⟩):=by show _=_;unfold qo;rw[Eq h]
  have I:Hid (qp s=false):=by show _=_;unfold qp;simp[h]
  clear J h;go_enter func235,ntmps235
  go_wp2_with(go_at_call 223;refine(jn _ _).mono ?_;rintro e w'⟨rfl,rfl⟩;rw[H.out])
  go_ret3;exact⟨by rw[HL.out,G.out,I.out];rfl,gt _ _⟩
def Lm (s:ByteArray) (w:World) (G:s.size<=maxLen) :
  Sa 207 #[.string s,.string ⟨#[10]⟩] w λe w'=>Uk e (.tuple #[.string (tM s),.string (qo s),.bool (qp s)])/\Se w w':=by
 go_enter func207,ntmps207
 go_wp2_with(go_at_call 235;refine(Ca _ _ G).mono ?_;rintro e w'⟨rfl,u⟩)
 go_ret3;exact⟨rfl,u⟩
def CP (s:ByteArray) (w:World) :
  Sa 140 #[.string s] w λe w'=>Uk e (.func (.func 206) #[] #[.pointer (some ⟨w.heap.size,0,none⟩)])/\w'=w.alloc (.cells #[.string s] 9):=by
 have u:=mkfn;go_enter func140,ntmps140;go_wp2;go_ret;exact⟨rfl,rfl⟩
open Go.RowKit Go.Shelf
attribute [local go_sem] Oper.semAt_some
def LN (s:ByteArray):Nat:=cn s s.size+1
def mS (s:ByteArray) (k:Nat):List (Int × ByteArray):=(List.range k).map (λi=>(((i+1:Nat):Int),ln s i))
def ls (s:ByteArray) (k:Nat):mS s (k+1)=mS s k++[(((k+1:Nat):Int),ln s k)]:=by
 unfold mS;rw[List.range_succ,SN];rfl
def D5 (s:ByteArray) (k:Nat):(mS s k).length=k:=by unfold mS;simp
def Ku (s:ByteArray) (a:Nat) (H:a<=s.size):nl (s.extract a s.size) 0=nl s a-a:=by
 have z:=aE s a s.size (ge _);obtain⟨I,J,u,G⟩:=ir s a H;refine vV _ 0 _ (RU _) (by omega) (λk _ M=>?_) ?_
 ·rw[bX s a s.size k (by omega)];exact u _ (by omega) (by omega)
 ·by_cases e:nl s a=s.size
  ·left;omega
  ·right;rw[bX s a s.size _ (by omega),show a+(nl s a-a)=nl s a by omega];exact G (by omega)
def Oi (s:ByteArray) (k:Nat) (h:k<LN s):tM (s.extract (bg s k) s.size)=ln s k/\qp (s.extract (bg s k) s.size)=decide (k+1<LN s) /\
  (k+1<LN s->qo (s.extract (bg s k) s.size)=s.extract (bg s (k+1)) s.size):=by
 unfold LN at h ⊢;have G:=pQ s k (by omega);obtain⟨I,J,u⟩:=Mh s k (by omega);have z:=aE s (bg s k) s.size (ge _);have e:=Ku s (bg s k) G.1;refine⟨?_,?_,λM=>?_⟩
 ·unfold tM;rw[e,gT s (bg s k) s.size 0 _ (ge _) (by omega) (RU _),Ua,show bg s k+(nl s (bg s k)-bg s k)=nl s (bg s k)by omega];rfl
 ·unfold qp;rw[e,z]
  by_cases hc:nl s (bg s k)<s.size
  ·have:=u.1 hc;rw[R8 (by omega),R8 (by omega)]
  ·have:¬k<cn s s.size:=λH=>hc (u.2 H)
   rw[R9 (by omega),R9 (by omega)]
 ·have hc:=u.2 (by omega);unfold qo;rw[e,z,Or (by omega),gT s (bg s k) s.size _ _ (ge _) (by omega) (by omega)];show s.extract _ _=s.extract (nl s (bg s k)+1) _
  congr 1<;>omega
abbrev Ln:={ x:Int × ByteArray // x.2.size<=maxLen }
abbrev Mn (x:Ln):Array Value:=#[Tu x.1.1,.string x.1.2]
def iD (h:Se w w'):w.grownBy w' none:=⟨h.os,h.tape,h.output,h.size,λk u _=>h.block k u⟩
def iA (h:Below w.heap.size w w'):KeepsOthers w w':=KeepsOthers.of_grownBy (iD h) (λ_ _ e=>by cases e)
def wg (n:Nat) (hn:1<=n) (O:Nat) (s:ByteArray) (hs:s.size<=2147483647) (w:World) (hB:O<w.heap.size) (hc:w.cell? (Tw O 0)=some (.string s)) :
  SeqStopsK Fence.wide n Tryz.prog 206 #[.pointer (some (Tw O 0))] Mn (λ_ _=>True) (λxs=>xs.map (·.1)=mS s (LN s)) (λpre=>∃k,k<=LN s/\pre.map (·.1)=mS s k) (LN s) w:=λl J Jx W hW hJ aj hY h0=>by
 have hL:LN s<=2147483648:=by have:=My s s.size;unfold LN;omega
 have ak:W.cell? (Tw O 0)=some (.string s):=(hW.cell (p:=(Tw O 0)) hB).trans hc;refine callsIn_of_wp func206 rfl trivial ?_ rfl;simp only[ntmps206,Vd,List.length_cons,List.length_nil,Nat.reduceAdd,Nat.reduceSub,UL,UM,Ve,UV,SI,R7];gi_wp2
 gi_loopw [3,4,5] (λr b m wr=>∃(k:Nat) (pre:List Ln) (q:ByteArray) (z:Int),r=.string q/\b=.bool (decide (k<LN s))/\m=Tu z/\Hid (z=((k+1:Nat):Int))/\Hid (k<=LN s)/\Hid (pre.map (·.1)=mS s k)/\Hid (k<LN s->q=s.extract (bg s k) s.size)/\J pre wr)
  (λ_ _ m _=>LN s+1-(RowKit.intOf m).toNat)
 case atStart=>
  refine⟨0,[],s,1,rfl,by rw[R8 (by unfold LN;omega)],rfl,rfl,RU _,rfl,?_,h0⟩;intro _;rw[show bg s 0=0 from rfl,mM]
 case round=>
  obtain⟨k,pre,q,z,rfl,rfl,rfl,M,HK,HP,HQ,aa⟩:=hrel
  by_cases H:k<LN s
  ·obtain⟨e1,e2,e3⟩:=Oi s k H;have hq:=HQ.out H;have ai:q.size<=maxLen:=by rw[hq,aE _ _ _ (ge _)];unfold maxLen;omega
   have G:(ln s k).size<=maxLen:=by have:=KE s k (by unfold LN at H;omega);unfold maxLen;omega
   rw[<-hq]at e1 e2 e3;obtain⟨b,hb⟩:=ea (decide (k<LN s));have ac:b=true:=by rw[<-hb];exact R8 H
   rw[hb,ac];have Q:=aW e1;have S:=aW e2;have Y:=aW e3;have I:=aW H;have al:0<=z:=by have:=M.out;omega
   have am:z<=2147483648:=by have:=M.out;omega
   have ad:Hid (pre.length<LN s):=by
    show _<_;have:=Sh List.length HP.out;rw[D5,Td]at this;omega
   clear e1 e2 e3 hq hb ac HQ H;obtain⟨L,u⟩:=ea (ln s k);obtain⟨CL,hCL⟩:∃L,tM q=L:=⟨_,rfl⟩;obtain⟨CR,hCR⟩:∃L,qo q=L:=⟨_,rfl⟩;obtain⟨CB,hCB⟩:∃L,qp q=L:=⟨_,rfl⟩
   have hcut:∀w,Sa 207 #[.string q,.string ⟨#[10]⟩] w λe w'=>Uk e (.tuple #[.string CL,.string CR,.bool CB])/\Below w.heap.size w w':=by
    intro w;rw[<-hCL,<-hCR,<-hCB];exact Lm q w ai
   rw[hCL,u]at Q;rw[hCB]at S;rw[hCR]at Y;rw[u]at G;obtain rfl:=Q.out;have Z:=aW u;clear hCL hCR hCB u;gi_wp2;refine⟨trivial,?_⟩;refine(Up.2 (hcut _)).mono ?_;rintro e w1⟨rfl,ah⟩;have af:=hJ pre _ w1 none aa (iD ah) (λr e=>by cases e);obtain⟨fn,tmps,assign,body,hy,hR⟩:=hY pre ⟨(z,CL),G⟩ w1 af ad.out;dsimp only[Mn]at hy;gi_wp2;refine hR.mono ?_;rintro e W3 (⟨rfl,ag,_⟩|⟨rfl,ae⟩)
   ·gi_wp2;go_roundw
    case rel=>exact⟨k+1,pre++[⟨(z,CL),G⟩],CR,z+1,rfl,by rw[S.out],by go_num,by show _=_;rw[M.out];omega,I.out,by show _=_;rw[SN,HP.out,ls,Z.out,M.out];rfl,Y.out,ag⟩
    case measure=>simp[RowKit.intOf];have:=M.out;have:=I.out;omega
   ·gi_wp2;refine R0 (Vo rfl _ _ _) rfl ?_;exact⟨⟨_,rfl⟩,.inr ⟨pre++[⟨(z,CL),G⟩],⟨k+1,I.out,by rw[SN,HP.out,ls,Z.out,M.out];rfl⟩,ae⟩⟩
  ·have ab:decide (k<LN s)=false:=R9 H;rw[ab];have HE:Hid (k=LN s):=by show _=_;have:=HK.out;omega
   clear ab H HQ;gi_wp2;go_end0;exact⟨⟨_,rfl⟩,.inl ⟨pre,by rw[HP.out,HE.out],aa⟩⟩
attribute [local go_sem] Oper.semAt_some
attribute [local go_sem] Oper.semAt_some
def Qx (a l c:Int):Value:=.agg #[Tu a,Tu l,Tu c]
def bO (W:World) (B:Nat) (a l c:Int):Prop:=W.heap[B]?=some (.cells #[Tu a,Tu l,Tu c] 45 (0,0))
def bO.lt {a:Int}(h:bO W B a l c):B<W.heap.size:=(Tt.1 h).1
def bO.cell0 {a:Int}(h:bO W B a l c):W.cell? (Tw B 0)=some (Tu a):=by simp[World.cell?,show W.heap[B]?=_ from h]
def bO.cell1 {a:Int}(h:bO W B a l c):W.cell? (Tw B 1)=some (Tu l):=by simp[World.cell?,show W.heap[B]?=_ from h]
def bO.cell2 {a:Int}(h:bO W B a l c):W.cell? (Tw B 2)=some (Tu c):=by simp[World.cell?,show W.heap[B]?=_ from h]
def bO.frozen {W:World}{B:Nat}{a l c:Int}(h:bO W B a l c) (k:Nat):W.frozen? (Tw B k)=false:=by simp[World.frozen?,show W.heap[B]?=_ from h]
def bO.new (W:World) (a l c:Int):bO (W.alloc (.cells #[Tu a,Tu l,Tu c] 45)) W.heap.size a l c:=World.alloc_heap_new W _
def bO.kept {W W':World}{row:Option Nat}{B:Nat}{a l c:Int}(h:bO W B a l c) (G:W.grownBy W' row) (u:some B≠row):bO W' B a l c:=(G.block B h.lt u).trans h
def bO.alloc {W:World}{B:Nat}{a l c:Int}(h:bO W B a l c) (o:Obj):bO (W.alloc o) B a l c:=h.kept (World.grownBy_alloc W o none) (by simp)
def bO.below {a:Int}(h:bO W B a l c) (u:Below W.heap.size W W'):bO W' B a l c:=(u.block B h.lt).trans h
def bO.drew {W:World}{B:Nat}{a l c:Int}(h:bO W B a l c):bO W.drew B a l c:=h
def bO.set0 {a:Int}(h:bO W B a l c) (v:Int):bO (W.setCell ⟨B,0,none⟩ (Tu v)) B v l c:=by
 obtain⟨u,G⟩:=Tt.1 h;show(W.heap.modify B _)[B]?=_;rw[Tx (by rw[TD];exact u),Ue,G];rfl
def bO.set1 {a:Int}(h:bO W B a l c) (v:Int):bO (W.setCell ⟨B,1,none⟩ (Tu v)) B a v c:=by
 obtain⟨u,G⟩:=Tt.1 h;show(W.heap.modify B _)[B]?=_;rw[Tx (by rw[TD];exact u),Ue,G];rfl
def bO.set2 {a:Int}(h:bO W B a l c) (v:Int):bO (W.setCell ⟨B,2,none⟩ (Tu v)) B a l v:=by
 obtain⟨u,G⟩:=Tt.1 h;show(W.heap.modify B _)[B]?=_;rw[Tx (by rw[TD];exact u),Ue,G];rfl
def jo (W:World) (p:Addr) (v:Value):W.grownBy (W.setCell p v) (some p.block):=
 ⟨rfl,rfl,rfl,(KeepsWalks.setCell W _ v).size,λk _ u=>U5 _ _ _ k (λe=>u (by rw[e]))⟩
def l9 {row:Option Nat}{a:Int}(h:bO W B a l c) (G:W.grownBy W' row) (H:∀r,row=some r->∃o:Obj,W.heap[r]?=some o/\o.isCells=false):bO W' B a l c:=
 h.kept G (λe=>by
  obtain⟨o,u,hc⟩:=H B e.symm;rw[show W.heap[B]?=_ from h]at u;cases u;cases hc)
def Ik {W:World}{B:Nat}{a l c:Int}(h:bO W B a l c) {D:Nat}{o o':Obj}(u:W.heap[D]?=some o) (G:o.isCells=false):bO (W.putObj D o') B a l c:=
 l9 h (grownBy_putObj' W D o') (λr e=>by cases e;exact⟨o,u,G⟩)
def Hs (s:ByteArray) (w:World) (u:s.size<=maxLen) :
  Sa 141 #[.string s] w λe w'=>Uk e (Tu (P s).length)/\Below w.heap.size w w':=
 (Dy s w u).mono (λe w' h=>⟨h.1,by obtain⟨p,rfl⟩:=h.2;exact du _ _ _⟩)
def ix (q:Int × Int) (x:Ln):Int × Int:=if 1<x.1.1 then(wrap64 (q.1+1),wrap64 (1+(P x.1.2).length))else(q.1,wrap64 (q.2+(P x.1.2).length))
def jM (l c:Int) (xs:List Ln):Int × Int:=xs.foldl ix (l,c)
def o9 (l c:Int) (xs:List Ln) (x:Ln):jM l c (xs++[x])=ix (jM l c xs) x:=by unfold jM;rw[Wf];rfl
def AM (s:ByteArray) (l c:Int):∀(k:Nat) (xs:List Ln),xs.map (·.1)=mS s k->0<k->jM l c xs=(wrap64 (l+(k-1:Nat)),wrap64 ((if k=1 then c else 1)+(P (ln s (k-1))).length))\/(k=1/\jM l c xs=(l,wrap64 (c+(P (ln s 0)).length)))
 |0,_,_,h=>by omega
 |k+1,xs,hx,_=>by
  rw[ls]at hx
  obtain⟨u,y,rfl,G,H⟩:∃u y,xs=u++[y]/\u.map (·.1)=mS s k/\y.1=(((k+1:Nat):Int),ln s k):=by
   rcases UB xs with rfl|⟨u,y,rfl⟩
   ·simp at hx
   ·rw[Vp,SN]at hx;have:=Vv hx (by simp);exact⟨u,y,by rw[Vp],this.1,by simpa using this.2⟩
  rw[o9];unfold ix;rw[H]
  by_cases I:k=0
  ·subst I
   right
   obtain rfl:u=[]:=by simpa[mS]using G
   rw[Eq (by simp)];exact⟨rfl,rfl⟩
  ·left
   rw[Or (by show(1:Int)<((k+1:Nat):Int);omega),Eq (by omega)];show(_,_)=(_,_)
   congr 1
   rcases AM s l c k u G (by omega)with e|⟨rfl,e⟩
   ·rw[e];show wrap64 (wrap64 (l+((k-1:Nat):Int))+1)=_;rw[og];congr 1;omega
   ·rw[e];rfl
def Jc (x:Int) (h:-9223372036854775808<=x/\x<=9223372036854775807):wrap64 x=x:=by unfold wrap64;omega
def NL (s:ByteArray) (l c:Int) (hl:-9223372036854775808<=l/\l<=9223372036854775807) (xs:List Ln) (I:xs.map (·.1)=mS s (LN s)):jM l c xs=(eP l s,jC c s):=by
 have u:=KF s;unfold eP jC
 rcases AM s l c (LN s) xs I (by unfold LN;omega)with e|⟨H,e⟩
 ·rw[e];unfold LN;rw[show cn s s.size+1-1=cn s s.size by omega,u]
  by_cases G:cn s s.size=0
  ·rw[Or (by omega),Or G]
  ·rw[Eq (by omega),Eq G]
 ·have G:cn s s.size=0:=by unfold LN at H;omega
  rw[G]at u;rw[e,G,Or rfl,u]
  congr 1
  rw[Jc _ (by simp;exact hl)];simp
theorem LV (S G c0:Int) (s:ByteArray) (w:World) (Y:s.size<=2147483647) (ae:-9223372036854775808<=G/\G<=9223372036854775807) :
  Sa 76 #[.agg #[.int .i64 S,.int .i64 G,.int .i64 c0],.string s] w fun e w'=>e=.returned (Qx (MC S s) (eP G s) (jC c0 s))/\Below w.heap.size w w':=by
 refine (Up (n:=9)).1 ?_;refine callsIn_of_wp_marks func76 rfl trivial ?_ rfl;simp only [ntmps76,Vd,List.length_cons,List.length_nil,Nat.reduceAdd,Nat.reduceSub,UL,UM,Ve,UV,SI,R7]
 gi_wp2
 refine ⟨trivial,?_⟩;refine (Up.2 (CP _ _)).mono ?_;rintro e w1 ⟨rfl,rfl⟩
 gi_wp2
 obtain ⟨I,Q⟩:∃I,wrap64 (S+(s.size:Int))=I:=⟨_,rfl⟩;rw [Q];have HA:Hid (MC S s=I):=Q;clear Q;obtain ⟨W0,hW0⟩:∃W0,(((w.alloc (Obj.cells #[Value.int IntKind.i64 I,Value.int IntKind.i64 G,Value.int IntKind.i64 c0] 45)).alloc (Obj.cells #[Value.int IntKind.i64 0,Value.int IntKind.i64 0,Value.int IntKind.i64 0] 45)).alloc (Obj.cells #[Value.string s] 9))=W0:=⟨_,rfl⟩;have hsz:W0.heap.size=w.heap.size+1+1+1:=by rw [<-hW0];simp
 have b0:bO W0 w.heap.size I G c0:=by rw [<-hW0];exact ((bO.new w _ _ _).alloc _).alloc _
 have b1:bO W0 (w.heap.size+1) 0 0 0:=by rw [<-hW0];have:=(bO.new (w.alloc (Obj.cells #[Value.int IntKind.i64 I,Value.int IntKind.i64 G,Value.int IntKind.i64 c0] 45)) 0 0 0).alloc (Obj.cells #[Value.string s] 9);rw [RT] at this;exact this
 have b2:Boxed W0 (w.heap.size+1+1) 9 (.string s):=by rw [<-hW0];have:=Boxed.new ((w.alloc (Obj.cells #[Value.int IntKind.i64 I,Value.int IntKind.i64 G,Value.int IntKind.i64 c0] 45)).alloc (Obj.cells #[Value.int IntKind.i64 0,Value.int IntKind.i64 0,Value.int IntKind.i64 0] 45)) 9 (.string s);rw [RT,RT] at this;exact this
 have ac:Below w.heap.size w W0:=by rw [<-hW0];exact (((gt _ w).alloc (ge _) _).alloc (by simp) _).alloc (by simp;omega) _
 rw [hW0];clear hW0;have af:Tryz.prog.follows .mixedOrders=true:=by kernel_rfl
 refine wpIn_rangeFunc_ownF rfl (by omega) (gf:=206) (lb:=#[.pointer (some ⟨w.heap.size+1+1,0,none⟩)]) rfl trivial (enters_of func206 (by kernel_rfl) rfl)
  (wg 8 (by omega) (w.heap.size+1+1) s Y W0 (by omega) b2.cell) (fun _ _=>trivial) (fun _ _ _ _ _ _ _ _=>trivial) (gt _ _) (fun _=>rfl)
  (fun pre W=>(bO W w.heap.size I (jM G c0 pre).1 (jM G c0 pre).2/\bO W (w.heap.size+1) 0 0 0)/\Below w.heap.size w W)
  (fun _ _ _=>False)
  (OwnFrom.and (Own.from (fun s A B row Y hg hr=>⟨l9 Y.1 hg hr,l9 Y.2 hg hr⟩) _) (ownFrom_below (ge _) (by omega)))
  (fun _ _ _ _ _ Y _ _=>Y)
  ⟨⟨b0,b1⟩,ac⟩
  (fun x=>{ tmps:=#[.agg #[.int .i64 S,.int .i64 G,.int .i64 c0],.string s,.pointer (some ⟨w.heap.size,0,none⟩),undef,.pointer (some ⟨w.heap.size+1,0,none⟩),.int .i64 x.1.1,.string x.1.2,.pointer (some ⟨w.heap.size,0,none⟩),.int .i64 S,.string s,.int .i64 s.size,.int .i64 I,.pointer (some ⟨w.heap.size,0,none⟩),.string s,.func (.func 206) #[] #[.pointer (some ⟨w.heap.size+1+1,0,none⟩)],.int .i64 x.1.1,.string x.1.2,undef,undef,undef,undef,undef,undef,undef,undef,undef,undef,undef,undef,undef,undef],defers:=[] }) ?assign ?body ?done ?stop
 case assign=>
  intro l x W K hK
  gi_wp2
  exact hK
 case body=>
  rintro l pre x W ⟨⟨k0,J⟩,hB⟩ _;obtain ⟨q,hq⟩:∃q,jM G c0 pre=q:=⟨_,rfl⟩;have HQ:Hid (jM G c0 (pre++[x])=ix q x):=by show _=_;rw [o9,hq]
  rw [hq] at k0;clear hq;have g1:=k0.cell1;have g2:=k0.cell2;have f1:=k0.frozen 1;have f2:=k0.frozen 2;have H:∀w,Sa 141 #[.string x.1.2] w fun e w'=>e=.returned (.int .i64 (P x.1.2).length)/\Below w.heap.size w w':=fun w=>Hs _ w x.2
  by_cases hx:1<x.1.1
  ·have HX:Hid (ix q x=(wrap64 (q.1+1),wrap64 (1+(P x.1.2).length))):=by show _=_;unfold ix;rw [Or hx]
   gi_wp2
   have Z:=(k0.set1 (wrap64 (q.1+1))).set2 1;have r1:=(J.kept (jo W ⟨w.heap.size,1,none⟩ (.int .i64 (wrap64 (q.1+1)))) (by simp)).kept (jo _ ⟨w.heap.size,2,none⟩ (.int .i64 1)) (by simp);have ab:=(KeepsOthers.setCell W ⟨w.heap.size,1,none⟩ (.int .i64 (wrap64 (q.1+1)))).trans (KeepsOthers.setCell _ ⟨w.heap.size,2,none⟩ (.int .i64 1));have M:=(hB.setCell (p:=⟨w.heap.size,1,none⟩) (ge _) (.int .i64 (wrap64 (q.1+1)))).setCell (p:=⟨w.heap.size,2,none⟩) (ge _) (.int .i64 1);obtain ⟨Wm,aa⟩:∃Wm,(W.setCell ⟨w.heap.size,1,none⟩ (.int .i64 (wrap64 (q.1+1)))).setCell ⟨w.heap.size,2,none⟩ (.int .i64 1)=Wm:=⟨_,rfl⟩;rw [aa] at Z r1 ab M ⊢;clear aa g1 g2 f1 f2;have g2:=Z.cell2;have f2:=Z.frozen 2
   gi_region_with_o (refine ⟨trivial,?_⟩;gi_at_call 141;refine (CallsIn.inRound l (Up.2 (H _))).mono ?_;rintro e w1 ⟨rfl,u⟩;have g3:=(Z.drew.below u).cell2;have f3:=(Z.drew.below u).frozen 2)
   all_goals gi_wp2
   all_goals (try go_bits)
   all_goals exact ⟨((ab.trans (KeepsOthers.drew _)).trans (iA u)).trans (KeepsOthers.setCell _ _ _),trivial,⟨by rw [HQ.out,HX.out];exact (Z.drew.below u).set2 _,(bO.drew r1 |>.below u).kept (jo _ _ _) (by simp)⟩,(M.drew.trans (u.mono M.size)).setCell (p:=⟨w.heap.size,2,none⟩) (ge _) _⟩
  ·have HX:Hid (ix q x=(q.1,wrap64 (q.2+(P x.1.2).length))):=by show _=_;unfold ix;rw [Eq hx]
   gi_wp2
   gi_region_with_o (refine ⟨trivial,?_⟩;gi_at_call 141;refine (CallsIn.inRound l (Up.2 (H _))).mono ?_;rintro e w1 ⟨rfl,u⟩;have g3:=(k0.drew.below u).cell2;have f3:=(k0.drew.below u).frozen 2)
   all_goals gi_wp2
   all_goals (try go_bits)
   all_goals exact ⟨((KeepsOthers.drew _).trans (iA u)).trans (KeepsOthers.setCell _ _ _),trivial,⟨by rw [HQ.out,HX.out];exact (k0.drew.below u).set2 _,(J.drew.below u).kept (jo _ _ _) (by simp)⟩,(hB.drew.trans (u.mono hB.size)).setCell (p:=⟨w.heap.size,2,none⟩) (ge _) _⟩
 case done=>
  rintro D ys W hD hS ⟨⟨k0,J⟩,hB⟩ hK;rw [NL s G c0 ae ys hS] at k0;obtain ⟨L,hL⟩:∃L,eP G s=L:=⟨_,rfl⟩;obtain ⟨C,hC⟩:∃C,jC c0 s=C:=⟨_,rfl⟩;rw [hL,hC] at k0;have HL:Hid (eP G s=L):=hL;have HC:Hid (jC c0 s=C):=hC;clear hL hC;have g0:=k0.cell0;have g1:=k0.cell1;have g2:=k0.cell2;have e0:=J.cell0;have e1:=J.cell1;have e2:=J.cell2;have f0:=J.frozen 0;have f1:=J.frozen 1;have f2:=J.frozen 2
  gi_wp2
  have O:=(((KeepsOthers.setCell W ⟨w.heap.size+1,0,none⟩ (.int .i64 I)).trans (KeepsOthers.setCell _ ⟨w.heap.size+1,1,none⟩ (.int .i64 L))).trans (KeepsOthers.setCell _ ⟨w.heap.size+1,2,none⟩ (.int .i64 C))).same D _ hK rfl;have j1:=((J.set0 I).set1 L).set2 C;have ad:=((hB.setCell (p:=⟨w.heap.size+1,0,none⟩) (by simp) (.int .i64 I)).setCell (p:=⟨w.heap.size+1,1,none⟩) (by simp) (.int .i64 L)).setCell (p:=⟨w.heap.size+1,2,none⟩) (by simp) (.int .i64 C);have m:=Ik (o':=.deferred none) j1 O rfl;have m0:=m.cell0;have m1:=m.cell1;have m2:=m.cell2;refine ⟨by simp,.inl ⟨_,_,rfl,run_takeDeferred O,?_⟩⟩;refine ⟨.agg #[.int .i64 I,.int .i64 L,.int .i64 C],?_,by rw [HA.out,HL.out,HC.out];rfl,ad.trans (belowK_b (w:=w) (ge _) _ D _ _ (by omega) O rfl rfl)⟩;simp [results,Tryz.f76,go_sem,m0,m1,m2]
 case stop=>
  rintro D c pre W _ _ h _;exact h.elim
