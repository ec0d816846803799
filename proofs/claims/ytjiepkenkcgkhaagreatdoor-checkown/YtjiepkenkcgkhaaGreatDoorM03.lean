import Derived.Lib.Bytealg
import Derived.Lib.Walk
import Derived.Shelf.RegionOpenPlain
import Derived.RangeFuncNested
import Derived.RangeFuncBound
import Derived.RangeFuncCalls
import Derived.RangeFuncLeaves
import Derived.Shelf.Abstract
import Derived.Shelf.RegionOpen
import Derived.OwnWalkIn
import Derived.TacticsInMore
import Derived.LoopNIn
import Derived.LoopIn
import Derived.Test.YtjiepkenkcgkhaaGreatDoorM02
set_option linter.unusedVariables false
set_option linter.unusedSimpArgs false
set_option maxHeartbeats 2000000
set_option maxRecDepth 100000
namespace Go.Proofs.YtjiepkenkcgkhaaGreatDoor.Lx
open Go.RowKit
variable {z m p b:Nat}{s:ByteArray}
inductive Rd where
 |out (p e:Nat)
 |on (n:Nat)
def rS (g:Nat->Nat->Rd):Nat->Nat->Nat->Nat × Nat
 |0,a,_=>(a,0)
 |f+1,a,m=>match g a m with
  |.out p e=>(p,e)
  |.on n=>rS g f (a+n) (m+1)
def run (g:Nat->Nat->Rd) (z a m:Nat):Nat × Nat:=rS g (z+1-a) a m
def fY (g:Nat->Nat->Rd) (z:Nat):Prop:=∀a m n,g a m=.on n->1<=n/\a+n<=z
theorem qJ {g:Nat->Nat->Rd}(hg:fY g z):∀(f f' a m:Nat),z+1<=a+f->z+1<=a+f'->a<=z->rS g f a m=rS g f' a m
 |0,_,_,_,h,_,h2=>by omega
 |_+1,0,_,_,_,h,h2=>by omega
 |f+1,f'+1,a,m,h,h1,h2=>by
  unfold rS;cases e:g a m with
  |out p e=>rfl
  |on n=>
   obtain ⟨h3,h4⟩:=hg a m n e;exact qJ hg f f' (a+n) (m+1) (by omega) (by omega) h4
theorem cj {g:Nat->Nat->Rd}{a e:Nat}(ha:a<=z) (h:g a m=.out p e):run g z a m=(p,e):=by
 unfold run;rw [show z+1-a=(z-a)+1 by omega];unfold rS;rw [h]
theorem fy {g:Nat->Nat->Rd}{a n:Nat}(hg:fY g z) (ha:a<=z) (h:g a m=.on n):run g z a m=run g z (a+n) (m+1):=by
 obtain ⟨h1,h2⟩:=hg a m n h;unfold run;rw [show z+1-a=(z-a)+1 by omega];rw [show rS g (z-a+1) a m=rS g (z-a) (a+n) (m+1) by rw [rS,h]];exact qJ hg _ _ _ _ (by omega) (by omega) h2
theorem cV {g:Nat->Nat->Rd}(hg:fY g z) (I:Nat->Nat->Prop) (Q:Nat × Nat->Prop)
  (hO:∀a m p e,a<=z->I a m->g a m=.out p e->Q (p,e)) (hN:∀a m n,a<=z->I a m->g a m=.on n->I (a+n) (m+1)) :
  ∀(d a m:Nat),z-a<=d->a<=z->I a m->Q (run g z a m)
 |d,a,m,hd,ha,hI=>by
  cases e:g a m with
  |out p q=>rw [cj ha e];exact hO a m p q ha hI e
  |on n=>
   obtain ⟨h3,h4⟩:=hg a m n e;rw [fy hg ha e];cases d with
   |zero=>omega
   |succ d=>exact cV hg I Q hO hN d (a+n) (m+1) (by omega) h4 (hN a m n ha hI e)
def cQ (c:Nat):Bool:=c == 32 || c == 9 || c == 13
def gi (s:ByteArray) (i:Nat):Bool:=gd s i && (decide (dp s i<32) || dp s i == 127)
def cJ (c:Nat):Bool:=decide (48<=c) && decide (c<=57)
def ak (s:ByteArray) (a:Nat):Nat:=
 if (gd s a && fC (dp s a))=true then 1 else if cJ (ay s a)=true then 3 else if ay s a=34 then 4 else if ay s a=39 then 5
 else if ay s a=47/\a+1<s.size/\ay s (a+1)=47 then 7 else if ay s a=123 then 8 else if (sg s a).size≠0 then 6 else 0
def cf (s:ByteArray) (f k:Nat) (a _:Nat):Rd:=
 if s.size<=a then .out a 0
 else if (k=1/\(gd s a && jC (dp s a))=false)\/(k=3/\cJ (ay s a)=false) then .out a 0
 else if 65535<a+dw s a-f then .out f 103
 else .on (dw s a)
def cq (s:ByteArray) (f q:Nat) (only:Bool) (a m:Nat):Rd:=
 if s.size<=a\/ay s a=10 then .out f 101
 else if 65535<a+dw s a-f then .out f 103
 else if ay s a=q/\(only=false\/m=1) then .out (a+1) 0
 else if gi s a=true\/(only=true/\(m=1\/ay s a=q)) then .out a 102
 else .on (dw s a)
def bF (s:ByteArray) (f:Nat) (blk:Bool) (a _:Nat):Rd:=
 if s.size<=a then (if blk=true then .out f 101 else .out a 0)
 else if blk=false/\ay s a=10 then .out a 0
 else if 65535<a+1-f then .out f 103
 else if blk=true/\ay s a=125 then .out (a+1) 0
 else .on 1
theorem cX (s:ByteArray) (f k:Nat):fY (cf s f k) s.size:=by
 intro a m n h;unfold cf at h
 split at h
 ·cases h
 ·rename_i h1
  obtain ⟨h2,h3,h4⟩:=aV s a (by omega)
  split at h
  ·cases h
  ·split at h
   ·cases h
   ·cases h;exact ⟨h2,h4⟩
theorem eS (s:ByteArray) (f q:Nat) (o:Bool):fY (cq s f q o) s.size:=by
 intro a m n h;unfold cq at h
 split at h
 ·cases h
 ·rename_i h1
  obtain ⟨h2,h3,h4⟩:=aV s a (by omega)
  split at h
  ·cases h
  ·split at h
   ·cases h
   ·split at h
    ·cases h
    ·cases h;exact ⟨h2,h4⟩
theorem cY (s:ByteArray) (f:Nat) (o:Bool):fY (bF s f o) s.size:=by
 intro a m n h;unfold bF at h
 split at h
 ·split at h <;> cases h
 ·rename_i h1
  split at h
  ·cases h
  ·split at h
   ·cases h
   ·split at h
    ·cases h
    ·cases h;exact ⟨gt _,by omega⟩
def ap (s:ByteArray) (a k:Nat):Nat × Nat:=
 if k=4 then run (cq s a 34 false) s.size (a+1) 0
 else if k=5 then run (cq s a 39 true) s.size (a+1) 0
 else if k=7 then run (bF s a false) s.size a 0
 else if k=8 then run (bF s a true) s.size a 0
 else if k=6 then (a+(sg s a).size,0)
 else run (cf s a k) s.size a 0
theorem jJ (s:ByteArray) (a:Nat) (h:(sg s a).size≠0):a+(sg s a).size<=s.size/\s.extract a (a+(sg s a).size)=sg s a/\sg s a∈bh:=by
 unfold sg at h ⊢;cases e:bh.find? (pre s a) with
 |none=>rw [e] at h;exact absurd rfl h
 |some x=>
  have h1:=List.find?_some e;have h2:=TD e;unfold pre at h1;have h3:=Rm h1;exact ⟨h3.1,h3.2,h2⟩
theorem LL (s:ByteArray) (a:Nat):(sg s a).size<=2:=by
 by_cases h:(sg s a).size≠0
 ·have h1:=(jJ s a h).2.2;have h2:∀x∈bh,x.size<=2:=by decide
  exact h2 _ h1
 ·omega
theorem ej (s:ByteArray) (a k p:Nat) (ha:a<s.size) (hk:ak s a=k) (h0:k≠0) (h:ap s a k=(p,0)):a<p/\p<=s.size:=by
 obtain ⟨d1,d2,d3⟩:=aV s a ha
 have hQ:∀q o,run (cq s a q o) s.size (a+1) 0=(p,0)->a<p/\p<=s.size:=by
  intro q o h
  have:=cV (eS s a q o) (fun b _=>a<b) (fun r=>r.2=0->a<r.1/\r.1<=s.size) (by
   intro b m x e hb hI hx he;unfold cq at hx
   split at hx
   ·cases hx;cases he
   ·split at hx
    ·cases hx;cases he
    ·split at hx
     ·cases hx;exact ⟨by show a<b+1;omega,by show b+1<=s.size;omega⟩
     ·split at hx
      ·cases hx;cases he
      ·cases hx) (by intro b m n hb hI hx;show a<b+n;omega) _ (a+1) 0 (gt _) (by omega) (by show a<a+1;omega)
  rw [h] at this;exact this rfl
 have hC:∀o,(o=true->ay s a≠125)->(o=false->ay s a≠10)->run (bF s a o) s.size a 0=(p,0)->a<p/\p<=s.size:=by
  intro o h1 h2 h
  have:=cV (cY s a o) (fun b _=>a<=b) (fun r=>r.2=0->a<r.1/\r.1<=s.size) (by
   intro b m x e hb hI hx he;unfold bF at hx
   split at hx
   ·split at hx
    ·cases hx;cases he
    ·cases hx;exact ⟨by show a<b;omega,hb⟩
   ·split at hx
    ·rename_i h3
     cases hx;refine ⟨?_,hb⟩;show a<b
     rcases Uf a b with h4|h4
     ·exact h4
     ·exact absurd (by rw [show a=b by omega];exact h3.2) (h2 h3.1)
    ·split at hx
     ·cases hx;cases he
     ·split at hx
      ·cases hx;exact ⟨by show a<b+1;omega,by show b+1<=s.size;omega⟩
      ·cases hx) (by intro b m n hb hI hx;show a<=b+n;omega) _ a 0 (gt _) (by omega) (gt _)
  rw [h] at this;exact this rfl
 have hR:((k=1/\(gd s a && jC (dp s a))=false)\/(k=3/\cJ (ay s a)=false)->False)->run (cf s a k) s.size a 0=(p,0)->a<p/\p<=s.size:=by
  intro h1 h
  have:=cV (cX s a k) (fun b _=>a<=b) (fun r=>r.2=0->a<r.1/\r.1<=s.size) (by
   intro b m x e hb hI hx he;unfold cf at hx
   split at hx
   ·cases hx;exact ⟨by show a<b;omega,hb⟩
   ·split at hx
    ·rename_i h3
     cases hx;refine ⟨?_,hb⟩;show a<b
     rcases Uf a b with h4|h4
     ·exact h4
     ·have:b=a:=Nat.le_antisymm h4 hI;rw [this] at h3;exact absurd h3 h1
    ·split at hx
     ·cases hx;cases he
     ·cases hx) (by intro b m n hb hI hx;show a<=b+n;omega) _ a 0 (gt _) (by omega) (gt _)
  rw [h] at this;exact this rfl
 unfold ap at h;unfold ak at hk
 by_cases c1:(gd s a && fC (dp s a))=true
 ·rw [IO c1] at hk;subst hk;simp only [show ¬(1:Nat)=4 by decide,show ¬(1:Nat)=5 by decide,show ¬(1:Nat)=7 by decide,show ¬(1:Nat)=8 by decide,show ¬(1:Nat)=6 by decide,R8] at h;refine hR ?_ h;rintro (⟨_,h3⟩|⟨h3,_⟩)
  ·rw [QR] at c1;rw [c1.1,uJ c1.2] at h3;cases h3
  ·cases h3
 ·rw [Eq c1] at hk
  by_cases c2:cJ (ay s a)=true
  ·rw [IO c2] at hk;subst hk;simp only [show ¬(3:Nat)=4 by decide,show ¬(3:Nat)=5 by decide,show ¬(3:Nat)=7 by decide,show ¬(3:Nat)=8 by decide,show ¬(3:Nat)=6 by decide,R8] at h;refine hR ?_ h;rintro (⟨h3,_⟩|⟨_,h3⟩)
   ·cases h3
   ·rw [c2] at h3;cases h3
  ·rw [Eq c2] at hk
   by_cases c3:ay s a=34
   ·rw [IO c3] at hk;subst hk;rw [IO rfl] at h;exact hQ _ _ h
   ·rw [Eq c3] at hk
    by_cases c4:ay s a=39
    ·rw [IO c4] at hk;subst hk;rw [Eq (by decide),IO rfl] at h;exact hQ _ _ h
    ·rw [Eq c4] at hk
     by_cases c5:ay s a=47/\a+1<s.size/\ay s (a+1)=47
     ·rw [IO c5] at hk;subst hk;rw [Eq (by decide),Eq (by decide),IO rfl] at h;exact hC false (by intro h;cases h) (by intro _;rw [c5.1];decide) h
     ·rw [Eq c5] at hk
      by_cases c6:ay s a=123
      ·rw [IO c6] at hk;subst hk;rw [Eq (by decide),Eq (by decide),Eq (by decide),IO rfl] at h;exact hC true (by intro _;rw [c6];decide) (by intro h;cases h) h
      ·rw [Eq c6] at hk
       by_cases c7:(sg s a).size≠0
       ·rw [IO c7] at hk;subst hk;rw [Eq (by decide),Eq (by decide),Eq (by decide),Eq (by decide),IO rfl] at h;cases h;exact ⟨by omega,(jJ s a c7).1⟩
       ·rw [Eq c7] at hk;exact absurd hk.symm h0
structure Tk where
 k:Nat
 a:Nat
 e:Nat
 f:Nat
def aY (s:ByteArray):Nat->Nat
 |0=>0
 |p+1=>if cQ (ay s p)=true then aY s p else p+1
def cM (s:ByteArray) (k a p f:Nat):Tk:=⟨if k=1/\ky (s.extract a p)=true then 2 else k,a,if k=7 then aY s p else p,f⟩
def lK (s:ByteArray):Nat->Nat->Nat->List Tk × Nat × Nat
 |0,_,_=>([],0,0)
 |g+1,a,f=>
  if s.size<=a then ([],0,0)
  else if ay s a=10 then lK s g (a+1) (f+1)
  else if cQ (ay s a)=true then lK s g (a+1) f
  else if ak s a=0 then ([],100,a)
  else if (ap s a (ak s a)).2≠0 then ([],(ap s a (ak s a)).2,(ap s a (ak s a)).1)
  else (cM s (ak s a) a (ap s a (ak s a)).1 f :: (lK s g (ap s a (ak s a)).1 0).1,(lK s g (ap s a (ak s a)).1 0).2)
def gS (s:ByteArray) (a f:Nat):List Tk × Nat × Nat:=lK s (s.size-a) a f
theorem js (s:ByteArray):∀(g g' a f:Nat),s.size<=a+g->s.size<=a+g'->lK s g a f=lK s g' a f
 |0,0,_,_,_,_=>rfl
 |0,g'+1,a,f,h,_=>by unfold lK;rw [IO (by omega)]
 |g+1,0,a,f,_,h=>by
  rw [show lK s 0 a f=([],0,0) from rfl];unfold lK;rw [IO (by omega)]
 |g+1,g'+1,a,f,h,h'=>by
  unfold lK
  by_cases h1:s.size<=a
  ·rw [IO h1,IO h1]
  ·rw [Eq h1,Eq h1,js s g g' (a+1) (f+1) (by omega) (by omega),js s g g' (a+1) f (by omega) (by omega)]
   by_cases h2:ak s a=0
   ·rw [IO h2,IO h2]
   ·by_cases h3:(ap s a (ak s a)).2≠0
    ·rw [IO h3,IO h3]
    ·have h4:=ej s a (ak s a) (ap s a (ak s a)).1 (by omega) rfl h2 (UJ rfl (by simpa using h3));rw [js s g g' _ 0 (by omega) (by omega)]
theorem eC (s:ByteArray) (a f:Nat) (h:s.size<=a):gS s a f=([],0,0):=by
 unfold gS;rw [show s.size-a=0 by omega];rfl
theorem ci (s:ByteArray) (a f:Nat) (h:a<s.size):gS s a f =
  if ay s a=10 then gS s (a+1) (f+1)
  else if cQ (ay s a)=true then gS s (a+1) f
  else if ak s a=0 then ([],100,a)
  else if (ap s a (ak s a)).2≠0 then ([],(ap s a (ak s a)).2,(ap s a (ak s a)).1)
  else (cM s (ak s a) a (ap s a (ak s a)).1 f :: (gS s (ap s a (ak s a)).1 0).1,(gS s (ap s a (ak s a)).1 0).2):=by
 have h0:gS s a f=lK s ((s.size-(a+1))+1) a f:=by unfold gS;rw [show s.size-a=(s.size-(a+1))+1 by omega]
 rw [h0];unfold lK;rw [Eq (by omega)]
 by_cases h2:ak s a=0
 ·simp only [IO h2];rfl
 ·by_cases h3:(ap s a (ak s a)).2≠0
  ·simp only [IO h3];rfl
  ·have h4:=ej s a (ak s a) (ap s a (ak s a)).1 h rfl h2 (UJ rfl (by simpa using h3));rw [js s (s.size-(a+1)) (s.size-(ap s a (ak s a)).1) (ap s a (ak s a)).1 0 (by omega) (by omega)];rfl
def fu (s:ByteArray):List Tk × Nat × Nat:=gS s 0 0
theorem fO (s:ByteArray):∀p,aY s p<=p
 |0=>gt _
 |p+1=>by
  unfold aY
  split
  ·have:=fO s p;omega
  ·exact gt _
theorem iX (s:ByteArray) (a:Nat) (h:cQ (ay s a)=false):∀p,a<p->a<aY s p
 |0,h1=>by omega
 |p+1,h1=>by
  unfold aY
  by_cases e:cQ (ay s p)=true
  ·rw [IO e];refine iX s a h p ?_
   rcases Uf a p with h2|h2
   ·exact h2
   ·rw [show a=p by omega,e] at h;cases h
  ·rw [Eq e];exact h1
theorem ot (s:ByteArray):∀p i,aY s p<=i->i<p->cQ (ay s i)=true
 |0,_,_,h=>by omega
 |p+1,i,h,h1=>by
  unfold aY at h
  by_cases e:cQ (ay s p)=true
  ·rw [IO e] at h
   by_cases e2:i=p
   ·rw [e2];exact e
   ·exact ot s p i h (by omega)
  ·rw [Eq e] at h;omega
theorem iL (s:ByteArray):∀(d a f:Nat),s.size-a<=d->∀t∈(gS s a f).1,a<=t.a/\t.a<t.e/\t.e<=s.size
 |d,a,f,hd,t,ht=>by
  by_cases h:a<s.size
  ·rw [ci s a f h] at ht;cases d with
   |zero=>omega
   |succ d=>
    by_cases h1:ay s a=10
    ·rw [IO h1] at ht;have:=iL s d (a+1) (f+1) (by omega) t ht;exact ⟨by omega,this.2⟩
    ·rw [Eq h1] at ht
     by_cases h2:cQ (ay s a)=true
     ·rw [IO h2] at ht;have:=iL s d (a+1) f (by omega) t ht;exact ⟨by omega,this.2⟩
     ·rw [Eq h2] at ht
      by_cases h3:ak s a=0
      ·rw [IO h3] at ht;cases ht
      ·rw [Eq h3] at ht
       by_cases h4:(ap s a (ak s a)).2≠0
       ·rw [IO h4] at ht;cases ht
       ·rw [Eq h4] at ht;have h5:=ej s a (ak s a) (ap s a (ak s a)).1 h rfl h3 (UJ rfl (by simpa using h4))
        rcases Rg.1 ht with rfl|ht
        ·refine ⟨gt _,?_,?_⟩
         ·show a<if _ then _ else _
          split
          ·exact iX s a (by simpa using h2) _ h5.1
          ·exact h5.1
         ·show (if _ then _ else _)<=s.size
          split
          ·exact QQ (fO s _) h5.2
          ·exact h5.2
        ·have:=iL s d _ 0 (by omega) t ht;exact ⟨by omega,this.2⟩
  ·rw [eC s a f (by omega)] at ht;cases ht
theorem bq (s:ByteArray) (i:Nat) (h:ay s i<128):dw s i=1/\dp s i=ay s i/\gd s i=true:=by
 have e:Utf8.decode s i=(ay s i,1):=by rw [bX];unfold D;rw [IO h]
 unfold gd dw dp;rw [e];refine ⟨rfl,rfl,?_⟩;show Ju (ay s i:Int) 1=true;have hn:((ay s i:Int) != 65533)=true:=by simp;omega
 unfold Ju;rw [hn];rfl
theorem Fz (s:ByteArray) (i:Nat) (h:dp s i<128):ay s i=dp s i:=by
 by_cases h8:ay s i<128
 ·exact (bq s i h8).2.1.symm
 ·exfalso
  unfold dp at h;rw [bX] at h;unfold D at h;rw [Eq h8] at h
  repeat' split at h
  all_goals first|(rename_i h2;simp only [ge_iff_le,QR,Rj] at h2;omega)|(simp only [] at h;omega)|(exact absurd h (by decide))
theorem KQ (s:ByteArray) (i c:Nat) (hc:c<128):dp s i=c↔ay s i=c:=by
 constructor
 ·intro h;rw [Fz s i (by omega),h]
 ·intro h;rw [(bq s i (by omega)).2.1,h]
theorem jW (s:ByteArray) (j:Nat) (hj:j<s.size) (h:ay s j<128):bd s j/\bd s (j+1):=by
 obtain ⟨m,h1,h2,h3,h4,h5⟩:=ke s j (P s).length (by rw [oA s _ (gt _)];exact hj)
 have e:st s m=j:=by
  apply Rv;intro hne
  have:=(jv s (st s m) (j-st s m) (by omega) (by omega)).2;rw [show st s m+(j-st s m)=j by omega] at this;omega
 refine ⟨⟨m,by omega,e⟩,⟨m+1,by omega,?_⟩⟩;rw [eO s m h2,e,(bq s j h).1]
theorem jA {a:Nat}(h:bd s a) (ha:a<s.size):bd s (a+dw s a):=by
 obtain ⟨k,hk,rfl⟩:=h;have hk2:=(gj s k).1 ha;exact ⟨k+1,by omega,eO s k hk2⟩
theorem Kd {a:Nat}(ha:bd s a) (hb:bd s b) (hab:a<=b):bd (s.extract 0 b) a:=by
 obtain ⟨i,hi,rfl⟩:=ha;obtain ⟨j,hj,rfl⟩:=hb
 have hij:i<=j:=by
  apply Rv;intro h
  have:=lr s j i (by omega) hi;omega
 have e:=uk s j hj i hij;have e2:=O3 s j hj;unfold hd at e e2;exact ⟨i,by omega,e⟩
def pL (s:ByteArray) (a:Nat):Int:=fp 1 (s.extract 0 a)
def pC (s:ByteArray) (a:Nat):Int:=jD 1 (s.extract 0 a)
theorem Mh (s:ByteArray):pL s 0=1/\pC s 0=1:=by
 have e:s.extract 0 0=ByteArray.empty:=by
  have hz:(s.extract 0 0).size=0:=by rw [az s 0 0 (QK _)]
  exact eX _ _ (by rw [hz];rfl) (fun j hj=>by omega)
 unfold pL pC;rw [e];have z:ByteArray.empty.size=0:=rfl
 have hp:(P (ByteArray.empty.extract (lf ByteArray.empty 0) 0)).length=0:=by
  have h1:=Ar (ByteArray.empty.extract (lf ByteArray.empty 0) 0);have h2:=az ByteArray.empty (lf ByteArray.empty 0) 0 (QK _);omega
 constructor
 ·unfold fp;rw [z];show wrap64 (1+((0:Nat):Int))=1;unfold wrap64;omega
 ·unfold jD;rw [z,hp];show wrap64 (1+((0:Nat):Int))=1;unfold wrap64;omega
theorem GA {a:Nat}(ha:bd s a) (hb:bd s b) (hab:a<=b) (hs:s.size<=2147483647) :
  Lc a (s.extract a b)=b/\fp (pL s a) (s.extract a b)=pL s b/\jD (pC s a) (s.extract a b)=pC s b:=by
 have hb2:=Gd hb;have z:(s.extract 0 b).size=b:=by rw [az s 0 b hb2];rfl
 have e1:(s.extract 0 b).extract 0 a=s.extract 0 a:=by
  rw [gw s 0 b 0 a hb2 (by omega) (QK _),QU,QU]
 have e2:(s.extract 0 b).extract a b=s.extract a b:=by
  rw [gw s 0 b a b hb2 (by omega) hab,QU,QU]
 refine ⟨?_,?_,?_⟩
 ·unfold Lc;rw [az s a b hb2];unfold wrap64;omega
 ·have h:=By (s.extract 0 b) a (by omega) 1;rw [z,e1,e2] at h;exact h
 ·have h:=FQ (s.extract 0 b) a (Kd ha hb hab) 1;rw [z,e1,e2] at h;exact h
theorem Of (s:ByteArray) (a:Nat):-9223372036854775808<=pL s a/\pL s a<=9223372036854775807:=by
 unfold pL fp wrap64;omega
theorem uu:∀x∈bh,(x.size=1\/x.size=2)/\ay x (x.size-1)<128:=by decide
theorem MQ {a k e:Nat}(hs:bd s a) (ha:a<s.size) (hk:ak s a=k) (h0:k≠0) (h:ap s a k=(p,e)):bd s p:=by
 have hQ:∀q o,q<128->ay s a=q->run (cq s a q o) s.size (a+1) 0=(p,e)->bd s p:=by
  intro q o hq hq2 h
  have:=cV (eS s a q o) (fun b _=>bd s b) (fun r=>bd s r.1) (by
   intro b m x e hb hI hx;unfold cq at hx
   split at hx
   ·cases hx;exact hs
   ·rename_i h1
    split at hx
    ·cases hx;exact hs
    ·split at hx
     ·rename_i h3
      cases hx;exact (jW s b (by omega) (by omega)).2
     ·split at hx
      ·cases hx;exact hI
      ·cases hx) (by
   intro b m n hb hI hx;unfold cq at hx
   split at hx
   ·cases hx
   ·rename_i h1
    split at hx
    ·cases hx
    ·split at hx
     ·cases hx
     ·split at hx
      ·cases hx
      ·cases hx;exact jA hI (by omega)) _ (a+1) 0 (gt _) (by omega) (jW s a ha (by omega)).2
  rw [h] at this;exact this
 have hC:∀o,run (bF s a o) s.size a 0=(p,e)->bd s p:=by
  intro o h
  have:=cV (cY s a o) (fun _ _=>True) (fun r=>bd s r.1) (by
   intro b m x e hb hI hx;unfold bF at hx
   split at hx
   ·split at hx
    ·cases hx;exact hs
    ·cases hx;rw [show b=s.size by omega];exact Ah s
   ·split at hx
    ·rename_i h3
     cases hx;exact (Gc s b h3.2).1
    ·split at hx
     ·cases hx;exact hs
     ·split at hx
      ·rename_i h3
       cases hx;exact (jW s b (by omega) (by omega)).2
      ·cases hx) (by intros;trivial) _ a 0 (gt _) (by omega) trivial
  rw [h] at this;exact this
 have hR:∀k,run (cf s a k) s.size a 0=(p,e)->bd s p:=by
  intro k h
  have:=cV (cX s a k) (fun b _=>bd s b) (fun r=>bd s r.1) (by
   intro b m x e hb hI hx;unfold cf at hx
   split at hx
   ·cases hx;exact hI
   ·split at hx
    ·cases hx;exact hI
    ·split at hx
     ·cases hx;exact hs
     ·cases hx) (by
   intro b m n hb hI hx;unfold cf at hx
   split at hx
   ·cases hx
   ·split at hx
    ·cases hx
    ·split at hx
     ·cases hx
     ·cases hx;exact jA hI (by omega)) _ a 0 (gt _) (by omega) hs
  rw [h] at this;exact this
 unfold ap at h
 by_cases k4:k=4
 ·rw [IO k4] at h;refine hQ 34 _ (by decide) ?_ h;rw [k4] at hk;unfold ak at hk
  repeat' split at hk
  all_goals first|assumption|(cases hk;done)
 ·rw [Eq k4] at h
  by_cases k5:k=5
  ·rw [IO k5] at h;refine hQ 39 _ (by decide) ?_ h;rw [k5] at hk;unfold ak at hk
   repeat' split at hk
   all_goals first|assumption|(cases hk;done)
  ·rw [Eq k5] at h
   by_cases k7:k=7
   ·rw [IO k7] at h;exact hC _ h
   ·rw [Eq k7] at h
    by_cases k8:k=8
    ·rw [IO k8] at h;exact hC _ h
    ·rw [Eq k8] at h
     by_cases k6:k=6
     ·rw [IO k6] at h;cases h
      have hsz:(sg s a).size≠0:=by
       rw [k6] at hk;unfold ak at hk
       repeat' split at hk
       all_goals first|assumption|(cases hk;done)
      obtain ⟨g1,g2,g3⟩:=jJ s a hsz;obtain ⟨g4,g5⟩:=uu _ g3
      have e1:ay s (a+((sg s a).size-1))<128:=by
       rw [<-g2] at g5;rw [az s _ _ g1,aR s a _ _ (by omega)] at g5;rw [show a+((sg s a).size-1)=a+(a+(sg s a).size-a-1) by omega];exact g5
      have:=(jW s _ (by omega) e1).2;rw [show a+((sg s a).size-1)+1=a+(sg s a).size by omega] at this;exact this
     ·rw [Eq k6] at h;exact hR _ h
theorem Nc {c:Nat}(h:cQ c=true):c<128:=by
 unfold cQ at h;simp at h;omega
theorem JK {s:ByteArray}{a k p e:Nat}(ha:a<s.size) (h:ap s a k=(p,e)) (he:e≠0):(p=a/\(e=101\/e=103))\/(e=102/\a<p/\p<=s.size):=by
 have hQ:∀q o,run (cq s a q o) s.size (a+1) 0=(p,e)->(p=a/\(e=101\/e=103))\/(e=102/\a<p/\p<=s.size):=by
  intro q o h
  have:=cV (eS s a q o) (fun b _=>a<b) (fun r=>r.2≠0->(r.1=a/\(r.2=101\/r.2=103))\/(r.2=102/\a<r.1/\r.1<=s.size)) (by
   intro b m x e hb hI hx he;unfold cq at hx
   split at hx
   ·cases hx;exact .inl ⟨rfl,.inl rfl⟩
   ·split at hx
    ·cases hx;exact .inl ⟨rfl,.inr rfl⟩
    ·split at hx
     ·cases hx;exact absurd rfl he
     ·split at hx
      ·cases hx;exact .inr ⟨rfl,hI,hb⟩
      ·cases hx) (by intro b m n hb hI hx;show a<b+n;omega) _ (a+1) 0 (gt _) (by omega) (by show a<a+1;omega)
  rw [h] at this;exact this he
 have hC:∀o,run (bF s a o) s.size a 0=(p,e)->p=a/\(e=101\/e=103):=by
  intro o h
  have:=cV (cY s a o) (fun _ _=>True) (fun r=>r.2≠0->r.1=a/\(r.2=101\/r.2=103)) (by
   intro b m x e hb hI hx he;unfold bF at hx
   split at hx
   ·split at hx
    ·cases hx;exact ⟨rfl,.inl rfl⟩
    ·cases hx;exact absurd rfl he
   ·split at hx
    ·cases hx;exact absurd rfl he
    ·split at hx
     ·cases hx;exact ⟨rfl,.inr rfl⟩
     ·split at hx
      ·cases hx;exact absurd rfl he
      ·cases hx) (by intros;trivial) _ a 0 (gt _) (by omega) trivial
  rw [h] at this;exact this he
 have hR:∀k,run (cf s a k) s.size a 0=(p,e)->p=a/\(e=101\/e=103):=by
  intro k h
  have:=cV (cX s a k) (fun _ _=>True) (fun r=>r.2≠0->r.1=a/\(r.2=101\/r.2=103)) (by
   intro b m x e hb hI hx he;unfold cf at hx
   split at hx
   ·cases hx;exact absurd rfl he
   ·split at hx
    ·cases hx;exact absurd rfl he
    ·split at hx
     ·cases hx;exact ⟨rfl,.inr rfl⟩
     ·cases hx) (by intros;trivial) _ a 0 (gt _) (by omega) trivial
  rw [h] at this;exact this he
 unfold ap at h
 split at h
 ·exact hQ _ _ h
 ·split at h
  ·exact hQ _ _ h
  ·split at h
   ·exact .inl (hC _ h)
   ·split at h
    ·exact .inl (hC _ h)
    ·split at h
     ·cases h;exact absurd rfl he
     ·exact .inl (hR _ h)
def tv (s:ByteArray) (t:Tk):Tv:=⟨t.k,s.extract t.a t.e,t.a,pL s t.a,pC s t.a,t.f⟩
def AV (w:World) (s:ByteArray) (e:Ending) (w':World):Prop:=
 (∃v,e=.returned (.tuple #[v,.int .i64 (fu s).2.1,.agg #[.int .i64 (if (fu s).2.1=0 then 0 else (fu s).2.2),.int .i64 (if (fu s).2.1=0 then 0 else pL s (fu s).2.2),.int .i64 (if (fu s).2.1=0 then 0 else pC s (fu s).2.2)]])/\Rt w.heap.size w' v ((fu s).1.map (tv s)))/\Below w.heap.size w w'
theorem Pe:∀l:List UInt8,(Lib.indexByte l 10=-1/\∀k:Nat,k<l.length->l[k]?≠some (10:UInt8))\/∃j:Nat,Lib.indexByte l 10=(j:Int)/\j<l.length/\l[j]?=some (10:UInt8)/\∀k,k<j->l[k]?≠some (10:UInt8)
 |[]=>.inl ⟨rfl,fun k h=>by simp at h⟩
 |b :: l=>by
  unfold Lib.indexByte
  by_cases hb:b=10
  ·exact .inr ⟨0,by simp [hb],by simp,by simp [hb],fun k h=>by omega⟩
  ·have hb':(b == (10:UInt8))=false:=by simpa using hb
   rw [hb']
   rcases Pe l with ⟨h1,h2⟩|⟨j,h1,h2,h3,h4⟩
   ·left
    refine ⟨by simp [h1],fun k hk=>?_⟩;cases k with
    |zero=>simpa using hb
    |succ k=>simp only [RZ];exact h2 k (by simpa using hk)
   ·right
    refine ⟨j+1,?_,by simp;omega,by simpa using h3,fun k hk=>?_⟩
    ·have:¬((j:Int)=-1):=by omega
     simp [h1,this]
    ·cases k with
     |zero=>simpa using hb
     |succ k=>simp only [RZ];exact h4 k (by omega)
theorem pV (s:ByteArray) (k:Nat) (h:k<s.size):ay s k=10↔s.data.toList[k]?=some (10:UInt8):=by
 have hz:k<s.data.size:=h
 have e:s.get! k=s.data.toList[k]?.getD default:=by
  show s.data[k]! = _
  rw [T3,SL,Tn]
 unfold ay;rw [e,Tn,Sc hz];simp;constructor
 ·intro h;exact Uw.1 h
 ·intro h;rw [h];rfl
def GH (r:ByteArray):Int:=if nl r 0<r.size then (nl r 0:Int) else -1
theorem vq (r:ByteArray):Lib.indexByte r.data.toList 10=GH r:=by
 have hz:r.data.toList.length=r.size:=by simp
 rcases Pe r.data.toList with ⟨h1,h2⟩|⟨j,h1,h2,h3,h4⟩
 ·have e:nl r 0=r.size:=uU r 0 r.size (QK _) (gt _) (fun k _ hk=>fun hc=>h2 k (by omega) ((pV r k hk).1 hc)) (.inl rfl);rw [h1];unfold GH;rw [Eq (by omega)]
 ·have e:nl r 0=j:=uU r 0 j (QK _) (by omega) (fun k _ hk=>fun hc=>h4 k hk ((pV r k (by omega)).1 hc)) (.inr ((pV r j (by omega)).2 h3));rw [h1];unfold GH;rw [IO (by omega),e]
theorem jT (s:ByteArray) (w:World) :
  Ra 210 #[.string s,.int .u8 10] w fun e w'=>e=.returned (.int .i64 (GH s))/\w'=w:=by
 go_enter Tryz.func210,Tryz.ntmps210
 go_wp2
 rw [run_callFunc_extern Tryz.func225 (by kernel_rfl) (by kernel_rfl) (by kernel_rfl) (e:=Extern.BytealgIndexByte.indexByte) (by kernel_rfl),Lib.run_indexByteString];simp only [Result.andThen];rw [Oper.upon_value]
 go_wp2
 go_ret
 exact ⟨by rw [<-vq];rfl,rfl⟩
theorem jm (s:ByteArray) (w:World) :
  Ra 208 #[.string s,.string ⟨#[10]⟩] w fun e w'=>e=.returned (.int .i64 (GH s))/\w'=w:=by
 go_enter Tryz.func208,Tryz.ntmps208
 go_wp2_with (go_at_call 210;refine (jT _ _).mono ?_;rintro e w' ⟨rfl,rfl⟩)
 ·have h:([(10:UInt8)] == s.toList)=true:=by assumption
  have e:s.data.toList=[10]:=by rw [<-Lib.toList_data];exact (RM.1 h).symm
  have e2:GH s=0:=by rw [<-vq,e];rfl
  go_ret
  exact ⟨by rw [e2];rfl,rfl⟩
 ·go_ret
  exact ⟨rfl,rfl⟩
def tg (r:ByteArray):ByteArray:=r.extract 0 (nl r 0)
def qr (r:ByteArray):ByteArray:=if nl r 0<r.size then r.extract (nl r 0+1) r.size else ⟨#[]⟩
def qt (r:ByteArray):Bool:=decide (nl r 0<r.size)
theorem AL (s:ByteArray) (w:World) (hs:s.size<=maxLen) :
  Ra 192 #[.string s,.string ⟨#[10]⟩] w fun e w'=>e=.returned (.tuple #[.string (tg s),.string (qr s),.bool (qt s)])/\Below w.heap.size w w':=by
 unfold maxLen at hs;have hn:=iz s 0 (QK _)
 by_cases h:nl s 0<s.size
 ·have Hi:Hid (GH s=(nl s 0:Int)):=by show _=_;unfold GH;rw [IO h]
  have HL:Hid (tg s=s.extract 0 (nl s 0)):=rfl;have HR:Hid (qr s=s.extract (nl s 0+1) s.size):=by show _=_;unfold qr;rw [IO h]
  have HB:Hid (qt s=true):=by show _=_;unfold qt;simp [h]
  obtain ⟨n,hn'⟩:∃n,nl s 0=n:=⟨_,rfl⟩;rw [hn'] at Hi HL HR hn h;clear hn'
  go_enter Tryz.func192,Tryz.ntmps192
  go_wp2_with (go_at_call 208;refine (jm _ _).mono ?_;rintro e w' ⟨rfl,rfl⟩;rw [Hi.out])
  go_region
  go_wp2
  go_ret3
  exact ⟨by rw [HL.out,HR.out,HB.out];rfl,(hH _ _).drew⟩
 ·have Hi:Hid (GH s=-1):=by show _=_;unfold GH;rw [Eq h]
  have HL:Hid (tg s=s):=by show _=_;unfold tg;rw [show nl s 0=s.size by omega,my]
  have HR:Hid (qr s=⟨#[]⟩):=by show _=_;unfold qr;rw [Eq h]
  have HB:Hid (qt s=false):=by show _=_;unfold qt;simp [h]
  clear hn h
  go_enter Tryz.func192,Tryz.ntmps192
  go_wp2_with (go_at_call 208;refine (jm _ _).mono ?_;rintro e w' ⟨rfl,rfl⟩;rw [Hi.out])
  go_ret3
  exact ⟨by rw [HL.out,HR.out,HB.out];rfl,hH _ _⟩
theorem JX (s:ByteArray) (w:World) (hs:s.size<=maxLen) :
  Ra 158 #[.string s,.string ⟨#[10]⟩] w fun e w'=>e=.returned (.tuple #[.string (tg s),.string (qr s),.bool (qt s)])/\Below w.heap.size w w':=by
 go_enter Tryz.func158,Tryz.ntmps158
 go_wp2_with (go_at_call 192;refine (AL _ _ hs).mono ?_;rintro e w' ⟨rfl,hb⟩)
 go_ret3
 exact ⟨rfl,hb⟩
theorem Bv (s:ByteArray) (w:World) :
  Ra 115 #[.string s] w fun e w'=>e=.returned (.func (.func 157) #[] #[.pointer (some ⟨w.heap.size,0,none⟩)])/\w'=w.alloc (.cells #[.string s] 9):=by
 have hmf:=mkfn
 go_enter Tryz.func115,Tryz.ntmps115
 go_wp2
 go_ret
 exact ⟨rfl,rfl⟩
end Go.Proofs.YtjiepkenkcgkhaaGreatDoor.Lx
namespace Go.Proofs.YtjiepkenkcgkhaaGreatDoor.Lx
open Go.RowKit Go.Shelf
variable {w w':World}
attribute [local go_sem] Oper.semAt_some
def LN (s:ByteArray):Nat:=cn s s.size+1
def mH (s:ByteArray) (k:Nat):List (Int × ByteArray):=(List.range k).map (fun i=>(((i+1:Nat):Int),ln s i))
theorem li (s:ByteArray) (k:Nat):mH s (k+1)=mH s k++[(((k+1:Nat):Int),ln s k)]:=by
 unfold mH;rw [List.range_succ,Su];rfl
theorem CK (s:ByteArray) (k:Nat):(mH s k).length=k:=by unfold mH;simp
theorem IU (s:ByteArray) (a:Nat) (ha:a<=s.size):nl (s.extract a s.size) 0=nl s a-a:=by
 have z:=az s a s.size (gt _);obtain ⟨h1,h2,h3,h4⟩:=iz s a ha;refine uU _ 0 _ (QK _) (by omega) (fun k _ hk=>?_) ?_
 ·rw [aR s a s.size k (by omega)];exact h3 _ (by omega) (by omega)
 ·by_cases e:nl s a=s.size
  ·left;omega
  ·right;rw [aR s a s.size _ (by omega),show a+(nl s a-a)=nl s a by omega];exact h4 (by omega)
theorem MZ (s:ByteArray) (k:Nat) (h:k<LN s):tg (s.extract (bg s k) s.size)=ln s k/\qt (s.extract (bg s k) s.size)=decide (k+1<LN s) /\
  (k+1<LN s->qr (s.extract (bg s k) s.size)=s.extract (bg s (k+1)) s.size):=by
 unfold LN at h ⊢;have hb:=pZ s k (by omega);obtain ⟨h1,h2,h3⟩:=KI s k (by omega);have z:=az s (bg s k) s.size (gt _);have e:=IU s (bg s k) hb.1;refine ⟨?_,?_,fun hk=>?_⟩
 ·unfold tg;rw [e,gw s (bg s k) s.size 0 _ (gt _) (by omega) (QK _),R7,show bg s k+(nl s (bg s k)-bg s k)=nl s (bg s k) by omega];rfl
 ·unfold qt;rw [e,z]
  by_cases hc:nl s (bg s k)<s.size
  ·have:=h3.1 hc;rw [QW (by omega),QW (by omega)]
  ·have:¬k<cn s s.size:=fun hh=>hc (h3.2 hh)
   rw [QX (by omega),QX (by omega)]
 ·have hc:=h3.2 (by omega);unfold qr;rw [e,z,IO (by omega),gw s (bg s k) s.size _ _ (gt _) (by omega) (by omega)];show s.extract _ _=s.extract (nl s (bg s k)+1) _
  congr 1 <;> omega
abbrev Ln:={ x:Int × ByteArray // x.2.size<=maxLen }
abbrev KL (x:Ln):Array Value:=#[.int .i64 x.1.1,.string x.1.2]
theorem iJ (h:Below w.heap.size w w'):w.grownBy w' none:=⟨h.os,h.tape,h.output,h.size,fun k hk _=>h.block k hk⟩
theorem iF (h:Below w.heap.size w w'):KeepsOthers w w':=KeepsOthers.of_grownBy (iJ h) (fun _ _ e=>by cases e)
theorem va (n:Nat) (hn:1<=n) (Bn:Nat) (s:ByteArray) (hs:s.size<=2147483647) (w:World) (hB:Bn<w.heap.size) (hc:w.cell? ⟨Bn,0,none⟩=some (.string s)) :
  SeqStopsK Fence.wide n Tryz.prog 157 #[.pointer (some ⟨Bn,0,none⟩)] KL (fun _ _=>True) (fun xs=>xs.map (·.1)=mH s (LN s)) (fun pre=>∃k,k<=LN s/\pre.map (·.1)=mH s k) (LN s) w:=fun l J Jx W hW hJ hJx hY h0=>by
 have hL:LN s<=2147483648:=by have:=KU s s.size;unfold LN;omega
 have hcW:W.cell? ⟨Bn,0,none⟩=some (.string s):=(hW.cell (p:=⟨Bn,0,none⟩) hB).trans hc;refine callsIn_of_wp Tryz.func157 rfl trivial ?_ rfl;simp only [Tryz.ntmps157,Tw,List.length_cons,List.length_nil,Nat.reduceAdd,Nat.reduceSub,Tz,TB,T7,TJ,Rr,Rh]
 gi_wp2
 gi_loopw [3,4,5] (fun r b m wr=>∃(k:Nat) (pre:List Ln) (q:ByteArray) (z:Int),r=.string q/\b=.bool (decide (k<LN s))/\m=.int .i64 z/\Hid (z=((k+1:Nat):Int))/\Hid (k<=LN s)/\Hid (pre.map (·.1)=mH s k)/\Hid (k<LN s->q=s.extract (bg s k) s.size)/\J pre wr)
  (fun _ _ m _=>LN s+1-(RowKit.intOf m).toNat)
 case atStart=>
  refine ⟨0,[],s,1,rfl,by rw [QW (by unfold LN;omega)],rfl,rfl,QK _,rfl,?_,h0⟩;intro _;rw [show bg s 0=0 from rfl,my]
 case round=>
  obtain ⟨k,pre,q,z,rfl,rfl,rfl,HZ,HK,HP,HQ,hJs⟩:=hrel
  by_cases hk:k<LN s
  ·obtain ⟨e1,e2,e3⟩:=MZ s k hk;have hq:=HQ.out hk;have hqs:q.size<=maxLen:=by rw [hq,az _ _ _ (gt _)];unfold maxLen;omega
   have hls:(ln s k).size<=maxLen:=by have:=Je s k (by unfold LN at hk;omega);unfold maxLen;omega
   rw [<-hq] at e1 e2 e3;obtain ⟨b,hb⟩:∃b,decide (k<LN s)=b:=⟨_,rfl⟩;have hbt:b=true:=by rw [<-hb];exact QW hk
   rw [hb,hbt];have HE1:Hid (tg q=ln s k):=e1;have HE2:Hid (qt q=decide (k+1<LN s)):=e2;have HE3:Hid (k+1<LN s->qr q=s.extract (bg s (k+1)) s.size):=e3;have HKL:Hid (k<LN s):=hk;have hz1:0<=z:=by have:=HZ.out;omega
   have hz2:z<=2147483648:=by have:=HZ.out;omega
   have HLEN:Hid (pre.length<LN s):=by
    show _<_
    have:=Q0 List.length HP.out;rw [CK,Ux] at this;omega
   clear e1 e2 e3 hq hb hbt HQ hk;obtain ⟨L,hLL⟩:∃L,ln s k=L:=⟨_,rfl⟩;obtain ⟨CL,hCL⟩:∃L,tg q=L:=⟨_,rfl⟩;obtain ⟨CR,hCR⟩:∃L,qr q=L:=⟨_,rfl⟩;obtain ⟨CB,hCB⟩:∃L,qt q=L:=⟨_,rfl⟩
   have hcut:∀w,Ra 158 #[.string q,.string ⟨#[10]⟩] w fun e w'=>e=.returned (.tuple #[.string CL,.string CR,.bool CB])/\Below w.heap.size w w':=by
    intro w;rw [<-hCL,<-hCR,<-hCB];exact JX q w hqs
   rw [hCL,hLL] at HE1;rw [hCB] at HE2;rw [hCR] at HE3;rw [hLL] at hls;obtain rfl:=HE1.out;have HLL:Hid (ln s k=CL):=hLL;clear hCL hCR hCB hLL
   gi_wp2
   refine ⟨trivial,?_⟩;refine (S9.2 (hcut _)).mono ?_;rintro e w1 ⟨rfl,hb1⟩;have hJ1:=hJ pre _ w1 none hJs (iJ hb1) (fun r e=>by cases e);obtain ⟨fn,tmps,assign,body,hy,hR⟩:=hY pre ⟨(z,CL),hls⟩ w1 hJ1 HLEN.out
   dsimp only [KL] at hy
   gi_wp2
   refine hR.mono ?_;rintro e W3 (⟨rfl,hJ3,_⟩|⟨rfl,hJx3⟩)
   ·gi_wp2
    go_roundw
    case rel=>exact ⟨k+1,pre++[⟨(z,CL),hls⟩],CR,z+1,rfl,by rw [HE2.out],by go_num,by show _=_;rw [HZ.out];omega,HKL.out,by show _=_;rw [Su,HP.out,li,HLL.out,HZ.out];rfl,HE3.out,hJ3⟩
    case measure=>simp [RowKit.intOf];have:=HZ.out;have:=HKL.out;omega
   ·gi_wp2
    refine QV (results_none rfl _ _ _) rfl ?_;exact ⟨⟨_,rfl⟩,.inr ⟨pre++[⟨(z,CL),hls⟩],⟨k+1,HKL.out,by rw [Su,HP.out,li,HLL.out,HZ.out];rfl⟩,hJx3⟩⟩
  ·have hbf:decide (k<LN s)=false:=QX hk;rw [hbf];have HE:Hid (k=LN s):=by show _=_;have:=HK.out;omega
   clear hbf hk HQ
   gi_wp2
   go_end0
   exact ⟨⟨_,rfl⟩,.inl ⟨pre,by rw [HP.out,HE.out],hJs⟩⟩
attribute [local go_sem] Oper.semAt_some
end Go.Proofs.YtjiepkenkcgkhaaGreatDoor.Lx
