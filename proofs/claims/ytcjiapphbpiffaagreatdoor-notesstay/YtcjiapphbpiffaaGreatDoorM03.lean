import Derived.Lib.Bytealg
import Derived.Lib.Walk
import Derived.Shelf.RegionOpenPlain
import Derived.RangeFuncNested
import Derived.RangeFuncBound
import Derived.RangeFuncCalls
import Derived.RangeFuncLeaves
import Derived.Shelf.Abstract
import Derived.Shelf.RegionOpen
import Derived.OwnWalkIn
import Derived.TacticsInMore
import Derived.LoopNIn
import Derived.LoopIn
import Derived.Test.YtcjiapphbpiffaaGreatDoorM02
set_option linter.unusedVariables false
set_option linter.unusedSimpArgs false
set_option maxHeartbeats 2000000
set_option maxRecDepth 100000
namespace Go.Proofs.YtcjiapphbpiffaaGreatDoor.Lx
open Go.RowKit
variable {z b n m p:Nat}{s:ByteArray}
inductive Rd where
 |out (p e:Nat)
 |on (n:Nat)
def sN (g:Nat->Nat->Rd):Nat->Nat->Nat->Nat × Nat
 |0,a,_=>(a,0)
 |f+1,a,m=>match g a m with
  |.out p e=>(p,e)
  |.on n=>sN g f (a+n) (m+1)
def run (g:Nat->Nat->Rd) (z a m:Nat):Nat × Nat:=sN g (z+1-a) a m
def gw (g:Nat->Nat->Rd) (z:Nat):Prop:=∀a m n,g a m=.on n->1<=n/\a+n<=z
theorem ru {g:Nat->Nat->Rd}(C:gw g z):∀(f f' a m:Nat),z+1<=a+f->z+1<=a+f'->a<=z->sN g f a m=sN g f' a m
 |0,_,_,_,h,_,h2=>by omega
 |_+1,0,_,_,_,h,h2=>by omega
 |f+1,f'+1,a,m,h,h1,h2=>by
  unfold sN;cases e:g a m with
  |out p e=>rfl
  |on n=>
   obtain ⟨G,F⟩:=C a m n e;exact ru C f f' (a+n) (m+1) (by omega) (by omega) F
theorem cB {g:Nat->Nat->Rd}{a e:Nat}(C:a<=z) (h:g a m=.out p e):run g z a m=(p,e):=by
 unfold run;rw [show z+1-a=(z-a)+1 by omega];unfold sN;rw [h]
theorem fK {g:Nat->Nat->Rd}{a:Nat}(C:gw g z) (H:a<=z) (h:g a m=.on n):run g z a m=run g z (a+n) (m+1):=by
 obtain ⟨G,F⟩:=C a m n h;unfold run;rw [show z+1-a=(z-a)+1 by omega];rw [show sN g (z-a+1) a m=sN g (z-a) (a+n) (m+1) by rw [sN,h]];exact ru C _ _ _ _ (by omega) (by omega) F
theorem cX {g:Nat->Nat->Rd}(C:gw g z) (I:Nat->Nat->Prop) (Q:Nat × Nat->Prop)
  (G:∀a m p e,a<=z->I a m->g a m=.out p e->Q (p,e)) (F:∀a m n,a<=z->I a m->g a m=.on n->I (a+n) (m+1)) :
  ∀(d a m:Nat),z-a<=d->a<=z->I a m->Q (run g z a m)
 |d,a,m,hd,ha,hI=>by
  cases e:g a m with
  |out p q=>rw [cB ha e];exact G a m p q ha hI e
  |on n=>
   obtain ⟨J,H⟩:=C a m n e;rw [fK C ha e];cases d with
   |zero=>omega
   |succ d=>exact cX C I Q G F d (a+n) (m+1) (by omega) H (F a m n ha hI e)
def cq (c:Nat):Bool:=c == 32 || c == 9 || c == 13
def gy (s:ByteArray) (i:Nat):Bool:=gd s i && (decide (dp s i<32) || dp s i == 127)
def cK (c:Nat):Bool:=decide (48<=c) && decide (c<=57)
def ak (s:ByteArray) (a:Nat):Nat:=
 if (gd s a && fL (dp s a))=true then 1 else if cK (ay s a)=true then 3 else if ay s a=34 then 4 else if ay s a=39 then 5
 else if ay s a=47/\a+1<s.size/\ay s (a+1)=47 then 7 else if ay s a=123 then 8 else if (sg s a).size≠0 then 6 else 0
def cg (s:ByteArray) (f k:Nat) (a _:Nat):Rd:=
 if s.size<=a then .out a 0
 else if (k=1/\(gd s a && iq (dp s a))=false)\/(k=3/\cK (ay s a)=false) then .out a 0
 else if 65535<a+dw s a-f then .out f 103
 else .on (dw s a)
def cE (s:ByteArray) (f q:Nat) (only:Bool) (a m:Nat):Rd:=
 if s.size<=a\/ay s a=10 then .out f 101
 else if 65535<a+dw s a-f then .out f 103
 else if ay s a=q/\(only=false\/m=1) then .out (a+1) 0
 else if gy s a=true\/(only=true/\(m=1\/ay s a=q)) then .out a 102
 else .on (dw s a)
def bF (s:ByteArray) (f:Nat) (blk:Bool) (a _:Nat):Rd:=
 if s.size<=a then (if blk=true then .out f 101 else .out a 0)
 else if blk=false/\ay s a=10 then .out a 0
 else if 65535<a+1-f then .out f 103
 else if blk=true/\ay s a=125 then .out (a+1) 0
 else .on 1
theorem cY (s:ByteArray) (f k:Nat):gw (cg s f k) s.size:=by
 intro a m n h;unfold cg at h
 split at h
 ·cases h
 ·rename_i G
  obtain ⟨C,H,F⟩:=aW s a (by omega)
  split at h
  ·cases h
  ·split at h
   ·cases h
   ·cases h;exact ⟨C,F⟩
theorem fp (s:ByteArray) (f q:Nat) (o:Bool):gw (cE s f q o) s.size:=by
 intro a m n h;unfold cE at h
 split at h
 ·cases h
 ·rename_i G
  obtain ⟨C,H,F⟩:=aW s a (by omega)
  split at h
  ·cases h
  ·split at h
   ·cases h
   ·split at h
    ·cases h
    ·cases h;exact ⟨C,F⟩
theorem dm (s:ByteArray) (f:Nat) (o:Bool):gw (bF s f o) s.size:=by
 intro a m n h;unfold bF at h
 split at h
 ·split at h <;> cases h
 ·rename_i C
  split at h
  ·cases h
  ·split at h
   ·cases h
   ·split at h
    ·cases h
    ·cases h;exact ⟨gt _,by omega⟩
def ap (s:ByteArray) (a k:Nat):Nat × Nat:=
 if k=4 then run (cE s a 34 false) s.size (a+1) 0
 else if k=5 then run (cE s a 39 true) s.size (a+1) 0
 else if k=7 then run (bF s a false) s.size a 0
 else if k=8 then run (bF s a true) s.size a 0
 else if k=6 then (a+(sg s a).size,0)
 else run (cg s a k) s.size a 0
theorem jS (s:ByteArray) (a:Nat) (h:(sg s a).size≠0):a+(sg s a).size<=s.size/\s.extract a (a+(sg s a).size)=sg s a/\sg s a∈aZ:=by
 unfold sg at h ⊢;cases e:aZ.find? (pre s a) with
 |none=>rw [e] at h;exact absurd rfl h
 |some x=>
  have C:=List.find?_some e;have G:=U1 e;unfold pre at C;have F:=TI C;exact ⟨F.1,F.2,G⟩
theorem Ni (s:ByteArray) (a:Nat):(sg s a).size<=2:=by
 by_cases h:(sg s a).size≠0
 ·have C:=(jS s a h).2.2;have F:∀x∈aZ,x.size<=2:=by decide
  exact F _ C
 ·omega
theorem da (s:ByteArray) (a k p:Nat) (ha:a<s.size) (F:ak s a=k) (h0:k≠0) (h:ap s a k=(p,0)):a<p/\p<=s.size:=by
 obtain ⟨d1,d2,d3⟩:=aW s a ha
 have Y:∀q o,run (cE s a q o) s.size (a+1) 0=(p,0)->a<p/\p<=s.size:=by
  intro q o h
  have:=cX (fp s a q o) (fun b _=>a<b) (fun r=>r.2=0->a<r.1/\r.1<=s.size) (by
   intro b m x e H M C I;unfold cE at C
   split at C
   ·cases C;cases I
   ·split at C
    ·cases C;cases I
    ·split at C
     ·cases C;exact ⟨by show a<b+1;omega,by show b+1<=s.size;omega⟩
     ·split at C
      ·cases C;cases I
      ·cases C) (by intro b m n H M C;show a<b+n;omega) _ (a+1) 0 (gt _) (by omega) (by show a<a+1;omega)
  rw [h] at this;exact this rfl
 have U:∀o,(o=true->ay s a≠125)->(o=false->ay s a≠10)->run (bF s a o) s.size a 0=(p,0)->a<p/\p<=s.size:=by
  intro o S h2 h
  have:=cX (dm s a o) (fun b _=>a<=b) (fun r=>r.2=0->a<r.1/\r.1<=s.size) (by
   intro b m x e H M C I;unfold bF at C
   split at C
   ·split at C
    ·cases C;cases I
    ·cases C;exact ⟨by show a<b;omega,H⟩
   ·split at C
    ·rename_i G
     cases C;refine ⟨?_,H⟩;show a<b
     rcases Vy a b with J|J
     ·exact J
     ·exact absurd (by rw [show a=b by omega];exact G.2) (h2 G.1)
    ·split at C
     ·cases C;cases I
     ·split at C
      ·cases C;exact ⟨by show a<b+1;omega,by show b+1<=s.size;omega⟩
      ·cases C) (by intro b m n H M C;show a<=b+n;omega) _ a 0 (gt _) (by omega) (gt _)
  rw [h] at this;exact this rfl
 have Z:((k=1/\(gd s a && iq (dp s a))=false)\/(k=3/\cK (ay s a)=false)->False)->run (cg s a k) s.size a 0=(p,0)->a<p/\p<=s.size:=by
  intro S h
  have:=cX (cY s a k) (fun b _=>a<=b) (fun r=>r.2=0->a<r.1/\r.1<=s.size) (by
   intro b m x e H M C I;unfold cg at C
   split at C
   ·cases C;exact ⟨by show a<b;omega,H⟩
   ·split at C
    ·rename_i G
     cases C;refine ⟨?_,H⟩;show a<b
     rcases Vy a b with J|J
     ·exact J
     ·have:b=a:=Nat.le_antisymm J M;rw [this] at G;exact absurd G S
    ·split at C
     ·cases C;cases I
     ·cases C) (by intro b m n H M C;show a<=b+n;omega) _ a 0 (gt _) (by omega) (gt _)
  rw [h] at this;exact this rfl
 unfold ap at h;unfold ak at F
 by_cases c1:(gd s a && fL (dp s a))=true
 ·rw [IO c1] at F;subst F;simp only [show ¬(1:Nat)=4 by decide,show ¬(1:Nat)=5 by decide,show ¬(1:Nat)=7 by decide,show ¬(1:Nat)=8 by decide,show ¬(1:Nat)=6 by decide,Ui] at h;refine Z ?_ h;rintro (⟨_,G⟩|⟨G,_⟩)
  ·rw [Tc] at c1;rw [c1.1,vQ c1.2] at G;cases G
  ·cases G
 ·rw [Eq c1] at F
  by_cases c2:cK (ay s a)=true
  ·rw [IO c2] at F;subst F;simp only [show ¬(3:Nat)=4 by decide,show ¬(3:Nat)=5 by decide,show ¬(3:Nat)=7 by decide,show ¬(3:Nat)=8 by decide,show ¬(3:Nat)=6 by decide,Ui] at h;refine Z ?_ h;rintro (⟨G,_⟩|⟨_,G⟩)
   ·cases G
   ·rw [c2] at G;cases G
  ·rw [Eq c2] at F
   by_cases c3:ay s a=34
   ·rw [IO c3] at F;subst F;rw [IO rfl] at h;exact Y _ _ h
   ·rw [Eq c3] at F
    by_cases c4:ay s a=39
    ·rw [IO c4] at F;subst F;rw [Eq (by decide),IO rfl] at h;exact Y _ _ h
    ·rw [Eq c4] at F
     by_cases O:ay s a=47/\a+1<s.size/\ay s (a+1)=47
     ·rw [IO O] at F;subst F;rw [Eq (by decide),Eq (by decide),IO rfl] at h;exact U false (by intro h;cases h) (by intro _;rw [O.1];decide) h
     ·rw [Eq O] at F
      by_cases c6:ay s a=123
      ·rw [IO c6] at F;subst F;rw [Eq (by decide),Eq (by decide),Eq (by decide),IO rfl] at h;exact U true (by intro _;rw [c6];decide) (by intro h;cases h) h
      ·rw [Eq c6] at F
       by_cases Q:(sg s a).size≠0
       ·rw [IO Q] at F;subst F;rw [Eq (by decide),Eq (by decide),Eq (by decide),Eq (by decide),IO rfl] at h;cases h;exact ⟨by omega,(jS s a Q).1⟩
       ·rw [Eq Q] at F;exact absurd F.symm h0
structure Tk where
 k:Nat
 a:Nat
 e:Nat
 f:Nat
def aV (s:ByteArray):Nat->Nat
 |0=>0
 |p+1=>if cq (ay s p)=true then aV s p else p+1
def bS (s:ByteArray) (k a p f:Nat):Tk:=⟨if k=1/\ky (s.extract a p)=true then 2 else k,a,if k=7 then aV s p else p,f⟩
def mg (s:ByteArray):Nat->Nat->Nat->List Tk × Nat × Nat
 |0,_,_=>([],0,0)
 |g+1,a,f=>
  if s.size<=a then ([],0,0)
  else if ay s a=10 then mg s g (a+1) (f+1)
  else if cq (ay s a)=true then mg s g (a+1) f
  else if ak s a=0 then ([],100,a)
  else if (ap s a (ak s a)).2≠0 then ([],(ap s a (ak s a)).2,(ap s a (ak s a)).1)
  else (bS s (ak s a) a (ap s a (ak s a)).1 f :: (mg s g (ap s a (ak s a)).1 0).1,(mg s g (ap s a (ak s a)).1 0).2)
def ep (s:ByteArray) (a f:Nat):List Tk × Nat × Nat:=mg s (s.size-a) a f
theorem jF (s:ByteArray):∀(g C a f:Nat),s.size<=a+g->s.size<=a+C->mg s g a f=mg s C a f
 |0,0,_,_,_,_=>rfl
 |0,C+1,a,f,h,_=>by unfold mg;rw [IO (by omega)]
 |g+1,0,a,f,_,h=>by
  rw [show mg s 0 a f=([],0,0) from rfl];unfold mg;rw [IO (by omega)]
 |g+1,C+1,a,f,h,h'=>by
  unfold mg
  by_cases F:s.size<=a
  ·rw [IO F,IO F]
  ·rw [Eq F,Eq F,jF s g C (a+1) (f+1) (by omega) (by omega),jF s g C (a+1) f (by omega) (by omega)]
   by_cases G:ak s a=0
   ·rw [IO G,IO G]
   ·by_cases H:(ap s a (ak s a)).2≠0
    ·rw [IO H,IO H]
    ·have I:=da s a (ak s a) (ap s a (ak s a)).1 (by omega) rfl G (VU rfl (by simpa using H));rw [jF s g C _ 0 (by omega) (by omega)]
theorem dq (s:ByteArray) (a f:Nat) (h:s.size<=a):ep s a f=([],0,0):=by
 unfold ep;rw [show s.size-a=0 by omega];rfl
theorem bP (s:ByteArray) (a f:Nat) (h:a<s.size):ep s a f =
  if ay s a=10 then ep s (a+1) (f+1)
  else if cq (ay s a)=true then ep s (a+1) f
  else if ak s a=0 then ([],100,a)
  else if (ap s a (ak s a)).2≠0 then ([],(ap s a (ak s a)).2,(ap s a (ak s a)).1)
  else (bS s (ak s a) a (ap s a (ak s a)).1 f :: (ep s (ap s a (ak s a)).1 0).1,(ep s (ap s a (ak s a)).1 0).2):=by
 have G:ep s a f=mg s ((s.size-(a+1))+1) a f:=by unfold ep;rw [show s.size-a=(s.size-(a+1))+1 by omega]
 rw [G];unfold mg;rw [Eq (by omega)]
 by_cases C:ak s a=0
 ·simp only [IO C];rfl
 ·by_cases F:(ap s a (ak s a)).2≠0
  ·simp only [IO F];rfl
  ·have H:=da s a (ak s a) (ap s a (ak s a)).1 h rfl C (VU rfl (by simpa using F));rw [jF s (s.size-(a+1)) (s.size-(ap s a (ak s a)).1) (ap s a (ak s a)).1 0 (by omega) (by omega)];rfl
def cV (s:ByteArray):List Tk × Nat × Nat:=ep s 0 0
theorem dG (s:ByteArray):∀p,aV s p<=p
 |0=>gt _
 |p+1=>by
  unfold aV
  split
  ·have:=dG s p;omega
  ·exact gt _
theorem gU (s:ByteArray) (a:Nat) (h:cq (ay s a)=false):∀p,a<p->a<aV s p
 |0,h1=>by omega
 |p+1,h1=>by
  unfold aV
  by_cases e:cq (ay s p)=true
  ·rw [IO e];refine gU s a h p ?_
   rcases Vy a p with C|C
   ·exact C
   ·rw [show a=p by omega,e] at h;cases h
  ·rw [Eq e];exact h1
theorem gj (s:ByteArray):∀p i,aV s p<=i->i<p->cq (ay s i)=true
 |0,_,_,h=>by omega
 |p+1,i,h,h1=>by
  unfold aV at h
  by_cases e:cq (ay s p)=true
  ·rw [IO e] at h
   by_cases C:i=p
   ·rw [C];exact e
   ·exact gj s p i h (by omega)
  ·rw [Eq e] at h;omega
theorem gq (s:ByteArray):∀(d a f:Nat),s.size-a<=d->∀t∈(ep s a f).1,a<=t.a/\t.a<t.e/\t.e<=s.size
 |d,a,f,hd,t,ht=>by
  by_cases h:a<s.size
  ·rw [bP s a f h] at ht;cases d with
   |zero=>omega
   |succ d=>
    by_cases I:ay s a=10
    ·rw [IO I] at ht;have:=gq s d (a+1) (f+1) (by omega) t ht;exact ⟨by omega,this.2⟩
    ·rw [Eq I] at ht
     by_cases F:cq (ay s a)=true
     ·rw [IO F] at ht;have:=gq s d (a+1) f (by omega) t ht;exact ⟨by omega,this.2⟩
     ·rw [Eq F] at ht
      by_cases G:ak s a=0
      ·rw [IO G] at ht;cases ht
      ·rw [Eq G] at ht
       by_cases H:(ap s a (ak s a)).2≠0
       ·rw [IO H] at ht;cases ht
       ·rw [Eq H] at ht;have C:=da s a (ak s a) (ap s a (ak s a)).1 h rfl G (VU rfl (by simpa using H))
        rcases Tt.1 ht with rfl|ht
        ·refine ⟨gt _,?_,?_⟩
         ·show a<if _ then _ else _
          split
          ·exact gU s a (by simpa using F) _ C.1
          ·exact C.1
         ·show (if _ then _ else _)<=s.size
          split
          ·exact SY (dG s _) C.2
          ·exact C.2
        ·have:=gq s d _ 0 (by omega) t ht;exact ⟨by omega,this.2⟩
  ·rw [dq s a f (by omega)] at ht;cases ht
theorem bp (s:ByteArray) (i:Nat) (h:ay s i<128):dw s i=1/\dp s i=ay s i/\gd s i=true:=by
 have e:Utf8.decode s i=(ay s i,1):=by rw [cf];unfold D;rw [IO h]
 unfold gd dw dp;rw [e];refine ⟨rfl,rfl,?_⟩;show KX (ay s i:Int) 1=true;have C:((ay s i:Int) != 65533)=true:=by simp;omega
 unfold KX;rw [C];rfl
theorem GV (s:ByteArray) (i:Nat) (h:dp s i<128):ay s i=dp s i:=by
 by_cases C:ay s i<128
 ·exact (bp s i C).2.1.symm
 ·exfalso
  unfold dp at h;rw [cf] at h;unfold D at h;rw [Eq C] at h
  repeat' split at h
  all_goals first|(rename_i F;simp only [ge_iff_le,Tc,Tz] at F;omega)|(simp only [] at h;omega)|(exact absurd h (by decide))
theorem MF (s:ByteArray) (i c:Nat) (hc:c<128):dp s i=c↔ay s i=c:=by
 constructor
 ·intro h;rw [GV s i (by omega),h]
 ·intro h;rw [(bp s i (by omega)).2.1,h]
theorem kj (s:ByteArray) (j:Nat) (F:j<s.size) (h:ay s j<128):bd s j/\bd s (j+1):=by
 obtain ⟨m,H,C,I,J,M⟩:=kA s j (P s).length (by rw [oX s _ (gt _)];exact F)
 have e:st s m=j:=by
  apply TF;intro G
  have:=(jI s (st s m) (j-st s m) (by omega) (by omega)).2;rw [show st s m+(j-st s m)=j by omega] at this;omega
 refine ⟨⟨m,by omega,e⟩,⟨m+1,by omega,?_⟩⟩;rw [fk s m C,e,(bp s j h).1]
theorem jM {a:Nat}(h:bd s a) (F:a<s.size):bd s (a+dw s a):=by
 obtain ⟨k,G,rfl⟩:=h;have C:=(gz s k).1 F;exact ⟨k+1,by omega,fk s k C⟩
theorem LV {a:Nat}(G:bd s a) (H:bd s b) (J:a<=b):bd (s.extract 0 b) a:=by
 obtain ⟨i,I,rfl⟩:=G;obtain ⟨j,hj,rfl⟩:=H
 have C:i<=j:=by
  apply TF;intro h
  have:=lM s j i (by omega) I;omega
 have e:=vm s j hj i C;have F:=QN s j hj;unfold hd at e F;exact ⟨i,by omega,e⟩
def pL (s:ByteArray) (a:Nat):Int:=fG 1 (s.extract 0 a)
def pC (s:ByteArray) (a:Nat):Int:=jO 1 (s.extract 0 a)
theorem NP (s:ByteArray):pL s 0=1/\pC s 0=1:=by
 have e:s.extract 0 0=ByteArray.empty:=by
  have F:(s.extract 0 0).size=0:=by rw [av s 0 0 (SW _)]
  exact dr _ _ (by rw [F];rfl) (fun j I=>by omega)
 unfold pL pC;rw [e];have z:ByteArray.empty.size=0:=rfl
 have C:(P (ByteArray.empty.extract (lf ByteArray.empty 0) 0)).length=0:=by
  have G:=BF (ByteArray.empty.extract (lf ByteArray.empty 0) 0);have H:=av ByteArray.empty (lf ByteArray.empty 0) 0 (SW _);omega
 constructor
 ·unfold fG;rw [z];show wrap64 (1+((0:Nat):Int))=1;unfold wrap64;omega
 ·unfold jO;rw [z,C];show wrap64 (1+((0:Nat):Int))=1;unfold wrap64;omega
theorem Iz {a:Nat}(J:bd s a) (I:bd s b) (F:a<=b) (M:s.size<=2147483647) :
  MS a (s.extract a b)=b/\fG (pL s a) (s.extract a b)=pL s b/\jO (pC s a) (s.extract a b)=pC s b:=by
 have C:=Ic I;have z:(s.extract 0 b).size=b:=by rw [av s 0 b C];rfl
 have G:(s.extract 0 b).extract 0 a=s.extract 0 a:=by
  rw [gJ s 0 b 0 a C (by omega) (SW _),Td,Td]
 have H:(s.extract 0 b).extract a b=s.extract a b:=by
  rw [gJ s 0 b a b C (by omega) F,Td,Td]
 refine ⟨?_,?_,?_⟩
 ·unfold MS;rw [av s a b C];unfold wrap64;omega
 ·have h:=CK (s.extract 0 b) a (by omega) 1;rw [z,G,H] at h;exact h
 ·have h:=G9 (s.extract 0 b) a (LV J I F) 1;rw [z,G,H] at h;exact h
theorem PY (s:ByteArray) (a:Nat):-9223372036854775808<=pL s a/\pL s a<=9223372036854775807:=by
 unfold pL fG wrap64;omega
theorem vA:∀x∈aZ,(x.size=1\/x.size=2)/\ay x (x.size-1)<128:=by decide
theorem OA {a k e:Nat}(H:bd s a) (ha:a<s.size) (F:ak s a=k) (h0:k≠0) (h:ap s a k=(p,e)):bd s p:=by
 have U:∀q o,q<128->ay s a=q->run (cE s a q o) s.size (a+1) 0=(p,e)->bd s p:=by
  intro q o hq aa h
  have:=cX (fp s a q o) (fun b _=>bd s b) (fun r=>bd s r.1) (by
   intro b m x e I G C;unfold cE at C
   split at C
   ·cases C;exact H
   ·rename_i h1
    split at C
    ·cases C;exact H
    ·split at C
     ·rename_i J
      cases C;exact (kj s b (by omega) (by omega)).2
     ·split at C
      ·cases C;exact G
      ·cases C) (by
   intro b m n I G C;unfold cE at C
   split at C
   ·cases C
   ·rename_i h1
    split at C
    ·cases C
    ·split at C
     ·cases C
     ·split at C
      ·cases C
      ·cases C;exact jM G (by omega)) _ (a+1) 0 (gt _) (by omega) (kj s a ha (by omega)).2
  rw [h] at this;exact this
 have S:∀o,run (bF s a o) s.size a 0=(p,e)->bd s p:=by
  intro o h
  have:=cX (dm s a o) (fun _ _=>True) (fun r=>bd s r.1) (by
   intro b m x e I G C;unfold bF at C
   split at C
   ·split at C
    ·cases C;exact H
    ·cases C;rw [show b=s.size by omega];exact Bt s
   ·split at C
    ·rename_i J
     cases C;exact (Ia s b J.2).1
    ·split at C
     ·cases C;exact H
     ·split at C
      ·rename_i J
       cases C;exact (kj s b (by omega) (by omega)).2
      ·cases C) (by intros;trivial) _ a 0 (gt _) (by omega) trivial
  rw [h] at this;exact this
 have hR:∀k,run (cg s a k) s.size a 0=(p,e)->bd s p:=by
  intro k h
  have:=cX (cY s a k) (fun b _=>bd s b) (fun r=>bd s r.1) (by
   intro b m x e I G C;unfold cg at C
   split at C
   ·cases C;exact G
   ·split at C
    ·cases C;exact G
    ·split at C
     ·cases C;exact H
     ·cases C) (by
   intro b m n I G C;unfold cg at C
   split at C
   ·cases C
   ·split at C
    ·cases C
    ·split at C
     ·cases C
     ·cases C;exact jM G (by omega)) _ a 0 (gt _) (by omega) H
  rw [h] at this;exact this
 unfold ap at h
 by_cases M:k=4
 ·rw [IO M] at h;refine U 34 _ (by decide) ?_ h;rw [M] at F;unfold ak at F
  repeat' split at F
  all_goals first|assumption|(cases F;done)
 ·rw [Eq M] at h
  by_cases O:k=5
  ·rw [IO O] at h;refine U 39 _ (by decide) ?_ h;rw [O] at F;unfold ak at F
   repeat' split at F
   all_goals first|assumption|(cases F;done)
  ·rw [Eq O] at h
   by_cases Y:k=7
   ·rw [IO Y] at h;exact S _ h
   ·rw [Eq Y] at h
    by_cases Z:k=8
    ·rw [IO Z] at h;exact S _ h
    ·rw [Eq Z] at h
     by_cases Q:k=6
     ·rw [IO Q] at h;cases h
      have hsz:(sg s a).size≠0:=by
       rw [Q] at F;unfold ak at F
       repeat' split at F
       all_goals first|assumption|(cases F;done)
      obtain ⟨g1,g2,g3⟩:=jS s a hsz;obtain ⟨g4,g5⟩:=vA _ g3
      have e1:ay s (a+((sg s a).size-1))<128:=by
       rw [<-g2] at g5;rw [av s _ _ g1,aI s a _ _ (by omega)] at g5;rw [show a+((sg s a).size-1)=a+(a+(sg s a).size-a-1) by omega];exact g5
      have:=(kj s _ (by omega) e1).2;rw [show a+((sg s a).size-1)+1=a+(sg s a).size by omega] at this;exact this
     ·rw [Eq Q] at h;exact hR _ h
theorem OU {c:Nat}(h:cq c=true):c<128:=by
 unfold cq at h;simp at h;omega
def yM (s:ByteArray) (a b n:Nat):Prop:=a<=b/\b<=s.size/\(∀i,a<=i->i<b->ay s i=10\/cq (ay s i)=true)/\cn s b=cn s a+n
theorem wJ (s:ByteArray) (a:Nat) (h:a<=s.size):yM s a a 0:=⟨gt _,h,fun i C F=>by omega,rfl⟩
theorem Gl {a:Nat}(h:yM s a b n) (O:b<s.size) (C:ay s b=10):yM s a (b+1) (n+1):=by
 obtain ⟨J,M,F,G⟩:=h;refine ⟨by omega,by omega,fun i H I=>?_,?_⟩
 ·by_cases e:i=b
  ·rw [e];exact .inl C
  ·exact F i H (by omega)
 ·rcases fY s b with ⟨_,e⟩|⟨e,_⟩
  ·rw [e,G];omega
  ·exact absurd C e
theorem CY {a:Nat}(h:yM s a b n) (Q:b<s.size) (C:ay s b≠10) (F:cq (ay s b)=true):yM s a (b+1) n:=by
 obtain ⟨M,O,G,H⟩:=h;refine ⟨by omega,by omega,fun i I J=>?_,?_⟩
 ·by_cases e:i=b
  ·rw [e];exact .inr F
  ·exact G i I (by omega)
 ·rcases fY s b with ⟨e,_⟩|⟨_,e⟩
  ·exact absurd e C
  ·rw [e,H]
theorem OS:cq 10=false:=by decide
theorem wI (s:ByteArray) (p:Nat) (M:p<=s.size):yM s (aV s p) p 0:=by
 have G:=dG s p;have H:=gj s p;refine ⟨G,M,fun i I C=>.inr (H i I C),?_⟩;have:=rY s G (fun k J F e=>by have:=H k J F;rw [e,OS] at this;cases this);rw [this];rfl
def Pv (s:ByteArray):Nat->List Tk->Nat->Prop
 |a,[],z=>z=a
 |a,t :: l,z=>yM s a t.a t.f/\t.a<t.e/\t.e<=s.size/\Pv s t.e l z
theorem A1 {s:ByteArray}{a k p e:Nat}(O:a<s.size) (h:ap s a k=(p,e)) (F:e≠0):(p=a/\(e=101\/e=103))\/(e=102/\a<p/\p<=s.size):=by
 have J:∀q o,run (cE s a q o) s.size (a+1) 0=(p,e)->(p=a/\(e=101\/e=103))\/(e=102/\a<p/\p<=s.size):=by
  intro q o h
  have:=cX (fp s a q o) (fun b _=>a<b) (fun r=>r.2≠0->(r.1=a/\(r.2=101\/r.2=103))\/(r.2=102/\a<r.1/\r.1<=s.size)) (by
   intro b m x e H G C F;unfold cE at C
   split at C
   ·cases C;exact .inl ⟨rfl,.inl rfl⟩
   ·split at C
    ·cases C;exact .inl ⟨rfl,.inr rfl⟩
    ·split at C
     ·cases C;exact absurd rfl F
     ·split at C
      ·cases C;exact .inr ⟨rfl,G,H⟩
      ·cases C) (by intro b m n H G C;show a<b+n;omega) _ (a+1) 0 (gt _) (by omega) (by show a<a+1;omega)
  rw [h] at this;exact this F
 have I:∀o,run (bF s a o) s.size a 0=(p,e)->p=a/\(e=101\/e=103):=by
  intro o h
  have:=cX (dm s a o) (fun _ _=>True) (fun r=>r.2≠0->r.1=a/\(r.2=101\/r.2=103)) (by
   intro b m x e H G C F;unfold bF at C
   split at C
   ·split at C
    ·cases C;exact ⟨rfl,.inl rfl⟩
    ·cases C;exact absurd rfl F
   ·split at C
    ·cases C;exact absurd rfl F
    ·split at C
     ·cases C;exact ⟨rfl,.inr rfl⟩
     ·split at C
      ·cases C;exact absurd rfl F
      ·cases C) (by intros;trivial) _ a 0 (gt _) (by omega) trivial
  rw [h] at this;exact this F
 have M:∀k,run (cg s a k) s.size a 0=(p,e)->p=a/\(e=101\/e=103):=by
  intro k h
  have:=cX (cY s a k) (fun _ _=>True) (fun r=>r.2≠0->r.1=a/\(r.2=101\/r.2=103)) (by
   intro b m x e H G C F;unfold cg at C
   split at C
   ·cases C;exact absurd rfl F
   ·split at C
    ·cases C;exact absurd rfl F
    ·split at C
     ·cases C;exact ⟨rfl,.inr rfl⟩
     ·cases C) (by intros;trivial) _ a 0 (gt _) (by omega) trivial
  rw [h] at this;exact this F
 unfold ap at h
 split at h
 ·exact J _ _ h
 ·split at h
  ·exact J _ _ h
  ·split at h
   ·exact .inl (I _ h)
   ·split at h
    ·exact .inl (I _ h)
    ·split at h
     ·cases h;exact absurd rfl F
     ·exact .inl (M _ h)
theorem oi (s:ByteArray):∀(d a f u:Nat),s.size-a<=d->yM s u a f->∃z,Pv s u (ep s a f).1 z/\((ep s a f).2.1=0->∃n,yM s z s.size n) /\
  ((ep s a f).2.1≠0->(∃n,yM s z (ep s a f).2.2 n)\/((ep s a f).2.1=102/\z<(ep s a f).2.2/\(ep s a f).2.2<=s.size))
 |d,a,f,u,hd,hg=>by
  by_cases h:a<s.size
  ·rw [bP s a f h];cases d with
   |zero=>omega
   |succ d=>
    by_cases G:ay s a=10
    ·rw [IO G];exact oi s d (a+1) (f+1) u (by omega) (Gl hg h G)
    ·rw [Eq G]
     by_cases H:cq (ay s a)=true
     ·rw [IO H];exact oi s d (a+1) f u (by omega) (CY hg h G H)
     ·rw [Eq H]
      by_cases I:ak s a=0
      ·rw [IO I];exact ⟨u,rfl,fun h=>(by cases h),fun _=>.inl ⟨f,hg⟩⟩
      ·rw [Eq I]
       by_cases F:(ap s a (ak s a)).2≠0
       ·rw [IO F];refine ⟨u,rfl,fun h=>absurd h F,fun _=>?_⟩
        rcases A1 (p:=(ap s a (ak s a)).1) (e:=(ap s a (ak s a)).2) h rfl F with ⟨C,_⟩|⟨C,O,Q⟩
        ·left;exact ⟨f,by show yM s u (ap s a (ak s a)).1 f;rw [C];exact hg⟩
        ·right;exact ⟨C,Nat.lt_of_le_of_lt hg.1 O,Q⟩
       ·rw [Eq F];have C:=da s a (ak s a) (ap s a (ak s a)).1 h rfl I (VU rfl (by simpa using F));have M:cq (ay s a)=false:=by simpa using H
        have J:yM s (bS s (ak s a) a (ap s a (ak s a)).1 f).e (ap s a (ak s a)).1 0/\a<(bS s (ak s a) a (ap s a (ak s a)).1 f).e/\(bS s (ak s a) a (ap s a (ak s a)).1 f).e<=s.size:=by
         show yM s (if _ then _ else _) _ 0/\a<(if _ then _ else _)/\(if _ then _ else _)<=s.size
         split
         ·exact ⟨wI s _ C.2,gU s a M _ C.1,SY (dG s _) C.2⟩
         ·exact ⟨wJ s _ C.2,C.1,C.2⟩
        obtain ⟨z,S,U⟩:=oi s d (ap s a (ak s a)).1 0 _ (by omega) J.1;exact ⟨z,⟨hg,J.2.1,J.2.2,S⟩,U⟩
  ·rw [dq s a f (by omega)];refine ⟨u,rfl,fun _=>⟨f,?_⟩,fun h=>absurd rfl h⟩;have:=hg.2.1;rw [show s.size=a by omega];exact hg
theorem nF (s:ByteArray):∃z,Pv s 0 (cV s).1 z/\((cV s).2.1=0->∃n,yM s z s.size n) /\
  ((cV s).2.1≠0->(∃n,yM s z (cV s).2.2 n)\/((cV s).2.1=102/\z<(cV s).2.2/\(cV s).2.2<=s.size)):=
 oi s _ 0 0 0 (gt _) (wJ s 0 (SW _))
def tv (s:ByteArray) (t:Tk):Tv:=⟨t.k,s.extract t.a t.e,t.a,pL s t.a,pC s t.a,t.f⟩
def AV (w:World) (s:ByteArray) (e:Ending) (w':World):Prop:=
 (∃v,e=.returned (.tuple #[v,.int .i64 (cV s).2.1,.agg #[.int .i64 (if (cV s).2.1=0 then 0 else (cV s).2.2),.int .i64 (if (cV s).2.1=0 then 0 else pL s (cV s).2.2),.int .i64 (if (cV s).2.1=0 then 0 else pC s (cV s).2.2)]])/\Rt w.heap.size w' v ((cV s).1.map (tv s)))/\Below w.heap.size w w'
theorem QX:∀l:List UInt8,(Lib.indexByte l 10=-1/\∀k:Nat,k<l.length->l[k]?≠some (10:UInt8))\/∃j:Nat,Lib.indexByte l 10=(j:Int)/\j<l.length/\l[j]?=some (10:UInt8)/\∀k,k<j->l[k]?≠some (10:UInt8)
 |[]=>.inl ⟨rfl,fun k h=>by simp at h⟩
 |b :: l=>by
  unfold Lib.indexByte
  by_cases C:b=10
  ·exact .inr ⟨0,by simp [C],by simp,by simp [C],fun k h=>by omega⟩
  ·have G:(b == (10:UInt8))=false:=by simpa using C
   rw [G]
   rcases QX l with ⟨F,H⟩|⟨j,F,H,J,M⟩
   ·left
    refine ⟨by simp [F],fun k I=>?_⟩;cases k with
    |zero=>simpa using C
    |succ k=>simp only [Ud];exact H k (by simpa using I)
   ·right
    refine ⟨j+1,?_,by simp;omega,by simpa using J,fun k I=>?_⟩
    ·have:¬((j:Int)=-1):=by omega
     simp [F,this]
    ·cases k with
     |zero=>simpa using C
     |succ k=>simp only [Ud];exact M k (by omega)
theorem qv (s:ByteArray) (k:Nat) (h:k<s.size):ay s k=10↔s.data.toList[k]?=some (10:UInt8):=by
 have C:k<s.data.size:=h
 have e:s.get! k=s.data.toList[k]?.getD default:=by
  show s.data[k]! = _
  rw [VL,UN,Vh]
 unfold ay;rw [e,Vh,Uk C];simp;constructor
 ·intro h;exact Wo.1 h
 ·intro h;rw [h];rfl
def IK (r:ByteArray):Int:=if nl r 0<r.size then (nl r 0:Int) else -1
theorem wD (r:ByteArray):Lib.indexByte r.data.toList 10=IK r:=by
 have M:r.data.toList.length=r.size:=by simp
 rcases QX r.data.toList with ⟨C,H⟩|⟨j,C,H,I,J⟩
 ·have e:nl r 0=r.size:=we r 0 r.size (SW _) (gt _) (fun k _ G=>fun F=>H k (by omega) ((qv r k G).1 F)) (.inl rfl);rw [C];unfold IK;rw [Eq (by omega)]
 ·have e:nl r 0=j:=we r 0 j (SW _) (by omega) (fun k _ G=>fun F=>J k G ((qv r k (by omega)).1 F)) (.inr ((qv r j (by omega)).2 I));rw [C];unfold IK;rw [IO (by omega),e]
theorem kc (s:ByteArray) (w:World) :
  Ta 214 #[.string s,.int .u8 10] w fun e w'=>e=.returned (.int .i64 (IK s))/\w'=w:=by
 go_enter Tryz.func214,Tryz.ntmps214
 go_wp2
 rw [run_callFunc_extern Tryz.func229 (by kernel_rfl) (by kernel_rfl) (by kernel_rfl) (e:=Extern.BytealgIndexByte.indexByte) (by kernel_rfl),Lib.run_indexByteString];simp only [Result.andThen];rw [W4]
 go_wp2
 go_ret
 exact ⟨by rw [<-wD];rfl,rfl⟩
theorem jz (s:ByteArray) (w:World) :
  Ta 212 #[.string s,.string ⟨#[10]⟩] w fun e w'=>e=.returned (.int .i64 (IK s))/\w'=w:=by
 go_enter Tryz.func212,Tryz.ntmps212
 go_wp2_with (go_at_call 214;refine (kc _ _).mono ?_;rintro e w' ⟨rfl,rfl⟩)
 ·have h:([(10:UInt8)] == s.toList)=true:=by assumption
  have e:s.data.toList=[10]:=by rw [<-Lib.toList_data];exact (TY.1 h).symm
  have C:IK s=0:=by rw [<-wD,e];rfl
  go_ret
  exact ⟨by rw [C];rfl,rfl⟩
 ·go_ret
  exact ⟨rfl,rfl⟩
def uq (r:ByteArray):ByteArray:=r.extract 0 (nl r 0)
def qR (r:ByteArray):ByteArray:=if nl r 0<r.size then r.extract (nl r 0+1) r.size else ⟨#[]⟩
def qS (r:ByteArray):Bool:=decide (nl r 0<r.size)
theorem BZ (s:ByteArray) (w:World) (J:s.size<=maxLen) :
  Ta 196 #[.string s,.string ⟨#[10]⟩] w fun e w'=>e=.returned (.tuple #[.string (uq s),.string (qR s),.bool (qS s)])/\Below w.heap.size w w':=by
 unfold maxLen at J;have I:=iL s 0 (SW _)
 by_cases h:nl s 0<s.size
 ·have G:Hid (IK s=(nl s 0:Int)):=by show _=_;unfold IK;rw [IO h]
  have HL:Hid (uq s=s.extract 0 (nl s 0)):=rfl;have F:Hid (qR s=s.extract (nl s 0+1) s.size):=by show _=_;unfold qR;rw [IO h]
  have H:Hid (qS s=true):=by show _=_;unfold qS;simp [h]
  obtain ⟨n,C⟩:∃n,nl s 0=n:=⟨_,rfl⟩;rw [C] at G HL F I h;clear C
  go_enter Tryz.func196,Tryz.ntmps196
  go_wp2_with (go_at_call 212;refine (jz _ _).mono ?_;rintro e w' ⟨rfl,rfl⟩;rw [G.out])
  go_region
  go_wp2
  go_ret3
  exact ⟨by rw [HL.out,F.out,H.out];rfl,(hH _ _).drew⟩
 ·have G:Hid (IK s=-1):=by show _=_;unfold IK;rw [Eq h]
  have HL:Hid (uq s=s):=by show _=_;unfold uq;rw [show nl s 0=s.size by omega,mU]
  have F:Hid (qR s=⟨#[]⟩):=by show _=_;unfold qR;rw [Eq h]
  have H:Hid (qS s=false):=by show _=_;unfold qS;simp [h]
  clear I h
  go_enter Tryz.func196,Tryz.ntmps196
  go_wp2_with (go_at_call 212;refine (jz _ _).mono ?_;rintro e w' ⟨rfl,rfl⟩;rw [G.out])
  go_ret3
  exact ⟨by rw [HL.out,F.out,H.out];rfl,hH _ _⟩
theorem LB (s:ByteArray) (w:World) (F:s.size<=maxLen) :
  Ta 162 #[.string s,.string ⟨#[10]⟩] w fun e w'=>e=.returned (.tuple #[.string (uq s),.string (qR s),.bool (qS s)])/\Below w.heap.size w w':=by
 go_enter Tryz.func162,Tryz.ntmps162
 go_wp2_with (go_at_call 196;refine (BZ _ _ F).mono ?_;rintro e w' ⟨rfl,C⟩)
 go_ret3
 exact ⟨rfl,C⟩
theorem CJ (s:ByteArray) (w:World) :
  Ta 120 #[.string s] w fun e w'=>e=.returned (.func (.func 161) #[] #[.pointer (some ⟨w.heap.size,0,none⟩)])/\w'=w.alloc (.cells #[.string s] 9):=by
 have C:=mkfn
 go_enter Tryz.func120,Tryz.ntmps120
 go_wp2
 go_ret
 exact ⟨rfl,rfl⟩
end Go.Proofs.YtcjiapphbpiffaaGreatDoor.Lx
namespace Go.Proofs.YtcjiapphbpiffaaGreatDoor.Lx
open Go.RowKit Go.Shelf
variable {w w':World}
attribute [local go_sem] Oper.semAt_some
def LN (s:ByteArray):Nat:=cn s s.size+1
def na (s:ByteArray) (k:Nat):List (Int × ByteArray):=(List.range k).map (fun i=>(((i+1:Nat):Int),ln s i))
theorem lF (s:ByteArray) (k:Nat):na s (k+1)=na s k++[(((k+1:Nat):Int),ln s k)]:=by
 unfold na;rw [List.range_succ,UB];rfl
theorem D2 (s:ByteArray) (k:Nat):(na s k).length=k:=by unfold na;simp
theorem Ko (s:ByteArray) (a:Nat) (G:a<=s.size):nl (s.extract a s.size) 0=nl s a-a:=by
 have z:=av s a s.size (gt _);obtain ⟨H,I,C,F⟩:=iL s a G;refine we _ 0 _ (SW _) (by omega) (fun k _ J=>?_) ?_
 ·rw [aI s a s.size k (by omega)];exact C _ (by omega) (by omega)
 ·by_cases e:nl s a=s.size
  ·left;omega
  ·right;rw [aI s a s.size _ (by omega),show a+(nl s a-a)=nl s a by omega];exact F (by omega)
theorem OJ (s:ByteArray) (k:Nat) (h:k<LN s):uq (s.extract (bg s k) s.size)=ln s k/\qS (s.extract (bg s k) s.size)=decide (k+1<LN s) /\
  (k+1<LN s->qR (s.extract (bg s k) s.size)=s.extract (bg s (k+1)) s.size):=by
 unfold LN at h ⊢;have G:=qA s k (by omega);obtain ⟨I,J,C⟩:=Mx s k (by omega);have z:=av s (bg s k) s.size (gt _);have e:=Ko s (bg s k) G.1;refine ⟨?_,?_,fun M=>?_⟩
 ·unfold uq;rw [e,gJ s (bg s k) s.size 0 _ (gt _) (by omega) (SW _),TS,show bg s k+(nl s (bg s k)-bg s k)=nl s (bg s k) by omega];rfl
 ·unfold qS;rw [e,z]
  by_cases F:nl s (bg s k)<s.size
  ·have:=C.1 F;rw [Tf (by omega),Tf (by omega)]
  ·have:¬k<cn s s.size:=fun H=>F (C.2 H)
   rw [Tg (by omega),Tg (by omega)]
 ·have F:=C.2 (by omega);unfold qR;rw [e,z,IO (by omega),gJ s (bg s k) s.size _ _ (gt _) (by omega) (by omega)];show s.extract _ _=s.extract (nl s (bg s k)+1) _
  congr 1 <;> omega
abbrev Ln:={ x:Int × ByteArray // x.2.size<=maxLen }
abbrev MA (x:Ln):Array Value:=#[.int .i64 x.1.1,.string x.1.2]
theorem iX (h:Below w.heap.size w w'):w.grownBy w' none:=⟨h.os,h.tape,h.output,h.size,fun k C _=>h.block k C⟩
theorem iT (h:Below w.heap.size w w'):KeepsOthers w w':=KeepsOthers.of_grownBy (iX h) (fun _ _ e=>by cases e)
theorem wn (n:Nat) (hn:1<=n) (M:Nat) (s:ByteArray) (hs:s.size<=2147483647) (w:World) (hB:M<w.heap.size) (hc:w.cell? ⟨M,0,none⟩=some (.string s)) :
  SeqStopsK Fence.wide n Tryz.prog 161 #[.pointer (some ⟨M,0,none⟩)] MA (fun _ _=>True) (fun xs=>xs.map (·.1)=na s (LN s)) (fun pre=>∃k,k<=LN s/\pre.map (·.1)=na s k) (LN s) w:=fun l J Jx W hW hJ ah hY h0=>by
 have hL:LN s<=2147483648:=by have:=MI s s.size;unfold LN;omega
 have ai:W.cell? ⟨M,0,none⟩=some (.string s):=(hW.cell (p:=⟨M,0,none⟩) hB).trans hc;refine callsIn_of_wp Tryz.func161 rfl trivial ?_ rfl;simp only [Tryz.ntmps161,Ux,List.length_cons,List.length_nil,Nat.reduceAdd,Nat.reduceSub,Ur,Us,UI,Uy,TB,Tr]
 gi_wp2
 gi_loopw [3,4,5] (fun r b m wr=>∃(k:Nat) (pre:List Ln) (q:ByteArray) (z:Int),r=.string q/\b=.bool (decide (k<LN s))/\m=.int .i64 z/\Hid (z=((k+1:Nat):Int))/\Hid (k<=LN s)/\Hid (pre.map (·.1)=na s k)/\Hid (k<LN s->q=s.extract (bg s k) s.size)/\J pre wr)
  (fun _ _ m _=>LN s+1-(RowKit.intOf m).toNat)
 case atStart=>
  refine ⟨0,[],s,1,rfl,by rw [Tf (by unfold LN;omega)],rfl,rfl,SW _,rfl,?_,h0⟩;intro _;rw [show bg s 0=0 from rfl,mU]
 case round=>
  obtain ⟨k,pre,q,z,rfl,rfl,rfl,I,HK,HP,HQ,Y⟩:=hrel
  by_cases G:k<LN s
  ·obtain ⟨e1,e2,e3⟩:=OJ s k G;have hq:=HQ.out G;have ag:q.size<=maxLen:=by rw [hq,av _ _ _ (gt _)];unfold maxLen;omega
   have F:(ln s k).size<=maxLen:=by have:=KF s k (by unfold LN at G;omega);unfold maxLen;omega
   rw [<-hq] at e1 e2 e3;obtain ⟨b,hb⟩:∃b,decide (k<LN s)=b:=⟨_,rfl⟩;have aa:b=true:=by rw [<-hb];exact Tf G
   rw [hb,aa];have O:Hid (uq q=ln s k):=e1;have Q:Hid (qS q=decide (k+1<LN s)):=e2;have S:Hid (k+1<LN s->qR q=s.extract (bg s (k+1)) s.size):=e3;have H:Hid (k<LN s):=G;have aj:0<=z:=by have:=I.out;omega
   have ak:z<=2147483648:=by have:=I.out;omega
   have ab:Hid (pre.length<LN s):=by
    show _<_
    have:=Tm List.length HP.out;rw [D2,UC] at this;omega
   clear e1 e2 e3 hq hb aa HQ G;obtain ⟨L,C⟩:∃L,ln s k=L:=⟨_,rfl⟩;obtain ⟨CL,hCL⟩:∃L,uq q=L:=⟨_,rfl⟩;obtain ⟨CR,hCR⟩:∃L,qR q=L:=⟨_,rfl⟩;obtain ⟨CB,hCB⟩:∃L,qS q=L:=⟨_,rfl⟩
   have hcut:∀w,Ta 162 #[.string q,.string ⟨#[10]⟩] w fun e w'=>e=.returned (.tuple #[.string CL,.string CR,.bool CB])/\Below w.heap.size w w':=by
    intro w;rw [<-hCL,<-hCR,<-hCB];exact LB q w ag
   rw [hCL,C] at O;rw [hCB] at Q;rw [hCR] at S;rw [C] at F;obtain rfl:=O.out;have U:Hid (ln s k=CL):=C;clear hCL hCR hCB C
   gi_wp2
   refine ⟨trivial,?_⟩;refine (TW.2 (hcut _)).mono ?_;rintro e w1 ⟨rfl,af⟩;have ad:=hJ pre _ w1 none Y (iX af) (fun r e=>by cases e);obtain ⟨fn,tmps,assign,body,hy,hR⟩:=hY pre ⟨(z,CL),F⟩ w1 ad ab.out
   dsimp only [MA] at hy
   gi_wp2
   refine hR.mono ?_;rintro e W3 (⟨rfl,ae,_⟩|⟨rfl,ac⟩)
   ·gi_wp2
    go_roundw
    case rel=>exact ⟨k+1,pre++[⟨(z,CL),F⟩],CR,z+1,rfl,by rw [Q.out],by go_num,by show _=_;rw [I.out];omega,H.out,by show _=_;rw [UB,HP.out,lF,U.out,I.out];rfl,S.out,ae⟩
    case measure=>simp [RowKit.intOf];have:=I.out;have:=H.out;omega
   ·gi_wp2
    refine Ti (results_none rfl _ _ _) rfl ?_;exact ⟨⟨_,rfl⟩,.inr ⟨pre++[⟨(z,CL),F⟩],⟨k+1,H.out,by rw [UB,HP.out,lF,U.out,I.out];rfl⟩,ac⟩⟩
  ·have Z:decide (k<LN s)=false:=Tg G;rw [Z];have HE:Hid (k=LN s):=by show _=_;have:=HK.out;omega
   clear Z G HQ
   gi_wp2
   go_end0
   exact ⟨⟨_,rfl⟩,.inl ⟨pre,by rw [HP.out,HE.out],Y⟩⟩
attribute [local go_sem] Oper.semAt_some
end Go.Proofs.YtcjiapphbpiffaaGreatDoor.Lx
