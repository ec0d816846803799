import Derived.Test.YtpdlohfdjiaegaaGreatDoorM02
set_option linter.unusedVariables false
set_option linter.unusedSimpArgs false
namespace Go.Proofs.YtpdlohfdjiaegaaGreatDoor.Lx
open Go.RowKit
variable {b z c m p:Nat}{s:ByteArray}
def nlF (s:ByteArray):Nat->Nat->Nat
 |0,i=>i
 |f+1,i=>if by8 s i=10 then i else nlF s f (i+1)
def nl (s:ByteArray) (i:Nat):Nat:=nlF s (s.size-i) i
theorem kL (s:ByteArray):∀f i,i<=nlF s f i/\nlF s f i<=i+f/\(∀j,i<=j->j<nlF s f i->by8 s j≠10)/\(nlF s f i<i+f->by8 s (nlF s f i)=10)
 |0,i=>by
  show i<=i/\i<=i+0/\_/\_
  exact ⟨Nat.le_refl _,Nat.le_refl _,fun j h1 h2=>by unfold nlF at h2;omega,fun h=>by unfold nlF at h;omega⟩
 |f+1,i=>by
  unfold nlF
  by_cases h:by8 s i=10
  ·rw [if_pos h];exact ⟨Nat.le_refl _,by omega,fun j h1 h2=>by omega,fun _=>h⟩
  ·rw [if_neg h];obtain ⟨h1,h2,h3,h4⟩:=kL s f (i+1);refine ⟨by omega,by omega,fun j h5 h6=>?_,fun h5=>h4 (by omega)⟩
   by_cases e:j=i
   ·rw [e];exact h
   ·exact h3 j (by omega) h6
theorem fj (s:ByteArray) (i:Nat) (h:i<=s.size):i<=nl s i/\nl s i<=s.size/\(∀j,i<=j->j<nl s i->by8 s j≠10)/\(nl s i<s.size->by8 s (nl s i)=10):=by
 obtain ⟨h1,h2,h3,h4⟩:=kL s (s.size-i) i;exact ⟨h1,by unfold nl;omega,h3,fun h5=>h4 (by unfold nl at h5;omega)⟩
theorem ny (s:ByteArray) (i j:Nat) (h:i<=j) (hj:j<=s.size) (hn:∀k,i<=k->k<j->by8 s k≠10) (he:j=s.size\/by8 s j=10):nl s i=j:=by
 obtain ⟨h1,h2,h3,h4⟩:=fj s i (by omega)
 rcases Nat.lt_trichotomy (nl s i) j with hl|hl|hl
 ·exact absurd (h4 (by omega)) (hn _ h1 hl)
 ·exact hl
 ·rcases he with he|he
  ·omega
  ·exact absurd he (h3 j h hl)
def cn (s:ByteArray):Nat->Nat
 |0=>0
 |i+1=>cn s i+(if by8 s i=10 then 1 else 0)
def lf (s:ByteArray):Nat->Nat
 |0=>0
 |i+1=>if by8 s i=10 then i+1 else lf s i
def bg (s:ByteArray):Nat->Nat
 |0=>0
 |k+1=>nl s (bg s k)+1
theorem eP (s:ByteArray) (i:Nat):(by8 s i=10/\cn s (i+1)=cn s i+1)\/(by8 s i≠10/\cn s (i+1)=cn s i):=by
 show (_/\cn s i+_=_)\/(_/\cn s i+_=_)
 by_cases h:by8 s i=10
 ·rw [if_pos h];exact .inl ⟨h,rfl⟩
 ·rw [if_neg h];exact .inr ⟨h,rfl⟩
theorem rl (s:ByteArray) (i:Nat):∀d,cn s i<=cn s (i+d)
 |0=>Nat.le_refl _
 |d+1=>by
  have h:=rl s i d;have:=eP s (i+d);rw [<-Nat.add_assoc];omega
theorem wD (s:ByteArray) {i j:Nat}(h:i<=j):cn s i<=cn s j:=by
 have:=rl s i (j-i);rw [show i+(j-i)=j by omega] at this;exact this
theorem zS (s:ByteArray):∀i,cn s i<=i
 |0=>Nat.le_refl _
 |i+1=>by have:=zS s i;have:=eP s i;omega
theorem oo (s:ByteArray) (i:Nat):∀d,(∀k,i<=k->k<i+d->by8 s k≠10)->cn s (i+d)=cn s i
 |0,_=>rfl
 |d+1,h=>by
  have ih:=oo s i d (fun k h1 h2=>h k h1 (by omega))
  rcases eP s (i+d) with ⟨h1,_⟩|⟨_,h2⟩
  ·exact absurd h1 (h _ (by omega) (by omega))
  ·rw [<-Nat.add_assoc];omega
theorem tD (s:ByteArray) {i j:Nat}(h:i<=j) (hn:∀k,i<=k->k<j->by8 s k≠10):cn s j=cn s i:=by
 have:=oo s i (j-i) (fun k h1 h2=>hn k h1 (by omega));rw [show i+(j-i)=j by omega] at this;exact this
theorem eu (s:ByteArray):∀i,lf s i<=i/\(∀j,lf s i<=j->j<i->by8 s j≠10)/\(lf s i=0\/(1<=lf s i/\by8 s (lf s i-1)=10))
 |0=>⟨Nat.le_refl _,fun j _ h=>by omega,.inl rfl⟩
 |i+1=>by
  unfold lf
  by_cases h:by8 s i=10
  ·rw [if_pos h];exact ⟨Nat.le_refl _,fun j h1 h2=>by omega,.inr ⟨by omega,h⟩⟩
  ·rw [if_neg h];obtain ⟨h1,h2,h3⟩:=eu s i;refine ⟨by omega,fun j h4 h5=>?_,h3⟩
   by_cases e:j=i
   ·rw [e];exact h
   ·exact h2 j h4 (by omega)
theorem fH (s:ByteArray) (i:Nat):lf s (i+1)=if by8 s i=10 then i+1 else lf s i:=rfl
theorem qO (s:ByteArray):∀i,cn s i=0->lf s i=0
 |0,_=>rfl
 |i+1,h=>by
  rcases eP s i with ⟨_,h2⟩|⟨h1,h2⟩
  ·omega
  ·rw [fH,if_neg h1];exact qO s i (by omega)
theorem zZ (s:ByteArray):∀i,i<=s.size->bg s (cn s i)=lf s i
 |0,_=>rfl
 |i+1,h=>by
  have ih:=zZ s i (by omega);rw [fH]
  rcases eP s i with ⟨h1,h2⟩|⟨h1,h2⟩
  ·rw [h2,if_pos h1];show nl s (bg s (cn s i))+1=_;obtain ⟨f1,f2,_⟩:=eu s i;rw [ih,ny s (lf s i) i f1 (by omega) f2 (.inr h1)]
  ·rw [h2,if_neg h1,ih]
theorem qJ (s:ByteArray) (i:Nat) (hi:i<=s.size):(nl s i<s.size/\cn s i<cn s s.size/\cn s (nl s i+1)=cn s i+1/\cn s (nl s i)=cn s i)\/(nl s i=s.size/\cn s i=cn s s.size):=by
 obtain ⟨h1,h2,h3,h4⟩:=fj s i hi;have hc:=tD s h1 h3
 by_cases h:nl s i<s.size
 ·have e:=h4 h
  rcases eP s (nl s i) with ⟨_,h5⟩|⟨h5,_⟩
  ·have:=wD s (i:=nl s i+1) (j:=s.size) (by omega);exact .inl ⟨h,by omega,by omega,hc⟩
  ·exact absurd e h5
 ·have e:nl s i=s.size:=by omega
  rw [e] at hc;exact .inr ⟨e,hc.symm⟩
theorem j9 (s:ByteArray):∀k,k<=cn s s.size->bg s k<=s.size/\cn s (bg s k)=k
 |0,_=>⟨Nat.zero_le _,rfl⟩
 |k+1,h=>by
  obtain ⟨h1,h2⟩:=j9 s k (by omega);show nl s (bg s k)+1<=_/\cn s (nl s (bg s k)+1)=_
  rcases qJ s (bg s k) h1 with ⟨a,b,c,_⟩|⟨a,b⟩
  ·exact ⟨by omega,by omega⟩
  ·omega
theorem zK (s:ByteArray) (k:Nat) (h:k<=cn s s.size):bg s k<=nl s (bg s k)/\nl s (bg s k)<=s.size/\(nl s (bg s k)<s.size↔k<cn s s.size):=by
 obtain ⟨h1,h2⟩:=j9 s k h;obtain ⟨h3,h4,_⟩:=fj s (bg s k) h1;refine ⟨h3,h4,?_⟩
 rcases qJ s (bg s k) h1 with ⟨a,b,c,_⟩|⟨a,b⟩
 ·omega
 ·omega
def ln (s:ByteArray) (k:Nat):ByteArray:=s.extract (bg s k) (nl s (bg s k))
theorem yz (s:ByteArray) (k:Nat) (h:k<=cn s s.size):(ln s k).size<=s.size:=by
 have:=zK s k h;unfold ln;rw [aj _ _ _ this.2.1];omega
theorem zq (s:ByteArray):bg s (cn s s.size)=lf s s.size:=zZ s _ (Nat.le_refl _)
theorem yA (s:ByteArray):ln s (cn s s.size)=s.extract (lf s s.size) s.size:=by
 unfold ln;rw [zq];obtain ⟨f1,f2,_⟩:=eu s s.size;rw [ny s (lf s s.size) s.size f1 (Nat.le_refl _) f2 (.inl rfl)]
theorem xF (s:ByteArray) (k:Nat):st s k<=st s (k+1):=by
 by_cases h:k<(P s).length
 ·have:=cU s k h;omega
 ·rw [jo s k (by omega),jo s (k+1) (by omega)];omega
theorem lk (s:ByteArray) (i j:Nat) (h:i<=j):st s i<=st s j:=by
 obtain ⟨d,rfl⟩:∃d,j=i+d:=⟨j-i,by omega⟩;clear h
 induction d with
 |zero=>exact Nat.le_refl _
 |succ d ih=>have:=xF s (i+d);rw [<-Nat.add_assoc];omega
theorem g8 (s:ByteArray) (i j:Nat) (h:i<j) (hj:j<=(P s).length):st s i<st s j:=by
 have e:=cU s i (by omega);have hw:=aG s (st s i) ((dY s i).2 (by omega));have:=lk s (i+1) j h;omega
def hd (s:ByteArray) (k:Nat):ByteArray:=s.extract 0 (st s k)
theorem iY (s:ByteArray) (k:Nat):(hd s k).size=st s k:=by
 unfold hd;rw [aj s 0 _ (jn s k)];omega
theorem mP (s:ByteArray) (k:Nat) (hk:k<=(P s).length):∀j,j<=k->st (hd s k) j=st s j
 |0,_=>rfl
 |j+1,h=>by
  have ih:=mP s k hk j (by omega);have e:=cU s j (by omega);have hw:=aG s (st s j) ((dY s j).2 (by omega));have hm:=lk s (j+1) k h;have hd':Utf8.decode (hd s k) (st s j)=Utf8.decode s (st s j):=oh s (st s k) (st s j) (jn s k) (by omega) (by omega);have hl:j<(P (hd s k)).length:=(dY _ j).1 (by rw [ih,iY];omega);rw [cU _ j hl,ih,e];unfold dw;rw [hd']
theorem Cz (s:ByteArray) (k:Nat) (hk:k<=(P s).length):(P (hd s k)).length=k:=by
 have h1:¬k<(P (hd s k)).length:=by
  rw [<-dY,mP s k hk k (Nat.le_refl _),iY];omega
 by_cases h0:k=0
 ·omega
 ·have e:=cU s (k-1) (by omega);have hw:=aG s (st s (k-1)) ((dY s _).2 (by omega));rw [show k-1+1=k by omega] at e
  have h2:k-1<(P (hd s k)).length:=by
   rw [<-dY,mP s k hk _ (by omega),iY];omega
  omega
theorem nh (s:ByteArray) (a:Nat) (ha:a<=s.size):∀f i,plc s f (a+i)=(plc (s.extract a s.size) f i).map (fun k=>a+k)
 |0,_=>rfl
 |f+1,i=>by
  unfold plc;rw [aj s a _ (Nat.le_refl _)]
  by_cases h:a+i<s.size
  ·rw [if_pos h,if_pos (by omega),List.map_cons];have e:dw (s.extract a s.size) i=dw s (a+i):=by unfold dw;rw [ea s a i ha]
   rw [e,Nat.add_assoc,nh s a ha f (i+dw s (a+i))]
  ·rw [if_neg h,if_neg (by omega)];rfl
theorem BI (s:ByteArray) (k:Nat) (hk:k<=(P s).length):(P (s.extract (st s k) s.size)).length=(P s).length-k:=by
 have h:=nh s (st s k) (jn s k) (s.size-st s k) 0
 have e:pl s (st s k)=(P (s.extract (st s k) s.size)).map (fun j=>st s k+j):=by
  unfold P pl;rw [aj s _ _ (Nat.le_refl _)];exact h
 rw [qB] at e;have:=congrArg List.length e;simp at this;omega
theorem d9 (s:ByteArray) (a b c d:Nat) (hb:b<=s.size) (hd:a+d<=b) (hc:c<=d):(s.extract a b).extract c d=s.extract (a+c) (a+d):=by
 have z1:=aj s a b hb;have z2:=aj (s.extract a b) c d (by omega);have z3:=aj s (a+c) (a+d) (by omega);refine my _ _ (by omega) fun k hk=>?_
 rw [fK,if_pos (by omega),fK,if_pos (by omega),fK,if_pos (by omega),Nat.add_assoc]
theorem xg (s:ByteArray) (a b:Nat) (hab:a<=b) (hb:b<=(P s).length):(P (s.extract (st s a) (st s b))).length=b-a:=by
 have h1:=Cz s b hb;have h2:=mP s b hb a hab;have h3:=BI (hd s b) a (by omega);rw [h1,h2,iY] at h3;have hm:=lk s a b hab
 have e:(hd s b).extract (st s a) (st s b)=s.extract (st s a) (st s b):=by
  unfold hd;rw [d9 s 0 (st s b) _ _ (jn s b) (by omega) hm,Nat.zero_add,Nat.zero_add]
 rw [e] at h3;exact h3
def bd (s:ByteArray) (b:Nat):Prop:=∃k,k<=(P s).length/\st s k=b
theorem mw (s:ByteArray):bd s 0:=⟨0,Nat.zero_le _,rfl⟩
theorem ru (s:ByteArray):bd s s.size:=⟨_,Nat.le_refl _,jo s _ (Nat.le_refl _)⟩
theorem wS (h:bd s b):b<=s.size:=by obtain ⟨k,_,rfl⟩:=h;exact jn s k
theorem wB {a:Nat}(ha:bd s a) (hb:bd s b) (hc:bd s c) (hab:a<=b) (hbc:b<=c) :
  (P (s.extract a b)).length+(P (s.extract b c)).length=(P (s.extract a c)).length:=by
 obtain ⟨i,hi,rfl⟩:=ha;obtain ⟨j,hj,rfl⟩:=hb;obtain ⟨k,hk,rfl⟩:=hc
 have h1:i<=j:=by
  apply Classical.byContradiction;intro h
  have:=g8 s j i (by omega) hi;omega
 have h2:j<=k:=by
  apply Classical.byContradiction;intro h
  have:=g8 s k j (by omega) hj;omega
 rw [xg s i j h1 hj,xg s j k h2 hk,xg s i k (by omega) hk];omega
theorem Bb (s:ByteArray) (i:Nat) (h:by8 s i=10):dw s i=1:=by
 unfold dw;rw [bw,h];rfl
theorem sM (s:ByteArray) (j:Nat) (h:by8 s j=10):j<s.size:=by
 apply Classical.byContradiction;intro hn
 have:by8 s j=0:=wY s j (by omega);omega
theorem wR (s:ByteArray) (j:Nat) (h:by8 s j=10):bd s j/\bd s (j+1):=by
 have hj:=sM s j h;obtain ⟨m,h1,h2,h3,h4,h5⟩:=gm s j (P s).length (by rw [jo s _ (Nat.le_refl _)];exact hj)
 have e:st s m=j:=by
  apply Classical.byContradiction;intro hne
  have:=(fN s (st s m) (j-st s m) (by omega) (by omega)).2;rw [show st s m+(j-st s m)=j by omega,h] at this;omega
 refine ⟨⟨m,by omega,e⟩,⟨m+1,by omega,?_⟩⟩;rw [cU s m h2,e,Bb s j h]
theorem Cu (s:ByteArray) (i:Nat):bd s (lf s i):=by
 rcases (eu s i).2.2 with h|⟨h1,h2⟩
 ·rw [h];exact mw s
 ·have:=(wR s _ h2).2;rw [show lf s i-1+1=lf s i by omega] at this;exact this
theorem mo (s:ByteArray) (a:Nat):∀i,i<=a->cn (s.extract 0 a) i=cn s i
 |0,_=>rfl
 |i+1,h=>by
  show cn _ i+_=cn s i+_
  rw [mo s a i (by omega),gN s a i (by omega)]
theorem qQ (s:ByteArray) (a:Nat):∀i,i<=a->lf (s.extract 0 a) i=lf s i
 |0,_=>rfl
 |i+1,h=>by
  rw [fH,fH,qQ s a i (by omega),gN s a i (by omega)]
theorem mn (s:ByteArray) (a:Nat):∀i,a+i<=s.size->cn s (a+i)=cn s a+cn (s.extract a s.size) i
 |0,_=>rfl
 |i+1,h=>by
  show cn s (a+i)+_=_+(cn _ i+_)
  rw [mn s a i (by omega),aF s a s.size i (by omega),Nat.add_assoc];rfl
theorem qP (s:ByteArray) (a:Nat):∀i,a+i<=s.size->lf s (a+i)=if cn (s.extract a s.size) i=0 then lf s a else a+lf (s.extract a s.size) i
 |0,_=>rfl
 |i+1,h=>by
  have ih:=qP s a i (by omega);have e:=aF s a s.size i (by omega);rw [<-Nat.add_assoc,fH,fH,e]
  rcases eP (s.extract a s.size) i with ⟨h1,h2⟩|⟨h1,h2⟩
  ·rw [e] at h1;rw [if_pos h1,if_pos h1,if_neg (by omega)];rfl
  ·rw [e] at h1;rw [if_neg h1,if_neg h1,h2,ih]
def ef (l:Int) (s:ByteArray):Int:=wrap64 (l+cn s s.size)
def iv (c:Int) (s:ByteArray):Int:=wrap64 ((if cn s s.size=0 then c else 1)+(P (s.extract (lf s s.size) s.size)).length)
def aAt (a:Int) (s:ByteArray):Int:=wrap64 (a+s.size)
theorem jc (a b:Int):wrap64 (wrap64 a+b)=wrap64 (a+b):=by unfold wrap64;omega
theorem sO (s:ByteArray) (w:Nat) (hw:w<=s.size) (l:Int):ef (ef l (s.extract 0 w)) (s.extract w s.size)=ef l s:=by
 unfold ef;have z1:=aj s 0 w hw;have z2:=aj s w s.size (Nat.le_refl _);have h:=mn s w (s.size-w) (by omega);rw [show w+(s.size-w)=s.size by omega] at h;rw [z1,z2,h,mo s w _ (by omega),Nat.sub_zero,jc]
 congr 1;omega
theorem wA (s:ByteArray) (w:Nat) (hw:bd s w) (c:Int):iv (iv c (s.extract 0 w)) (s.extract w s.size)=iv c s:=by
 have hws:=wS hw;have z1:=aj s 0 w hws;have z2:=aj s w s.size (Nat.le_refl _);have h:=mn s w (s.size-w) (by omega);have hl:=qP s w (s.size-w) (by omega);rw [show w+(s.size-w)=s.size by omega] at h hl;have f:=eu s w;have f2:=eu (s.extract w s.size) (s.size-w);unfold iv;rw [z1,z2,mo s w _ (by omega),qQ s w _ (by omega),Nat.sub_zero];rw [d9 s 0 w _ _ hws (by omega) f.1,Nat.zero_add,Nat.zero_add];rw [d9 s w s.size _ _ (Nat.le_refl _) (by omega) f2.1,show w+(s.size-w)=s.size by omega]
 by_cases hz:cn (s.extract w s.size) (s.size-w)=0
 ·rw [if_pos hz] at hl ⊢;rw [hl,h,hz,Nat.add_zero,qO _ _ hz,Nat.add_zero,jc,<-wB (Cu s w) hw (ru s) f.1 hws]
  congr 1;omega
 ·rw [if_neg hz] at hl ⊢;rw [hl,h,if_neg (by omega)]
inductive Rd where
 |out (p e:Nat)
 |on (n:Nat)
def ls (g:Nat->Nat->Rd):Nat->Nat->Nat->Nat × Nat
 |0,a,_=>(a,0)
 |f+1,a,m=>match g a m with
  |.out p e=>(p,e)
  |.on n=>ls g f (a+n) (m+1)
def run (g:Nat->Nat->Rd) (z a m:Nat):Nat × Nat:=ls g (z+1-a) a m
def dU (g:Nat->Nat->Rd) (z:Nat):Prop:=∀a m n,g a m=.on n->1<=n/\a+n<=z
theorem kD {g:Nat->Nat->Rd}(hg:dU g z):∀(f f' a m:Nat),z+1<=a+f->z+1<=a+f'->a<=z->ls g f a m=ls g f' a m
 |0,_,_,_,h,_,h2=>by omega
 |_+1,0,_,_,_,h,h2=>by omega
 |f+1,f'+1,a,m,h,h1,h2=>by
  unfold ls;cases e:g a m with
  |out p e=>rfl
  |on n=>
   obtain ⟨h3,h4⟩:=hg a m n e;exact kD hg f f' (a+n) (m+1) (by omega) (by omega) h4
theorem bG {g:Nat->Nat->Rd}{a e:Nat}(ha:a<=z) (h:g a m=.out p e):run g z a m=(p,e):=by
 unfold run;rw [show z+1-a=(z-a)+1 by omega];unfold ls;rw [h]
theorem du {g:Nat->Nat->Rd}{a n:Nat}(hg:dU g z) (ha:a<=z) (h:g a m=.on n):run g z a m=run g z (a+n) (m+1):=by
 obtain ⟨h1,h2⟩:=hg a m n h;unfold run;rw [show z+1-a=(z-a)+1 by omega];rw [show ls g (z-a+1) a m=ls g (z-a) (a+n) (m+1) by rw [ls,h]];exact kD hg _ _ _ _ (by omega) (by omega) h2
theorem bX {g:Nat->Nat->Rd}(hg:dU g z) (I:Nat->Nat->Prop) (Q:Nat × Nat->Prop)
  (hO:∀a m p e,a<=z->I a m->g a m=.out p e->Q (p,e)) (hN:∀a m n,a<=z->I a m->g a m=.on n->I (a+n) (m+1)) :
  ∀(d a m:Nat),z-a<=d->a<=z->I a m->Q (run g z a m)
 |d,a,m,hd,ha,hI=>by
  cases e:g a m with
  |out p q=>rw [bG ha e];exact hO a m p q ha hI e
  |on n=>
   obtain ⟨h3,h4⟩:=hg a m n e;rw [du hg ha e];cases d with
   |zero=>omega
   |succ d=>exact bX hg I Q hO hN d (a+n) (m+1) (by omega) h4 (hN a m n ha hI e)
def bV (c:Nat):Bool:=c == 32 || c == 9 || c == 13
def df (s:ByteArray) (i:Nat):Bool:=gd s i && (decide (dp s i<32) || dp s i == 127)
def bN (c:Nat):Bool:=decide (48<=c) && decide (c<=57)
def ag (s:ByteArray) (a:Nat):Nat:=
 if (gd s a && lt' (dp s a))=true then 1 else if bN (by8 s a)=true then 3 else if by8 s a=34 then 4 else if by8 s a=39 then 5
 else if by8 s a=47/\a+1<s.size/\by8 s (a+1)=47 then 7 else if by8 s a=123 then 8 else if (sg s a).size≠0 then 6 else 0
def bz (s:ByteArray) (f k:Nat) (a _:Nat):Rd:=
 if s.size<=a then .out a 0
 else if (k=1/\(gd s a && pr' (dp s a))=false)\/(k=3/\bN (by8 s a)=false) then .out a 0
 else if 65535<a+dw s a-f then .out f 103
 else .on (dw s a)
def bH (s:ByteArray) (f q:Nat) (only:Bool) (a m:Nat):Rd:=
 if s.size<=a\/by8 s a=10 then .out f 101
 else if 65535<a+dw s a-f then .out f 103
 else if by8 s a=q/\(only=false\/m=1) then .out (a+1) 0
 else if df s a=true\/(only=true/\(m=1\/by8 s a=q)) then .out a 102
 else .on (dw s a)
def aV (s:ByteArray) (f:Nat) (blk:Bool) (a _:Nat):Rd:=
 if s.size<=a then (if blk=true then .out f 101 else .out a 0)
 else if blk=false/\by8 s a=10 then .out a 0
 else if 65535<a+1-f then .out f 103
 else if blk=true/\by8 s a=125 then .out (a+1) 0
 else .on 1
theorem bZ (s:ByteArray) (f k:Nat):dU (bz s f k) s.size:=by
 intro a m n h;unfold bz at h
 split at h
 ·cases h
 ·rename_i h1
  obtain ⟨h2,h3,h4⟩:=aG s a (by omega)
  split at h
  ·cases h
  ·split at h
   ·cases h
   ·cases h;exact ⟨h2,h4⟩
theorem cX (s:ByteArray) (f q:Nat) (o:Bool):dU (bH s f q o) s.size:=by
 intro a m n h;unfold bH at h
 split at h
 ·cases h
 ·rename_i h1
  obtain ⟨h2,h3,h4⟩:=aG s a (by omega)
  split at h
  ·cases h
  ·split at h
   ·cases h
   ·split at h
    ·cases h
    ·cases h;exact ⟨h2,h4⟩
theorem b8 (s:ByteArray) (f:Nat) (o:Bool):dU (aV s f o) s.size:=by
 intro a m n h;unfold aV at h
 split at h
 ·split at h <;> cases h
 ·rename_i h1
  split at h
  ·cases h
  ·split at h
   ·cases h
   ·split at h
    ·cases h
    ·cases h;exact ⟨Nat.le_refl _,by omega⟩
def ah (s:ByteArray) (a k:Nat):Nat × Nat:=
 if k=4 then run (bH s a 34 false) s.size (a+1) 0
 else if k=5 then run (bH s a 39 true) s.size (a+1) 0
 else if k=7 then run (aV s a false) s.size a 0
 else if k=8 then run (aV s a true) s.size a 0
 else if k=6 then (a+(sg s a).size,0)
 else run (bz s a k) s.size a 0
theorem fU (s:ByteArray) (a:Nat) (h:(sg s a).size≠0):a+(sg s a).size<=s.size/\s.extract a (a+(sg s a).size)=sg s a/\sg s a∈aL:=by
 unfold sg at h ⊢;cases e:aL.find? (pre s a) with
 |none=>rw [e] at h;exact absurd rfl h
 |some x=>
  have h1:=List.find?_some e;have h2:=List.mem_of_find?_eq_some e;unfold pre at h1;have h3:=of_decide_eq_true h1;exact ⟨h3.1,h3.2,h2⟩
theorem At (s:ByteArray) (a:Nat):(sg s a).size<=2:=by
 by_cases h:(sg s a).size≠0
 ·have h1:=(fU s a h).2.2;have h2:∀x∈aL,x.size<=2:=by decide
  exact h2 _ h1
 ·omega
theorem cG (s:ByteArray) (a k p:Nat) (ha:a<s.size) (hk:ag s a=k) (h0:k≠0) (h:ah s a k=(p,0)):a<p/\p<=s.size:=by
 obtain ⟨d1,d2,d3⟩:=aG s a ha
 have hQ:∀q o,run (bH s a q o) s.size (a+1) 0=(p,0)->a<p/\p<=s.size:=by
  intro q o h
  have:=bX (cX s a q o) (fun b _=>a<b) (fun r=>r.2=0->a<r.1/\r.1<=s.size) (by
   intro b m x e hb hI hx he;unfold bH at hx
   split at hx
   ·cases hx;cases he
   ·split at hx
    ·cases hx;cases he
    ·split at hx
     ·cases hx;exact ⟨by show a<b+1;omega,by show b+1<=s.size;omega⟩
     ·split at hx
      ·cases hx;cases he
      ·cases hx) (by intro b m n hb hI hx;show a<b+n;omega) _ (a+1) 0 (Nat.le_refl _) (by omega) (by show a<a+1;omega)
  rw [h] at this;exact this rfl
 have hC:∀o,(o=true->by8 s a≠125)->(o=false->by8 s a≠10)->run (aV s a o) s.size a 0=(p,0)->a<p/\p<=s.size:=by
  intro o h1 h2 h
  have:=bX (b8 s a o) (fun b _=>a<=b) (fun r=>r.2=0->a<r.1/\r.1<=s.size) (by
   intro b m x e hb hI hx he;unfold aV at hx
   split at hx
   ·split at hx
    ·cases hx;cases he
    ·cases hx;exact ⟨by show a<b;omega,hb⟩
   ·split at hx
    ·rename_i h3
     cases hx;refine ⟨?_,hb⟩;show a<b
     rcases Nat.lt_or_ge a b with h4|h4
     ·exact h4
     ·exact absurd (by rw [show a=b by omega];exact h3.2) (h2 h3.1)
    ·split at hx
     ·cases hx;cases he
     ·split at hx
      ·cases hx;exact ⟨by show a<b+1;omega,by show b+1<=s.size;omega⟩
      ·cases hx) (by intro b m n hb hI hx;show a<=b+n;omega) _ a 0 (Nat.le_refl _) (by omega) (Nat.le_refl _)
  rw [h] at this;exact this rfl
 have hR:((k=1/\(gd s a && pr' (dp s a))=false)\/(k=3/\bN (by8 s a)=false)->False)->run (bz s a k) s.size a 0=(p,0)->a<p/\p<=s.size:=by
  intro h1 h
  have:=bX (bZ s a k) (fun b _=>a<=b) (fun r=>r.2=0->a<r.1/\r.1<=s.size) (by
   intro b m x e hb hI hx he;unfold bz at hx
   split at hx
   ·cases hx;exact ⟨by show a<b;omega,hb⟩
   ·split at hx
    ·rename_i h3
     cases hx;refine ⟨?_,hb⟩;show a<b
     rcases Nat.lt_or_ge a b with h4|h4
     ·exact h4
     ·have:b=a:=Nat.le_antisymm h4 hI;rw [this] at h3;exact absurd h3 h1
    ·split at hx
     ·cases hx;cases he
     ·cases hx) (by intro b m n hb hI hx;show a<=b+n;omega) _ a 0 (Nat.le_refl _) (by omega) (Nat.le_refl _)
  rw [h] at this;exact this rfl
 unfold ah at h;unfold ag at hk
 by_cases c1:(gd s a && lt' (dp s a))=true
 ·rw [if_pos c1] at hk;subst hk;simp only [show ¬(1:Nat)=4 by decide,show ¬(1:Nat)=5 by decide,show ¬(1:Nat)=7 by decide,show ¬(1:Nat)=8 by decide,show ¬(1:Nat)=6 by decide,if_false] at h;refine hR ?_ h;rintro (⟨_,h3⟩|⟨h3,_⟩)
  ·rw [Bool.and_eq_true] at c1;rw [c1.1,na c1.2] at h3;cases h3
  ·cases h3
 ·rw [if_neg c1] at hk
  by_cases c2:bN (by8 s a)=true
  ·rw [if_pos c2] at hk;subst hk;simp only [show ¬(3:Nat)=4 by decide,show ¬(3:Nat)=5 by decide,show ¬(3:Nat)=7 by decide,show ¬(3:Nat)=8 by decide,show ¬(3:Nat)=6 by decide,if_false] at h;refine hR ?_ h;rintro (⟨h3,_⟩|⟨_,h3⟩)
   ·cases h3
   ·rw [c2] at h3;cases h3
  ·rw [if_neg c2] at hk
   by_cases c3:by8 s a=34
   ·rw [if_pos c3] at hk;subst hk;rw [if_pos rfl] at h;exact hQ _ _ h
   ·rw [if_neg c3] at hk
    by_cases c4:by8 s a=39
    ·rw [if_pos c4] at hk;subst hk;rw [if_neg (by decide),if_pos rfl] at h;exact hQ _ _ h
    ·rw [if_neg c4] at hk
     by_cases c5:by8 s a=47/\a+1<s.size/\by8 s (a+1)=47
     ·rw [if_pos c5] at hk;subst hk;rw [if_neg (by decide),if_neg (by decide),if_pos rfl] at h;exact hC false (by intro h;cases h) (by intro _;rw [c5.1];decide) h
     ·rw [if_neg c5] at hk
      by_cases c6:by8 s a=123
      ·rw [if_pos c6] at hk;subst hk;rw [if_neg (by decide),if_neg (by decide),if_neg (by decide),if_pos rfl] at h;exact hC true (by intro _;rw [c6];decide) (by intro h;cases h) h
      ·rw [if_neg c6] at hk
       by_cases c7:(sg s a).size≠0
       ·rw [if_pos c7] at hk;subst hk;rw [if_neg (by decide),if_neg (by decide),if_neg (by decide),if_neg (by decide),if_pos rfl] at h;cases h;exact ⟨by omega,(fU s a c7).1⟩
       ·rw [if_neg c7] at hk;exact absurd hk.symm h0
structure Tk where
 k:Nat
 a:Nat
 e:Nat
 f:Nat
def aI (s:ByteArray):Nat->Nat
 |0=>0
 |p+1=>if bV (by8 s p)=true then aI s p else p+1
def bI (s:ByteArray) (k a p f:Nat):Tk:=⟨if k=1/\ky (s.extract a p)=true then 2 else k,a,if k=7 then aI s p else p,f⟩
def io (s:ByteArray):Nat->Nat->Nat->List Tk × Nat × Nat
 |0,_,_=>([],0,0)
 |g+1,a,f=>
  if s.size<=a then ([],0,0)
  else if by8 s a=10 then io s g (a+1) (f+1)
  else if bV (by8 s a)=true then io s g (a+1) f
  else if ag s a=0 then ([],100,a)
  else if (ah s a (ag s a)).2≠0 then ([],(ah s a (ag s a)).2,(ah s a (ag s a)).1)
  else (bI s (ag s a) a (ah s a (ag s a)).1 f :: (io s g (ah s a (ag s a)).1 0).1,(io s g (ah s a (ag s a)).1 0).2)
def fnd (s:ByteArray) (a f:Nat):List Tk × Nat × Nat:=io s (s.size-a) a f
theorem fM (s:ByteArray):∀(g g' a f:Nat),s.size<=a+g->s.size<=a+g'->io s g a f=io s g' a f
 |0,0,_,_,_,_=>rfl
 |0,g'+1,a,f,h,_=>by unfold io;rw [if_pos (by omega)]
 |g+1,0,a,f,_,h=>by
  rw [show io s 0 a f=([],0,0) from rfl];unfold io;rw [if_pos (by omega)]
 |g+1,g'+1,a,f,h,h'=>by
  unfold io
  by_cases h1:s.size<=a
  ·rw [if_pos h1,if_pos h1]
  ·rw [if_neg h1,if_neg h1,fM s g g' (a+1) (f+1) (by omega) (by omega),fM s g g' (a+1) f (by omega) (by omega)]
   by_cases h2:ag s a=0
   ·rw [if_pos h2,if_pos h2]
   ·by_cases h3:(ah s a (ag s a)).2≠0
    ·rw [if_pos h3,if_pos h3]
    ·have h4:=cG s a (ag s a) (ah s a (ag s a)).1 (by omega) rfl h2 (Prod.ext rfl (by simpa using h3));rw [fM s g g' _ 0 (by omega) (by omega)]
theorem cL (s:ByteArray) (a f:Nat) (h:s.size<=a):fnd s a f=([],0,0):=by
 unfold fnd;rw [show s.size-a=0 by omega];rfl
theorem bF (s:ByteArray) (a f:Nat) (h:a<s.size):fnd s a f =
  if by8 s a=10 then fnd s (a+1) (f+1)
  else if bV (by8 s a)=true then fnd s (a+1) f
  else if ag s a=0 then ([],100,a)
  else if (ah s a (ag s a)).2≠0 then ([],(ah s a (ag s a)).2,(ah s a (ag s a)).1)
  else (bI s (ag s a) a (ah s a (ag s a)).1 f :: (fnd s (ah s a (ag s a)).1 0).1,(fnd s (ah s a (ag s a)).1 0).2):=by
 have h0:fnd s a f=io s ((s.size-(a+1))+1) a f:=by unfold fnd;rw [show s.size-a=(s.size-(a+1))+1 by omega]
 rw [h0];unfold io;rw [if_neg (by omega)]
 by_cases h2:ag s a=0
 ·simp only [if_pos h2];rfl
 ·by_cases h3:(ah s a (ag s a)).2≠0
  ·simp only [if_pos h3];rfl
  ·have h4:=cG s a (ag s a) (ah s a (ag s a)).1 h rfl h2 (Prod.ext rfl (by simpa using h3));rw [fM s (s.size-(a+1)) (s.size-(ah s a (ag s a)).1) (ah s a (ag s a)).1 0 (by omega) (by omega)];rfl
def scn (s:ByteArray):List Tk × Nat × Nat:=fnd s 0 0
theorem dJ (s:ByteArray):∀p,aI s p<=p
 |0=>Nat.le_refl _
 |p+1=>by
  unfold aI
  split
  ·have:=dJ s p;omega
  ·exact Nat.le_refl _
theorem fD (s:ByteArray) (a:Nat) (h:bV (by8 s a)=false):∀p,a<p->a<aI s p
 |0,h1=>by omega
 |p+1,h1=>by
  unfold aI
  by_cases e:bV (by8 s p)=true
  ·rw [if_pos e];refine fD s a h p ?_
   rcases Nat.lt_or_ge a p with h2|h2
   ·exact h2
   ·rw [show a=p by omega,e] at h;cases h
  ·rw [if_neg e];exact h1
theorem ji (s:ByteArray):∀p i,aI s p<=i->i<p->bV (by8 s i)=true
 |0,_,_,h=>by omega
 |p+1,i,h,h1=>by
  unfold aI at h
  by_cases e:bV (by8 s p)=true
  ·rw [if_pos e] at h
   by_cases e2:i=p
   ·rw [e2];exact e
   ·exact ji s p i h (by omega)
  ·rw [if_neg e] at h;omega
theorem fx (s:ByteArray):∀(d a f:Nat),s.size-a<=d->∀t∈(fnd s a f).1,a<=t.a/\t.a<t.e/\t.e<=s.size
 |d,a,f,hd,t,ht=>by
  by_cases h:a<s.size
  ·rw [bF s a f h] at ht;cases d with
   |zero=>omega
   |succ d=>
    by_cases h1:by8 s a=10
    ·rw [if_pos h1] at ht;have:=fx s d (a+1) (f+1) (by omega) t ht;exact ⟨by omega,this.2⟩
    ·rw [if_neg h1] at ht
     by_cases h2:bV (by8 s a)=true
     ·rw [if_pos h2] at ht;have:=fx s d (a+1) f (by omega) t ht;exact ⟨by omega,this.2⟩
     ·rw [if_neg h2] at ht
      by_cases h3:ag s a=0
      ·rw [if_pos h3] at ht;cases ht
      ·rw [if_neg h3] at ht
       by_cases h4:(ah s a (ag s a)).2≠0
       ·rw [if_pos h4] at ht;cases ht
       ·rw [if_neg h4] at ht;have h5:=cG s a (ag s a) (ah s a (ag s a)).1 h rfl h3 (Prod.ext rfl (by simpa using h4))
        rcases List.mem_cons.1 ht with rfl|ht
        ·refine ⟨Nat.le_refl _,?_,?_⟩
         ·show a<if _ then _ else _
          split
          ·exact fD s a (by simpa using h2) _ h5.1
          ·exact h5.1
         ·show (if _ then _ else _)<=s.size
          split
          ·exact Nat.le_trans (dJ s _) h5.2
          ·exact h5.2
        ·have:=fx s d _ 0 (by omega) t ht;exact ⟨by omega,this.2⟩
  ·rw [cL s a f (by omega)] at ht;cases ht
theorem aM (s:ByteArray) (i:Nat) (h:by8 s i<128):dw s i=1/\dp s i=by8 s i/\gd s i=true:=by
 have e:Utf8.decode s i=(by8 s i,1):=by rw [bw];unfold D;rw [if_pos h]
 unfold gd dw dp;rw [e];refine ⟨rfl,rfl,?_⟩;show gdb (by8 s i:Int) 1=true;have hn:((by8 s i:Int) != 65533)=true:=by simp;omega
 unfold gdb;rw [hn];rfl
theorem wm (s:ByteArray) (i:Nat) (h:dp s i<128):by8 s i=dp s i:=by
 by_cases h8:by8 s i<128
 ·exact (aM s i h8).2.1.symm
 ·exfalso
  unfold dp at h;rw [bw] at h;unfold D at h;rw [if_neg h8] at h
  repeat' split at h
  all_goals first|(rename_i h2;simp only [ge_iff_le,Bool.and_eq_true,decide_eq_true_eq] at h2;omega)|(simp only [] at h;omega)|(exact absurd h (by decide))
theorem zQ (s:ByteArray) (i c:Nat) (hc:c<128):dp s i=c↔by8 s i=c:=by
 constructor
 ·intro h;rw [wm s i (by omega),h]
 ·intro h;rw [(aM s i (by omega)).2.1,h]
theorem f9 (s:ByteArray) (j:Nat) (hj:j<s.size) (h:by8 s j<128):bd s j/\bd s (j+1):=by
 obtain ⟨m,h1,h2,h3,h4,h5⟩:=gm s j (P s).length (by rw [jo s _ (Nat.le_refl _)];exact hj)
 have e:st s m=j:=by
  apply Classical.byContradiction;intro hne
  have:=(fN s (st s m) (j-st s m) (by omega) (by omega)).2;rw [show st s m+(j-st s m)=j by omega] at this;omega
 refine ⟨⟨m,by omega,e⟩,⟨m+1,by omega,?_⟩⟩;rw [cU s m h2,e,(aM s j h).1]
theorem fR {a:Nat}(h:bd s a) (ha:a<s.size):bd s (a+dw s a):=by
 obtain ⟨k,hk,rfl⟩:=h;have hk2:=(dY s k).1 ha;exact ⟨k+1,by omega,cU s k hk2⟩
theorem zu {a:Nat}(ha:bd s a) (hb:bd s b) (hab:a<=b):bd (s.extract 0 b) a:=by
 obtain ⟨i,hi,rfl⟩:=ha;obtain ⟨j,hj,rfl⟩:=hb
 have hij:i<=j:=by
  apply Classical.byContradiction;intro h
  have:=g8 s j i (by omega) hi;omega
 have e:=mP s j hj i hij;have e2:=Cz s j hj;unfold hd at e e2;exact ⟨i,by omega,e⟩
def pL (s:ByteArray) (a:Nat):Int:=ef 1 (s.extract 0 a)
def pC (s:ByteArray) (a:Nat):Int:=iv 1 (s.extract 0 a)
theorem AS (s:ByteArray):pL s 0=1/\pC s 0=1:=by
 have e:s.extract 0 0=ByteArray.empty:=by
  have hz:(s.extract 0 0).size=0:=by rw [aj s 0 0 (Nat.zero_le _)]
  exact cZ _ _ (by rw [hz];rfl) (fun j hj=>by omega)
 unfold pL pC;rw [e];have z:ByteArray.empty.size=0:=rfl
 have hp:(P (ByteArray.empty.extract (lf ByteArray.empty 0) 0)).length=0:=by
  have h1:=rD (ByteArray.empty.extract (lf ByteArray.empty 0) 0);have h2:=aj ByteArray.empty (lf ByteArray.empty 0) 0 (Nat.zero_le _);omega
 constructor
 ·unfold ef;rw [z];show wrap64 (1+((0:Nat):Int))=1;unfold wrap64;omega
 ·unfold iv;rw [z,hp];show wrap64 (1+((0:Nat):Int))=1;unfold wrap64;omega
theorem xe {a:Nat}(ha:bd s a) (hb:bd s b) (hab:a<=b) (hs:s.size<=2147483647) :
  aAt a (s.extract a b)=b/\ef (pL s a) (s.extract a b)=pL s b/\iv (pC s a) (s.extract a b)=pC s b:=by
 have hb2:=wS hb;have z:(s.extract 0 b).size=b:=by rw [aj s 0 b hb2];rfl
 have e1:(s.extract 0 b).extract 0 a=s.extract 0 a:=by
  rw [d9 s 0 b 0 a hb2 (by omega) (Nat.zero_le _),Nat.zero_add,Nat.zero_add]
 have e2:(s.extract 0 b).extract a b=s.extract a b:=by
  rw [d9 s 0 b a b hb2 (by omega) hab,Nat.zero_add,Nat.zero_add]
 refine ⟨?_,?_,?_⟩
 ·unfold aAt;rw [aj s a b hb2];unfold wrap64;omega
 ·have h:=sO (s.extract 0 b) a (by omega) 1;rw [z,e1,e2] at h;exact h
 ·have h:=wA (s.extract 0 b) a (zu ha hb hab) 1;rw [z,e1,e2] at h;exact h
theorem B7 (s:ByteArray) (a:Nat):-9223372036854775808<=pL s a/\pL s a<=9223372036854775807:=by
 unfold pL ef wrap64;omega
theorem mV:∀x∈aL,(x.size=1\/x.size=2)/\by8 x (x.size-1)<128:=by decide
theorem Ba {a k e:Nat}(hs:bd s a) (ha:a<s.size) (hk:ag s a=k) (h0:k≠0) (h:ah s a k=(p,e)):bd s p:=by
 have hQ:∀q o,q<128->by8 s a=q->run (bH s a q o) s.size (a+1) 0=(p,e)->bd s p:=by
  intro q o hq hq2 h
  have:=bX (cX s a q o) (fun b _=>bd s b) (fun r=>bd s r.1) (by
   intro b m x e hb hI hx;unfold bH at hx
   split at hx
   ·cases hx;exact hs
   ·rename_i h1
    split at hx
    ·cases hx;exact hs
    ·split at hx
     ·rename_i h3
      cases hx;exact (f9 s b (by omega) (by omega)).2
     ·split at hx
      ·cases hx;exact hI
      ·cases hx) (by
   intro b m n hb hI hx;unfold bH at hx
   split at hx
   ·cases hx
   ·rename_i h1
    split at hx
    ·cases hx
    ·split at hx
     ·cases hx
     ·split at hx
      ·cases hx
      ·cases hx;exact fR hI (by omega)) _ (a+1) 0 (Nat.le_refl _) (by omega) (f9 s a ha (by omega)).2
  rw [h] at this;exact this
 have hC:∀o,run (aV s a o) s.size a 0=(p,e)->bd s p:=by
  intro o h
  have:=bX (b8 s a o) (fun _ _=>True) (fun r=>bd s r.1) (by
   intro b m x e hb hI hx;unfold aV at hx
   split at hx
   ·split at hx
    ·cases hx;exact hs
    ·cases hx;rw [show b=s.size by omega];exact ru s
   ·split at hx
    ·rename_i h3
     cases hx;exact (wR s b h3.2).1
    ·split at hx
     ·cases hx;exact hs
     ·split at hx
      ·rename_i h3
       cases hx;exact (f9 s b (by omega) (by omega)).2
      ·cases hx) (by intros;trivial) _ a 0 (Nat.le_refl _) (by omega) trivial
  rw [h] at this;exact this
 have hR:∀k,run (bz s a k) s.size a 0=(p,e)->bd s p:=by
  intro k h
  have:=bX (bZ s a k) (fun b _=>bd s b) (fun r=>bd s r.1) (by
   intro b m x e hb hI hx;unfold bz at hx
   split at hx
   ·cases hx;exact hI
   ·split at hx
    ·cases hx;exact hI
    ·split at hx
     ·cases hx;exact hs
     ·cases hx) (by
   intro b m n hb hI hx;unfold bz at hx
   split at hx
   ·cases hx
   ·split at hx
    ·cases hx
    ·split at hx
     ·cases hx
     ·cases hx;exact fR hI (by omega)) _ a 0 (Nat.le_refl _) (by omega) hs
  rw [h] at this;exact this
 unfold ah at h
 by_cases k4:k=4
 ·rw [if_pos k4] at h;refine hQ 34 _ (by decide) ?_ h;rw [k4] at hk;unfold ag at hk
  repeat' split at hk
  all_goals first|assumption|(cases hk;done)
 ·rw [if_neg k4] at h
  by_cases k5:k=5
  ·rw [if_pos k5] at h;refine hQ 39 _ (by decide) ?_ h;rw [k5] at hk;unfold ag at hk
   repeat' split at hk
   all_goals first|assumption|(cases hk;done)
  ·rw [if_neg k5] at h
   by_cases k7:k=7
   ·rw [if_pos k7] at h;exact hC _ h
   ·rw [if_neg k7] at h
    by_cases k8:k=8
    ·rw [if_pos k8] at h;exact hC _ h
    ·rw [if_neg k8] at h
     by_cases k6:k=6
     ·rw [if_pos k6] at h;cases h
      have hsz:(sg s a).size≠0:=by
       rw [k6] at hk;unfold ag at hk
       repeat' split at hk
       all_goals first|assumption|(cases hk;done)
      obtain ⟨g1,g2,g3⟩:=fU s a hsz;obtain ⟨g4,g5⟩:=mV _ g3
      have e1:by8 s (a+((sg s a).size-1))<128:=by
       rw [<-g2] at g5;rw [aj s _ _ g1,aF s a _ _ (by omega)] at g5;rw [show a+((sg s a).size-1)=a+(a+(sg s a).size-a-1) by omega];exact g5
      have:=(f9 s _ (by omega) e1).2;rw [show a+((sg s a).size-1)+1=a+(sg s a).size by omega] at this;exact this
     ·rw [if_neg k6] at h;exact hR _ h
theorem Bt (h:bV c=true):c<128:=by
 unfold bV at h;simp at h;omega
end Go.Proofs.YtpdlohfdjiaegaaGreatDoor.Lx
