import Derived.Test.YtpdlohfdjiaegaaGreatDoorM03
set_option linter.unusedVariables false
set_option linter.unusedSimpArgs false
namespace Go.Proofs.YtpdlohfdjiaegaaGreatDoor.Lx
open Go.RowKit
theorem yW {s:ByteArray}{a k p e:Nat}(ha:a<s.size) (h:ah s a k=(p,e)) (he:e≠0):(p=a/\(e=101\/e=103))\/(e=102/\a<p/\p<=s.size):=by
 have hQ:∀q o,run (bH s a q o) s.size (a+1) 0=(p,e)->(p=a/\(e=101\/e=103))\/(e=102/\a<p/\p<=s.size):=by
  intro q o h
  have:=bX (cX s a q o) (fun b _=>a<b) (fun r=>r.2≠0->(r.1=a/\(r.2=101\/r.2=103))\/(r.2=102/\a<r.1/\r.1<=s.size)) (by
   intro b m x e hb hI hx he;unfold bH at hx
   split at hx
   ·cases hx;exact .inl ⟨rfl,.inl rfl⟩
   ·split at hx
    ·cases hx;exact .inl ⟨rfl,.inr rfl⟩
    ·split at hx
     ·cases hx;exact absurd rfl he
     ·split at hx
      ·cases hx;exact .inr ⟨rfl,hI,hb⟩
      ·cases hx) (by intro b m n hb hI hx;show a<b+n;omega) _ (a+1) 0 (Nat.le_refl _) (by omega) (by show a<a+1;omega)
  rw [h] at this;exact this he
 have hC:∀o,run (aV s a o) s.size a 0=(p,e)->p=a/\(e=101\/e=103):=by
  intro o h
  have:=bX (b8 s a o) (fun _ _=>True) (fun r=>r.2≠0->r.1=a/\(r.2=101\/r.2=103)) (by
   intro b m x e hb hI hx he;unfold aV at hx
   split at hx
   ·split at hx
    ·cases hx;exact ⟨rfl,.inl rfl⟩
    ·cases hx;exact absurd rfl he
   ·split at hx
    ·cases hx;exact absurd rfl he
    ·split at hx
     ·cases hx;exact ⟨rfl,.inr rfl⟩
     ·split at hx
      ·cases hx;exact absurd rfl he
      ·cases hx) (by intros;trivial) _ a 0 (Nat.le_refl _) (by omega) trivial
  rw [h] at this;exact this he
 have hR:∀k,run (bz s a k) s.size a 0=(p,e)->p=a/\(e=101\/e=103):=by
  intro k h
  have:=bX (bZ s a k) (fun _ _=>True) (fun r=>r.2≠0->r.1=a/\(r.2=101\/r.2=103)) (by
   intro b m x e hb hI hx he;unfold bz at hx
   split at hx
   ·cases hx;exact absurd rfl he
   ·split at hx
    ·cases hx;exact absurd rfl he
    ·split at hx
     ·cases hx;exact ⟨rfl,.inr rfl⟩
     ·cases hx) (by intros;trivial) _ a 0 (Nat.le_refl _) (by omega) trivial
  rw [h] at this;exact this he
 unfold ah at h
 split at h
 ·exact hQ _ _ h
 ·split at h
  ·exact hQ _ _ h
  ·split at h
   ·exact .inl (hC _ h)
   ·split at h
    ·exact .inl (hC _ h)
    ·split at h
     ·cases h;exact absurd rfl he
     ·exact .inl (hR _ h)
theorem yX (s:ByteArray) (a p i:Nat) (ha:a<=p) (hp:p<=s.size) (hi:a+i<p) (hd:a+i+dw s (a+i)<=p):Utf8.decode (s.extract a p) i=Utf8.decode s (a+i):=by
 have z:(s.extract a s.size).size=s.size-a:=aj s a _ (Nat.le_refl _);have t:=ea s a i (by omega)
 have e:s.extract a p=(s.extract a s.size).extract 0 (p-a):=by
  rw [d9 s a s.size 0 (p-a) (Nat.le_refl _) (by omega) (Nat.zero_le _),Nat.add_zero,show a+(p-a)=p by omega]
 have hw:dw (s.extract a s.size) i=dw s (a+i):=by unfold dw;rw [t]
 rw [e,oh (s.extract a s.size) (p-a) i (by omega) (by omega) (by rw [hw];omega),t]
theorem BO (b0:Nat) {c1 c2 c3 c1' c2' c3':Option Nat}(h:ct c1=false) (h':ct c1'=false):D b0 c1 c2 c3=D b0 c1' c2' c3':=by unfold D;simp [h,h']
theorem BN (b0:Nat) {c1 c2 c3 c2' c3':Option Nat}(h:ct c2=false) (h':ct c2'=false):D b0 c1 c2 c3=D b0 c1 c2' c3':=by unfold D;simp [h,h']
theorem BM (b0:Nat) {c1 c2 c3 c3':Option Nat}(h:ct c3=false) (h':ct c3'=false):D b0 c1 c2 c3=D b0 c1 c2 c3':=by unfold D;simp [h,h']
theorem tu (a c:ByteArray) (h:ct (ob c 0)=false) (i:Nat) (hi:i<a.size):Utf8.decode (a++c) i=Utf8.decode a i:=by
 have hin:∀j,j<a.size->ob (a++c) j=ob a j:=fun j hj=>by rw [jG,if_pos hj]
 have hat:ob (a++c) a.size=ob c 0:=by rw [jG,if_neg (by omega),Nat.sub_self]
 have hno:ct (ob a a.size)=false:=by unfold ob;rw [if_neg (by omega)];rfl
 rw [bw,bw,be,if_pos hi]
 by_cases h1:i+1=a.size
 ·exact BO _ (by rw [h1,hat];exact h) (by rw [h1];exact hno)
 ·rw [hin (i+1) (by omega)]
  by_cases h2:i+2=a.size
  ·exact BN _ (by rw [h2,hat];exact h) (by rw [h2];exact hno)
  ·rw [hin (i+2) (by omega)]
   by_cases h3:i+3=a.size
   ·exact BM _ (by rw [h3,hat];exact h) (by rw [h3];exact hno)
   ·rw [hin (i+3) (by omega)]
theorem cE (a c:ByteArray) (i:Nat):gd (a++c) (a.size+i)=gd c i/\dp (a++c) (a.size+i)=dp c i/\dw (a++c) (a.size+i)=dw c i:=by
 unfold gd dp dw;rw [pG a c i];exact ⟨rfl,rfl,rfl⟩
theorem o5 (a c t:ByteArray) (i:Nat):pre (a++c) (a.size+i) t=pre c i t:=by
 have hz:=aP a c
 by_cases h:i+t.size<=c.size
 ·rw [uW (by omega),uW h]
  have:(a++c).extract (a.size+i) (a.size+i+t.size)=c.extract i (i+t.size):=by
   refine cZ _ _ (by rw [aj _ _ _ (by omega),aj _ _ _ h];omega) (fun j hj=>?_);rw [aj _ _ _ (by omega)] at hj;rw [aF _ _ _ _ (by omega),aF _ _ _ _ (by omega),be,if_neg (by omega)]
   congr 1;omega
  rw [this]
 ·rw [qw (by omega),qw h]
theorem kA (a c:ByteArray) (i:Nat):sg (a++c) (a.size+i)=sg c i:=by
 unfold sg;rw [show pre (a++c) (a.size+i)=pre c i from funext (o5 a c · i)]
theorem cq (a c:ByteArray) (i:Nat):by8 (a++c) (a.size+i)=by8 c i:=by
 rw [be,if_neg (by omega)];congr 1;omega
theorem j8 (a c:ByteArray) (i:Nat):ag (a++c) (a.size+i)=ag c i:=by
 have hz:=aP a c;unfold ag;rw [(cE a c i).1,(cE a c i).2.1,cq,kA,show a.size+i+1=a.size+(i+1) by omega,cq];have:(by8 c i=47/\a.size+(i+1)<(a++c).size/\by8 c (i+1)=47)↔(by8 c i=47/\i+1<c.size/\by8 c (i+1)=47):=by rw [hz];constructor <;> rintro ⟨h1,h2,h3⟩ <;> exact ⟨h1,by omega,h3⟩
 simp only [this]
def Rd.up (n:Nat):Rd->Rd
 |.out p e=>.out (n+p) e
 |.on k=>.on k
theorem lq {g g':Nat->Nat->Rd}{z n:Nat}(hg:dU g z) (hg':dU g' (n+z)) (h:∀b k,b<=z->g' (n+b) k=(g b k).up n) :
  ∀(d a m:Nat),z-a<=d->a<=z->run g' (n+z) (n+a) m=(n+(run g z a m).1,(run g z a m).2)
 |d,a,m,hd,ha=>by
  have e0:=h a m ha;cases e:g a m with
  |out p q=>
   rw [e] at e0;rw [bG ha e,bG (by omega) e0]
  |on k=>
   rw [e] at e0;obtain ⟨h3,h4⟩:=hg a m k e;rw [du hg ha e,du hg' (by omega) e0,Nat.add_assoc];cases d with
   |zero=>omega
   |succ d=>exact lq hg hg' h d (a+k) (m+1) (by omega) h4
theorem jZ (a c:ByteArray) (i k:Nat) (hi:i<c.size):ah (a++c) (a.size+i) k=(a.size+(ah c i k).1,(ah c i k).2):=by
 have hz:=aP a c
 have hQ:∀q o,run (bH (a++c) (a.size+i) q o) (a++c).size (a.size+i+1) 0=(a.size+(run (bH c i q o) c.size (i+1) 0).1,(run (bH c i q o) c.size (i+1) 0).2):=by
  intro q o;have h1:=cX (a++c) (a.size+i) q o;rw [hz] at h1 ⊢;refine lq (cX c i q o) h1 (fun b m hb=>?_) _ (i+1) 0 (Nat.le_refl _) hi;unfold bH df;rw [cq,(cE a c b).1,(cE a c b).2.1,(cE a c b).2.2,hz];rw [show a.size+b+dw c b-(a.size+i)=b+dw c b-i by omega];simp only [Nat.add_le_add_iff_left]
  repeat' split
  all_goals rfl
 have hC:∀o,run (aV (a++c) (a.size+i) o) (a++c).size (a.size+i) 0=(a.size+(run (aV c i o) c.size i 0).1,(run (aV c i o) c.size i 0).2):=by
  intro o;have h1:=b8 (a++c) (a.size+i) o;rw [hz] at h1 ⊢;refine lq (b8 c i o) h1 (fun b m hb=>?_) _ i 0 (Nat.le_refl _) (Nat.le_of_lt hi);unfold aV;rw [cq,hz];rw [show a.size+b+1-(a.size+i)=b+1-i by omega];simp only [Nat.add_le_add_iff_left]
  repeat' split
  all_goals rfl
 have hR:run (bz (a++c) (a.size+i) k) (a++c).size (a.size+i) 0=(a.size+(run (bz c i k) c.size i 0).1,(run (bz c i k) c.size i 0).2):=by
  have h1:=bZ (a++c) (a.size+i) k;rw [hz] at h1 ⊢;refine lq (bZ c i k) h1 (fun b m hb=>?_) _ i 0 (Nat.le_refl _) (Nat.le_of_lt hi);unfold bz;rw [cq,(cE a c b).1,(cE a c b).2.1,(cE a c b).2.2,hz];rw [show a.size+b+dw c b-(a.size+i)=b+dw c b-i by omega];simp only [Nat.add_le_add_iff_left]
  repeat' split
  all_goals rfl
 unfold ah;rw [hQ,hQ,hC,hC,hR,kA]
 repeat' split
 all_goals first|rfl|(rw [Nat.add_assoc])
theorem jW (a c:ByteArray) (i p:Nat) (hp:p<=c.size):(a++c).extract (a.size+i) (a.size+p)=c.extract i p:=by
 have hz:=aP a c;refine cZ _ _ (by rw [aj _ _ _ (by omega),aj _ _ _ hp];omega) (fun j hj=>?_);rw [aj _ _ _ (by omega)] at hj;rw [aF _ _ _ _ (by omega),aF _ _ _ _ (by omega),be,if_neg (by omega)]
 congr 1;omega
theorem ix (a c:ByteArray) (j:Nat) (hj:bV (by8 c j)=false):∀p,j<p->aI (a++c) (a.size+p)=a.size+aI c p
 |0,h=>by omega
 |p+1,h=>by
  rw [show a.size+(p+1)=(a.size+p)+1 by omega];unfold aI;rw [cq]
  by_cases e:bV (by8 c p)=true
  ·rw [if_pos e,if_pos e];refine ix a c j hj p ?_
   rcases Nat.lt_or_ge j p with h2|h2
   ·exact h2
   ·rw [show j=p by omega,e] at hj;cases hj
  ·rw [if_neg e,if_neg e];omega
def Tk.up (n:Nat) (t:Tk):Tk:=⟨t.k,n+t.a,n+t.e,t.f⟩
theorem oI (a c:ByteArray) (k i p f:Nat) (hi:bV (by8 c i)=false) (hp:i<p) (hz:p<=c.size):bI (a++c) k (a.size+i) (a.size+p) f=(bI c k i p f).up a.size:=by
 unfold bI Tk.up;rw [jW a c i p hz,ix a c i hi p hp]
 congr 1
 split <;> rfl
theorem dP (a c:ByteArray):∀(d i f:Nat),c.size-i<=d->fnd (a++c) (a.size+i) f=((fnd c i f).1.map (Tk.up a.size),(fnd c i f).2.1,if (fnd c i f).2.1=0 then 0 else a.size+(fnd c i f).2.2)
 |d,i,f,hd=>by
  have hz:=aP a c
  by_cases h:i<c.size
  ·cases d with
   |zero=>omega
   |succ d=>
    rw [bF (a++c) (a.size+i) f (by omega),bF c i f h,cq,j8,jZ a c i _ h]
    by_cases h1:by8 c i=10
    ·rw [if_pos h1,if_pos h1,Nat.add_assoc];exact dP a c d (i+1) (f+1) (by omega)
    ·rw [if_neg h1,if_neg h1]
     by_cases h2:bV (by8 c i)=true
     ·rw [if_pos h2,if_pos h2,Nat.add_assoc];exact dP a c d (i+1) f (by omega)
     ·rw [if_neg h2,if_neg h2]
      by_cases h3:ag c i=0
      ·rw [if_pos h3,if_pos h3];rfl
      ·rw [if_neg h3,if_neg h3]
       by_cases h4:(ah c i (ag c i)).2≠0
       ·rw [if_pos h4,if_pos h4];show _=(_,_,if (ah c i (ag c i)).2=0 then 0 else _);rw [if_neg h4];rfl
       ·rw [if_neg h4,if_neg h4];have h5:=cG c i (ag c i) (ah c i (ag c i)).1 h rfl h3 (Prod.ext rfl (by simpa using h4));have h6:=dP a c d (ah c i (ag c i)).1 0 (by omega);show (bI (a++c) _ _ (a.size+(ah c i (ag c i)).1) f :: (fnd (a++c) (a.size+(ah c i (ag c i)).1) 0).1,(fnd (a++c) (a.size+(ah c i (ag c i)).1) 0).2)=_;rw [h6,oI a c _ i _ f (by simpa using h2) h5.1 h5.2];rfl
  ·rw [cL (a++c) (a.size+i) f (by omega),cL c i f (by omega)];rfl
theorem jV {f g:ByteArray->Bool}:∀l:List ByteArray,(∀x∈l,f x=g x)->l.find? f=l.find? g
 |[],_=>rfl
 |x :: l,h=>by
  rw [List.find?_cons,List.find?_cons,h x (List.mem_cons_self ..),jV l (fun y hy=>h y (List.mem_cons_of_mem _ hy))]
theorem uw:∀x∈aL,x.size=1\/(x.size=2/\by8 x 1≠10):=by decide
theorem kQ (a c:ByteArray) (i p:Nat) (hp:p<=a.size):(a++c).extract i p=a.extract i p:=by
 have hz:=aP a c;refine cZ _ _ (by rw [aj _ _ _ (by omega),aj _ _ _ hp]) (fun j hj=>?_);rw [aj _ _ _ (by omega)] at hj;rw [aF _ _ _ _ (by omega),aF _ _ _ _ (by omega),be,if_pos (by omega)]
theorem cF (a c:ByteArray) (i:Nat) (hi:i<a.size):by8 (a++c) i=by8 a i:=by rw [be,if_pos hi]
def lfB:ByteArray:=⟨#[10]⟩
theorem qo (s:ByteArray) (f k b m p:Nat) (h:bz s f k b m=.out p 0):b<=p:=by
 unfold bz at h
 repeat' split at h
 all_goals cases h
 all_goals exact Nat.le_refl _
theorem xV (s:ByteArray) (f q:Nat) (o:Bool) (b m p:Nat) (h:bH s f q o b m=.out p 0):b<=p:=by
 unfold bH at h
 repeat' split at h
 all_goals cases h
 all_goals omega
theorem rk (s:ByteArray) (f:Nat) (o:Bool) (b m p:Nat) (h:aV s f o b m=.out p 0):b<=p:=by
 unfold aV at h
 repeat' split at h
 all_goals cases h
 all_goals omega
end Go.Proofs.YtpdlohfdjiaegaaGreatDoor.Lx
