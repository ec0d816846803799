import Derived.Lib.Bytealg
import Derived.Lib.Walk
import Derived.Shelf.RegionOpenPlain
import Derived.Test.YtpdlohfdjiaegaaGreatDoorM01
import Derived.Test.YtpdlohfdjiaegaaGreatDoorM03
set_option linter.unusedVariables false
set_option linter.unusedSimpArgs false
namespace Go.Proofs.YtpdlohfdjiaegaaGreatDoor.Lx
open Go.RowKit
inductive Rd where
 |out (p e:Nat)
 |on (n:Nat)
def runF (g:Nat→Nat→Rd):Nat→Nat→Nat→Nat × Nat
 |0,a,_=>(a,0)
 |f+1,a,m=>match g a m with
  |.out p e=>(p,e)
  |.on n=>runF g f (a+n) (m+1)
def run (g:Nat→Nat→Rd) (z a m:Nat):Nat × Nat:=runF g (z+1-a) a m
def GoesOn (g:Nat→Nat→Rd) (z:Nat):Prop:=∀a m n,g a m=.on n→1≤n∧a+n≤z
theorem runF_fuel {g:Nat→Nat→Rd}{z:Nat}(hg:GoesOn g z):∀(f f' a m:Nat),z+1≤a+f→z+1≤a+f'→a≤z→runF g f a m=runF g f' a m
 |0,_,_,_,h,_,h2=>by omega
 |_+1,0,_,_,_,h,h2=>by omega
 |f+1,f'+1,a,m,h,h1,h2=>by
  unfold runF
  cases e:g a m with
  |out p e=>rfl
  |on n=>
   obtain ⟨h3,h4⟩:=hg a m n e
   exact runF_fuel hg f f' (a+n) (m+1) (by omega) (by omega) h4
theorem run_out {g:Nat→Nat→Rd}{z a m p e:Nat}(ha:a≤z) (h:g a m=.out p e):run g z a m=(p,e):=by
 unfold run
 rw [show z+1-a=(z-a)+1 by omega]
 unfold runF
 rw [h]
theorem run_on {g:Nat→Nat→Rd}{z a m n:Nat}(hg:GoesOn g z) (ha:a≤z) (h:g a m=.on n):run g z a m=run g z (a+n) (m+1):=by
 obtain ⟨h1,h2⟩:=hg a m n h
 unfold run
 rw [show z+1-a=(z-a)+1 by omega]
 rw [show runF g (z-a+1) a m=runF g (z-a) (a+n) (m+1) by rw [runF,h]]
 exact runF_fuel hg _ _ _ _ (by omega) (by omega) h2
theorem run_ind {g:Nat→Nat→Rd}{z:Nat}(hg:GoesOn g z) (I:Nat→Nat→Prop) (Q:Nat × Nat→Prop)
  (hO:∀a m p e,a≤z→I a m→g a m=.out p e→Q (p,e)) (hN:∀a m n,a≤z→I a m→g a m=.on n→I (a+n) (m+1)) :
  ∀(d a m:Nat),z-a≤d→a≤z→I a m→Q (run g z a m)
 |d,a,m,hd,ha,hI=>by
  cases e:g a m with
  |out p q=>rw [run_out ha e];exact hO a m p q ha hI e
  |on n=>
   obtain ⟨h3,h4⟩:=hg a m n e
   rw [run_on hg ha e]
   cases d with
   |zero=>omega
   |succ d=>exact run_ind hg I Q hO hN d (a+n) (m+1) (by omega) h4 (hN a m n ha hI e)
def tkBl (c:Nat):Bool:=c == 32 || c == 9 || c == 13
def tkCtl (s:ByteArray) (i:Nat):Bool:=gd s i && (decide (dp s i<32) || dp s i == 127)
def tkDg (c:Nat):Bool:=decide (48≤c) && decide (c≤57)
def tkBgn (s:ByteArray) (a:Nat):Nat:=
 if (gd s a && lt' (dp s a))=true then 1 else if tkDg (by8 s a)=true then 3 else if by8 s a=34 then 4 else if by8 s a=39 then 5
 else if by8 s a=47∧a+1<s.size∧by8 s (a+1)=47 then 7 else if by8 s a=123 then 8 else if (sg s a).size≠0 then 6 else 0
def gRow (s:ByteArray) (f k:Nat) (a _:Nat):Rd:=
 if s.size≤a then .out a 0
 else if (k=1∧(gd s a && pr' (dp s a))=false)∨(k=3∧tkDg (by8 s a)=false) then .out a 0
 else if 65535<a+dw s a-f then .out f 103
 else .on (dw s a)
def gQuo (s:ByteArray) (f q:Nat) (only:Bool) (a m:Nat):Rd:=
 if s.size≤a∨by8 s a=10 then .out f 101
 else if 65535<a+dw s a-f then .out f 103
 else if by8 s a=q∧(only=false∨m=1) then .out (a+1) 0
 else if tkCtl s a=true∨(only=true∧(m=1∨by8 s a=q)) then .out a 102
 else .on (dw s a)
def gCom (s:ByteArray) (f:Nat) (blk:Bool) (a _:Nat):Rd:=
 if s.size≤a then (if blk=true then .out f 101 else .out a 0)
 else if blk=false∧by8 s a=10 then .out a 0
 else if 65535<a+1-f then .out f 103
 else if blk=true∧by8 s a=125 then .out (a+1) 0
 else .on 1
theorem gRow_on (s:ByteArray) (f k:Nat):GoesOn (gRow s f k) s.size:=by
 intro a m n h
 unfold gRow at h
 split at h
 ·cases h
 ·rename_i h1
  obtain ⟨h2,h3,h4⟩:=dw_facts s a (by omega)
  split at h
  ·cases h
  ·split at h
   ·cases h
   ·cases h;exact ⟨h2,h4⟩
theorem gQuo_on (s:ByteArray) (f q:Nat) (o:Bool):GoesOn (gQuo s f q o) s.size:=by
 intro a m n h
 unfold gQuo at h
 split at h
 ·cases h
 ·rename_i h1
  obtain ⟨h2,h3,h4⟩:=dw_facts s a (by omega)
  split at h
  ·cases h
  ·split at h
   ·cases h
   ·split at h
    ·cases h
    ·cases h;exact ⟨h2,h4⟩
theorem gCom_on (s:ByteArray) (f:Nat) (o:Bool):GoesOn (gCom s f o) s.size:=by
 intro a m n h
 unfold gCom at h
 split at h
 ·split at h <;> cases h
 ·rename_i h1
  split at h
  ·cases h
  ·split at h
   ·cases h
   ·split at h
    ·cases h
    ·cases h;exact ⟨Nat.le_refl _,by omega⟩
def tkEnd (s:ByteArray) (a k:Nat):Nat × Nat:=
 if k=4 then run (gQuo s a 34 false) s.size (a+1) 0
 else if k=5 then run (gQuo s a 39 true) s.size (a+1) 0
 else if k=7 then run (gCom s a false) s.size a 0
 else if k=8 then run (gCom s a true) s.size a 0
 else if k=6 then (a+(sg s a).size,0)
 else run (gRow s a k) s.size a 0
theorem sg_in (s:ByteArray) (a:Nat) (h:(sg s a).size≠0):a+(sg s a).size≤s.size∧s.extract a (a+(sg s a).size)=sg s a∧sg s a∈signL:=by
 unfold sg at h ⊢
 cases e:signL.find? (pre s a) with
 |none=>rw [e] at h;exact absurd rfl h
 |some x=>
  have h1:=List.find?_some e
  have h2:=List.mem_of_find?_eq_some e
  unfold pre at h1
  have h3:=of_decide_eq_true h1
  exact ⟨h3.1,h3.2,h2⟩
theorem tkEnd_ok (s:ByteArray) (a k p:Nat) (ha:a<s.size) (hk:tkBgn s a=k) (h0:k≠0) (h:tkEnd s a k=(p,0)):a<p∧p≤s.size:=by
 obtain ⟨d1,d2,d3⟩:=dw_facts s a ha
 have hQ:∀q o,run (gQuo s a q o) s.size (a+1) 0=(p,0)→a<p∧p≤s.size:=by
  intro q o h
  have:=run_ind (gQuo_on s a q o) (fun b _=>a<b) (fun r=>r.2=0→a<r.1∧r.1≤s.size) (by
   intro b m x e hb hI hx he
   unfold gQuo at hx
   split at hx
   ·cases hx;cases he
   ·split at hx
    ·cases hx;cases he
    ·split at hx
     ·cases hx;exact ⟨by show a<b+1;omega,by show b+1≤s.size;omega⟩
     ·split at hx
      ·cases hx;cases he
      ·cases hx) (by intro b m n hb hI hx;show a<b+n;omega) _ (a+1) 0 (Nat.le_refl _) (by omega) (by show a<a+1;omega)
  rw [h] at this
  exact this rfl
 have hC:∀o,(o=true→by8 s a≠125)→(o=false→by8 s a≠10)→run (gCom s a o) s.size a 0=(p,0)→a<p∧p≤s.size:=by
  intro o h1 h2 h
  have:=run_ind (gCom_on s a o) (fun b _=>a≤b) (fun r=>r.2=0→a<r.1∧r.1≤s.size) (by
   intro b m x e hb hI hx he
   unfold gCom at hx
   split at hx
   ·split at hx
    ·cases hx;cases he
    ·cases hx;exact ⟨by show a<b;omega,hb⟩
   ·split at hx
    ·rename_i h3
     cases hx
     refine ⟨?_,hb⟩
     show a<b
     rcases Nat.lt_or_ge a b with h4|h4
     ·exact h4
     ·exact absurd (by rw [show a=b by omega];exact h3.2) (h2 h3.1)
    ·split at hx
     ·cases hx;cases he
     ·split at hx
      ·cases hx;exact ⟨by show a<b+1;omega,by show b+1≤s.size;omega⟩
      ·cases hx) (by intro b m n hb hI hx;show a≤b+n;omega) _ a 0 (Nat.le_refl _) (by omega) (Nat.le_refl _)
  rw [h] at this
  exact this rfl
 have hR:((k=1∧(gd s a && pr' (dp s a))=false)∨(k=3∧tkDg (by8 s a)=false)→False)→run (gRow s a k) s.size a 0=(p,0)→a<p∧p≤s.size:=by
  intro h1 h
  have:=run_ind (gRow_on s a k) (fun b _=>a≤b) (fun r=>r.2=0→a<r.1∧r.1≤s.size) (by
   intro b m x e hb hI hx he
   unfold gRow at hx
   split at hx
   ·cases hx;exact ⟨by show a<b;omega,hb⟩
   ·split at hx
    ·rename_i h3
     cases hx
     refine ⟨?_,hb⟩
     show a<b
     rcases Nat.lt_or_ge a b with h4|h4
     ·exact h4
     ·have:b=a:=Nat.le_antisymm h4 hI
      rw [this] at h3
      exact absurd h3 h1
    ·split at hx
     ·cases hx;cases he
     ·cases hx) (by intro b m n hb hI hx;show a≤b+n;omega) _ a 0 (Nat.le_refl _) (by omega) (Nat.le_refl _)
  rw [h] at this
  exact this rfl
 unfold tkEnd at h
 unfold tkBgn at hk
 by_cases c1:(gd s a && lt' (dp s a))=true
 ·rw [if_pos c1] at hk
  subst hk
  simp only [show ¬(1:Nat)=4 by decide,show ¬(1:Nat)=5 by decide,show ¬(1:Nat)=7 by decide,show ¬(1:Nat)=8 by decide,show ¬(1:Nat)=6 by decide,if_false] at h
  refine hR ?_ h
  rintro (⟨_,h3⟩|⟨h3,_⟩)
  ·rw [Bool.and_eq_true] at c1
   rw [c1.1,pr_of_lt c1.2] at h3
   cases h3
  ·cases h3
 ·rw [if_neg c1] at hk
  by_cases c2:tkDg (by8 s a)=true
  ·rw [if_pos c2] at hk
   subst hk
   simp only [show ¬(3:Nat)=4 by decide,show ¬(3:Nat)=5 by decide,show ¬(3:Nat)=7 by decide,show ¬(3:Nat)=8 by decide,show ¬(3:Nat)=6 by decide,if_false] at h
   refine hR ?_ h
   rintro (⟨h3,_⟩|⟨_,h3⟩)
   ·cases h3
   ·rw [c2] at h3;cases h3
  ·rw [if_neg c2] at hk
   by_cases c3:by8 s a=34
   ·rw [if_pos c3] at hk
    subst hk
    rw [if_pos rfl] at h
    exact hQ _ _ h
   ·rw [if_neg c3] at hk
    by_cases c4:by8 s a=39
    ·rw [if_pos c4] at hk
     subst hk
     rw [if_neg (by decide),if_pos rfl] at h
     exact hQ _ _ h
    ·rw [if_neg c4] at hk
     by_cases c5:by8 s a=47∧a+1<s.size∧by8 s (a+1)=47
     ·rw [if_pos c5] at hk
      subst hk
      rw [if_neg (by decide),if_neg (by decide),if_pos rfl] at h
      exact hC false (by intro h;cases h) (by intro _;rw [c5.1];decide) h
     ·rw [if_neg c5] at hk
      by_cases c6:by8 s a=123
      ·rw [if_pos c6] at hk
       subst hk
       rw [if_neg (by decide),if_neg (by decide),if_neg (by decide),if_pos rfl] at h
       exact hC true (by intro _;rw [c6];decide) (by intro h;cases h) h
      ·rw [if_neg c6] at hk
       by_cases c7:(sg s a).size≠0
       ·rw [if_pos c7] at hk
        subst hk
        rw [if_neg (by decide),if_neg (by decide),if_neg (by decide),if_neg (by decide),if_pos rfl] at h
        cases h
        exact ⟨by omega,(sg_in s a c7).1⟩
       ·rw [if_neg c7] at hk
        exact absurd hk.symm h0
structure Tk where
 k:Nat
 a:Nat
 e:Nat
 f:Nat
def tkTrim (s:ByteArray):Nat→Nat
 |0=>0
 |p+1=>if tkBl (by8 s p)=true then tkTrim s p else p+1
def tkTok (s:ByteArray) (k a p f:Nat):Tk:=⟨if k=1∧ky (s.extract a p)=true then 2 else k,a,if k=7 then tkTrim s p else p,f⟩
def fndF (s:ByteArray):Nat→Nat→Nat→List Tk × Nat × Nat
 |0,_,_=>([],0,0)
 |g+1,a,f=>
  if s.size≤a then ([],0,0)
  else if by8 s a=10 then fndF s g (a+1) (f+1)
  else if tkBl (by8 s a)=true then fndF s g (a+1) f
  else if tkBgn s a=0 then ([],100,a)
  else if (tkEnd s a (tkBgn s a)).2≠0 then ([],(tkEnd s a (tkBgn s a)).2,(tkEnd s a (tkBgn s a)).1)
  else (tkTok s (tkBgn s a) a (tkEnd s a (tkBgn s a)).1 f :: (fndF s g (tkEnd s a (tkBgn s a)).1 0).1,(fndF s g (tkEnd s a (tkBgn s a)).1 0).2)
def fnd (s:ByteArray) (a f:Nat):List Tk × Nat × Nat:=fndF s (s.size-a) a f
theorem fndF_fuel (s:ByteArray):∀(g g' a f:Nat),s.size≤a+g→s.size≤a+g'→fndF s g a f=fndF s g' a f
 |0,0,_,_,_,_=>rfl
 |0,g'+1,a,f,h,_=>by unfold fndF;rw [if_pos (by omega)]
 |g+1,0,a,f,_,h=>by
  rw [show fndF s 0 a f=([],0,0) from rfl]
  unfold fndF;rw [if_pos (by omega)]
 |g+1,g'+1,a,f,h,h'=>by
  unfold fndF
  by_cases h1:s.size≤a
  ·rw [if_pos h1,if_pos h1]
  ·rw [if_neg h1,if_neg h1,fndF_fuel s g g' (a+1) (f+1) (by omega) (by omega),fndF_fuel s g g' (a+1) f (by omega) (by omega)]
   by_cases h2:tkBgn s a=0
   ·rw [if_pos h2,if_pos h2]
   ·by_cases h3:(tkEnd s a (tkBgn s a)).2≠0
    ·rw [if_pos h3,if_pos h3]
    ·have h4:=tkEnd_ok s a (tkBgn s a) (tkEnd s a (tkBgn s a)).1 (by omega) rfl h2 (Prod.ext rfl (by simpa using h3))
     rw [fndF_fuel s g g' _ 0 (by omega) (by omega)]
theorem fnd_end (s:ByteArray) (a f:Nat) (h:s.size≤a):fnd s a f=([],0,0):=by
 unfold fnd;rw [show s.size-a=0 by omega];rfl
theorem fnd_step (s:ByteArray) (a f:Nat) (h:a<s.size):fnd s a f =
  if by8 s a=10 then fnd s (a+1) (f+1)
  else if tkBl (by8 s a)=true then fnd s (a+1) f
  else if tkBgn s a=0 then ([],100,a)
  else if (tkEnd s a (tkBgn s a)).2≠0 then ([],(tkEnd s a (tkBgn s a)).2,(tkEnd s a (tkBgn s a)).1)
  else (tkTok s (tkBgn s a) a (tkEnd s a (tkBgn s a)).1 f :: (fnd s (tkEnd s a (tkBgn s a)).1 0).1,(fnd s (tkEnd s a (tkBgn s a)).1 0).2):=by
 have h0:fnd s a f=fndF s ((s.size-(a+1))+1) a f:=by unfold fnd;rw [show s.size-a=(s.size-(a+1))+1 by omega]
 rw [h0]
 unfold fndF
 rw [if_neg (by omega)]
 by_cases h2:tkBgn s a=0
 ·simp only [if_pos h2];rfl
 ·by_cases h3:(tkEnd s a (tkBgn s a)).2≠0
  ·simp only [if_pos h3];rfl
  ·have h4:=tkEnd_ok s a (tkBgn s a) (tkEnd s a (tkBgn s a)).1 h rfl h2 (Prod.ext rfl (by simpa using h3))
   rw [fndF_fuel s (s.size-(a+1)) (s.size-(tkEnd s a (tkBgn s a)).1) (tkEnd s a (tkBgn s a)).1 0 (by omega) (by omega)]
   rfl
def scn (s:ByteArray):List Tk × Nat × Nat:=fnd s 0 0
theorem tkTrim_le (s:ByteArray):∀p,tkTrim s p≤p
 |0=>Nat.le_refl _
 |p+1=>by
  unfold tkTrim
  split
  ·have:=tkTrim_le s p;omega
  ·exact Nat.le_refl _
theorem tkTrim_ge (s:ByteArray) (a:Nat) (h:tkBl (by8 s a)=false):∀p,a<p→a<tkTrim s p
 |0,h1=>by omega
 |p+1,h1=>by
  unfold tkTrim
  by_cases e:tkBl (by8 s p)=true
  ·rw [if_pos e]
   refine tkTrim_ge s a h p ?_
   rcases Nat.lt_or_ge a p with h2|h2
   ·exact h2
   ·rw [show a=p by omega,e] at h;cases h
  ·rw [if_neg e];exact h1
theorem tkTrim_gap (s:ByteArray):∀p i,tkTrim s p≤i→i<p→tkBl (by8 s i)=true
 |0,_,_,h=>by omega
 |p+1,i,h,h1=>by
  unfold tkTrim at h
  by_cases e:tkBl (by8 s p)=true
  ·rw [if_pos e] at h
   by_cases e2:i=p
   ·rw [e2];exact e
   ·exact tkTrim_gap s p i h (by omega)
  ·rw [if_neg e] at h;omega
theorem chr_asc (s:ByteArray) (i:Nat) (h:by8 s i<128):dw s i=1∧dp s i=by8 s i∧gd s i=true:=by
 have e:Utf8.decode s i=(by8 s i,1):=by rw [decode_eq];unfold D;rw [if_pos h]
 unfold gd dw dp
 rw [e]
 refine ⟨rfl,rfl,?_⟩
 show gdb (by8 s i:Int) 1=true
 have hn:((by8 s i:Int) != 65533)=true:=by simp;omega
 unfold gdb;rw [hn];rfl
theorem dp_asc (s:ByteArray) (i:Nat) (h:dp s i<128):by8 s i=dp s i:=by
 by_cases h8:by8 s i<128
 ·exact (chr_asc s i h8).2.1.symm
 ·exfalso
  unfold dp at h
  rw [decode_eq] at h
  unfold D at h
  rw [if_neg h8] at h
  repeat' split at h
  all_goals first|(rename_i h2;simp only [ge_iff_le,Bool.and_eq_true,decide_eq_true_eq] at h2;omega)|(simp only [] at h;omega)|(exact absurd h (by decide))
theorem dp_eq (s:ByteArray) (i c:Nat) (hc:c<128):dp s i=c↔by8 s i=c:=by
 constructor
 ·intro h;rw [dp_asc s i (by omega),h]
 ·intro h;rw [(chr_asc s i (by omega)).2.1,h]
theorem bd_asc (s:ByteArray) (j:Nat) (hj:j<s.size) (h:by8 s j<128):bd s j∧bd s (j+1):=by
 obtain ⟨m,h1,h2,h3,h4,h5⟩:=st_cover s j (P s).length (by rw [st_end s _ (Nat.le_refl _)];exact hj)
 have e:st s m=j:=by
  apply Classical.byContradiction;intro hne
  have:=(dec_inner s (st s m) (j-st s m) (by omega) (by omega)).2
  rw [show st s m+(j-st s m)=j by omega] at this
  omega
 refine ⟨⟨m,by omega,e⟩,⟨m+1,by omega,?_⟩⟩
 rw [st_succ s m h2,e,(chr_asc s j h).1]
theorem bd_next {s:ByteArray}{a:Nat}(h:bd s a) (ha:a<s.size):bd s (a+dw s a):=by
 obtain ⟨k,hk,rfl⟩:=h
 have hk2:=(st_lt s k).1 ha
 exact ⟨k+1,by omega,st_succ s k hk2⟩
theorem bd_head {s:ByteArray}{a b:Nat}(ha:bd s a) (hb:bd s b) (hab:a≤b):bd (s.extract 0 b) a:=by
 obtain ⟨i,hi,rfl⟩:=ha
 obtain ⟨j,hj,rfl⟩:=hb
 have hij:i≤j:=by
  apply Classical.byContradiction;intro h
  have:=st_strict s j i (by omega) hi;omega
 have e:=st_hd s j hj i hij
 have e2:=P_hd s j hj
 unfold hd at e e2
 exact ⟨i,by omega,e⟩
def pL (s:ByteArray) (a:Nat):Int:=aLine 1 (s.extract 0 a)
def pC (s:ByteArray) (a:Nat):Int:=aCol 1 (s.extract 0 a)
theorem p_zero (s:ByteArray):pL s 0=1∧pC s 0=1:=by
 have e:s.extract 0 0=ByteArray.empty:=by
  have hz:(s.extract 0 0).size=0:=by rw [size_ext s 0 0 (Nat.zero_le _)]
  exact by8_ext _ _ (by rw [hz];rfl) (fun j hj=>by omega)
 unfold pL pC
 rw [e]
 have z:ByteArray.empty.size=0:=rfl
 have hp:(P (ByteArray.empty.extract (lf ByteArray.empty 0) 0)).length=0:=by
  have h1:=P_len (ByteArray.empty.extract (lf ByteArray.empty 0) 0)
  have h2:=size_ext ByteArray.empty (lf ByteArray.empty 0) 0 (Nat.zero_le _)
  omega
 constructor
 ·unfold aLine
  rw [z]
  show wrap64 (1+((0:Nat):Int))=1
  unfold wrap64;omega
 ·unfold aCol
  rw [z,hp]
  show wrap64 (1+((0:Nat):Int))=1
  unfold wrap64;omega
theorem adv_join {s:ByteArray}{a b:Nat}(ha:bd s a) (hb:bd s b) (hab:a≤b) (hs:s.size≤2147483647) :
  aAt a (s.extract a b)=b∧aLine (pL s a) (s.extract a b)=pL s b∧aCol (pC s a) (s.extract a b)=pC s b:=by
 have hb2:=bd_le hb
 have z:(s.extract 0 b).size=b:=by rw [size_ext s 0 b hb2];rfl
 have e1:(s.extract 0 b).extract 0 a=s.extract 0 a:=by
  rw [ext_ext s 0 b 0 a hb2 (by omega) (Nat.zero_le _),Nat.zero_add,Nat.zero_add]
 have e2:(s.extract 0 b).extract a b=s.extract a b:=by
  rw [ext_ext s 0 b a b hb2 (by omega) hab,Nat.zero_add,Nat.zero_add]
 refine ⟨?_,?_,?_⟩
 ·unfold aAt;rw [size_ext s a b hb2];unfold wrap64;omega
 ·have h:=line_join (s.extract 0 b) a (by omega) 1
  rw [z,e1,e2] at h
  exact h
 ·have h:=col_join (s.extract 0 b) a (bd_head ha hb hab) 1
  rw [z,e1,e2] at h
  exact h
theorem p_rng (s:ByteArray) (a:Nat):-9223372036854775808≤pL s a∧pL s a≤9223372036854775807:=by
 unfold pL aLine wrap64;omega
theorem sign_asc:∀x∈signL,(x.size=1∨x.size=2)∧by8 x (x.size-1)<128:=by decide
theorem end_bd {s:ByteArray}{a k p e:Nat}(hs:bd s a) (ha:a<s.size) (hk:tkBgn s a=k) (h0:k≠0) (h:tkEnd s a k=(p,e)):bd s p:=by
 have hQ:∀q o,q<128→by8 s a=q→run (gQuo s a q o) s.size (a+1) 0=(p,e)→bd s p:=by
  intro q o hq hq2 h
  have:=run_ind (gQuo_on s a q o) (fun b _=>bd s b) (fun r=>bd s r.1) (by
   intro b m x e hb hI hx
   unfold gQuo at hx
   split at hx
   ·cases hx;exact hs
   ·rename_i h1
    split at hx
    ·cases hx;exact hs
    ·split at hx
     ·rename_i h3
      cases hx
      exact (bd_asc s b (by omega) (by omega)).2
     ·split at hx
      ·cases hx;exact hI
      ·cases hx) (by
   intro b m n hb hI hx
   unfold gQuo at hx
   split at hx
   ·cases hx
   ·rename_i h1
    split at hx
    ·cases hx
    ·split at hx
     ·cases hx
     ·split at hx
      ·cases hx
      ·cases hx;exact bd_next hI (by omega)) _ (a+1) 0 (Nat.le_refl _) (by omega) (bd_asc s a ha (by omega)).2
  rw [h] at this
  exact this
 have hC:∀o,run (gCom s a o) s.size a 0=(p,e)→bd s p:=by
  intro o h
  have:=run_ind (gCom_on s a o) (fun _ _=>True) (fun r=>bd s r.1) (by
   intro b m x e hb hI hx
   unfold gCom at hx
   split at hx
   ·split at hx
    ·cases hx;exact hs
    ·cases hx
     rw [show b=s.size by omega];exact bd_size s
   ·split at hx
    ·rename_i h3
     cases hx
     exact (bd_ten s b h3.2).1
    ·split at hx
     ·cases hx;exact hs
     ·split at hx
      ·rename_i h3
       cases hx
       exact (bd_asc s b (by omega) (by omega)).2
      ·cases hx) (by intros;trivial) _ a 0 (Nat.le_refl _) (by omega) trivial
  rw [h] at this
  exact this
 have hR:∀k,run (gRow s a k) s.size a 0=(p,e)→bd s p:=by
  intro k h
  have:=run_ind (gRow_on s a k) (fun b _=>bd s b) (fun r=>bd s r.1) (by
   intro b m x e hb hI hx
   unfold gRow at hx
   split at hx
   ·cases hx;exact hI
   ·split at hx
    ·cases hx;exact hI
    ·split at hx
     ·cases hx;exact hs
     ·cases hx) (by
   intro b m n hb hI hx
   unfold gRow at hx
   split at hx
   ·cases hx
   ·split at hx
    ·cases hx
    ·split at hx
     ·cases hx
     ·cases hx;exact bd_next hI (by omega)) _ a 0 (Nat.le_refl _) (by omega) hs
  rw [h] at this
  exact this
 unfold tkEnd at h
 by_cases k4:k=4
 ·rw [if_pos k4] at h
  refine hQ 34 _ (by decide) ?_ h
  rw [k4] at hk
  unfold tkBgn at hk
  repeat' split at hk
  all_goals first|assumption|(cases hk;done)
 ·rw [if_neg k4] at h
  by_cases k5:k=5
  ·rw [if_pos k5] at h
   refine hQ 39 _ (by decide) ?_ h
   rw [k5] at hk
   unfold tkBgn at hk
   repeat' split at hk
   all_goals first|assumption|(cases hk;done)
  ·rw [if_neg k5] at h
   by_cases k7:k=7
   ·rw [if_pos k7] at h;exact hC _ h
   ·rw [if_neg k7] at h
    by_cases k8:k=8
    ·rw [if_pos k8] at h;exact hC _ h
    ·rw [if_neg k8] at h
     by_cases k6:k=6
     ·rw [if_pos k6] at h
      cases h
      have hsz:(sg s a).size≠0:=by
       rw [k6] at hk
       unfold tkBgn at hk
       repeat' split at hk
       all_goals first|assumption|(cases hk;done)
      obtain ⟨g1,g2,g3⟩:=sg_in s a hsz
      obtain ⟨g4,g5⟩:=sign_asc _ g3
      have e1:by8 s (a+((sg s a).size-1))<128:=by
       rw [←g2] at g5
       rw [size_ext s _ _ g1,by8_ext' s a _ _ (by omega)] at g5
       rw [show a+((sg s a).size-1)=a+(a+(sg s a).size-a-1) by omega]
       exact g5
      have:=(bd_asc s _ (by omega) e1).2
      rw [show a+((sg s a).size-1)+1=a+(sg s a).size by omega] at this
      exact this
     ·rw [if_neg k6] at h;exact hR _ h
theorem bl_asc {c:Nat}(h:tkBl c=true):c<128:=by
 unfold tkBl at h
 simp at h
 omega
theorem end_err {s:ByteArray}{a k p e:Nat}(ha:a<s.size) (h:tkEnd s a k=(p,e)) (he:e≠0):(p=a∧(e=101∨e=103))∨(e=102∧a<p∧p≤s.size):=by
 have hQ:∀q o,run (gQuo s a q o) s.size (a+1) 0=(p,e)→(p=a∧(e=101∨e=103))∨(e=102∧a<p∧p≤s.size):=by
  intro q o h
  have:=run_ind (gQuo_on s a q o) (fun b _=>a<b) (fun r=>r.2≠0→(r.1=a∧(r.2=101∨r.2=103))∨(r.2=102∧a<r.1∧r.1≤s.size)) (by
   intro b m x e hb hI hx he
   unfold gQuo at hx
   split at hx
   ·cases hx;exact .inl ⟨rfl,.inl rfl⟩
   ·split at hx
    ·cases hx;exact .inl ⟨rfl,.inr rfl⟩
    ·split at hx
     ·cases hx;exact absurd rfl he
     ·split at hx
      ·cases hx;exact .inr ⟨rfl,hI,hb⟩
      ·cases hx) (by intro b m n hb hI hx;show a<b+n;omega) _ (a+1) 0 (Nat.le_refl _) (by omega) (by show a<a+1;omega)
  rw [h] at this
  exact this he
 have hC:∀o,run (gCom s a o) s.size a 0=(p,e)→p=a∧(e=101∨e=103):=by
  intro o h
  have:=run_ind (gCom_on s a o) (fun _ _=>True) (fun r=>r.2≠0→r.1=a∧(r.2=101∨r.2=103)) (by
   intro b m x e hb hI hx he
   unfold gCom at hx
   split at hx
   ·split at hx
    ·cases hx;exact ⟨rfl,.inl rfl⟩
    ·cases hx;exact absurd rfl he
   ·split at hx
    ·cases hx;exact absurd rfl he
    ·split at hx
     ·cases hx;exact ⟨rfl,.inr rfl⟩
     ·split at hx
      ·cases hx;exact absurd rfl he
      ·cases hx) (by intros;trivial) _ a 0 (Nat.le_refl _) (by omega) trivial
  rw [h] at this
  exact this he
 have hR:∀k,run (gRow s a k) s.size a 0=(p,e)→p=a∧(e=101∨e=103):=by
  intro k h
  have:=run_ind (gRow_on s a k) (fun _ _=>True) (fun r=>r.2≠0→r.1=a∧(r.2=101∨r.2=103)) (by
   intro b m x e hb hI hx he
   unfold gRow at hx
   split at hx
   ·cases hx;exact absurd rfl he
   ·split at hx
    ·cases hx;exact absurd rfl he
    ·split at hx
     ·cases hx;exact ⟨rfl,.inr rfl⟩
     ·cases hx) (by intros;trivial) _ a 0 (Nat.le_refl _) (by omega) trivial
  rw [h] at this
  exact this he
 unfold tkEnd at h
 split at h
 ·exact hQ _ _ h
 ·split at h
  ·exact hQ _ _ h
  ·split at h
   ·exact .inl (hC _ h)
   ·split at h
    ·exact .inl (hC _ h)
    ·split at h
     ·cases h;exact absurd rfl he
     ·exact .inl (hR _ h)
def tv (s:ByteArray) (t:Tk):Tv:=⟨t.k,s.extract t.a t.e,t.a,pL s t.a,pC s t.a,t.f⟩
def AV (w:World) (s:ByteArray) (e:Ending) (w':World):Prop:=
 (∃v,e=.returned (.tuple #[v,.int .i64 (scn s).2.1,.agg #[.int .i64 (if (scn s).2.1=0 then 0 else (scn s).2.2),.int .i64 (if (scn s).2.1=0 then 0 else pL s (scn s).2.2),.int .i64 (if (scn s).2.1=0 then 0 else pC s (scn s).2.2)]])∧Rt w.heap.size w' v ((scn s).1.map (tv s)))∧Below w.heap.size w w'
theorem ixb:∀l:List UInt8,(Lib.indexByte l 10=-1∧∀k:Nat,k<l.length→l[k]?≠some (10:UInt8))∨∃j:Nat,Lib.indexByte l 10=(j:Int)∧j<l.length∧l[j]?=some (10:UInt8)∧∀k,k<j→l[k]?≠some (10:UInt8)
 |[]=>.inl ⟨rfl,fun k h=>by simp at h⟩
 |b :: l=>by
  unfold Lib.indexByte
  by_cases hb:b=10
  ·exact .inr ⟨0,by simp [hb],by simp,by simp [hb],fun k h=>by omega⟩
  ·have hb':(b == (10:UInt8))=false:=by simpa using hb
   rw [hb']
   rcases ixb l with ⟨h1,h2⟩|⟨j,h1,h2,h3,h4⟩
   ·left
    refine ⟨by simp [h1],fun k hk=>?_⟩
    cases k with
    |zero=>simpa using hb
    |succ k=>simp only [List.getElem?_cons_succ];exact h2 k (by simpa using hk)
   ·right
    refine ⟨j+1,?_,by simp;omega,by simpa using h3,fun k hk=>?_⟩
    ·have:¬((j:Int)=-1):=by omega
     simp [h1,this]
    ·cases k with
     |zero=>simpa using hb
     |succ k=>simp only [List.getElem?_cons_succ];exact h4 k (by omega)
theorem by8_list (s:ByteArray) (k:Nat) (h:k<s.size):by8 s k=10↔s.data.toList[k]?=some (10:UInt8):=by
 have hz:k<s.data.size:=h
 have e:s.get! k=s.data.toList[k]?.getD default:=by
  show s.data[k]! = _
  rw [Array.getElem!_eq_getD,Array.getD_eq_getD_getElem?,Array.getElem?_toList]
 unfold by8
 rw [e,Array.getElem?_toList,Array.getElem?_eq_getElem hz]
 simp
 constructor
 ·intro h;exact UInt8.toNat_inj.1 h
 ·intro h;rw [h];rfl
def nlI (r:ByteArray):Int:=if nl r 0<r.size then (nl r 0:Int) else -1
theorem index_nl (r:ByteArray):Lib.indexByte r.data.toList 10=nlI r:=by
 have hz:r.data.toList.length=r.size:=by simp
 rcases ixb r.data.toList with ⟨h1,h2⟩|⟨j,h1,h2,h3,h4⟩
 ·have e:nl r 0=r.size:=nl_eq r 0 r.size (Nat.zero_le _) (Nat.le_refl _) (fun k _ hk=>fun hc=>h2 k (by omega) ((by8_list r k hk).1 hc)) (.inl rfl)
  rw [h1];unfold nlI;rw [if_neg (by omega)]
 ·have e:nl r 0=j:=nl_eq r 0 j (Nat.zero_le _) (by omega) (fun k _ hk=>fun hc=>h4 k hk ((by8_list r k (by omega)).1 hc)) (.inr ((by8_list r j (by omega)).2 h3))
  rw [h1];unfold nlI;rw [if_pos (by omega),e]
set_option maxRecDepth 100000 in
set_option maxHeartbeats 400000 in
theorem ixbyte_any (s:ByteArray) (w:World) :
  Calls Tryz.prog 234 #[.string s,.int .u8 10] w fun e w'=>e=.returned (.int .i64 (nlI s))∧w'=w:=by
 go_enter Tryz.func234,Tryz.ntmps234
 go_wp2
 rw [run_callFunc_extern Tryz.func248 (by kernel_rfl) (by kernel_rfl) (by kernel_rfl) (e:=Extern.BytealgIndexByte.indexByte) (by kernel_rfl),Lib.run_indexByteString]
 simp only [Result.andThen]
 rw [Oper.upon_value]
 go_wp2
 go_ret
 exact ⟨by rw [←index_nl];rfl,rfl⟩
set_option maxRecDepth 100000 in
set_option maxHeartbeats 1000000 in
theorem index_any (s:ByteArray) (w:World) :
  Calls Tryz.prog 246 #[.string s,.string ⟨#[10]⟩] w fun e w'=>e=.returned (.int .i64 (nlI s))∧w'=w:=by
 go_enter Tryz.func246,Tryz.ntmps246
 go_wp2_with (go_at_call 234;refine (ixbyte_any _ _).mono ?_;rintro e w' ⟨rfl,rfl⟩)
 ·have h:([(10:UInt8)] == s.toList)=true:=by assumption
  have e:s.data.toList=[10]:=by rw [←Lib.toList_data];exact (beq_iff_eq.1 h).symm
  have e2:nlI s=0:=by rw [←index_nl,e];rfl
  go_ret
  exact ⟨by rw [e2];rfl,rfl⟩
 ·go_ret
  exact ⟨rfl,rfl⟩
def cutL (r:ByteArray):ByteArray:=r.extract 0 (nl r 0)
def cutR (r:ByteArray):ByteArray:=if nl r 0<r.size then r.extract (nl r 0+1) r.size else ⟨#[]⟩
def cutB (r:ByteArray):Bool:=decide (nl r 0<r.size)
set_option maxHeartbeats 1000000 in
theorem slcut_any (s:ByteArray) (w:World) (hs:s.size≤maxLen) :
  Calls Tryz.prog 237 #[.string s,.string ⟨#[10]⟩] w fun e w'=>e=.returned (.tuple #[.string (cutL s),.string (cutR s),.bool (cutB s)])∧Below w.heap.size w w':=by
 unfold maxLen at hs
 have hn:=nl_facts s 0 (Nat.zero_le _)
 by_cases h:nl s 0<s.size
 ·have Hi:Hid (nlI s=(nl s 0:Int)):=by show _=_;unfold nlI;rw [if_pos h]
  have HL:Hid (cutL s=s.extract 0 (nl s 0)):=rfl
  have HR:Hid (cutR s=s.extract (nl s 0+1) s.size):=by show _=_;unfold cutR;rw [if_pos h]
  have HB:Hid (cutB s=true):=by show _=_;unfold cutB;simp [h]
  obtain ⟨n,hn'⟩:∃n,nl s 0=n:=⟨_,rfl⟩
  rw [hn'] at Hi HL HR hn h
  clear hn'
  go_enter Tryz.func237,Tryz.ntmps237
  go_wp2_with (go_at_call 246;refine (index_any _ _).mono ?_;rintro e w' ⟨rfl,rfl⟩;rw [Hi.out])
  go_region
  go_wp2
  go_ret3
  exact ⟨by rw [HL.out,HR.out,HB.out];rfl,(Below.refl _ _).drew⟩
 ·have Hi:Hid (nlI s=-1):=by show _=_;unfold nlI;rw [if_neg h]
  have HL:Hid (cutL s=s):=by show _=_;unfold cutL;rw [show nl s 0=s.size by omega,extract_all]
  have HR:Hid (cutR s=⟨#[]⟩):=by show _=_;unfold cutR;rw [if_neg h]
  have HB:Hid (cutB s=false):=by show _=_;unfold cutB;simp [h]
  clear hn h
  go_enter Tryz.func237,Tryz.ntmps237
  go_wp2_with (go_at_call 246;refine (index_any _ _).mono ?_;rintro e w' ⟨rfl,rfl⟩;rw [Hi.out])
  go_ret3
  exact ⟨by rw [HL.out,HR.out,HB.out];rfl,Below.refl _ _⟩
set_option maxHeartbeats 1000000 in
theorem cut_any (s:ByteArray) (w:World) (hs:s.size≤maxLen) :
  Calls Tryz.prog 216 #[.string s,.string ⟨#[10]⟩] w fun e w'=>e=.returned (.tuple #[.string (cutL s),.string (cutR s),.bool (cutB s)])∧Below w.heap.size w w':=by
 go_enter Tryz.func216,Tryz.ntmps216
 go_wp2_with (go_at_call 237;refine (slcut_any _ _ hs).mono ?_;rintro e w' ⟨rfl,hb⟩)
 go_ret3
 exact ⟨rfl,hb⟩
set_option maxHeartbeats 1000000 in
theorem lines_any (s:ByteArray) (w:World) :
  Calls Tryz.prog 185 #[.string s] w fun e w'=>e=.returned (.func (.func 215) #[] #[.pointer (some ⟨w.heap.size,0,none⟩)])∧w'=w.alloc (.cells #[.string s] 9):=by
 have hmf:∀(fn:Fn) (first cap:Array Value) (w:World),(Instr.makeFunc fn first cap).run Tryz.prog w=.ok (.func fn first cap) w:=fun _ _ _ _=>rfl
 go_enter Tryz.func185,Tryz.ntmps185
 go_wp2
 go_ret
 exact ⟨rfl,rfl⟩
end Go.Proofs.YtpdlohfdjiaegaaGreatDoor.Lx
