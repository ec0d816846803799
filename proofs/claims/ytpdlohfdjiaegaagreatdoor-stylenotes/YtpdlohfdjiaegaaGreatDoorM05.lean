import Derived.Test.YtpdlohfdjiaegaaGreatDoorM04
set_option linter.unusedVariables false
set_option linter.unusedSimpArgs false
namespace Go.Proofs.YtpdlohfdjiaegaaGreatDoor.Lx
open Go.RowKit
structure Tk where
 k:Nat
 a:Nat
 e:Nat
 f:Nat
def tkTrim (s:ByteArray):Nat→Nat
 |0=>0
 |p+1=>if tkBl (by8 s p)=true then tkTrim s p else p+1
def tkTok (s:ByteArray) (k a p f:Nat):Tk:=⟨if k=1∧ky (s.extract a p)=true then 2 else k,a,if k=7 then tkTrim s p else p,f⟩
def fndF (s:ByteArray):Nat→Nat→Nat→List Tk × Nat × Nat
 |0,_,_=>([],0,0)
 |g+1,a,f=>
  if s.size≤a then ([],0,0)
  else if by8 s a=10 then fndF s g (a+1) (f+1)
  else if tkBl (by8 s a)=true then fndF s g (a+1) f
  else if tkBgn s a=0 then ([],100,a)
  else if (tkEnd s a (tkBgn s a)).2≠0 then ([],(tkEnd s a (tkBgn s a)).2,(tkEnd s a (tkBgn s a)).1)
  else (tkTok s (tkBgn s a) a (tkEnd s a (tkBgn s a)).1 f :: (fndF s g (tkEnd s a (tkBgn s a)).1 0).1,(fndF s g (tkEnd s a (tkBgn s a)).1 0).2)
def fnd (s:ByteArray) (a f:Nat):List Tk × Nat × Nat:=fndF s (s.size-a) a f
theorem fndF_fuel (s:ByteArray):∀(g g' a f:Nat),s.size≤a+g→s.size≤a+g'→fndF s g a f=fndF s g' a f
 |0,0,_,_,_,_=>rfl
 |0,g'+1,a,f,h,_=>by unfold fndF;rw [if_pos (by omega)]
 |g+1,0,a,f,_,h=>by
  rw [show fndF s 0 a f=([],0,0) from rfl]
  unfold fndF;rw [if_pos (by omega)]
 |g+1,g'+1,a,f,h,h'=>by
  unfold fndF
  by_cases h1:s.size≤a
  ·rw [if_pos h1,if_pos h1]
  ·rw [if_neg h1,if_neg h1,fndF_fuel s g g' (a+1) (f+1) (by omega) (by omega),fndF_fuel s g g' (a+1) f (by omega) (by omega)]
   by_cases h2:tkBgn s a=0
   ·rw [if_pos h2,if_pos h2]
   ·by_cases h3:(tkEnd s a (tkBgn s a)).2≠0
    ·rw [if_pos h3,if_pos h3]
    ·have h4:=tkEnd_ok s a (tkBgn s a) (tkEnd s a (tkBgn s a)).1 (by omega) rfl h2 (Prod.ext rfl (by simpa using h3))
     rw [fndF_fuel s g g' _ 0 (by omega) (by omega)]
theorem fnd_end (s:ByteArray) (a f:Nat) (h:s.size≤a):fnd s a f=([],0,0):=by
 unfold fnd;rw [show s.size-a=0 by omega];rfl
theorem fnd_step (s:ByteArray) (a f:Nat) (h:a<s.size):fnd s a f =
  if by8 s a=10 then fnd s (a+1) (f+1)
  else if tkBl (by8 s a)=true then fnd s (a+1) f
  else if tkBgn s a=0 then ([],100,a)
  else if (tkEnd s a (tkBgn s a)).2≠0 then ([],(tkEnd s a (tkBgn s a)).2,(tkEnd s a (tkBgn s a)).1)
  else (tkTok s (tkBgn s a) a (tkEnd s a (tkBgn s a)).1 f :: (fnd s (tkEnd s a (tkBgn s a)).1 0).1,(fnd s (tkEnd s a (tkBgn s a)).1 0).2):=by
 have h0:fnd s a f=fndF s ((s.size-(a+1))+1) a f:=by unfold fnd;rw [show s.size-a=(s.size-(a+1))+1 by omega]
 rw [h0]
 unfold fndF
 rw [if_neg (by omega)]
 by_cases h2:tkBgn s a=0
 ·simp only [if_pos h2];rfl
 ·by_cases h3:(tkEnd s a (tkBgn s a)).2≠0
  ·simp only [if_pos h3];rfl
  ·have h4:=tkEnd_ok s a (tkBgn s a) (tkEnd s a (tkBgn s a)).1 h rfl h2 (Prod.ext rfl (by simpa using h3))
   rw [fndF_fuel s (s.size-(a+1)) (s.size-(tkEnd s a (tkBgn s a)).1) (tkEnd s a (tkBgn s a)).1 0 (by omega) (by omega)]
   rfl
def scn (s:ByteArray):List Tk × Nat × Nat:=fnd s 0 0
theorem tkTrim_le (s:ByteArray):∀p,tkTrim s p≤p
 |0=>Nat.le_refl _
 |p+1=>by
  unfold tkTrim
  split
  ·have:=tkTrim_le s p;omega
  ·exact Nat.le_refl _
theorem tkTrim_ge (s:ByteArray) (a:Nat) (h:tkBl (by8 s a)=false):∀p,a<p→a<tkTrim s p
 |0,h1=>by omega
 |p+1,h1=>by
  unfold tkTrim
  by_cases e:tkBl (by8 s p)=true
  ·rw [if_pos e]
   refine tkTrim_ge s a h p ?_
   rcases Nat.lt_or_ge a p with h2|h2
   ·exact h2
   ·rw [show a=p by omega,e] at h;cases h
  ·rw [if_neg e];exact h1
theorem tkTrim_gap (s:ByteArray):∀p i,tkTrim s p≤i→i<p→tkBl (by8 s i)=true
 |0,_,_,h=>by omega
 |p+1,i,h,h1=>by
  unfold tkTrim at h
  by_cases e:tkBl (by8 s p)=true
  ·rw [if_pos e] at h
   by_cases e2:i=p
   ·rw [e2];exact e
   ·exact tkTrim_gap s p i h (by omega)
  ·rw [if_neg e] at h;omega
theorem fnd_toks (s:ByteArray):∀(d a f:Nat),s.size-a≤d→∀t∈(fnd s a f).1,a≤t.a∧t.a<t.e∧t.e≤s.size
 |d,a,f,hd,t,ht=>by
  by_cases h:a<s.size
  ·rw [fnd_step s a f h] at ht
   cases d with
   |zero=>omega
   |succ d=>
    by_cases h1:by8 s a=10
    ·rw [if_pos h1] at ht
     have:=fnd_toks s d (a+1) (f+1) (by omega) t ht
     exact ⟨by omega,this.2⟩
    ·rw [if_neg h1] at ht
     by_cases h2:tkBl (by8 s a)=true
     ·rw [if_pos h2] at ht
      have:=fnd_toks s d (a+1) f (by omega) t ht
      exact ⟨by omega,this.2⟩
     ·rw [if_neg h2] at ht
      by_cases h3:tkBgn s a=0
      ·rw [if_pos h3] at ht;cases ht
      ·rw [if_neg h3] at ht
       by_cases h4:(tkEnd s a (tkBgn s a)).2≠0
       ·rw [if_pos h4] at ht;cases ht
       ·rw [if_neg h4] at ht
        have h5:=tkEnd_ok s a (tkBgn s a) (tkEnd s a (tkBgn s a)).1 h rfl h3 (Prod.ext rfl (by simpa using h4))
        rcases List.mem_cons.1 ht with rfl|ht
        ·refine ⟨Nat.le_refl _,?_,?_⟩
         ·show a<if _ then _ else _
          split
          ·exact tkTrim_ge s a (by simpa using h2) _ h5.1
          ·exact h5.1
         ·show (if _ then _ else _)≤s.size
          split
          ·exact Nat.le_trans (tkTrim_le s _) h5.2
          ·exact h5.2
        ·have:=fnd_toks s d _ 0 (by omega) t ht
         exact ⟨by omega,this.2⟩
  ·rw [fnd_end s a f (by omega)] at ht;cases ht
theorem chr_asc (s:ByteArray) (i:Nat) (h:by8 s i<128):dw s i=1∧dp s i=by8 s i∧gd s i=true:=by
 have e:Utf8.decode s i=(by8 s i,1):=by rw [decode_eq];unfold D;rw [if_pos h]
 unfold gd dw dp
 rw [e]
 refine ⟨rfl,rfl,?_⟩
 show gdb (by8 s i:Int) 1=true
 have hn:((by8 s i:Int) != 65533)=true:=by simp;omega
 unfold gdb;rw [hn];rfl
theorem dp_asc (s:ByteArray) (i:Nat) (h:dp s i<128):by8 s i=dp s i:=by
 by_cases h8:by8 s i<128
 ·exact (chr_asc s i h8).2.1.symm
 ·exfalso
  unfold dp at h
  rw [decode_eq] at h
  unfold D at h
  rw [if_neg h8] at h
  repeat' split at h
  all_goals first|(rename_i h2;simp only [ge_iff_le,Bool.and_eq_true,decide_eq_true_eq] at h2;omega)|(simp only [] at h;omega)|(exact absurd h (by decide))
theorem dp_eq (s:ByteArray) (i c:Nat) (hc:c<128):dp s i=c↔by8 s i=c:=by
 constructor
 ·intro h;rw [dp_asc s i (by omega),h]
 ·intro h;rw [(chr_asc s i (by omega)).2.1,h]
theorem bd_asc (s:ByteArray) (j:Nat) (hj:j<s.size) (h:by8 s j<128):bd s j∧bd s (j+1):=by
 obtain ⟨m,h1,h2,h3,h4,h5⟩:=st_cover s j (P s).length (by rw [st_end s _ (Nat.le_refl _)];exact hj)
 have e:st s m=j:=by
  apply Classical.byContradiction;intro hne
  have:=(dec_inner s (st s m) (j-st s m) (by omega) (by omega)).2
  rw [show st s m+(j-st s m)=j by omega] at this
  omega
 refine ⟨⟨m,by omega,e⟩,⟨m+1,by omega,?_⟩⟩
 rw [st_succ s m h2,e,(chr_asc s j h).1]
theorem bd_next {s:ByteArray}{a:Nat}(h:bd s a) (ha:a<s.size):bd s (a+dw s a):=by
 obtain ⟨k,hk,rfl⟩:=h
 have hk2:=(st_lt s k).1 ha
 exact ⟨k+1,by omega,st_succ s k hk2⟩
theorem bd_head {s:ByteArray}{a b:Nat}(ha:bd s a) (hb:bd s b) (hab:a≤b):bd (s.extract 0 b) a:=by
 obtain ⟨i,hi,rfl⟩:=ha
 obtain ⟨j,hj,rfl⟩:=hb
 have hij:i≤j:=by
  apply Classical.byContradiction;intro h
  have:=st_strict s j i (by omega) hi;omega
 have e:=st_hd s j hj i hij
 have e2:=P_hd s j hj
 unfold hd at e e2
 exact ⟨i,by omega,e⟩
def pL (s:ByteArray) (a:Nat):Int:=aLine 1 (s.extract 0 a)
def pC (s:ByteArray) (a:Nat):Int:=aCol 1 (s.extract 0 a)
theorem p_zero (s:ByteArray):pL s 0=1∧pC s 0=1:=by
 have e:s.extract 0 0=ByteArray.empty:=by
  have hz:(s.extract 0 0).size=0:=by rw [size_ext s 0 0 (Nat.zero_le _)]
  exact by8_ext _ _ (by rw [hz];rfl) (fun j hj=>by omega)
 unfold pL pC
 rw [e]
 have z:ByteArray.empty.size=0:=rfl
 have hp:(P (ByteArray.empty.extract (lf ByteArray.empty 0) 0)).length=0:=by
  have h1:=P_len (ByteArray.empty.extract (lf ByteArray.empty 0) 0)
  have h2:=size_ext ByteArray.empty (lf ByteArray.empty 0) 0 (Nat.zero_le _)
  omega
 constructor
 ·unfold aLine
  rw [z]
  show wrap64 (1+((0:Nat):Int))=1
  unfold wrap64;omega
 ·unfold aCol
  rw [z,hp]
  show wrap64 (1+((0:Nat):Int))=1
  unfold wrap64;omega
theorem adv_join {s:ByteArray}{a b:Nat}(ha:bd s a) (hb:bd s b) (hab:a≤b) (hs:s.size≤2147483647) :
  aAt a (s.extract a b)=b∧aLine (pL s a) (s.extract a b)=pL s b∧aCol (pC s a) (s.extract a b)=pC s b:=by
 have hb2:=bd_le hb
 have z:(s.extract 0 b).size=b:=by rw [size_ext s 0 b hb2];rfl
 have e1:(s.extract 0 b).extract 0 a=s.extract 0 a:=by
  rw [ext_ext s 0 b 0 a hb2 (by omega) (Nat.zero_le _),Nat.zero_add,Nat.zero_add]
 have e2:(s.extract 0 b).extract a b=s.extract a b:=by
  rw [ext_ext s 0 b a b hb2 (by omega) hab,Nat.zero_add,Nat.zero_add]
 refine ⟨?_,?_,?_⟩
 ·unfold aAt;rw [size_ext s a b hb2];unfold wrap64;omega
 ·have h:=line_join (s.extract 0 b) a (by omega) 1
  rw [z,e1,e2] at h
  exact h
 ·have h:=col_join (s.extract 0 b) a (bd_head ha hb hab) 1
  rw [z,e1,e2] at h
  exact h
theorem p_rng (s:ByteArray) (a:Nat):-9223372036854775808≤pL s a∧pL s a≤9223372036854775807:=by
 unfold pL aLine wrap64;omega
theorem sign_asc:∀x∈signL,(x.size=1∨x.size=2)∧by8 x (x.size-1)<128:=by decide
theorem end_bd {s:ByteArray}{a k p e:Nat}(hs:bd s a) (ha:a<s.size) (hk:tkBgn s a=k) (h0:k≠0) (h:tkEnd s a k=(p,e)):bd s p:=by
 have hQ:∀q o,q<128→by8 s a=q→run (gQuo s a q o) s.size (a+1) 0=(p,e)→bd s p:=by
  intro q o hq hq2 h
  have:=run_ind (gQuo_on s a q o) (fun b _=>bd s b) (fun r=>bd s r.1) (by
   intro b m x e hb hI hx
   unfold gQuo at hx
   split at hx
   ·cases hx;exact hs
   ·rename_i h1
    split at hx
    ·cases hx;exact hs
    ·split at hx
     ·rename_i h3
      cases hx
      exact (bd_asc s b (by omega) (by omega)).2
     ·split at hx
      ·cases hx;exact hI
      ·cases hx) (by
   intro b m n hb hI hx
   unfold gQuo at hx
   split at hx
   ·cases hx
   ·rename_i h1
    split at hx
    ·cases hx
    ·split at hx
     ·cases hx
     ·split at hx
      ·cases hx
      ·cases hx;exact bd_next hI (by omega)) _ (a+1) 0 (Nat.le_refl _) (by omega) (bd_asc s a ha (by omega)).2
  rw [h] at this
  exact this
 have hC:∀o,run (gCom s a o) s.size a 0=(p,e)→bd s p:=by
  intro o h
  have:=run_ind (gCom_on s a o) (fun _ _=>True) (fun r=>bd s r.1) (by
   intro b m x e hb hI hx
   unfold gCom at hx
   split at hx
   ·split at hx
    ·cases hx;exact hs
    ·cases hx
     rw [show b=s.size by omega];exact bd_size s
   ·split at hx
    ·rename_i h3
     cases hx
     exact (bd_ten s b h3.2).1
    ·split at hx
     ·cases hx;exact hs
     ·split at hx
      ·rename_i h3
       cases hx
       exact (bd_asc s b (by omega) (by omega)).2
      ·cases hx) (by intros;trivial) _ a 0 (Nat.le_refl _) (by omega) trivial
  rw [h] at this
  exact this
 have hR:∀k,run (gRow s a k) s.size a 0=(p,e)→bd s p:=by
  intro k h
  have:=run_ind (gRow_on s a k) (fun b _=>bd s b) (fun r=>bd s r.1) (by
   intro b m x e hb hI hx
   unfold gRow at hx
   split at hx
   ·cases hx;exact hI
   ·split at hx
    ·cases hx;exact hI
    ·split at hx
     ·cases hx;exact hs
     ·cases hx) (by
   intro b m n hb hI hx
   unfold gRow at hx
   split at hx
   ·cases hx
   ·split at hx
    ·cases hx
    ·split at hx
     ·cases hx
     ·cases hx;exact bd_next hI (by omega)) _ a 0 (Nat.le_refl _) (by omega) hs
  rw [h] at this
  exact this
 unfold tkEnd at h
 by_cases k4:k=4
 ·rw [if_pos k4] at h
  refine hQ 34 _ (by decide) ?_ h
  rw [k4] at hk
  unfold tkBgn at hk
  repeat' split at hk
  all_goals first|assumption|(cases hk;done)
 ·rw [if_neg k4] at h
  by_cases k5:k=5
  ·rw [if_pos k5] at h
   refine hQ 39 _ (by decide) ?_ h
   rw [k5] at hk
   unfold tkBgn at hk
   repeat' split at hk
   all_goals first|assumption|(cases hk;done)
  ·rw [if_neg k5] at h
   by_cases k7:k=7
   ·rw [if_pos k7] at h;exact hC _ h
   ·rw [if_neg k7] at h
    by_cases k8:k=8
    ·rw [if_pos k8] at h;exact hC _ h
    ·rw [if_neg k8] at h
     by_cases k6:k=6
     ·rw [if_pos k6] at h
      cases h
      have hsz:(sg s a).size≠0:=by
       rw [k6] at hk
       unfold tkBgn at hk
       repeat' split at hk
       all_goals first|assumption|(cases hk;done)
      obtain ⟨g1,g2,g3⟩:=sg_in s a hsz
      obtain ⟨g4,g5⟩:=sign_asc _ g3
      have e1:by8 s (a+((sg s a).size-1))<128:=by
       rw [←g2] at g5
       rw [size_ext s _ _ g1,by8_ext' s a _ _ (by omega)] at g5
       rw [show a+((sg s a).size-1)=a+(a+(sg s a).size-a-1) by omega]
       exact g5
      have:=(bd_asc s _ (by omega) e1).2
      rw [show a+((sg s a).size-1)+1=a+(sg s a).size by omega] at this
      exact this
     ·rw [if_neg k6] at h;exact hR _ h
theorem bl_asc {c:Nat}(h:tkBl c=true):c<128:=by
 unfold tkBl at h
 simp at h
 omega
theorem end_err {s:ByteArray}{a k p e:Nat}(ha:a<s.size) (h:tkEnd s a k=(p,e)) (he:e≠0):(p=a∧(e=101∨e=103))∨(e=102∧a<p∧p≤s.size):=by
 have hQ:∀q o,run (gQuo s a q o) s.size (a+1) 0=(p,e)→(p=a∧(e=101∨e=103))∨(e=102∧a<p∧p≤s.size):=by
  intro q o h
  have:=run_ind (gQuo_on s a q o) (fun b _=>a<b) (fun r=>r.2≠0→(r.1=a∧(r.2=101∨r.2=103))∨(r.2=102∧a<r.1∧r.1≤s.size)) (by
   intro b m x e hb hI hx he
   unfold gQuo at hx
   split at hx
   ·cases hx;exact .inl ⟨rfl,.inl rfl⟩
   ·split at hx
    ·cases hx;exact .inl ⟨rfl,.inr rfl⟩
    ·split at hx
     ·cases hx;exact absurd rfl he
     ·split at hx
      ·cases hx;exact .inr ⟨rfl,hI,hb⟩
      ·cases hx) (by intro b m n hb hI hx;show a<b+n;omega) _ (a+1) 0 (Nat.le_refl _) (by omega) (by show a<a+1;omega)
  rw [h] at this
  exact this he
 have hC:∀o,run (gCom s a o) s.size a 0=(p,e)→p=a∧(e=101∨e=103):=by
  intro o h
  have:=run_ind (gCom_on s a o) (fun _ _=>True) (fun r=>r.2≠0→r.1=a∧(r.2=101∨r.2=103)) (by
   intro b m x e hb hI hx he
   unfold gCom at hx
   split at hx
   ·split at hx
    ·cases hx;exact ⟨rfl,.inl rfl⟩
    ·cases hx;exact absurd rfl he
   ·split at hx
    ·cases hx;exact absurd rfl he
    ·split at hx
     ·cases hx;exact ⟨rfl,.inr rfl⟩
     ·split at hx
      ·cases hx;exact absurd rfl he
      ·cases hx) (by intros;trivial) _ a 0 (Nat.le_refl _) (by omega) trivial
  rw [h] at this
  exact this he
 have hR:∀k,run (gRow s a k) s.size a 0=(p,e)→p=a∧(e=101∨e=103):=by
  intro k h
  have:=run_ind (gRow_on s a k) (fun _ _=>True) (fun r=>r.2≠0→r.1=a∧(r.2=101∨r.2=103)) (by
   intro b m x e hb hI hx he
   unfold gRow at hx
   split at hx
   ·cases hx;exact absurd rfl he
   ·split at hx
    ·cases hx;exact absurd rfl he
    ·split at hx
     ·cases hx;exact ⟨rfl,.inr rfl⟩
     ·cases hx) (by intros;trivial) _ a 0 (Nat.le_refl _) (by omega) trivial
  rw [h] at this
  exact this he
 unfold tkEnd at h
 split at h
 ·exact hQ _ _ h
 ·split at h
  ·exact hQ _ _ h
  ·split at h
   ·exact .inl (hC _ h)
   ·split at h
    ·exact .inl (hC _ h)
    ·split at h
     ·cases h;exact absurd rfl he
     ·exact .inl (hR _ h)
theorem dec_mid (s:ByteArray) (a p i:Nat) (ha:a≤p) (hp:p≤s.size) (hi:a+i<p) (hd:a+i+dw s (a+i)≤p):Utf8.decode (s.extract a p) i=Utf8.decode s (a+i):=by
 have z:(s.extract a s.size).size=s.size-a:=size_ext s a _ (Nat.le_refl _)
 have t:=decode_tail s a i (by omega)
 have e:s.extract a p=(s.extract a s.size).extract 0 (p-a):=by
  rw [ext_ext s a s.size 0 (p-a) (Nat.le_refl _) (by omega) (Nat.zero_le _),Nat.add_zero,show a+(p-a)=p by omega]
 have hw:dw (s.extract a s.size) i=dw s (a+i):=by unfold dw;rw [t]
 rw [e,dec_head (s.extract a s.size) (p-a) i (by omega) (by omega) (by rw [hw];omega),t]
theorem D_cut1 (b0:Nat) {c1 c2 c3 c1' c2' c3':Option Nat}(h:ct c1=false) (h':ct c1'=false):D b0 c1 c2 c3=D b0 c1' c2' c3':=by unfold D;simp [h,h']
theorem D_cut2 (b0:Nat) {c1 c2 c3 c2' c3':Option Nat}(h:ct c2=false) (h':ct c2'=false):D b0 c1 c2 c3=D b0 c1 c2' c3':=by unfold D;simp [h,h']
theorem D_cut3 (b0:Nat) {c1 c2 c3 c3':Option Nat}(h:ct c3=false) (h':ct c3'=false):D b0 c1 c2 c3=D b0 c1 c2 c3':=by unfold D;simp [h,h']
theorem dec_first (a c:ByteArray) (h:ct (ob c 0)=false) (i:Nat) (hi:i<a.size):Utf8.decode (a++c) i=Utf8.decode a i:=by
 have hin:∀j,j<a.size→ob (a++c) j=ob a j:=fun j hj=>by rw [ob_app,if_pos hj]
 have hat:ob (a++c) a.size=ob c 0:=by rw [ob_app,if_neg (by omega),Nat.sub_self]
 have hno:ct (ob a a.size)=false:=by unfold ob;rw [if_neg (by omega)];rfl
 rw [decode_eq,decode_eq,by8_app,if_pos hi]
 by_cases h1:i+1=a.size
 ·exact D_cut1 _ (by rw [h1,hat];exact h) (by rw [h1];exact hno)
 ·rw [hin (i+1) (by omega)]
  by_cases h2:i+2=a.size
  ·exact D_cut2 _ (by rw [h2,hat];exact h) (by rw [h2];exact hno)
  ·rw [hin (i+2) (by omega)]
   by_cases h3:i+3=a.size
   ·exact D_cut3 _ (by rw [h3,hat];exact h) (by rw [h3];exact hno)
   ·rw [hin (i+3) (by omega)]
theorem gd_second (a c:ByteArray) (i:Nat):gd (a++c) (a.size+i)=gd c i∧dp (a++c) (a.size+i)=dp c i∧dw (a++c) (a.size+i)=dw c i:=by
 unfold gd dp dw
 rw [dec_second a c i]
 exact ⟨rfl,rfl,rfl⟩
theorem pre_second (a c t:ByteArray) (i:Nat):pre (a++c) (a.size+i) t=pre c i t:=by
 have hz:=size_app a c
 by_cases h:i+t.size≤c.size
 ·rw [pre_in (by omega),pre_in h]
  have:(a++c).extract (a.size+i) (a.size+i+t.size)=c.extract i (i+t.size):=by
   refine by8_ext _ _ (by rw [size_ext _ _ _ (by omega),size_ext _ _ _ h];omega) (fun j hj=>?_)
   rw [size_ext _ _ _ (by omega)] at hj
   rw [by8_ext' _ _ _ _ (by omega),by8_ext' _ _ _ _ (by omega),by8_app,if_neg (by omega)]
   congr 1;omega
  rw [this]
 ·rw [pre_out (by omega),pre_out h]
theorem sg_second (a c:ByteArray) (i:Nat):sg (a++c) (a.size+i)=sg c i:=by
 unfold sg
 rw [show pre (a++c) (a.size+i)=pre c i from funext (pre_second a c · i)]
theorem by8_second (a c:ByteArray) (i:Nat):by8 (a++c) (a.size+i)=by8 c i:=by
 rw [by8_app,if_neg (by omega)];congr 1;omega
theorem bgn_second (a c:ByteArray) (i:Nat):tkBgn (a++c) (a.size+i)=tkBgn c i:=by
 have hz:=size_app a c
 unfold tkBgn
 rw [(gd_second a c i).1,(gd_second a c i).2.1,by8_second,sg_second,show a.size+i+1=a.size+(i+1) by omega,by8_second]
 have:(by8 c i=47∧a.size+(i+1)<(a++c).size∧by8 c (i+1)=47)↔(by8 c i=47∧i+1<c.size∧by8 c (i+1)=47):=by rw [hz];constructor <;> rintro ⟨h1,h2,h3⟩ <;> exact ⟨h1,by omega,h3⟩
 simp only [this]
def Rd.up (n:Nat):Rd→Rd
 |.out p e=>.out (n+p) e
 |.on k=>.on k
theorem run_up {g g':Nat→Nat→Rd}{z n:Nat}(hg:GoesOn g z) (hg':GoesOn g' (n+z)) (h:∀b k,b≤z→g' (n+b) k=(g b k).up n) :
  ∀(d a m:Nat),z-a≤d→a≤z→run g' (n+z) (n+a) m=(n+(run g z a m).1,(run g z a m).2)
 |d,a,m,hd,ha=>by
  have e0:=h a m ha
  cases e:g a m with
  |out p q=>
   rw [e] at e0
   rw [run_out ha e,run_out (by omega) e0]
  |on k=>
   rw [e] at e0
   obtain ⟨h3,h4⟩:=hg a m k e
   rw [run_on hg ha e,run_on hg' (by omega) e0,Nat.add_assoc]
   cases d with
   |zero=>omega
   |succ d=>exact run_up hg hg' h d (a+k) (m+1) (by omega) h4
theorem end_second (a c:ByteArray) (i k:Nat) (hi:i<c.size):tkEnd (a++c) (a.size+i) k=(a.size+(tkEnd c i k).1,(tkEnd c i k).2):=by
 have hz:=size_app a c
 have hQ:∀q o,run (gQuo (a++c) (a.size+i) q o) (a++c).size (a.size+i+1) 0=(a.size+(run (gQuo c i q o) c.size (i+1) 0).1,(run (gQuo c i q o) c.size (i+1) 0).2):=by
  intro q o
  have h1:=gQuo_on (a++c) (a.size+i) q o
  rw [hz] at h1 ⊢
  refine run_up (gQuo_on c i q o) h1 (fun b m hb=>?_) _ (i+1) 0 (Nat.le_refl _) hi
  unfold gQuo tkCtl
  rw [by8_second,(gd_second a c b).1,(gd_second a c b).2.1,(gd_second a c b).2.2,hz]
  rw [show a.size+b+dw c b-(a.size+i)=b+dw c b-i by omega]
  simp only [Nat.add_le_add_iff_left]
  repeat' split
  all_goals rfl
 have hC:∀o,run (gCom (a++c) (a.size+i) o) (a++c).size (a.size+i) 0=(a.size+(run (gCom c i o) c.size i 0).1,(run (gCom c i o) c.size i 0).2):=by
  intro o
  have h1:=gCom_on (a++c) (a.size+i) o
  rw [hz] at h1 ⊢
  refine run_up (gCom_on c i o) h1 (fun b m hb=>?_) _ i 0 (Nat.le_refl _) (Nat.le_of_lt hi)
  unfold gCom
  rw [by8_second,hz]
  rw [show a.size+b+1-(a.size+i)=b+1-i by omega]
  simp only [Nat.add_le_add_iff_left]
  repeat' split
  all_goals rfl
 have hR:run (gRow (a++c) (a.size+i) k) (a++c).size (a.size+i) 0=(a.size+(run (gRow c i k) c.size i 0).1,(run (gRow c i k) c.size i 0).2):=by
  have h1:=gRow_on (a++c) (a.size+i) k
  rw [hz] at h1 ⊢
  refine run_up (gRow_on c i k) h1 (fun b m hb=>?_) _ i 0 (Nat.le_refl _) (Nat.le_of_lt hi)
  unfold gRow
  rw [by8_second,(gd_second a c b).1,(gd_second a c b).2.1,(gd_second a c b).2.2,hz]
  rw [show a.size+b+dw c b-(a.size+i)=b+dw c b-i by omega]
  simp only [Nat.add_le_add_iff_left]
  repeat' split
  all_goals rfl
 unfold tkEnd
 rw [hQ,hQ,hC,hC,hR,sg_second]
 repeat' split
 all_goals first|rfl|(rw [Nat.add_assoc])
theorem find_congr {f g:ByteArray→Bool}:∀l:List ByteArray,(∀x∈l,f x=g x)→l.find? f=l.find? g
 |[],_=>rfl
 |x :: l,h=>by
  rw [List.find?_cons,List.find?_cons,h x (List.mem_cons_self ..),find_congr l (fun y hy=>h y (List.mem_cons_of_mem _ hy))]
theorem sign_ten:∀x∈signL,x.size=1∨(x.size=2∧by8 x 1≠10):=by decide
theorem ext_first (a c:ByteArray) (i p:Nat) (hp:p≤a.size):(a++c).extract i p=a.extract i p:=by
 have hz:=size_app a c
 refine by8_ext _ _ (by rw [size_ext _ _ _ (by omega),size_ext _ _ _ hp]) (fun j hj=>?_)
 rw [size_ext _ _ _ (by omega)] at hj
 rw [by8_ext' _ _ _ _ (by omega),by8_ext' _ _ _ _ (by omega),by8_app,if_pos (by omega)]
theorem by8_first (a c:ByteArray) (i:Nat) (hi:i<a.size):by8 (a++c) i=by8 a i:=by rw [by8_app,if_pos hi]
def lfB:ByteArray:=⟨#[10]⟩
theorem row_out (s:ByteArray) (f k b m p:Nat) (h:gRow s f k b m=.out p 0):b≤p:=by
 unfold gRow at h
 repeat' split at h
 all_goals cases h
 all_goals exact Nat.le_refl _
theorem quo_out (s:ByteArray) (f q:Nat) (o:Bool) (b m p:Nat) (h:gQuo s f q o b m=.out p 0):b≤p:=by
 unfold gQuo at h
 repeat' split at h
 all_goals cases h
 all_goals omega
theorem com_out (s:ByteArray) (f:Nat) (o:Bool) (b m p:Nat) (h:gCom s f o b m=.out p 0):b≤p:=by
 unfold gCom at h
 repeat' split at h
 all_goals cases h
 all_goals omega
end Go.Proofs.YtpdlohfdjiaegaaGreatDoor.Lx
