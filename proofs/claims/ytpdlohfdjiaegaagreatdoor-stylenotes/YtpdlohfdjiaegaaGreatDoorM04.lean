import Derived.Deep.QuietTactic
import Derived.BigQuiet
import Derived.Test.YtpdlohfdjiaegaaGreatDoorM03
set_option linter.unusedVariables false
set_option linter.unusedSimpArgs false
namespace Go.Proofs.YtpdlohfdjiaegaaGreatDoor.Lx
open Go.RowKit Go.Deep
theorem below_dn {b:Nat}{w v:World}(h:Below b w v):∀m,Below b w (v.drewN m)
 |0=>h
 |m+1=>(below_dn h m).drew
def ky (s:ByteArray):Bool:=wordL.any fun x=>decide (s=x)
theorem ky_miss (s:ByteArray) (h:∀j,j<24→s≠wordL.getD j ByteArray.empty):ky s=false:=by
 unfold ky
 rw [List.any_eq_false]
 intro x hm hx
 obtain ⟨j,hj,e⟩:=List.mem_iff_getElem.1 hm
 have hj':j<24:=hj
 apply h j hj'
 rw [List.getD,List.getElem?_eq_getElem hj]
 exact (of_decide_eq_true hx).trans e.symm
theorem ky_hit (s:ByteArray) (j:Nat) (hj:j<24) (h:s=wordL.getD j ByteArray.empty):ky s=true:=by
 unfold ky
 rw [List.any_eq_true]
 refine ⟨wordL[j]'hj,List.getElem_mem _,decide_eq_true ?_⟩
 rw [h,List.getD,List.getElem?_eq_getElem (show j<wordL.length from hj)]
 rfl
theorem tl_true {s x:ByteArray}(h:s=x):(s.toList == x.toList)=true:=by subst h;simp
theorem tl_data (s:ByteArray):s.toList=s.data.toList:=ByteArray.toList_eq s
theorem tl_false {s x:ByteArray}(h:s≠x):(s.toList == x.toList)=false:=by
 rw [beq_eq_false_iff_ne,tl_data,tl_data]
 intro e
 apply h
 have:=Array.toList_inj.1 e
 cases s;cases x;simp_all
set_option maxHeartbeats 400000 in
theorem isKey_any (s:ByteArray) (w:World) (hT:WTab w) :
  Calls Tryz.prog 184 #[.string s] w fun e w'=>e=.returned (.bool (ky s))∧w'=w:=by
 go_enter Tryz.func184,Tryz.ntmps184
 go_wp2_with fail
 go_loopw [4] (fun i wr=>wr=w∧∃k:Nat,k≤24∧i=.int .i64 k∧∀j,j<k→s≠wordL.getD j ByteArray.empty) (fun i _=>24-(intOf i).toNat)
 case atStart=>exact ⟨rfl,0,by omega,rfl,fun j hj=>by omega⟩
 case round=>
  obtain ⟨rfl,k,hk,rfl,hall⟩:=hrel
  by_cases h24:k<24
  ·have c0:=hT k h24
   have HH:Hid (s=wordL.getD k ByteArray.empty→ky s=true):=ky_hit s k h24
   have HN:Hid (s≠wordL.getD k ByteArray.empty→∀j,j<k+1→s≠wordL.getD j ByteArray.empty):=fun h j hj=>by
    by_cases e:j=k
    ·subst e;exact h
    ·exact hall j (by omega)
   clear hall hT
   generalize wordL.getD k ByteArray.empty=x at *
   by_cases e:s=x
   ·have e1:=tl_true e
    have HE:Hid (s=x):=e
    clear e
    go_wp2_with fail
    go_ret
    exact ⟨kret_b (HH.out HE.out).symm,rfl⟩
   ·have e1:=tl_false e
    have HE:Hid (s≠x):=e
    clear e
    go_wp2_with fail
    exact ⟨⟨trivial,k+1,by omega,by go_num,HN.out HE.out⟩,by simp [intOf];omega⟩
  ·have HM:Hid (ky s=false):=ky_miss s (fun j hj=>hall j (by omega))
   clear hall hT
   go_wp2_with fail
   go_ret
   exact ⟨kret_b HM.out.symm,rfl⟩
def pre (s:ByteArray) (a:Nat) (t:ByteArray):Bool:=decide (a+t.size≤s.size∧s.extract a (a+t.size)=t)
def sg (s:ByteArray) (a:Nat):ByteArray:=(signL.find? (pre s a)).getD ByteArray.empty
theorem find_hit (f:ByteArray→Bool):∀(l:List ByteArray) (k:Nat),k<l.length→(∀j,j<k→f (l.getD j ByteArray.empty)=false)→f (l.getD k ByteArray.empty)=true→l.find? f=some (l.getD k ByteArray.empty)
 |[],k,h,_,_=>by simp at h
 |x :: r,0,_,_,h=>by
  have h':f x=true:=h
  rw [List.find?_cons_of_pos h'];rfl
 |x :: r,k+1,hk,hj,h=>by
  have h0:f x=false:=hj 0 (by omega)
  rw [List.find?_cons_of_neg (by rw [h0];simp)]
  exact find_hit f r k (by simpa using hk) (fun j hj'=>hj (j+1) (by omega)) h
theorem find_miss (f:ByteArray→Bool) (l:List ByteArray) (h:∀j,j<l.length→f (l.getD j ByteArray.empty)=false):l.find? f=none:=by
 rw [List.find?_eq_none]
 intro x hx
 obtain ⟨j,hj,e⟩:=List.mem_iff_getElem.1 hx
 have:=h j hj
 rw [List.getD,List.getElem?_eq_getElem hj] at this
 subst e
 simpa using this
theorem sg_hit (s:ByteArray) (a k:Nat) (hk:k<21) (h:∀j,j<k→pre s a (signL.getD j ByteArray.empty)=false) (h1:pre s a (signL.getD k ByteArray.empty)=true):sg s a=signL.getD k ByteArray.empty:=by
 unfold sg
 rw [find_hit _ signL k hk h h1];rfl
theorem sg_miss (s:ByteArray) (a:Nat) (h:∀j,j<21→pre s a (signL.getD j ByteArray.empty)=false):sg s a=ByteArray.empty:=by
 unfold sg
 rw [find_miss _ signL h];rfl
theorem ext_tail (s:ByteArray) (a n:Nat) (h:a+n≤s.size):(s.extract a s.size).extract 0 n=s.extract a (a+n):=by
 refine by8_ext _ _ ?_ ?_
 ·rw [size_ext _ 0 n (by rw [size_ext s a _ (Nat.le_refl _)];omega),size_ext s a _ h];omega
 ·intro i hi
  rw [size_ext _ 0 n (by rw [size_ext s a _ (Nat.le_refl _)];omega)] at hi
  rw [by8_ext' _ 0 n i (by omega),by8_ext' s a _ _ (by omega),by8_ext' s a _ _ (by omega),Nat.zero_add]
set_option maxHeartbeats 400000 in
theorem hp_lite (s t:ByteArray) (w:World) :
  Calls Tryz.prog 141 #[.string s,.string t] w fun e w'=>e=.returned (.bool (pre s 0 t))∧w'=w:=by
 by_cases h1:t.size≤s.size
 ·have h1':decide ((s.size:Int)≥(t.size:Int))=true:=by simpa using h1
  have h2:(0:Int)≤(t.size:Int):=by omega
  have h3:(t.size:Int)≤(s.size:Int):=by omega
  by_cases h4:s.extract 0 t.size=t
  ·have e1:=tl_true h4
   have HB:Hid (pre s 0 t=true):=by
    unfold pre
    exact decide_eq_true ⟨by omega,by rw [Nat.zero_add];exact h4⟩
   clear h4
   go_enter Tryz.func141,Tryz.ntmps141
   go_wp2_with fail
   go_ret
   exact ⟨kret_b HB.out.symm,rfl⟩
  ·have e1:=tl_false h4
   have HB:Hid (pre s 0 t=false):=by
    unfold pre
    refine decide_eq_false fun h=>h4 ?_
    have:=h.2
    rwa [Nat.zero_add] at this
   clear h4
   go_enter Tryz.func141,Tryz.ntmps141
   go_wp2_with fail
   go_ret
   exact ⟨kret_b HB.out.symm,rfl⟩
 ·have h1':decide ((s.size:Int)≥(t.size:Int))=false:=by simp;omega
  have HB:Hid (pre s 0 t=false):=by
   unfold pre
   exact decide_eq_false fun h=>h1 (by have:=h.1;omega)
  go_enter Tryz.func141,Tryz.ntmps141
  go_wp2_with fail
  go_ret
  exact ⟨kret_b HB.out.symm,rfl⟩
theorem hp_any (s t:ByteArray) (w:World) :
  Calls Tryz.prog 90 #[.string s,.string t] w fun e w'=>e=.returned (.bool (pre s 0 t))∧w'=w:=by
 go_enter Tryz.func90,Tryz.ntmps90
 go_wp2_with fail
 refine (hp_lite s t w).mono ?_
 rintro e w' ⟨rfl,rfl⟩
 generalize hb:pre s 0 t=b
 have HB:Hid (pre s 0 t=b):=hb
 clear hb
 go_wp2_with fail
 go_ret
 exact ⟨kret_b HB.out.symm,rfl⟩
theorem pre_tail (s t:ByteArray) (a:Nat) (ha:a≤s.size):pre (s.extract a s.size) 0 t=pre s a t:=by
 unfold pre
 rw [size_ext s a _ (Nat.le_refl _)]
 by_cases h:a+t.size≤s.size
 ·rw [Nat.zero_add,ext_tail s a t.size h]
  exact decide_eq_decide.2 ⟨fun ⟨_,h2⟩=>⟨h,h2⟩,fun ⟨_,h2⟩=>⟨by omega,h2⟩⟩
 ·rw [decide_eq_false (fun h2=>h (by have:=h2.1;omega)),decide_eq_false (fun h2=>h h2.1)]
set_option maxHeartbeats 1000000 in
theorem sign_in (s:ByteArray) (a:Nat) (w:World) (hT:STab w) (ha:a<s.size) :
  Calls Tryz.prog 142 #[.string s,.int .i64 a] w fun e w'=>e=.returned (.string (sg s a))∧Below w.heap.size w w':=by
 have h1:decide ((a:Int)<0)=false:=by simp
 have h2:decide ((a:Int)≥(s.size:Int))=false:=by simp;omega
 have h3:(0:Int)≤(a:Int):=by omega
 have h4:(a:Int)≤(s.size:Int):=by omega
 go_enter Tryz.func142,Tryz.ntmps142
 go_wp2_with fail
 go_loopw [14] (fun i wr=>∃k:Nat,k≤21∧i=.int .i64 k∧(∀j,j<k→pre s a (signL.getD j ByteArray.empty)=false)∧Below w.heap.size w wr) (fun i _=>21-(intOf i).toNat)
 case atStart=>exact ⟨0,by omega,rfl,fun j hj=>by omega,Below.refl _ _⟩
 case round=>
  obtain ⟨k,hk,rfl,hall,hb⟩:=hrel
  by_cases h21:k<21
  ·have c0:=(hT.below hb) k h21
   have i1:(0:Int)≤(k:Int):=by omega
   have i2:(k:Int)<21:=by omega
   have HH:Hid (pre s a (signL.getD k ByteArray.empty)=true→sg s a=signL.getD k ByteArray.empty):=sg_hit s a k h21 hall
   have HN:Hid (pre s a (signL.getD k ByteArray.empty)=false→∀j,j<k+1→pre s a (signL.getD j ByteArray.empty)=false):=fun h j hj=>by
    by_cases e:j=k
    ·subst e;exact h
    ·exact hall j (by omega)
   clear hall hT
   generalize signL.getD k ByteArray.empty=x at *
   have HC:Hid (∀W,Calls Tryz.prog 90 #[.string (s.extract a s.size),.string x] W fun e w'=>e=.returned (.bool (pre s a x))∧w'=W):=fun W=>by
    rw [←pre_tail s x a (by omega)];exact hp_any _ _ W
   cases hp:pre s a x
   ·rw [hp] at HC
    have HP:Hid (pre s a x=false):=hp
    clear hp HH
    go_wp2_with fail
    go_quiet ((go_at_call 90;exact Calls.quiet_of_same (HC.out _)))
    go_wp2_with fail
    exact ⟨⟨k+1,by omega,by go_num,HN.out HP.out,below_dn hb _⟩,by simp [intOf];omega⟩
   ·rw [hp] at HC
    have HP:Hid (pre s a x=true):=hp
    clear hp HN
    go_wp2_with fail
    go_quiet ((go_at_call 90;exact Calls.quiet_of_same (HC.out _)))
    go_wp2_with fail
    go_ret
    exact ⟨by rw [HH.out HP.out];rfl,below_dn hb _⟩
  ·have HM:Hid (sg s a=ByteArray.empty):=sg_miss s a (fun j hj=>hall j (by omega))
   clear hall hT
   go_wp2_with fail
   go_ret
   exact ⟨by rw [HM.out];rfl,hb⟩
end Go.Proofs.YtpdlohfdjiaegaaGreatDoor.Lx
namespace Go.Proofs.YtpdlohfdjiaegaaGreatDoor.Lx
open Go.RowKit
theorem pr_of_lt {p:Int}(h:lt' p=true):pr' p=true:=by unfold pr';rw [h];rfl
end Go.Proofs.YtpdlohfdjiaegaaGreatDoor.Lx
namespace Go.Proofs.YtpdlohfdjiaegaaGreatDoor.Lx
open Go.RowKit Go.Deep
theorem pre_in {s t:ByteArray}{a:Nat}(h:a+t.size≤s.size):pre s a t=decide (s.extract a (a+t.size)=t):=by
 unfold pre
 exact decide_eq_decide.2 ⟨fun h2=>h2.2,fun h2=>⟨h,h2⟩⟩
theorem pre_out {s t:ByteArray}{a:Nat}(h:¬a+t.size≤s.size):pre s a t=false:=by
 unfold pre
 exact decide_eq_false fun h2=>h h2.1
end Go.Proofs.YtpdlohfdjiaegaaGreatDoor.Lx
namespace Go.Proofs.YtpdlohfdjiaegaaGreatDoor.Lx
open Go.RowKit
def nlF (s:ByteArray):Nat→Nat→Nat
 |0,i=>i
 |f+1,i=>if by8 s i=10 then i else nlF s f (i+1)
def nl (s:ByteArray) (i:Nat):Nat:=nlF s (s.size-i) i
theorem nlF_facts (s:ByteArray):∀f i,i≤nlF s f i∧nlF s f i≤i+f∧(∀j,i≤j→j<nlF s f i→by8 s j≠10)∧(nlF s f i<i+f→by8 s (nlF s f i)=10)
 |0,i=>by
  show i≤i∧i≤i+0∧_∧_
  exact ⟨Nat.le_refl _,Nat.le_refl _,fun j h1 h2=>by unfold nlF at h2;omega,fun h=>by unfold nlF at h;omega⟩
 |f+1,i=>by
  unfold nlF
  by_cases h:by8 s i=10
  ·rw [if_pos h]
   exact ⟨Nat.le_refl _,by omega,fun j h1 h2=>by omega,fun _=>h⟩
  ·rw [if_neg h]
   obtain ⟨h1,h2,h3,h4⟩:=nlF_facts s f (i+1)
   refine ⟨by omega,by omega,fun j h5 h6=>?_,fun h5=>h4 (by omega)⟩
   by_cases e:j=i
   ·rw [e];exact h
   ·exact h3 j (by omega) h6
theorem nl_facts (s:ByteArray) (i:Nat) (h:i≤s.size):i≤nl s i∧nl s i≤s.size∧(∀j,i≤j→j<nl s i→by8 s j≠10)∧(nl s i<s.size→by8 s (nl s i)=10):=by
 obtain ⟨h1,h2,h3,h4⟩:=nlF_facts s (s.size-i) i
 exact ⟨h1,by unfold nl;omega,h3,fun h5=>h4 (by unfold nl at h5;omega)⟩
theorem nl_eq (s:ByteArray) (i j:Nat) (h:i≤j) (hj:j≤s.size) (hn:∀k,i≤k→k<j→by8 s k≠10) (he:j=s.size∨by8 s j=10):nl s i=j:=by
 obtain ⟨h1,h2,h3,h4⟩:=nl_facts s i (by omega)
 rcases Nat.lt_trichotomy (nl s i) j with hl|hl|hl
 ·exact absurd (h4 (by omega)) (hn _ h1 hl)
 ·exact hl
 ·rcases he with he|he
  ·omega
  ·exact absurd he (h3 j h hl)
def cn (s:ByteArray):Nat→Nat
 |0=>0
 |i+1=>cn s i+(if by8 s i=10 then 1 else 0)
def lf (s:ByteArray):Nat→Nat
 |0=>0
 |i+1=>if by8 s i=10 then i+1 else lf s i
def bg (s:ByteArray):Nat→Nat
 |0=>0
 |k+1=>nl s (bg s k)+1
theorem cn_step (s:ByteArray) (i:Nat):(by8 s i=10∧cn s (i+1)=cn s i+1)∨(by8 s i≠10∧cn s (i+1)=cn s i):=by
 show (_∧cn s i+_=_)∨(_∧cn s i+_=_)
 by_cases h:by8 s i=10
 ·rw [if_pos h];exact .inl ⟨h,rfl⟩
 ·rw [if_neg h];exact .inr ⟨h,rfl⟩
theorem cn_mono (s:ByteArray) (i:Nat):∀d,cn s i≤cn s (i+d)
 |0=>Nat.le_refl _
 |d+1=>by
  have h:=cn_mono s i d
  have:=cn_step s (i+d)
  rw [←Nat.add_assoc];omega
theorem cn_mono' (s:ByteArray) {i j:Nat}(h:i≤j):cn s i≤cn s j:=by
 have:=cn_mono s i (j-i);rw [show i+(j-i)=j by omega] at this;exact this
theorem cn_le (s:ByteArray):∀i,cn s i≤i
 |0=>Nat.le_refl _
 |i+1=>by have:=cn_le s i;have:=cn_step s i;omega
theorem cn_const (s:ByteArray) (i:Nat):∀d,(∀k,i≤k→k<i+d→by8 s k≠10)→cn s (i+d)=cn s i
 |0,_=>rfl
 |d+1,h=>by
  have ih:=cn_const s i d (fun k h1 h2=>h k h1 (by omega))
  rcases cn_step s (i+d) with ⟨h1,_⟩|⟨_,h2⟩
  ·exact absurd h1 (h _ (by omega) (by omega))
  ·rw [←Nat.add_assoc];omega
theorem cn_const' (s:ByteArray) {i j:Nat}(h:i≤j) (hn:∀k,i≤k→k<j→by8 s k≠10):cn s j=cn s i:=by
 have:=cn_const s i (j-i) (fun k h1 h2=>hn k h1 (by omega));rw [show i+(j-i)=j by omega] at this;exact this
theorem lf_facts (s:ByteArray):∀i,lf s i≤i∧(∀j,lf s i≤j→j<i→by8 s j≠10)∧(lf s i=0∨(1≤lf s i∧by8 s (lf s i-1)=10))
 |0=>⟨Nat.le_refl _,fun j _ h=>by omega,.inl rfl⟩
 |i+1=>by
  unfold lf
  by_cases h:by8 s i=10
  ·rw [if_pos h]
   exact ⟨Nat.le_refl _,fun j h1 h2=>by omega,.inr ⟨by omega,h⟩⟩
  ·rw [if_neg h]
   obtain ⟨h1,h2,h3⟩:=lf_facts s i
   refine ⟨by omega,fun j h4 h5=>?_,h3⟩
   by_cases e:j=i
   ·rw [e];exact h
   ·exact h2 j h4 (by omega)
theorem lf_step (s:ByteArray) (i:Nat):lf s (i+1)=if by8 s i=10 then i+1 else lf s i:=rfl
theorem lf_zero (s:ByteArray):∀i,cn s i=0→lf s i=0
 |0,_=>rfl
 |i+1,h=>by
  rcases cn_step s i with ⟨_,h2⟩|⟨h1,h2⟩
  ·omega
  ·rw [lf_step,if_neg h1];exact lf_zero s i (by omega)
theorem bg_lf (s:ByteArray):∀i,i≤s.size→bg s (cn s i)=lf s i
 |0,_=>rfl
 |i+1,h=>by
  have ih:=bg_lf s i (by omega)
  rw [lf_step]
  rcases cn_step s i with ⟨h1,h2⟩|⟨h1,h2⟩
  ·rw [h2,if_pos h1]
   show nl s (bg s (cn s i))+1=_
   obtain ⟨f1,f2,_⟩:=lf_facts s i
   rw [ih,nl_eq s (lf s i) i f1 (by omega) f2 (.inr h1)]
  ·rw [h2,if_neg h1,ih]
theorem nl_more (s:ByteArray) (i:Nat) (hi:i≤s.size):(nl s i<s.size∧cn s i<cn s s.size∧cn s (nl s i+1)=cn s i+1∧cn s (nl s i)=cn s i)∨(nl s i=s.size∧cn s i=cn s s.size):=by
 obtain ⟨h1,h2,h3,h4⟩:=nl_facts s i hi
 have hc:=cn_const' s h1 h3
 by_cases h:nl s i<s.size
 ·have e:=h4 h
  rcases cn_step s (nl s i) with ⟨_,h5⟩|⟨h5,_⟩
  ·have:=cn_mono' s (i:=nl s i+1) (j:=s.size) (by omega)
   exact .inl ⟨h,by omega,by omega,hc⟩
  ·exact absurd e h5
 ·have e:nl s i=s.size:=by omega
  rw [e] at hc
  exact .inr ⟨e,hc.symm⟩
theorem bg_facts (s:ByteArray):∀k,k≤cn s s.size→bg s k≤s.size∧cn s (bg s k)=k
 |0,_=>⟨Nat.zero_le _,rfl⟩
 |k+1,h=>by
  obtain ⟨h1,h2⟩:=bg_facts s k (by omega)
  show nl s (bg s k)+1≤_∧cn s (nl s (bg s k)+1)=_
  rcases nl_more s (bg s k) h1 with ⟨a,b,c,_⟩|⟨a,b⟩
  ·exact ⟨by omega,by omega⟩
  ·omega
theorem nl_bg (s:ByteArray) (k:Nat) (h:k≤cn s s.size):bg s k≤nl s (bg s k)∧nl s (bg s k)≤s.size∧(nl s (bg s k)<s.size↔k<cn s s.size):=by
 obtain ⟨h1,h2⟩:=bg_facts s k h
 obtain ⟨h3,h4,_⟩:=nl_facts s (bg s k) h1
 refine ⟨h3,h4,?_⟩
 rcases nl_more s (bg s k) h1 with ⟨a,b,c,_⟩|⟨a,b⟩
 ·omega
 ·omega
def ln (s:ByteArray) (k:Nat):ByteArray:=s.extract (bg s k) (nl s (bg s k))
theorem ln_size (s:ByteArray) (k:Nat) (h:k≤cn s s.size):(ln s k).size≤s.size:=by
 have:=nl_bg s k h
 unfold ln;rw [size_ext _ _ _ this.2.1];omega
theorem bg_last (s:ByteArray):bg s (cn s s.size)=lf s s.size:=bg_lf s _ (Nat.le_refl _)
theorem ln_last (s:ByteArray):ln s (cn s s.size)=s.extract (lf s s.size) s.size:=by
 unfold ln
 rw [bg_last]
 obtain ⟨f1,f2,_⟩:=lf_facts s s.size
 rw [nl_eq s (lf s s.size) s.size f1 (Nat.le_refl _) f2 (.inl rfl)]
theorem st_step (s:ByteArray) (k:Nat):st s k≤st s (k+1):=by
 by_cases h:k<(P s).length
 ·have:=st_succ s k h;omega
 ·rw [st_end s k (by omega),st_end s (k+1) (by omega)];omega
theorem st_mono (s:ByteArray) (i j:Nat) (h:i≤j):st s i≤st s j:=by
 obtain ⟨d,rfl⟩:∃d,j=i+d:=⟨j-i,by omega⟩
 clear h
 induction d with
 |zero=>exact Nat.le_refl _
 |succ d ih=>have:=st_step s (i+d);rw [←Nat.add_assoc];omega
theorem st_strict (s:ByteArray) (i j:Nat) (h:i<j) (hj:j≤(P s).length):st s i<st s j:=by
 have e:=st_succ s i (by omega)
 have hw:=dw_facts s (st s i) ((st_lt s i).2 (by omega))
 have:=st_mono s (i+1) j h
 omega
def hd (s:ByteArray) (k:Nat):ByteArray:=s.extract 0 (st s k)
theorem hd_size (s:ByteArray) (k:Nat):(hd s k).size=st s k:=by
 unfold hd;rw [size_ext s 0 _ (st_le s k)];omega
theorem st_hd (s:ByteArray) (k:Nat) (hk:k≤(P s).length):∀j,j≤k→st (hd s k) j=st s j
 |0,_=>rfl
 |j+1,h=>by
  have ih:=st_hd s k hk j (by omega)
  have e:=st_succ s j (by omega)
  have hw:=dw_facts s (st s j) ((st_lt s j).2 (by omega))
  have hm:=st_mono s (j+1) k h
  have hd':Utf8.decode (hd s k) (st s j)=Utf8.decode s (st s j):=dec_head s (st s k) (st s j) (st_le s k) (by omega) (by omega)
  have hl:j<(P (hd s k)).length:=(st_lt _ j).1 (by rw [ih,hd_size];omega)
  rw [st_succ _ j hl,ih,e]
  unfold dw
  rw [hd']
theorem P_hd (s:ByteArray) (k:Nat) (hk:k≤(P s).length):(P (hd s k)).length=k:=by
 have h1:¬k<(P (hd s k)).length:=by
  rw [←st_lt,st_hd s k hk k (Nat.le_refl _),hd_size];omega
 by_cases h0:k=0
 ·omega
 ·have e:=st_succ s (k-1) (by omega)
  have hw:=dw_facts s (st s (k-1)) ((st_lt s _).2 (by omega))
  rw [show k-1+1=k by omega] at e
  have h2:k-1<(P (hd s k)).length:=by
   rw [←st_lt,st_hd s k hk _ (by omega),hd_size];omega
  omega
theorem plc_tail (s:ByteArray) (a:Nat) (ha:a≤s.size):∀f i,plc s f (a+i)=(plc (s.extract a s.size) f i).map (fun k=>a+k)
 |0,_=>rfl
 |f+1,i=>by
  unfold plc
  rw [size_ext s a _ (Nat.le_refl _)]
  by_cases h:a+i<s.size
  ·rw [if_pos h,if_pos (by omega),List.map_cons]
   have e:dw (s.extract a s.size) i=dw s (a+i):=by unfold dw;rw [decode_tail s a i ha]
   rw [e,Nat.add_assoc,plc_tail s a ha f (i+dw s (a+i))]
  ·rw [if_neg h,if_neg (by omega)];rfl
theorem P_tail (s:ByteArray) (k:Nat) (hk:k≤(P s).length):(P (s.extract (st s k) s.size)).length=(P s).length-k:=by
 have h:=plc_tail s (st s k) (st_le s k) (s.size-st s k) 0
 have e:pl s (st s k)=(P (s.extract (st s k) s.size)).map (fun j=>st s k+j):=by
  unfold P pl
  rw [size_ext s _ _ (Nat.le_refl _)]
  exact h
 rw [pl_st] at e
 have:=congrArg List.length e
 simp at this
 omega
theorem ext_ext (s:ByteArray) (a b c d:Nat) (hb:b≤s.size) (hd:a+d≤b) (hc:c≤d):(s.extract a b).extract c d=s.extract (a+c) (a+d):=by
 have z1:=size_ext s a b hb
 have z2:=size_ext (s.extract a b) c d (by omega)
 have z3:=size_ext s (a+c) (a+d) (by omega)
 refine ba_ext _ _ (by omega) fun k hk=>?_
 rw [get_ext,if_pos (by omega),get_ext,if_pos (by omega),get_ext,if_pos (by omega),Nat.add_assoc]
theorem P_mid (s:ByteArray) (a b:Nat) (hab:a≤b) (hb:b≤(P s).length):(P (s.extract (st s a) (st s b))).length=b-a:=by
 have h1:=P_hd s b hb
 have h2:=st_hd s b hb a hab
 have h3:=P_tail (hd s b) a (by omega)
 rw [h1,h2,hd_size] at h3
 have hm:=st_mono s a b hab
 have e:(hd s b).extract (st s a) (st s b)=s.extract (st s a) (st s b):=by
  unfold hd
  rw [ext_ext s 0 (st s b) _ _ (st_le s b) (by omega) hm,Nat.zero_add,Nat.zero_add]
 rw [e] at h3
 exact h3
def bd (s:ByteArray) (b:Nat):Prop:=∃k,k≤(P s).length∧st s k=b
theorem bd_zero (s:ByteArray):bd s 0:=⟨0,Nat.zero_le _,rfl⟩
theorem bd_size (s:ByteArray):bd s s.size:=⟨_,Nat.le_refl _,st_end s _ (Nat.le_refl _)⟩
theorem bd_le {s:ByteArray}{b:Nat}(h:bd s b):b≤s.size:=by obtain ⟨k,_,rfl⟩:=h;exact st_le s k
theorem cnt_join {s:ByteArray}{a b c:Nat}(ha:bd s a) (hb:bd s b) (hc:bd s c) (hab:a≤b) (hbc:b≤c) :
  (P (s.extract a b)).length+(P (s.extract b c)).length=(P (s.extract a c)).length:=by
 obtain ⟨i,hi,rfl⟩:=ha
 obtain ⟨j,hj,rfl⟩:=hb
 obtain ⟨k,hk,rfl⟩:=hc
 have h1:i≤j:=by
  apply Classical.byContradiction;intro h
  have:=st_strict s j i (by omega) hi;omega
 have h2:j≤k:=by
  apply Classical.byContradiction;intro h
  have:=st_strict s k j (by omega) hj;omega
 rw [P_mid s i j h1 hj,P_mid s j k h2 hk,P_mid s i k (by omega) hk];omega
theorem dw_ten (s:ByteArray) (i:Nat) (h:by8 s i=10):dw s i=1:=by
 unfold dw;rw [decode_eq,h];rfl
theorem lt_of_ten (s:ByteArray) (j:Nat) (h:by8 s j=10):j<s.size:=by
 apply Classical.byContradiction;intro hn
 have:by8 s j=0:=at_big s j (by omega)
 omega
theorem bd_ten (s:ByteArray) (j:Nat) (h:by8 s j=10):bd s j∧bd s (j+1):=by
 have hj:=lt_of_ten s j h
 obtain ⟨m,h1,h2,h3,h4,h5⟩:=st_cover s j (P s).length (by rw [st_end s _ (Nat.le_refl _)];exact hj)
 have e:st s m=j:=by
  apply Classical.byContradiction;intro hne
  have:=(dec_inner s (st s m) (j-st s m) (by omega) (by omega)).2
  rw [show st s m+(j-st s m)=j by omega,h] at this
  omega
 refine ⟨⟨m,by omega,e⟩,⟨m+1,by omega,?_⟩⟩
 rw [st_succ s m h2,e,dw_ten s j h]
theorem bd_lf (s:ByteArray) (i:Nat):bd s (lf s i):=by
 rcases (lf_facts s i).2.2 with h|⟨h1,h2⟩
 ·rw [h];exact bd_zero s
 ·have:=(bd_ten s _ h2).2
  rw [show lf s i-1+1=lf s i by omega] at this
  exact this
theorem cn_head (s:ByteArray) (a:Nat):∀i,i≤a→cn (s.extract 0 a) i=cn s i
 |0,_=>rfl
 |i+1,h=>by
  show cn _ i+_=cn s i+_
  rw [cn_head s a i (by omega),by8_head s a i (by omega)]
theorem lf_head (s:ByteArray) (a:Nat):∀i,i≤a→lf (s.extract 0 a) i=lf s i
 |0,_=>rfl
 |i+1,h=>by
  rw [lf_step,lf_step,lf_head s a i (by omega),by8_head s a i (by omega)]
theorem cn_tail (s:ByteArray) (a:Nat):∀i,a+i≤s.size→cn s (a+i)=cn s a+cn (s.extract a s.size) i
 |0,_=>rfl
 |i+1,h=>by
  show cn s (a+i)+_=_+(cn _ i+_)
  rw [cn_tail s a i (by omega),by8_ext' s a s.size i (by omega),Nat.add_assoc];rfl
theorem lf_tail (s:ByteArray) (a:Nat):∀i,a+i≤s.size→lf s (a+i)=if cn (s.extract a s.size) i=0 then lf s a else a+lf (s.extract a s.size) i
 |0,_=>rfl
 |i+1,h=>by
  have ih:=lf_tail s a i (by omega)
  have e:=by8_ext' s a s.size i (by omega)
  rw [←Nat.add_assoc,lf_step,lf_step,e]
  rcases cn_step (s.extract a s.size) i with ⟨h1,h2⟩|⟨h1,h2⟩
  ·rw [e] at h1
   rw [if_pos h1,if_pos h1,if_neg (by omega)];rfl
  ·rw [e] at h1
   rw [if_neg h1,if_neg h1,h2,ih]
def aLine (l:Int) (s:ByteArray):Int:=wrap64 (l+cn s s.size)
def aCol (c:Int) (s:ByteArray):Int:=wrap64 ((if cn s s.size=0 then c else 1)+(P (s.extract (lf s s.size) s.size)).length)
def aAt (a:Int) (s:ByteArray):Int:=wrap64 (a+s.size)
theorem wrap_add (a b:Int):wrap64 (wrap64 a+b)=wrap64 (a+b):=by unfold wrap64;omega
theorem line_join (s:ByteArray) (w:Nat) (hw:w≤s.size) (l:Int):aLine (aLine l (s.extract 0 w)) (s.extract w s.size)=aLine l s:=by
 unfold aLine
 have z1:=size_ext s 0 w hw
 have z2:=size_ext s w s.size (Nat.le_refl _)
 have h:=cn_tail s w (s.size-w) (by omega)
 rw [show w+(s.size-w)=s.size by omega] at h
 rw [z1,z2,h,cn_head s w _ (by omega),Nat.sub_zero,wrap_add]
 congr 1;omega
theorem col_join (s:ByteArray) (w:Nat) (hw:bd s w) (c:Int):aCol (aCol c (s.extract 0 w)) (s.extract w s.size)=aCol c s:=by
 have hws:=bd_le hw
 have z1:=size_ext s 0 w hws
 have z2:=size_ext s w s.size (Nat.le_refl _)
 have h:=cn_tail s w (s.size-w) (by omega)
 have hl:=lf_tail s w (s.size-w) (by omega)
 rw [show w+(s.size-w)=s.size by omega] at h hl
 have f:=lf_facts s w
 have f2:=lf_facts (s.extract w s.size) (s.size-w)
 unfold aCol
 rw [z1,z2,cn_head s w _ (by omega),lf_head s w _ (by omega),Nat.sub_zero]
 rw [ext_ext s 0 w _ _ hws (by omega) f.1,Nat.zero_add,Nat.zero_add]
 rw [ext_ext s w s.size _ _ (Nat.le_refl _) (by omega) f2.1,show w+(s.size-w)=s.size by omega]
 by_cases hz:cn (s.extract w s.size) (s.size-w)=0
 ·rw [if_pos hz] at hl ⊢
  rw [hl,h,hz,Nat.add_zero,lf_zero _ _ hz,Nat.add_zero,wrap_add,←cnt_join (bd_lf s w) hw (bd_size s) f.1 hws]
  congr 1;omega
 ·rw [if_neg hz] at hl ⊢
  rw [hl,h,if_neg (by omega)]
inductive Rd where
 |out (p e:Nat)
 |on (n:Nat)
def runF (g:Nat→Nat→Rd):Nat→Nat→Nat→Nat × Nat
 |0,a,_=>(a,0)
 |f+1,a,m=>match g a m with
  |.out p e=>(p,e)
  |.on n=>runF g f (a+n) (m+1)
def run (g:Nat→Nat→Rd) (z a m:Nat):Nat × Nat:=runF g (z+1-a) a m
def GoesOn (g:Nat→Nat→Rd) (z:Nat):Prop:=∀a m n,g a m=.on n→1≤n∧a+n≤z
theorem runF_fuel {g:Nat→Nat→Rd}{z:Nat}(hg:GoesOn g z):∀(f f' a m:Nat),z+1≤a+f→z+1≤a+f'→a≤z→runF g f a m=runF g f' a m
 |0,_,_,_,h,_,h2=>by omega
 |_+1,0,_,_,_,h,h2=>by omega
 |f+1,f'+1,a,m,h,h1,h2=>by
  unfold runF
  cases e:g a m with
  |out p e=>rfl
  |on n=>
   obtain ⟨h3,h4⟩:=hg a m n e
   exact runF_fuel hg f f' (a+n) (m+1) (by omega) (by omega) h4
theorem run_out {g:Nat→Nat→Rd}{z a m p e:Nat}(ha:a≤z) (h:g a m=.out p e):run g z a m=(p,e):=by
 unfold run
 rw [show z+1-a=(z-a)+1 by omega]
 unfold runF
 rw [h]
theorem run_on {g:Nat→Nat→Rd}{z a m n:Nat}(hg:GoesOn g z) (ha:a≤z) (h:g a m=.on n):run g z a m=run g z (a+n) (m+1):=by
 obtain ⟨h1,h2⟩:=hg a m n h
 unfold run
 rw [show z+1-a=(z-a)+1 by omega]
 rw [show runF g (z-a+1) a m=runF g (z-a) (a+n) (m+1) by rw [runF,h]]
 exact runF_fuel hg _ _ _ _ (by omega) (by omega) h2
theorem run_ind {g:Nat→Nat→Rd}{z:Nat}(hg:GoesOn g z) (I:Nat→Nat→Prop) (Q:Nat × Nat→Prop)
  (hO:∀a m p e,a≤z→I a m→g a m=.out p e→Q (p,e)) (hN:∀a m n,a≤z→I a m→g a m=.on n→I (a+n) (m+1)) :
  ∀(d a m:Nat),z-a≤d→a≤z→I a m→Q (run g z a m)
 |d,a,m,hd,ha,hI=>by
  cases e:g a m with
  |out p q=>rw [run_out ha e];exact hO a m p q ha hI e
  |on n=>
   obtain ⟨h3,h4⟩:=hg a m n e
   rw [run_on hg ha e]
   cases d with
   |zero=>omega
   |succ d=>exact run_ind hg I Q hO hN d (a+n) (m+1) (by omega) h4 (hN a m n ha hI e)
def tkBl (c:Nat):Bool:=c == 32 || c == 9 || c == 13
def tkCtl (s:ByteArray) (i:Nat):Bool:=gd s i && (decide (dp s i<32) || dp s i == 127)
def tkDg (c:Nat):Bool:=decide (48≤c) && decide (c≤57)
def tkBgn (s:ByteArray) (a:Nat):Nat:=
 if (gd s a && lt' (dp s a))=true then 1 else if tkDg (by8 s a)=true then 3 else if by8 s a=34 then 4 else if by8 s a=39 then 5
 else if by8 s a=47∧a+1<s.size∧by8 s (a+1)=47 then 7 else if by8 s a=123 then 8 else if (sg s a).size≠0 then 6 else 0
def gRow (s:ByteArray) (f k:Nat) (a _:Nat):Rd:=
 if s.size≤a then .out a 0
 else if (k=1∧(gd s a && pr' (dp s a))=false)∨(k=3∧tkDg (by8 s a)=false) then .out a 0
 else if 65535<a+dw s a-f then .out f 103
 else .on (dw s a)
def gQuo (s:ByteArray) (f q:Nat) (only:Bool) (a m:Nat):Rd:=
 if s.size≤a∨by8 s a=10 then .out f 101
 else if 65535<a+dw s a-f then .out f 103
 else if by8 s a=q∧(only=false∨m=1) then .out (a+1) 0
 else if tkCtl s a=true∨(only=true∧(m=1∨by8 s a=q)) then .out a 102
 else .on (dw s a)
def gCom (s:ByteArray) (f:Nat) (blk:Bool) (a _:Nat):Rd:=
 if s.size≤a then (if blk=true then .out f 101 else .out a 0)
 else if blk=false∧by8 s a=10 then .out a 0
 else if 65535<a+1-f then .out f 103
 else if blk=true∧by8 s a=125 then .out (a+1) 0
 else .on 1
theorem gRow_on (s:ByteArray) (f k:Nat):GoesOn (gRow s f k) s.size:=by
 intro a m n h
 unfold gRow at h
 split at h
 ·cases h
 ·rename_i h1
  obtain ⟨h2,h3,h4⟩:=dw_facts s a (by omega)
  split at h
  ·cases h
  ·split at h
   ·cases h
   ·cases h;exact ⟨h2,h4⟩
theorem gQuo_on (s:ByteArray) (f q:Nat) (o:Bool):GoesOn (gQuo s f q o) s.size:=by
 intro a m n h
 unfold gQuo at h
 split at h
 ·cases h
 ·rename_i h1
  obtain ⟨h2,h3,h4⟩:=dw_facts s a (by omega)
  split at h
  ·cases h
  ·split at h
   ·cases h
   ·split at h
    ·cases h
    ·cases h;exact ⟨h2,h4⟩
theorem gCom_on (s:ByteArray) (f:Nat) (o:Bool):GoesOn (gCom s f o) s.size:=by
 intro a m n h
 unfold gCom at h
 split at h
 ·split at h <;> cases h
 ·rename_i h1
  split at h
  ·cases h
  ·split at h
   ·cases h
   ·split at h
    ·cases h
    ·cases h;exact ⟨Nat.le_refl _,by omega⟩
def tkEnd (s:ByteArray) (a k:Nat):Nat × Nat:=
 if k=4 then run (gQuo s a 34 false) s.size (a+1) 0
 else if k=5 then run (gQuo s a 39 true) s.size (a+1) 0
 else if k=7 then run (gCom s a false) s.size a 0
 else if k=8 then run (gCom s a true) s.size a 0
 else if k=6 then (a+(sg s a).size,0)
 else run (gRow s a k) s.size a 0
theorem sg_in (s:ByteArray) (a:Nat) (h:(sg s a).size≠0):a+(sg s a).size≤s.size∧s.extract a (a+(sg s a).size)=sg s a∧sg s a∈signL:=by
 unfold sg at h ⊢
 cases e:signL.find? (pre s a) with
 |none=>rw [e] at h;exact absurd rfl h
 |some x=>
  have h1:=List.find?_some e
  have h2:=List.mem_of_find?_eq_some e
  unfold pre at h1
  have h3:=of_decide_eq_true h1
  exact ⟨h3.1,h3.2,h2⟩
theorem sg_two (s:ByteArray) (a:Nat):(sg s a).size≤2:=by
 by_cases h:(sg s a).size≠0
 ·have h1:=(sg_in s a h).2.2
  have h2:∀x∈signL,x.size≤2:=by decide
  exact h2 _ h1
 ·omega
theorem tkEnd_ok (s:ByteArray) (a k p:Nat) (ha:a<s.size) (hk:tkBgn s a=k) (h0:k≠0) (h:tkEnd s a k=(p,0)):a<p∧p≤s.size:=by
 obtain ⟨d1,d2,d3⟩:=dw_facts s a ha
 have hQ:∀q o,run (gQuo s a q o) s.size (a+1) 0=(p,0)→a<p∧p≤s.size:=by
  intro q o h
  have:=run_ind (gQuo_on s a q o) (fun b _=>a<b) (fun r=>r.2=0→a<r.1∧r.1≤s.size) (by
   intro b m x e hb hI hx he
   unfold gQuo at hx
   split at hx
   ·cases hx;cases he
   ·split at hx
    ·cases hx;cases he
    ·split at hx
     ·cases hx;exact ⟨by show a<b+1;omega,by show b+1≤s.size;omega⟩
     ·split at hx
      ·cases hx;cases he
      ·cases hx) (by intro b m n hb hI hx;show a<b+n;omega) _ (a+1) 0 (Nat.le_refl _) (by omega) (by show a<a+1;omega)
  rw [h] at this
  exact this rfl
 have hC:∀o,(o=true→by8 s a≠125)→(o=false→by8 s a≠10)→run (gCom s a o) s.size a 0=(p,0)→a<p∧p≤s.size:=by
  intro o h1 h2 h
  have:=run_ind (gCom_on s a o) (fun b _=>a≤b) (fun r=>r.2=0→a<r.1∧r.1≤s.size) (by
   intro b m x e hb hI hx he
   unfold gCom at hx
   split at hx
   ·split at hx
    ·cases hx;cases he
    ·cases hx;exact ⟨by show a<b;omega,hb⟩
   ·split at hx
    ·rename_i h3
     cases hx
     refine ⟨?_,hb⟩
     show a<b
     rcases Nat.lt_or_ge a b with h4|h4
     ·exact h4
     ·exact absurd (by rw [show a=b by omega];exact h3.2) (h2 h3.1)
    ·split at hx
     ·cases hx;cases he
     ·split at hx
      ·cases hx;exact ⟨by show a<b+1;omega,by show b+1≤s.size;omega⟩
      ·cases hx) (by intro b m n hb hI hx;show a≤b+n;omega) _ a 0 (Nat.le_refl _) (by omega) (Nat.le_refl _)
  rw [h] at this
  exact this rfl
 have hR:((k=1∧(gd s a && pr' (dp s a))=false)∨(k=3∧tkDg (by8 s a)=false)→False)→run (gRow s a k) s.size a 0=(p,0)→a<p∧p≤s.size:=by
  intro h1 h
  have:=run_ind (gRow_on s a k) (fun b _=>a≤b) (fun r=>r.2=0→a<r.1∧r.1≤s.size) (by
   intro b m x e hb hI hx he
   unfold gRow at hx
   split at hx
   ·cases hx;exact ⟨by show a<b;omega,hb⟩
   ·split at hx
    ·rename_i h3
     cases hx
     refine ⟨?_,hb⟩
     show a<b
     rcases Nat.lt_or_ge a b with h4|h4
     ·exact h4
     ·have:b=a:=Nat.le_antisymm h4 hI
      rw [this] at h3
      exact absurd h3 h1
    ·split at hx
     ·cases hx;cases he
     ·cases hx) (by intro b m n hb hI hx;show a≤b+n;omega) _ a 0 (Nat.le_refl _) (by omega) (Nat.le_refl _)
  rw [h] at this
  exact this rfl
 unfold tkEnd at h
 unfold tkBgn at hk
 by_cases c1:(gd s a && lt' (dp s a))=true
 ·rw [if_pos c1] at hk
  subst hk
  simp only [show ¬(1:Nat)=4 by decide,show ¬(1:Nat)=5 by decide,show ¬(1:Nat)=7 by decide,show ¬(1:Nat)=8 by decide,show ¬(1:Nat)=6 by decide,if_false] at h
  refine hR ?_ h
  rintro (⟨_,h3⟩|⟨h3,_⟩)
  ·rw [Bool.and_eq_true] at c1
   rw [c1.1,pr_of_lt c1.2] at h3
   cases h3
  ·cases h3
 ·rw [if_neg c1] at hk
  by_cases c2:tkDg (by8 s a)=true
  ·rw [if_pos c2] at hk
   subst hk
   simp only [show ¬(3:Nat)=4 by decide,show ¬(3:Nat)=5 by decide,show ¬(3:Nat)=7 by decide,show ¬(3:Nat)=8 by decide,show ¬(3:Nat)=6 by decide,if_false] at h
   refine hR ?_ h
   rintro (⟨h3,_⟩|⟨_,h3⟩)
   ·cases h3
   ·rw [c2] at h3;cases h3
  ·rw [if_neg c2] at hk
   by_cases c3:by8 s a=34
   ·rw [if_pos c3] at hk
    subst hk
    rw [if_pos rfl] at h
    exact hQ _ _ h
   ·rw [if_neg c3] at hk
    by_cases c4:by8 s a=39
    ·rw [if_pos c4] at hk
     subst hk
     rw [if_neg (by decide),if_pos rfl] at h
     exact hQ _ _ h
    ·rw [if_neg c4] at hk
     by_cases c5:by8 s a=47∧a+1<s.size∧by8 s (a+1)=47
     ·rw [if_pos c5] at hk
      subst hk
      rw [if_neg (by decide),if_neg (by decide),if_pos rfl] at h
      exact hC false (by intro h;cases h) (by intro _;rw [c5.1];decide) h
     ·rw [if_neg c5] at hk
      by_cases c6:by8 s a=123
      ·rw [if_pos c6] at hk
       subst hk
       rw [if_neg (by decide),if_neg (by decide),if_neg (by decide),if_pos rfl] at h
       exact hC true (by intro _;rw [c6];decide) (by intro h;cases h) h
      ·rw [if_neg c6] at hk
       by_cases c7:(sg s a).size≠0
       ·rw [if_pos c7] at hk
        subst hk
        rw [if_neg (by decide),if_neg (by decide),if_neg (by decide),if_neg (by decide),if_pos rfl] at h
        cases h
        exact ⟨by omega,(sg_in s a c7).1⟩
       ·rw [if_neg c7] at hk
        exact absurd hk.symm h0
end Go.Proofs.YtpdlohfdjiaegaaGreatDoor.Lx
