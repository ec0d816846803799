import Derived.Deep.QuietTactic
import Derived.BigQuiet
import Derived.Test.YtpdlohfdjiaegaaGreatDoorM02
set_option linter.unusedVariables false
set_option linter.unusedSimpArgs false
namespace Go.Proofs.YtpdlohfdjiaegaaGreatDoor.Lx
open Go.RowKit
def ltr (p:Int):Prop:=(65≤p∧p≤90)∨(97≤p∧p≤122)∨(192≤p∧p≤214)∨(216≤p∧p≤246)∨(248≤p∧p≤591)∨(913≤p∧p≤929)∨(931≤p∧p≤974)∨(1024≤p∧p≤1119)∨(1488≤p∧p≤1514)∨(1568≤p∧p≤1610)∨(2308≤p∧p≤2361)∨(12353≤p∧p≤12438)∨(12449≤p∧p≤12538)∨(19968≤p∧p≤40959)∨(44032≤p∧p≤55203)∨(66560≤p∧p≤66639)∨(131072≤p∧p≤196607)
def mrk (p:Int):Prop:=(48≤p∧p≤57)∨(95≤p∧p≤95)∨(768≤p∧p≤879)
instance (p:Int):Decidable (ltr p):=by unfold ltr;infer_instance
instance (p:Int):Decidable (mrk p):=by unfold mrk;infer_instance
def us (p:Int):Int:=if ltr p then 2 else if mrk p then 1 else 0
def lt' (p:Int):Bool:=decide (ltr p)
def pr' (p:Int):Bool:=lt' p || decide (mrk p)
theorem us_two {p:Int}(h:ltr p):us p=2:=by unfold us;rw [if_pos h]
theorem us_one {p:Int}(h:mrk p):us p=1:=by
 unfold us
 rw [if_neg (by unfold mrk at h;unfold ltr;omega),if_pos h]
theorem us_no {p:Int}(h:¬ltr p) (h2:¬mrk p):us p=0:=by unfold us;rw [if_neg h,if_neg h2]
theorem us_lt (p:Int):(us p == 2)=lt' p:=by
 unfold us lt'
 by_cases h:ltr p
 ·rw [if_pos h,decide_eq_true h];rfl
 ·rw [if_neg h,decide_eq_false h];split <;> rfl
theorem us_pr (p:Int):(us p != 0)=pr' p:=by
 unfold us pr' lt'
 by_cases h:ltr p
 ·rw [if_pos h,decide_eq_true h];rfl
 ·rw [if_neg h,decide_eq_false h]
  by_cases h2:mrk p
  ·rw [if_pos h2,decide_eq_true h2];rfl
  ·rw [if_neg h2,decide_eq_false h2];rfl
theorem ctab_hit (i:Nat) (p:Int) (hi:i<20) (h0:clo i≤p) (h1:p≤chi i):cus i=us p:=by
 rcases i with _|_|_|_|_|_|_|_|_|_|_|_|_|_|_|_|_|_|_|_|i
 all_goals simp [clo,chi,cus,ctabL,List.getD] at h0 h1 ⊢
 all_goals first|exact (us_two (by unfold ltr;omega)).symm|exact (us_one (by unfold mrk;omega)).symm|omega
theorem ctab_all (p:Int) (h:∀k,k<20→p<clo k∨chi k<p):us p=0:=by
 have a0:=h 0 (by omega);have a1:=h 1 (by omega);have a2:=h 2 (by omega);have a3:=h 3 (by omega);have a4:=h 4 (by omega);have a5:=h 5 (by omega);have a6:=h 6 (by omega);have a7:=h 7 (by omega);have a8:=h 8 (by omega);have a9:=h 9 (by omega);have a10:=h 10 (by omega);have a11:=h 11 (by omega);have a12:=h 12 (by omega);have a13:=h 13 (by omega);have a14:=h 14 (by omega);have a15:=h 15 (by omega);have a16:=h 16 (by omega);have a17:=h 17 (by omega);have a18:=h 18 (by omega);have a19:=h 19 (by omega)
 simp only [clo,chi,ctabL,List.getD,List.getElem?_cons_zero,List.getElem?_cons_succ,Option.getD_some] at a0 a1 a2 a3 a4 a5 a6 a7 a8 a9 a10 a11 a12 a13 a14 a15 a16 a17 a18 a19
 refine us_no ?_ ?_
 ·unfold ltr;omega
 ·unfold mrk;omega
theorem ctab_up (i k:Nat) (hk:k<20) (h:i≤k):clo i≤clo k:=by
 have:∀k,k<20→∀i,i<20→i≤k→clo i≤clo k:=by decide +kernel
 exact this k hk i (by omega) h
theorem ctab_miss (i:Nat) (p:Int) (h:∀k,k<i→chi k<p) (h2:i<20→p<clo i):us p=0:=by
 refine ctab_all p fun k hk=>?_
 by_cases hki:k<i
 ·exact .inr (h k hki)
 ·have:=h2 (by omega)
  have:=ctab_up i k hk (by omega)
  omega
theorem kret_i64 {a b:Int}(h:a=b):Ending.returned (.int .i64 a)=.returned (.int .i64 b):=by rw [h]
theorem kret_b {a b:Bool}(h:a=b):Ending.returned (.bool a)=.returned (.bool b):=by rw [h]
set_option maxHeartbeats 400000 in
theorem use_any (p:Int) (w:World) (hT:CTab w) :
  Calls Tryz.prog 134 #[.int .i64 p] w fun e w'=>e=.returned (.int .i64 (us p))∧w'=w:=by
 go_enter Tryz.func134,Tryz.ntmps134
 go_wp2_with fail
 go_loopw [4] (fun i wr=>wr=w∧∃k:Nat,k≤20∧i=.int .i64 k∧∀j,j<k→chi j<p) (fun i _=>20-(intOf i).toNat)
 case atStart=>exact ⟨rfl,0,by omega,rfl,fun j hj=>by omega⟩
 case round=>
  obtain ⟨rfl,k,hk,rfl,hall⟩:=hrel
  by_cases h16:k<20
  ·obtain ⟨c0,c1,c2⟩:=hT k h16
   have HA:Hid (∀j,j<k→chi j<p):=hall
   have HH:Hid (clo k≤p→p≤chi k→cus k=us p):=ctab_hit k p h16
   have HM:Hid (p<clo k→us p=0):=fun h=>ctab_miss k p hall (fun _=>h)
   have HN:Hid (chi k<p→∀j,j<k+1→chi j<p):=fun h j hj=>by
    by_cases e:j=k
    ·subst e;exact h
    ·exact hall j (by omega)
   clear hall hT
   generalize clo k=l at *
   generalize cus k=c at *
   generalize chi k=u at *
   by_cases h1:p<l
   ·go_wp2_with fail
    go_ret
    exact ⟨kret_i64 (HM.out h1).symm,rfl⟩
   ·by_cases h2:p≤u
    ·go_wp2_with fail
     go_ret
     exact ⟨kret_i64 (HH.out (by omega) h2),rfl⟩
    ·go_wp2_with fail
     exact ⟨⟨trivial,k+1,by omega,by go_num,HN.out (by omega)⟩,by simp [intOf];omega⟩
  ·have HM:Hid (us p=0):=ctab_miss k p hall (fun h=>absurd h h16)
   clear hall hT
   go_wp2_with fail
   go_ret
   exact ⟨kret_i64 HM.out.symm,rfl⟩
theorem letter_any (p:Int) (w:World) (hT:CTab w) :
  Calls Tryz.prog 86 #[.int .i64 p] w fun e w'=>e=.returned (.bool (lt' p))∧w'=w:=by
 go_enter Tryz.func86,Tryz.ntmps86
 go_wp2_with fail
 refine (use_any p w hT).mono ?_
 rintro e w' ⟨rfl,rfl⟩
 have HU:Hid ((us p == 2)=lt' p):=us_lt p
 generalize us p=u at *
 go_wp2_with fail
 go_ret
 exact ⟨kret_b HU.out,rfl⟩
theorem part_any (p:Int) (w:World) (hT:CTab w) :
  Calls Tryz.prog 135 #[.int .i64 p] w fun e w'=>e=.returned (.bool (pr' p))∧w'=w:=by
 go_enter Tryz.func135,Tryz.ntmps135
 go_wp2_with fail
 refine (use_any p w hT).mono ?_
 rintro e w' ⟨rfl,rfl⟩
 have HU:Hid ((us p != 0)=pr' p):=us_pr p
 generalize us p=u at *
 go_wp2_with fail
 go_ret
 exact ⟨kret_b HU.out,rfl⟩
end Go.Proofs.YtpdlohfdjiaegaaGreatDoor.Lx
namespace Go.Proofs.YtpdlohfdjiaegaaGreatDoor.Lx
open Go.RowKit Go.Deep
theorem below_dn {b:Nat}{w v:World}(h:Below b w v):∀m,Below b w (v.drewN m)
 |0=>h
 |m+1=>(below_dn h m).drew
def ky (s:ByteArray):Bool:=wordL.any fun x=>decide (s=x)
theorem ky_miss (s:ByteArray) (h:∀j,j<24→s≠wordL.getD j ByteArray.empty):ky s=false:=by
 unfold ky
 rw [List.any_eq_false]
 intro x hm hx
 obtain ⟨j,hj,e⟩:=List.mem_iff_getElem.1 hm
 have hj':j<24:=hj
 apply h j hj'
 rw [List.getD,List.getElem?_eq_getElem hj]
 exact (of_decide_eq_true hx).trans e.symm
theorem ky_hit (s:ByteArray) (j:Nat) (hj:j<24) (h:s=wordL.getD j ByteArray.empty):ky s=true:=by
 unfold ky
 rw [List.any_eq_true]
 refine ⟨wordL[j]'hj,List.getElem_mem _,decide_eq_true ?_⟩
 rw [h,List.getD,List.getElem?_eq_getElem (show j<wordL.length from hj)]
 rfl
theorem tl_true {s x:ByteArray}(h:s=x):(s.toList == x.toList)=true:=by subst h;simp
theorem tl_data (s:ByteArray):s.toList=s.data.toList:=ByteArray.toList_eq s
theorem tl_false {s x:ByteArray}(h:s≠x):(s.toList == x.toList)=false:=by
 rw [beq_eq_false_iff_ne,tl_data,tl_data]
 intro e
 apply h
 have:=Array.toList_inj.1 e
 cases s;cases x;simp_all
set_option maxHeartbeats 400000 in
theorem isKey_any (s:ByteArray) (w:World) (hT:WTab w) :
  Calls Tryz.prog 184 #[.string s] w fun e w'=>e=.returned (.bool (ky s))∧w'=w:=by
 go_enter Tryz.func184,Tryz.ntmps184
 go_wp2_with fail
 go_loopw [4] (fun i wr=>wr=w∧∃k:Nat,k≤24∧i=.int .i64 k∧∀j,j<k→s≠wordL.getD j ByteArray.empty) (fun i _=>24-(intOf i).toNat)
 case atStart=>exact ⟨rfl,0,by omega,rfl,fun j hj=>by omega⟩
 case round=>
  obtain ⟨rfl,k,hk,rfl,hall⟩:=hrel
  by_cases h24:k<24
  ·have c0:=hT k h24
   have HH:Hid (s=wordL.getD k ByteArray.empty→ky s=true):=ky_hit s k h24
   have HN:Hid (s≠wordL.getD k ByteArray.empty→∀j,j<k+1→s≠wordL.getD j ByteArray.empty):=fun h j hj=>by
    by_cases e:j=k
    ·subst e;exact h
    ·exact hall j (by omega)
   clear hall hT
   generalize wordL.getD k ByteArray.empty=x at *
   by_cases e:s=x
   ·have e1:=tl_true e
    have HE:Hid (s=x):=e
    clear e
    go_wp2_with fail
    go_ret
    exact ⟨kret_b (HH.out HE.out).symm,rfl⟩
   ·have e1:=tl_false e
    have HE:Hid (s≠x):=e
    clear e
    go_wp2_with fail
    exact ⟨⟨trivial,k+1,by omega,by go_num,HN.out HE.out⟩,by simp [intOf];omega⟩
  ·have HM:Hid (ky s=false):=ky_miss s (fun j hj=>hall j (by omega))
   clear hall hT
   go_wp2_with fail
   go_ret
   exact ⟨kret_b HM.out.symm,rfl⟩
def pre (s:ByteArray) (a:Nat) (t:ByteArray):Bool:=decide (a+t.size≤s.size∧s.extract a (a+t.size)=t)
def sg (s:ByteArray) (a:Nat):ByteArray:=(signL.find? (pre s a)).getD ByteArray.empty
theorem find_hit (f:ByteArray→Bool):∀(l:List ByteArray) (k:Nat),k<l.length→(∀j,j<k→f (l.getD j ByteArray.empty)=false)→f (l.getD k ByteArray.empty)=true→l.find? f=some (l.getD k ByteArray.empty)
 |[],k,h,_,_=>by simp at h
 |x :: r,0,_,_,h=>by
  have h':f x=true:=h
  rw [List.find?_cons_of_pos h'];rfl
 |x :: r,k+1,hk,hj,h=>by
  have h0:f x=false:=hj 0 (by omega)
  rw [List.find?_cons_of_neg (by rw [h0];simp)]
  exact find_hit f r k (by simpa using hk) (fun j hj'=>hj (j+1) (by omega)) h
theorem find_miss (f:ByteArray→Bool) (l:List ByteArray) (h:∀j,j<l.length→f (l.getD j ByteArray.empty)=false):l.find? f=none:=by
 rw [List.find?_eq_none]
 intro x hx
 obtain ⟨j,hj,e⟩:=List.mem_iff_getElem.1 hx
 have:=h j hj
 rw [List.getD,List.getElem?_eq_getElem hj] at this
 subst e
 simpa using this
theorem sg_hit (s:ByteArray) (a k:Nat) (hk:k<21) (h:∀j,j<k→pre s a (signL.getD j ByteArray.empty)=false) (h1:pre s a (signL.getD k ByteArray.empty)=true):sg s a=signL.getD k ByteArray.empty:=by
 unfold sg
 rw [find_hit _ signL k hk h h1];rfl
theorem sg_miss (s:ByteArray) (a:Nat) (h:∀j,j<21→pre s a (signL.getD j ByteArray.empty)=false):sg s a=ByteArray.empty:=by
 unfold sg
 rw [find_miss _ signL h];rfl
theorem ext_tail (s:ByteArray) (a n:Nat) (h:a+n≤s.size):(s.extract a s.size).extract 0 n=s.extract a (a+n):=by
 refine by8_ext _ _ ?_ ?_
 ·rw [size_ext _ 0 n (by rw [size_ext s a _ (Nat.le_refl _)];omega),size_ext s a _ h];omega
 ·intro i hi
  rw [size_ext _ 0 n (by rw [size_ext s a _ (Nat.le_refl _)];omega)] at hi
  rw [by8_ext' _ 0 n i (by omega),by8_ext' s a _ _ (by omega),by8_ext' s a _ _ (by omega),Nat.zero_add]
set_option maxHeartbeats 400000 in
theorem hp_lite (s t:ByteArray) (w:World) :
  Calls Tryz.prog 141 #[.string s,.string t] w fun e w'=>e=.returned (.bool (pre s 0 t))∧w'=w:=by
 by_cases h1:t.size≤s.size
 ·have h1':decide ((s.size:Int)≥(t.size:Int))=true:=by simpa using h1
  have h2:(0:Int)≤(t.size:Int):=by omega
  have h3:(t.size:Int)≤(s.size:Int):=by omega
  by_cases h4:s.extract 0 t.size=t
  ·have e1:=tl_true h4
   have HB:Hid (pre s 0 t=true):=by
    unfold pre
    exact decide_eq_true ⟨by omega,by rw [Nat.zero_add];exact h4⟩
   clear h4
   go_enter Tryz.func141,Tryz.ntmps141
   go_wp2_with fail
   go_ret
   exact ⟨kret_b HB.out.symm,rfl⟩
  ·have e1:=tl_false h4
   have HB:Hid (pre s 0 t=false):=by
    unfold pre
    refine decide_eq_false fun h=>h4 ?_
    have:=h.2
    rwa [Nat.zero_add] at this
   clear h4
   go_enter Tryz.func141,Tryz.ntmps141
   go_wp2_with fail
   go_ret
   exact ⟨kret_b HB.out.symm,rfl⟩
 ·have h1':decide ((s.size:Int)≥(t.size:Int))=false:=by simp;omega
  have HB:Hid (pre s 0 t=false):=by
   unfold pre
   exact decide_eq_false fun h=>h1 (by have:=h.1;omega)
  go_enter Tryz.func141,Tryz.ntmps141
  go_wp2_with fail
  go_ret
  exact ⟨kret_b HB.out.symm,rfl⟩
theorem hp_any (s t:ByteArray) (w:World) :
  Calls Tryz.prog 90 #[.string s,.string t] w fun e w'=>e=.returned (.bool (pre s 0 t))∧w'=w:=by
 go_enter Tryz.func90,Tryz.ntmps90
 go_wp2_with fail
 refine (hp_lite s t w).mono ?_
 rintro e w' ⟨rfl,rfl⟩
 generalize hb:pre s 0 t=b
 have HB:Hid (pre s 0 t=b):=hb
 clear hb
 go_wp2_with fail
 go_ret
 exact ⟨kret_b HB.out.symm,rfl⟩
theorem pre_tail (s t:ByteArray) (a:Nat) (ha:a≤s.size):pre (s.extract a s.size) 0 t=pre s a t:=by
 unfold pre
 rw [size_ext s a _ (Nat.le_refl _)]
 by_cases h:a+t.size≤s.size
 ·rw [Nat.zero_add,ext_tail s a t.size h]
  exact decide_eq_decide.2 ⟨fun ⟨_,h2⟩=>⟨h,h2⟩,fun ⟨_,h2⟩=>⟨by omega,h2⟩⟩
 ·rw [decide_eq_false (fun h2=>h (by have:=h2.1;omega)),decide_eq_false (fun h2=>h h2.1)]
set_option maxHeartbeats 1000000 in
theorem sign_in (s:ByteArray) (a:Nat) (w:World) (hT:STab w) (ha:a<s.size) :
  Calls Tryz.prog 142 #[.string s,.int .i64 a] w fun e w'=>e=.returned (.string (sg s a))∧Below w.heap.size w w':=by
 have h1:decide ((a:Int)<0)=false:=by simp
 have h2:decide ((a:Int)≥(s.size:Int))=false:=by simp;omega
 have h3:(0:Int)≤(a:Int):=by omega
 have h4:(a:Int)≤(s.size:Int):=by omega
 go_enter Tryz.func142,Tryz.ntmps142
 go_wp2_with fail
 go_loopw [14] (fun i wr=>∃k:Nat,k≤21∧i=.int .i64 k∧(∀j,j<k→pre s a (signL.getD j ByteArray.empty)=false)∧Below w.heap.size w wr) (fun i _=>21-(intOf i).toNat)
 case atStart=>exact ⟨0,by omega,rfl,fun j hj=>by omega,Below.refl _ _⟩
 case round=>
  obtain ⟨k,hk,rfl,hall,hb⟩:=hrel
  by_cases h21:k<21
  ·have c0:=(hT.below hb) k h21
   have i1:(0:Int)≤(k:Int):=by omega
   have i2:(k:Int)<21:=by omega
   have HH:Hid (pre s a (signL.getD k ByteArray.empty)=true→sg s a=signL.getD k ByteArray.empty):=sg_hit s a k h21 hall
   have HN:Hid (pre s a (signL.getD k ByteArray.empty)=false→∀j,j<k+1→pre s a (signL.getD j ByteArray.empty)=false):=fun h j hj=>by
    by_cases e:j=k
    ·subst e;exact h
    ·exact hall j (by omega)
   clear hall hT
   generalize signL.getD k ByteArray.empty=x at *
   have HC:Hid (∀W,Calls Tryz.prog 90 #[.string (s.extract a s.size),.string x] W fun e w'=>e=.returned (.bool (pre s a x))∧w'=W):=fun W=>by
    rw [←pre_tail s x a (by omega)];exact hp_any _ _ W
   cases hp:pre s a x
   ·rw [hp] at HC
    have HP:Hid (pre s a x=false):=hp
    clear hp HH
    go_wp2_with fail
    go_quiet ((go_at_call 90;exact Calls.quiet_of_same (HC.out _)))
    go_wp2_with fail
    exact ⟨⟨k+1,by omega,by go_num,HN.out HP.out,below_dn hb _⟩,by simp [intOf];omega⟩
   ·rw [hp] at HC
    have HP:Hid (pre s a x=true):=hp
    clear hp HN
    go_wp2_with fail
    go_quiet ((go_at_call 90;exact Calls.quiet_of_same (HC.out _)))
    go_wp2_with fail
    go_ret
    exact ⟨by rw [HH.out HP.out];rfl,below_dn hb _⟩
  ·have HM:Hid (sg s a=ByteArray.empty):=sg_miss s a (fun j hj=>hall j (by omega))
   clear hall hT
   go_wp2_with fail
   go_ret
   exact ⟨by rw [HM.out];rfl,hb⟩
end Go.Proofs.YtpdlohfdjiaegaaGreatDoor.Lx
namespace Go.Proofs.YtpdlohfdjiaegaaGreatDoor.Lx
open Go.RowKit
def nlF (s:ByteArray):Nat→Nat→Nat
 |0,i=>i
 |f+1,i=>if by8 s i=10 then i else nlF s f (i+1)
def nl (s:ByteArray) (i:Nat):Nat:=nlF s (s.size-i) i
theorem nlF_facts (s:ByteArray):∀f i,i≤nlF s f i∧nlF s f i≤i+f∧(∀j,i≤j→j<nlF s f i→by8 s j≠10)∧(nlF s f i<i+f→by8 s (nlF s f i)=10)
 |0,i=>by
  show i≤i∧i≤i+0∧_∧_
  exact ⟨Nat.le_refl _,Nat.le_refl _,fun j h1 h2=>by unfold nlF at h2;omega,fun h=>by unfold nlF at h;omega⟩
 |f+1,i=>by
  unfold nlF
  by_cases h:by8 s i=10
  ·rw [if_pos h]
   exact ⟨Nat.le_refl _,by omega,fun j h1 h2=>by omega,fun _=>h⟩
  ·rw [if_neg h]
   obtain ⟨h1,h2,h3,h4⟩:=nlF_facts s f (i+1)
   refine ⟨by omega,by omega,fun j h5 h6=>?_,fun h5=>h4 (by omega)⟩
   by_cases e:j=i
   ·rw [e];exact h
   ·exact h3 j (by omega) h6
theorem nl_facts (s:ByteArray) (i:Nat) (h:i≤s.size):i≤nl s i∧nl s i≤s.size∧(∀j,i≤j→j<nl s i→by8 s j≠10)∧(nl s i<s.size→by8 s (nl s i)=10):=by
 obtain ⟨h1,h2,h3,h4⟩:=nlF_facts s (s.size-i) i
 exact ⟨h1,by unfold nl;omega,h3,fun h5=>h4 (by unfold nl at h5;omega)⟩
theorem nl_eq (s:ByteArray) (i j:Nat) (h:i≤j) (hj:j≤s.size) (hn:∀k,i≤k→k<j→by8 s k≠10) (he:j=s.size∨by8 s j=10):nl s i=j:=by
 obtain ⟨h1,h2,h3,h4⟩:=nl_facts s i (by omega)
 rcases Nat.lt_trichotomy (nl s i) j with hl|hl|hl
 ·exact absurd (h4 (by omega)) (hn _ h1 hl)
 ·exact hl
 ·rcases he with he|he
  ·omega
  ·exact absurd he (h3 j h hl)
def cn (s:ByteArray):Nat→Nat
 |0=>0
 |i+1=>cn s i+(if by8 s i=10 then 1 else 0)
def lf (s:ByteArray):Nat→Nat
 |0=>0
 |i+1=>if by8 s i=10 then i+1 else lf s i
def bg (s:ByteArray):Nat→Nat
 |0=>0
 |k+1=>nl s (bg s k)+1
theorem cn_step (s:ByteArray) (i:Nat):(by8 s i=10∧cn s (i+1)=cn s i+1)∨(by8 s i≠10∧cn s (i+1)=cn s i):=by
 show (_∧cn s i+_=_)∨(_∧cn s i+_=_)
 by_cases h:by8 s i=10
 ·rw [if_pos h];exact .inl ⟨h,rfl⟩
 ·rw [if_neg h];exact .inr ⟨h,rfl⟩
theorem cn_mono (s:ByteArray) (i:Nat):∀d,cn s i≤cn s (i+d)
 |0=>Nat.le_refl _
 |d+1=>by
  have h:=cn_mono s i d
  have:=cn_step s (i+d)
  rw [←Nat.add_assoc];omega
theorem cn_mono' (s:ByteArray) {i j:Nat}(h:i≤j):cn s i≤cn s j:=by
 have:=cn_mono s i (j-i);rw [show i+(j-i)=j by omega] at this;exact this
theorem cn_le (s:ByteArray):∀i,cn s i≤i
 |0=>Nat.le_refl _
 |i+1=>by have:=cn_le s i;have:=cn_step s i;omega
theorem cn_const (s:ByteArray) (i:Nat):∀d,(∀k,i≤k→k<i+d→by8 s k≠10)→cn s (i+d)=cn s i
 |0,_=>rfl
 |d+1,h=>by
  have ih:=cn_const s i d (fun k h1 h2=>h k h1 (by omega))
  rcases cn_step s (i+d) with ⟨h1,_⟩|⟨_,h2⟩
  ·exact absurd h1 (h _ (by omega) (by omega))
  ·rw [←Nat.add_assoc];omega
theorem cn_const' (s:ByteArray) {i j:Nat}(h:i≤j) (hn:∀k,i≤k→k<j→by8 s k≠10):cn s j=cn s i:=by
 have:=cn_const s i (j-i) (fun k h1 h2=>hn k h1 (by omega));rw [show i+(j-i)=j by omega] at this;exact this
theorem lf_facts (s:ByteArray):∀i,lf s i≤i∧(∀j,lf s i≤j→j<i→by8 s j≠10)∧(lf s i=0∨(1≤lf s i∧by8 s (lf s i-1)=10))
 |0=>⟨Nat.le_refl _,fun j _ h=>by omega,.inl rfl⟩
 |i+1=>by
  unfold lf
  by_cases h:by8 s i=10
  ·rw [if_pos h]
   exact ⟨Nat.le_refl _,fun j h1 h2=>by omega,.inr ⟨by omega,h⟩⟩
  ·rw [if_neg h]
   obtain ⟨h1,h2,h3⟩:=lf_facts s i
   refine ⟨by omega,fun j h4 h5=>?_,h3⟩
   by_cases e:j=i
   ·rw [e];exact h
   ·exact h2 j h4 (by omega)
theorem lf_step (s:ByteArray) (i:Nat):lf s (i+1)=if by8 s i=10 then i+1 else lf s i:=rfl
theorem lf_zero (s:ByteArray):∀i,cn s i=0→lf s i=0
 |0,_=>rfl
 |i+1,h=>by
  rcases cn_step s i with ⟨_,h2⟩|⟨h1,h2⟩
  ·omega
  ·rw [lf_step,if_neg h1];exact lf_zero s i (by omega)
theorem bg_lf (s:ByteArray):∀i,i≤s.size→bg s (cn s i)=lf s i
 |0,_=>rfl
 |i+1,h=>by
  have ih:=bg_lf s i (by omega)
  rw [lf_step]
  rcases cn_step s i with ⟨h1,h2⟩|⟨h1,h2⟩
  ·rw [h2,if_pos h1]
   show nl s (bg s (cn s i))+1=_
   obtain ⟨f1,f2,_⟩:=lf_facts s i
   rw [ih,nl_eq s (lf s i) i f1 (by omega) f2 (.inr h1)]
  ·rw [h2,if_neg h1,ih]
theorem nl_more (s:ByteArray) (i:Nat) (hi:i≤s.size):(nl s i<s.size∧cn s i<cn s s.size∧cn s (nl s i+1)=cn s i+1∧cn s (nl s i)=cn s i)∨(nl s i=s.size∧cn s i=cn s s.size):=by
 obtain ⟨h1,h2,h3,h4⟩:=nl_facts s i hi
 have hc:=cn_const' s h1 h3
 by_cases h:nl s i<s.size
 ·have e:=h4 h
  rcases cn_step s (nl s i) with ⟨_,h5⟩|⟨h5,_⟩
  ·have:=cn_mono' s (i:=nl s i+1) (j:=s.size) (by omega)
   exact .inl ⟨h,by omega,by omega,hc⟩
  ·exact absurd e h5
 ·have e:nl s i=s.size:=by omega
  rw [e] at hc
  exact .inr ⟨e,hc.symm⟩
theorem bg_facts (s:ByteArray):∀k,k≤cn s s.size→bg s k≤s.size∧cn s (bg s k)=k
 |0,_=>⟨Nat.zero_le _,rfl⟩
 |k+1,h=>by
  obtain ⟨h1,h2⟩:=bg_facts s k (by omega)
  show nl s (bg s k)+1≤_∧cn s (nl s (bg s k)+1)=_
  rcases nl_more s (bg s k) h1 with ⟨a,b,c,_⟩|⟨a,b⟩
  ·exact ⟨by omega,by omega⟩
  ·omega
theorem nl_bg (s:ByteArray) (k:Nat) (h:k≤cn s s.size):bg s k≤nl s (bg s k)∧nl s (bg s k)≤s.size∧(nl s (bg s k)<s.size↔k<cn s s.size):=by
 obtain ⟨h1,h2⟩:=bg_facts s k h
 obtain ⟨h3,h4,_⟩:=nl_facts s (bg s k) h1
 refine ⟨h3,h4,?_⟩
 rcases nl_more s (bg s k) h1 with ⟨a,b,c,_⟩|⟨a,b⟩
 ·omega
 ·omega
def ln (s:ByteArray) (k:Nat):ByteArray:=s.extract (bg s k) (nl s (bg s k))
theorem ln_size (s:ByteArray) (k:Nat) (h:k≤cn s s.size):(ln s k).size≤s.size:=by
 have:=nl_bg s k h
 unfold ln;rw [size_ext _ _ _ this.2.1];omega
theorem bg_last (s:ByteArray):bg s (cn s s.size)=lf s s.size:=bg_lf s _ (Nat.le_refl _)
theorem ln_last (s:ByteArray):ln s (cn s s.size)=s.extract (lf s s.size) s.size:=by
 unfold ln
 rw [bg_last]
 obtain ⟨f1,f2,_⟩:=lf_facts s s.size
 rw [nl_eq s (lf s s.size) s.size f1 (Nat.le_refl _) f2 (.inl rfl)]
theorem st_step (s:ByteArray) (k:Nat):st s k≤st s (k+1):=by
 by_cases h:k<(P s).length
 ·have:=st_succ s k h;omega
 ·rw [st_end s k (by omega),st_end s (k+1) (by omega)];omega
theorem st_mono (s:ByteArray) (i j:Nat) (h:i≤j):st s i≤st s j:=by
 obtain ⟨d,rfl⟩:∃d,j=i+d:=⟨j-i,by omega⟩
 clear h
 induction d with
 |zero=>exact Nat.le_refl _
 |succ d ih=>have:=st_step s (i+d);rw [←Nat.add_assoc];omega
theorem st_strict (s:ByteArray) (i j:Nat) (h:i<j) (hj:j≤(P s).length):st s i<st s j:=by
 have e:=st_succ s i (by omega)
 have hw:=dw_facts s (st s i) ((st_lt s i).2 (by omega))
 have:=st_mono s (i+1) j h
 omega
def hd (s:ByteArray) (k:Nat):ByteArray:=s.extract 0 (st s k)
theorem hd_size (s:ByteArray) (k:Nat):(hd s k).size=st s k:=by
 unfold hd;rw [size_ext s 0 _ (st_le s k)];omega
theorem st_hd (s:ByteArray) (k:Nat) (hk:k≤(P s).length):∀j,j≤k→st (hd s k) j=st s j
 |0,_=>rfl
 |j+1,h=>by
  have ih:=st_hd s k hk j (by omega)
  have e:=st_succ s j (by omega)
  have hw:=dw_facts s (st s j) ((st_lt s j).2 (by omega))
  have hm:=st_mono s (j+1) k h
  have hd':Utf8.decode (hd s k) (st s j)=Utf8.decode s (st s j):=dec_head s (st s k) (st s j) (st_le s k) (by omega) (by omega)
  have hl:j<(P (hd s k)).length:=(st_lt _ j).1 (by rw [ih,hd_size];omega)
  rw [st_succ _ j hl,ih,e]
  unfold dw
  rw [hd']
theorem P_hd (s:ByteArray) (k:Nat) (hk:k≤(P s).length):(P (hd s k)).length=k:=by
 have h1:¬k<(P (hd s k)).length:=by
  rw [←st_lt,st_hd s k hk k (Nat.le_refl _),hd_size];omega
 by_cases h0:k=0
 ·omega
 ·have e:=st_succ s (k-1) (by omega)
  have hw:=dw_facts s (st s (k-1)) ((st_lt s _).2 (by omega))
  rw [show k-1+1=k by omega] at e
  have h2:k-1<(P (hd s k)).length:=by
   rw [←st_lt,st_hd s k hk _ (by omega),hd_size];omega
  omega
theorem plc_tail (s:ByteArray) (a:Nat) (ha:a≤s.size):∀f i,plc s f (a+i)=(plc (s.extract a s.size) f i).map (fun k=>a+k)
 |0,_=>rfl
 |f+1,i=>by
  unfold plc
  rw [size_ext s a _ (Nat.le_refl _)]
  by_cases h:a+i<s.size
  ·rw [if_pos h,if_pos (by omega),List.map_cons]
   have e:dw (s.extract a s.size) i=dw s (a+i):=by unfold dw;rw [decode_tail s a i ha]
   rw [e,Nat.add_assoc,plc_tail s a ha f (i+dw s (a+i))]
  ·rw [if_neg h,if_neg (by omega)];rfl
theorem P_tail (s:ByteArray) (k:Nat) (hk:k≤(P s).length):(P (s.extract (st s k) s.size)).length=(P s).length-k:=by
 have h:=plc_tail s (st s k) (st_le s k) (s.size-st s k) 0
 have e:pl s (st s k)=(P (s.extract (st s k) s.size)).map (fun j=>st s k+j):=by
  unfold P pl
  rw [size_ext s _ _ (Nat.le_refl _)]
  exact h
 rw [pl_st] at e
 have:=congrArg List.length e
 simp at this
 omega
theorem ext_ext (s:ByteArray) (a b c d:Nat) (hb:b≤s.size) (hd:a+d≤b) (hc:c≤d):(s.extract a b).extract c d=s.extract (a+c) (a+d):=by
 have z1:=size_ext s a b hb
 have z2:=size_ext (s.extract a b) c d (by omega)
 have z3:=size_ext s (a+c) (a+d) (by omega)
 refine ba_ext _ _ (by omega) fun k hk=>?_
 rw [get_ext,if_pos (by omega),get_ext,if_pos (by omega),get_ext,if_pos (by omega),Nat.add_assoc]
theorem P_mid (s:ByteArray) (a b:Nat) (hab:a≤b) (hb:b≤(P s).length):(P (s.extract (st s a) (st s b))).length=b-a:=by
 have h1:=P_hd s b hb
 have h2:=st_hd s b hb a hab
 have h3:=P_tail (hd s b) a (by omega)
 rw [h1,h2,hd_size] at h3
 have hm:=st_mono s a b hab
 have e:(hd s b).extract (st s a) (st s b)=s.extract (st s a) (st s b):=by
  unfold hd
  rw [ext_ext s 0 (st s b) _ _ (st_le s b) (by omega) hm,Nat.zero_add,Nat.zero_add]
 rw [e] at h3
 exact h3
def bd (s:ByteArray) (b:Nat):Prop:=∃k,k≤(P s).length∧st s k=b
theorem bd_zero (s:ByteArray):bd s 0:=⟨0,Nat.zero_le _,rfl⟩
theorem bd_size (s:ByteArray):bd s s.size:=⟨_,Nat.le_refl _,st_end s _ (Nat.le_refl _)⟩
theorem bd_le {s:ByteArray}{b:Nat}(h:bd s b):b≤s.size:=by obtain ⟨k,_,rfl⟩:=h;exact st_le s k
theorem cnt_join {s:ByteArray}{a b c:Nat}(ha:bd s a) (hb:bd s b) (hc:bd s c) (hab:a≤b) (hbc:b≤c) :
  (P (s.extract a b)).length+(P (s.extract b c)).length=(P (s.extract a c)).length:=by
 obtain ⟨i,hi,rfl⟩:=ha
 obtain ⟨j,hj,rfl⟩:=hb
 obtain ⟨k,hk,rfl⟩:=hc
 have h1:i≤j:=by
  apply Classical.byContradiction;intro h
  have:=st_strict s j i (by omega) hi;omega
 have h2:j≤k:=by
  apply Classical.byContradiction;intro h
  have:=st_strict s k j (by omega) hj;omega
 rw [P_mid s i j h1 hj,P_mid s j k h2 hk,P_mid s i k (by omega) hk];omega
theorem dw_ten (s:ByteArray) (i:Nat) (h:by8 s i=10):dw s i=1:=by
 unfold dw;rw [decode_eq,h];rfl
theorem lt_of_ten (s:ByteArray) (j:Nat) (h:by8 s j=10):j<s.size:=by
 apply Classical.byContradiction;intro hn
 have:by8 s j=0:=at_big s j (by omega)
 omega
theorem bd_ten (s:ByteArray) (j:Nat) (h:by8 s j=10):bd s j∧bd s (j+1):=by
 have hj:=lt_of_ten s j h
 obtain ⟨m,h1,h2,h3,h4,h5⟩:=st_cover s j (P s).length (by rw [st_end s _ (Nat.le_refl _)];exact hj)
 have e:st s m=j:=by
  apply Classical.byContradiction;intro hne
  have:=(dec_inner s (st s m) (j-st s m) (by omega) (by omega)).2
  rw [show st s m+(j-st s m)=j by omega,h] at this
  omega
 refine ⟨⟨m,by omega,e⟩,⟨m+1,by omega,?_⟩⟩
 rw [st_succ s m h2,e,dw_ten s j h]
theorem bd_lf (s:ByteArray) (i:Nat):bd s (lf s i):=by
 rcases (lf_facts s i).2.2 with h|⟨h1,h2⟩
 ·rw [h];exact bd_zero s
 ·have:=(bd_ten s _ h2).2
  rw [show lf s i-1+1=lf s i by omega] at this
  exact this
theorem cn_head (s:ByteArray) (a:Nat):∀i,i≤a→cn (s.extract 0 a) i=cn s i
 |0,_=>rfl
 |i+1,h=>by
  show cn _ i+_=cn s i+_
  rw [cn_head s a i (by omega),by8_head s a i (by omega)]
theorem lf_head (s:ByteArray) (a:Nat):∀i,i≤a→lf (s.extract 0 a) i=lf s i
 |0,_=>rfl
 |i+1,h=>by
  rw [lf_step,lf_step,lf_head s a i (by omega),by8_head s a i (by omega)]
theorem cn_tail (s:ByteArray) (a:Nat):∀i,a+i≤s.size→cn s (a+i)=cn s a+cn (s.extract a s.size) i
 |0,_=>rfl
 |i+1,h=>by
  show cn s (a+i)+_=_+(cn _ i+_)
  rw [cn_tail s a i (by omega),by8_ext' s a s.size i (by omega),Nat.add_assoc];rfl
theorem lf_tail (s:ByteArray) (a:Nat):∀i,a+i≤s.size→lf s (a+i)=if cn (s.extract a s.size) i=0 then lf s a else a+lf (s.extract a s.size) i
 |0,_=>rfl
 |i+1,h=>by
  have ih:=lf_tail s a i (by omega)
  have e:=by8_ext' s a s.size i (by omega)
  rw [←Nat.add_assoc,lf_step,lf_step,e]
  rcases cn_step (s.extract a s.size) i with ⟨h1,h2⟩|⟨h1,h2⟩
  ·rw [e] at h1
   rw [if_pos h1,if_pos h1,if_neg (by omega)];rfl
  ·rw [e] at h1
   rw [if_neg h1,if_neg h1,h2,ih]
def aLine (l:Int) (s:ByteArray):Int:=wrap64 (l+cn s s.size)
def aCol (c:Int) (s:ByteArray):Int:=wrap64 ((if cn s s.size=0 then c else 1)+(P (s.extract (lf s s.size) s.size)).length)
def aAt (a:Int) (s:ByteArray):Int:=wrap64 (a+s.size)
theorem wrap_add (a b:Int):wrap64 (wrap64 a+b)=wrap64 (a+b):=by unfold wrap64;omega
theorem line_join (s:ByteArray) (w:Nat) (hw:w≤s.size) (l:Int):aLine (aLine l (s.extract 0 w)) (s.extract w s.size)=aLine l s:=by
 unfold aLine
 have z1:=size_ext s 0 w hw
 have z2:=size_ext s w s.size (Nat.le_refl _)
 have h:=cn_tail s w (s.size-w) (by omega)
 rw [show w+(s.size-w)=s.size by omega] at h
 rw [z1,z2,h,cn_head s w _ (by omega),Nat.sub_zero,wrap_add]
 congr 1;omega
theorem col_join (s:ByteArray) (w:Nat) (hw:bd s w) (c:Int):aCol (aCol c (s.extract 0 w)) (s.extract w s.size)=aCol c s:=by
 have hws:=bd_le hw
 have z1:=size_ext s 0 w hws
 have z2:=size_ext s w s.size (Nat.le_refl _)
 have h:=cn_tail s w (s.size-w) (by omega)
 have hl:=lf_tail s w (s.size-w) (by omega)
 rw [show w+(s.size-w)=s.size by omega] at h hl
 have f:=lf_facts s w
 have f2:=lf_facts (s.extract w s.size) (s.size-w)
 unfold aCol
 rw [z1,z2,cn_head s w _ (by omega),lf_head s w _ (by omega),Nat.sub_zero]
 rw [ext_ext s 0 w _ _ hws (by omega) f.1,Nat.zero_add,Nat.zero_add]
 rw [ext_ext s w s.size _ _ (Nat.le_refl _) (by omega) f2.1,show w+(s.size-w)=s.size by omega]
 by_cases hz:cn (s.extract w s.size) (s.size-w)=0
 ·rw [if_pos hz] at hl ⊢
  rw [hl,h,hz,Nat.add_zero,lf_zero _ _ hz,Nat.add_zero,wrap_add,←cnt_join (bd_lf s w) hw (bd_size s) f.1 hws]
  congr 1;omega
 ·rw [if_neg hz] at hl ⊢
  rw [hl,h,if_neg (by omega)]
theorem pr_of_lt {p:Int}(h:lt' p=true):pr' p=true:=by unfold pr';rw [h];rfl
end Go.Proofs.YtpdlohfdjiaegaaGreatDoor.Lx
