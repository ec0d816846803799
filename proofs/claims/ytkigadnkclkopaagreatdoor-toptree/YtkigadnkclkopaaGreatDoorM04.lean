import Derived.Test.YtkigadnkclkopaaGreatDoorM01
import Derived.Test.YtkigadnkclkopaaGreatDoorM03
set_option linter.unusedVariables false
set_option linter.unusedSimpArgs false
namespace Go.Proofs.YtkigadnkclkopaaGreatDoor.Lx
open Go.RowKit
def nlF (s:ByteArray):Nat→Nat→Nat
 |0,i=>i
 |f+1,i=>if by8 s i=10 then i else nlF s f (i+1)
def nl (s:ByteArray) (i:Nat):Nat:=nlF s (s.size-i) i
theorem nlF_facts (s:ByteArray):∀f i,i≤nlF s f i∧nlF s f i≤i+f∧(∀j,i≤j→j<nlF s f i→by8 s j≠10)∧(nlF s f i<i+f→by8 s (nlF s f i)=10)
 |0,i=>by
  show i≤i∧i≤i+0∧_∧_
  exact ⟨Nat.le_refl _,Nat.le_refl _,fun j h1 h2=>by unfold nlF at h2;omega,fun h=>by unfold nlF at h;omega⟩
 |f+1,i=>by
  unfold nlF
  by_cases h:by8 s i=10
  ·rw [if_pos h]
   exact ⟨Nat.le_refl _,by omega,fun j h1 h2=>by omega,fun _=>h⟩
  ·rw [if_neg h]
   obtain ⟨h1,h2,h3,h4⟩:=nlF_facts s f (i+1)
   refine ⟨by omega,by omega,fun j h5 h6=>?_,fun h5=>h4 (by omega)⟩
   by_cases e:j=i
   ·rw [e];exact h
   ·exact h3 j (by omega) h6
theorem nl_facts (s:ByteArray) (i:Nat) (h:i≤s.size):i≤nl s i∧nl s i≤s.size∧(∀j,i≤j→j<nl s i→by8 s j≠10)∧(nl s i<s.size→by8 s (nl s i)=10):=by
 obtain ⟨h1,h2,h3,h4⟩:=nlF_facts s (s.size-i) i
 exact ⟨h1,by unfold nl;omega,h3,fun h5=>h4 (by unfold nl at h5;omega)⟩
theorem nl_eq (s:ByteArray) (i j:Nat) (h:i≤j) (hj:j≤s.size) (hn:∀k,i≤k→k<j→by8 s k≠10) (he:j=s.size∨by8 s j=10):nl s i=j:=by
 obtain ⟨h1,h2,h3,h4⟩:=nl_facts s i (by omega)
 rcases Nat.lt_trichotomy (nl s i) j with hl|hl|hl
 ·exact absurd (h4 (by omega)) (hn _ h1 hl)
 ·exact hl
 ·rcases he with he|he
  ·omega
  ·exact absurd he (h3 j h hl)
def cn (s:ByteArray):Nat→Nat
 |0=>0
 |i+1=>cn s i+(if by8 s i=10 then 1 else 0)
def lf (s:ByteArray):Nat→Nat
 |0=>0
 |i+1=>if by8 s i=10 then i+1 else lf s i
def bg (s:ByteArray):Nat→Nat
 |0=>0
 |k+1=>nl s (bg s k)+1
theorem cn_step (s:ByteArray) (i:Nat):(by8 s i=10∧cn s (i+1)=cn s i+1)∨(by8 s i≠10∧cn s (i+1)=cn s i):=by
 show (_∧cn s i+_=_)∨(_∧cn s i+_=_)
 by_cases h:by8 s i=10
 ·rw [if_pos h];exact .inl ⟨h,rfl⟩
 ·rw [if_neg h];exact .inr ⟨h,rfl⟩
theorem cn_mono (s:ByteArray) (i:Nat):∀d,cn s i≤cn s (i+d)
 |0=>Nat.le_refl _
 |d+1=>by
  have h:=cn_mono s i d
  have:=cn_step s (i+d)
  rw [←Nat.add_assoc];omega
theorem cn_mono' (s:ByteArray) {i j:Nat}(h:i≤j):cn s i≤cn s j:=by
 have:=cn_mono s i (j-i);rw [show i+(j-i)=j by omega] at this;exact this
theorem cn_le (s:ByteArray):∀i,cn s i≤i
 |0=>Nat.le_refl _
 |i+1=>by have:=cn_le s i;have:=cn_step s i;omega
theorem cn_const (s:ByteArray) (i:Nat):∀d,(∀k,i≤k→k<i+d→by8 s k≠10)→cn s (i+d)=cn s i
 |0,_=>rfl
 |d+1,h=>by
  have ih:=cn_const s i d (fun k h1 h2=>h k h1 (by omega))
  rcases cn_step s (i+d) with ⟨h1,_⟩|⟨_,h2⟩
  ·exact absurd h1 (h _ (by omega) (by omega))
  ·rw [←Nat.add_assoc];omega
theorem cn_const' (s:ByteArray) {i j:Nat}(h:i≤j) (hn:∀k,i≤k→k<j→by8 s k≠10):cn s j=cn s i:=by
 have:=cn_const s i (j-i) (fun k h1 h2=>hn k h1 (by omega));rw [show i+(j-i)=j by omega] at this;exact this
theorem lf_facts (s:ByteArray):∀i,lf s i≤i∧(∀j,lf s i≤j→j<i→by8 s j≠10)∧(lf s i=0∨(1≤lf s i∧by8 s (lf s i-1)=10))
 |0=>⟨Nat.le_refl _,fun j _ h=>by omega,.inl rfl⟩
 |i+1=>by
  unfold lf
  by_cases h:by8 s i=10
  ·rw [if_pos h]
   exact ⟨Nat.le_refl _,fun j h1 h2=>by omega,.inr ⟨by omega,h⟩⟩
  ·rw [if_neg h]
   obtain ⟨h1,h2,h3⟩:=lf_facts s i
   refine ⟨by omega,fun j h4 h5=>?_,h3⟩
   by_cases e:j=i
   ·rw [e];exact h
   ·exact h2 j h4 (by omega)
theorem lf_step (s:ByteArray) (i:Nat):lf s (i+1)=if by8 s i=10 then i+1 else lf s i:=rfl
theorem lf_zero (s:ByteArray):∀i,cn s i=0→lf s i=0
 |0,_=>rfl
 |i+1,h=>by
  rcases cn_step s i with ⟨_,h2⟩|⟨h1,h2⟩
  ·omega
  ·rw [lf_step,if_neg h1];exact lf_zero s i (by omega)
theorem bg_lf (s:ByteArray):∀i,i≤s.size→bg s (cn s i)=lf s i
 |0,_=>rfl
 |i+1,h=>by
  have ih:=bg_lf s i (by omega)
  rw [lf_step]
  rcases cn_step s i with ⟨h1,h2⟩|⟨h1,h2⟩
  ·rw [h2,if_pos h1]
   show nl s (bg s (cn s i))+1=_
   obtain ⟨f1,f2,_⟩:=lf_facts s i
   rw [ih,nl_eq s (lf s i) i f1 (by omega) f2 (.inr h1)]
  ·rw [h2,if_neg h1,ih]
theorem nl_more (s:ByteArray) (i:Nat) (hi:i≤s.size):(nl s i<s.size∧cn s i<cn s s.size∧cn s (nl s i+1)=cn s i+1∧cn s (nl s i)=cn s i)∨(nl s i=s.size∧cn s i=cn s s.size):=by
 obtain ⟨h1,h2,h3,h4⟩:=nl_facts s i hi
 have hc:=cn_const' s h1 h3
 by_cases h:nl s i<s.size
 ·have e:=h4 h
  rcases cn_step s (nl s i) with ⟨_,h5⟩|⟨h5,_⟩
  ·have:=cn_mono' s (i:=nl s i+1) (j:=s.size) (by omega)
   exact .inl ⟨h,by omega,by omega,hc⟩
  ·exact absurd e h5
 ·have e:nl s i=s.size:=by omega
  rw [e] at hc
  exact .inr ⟨e,hc.symm⟩
theorem bg_facts (s:ByteArray):∀k,k≤cn s s.size→bg s k≤s.size∧cn s (bg s k)=k
 |0,_=>⟨Nat.zero_le _,rfl⟩
 |k+1,h=>by
  obtain ⟨h1,h2⟩:=bg_facts s k (by omega)
  show nl s (bg s k)+1≤_∧cn s (nl s (bg s k)+1)=_
  rcases nl_more s (bg s k) h1 with ⟨a,b,c,_⟩|⟨a,b⟩
  ·exact ⟨by omega,by omega⟩
  ·omega
theorem nl_bg (s:ByteArray) (k:Nat) (h:k≤cn s s.size):bg s k≤nl s (bg s k)∧nl s (bg s k)≤s.size∧(nl s (bg s k)<s.size↔k<cn s s.size):=by
 obtain ⟨h1,h2⟩:=bg_facts s k h
 obtain ⟨h3,h4,_⟩:=nl_facts s (bg s k) h1
 refine ⟨h3,h4,?_⟩
 rcases nl_more s (bg s k) h1 with ⟨a,b,c,_⟩|⟨a,b⟩
 ·omega
 ·omega
def ln (s:ByteArray) (k:Nat):ByteArray:=s.extract (bg s k) (nl s (bg s k))
theorem ln_size (s:ByteArray) (k:Nat) (h:k≤cn s s.size):(ln s k).size≤s.size:=by
 have:=nl_bg s k h
 unfold ln;rw [size_ext _ _ _ this.2.1];omega
theorem bg_last (s:ByteArray):bg s (cn s s.size)=lf s s.size:=bg_lf s _ (Nat.le_refl _)
theorem ln_last (s:ByteArray):ln s (cn s s.size)=s.extract (lf s s.size) s.size:=by
 unfold ln
 rw [bg_last]
 obtain ⟨f1,f2,_⟩:=lf_facts s s.size
 rw [nl_eq s (lf s s.size) s.size f1 (Nat.le_refl _) f2 (.inl rfl)]
theorem st_step (s:ByteArray) (k:Nat):st s k≤st s (k+1):=by
 by_cases h:k<(P s).length
 ·have:=st_succ s k h;omega
 ·rw [st_end s k (by omega),st_end s (k+1) (by omega)];omega
theorem st_mono (s:ByteArray) (i j:Nat) (h:i≤j):st s i≤st s j:=by
 obtain ⟨d,rfl⟩:∃d,j=i+d:=⟨j-i,by omega⟩
 clear h
 induction d with
 |zero=>exact Nat.le_refl _
 |succ d ih=>have:=st_step s (i+d);rw [←Nat.add_assoc];omega
theorem st_strict (s:ByteArray) (i j:Nat) (h:i<j) (hj:j≤(P s).length):st s i<st s j:=by
 have e:=st_succ s i (by omega)
 have hw:=dw_facts s (st s i) ((st_lt s i).2 (by omega))
 have:=st_mono s (i+1) j h
 omega
def hd (s:ByteArray) (k:Nat):ByteArray:=s.extract 0 (st s k)
theorem hd_size (s:ByteArray) (k:Nat):(hd s k).size=st s k:=by
 unfold hd;rw [size_ext s 0 _ (st_le s k)];omega
theorem st_hd (s:ByteArray) (k:Nat) (hk:k≤(P s).length):∀j,j≤k→st (hd s k) j=st s j
 |0,_=>rfl
 |j+1,h=>by
  have ih:=st_hd s k hk j (by omega)
  have e:=st_succ s j (by omega)
  have hw:=dw_facts s (st s j) ((st_lt s j).2 (by omega))
  have hm:=st_mono s (j+1) k h
  have hd':Utf8.decode (hd s k) (st s j)=Utf8.decode s (st s j):=dec_head s (st s k) (st s j) (st_le s k) (by omega) (by omega)
  have hl:j<(P (hd s k)).length:=(st_lt _ j).1 (by rw [ih,hd_size];omega)
  rw [st_succ _ j hl,ih,e]
  unfold dw
  rw [hd']
theorem P_hd (s:ByteArray) (k:Nat) (hk:k≤(P s).length):(P (hd s k)).length=k:=by
 have h1:¬k<(P (hd s k)).length:=by
  rw [←st_lt,st_hd s k hk k (Nat.le_refl _),hd_size];omega
 by_cases h0:k=0
 ·omega
 ·have e:=st_succ s (k-1) (by omega)
  have hw:=dw_facts s (st s (k-1)) ((st_lt s _).2 (by omega))
  rw [show k-1+1=k by omega] at e
  have h2:k-1<(P (hd s k)).length:=by
   rw [←st_lt,st_hd s k hk _ (by omega),hd_size];omega
  omega
theorem plc_tail (s:ByteArray) (a:Nat) (ha:a≤s.size):∀f i,plc s f (a+i)=(plc (s.extract a s.size) f i).map (fun k=>a+k)
 |0,_=>rfl
 |f+1,i=>by
  unfold plc
  rw [size_ext s a _ (Nat.le_refl _)]
  by_cases h:a+i<s.size
  ·rw [if_pos h,if_pos (by omega),List.map_cons]
   have e:dw (s.extract a s.size) i=dw s (a+i):=by unfold dw;rw [decode_tail s a i ha]
   rw [e,Nat.add_assoc,plc_tail s a ha f (i+dw s (a+i))]
  ·rw [if_neg h,if_neg (by omega)];rfl
theorem P_tail (s:ByteArray) (k:Nat) (hk:k≤(P s).length):(P (s.extract (st s k) s.size)).length=(P s).length-k:=by
 have h:=plc_tail s (st s k) (st_le s k) (s.size-st s k) 0
 have e:pl s (st s k)=(P (s.extract (st s k) s.size)).map (fun j=>st s k+j):=by
  unfold P pl
  rw [size_ext s _ _ (Nat.le_refl _)]
  exact h
 rw [pl_st] at e
 have:=congrArg List.length e
 simp at this
 omega
theorem ext_ext (s:ByteArray) (a b c d:Nat) (hb:b≤s.size) (hd:a+d≤b) (hc:c≤d):(s.extract a b).extract c d=s.extract (a+c) (a+d):=by
 have z1:=size_ext s a b hb
 have z2:=size_ext (s.extract a b) c d (by omega)
 have z3:=size_ext s (a+c) (a+d) (by omega)
 refine ba_ext _ _ (by omega) fun k hk=>?_
 rw [get_ext,if_pos (by omega),get_ext,if_pos (by omega),get_ext,if_pos (by omega),Nat.add_assoc]
theorem P_mid (s:ByteArray) (a b:Nat) (hab:a≤b) (hb:b≤(P s).length):(P (s.extract (st s a) (st s b))).length=b-a:=by
 have h1:=P_hd s b hb
 have h2:=st_hd s b hb a hab
 have h3:=P_tail (hd s b) a (by omega)
 rw [h1,h2,hd_size] at h3
 have hm:=st_mono s a b hab
 have e:(hd s b).extract (st s a) (st s b)=s.extract (st s a) (st s b):=by
  unfold hd
  rw [ext_ext s 0 (st s b) _ _ (st_le s b) (by omega) hm,Nat.zero_add,Nat.zero_add]
 rw [e] at h3
 exact h3
def bd (s:ByteArray) (b:Nat):Prop:=∃k,k≤(P s).length∧st s k=b
theorem bd_zero (s:ByteArray):bd s 0:=⟨0,Nat.zero_le _,rfl⟩
theorem bd_size (s:ByteArray):bd s s.size:=⟨_,Nat.le_refl _,st_end s _ (Nat.le_refl _)⟩
theorem bd_le {s:ByteArray}{b:Nat}(h:bd s b):b≤s.size:=by obtain ⟨k,_,rfl⟩:=h;exact st_le s k
theorem cnt_join {s:ByteArray}{a b c:Nat}(ha:bd s a) (hb:bd s b) (hc:bd s c) (hab:a≤b) (hbc:b≤c) :
  (P (s.extract a b)).length+(P (s.extract b c)).length=(P (s.extract a c)).length:=by
 obtain ⟨i,hi,rfl⟩:=ha
 obtain ⟨j,hj,rfl⟩:=hb
 obtain ⟨k,hk,rfl⟩:=hc
 have h1:i≤j:=by
  apply Classical.byContradiction;intro h
  have:=st_strict s j i (by omega) hi;omega
 have h2:j≤k:=by
  apply Classical.byContradiction;intro h
  have:=st_strict s k j (by omega) hj;omega
 rw [P_mid s i j h1 hj,P_mid s j k h2 hk,P_mid s i k (by omega) hk];omega
theorem dw_ten (s:ByteArray) (i:Nat) (h:by8 s i=10):dw s i=1:=by
 unfold dw;rw [decode_eq,h];rfl
theorem lt_of_ten (s:ByteArray) (j:Nat) (h:by8 s j=10):j<s.size:=by
 apply Classical.byContradiction;intro hn
 have:by8 s j=0:=at_big s j (by omega)
 omega
theorem bd_ten (s:ByteArray) (j:Nat) (h:by8 s j=10):bd s j∧bd s (j+1):=by
 have hj:=lt_of_ten s j h
 obtain ⟨m,h1,h2,h3,h4,h5⟩:=st_cover s j (P s).length (by rw [st_end s _ (Nat.le_refl _)];exact hj)
 have e:st s m=j:=by
  apply Classical.byContradiction;intro hne
  have:=(dec_inner s (st s m) (j-st s m) (by omega) (by omega)).2
  rw [show st s m+(j-st s m)=j by omega,h] at this
  omega
 refine ⟨⟨m,by omega,e⟩,⟨m+1,by omega,?_⟩⟩
 rw [st_succ s m h2,e,dw_ten s j h]
theorem bd_lf (s:ByteArray) (i:Nat):bd s (lf s i):=by
 rcases (lf_facts s i).2.2 with h|⟨h1,h2⟩
 ·rw [h];exact bd_zero s
 ·have:=(bd_ten s _ h2).2
  rw [show lf s i-1+1=lf s i by omega] at this
  exact this
theorem cn_head (s:ByteArray) (a:Nat):∀i,i≤a→cn (s.extract 0 a) i=cn s i
 |0,_=>rfl
 |i+1,h=>by
  show cn _ i+_=cn s i+_
  rw [cn_head s a i (by omega),by8_head s a i (by omega)]
theorem lf_head (s:ByteArray) (a:Nat):∀i,i≤a→lf (s.extract 0 a) i=lf s i
 |0,_=>rfl
 |i+1,h=>by
  rw [lf_step,lf_step,lf_head s a i (by omega),by8_head s a i (by omega)]
theorem cn_tail (s:ByteArray) (a:Nat):∀i,a+i≤s.size→cn s (a+i)=cn s a+cn (s.extract a s.size) i
 |0,_=>rfl
 |i+1,h=>by
  show cn s (a+i)+_=_+(cn _ i+_)
  rw [cn_tail s a i (by omega),by8_ext' s a s.size i (by omega),Nat.add_assoc];rfl
theorem lf_tail (s:ByteArray) (a:Nat):∀i,a+i≤s.size→lf s (a+i)=if cn (s.extract a s.size) i=0 then lf s a else a+lf (s.extract a s.size) i
 |0,_=>rfl
 |i+1,h=>by
  have ih:=lf_tail s a i (by omega)
  have e:=by8_ext' s a s.size i (by omega)
  rw [←Nat.add_assoc,lf_step,lf_step,e]
  rcases cn_step (s.extract a s.size) i with ⟨h1,h2⟩|⟨h1,h2⟩
  ·rw [e] at h1
   rw [if_pos h1,if_pos h1,if_neg (by omega)];rfl
  ·rw [e] at h1
   rw [if_neg h1,if_neg h1,h2,ih]
def aLine (l:Int) (s:ByteArray):Int:=wrap64 (l+cn s s.size)
def aCol (c:Int) (s:ByteArray):Int:=wrap64 ((if cn s s.size=0 then c else 1)+(P (s.extract (lf s s.size) s.size)).length)
def aAt (a:Int) (s:ByteArray):Int:=wrap64 (a+s.size)
theorem wrap_add (a b:Int):wrap64 (wrap64 a+b)=wrap64 (a+b):=by unfold wrap64;omega
theorem line_join (s:ByteArray) (w:Nat) (hw:w≤s.size) (l:Int):aLine (aLine l (s.extract 0 w)) (s.extract w s.size)=aLine l s:=by
 unfold aLine
 have z1:=size_ext s 0 w hw
 have z2:=size_ext s w s.size (Nat.le_refl _)
 have h:=cn_tail s w (s.size-w) (by omega)
 rw [show w+(s.size-w)=s.size by omega] at h
 rw [z1,z2,h,cn_head s w _ (by omega),Nat.sub_zero,wrap_add]
 congr 1;omega
theorem col_join (s:ByteArray) (w:Nat) (hw:bd s w) (c:Int):aCol (aCol c (s.extract 0 w)) (s.extract w s.size)=aCol c s:=by
 have hws:=bd_le hw
 have z1:=size_ext s 0 w hws
 have z2:=size_ext s w s.size (Nat.le_refl _)
 have h:=cn_tail s w (s.size-w) (by omega)
 have hl:=lf_tail s w (s.size-w) (by omega)
 rw [show w+(s.size-w)=s.size by omega] at h hl
 have f:=lf_facts s w
 have f2:=lf_facts (s.extract w s.size) (s.size-w)
 unfold aCol
 rw [z1,z2,cn_head s w _ (by omega),lf_head s w _ (by omega),Nat.sub_zero]
 rw [ext_ext s 0 w _ _ hws (by omega) f.1,Nat.zero_add,Nat.zero_add]
 rw [ext_ext s w s.size _ _ (Nat.le_refl _) (by omega) f2.1,show w+(s.size-w)=s.size by omega]
 by_cases hz:cn (s.extract w s.size) (s.size-w)=0
 ·rw [if_pos hz] at hl ⊢
  rw [hl,h,hz,Nat.add_zero,lf_zero _ _ hz,Nat.add_zero,wrap_add,←cnt_join (bd_lf s w) hw (bd_size s) f.1 hws]
  congr 1;omega
 ·rw [if_neg hz] at hl ⊢
  rw [hl,h,if_neg (by omega)]
theorem ext_app_tail (a b:ByteArray) (w:Nat) (h:w≤a.size):a.extract w a.size++b=(a++b).extract w (a++b).size:=by
 have z:=size_app a b
 have z1:=size_ext a w a.size (Nat.le_refl _)
 have z2:=size_app (a.extract w a.size) b
 refine ba_ext _ _ (by rw [size_ext _ _ _ (Nat.le_refl _)];omega) fun i hi=>?_
 rw [get_app,z1,get_ext,get_ext,get_app]
 by_cases hi2:i<a.size-w
 ·rw [if_pos hi2,if_pos (by omega),if_pos (by omega),if_pos (by omega)]
 ·rw [if_neg hi2,if_pos (by omega),if_neg (by omega)];congr 1;omega
theorem bd_wh (a b:ByteArray):bd (a++b) (wh a):=by
 obtain ⟨m,hm,hl,_⟩:=points_whole a b
 refine ⟨m,hl,?_⟩
 rw [st_whole a b m (by omega),hm,st_end _ _ (Nat.le_refl _),size_ext _ _ _ (wh_bd a).1,Nat.sub_zero]
inductive Rd where
 |out (p e:Nat)
 |on (n:Nat)
def runF (g:Nat→Nat→Rd):Nat→Nat→Nat→Nat × Nat
 |0,a,_=>(a,0)
 |f+1,a,m=>match g a m with
  |.out p e=>(p,e)
  |.on n=>runF g f (a+n) (m+1)
def run (g:Nat→Nat→Rd) (z a m:Nat):Nat × Nat:=runF g (z+1-a) a m
def GoesOn (g:Nat→Nat→Rd) (z:Nat):Prop:=∀a m n,g a m=.on n→1≤n∧a+n≤z
theorem runF_fuel {g:Nat→Nat→Rd}{z:Nat}(hg:GoesOn g z):∀(f f' a m:Nat),z+1≤a+f→z+1≤a+f'→a≤z→runF g f a m=runF g f' a m
 |0,_,_,_,h,_,h2=>by omega
 |_+1,0,_,_,_,h,h2=>by omega
 |f+1,f'+1,a,m,h,h1,h2=>by
  unfold runF
  cases e:g a m with
  |out p e=>rfl
  |on n=>
   obtain ⟨h3,h4⟩:=hg a m n e
   exact runF_fuel hg f f' (a+n) (m+1) (by omega) (by omega) h4
theorem run_out {g:Nat→Nat→Rd}{z a m p e:Nat}(ha:a≤z) (h:g a m=.out p e):run g z a m=(p,e):=by
 unfold run
 rw [show z+1-a=(z-a)+1 by omega]
 unfold runF
 rw [h]
theorem run_on {g:Nat→Nat→Rd}{z a m n:Nat}(hg:GoesOn g z) (ha:a≤z) (h:g a m=.on n):run g z a m=run g z (a+n) (m+1):=by
 obtain ⟨h1,h2⟩:=hg a m n h
 unfold run
 rw [show z+1-a=(z-a)+1 by omega]
 rw [show runF g (z-a+1) a m=runF g (z-a) (a+n) (m+1) by rw [runF,h]]
 exact runF_fuel hg _ _ _ _ (by omega) (by omega) h2
theorem run_ind {g:Nat→Nat→Rd}{z:Nat}(hg:GoesOn g z) (I:Nat→Nat→Prop) (Q:Nat × Nat→Prop)
  (hO:∀a m p e,a≤z→I a m→g a m=.out p e→Q (p,e)) (hN:∀a m n,a≤z→I a m→g a m=.on n→I (a+n) (m+1)) :
  ∀(d a m:Nat),z-a≤d→a≤z→I a m→Q (run g z a m)
 |d,a,m,hd,ha,hI=>by
  cases e:g a m with
  |out p q=>rw [run_out ha e];exact hO a m p q ha hI e
  |on n=>
   obtain ⟨h3,h4⟩:=hg a m n e
   rw [run_on hg ha e]
   cases d with
   |zero=>omega
   |succ d=>exact run_ind hg I Q hO hN d (a+n) (m+1) (by omega) h4 (hN a m n ha hI e)
def tkBl (c:Nat):Bool:=c == 32 || c == 9 || c == 13
def tkCtl (s:ByteArray) (i:Nat):Bool:=gd s i && (decide (dp s i<32) || dp s i == 127)
def tkDg (c:Nat):Bool:=decide (48≤c) && decide (c≤57)
def tkBgn (s:ByteArray) (a:Nat):Nat:=
 if (gd s a && lt' (dp s a))=true then 1 else if tkDg (by8 s a)=true then 3 else if by8 s a=34 then 4 else if by8 s a=39 then 5
 else if by8 s a=47∧a+1<s.size∧by8 s (a+1)=47 then 7 else if by8 s a=123 then 8 else if (sg s a).size≠0 then 6 else 0
def gRow (s:ByteArray) (f k:Nat) (a _:Nat):Rd:=
 if s.size≤a then .out a 0
 else if (k=1∧(gd s a && pr' (dp s a))=false)∨(k=3∧tkDg (by8 s a)=false) then .out a 0
 else if 65535<a+dw s a-f then .out f 103
 else .on (dw s a)
def gQuo (s:ByteArray) (f q:Nat) (only:Bool) (a m:Nat):Rd:=
 if s.size≤a∨by8 s a=10 then .out f 101
 else if 65535<a+dw s a-f then .out f 103
 else if by8 s a=q∧(only=false∨m=1) then .out (a+1) 0
 else if tkCtl s a=true∨(only=true∧(m=1∨by8 s a=q)) then .out a 102
 else .on (dw s a)
def gCom (s:ByteArray) (f:Nat) (blk:Bool) (a _:Nat):Rd:=
 if s.size≤a then (if blk=true then .out f 101 else .out a 0)
 else if blk=false∧by8 s a=10 then .out a 0
 else if 65535<a+1-f then .out f 103
 else if blk=true∧by8 s a=125 then .out (a+1) 0
 else .on 1
theorem gRow_on (s:ByteArray) (f k:Nat):GoesOn (gRow s f k) s.size:=by
 intro a m n h
 unfold gRow at h
 split at h
 ·cases h
 ·rename_i h1
  obtain ⟨h2,h3,h4⟩:=dw_facts s a (by omega)
  split at h
  ·cases h
  ·split at h
   ·cases h
   ·cases h;exact ⟨h2,h4⟩
theorem gQuo_on (s:ByteArray) (f q:Nat) (o:Bool):GoesOn (gQuo s f q o) s.size:=by
 intro a m n h
 unfold gQuo at h
 split at h
 ·cases h
 ·rename_i h1
  obtain ⟨h2,h3,h4⟩:=dw_facts s a (by omega)
  split at h
  ·cases h
  ·split at h
   ·cases h
   ·split at h
    ·cases h
    ·cases h;exact ⟨h2,h4⟩
theorem gCom_on (s:ByteArray) (f:Nat) (o:Bool):GoesOn (gCom s f o) s.size:=by
 intro a m n h
 unfold gCom at h
 split at h
 ·split at h <;> cases h
 ·rename_i h1
  split at h
  ·cases h
  ·split at h
   ·cases h
   ·split at h
    ·cases h
    ·cases h;exact ⟨Nat.le_refl _,by omega⟩
def tkEnd (s:ByteArray) (a k:Nat):Nat × Nat:=
 if k=4 then run (gQuo s a 34 false) s.size (a+1) 0
 else if k=5 then run (gQuo s a 39 true) s.size (a+1) 0
 else if k=7 then run (gCom s a false) s.size a 0
 else if k=8 then run (gCom s a true) s.size a 0
 else if k=6 then (a+(sg s a).size,0)
 else run (gRow s a k) s.size a 0
theorem sg_in (s:ByteArray) (a:Nat) (h:(sg s a).size≠0):a+(sg s a).size≤s.size∧s.extract a (a+(sg s a).size)=sg s a∧sg s a∈signL:=by
 unfold sg at h ⊢
 cases e:signL.find? (pre s a) with
 |none=>rw [e] at h;exact absurd rfl h
 |some x=>
  have h1:=List.find?_some e
  have h2:=List.mem_of_find?_eq_some e
  unfold pre at h1
  have h3:=of_decide_eq_true h1
  exact ⟨h3.1,h3.2,h2⟩
theorem sg_two (s:ByteArray) (a:Nat):(sg s a).size≤2:=by
 by_cases h:(sg s a).size≠0
 ·have h1:=(sg_in s a h).2.2
  have h2:∀x∈signL,x.size≤2:=by decide
  exact h2 _ h1
 ·omega
theorem tkEnd_ok (s:ByteArray) (a k p:Nat) (ha:a<s.size) (hk:tkBgn s a=k) (h0:k≠0) (h:tkEnd s a k=(p,0)):a<p∧p≤s.size:=by
 obtain ⟨d1,d2,d3⟩:=dw_facts s a ha
 have hQ:∀q o,run (gQuo s a q o) s.size (a+1) 0=(p,0)→a<p∧p≤s.size:=by
  intro q o h
  have:=run_ind (gQuo_on s a q o) (fun b _=>a<b) (fun r=>r.2=0→a<r.1∧r.1≤s.size) (by
   intro b m x e hb hI hx he
   unfold gQuo at hx
   split at hx
   ·cases hx;cases he
   ·split at hx
    ·cases hx;cases he
    ·split at hx
     ·cases hx;exact ⟨by show a<b+1;omega,by show b+1≤s.size;omega⟩
     ·split at hx
      ·cases hx;cases he
      ·cases hx) (by intro b m n hb hI hx;show a<b+n;omega) _ (a+1) 0 (Nat.le_refl _) (by omega) (by show a<a+1;omega)
  rw [h] at this
  exact this rfl
 have hC:∀o,(o=true→by8 s a≠125)→(o=false→by8 s a≠10)→run (gCom s a o) s.size a 0=(p,0)→a<p∧p≤s.size:=by
  intro o h1 h2 h
  have:=run_ind (gCom_on s a o) (fun b _=>a≤b) (fun r=>r.2=0→a<r.1∧r.1≤s.size) (by
   intro b m x e hb hI hx he
   unfold gCom at hx
   split at hx
   ·split at hx
    ·cases hx;cases he
    ·cases hx;exact ⟨by show a<b;omega,hb⟩
   ·split at hx
    ·rename_i h3
     cases hx
     refine ⟨?_,hb⟩
     show a<b
     rcases Nat.lt_or_ge a b with h4|h4
     ·exact h4
     ·exact absurd (by rw [show a=b by omega];exact h3.2) (h2 h3.1)
    ·split at hx
     ·cases hx;cases he
     ·split at hx
      ·cases hx;exact ⟨by show a<b+1;omega,by show b+1≤s.size;omega⟩
      ·cases hx) (by intro b m n hb hI hx;show a≤b+n;omega) _ a 0 (Nat.le_refl _) (by omega) (Nat.le_refl _)
  rw [h] at this
  exact this rfl
 have hR:((k=1∧(gd s a && pr' (dp s a))=false)∨(k=3∧tkDg (by8 s a)=false)→False)→run (gRow s a k) s.size a 0=(p,0)→a<p∧p≤s.size:=by
  intro h1 h
  have:=run_ind (gRow_on s a k) (fun b _=>a≤b) (fun r=>r.2=0→a<r.1∧r.1≤s.size) (by
   intro b m x e hb hI hx he
   unfold gRow at hx
   split at hx
   ·cases hx;exact ⟨by show a<b;omega,hb⟩
   ·split at hx
    ·rename_i h3
     cases hx
     refine ⟨?_,hb⟩
     show a<b
     rcases Nat.lt_or_ge a b with h4|h4
     ·exact h4
     ·have:b=a:=Nat.le_antisymm h4 hI
      rw [this] at h3
      exact absurd h3 h1
    ·split at hx
     ·cases hx;cases he
     ·cases hx) (by intro b m n hb hI hx;show a≤b+n;omega) _ a 0 (Nat.le_refl _) (by omega) (Nat.le_refl _)
  rw [h] at this
  exact this rfl
 unfold tkEnd at h
 unfold tkBgn at hk
 by_cases c1:(gd s a && lt' (dp s a))=true
 ·rw [if_pos c1] at hk
  subst hk
  simp only [show ¬(1:Nat)=4 by decide,show ¬(1:Nat)=5 by decide,show ¬(1:Nat)=7 by decide,show ¬(1:Nat)=8 by decide,show ¬(1:Nat)=6 by decide,if_false] at h
  refine hR ?_ h
  rintro (⟨_,h3⟩|⟨h3,_⟩)
  ·rw [Bool.and_eq_true] at c1
   rw [c1.1,pr_of_lt c1.2] at h3
   cases h3
  ·cases h3
 ·rw [if_neg c1] at hk
  by_cases c2:tkDg (by8 s a)=true
  ·rw [if_pos c2] at hk
   subst hk
   simp only [show ¬(3:Nat)=4 by decide,show ¬(3:Nat)=5 by decide,show ¬(3:Nat)=7 by decide,show ¬(3:Nat)=8 by decide,show ¬(3:Nat)=6 by decide,if_false] at h
   refine hR ?_ h
   rintro (⟨h3,_⟩|⟨_,h3⟩)
   ·cases h3
   ·rw [c2] at h3;cases h3
  ·rw [if_neg c2] at hk
   by_cases c3:by8 s a=34
   ·rw [if_pos c3] at hk
    subst hk
    rw [if_pos rfl] at h
    exact hQ _ _ h
   ·rw [if_neg c3] at hk
    by_cases c4:by8 s a=39
    ·rw [if_pos c4] at hk
     subst hk
     rw [if_neg (by decide),if_pos rfl] at h
     exact hQ _ _ h
    ·rw [if_neg c4] at hk
     by_cases c5:by8 s a=47∧a+1<s.size∧by8 s (a+1)=47
     ·rw [if_pos c5] at hk
      subst hk
      rw [if_neg (by decide),if_neg (by decide),if_pos rfl] at h
      exact hC false (by intro h;cases h) (by intro _;rw [c5.1];decide) h
     ·rw [if_neg c5] at hk
      by_cases c6:by8 s a=123
      ·rw [if_pos c6] at hk
       subst hk
       rw [if_neg (by decide),if_neg (by decide),if_neg (by decide),if_pos rfl] at h
       exact hC true (by intro _;rw [c6];decide) (by intro h;cases h) h
      ·rw [if_neg c6] at hk
       by_cases c7:(sg s a).size≠0
       ·rw [if_pos c7] at hk
        subst hk
        rw [if_neg (by decide),if_neg (by decide),if_neg (by decide),if_neg (by decide),if_pos rfl] at h
        cases h
        exact ⟨by omega,(sg_in s a c7).1⟩
       ·rw [if_neg c7] at hk
        exact absurd hk.symm h0
structure Tk where
 k:Nat
 a:Nat
 e:Nat
 f:Nat
def tkTrim (s:ByteArray):Nat→Nat
 |0=>0
 |p+1=>if tkBl (by8 s p)=true then tkTrim s p else p+1
def tkTok (s:ByteArray) (k a p f:Nat):Tk:=⟨if k=1∧ky (s.extract a p)=true then 2 else k,a,if k=7 then tkTrim s p else p,f⟩
def fndF (s:ByteArray):Nat→Nat→Nat→List Tk × Nat × Nat
 |0,_,_=>([],0,0)
 |g+1,a,f=>
  if s.size≤a then ([],0,0)
  else if by8 s a=10 then fndF s g (a+1) (f+1)
  else if tkBl (by8 s a)=true then fndF s g (a+1) f
  else if tkBgn s a=0 then ([],100,a)
  else if (tkEnd s a (tkBgn s a)).2≠0 then ([],(tkEnd s a (tkBgn s a)).2,(tkEnd s a (tkBgn s a)).1)
  else (tkTok s (tkBgn s a) a (tkEnd s a (tkBgn s a)).1 f :: (fndF s g (tkEnd s a (tkBgn s a)).1 0).1,(fndF s g (tkEnd s a (tkBgn s a)).1 0).2)
def fnd (s:ByteArray) (a f:Nat):List Tk × Nat × Nat:=fndF s (s.size-a) a f
theorem fndF_fuel (s:ByteArray):∀(g g' a f:Nat),s.size≤a+g→s.size≤a+g'→fndF s g a f=fndF s g' a f
 |0,0,_,_,_,_=>rfl
 |0,g'+1,a,f,h,_=>by unfold fndF;rw [if_pos (by omega)]
 |g+1,0,a,f,_,h=>by
  rw [show fndF s 0 a f=([],0,0) from rfl]
  unfold fndF;rw [if_pos (by omega)]
 |g+1,g'+1,a,f,h,h'=>by
  unfold fndF
  by_cases h1:s.size≤a
  ·rw [if_pos h1,if_pos h1]
  ·rw [if_neg h1,if_neg h1,fndF_fuel s g g' (a+1) (f+1) (by omega) (by omega),fndF_fuel s g g' (a+1) f (by omega) (by omega)]
   by_cases h2:tkBgn s a=0
   ·rw [if_pos h2,if_pos h2]
   ·by_cases h3:(tkEnd s a (tkBgn s a)).2≠0
    ·rw [if_pos h3,if_pos h3]
    ·have h4:=tkEnd_ok s a (tkBgn s a) (tkEnd s a (tkBgn s a)).1 (by omega) rfl h2 (Prod.ext rfl (by simpa using h3))
     rw [fndF_fuel s g g' _ 0 (by omega) (by omega)]
theorem fnd_end (s:ByteArray) (a f:Nat) (h:s.size≤a):fnd s a f=([],0,0):=by
 unfold fnd;rw [show s.size-a=0 by omega];rfl
theorem fnd_step (s:ByteArray) (a f:Nat) (h:a<s.size):fnd s a f =
  if by8 s a=10 then fnd s (a+1) (f+1)
  else if tkBl (by8 s a)=true then fnd s (a+1) f
  else if tkBgn s a=0 then ([],100,a)
  else if (tkEnd s a (tkBgn s a)).2≠0 then ([],(tkEnd s a (tkBgn s a)).2,(tkEnd s a (tkBgn s a)).1)
  else (tkTok s (tkBgn s a) a (tkEnd s a (tkBgn s a)).1 f :: (fnd s (tkEnd s a (tkBgn s a)).1 0).1,(fnd s (tkEnd s a (tkBgn s a)).1 0).2):=by
 have h0:fnd s a f=fndF s ((s.size-(a+1))+1) a f:=by unfold fnd;rw [show s.size-a=(s.size-(a+1))+1 by omega]
 rw [h0]
 unfold fndF
 rw [if_neg (by omega)]
 by_cases h2:tkBgn s a=0
 ·simp only [if_pos h2];rfl
 ·by_cases h3:(tkEnd s a (tkBgn s a)).2≠0
  ·simp only [if_pos h3];rfl
  ·have h4:=tkEnd_ok s a (tkBgn s a) (tkEnd s a (tkBgn s a)).1 h rfl h2 (Prod.ext rfl (by simpa using h3))
   rw [fndF_fuel s (s.size-(a+1)) (s.size-(tkEnd s a (tkBgn s a)).1) (tkEnd s a (tkBgn s a)).1 0 (by omega) (by omega)]
   rfl
def scn (s:ByteArray):List Tk × Nat × Nat:=fnd s 0 0
theorem tkTrim_le (s:ByteArray):∀p,tkTrim s p≤p
 |0=>Nat.le_refl _
 |p+1=>by
  unfold tkTrim
  split
  ·have:=tkTrim_le s p;omega
  ·exact Nat.le_refl _
theorem tkTrim_ge (s:ByteArray) (a:Nat) (h:tkBl (by8 s a)=false):∀p,a<p→a<tkTrim s p
 |0,h1=>by omega
 |p+1,h1=>by
  unfold tkTrim
  by_cases e:tkBl (by8 s p)=true
  ·rw [if_pos e]
   refine tkTrim_ge s a h p ?_
   rcases Nat.lt_or_ge a p with h2|h2
   ·exact h2
   ·rw [show a=p by omega,e] at h;cases h
  ·rw [if_neg e];exact h1
theorem tkTrim_gap (s:ByteArray):∀p i,tkTrim s p≤i→i<p→tkBl (by8 s i)=true
 |0,_,_,h=>by omega
 |p+1,i,h,h1=>by
  unfold tkTrim at h
  by_cases e:tkBl (by8 s p)=true
  ·rw [if_pos e] at h
   by_cases e2:i=p
   ·rw [e2];exact e
   ·exact tkTrim_gap s p i h (by omega)
  ·rw [if_neg e] at h;omega
theorem fnd_toks (s:ByteArray):∀(d a f:Nat),s.size-a≤d→∀t∈(fnd s a f).1,a≤t.a∧t.a<t.e∧t.e≤s.size
 |d,a,f,hd,t,ht=>by
  by_cases h:a<s.size
  ·rw [fnd_step s a f h] at ht
   cases d with
   |zero=>omega
   |succ d=>
    by_cases h1:by8 s a=10
    ·rw [if_pos h1] at ht
     have:=fnd_toks s d (a+1) (f+1) (by omega) t ht
     exact ⟨by omega,this.2⟩
    ·rw [if_neg h1] at ht
     by_cases h2:tkBl (by8 s a)=true
     ·rw [if_pos h2] at ht
      have:=fnd_toks s d (a+1) f (by omega) t ht
      exact ⟨by omega,this.2⟩
     ·rw [if_neg h2] at ht
      by_cases h3:tkBgn s a=0
      ·rw [if_pos h3] at ht;cases ht
      ·rw [if_neg h3] at ht
       by_cases h4:(tkEnd s a (tkBgn s a)).2≠0
       ·rw [if_pos h4] at ht;cases ht
       ·rw [if_neg h4] at ht
        have h5:=tkEnd_ok s a (tkBgn s a) (tkEnd s a (tkBgn s a)).1 h rfl h3 (Prod.ext rfl (by simpa using h4))
        rcases List.mem_cons.1 ht with rfl|ht
        ·refine ⟨Nat.le_refl _,?_,?_⟩
         ·show a<if _ then _ else _
          split
          ·exact tkTrim_ge s a (by simpa using h2) _ h5.1
          ·exact h5.1
         ·show (if _ then _ else _)≤s.size
          split
          ·exact Nat.le_trans (tkTrim_le s _) h5.2
          ·exact h5.2
        ·have:=fnd_toks s d _ 0 (by omega) t ht
         exact ⟨by omega,this.2⟩
  ·rw [fnd_end s a f (by omega)] at ht;cases ht
theorem chr_asc (s:ByteArray) (i:Nat) (h:by8 s i<128):dw s i=1∧dp s i=by8 s i∧gd s i=true:=by
 have e:Utf8.decode s i=(by8 s i,1):=by rw [decode_eq];unfold D;rw [if_pos h]
 unfold gd dw dp
 rw [e]
 refine ⟨rfl,rfl,?_⟩
 show gdb (by8 s i:Int) 1=true
 have hn:((by8 s i:Int) != 65533)=true:=by simp;omega
 unfold gdb;rw [hn];rfl
theorem dp_asc (s:ByteArray) (i:Nat) (h:dp s i<128):by8 s i=dp s i:=by
 by_cases h8:by8 s i<128
 ·exact (chr_asc s i h8).2.1.symm
 ·exfalso
  unfold dp at h
  rw [decode_eq] at h
  unfold D at h
  rw [if_neg h8] at h
  repeat' split at h
  all_goals first|(rename_i h2;simp only [ge_iff_le,Bool.and_eq_true,decide_eq_true_eq] at h2;omega)|(simp only [] at h;omega)|(exact absurd h (by decide))
theorem dp_eq (s:ByteArray) (i c:Nat) (hc:c<128):dp s i=c↔by8 s i=c:=by
 constructor
 ·intro h;rw [dp_asc s i (by omega),h]
 ·intro h;rw [(chr_asc s i (by omega)).2.1,h]
theorem bd_asc (s:ByteArray) (j:Nat) (hj:j<s.size) (h:by8 s j<128):bd s j∧bd s (j+1):=by
 obtain ⟨m,h1,h2,h3,h4,h5⟩:=st_cover s j (P s).length (by rw [st_end s _ (Nat.le_refl _)];exact hj)
 have e:st s m=j:=by
  apply Classical.byContradiction;intro hne
  have:=(dec_inner s (st s m) (j-st s m) (by omega) (by omega)).2
  rw [show st s m+(j-st s m)=j by omega] at this
  omega
 refine ⟨⟨m,by omega,e⟩,⟨m+1,by omega,?_⟩⟩
 rw [st_succ s m h2,e,(chr_asc s j h).1]
theorem bd_next {s:ByteArray}{a:Nat}(h:bd s a) (ha:a<s.size):bd s (a+dw s a):=by
 obtain ⟨k,hk,rfl⟩:=h
 have hk2:=(st_lt s k).1 ha
 exact ⟨k+1,by omega,st_succ s k hk2⟩
theorem bd_head {s:ByteArray}{a b:Nat}(ha:bd s a) (hb:bd s b) (hab:a≤b):bd (s.extract 0 b) a:=by
 obtain ⟨i,hi,rfl⟩:=ha
 obtain ⟨j,hj,rfl⟩:=hb
 have hij:i≤j:=by
  apply Classical.byContradiction;intro h
  have:=st_strict s j i (by omega) hi;omega
 have e:=st_hd s j hj i hij
 have e2:=P_hd s j hj
 unfold hd at e e2
 exact ⟨i,by omega,e⟩
def pL (s:ByteArray) (a:Nat):Int:=aLine 1 (s.extract 0 a)
def pC (s:ByteArray) (a:Nat):Int:=aCol 1 (s.extract 0 a)
theorem p_zero (s:ByteArray):pL s 0=1∧pC s 0=1:=by
 have e:s.extract 0 0=ByteArray.empty:=by
  have hz:(s.extract 0 0).size=0:=by rw [size_ext s 0 0 (Nat.zero_le _)]
  exact by8_ext _ _ (by rw [hz];rfl) (fun j hj=>by omega)
 unfold pL pC
 rw [e]
 have z:ByteArray.empty.size=0:=rfl
 have hp:(P (ByteArray.empty.extract (lf ByteArray.empty 0) 0)).length=0:=by
  have h1:=P_len (ByteArray.empty.extract (lf ByteArray.empty 0) 0)
  have h2:=size_ext ByteArray.empty (lf ByteArray.empty 0) 0 (Nat.zero_le _)
  omega
 constructor
 ·unfold aLine
  rw [z]
  show wrap64 (1+((0:Nat):Int))=1
  unfold wrap64;omega
 ·unfold aCol
  rw [z,hp]
  show wrap64 (1+((0:Nat):Int))=1
  unfold wrap64;omega
theorem adv_join {s:ByteArray}{a b:Nat}(ha:bd s a) (hb:bd s b) (hab:a≤b) (hs:s.size≤2147483647) :
  aAt a (s.extract a b)=b∧aLine (pL s a) (s.extract a b)=pL s b∧aCol (pC s a) (s.extract a b)=pC s b:=by
 have hb2:=bd_le hb
 have z:(s.extract 0 b).size=b:=by rw [size_ext s 0 b hb2];rfl
 have e1:(s.extract 0 b).extract 0 a=s.extract 0 a:=by
  rw [ext_ext s 0 b 0 a hb2 (by omega) (Nat.zero_le _),Nat.zero_add,Nat.zero_add]
 have e2:(s.extract 0 b).extract a b=s.extract a b:=by
  rw [ext_ext s 0 b a b hb2 (by omega) hab,Nat.zero_add,Nat.zero_add]
 refine ⟨?_,?_,?_⟩
 ·unfold aAt;rw [size_ext s a b hb2];unfold wrap64;omega
 ·have h:=line_join (s.extract 0 b) a (by omega) 1
  rw [z,e1,e2] at h
  exact h
 ·have h:=col_join (s.extract 0 b) a (bd_head ha hb hab) 1
  rw [z,e1,e2] at h
  exact h
theorem p_rng (s:ByteArray) (a:Nat):-9223372036854775808≤pL s a∧pL s a≤9223372036854775807:=by
 unfold pL aLine wrap64;omega
theorem sign_asc:∀x∈signL,(x.size=1∨x.size=2)∧by8 x (x.size-1)<128:=by decide
theorem end_bd {s:ByteArray}{a k p e:Nat}(hs:bd s a) (ha:a<s.size) (hk:tkBgn s a=k) (h0:k≠0) (h:tkEnd s a k=(p,e)):bd s p:=by
 have hQ:∀q o,q<128→by8 s a=q→run (gQuo s a q o) s.size (a+1) 0=(p,e)→bd s p:=by
  intro q o hq hq2 h
  have:=run_ind (gQuo_on s a q o) (fun b _=>bd s b) (fun r=>bd s r.1) (by
   intro b m x e hb hI hx
   unfold gQuo at hx
   split at hx
   ·cases hx;exact hs
   ·rename_i h1
    split at hx
    ·cases hx;exact hs
    ·split at hx
     ·rename_i h3
      cases hx
      exact (bd_asc s b (by omega) (by omega)).2
     ·split at hx
      ·cases hx;exact hI
      ·cases hx) (by
   intro b m n hb hI hx
   unfold gQuo at hx
   split at hx
   ·cases hx
   ·rename_i h1
    split at hx
    ·cases hx
    ·split at hx
     ·cases hx
     ·split at hx
      ·cases hx
      ·cases hx;exact bd_next hI (by omega)) _ (a+1) 0 (Nat.le_refl _) (by omega) (bd_asc s a ha (by omega)).2
  rw [h] at this
  exact this
 have hC:∀o,run (gCom s a o) s.size a 0=(p,e)→bd s p:=by
  intro o h
  have:=run_ind (gCom_on s a o) (fun _ _=>True) (fun r=>bd s r.1) (by
   intro b m x e hb hI hx
   unfold gCom at hx
   split at hx
   ·split at hx
    ·cases hx;exact hs
    ·cases hx
     rw [show b=s.size by omega];exact bd_size s
   ·split at hx
    ·rename_i h3
     cases hx
     exact (bd_ten s b h3.2).1
    ·split at hx
     ·cases hx;exact hs
     ·split at hx
      ·rename_i h3
       cases hx
       exact (bd_asc s b (by omega) (by omega)).2
      ·cases hx) (by intros;trivial) _ a 0 (Nat.le_refl _) (by omega) trivial
  rw [h] at this
  exact this
 have hR:∀k,run (gRow s a k) s.size a 0=(p,e)→bd s p:=by
  intro k h
  have:=run_ind (gRow_on s a k) (fun b _=>bd s b) (fun r=>bd s r.1) (by
   intro b m x e hb hI hx
   unfold gRow at hx
   split at hx
   ·cases hx;exact hI
   ·split at hx
    ·cases hx;exact hI
    ·split at hx
     ·cases hx;exact hs
     ·cases hx) (by
   intro b m n hb hI hx
   unfold gRow at hx
   split at hx
   ·cases hx
   ·split at hx
    ·cases hx
    ·split at hx
     ·cases hx
     ·cases hx;exact bd_next hI (by omega)) _ a 0 (Nat.le_refl _) (by omega) hs
  rw [h] at this
  exact this
 unfold tkEnd at h
 by_cases k4:k=4
 ·rw [if_pos k4] at h
  refine hQ 34 _ (by decide) ?_ h
  rw [k4] at hk
  unfold tkBgn at hk
  repeat' split at hk
  all_goals first|assumption|(cases hk;done)
 ·rw [if_neg k4] at h
  by_cases k5:k=5
  ·rw [if_pos k5] at h
   refine hQ 39 _ (by decide) ?_ h
   rw [k5] at hk
   unfold tkBgn at hk
   repeat' split at hk
   all_goals first|assumption|(cases hk;done)
  ·rw [if_neg k5] at h
   by_cases k7:k=7
   ·rw [if_pos k7] at h;exact hC _ h
   ·rw [if_neg k7] at h
    by_cases k8:k=8
    ·rw [if_pos k8] at h;exact hC _ h
    ·rw [if_neg k8] at h
     by_cases k6:k=6
     ·rw [if_pos k6] at h
      cases h
      have hsz:(sg s a).size≠0:=by
       rw [k6] at hk
       unfold tkBgn at hk
       repeat' split at hk
       all_goals first|assumption|(cases hk;done)
      obtain ⟨g1,g2,g3⟩:=sg_in s a hsz
      obtain ⟨g4,g5⟩:=sign_asc _ g3
      have e1:by8 s (a+((sg s a).size-1))<128:=by
       rw [←g2] at g5
       rw [size_ext s _ _ g1,by8_ext' s a _ _ (by omega)] at g5
       rw [show a+((sg s a).size-1)=a+(a+(sg s a).size-a-1) by omega]
       exact g5
      have:=(bd_asc s _ (by omega) e1).2
      rw [show a+((sg s a).size-1)+1=a+(sg s a).size by omega] at this
      exact this
     ·rw [if_neg k6] at h;exact hR _ h
theorem bl_asc {c:Nat}(h:tkBl c=true):c<128:=by
 unfold tkBl at h
 simp at h
 omega
theorem end_err {s:ByteArray}{a k p e:Nat}(ha:a<s.size) (h:tkEnd s a k=(p,e)) (he:e≠0):(p=a∧(e=101∨e=103))∨(e=102∧a<p∧p≤s.size):=by
 have hQ:∀q o,run (gQuo s a q o) s.size (a+1) 0=(p,e)→(p=a∧(e=101∨e=103))∨(e=102∧a<p∧p≤s.size):=by
  intro q o h
  have:=run_ind (gQuo_on s a q o) (fun b _=>a<b) (fun r=>r.2≠0→(r.1=a∧(r.2=101∨r.2=103))∨(r.2=102∧a<r.1∧r.1≤s.size)) (by
   intro b m x e hb hI hx he
   unfold gQuo at hx
   split at hx
   ·cases hx;exact .inl ⟨rfl,.inl rfl⟩
   ·split at hx
    ·cases hx;exact .inl ⟨rfl,.inr rfl⟩
    ·split at hx
     ·cases hx;exact absurd rfl he
     ·split at hx
      ·cases hx;exact .inr ⟨rfl,hI,hb⟩
      ·cases hx) (by intro b m n hb hI hx;show a<b+n;omega) _ (a+1) 0 (Nat.le_refl _) (by omega) (by show a<a+1;omega)
  rw [h] at this
  exact this he
 have hC:∀o,run (gCom s a o) s.size a 0=(p,e)→p=a∧(e=101∨e=103):=by
  intro o h
  have:=run_ind (gCom_on s a o) (fun _ _=>True) (fun r=>r.2≠0→r.1=a∧(r.2=101∨r.2=103)) (by
   intro b m x e hb hI hx he
   unfold gCom at hx
   split at hx
   ·split at hx
    ·cases hx;exact ⟨rfl,.inl rfl⟩
    ·cases hx;exact absurd rfl he
   ·split at hx
    ·cases hx;exact absurd rfl he
    ·split at hx
     ·cases hx;exact ⟨rfl,.inr rfl⟩
     ·split at hx
      ·cases hx;exact absurd rfl he
      ·cases hx) (by intros;trivial) _ a 0 (Nat.le_refl _) (by omega) trivial
  rw [h] at this
  exact this he
 have hR:∀k,run (gRow s a k) s.size a 0=(p,e)→p=a∧(e=101∨e=103):=by
  intro k h
  have:=run_ind (gRow_on s a k) (fun _ _=>True) (fun r=>r.2≠0→r.1=a∧(r.2=101∨r.2=103)) (by
   intro b m x e hb hI hx he
   unfold gRow at hx
   split at hx
   ·cases hx;exact absurd rfl he
   ·split at hx
    ·cases hx;exact absurd rfl he
    ·split at hx
     ·cases hx;exact ⟨rfl,.inr rfl⟩
     ·cases hx) (by intros;trivial) _ a 0 (Nat.le_refl _) (by omega) trivial
  rw [h] at this
  exact this he
 unfold tkEnd at h
 split at h
 ·exact hQ _ _ h
 ·split at h
  ·exact hQ _ _ h
  ·split at h
   ·exact .inl (hC _ h)
   ·split at h
    ·exact .inl (hC _ h)
    ·split at h
     ·cases h;exact absurd rfl he
     ·exact .inl (hR _ h)
def tv (s:ByteArray) (t:Tk):Tv:=⟨t.k,s.extract t.a t.e,t.a,pL s t.a,pC s t.a,t.f⟩
def AV (w:World) (s:ByteArray) (e:Ending) (w':World):Prop:=
 (∃v,e=.returned (.tuple #[v,.int .i64 (scn s).2.1,.agg #[.int .i64 (if (scn s).2.1=0 then 0 else (scn s).2.2),.int .i64 (if (scn s).2.1=0 then 0 else pL s (scn s).2.2),.int .i64 (if (scn s).2.1=0 then 0 else pC s (scn s).2.2)]])∧Rt w.heap.size w' v ((scn s).1.map (tv s)))∧Below w.heap.size w w'
theorem by8_second (a c:ByteArray) (i:Nat):by8 (a++c) (a.size+i)=by8 c i:=by
 rw [by8_app,if_neg (by omega)];congr 1;omega
theorem ext_second (a c:ByteArray) (i p:Nat) (hp:p≤c.size):(a++c).extract (a.size+i) (a.size+p)=c.extract i p:=by
 have hz:=size_app a c
 refine by8_ext _ _ (by rw [size_ext _ _ _ (by omega),size_ext _ _ _ hp];omega) (fun j hj=>?_)
 rw [size_ext _ _ _ (by omega)] at hj
 rw [by8_ext' _ _ _ _ (by omega),by8_ext' _ _ _ _ (by omega),by8_app,if_neg (by omega)]
 congr 1;omega
theorem find_congr {f g:ByteArray→Bool}:∀l:List ByteArray,(∀x∈l,f x=g x)→l.find? f=l.find? g
 |[],_=>rfl
 |x :: l,h=>by
  rw [List.find?_cons,List.find?_cons,h x (List.mem_cons_self ..),find_congr l (fun y hy=>h y (List.mem_cons_of_mem _ hy))]
theorem sign_ten:∀x∈signL,x.size=1∨(x.size=2∧by8 x 1≠10):=by decide
theorem ext_first (a c:ByteArray) (i p:Nat) (hp:p≤a.size):(a++c).extract i p=a.extract i p:=by
 have hz:=size_app a c
 refine by8_ext _ _ (by rw [size_ext _ _ _ (by omega),size_ext _ _ _ hp]) (fun j hj=>?_)
 rw [size_ext _ _ _ (by omega)] at hj
 rw [by8_ext' _ _ _ _ (by omega),by8_ext' _ _ _ _ (by omega),by8_app,if_pos (by omega)]
theorem by8_first (a c:ByteArray) (i:Nat) (hi:i<a.size):by8 (a++c) i=by8 a i:=by rw [by8_app,if_pos hi]
theorem trim_first (a c:ByteArray):∀p,p≤a.size→tkTrim (a++c) p=tkTrim a p
 |0,_=>rfl
 |p+1,h=>by
  unfold tkTrim
  rw [by8_first a c p (by omega),trim_first a c p (by omega)]
theorem tok_first (a c:ByteArray) (k i p f:Nat) (hp:p≤a.size):tkTok (a++c) k i p f=tkTok a k i p f:=by
 unfold tkTok
 rw [ext_first a c i p hp,trim_first a c p hp]
end Go.Proofs.YtkigadnkclkopaaGreatDoor.Lx
