import Derived.Deep.QuietTactic
import Derived.BigQuiet
import Derived.Test.YtpdlohfdjiaegaaGreatDoorR02
set_option linter.unusedVariables false
set_option linter.unusedSimpArgs false
set_option maxHeartbeats 1000000
namespace Go.Proofs.YtpdlohfdjiaegaaGreatDoor.Lx
open Go.RowKit
variable {p:Int}
def ltr (p:Int):Prop:=(65<=p/\p<=90)\/(97<=p/\p<=122)\/(192<=p/\p<=214)\/(216<=p/\p<=246)\/(248<=p/\p<=591)\/(913<=p/\p<=929)\/(931<=p/\p<=974)\/(1024<=p/\p<=1119)\/(1488<=p/\p<=1514)\/(1568<=p/\p<=1610)\/(2308<=p/\p<=2361)\/(12353<=p/\p<=12438)\/(12449<=p/\p<=12538)\/(19968<=p/\p<=40959)\/(44032<=p/\p<=55203)\/(66560<=p/\p<=66639)\/(131072<=p/\p<=196607)
def mrk (p:Int):Prop:=(48<=p/\p<=57)\/(95<=p/\p<=95)\/(768<=p/\p<=879)
instance (p:Int):Decidable (ltr p):=by unfold ltr;infer_instance
instance (p:Int):Decidable (mrk p):=by unfold mrk;infer_instance
def us (p:Int):Int:=if ltr p then 2 else if mrk p then 1 else 0
def lt' (p:Int):Bool:=decide (ltr p)
def pr' (p:Int):Bool:=lt' p || decide (mrk p)
theorem xd (h:ltr p):us p=2:=by unfold us;rw [zw h]
theorem xe (h:mrk p):us p=1:=by
 unfold us;rw [zu (by unfold mrk at h;unfold ltr;omega),zw h]
theorem yC (h:¬ltr p) (h2:¬mrk p):us p=0:=by unfold us;rw [zu h,zu h2]
theorem yD (p:Int):(us p == 2)=lt' p:=by
 unfold us lt'
 by_cases h:ltr p
 ·rw [zw h,zB h];rfl
 ·rw [zu h,zA h];split <;> rfl
theorem yB (p:Int):(us p != 0)=pr' p:=by
 unfold us pr' lt'
 by_cases h:ltr p
 ·rw [zw h,zB h];rfl
 ·rw [zu h,zA h]
  by_cases h2:mrk p
  ·rw [zw h2,zB h2];rfl
  ·rw [zu h2,zA h2];rfl
theorem tJ (i:Nat) (p:Int) (hi:i<20) (h0:clo i<=p) (h1:p<=chi i):cus i=us p:=by
 rcases i with _|_|_|_|_|_|_|_|_|_|_|_|_|_|_|_|_|_|_|_|i
 all_goals simp [clo,chi,cus,dV,List.getD] at h0 h1 ⊢
 all_goals first|exact (xd (by unfold ltr;omega)).symm|exact (xe (by unfold mrk;omega)).symm|omega
theorem tK (p:Int) (h:∀k,k<20->p<clo k\/chi k<p):us p=0:=by
 have a0:=h 0 (by omega);have a1:=h 1 (by omega);have a2:=h 2 (by omega);have a3:=h 3 (by omega);have a4:=h 4 (by omega);have a5:=h 5 (by omega);have a6:=h 6 (by omega);have a7:=h 7 (by omega);have a8:=h 8 (by omega);have a9:=h 9 (by omega);have a10:=h 10 (by omega);have a11:=h 11 (by omega);have a12:=h 12 (by omega);have a13:=h 13 (by omega);have a14:=h 14 (by omega);have a15:=h 15 (by omega);have a16:=h 16 (by omega);have a17:=h 17 (by omega);have a18:=h 18 (by omega);have a19:=h 19 (by omega);simp only [clo,chi,dV,List.getD,List.getElem?_cons_zero,BD,Bi] at a0 a1 a2 a3 a4 a5 a6 a7 a8 a9 a10 a11 a12 a13 a14 a15 a16 a17 a18 a19;refine yC ?_ ?_
 ·unfold ltr;omega
 ·unfold mrk;omega
theorem wh (i k:Nat) (hk:k<20) (h:i<=k):clo i<=clo k:=by
 have:∀k,k<20->∀i,i<20->i<=k->clo i<=clo k:=by decide +kernel
 exact this k hk i (by omega) h
theorem jC (i:Nat) (p:Int) (h:∀k,k<i->chi k<p) (h2:i<20->p<clo i):us p=0:=by
 refine tK p fun k hk=>?_
 by_cases hki:k<i
 ·exact .inr (h k hki)
 ·have:=h2 (by omega);have:=wh i k hk (by omega);omega
theorem iR {a b:Int}(h:a=b):Ending.returned (.int .i64 a)=.returned (.int .i64 b):=by rw [h]
theorem eC {a b:Bool}(h:a=b):Ending.returned (.bool a)=.returned (.bool b):=by rw [h]
theorem nI (p:Int) (w:World) (hT:mn w) :
  Aa 134 #[.int .i64 p] w fun e w'=>e=.returned (.int .i64 (us p))/\w'=w:=by
 go_enter Tryz.func134,Tryz.ntmps134
 go_wp2_with fail
 go_loopw [4] (fun i wr=>wr=w/\∃k:Nat,k<=20/\i=.int .i64 k/\∀j,j<k->chi j<p) (fun i _=>20-(intOf i).toNat)
 case atStart=>exact ⟨rfl,0,by omega,rfl,fun j hj=>by omega⟩
 case round=>
  obtain ⟨rfl,k,hk,rfl,hall⟩:=hrel
  by_cases h16:k<20
  ·obtain ⟨c0,c1,c2⟩:=hT k h16;have HA:Hid (∀j,j<k->chi j<p):=hall;have HH:Hid (clo k<=p->p<=chi k->cus k=us p):=tJ k p h16;have HM:Hid (p<clo k->us p=0):=fun h=>jC k p hall (fun _=>h)
   have HN:Hid (chi k<p->∀j,j<k+1->chi j<p):=fun h j hj=>by
    by_cases e:j=k
    ·subst e;exact h
    ·exact hall j (by omega)
   clear hall hT
   generalize clo k=l at *
   generalize cus k=c at *
   generalize chi k=u at *
   by_cases h1:p<l
   ·go_wp2_with fail
    go_ret
    exact ⟨iR (HM.out h1).symm,rfl⟩
   ·by_cases h2:p<=u
    ·go_wp2_with fail
     go_ret
     exact ⟨iR (HH.out (by omega) h2),rfl⟩
    ·go_wp2_with fail
     exact ⟨⟨trivial,k+1,by omega,by go_num,HN.out (by omega)⟩,by simp [intOf];omega⟩
  ·have HM:Hid (us p=0):=jC k p hall (fun h=>absurd h h16);clear hall hT
   go_wp2_with fail
   go_ret
   exact ⟨iR HM.out.symm,rfl⟩
theorem bO (p:Int) (w:World) (hT:mn w) :
  Aa 86 #[.int .i64 p] w fun e w'=>e=.returned (.bool (lt' p))/\w'=w:=by
 go_enter Tryz.func86,Tryz.ntmps86
 go_wp2_with fail
 refine (nI p w hT).mono ?_;rintro e w' ⟨rfl,rfl⟩;have HU:Hid ((us p == 2)=lt' p):=yD p
 generalize us p=u at *
 go_wp2_with fail
 go_ret
 exact ⟨eC HU.out,rfl⟩
theorem ll (p:Int) (w:World) (hT:mn w) :
  Aa 135 #[.int .i64 p] w fun e w'=>e=.returned (.bool (pr' p))/\w'=w:=by
 go_enter Tryz.func135,Tryz.ntmps135
 go_wp2_with fail
 refine (nI p w hT).mono ?_;rintro e w' ⟨rfl,rfl⟩;have HU:Hid ((us p != 0)=pr' p):=yB p
 generalize us p=u at *
 go_wp2_with fail
 go_ret
 exact ⟨eC HU.out,rfl⟩
end Go.Proofs.YtpdlohfdjiaegaaGreatDoor.Lx
namespace Go.Proofs.YtpdlohfdjiaegaaGreatDoor.Lx
open Go.RowKit Go.Deep
variable {s x:ByteArray}
theorem bz {b:Nat}{w v:World}(h:Below b w v):∀m,Below b w (v.drewN m)
 |0=>h
 |m+1=>(bz h m).drew
def ky (s:ByteArray):Bool:=bU.any fun x=>decide (s=x)
theorem vE (s:ByteArray) (h:∀j,j<24->s≠bU.getD j ByteArray.empty):ky s=false:=by
 unfold ky;rw [List.any_eq_false];intro x hm hx;obtain ⟨j,hj,e⟩:=List.mem_iff_getElem.1 hm;have hj':j<24:=hj
 apply h j hj'
 rw [List.getD,hH hj];exact (zQ hx).trans e.symm
theorem xM (s:ByteArray) (j:Nat) (hj:j<24) (h:s=bU.getD j ByteArray.empty):ky s=true:=by
 unfold ky;rw [B7];refine ⟨bU[j]'hj,List.getElem_mem _,zB ?_⟩;rw [h,List.getD,hH (show j<bU.length from hj)];rfl
theorem nJ (h:s=x):(s.toList == x.toList)=true:=by subst h;simp
theorem jK (s:ByteArray):s.toList=s.data.toList:=Ca s
theorem io (h:s≠x):(s.toList == x.toList)=false:=by
 rw [zS,jK,jK];intro e
 apply h
 have:=Bh.1 e;cases s;cases x;simp_all
theorem qd (s:ByteArray) (w:World) (hT:qO w) :
  Aa 184 #[.string s] w fun e w'=>e=.returned (.bool (ky s))/\w'=w:=by
 go_enter Tryz.func184,Tryz.ntmps184
 go_wp2_with fail
 go_loopw [4] (fun i wr=>wr=w/\∃k:Nat,k<=24/\i=.int .i64 k/\∀j,j<k->s≠bU.getD j ByteArray.empty) (fun i _=>24-(intOf i).toNat)
 case atStart=>exact ⟨rfl,0,by omega,rfl,fun j hj=>by omega⟩
 case round=>
  obtain ⟨rfl,k,hk,rfl,hall⟩:=hrel
  by_cases h24:k<24
  ·have c0:=hT k h24;have HH:Hid (s=bU.getD k ByteArray.empty->ky s=true):=xM s k h24
   have HN:Hid (s≠bU.getD k ByteArray.empty->∀j,j<k+1->s≠bU.getD j ByteArray.empty):=fun h j hj=>by
    by_cases e:j=k
    ·subst e;exact h
    ·exact hall j (by omega)
   clear hall hT
   generalize bU.getD k ByteArray.empty=x at *
   by_cases e:s=x
   ·have e1:=nJ e;have HE:Hid (s=x):=e;clear e
    go_wp2_with fail
    go_ret
    exact ⟨eC (HH.out HE.out).symm,rfl⟩
   ·have e1:=io e;have HE:Hid (s≠x):=e;clear e
    go_wp2_with fail
    exact ⟨⟨trivial,k+1,by omega,by go_num,HN.out HE.out⟩,by simp [intOf];omega⟩
  ·have HM:Hid (ky s=false):=vE s (fun j hj=>hall j (by omega));clear hall hT
   go_wp2_with fail
   go_ret
   exact ⟨eC HM.out.symm,rfl⟩
def pre (s:ByteArray) (a:Nat) (t:ByteArray):Bool:=decide (a+t.size<=s.size/\s.extract a (a+t.size)=t)
def sg (s:ByteArray) (a:Nat):ByteArray:=(bD.find? (pre s a)).getD ByteArray.empty
theorem lP (f:ByteArray->Bool):∀(l:List ByteArray) (k:Nat),k<l.length->(∀j,j<k->f (l.getD j ByteArray.empty)=false)->f (l.getD k ByteArray.empty)=true->l.find? f=some (l.getD k ByteArray.empty)
 |[],k,h,_,_=>by simp at h
 |x :: r,0,_,_,h=>by
  have h':f x=true:=h;rw [List.find?_cons_of_pos h'];rfl
 |x :: r,k+1,hk,hj,h=>by
  have h0:f x=false:=hj 0 (by omega);rw [List.find?_cons_of_neg (by rw [h0];simp)];exact lP f r k (by simpa using hk) (fun j hj'=>hj (j+1) (by omega)) h
theorem qn (f:ByteArray->Bool) (l:List ByteArray) (h:∀j,j<l.length->f (l.getD j ByteArray.empty)=false):l.find? f=none:=by
 rw [BK];intro x hx;obtain ⟨j,hj,e⟩:=List.mem_iff_getElem.1 hx;have:=h j hj;rw [List.getD,hH hj] at this;subst e
 simpa using this
theorem xh (s:ByteArray) (a k:Nat) (hk:k<21) (h:∀j,j<k->pre s a (bD.getD j ByteArray.empty)=false) (h1:pre s a (bD.getD k ByteArray.empty)=true):sg s a=bD.getD k ByteArray.empty:=by
 unfold sg;rw [lP _ bD k hk h h1];rfl
theorem uH (s:ByteArray) (a:Nat) (h:∀j,j<21->pre s a (bD.getD j ByteArray.empty)=false):sg s a=ByteArray.empty:=by
 unfold sg;rw [qn _ bD h];rfl
theorem te (s:ByteArray) (a n:Nat) (h:a+n<=s.size):(s.extract a s.size).extract 0 n=s.extract a (a+n):=by
 refine fP _ _ ?_ ?_
 ·rw [aC _ 0 n (by rw [aC s a _ (eq _)];omega),aC s a _ h];omega
 ·intro i hi;rw [aC _ 0 n (by rw [aC s a _ (eq _)];omega)] at hi;rw [bv _ 0 n i (by omega),bv s a _ _ (by omega),bv s a _ _ (by omega),zC]
theorem vK (s t:ByteArray) (w:World) :
  Aa 141 #[.string s,.string t] w fun e w'=>e=.returned (.bool (pre s 0 t))/\w'=w:=by
 by_cases h1:t.size<=s.size
 ·have h1':decide ((s.size:Int)>=(t.size:Int))=true:=by simpa using h1
  have h2:(0:Int)<=(t.size:Int):=by omega
  have h3:(t.size:Int)<=(s.size:Int):=by omega
  by_cases h4:s.extract 0 t.size=t
  ·have e1:=nJ h4
   have HB:Hid (pre s 0 t=true):=by
    unfold pre;exact zB ⟨by omega,by rw [zC];exact h4⟩
   clear h4
   go_enter Tryz.func141,Tryz.ntmps141
   go_wp2_with fail
   go_ret
   exact ⟨eC HB.out.symm,rfl⟩
  ·have e1:=io h4
   have HB:Hid (pre s 0 t=false):=by
    unfold pre;refine zA fun h=>h4 ?_
    have:=h.2
    rwa [zC] at this
   clear h4
   go_enter Tryz.func141,Tryz.ntmps141
   go_wp2_with fail
   go_ret
   exact ⟨eC HB.out.symm,rfl⟩
 ·have h1':decide ((s.size:Int)>=(t.size:Int))=false:=by simp;omega
  have HB:Hid (pre s 0 t=false):=by
   unfold pre;exact zA fun h=>h1 (by have:=h.1;omega)
  go_enter Tryz.func141,Tryz.ntmps141
  go_wp2_with fail
  go_ret
  exact ⟨eC HB.out.symm,rfl⟩
theorem ke (s t:ByteArray) (w:World) :
  Aa 90 #[.string s,.string t] w fun e w'=>e=.returned (.bool (pre s 0 t))/\w'=w:=by
 go_enter Tryz.func90,Tryz.ntmps90
 go_wp2_with fail
 refine (vK s t w).mono ?_;rintro e w' ⟨rfl,rfl⟩
 generalize hb:pre s 0 t=b
 have HB:Hid (pre s 0 t=b):=hb;clear hb
 go_wp2_with fail
 go_ret
 exact ⟨eC HB.out.symm,rfl⟩
theorem fG (s t:ByteArray) (a:Nat) (ha:a<=s.size):pre (s.extract a s.size) 0 t=pre s a t:=by
 unfold pre;rw [aC s a _ (eq _)]
 by_cases h:a+t.size<=s.size
 ·rw [zC,te s a t.size h];exact B8.2 ⟨fun ⟨_,h2⟩=>⟨h,h2⟩,fun ⟨_,h2⟩=>⟨by omega,h2⟩⟩
 ·rw [zA (fun h2=>h (by have:=h2.1;omega)),zA (fun h2=>h h2.1)]
theorem nO (s:ByteArray) (a:Nat) (w:World) (hT:qP w) (ha:a<s.size) :
  Aa 142 #[.string s,.int .i64 a] w fun e w'=>e=.returned (.string (sg s a))/\Below w.heap.size w w':=by
 have h1:decide ((a:Int)<0)=false:=by simp
 have h2:decide ((a:Int)>=(s.size:Int))=false:=by simp;omega
 have h3:(0:Int)<=(a:Int):=by omega
 have h4:(a:Int)<=(s.size:Int):=by omega
 go_enter Tryz.func142,Tryz.ntmps142
 go_wp2_with fail
 go_loopw [14] (fun i wr=>∃k:Nat,k<=21/\i=.int .i64 k/\(∀j,j<k->pre s a (bD.getD j ByteArray.empty)=false)/\Below w.heap.size w wr) (fun i _=>21-(intOf i).toNat)
 case atStart=>exact ⟨0,by omega,rfl,fun j hj=>by omega,gt _ _⟩
 case round=>
  obtain ⟨k,hk,rfl,hall,hb⟩:=hrel
  by_cases h21:k<21
  ·have c0:=(hT.below hb) k h21;have i1:(0:Int)<=(k:Int):=by omega
   have i2:(k:Int)<21:=by omega
   have HH:Hid (pre s a (bD.getD k ByteArray.empty)=true->sg s a=bD.getD k ByteArray.empty):=xh s a k h21 hall
   have HN:Hid (pre s a (bD.getD k ByteArray.empty)=false->∀j,j<k+1->pre s a (bD.getD j ByteArray.empty)=false):=fun h j hj=>by
    by_cases e:j=k
    ·subst e;exact h
    ·exact hall j (by omega)
   clear hall hT
   generalize bD.getD k ByteArray.empty=x at *
   have HC:Hid (∀W,Aa 90 #[.string (s.extract a s.size),.string x] W fun e w'=>e=.returned (.bool (pre s a x))/\w'=W):=fun W=>by
    rw [<-fG s x a (by omega)];exact ke _ _ W
   cases hp:pre s a x
   ·rw [hp] at HC;have HP:Hid (pre s a x=false):=hp;clear hp HH
    go_wp2_with fail
    go_quiet ((go_at_call 90;exact Calls.quiet_of_same (HC.out _)))
    go_wp2_with fail
    exact ⟨⟨k+1,by omega,by go_num,HN.out HP.out,bz hb _⟩,by simp [intOf];omega⟩
   ·rw [hp] at HC;have HP:Hid (pre s a x=true):=hp;clear hp HN
    go_wp2_with fail
    go_quiet ((go_at_call 90;exact Calls.quiet_of_same (HC.out _)))
    go_wp2_with fail
    go_ret
    exact ⟨by rw [HH.out HP.out];rfl,bz hb _⟩
  ·have HM:Hid (sg s a=ByteArray.empty):=uH s a (fun j hj=>hall j (by omega));clear hall hT
   go_wp2_with fail
   go_ret
   exact ⟨by rw [HM.out];rfl,hb⟩
end Go.Proofs.YtpdlohfdjiaegaaGreatDoor.Lx
namespace Go.Proofs.YtpdlohfdjiaegaaGreatDoor.Lx
open Go.RowKit
variable {s:ByteArray}{b:Nat}
def nlF (s:ByteArray):Nat->Nat->Nat
 |0,i=>i
 |f+1,i=>if by8 s i=10 then i else nlF s f (i+1)
def nl (s:ByteArray) (i:Nat):Nat:=nlF s (s.size-i) i
theorem jy (s:ByteArray):∀f i,i<=nlF s f i/\nlF s f i<=i+f/\(∀j,i<=j->j<nlF s f i->by8 s j≠10)/\(nlF s f i<i+f->by8 s (nlF s f i)=10)
 |0,i=>by
  show i<=i/\i<=i+0/\_/\_
  exact ⟨eq _,eq _,fun j h1 h2=>by unfold nlF at h2;omega,fun h=>by unfold nlF at h;omega⟩
 |f+1,i=>by
  unfold nlF
  by_cases h:by8 s i=10
  ·rw [zw h];exact ⟨eq _,by omega,fun j h1 h2=>by omega,fun _=>h⟩
  ·rw [zu h];obtain ⟨h1,h2,h3,h4⟩:=jy s f (i+1);refine ⟨by omega,by omega,fun j h5 h6=>?_,fun h5=>h4 (by omega)⟩
   by_cases e:j=i
   ·rw [e];exact h
   ·exact h3 j (by omega) h6
theorem et (s:ByteArray) (i:Nat) (h:i<=s.size):i<=nl s i/\nl s i<=s.size/\(∀j,i<=j->j<nl s i->by8 s j≠10)/\(nl s i<s.size->by8 s (nl s i)=10):=by
 obtain ⟨h1,h2,h3,h4⟩:=jy s (s.size-i) i;exact ⟨h1,by unfold nl;omega,h3,fun h5=>h4 (by unfold nl at h5;omega)⟩
theorem lr (s:ByteArray) (i j:Nat) (h:i<=j) (hj:j<=s.size) (hn:∀k,i<=k->k<j->by8 s k≠10) (he:j=s.size\/by8 s j=10):nl s i=j:=by
 obtain ⟨h1,h2,h3,h4⟩:=et s i (by omega)
 rcases Nat.lt_trichotomy (nl s i) j with hl|hl|hl
 ·exact absurd (h4 (by omega)) (hn _ h1 hl)
 ·exact hl
 ·rcases he with he|he
  ·omega
  ·exact absurd he (h3 j h hl)
def cn (s:ByteArray):Nat->Nat
 |0=>0
 |i+1=>cn s i+(if by8 s i=10 then 1 else 0)
def lf (s:ByteArray):Nat->Nat
 |0=>0
 |i+1=>if by8 s i=10 then i+1 else lf s i
def bg (s:ByteArray):Nat->Nat
 |0=>0
 |k+1=>nl s (bg s k)+1
theorem ed (s:ByteArray) (i:Nat):(by8 s i=10/\cn s (i+1)=cn s i+1)\/(by8 s i≠10/\cn s (i+1)=cn s i):=by
 show (_/\cn s i+_=_)\/(_/\cn s i+_=_)
 by_cases h:by8 s i=10
 ·rw [zw h];exact .inl ⟨h,rfl⟩
 ·rw [zu h];exact .inr ⟨h,rfl⟩
theorem oK (s:ByteArray) (i:Nat):∀d,cn s i<=cn s (i+d)
 |0=>eq _
 |d+1=>by
  have h:=oK s i d;have:=ed s (i+d);rw [<-A8];omega
theorem tS (s:ByteArray) {i j:Nat}(h:i<=j):cn s i<=cn s j:=by
 have:=oK s i (j-i);rw [show i+(j-i)=j by omega] at this;exact this
theorem wS (s:ByteArray):∀i,cn s i<=i
 |0=>eq _
 |i+1=>by have:=wS s i;have:=ed s i;omega
theorem l9 (s:ByteArray) (i:Nat):∀d,(∀k,i<=k->k<i+d->by8 s k≠10)->cn s (i+d)=cn s i
 |0,_=>rfl
 |d+1,h=>by
  have ih:=l9 s i d (fun k h1 h2=>h k h1 (by omega))
  rcases ed s (i+d) with ⟨h1,_⟩|⟨_,h2⟩
  ·exact absurd h1 (h _ (by omega) (by omega))
  ·rw [<-A8];omega
theorem qB (s:ByteArray) {i j:Nat}(h:i<=j) (hn:∀k,i<=k->k<j->by8 s k≠10):cn s j=cn s i:=by
 have:=l9 s i (j-i) (fun k h1 h2=>hn k h1 (by omega));rw [show i+(j-i)=j by omega] at this;exact this
theorem dQ (s:ByteArray):∀i,lf s i<=i/\(∀j,lf s i<=j->j<i->by8 s j≠10)/\(lf s i=0\/(1<=lf s i/\by8 s (lf s i-1)=10))
 |0=>⟨eq _,fun j _ h=>by omega,.inl rfl⟩
 |i+1=>by
  unfold lf
  by_cases h:by8 s i=10
  ·rw [zw h];exact ⟨eq _,fun j h1 h2=>by omega,.inr ⟨by omega,h⟩⟩
  ·rw [zu h];obtain ⟨h1,h2,h3⟩:=dQ s i;refine ⟨by omega,fun j h4 h5=>?_,h3⟩
   by_cases e:j=i
   ·rw [e];exact h
   ·exact h2 j h4 (by omega)
theorem eO (s:ByteArray) (i:Nat):lf s (i+1)=if by8 s i=10 then i+1 else lf s i:=rfl
theorem ou (s:ByteArray):∀i,cn s i=0->lf s i=0
 |0,_=>rfl
 |i+1,h=>by
  rcases ed s i with ⟨_,h2⟩|⟨h1,h2⟩
  ·omega
  ·rw [eO,zu h1];exact ou s i (by omega)
theorem wT (s:ByteArray):∀i,i<=s.size->bg s (cn s i)=lf s i
 |0,_=>rfl
 |i+1,h=>by
  have ih:=wT s i (by omega);rw [eO]
  rcases ed s i with ⟨h1,h2⟩|⟨h1,h2⟩
  ·rw [h2,zw h1];show nl s (bg s (cn s i))+1=_;obtain ⟨f1,f2,_⟩:=dQ s i;rw [ih,lr s (lf s i) i f1 (by omega) f2 (.inr h1)]
  ·rw [h2,zu h1,ih]
theorem oi (s:ByteArray) (i:Nat) (hi:i<=s.size):(nl s i<s.size/\cn s i<cn s s.size/\cn s (nl s i+1)=cn s i+1/\cn s (nl s i)=cn s i)\/(nl s i=s.size/\cn s i=cn s s.size):=by
 obtain ⟨h1,h2,h3,h4⟩:=et s i hi;have hc:=qB s h1 h3
 by_cases h:nl s i<s.size
 ·have e:=h4 h
  rcases ed s (nl s i) with ⟨_,h5⟩|⟨h5,_⟩
  ·have:=tS s (i:=nl s i+1) (j:=s.size) (by omega);exact .inl ⟨h,by omega,by omega,hc⟩
  ·exact absurd e h5
 ·have e:nl s i=s.size:=by omega
  rw [e] at hc;exact .inr ⟨e,hc.symm⟩
theorem jb (s:ByteArray):∀k,k<=cn s s.size->bg s k<=s.size/\cn s (bg s k)=k
 |0,_=>⟨zx _,rfl⟩
 |k+1,h=>by
  obtain ⟨h1,h2⟩:=jb s k (by omega);show nl s (bg s k)+1<=_/\cn s (nl s (bg s k)+1)=_
  rcases oi s (bg s k) h1 with ⟨a,b,c,_⟩|⟨a,b⟩
  ·exact ⟨by omega,by omega⟩
  ·omega
theorem wK (s:ByteArray) (k:Nat) (h:k<=cn s s.size):bg s k<=nl s (bg s k)/\nl s (bg s k)<=s.size/\(nl s (bg s k)<s.size↔k<cn s s.size):=by
 obtain ⟨h1,h2⟩:=jb s k h;obtain ⟨h3,h4,_⟩:=et s (bg s k) h1;refine ⟨h3,h4,?_⟩
 rcases oi s (bg s k) h1 with ⟨a,b,c,_⟩|⟨a,b⟩
 ·omega
 ·omega
def ln (s:ByteArray) (k:Nat):ByteArray:=s.extract (bg s k) (nl s (bg s k))
theorem vz (s:ByteArray) (k:Nat) (h:k<=cn s s.size):(ln s k).size<=s.size:=by
 have:=wK s k h;unfold ln;rw [aC _ _ _ this.2.1];omega
theorem wv (s:ByteArray):bg s (cn s s.size)=lf s s.size:=wT s _ (eq _)
theorem vA (s:ByteArray):ln s (cn s s.size)=s.extract (lf s s.size) s.size:=by
 unfold ln;rw [wv];obtain ⟨f1,f2,_⟩:=dQ s s.size;rw [lr s (lf s s.size) s.size f1 (eq _) f2 (.inl rfl)]
theorem uF (s:ByteArray) (k:Nat):st s k<=st s (k+1):=by
 by_cases h:k<(P s).length
 ·have:=cI s k h;omega
 ·rw [iy s k (by omega),iy s (k+1) (by omega)];omega
theorem jP (s:ByteArray) (i j:Nat) (h:i<=j):st s i<=st s j:=by
 obtain ⟨d,rfl⟩:∃d,j=i+d:=⟨j-i,by omega⟩;clear h
 induction d with
 |zero=>exact eq _
 |succ d ih=>have:=uF s (i+d);rw [<-A8];omega
theorem gi (s:ByteArray) (i j:Nat) (h:i<j) (hj:j<=(P s).length):st s i<st s j:=by
 have e:=cI s i (by omega);have hw:=aJ s (st s i) ((dr s i).2 (by omega));have:=jP s (i+1) j h;omega
def hd (s:ByteArray) (k:Nat):ByteArray:=s.extract 0 (st s k)
theorem gZ (s:ByteArray) (k:Nat):(hd s k).size=st s k:=by
 unfold hd;rw [aC s 0 _ (ix s k)];omega
theorem kK (s:ByteArray) (k:Nat) (hk:k<=(P s).length):∀j,j<=k->st (hd s k) j=st s j
 |0,_=>rfl
 |j+1,h=>by
  have ih:=kK s k hk j (by omega);have e:=cI s j (by omega);have hw:=aJ s (st s j) ((dr s j).2 (by omega));have hm:=jP s (j+1) k h;have hd':Utf8.decode (hd s k) (st s j)=Utf8.decode s (st s j):=tA s (st s k) (st s j) (ix s k) (by omega) (by omega);have hl:j<(P (hd s k)).length:=(dr _ j).1 (by rw [ih,gZ];omega);rw [cI _ j hl,ih,e];unfold dw;rw [hd']
theorem zp (s:ByteArray) (k:Nat) (hk:k<=(P s).length):(P (hd s k)).length=k:=by
 have h1:¬k<(P (hd s k)).length:=by
  rw [<-dr,kK s k hk k (eq _),gZ];omega
 by_cases h0:k=0
 ·omega
 ·have e:=cI s (k-1) (by omega);have hw:=aJ s (st s (k-1)) ((dr s _).2 (by omega));rw [show k-1+1=k by omega] at e
  have h2:k-1<(P (hd s k)).length:=by
   rw [<-dr,kK s k hk _ (by omega),gZ];omega
  omega
theorem kX (s:ByteArray) (a:Nat) (ha:a<=s.size):∀f i,plc s f (a+i)=(plc (s.extract a s.size) f i).map (fun k=>a+k)
 |0,_=>rfl
 |f+1,i=>by
  unfold plc;rw [aC s a _ (eq _)]
  by_cases h:a+i<s.size
  ·rw [zw h,zw (by omega),Bj];have e:dw (s.extract a s.size) i=dw s (a+i):=by unfold dw;rw [eK s a i ha]
   rw [e,A8,kX s a ha f (i+dw s (a+i))]
  ·rw [zu h,zu (by omega)];rfl
theorem yw (s:ByteArray) (k:Nat) (hk:k<=(P s).length):(P (s.extract (st s k) s.size)).length=(P s).length-k:=by
 have h:=kX s (st s k) (ix s k) (s.size-st s k) 0
 have e:pl s (st s k)=(P (s.extract (st s k) s.size)).map (fun j=>st s k+j):=by
  unfold P pl;rw [aC s _ _ (eq _)];exact h
 rw [nZ] at e;have:=zO List.length e;simp at this;omega
theorem ec (s:ByteArray) (a b c d:Nat) (hb:b<=s.size) (hd:a+d<=b) (hc:c<=d):(s.extract a b).extract c d=s.extract (a+c) (a+d):=by
 have z1:=aC s a b hb;have z2:=aC (s.extract a b) c d (by omega);have z3:=aC s (a+c) (a+d) (by omega);refine kB _ _ (by omega) fun k hk=>?_
 rw [eR,zw (by omega),eR,zw (by omega),eR,zw (by omega),A8]
theorem uh (s:ByteArray) (a b:Nat) (hab:a<=b) (hb:b<=(P s).length):(P (s.extract (st s a) (st s b))).length=b-a:=by
 have h1:=zp s b hb;have h2:=kK s b hb a hab;have h3:=yw (hd s b) a (by omega);rw [h1,h2,gZ] at h3;have hm:=jP s a b hab
 have e:(hd s b).extract (st s a) (st s b)=s.extract (st s a) (st s b):=by
  unfold hd;rw [ec s 0 (st s b) _ _ (ix s b) (by omega) hm,zC,zC]
 rw [e] at h3;exact h3
def bd (s:ByteArray) (b:Nat):Prop:=∃k,k<=(P s).length/\st s k=b
theorem kx (s:ByteArray):bd s 0:=⟨0,zx _,rfl⟩
theorem oM (s:ByteArray):bd s s.size:=⟨_,eq _,iy s _ (eq _)⟩
theorem t6 (h:bd s b):b<=s.size:=by obtain ⟨k,_,rfl⟩:=h;exact ix s k
theorem tQ {a c:Nat}(ha:bd s a) (hb:bd s b) (hc:bd s c) (hab:a<=b) (hbc:b<=c) :
  (P (s.extract a b)).length+(P (s.extract b c)).length=(P (s.extract a c)).length:=by
 obtain ⟨i,hi,rfl⟩:=ha;obtain ⟨j,hj,rfl⟩:=hb;obtain ⟨k,hk,rfl⟩:=hc
 have h1:i<=j:=by
  apply Ap;intro h
  have:=gi s j i (by omega) hi;omega
 have h2:j<=k:=by
  apply Ap;intro h
  have:=gi s k j (by omega) hj;omega
 rw [uh s i j h1 hj,uh s j k h2 hk,uh s i k (by omega) hk];omega
theorem xX (s:ByteArray) (i:Nat) (h:by8 s i=10):dw s i=1:=by
 unfold dw;rw [bR,h];rfl
theorem pW (s:ByteArray) (j:Nat) (h:by8 s j=10):j<s.size:=by
 apply Ap;intro hn
 have:by8 s j=0:=ub s j (by omega);omega
theorem tZ (s:ByteArray) (j:Nat) (h:by8 s j=10):bd s j/\bd s (j+1):=by
 have hj:=pW s j h;obtain ⟨m,h1,h2,h3,h4,h5⟩:=fA s j (P s).length (by rw [iy s _ (eq _)];exact hj)
 have e:st s m=j:=by
  apply Ap;intro hne
  have:=(gu s (st s m) (j-st s m) (by omega) (by omega)).2;rw [show st s m+(j-st s m)=j by omega,h] at this;omega
 refine ⟨⟨m,by omega,e⟩,⟨m+1,by omega,?_⟩⟩;rw [cI s m h2,e,xX s j h]
theorem zm (s:ByteArray) (i:Nat):bd s (lf s i):=by
 rcases (dQ s i).2.2 with h|⟨h1,h2⟩
 ·rw [h];exact kx s
 ·have:=(tZ s _ h2).2;rw [show lf s i-1+1=lf s i by omega] at this;exact this
theorem kv (s:ByteArray) (a:Nat):∀i,i<=a->cn (s.extract 0 a) i=cn s i
 |0,_=>rfl
 |i+1,h=>by
  show cn _ i+_=cn s i+_
  rw [kv s a i (by omega),fO s a i (by omega)]
theorem ox (s:ByteArray) (a:Nat):∀i,i<=a->lf (s.extract 0 a) i=lf s i
 |0,_=>rfl
 |i+1,h=>by
  rw [eO,eO,ox s a i (by omega),fO s a i (by omega)]
theorem ku (s:ByteArray) (a:Nat):∀i,a+i<=s.size->cn s (a+i)=cn s a+cn (s.extract a s.size) i
 |0,_=>rfl
 |i+1,h=>by
  show cn s (a+i)+_=_+(cn _ i+_)
  rw [ku s a i (by omega),bv s a s.size i (by omega),A8];rfl
theorem ov (s:ByteArray) (a:Nat):∀i,a+i<=s.size->lf s (a+i)=if cn (s.extract a s.size) i=0 then lf s a else a+lf (s.extract a s.size) i
 |0,_=>rfl
 |i+1,h=>by
  have ih:=ov s a i (by omega);have e:=bv s a s.size i (by omega);rw [<-A8,eO,eO,e]
  rcases ed (s.extract a s.size) i with ⟨h1,h2⟩|⟨h1,h2⟩
  ·rw [e] at h1;rw [zw h1,zw h1,zu (by omega)];rfl
  ·rw [e] at h1;rw [zu h1,zu h1,h2,ih]
def dD (l:Int) (s:ByteArray):Int:=wrap64 (l+cn s s.size)
def gx (c:Int) (s:ByteArray):Int:=wrap64 ((if cn s s.size=0 then c else 1)+(P (s.extract (lf s s.size) s.size)).length)
def aAt (a:Int) (s:ByteArray):Int:=wrap64 (a+s.size)
theorem ig (a b:Int):wrap64 (wrap64 a+b)=wrap64 (a+b):=by unfold wrap64;omega
theorem pZ (s:ByteArray) (w:Nat) (hw:w<=s.size) (l:Int):dD (dD l (s.extract 0 w)) (s.extract w s.size)=dD l s:=by
 unfold dD;have z1:=aC s 0 w hw;have z2:=aC s w s.size (eq _);have h:=ku s w (s.size-w) (by omega);rw [show w+(s.size-w)=s.size by omega] at h;rw [z1,z2,h,kv s w _ (by omega),DT,ig]
 congr 1;omega
theorem tP (s:ByteArray) (w:Nat) (hw:bd s w) (c:Int):gx (gx c (s.extract 0 w)) (s.extract w s.size)=gx c s:=by
 have hws:=t6 hw;have z1:=aC s 0 w hws;have z2:=aC s w s.size (eq _);have h:=ku s w (s.size-w) (by omega);have hl:=ov s w (s.size-w) (by omega);rw [show w+(s.size-w)=s.size by omega] at h hl;have f:=dQ s w;have f2:=dQ (s.extract w s.size) (s.size-w);unfold gx;rw [z1,z2,kv s w _ (by omega),ox s w _ (by omega),DT];rw [ec s 0 w _ _ hws (by omega) f.1,zC,zC];rw [ec s w s.size _ _ (eq _) (by omega) f2.1,show w+(s.size-w)=s.size by omega]
 by_cases hz:cn (s.extract w s.size) (s.size-w)=0
 ·rw [zw hz] at hl ⊢;rw [hl,h,hz,A3,ou _ _ hz,A3,ig,<-tQ (zm s w) hw (oM s) f.1 hws]
  congr 1;omega
 ·rw [zu hz] at hl ⊢;rw [hl,h,zu (by omega)]
theorem kV {p:Int}(h:lt' p=true):pr' p=true:=by unfold pr';rw [h];rfl
end Go.Proofs.YtpdlohfdjiaegaaGreatDoor.Lx
