import Derived.Laws.RangeAny
import Derived.Deep.QuietTactic
import Derived.BigQuiet
import Derived.Test.YthfjlkfeeglfmaaGreatDoorM01
set_option linter.all false
set_option maxHeartbeats 1000000
namespace Go.Proofs.YthfjlkfeeglfmaaGreatDoor.Lx
open Go.Proofs.Tryz
variable {s x:ByteArray}{b:Nat}{p a:Int}{c:Option Nat}
/-
 The plain mathematics of layer 1: characters by the model's decoding.
-/
def dp (s:ByteArray) (i:Nat):Nat:=(Utf8.decode s i).1
def dw (s:ByteArray) (i:Nat):Nat:=(Utf8.decode s i).2
def Iv (s:ByteArray) (i:Nat) (h:s.size<=i):(s.get! i).toNat=0:=by
 have e:s.get! i=default:=by
  show s.data[i]! = default;exact getElem!_neg _ _ (by show ¬i<s.data.size;have:s.data.size=s.size:=rfl;omega)
 rw[e];rfl
def aQ (s:ByteArray) (i:Nat) (h:i<s.size):1<=dw s i/\dw s i<=4/\i+dw s i<=s.size:=by
 unfold dw Utf8.decode;simp only[]
 repeat' split
 all_goals simp_all
 all_goals omega
def wW (s:ByteArray) (i:Nat):dp s i<=1114111:=by
 have u:∀k,(s.get! (i+k)).toNat<256:=λk=>(s.get! (i+k)).toNat_lt
 have G:=u 0;have H:=u 1;have I:=u 2;have J:=u 3;unfold dp Utf8.decode;simp only[]
 repeat' split
 all_goals simp_all[Utf8.runeError,Utf8.valid]
 all_goals omega
def tJ (s t:ByteArray) (i j:Nat) (h:∀k,k<4->t.get! (j+k)=s.get! (i+k)) (u:∀k,k<4->(j+k<t.size↔i+k<s.size)):Utf8.decode t j=Utf8.decode s i:=by
 unfold Utf8.decode;simp only[h 0 (by omega),h 1 (by omega),h 2 (by omega),h 3 (by omega),u 1 (by omega),u 2 (by omega),u 3 (by omega)]
def jr (s:ByteArray) (a b i:Nat):(s.extract a b).get! i=if a+i<b then s.get! (a+i)else default:=by
 have e:∀(x:ByteArray) (k:Nat),x.get! k=x.data.toList[k]?.getD default:=by
  intro x k;show x.data[k]! = _;rw[Array.getElem!_eq_getD,UA,Vn]
 rw[e,e,Va,Array.toList_extract];simp only[List.extract_eq_take_drop,Sv,Sl]
 by_cases h:a+i<b
 ·rw[Or h,Or (by omega)]
 ·rw[Eq h,Eq (by omega)];rfl
def aE (s:ByteArray) (a b:Nat) (h:b<=s.size):(s.extract a b).size=b-a:=by
 rw[ByteArray.size_extract];omega
def iL (s:ByteArray) (a i:Nat) (h:a<=s.size):Utf8.decode (s.extract a s.size) i=Utf8.decode s (a+i):=by
 refine tJ _ _ _ _ (λk _=>?_) (λk _=>by rw[aE s a _ (ge _)];omega);rw[jr]
 by_cases u:a+(i+k)<s.size
 ·rw[Or u,TW]
 ·rw[Eq u];show _=s.data[a+i+k]!;exact(getElem!_neg _ _ (by show ¬_<s.data.size;have:s.data.size=s.size:=rfl;omega)).symm
def KP (p n:Int):Bool:=(p != 65533)||decide (1<n)
def gd (s:ByteArray) (i:Nat):Bool:=KP (dp s i) (dw s i)
def RK (s t:ByteArray):Bool:=gd (s++t) 0&&decide (s.size<dw (s++t) 0)
def Km (s:ByteArray):Bool:=RK s ⟨#[128,128,128]⟩||RK s ⟨#[191,191,191]⟩
def whF (s:ByteArray):Nat->Nat->Nat
 |0,_=>s.size
 |f+1,n=>if n<=s.size then(if Km (s.extract (s.size-n) s.size)=true then s.size-n else whF s f (n+1))else s.size
def Ao (s:ByteArray):Nat->Nat->List Nat
 |0,_=>[]
 |f+1,i=>if i<s.size then i :: Ao s f (i+dw s i)else[]
def vM (s:ByteArray):∀(f g i:Nat),s.size<=i+f->s.size<=i+g->Ao s f i=Ao s g i
 |0,0,_,_,_=>rfl
 |0,g+1,i,h,_=>by unfold Ao;rw[Eq (by omega)]
 |f+1,0,i,_,h=>by unfold Ao;rw[Eq (by omega)]
 |f+1,g+1,i,hf,hg=>by
  unfold Ao
  split
  ·rename_i u
   have:=(aQ s i u).1;rw[vM s f g (i+dw s i) (by omega) (by omega)]
  ·rfl
def pl (s:ByteArray) (i:Nat):List Nat:=Ao s (s.size-i) i
def P (s:ByteArray):List Nat:=pl s 0
def Ar (s:ByteArray) (i:Nat) (h:i<s.size):pl s i=i :: pl s (i+dw s i):=by
 have G:=aQ s i h;unfold pl;obtain⟨f,u⟩:∃f,s.size-i=f+1:=⟨s.size-i-1,by omega⟩;rw[u];show(if i<s.size then i :: Ao s f (i+dw s i)else[])=_;rw[Or h,vM s f (s.size-(i+dw s i)) _ (by omega) (by omega)]
def FJ (s:ByteArray) (i:Nat) (h:s.size<=i):pl s i=[]:=by
 unfold pl;rw[show s.size-i=0 by omega];rfl
def FI (s:ByteArray):∀(f i:Nat),(Ao s f i).length<=f
 |0,_=>by simp[Ao]
 |f+1,i=>by
  unfold Ao
  split
  ·simp;exact FI s f _
  ·simp
def BJ (s:ByteArray):(P s).length<=s.size:=by
 unfold P pl;exact PI (FI s _ _) (by omega)
open Go.RowKit
def w64 (n:Nat) (h:n<=1114111):wrap64 (n:Int)=n:=by unfold wrap64;omega
def JX {k:IntKind}{b:Int}(h:a=b):Ending.returned (.int k a)=.returned (.int k b):=by rw[h]
def du (w:World) (s:ByteArray) (p:Nat):Below w.heap.size w (w.iter s p):=(gt _ _).alloc (ge _) _
def Dy (s:ByteArray) (w:World) (I:s.size<=maxLen) :
  Sa 141 #[.string s] w λe w'=>Uk e (Tu (P s).length)/\∃pos,w'=w.iter s pos:=by
 unfold maxLen at I;have S:=BJ s;go_enter func141,ntmps141;go_wp2
 go_loopw [3] (λn w'=>∃(pos k:Nat),w'=w.iter s pos/\n=Tu k/\k+(pl s pos).length=(P s).length) (λ_ w'=>s.size-w'.iterPos w.heap.size)
 case atStart=>exact⟨0,0,rfl,rfl,by simp[P]⟩
 case round=>
  obtain⟨pos,k,rfl,rfl,hc⟩:=hrel;have Q:k<=(P s).length:=by omega
  by_cases H:pos<s.size
  ·have hnx:∀u,(Instr.next (.pointer (some ⟨w.heap.size,0,none⟩)) true u).run Tryz.prog (w.iter s pos)=_:=λu=>VU w s pos u H
   have J:=aQ s pos H;have G:(pl s pos).length=(pl s (pos+dw s pos)).length+1:=by rw[Ar s pos H];simp
   have HC:Hid (k+1+(pl s (pos+dw s pos)).length=(P s).length):=by show _=_;omega
   have O:k+1<=(P s).length:=by omega
   clear hc G;unfold dw at J;go_wp2;go_roundw
   case rel=>exact⟨pos+dw s pos,k+1,rfl,by go_num,HC.out⟩
   case measure=>
    simp;omega
  ·have hnx:∀u,(Instr.next (.pointer (some ⟨w.heap.size,0,none⟩)) true u).run Tryz.prog (w.iter s pos)=_:=λu=>WD w s pos u H
   have M:(pl s pos).length=0:=by rw[FJ s pos (by omega)];rfl
   have HC:Hid (k=(P s).length):=by show _=_;omega
   clear hc M;go_wp2;go_ret;exact⟨JX (by rw[HC.out]),_,rfl⟩
def lV (s:ByteArray) (w:World) (J:s.size<=maxLen) (G:0<s.size) :
  Sa 185 #[.string s] w λe w'=>Uk e (.tuple #[.int .i32 (dp s 0),Tu (dw s 0)])/\Se w w':=by
 unfold maxLen at J;have M:=aQ s 0 G;go_enter func185,ntmps185;go_wp2
 go_loopw [4] (λp w'=>w'=w.iter s 0\/(p=.int .i32 (dp s 0)/\w'=w.iter s (dw s 0))) (λ_ w'=>s.size-w'.iterPos w.heap.size)
 case atStart=>exact .inl rfl
 case round=>
  rcases hrel with rfl|⟨rfl,rfl⟩
  ·have hnx:∀u,(Instr.next (.pointer (some ⟨w.heap.size,0,none⟩)) true u).run Tryz.prog (w.iter s 0)=_:=λu=>VU w s 0 u G
   unfold dw at M;go_wp2;go_roundw
   case rel=>exact .inr ⟨rfl,by simp[dw]⟩
   case measure=>simp;omega
  ·by_cases H:dw s 0<s.size
   ·have hnx:∀u,(Instr.next (.pointer (some ⟨w.heap.size,0,none⟩)) true u).run Tryz.prog (w.iter s (dw s 0))=_:=λu=>VU w s (dw s 0) u H
    go_wp2;go_ret2
    exact⟨rfl,du _ _ _⟩
   ·have hnx:∀u,(Instr.next (.pointer (some ⟨w.heap.size,0,none⟩)) true u).run Tryz.prog (w.iter s (dw s 0))=_:=λu=>WD w s (dw s 0) u H
    have I:Hid (s.size=dw s 0):=by show _=_;omega
    go_wp2;go_ret2
    exact⟨by rw[I.out];rfl,du _ _ _⟩
def GE (p n:Int) (w:World) :
  Sa 186 #[.int .i32 p,Tu n] w λe w'=>Uk e (.bool (KP p n))/\w'=w:=by
 by_cases u:p=65533
 ·have e:KP p n=decide (1<n):=by simp[KP,u]
  have G:(p != 65533)=false:=by simp[u]
  rw[e];clear e u;go_enter func186,ntmps186;go_wp2;go_ret;exact⟨rfl,rfl⟩
 ·have e:KP p n=true:=by simp[KP,u]
  have G:(p != 65533)=true:=by simp[u]
  rw[e];clear e u;go_enter func186,ntmps186;go_wp2;go_ret;exact⟨rfl,rfl⟩
def AB (s:ByteArray) (a:Int) (w:World) (J:s.size<=maxLen) (I:0<=a) (M:a<s.size) :
  Sa 123 #[.string s,Tu a] w λe w'=>Uk e (.tuple #[Tu (dp s a.toNat),Tu (dw s a.toNat),.bool (gd s a.toNat)])/\Se w w':=by
 obtain⟨n,rfl⟩:=Int.eq_ofNat_of_zero_le I;rw[Tg];have O:(s.extract n s.size).size=s.size-n:=aE s n _ (ge _);have G:Hid (dp (s.extract n s.size) 0=dp s n):=by show _=_;unfold dp;rw[iL s n 0 (by omega)];rfl
 have H:Hid (dw (s.extract n s.size) 0=dw s n):=by show _=_;unfold dw;rw[iL s n 0 (by omega)];rfl
 unfold maxLen at J;go_enter func123,ntmps123;(go_wp2_with fail);refine(lV _ _ (by unfold maxLen;omega) (by omega)).mono ?_;rintro e Q⟨rfl,u⟩;rw[G.out,H.out];(go_wp2_with fail);refine(GE _ _ _).mono ?_;rintro e w2⟨rfl,rfl⟩;(go_wp2_with fail);go_ret3;exact⟨by show Ending.returned (.tuple #[Tu (wrap64 (dp s n)),_,_])=_;rw[w64 _ (wW s n)];rfl,u⟩
def vW (s:ByteArray) (a:Int) (w:World) (G:s.size<=maxLen) (u:a<0\/s.size<=a) :
  Sa 123 #[.string s,Tu a] w λe w'=>Uk e (.tuple #[Tu 0,Tu 0,.bool false])/\Se w w':=by
 unfold maxLen at G
 rcases u with u|u
 ·go_enter func123,ntmps123;(go_wp2_with fail)
  go_ret3;exact⟨rfl,gt _ _⟩
 ·have H:¬a<0:=by omega
  go_enter func123,ntmps123;(go_wp2_with fail)
  go_ret3;exact⟨rfl,gt _ _⟩
def Tryz.info3:(Tryz.prog.info? 3).map (λi=>(i.zero,i.size,i.bytes))=some (some (Tu 0),1,8):=by kernel_rfl
def aK (s:ByteArray) (i:Nat):Nat:=(s.get! i).toNat
def ob (s:ByteArray) (i:Nat):Option Nat:=if i<s.size then some (aK s i)else none
def ct (c:Option Nat):Bool:=match c with|some b=>b / 64==2|none=>false
def vv (c:Option Nat):Nat:=c.getD 0 % 64
def D (b0:Nat) (c1 c2 c3:Option Nat):Nat × Nat:=
 if b0<128 then(b0,1)
 else if b0 / 32==6&&ct c1 then(if b0 % 32*64+vv c1>=128 then(b0 % 32*64+vv c1,2)else(65533,1))
 else if b0 / 16==14&&ct c1&&ct c2 then
  (if b0 % 16*4096+vv c1*64+vv c2>=2048&&Utf8.valid (b0 % 16*4096+vv c1*64+vv c2:Nat)then(b0 % 16*4096+vv c1*64+vv c2,3)else(65533,1))
 else if b0 / 8==30&&ct c1&&ct c2&&ct c3 then
  (if b0 % 8*262144+vv c1*4096+vv c2*64+vv c3>=65536&&Utf8.valid (b0 % 8*262144+vv c1*4096+vv c2*64+vv c3:Nat)then(b0 % 8*262144+vv c1*4096+vv c2*64+vv c3,4)else(65533,1))
 else(65533,1)
def Pg (s:ByteArray) (i:Nat):(decide (i<s.size)&&(s.get! i).toNat / 64==2)=ct (ob s i):=by
 unfold ob ct aK
 by_cases h:i<s.size<;>simp[h]
def Pf (s:ByteArray) (i:Nat):vv (ob s i)=(s.get! i).toNat % 64:=by
 unfold ob vv aK
 by_cases h:i<s.size
 ·simp[h]
 ·simp[h,Iv s i (by omega)]
def cV (s:ByteArray) (i:Nat):Utf8.decode s i=D (aK s i) (ob s (i+1)) (ob s (i+2)) (ob s (i+3)):=by
 unfold Utf8.decode D;simp only[Ua,Pg,Pf,aK,Utf8.runeError]
def gD (x:Nat × Nat):Prop:=x.1≠65533\/1<x.2
def FX:¬gD (65533,1):=by unfold gD;simp
def uh (u:Nat) (c1 c2 c3:Option Nat) :
  (D u c1 c2 c3=(65533,1))\/(u<128/\D u c1 c2 c3=(u,1)) \/
  (u / 32=6/\ct c1=true/\(D u c1 c2 c3).2=2/\∀d2 G,D u c1 d2 G=D u c1 c2 c3) \/
  (u / 16=14/\ct c1=true/\ct c2=true/\(D u c1 c2 c3).2=3/\∀G,D u c1 c2 G=D u c1 c2 c3) \/
  (u / 8=30/\ct c1=true/\ct c2=true/\ct c3=true/\(D u c1 c2 c3).2=4):=by
 by_cases H:u<128
 ·exact .inr (.inl ⟨H,by unfold D;rw[Or H]⟩)
 ·have e:∀I J M,D u I J M=_:=λI J M=>by unfold D;rw[Eq H]
  by_cases O:(u / 32==6&&ct c1)=true
  ·grind
  ·by_cases Q:(u / 16==14&&ct c1&&ct c2)=true
   ·grind
   ·by_cases S:(u / 8==30&&ct c1&&ct c2&&ct c3)=true
    ·grind
    ·exact .inl (by rw[e,Eq O,Eq Q,Eq S])
def rI (G:Nat) (c1 c2 c3:Option Nat) (h:¬gD (D G c1 c2 c3)):D G c1 c2 c3=(65533,1):=by
 unfold gD at h
 rcases uh G c1 c2 c3 with H|⟨H,u⟩|⟨_,_,u,_⟩|⟨_,_,_,u,_⟩|⟨_,_,_,_,u⟩
 ·exact H
 ·rw[u]at h;simp at h;omega
 ·rw[u]at h;simp at h
 ·rw[u]at h;simp at h
 ·rw[u]at h;simp at h
def jx {c':Option Nat}(h:c'=c\/c'=none) (hc:ct c'=true):c'=c:=by
 rcases h with h|h
 ·exact h
 ·rw[h]at hc;cases hc
def OK (M:Nat) {c1 c2 c3 u G H:Option Nat}(Q:u=c1\/u=none) (S:G=c2\/G=none) (Z:H=c3\/H=none) (Y:gD (D M u G H)):D M c1 c2 c3=D M u G H:=by
 rcases uh M u G H with e|⟨I,J⟩|⟨_,I,_,J⟩|⟨_,I,J,_,O⟩|⟨_,I,J,O,_⟩
 ·rw[e]at Y;exact absurd Y FX
 ·rw[J];unfold D;rw[Or I]
 ·obtain rfl:=jx Q I;exact J _ _
 ·obtain rfl:=jx Q I;obtain rfl:=jx S J;exact O _
 ·obtain rfl:=jx Q I;obtain rfl:=jx S J;obtain rfl:=jx Z O;rfl
def OJ (I:Nat) {c1 c2 c3 u G H:Option Nat}(Y:u=c1\/u=none) (Z:G=c2\/G=none) (h3:H=c3\/H=none)
  (k1:1<(D I c1 c2 c3).2->u=c1) (k2:2<(D I c1 c2 c3).2->G=c2) (k3:3<(D I c1 c2 c3).2->H=c3):D I u G H=D I c1 c2 c3:=by
 rcases uh I c1 c2 c3 with e|⟨M,J⟩|⟨_,M,Q,J⟩|⟨_,M,J,Q,S⟩|⟨_,M,J,S,Q⟩
 ·rw[e];refine rI _ _ _ _ (λO=>?_);rw[<-OK I Y Z h3 O,e]at O;exact FX O
 ·rw[J];unfold D;rw[Or M]
 ·obtain rfl:=k1 (by omega);exact J _ _
 ·grind
 ·grind
def NZ (s:ByteArray) (i:Nat):gd s i=true↔gD (Utf8.decode s i):=by
 unfold gd KP gD dp dw;simp;omega
def NY (s:ByteArray) (i:Nat) (h:gd s i=false):Utf8.decode s i=(65533,1):=by
 rw[cV]
 apply rI
 rw[<-cV,<-NZ,h];simp
def Lv (h:ct c=true):∃b,c=some b/\b / 64=2:=by
 cases c with
 |none=>cases h
 |some b=>exact⟨b,rfl,by simpa[ct]using h⟩
def Kn {i:Nat}(h:ob s i=some b):i<s.size/\aK s i=b:=by
 unfold ob at h
 split at h
 ·exact⟨‹_›,by simpa using h⟩
 ·cases h
def lZ (s:ByteArray) (i k:Nat) (S:1<=k) (u:k<dw s i):i+k<s.size/\aK s (i+k) / 64=2:=by
 have Y:∀j,ct (ob s j)=true->j<s.size/\aK s j / 64=2:=by
  intro j O;obtain⟨b,M,G⟩:=Lv O;obtain⟨g1,g2⟩:=Kn M;exact⟨g1,by rw[g2];exact G⟩
 unfold dw at u;rw[cV]at u
 rcases uh (aK s i) (ob s (i+1)) (ob s (i+2)) (ob s (i+3))with e|⟨_,e⟩|⟨_,I,H,_⟩|⟨_,I,J,H,_⟩|⟨_,I,J,Q,H⟩
 ·rw[e]at u;simp at u;omega
 ·rw[e]at u;simp at u;omega
 ·grind
 ·grind
 ·grind
def kX (s:ByteArray) (a i:Nat) (h:i<a):aK (s.extract 0 a) i=aK s i:=by
 unfold aK;rw[jr,Or (by omega),R3]
def sN (s:ByteArray) (a i:Nat) (u:a<=s.size):ob (s.extract 0 a) i=if i<a then ob s i else none:=by
 unfold ob;rw[aE s 0 a u]
 by_cases h:i<a
 ·rw[Or (by omega),Or h,Or (by omega),kX s a i h]
 ·rw[Eq (by omega),Eq h]
def He (s:ByteArray) (a i:Nat) (u:a<=s.size) (G:i<a) (hd:i+dw s i<=a):Utf8.decode (s.extract 0 a) i=Utf8.decode s i:=by
 unfold dw at hd;rw[cV]at hd;rw[cV,cV,kX s a i G,sN s a _ u,sN s a _ u,sN s a _ u];refine OJ _ ?_ ?_ ?_ (λh=>Or (by omega)) (λh=>Or (by omega)) (λh=>Or (by omega))
 all_goals split<;>simp
def st (s:ByteArray):Nat->Nat
 |0=>0
 |n+1=>if st s n<s.size then st s n+dw s (st s n)else st s n
def oE (s:ByteArray):∀n,st s n<=s.size
 |0=>RU _
 |n+1=>by
  unfold st
  split
  ·exact(aQ s _ ‹_›).2.2
  ·exact oE s n
def Ap (s:ByteArray):∀n,pl s (st s n)=(P s).drop n
 |0=>rfl
 |n+1=>by
  have u:=Ap s n;unfold st
  split
  ·rename_i h
   rw[Ar s _ h]at u;rw[<-UP,<-u];rfl
  ·rename_i h
   rw[u];rw[FJ s _ (by omega)]at u;rw[<-u,<-UP,<-u];rfl
def fK (s:ByteArray) (k:Nat):st s k<s.size↔k<(P s).length:=by
 have h:=Ap s k;constructor
 ·intro u;rw[Ar s _ u]at h;have:=Sh List.length h;simp at this;omega
 ·intro u
  apply SQ
  intro G;rw[FJ s _ (by omega)]at h;have:=Sh List.length h;simp at this;omega
def RC (s:ByteArray) (k:Nat) (h:k<(P s).length):(P s)[k]?=some (st s k):=by
 have u:=Ap s k;rw[Ar s _ ((fK s k).2 h)]at u;have:=Sh (λl:List Nat=>l[0]?) u;simp at this;exact this.symm
def oF (s:ByteArray) (k:Nat) (h:(P s).length<=k):st s k=s.size:=by
 have u:=oE s k;have G:=fK s k;omega
def eC (s:ByteArray) (k:Nat) (h:k<(P s).length):st s (k+1)=st s k+dw s (st s k):=by
 show(if st s k<s.size then st s k+dw s (st s k)else st s k)=_;rw[Or ((fK s k).2 h)]
def kj (s:ByteArray) (j:Nat):∀n,j<st s n->∃m,m<n/\m<(P s).length/\st s m<=j/\j<st s m+dw s (st s m)/\st s m+dw s (st s m)<=st s n
 |0,h=>by simp[st]at h
 |n+1,h=>by
  by_cases I:st s n<s.size
  ·have e:=eC s n ((fK s n).1 I)
   by_cases O:j<st s n
   ·obtain⟨m,J,u,G,H,M⟩:=kj s j n O;exact⟨m,by omega,u,G,H,by omega⟩
   ·exact⟨n,by omega,(fK s n).1 I,by omega,by omega,by omega⟩
  ·have e:st s (n+1)=st s n:=by
    show(if st s n<s.size then st s n+dw s (st s n)else st s n)=_;rw[Eq I]
   rw[e]at h;obtain⟨m,J,u,G,H,M⟩:=kj s j n h;exact⟨m,by omega,u,G,H,by omega⟩
def mM (a:ByteArray):a.extract 0 a.size=a:=by
 apply ByteArray.ext
 rw[Va];exact Array.extract_size
def Ir (a b:ByteArray) (I:a.size=b.size) (h:∀i,i<a.size->a.get! i=b.get! i):a=b:=by
 apply ByteArray.ext
 apply Array.ext
 ·exact I
 ·intro i u H;have:=h i u
  have e:∀(x:ByteArray) (G:i<x.data.size),x.get! i=x.data[i]:=by
   intro x G;show x.data[i]! = _;exact VV x.data i G
  rw[e a u,e b H]at this;exact this
def kY (a b:ByteArray) (G:a.size=b.size) (h:∀i,i<a.size->aK a i=aK b i):a=b:=
 Ir a b G (λi u=>VJ.1 (h i u))
def bX (s:ByteArray) (a b i:Nat) (h:a+i<b):aK (s.extract a b) i=aK s (a+i):=by
 unfold aK;rw[jr,Or h]
def OG (s:ByteArray) (k:Nat) (h:k<(P s).length):(P s).take (k+1)=(P s).take k++[st s k]:=by
 have u:=RC s k h;rw[List.take_succ_eq_append_getElem h];have:=(RY.1 u).2;rw[this]
def Kc (s:ByteArray):List Nat:=(P s).map (dp s)
def Ak (s:ByteArray):(Kc s).length=(P s).length:=by unfold Kc;simp
def Fv (s:ByteArray) (k:Nat) (h:k<(P s).length):(Kc s).take (k+1)=(Kc s).take k++[dp s (st s k)]:=by
 unfold Kc;rw[<-List.map_take,OG s k h,SN,List.map_take];rfl
def DU (p:Int):Prop:=(65<=p/\p<=90)\/(97<=p/\p<=122)\/(192<=p/\p<=214)\/(216<=p/\p<=246)\/(248<=p/\p<=591)\/(913<=p/\p<=929)\/(931<=p/\p<=974)\/(1024<=p/\p<=1119)\/(1488<=p/\p<=1514)\/(1568<=p/\p<=1610)\/(2308<=p/\p<=2361)\/(12353<=p/\p<=12438)\/(12449<=p/\p<=12538)\/(19968<=p/\p<=40959)\/(44032<=p/\p<=55203)\/(66560<=p/\p<=66639)\/(131072<=p/\p<=196607)
def IV (p:Int):Prop:=(48<=p/\p<=57)\/(95<=p/\p<=95)\/(768<=p/\p<=879)
instance (p:Int):Decidable (DU p):=by unfold DU;infer_instance
instance (p:Int):Decidable (IV p):=by unfold IV;infer_instance
def us (p:Int):Int:=if DU p then 2 else if IV p then 1 else 0
def jL (p:Int):Bool:=decide (DU p)
def pX (p:Int):Bool:=jL p||decide (IV p)
def MO (h:DU p):us p=2:=by unfold us;rw[Or h]
def MP (h:IV p):us p=1:=by
 unfold us;rw[Eq (by unfold IV at h;unfold DU;omega),Or h]
def OY (h:¬DU p) (u:¬IV p):us p=0:=by unfold us;rw[Eq h,Eq u]
def OZ (p:Int):(us p==2)=jL p:=by
 unfold us jL
 by_cases h:DU p
 ·rw[Or h,R8 h];rfl
 ·rw[Eq h,R9 h];split<;>rfl
def OX (p:Int):(us p != 0)=pX p:=by
 unfold us pX jL
 by_cases h:DU p
 ·rw[Or h,R8 h];rfl
 ·rw[Eq h,R9 h]
  by_cases u:IV p
  ·rw[Or u,R8 u];rfl
  ·rw[Eq u,R9 u];rfl
def Ho (i:Nat) (p:Int) (H:i<20) (u:Bl i<=p) (G:p<=DG i):OP i=us p:=by
 rcases i with _|_|_|_|_|_|_|_|_|_|_|_|_|_|_|_|_|_|_|_|i
 all_goals simp[Bl,DG,OP,gH,List.getD]at u G ⊢
 all_goals first|exact(MO (by unfold DU;omega)).symm|exact(MP (by unfold IV;omega)).symm|omega
def Hq (p:Int) (h:∀k,k<20->p<Bl k\/DG k<p):us p=0:=by
 have Z:=h 0 (by omega);have a1:=h 1 (by omega);have a2:=h 2 (by omega);have a3:=h 3 (by omega);have a4:=h 4 (by omega);have a5:=h 5 (by omega);have a6:=h 6 (by omega);have a7:=h 7 (by omega);have a8:=h 8 (by omega);have a9:=h 9 (by omega);have u:=h 10 (by omega);have G:=h 11 (by omega);have H:=h 12 (by omega);have I:=h 13 (by omega);have J:=h 14 (by omega);have M:=h 15 (by omega);have O:=h 16 (by omega);have Q:=h 17 (by omega);have S:=h 18 (by omega);have Y:=h 19 (by omega);simp only[Bl,DG,gH,List.getD,List.getElem?_cons_zero,Tq,Vu]at Z a1 a2 a3 a4 a5 a6 a7 a8 a9 u G H I J M O Q S Y;refine OY ?_ ?_
 ·unfold DU;omega
 ·unfold IV;omega
def Lu (i k:Nat) (u:k<20) (h:i<=k):Bl i<=Bl k:=by
 have:∀k,k<20->∀i,i<20->i<=k->Bl i<=Bl k:=by decide +kernel
 exact this k u i (by omega) h
def rz (i:Nat) (p:Int) (h:∀k,k<i->DG k<p) (G:i<20->p<Bl i):us p=0:=by
 refine Hq p λk H=>?_
 by_cases u:k<i
 ·exact .inr (h k u)
 ·have:=G (by omega);have:=Lu i k H (by omega);omega
def pc {b:Int}(h:a=b):Ending.returned (Tu a)=.returned (Tu b):=by rw[h]
def iz {a b:Bool}(h:a=b):Ending.returned (.bool a)=.returned (.bool b):=by rw[h]
def zw (p:Int) (w:World) (J:xA w) :
  Sa 189 #[Tu p] w λe w'=>Uk e (Tu (us p))/\w'=w:=by
 go_enter func189,ntmps189;(go_wp2_with fail)
 go_loopw [4] (λi wr=>wr=w/\∃k:Nat,k<=20/\i=Tu k/\∀j,j<k->DG j<p) (λi _=>20-(intOf i).toNat)
 case atStart=>exact⟨rfl,0,by omega,rfl,λj S=>by omega⟩
 case round=>
  obtain⟨rfl,k,Z,rfl,G⟩:=hrel
  by_cases H:k<20
  ·obtain⟨c0,c1,c2⟩:=J k H;have Y:=aW G;have M:=aW (Ho k p H);have I:Hid (p<Bl k->us p=0):=λh=>rz k p G (λ_=>h)
   have HN:Hid (DG k<p->∀j,j<k+1->DG j<p):=λh j S=>by
    by_cases e:j=k
    ·subst e;exact h
    ·exact G j (by omega)
   clear G J;generalize Bl k=l at *;generalize OP k=c at *;generalize DG k=u at *
   by_cases O:p<l
   ·(go_wp2_with fail);go_ret;exact⟨pc (I.out O).symm,rfl⟩
   ·by_cases Q:p<=u
    ·(go_wp2_with fail);go_ret;exact⟨pc (M.out (by omega) Q),rfl⟩
    ·(go_wp2_with fail);exact⟨⟨trivial,k+1,by omega,by go_num,HN.out (by omega)⟩,by simp[intOf];omega⟩
  ·have I:=aW (rz k p G (λh=>absurd h H));clear G J;(go_wp2_with fail);go_ret;exact⟨pc I.out.symm,rfl⟩
def cK (p:Int) (w:World) (H:xA w) :
  Sa 127 #[Tu p] w λe w'=>Uk e (.bool (jL p))/\w'=w:=by
 go_enter func127,ntmps127;(go_wp2_with fail)
 refine(zw p w H).mono ?_;rintro e w'⟨rfl,rfl⟩;have G:=aW (OZ p);generalize us p=u at *;(go_wp2_with fail);go_ret;exact⟨iz G.out,rfl⟩
def FL (p:Int) (w:World) (H:xA w) :
  Sa 190 #[Tu p] w λe w'=>Uk e (.bool (pX p))/\w'=w:=by
 go_enter func190,ntmps190;(go_wp2_with fail)
 refine(zw p w H).mono ?_;rintro e w'⟨rfl,rfl⟩;have G:=aW (OX p);generalize us p=u at *;(go_wp2_with fail);go_ret;exact⟨iz G.out,rfl⟩
open Go.RowKit Go.Deep
def dh {w v:World}(h:Below b w v):∀m,Below b w (v.drewN m)
 |0=>h
 |m+1=>(dh h m).drew
def ky (s:ByteArray):Bool:=cY.any λx=>decide (s=x)
def KI (s:ByteArray) (h:∀j,j<24->s≠cY.getD j ByteArray.empty):ky s=false:=by
 unfold ky;rw[List.any_eq_false];intro x H I;obtain⟨j,G,e⟩:=List.mem_iff_getElem.1 H;have u:j<24:=G
 apply h j u
 rw[List.getD,Pi G];exact(SE I).trans e.symm
def NO (s:ByteArray) (j:Nat) (u:j<24) (h:s=cY.getD j ByteArray.empty):ky s=true:=by
 unfold ky;rw[WA];refine⟨cY[j]'u,List.getElem_mem _,R8 ?_⟩;rw[h,List.getD,Pi (show j<cY.length from u)];rfl
def zA (h:s=x):(s.toList==x.toList)=true:=by subst h;simp
def rO (s:ByteArray):s.toList=s.data.toList:=UU s
def uH (h:s≠x):(s.toList==x.toList)=false:=by
 rw[Su,rO,rO];intro e
 apply h
 have:=TJ.1 e;cases s;cases x;simp_all
def CY (s:ByteArray) (w:World) (I:DP w) :
  Sa 228 #[.string s] w λe w'=>Uk e (.bool (ky s))/\w'=w:=by
 go_enter func228,ntmps228;(go_wp2_with fail)
 go_loopw [4] (λi wr=>wr=w/\∃k:Nat,k<=24/\i=Tu k/\∀j,j<k->s≠cY.getD j ByteArray.empty) (λi _=>24-(intOf i).toNat)
 case atStart=>exact⟨rfl,0,by omega,rfl,λj J=>by omega⟩
 case round=>
  obtain⟨rfl,k,S,rfl,u⟩:=hrel
  by_cases G:k<24
  ·have c0:=I k G;have M:=aW (NO s k G)
   have HN:Hid (s≠cY.getD k ByteArray.empty->∀j,j<k+1->s≠cY.getD j ByteArray.empty):=λh j J=>by
    by_cases e:j=k
    ·subst e;exact h
    ·exact u j (by omega)
   clear u I;generalize cY.getD k ByteArray.empty=x at *
   by_cases e:s=x
   ·have Q:=zA e;have H:=aW e;clear e;(go_wp2_with fail);go_ret;exact⟨iz (M.out H.out).symm,rfl⟩
   ·have Q:=uH e;have H:=aW e;clear e;(go_wp2_with fail);exact⟨⟨trivial,k+1,by omega,by go_num,HN.out H.out⟩,by simp[intOf];omega⟩
  ·have O:=aW (KI s (λj J=>u j (by omega)));clear u I;(go_wp2_with fail);go_ret;exact⟨iz O.out.symm,rfl⟩
def pre (s:ByteArray) (a:Nat) (t:ByteArray):Bool:=decide (a+t.size<=s.size/\s.extract a (a+t.size)=t)
def sg (s:ByteArray) (a:Nat):ByteArray:=(cg.find? (pre s a)).getD ByteArray.empty
def wM (f:ByteArray->Bool):∀(l:List ByteArray) (k:Nat),k<l.length->(∀j,j<k->f (l.getD j ByteArray.empty)=false)->f (l.getD k ByteArray.empty)=true->l.find? f=some (l.getD k ByteArray.empty)
 |[],k,h,_,_=>by simp at h
 |x :: r,0,_,_,h=>by
  have u:f x=true:=h;rw[List.find?_cons_of_pos u];rfl
 |x :: r,k+1,hk,hj,h=>by
  have G:f x=false:=hj 0 (by omega);rw[List.find?_cons_of_neg (by rw[G];simp)];exact wM f r k (by simpa using hk) (λj H=>hj (j+1) (by omega)) h
def Dm (f:ByteArray->Bool) (l:List ByteArray) (h:∀j,j<l.length->f (l.getD j ByteArray.empty)=false):l.find? f=none:=by
 rw[List.find?_eq_none];intro x G;obtain⟨j,u,e⟩:=List.mem_iff_getElem.1 G;have:=h j u;rw[List.getD,Pi u]at this;subst e
 simpa using this
def MZ (s:ByteArray) (a k:Nat) (G:k<21) (h:∀j,j<k->pre s a (cg.getD j ByteArray.empty)=false) (u:pre s a (cg.getD k ByteArray.empty)=true):sg s a=cg.getD k ByteArray.empty:=by
 unfold sg;rw[wM _ cg k G h u];rfl
def JO (s:ByteArray) (a:Nat) (h:∀j,j<21->pre s a (cg.getD j ByteArray.empty)=false):sg s a=ByteArray.empty:=by
 unfold sg;rw[Dm _ cg h];rfl
def GQ (s:ByteArray) (a n:Nat) (h:a+n<=s.size):(s.extract a s.size).extract 0 n=s.extract a (a+n):=by
 refine kY _ _ ?_ ?_
 ·rw[aE _ 0 n (by rw[aE s a _ (ge _)];omega),aE s a _ h];omega
 ·intro i u;rw[aE _ 0 n (by rw[aE s a _ (ge _)];omega)]at u;rw[bX _ 0 n i (by omega),bX s a _ _ (by omega),bX s a _ _ (by omega),R3]
def KO (s t:ByteArray) (w:World) :
  Sa 167 #[.string s,.string t] w λe w'=>Uk e (.bool (pre s 0 t))/\w'=w:=by
 by_cases I:t.size<=s.size
 ·have H:decide ((s.size:Int)>=(t.size:Int))=true:=by simpa using I
  have M:(0:Int)<=(t.size:Int):=by omega
  have O:(t.size:Int)<=(s.size:Int):=by omega
  by_cases u:s.extract 0 t.size=t
  ·have J:=zA u
   have G:Hid (pre s 0 t=true):=by
    unfold pre;exact R8 ⟨by omega,by rw[R3];exact u⟩
   clear u;go_enter func167,ntmps167;(go_wp2_with fail);go_ret;exact⟨iz G.out.symm,rfl⟩
  ·have J:=uH u
   have G:Hid (pre s 0 t=false):=by
    unfold pre;refine R9 λh=>u ?_
    have:=h.2
    rwa [R3]at this
   clear u;go_enter func167,ntmps167;(go_wp2_with fail);go_ret;exact⟨iz G.out.symm,rfl⟩
 ·have H:decide ((s.size:Int)>=(t.size:Int))=false:=by simp;omega
  have G:Hid (pre s 0 t=false):=by
   unfold pre;exact R9 λh=>I (by have:=h.1;omega)
  go_enter func167,ntmps167;(go_wp2_with fail)
  go_ret;exact⟨iz G.out.symm,rfl⟩
def sY (s t:ByteArray) (w:World) :
  Sa 101 #[.string s,.string t] w λe w'=>Uk e (.bool (pre s 0 t))/\w'=w:=by
 go_enter func101,ntmps101;(go_wp2_with fail)
 refine(KO s t w).mono ?_;rintro e w'⟨rfl,rfl⟩;generalize u:pre s 0 t=b;have G:=aW u;clear u;(go_wp2_with fail);go_ret;exact⟨iz G.out.symm,rfl⟩
def kx (s t:ByteArray) (a:Nat) (G:a<=s.size):pre (s.extract a s.size) 0 t=pre s a t:=by
 unfold pre;rw[aE s a _ (ge _)]
 by_cases h:a+t.size<=s.size
 ·rw[R3,GQ s a t.size h];exact SZ.2 ⟨fun⟨_,u⟩=>⟨h,u⟩,fun⟨_,u⟩=>⟨by omega,u⟩⟩
 ·rw[R9 (λu=>h (by have:=u.1;omega)),R9 (λu=>h u.1)]
def zV (s:ByteArray) (a:Nat) (w:World) (M:DQ w) (ha:a<s.size) :
  Sa 196 #[.string s,Tu a] w λe w'=>Uk e (.string (sg s a))/\Below w.heap.size w w':=by
 have Y:decide ((a:Int)<0)=false:=by simp
 have Z:decide ((a:Int)>=(s.size:Int))=false:=by simp;omega
 have h3:(0:Int)<=(a:Int):=by omega
 have h4:(a:Int)<=(s.size:Int):=by omega
 go_enter func196,ntmps196;(go_wp2_with fail)
 go_loopw [14] (λi wr=>∃k:Nat,k<=21/\i=Tu k/\(∀j,j<k->pre s a (cg.getD j ByteArray.empty)=false)/\Below w.heap.size w wr) (λi _=>21-(intOf i).toNat)
 case atStart=>exact⟨0,by omega,rfl,λj Q=>by omega,gt _ _⟩
 case round=>
  obtain⟨k,hk,rfl,u,I⟩:=hrel
  by_cases H:k<21
  ·have c0:=(M.below I) k H;have i1:(0:Int)<=(k:Int):=by omega
   have i2:(k:Int)<21:=by omega
   have O:=aW (MZ s a k H u)
   have HN:Hid (pre s a (cg.getD k ByteArray.empty)=false->∀j,j<k+1->pre s a (cg.getD j ByteArray.empty)=false):=λh j Q=>by
    by_cases e:j=k
    ·subst e;exact h
    ·exact u j (by omega)
   clear u M;generalize cg.getD k ByteArray.empty=x at *
   have HC:Hid (∀W,Sa 101 #[.string (s.extract a s.size),.string x] W λe w'=>Uk e (.bool (pre s a x))/\w'=W):=λW=>by
    rw[<-kx s x a (by omega)];exact sY _ _ W
   cases G:pre s a x
   ·rw[G]at HC;have J:=aW G;clear G O;(go_wp2_with fail)
    go_quiet ((go_at_call 101;exact Calls.quiet_of_same (HC.out _)))
    (go_wp2_with fail);exact⟨⟨k+1,by omega,by go_num,HN.out J.out,dh I _⟩,by simp[intOf];omega⟩
   ·rw[G]at HC;have J:=aW G;clear G HN;(go_wp2_with fail)
    go_quiet ((go_at_call 101;exact Calls.quiet_of_same (HC.out _)))
    (go_wp2_with fail);go_ret;exact⟨by rw[O.out J.out];rfl,dh I _⟩
  ·have S:=aW (JO s a (λj Q=>u j (by omega)));clear u M;(go_wp2_with fail);go_ret;exact⟨by rw[S.out];rfl,I⟩
def vJ (h:jL p=true):pX p=true:=by unfold pX;rw[h];rfl
def IU (s:ByteArray):Nat->Nat->Nat
 |0,i=>i
 |f+1,i=>if aK s i=10 then i else IU s f (i+1)
def nl (s:ByteArray) (i:Nat):Nat:=IU s (s.size-i) i
def qT (s:ByteArray):∀f i,i<=IU s f i/\IU s f i<=i+f/\(∀j,i<=j->j<IU s f i->aK s j≠10)/\(IU s f i<i+f->aK s (IU s f i)=10)
 |0,i=>by
  show i<=i/\i<=i+0/\_/\_;exact⟨ge _,ge _,λj G u=>by unfold IU at u;omega,λh=>by unfold IU at h;omega⟩
 |f+1,i=>by
  unfold IU
  by_cases h:aK s i=10
  ·grind
  ·rw[Eq h];obtain⟨G,u,H,I⟩:=qT s f (i+1);refine⟨by omega,by omega,λj J M=>?_,λJ=>I (by omega)⟩
   by_cases e:j=i
   ·rw[e];exact h
   ·exact H j (by omega) M
def ir (s:ByteArray) (i:Nat) (h:i<=s.size):i<=nl s i/\nl s i<=s.size/\(∀j,i<=j->j<nl s i->aK s j≠10)/\(nl s i<s.size->aK s (nl s i)=10):=by
 obtain⟨u,J,G,H⟩:=qT s (s.size-i) i;exact⟨u,by unfold nl;omega,G,λI=>H (by unfold nl at I;omega)⟩
def vV (s:ByteArray) (i j:Nat) (h:i<=j) (O:j<=s.size) (J:∀k,i<=k->k<j->aK s k≠10) (u:j=s.size\/aK s j=10):nl s i=j:=by
 obtain⟨G,M,H,I⟩:=ir s i (by omega)
 rcases Nat.lt_trichotomy (nl s i) j with hl|hl|hl
 ·exact absurd (I (by omega)) (J _ G hl)
 ·exact hl
 ·rcases u with u|u
  ·omega
  ·exact absurd u (H j h hl)
def cn (s:ByteArray):Nat->Nat
 |0=>0
 |i+1=>cn s i+(if aK s i=10 then 1 else 0)
def lf (s:ByteArray):Nat->Nat
 |0=>0
 |i+1=>if aK s i=10 then i+1 else lf s i
def bg (s:ByteArray):Nat->Nat
 |0=>0
 |k+1=>nl s (bg s k)+1
def gV (s:ByteArray) (i:Nat):(aK s i=10/\cn s (i+1)=cn s i+1)\/(aK s i≠10/\cn s (i+1)=cn s i):=by
 show(_/\cn s i+_=_)\/(_/\cn s i+_=_)
 by_cases h:aK s i=10
 ·rw[Or h];exact .inl ⟨h,rfl⟩
 ·rw[Eq h];exact .inr ⟨h,rfl⟩
def Bh (s:ByteArray) (i:Nat):∀d,cn s i<=cn s (i+d)
 |0=>ge _
 |d+1=>by
  have h:=Bh s i d;have:=gV s (i+d);rw[<-TW];omega
def Hy (s:ByteArray) {i j:Nat}(h:i<=j):cn s i<=cn s j:=by
 have:=Bh s i (j-i);rw[show i+(j-i)=j by omega]at this;exact this
def My (s:ByteArray):∀i,cn s i<=i
 |0=>ge _
 |i+1=>by have:=My s i;have:=gV s i;omega
def xk (s:ByteArray) (i:Nat):∀d,(∀k,i<=k->k<i+d->aK s k≠10)->cn s (i+d)=cn s i
 |0,_=>rfl
 |d+1,h=>by
  have H:=xk s i d (λk u G=>h k u (by omega))
  rcases gV s (i+d)with⟨u,_⟩|⟨_,G⟩
  ·exact absurd u (h _ (by omega) (by omega))
  ·rw[<-TW];omega
def DB (s:ByteArray) {i j:Nat}(h:i<=j) (G:∀k,i<=k->k<j->aK s k≠10):cn s j=cn s i:=by
 have:=xk s i (j-i) (λk u H=>G k u (by omega));rw[show i+(j-i)=j by omega]at this;exact this
def gw (s:ByteArray):∀i,lf s i<=i/\(∀j,lf s i<=j->j<i->aK s j≠10)/\(lf s i=0\/(1<=lf s i/\aK s (lf s i-1)=10))
 |0=>⟨ge _,λj _ h=>by omega,.inl rfl⟩
 |i+1=>by
  unfold lf
  by_cases h:aK s i=10
  ·grind
  ·rw[Eq h];obtain⟨I,u,G⟩:=gw s i;refine⟨by omega,λj H J=>?_,G⟩
   by_cases e:j=i
   ·rw[e];exact h
   ·exact u j H (by omega)
def jj (s:ByteArray) (i:Nat):lf s (i+1)=if aK s i=10 then i+1 else lf s i:=rfl
def AG (s:ByteArray):∀i,cn s i=0->lf s i=0
 |0,_=>rfl
 |i+1,h=>by
  rcases gV s i with⟨_,G⟩|⟨u,G⟩
  ·omega
  ·rw[jj,Eq u];exact AG s i (by omega)
def Mz (s:ByteArray):∀i,i<=s.size->bg s (cn s i)=lf s i
 |0,_=>rfl
 |i+1,h=>by
  have H:=Mz s i (by omega);rw[jj]
  rcases gV s i with⟨u,G⟩|⟨u,G⟩
  ·rw[G,Or u];show nl s (bg s (cn s i))+1=_;obtain⟨I,J,_⟩:=gw s i;rw[H,vV s (lf s i) i I (by omega) J (.inr u)]
  ·rw[G,Eq u,H]
def AA (s:ByteArray) (i:Nat) (J:i<=s.size):(nl s i<s.size/\cn s i<cn s s.size/\cn s (nl s i+1)=cn s i+1/\cn s (nl s i)=cn s i)\/(nl s i=s.size/\cn s i=cn s s.size):=by
 obtain⟨G,M,H,I⟩:=ir s i J;have hc:=DB s G H
 by_cases h:nl s i<s.size
 ·have e:=I h
  rcases gV s (nl s i)with⟨_,u⟩|⟨u,_⟩
  ·have:=Hy s (i:=nl s i+1) (j:=s.size) (by omega);exact .inl ⟨h,by omega,by omega,hc⟩
  ·exact absurd e u
 ·grind
def pQ (s:ByteArray):∀k,k<=cn s s.size->bg s k<=s.size/\cn s (bg s k)=k
 |0,_=>⟨RU _,rfl⟩
 |k+1,h=>by
  obtain⟨u,G⟩:=pQ s k (by omega);show nl s (bg s k)+1<=_/\cn s (nl s (bg s k)+1)=_
  rcases AA s (bg s k) u with⟨a,b,c,_⟩|⟨a,b⟩
  ·exact⟨by omega,by omega⟩
  ·omega
def Mh (s:ByteArray) (k:Nat) (h:k<=cn s s.size):bg s k<=nl s (bg s k)/\nl s (bg s k)<=s.size/\(nl s (bg s k)<s.size↔k<cn s s.size):=by
 obtain⟨u,G⟩:=pQ s k h;obtain⟨h3,h4,_⟩:=ir s (bg s k) u;refine⟨h3,h4,?_⟩
 rcases AA s (bg s k) u with⟨a,b,c,_⟩|⟨a,b⟩
 ·omega
 ·omega
def ln (s:ByteArray) (k:Nat):ByteArray:=s.extract (bg s k) (nl s (bg s k))
def KE (s:ByteArray) (k:Nat) (h:k<=cn s s.size):(ln s k).size<=s.size:=by
 have:=Mh s k h;unfold ln;rw[aE _ _ _ this.2.1];omega
def LK (s:ByteArray):bg s (cn s s.size)=lf s s.size:=Mz s _ (ge _)
def KF (s:ByteArray):ln s (cn s s.size)=s.extract (lf s s.size) s.size:=by
 unfold ln;rw[LK];obtain⟨u,G,_⟩:=gw s s.size;rw[vV s (lf s s.size) s.size u (ge _) G (.inl rfl)]
def JH (s:ByteArray) (k:Nat):st s k<=st s (k+1):=by
 by_cases h:k<(P s).length
 ·have:=eC s k h;omega
 ·rw[oF s k (by omega),oF s (k+1) (by omega)];omega
def rR (s:ByteArray) (i j:Nat) (h:i<=j):st s i<=st s j:=by
 obtain⟨d,rfl⟩:∃d,j=i+d:=⟨j-i,by omega⟩;clear h
 induction d with
 |zero=>exact ge _
 |succ d ih=>have:=JH s (i+d);rw[<-TW];omega
def lE (s:ByteArray) (i j:Nat) (h:i<j) (u:j<=(P s).length):st s i<st s j:=by
 have e:=eC s i (by omega);have G:=aQ s (st s i) ((fK s i).2 (by omega));have:=rR s (i+1) j h;omega
def hd (s:ByteArray) (k:Nat):ByteArray:=s.extract 0 (st s k)
def nJ (s:ByteArray) (k:Nat):(hd s k).size=st s k:=by
 unfold hd;rw[aE s 0 _ (oE s k)];omega
def uN (s:ByteArray) (k:Nat) (H:k<=(P s).length):∀j,j<=k->st (hd s k) j=st s j
 |0,_=>rfl
 |j+1,h=>by
  have G:=uN s k H j (by omega);have e:=eC s j (by omega);have J:=aQ s (st s j) ((fK s j).2 (by omega));have I:=rR s (j+1) k h;have u:Utf8.decode (hd s k) (st s j)=Utf8.decode s (st s j):=He s (st s k) (st s j) (oE s k) (by omega) (by omega);have hl:j<(P (hd s k)).length:=(fK _ j).1 (by rw[G,nJ];omega);rw[eC _ j hl,G,e];unfold dw;rw[u]
def Qc (s:ByteArray) (k:Nat) (u:k<=(P s).length):(P (hd s k)).length=k:=by
 have H:¬k<(P (hd s k)).length:=by
  rw[<-fK,uN s k u k (ge _),nJ];omega
 by_cases G:k=0
 ·omega
 ·have e:=eC s (k-1) (by omega);have J:=aQ s (st s (k-1)) ((fK s _).2 (by omega));rw[show k-1+1=k by omega]at e
  have I:k-1<(P (hd s k)).length:=by
   rw[<-fK,uN s k u _ (by omega),nJ];omega
  omega
def vL (s:ByteArray) (a:Nat) (u:a<=s.size):∀f i,Ao s f (a+i)=(Ao (s.extract a s.size) f i).map (λk=>a+k)
 |0,_=>rfl
 |f+1,i=>by
  unfold Ao;rw[aE s a _ (ge _)]
  by_cases h:a+i<s.size
  ·rw[Or h,Or (by omega),TF];have e:dw (s.extract a s.size) i=dw s (a+i):=by unfold dw;rw[iL s a i u]
   rw[e,TW,vL s a u f (i+dw s (a+i))]
  ·rw[Eq h,Eq (by omega)];rfl
def OH (s:ByteArray) (k:Nat) (u:k<=(P s).length):(P (s.extract (st s k) s.size)).length=(P s).length-k:=by
 have h:=vL s (st s k) (oE s k) (s.size-st s k) 0
 have e:pl s (st s k)=(P (s.extract (st s k) s.size)).map (λj=>st s k+j):=by
  unfold P pl;rw[aE s _ _ (ge _)];exact h
 rw[Ap]at e;have:=Sh List.length e;simp at this;omega
def gT (s:ByteArray) (a b c d:Nat) (u:b<=s.size) (hd:a+d<=b) (hc:c<=d):(s.extract a b).extract c d=s.extract (a+c) (a+d):=by
 have H:=aE s a b u;have I:=aE (s.extract a b) c d (by omega);have J:=aE s (a+c) (a+d) (by omega);refine Ir _ _ (by omega) λk G=>?_
 rw[jr,Or (by omega),jr,Or (by omega),jr,Or (by omega),TW]
def IN (s:ByteArray) (a b:Nat) (u:a<=b) (H:b<=(P s).length):(P (s.extract (st s a) (st s b))).length=b-a:=by
 have I:=Qc s b H;have J:=uN s b H a u;have G:=OH (hd s b) a (by omega);rw[I,J,nJ]at G;have M:=rR s a b u
 have e:(hd s b).extract (st s a) (st s b)=s.extract (st s a) (st s b):=by
  unfold hd;rw[gT s 0 (st s b) _ _ (oE s b) (by omega) M,R3,R3]
 rw[e]at G;exact G
def bd (s:ByteArray) (b:Nat):Prop:=∃k,k<=(P s).length/\st s k=b
def t8 (s:ByteArray):bd s 0:=⟨0,RU _,rfl⟩
def BA (s:ByteArray):bd s s.size:=⟨_,ge _,oF s _ (ge _)⟩
def Io (h:bd s b):b<=s.size:=by obtain⟨k,_,rfl⟩:=h;exact oE s k
def Hx {a c:Nat}(H:bd s a) (I:bd s b) (hc:bd s c) (M:a<=b) (O:b<=c) :
  (P (s.extract a b)).length+(P (s.extract b c)).length=(P (s.extract a c)).length:=by
 obtain⟨i,J,rfl⟩:=H;obtain⟨j,hj,rfl⟩:=I;obtain⟨k,hk,rfl⟩:=hc
 have u:i<=j:=by
  apply SQ;intro h
  have:=lE s j i (by omega) J;omega
 have G:j<=k:=by
  apply SQ;intro h
  have:=lE s k j (by omega) hj;omega
 rw[IN s i j u hj,IN s j k G hk,IN s i k (by omega) hk];omega
def Od (s:ByteArray) (i:Nat) (h:aK s i=10):dw s i=1:=by
 unfold dw;rw[cV,h];rfl
def CO (s:ByteArray) (j:Nat) (h:aK s j=10):j<s.size:=by
 apply SQ;intro u
 have:aK s j=0:=Iv s j (by omega);omega
def In (s:ByteArray) (j:Nat) (h:aK s j=10):bd s j/\bd s (j+1):=by
 have G:=CO s j h;obtain⟨m,I,u,J,M,O⟩:=kj s j (P s).length (by rw[oF s _ (ge _)];exact G)
 have e:st s m=j:=by
  apply SQ;intro H
  have:=(lZ s (st s m) (j-st s m) (by omega) (by omega)).2;rw[show st s m+(j-st s m)=j by omega,h]at this;omega
 refine⟨⟨m,by omega,e⟩,⟨m+1,by omega,?_⟩⟩;rw[eC s m u,e,Od s j h]
def PY (s:ByteArray) (i:Nat):bd s (lf s i):=by
 rcases(gw s i).2.2 with h|⟨G,u⟩
 ·rw[h];exact t8 s
 ·have:=(In s _ u).2;rw[show lf s i-1+1=lf s i by omega]at this;exact this
def tW (s:ByteArray) (a:Nat):∀i,i<=a->cn (s.extract 0 a) i=cn s i
 |0,_=>rfl
 |i+1,h=>by
  show cn _ i+_=cn s i+_;rw[tW s a i (by omega),kX s a i (by omega)]
def AI (s:ByteArray) (a:Nat):∀i,i<=a->lf (s.extract 0 a) i=lf s i
 |0,_=>rfl
 |i+1,h=>by
  rw[jj,jj,AI s a i (by omega),kX s a i (by omega)]
def tV (s:ByteArray) (a:Nat):∀i,a+i<=s.size->cn s (a+i)=cn s a+cn (s.extract a s.size) i
 |0,_=>rfl
 |i+1,h=>by
  show cn s (a+i)+_=_+(cn _ i+_);rw[tV s a i (by omega),bX s a s.size i (by omega),TW];rfl
def AH (s:ByteArray) (a:Nat):∀i,a+i<=s.size->lf s (a+i)=if cn (s.extract a s.size) i=0 then lf s a else a+lf (s.extract a s.size) i
 |0,_=>rfl
 |i+1,h=>by
  have H:=AH s a i (by omega);have e:=bX s a s.size i (by omega);rw[<-TW,jj,jj,e]
  rcases gV (s.extract a s.size) i with⟨u,G⟩|⟨u,G⟩
  ·rw[e]at u;rw[Or u,Or u,Eq (by omega)];rfl
  ·rw[e]at u;rw[Eq u,Eq u,G,H]
def eP (l:Int) (s:ByteArray):Int:=wrap64 (l+cn s s.size)
def jC (c:Int) (s:ByteArray):Int:=wrap64 ((if cn s s.size=0 then c else 1)+(P (s.extract (lf s s.size) s.size)).length)
def MC (a:Int) (s:ByteArray):Int:=wrap64 (a+s.size)
def og (a b:Int):wrap64 (wrap64 a+b)=wrap64 (a+b):=by unfold wrap64;omega
def CQ (s:ByteArray) (w:Nat) (u:w<=s.size) (l:Int):eP (eP l (s.extract 0 w)) (s.extract w s.size)=eP l s:=by
 unfold eP;have G:=aE s 0 w u;have H:=aE s w s.size (ge _);have h:=tV s w (s.size-w) (by omega);rw[show w+(s.size-w)=s.size by omega]at h;rw[G,H,h,tW s w _ (by omega),Nat.sub_zero,og]
 congr 1;omega
def Hv (s:ByteArray) (w:Nat) (H:bd s w) (c:Int):jC (jC c (s.extract 0 w)) (s.extract w s.size)=jC c s:=by
 have u:=Io H;have J:=aE s 0 w u;have M:=aE s w s.size (ge _);have h:=tV s w (s.size-w) (by omega);have hl:=AH s w (s.size-w) (by omega);rw[show w+(s.size-w)=s.size by omega]at h hl;have f:=gw s w;have I:=gw (s.extract w s.size) (s.size-w);unfold jC;rw[J,M,tW s w _ (by omega),AI s w _ (by omega),Nat.sub_zero];rw[gT s 0 w _ _ u (by omega) f.1,R3,R3];rw[gT s w s.size _ _ (ge _) (by omega) I.1,show w+(s.size-w)=s.size by omega]
 by_cases G:cn (s.extract w s.size) (s.size-w)=0
 ·rw[Or G]at hl ⊢;rw[hl,h,G,Ua,AG _ _ G,Ua,og,<-Hx (PY s w) H (BA s) f.1 u]
  congr 1;omega
 ·rw[Eq G]at hl ⊢;rw[hl,h,Eq (by omega)]
