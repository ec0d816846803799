import Derived.Laws.RangeAny
import Derived.Deep.QuietTactic
import Derived.BigQuiet
import Derived.Test.YtcjiapphbpiffaaGreatDoorM01
set_option linter.unusedVariables false
set_option linter.unusedSimpArgs false
set_option maxHeartbeats 1000000
namespace Go.Proofs.YtcjiapphbpiffaaGreatDoor.Lx
/-
 The plain mathematics of layer 1: characters by the model's decoding.
-/
def dp (s:ByteArray) (i:Nat):Nat:=(Utf8.decode s i).1
def dw (s:ByteArray) (i:Nat):Nat:=(Utf8.decode s i).2
theorem Ik (s:ByteArray) (i:Nat) (h:s.size<=i):(s.get! i).toNat=0:=by
 have e:s.get! i=default:=by
  show s.data[i]! = default
  exact getElem!_neg _ _ (by show ¬i<s.data.size;have:s.data.size=s.size:=rfl;omega)
 rw [e];rfl
theorem aW (s:ByteArray) (i:Nat) (h:i<s.size):1<=dw s i/\dw s i<=4/\i+dw s i<=s.size:=by
 unfold dw Utf8.decode;simp only []
 repeat' split
 all_goals simp_all
 all_goals omega
theorem xa (s:ByteArray) (i:Nat):dp s i<=1114111:=by
 have C:∀k,(s.get! (i+k)).toNat<256:=fun k=>(s.get! (i+k)).toNat_lt
 have F:=C 0;have G:=C 1;have H:=C 2;have I:=C 3;unfold dp Utf8.decode;simp only []
 repeat' split
 all_goals simp_all [Utf8.runeError,Utf8.valid]
 all_goals omega
theorem uk (s t:ByteArray) (i j:Nat) (h:∀k,k<4->t.get! (j+k)=s.get! (i+k)) (C:∀k,k<4->(j+k<t.size↔i+k<s.size)):Utf8.decode t j=Utf8.decode s i:=by
 unfold Utf8.decode;simp only [h 0 (by omega),h 1 (by omega),h 2 (by omega),h 3 (by omega),C 1 (by omega),C 2 (by omega),C 3 (by omega)]
theorem jD (s:ByteArray) (a b i:Nat):(s.extract a b).get! i=if a+i<b then s.get! (a+i) else default:=by
 have e:∀(x:ByteArray) (k:Nat),x.get! k=x.data.toList[k]?.getD default:=by
  intro x k;show x.data[k]! = _;rw [VL,UN,Vh]
 rw [e,e,ByteArray.data_extract,Array.toList_extract];simp only [List.extract_eq_take_drop,TV,TK]
 by_cases h:a+i<b
 ·rw [IO h,IO (by omega)]
 ·rw [Eq h,Eq (by omega)];rfl
theorem av (s:ByteArray) (a b:Nat) (h:b<=s.size):(s.extract a b).size=b-a:=by
 rw [Uj];omega
theorem gK (s:ByteArray) (a i:Nat) (h:a<=s.size):Utf8.decode (s.extract a s.size) i=Utf8.decode s (a+i):=by
 refine uk _ _ _ _ (fun k _=>?_) (fun k _=>by rw [av s a _ (gt _)];omega);rw [jD]
 by_cases C:a+(i+k)<s.size
 ·rw [IO C,Um]
 ·rw [Eq C];show _=s.data[a+i+k]!;exact (getElem!_neg _ _ (by show ¬_<s.data.size;have:s.data.size=s.size:=rfl;omega)).symm
def KX (p n:Int):Bool:=(p != 65533) || decide (1<n)
def gd (s:ByteArray) (i:Nat):Bool:=KX (dp s i) (dw s i)
def SL (s t:ByteArray):Bool:=gd (s++t) 0 && decide (s.size<dw (s++t) 0)
def Ke (s:ByteArray):Bool:=SL s ⟨#[128,128,128]⟩ || SL s ⟨#[191,191,191]⟩
def whF (s:ByteArray):Nat->Nat->Nat
 |0,_=>s.size
 |f+1,n=>if n<=s.size then (if Ke (s.extract (s.size-n) s.size)=true then s.size-n else whF s f (n+1)) else s.size
def vT (s:ByteArray):Nat->Nat->List Nat
 |0,_=>[]
 |f+1,i=>if i<s.size then i :: vT s f (i+dw s i) else []
theorem vS (s:ByteArray):∀(f g i:Nat),s.size<=i+f->s.size<=i+g->vT s f i=vT s g i
 |0,0,_,_,_=>rfl
 |0,g+1,i,h,_=>by unfold vT;rw [Eq (by omega)]
 |f+1,0,i,_,h=>by unfold vT;rw [Eq (by omega)]
 |f+1,g+1,i,hf,hg=>by
  unfold vT
  split
  ·rename_i C
   have:=(aW s i C).1;rw [vS s f g (i+dw s i) (by omega) (by omega)]
  ·rfl
def pl (s:ByteArray) (i:Nat):List Nat:=vT s (s.size-i) i
def P (s:ByteArray):List Nat:=pl s 0
theorem As (s:ByteArray) (i:Nat) (h:i<s.size):pl s i=i :: pl s (i+dw s i):=by
 have F:=aW s i h;unfold pl;obtain ⟨f,C⟩:∃f,s.size-i=f+1:=⟨s.size-i-1,by omega⟩;rw [C];show (if i<s.size then i :: vT s f (i+dw s i) else [])=_;rw [IO h,vS s f (s.size-(i+dw s i)) _ (by omega) (by omega)]
theorem Fv (s:ByteArray) (i:Nat) (h:s.size<=i):pl s i=[]:=by
 unfold pl;rw [show s.size-i=0 by omega];rfl
theorem Fu (s:ByteArray):∀(f i:Nat),(vT s f i).length<=f
 |0,_=>by simp [vT]
 |f+1,i=>by
  unfold vT
  split
  ·simp;exact Fu s f _
  ·simp
theorem BF (s:ByteArray):(P s).length<=s.size:=by
 unfold P pl;exact SY (Fu s _ _) (by omega)
end Go.Proofs.YtcjiapphbpiffaaGreatDoor.Lx
namespace Go.Proofs.YtcjiapphbpiffaaGreatDoor.Lx
open Go.RowKit
theorem w64 (n:Nat) (h:n<=1114111):wrap64 (n:Int)=n:=by unfold wrap64;omega
theorem JM {k:IntKind}{a b:Int}(h:a=b):Ending.returned (.int k a)=.returned (.int k b):=by rw [h]
theorem eC (w:World) (s:ByteArray) (p:Nat):Below w.heap.size w (w.iter s p):=(hH _ _).alloc (gt _) _
theorem Du (s:ByteArray) (w:World) (J:s.size<=maxLen) :
  Ta 121 #[.string s] w fun e w'=>e=.returned (.int .i64 (P s).length)/\∃pos,w'=w.iter s pos:=by
 unfold maxLen at J;have U:=BF s
 go_enter Tryz.func121,Tryz.ntmps121
 go_wp2
 go_loopw [3] (fun n w'=>∃(pos k:Nat),w'=w.iter s pos/\n=.int .i64 k/\k+(pl s pos).length=(P s).length) (fun _ w'=>s.size-w'.iterPos w.heap.size)
 case atStart=>exact ⟨0,0,rfl,rfl,by simp [P]⟩
 case round=>
  obtain ⟨pos,k,rfl,rfl,I⟩:=hrel;have S:k<=(P s).length:=by omega
  by_cases G:pos<s.size
  ·have hnx:∀C,(Instr.next (.pointer (some ⟨w.heap.size,0,none⟩)) true C).run Tryz.prog (w.iter s pos)=_:=fun C=>Wz w s pos C G
   have M:=aW s pos G;have F:(pl s pos).length=(pl s (pos+dw s pos)).length+1:=by rw [As s pos G];simp
   have H:Hid (k+1+(pl s (pos+dw s pos)).length=(P s).length):=by show _=_;omega
   have Q:k+1<=(P s).length:=by omega
   clear I F;unfold dw at M
   go_wp2
   go_roundw
   case rel=>exact ⟨pos+dw s pos,k+1,rfl,by go_num,H.out⟩
   case measure=>
    simp;omega
  ·have hnx:∀C,(Instr.next (.pointer (some ⟨w.heap.size,0,none⟩)) true C).run Tryz.prog (w.iter s pos)=_:=fun C=>WZ w s pos C G
   have O:(pl s pos).length=0:=by rw [Fv s pos (by omega)];rfl
   have H:Hid (k=(P s).length):=by show _=_;omega
   clear I O
   go_wp2
   go_ret
   exact ⟨JM (by rw [H.out]),_,rfl⟩
theorem C9 (s:ByteArray) (w:World) (I:s.size<=maxLen) (F:0<s.size) :
  Ta 100 #[.string s] w fun e w'=>e=.returned (.tuple #[.int .i32 (dp s 0),.int .i64 (dw s 0)])/\Below w.heap.size w w':=by
 unfold maxLen at I;have J:=aW s 0 F
 go_enter Tryz.func100,Tryz.ntmps100
 go_wp2
 go_loopw [4] (fun p w'=>w'=w.iter s 0\/(p=.int .i32 (dp s 0)/\w'=w.iter s (dw s 0))) (fun _ w'=>s.size-w'.iterPos w.heap.size)
 case atStart=>exact .inl rfl
 case round=>
  rcases hrel with rfl|⟨rfl,rfl⟩
  ·have hnx:∀C,(Instr.next (.pointer (some ⟨w.heap.size,0,none⟩)) true C).run Tryz.prog (w.iter s 0)=_:=fun C=>Wz w s 0 C F
   unfold dw at J
   go_wp2
   go_roundw
   case rel=>exact .inr ⟨rfl,by simp [dw]⟩
   case measure=>simp;omega
  ·by_cases G:dw s 0<s.size
   ·have hnx:∀C,(Instr.next (.pointer (some ⟨w.heap.size,0,none⟩)) true C).run Tryz.prog (w.iter s (dw s 0))=_:=fun C=>Wz w s (dw s 0) C G
    go_wp2
    go_ret2
    exact ⟨rfl,eC _ _ _⟩
   ·have hnx:∀C,(Instr.next (.pointer (some ⟨w.heap.size,0,none⟩)) true C).run Tryz.prog (w.iter s (dw s 0))=_:=fun C=>WZ w s (dw s 0) C G
    have H:Hid (s.size=dw s 0):=by show _=_;omega
    go_wp2
    go_ret2
    exact ⟨by rw [H.out];rfl,eC _ _ _⟩
theorem Gj (p n:Int) (w:World) :
  Ta 101 #[.int .i32 p,.int .i64 n] w fun e w'=>e=.returned (.bool (KX p n))/\w'=w:=by
 by_cases C:p=65533
 ·have e:KX p n=decide (1<n):=by simp [KX,C]
  have F:(p != 65533)=false:=by simp [C]
  rw [e];clear e C
  go_enter Tryz.func101,Tryz.ntmps101
  go_wp2
  go_ret
  exact ⟨rfl,rfl⟩
 ·have e:KX p n=true:=by simp [KX,C]
  have F:(p != 65533)=true:=by simp [C]
  rw [e];clear e C
  go_enter Tryz.func101,Tryz.ntmps101
  go_wp2
  go_ret
  exact ⟨rfl,rfl⟩
theorem AG (s:ByteArray) (a:Int) (w:World) (I:s.size<=maxLen) (H:0<=a) (J:a<s.size) :
  Ta 55 #[.string s,.int .i64 a] w fun e w'=>e=.returned (.tuple #[.int .i64 (dp s a.toNat),.int .i64 (dw s a.toNat),.bool (gd s a.toNat)])/\Below w.heap.size w w':=by
 obtain ⟨n,rfl⟩:=Int.eq_ofNat_of_zero_le H;rw [Vo];have M:(s.extract n s.size).size=s.size-n:=av s n _ (gt _);have F:Hid (dp (s.extract n s.size) 0=dp s n):=by show _=_;unfold dp;rw [gK s n 0 (by omega)];rfl
 have G:Hid (dw (s.extract n s.size) 0=dw s n):=by show _=_;unfold dw;rw [gK s n 0 (by omega)];rfl
 unfold maxLen at I
 go_enter Tryz.func55,Tryz.ntmps55
 go_wp2_with fail
 refine (C9 _ _ (by unfold maxLen;omega) (by omega)).mono ?_;rintro e O ⟨rfl,C⟩;rw [F.out,G.out]
 go_wp2_with fail
 refine (Gj _ _ _).mono ?_;rintro e Q ⟨rfl,rfl⟩
 go_wp2_with fail
 go_ret3
 exact ⟨by show Ending.returned (.tuple #[.int .i64 (wrap64 (dp s n)),_,_])=_;rw [w64 _ (xa s n)];rfl,C⟩
theorem wg (s:ByteArray) (a:Int) (w:World) (F:s.size<=maxLen) (C:a<0\/s.size<=a) :
  Ta 55 #[.string s,.int .i64 a] w fun e w'=>e=.returned (.tuple #[.int .i64 0,.int .i64 0,.bool false])/\Below w.heap.size w w':=by
 unfold maxLen at F
 rcases C with C|C
 ·go_enter Tryz.func55,Tryz.ntmps55
  go_wp2_with fail
  go_ret3
  exact ⟨rfl,hH _ _⟩
 ·have G:¬a<0:=by omega
  go_enter Tryz.func55,Tryz.ntmps55
  go_wp2_with fail
  go_ret3
  exact ⟨rfl,hH _ _⟩
theorem Tryz.info3:(Tryz.prog.info? 3).map (fun i=>(i.zero,i.size,i.bytes))=some (some (.int .i64 0),1,8):=by kernel_rfl
end Go.Proofs.YtcjiapphbpiffaaGreatDoor.Lx
namespace Go.Proofs.YtcjiapphbpiffaaGreatDoor.Lx
def ay (s:ByteArray) (i:Nat):Nat:=(s.get! i).toNat
def ob (s:ByteArray) (i:Nat):Option Nat:=if i<s.size then some (ay s i) else none
def ct (c:Option Nat):Bool:=match c with|some b=>b / 64 == 2|none=>false
def vv (c:Option Nat):Nat:=c.getD 0 % 64
def D (b0:Nat) (c1 c2 c3:Option Nat):Nat × Nat:=
 if b0<128 then (b0,1)
 else if b0 / 32 == 6 && ct c1 then (if b0 % 32*64+vv c1>=128 then (b0 % 32*64+vv c1,2) else (65533,1))
 else if b0 / 16 == 14 && ct c1 && ct c2 then
  (if b0 % 16*4096+vv c1*64+vv c2>=2048 && Utf8.valid (b0 % 16*4096+vv c1*64+vv c2:Nat) then (b0 % 16*4096+vv c1*64+vv c2,3) else (65533,1))
 else if b0 / 8 == 30 && ct c1 && ct c2 && ct c3 then
  (if b0 % 8*262144+vv c1*4096+vv c2*64+vv c3>=65536 && Utf8.valid (b0 % 8*262144+vv c1*4096+vv c2*64+vv c3:Nat) then (b0 % 8*262144+vv c1*4096+vv c2*64+vv c3,4) else (65533,1))
 else (65533,1)
theorem Qa (s:ByteArray) (i:Nat):(decide (i<s.size) && (s.get! i).toNat / 64 == 2)=ct (ob s i):=by
 unfold ob ct ay
 by_cases h:i<s.size <;> simp [h]
theorem P9 (s:ByteArray) (i:Nat):vv (ob s i)=(s.get! i).toNat % 64:=by
 unfold ob vv ay
 by_cases h:i<s.size
 ·simp [h]
 ·simp [h,Ik s i (by omega)]
theorem cf (s:ByteArray) (i:Nat):Utf8.decode s i=D (ay s i) (ob s (i+1)) (ob s (i+2)) (ob s (i+3)):=by
 unfold Utf8.decode D;simp only [TS,Qa,P9,ay,Utf8.runeError]
def gD (x:Nat × Nat):Prop:=x.1≠65533\/1<x.2
theorem FL:¬gD (65533,1):=by unfold gD;simp
theorem uO (C:Nat) (c1 c2 c3:Option Nat) :
  (D C c1 c2 c3=(65533,1))\/(C<128/\D C c1 c2 c3=(C,1)) \/
  (C / 32=6/\ct c1=true/\(D C c1 c2 c3).2=2/\∀d2 F,D C c1 d2 F=D C c1 c2 c3) \/
  (C / 16=14/\ct c1=true/\ct c2=true/\(D C c1 c2 c3).2=3/\∀F,D C c1 c2 F=D C c1 c2 c3) \/
  (C / 8=30/\ct c1=true/\ct c2=true/\ct c3=true/\(D C c1 c2 c3).2=4):=by
 by_cases G:C<128
 ·exact .inr (.inl ⟨G,by unfold D;rw [IO G]⟩)
 ·have e:∀H I J,D C H I J=_:=fun H I J=>by unfold D;rw [Eq G]
  by_cases M:(C / 32 == 6 && ct c1)=true
  ·grind
  ·by_cases O:(C / 16 == 14 && ct c1 && ct c2)=true
   ·grind
   ·by_cases Q:(C / 8 == 30 && ct c1 && ct c2 && ct c3)=true
    ·grind
    ·exact .inl (by rw [e,Eq M,Eq O,Eq Q])
theorem sh (F:Nat) (c1 c2 c3:Option Nat) (h:¬gD (D F c1 c2 c3)):D F c1 c2 c3=(65533,1):=by
 unfold gD at h
 rcases uO F c1 c2 c3 with G|⟨G,C⟩|⟨_,_,C,_⟩|⟨_,_,_,C,_⟩|⟨_,_,_,_,C⟩
 ·exact G
 ·rw [C] at h;simp at h;omega
 ·rw [C] at h;simp at h
 ·rw [C] at h;simp at h
 ·rw [C] at h;simp at h
theorem jJ {c C:Option Nat}(h:C=c\/C=none) (hc:ct C=true):C=c:=by
 rcases h with h|h
 ·exact h
 ·rw [h] at hc;cases hc
theorem Pd (J:Nat) {c1 c2 c3 C F G:Option Nat}(O:C=c1\/C=none) (Q:F=c2\/F=none) (U:G=c3\/G=none) (S:gD (D J C F G)):D J c1 c2 c3=D J C F G:=by
 rcases uO J C F G with e|⟨H,I⟩|⟨_,H,_,I⟩|⟨_,H,I,_,M⟩|⟨_,H,I,M,_⟩
 ·rw [e] at S;exact absurd S FL
 ·rw [I];unfold D;rw [IO H]
 ·obtain rfl:=jJ O H;exact I _ _
 ·obtain rfl:=jJ O H;obtain rfl:=jJ Q I;exact M _
 ·obtain rfl:=jJ O H;obtain rfl:=jJ Q I;obtain rfl:=jJ U M;rfl
theorem Pc (H:Nat) {c1 c2 c3 C F G:Option Nat}(S:C=c1\/C=none) (U:F=c2\/F=none) (Y:G=c3\/G=none)
  (Z:1<(D H c1 c2 c3).2->C=c1) (k2:2<(D H c1 c2 c3).2->F=c2) (k3:3<(D H c1 c2 c3).2->G=c3):D H C F G=D H c1 c2 c3:=by
 rcases uO H c1 c2 c3 with e|⟨J,I⟩|⟨_,J,O,I⟩|⟨_,J,I,O,Q⟩|⟨_,J,I,Q,O⟩
 ·rw [e];refine sh _ _ _ _ (fun M=>?_);rw [<-Pd H S U Y M,e] at M;exact FL M
 ·rw [I];unfold D;rw [IO J]
 ·obtain rfl:=Z (by omega);exact I _ _
 ·grind
 ·grind
theorem On (s:ByteArray) (i:Nat):gd s i=true↔gD (Utf8.decode s i):=by
 unfold gd KX gD dp dw;simp;omega
theorem Om (s:ByteArray) (i:Nat) (h:gd s i=false):Utf8.decode s i=(65533,1):=by
 rw [cf]
 apply sh
 rw [<-cf,<-On,h];simp
theorem LF {c:Option Nat}(h:ct c=true):∃b,c=some b/\b / 64=2:=by
 cases c with
 |none=>cases h
 |some b=>exact ⟨b,rfl,by simpa [ct] using h⟩
theorem Kh {s:ByteArray}{i b:Nat}(h:ob s i=some b):i<s.size/\ay s i=b:=by
 unfold ob at h
 split at h
 ·exact ⟨‹_›,by simpa using h⟩
 ·cases h
theorem jI (s:ByteArray) (i k:Nat) (Q:1<=k) (C:k<dw s i):i+k<s.size/\ay s (i+k) / 64=2:=by
 have S:∀j,ct (ob s j)=true->j<s.size/\ay s j / 64=2:=by
  intro j M;obtain ⟨b,J,F⟩:=LF M;obtain ⟨g1,g2⟩:=Kh J;exact ⟨g1,by rw [g2];exact F⟩
 unfold dw at C;rw [cf] at C
 rcases uO (ay s i) (ob s (i+1)) (ob s (i+2)) (ob s (i+3)) with e|⟨_,e⟩|⟨_,H,G,_⟩|⟨_,H,I,G,_⟩|⟨_,H,I,O,G⟩
 ·rw [e] at C;simp at C;omega
 ·rw [e] at C;simp at C;omega
 ·grind
 ·grind
 ·grind
theorem lq (s:ByteArray) (a i:Nat) (h:i<a):ay (s.extract 0 a) i=ay s i:=by
 unfold ay;rw [jD,IO (by omega),Td]
theorem ti (s:ByteArray) (a i:Nat) (C:a<=s.size):ob (s.extract 0 a) i=if i<a then ob s i else none:=by
 unfold ob;rw [av s 0 a C]
 by_cases h:i<a
 ·rw [IO (by omega),IO h,IO (by omega),lq s a i h]
 ·rw [Eq (by omega),Eq h]
theorem xe (s:ByteArray) (a i:Nat) (C:a<=s.size) (F:i<a) (hd:i+dw s i<=a):Utf8.decode (s.extract 0 a) i=Utf8.decode s i:=by
 unfold dw at hd;rw [cf] at hd;rw [cf,cf,lq s a i F,ti s a _ C,ti s a _ C,ti s a _ C];refine Pc _ ?_ ?_ ?_ (fun h=>IO (by omega)) (fun h=>IO (by omega)) (fun h=>IO (by omega))
 all_goals split <;> simp
def st (s:ByteArray):Nat->Nat
 |0=>0
 |n+1=>if st s n<s.size then st s n+dw s (st s n) else st s n
theorem oV (s:ByteArray):∀n,st s n<=s.size
 |0=>SW _
 |n+1=>by
  unfold st
  split
  ·exact (aW s _ ‹_›).2.2
  ·exact oV s n
theorem Ar (s:ByteArray):∀n,pl s (st s n)=(P s).drop n
 |0=>rfl
 |n+1=>by
  have C:=Ar s n;unfold st
  split
  ·rename_i h
   rw [As s _ h] at C;rw [<-List.drop_drop,<-C];rfl
  ·rename_i h
   rw [C];rw [Fv s _ (by omega)] at C;rw [<-C,<-List.drop_drop,<-C];rfl
theorem gz (s:ByteArray) (k:Nat):st s k<s.size↔k<(P s).length:=by
 have h:=Ar s k;constructor
 ·intro C;rw [As s _ C] at h;have:=Tm List.length h;simp at this;omega
 ·intro C
  apply TF
  intro F;rw [Fv s _ (by omega)] at h;have:=Tm List.length h;simp at this;omega
theorem Sz (s:ByteArray) (k:Nat) (h:k<(P s).length):(P s)[k]?=some (st s k):=by
 have C:=Ar s k;rw [As s _ ((gz s k).2 h)] at C;have:=Tm (fun l:List Nat=>l[0]?) C;simp at this;exact this.symm
theorem oX (s:ByteArray) (k:Nat) (h:(P s).length<=k):st s k=s.size:=by
 have C:=oV s k;have F:=gz s k;omega
theorem fk (s:ByteArray) (k:Nat) (h:k<(P s).length):st s (k+1)=st s k+dw s (st s k):=by
 show (if st s k<s.size then st s k+dw s (st s k) else st s k)=_
 rw [IO ((gz s k).2 h)]
theorem kA (s:ByteArray) (j:Nat):∀n,j<st s n->∃m,m<n/\m<(P s).length/\st s m<=j/\j<st s m+dw s (st s m)/\st s m+dw s (st s m)<=st s n
 |0,h=>by simp [st] at h
 |n+1,h=>by
  by_cases H:st s n<s.size
  ·have e:=fk s n ((gz s n).1 H)
   by_cases M:j<st s n
   ·obtain ⟨m,I,C,F,G,J⟩:=kA s j n M;exact ⟨m,by omega,C,F,G,by omega⟩
   ·exact ⟨n,by omega,(gz s n).1 H,by omega,by omega,by omega⟩
  ·have e:st s (n+1)=st s n:=by
    show (if st s n<s.size then st s n+dw s (st s n) else st s n)=_
    rw [Eq H]
   rw [e] at h;obtain ⟨m,I,C,F,G,J⟩:=kA s j n h;exact ⟨m,by omega,C,F,G,by omega⟩
theorem AT (a b:ByteArray) (i:Nat):(a++b).get! i=if i<a.size then a.get! i else b.get! (i-a.size):=by
 have e:∀(x:ByteArray) (k:Nat),x.get! k=x.data.toList[k]?.getD default:=by
  intro x k;show x.data[k]! = _;rw [VL,UN,Vh]
 have C:a.data.toList.length=a.size:=by simp
 rw [e,e,e,VY,Array.toList_append]
 by_cases h:i<a.size
 ·rw [IO h,List.getElem?_append_left (by omega)]
 ·rw [Eq h,Vp (by omega),C]
theorem aY (a b:ByteArray):(a++b).size=a.size+b.size:=by simp [Uo]
theorem pD (a b:ByteArray) (i:Nat):ob (a++b) i=if i<a.size then ob a i else ob b (i-a.size):=by
 unfold ob ay;rw [aY,AT]
 by_cases h:i<a.size
 ·rw [IO h,IO (by omega),IO h,IO h]
 ·grind
theorem bC (a b:ByteArray) (i:Nat):ay (a++b) i=if i<a.size then ay a i else ay b (i-a.size):=by
 unfold ay;rw [AT]
 split <;> rfl
theorem yY (a b:ByteArray) (i:Nat):Utf8.decode (a++b) (a.size+i)=Utf8.decode b i:=by
 rw [cf,cf,bC,pD,pD,pD,Eq (by omega),Eq (by omega),Eq (by omega),Eq (by omega)];rw [show a.size+i-a.size=i by omega,show a.size+i+1-a.size=i+1 by omega,show a.size+i+2-a.size=i+2 by omega,show a.size+i+3-a.size=i+3 by omega]
theorem mU (a:ByteArray):a.extract 0 a.size=a:=by
 apply WM
 rw [ByteArray.data_extract];exact Array.extract_size
theorem Ih (a b:ByteArray) (H:a.size=b.size) (h:∀i,i<a.size->a.get! i=b.get! i):a=b:=by
 apply WM
 apply Array.ext
 ·exact H
 ·intro i C G;have:=h i C
  have e:∀(x:ByteArray) (F:i<x.data.size),x.get! i=x.data[i]:=by
   intro x F;show x.data[i]! = _;exact VZ x.data i F
  rw [e a C,e b G] at this;exact this
theorem dr (a b:ByteArray) (F:a.size=b.size) (h:∀i,i<a.size->ay a i=ay b i):a=b:=
 Ih a b F (fun i C=>Wo.1 (h i C))
theorem aI (s:ByteArray) (a b i:Nat) (h:a+i<b):ay (s.extract a b) i=ay s (a+i):=by
 unfold ay;rw [jD,IO h]
end Go.Proofs.YtcjiapphbpiffaaGreatDoor.Lx
namespace Go.Proofs.YtcjiapphbpiffaaGreatDoor.Lx
open Go.RowKit
variable {p:Int}
theorem O9 (s:ByteArray) (k:Nat) (h:k<(P s).length):(P s).take (k+1)=(P s).take k++[st s k]:=by
 have C:=Sz s k h;rw [List.take_succ_eq_append_getElem h];have:=(Te.1 C).2;rw [this]
def J2 (s:ByteArray):List Nat:=(P s).map (dp s)
theorem Al (s:ByteArray):(J2 s).length=(P s).length:=by unfold J2;simp
theorem Fg (s:ByteArray) (k:Nat) (h:k<(P s).length):(J2 s).take (k+1)=(J2 s).take k++[dp s (st s k)]:=by
 unfold J2;rw [<-List.map_take,O9 s k h,UB,List.map_take];rfl
def DS (p:Int):Prop:=(65<=p/\p<=90)\/(97<=p/\p<=122)\/(192<=p/\p<=214)\/(216<=p/\p<=246)\/(248<=p/\p<=591)\/(913<=p/\p<=929)\/(931<=p/\p<=974)\/(1024<=p/\p<=1119)\/(1488<=p/\p<=1514)\/(1568<=p/\p<=1610)\/(2308<=p/\p<=2361)\/(12353<=p/\p<=12438)\/(12449<=p/\p<=12538)\/(19968<=p/\p<=40959)\/(44032<=p/\p<=55203)\/(66560<=p/\p<=66639)\/(131072<=p/\p<=196607)
def IM (p:Int):Prop:=(48<=p/\p<=57)\/(95<=p/\p<=95)\/(768<=p/\p<=879)
instance (p:Int):Decidable (DS p):=by unfold DS;infer_instance
instance (p:Int):Decidable (IM p):=by unfold IM;infer_instance
def us (p:Int):Int:=if DS p then 2 else if IM p then 1 else 0
def fL (p:Int):Bool:=decide (DS p)
def iq (p:Int):Bool:=fL p || decide (IM p)
theorem M6 (h:DS p):us p=2:=by unfold us;rw [IO h]
theorem M7 (h:IM p):us p=1:=by
 unfold us;rw [Eq (by unfold IM at h;unfold DS;omega),IO h]
theorem PE (h:¬DS p) (C:¬IM p):us p=0:=by unfold us;rw [Eq h,Eq C]
theorem PF (p:Int):(us p == 2)=fL p:=by
 unfold us fL
 by_cases h:DS p
 ·rw [IO h,Tf h];rfl
 ·rw [Eq h,Tg h];split <;> rfl
theorem PB (p:Int):(us p != 0)=iq p:=by
 unfold us iq fL
 by_cases h:DS p
 ·rw [IO h,Tf h];rfl
 ·rw [Eq h,Tg h]
  by_cases C:IM p
  ·rw [IO C,Tf C];rfl
  ·rw [Eq C,Tg C];rfl
theorem G2 (i:Nat) (p:Int) (G:i<20) (C:Bi i<=p) (F:p<=DC i):Po i=us p:=by
 rcases i with _|_|_|_|_|_|_|_|_|_|_|_|_|_|_|_|_|_|_|_|i
 all_goals simp [Bi,DC,Po,ig,List.getD] at C F ⊢
 all_goals first|exact (M6 (by unfold DS;omega)).symm|exact (M7 (by unfold IM;omega)).symm|omega
theorem G4 (p:Int) (h:∀k,k<20->p<Bi k\/DC k<p):us p=0:=by
 have U:=h 0 (by omega);have Y:=h 1 (by omega);have Z:=h 2 (by omega);have a3:=h 3 (by omega);have a4:=h 4 (by omega);have a5:=h 5 (by omega);have a6:=h 6 (by omega);have a7:=h 7 (by omega);have a8:=h 8 (by omega);have a9:=h 9 (by omega);have C:=h 10 (by omega);have F:=h 11 (by omega);have G:=h 12 (by omega);have H:=h 13 (by omega);have I:=h 14 (by omega);have J:=h 15 (by omega);have M:=h 16 (by omega);have O:=h 17 (by omega);have Q:=h 18 (by omega);have S:=h 19 (by omega);simp only [Bi,DC,ig,List.getD,List.getElem?_cons_zero,Ud,Wa] at U Y Z a3 a4 a5 a6 a7 a8 a9 C F G H I J M O Q S;refine PE ?_ ?_
 ·unfold DS;omega
 ·unfold IM;omega
theorem LE (i k:Nat) (C:k<20) (h:i<=k):Bi i<=Bi k:=by
 have:∀k,k<20->∀i,i<20->i<=k->Bi i<=Bi k:=by decide +kernel
 exact this k C i (by omega) h
theorem rX (i:Nat) (p:Int) (h:∀k,k<i->DC k<p) (F:i<20->p<Bi i):us p=0:=by
 refine G4 p fun k G=>?_
 by_cases C:k<i
 ·exact .inr (h k C)
 ·have:=F (by omega);have:=LE i k G (by omega);omega
theorem pM {a b:Int}(h:a=b):Ending.returned (.int .i64 a)=.returned (.int .i64 b):=by rw [h]
theorem iQ {a b:Bool}(h:a=b):Ending.returned (.bool a)=.returned (.bool b):=by rw [h]
theorem zC (p:Int) (w:World) (H:xH w) :
  Ta 104 #[.int .i64 p] w fun e w'=>e=.returned (.int .i64 (us p))/\w'=w:=by
 go_enter Tryz.func104,Tryz.ntmps104
 go_wp2_with fail
 go_loopw [4] (fun i wr=>wr=w/\∃k:Nat,k<=20/\i=.int .i64 k/\∀j,j<k->DC j<p) (fun i _=>20-(intOf i).toNat)
 case atStart=>exact ⟨rfl,0,by omega,rfl,fun j O=>by omega⟩
 case round=>
  obtain ⟨rfl,k,S,rfl,C⟩:=hrel
  by_cases F:k<20
  ·obtain ⟨c0,c1,c2⟩:=H k F;have Q:Hid (∀j,j<k->DC j<p):=C;have I:Hid (Bi k<=p->p<=DC k->Po k=us p):=G2 k p F;have G:Hid (p<Bi k->us p=0):=fun h=>rX k p C (fun _=>h)
   have HN:Hid (DC k<p->∀j,j<k+1->DC j<p):=fun h j O=>by
    by_cases e:j=k
    ·subst e;exact h
    ·exact C j (by omega)
   clear C H
   generalize Bi k=l at *
   generalize Po k=c at *
   generalize DC k=u at *
   by_cases J:p<l
   ·go_wp2_with fail
    go_ret
    exact ⟨pM (G.out J).symm,rfl⟩
   ·by_cases M:p<=u
    ·go_wp2_with fail
     go_ret
     exact ⟨pM (I.out (by omega) M),rfl⟩
    ·go_wp2_with fail
     exact ⟨⟨trivial,k+1,by omega,by go_num,HN.out (by omega)⟩,by simp [intOf];omega⟩
  ·have G:Hid (us p=0):=rX k p C (fun h=>absurd h F);clear C H
   go_wp2_with fail
   go_ret
   exact ⟨pM G.out.symm,rfl⟩
theorem dC (p:Int) (w:World) (F:xH w) :
  Ta 59 #[.int .i64 p] w fun e w'=>e=.returned (.bool (fL p))/\w'=w:=by
 go_enter Tryz.func59,Tryz.ntmps59
 go_wp2_with fail
 refine (zC p w F).mono ?_;rintro e w' ⟨rfl,rfl⟩;have C:Hid ((us p == 2)=fL p):=PF p
 generalize us p=u at *
 go_wp2_with fail
 go_ret
 exact ⟨iQ C.out,rfl⟩
theorem Fw (p:Int) (w:World) (F:xH w) :
  Ta 105 #[.int .i64 p] w fun e w'=>e=.returned (.bool (iq p))/\w'=w:=by
 go_enter Tryz.func105,Tryz.ntmps105
 go_wp2_with fail
 refine (zC p w F).mono ?_;rintro e w' ⟨rfl,rfl⟩;have C:Hid ((us p != 0)=iq p):=PB p
 generalize us p=u at *
 go_wp2_with fail
 go_ret
 exact ⟨iQ C.out,rfl⟩
end Go.Proofs.YtcjiapphbpiffaaGreatDoor.Lx
namespace Go.Proofs.YtcjiapphbpiffaaGreatDoor.Lx
open Go.RowKit Go.Deep
variable {s x:ByteArray}
theorem ei {b:Nat}{w v:World}(h:Below b w v):∀m,Below b w (v.drewN m)
 |0=>h
 |m+1=>(ei h m).drew
def ky (s:ByteArray):Bool:=dP.any fun x=>decide (s=x)
theorem KL (s:ByteArray) (h:∀j,j<24->s≠dP.getD j ByteArray.empty):ky s=false:=by
 unfold ky;rw [VO];intro x G H;obtain ⟨j,F,e⟩:=List.mem_iff_getElem.1 G;have C:j<24:=F
 apply h j C
 rw [List.getD,Pi F];exact (TI H).trans e.symm
theorem Od (s:ByteArray) (j:Nat) (C:j<24) (h:s=dP.getD j ByteArray.empty):ky s=true:=by
 unfold ky;rw [Un];refine ⟨dP[j]'C,List.getElem_mem _,Tf ?_⟩;rw [h,List.getD,Pi (show j<dP.length from C)];rfl
theorem zG (h:s=x):(s.toList == x.toList)=true:=by subst h;simp
theorem sw (s:ByteArray):s.toList=s.data.toList:=Va s
theorem va (h:s≠x):(s.toList == x.toList)=false:=by
 rw [Tq,sw,sw];intro e
 apply h
 have:=UU.1 e;cases s;cases x;simp_all
theorem CV (s:ByteArray) (w:World) (H:DN w) :
  Ta 152 #[.string s] w fun e w'=>e=.returned (.bool (ky s))/\w'=w:=by
 go_enter Tryz.func152,Tryz.ntmps152
 go_wp2_with fail
 go_loopw [4] (fun i wr=>wr=w/\∃k:Nat,k<=24/\i=.int .i64 k/\∀j,j<k->s≠dP.getD j ByteArray.empty) (fun i _=>24-(intOf i).toNat)
 case atStart=>exact ⟨rfl,0,by omega,rfl,fun j I=>by omega⟩
 case round=>
  obtain ⟨rfl,k,Q,rfl,C⟩:=hrel
  by_cases F:k<24
  ·have c0:=H k F;have J:Hid (s=dP.getD k ByteArray.empty->ky s=true):=Od s k F
   have HN:Hid (s≠dP.getD k ByteArray.empty->∀j,j<k+1->s≠dP.getD j ByteArray.empty):=fun h j I=>by
    by_cases e:j=k
    ·subst e;exact h
    ·exact C j (by omega)
   clear C H
   generalize dP.getD k ByteArray.empty=x at *
   by_cases e:s=x
   ·have O:=zG e;have G:Hid (s=x):=e;clear e
    go_wp2_with fail
    go_ret
    exact ⟨iQ (J.out G.out).symm,rfl⟩
   ·have O:=va e;have G:Hid (s≠x):=e;clear e
    go_wp2_with fail
    exact ⟨⟨trivial,k+1,by omega,by go_num,HN.out G.out⟩,by simp [intOf];omega⟩
  ·have M:Hid (ky s=false):=KL s (fun j I=>C j (by omega));clear C H
   go_wp2_with fail
   go_ret
   exact ⟨iQ M.out.symm,rfl⟩
def pre (s:ByteArray) (a:Nat) (t:ByteArray):Bool:=decide (a+t.size<=s.size/\s.extract a (a+t.size)=t)
def sg (s:ByteArray) (a:Nat):ByteArray:=(aZ.find? (pre s a)).getD ByteArray.empty
theorem wR (f:ByteArray->Bool):∀(l:List ByteArray) (k:Nat),k<l.length->(∀j,j<k->f (l.getD j ByteArray.empty)=false)->f (l.getD k ByteArray.empty)=true->l.find? f=some (l.getD k ByteArray.empty)
 |[],k,h,_,_=>by simp at h
 |x :: r,0,_,_,h=>by
  have C:f x=true:=h;rw [List.find?_cons_of_pos C];rfl
 |x :: r,k+1,hk,hj,h=>by
  have F:f x=false:=hj 0 (by omega);rw [List.find?_cons_of_neg (by rw [F];simp)];exact wR f r k (by simpa using hk) (fun j G=>hj (j+1) (by omega)) h
theorem Db (f:ByteArray->Bool) (l:List ByteArray) (h:∀j,j<l.length->f (l.getD j ByteArray.empty)=false):l.find? f=none:=by
 rw [WA];intro x F;obtain ⟨j,C,e⟩:=List.mem_iff_getElem.1 F;have:=h j C;rw [List.getD,Pi C] at this;subst e
 simpa using this
theorem Nj (s:ByteArray) (a k:Nat) (F:k<21) (h:∀j,j<k->pre s a (aZ.getD j ByteArray.empty)=false) (C:pre s a (aZ.getD k ByteArray.empty)=true):sg s a=aZ.getD k ByteArray.empty:=by
 unfold sg;rw [wR _ aZ k F h C];rfl
theorem JF (s:ByteArray) (a:Nat) (h:∀j,j<21->pre s a (aZ.getD j ByteArray.empty)=false):sg s a=ByteArray.empty:=by
 unfold sg;rw [Db _ aZ h];rfl
theorem Gz (s:ByteArray) (a n:Nat) (h:a+n<=s.size):(s.extract a s.size).extract 0 n=s.extract a (a+n):=by
 refine dr _ _ ?_ ?_
 ·rw [av _ 0 n (by rw [av s a _ (gt _)];omega),av s a _ h];omega
 ·intro i C;rw [av _ 0 n (by rw [av s a _ (gt _)];omega)] at C;rw [aI _ 0 n i (by omega),aI s a _ _ (by omega),aI s a _ _ (by omega),Td]
theorem KU (s t:ByteArray) (w:World) :
  Ta 111 #[.string s,.string t] w fun e w'=>e=.returned (.bool (pre s 0 t))/\w'=w:=by
 by_cases H:t.size<=s.size
 ·have G:decide ((s.size:Int)>=(t.size:Int))=true:=by simpa using H
  have J:(0:Int)<=(t.size:Int):=by omega
  have M:(t.size:Int)<=(s.size:Int):=by omega
  by_cases C:s.extract 0 t.size=t
  ·have I:=zG C
   have F:Hid (pre s 0 t=true):=by
    unfold pre;exact Tf ⟨by omega,by rw [Td];exact C⟩
   clear C
   go_enter Tryz.func111,Tryz.ntmps111
   go_wp2_with fail
   go_ret
   exact ⟨iQ F.out.symm,rfl⟩
  ·have I:=va C
   have F:Hid (pre s 0 t=false):=by
    unfold pre;refine Tg fun h=>C ?_
    have:=h.2
    rwa [Td] at this
   clear C
   go_enter Tryz.func111,Tryz.ntmps111
   go_wp2_with fail
   go_ret
   exact ⟨iQ F.out.symm,rfl⟩
 ·have G:decide ((s.size:Int)>=(t.size:Int))=false:=by simp;omega
  have F:Hid (pre s 0 t=false):=by
   unfold pre;exact Tg fun h=>H (by have:=h.1;omega)
  go_enter Tryz.func111,Tryz.ntmps111
  go_wp2_with fail
  go_ret
  exact ⟨iQ F.out.symm,rfl⟩
theorem tP (s t:ByteArray) (w:World) :
  Ta 63 #[.string s,.string t] w fun e w'=>e=.returned (.bool (pre s 0 t))/\w'=w:=by
 go_enter Tryz.func63,Tryz.ntmps63
 go_wp2_with fail
 refine (KU s t w).mono ?_;rintro e w' ⟨rfl,rfl⟩
 generalize C:pre s 0 t=b
 have F:Hid (pre s 0 t=b):=C;clear C
 go_wp2_with fail
 go_ret
 exact ⟨iQ F.out.symm,rfl⟩
theorem kN (s t:ByteArray) (a:Nat) (F:a<=s.size):pre (s.extract a s.size) 0 t=pre s a t:=by
 unfold pre;rw [av s a _ (gt _)]
 by_cases h:a+t.size<=s.size
 ·rw [Td,Gz s a t.size h];exact UF.2 ⟨fun ⟨_,C⟩=>⟨h,C⟩,fun ⟨_,C⟩=>⟨by omega,C⟩⟩
 ·rw [Tg (fun C=>h (by have:=C.1;omega)),Tg (fun C=>h C.1)]
theorem zW (s:ByteArray) (a:Nat) (w:World) (M:DO w) (ha:a<s.size) :
  Ta 112 #[.string s,.int .i64 a] w fun e w'=>e=.returned (.string (sg s a))/\Below w.heap.size w w':=by
 have U:decide ((a:Int)<0)=false:=by simp
 have Y:decide ((a:Int)>=(s.size:Int))=false:=by simp;omega
 have Z:(0:Int)<=(a:Int):=by omega
 have h4:(a:Int)<=(s.size:Int):=by omega
 go_enter Tryz.func112,Tryz.ntmps112
 go_wp2_with fail
 go_loopw [14] (fun i wr=>∃k:Nat,k<=21/\i=.int .i64 k/\(∀j,j<k->pre s a (aZ.getD j ByteArray.empty)=false)/\Below w.heap.size w wr) (fun i _=>21-(intOf i).toNat)
 case atStart=>exact ⟨0,by omega,rfl,fun j Q=>by omega,hH _ _⟩
 case round=>
  obtain ⟨k,hk,rfl,C,I⟩:=hrel
  by_cases G:k<21
  ·have c0:=(M.below I) k G;have i1:(0:Int)<=(k:Int):=by omega
   have i2:(k:Int)<21:=by omega
   have O:Hid (pre s a (aZ.getD k ByteArray.empty)=true->sg s a=aZ.getD k ByteArray.empty):=Nj s a k G C
   have HN:Hid (pre s a (aZ.getD k ByteArray.empty)=false->∀j,j<k+1->pre s a (aZ.getD j ByteArray.empty)=false):=fun h j Q=>by
    by_cases e:j=k
    ·subst e;exact h
    ·exact C j (by omega)
   clear C M
   generalize aZ.getD k ByteArray.empty=x at *
   have H:Hid (∀W,Ta 63 #[.string (s.extract a s.size),.string x] W fun e w'=>e=.returned (.bool (pre s a x))/\w'=W):=fun W=>by
    rw [<-kN s x a (by omega)];exact tP _ _ W
   cases F:pre s a x
   ·rw [F] at H;have J:Hid (pre s a x=false):=F;clear F O
    go_wp2_with fail
    go_quiet ((go_at_call 63;exact Calls.quiet_of_same (H.out _)))
    go_wp2_with fail
    exact ⟨⟨k+1,by omega,by go_num,HN.out J.out,ei I _⟩,by simp [intOf];omega⟩
   ·rw [F] at H;have J:Hid (pre s a x=true):=F;clear F HN
    go_wp2_with fail
    go_quiet ((go_at_call 63;exact Calls.quiet_of_same (H.out _)))
    go_wp2_with fail
    go_ret
    exact ⟨by rw [O.out J.out];rfl,ei I _⟩
  ·have S:Hid (sg s a=ByteArray.empty):=JF s a (fun j Q=>C j (by omega));clear C M
   go_wp2_with fail
   go_ret
   exact ⟨by rw [S.out];rfl,I⟩
end Go.Proofs.YtcjiapphbpiffaaGreatDoor.Lx
namespace Go.Proofs.YtcjiapphbpiffaaGreatDoor.Lx
open Go.RowKit
theorem vQ {p:Int}(h:fL p=true):iq p=true:=by unfold iq;rw [h];rfl
end Go.Proofs.YtcjiapphbpiffaaGreatDoor.Lx
namespace Go.Proofs.YtcjiapphbpiffaaGreatDoor.Lx
open Go.RowKit Go.Deep
variable {s t:ByteArray}{a:Nat}
theorem Fm (h:a+t.size<=s.size):pre s a t=decide (s.extract a (a+t.size)=t):=by
 unfold pre;exact UF.2 ⟨fun C=>C.2,fun C=>⟨h,C⟩⟩
theorem Ao (h:¬a+t.size<=s.size):pre s a t=false:=by
 unfold pre;exact Tg fun C=>h C.1
end Go.Proofs.YtcjiapphbpiffaaGreatDoor.Lx
namespace Go.Proofs.YtcjiapphbpiffaaGreatDoor.Lx
open Go.RowKit
variable {s:ByteArray}{b:Nat}
def IL (s:ByteArray):Nat->Nat->Nat
 |0,i=>i
 |f+1,i=>if ay s i=10 then i else IL s f (i+1)
def nl (s:ByteArray) (i:Nat):Nat:=IL s (s.size-i) i
theorem rI (s:ByteArray):∀f i,i<=IL s f i/\IL s f i<=i+f/\(∀j,i<=j->j<IL s f i->ay s j≠10)/\(IL s f i<i+f->ay s (IL s f i)=10)
 |0,i=>by
  show i<=i/\i<=i+0/\_/\_
  exact ⟨gt _,gt _,fun j F C=>by unfold IL at C;omega,fun h=>by unfold IL at h;omega⟩
 |f+1,i=>by
  unfold IL
  by_cases h:ay s i=10
  ·grind
  ·rw [Eq h];obtain ⟨F,C,G,H⟩:=rI s f (i+1);refine ⟨by omega,by omega,fun j I J=>?_,fun I=>H (by omega)⟩
   by_cases e:j=i
   ·rw [e];exact h
   ·exact G j (by omega) J
theorem iL (s:ByteArray) (i:Nat) (h:i<=s.size):i<=nl s i/\nl s i<=s.size/\(∀j,i<=j->j<nl s i->ay s j≠10)/\(nl s i<s.size->ay s (nl s i)=10):=by
 obtain ⟨C,I,F,G⟩:=rI s (s.size-i) i;exact ⟨C,by unfold nl;omega,F,fun H=>G (by unfold nl at H;omega)⟩
theorem we (s:ByteArray) (i j:Nat) (h:i<=j) (O:j<=s.size) (J:∀k,i<=k->k<j->ay s k≠10) (F:j=s.size\/ay s j=10):nl s i=j:=by
 obtain ⟨G,M,H,I⟩:=iL s i (by omega)
 rcases Nat.lt_trichotomy (nl s i) j with C|C|C
 ·exact absurd (I (by omega)) (J _ G C)
 ·exact C
 ·rcases F with F|F
  ·omega
  ·exact absurd F (H j h C)
def cn (s:ByteArray):Nat->Nat
 |0=>0
 |i+1=>cn s i+(if ay s i=10 then 1 else 0)
def lf (s:ByteArray):Nat->Nat
 |0=>0
 |i+1=>if ay s i=10 then i+1 else lf s i
def bg (s:ByteArray):Nat->Nat
 |0=>0
 |k+1=>nl s (bg s k)+1
theorem fY (s:ByteArray) (i:Nat):(ay s i=10/\cn s (i+1)=cn s i+1)\/(ay s i≠10/\cn s (i+1)=cn s i):=by
 show (_/\cn s i+_=_)\/(_/\cn s i+_=_)
 by_cases h:ay s i=10
 ·rw [IO h];exact .inl ⟨h,rfl⟩
 ·rw [Eq h];exact .inr ⟨h,rfl⟩
theorem Bh (s:ByteArray) (i:Nat):∀d,cn s i<=cn s (i+d)
 |0=>gt _
 |d+1=>by
  have h:=Bh s i d;have:=fY s (i+d);rw [<-Um];omega
theorem Hc (s:ByteArray) {i j:Nat}(h:i<=j):cn s i<=cn s j:=by
 have:=Bh s i (j-i);rw [show i+(j-i)=j by omega] at this;exact this
theorem MI (s:ByteArray):∀i,cn s i<=i
 |0=>gt _
 |i+1=>by have:=MI s i;have:=fY s i;omega
theorem xp (s:ByteArray) (i:Nat):∀d,(∀k,i<=k->k<i+d->ay s k≠10)->cn s (i+d)=cn s i
 |0,_=>rfl
 |d+1,h=>by
  have G:=xp s i d (fun k C F=>h k C (by omega))
  rcases fY s (i+d) with ⟨C,_⟩|⟨_,F⟩
  ·exact absurd C (h _ (by omega) (by omega))
  ·rw [<-Um];omega
theorem rY (s:ByteArray) {i j:Nat}(h:i<=j) (F:∀k,i<=k->k<j->ay s k≠10):cn s j=cn s i:=by
 have:=xp s i (j-i) (fun k C G=>F k C (by omega));rw [show i+(j-i)=j by omega] at this;exact this
theorem gZ (s:ByteArray):∀i,lf s i<=i/\(∀j,lf s i<=j->j<i->ay s j≠10)/\(lf s i=0\/(1<=lf s i/\ay s (lf s i-1)=10))
 |0=>⟨gt _,fun j _ h=>by omega,.inl rfl⟩
 |i+1=>by
  unfold lf
  by_cases h:ay s i=10
  ·grind
  ·rw [Eq h];obtain ⟨H,C,F⟩:=gZ s i;refine ⟨by omega,fun j G I=>?_,F⟩
   by_cases e:j=i
   ·rw [e];exact h
   ·exact C j G (by omega)
theorem jx (s:ByteArray) (i:Nat):lf s (i+1)=if ay s i=10 then i+1 else lf s i:=rfl
theorem AL (s:ByteArray):∀i,cn s i=0->lf s i=0
 |0,_=>rfl
 |i+1,h=>by
  rcases fY s i with ⟨_,F⟩|⟨C,F⟩
  ·omega
  ·rw [jx,Eq C];exact AL s i (by omega)
theorem MM (s:ByteArray):∀i,i<=s.size->bg s (cn s i)=lf s i
 |0,_=>rfl
 |i+1,h=>by
  have G:=MM s i (by omega);rw [jx]
  rcases fY s i with ⟨C,F⟩|⟨C,F⟩
  ·rw [F,IO C];show nl s (bg s (cn s i))+1=_;obtain ⟨H,I,_⟩:=gZ s i;rw [G,we s (lf s i) i H (by omega) I (.inr C)]
  ·rw [F,Eq C,G]
theorem AF (s:ByteArray) (i:Nat) (J:i<=s.size):(nl s i<s.size/\cn s i<cn s s.size/\cn s (nl s i+1)=cn s i+1/\cn s (nl s i)=cn s i)\/(nl s i=s.size/\cn s i=cn s s.size):=by
 obtain ⟨F,M,G,H⟩:=iL s i J;have I:=rY s F G
 by_cases h:nl s i<s.size
 ·have e:=H h
  rcases fY s (nl s i) with ⟨_,C⟩|⟨C,_⟩
  ·have:=Hc s (i:=nl s i+1) (j:=s.size) (by omega);exact .inl ⟨h,by omega,by omega,I⟩
  ·exact absurd e C
 ·grind
theorem qA (s:ByteArray):∀k,k<=cn s s.size->bg s k<=s.size/\cn s (bg s k)=k
 |0,_=>⟨SW _,rfl⟩
 |k+1,h=>by
  obtain ⟨C,F⟩:=qA s k (by omega);show nl s (bg s k)+1<=_/\cn s (nl s (bg s k)+1)=_
  rcases AF s (bg s k) C with ⟨a,b,c,_⟩|⟨a,b⟩
  ·exact ⟨by omega,by omega⟩
  ·omega
theorem Mx (s:ByteArray) (k:Nat) (h:k<=cn s s.size):bg s k<=nl s (bg s k)/\nl s (bg s k)<=s.size/\(nl s (bg s k)<s.size↔k<cn s s.size):=by
 obtain ⟨C,F⟩:=qA s k h;obtain ⟨h3,h4,_⟩:=iL s (bg s k) C;refine ⟨h3,h4,?_⟩
 rcases AF s (bg s k) C with ⟨a,b,c,_⟩|⟨a,b⟩
 ·omega
 ·omega
def ln (s:ByteArray) (k:Nat):ByteArray:=s.extract (bg s k) (nl s (bg s k))
theorem KF (s:ByteArray) (k:Nat) (h:k<=cn s s.size):(ln s k).size<=s.size:=by
 have:=Mx s k h;unfold ln;rw [av _ _ _ this.2.1];omega
theorem LT (s:ByteArray):bg s (cn s s.size)=lf s s.size:=MM s _ (gt _)
theorem KG (s:ByteArray):ln s (cn s s.size)=s.extract (lf s s.size) s.size:=by
 unfold ln;rw [LT];obtain ⟨C,F,_⟩:=gZ s s.size;rw [we s (lf s s.size) s.size C (gt _) F (.inl rfl)]
theorem Jv (s:ByteArray) (k:Nat):st s k<=st s (k+1):=by
 by_cases h:k<(P s).length
 ·have:=fk s k h;omega
 ·rw [oX s k (by omega),oX s (k+1) (by omega)];omega
theorem sG (s:ByteArray) (i j:Nat) (h:i<=j):st s i<=st s j:=by
 obtain ⟨d,rfl⟩:∃d,j=i+d:=⟨j-i,by omega⟩;clear h
 induction d with
 |zero=>exact gt _
 |succ d ih=>have:=Jv s (i+d);rw [<-Um];omega
theorem lM (s:ByteArray) (i j:Nat) (h:i<j) (C:j<=(P s).length):st s i<st s j:=by
 have e:=fk s i (by omega);have F:=aW s (st s i) ((gz s i).2 (by omega));have:=sG s (i+1) j h;omega
def hd (s:ByteArray) (k:Nat):ByteArray:=s.extract 0 (st s k)
theorem nZ (s:ByteArray) (k:Nat):(hd s k).size=st s k:=by
 unfold hd;rw [av s 0 _ (oV s k)];omega
theorem vm (s:ByteArray) (k:Nat) (G:k<=(P s).length):∀j,j<=k->st (hd s k) j=st s j
 |0,_=>rfl
 |j+1,h=>by
  have F:=vm s k G j (by omega);have e:=fk s j (by omega);have J:=aW s (st s j) ((gz s j).2 (by omega));have I:=sG s (j+1) k h;have C:Utf8.decode (hd s k) (st s j)=Utf8.decode s (st s j):=xe s (st s k) (st s j) (oV s k) (by omega) (by omega);have H:j<(P (hd s k)).length:=(gz _ j).1 (by rw [F,nZ];omega);rw [fk _ j H,F,e];unfold dw;rw [C]
theorem QN (s:ByteArray) (k:Nat) (C:k<=(P s).length):(P (hd s k)).length=k:=by
 have G:¬k<(P (hd s k)).length:=by
  rw [<-gz,vm s k C k (gt _),nZ];omega
 by_cases F:k=0
 ·omega
 ·have e:=fk s (k-1) (by omega);have I:=aW s (st s (k-1)) ((gz s _).2 (by omega));rw [show k-1+1=k by omega] at e
  have H:k-1<(P (hd s k)).length:=by
   rw [<-gz,vm s k C _ (by omega),nZ];omega
  omega
theorem vR (s:ByteArray) (a:Nat) (C:a<=s.size):∀f i,vT s f (a+i)=(vT (s.extract a s.size) f i).map (fun k=>a+k)
 |0,_=>rfl
 |f+1,i=>by
  unfold vT;rw [av s a _ (gt _)]
  by_cases h:a+i<s.size
  ·rw [IO h,IO (by omega),T1];have e:dw (s.extract a s.size) i=dw s (a+i):=by unfold dw;rw [gK s a i C]
   rw [e,Um,vR s a C f (i+dw s (a+i))]
  ·rw [Eq h,Eq (by omega)];rfl
theorem Pa (s:ByteArray) (k:Nat) (C:k<=(P s).length):(P (s.extract (st s k) s.size)).length=(P s).length-k:=by
 have h:=vR s (st s k) (oV s k) (s.size-st s k) 0
 have e:pl s (st s k)=(P (s.extract (st s k) s.size)).map (fun j=>st s k+j):=by
  unfold P pl;rw [av s _ _ (gt _)];exact h
 rw [Ar] at e;have:=Tm List.length e;simp at this;omega
theorem gJ (s:ByteArray) (a b c d:Nat) (C:b<=s.size) (hd:a+d<=b) (hc:c<=d):(s.extract a b).extract c d=s.extract (a+c) (a+d):=by
 have G:=av s a b C;have H:=av (s.extract a b) c d (by omega);have I:=av s (a+c) (a+d) (by omega);refine Ih _ _ (by omega) fun k F=>?_
 rw [jD,IO (by omega),jD,IO (by omega),jD,IO (by omega),Um]
theorem ID (s:ByteArray) (a b:Nat) (C:a<=b) (G:b<=(P s).length):(P (s.extract (st s a) (st s b))).length=b-a:=by
 have H:=QN s b G;have I:=vm s b G a C;have F:=Pa (hd s b) a (by omega);rw [H,I,nZ] at F;have J:=sG s a b C
 have e:(hd s b).extract (st s a) (st s b)=s.extract (st s a) (st s b):=by
  unfold hd;rw [gJ s 0 (st s b) _ _ (oV s b) (by omega) J,Td,Td]
 rw [e] at F;exact F
def bd (s:ByteArray) (b:Nat):Prop:=∃k,k<=(P s).length/\st s k=b
theorem uE (s:ByteArray):bd s 0:=⟨0,SW _,rfl⟩
theorem Bt (s:ByteArray):bd s s.size:=⟨_,gt _,oX s _ (gt _)⟩
theorem Ic (h:bd s b):b<=s.size:=by obtain ⟨k,_,rfl⟩:=h;exact oV s k
theorem Ha {a c:Nat}(G:bd s a) (H:bd s b) (hc:bd s c) (J:a<=b) (M:b<=c) :
  (P (s.extract a b)).length+(P (s.extract b c)).length=(P (s.extract a c)).length:=by
 obtain ⟨i,I,rfl⟩:=G;obtain ⟨j,hj,rfl⟩:=H;obtain ⟨k,hk,rfl⟩:=hc
 have C:i<=j:=by
  apply TF;intro h
  have:=lM s j i (by omega) I;omega
 have F:j<=k:=by
  apply TF;intro h
  have:=lM s k j (by omega) hj;omega
 rw [ID s i j C hj,ID s j k F hk,ID s i k (by omega) hk];omega
theorem OE (s:ByteArray) (i:Nat) (h:ay s i=10):dw s i=1:=by
 unfold dw;rw [cf,h];rfl
theorem CI (s:ByteArray) (j:Nat) (h:ay s j=10):j<s.size:=by
 apply TF;intro C
 have:ay s j=0:=Ik s j (by omega);omega
theorem Ia (s:ByteArray) (j:Nat) (h:ay s j=10):bd s j/\bd s (j+1):=by
 have F:=CI s j h;obtain ⟨m,H,C,I,J,M⟩:=kA s j (P s).length (by rw [oX s _ (gt _)];exact F)
 have e:st s m=j:=by
  apply TF;intro G
  have:=(jI s (st s m) (j-st s m) (by omega) (by omega)).2;rw [show st s m+(j-st s m)=j by omega,h] at this;omega
 refine ⟨⟨m,by omega,e⟩,⟨m+1,by omega,?_⟩⟩;rw [fk s m C,e,OE s j h]
theorem QD (s:ByteArray) (i:Nat):bd s (lf s i):=by
 rcases (gZ s i).2.2 with h|⟨F,C⟩
 ·rw [h];exact uE s
 ·have:=(Ia s _ C).2;rw [show lf s i-1+1=lf s i by omega] at this;exact this
theorem uz (s:ByteArray) (a:Nat):∀i,i<=a->cn (s.extract 0 a) i=cn s i
 |0,_=>rfl
 |i+1,h=>by
  show cn _ i+_=cn s i+_
  rw [uz s a i (by omega),lq s a i (by omega)]
theorem AN (s:ByteArray) (a:Nat):∀i,i<=a->lf (s.extract 0 a) i=lf s i
 |0,_=>rfl
 |i+1,h=>by
  rw [jx,jx,AN s a i (by omega),lq s a i (by omega)]
theorem uy (s:ByteArray) (a:Nat):∀i,a+i<=s.size->cn s (a+i)=cn s a+cn (s.extract a s.size) i
 |0,_=>rfl
 |i+1,h=>by
  show cn s (a+i)+_=_+(cn _ i+_)
  rw [uy s a i (by omega),aI s a s.size i (by omega),Um];rfl
theorem AM (s:ByteArray) (a:Nat):∀i,a+i<=s.size->lf s (a+i)=if cn (s.extract a s.size) i=0 then lf s a else a+lf (s.extract a s.size) i
 |0,_=>rfl
 |i+1,h=>by
  have G:=AM s a i (by omega);have e:=aI s a s.size i (by omega);rw [<-Um,jx,jx,e]
  rcases fY (s.extract a s.size) i with ⟨C,F⟩|⟨C,F⟩
  ·rw [e] at C;rw [IO C,IO C,Eq (by omega)];rfl
  ·rw [e] at C;rw [Eq C,Eq C,F,G]
def fG (l:Int) (s:ByteArray):Int:=wrap64 (l+cn s s.size)
def jO (c:Int) (s:ByteArray):Int:=wrap64 ((if cn s s.size=0 then c else 1)+(P (s.extract (lf s s.size) s.size)).length)
def MS (a:Int) (s:ByteArray):Int:=wrap64 (a+s.size)
theorem oC (a b:Int):wrap64 (wrap64 a+b)=wrap64 (a+b):=by unfold wrap64;omega
theorem CK (s:ByteArray) (w:Nat) (C:w<=s.size) (l:Int):fG (fG l (s.extract 0 w)) (s.extract w s.size)=fG l s:=by
 unfold fG;have F:=av s 0 w C;have G:=av s w s.size (gt _);have h:=uy s w (s.size-w) (by omega);rw [show w+(s.size-w)=s.size by omega] at h;rw [F,G,h,uz s w _ (by omega),WB,oC]
 congr 1;omega
theorem G9 (s:ByteArray) (w:Nat) (H:bd s w) (c:Int):jO (jO c (s.extract 0 w)) (s.extract w s.size)=jO c s:=by
 have C:=Ic H;have J:=av s 0 w C;have M:=av s w s.size (gt _);have h:=uy s w (s.size-w) (by omega);have F:=AM s w (s.size-w) (by omega);rw [show w+(s.size-w)=s.size by omega] at h F;have f:=gZ s w;have I:=gZ (s.extract w s.size) (s.size-w);unfold jO;rw [J,M,uz s w _ (by omega),AN s w _ (by omega),WB];rw [gJ s 0 w _ _ C (by omega) f.1,Td,Td];rw [gJ s w s.size _ _ (gt _) (by omega) I.1,show w+(s.size-w)=s.size by omega]
 by_cases G:cn (s.extract w s.size) (s.size-w)=0
 ·rw [IO G] at F ⊢;rw [F,h,G,TS,AL _ _ G,TS,oC,<-Ha (QD s w) H (Bt s) f.1 C]
  congr 1;omega
 ·rw [Eq G] at F ⊢;rw [F,h,Eq (by omega)]
end Go.Proofs.YtcjiapphbpiffaaGreatDoor.Lx
