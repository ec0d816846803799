import Derived.Laws.RangeAny
import Derived.Deep.QuietTactic
import Derived.BigQuiet
import Derived.Test.YtjiepkenkcgkhaaGreatDoorM01
set_option linter.unusedVariables false
set_option linter.unusedSimpArgs false
set_option maxHeartbeats 1000000
namespace Go.Proofs.YtjiepkenkcgkhaaGreatDoor.Lx
/-
 The plain mathematics of layer 1: characters by the model's decoding.
-/
def dp (s:ByteArray) (i:Nat):Nat:=(Utf8.decode s i).1
def dw (s:ByteArray) (i:Nat):Nat:=(Utf8.decode s i).2
theorem Gl (s:ByteArray) (i:Nat) (h:s.size<=i):(s.get! i).toNat=0:=by
 have e:s.get! i=default:=by
  show s.data[i]! = default
  exact getElem!_neg _ _ (by show ¬i<s.data.size;have:s.data.size=s.size:=rfl;omega)
 rw [e];rfl
theorem aV (s:ByteArray) (i:Nat) (h:i<s.size):1<=dw s i/\dw s i<=4/\i+dw s i<=s.size:=by
 unfold dw Utf8.decode;simp only []
 repeat' split
 all_goals simp_all
 all_goals omega
theorem vT (s:ByteArray) (i:Nat):dp s i<=1114111:=by
 have hb:∀k,(s.get! (i+k)).toNat<256:=fun k=>(s.get! (i+k)).toNat_lt
 have h0:=hb 0;have h1:=hb 1;have h2:=hb 2;have h3:=hb 3;unfold dp Utf8.decode;simp only []
 repeat' split
 all_goals simp_all [Utf8.runeError,Utf8.valid]
 all_goals omega
theorem td (s t:ByteArray) (i j:Nat) (h:∀k,k<4->t.get! (j+k)=s.get! (i+k)) (hz:∀k,k<4->(j+k<t.size↔i+k<s.size)):Utf8.decode t j=Utf8.decode s i:=by
 unfold Utf8.decode;simp only [h 0 (by omega),h 1 (by omega),h 2 (by omega),h 3 (by omega),hz 1 (by omega),hz 2 (by omega),hz 3 (by omega)]
theorem jq (s:ByteArray) (a b i:Nat):(s.extract a b).get! i=if a+i<b then s.get! (a+i) else default:=by
 have e:∀(x:ByteArray) (k:Nat),x.get! k=x.data.toList[k]?.getD default:=by
  intro x k;show x.data[k]! = _;rw [T3,SL,Tn]
 rw [e,e,ByteArray.data_extract,Array.toList_extract];simp only [List.extract_eq_take_drop,RI,RC]
 by_cases h:a+i<b
 ·rw [IO h,IO (by omega)]
 ·rw [Eq h,Eq (by omega)];rfl
theorem az (s:ByteArray) (a b:Nat) (h:b<=s.size):(s.extract a b).size=b-a:=by
 rw [ByteArray.size_extract];omega
theorem gx (s:ByteArray) (a i:Nat) (h:a<=s.size):Utf8.decode (s.extract a s.size) i=Utf8.decode s (a+i):=by
 refine td _ _ _ _ (fun k _=>?_) (fun k _=>by rw [az s a _ (gt _)];omega);rw [jq]
 by_cases hk:a+(i+k)<s.size
 ·rw [IO hk,Sh]
 ·rw [Eq hk];show _=s.data[a+i+k]!;exact (getElem!_neg _ _ (by show ¬_<s.data.size;have:s.data.size=s.size:=rfl;omega)).symm
def Ju (p n:Int):Bool:=(p != 65533) || decide (1<n)
def gd (s:ByteArray) (i:Nat):Bool:=Ju (dp s i) (dw s i)
def QC (s t:ByteArray):Bool:=gd (s++t) 0 && decide (s.size<dw (s++t) 0)
def IL (s:ByteArray):Bool:=QC s ⟨#[128,128,128]⟩ || QC s ⟨#[191,191,191]⟩
def whF (s:ByteArray):Nat->Nat->Nat
 |0,_=>s.size
 |f+1,n=>if n<=s.size then (if IL (s.extract (s.size-n) s.size)=true then s.size-n else whF s f (n+1)) else s.size
def uM (s:ByteArray):Nat->Nat->List Nat
 |0,_=>[]
 |f+1,i=>if i<s.size then i :: uM s f (i+dw s i) else []
theorem uL (s:ByteArray):∀(f g i:Nat),s.size<=i+f->s.size<=i+g->uM s f i=uM s g i
 |0,0,_,_,_=>rfl
 |0,g+1,i,h,_=>by unfold uM;rw [Eq (by omega)]
 |f+1,0,i,_,h=>by unfold uM;rw [Eq (by omega)]
 |f+1,g+1,i,hf,hg=>by
  unfold uM
  split
  ·rename_i hi
   have:=(aV s i hi).1;rw [uL s f g (i+dw s i) (by omega) (by omega)]
  ·rfl
def pl (s:ByteArray) (i:Nat):List Nat:=uM s (s.size-i) i
def P (s:ByteArray):List Nat:=pl s 0
theorem yW (s:ByteArray) (i:Nat) (h:i<s.size):pl s i=i :: pl s (i+dw s i):=by
 have hw:=aV s i h;unfold pl;obtain ⟨f,hf⟩:∃f,s.size-i=f+1:=⟨s.size-i-1,by omega⟩;rw [hf];show (if i<s.size then i :: uM s f (i+dw s i) else [])=_;rw [IO h,uL s f (s.size-(i+dw s i)) _ (by omega) (by omega)]
theorem D7 (s:ByteArray) (i:Nat) (h:s.size<=i):pl s i=[]:=by
 unfold pl;rw [show s.size-i=0 by omega];rfl
theorem D6 (s:ByteArray):∀(f i:Nat),(uM s f i).length<=f
 |0,_=>by simp [uM]
 |f+1,i=>by
  unfold uM
  split
  ·simp;exact D6 s f _
  ·simp
theorem Ar (s:ByteArray):(P s).length<=s.size:=by
 unfold P pl;exact QQ (D6 s _ _) (by omega)
end Go.Proofs.YtjiepkenkcgkhaaGreatDoor.Lx
namespace Go.Proofs.YtjiepkenkcgkhaaGreatDoor.Lx
open Go.RowKit
theorem w64 (n:Nat) (h:n<=1114111):wrap64 (n:Int)=n:=by unfold wrap64;omega
theorem Ih {k:IntKind}{a b:Int}(h:a=b):Ending.returned (.int k a)=.returned (.int k b):=by rw [h]
theorem dQ (w:World) (s:ByteArray) (p:Nat):Below w.heap.size w (w.iter s p):=(hH _ _).alloc (gt _) _
theorem Ca (s:ByteArray) (w:World) (hs:s.size<=maxLen) :
  Ra 116 #[.string s] w fun e w'=>e=.returned (.int .i64 (P s).length)/\∃pos,w'=w.iter s pos:=by
 unfold maxLen at hs;have hP:=Ar s
 go_enter Tryz.func116,Tryz.ntmps116
 go_wp2
 go_loopw [3] (fun n w'=>∃(pos k:Nat),w'=w.iter s pos/\n=.int .i64 k/\k+(pl s pos).length=(P s).length) (fun _ w'=>s.size-w'.iterPos w.heap.size)
 case atStart=>exact ⟨0,0,rfl,rfl,by simp [P]⟩
 case round=>
  obtain ⟨pos,k,rfl,rfl,hc⟩:=hrel;have hkb:k<=(P s).length:=by omega
  by_cases hp:pos<s.size
  ·have hnx:∀ty,(Instr.next (.pointer (some ⟨w.heap.size,0,none⟩)) true ty).run Tryz.prog (w.iter s pos)=_:=fun ty=>UH w s pos ty hp
   have hw:=aV s pos hp;have hlen:(pl s pos).length=(pl s (pos+dw s pos)).length+1:=by rw [yW s pos hp];simp
   have HC:Hid (k+1+(pl s (pos+dw s pos)).length=(P s).length):=by show _=_;omega
   have hk1:k+1<=(P s).length:=by omega
   clear hc hlen;unfold dw at hw
   go_wp2
   go_roundw
   case rel=>exact ⟨pos+dw s pos,k+1,rfl,by go_num,HC.out⟩
   case measure=>
    simp;omega
  ·have hnx:∀ty,(Instr.next (.pointer (some ⟨w.heap.size,0,none⟩)) true ty).run Tryz.prog (w.iter s pos)=_:=fun ty=>Vc w s pos ty hp
   have hz:(pl s pos).length=0:=by rw [D7 s pos (by omega)];rfl
   have HC:Hid (k=(P s).length):=by show _=_;omega
   clear hc hz
   go_wp2
   go_ret
   exact ⟨Ih (by rw [HC.out]),_,rfl⟩
theorem BP (s:ByteArray) (w:World) (hs:s.size<=maxLen) (h0:0<s.size) :
  Ra 95 #[.string s] w fun e w'=>e=.returned (.tuple #[.int .i32 (dp s 0),.int .i64 (dw s 0)])/\Below w.heap.size w w':=by
 unfold maxLen at hs;have hw:=aV s 0 h0
 go_enter Tryz.func95,Tryz.ntmps95
 go_wp2
 go_loopw [4] (fun p w'=>w'=w.iter s 0\/(p=.int .i32 (dp s 0)/\w'=w.iter s (dw s 0))) (fun _ w'=>s.size-w'.iterPos w.heap.size)
 case atStart=>exact .inl rfl
 case round=>
  rcases hrel with rfl|⟨rfl,rfl⟩
  ·have hnx:∀ty,(Instr.next (.pointer (some ⟨w.heap.size,0,none⟩)) true ty).run Tryz.prog (w.iter s 0)=_:=fun ty=>UH w s 0 ty h0
   unfold dw at hw
   go_wp2
   go_roundw
   case rel=>exact .inr ⟨rfl,by simp [dw]⟩
   case measure=>simp;omega
  ·by_cases hp:dw s 0<s.size
   ·have hnx:∀ty,(Instr.next (.pointer (some ⟨w.heap.size,0,none⟩)) true ty).run Tryz.prog (w.iter s (dw s 0))=_:=fun ty=>UH w s (dw s 0) ty hp
    go_wp2
    go_ret2
    exact ⟨rfl,dQ _ _ _⟩
   ·have hnx:∀ty,(Instr.next (.pointer (some ⟨w.heap.size,0,none⟩)) true ty).run Tryz.prog (w.iter s (dw s 0))=_:=fun ty=>Vc w s (dw s 0) ty hp
    have HE:Hid (s.size=dw s 0):=by show _=_;omega
    go_wp2
    go_ret2
    exact ⟨by rw [HE.out];rfl,dQ _ _ _⟩
theorem ES (p n:Int) (w:World) :
  Ra 96 #[.int .i32 p,.int .i64 n] w fun e w'=>e=.returned (.bool (Ju p n))/\w'=w:=by
 by_cases hp:p=65533
 ·have e:Ju p n=decide (1<n):=by simp [Ju,hp]
  have h1:(p != 65533)=false:=by simp [hp]
  rw [e];clear e hp
  go_enter Tryz.func96,Tryz.ntmps96
  go_wp2
  go_ret
  exact ⟨rfl,rfl⟩
 ·have e:Ju p n=true:=by simp [Ju,hp]
  have h1:(p != 65533)=true:=by simp [hp]
  rw [e];clear e hp
  go_enter Tryz.func96,Tryz.ntmps96
  go_wp2
  go_ret
  exact ⟨rfl,rfl⟩
theorem zm (s:ByteArray) (a:Int) (w:World) (hs:s.size<=maxLen) (h0:0<=a) (h1:a<s.size) :
  Ra 49 #[.string s,.int .i64 a] w fun e w'=>e=.returned (.tuple #[.int .i64 (dp s a.toNat),.int .i64 (dw s a.toNat),.bool (gd s a.toNat)])/\Below w.heap.size w w':=by
 obtain ⟨n,rfl⟩:=Int.eq_ofNat_of_zero_le h0;rw [Tu];have hz:(s.extract n s.size).size=s.size-n:=az s n _ (gt _);have Hp:Hid (dp (s.extract n s.size) 0=dp s n):=by show _=_;unfold dp;rw [gx s n 0 (by omega)];rfl
 have Hw:Hid (dw (s.extract n s.size) 0=dw s n):=by show _=_;unfold dw;rw [gx s n 0 (by omega)];rfl
 unfold maxLen at hs
 go_enter Tryz.func49,Tryz.ntmps49
 go_wp2_with fail
 refine (BP _ _ (by unfold maxLen;omega) (by omega)).mono ?_;rintro e w1 ⟨rfl,hb1⟩;rw [Hp.out,Hw.out]
 go_wp2_with fail
 refine (ES _ _ _).mono ?_;rintro e w2 ⟨rfl,rfl⟩
 go_wp2_with fail
 go_ret3
 exact ⟨by show Ending.returned (.tuple #[.int .i64 (wrap64 (dp s n)),_,_])=_;rw [w64 _ (vT s n)];rfl,hb1⟩
theorem uV (s:ByteArray) (a:Int) (w:World) (hs:s.size<=maxLen) (h1:a<0\/s.size<=a) :
  Ra 49 #[.string s,.int .i64 a] w fun e w'=>e=.returned (.tuple #[.int .i64 0,.int .i64 0,.bool false])/\Below w.heap.size w w':=by
 unfold maxLen at hs
 rcases h1 with h1|h1
 ·go_enter Tryz.func49,Tryz.ntmps49
  go_wp2_with fail
  go_ret3
  exact ⟨rfl,hH _ _⟩
 ·have h2:¬a<0:=by omega
  go_enter Tryz.func49,Tryz.ntmps49
  go_wp2_with fail
  go_ret3
  exact ⟨rfl,hH _ _⟩
theorem Tryz.info3:(Tryz.prog.info? 3).map (fun i=>(i.zero,i.size,i.bytes))=some (some (.int .i64 0),1,8):=by kernel_rfl
end Go.Proofs.YtjiepkenkcgkhaaGreatDoor.Lx
namespace Go.Proofs.YtjiepkenkcgkhaaGreatDoor.Lx
def ay (s:ByteArray) (i:Nat):Nat:=(s.get! i).toNat
def ob (s:ByteArray) (i:Nat):Option Nat:=if i<s.size then some (ay s i) else none
def ct (c:Option Nat):Bool:=match c with|some b=>b / 64 == 2|none=>false
def vv (c:Option Nat):Nat:=c.getD 0 % 64
def D (b0:Nat) (c1 c2 c3:Option Nat):Nat × Nat:=
 if b0<128 then (b0,1)
 else if b0 / 32 == 6 && ct c1 then (if b0 % 32*64+vv c1>=128 then (b0 % 32*64+vv c1,2) else (65533,1))
 else if b0 / 16 == 14 && ct c1 && ct c2 then
  (if b0 % 16*4096+vv c1*64+vv c2>=2048 && Utf8.valid (b0 % 16*4096+vv c1*64+vv c2:Nat) then (b0 % 16*4096+vv c1*64+vv c2,3) else (65533,1))
 else if b0 / 8 == 30 && ct c1 && ct c2 && ct c3 then
  (if b0 % 8*262144+vv c1*4096+vv c2*64+vv c3>=65536 && Utf8.valid (b0 % 8*262144+vv c1*4096+vv c2*64+vv c3:Nat) then (b0 % 8*262144+vv c1*4096+vv c2*64+vv c3,4) else (65533,1))
 else (65533,1)
theorem Ol (s:ByteArray) (i:Nat):(decide (i<s.size) && (s.get! i).toNat / 64 == 2)=ct (ob s i):=by
 unfold ob ct ay
 by_cases h:i<s.size <;> simp [h]
theorem Oj (s:ByteArray) (i:Nat):vv (ob s i)=(s.get! i).toNat % 64:=by
 unfold ob vv ay
 by_cases h:i<s.size
 ·simp [h]
 ·simp [h,Gl s i (by omega)]
theorem bX (s:ByteArray) (i:Nat):Utf8.decode s i=D (ay s i) (ob s (i+1)) (ob s (i+2)) (ob s (i+3)):=by
 unfold Utf8.decode D;simp only [R7,Ol,Oj,ay,Utf8.runeError]
def gD (x:Nat × Nat):Prop:=x.1≠65533\/1<x.2
theorem Ek:¬gD (65533,1):=by unfold gD;simp
theorem tS (b0:Nat) (c1 c2 c3:Option Nat) :
  (D b0 c1 c2 c3=(65533,1))\/(b0<128/\D b0 c1 c2 c3=(b0,1)) \/
  (b0 / 32=6/\ct c1=true/\(D b0 c1 c2 c3).2=2/\∀d2 d3,D b0 c1 d2 d3=D b0 c1 c2 c3) \/
  (b0 / 16=14/\ct c1=true/\ct c2=true/\(D b0 c1 c2 c3).2=3/\∀d3,D b0 c1 c2 d3=D b0 c1 c2 c3) \/
  (b0 / 8=30/\ct c1=true/\ct c2=true/\ct c3=true/\(D b0 c1 c2 c3).2=4):=by
 by_cases h1:b0<128
 ·exact .inr (.inl ⟨h1,by unfold D;rw [IO h1]⟩)
 ·have e:∀x1 x2 x3,D b0 x1 x2 x3=_:=fun x1 x2 x3=>by unfold D;rw [Eq h1]
  by_cases h2:(b0 / 32 == 6 && ct c1)=true
  ·grind
  ·by_cases h4:(b0 / 16 == 14 && ct c1 && ct c2)=true
   ·grind
   ·by_cases h6:(b0 / 8 == 30 && ct c1 && ct c2 && ct c3)=true
    ·grind
    ·exact .inl (by rw [e,Eq h2,Eq h4,Eq h6])
theorem rB (b0:Nat) (c1 c2 c3:Option Nat) (h:¬gD (D b0 c1 c2 c3)):D b0 c1 c2 c3=(65533,1):=by
 unfold gD at h
 rcases tS b0 c1 c2 c3 with h1|⟨h1,h2⟩|⟨_,_,h2,_⟩|⟨_,_,_,h2,_⟩|⟨_,_,_,_,h2⟩
 ·exact h1
 ·rw [h2] at h;simp at h;omega
 ·rw [h2] at h;simp at h
 ·rw [h2] at h;simp at h
 ·rw [h2] at h;simp at h
theorem jw {c c':Option Nat}(h:c'=c\/c'=none) (hc:ct c'=true):c'=c:=by
 rcases h with h|h
 ·exact h
 ·rw [h] at hc;cases hc
theorem Nx (b0:Nat) {c1 c2 c3 c1' c2' c3':Option Nat}(h1:c1'=c1\/c1'=none) (h2:c2'=c2\/c2'=none) (h3:c3'=c3\/c3'=none) (hg:gD (D b0 c1' c2' c3')):D b0 c1 c2 c3=D b0 c1' c2' c3':=by
 rcases tS b0 c1' c2' c3' with e|⟨e1,e2⟩|⟨_,e1,_,e2⟩|⟨_,e1,e2,_,e3⟩|⟨_,e1,e2,e3,_⟩
 ·rw [e] at hg;exact absurd hg Ek
 ·rw [e2];unfold D;rw [IO e1]
 ·obtain rfl:=jw h1 e1;exact e2 _ _
 ·obtain rfl:=jw h1 e1;obtain rfl:=jw h2 e2;exact e3 _
 ·obtain rfl:=jw h1 e1;obtain rfl:=jw h2 e2;obtain rfl:=jw h3 e3;rfl
theorem Nw (b0:Nat) {c1 c2 c3 c1' c2' c3':Option Nat}(h1:c1'=c1\/c1'=none) (h2:c2'=c2\/c2'=none) (h3:c3'=c3\/c3'=none)
  (k1:1<(D b0 c1 c2 c3).2->c1'=c1) (k2:2<(D b0 c1 c2 c3).2->c2'=c2) (k3:3<(D b0 c1 c2 c3).2->c3'=c3):D b0 c1' c2' c3'=D b0 c1 c2 c3:=by
 rcases tS b0 c1 c2 c3 with e|⟨e1,e2⟩|⟨_,e1,e0,e2⟩|⟨_,e1,e2,e0,e3⟩|⟨_,e1,e2,e3,e0⟩
 ·rw [e];refine rB _ _ _ _ (fun hg=>?_);rw [<-Nx b0 h1 h2 h3 hg,e] at hg;exact Ek hg
 ·rw [e2];unfold D;rw [IO e1]
 ·obtain rfl:=k1 (by omega);exact e2 _ _
 ·grind
 ·grind
theorem MG (s:ByteArray) (i:Nat):gd s i=true↔gD (Utf8.decode s i):=by
 unfold gd Ju gD dp dw;simp;omega
theorem MF (s:ByteArray) (i:Nat) (h:gd s i=false):Utf8.decode s i=(65533,1):=by
 rw [bX]
 apply rB
 rw [<-bX,<-MG,h];simp
theorem J0 {c:Option Nat}(h:ct c=true):∃b,c=some b/\b / 64=2:=by
 cases c with
 |none=>cases h
 |some b=>exact ⟨b,rfl,by simpa [ct] using h⟩
theorem IP {s:ByteArray}{i b:Nat}(h:ob s i=some b):i<s.size/\ay s i=b:=by
 unfold ob at h
 split at h
 ·exact ⟨‹_›,by simpa using h⟩
 ·cases h
theorem jv (s:ByteArray) (i k:Nat) (h1:1<=k) (h2:k<dw s i):i+k<s.size/\ay s (i+k) / 64=2:=by
 have hh:∀j,ct (ob s j)=true->j<s.size/\ay s j / 64=2:=by
  intro j hj;obtain ⟨b,hb,hb2⟩:=J0 hj;obtain ⟨g1,g2⟩:=IP hb;exact ⟨g1,by rw [g2];exact hb2⟩
 unfold dw at h2;rw [bX] at h2
 rcases tS (ay s i) (ob s (i+1)) (ob s (i+2)) (ob s (i+3)) with e|⟨_,e⟩|⟨_,e1,e0,_⟩|⟨_,e1,e2,e0,_⟩|⟨_,e1,e2,e3,e0⟩
 ·rw [e] at h2;simp at h2;omega
 ·rw [e] at h2;simp at h2;omega
 ·grind
 ·grind
 ·grind
theorem kS (s:ByteArray) (a i:Nat) (h:i<a):ay (s.extract 0 a) i=ay s i:=by
 unfold ay;rw [jq,IO (by omega),QU]
theorem ss (s:ByteArray) (a i:Nat) (ha:a<=s.size):ob (s.extract 0 a) i=if i<a then ob s i else none:=by
 unfold ob;rw [az s 0 a ha]
 by_cases h:i<a
 ·rw [IO (by omega),IO h,IO (by omega),kS s a i h]
 ·rw [Eq (by omega),Eq h]
theorem vX (s:ByteArray) (a i:Nat) (ha:a<=s.size) (hi:i<a) (hd:i+dw s i<=a):Utf8.decode (s.extract 0 a) i=Utf8.decode s i:=by
 unfold dw at hd;rw [bX] at hd;rw [bX,bX,kS s a i hi,ss s a _ ha,ss s a _ ha,ss s a _ ha];refine Nw _ ?_ ?_ ?_ (fun h=>IO (by omega)) (fun h=>IO (by omega)) (fun h=>IO (by omega))
 all_goals split <;> simp
def st (s:ByteArray):Nat->Nat
 |0=>0
 |n+1=>if st s n<s.size then st s n+dw s (st s n) else st s n
theorem oz (s:ByteArray):∀n,st s n<=s.size
 |0=>QK _
 |n+1=>by
  unfold st
  split
  ·exact (aV s _ ‹_›).2.2
  ·exact oz s n
theorem yV (s:ByteArray):∀n,pl s (st s n)=(P s).drop n
 |0=>rfl
 |n+1=>by
  have ih:=yV s n;unfold st
  split
  ·rename_i h
   rw [yW s _ h] at ih;rw [<-List.drop_drop,<-ih];rfl
  ·rename_i h
   rw [ih];rw [D7 s _ (by omega)] at ih;rw [<-ih,<-List.drop_drop,<-ih];rfl
theorem gj (s:ByteArray) (k:Nat):st s k<s.size↔k<(P s).length:=by
 have h:=yV s k;constructor
 ·intro hk;rw [yW s _ hk] at h;have:=Q0 List.length h;simp at this;omega
 ·intro hk
  apply Rv
  intro hn;rw [D7 s _ (by omega)] at h;have:=Q0 List.length h;simp at this;omega
theorem Qw (s:ByteArray) (k:Nat) (h:k<(P s).length):(P s)[k]?=some (st s k):=by
 have h1:=yV s k;rw [yW s _ ((gj s k).2 h)] at h1;have:=Q0 (fun l:List Nat=>l[0]?) h1;simp at this;exact this.symm
theorem oA (s:ByteArray) (k:Nat) (h:(P s).length<=k):st s k=s.size:=by
 have h1:=oz s k;have h2:=gj s k;omega
theorem eO (s:ByteArray) (k:Nat) (h:k<(P s).length):st s (k+1)=st s k+dw s (st s k):=by
 show (if st s k<s.size then st s k+dw s (st s k) else st s k)=_
 rw [IO ((gj s k).2 h)]
theorem ke (s:ByteArray) (j:Nat):∀n,j<st s n->∃m,m<n/\m<(P s).length/\st s m<=j/\j<st s m+dw s (st s m)/\st s m+dw s (st s m)<=st s n
 |0,h=>by simp [st] at h
 |n+1,h=>by
  by_cases hn:st s n<s.size
  ·have e:=eO s n ((gj s n).1 hn)
   by_cases hj:j<st s n
   ·obtain ⟨m,h1,h2,h3,h4,h5⟩:=ke s j n hj;exact ⟨m,by omega,h2,h3,h4,by omega⟩
   ·exact ⟨n,by omega,(gj s n).1 hn,by omega,by omega,by omega⟩
  ·have e:st s (n+1)=st s n:=by
    show (if st s n<s.size then st s n+dw s (st s n) else st s n)=_
    rw [Eq hn]
   rw [e] at h;obtain ⟨m,h1,h2,h3,h4,h5⟩:=ke s j n h;exact ⟨m,by omega,h2,h3,h4,by omega⟩
theorem zC (a b:ByteArray) (i:Nat):(a++b).get! i=if i<a.size then a.get! i else b.get! (i-a.size):=by
 have e:∀(x:ByteArray) (k:Nat),x.get! k=x.data.toList[k]?.getD default:=by
  intro x k;show x.data[k]! = _;rw [T3,SL,Tn]
 have hz:a.data.toList.length=a.size:=by simp
 rw [e,e,e,ByteArray.data_append,Array.toList_append]
 by_cases h:i<a.size
 ·rw [IO h,List.getElem?_append_left (by omega)]
 ·rw [Eq h,Ty (by omega),hz]
theorem br (a b:ByteArray):(a++b).size=a.size+b.size:=by simp [ByteArray.size_append]
theorem oX (a b:ByteArray) (i:Nat):ob (a++b) i=if i<a.size then ob a i else ob b (i-a.size):=by
 unfold ob ay;rw [br,zC]
 by_cases h:i<a.size
 ·rw [IO h,IO (by omega),IO h,IO h]
 ·grind
theorem bN (a b:ByteArray) (i:Nat):ay (a++b) i=if i<a.size then ay a i else ay b (i-a.size):=by
 unfold ay;rw [zC]
 split <;> rfl
theorem xR (a b:ByteArray) (i:Nat):Utf8.decode (a++b) (a.size+i)=Utf8.decode b i:=by
 rw [bX,bX,bN,oX,oX,oX,Eq (by omega),Eq (by omega),Eq (by omega),Eq (by omega)];rw [show a.size+i-a.size=i by omega,show a.size+i+1-a.size=i+1 by omega,show a.size+i+2-a.size=i+2 by omega,show a.size+i+3-a.size=i+3 by omega]
theorem my (a:ByteArray):a.extract 0 a.size=a:=by
 apply U2
 rw [ByteArray.data_extract];exact Array.extract_size
theorem Gi (a b:ByteArray) (hz:a.size=b.size) (h:∀i,i<a.size->a.get! i=b.get! i):a=b:=by
 apply U2
 apply Array.ext
 ·exact hz
 ·intro i h1 h2;have:=h i h1
  have e:∀(x:ByteArray) (hx:i<x.data.size),x.get! i=x.data[i]:=by
   intro x hx;show x.data[i]! = _;exact Ue x.data i hx
  rw [e a h1,e b h2] at this;exact this
theorem eX (a b:ByteArray) (hz:a.size=b.size) (h:∀i,i<a.size->ay a i=ay b i):a=b:=
 Gi a b hz (fun i hi=>Uw.1 (h i hi))
theorem aR (s:ByteArray) (a b i:Nat) (h:a+i<b):ay (s.extract a b) i=ay s (a+i):=by
 unfold ay;rw [jq,IO h]
end Go.Proofs.YtjiepkenkcgkhaaGreatDoor.Lx
namespace Go.Proofs.YtjiepkenkcgkhaaGreatDoor.Lx
open Go.RowKit
variable {p:Int}
theorem Ns (s:ByteArray) (k:Nat) (h:k<(P s).length):(P s).take (k+1)=(P s).take k++[st s k]:=by
 have h1:=Qw s k h;rw [List.take_succ_eq_append_getElem h];have:=(QT.1 h1).2;rw [this]
def Ix (s:ByteArray):List Nat:=(P s).map (dp s)
theorem yR (s:ByteArray):(Ix s).length=(P s).length:=by unfold Ix;simp
theorem DV (s:ByteArray) (k:Nat) (h:k<(P s).length):(Ix s).take (k+1)=(Ix s).take k++[dp s (st s k)]:=by
 unfold Ix;rw [<-List.map_take,Ns s k h,Su,List.map_take];rfl
def CA (p:Int):Prop:=(65<=p/\p<=90)\/(97<=p/\p<=122)\/(192<=p/\p<=214)\/(216<=p/\p<=246)\/(248<=p/\p<=591)\/(913<=p/\p<=929)\/(931<=p/\p<=974)\/(1024<=p/\p<=1119)\/(1488<=p/\p<=1514)\/(1568<=p/\p<=1610)\/(2308<=p/\p<=2361)\/(12353<=p/\p<=12438)\/(12449<=p/\p<=12538)\/(19968<=p/\p<=40959)\/(44032<=p/\p<=55203)\/(66560<=p/\p<=66639)\/(131072<=p/\p<=196607)
def GK (p:Int):Prop:=(48<=p/\p<=57)\/(95<=p/\p<=95)\/(768<=p/\p<=879)
instance (p:Int):Decidable (CA p):=by unfold CA;infer_instance
instance (p:Int):Decidable (GK p):=by unfold GK;infer_instance
def us (p:Int):Int:=if CA p then 2 else if GK p then 1 else 0
def fC (p:Int):Bool:=decide (CA p)
def jC (p:Int):Bool:=fC p || decide (GK p)
theorem Lu (h:CA p):us p=2:=by unfold us;rw [IO h]
theorem Lv (h:GK p):us p=1:=by
 unfold us;rw [Eq (by unfold GK at h;unfold CA;omega),IO h]
theorem NU (h:¬CA p) (h2:¬GK p):us p=0:=by unfold us;rw [Eq h,Eq h2]
theorem NV (p:Int):(us p == 2)=fC p:=by
 unfold us fC
 by_cases h:CA p
 ·rw [IO h,QW h];rfl
 ·rw [Eq h,QX h];split <;> rfl
theorem NT (p:Int):(us p != 0)=jC p:=by
 unfold us jC fC
 by_cases h:CA p
 ·rw [IO h,QW h];rfl
 ·rw [Eq h,QX h]
  by_cases h2:GK p
  ·rw [IO h2,QW h2];rfl
  ·rw [Eq h2,QX h2];rfl
theorem FH (i:Nat) (p:Int) (hi:i<20) (h0:Aa i<=p) (h1:p<=Ci i):NJ i=us p:=by
 rcases i with _|_|_|_|_|_|_|_|_|_|_|_|_|_|_|_|_|_|_|_|i
 all_goals simp [Aa,Ci,NJ,gQ,List.getD] at h0 h1 ⊢
 all_goals first|exact (Lu (by unfold CA;omega)).symm|exact (Lv (by unfold GK;omega)).symm|omega
theorem FI (p:Int) (h:∀k,k<20->p<Aa k\/Ci k<p):us p=0:=by
 have a0:=h 0 (by omega);have a1:=h 1 (by omega);have a2:=h 2 (by omega);have a3:=h 3 (by omega);have a4:=h 4 (by omega);have a5:=h 5 (by omega);have a6:=h 6 (by omega);have a7:=h 7 (by omega);have a8:=h 8 (by omega);have a9:=h 9 (by omega);have a10:=h 10 (by omega);have a11:=h 11 (by omega);have a12:=h 12 (by omega);have a13:=h 13 (by omega);have a14:=h 14 (by omega);have a15:=h 15 (by omega);have a16:=h 16 (by omega);have a17:=h 17 (by omega);have a18:=h 18 (by omega);have a19:=h 19 (by omega);simp only [Aa,Ci,gQ,List.getD,List.getElem?_cons_zero,RZ,Um] at a0 a1 a2 a3 a4 a5 a6 a7 a8 a9 a10 a11 a12 a13 a14 a15 a16 a17 a18 a19;refine NU ?_ ?_
 ·unfold CA;omega
 ·unfold GK;omega
theorem JZ (i k:Nat) (hk:k<20) (h:i<=k):Aa i<=Aa k:=by
 have:∀k,k<20->∀i,i<20->i<=k->Aa i<=Aa k:=by decide +kernel
 exact this k hk i (by omega) h
theorem ro (i:Nat) (p:Int) (h:∀k,k<i->Ci k<p) (h2:i<20->p<Aa i):us p=0:=by
 refine FI p fun k hk=>?_
 by_cases hki:k<i
 ·exact .inr (h k hki)
 ·have:=h2 (by omega);have:=JZ i k hk (by omega);omega
theorem pf {a b:Int}(h:a=b):Ending.returned (.int .i64 a)=.returned (.int .i64 b):=by rw [h]
theorem iE {a b:Bool}(h:a=b):Ending.returned (.bool a)=.returned (.bool b):=by rw [h]
theorem yn (p:Int) (w:World) (hT:wG w) :
  Ra 99 #[.int .i64 p] w fun e w'=>e=.returned (.int .i64 (us p))/\w'=w:=by
 go_enter Tryz.func99,Tryz.ntmps99
 go_wp2_with fail
 go_loopw [4] (fun i wr=>wr=w/\∃k:Nat,k<=20/\i=.int .i64 k/\∀j,j<k->Ci j<p) (fun i _=>20-(intOf i).toNat)
 case atStart=>exact ⟨rfl,0,by omega,rfl,fun j hj=>by omega⟩
 case round=>
  obtain ⟨rfl,k,hk,rfl,hall⟩:=hrel
  by_cases h16:k<20
  ·obtain ⟨c0,c1,c2⟩:=hT k h16;have HA:Hid (∀j,j<k->Ci j<p):=hall;have HH:Hid (Aa k<=p->p<=Ci k->NJ k=us p):=FH k p h16;have HM:Hid (p<Aa k->us p=0):=fun h=>ro k p hall (fun _=>h)
   have HN:Hid (Ci k<p->∀j,j<k+1->Ci j<p):=fun h j hj=>by
    by_cases e:j=k
    ·subst e;exact h
    ·exact hall j (by omega)
   clear hall hT
   generalize Aa k=l at *
   generalize NJ k=c at *
   generalize Ci k=u at *
   by_cases h1:p<l
   ·go_wp2_with fail
    go_ret
    exact ⟨pf (HM.out h1).symm,rfl⟩
   ·by_cases h2:p<=u
    ·go_wp2_with fail
     go_ret
     exact ⟨pf (HH.out (by omega) h2),rfl⟩
    ·go_wp2_with fail
     exact ⟨⟨trivial,k+1,by omega,by go_num,HN.out (by omega)⟩,by simp [intOf];omega⟩
  ·have HM:Hid (us p=0):=ro k p hall (fun h=>absurd h h16);clear hall hT
   go_wp2_with fail
   go_ret
   exact ⟨pf HM.out.symm,rfl⟩
theorem df (p:Int) (w:World) (hT:wG w) :
  Ra 53 #[.int .i64 p] w fun e w'=>e=.returned (.bool (fC p))/\w'=w:=by
 go_enter Tryz.func53,Tryz.ntmps53
 go_wp2_with fail
 refine (yn p w hT).mono ?_;rintro e w' ⟨rfl,rfl⟩;have HU:Hid ((us p == 2)=fC p):=NV p
 generalize us p=u at *
 go_wp2_with fail
 go_ret
 exact ⟨iE HU.out,rfl⟩
theorem D8 (p:Int) (w:World) (hT:wG w) :
  Ra 100 #[.int .i64 p] w fun e w'=>e=.returned (.bool (jC p))/\w'=w:=by
 go_enter Tryz.func100,Tryz.ntmps100
 go_wp2_with fail
 refine (yn p w hT).mono ?_;rintro e w' ⟨rfl,rfl⟩;have HU:Hid ((us p != 0)=jC p):=NT p
 generalize us p=u at *
 go_wp2_with fail
 go_ret
 exact ⟨iE HU.out,rfl⟩
end Go.Proofs.YtjiepkenkcgkhaaGreatDoor.Lx
namespace Go.Proofs.YtjiepkenkcgkhaaGreatDoor.Lx
open Go.RowKit Go.Deep
variable {s x:ByteArray}
theorem dL {b:Nat}{w v:World}(h:Below b w v):∀m,Below b w (v.drewN m)
 |0=>h
 |m+1=>(dL h m).drew
def ky (s:ByteArray):Bool:=dA.any fun x=>decide (s=x)
theorem Jk (s:ByteArray) (h:∀j,j<24->s≠dA.getD j ByteArray.empty):ky s=false:=by
 unfold ky;rw [T6];intro x hm hx;obtain ⟨j,hj,e⟩:=List.mem_iff_getElem.1 hm;have hj':j<24:=hj
 apply h j hj'
 rw [List.getD,Pi hj];exact (Rm hx).trans e.symm
theorem My (s:ByteArray) (j:Nat) (hj:j<24) (h:s=dA.getD j ByteArray.empty):ky s=true:=by
 unfold ky;rw [Sj];refine ⟨dA[j]'hj,List.getElem_mem _,QW ?_⟩;rw [h,List.getD,Pi (show j<dA.length from hj)];rfl
theorem yu (h:s=x):(s.toList == x.toList)=true:=by subst h;simp
theorem ka (s:ByteArray):s.toList=s.data.toList:=Tc s
theorem uc (h:s≠x):(s.toList == x.toList)=false:=by
 rw [Q7,ka,ka];intro e
 apply h
 have:=SQ.1 e;cases s;cases x;simp_all
theorem BE (s:ByteArray) (w:World) (hT:Cu w) :
  Ra 148 #[.string s] w fun e w'=>e=.returned (.bool (ky s))/\w'=w:=by
 go_enter Tryz.func148,Tryz.ntmps148
 go_wp2_with fail
 go_loopw [4] (fun i wr=>wr=w/\∃k:Nat,k<=24/\i=.int .i64 k/\∀j,j<k->s≠dA.getD j ByteArray.empty) (fun i _=>24-(intOf i).toNat)
 case atStart=>exact ⟨rfl,0,by omega,rfl,fun j hj=>by omega⟩
 case round=>
  obtain ⟨rfl,k,hk,rfl,hall⟩:=hrel
  by_cases h24:k<24
  ·have c0:=hT k h24;have HH:Hid (s=dA.getD k ByteArray.empty->ky s=true):=My s k h24
   have HN:Hid (s≠dA.getD k ByteArray.empty->∀j,j<k+1->s≠dA.getD j ByteArray.empty):=fun h j hj=>by
    by_cases e:j=k
    ·subst e;exact h
    ·exact hall j (by omega)
   clear hall hT
   generalize dA.getD k ByteArray.empty=x at *
   by_cases e:s=x
   ·have e1:=yu e;have HE:Hid (s=x):=e;clear e
    go_wp2_with fail
    go_ret
    exact ⟨iE (HH.out HE.out).symm,rfl⟩
   ·have e1:=uc e;have HE:Hid (s≠x):=e;clear e
    go_wp2_with fail
    exact ⟨⟨trivial,k+1,by omega,by go_num,HN.out HE.out⟩,by simp [intOf];omega⟩
  ·have HM:Hid (ky s=false):=Jk s (fun j hj=>hall j (by omega));clear hall hT
   go_wp2_with fail
   go_ret
   exact ⟨iE HM.out.symm,rfl⟩
def pre (s:ByteArray) (a:Nat) (t:ByteArray):Bool:=decide (a+t.size<=s.size/\s.extract a (a+t.size)=t)
def sg (s:ByteArray) (a:Nat):ByteArray:=(bh.find? (pre s a)).getD ByteArray.empty
theorem vJ (f:ByteArray->Bool):∀(l:List ByteArray) (k:Nat),k<l.length->(∀j,j<k->f (l.getD j ByteArray.empty)=false)->f (l.getD k ByteArray.empty)=true->l.find? f=some (l.getD k ByteArray.empty)
 |[],k,h,_,_=>by simp at h
 |x :: r,0,_,_,h=>by
  have h':f x=true:=h;rw [List.find?_cons_of_pos h'];rfl
 |x :: r,k+1,hk,hj,h=>by
  have h0:f x=false:=hj 0 (by omega);rw [List.find?_cons_of_neg (by rw [h0];simp)];exact vJ f r k (by simpa using hk) (fun j hj'=>hj (j+1) (by omega)) h
theorem BR (f:ByteArray->Bool) (l:List ByteArray) (h:∀j,j<l.length->f (l.getD j ByteArray.empty)=false):l.find? f=none:=by
 rw [List.find?_eq_none];intro x hx;obtain ⟨j,hj,e⟩:=List.mem_iff_getElem.1 hx;have:=h j hj;rw [List.getD,Pi hj] at this;subst e
 simpa using this
theorem LM (s:ByteArray) (a k:Nat) (hk:k<21) (h:∀j,j<k->pre s a (bh.getD j ByteArray.empty)=false) (h1:pre s a (bh.getD k ByteArray.empty)=true):sg s a=bh.getD k ByteArray.empty:=by
 unfold sg;rw [vJ _ bh k hk h h1];rfl
theorem Hy (s:ByteArray) (a:Nat) (h:∀j,j<21->pre s a (bh.getD j ByteArray.empty)=false):sg s a=ByteArray.empty:=by
 unfold sg;rw [BR _ bh h];rfl
theorem Fb (s:ByteArray) (a n:Nat) (h:a+n<=s.size):(s.extract a s.size).extract 0 n=s.extract a (a+n):=by
 refine eX _ _ ?_ ?_
 ·rw [az _ 0 n (by rw [az s a _ (gt _)];omega),az s a _ h];omega
 ·intro i hi;rw [az _ 0 n (by rw [az s a _ (gt _)];omega)] at hi;rw [aR _ 0 n i (by omega),aR s a _ _ (by omega),aR s a _ _ (by omega),QU]
theorem Js (s t:ByteArray) (w:World) :
  Ra 106 #[.string s,.string t] w fun e w'=>e=.returned (.bool (pre s 0 t))/\w'=w:=by
 by_cases h1:t.size<=s.size
 ·have h1':decide ((s.size:Int)>=(t.size:Int))=true:=by simpa using h1
  have h2:(0:Int)<=(t.size:Int):=by omega
  have h3:(t.size:Int)<=(s.size:Int):=by omega
  by_cases h4:s.extract 0 t.size=t
  ·have e1:=yu h4
   have HB:Hid (pre s 0 t=true):=by
    unfold pre;exact QW ⟨by omega,by rw [QU];exact h4⟩
   clear h4
   go_enter Tryz.func106,Tryz.ntmps106
   go_wp2_with fail
   go_ret
   exact ⟨iE HB.out.symm,rfl⟩
  ·have e1:=uc h4
   have HB:Hid (pre s 0 t=false):=by
    unfold pre;refine QX fun h=>h4 ?_
    have:=h.2
    rwa [QU] at this
   clear h4
   go_enter Tryz.func106,Tryz.ntmps106
   go_wp2_with fail
   go_ret
   exact ⟨iE HB.out.symm,rfl⟩
 ·have h1':decide ((s.size:Int)>=(t.size:Int))=false:=by simp;omega
  have HB:Hid (pre s 0 t=false):=by
   unfold pre;exact QX fun h=>h1 (by have:=h.1;omega)
  go_enter Tryz.func106,Tryz.ntmps106
  go_wp2_with fail
  go_ret
  exact ⟨iE HB.out.symm,rfl⟩
theorem sI (s t:ByteArray) (w:World) :
  Ra 57 #[.string s,.string t] w fun e w'=>e=.returned (.bool (pre s 0 t))/\w'=w:=by
 go_enter Tryz.func57,Tryz.ntmps57
 go_wp2_with fail
 refine (Js s t w).mono ?_;rintro e w' ⟨rfl,rfl⟩
 generalize hb:pre s 0 t=b
 have HB:Hid (pre s 0 t=b):=hb;clear hb
 go_wp2_with fail
 go_ret
 exact ⟨iE HB.out.symm,rfl⟩
theorem kw (s t:ByteArray) (a:Nat) (ha:a<=s.size):pre (s.extract a s.size) 0 t=pre s a t:=by
 unfold pre;rw [az s a _ (gt _)]
 by_cases h:a+t.size<=s.size
 ·rw [QU,Fb s a t.size h];exact Sz.2 ⟨fun ⟨_,h2⟩=>⟨h,h2⟩,fun ⟨_,h2⟩=>⟨by omega,h2⟩⟩
 ·rw [QX (fun h2=>h (by have:=h2.1;omega)),QX (fun h2=>h h2.1)]
theorem yG (s:ByteArray) (a:Nat) (w:World) (hT:Cv w) (ha:a<s.size) :
  Ra 107 #[.string s,.int .i64 a] w fun e w'=>e=.returned (.string (sg s a))/\Below w.heap.size w w':=by
 have h1:decide ((a:Int)<0)=false:=by simp
 have h2:decide ((a:Int)>=(s.size:Int))=false:=by simp;omega
 have h3:(0:Int)<=(a:Int):=by omega
 have h4:(a:Int)<=(s.size:Int):=by omega
 go_enter Tryz.func107,Tryz.ntmps107
 go_wp2_with fail
 go_loopw [14] (fun i wr=>∃k:Nat,k<=21/\i=.int .i64 k/\(∀j,j<k->pre s a (bh.getD j ByteArray.empty)=false)/\Below w.heap.size w wr) (fun i _=>21-(intOf i).toNat)
 case atStart=>exact ⟨0,by omega,rfl,fun j hj=>by omega,hH _ _⟩
 case round=>
  obtain ⟨k,hk,rfl,hall,hb⟩:=hrel
  by_cases h21:k<21
  ·have c0:=(hT.below hb) k h21;have i1:(0:Int)<=(k:Int):=by omega
   have i2:(k:Int)<21:=by omega
   have HH:Hid (pre s a (bh.getD k ByteArray.empty)=true->sg s a=bh.getD k ByteArray.empty):=LM s a k h21 hall
   have HN:Hid (pre s a (bh.getD k ByteArray.empty)=false->∀j,j<k+1->pre s a (bh.getD j ByteArray.empty)=false):=fun h j hj=>by
    by_cases e:j=k
    ·subst e;exact h
    ·exact hall j (by omega)
   clear hall hT
   generalize bh.getD k ByteArray.empty=x at *
   have HC:Hid (∀W,Ra 57 #[.string (s.extract a s.size),.string x] W fun e w'=>e=.returned (.bool (pre s a x))/\w'=W):=fun W=>by
    rw [<-kw s x a (by omega)];exact sI _ _ W
   cases hp:pre s a x
   ·rw [hp] at HC;have HP:Hid (pre s a x=false):=hp;clear hp HH
    go_wp2_with fail
    go_quiet ((go_at_call 57;exact Calls.quiet_of_same (HC.out _)))
    go_wp2_with fail
    exact ⟨⟨k+1,by omega,by go_num,HN.out HP.out,dL hb _⟩,by simp [intOf];omega⟩
   ·rw [hp] at HC;have HP:Hid (pre s a x=true):=hp;clear hp HN
    go_wp2_with fail
    go_quiet ((go_at_call 57;exact Calls.quiet_of_same (HC.out _)))
    go_wp2_with fail
    go_ret
    exact ⟨by rw [HH.out HP.out];rfl,dL hb _⟩
  ·have HM:Hid (sg s a=ByteArray.empty):=Hy s a (fun j hj=>hall j (by omega));clear hall hT
   go_wp2_with fail
   go_ret
   exact ⟨by rw [HM.out];rfl,hb⟩
end Go.Proofs.YtjiepkenkcgkhaaGreatDoor.Lx
namespace Go.Proofs.YtjiepkenkcgkhaaGreatDoor.Lx
open Go.RowKit
theorem uJ {p:Int}(h:fC p=true):jC p=true:=by unfold jC;rw [h];rfl
end Go.Proofs.YtjiepkenkcgkhaaGreatDoor.Lx
namespace Go.Proofs.YtjiepkenkcgkhaaGreatDoor.Lx
open Go.RowKit Go.Deep
variable {s t:ByteArray}{a:Nat}
theorem D0 (h:a+t.size<=s.size):pre s a t=decide (s.extract a (a+t.size)=t):=by
 unfold pre;exact Sz.2 ⟨fun h2=>h2.2,fun h2=>⟨h,h2⟩⟩
theorem yT (h:¬a+t.size<=s.size):pre s a t=false:=by
 unfold pre;exact QX fun h2=>h h2.1
end Go.Proofs.YtjiepkenkcgkhaaGreatDoor.Lx
namespace Go.Proofs.YtjiepkenkcgkhaaGreatDoor.Lx
open Go.RowKit
variable {s:ByteArray}{b:Nat}
def GJ (s:ByteArray):Nat->Nat->Nat
 |0,i=>i
 |f+1,i=>if ay s i=10 then i else GJ s f (i+1)
def nl (s:ByteArray) (i:Nat):Nat:=GJ s (s.size-i) i
theorem qU (s:ByteArray):∀f i,i<=GJ s f i/\GJ s f i<=i+f/\(∀j,i<=j->j<GJ s f i->ay s j≠10)/\(GJ s f i<i+f->ay s (GJ s f i)=10)
 |0,i=>by
  show i<=i/\i<=i+0/\_/\_
  exact ⟨gt _,gt _,fun j h1 h2=>by unfold GJ at h2;omega,fun h=>by unfold GJ at h;omega⟩
 |f+1,i=>by
  unfold GJ
  by_cases h:ay s i=10
  ·grind
  ·rw [Eq h];obtain ⟨h1,h2,h3,h4⟩:=qU s f (i+1);refine ⟨by omega,by omega,fun j h5 h6=>?_,fun h5=>h4 (by omega)⟩
   by_cases e:j=i
   ·rw [e];exact h
   ·exact h3 j (by omega) h6
theorem iz (s:ByteArray) (i:Nat) (h:i<=s.size):i<=nl s i/\nl s i<=s.size/\(∀j,i<=j->j<nl s i->ay s j≠10)/\(nl s i<s.size->ay s (nl s i)=10):=by
 obtain ⟨h1,h2,h3,h4⟩:=qU s (s.size-i) i;exact ⟨h1,by unfold nl;omega,h3,fun h5=>h4 (by unfold nl at h5;omega)⟩
theorem uU (s:ByteArray) (i j:Nat) (h:i<=j) (hj:j<=s.size) (hn:∀k,i<=k->k<j->ay s k≠10) (he:j=s.size\/ay s j=10):nl s i=j:=by
 obtain ⟨h1,h2,h3,h4⟩:=iz s i (by omega)
 rcases Nat.lt_trichotomy (nl s i) j with hl|hl|hl
 ·exact absurd (h4 (by omega)) (hn _ h1 hl)
 ·exact hl
 ·rcases he with he|he
  ·omega
  ·exact absurd he (h3 j h hl)
def cn (s:ByteArray):Nat->Nat
 |0=>0
 |i+1=>cn s i+(if ay s i=10 then 1 else 0)
def lf (s:ByteArray):Nat->Nat
 |0=>0
 |i+1=>if ay s i=10 then i+1 else lf s i
def bg (s:ByteArray):Nat->Nat
 |0=>0
 |k+1=>nl s (bg s k)+1
theorem g9 (s:ByteArray) (i:Nat):(ay s i=10/\cn s (i+1)=cn s i+1)\/(ay s i≠10/\cn s (i+1)=cn s i):=by
 show (_/\cn s i+_=_)\/(_/\cn s i+_=_)
 by_cases h:ay s i=10
 ·rw [IO h];exact .inl ⟨h,rfl⟩
 ·rw [Eq h];exact .inr ⟨h,rfl⟩
theorem zZ (s:ByteArray) (i:Nat):∀d,cn s i<=cn s (i+d)
 |0=>gt _
 |d+1=>by
  have h:=zZ s i d;have:=g9 s (i+d);rw [<-Sh];omega
theorem FU (s:ByteArray) {i j:Nat}(h:i<=j):cn s i<=cn s j:=by
 have:=zZ s i (j-i);rw [show i+(j-i)=j by omega] at this;exact this
theorem KU (s:ByteArray):∀i,cn s i<=i
 |0=>gt _
 |i+1=>by have:=KU s i;have:=g9 s i;omega
theorem wj (s:ByteArray) (i:Nat):∀d,(∀k,i<=k->k<i+d->ay s k≠10)->cn s (i+d)=cn s i
 |0,_=>rfl
 |d+1,h=>by
  have ih:=wj s i d (fun k h1 h2=>h k h1 (by omega))
  rcases g9 s (i+d) with ⟨h1,_⟩|⟨_,h2⟩
  ·exact absurd h1 (h _ (by omega) (by omega))
  ·rw [<-Sh];omega
theorem Cd (s:ByteArray) {i j:Nat}(h:i<=j) (hn:∀k,i<=k->k<j->ay s k≠10):cn s j=cn s i:=by
 have:=wj s i (j-i) (fun k h1 h2=>hn k h1 (by omega));rw [show i+(j-i)=j by omega] at this;exact this
theorem gI (s:ByteArray):∀i,lf s i<=i/\(∀j,lf s i<=j->j<i->ay s j≠10)/\(lf s i=0\/(1<=lf s i/\ay s (lf s i-1)=10))
 |0=>⟨gt _,fun j _ h=>by omega,.inl rfl⟩
 |i+1=>by
  unfold lf
  by_cases h:ay s i=10
  ·grind
  ·rw [Eq h];obtain ⟨h1,h2,h3⟩:=gI s i;refine ⟨by omega,fun j h4 h5=>?_,h3⟩
   by_cases e:j=i
   ·rw [e];exact h
   ·exact h2 j h4 (by omega)
theorem jj (s:ByteArray) (i:Nat):lf s (i+1)=if ay s i=10 then i+1 else lf s i:=rfl
theorem zr (s:ByteArray):∀i,cn s i=0->lf s i=0
 |0,_=>rfl
 |i+1,h=>by
  rcases g9 s i with ⟨_,h2⟩|⟨h1,h2⟩
  ·omega
  ·rw [jj,Eq h1];exact zr s i (by omega)
theorem KZ (s:ByteArray):∀i,i<=s.size->bg s (cn s i)=lf s i
 |0,_=>rfl
 |i+1,h=>by
  have ih:=KZ s i (by omega);rw [jj]
  rcases g9 s i with ⟨h1,h2⟩|⟨h1,h2⟩
  ·rw [h2,IO h1];show nl s (bg s (cn s i))+1=_;obtain ⟨f1,f2,_⟩:=gI s i;rw [ih,uU s (lf s i) i f1 (by omega) f2 (.inr h1)]
  ·rw [h2,Eq h1,ih]
theorem zl (s:ByteArray) (i:Nat) (hi:i<=s.size):(nl s i<s.size/\cn s i<cn s s.size/\cn s (nl s i+1)=cn s i+1/\cn s (nl s i)=cn s i)\/(nl s i=s.size/\cn s i=cn s s.size):=by
 obtain ⟨h1,h2,h3,h4⟩:=iz s i hi;have hc:=Cd s h1 h3
 by_cases h:nl s i<s.size
 ·have e:=h4 h
  rcases g9 s (nl s i) with ⟨_,h5⟩|⟨h5,_⟩
  ·have:=FU s (i:=nl s i+1) (j:=s.size) (by omega);exact .inl ⟨h,by omega,by omega,hc⟩
  ·exact absurd e h5
 ·grind
theorem pZ (s:ByteArray):∀k,k<=cn s s.size->bg s k<=s.size/\cn s (bg s k)=k
 |0,_=>⟨QK _,rfl⟩
 |k+1,h=>by
  obtain ⟨h1,h2⟩:=pZ s k (by omega);show nl s (bg s k)+1<=_/\cn s (nl s (bg s k)+1)=_
  rcases zl s (bg s k) h1 with ⟨a,b,c,_⟩|⟨a,b⟩
  ·exact ⟨by omega,by omega⟩
  ·omega
theorem KI (s:ByteArray) (k:Nat) (h:k<=cn s s.size):bg s k<=nl s (bg s k)/\nl s (bg s k)<=s.size/\(nl s (bg s k)<s.size↔k<cn s s.size):=by
 obtain ⟨h1,h2⟩:=pZ s k h;obtain ⟨h3,h4,_⟩:=iz s (bg s k) h1;refine ⟨h3,h4,?_⟩
 rcases zl s (bg s k) h1 with ⟨a,b,c,_⟩|⟨a,b⟩
 ·omega
 ·omega
def ln (s:ByteArray) (k:Nat):ByteArray:=s.extract (bg s k) (nl s (bg s k))
theorem Je (s:ByteArray) (k:Nat) (h:k<=cn s s.size):(ln s k).size<=s.size:=by
 have:=KI s k h;unfold ln;rw [az _ _ _ this.2.1];omega
theorem Kb (s:ByteArray):bg s (cn s s.size)=lf s s.size:=KZ s _ (gt _)
theorem Jf (s:ByteArray):ln s (cn s s.size)=s.extract (lf s s.size) s.size:=by
 unfold ln;rw [Kb];obtain ⟨f1,f2,_⟩:=gI s s.size;rw [uU s (lf s s.size) s.size f1 (gt _) f2 (.inl rfl)]
theorem Hq (s:ByteArray) (k:Nat):st s k<=st s (k+1):=by
 by_cases h:k<(P s).length
 ·have:=eO s k h;omega
 ·rw [oA s k (by omega),oA s (k+1) (by omega)];omega
theorem rL (s:ByteArray) (i j:Nat) (h:i<=j):st s i<=st s j:=by
 obtain ⟨d,rfl⟩:∃d,j=i+d:=⟨j-i,by omega⟩;clear h
 induction d with
 |zero=>exact gt _
 |succ d ih=>have:=Hq s (i+d);rw [<-Sh];omega
theorem lr (s:ByteArray) (i j:Nat) (h:i<j) (hj:j<=(P s).length):st s i<st s j:=by
 have e:=eO s i (by omega);have hw:=aV s (st s i) ((gj s i).2 (by omega));have:=rL s (i+1) j h;omega
def hd (s:ByteArray) (k:Nat):ByteArray:=s.extract 0 (st s k)
theorem nC (s:ByteArray) (k:Nat):(hd s k).size=st s k:=by
 unfold hd;rw [az s 0 _ (oz s k)];omega
theorem uk (s:ByteArray) (k:Nat) (hk:k<=(P s).length):∀j,j<=k->st (hd s k) j=st s j
 |0,_=>rfl
 |j+1,h=>by
  have ih:=uk s k hk j (by omega);have e:=eO s j (by omega);have hw:=aV s (st s j) ((gj s j).2 (by omega));have hm:=rL s (j+1) k h;have hd':Utf8.decode (hd s k) (st s j)=Utf8.decode s (st s j):=vX s (st s k) (st s j) (oz s k) (by omega) (by omega);have hl:j<(P (hd s k)).length:=(gj _ j).1 (by rw [ih,nC];omega);rw [eO _ j hl,ih,e];unfold dw;rw [hd']
theorem O3 (s:ByteArray) (k:Nat) (hk:k<=(P s).length):(P (hd s k)).length=k:=by
 have h1:¬k<(P (hd s k)).length:=by
  rw [<-gj,uk s k hk k (gt _),nC];omega
 by_cases h0:k=0
 ·omega
 ·have e:=eO s (k-1) (by omega);have hw:=aV s (st s (k-1)) ((gj s _).2 (by omega));rw [show k-1+1=k by omega] at e
  have h2:k-1<(P (hd s k)).length:=by
   rw [<-gj,uk s k hk _ (by omega),nC];omega
  omega
theorem uK (s:ByteArray) (a:Nat) (ha:a<=s.size):∀f i,uM s f (a+i)=(uM (s.extract a s.size) f i).map (fun k=>a+k)
 |0,_=>rfl
 |f+1,i=>by
  unfold uM;rw [az s a _ (gt _)]
  by_cases h:a+i<s.size
  ·rw [IO h,IO (by omega),Sg];have e:dw (s.extract a s.size) i=dw s (a+i):=by unfold dw;rw [gx s a i ha]
   rw [e,Sh,uK s a ha f (i+dw s (a+i))]
  ·rw [Eq h,Eq (by omega)];rfl
theorem Nt (s:ByteArray) (k:Nat) (hk:k<=(P s).length):(P (s.extract (st s k) s.size)).length=(P s).length-k:=by
 have h:=uK s (st s k) (oz s k) (s.size-st s k) 0
 have e:pl s (st s k)=(P (s.extract (st s k) s.size)).map (fun j=>st s k+j):=by
  unfold P pl;rw [az s _ _ (gt _)];exact h
 rw [yV] at e;have:=Q0 List.length e;simp at this;omega
theorem gw (s:ByteArray) (a b c d:Nat) (hb:b<=s.size) (hd:a+d<=b) (hc:c<=d):(s.extract a b).extract c d=s.extract (a+c) (a+d):=by
 have z1:=az s a b hb;have z2:=az (s.extract a b) c d (by omega);have z3:=az s (a+c) (a+d) (by omega);refine Gi _ _ (by omega) fun k hk=>?_
 rw [jq,IO (by omega),jq,IO (by omega),jq,IO (by omega),Sh]
theorem GD (s:ByteArray) (a b:Nat) (hab:a<=b) (hb:b<=(P s).length):(P (s.extract (st s a) (st s b))).length=b-a:=by
 have h1:=O3 s b hb;have h2:=uk s b hb a hab;have h3:=Nt (hd s b) a (by omega);rw [h1,h2,nC] at h3;have hm:=rL s a b hab
 have e:(hd s b).extract (st s a) (st s b)=s.extract (st s a) (st s b):=by
  unfold hd;rw [gw s 0 (st s b) _ _ (oz s b) (by omega) hm,QU,QU]
 rw [e] at h3;exact h3
def bd (s:ByteArray) (b:Nat):Prop:=∃k,k<=(P s).length/\st s k=b
theorem tI (s:ByteArray):bd s 0:=⟨0,QK _,rfl⟩
theorem Ah (s:ByteArray):bd s s.size:=⟨_,gt _,oA s _ (gt _)⟩
theorem Gd (h:bd s b):b<=s.size:=by obtain ⟨k,_,rfl⟩:=h;exact oz s k
theorem FR {a c:Nat}(ha:bd s a) (hb:bd s b) (hc:bd s c) (hab:a<=b) (hbc:b<=c) :
  (P (s.extract a b)).length+(P (s.extract b c)).length=(P (s.extract a c)).length:=by
 obtain ⟨i,hi,rfl⟩:=ha;obtain ⟨j,hj,rfl⟩:=hb;obtain ⟨k,hk,rfl⟩:=hc
 have h1:i<=j:=by
  apply Rv;intro h
  have:=lr s j i (by omega) hi;omega
 have h2:j<=k:=by
  apply Rv;intro h
  have:=lr s k j (by omega) hj;omega
 rw [GD s i j h1 hj,GD s j k h2 hk,GD s i k (by omega) hk];omega
theorem MU (s:ByteArray) (i:Nat) (h:ay s i=10):dw s i=1:=by
 unfold dw;rw [bX,h];rfl
theorem Bu (s:ByteArray) (j:Nat) (h:ay s j=10):j<s.size:=by
 apply Rv;intro hn
 have:ay s j=0:=Gl s j (by omega);omega
theorem Gc (s:ByteArray) (j:Nat) (h:ay s j=10):bd s j/\bd s (j+1):=by
 have hj:=Bu s j h;obtain ⟨m,h1,h2,h3,h4,h5⟩:=ke s j (P s).length (by rw [oA s _ (gt _)];exact hj)
 have e:st s m=j:=by
  apply Rv;intro hne
  have:=(jv s (st s m) (j-st s m) (by omega) (by omega)).2;rw [show st s m+(j-st s m)=j by omega,h] at this;omega
 refine ⟨⟨m,by omega,e⟩,⟨m+1,by omega,?_⟩⟩;rw [eO s m h2,e,MU s j h]
theorem OT (s:ByteArray) (i:Nat):bd s (lf s i):=by
 rcases (gI s i).2.2 with h|⟨h1,h2⟩
 ·rw [h];exact tI s
 ·have:=(Gc s _ h2).2;rw [show lf s i-1+1=lf s i by omega] at this;exact this
theorem tu (s:ByteArray) (a:Nat):∀i,i<=a->cn (s.extract 0 a) i=cn s i
 |0,_=>rfl
 |i+1,h=>by
  show cn _ i+_=cn s i+_
  rw [tu s a i (by omega),kS s a i (by omega)]
theorem zv (s:ByteArray) (a:Nat):∀i,i<=a->lf (s.extract 0 a) i=lf s i
 |0,_=>rfl
 |i+1,h=>by
  rw [jj,jj,zv s a i (by omega),kS s a i (by omega)]
theorem tt (s:ByteArray) (a:Nat):∀i,a+i<=s.size->cn s (a+i)=cn s a+cn (s.extract a s.size) i
 |0,_=>rfl
 |i+1,h=>by
  show cn s (a+i)+_=_+(cn _ i+_)
  rw [tt s a i (by omega),aR s a s.size i (by omega),Sh];rfl
theorem zu (s:ByteArray) (a:Nat):∀i,a+i<=s.size->lf s (a+i)=if cn (s.extract a s.size) i=0 then lf s a else a+lf (s.extract a s.size) i
 |0,_=>rfl
 |i+1,h=>by
  have ih:=zu s a i (by omega);have e:=aR s a s.size i (by omega);rw [<-Sh,jj,jj,e]
  rcases g9 (s.extract a s.size) i with ⟨h1,h2⟩|⟨h1,h2⟩
  ·rw [e] at h1;rw [IO h1,IO h1,Eq (by omega)];rfl
  ·rw [e] at h1;rw [Eq h1,Eq h1,h2,ih]
def fp (l:Int) (s:ByteArray):Int:=wrap64 (l+cn s s.size)
def jD (c:Int) (s:ByteArray):Int:=wrap64 ((if cn s s.size=0 then c else 1)+(P (s.extract (lf s s.size) s.size)).length)
def Lc (a:Int) (s:ByteArray):Int:=wrap64 (a+s.size)
theorem oa (a b:Int):wrap64 (wrap64 a+b)=wrap64 (a+b):=by unfold wrap64;omega
theorem By (s:ByteArray) (w:Nat) (hw:w<=s.size) (l:Int):fp (fp l (s.extract 0 w)) (s.extract w s.size)=fp l s:=by
 unfold fp;have z1:=az s 0 w hw;have z2:=az s w s.size (gt _);have h:=tt s w (s.size-w) (by omega);rw [show w+(s.size-w)=s.size by omega] at h;rw [z1,z2,h,tu s w _ (by omega),UI,oa]
 congr 1;omega
theorem FQ (s:ByteArray) (w:Nat) (hw:bd s w) (c:Int):jD (jD c (s.extract 0 w)) (s.extract w s.size)=jD c s:=by
 have hws:=Gd hw;have z1:=az s 0 w hws;have z2:=az s w s.size (gt _);have h:=tt s w (s.size-w) (by omega);have hl:=zu s w (s.size-w) (by omega);rw [show w+(s.size-w)=s.size by omega] at h hl;have f:=gI s w;have f2:=gI (s.extract w s.size) (s.size-w);unfold jD;rw [z1,z2,tu s w _ (by omega),zv s w _ (by omega),UI];rw [gw s 0 w _ _ hws (by omega) f.1,QU,QU];rw [gw s w s.size _ _ (gt _) (by omega) f2.1,show w+(s.size-w)=s.size by omega]
 by_cases hz:cn (s.extract w s.size) (s.size-w)=0
 ·rw [IO hz] at hl ⊢;rw [hl,h,hz,R7,zr _ _ hz,R7,oa,<-FR (OT s w) hw (Ah s) f.1 hws]
  congr 1;omega
 ·rw [Eq hz] at hl ⊢;rw [hl,h,Eq (by omega)]
end Go.Proofs.YtjiepkenkcgkhaaGreatDoor.Lx
