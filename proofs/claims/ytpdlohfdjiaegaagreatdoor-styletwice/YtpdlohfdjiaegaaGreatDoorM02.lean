import Derived.Laws.RangeAny
import Derived.Deep.QuietTactic
import Derived.BigQuiet
import Derived.Test.YtpdlohfdjiaegaaGreatDoorM01
set_option linter.unusedVariables false
set_option linter.unusedSimpArgs false
set_option maxHeartbeats 1000000
namespace Go.Proofs.YtpdlohfdjiaegaaGreatDoor.Lx
/-
 The plain mathematics of layer 1: characters by the model's decoding.
-/
def dp (s:ByteArray) (i:Nat):Nat:=(Utf8.decode s i).1
def dw (s:ByteArray) (i:Nat):Nat:=(Utf8.decode s i).2
theorem wY (s:ByteArray) (i:Nat) (h:s.size<=i):(s.get! i).toNat=0:=by
 have e:s.get! i=default:=by
  show s.data[i]! = default
  exact getElem!_neg _ _ (by show ¬i<s.data.size;have:s.data.size=s.size:=rfl;omega)
 rw [e];rfl
theorem aG (s:ByteArray) (i:Nat) (h:i<s.size):1<=dw s i/\dw s i<=4/\i+dw s i<=s.size:=by
 unfold dw Utf8.decode;simp only []
 repeat' split
 all_goals simp_all
 all_goals omega
theorem od (s:ByteArray) (i:Nat):dp s i<=1114111:=by
 have hb:∀k,(s.get! (i+k)).toNat<256:=fun k=>(s.get! (i+k)).toNat_lt
 have h0:=hb 0;have h1:=hb 1;have h2:=hb 2;have h3:=hb 3;unfold dp Utf8.decode;simp only []
 repeat' split
 all_goals simp_all [Utf8.runeError,Utf8.valid]
 all_goals omega
theorem me (s t:ByteArray) (i j:Nat) (h:∀k,k<4->t.get! (j+k)=s.get! (i+k)) (hz:∀k,k<4->(j+k<t.size↔i+k<s.size)):Utf8.decode t j=Utf8.decode s i:=by
 unfold Utf8.decode;simp only [h 0 (by omega),h 1 (by omega),h 2 (by omega),h 3 (by omega),hz 1 (by omega),hz 2 (by omega),hz 3 (by omega)]
theorem fK (s:ByteArray) (a b i:Nat):(s.extract a b).get! i=if a+i<b then s.get! (a+i) else default:=by
 have e:∀(x:ByteArray) (k:Nat),x.get! k=x.data.toList[k]?.getD default:=by
  intro x k;show x.data[k]! = _;rw [Array.getElem!_eq_getD,Array.getD_eq_getD_getElem?,Array.getElem?_toList]
 rw [e,e,ByteArray.data_extract,Array.toList_extract];simp only [List.extract_eq_take_drop,List.getElem?_take,List.getElem?_drop]
 by_cases h:a+i<b
 ·rw [if_pos h,if_pos (by omega)]
 ·rw [if_neg h,if_neg (by omega)];rfl
theorem aj (s:ByteArray) (a b:Nat) (h:b<=s.size):(s.extract a b).size=b-a:=by
 rw [ByteArray.size_extract];omega
theorem ea (s:ByteArray) (a i:Nat) (h:a<=s.size):Utf8.decode (s.extract a s.size) i=Utf8.decode s (a+i):=by
 refine me _ _ _ _ (fun k _=>?_) (fun k _=>by rw [aj s a _ (Nat.le_refl _)];omega);rw [fK]
 by_cases hk:a+(i+k)<s.size
 ·rw [if_pos hk,Nat.add_assoc]
 ·rw [if_neg hk];show _=s.data[a+i+k]!;exact (getElem!_neg _ _ (by show ¬_<s.data.size;have:s.data.size=s.size:=rfl;omega)).symm
def gdb (p n:Int):Bool:=(p != 65533) || decide (1<n)
def gd (s:ByteArray) (i:Nat):Bool:=gdb (dp s i) (dw s i)
def goB (s t:ByteArray):Bool:=gd (s++t) 0 && decide (s.size<dw (s++t) 0)
def opn (s:ByteArray):Bool:=goB s ⟨#[128,128,128]⟩ || goB s ⟨#[191,191,191]⟩
def whF (s:ByteArray):Nat->Nat->Nat
 |0,_=>s.size
 |f+1,n=>if n<=s.size then (if opn (s.extract (s.size-n) s.size)=true then s.size-n else whF s f (n+1)) else s.size
def plc (s:ByteArray):Nat->Nat->List Nat
 |0,_=>[]
 |f+1,i=>if i<s.size then i :: plc s f (i+dw s i) else []
theorem nj (s:ByteArray):∀(f g i:Nat),s.size<=i+f->s.size<=i+g->plc s f i=plc s g i
 |0,0,_,_,_=>rfl
 |0,g+1,i,h,_=>by unfold plc;rw [if_neg (by omega)]
 |f+1,0,i,_,h=>by unfold plc;rw [if_neg (by omega)]
 |f+1,g+1,i,hf,hg=>by
  unfold plc
  split
  ·rename_i hi
   have:=(aG s i hi).1;rw [nj s f g (i+dw s i) (by omega) (by omega)]
  ·rfl
def pl (s:ByteArray) (i:Nat):List Nat:=plc s (s.size-i) i
def P (s:ByteArray):List Nat:=pl s 0
theorem qC (s:ByteArray) (i:Nat) (h:i<s.size):pl s i=i :: pl s (i+dw s i):=by
 have hw:=aG s i h;unfold pl;obtain ⟨f,hf⟩:∃f,s.size-i=f+1:=⟨s.size-i-1,by omega⟩;rw [hf];show (if i<s.size then i :: plc s f (i+dw s i) else [])=_;rw [if_pos h,nj s f (s.size-(i+dw s i)) _ (by omega) (by omega)]
theorem ve (s:ByteArray) (i:Nat) (h:s.size<=i):pl s i=[]:=by
 unfold pl;rw [show s.size-i=0 by omega];rfl
theorem vb (s:ByteArray):∀(f i:Nat),(plc s f i).length<=f
 |0,_=>by simp [plc]
 |f+1,i=>by
  unfold plc
  split
  ·simp;exact vb s f _
  ·simp
theorem rD (s:ByteArray):(P s).length<=s.size:=by
 unfold P pl;exact Nat.le_trans (vb s _ _) (by omega)
end Go.Proofs.YtpdlohfdjiaegaaGreatDoor.Lx
namespace Go.Proofs.YtpdlohfdjiaegaaGreatDoor.Lx
open Go.RowKit
theorem w64 (n:Nat) (h:n<=1114111):wrap64 (n:Int)=n:=by unfold wrap64;omega
theorem xQ {k:IntKind}{a b:Int}(h:a=b):Ending.returned (.int k a)=.returned (.int k b):=by rw [h]
theorem cr (w:World) (s:ByteArray) (p:Nat):Below w.heap.size w (w.iter s p):=(Below.refl _ _).alloc (Nat.le_refl _) _
theorem tz (s:ByteArray) (w:World) (hs:s.size<=maxLen) :
  Da 186 #[.string s] w fun e w'=>e=.returned (.int .i64 (P s).length)/\∃pos,w'=w.iter s pos:=by
 unfold maxLen at hs;have hP:=rD s
 go_enter Tryz.func186,Tryz.ntmps186
 go_wp2
 go_loopw [3] (fun n w'=>∃(pos k:Nat),w'=w.iter s pos/\n=.int .i64 k/\k+(pl s pos).length=(P s).length) (fun _ w'=>s.size-w'.iterPos w.heap.size)
 case atStart=>exact ⟨0,0,rfl,rfl,by simp [P]⟩
 case round=>
  obtain ⟨pos,k,rfl,rfl,hc⟩:=hrel;have hkb:k<=(P s).length:=by omega
  by_cases hp:pos<s.size
  ·have hnx:∀ty,(Instr.next (.pointer (some ⟨w.heap.size,0,none⟩)) true ty).run Tryz.prog (w.iter s pos)=_:=fun ty=>run_next_any w s pos ty hp
   have hw:=aG s pos hp;have hlen:(pl s pos).length=(pl s (pos+dw s pos)).length+1:=by rw [qC s pos hp];simp
   have HC:Hid (k+1+(pl s (pos+dw s pos)).length=(P s).length):=by show _=_;omega
   have hk1:k+1<=(P s).length:=by omega
   clear hc hlen;unfold dw at hw
   go_wp2
   go_roundw
   case rel=>exact ⟨pos+dw s pos,k+1,rfl,by go_num,HC.out⟩
   case measure=>
    simp;omega
  ·have hnx:∀ty,(Instr.next (.pointer (some ⟨w.heap.size,0,none⟩)) true ty).run Tryz.prog (w.iter s pos)=_:=fun ty=>run_next_end w s pos ty hp
   have hz:(pl s pos).length=0:=by rw [ve s pos (by omega)];rfl
   have HC:Hid (k=(P s).length):=by show _=_;omega
   clear hc hz
   go_wp2
   go_ret
   exact ⟨xQ (by rw [HC.out]),_,rfl⟩
theorem ta (s:ByteArray) (w:World) (hs:s.size<=maxLen) (h0:0<s.size) :
  Da 130 #[.string s] w fun e w'=>e=.returned (.tuple #[.int .i32 (dp s 0),.int .i64 (dw s 0)])/\Below w.heap.size w w':=by
 unfold maxLen at hs;have hw:=aG s 0 h0
 go_enter Tryz.func130,Tryz.ntmps130
 go_wp2
 go_loopw [4] (fun p w'=>w'=w.iter s 0\/(p=.int .i32 (dp s 0)/\w'=w.iter s (dw s 0))) (fun _ w'=>s.size-w'.iterPos w.heap.size)
 case atStart=>exact .inl rfl
 case round=>
  rcases hrel with rfl|⟨rfl,rfl⟩
  ·have hnx:∀ty,(Instr.next (.pointer (some ⟨w.heap.size,0,none⟩)) true ty).run Tryz.prog (w.iter s 0)=_:=fun ty=>run_next_any w s 0 ty h0
   unfold dw at hw
   go_wp2
   go_roundw
   case rel=>exact .inr ⟨rfl,by simp [dw]⟩
   case measure=>simp;omega
  ·by_cases hp:dw s 0<s.size
   ·have hnx:∀ty,(Instr.next (.pointer (some ⟨w.heap.size,0,none⟩)) true ty).run Tryz.prog (w.iter s (dw s 0))=_:=fun ty=>run_next_any w s (dw s 0) ty hp
    go_wp2
    go_ret2
    exact ⟨rfl,cr _ _ _⟩
   ·have hnx:∀ty,(Instr.next (.pointer (some ⟨w.heap.size,0,none⟩)) true ty).run Tryz.prog (w.iter s (dw s 0))=_:=fun ty=>run_next_end w s (dw s 0) ty hp
    have HE:Hid (s.size=dw s 0):=by show _=_;omega
    go_wp2
    go_ret2
    exact ⟨by rw [HE.out];rfl,cr _ _ _⟩
theorem vT (p n:Int) (w:World) :
  Da 131 #[.int .i32 p,.int .i64 n] w fun e w'=>e=.returned (.bool (gdb p n))/\w'=w:=by
 by_cases hp:p=65533
 ·have e:gdb p n=decide (1<n):=by simp [gdb,hp]
  have h1:(p != 65533)=false:=by simp [hp]
  rw [e];clear e hp
  go_enter Tryz.func131,Tryz.ntmps131
  go_wp2
  go_ret
  exact ⟨rfl,rfl⟩
 ·have e:gdb p n=true:=by simp [gdb,hp]
  have h1:(p != 65533)=true:=by simp [hp]
  rw [e];clear e hp
  go_enter Tryz.func131,Tryz.ntmps131
  go_wp2
  go_ret
  exact ⟨rfl,rfl⟩
theorem qK (s:ByteArray) (a:Int) (w:World) (hs:s.size<=maxLen) (h0:0<=a) (h1:a<s.size) :
  Da 82 #[.string s,.int .i64 a] w fun e w'=>e=.returned (.tuple #[.int .i64 (dp s a.toNat),.int .i64 (dw s a.toNat),.bool (gd s a.toNat)])/\Below w.heap.size w w':=by
 obtain ⟨n,rfl⟩:=Int.eq_ofNat_of_zero_le h0;rw [Int.toNat_natCast];have hz:(s.extract n s.size).size=s.size-n:=aj s n _ (Nat.le_refl _);have Hp:Hid (dp (s.extract n s.size) 0=dp s n):=by show _=_;unfold dp;rw [ea s n 0 (by omega)];rfl
 have Hw:Hid (dw (s.extract n s.size) 0=dw s n):=by show _=_;unfold dw;rw [ea s n 0 (by omega)];rfl
 unfold maxLen at hs
 go_enter Tryz.func82,Tryz.ntmps82
 go_wp2_with fail
 refine (ta _ _ (by unfold maxLen;omega) (by omega)).mono ?_;rintro e w1 ⟨rfl,hb1⟩;rw [Hp.out,Hw.out]
 go_wp2_with fail
 refine (vT _ _ _).mono ?_;rintro e w2 ⟨rfl,rfl⟩
 go_wp2_with fail
 go_ret3
 exact ⟨by show Ending.returned (.tuple #[.int .i64 (wrap64 (dp s n)),_,_])=_;rw [w64 _ (od s n)];rfl,hb1⟩
theorem nz (s:ByteArray) (a:Int) (w:World) (hs:s.size<=maxLen) (h1:a<0\/s.size<=a) :
  Da 82 #[.string s,.int .i64 a] w fun e w'=>e=.returned (.tuple #[.int .i64 0,.int .i64 0,.bool false])/\Below w.heap.size w w':=by
 unfold maxLen at hs
 rcases h1 with h1|h1
 ·go_enter Tryz.func82,Tryz.ntmps82
  go_wp2_with fail
  go_ret3
  exact ⟨rfl,Below.refl _ _⟩
 ·have h2:¬a<0:=by omega
  go_enter Tryz.func82,Tryz.ntmps82
  go_wp2_with fail
  go_ret3
  exact ⟨rfl,Below.refl _ _⟩
theorem Tryz.info3:(Tryz.prog.info? 3).map (fun i=>(i.zero,i.size,i.bytes))=some (some (.int .i64 0),1,8):=by kernel_rfl
end Go.Proofs.YtpdlohfdjiaegaaGreatDoor.Lx
namespace Go.Proofs.YtpdlohfdjiaegaaGreatDoor.Lx
def by8 (s:ByteArray) (i:Nat):Nat:=(s.get! i).toNat
def ob (s:ByteArray) (i:Nat):Option Nat:=if i<s.size then some (by8 s i) else none
def ct (c:Option Nat):Bool:=match c with|some b=>b / 64 == 2|none=>false
def vv (c:Option Nat):Nat:=c.getD 0 % 64
def D (b0:Nat) (c1 c2 c3:Option Nat):Nat × Nat:=
 if b0<128 then (b0,1)
 else if b0 / 32 == 6 && ct c1 then (if b0 % 32*64+vv c1>=128 then (b0 % 32*64+vv c1,2) else (65533,1))
 else if b0 / 16 == 14 && ct c1 && ct c2 then
  (if b0 % 16*4096+vv c1*64+vv c2>=2048 && Utf8.valid (b0 % 16*4096+vv c1*64+vv c2:Nat) then (b0 % 16*4096+vv c1*64+vv c2,3) else (65533,1))
 else if b0 / 8 == 30 && ct c1 && ct c2 && ct c3 then
  (if b0 % 8*262144+vv c1*4096+vv c2*64+vv c3>=65536 && Utf8.valid (b0 % 8*262144+vv c1*4096+vv c2*64+vv c3:Nat) then (b0 % 8*262144+vv c1*4096+vv c2*64+vv c3,4) else (65533,1))
 else (65533,1)
theorem Cc (s:ByteArray) (i:Nat):(decide (i<s.size) && (s.get! i).toNat / 64 == 2)=ct (ob s i):=by
 unfold ob ct by8
 by_cases h:i<s.size <;> simp [h]
theorem Cb (s:ByteArray) (i:Nat):vv (ob s i)=(s.get! i).toNat % 64:=by
 unfold ob vv by8
 by_cases h:i<s.size
 ·simp [h]
 ·simp [h,wY s i (by omega)]
theorem bw (s:ByteArray) (i:Nat):Utf8.decode s i=D (by8 s i) (ob s (i+1)) (ob s (i+2)) (ob s (i+3)):=by
 unfold Utf8.decode D;simp only [Nat.add_zero,Cc,Cb,by8,Utf8.runeError]
def gD (x:Nat × Nat):Prop:=x.1≠65533\/1<x.2
theorem vu:¬gD (65533,1):=by unfold gD;simp
theorem mH (b0:Nat) (c1 c2 c3:Option Nat) :
  (D b0 c1 c2 c3=(65533,1))\/(b0<128/\D b0 c1 c2 c3=(b0,1)) \/
  (b0 / 32=6/\ct c1=true/\(D b0 c1 c2 c3).2=2/\∀d2 d3,D b0 c1 d2 d3=D b0 c1 c2 c3) \/
  (b0 / 16=14/\ct c1=true/\ct c2=true/\(D b0 c1 c2 c3).2=3/\∀d3,D b0 c1 c2 d3=D b0 c1 c2 c3) \/
  (b0 / 8=30/\ct c1=true/\ct c2=true/\ct c3=true/\(D b0 c1 c2 c3).2=4):=by
 by_cases h1:b0<128
 ·exact .inr (.inl ⟨h1,by unfold D;rw [if_pos h1]⟩)
 ·have e:∀x1 x2 x3,D b0 x1 x2 x3=_:=fun x1 x2 x3=>by unfold D;rw [if_neg h1]
  by_cases h2:(b0 / 32 == 6 && ct c1)=true
  ·by_cases h3:b0 % 32*64+vv c1>=128
   ·refine .inr (.inr (.inl ?_));have h2':=h2;simp at h2';refine ⟨h2'.1,h2'.2,?_,fun d2 d3=>?_⟩
    ·rw [e,if_pos h2,if_pos h3]
    ·rw [e,e,if_pos h2,if_pos h2]
   ·exact .inl (by rw [e,if_pos h2,if_neg h3])
  ·by_cases h4:(b0 / 16 == 14 && ct c1 && ct c2)=true
   ·by_cases h5:(decide (b0 % 16*4096+vv c1*64+vv c2>=2048) && Utf8.valid (b0 % 16*4096+vv c1*64+vv c2:Nat))=true
    ·refine .inr (.inr (.inr (.inl ?_)));have h4':=h4;simp at h4';refine ⟨h4'.1.1,h4'.1.2,h4'.2,?_,fun d3=>?_⟩
     ·rw [e,if_neg h2,if_pos h4,if_pos h5]
     ·rw [e,e,if_neg h2,if_pos h4,if_neg h2,if_pos h4]
    ·exact .inl (by rw [e,if_neg h2,if_pos h4,if_neg h5])
   ·by_cases h6:(b0 / 8 == 30 && ct c1 && ct c2 && ct c3)=true
    ·by_cases h7:(decide (b0 % 8*262144+vv c1*4096+vv c2*64+vv c3>=65536) && Utf8.valid (b0 % 8*262144+vv c1*4096+vv c2*64+vv c3:Nat))=true
     ·refine .inr (.inr (.inr (.inr ?_)));have h6':=h6;simp at h6';exact ⟨h6'.1.1.1,h6'.1.1.2,h6'.1.2,h6'.2,by rw [e,if_neg h2,if_neg h4,if_pos h6,if_pos h7]⟩
     ·exact .inl (by rw [e,if_neg h2,if_neg h4,if_pos h6,if_neg h7])
    ·exact .inl (by rw [e,if_neg h2,if_neg h4,if_neg h6])
theorem kW (b0:Nat) (c1 c2 c3:Option Nat) (h:¬gD (D b0 c1 c2 c3)):D b0 c1 c2 c3=(65533,1):=by
 unfold gD at h
 rcases mH b0 c1 c2 c3 with h1|⟨h1,h2⟩|⟨_,_,h2,_⟩|⟨_,_,_,h2,_⟩|⟨_,_,_,_,h2⟩
 ·exact h1
 ·rw [h2] at h;simp at h;omega
 ·rw [h2] at h;simp at h
 ·rw [h2] at h;simp at h
 ·rw [h2] at h;simp at h
theorem fO {c c':Option Nat}(h:c'=c\/c'=none) (hc:ct c'=true):c'=c:=by
 rcases h with h|h
 ·exact h
 ·rw [h] at hc;cases hc
theorem BL (b0:Nat) {c1 c2 c3 c1' c2' c3':Option Nat}(h1:c1'=c1\/c1'=none) (h2:c2'=c2\/c2'=none) (h3:c3'=c3\/c3'=none) (hg:gD (D b0 c1' c2' c3')):D b0 c1 c2 c3=D b0 c1' c2' c3':=by
 rcases mH b0 c1' c2' c3' with e|⟨e1,e2⟩|⟨_,e1,_,e2⟩|⟨_,e1,e2,_,e3⟩|⟨_,e1,e2,e3,_⟩
 ·rw [e] at hg;exact absurd hg vu
 ·rw [e2];unfold D;rw [if_pos e1]
 ·obtain rfl:=fO h1 e1;exact e2 _ _
 ·obtain rfl:=fO h1 e1;obtain rfl:=fO h2 e2;exact e3 _
 ·obtain rfl:=fO h1 e1;obtain rfl:=fO h2 e2;obtain rfl:=fO h3 e3;rfl
theorem BK (b0:Nat) {c1 c2 c3 c1' c2' c3':Option Nat}(h1:c1'=c1\/c1'=none) (h2:c2'=c2\/c2'=none) (h3:c3'=c3\/c3'=none)
  (k1:1<(D b0 c1 c2 c3).2->c1'=c1) (k2:2<(D b0 c1 c2 c3).2->c2'=c2) (k3:3<(D b0 c1 c2 c3).2->c3'=c3):D b0 c1' c2' c3'=D b0 c1 c2 c3:=by
 rcases mH b0 c1 c2 c3 with e|⟨e1,e2⟩|⟨_,e1,e0,e2⟩|⟨_,e1,e2,e0,e3⟩|⟨_,e1,e2,e3,e0⟩
 ·rw [e];refine kW _ _ _ _ (fun hg=>?_);rw [<-BL b0 h1 h2 h3 hg,e] at hg;exact vu hg
 ·rw [e2];unfold D;rw [if_pos e1]
 ·obtain rfl:=k1 (by omega);exact e2 _ _
 ·obtain rfl:=k1 (by omega);obtain rfl:=k2 (by omega);exact e3 _
 ·obtain rfl:=k1 (by omega);obtain rfl:=k2 (by omega);obtain rfl:=k3 (by omega);rfl
theorem A4 (s:ByteArray) (i:Nat):gd s i=true↔gD (Utf8.decode s i):=by
 unfold gd gdb gD dp dw;simp;omega
theorem A3 (s:ByteArray) (i:Nat) (h:gd s i=false):Utf8.decode s i=(65533,1):=by
 rw [bw]
 apply kW
 rw [<-bw,<-A4,h];simp
theorem ze {c:Option Nat}(h:ct c=true):∃b,c=some b/\b / 64=2:=by
 cases c with
 |none=>cases h
 |some b=>exact ⟨b,rfl,by simpa [ct] using h⟩
theorem ym {s:ByteArray}{i b:Nat}(h:ob s i=some b):i<s.size/\by8 s i=b:=by
 unfold ob at h
 split at h
 ·exact ⟨‹_›,by simpa using h⟩
 ·cases h
theorem fN (s:ByteArray) (i k:Nat) (h1:1<=k) (h2:k<dw s i):i+k<s.size/\by8 s (i+k) / 64=2:=by
 have hh:∀j,ct (ob s j)=true->j<s.size/\by8 s j / 64=2:=by
  intro j hj;obtain ⟨b,hb,hb2⟩:=ze hj;obtain ⟨g1,g2⟩:=ym hb;exact ⟨g1,by rw [g2];exact hb2⟩
 unfold dw at h2;rw [bw] at h2
 rcases mH (by8 s i) (ob s (i+1)) (ob s (i+2)) (ob s (i+3)) with e|⟨_,e⟩|⟨_,e1,e0,_⟩|⟨_,e1,e2,e0,_⟩|⟨_,e1,e2,e3,e0⟩
 ·rw [e] at h2;simp at h2;omega
 ·rw [e] at h2;simp at h2;omega
 ·rw [e0] at h2;obtain rfl:k=1:=by omega
  exact hh _ e1
 ·rw [e0] at h2
  rcases (show k=1\/k=2 by omega) with rfl|rfl
  ·exact hh _ e1
  ·exact hh _ e2
 ·rw [e0] at h2
  rcases (show k=1\/k=2\/k=3 by omega) with rfl|rfl|rfl
  ·exact hh _ e1
  ·exact hh _ e2
  ·exact hh _ e3
theorem gN (s:ByteArray) (a i:Nat) (h:i<a):by8 (s.extract 0 a) i=by8 s i:=by
 unfold by8;rw [fK,if_pos (by omega),Nat.zero_add]
theorem lK (s:ByteArray) (a i:Nat) (ha:a<=s.size):ob (s.extract 0 a) i=if i<a then ob s i else none:=by
 unfold ob;rw [aj s 0 a ha]
 by_cases h:i<a
 ·rw [if_pos (by omega),if_pos h,if_pos (by omega),gN s a i h]
 ·rw [if_neg (by omega),if_neg h]
theorem oh (s:ByteArray) (a i:Nat) (ha:a<=s.size) (hi:i<a) (hd:i+dw s i<=a):Utf8.decode (s.extract 0 a) i=Utf8.decode s i:=by
 unfold dw at hd;rw [bw] at hd;rw [bw,bw,gN s a i hi,lK s a _ ha,lK s a _ ha,lK s a _ ha];refine BK _ ?_ ?_ ?_ (fun h=>if_pos (by omega)) (fun h=>if_pos (by omega)) (fun h=>if_pos (by omega))
 all_goals split <;> simp
def st (s:ByteArray):Nat->Nat
 |0=>0
 |n+1=>if st s n<s.size then st s n+dw s (st s n) else st s n
theorem jn (s:ByteArray):∀n,st s n<=s.size
 |0=>Nat.zero_le _
 |n+1=>by
  unfold st
  split
  ·exact (aG s _ ‹_›).2.2
  ·exact jn s n
theorem qB (s:ByteArray):∀n,pl s (st s n)=(P s).drop n
 |0=>rfl
 |n+1=>by
  have ih:=qB s n;unfold st
  split
  ·rename_i h
   rw [qC s _ h] at ih;rw [<-List.drop_drop,<-ih];rfl
  ·rename_i h
   rw [ih];rw [ve s _ (by omega)] at ih;rw [<-ih,<-List.drop_drop,<-ih];rfl
theorem dY (s:ByteArray) (k:Nat):st s k<s.size↔k<(P s).length:=by
 have h:=qB s k;constructor
 ·intro hk;rw [qC s _ hk] at h;have:=congrArg List.length h;simp at this;omega
 ·intro hk
  apply Classical.byContradiction
  intro hn;rw [ve s _ (by omega)] at h;have:=congrArg List.length h;simp at this;omega
theorem P_at (s:ByteArray) (k:Nat) (h:k<(P s).length):(P s)[k]?=some (st s k):=by
 have h1:=qB s k;rw [qC s _ ((dY s k).2 h)] at h1;have:=congrArg (fun l:List Nat=>l[0]?) h1;simp at this;exact this.symm
theorem jo (s:ByteArray) (k:Nat) (h:(P s).length<=k):st s k=s.size:=by
 have h1:=jn s k;have h2:=dY s k;omega
theorem cU (s:ByteArray) (k:Nat) (h:k<(P s).length):st s (k+1)=st s k+dw s (st s k):=by
 show (if st s k<s.size then st s k+dw s (st s k) else st s k)=_
 rw [if_pos ((dY s k).2 h)]
theorem gm (s:ByteArray) (j:Nat):∀n,j<st s n->∃m,m<n/\m<(P s).length/\st s m<=j/\j<st s m+dw s (st s m)/\st s m+dw s (st s m)<=st s n
 |0,h=>by simp [st] at h
 |n+1,h=>by
  by_cases hn:st s n<s.size
  ·have e:=cU s n ((dY s n).1 hn)
   by_cases hj:j<st s n
   ·obtain ⟨m,h1,h2,h3,h4,h5⟩:=gm s j n hj;exact ⟨m,by omega,h2,h3,h4,by omega⟩
   ·exact ⟨n,by omega,(dY s n).1 hn,by omega,by omega,by omega⟩
  ·have e:st s (n+1)=st s n:=by
    show (if st s n<s.size then st s n+dw s (st s n) else st s n)=_
    rw [if_neg hn]
   rw [e] at h;obtain ⟨m,h1,h2,h3,h4,h5⟩:=gm s j n h;exact ⟨m,by omega,h2,h3,h4,by omega⟩
theorem qT (a b:ByteArray) (i:Nat):(a++b).get! i=if i<a.size then a.get! i else b.get! (i-a.size):=by
 have e:∀(x:ByteArray) (k:Nat),x.get! k=x.data.toList[k]?.getD default:=by
  intro x k;show x.data[k]! = _;rw [Array.getElem!_eq_getD,Array.getD_eq_getD_getElem?,Array.getElem?_toList]
 have hz:a.data.toList.length=a.size:=by simp
 rw [e,e,e,ByteArray.data_append,Array.toList_append]
 by_cases h:i<a.size
 ·rw [if_pos h,List.getElem?_append_left (by omega)]
 ·rw [if_neg h,List.getElem?_append_right (by omega),hz]
theorem aP (a b:ByteArray):(a++b).size=a.size+b.size:=by simp [ByteArray.size_append]
theorem jG (a b:ByteArray) (i:Nat):ob (a++b) i=if i<a.size then ob a i else ob b (i-a.size):=by
 unfold ob by8;rw [aP,qT]
 by_cases h:i<a.size
 ·rw [if_pos h,if_pos (by omega),if_pos h,if_pos h]
 ·rw [if_neg h]
  by_cases h2:i-a.size<b.size
  ·rw [if_pos (by omega),if_neg h,if_pos h2]
  ·rw [if_neg (by omega),if_neg h,if_neg h2]
theorem be (a b:ByteArray) (i:Nat):by8 (a++b) i=if i<a.size then by8 a i else by8 b (i-a.size):=by
 unfold by8;rw [qT]
 split <;> rfl
theorem pG (a b:ByteArray) (i:Nat):Utf8.decode (a++b) (a.size+i)=Utf8.decode b i:=by
 rw [bw,bw,be,jG,jG,jG,if_neg (by omega),if_neg (by omega),if_neg (by omega),if_neg (by omega)];rw [show a.size+i-a.size=i by omega,show a.size+i+1-a.size=i+1 by omega,show a.size+i+2-a.size=i+2 by omega,show a.size+i+3-a.size=i+3 by omega]
theorem iF (a:ByteArray):a.extract 0 a.size=a:=by
 apply ByteArray.ext
 rw [ByteArray.data_extract];exact Array.extract_size
theorem my (a b:ByteArray) (hz:a.size=b.size) (h:∀i,i<a.size->a.get! i=b.get! i):a=b:=by
 apply ByteArray.ext
 apply Array.ext
 ·exact hz
 ·intro i h1 h2;have:=h i h1
  have e:∀(x:ByteArray) (hx:i<x.data.size),x.get! i=x.data[i]:=by
   intro x hx;show x.data[i]! = _;exact getElem!_pos x.data i hx
  rw [e a h1,e b h2] at this;exact this
theorem cZ (a b:ByteArray) (hz:a.size=b.size) (h:∀i,i<a.size->by8 a i=by8 b i):a=b:=
 my a b hz (fun i hi=>UInt8.toNat_inj.1 (h i hi))
theorem aF (s:ByteArray) (a b i:Nat) (h:a+i<b):by8 (s.extract a b) i=by8 s (a+i):=by
 unfold by8;rw [fK,if_pos h]
end Go.Proofs.YtpdlohfdjiaegaaGreatDoor.Lx
namespace Go.Proofs.YtpdlohfdjiaegaaGreatDoor.Lx
open Go.RowKit
variable {p:Int}
theorem BH (s:ByteArray) (k:Nat) (h:k<(P s).length):(P s).take (k+1)=(P s).take k++[st s k]:=by
 have h1:=P_at s k h;rw [List.take_succ_eq_append_getElem h];have:=(List.getElem?_eq_some_iff.1 h1).2;rw [this]
def pts (s:ByteArray):List Nat:=(P s).map (dp s)
theorem qv (s:ByteArray):(pts s).length=(P s).length:=by unfold pts;simp
theorem uQ (s:ByteArray) (k:Nat) (h:k<(P s).length):(pts s).take (k+1)=(pts s).take k++[dp s (st s k)]:=by
 unfold pts;rw [<-List.map_take,BH s k h,List.map_append,List.map_take];rfl
def ltr (p:Int):Prop:=(65<=p/\p<=90)\/(97<=p/\p<=122)\/(192<=p/\p<=214)\/(216<=p/\p<=246)\/(248<=p/\p<=591)\/(913<=p/\p<=929)\/(931<=p/\p<=974)\/(1024<=p/\p<=1119)\/(1488<=p/\p<=1514)\/(1568<=p/\p<=1610)\/(2308<=p/\p<=2361)\/(12353<=p/\p<=12438)\/(12449<=p/\p<=12538)\/(19968<=p/\p<=40959)\/(44032<=p/\p<=55203)\/(66560<=p/\p<=66639)\/(131072<=p/\p<=196607)
def mrk (p:Int):Prop:=(48<=p/\p<=57)\/(95<=p/\p<=95)\/(768<=p/\p<=879)
instance (p:Int):Decidable (ltr p):=by unfold ltr;infer_instance
instance (p:Int):Decidable (mrk p):=by unfold mrk;infer_instance
def us (p:Int):Int:=if ltr p then 2 else if mrk p then 1 else 0
def lt' (p:Int):Bool:=decide (ltr p)
def pr' (p:Int):Bool:=lt' p || decide (mrk p)
theorem Aj (h:ltr p):us p=2:=by unfold us;rw [if_pos h]
theorem Ak (h:mrk p):us p=1:=by
 unfold us;rw [if_neg (by unfold mrk at h;unfold ltr;omega),if_pos h]
theorem BQ (h:¬ltr p) (h2:¬mrk p):us p=0:=by unfold us;rw [if_neg h,if_neg h2]
theorem BR (p:Int):(us p == 2)=lt' p:=by
 unfold us lt'
 by_cases h:ltr p
 ·rw [if_pos h,decide_eq_true h];rfl
 ·rw [if_neg h,decide_eq_false h];split <;> rfl
theorem BP (p:Int):(us p != 0)=pr' p:=by
 unfold us pr' lt'
 by_cases h:ltr p
 ·rw [if_pos h,decide_eq_true h];rfl
 ·rw [if_neg h,decide_eq_false h]
  by_cases h2:mrk p
  ·rw [if_pos h2,decide_eq_true h2];rfl
  ·rw [if_neg h2,decide_eq_false h2];rfl
theorem wv (i:Nat) (p:Int) (hi:i<20) (h0:clo i<=p) (h1:p<=chi i):cus i=us p:=by
 rcases i with _|_|_|_|_|_|_|_|_|_|_|_|_|_|_|_|_|_|_|_|i
 all_goals simp [clo,chi,cus,eD,List.getD] at h0 h1 ⊢
 all_goals first|exact (Aj (by unfold ltr;omega)).symm|exact (Ak (by unfold mrk;omega)).symm|omega
theorem ww (p:Int) (h:∀k,k<20->p<clo k\/chi k<p):us p=0:=by
 have a0:=h 0 (by omega);have a1:=h 1 (by omega);have a2:=h 2 (by omega);have a3:=h 3 (by omega);have a4:=h 4 (by omega);have a5:=h 5 (by omega);have a6:=h 6 (by omega);have a7:=h 7 (by omega);have a8:=h 8 (by omega);have a9:=h 9 (by omega);have a10:=h 10 (by omega);have a11:=h 11 (by omega);have a12:=h 12 (by omega);have a13:=h 13 (by omega);have a14:=h 14 (by omega);have a15:=h 15 (by omega);have a16:=h 16 (by omega);have a17:=h 17 (by omega);have a18:=h 18 (by omega);have a19:=h 19 (by omega);simp only [clo,chi,eD,List.getD,List.getElem?_cons_zero,List.getElem?_cons_succ,Option.getD_some] at a0 a1 a2 a3 a4 a5 a6 a7 a8 a9 a10 a11 a12 a13 a14 a15 a16 a17 a18 a19;refine BQ ?_ ?_
 ·unfold ltr;omega
 ·unfold mrk;omega
theorem zb (i k:Nat) (hk:k<20) (h:i<=k):clo i<=clo k:=by
 have:∀k,k<20->∀i,i<20->i<=k->clo i<=clo k:=by decide +kernel
 exact this k hk i (by omega) h
theorem kR (i:Nat) (p:Int) (h:∀k,k<i->chi k<p) (h2:i<20->p<clo i):us p=0:=by
 refine ww p fun k hk=>?_
 by_cases hki:k<i
 ·exact .inr (h k hki)
 ·have:=h2 (by omega);have:=zb i k hk (by omega);omega
theorem jN {a b:Int}(h:a=b):Ending.returned (.int .i64 a)=.returned (.int .i64 b):=by rw [h]
theorem fo {a b:Bool}(h:a=b):Ending.returned (.bool a)=.returned (.bool b):=by rw [h]
theorem pZ (p:Int) (w:World) (hT:oz w) :
  Da 134 #[.int .i64 p] w fun e w'=>e=.returned (.int .i64 (us p))/\w'=w:=by
 go_enter Tryz.func134,Tryz.ntmps134
 go_wp2_with fail
 go_loopw [4] (fun i wr=>wr=w/\∃k:Nat,k<=20/\i=.int .i64 k/\∀j,j<k->chi j<p) (fun i _=>20-(intOf i).toNat)
 case atStart=>exact ⟨rfl,0,by omega,rfl,fun j hj=>by omega⟩
 case round=>
  obtain ⟨rfl,k,hk,rfl,hall⟩:=hrel
  by_cases h16:k<20
  ·obtain ⟨c0,c1,c2⟩:=hT k h16;have HA:Hid (∀j,j<k->chi j<p):=hall;have HH:Hid (clo k<=p->p<=chi k->cus k=us p):=wv k p h16;have HM:Hid (p<clo k->us p=0):=fun h=>kR k p hall (fun _=>h)
   have HN:Hid (chi k<p->∀j,j<k+1->chi j<p):=fun h j hj=>by
    by_cases e:j=k
    ·subst e;exact h
    ·exact hall j (by omega)
   clear hall hT
   generalize clo k=l at *
   generalize cus k=c at *
   generalize chi k=u at *
   by_cases h1:p<l
   ·go_wp2_with fail
    go_ret
    exact ⟨jN (HM.out h1).symm,rfl⟩
   ·by_cases h2:p<=u
    ·go_wp2_with fail
     go_ret
     exact ⟨jN (HH.out (by omega) h2),rfl⟩
    ·go_wp2_with fail
     exact ⟨⟨trivial,k+1,by omega,by go_num,HN.out (by omega)⟩,by simp [intOf];omega⟩
  ·have HM:Hid (us p=0):=kR k p hall (fun h=>absurd h h16);clear hall hT
   go_wp2_with fail
   go_ret
   exact ⟨jN HM.out.symm,rfl⟩
theorem cg (p:Int) (w:World) (hT:oz w) :
  Da 86 #[.int .i64 p] w fun e w'=>e=.returned (.bool (lt' p))/\w'=w:=by
 go_enter Tryz.func86,Tryz.ntmps86
 go_wp2_with fail
 refine (pZ p w hT).mono ?_;rintro e w' ⟨rfl,rfl⟩;have HU:Hid ((us p == 2)=lt' p):=BR p
 generalize us p=u at *
 go_wp2_with fail
 go_ret
 exact ⟨fo HU.out,rfl⟩
theorem nw (p:Int) (w:World) (hT:oz w) :
  Da 135 #[.int .i64 p] w fun e w'=>e=.returned (.bool (pr' p))/\w'=w:=by
 go_enter Tryz.func135,Tryz.ntmps135
 go_wp2_with fail
 refine (pZ p w hT).mono ?_;rintro e w' ⟨rfl,rfl⟩;have HU:Hid ((us p != 0)=pr' p):=BP p
 generalize us p=u at *
 go_wp2_with fail
 go_ret
 exact ⟨fo HU.out,rfl⟩
end Go.Proofs.YtpdlohfdjiaegaaGreatDoor.Lx
namespace Go.Proofs.YtpdlohfdjiaegaaGreatDoor.Lx
open Go.RowKit Go.Deep
variable {s x:ByteArray}
theorem gP {b:Nat}{w v:World}(h:Below b w v):∀m,Below b w (v.drewN m)
 |0=>h
 |m+1=>(gP h m).drew
def ky (s:ByteArray):Bool:=cj.any fun x=>decide (s=x)
theorem yD (s:ByteArray) (h:∀j,j<24->s≠cj.getD j ByteArray.empty):ky s=false:=by
 unfold ky;rw [List.any_eq_false];intro x hm hx;obtain ⟨j,hj,e⟩:=List.mem_iff_getElem.1 hm;have hj':j<24:=hj
 apply h j hj'
 rw [List.getD,List.getElem?_eq_getElem hj];exact (of_decide_eq_true hx).trans e.symm
theorem A1 (s:ByteArray) (j:Nat) (hj:j<24) (h:s=cj.getD j ByteArray.empty):ky s=true:=by
 unfold ky;rw [List.any_eq_true];refine ⟨cj[j]'hj,List.getElem_mem _,decide_eq_true ?_⟩;rw [h,List.getD,List.getElem?_eq_getElem (show j<cj.length from hj)];rfl
theorem qa (h:s=x):(s.toList == x.toList)=true:=by subst h;simp
theorem kZ (s:ByteArray):s.toList=s.data.toList:=ByteArray.toList_eq s
theorem jh (h:s≠x):(s.toList == x.toList)=false:=by
 rw [beq_eq_false_iff_ne,kZ,kZ];intro e
 apply h
 have:=Array.toList_inj.1 e;cases s;cases x;simp_all
theorem sU (s:ByteArray) (w:World) (hT:tR w) :
  Da 184 #[.string s] w fun e w'=>e=.returned (.bool (ky s))/\w'=w:=by
 go_enter Tryz.func184,Tryz.ntmps184
 go_wp2_with fail
 go_loopw [4] (fun i wr=>wr=w/\∃k:Nat,k<=24/\i=.int .i64 k/\∀j,j<k->s≠cj.getD j ByteArray.empty) (fun i _=>24-(intOf i).toNat)
 case atStart=>exact ⟨rfl,0,by omega,rfl,fun j hj=>by omega⟩
 case round=>
  obtain ⟨rfl,k,hk,rfl,hall⟩:=hrel
  by_cases h24:k<24
  ·have c0:=hT k h24;have HH:Hid (s=cj.getD k ByteArray.empty->ky s=true):=A1 s k h24
   have HN:Hid (s≠cj.getD k ByteArray.empty->∀j,j<k+1->s≠cj.getD j ByteArray.empty):=fun h j hj=>by
    by_cases e:j=k
    ·subst e;exact h
    ·exact hall j (by omega)
   clear hall hT
   generalize cj.getD k ByteArray.empty=x at *
   by_cases e:s=x
   ·have e1:=qa e;have HE:Hid (s=x):=e;clear e
    go_wp2_with fail
    go_ret
    exact ⟨fo (HH.out HE.out).symm,rfl⟩
   ·have e1:=jh e;have HE:Hid (s≠x):=e;clear e
    go_wp2_with fail
    exact ⟨⟨trivial,k+1,by omega,by go_num,HN.out HE.out⟩,by simp [intOf];omega⟩
  ·have HM:Hid (ky s=false):=yD s (fun j hj=>hall j (by omega));clear hall hT
   go_wp2_with fail
   go_ret
   exact ⟨fo HM.out.symm,rfl⟩
def pre (s:ByteArray) (a:Nat) (t:ByteArray):Bool:=decide (a+t.size<=s.size/\s.extract a (a+t.size)=t)
def sg (s:ByteArray) (a:Nat):ByteArray:=(aL.find? (pre s a)).getD ByteArray.empty
theorem nY (f:ByteArray->Bool):∀(l:List ByteArray) (k:Nat),k<l.length->(∀j,j<k->f (l.getD j ByteArray.empty)=false)->f (l.getD k ByteArray.empty)=true->l.find? f=some (l.getD k ByteArray.empty)
 |[],k,h,_,_=>by simp at h
 |x :: r,0,_,_,h=>by
  have h':f x=true:=h;rw [List.find?_cons_of_pos h'];rfl
 |x :: r,k+1,hk,hj,h=>by
  have h0:f x=false:=hj 0 (by omega);rw [List.find?_cons_of_neg (by rw [h0];simp)];exact nY f r k (by simpa using hk) (fun j hj'=>hj (j+1) (by omega)) h
theorem td (f:ByteArray->Bool) (l:List ByteArray) (h:∀j,j<l.length->f (l.getD j ByteArray.empty)=false):l.find? f=none:=by
 rw [List.find?_eq_none];intro x hx;obtain ⟨j,hj,e⟩:=List.mem_iff_getElem.1 hx;have:=h j hj;rw [List.getD,List.getElem?_eq_getElem hj] at this;subst e
 simpa using this
theorem Au (s:ByteArray) (a k:Nat) (hk:k<21) (h:∀j,j<k->pre s a (aL.getD j ByteArray.empty)=false) (h1:pre s a (aL.getD k ByteArray.empty)=true):sg s a=aL.getD k ByteArray.empty:=by
 unfold sg;rw [nY _ aL k hk h h1];rfl
theorem xJ (s:ByteArray) (a:Nat) (h:∀j,j<21->pre s a (aL.getD j ByteArray.empty)=false):sg s a=ByteArray.empty:=by
 unfold sg;rw [td _ aL h];rfl
theorem we (s:ByteArray) (a n:Nat) (h:a+n<=s.size):(s.extract a s.size).extract 0 n=s.extract a (a+n):=by
 refine cZ _ _ ?_ ?_
 ·rw [aj _ 0 n (by rw [aj s a _ (Nat.le_refl _)];omega),aj s a _ h];omega
 ·intro i hi;rw [aj _ 0 n (by rw [aj s a _ (Nat.le_refl _)];omega)] at hi;rw [aF _ 0 n i (by omega),aF s a _ _ (by omega),aF s a _ _ (by omega),Nat.zero_add]
theorem yJ (s t:ByteArray) (w:World) :
  Da 141 #[.string s,.string t] w fun e w'=>e=.returned (.bool (pre s 0 t))/\w'=w:=by
 by_cases h1:t.size<=s.size
 ·have h1':decide ((s.size:Int)>=(t.size:Int))=true:=by simpa using h1
  have h2:(0:Int)<=(t.size:Int):=by omega
  have h3:(t.size:Int)<=(s.size:Int):=by omega
  by_cases h4:s.extract 0 t.size=t
  ·have e1:=qa h4
   have HB:Hid (pre s 0 t=true):=by
    unfold pre;exact decide_eq_true ⟨by omega,by rw [Nat.zero_add];exact h4⟩
   clear h4
   go_enter Tryz.func141,Tryz.ntmps141
   go_wp2_with fail
   go_ret
   exact ⟨fo HB.out.symm,rfl⟩
  ·have e1:=jh h4
   have HB:Hid (pre s 0 t=false):=by
    unfold pre;refine decide_eq_false fun h=>h4 ?_
    have:=h.2
    rwa [Nat.zero_add] at this
   clear h4
   go_enter Tryz.func141,Tryz.ntmps141
   go_wp2_with fail
   go_ret
   exact ⟨fo HB.out.symm,rfl⟩
 ·have h1':decide ((s.size:Int)>=(t.size:Int))=false:=by simp;omega
  have HB:Hid (pre s 0 t=false):=by
   unfold pre;exact decide_eq_false fun h=>h1 (by have:=h.1;omega)
  go_enter Tryz.func141,Tryz.ntmps141
  go_wp2_with fail
  go_ret
  exact ⟨fo HB.out.symm,rfl⟩
theorem lT (s t:ByteArray) (w:World) :
  Da 90 #[.string s,.string t] w fun e w'=>e=.returned (.bool (pre s 0 t))/\w'=w:=by
 go_enter Tryz.func90,Tryz.ntmps90
 go_wp2_with fail
 refine (yJ s t w).mono ?_;rintro e w' ⟨rfl,rfl⟩
 generalize hb:pre s 0 t=b
 have HB:Hid (pre s 0 t=b):=hb;clear hb
 go_wp2_with fail
 go_ret
 exact ⟨fo HB.out.symm,rfl⟩
theorem gA (s t:ByteArray) (a:Nat) (ha:a<=s.size):pre (s.extract a s.size) 0 t=pre s a t:=by
 unfold pre;rw [aj s a _ (Nat.le_refl _)]
 by_cases h:a+t.size<=s.size
 ·rw [Nat.zero_add,we s a t.size h];exact decide_eq_decide.2 ⟨fun ⟨_,h2⟩=>⟨h,h2⟩,fun ⟨_,h2⟩=>⟨by omega,h2⟩⟩
 ·rw [decide_eq_false (fun h2=>h (by have:=h2.1;omega)),decide_eq_false (fun h2=>h h2.1)]
theorem ql (s:ByteArray) (a:Nat) (w:World) (hT:tS w) (ha:a<s.size) :
  Da 142 #[.string s,.int .i64 a] w fun e w'=>e=.returned (.string (sg s a))/\Below w.heap.size w w':=by
 have h1:decide ((a:Int)<0)=false:=by simp
 have h2:decide ((a:Int)>=(s.size:Int))=false:=by simp;omega
 have h3:(0:Int)<=(a:Int):=by omega
 have h4:(a:Int)<=(s.size:Int):=by omega
 go_enter Tryz.func142,Tryz.ntmps142
 go_wp2_with fail
 go_loopw [14] (fun i wr=>∃k:Nat,k<=21/\i=.int .i64 k/\(∀j,j<k->pre s a (aL.getD j ByteArray.empty)=false)/\Below w.heap.size w wr) (fun i _=>21-(intOf i).toNat)
 case atStart=>exact ⟨0,by omega,rfl,fun j hj=>by omega,Below.refl _ _⟩
 case round=>
  obtain ⟨k,hk,rfl,hall,hb⟩:=hrel
  by_cases h21:k<21
  ·have c0:=(hT.below hb) k h21;have i1:(0:Int)<=(k:Int):=by omega
   have i2:(k:Int)<21:=by omega
   have HH:Hid (pre s a (aL.getD k ByteArray.empty)=true->sg s a=aL.getD k ByteArray.empty):=Au s a k h21 hall
   have HN:Hid (pre s a (aL.getD k ByteArray.empty)=false->∀j,j<k+1->pre s a (aL.getD j ByteArray.empty)=false):=fun h j hj=>by
    by_cases e:j=k
    ·subst e;exact h
    ·exact hall j (by omega)
   clear hall hT
   generalize aL.getD k ByteArray.empty=x at *
   have HC:Hid (∀W,Da 90 #[.string (s.extract a s.size),.string x] W fun e w'=>e=.returned (.bool (pre s a x))/\w'=W):=fun W=>by
    rw [<-gA s x a (by omega)];exact lT _ _ W
   cases hp:pre s a x
   ·rw [hp] at HC;have HP:Hid (pre s a x=false):=hp;clear hp HH
    go_wp2_with fail
    go_quiet ((go_at_call 90;exact Calls.quiet_of_same (HC.out _)))
    go_wp2_with fail
    exact ⟨⟨k+1,by omega,by go_num,HN.out HP.out,gP hb _⟩,by simp [intOf];omega⟩
   ·rw [hp] at HC;have HP:Hid (pre s a x=true):=hp;clear hp HN
    go_wp2_with fail
    go_quiet ((go_at_call 90;exact Calls.quiet_of_same (HC.out _)))
    go_wp2_with fail
    go_ret
    exact ⟨by rw [HH.out HP.out];rfl,gP hb _⟩
  ·have HM:Hid (sg s a=ByteArray.empty):=xJ s a (fun j hj=>hall j (by omega));clear hall hT
   go_wp2_with fail
   go_ret
   exact ⟨by rw [HM.out];rfl,hb⟩
end Go.Proofs.YtpdlohfdjiaegaaGreatDoor.Lx
namespace Go.Proofs.YtpdlohfdjiaegaaGreatDoor.Lx
open Go.RowKit
theorem na {p:Int}(h:lt' p=true):pr' p=true:=by unfold pr';rw [h];rfl
end Go.Proofs.YtpdlohfdjiaegaaGreatDoor.Lx
namespace Go.Proofs.YtpdlohfdjiaegaaGreatDoor.Lx
open Go.RowKit Go.Deep
variable {s t:ByteArray}{a:Nat}
theorem uW (h:a+t.size<=s.size):pre s a t=decide (s.extract a (a+t.size)=t):=by
 unfold pre;exact decide_eq_decide.2 ⟨fun h2=>h2.2,fun h2=>⟨h,h2⟩⟩
theorem qw (h:¬a+t.size<=s.size):pre s a t=false:=by
 unfold pre;exact decide_eq_false fun h2=>h h2.1
end Go.Proofs.YtpdlohfdjiaegaaGreatDoor.Lx
