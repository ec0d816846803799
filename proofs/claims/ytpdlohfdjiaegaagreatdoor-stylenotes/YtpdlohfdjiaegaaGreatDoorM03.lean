import Derived.Laws.RangeAny
import Derived.Test.YtpdlohfdjiaegaaGreatDoorM02
set_option linter.unusedVariables false
set_option linter.unusedSimpArgs false
namespace Go.Proofs.YtpdlohfdjiaegaaGreatDoor.Lx
/-
 The plain mathematics of layer 1: characters by the model's decoding.
-/
def dp (s:ByteArray) (i:Nat):Nat:=(Utf8.decode s i).1
def dw (s:ByteArray) (i:Nat):Nat:=(Utf8.decode s i).2
theorem at_big (s:ByteArray) (i:Nat) (h:s.size≤i):(s.get! i).toNat=0:=by
 have e:s.get! i=default:=by
  show s.data[i]! = default
  exact getElem!_neg _ _ (by show ¬i<s.data.size;have:s.data.size=s.size:=rfl;omega)
 rw [e];rfl
theorem dw_facts (s:ByteArray) (i:Nat) (h:i<s.size):1≤dw s i∧dw s i≤4∧i+dw s i≤s.size:=by
 unfold dw Utf8.decode
 simp only []
 repeat' split
 all_goals simp_all
 all_goals omega
theorem dp_le (s:ByteArray) (i:Nat):dp s i≤1114111:=by
 have hb:∀k,(s.get! (i+k)).toNat<256:=fun k=>(s.get! (i+k)).toNat_lt
 have h0:=hb 0;have h1:=hb 1;have h2:=hb 2;have h3:=hb 3
 unfold dp Utf8.decode
 simp only []
 repeat' split
 all_goals simp_all [Utf8.runeError,Utf8.valid]
 all_goals omega
theorem decode_congr (s t:ByteArray) (i j:Nat) (h:∀k,k<4→t.get! (j+k)=s.get! (i+k)) (hz:∀k,k<4→(j+k<t.size↔i+k<s.size)):Utf8.decode t j=Utf8.decode s i:=by
 unfold Utf8.decode
 simp only [h 0 (by omega),h 1 (by omega),h 2 (by omega),h 3 (by omega),hz 1 (by omega),hz 2 (by omega),hz 3 (by omega)]
theorem get_ext (s:ByteArray) (a b i:Nat):(s.extract a b).get! i=if a+i<b then s.get! (a+i) else default:=by
 have e:∀(x:ByteArray) (k:Nat),x.get! k=x.data.toList[k]?.getD default:=by
  intro x k
  show x.data[k]! = _
  rw [Array.getElem!_eq_getD,Array.getD_eq_getD_getElem?,Array.getElem?_toList]
 rw [e,e,ByteArray.data_extract,Array.toList_extract]
 simp only [List.extract_eq_take_drop,List.getElem?_take,List.getElem?_drop]
 by_cases h:a+i<b
 ·rw [if_pos h,if_pos (by omega)]
 ·rw [if_neg h,if_neg (by omega)];rfl
theorem size_ext (s:ByteArray) (a b:Nat) (h:b≤s.size):(s.extract a b).size=b-a:=by
 rw [ByteArray.size_extract];omega
theorem decode_tail (s:ByteArray) (a i:Nat) (h:a≤s.size):Utf8.decode (s.extract a s.size) i=Utf8.decode s (a+i):=by
 refine decode_congr _ _ _ _ (fun k _=>?_) (fun k _=>by rw [size_ext s a _ (Nat.le_refl _)];omega)
 rw [get_ext]
 by_cases hk:a+(i+k)<s.size
 ·rw [if_pos hk,Nat.add_assoc]
 ·rw [if_neg hk]
  show _=s.data[a+i+k]!
  exact (getElem!_neg _ _ (by show ¬_<s.data.size;have:s.data.size=s.size:=rfl;omega)).symm
def gdb (p n:Int):Bool:=(p != 65533) || decide (1<n)
def gd (s:ByteArray) (i:Nat):Bool:=gdb (dp s i) (dw s i)
def goB (s t:ByteArray):Bool:=gd (s++t) 0 && decide (s.size<dw (s++t) 0)
def opn (s:ByteArray):Bool:=goB s ⟨#[128,128,128]⟩ || goB s ⟨#[191,191,191]⟩
def whF (s:ByteArray):Nat→Nat→Nat
 |0,_=>s.size
 |f+1,n=>if n≤s.size then (if opn (s.extract (s.size-n) s.size)=true then s.size-n else whF s f (n+1)) else s.size
def plc (s:ByteArray):Nat→Nat→List Nat
 |0,_=>[]
 |f+1,i=>if i<s.size then i :: plc s f (i+dw s i) else []
theorem plc_fuel (s:ByteArray):∀(f g i:Nat),s.size≤i+f→s.size≤i+g→plc s f i=plc s g i
 |0,0,_,_,_=>rfl
 |0,g+1,i,h,_=>by unfold plc;rw [if_neg (by omega)]
 |f+1,0,i,_,h=>by unfold plc;rw [if_neg (by omega)]
 |f+1,g+1,i,hf,hg=>by
  unfold plc
  split
  ·rename_i hi
   have:=(dw_facts s i hi).1
   rw [plc_fuel s f g (i+dw s i) (by omega) (by omega)]
  ·rfl
def pl (s:ByteArray) (i:Nat):List Nat:=plc s (s.size-i) i
def P (s:ByteArray):List Nat:=pl s 0
theorem pl_lt (s:ByteArray) (i:Nat) (h:i<s.size):pl s i=i :: pl s (i+dw s i):=by
 have hw:=dw_facts s i h
 unfold pl
 obtain ⟨f,hf⟩:∃f,s.size-i=f+1:=⟨s.size-i-1,by omega⟩
 rw [hf]
 show (if i<s.size then i :: plc s f (i+dw s i) else [])=_
 rw [if_pos h,plc_fuel s f (s.size-(i+dw s i)) _ (by omega) (by omega)]
theorem pl_ge (s:ByteArray) (i:Nat) (h:s.size≤i):pl s i=[]:=by
 unfold pl
 rw [show s.size-i=0 by omega];rfl
theorem pl_len (s:ByteArray):∀(f i:Nat),(plc s f i).length≤f
 |0,_=>by simp [plc]
 |f+1,i=>by
  unfold plc
  split
  ·simp;exact pl_len s f _
  ·simp
theorem P_len (s:ByteArray):(P s).length≤s.size:=by
 unfold P pl;exact Nat.le_trans (pl_len s _ _) (by omega)
end Go.Proofs.YtpdlohfdjiaegaaGreatDoor.Lx
namespace Go.Proofs.YtpdlohfdjiaegaaGreatDoor.Lx
open Go.RowKit
theorem w64 (n:Nat) (h:n≤1114111):wrap64 (n:Int)=n:=by unfold wrap64;omega
theorem ret_int {k:IntKind}{a b:Int}(h:a=b):Ending.returned (.int k a)=.returned (.int k b):=by rw [h]
theorem below_iter (w:World) (s:ByteArray) (p:Nat):Below w.heap.size w (w.iter s p):=(Below.refl _ _).alloc (Nat.le_refl _) _
set_option maxHeartbeats 400000 in
theorem count_any (s:ByteArray) (w:World) (hs:s.size≤maxLen) :
  Calls Tryz.prog 186 #[.string s] w fun e w'=>e=.returned (.int .i64 (P s).length)∧∃pos,w'=w.iter s pos:=by
 unfold maxLen at hs
 have hP:=P_len s
 go_enter Tryz.func186,Tryz.ntmps186
 go_wp2
 go_loopw [3] (fun n w'=>∃(pos k:Nat),w'=w.iter s pos∧n=.int .i64 k∧k+(pl s pos).length=(P s).length) (fun _ w'=>s.size-w'.iterPos w.heap.size)
 case atStart=>exact ⟨0,0,rfl,rfl,by simp [P]⟩
 case round=>
  obtain ⟨pos,k,rfl,rfl,hc⟩:=hrel
  have hkb:k≤(P s).length:=by omega
  by_cases hp:pos<s.size
  ·have hnx:∀ty,(Instr.next (.pointer (some ⟨w.heap.size,0,none⟩)) true ty).run Tryz.prog (w.iter s pos)=_:=fun ty=>run_next_any w s pos ty hp
   have hw:=dw_facts s pos hp
   have hlen:(pl s pos).length=(pl s (pos+dw s pos)).length+1:=by rw [pl_lt s pos hp];simp
   have HC:Hid (k+1+(pl s (pos+dw s pos)).length=(P s).length):=by show _=_;omega
   have hk1:k+1≤(P s).length:=by omega
   clear hc hlen
   unfold dw at hw
   go_wp2
   go_roundw
   case rel=>exact ⟨pos+dw s pos,k+1,rfl,by go_num,HC.out⟩
   case measure=>
    simp
    omega
  ·have hnx:∀ty,(Instr.next (.pointer (some ⟨w.heap.size,0,none⟩)) true ty).run Tryz.prog (w.iter s pos)=_:=fun ty=>run_next_end w s pos ty hp
   have hz:(pl s pos).length=0:=by rw [pl_ge s pos (by omega)];rfl
   have HC:Hid (k=(P s).length):=by show _=_;omega
   clear hc hz
   go_wp2
   go_ret
   exact ⟨ret_int (by rw [HC.out]),_,rfl⟩
set_option maxHeartbeats 400000 in
theorem first_any (s:ByteArray) (w:World) (hs:s.size≤maxLen) (h0:0<s.size) :
  Calls Tryz.prog 130 #[.string s] w fun e w'=>e=.returned (.tuple #[.int .i32 (dp s 0),.int .i64 (dw s 0)])∧Below w.heap.size w w':=by
 unfold maxLen at hs
 have hw:=dw_facts s 0 h0
 go_enter Tryz.func130,Tryz.ntmps130
 go_wp2
 go_loopw [4] (fun p w'=>w'=w.iter s 0∨(p=.int .i32 (dp s 0)∧w'=w.iter s (dw s 0))) (fun _ w'=>s.size-w'.iterPos w.heap.size)
 case atStart=>exact .inl rfl
 case round=>
  rcases hrel with rfl|⟨rfl,rfl⟩
  ·have hnx:∀ty,(Instr.next (.pointer (some ⟨w.heap.size,0,none⟩)) true ty).run Tryz.prog (w.iter s 0)=_:=fun ty=>run_next_any w s 0 ty h0
   unfold dw at hw
   go_wp2
   go_roundw
   case rel=>exact .inr ⟨rfl,by simp [dw]⟩
   case measure=>simp;omega
  ·by_cases hp:dw s 0<s.size
   ·have hnx:∀ty,(Instr.next (.pointer (some ⟨w.heap.size,0,none⟩)) true ty).run Tryz.prog (w.iter s (dw s 0))=_:=fun ty=>run_next_any w s (dw s 0) ty hp
    go_wp2
    go_ret2
    exact ⟨rfl,below_iter _ _ _⟩
   ·have hnx:∀ty,(Instr.next (.pointer (some ⟨w.heap.size,0,none⟩)) true ty).run Tryz.prog (w.iter s (dw s 0))=_:=fun ty=>run_next_end w s (dw s 0) ty hp
    have HE:Hid (s.size=dw s 0):=by show _=_;omega
    go_wp2
    go_ret2
    exact ⟨by rw [HE.out];rfl,below_iter _ _ _⟩
set_option maxHeartbeats 400000 in
theorem good_any (p n:Int) (w:World) :
  Calls Tryz.prog 131 #[.int .i32 p,.int .i64 n] w fun e w'=>e=.returned (.bool (gdb p n))∧w'=w:=by
 by_cases hp:p=65533
 ·have e:gdb p n=decide (1<n):=by simp [gdb,hp]
  have h1:(p != 65533)=false:=by simp [hp]
  rw [e]
  clear e hp
  go_enter Tryz.func131,Tryz.ntmps131
  go_wp2
  go_ret
  exact ⟨rfl,rfl⟩
 ·have e:gdb p n=true:=by simp [gdb,hp]
  have h1:(p != 65533)=true:=by simp [hp]
  rw [e]
  clear e hp
  go_enter Tryz.func131,Tryz.ntmps131
  go_wp2
  go_ret
  exact ⟨rfl,rfl⟩
set_option maxHeartbeats 400000 in
theorem next_in (s:ByteArray) (a:Int) (w:World) (hs:s.size≤maxLen) (h0:0≤a) (h1:a<s.size) :
  Calls Tryz.prog 82 #[.string s,.int .i64 a] w fun e w'=>e=.returned (.tuple #[.int .i64 (dp s a.toNat),.int .i64 (dw s a.toNat),.bool (gd s a.toNat)])∧Below w.heap.size w w':=by
 obtain ⟨n,rfl⟩:=Int.eq_ofNat_of_zero_le h0
 rw [Int.toNat_natCast]
 have hz:(s.extract n s.size).size=s.size-n:=size_ext s n _ (Nat.le_refl _)
 have Hp:Hid (dp (s.extract n s.size) 0=dp s n):=by show _=_;unfold dp;rw [decode_tail s n 0 (by omega)];rfl
 have Hw:Hid (dw (s.extract n s.size) 0=dw s n):=by show _=_;unfold dw;rw [decode_tail s n 0 (by omega)];rfl
 unfold maxLen at hs
 go_enter Tryz.func82,Tryz.ntmps82
 go_wp2_with fail
 refine (first_any _ _ (by unfold maxLen;omega) (by omega)).mono ?_
 rintro e w1 ⟨rfl,hb1⟩
 rw [Hp.out,Hw.out]
 go_wp2_with fail
 refine (good_any _ _ _).mono ?_
 rintro e w2 ⟨rfl,rfl⟩
 go_wp2_with fail
 go_ret3
 exact ⟨by show Ending.returned (.tuple #[.int .i64 (wrap64 (dp s n)),_,_])=_;rw [w64 _ (dp_le s n)];rfl,hb1⟩
set_option maxHeartbeats 400000 in
theorem next_out (s:ByteArray) (a:Int) (w:World) (hs:s.size≤maxLen) (h1:a<0∨s.size≤a) :
  Calls Tryz.prog 82 #[.string s,.int .i64 a] w fun e w'=>e=.returned (.tuple #[.int .i64 0,.int .i64 0,.bool false])∧Below w.heap.size w w':=by
 unfold maxLen at hs
 rcases h1 with h1|h1
 ·go_enter Tryz.func82,Tryz.ntmps82
  go_wp2_with fail
  go_ret3
  exact ⟨rfl,Below.refl _ _⟩
 ·have h2:¬a<0:=by omega
  go_enter Tryz.func82,Tryz.ntmps82
  go_wp2_with fail
  go_ret3
  exact ⟨rfl,Below.refl _ _⟩
theorem Tryz.info3:(Tryz.prog.info? 3).map (fun i=>(i.zero,i.size,i.bytes))=some (some (.int .i64 0),1,8):=by kernel_rfl
end Go.Proofs.YtpdlohfdjiaegaaGreatDoor.Lx
namespace Go.Proofs.YtpdlohfdjiaegaaGreatDoor.Lx
def by8 (s:ByteArray) (i:Nat):Nat:=(s.get! i).toNat
def ob (s:ByteArray) (i:Nat):Option Nat:=if i<s.size then some (by8 s i) else none
def ct (c:Option Nat):Bool:=match c with|some b=>b / 64 == 2|none=>false
def vv (c:Option Nat):Nat:=c.getD 0 % 64
def D (b0:Nat) (c1 c2 c3:Option Nat):Nat × Nat:=
 if b0<128 then (b0,1)
 else if b0 / 32 == 6 && ct c1 then (if b0 % 32*64+vv c1≥128 then (b0 % 32*64+vv c1,2) else (65533,1))
 else if b0 / 16 == 14 && ct c1 && ct c2 then
  (if b0 % 16*4096+vv c1*64+vv c2≥2048 && Utf8.valid (b0 % 16*4096+vv c1*64+vv c2:Nat) then (b0 % 16*4096+vv c1*64+vv c2,3) else (65533,1))
 else if b0 / 8 == 30 && ct c1 && ct c2 && ct c3 then
  (if b0 % 8*262144+vv c1*4096+vv c2*64+vv c3≥65536 && Utf8.valid (b0 % 8*262144+vv c1*4096+vv c2*64+vv c3:Nat) then (b0 % 8*262144+vv c1*4096+vv c2*64+vv c3,4) else (65533,1))
 else (65533,1)
theorem ob_ct (s:ByteArray) (i:Nat):(decide (i<s.size) && (s.get! i).toNat / 64 == 2)=ct (ob s i):=by
 unfold ob ct by8
 by_cases h:i<s.size <;> simp [h]
theorem ob_vv (s:ByteArray) (i:Nat):vv (ob s i)=(s.get! i).toNat % 64:=by
 unfold ob vv by8
 by_cases h:i<s.size
 ·simp [h]
 ·simp [h,at_big s i (by omega)]
theorem decode_eq (s:ByteArray) (i:Nat):Utf8.decode s i=D (by8 s i) (ob s (i+1)) (ob s (i+2)) (ob s (i+3)):=by
 unfold Utf8.decode D
 simp only [Nat.add_zero,ob_ct,ob_vv,by8,Utf8.runeError]
def gD (x:Nat × Nat):Prop:=x.1≠65533∨1<x.2
theorem not_gD:¬gD (65533,1):=by unfold gD;simp
theorem D_ways (b0:Nat) (c1 c2 c3:Option Nat) :
  (D b0 c1 c2 c3=(65533,1))∨(b0<128∧D b0 c1 c2 c3=(b0,1)) ∨
  (b0 / 32=6∧ct c1=true∧(D b0 c1 c2 c3).2=2∧∀d2 d3,D b0 c1 d2 d3=D b0 c1 c2 c3) ∨
  (b0 / 16=14∧ct c1=true∧ct c2=true∧(D b0 c1 c2 c3).2=3∧∀d3,D b0 c1 c2 d3=D b0 c1 c2 c3) ∨
  (b0 / 8=30∧ct c1=true∧ct c2=true∧ct c3=true∧(D b0 c1 c2 c3).2=4):=by
 by_cases h1:b0<128
 ·exact .inr (.inl ⟨h1,by unfold D;rw [if_pos h1]⟩)
 ·have e:∀x1 x2 x3,D b0 x1 x2 x3=_:=fun x1 x2 x3=>by unfold D;rw [if_neg h1]
  by_cases h2:(b0 / 32 == 6 && ct c1)=true
  ·by_cases h3:b0 % 32*64+vv c1≥128
   ·refine .inr (.inr (.inl ?_))
    have h2':=h2
    simp at h2'
    refine ⟨h2'.1,h2'.2,?_,fun d2 d3=>?_⟩
    ·rw [e,if_pos h2,if_pos h3]
    ·rw [e,e,if_pos h2,if_pos h2]
   ·exact .inl (by rw [e,if_pos h2,if_neg h3])
  ·by_cases h4:(b0 / 16 == 14 && ct c1 && ct c2)=true
   ·by_cases h5:(decide (b0 % 16*4096+vv c1*64+vv c2≥2048) && Utf8.valid (b0 % 16*4096+vv c1*64+vv c2:Nat))=true
    ·refine .inr (.inr (.inr (.inl ?_)))
     have h4':=h4
     simp at h4'
     refine ⟨h4'.1.1,h4'.1.2,h4'.2,?_,fun d3=>?_⟩
     ·rw [e,if_neg h2,if_pos h4,if_pos h5]
     ·rw [e,e,if_neg h2,if_pos h4,if_neg h2,if_pos h4]
    ·exact .inl (by rw [e,if_neg h2,if_pos h4,if_neg h5])
   ·by_cases h6:(b0 / 8 == 30 && ct c1 && ct c2 && ct c3)=true
    ·by_cases h7:(decide (b0 % 8*262144+vv c1*4096+vv c2*64+vv c3≥65536) && Utf8.valid (b0 % 8*262144+vv c1*4096+vv c2*64+vv c3:Nat))=true
     ·refine .inr (.inr (.inr (.inr ?_)))
      have h6':=h6
      simp at h6'
      exact ⟨h6'.1.1.1,h6'.1.1.2,h6'.1.2,h6'.2,by rw [e,if_neg h2,if_neg h4,if_pos h6,if_pos h7]⟩
     ·exact .inl (by rw [e,if_neg h2,if_neg h4,if_pos h6,if_neg h7])
    ·exact .inl (by rw [e,if_neg h2,if_neg h4,if_neg h6])
theorem D_notgood (b0:Nat) (c1 c2 c3:Option Nat) (h:¬gD (D b0 c1 c2 c3)):D b0 c1 c2 c3=(65533,1):=by
 unfold gD at h
 rcases D_ways b0 c1 c2 c3 with h1|⟨h1,h2⟩|⟨_,_,h2,_⟩|⟨_,_,_,h2,_⟩|⟨_,_,_,_,h2⟩
 ·exact h1
 ·rw [h2] at h;simp at h;omega
 ·rw [h2] at h;simp at h
 ·rw [h2] at h;simp at h
 ·rw [h2] at h;simp at h
theorem ct_less {c c':Option Nat}(h:c'=c∨c'=none) (hc:ct c'=true):c'=c:=by
 rcases h with h|h
 ·exact h
 ·rw [h] at hc;cases hc
theorem D_more (b0:Nat) {c1 c2 c3 c1' c2' c3':Option Nat}(h1:c1'=c1∨c1'=none) (h2:c2'=c2∨c2'=none) (h3:c3'=c3∨c3'=none) (hg:gD (D b0 c1' c2' c3')):D b0 c1 c2 c3=D b0 c1' c2' c3':=by
 rcases D_ways b0 c1' c2' c3' with e|⟨e1,e2⟩|⟨_,e1,_,e2⟩|⟨_,e1,e2,_,e3⟩|⟨_,e1,e2,e3,_⟩
 ·rw [e] at hg;exact absurd hg not_gD
 ·rw [e2];unfold D;rw [if_pos e1]
 ·obtain rfl:=ct_less h1 e1
  exact e2 _ _
 ·obtain rfl:=ct_less h1 e1
  obtain rfl:=ct_less h2 e2
  exact e3 _
 ·obtain rfl:=ct_less h1 e1
  obtain rfl:=ct_less h2 e2
  obtain rfl:=ct_less h3 e3
  rfl
theorem D_same (b0:Nat) {c1 c2 c3 c1' c2' c3':Option Nat}(h1:c1'=c1∨c1'=none) (h2:c2'=c2∨c2'=none) (h3:c3'=c3∨c3'=none)
  (k1:1<(D b0 c1 c2 c3).2→c1'=c1) (k2:2<(D b0 c1 c2 c3).2→c2'=c2) (k3:3<(D b0 c1 c2 c3).2→c3'=c3):D b0 c1' c2' c3'=D b0 c1 c2 c3:=by
 rcases D_ways b0 c1 c2 c3 with e|⟨e1,e2⟩|⟨_,e1,e0,e2⟩|⟨_,e1,e2,e0,e3⟩|⟨_,e1,e2,e3,e0⟩
 ·rw [e]
  refine D_notgood _ _ _ _ (fun hg=>?_)
  rw [←D_more b0 h1 h2 h3 hg,e] at hg
  exact not_gD hg
 ·rw [e2];unfold D;rw [if_pos e1]
 ·obtain rfl:=k1 (by omega)
  exact e2 _ _
 ·obtain rfl:=k1 (by omega)
  obtain rfl:=k2 (by omega)
  exact e3 _
 ·obtain rfl:=k1 (by omega)
  obtain rfl:=k2 (by omega)
  obtain rfl:=k3 (by omega)
  rfl
theorem gd_iff (s:ByteArray) (i:Nat):gd s i=true↔gD (Utf8.decode s i):=by
 unfold gd gdb gD dp dw
 simp
 omega
theorem gd_not (s:ByteArray) (i:Nat) (h:gd s i=false):Utf8.decode s i=(65533,1):=by
 rw [decode_eq]
 apply D_notgood
 rw [←decode_eq,←gd_iff,h]
 simp
theorem ct_some {c:Option Nat}(h:ct c=true):∃b,c=some b∧b / 64=2:=by
 cases c with
 |none=>cases h
 |some b=>exact ⟨b,rfl,by simpa [ct] using h⟩
theorem ob_some {s:ByteArray}{i b:Nat}(h:ob s i=some b):i<s.size∧by8 s i=b:=by
 unfold ob at h
 split at h
 ·exact ⟨‹_›,by simpa using h⟩
 ·cases h
theorem dec_inner (s:ByteArray) (i k:Nat) (h1:1≤k) (h2:k<dw s i):i+k<s.size∧by8 s (i+k) / 64=2:=by
 have hh:∀j,ct (ob s j)=true→j<s.size∧by8 s j / 64=2:=by
  intro j hj
  obtain ⟨b,hb,hb2⟩:=ct_some hj
  obtain ⟨g1,g2⟩:=ob_some hb
  exact ⟨g1,by rw [g2];exact hb2⟩
 unfold dw at h2
 rw [decode_eq] at h2
 rcases D_ways (by8 s i) (ob s (i+1)) (ob s (i+2)) (ob s (i+3)) with e|⟨_,e⟩|⟨_,e1,e0,_⟩|⟨_,e1,e2,e0,_⟩|⟨_,e1,e2,e3,e0⟩
 ·rw [e] at h2;simp at h2;omega
 ·rw [e] at h2;simp at h2;omega
 ·rw [e0] at h2
  obtain rfl:k=1:=by omega
  exact hh _ e1
 ·rw [e0] at h2
  rcases (show k=1∨k=2 by omega) with rfl|rfl
  ·exact hh _ e1
  ·exact hh _ e2
 ·rw [e0] at h2
  rcases (show k=1∨k=2∨k=3 by omega) with rfl|rfl|rfl
  ·exact hh _ e1
  ·exact hh _ e2
  ·exact hh _ e3
theorem by8_head (s:ByteArray) (a i:Nat) (h:i<a):by8 (s.extract 0 a) i=by8 s i:=by
 unfold by8
 rw [get_ext,if_pos (by omega),Nat.zero_add]
theorem ob_head (s:ByteArray) (a i:Nat) (ha:a≤s.size):ob (s.extract 0 a) i=if i<a then ob s i else none:=by
 unfold ob
 rw [size_ext s 0 a ha]
 by_cases h:i<a
 ·rw [if_pos (by omega),if_pos h,if_pos (by omega),by8_head s a i h]
 ·rw [if_neg (by omega),if_neg h]
theorem dec_head (s:ByteArray) (a i:Nat) (ha:a≤s.size) (hi:i<a) (hd:i+dw s i≤a):Utf8.decode (s.extract 0 a) i=Utf8.decode s i:=by
 unfold dw at hd
 rw [decode_eq] at hd
 rw [decode_eq,decode_eq,by8_head s a i hi,ob_head s a _ ha,ob_head s a _ ha,ob_head s a _ ha]
 refine D_same _ ?_ ?_ ?_ (fun h=>if_pos (by omega)) (fun h=>if_pos (by omega)) (fun h=>if_pos (by omega))
 all_goals split <;> simp
def st (s:ByteArray):Nat→Nat
 |0=>0
 |n+1=>if st s n<s.size then st s n+dw s (st s n) else st s n
theorem st_le (s:ByteArray):∀n,st s n≤s.size
 |0=>Nat.zero_le _
 |n+1=>by
  unfold st
  split
  ·exact (dw_facts s _ ‹_›).2.2
  ·exact st_le s n
theorem pl_st (s:ByteArray):∀n,pl s (st s n)=(P s).drop n
 |0=>rfl
 |n+1=>by
  have ih:=pl_st s n
  unfold st
  split
  ·rename_i h
   rw [pl_lt s _ h] at ih
   rw [←List.drop_drop,←ih];rfl
  ·rename_i h
   rw [ih]
   rw [pl_ge s _ (by omega)] at ih
   rw [←ih,←List.drop_drop,←ih];rfl
theorem st_lt (s:ByteArray) (k:Nat):st s k<s.size↔k<(P s).length:=by
 have h:=pl_st s k
 constructor
 ·intro hk
  rw [pl_lt s _ hk] at h
  have:=congrArg List.length h
  simp at this;omega
 ·intro hk
  apply Classical.byContradiction
  intro hn
  rw [pl_ge s _ (by omega)] at h
  have:=congrArg List.length h
  simp at this;omega
theorem P_at (s:ByteArray) (k:Nat) (h:k<(P s).length):(P s)[k]?=some (st s k):=by
 have h1:=pl_st s k
 rw [pl_lt s _ ((st_lt s k).2 h)] at h1
 have:=congrArg (fun l:List Nat=>l[0]?) h1
 simp at this
 exact this.symm
theorem st_end (s:ByteArray) (k:Nat) (h:(P s).length≤k):st s k=s.size:=by
 have h1:=st_le s k
 have h2:=st_lt s k
 omega
theorem st_succ (s:ByteArray) (k:Nat) (h:k<(P s).length):st s (k+1)=st s k+dw s (st s k):=by
 show (if st s k<s.size then st s k+dw s (st s k) else st s k)=_
 rw [if_pos ((st_lt s k).2 h)]
theorem st_cover (s:ByteArray) (j:Nat):∀n,j<st s n→∃m,m<n∧m<(P s).length∧st s m≤j∧j<st s m+dw s (st s m)∧st s m+dw s (st s m)≤st s n
 |0,h=>by simp [st] at h
 |n+1,h=>by
  by_cases hn:st s n<s.size
  ·have e:=st_succ s n ((st_lt s n).1 hn)
   by_cases hj:j<st s n
   ·obtain ⟨m,h1,h2,h3,h4,h5⟩:=st_cover s j n hj
    exact ⟨m,by omega,h2,h3,h4,by omega⟩
   ·exact ⟨n,by omega,(st_lt s n).1 hn,by omega,by omega,by omega⟩
  ·have e:st s (n+1)=st s n:=by
    show (if st s n<s.size then st s n+dw s (st s n) else st s n)=_
    rw [if_neg hn]
   rw [e] at h
   obtain ⟨m,h1,h2,h3,h4,h5⟩:=st_cover s j n h
   exact ⟨m,by omega,h2,h3,h4,by omega⟩
theorem get_app (a b:ByteArray) (i:Nat):(a++b).get! i=if i<a.size then a.get! i else b.get! (i-a.size):=by
 have e:∀(x:ByteArray) (k:Nat),x.get! k=x.data.toList[k]?.getD default:=by
  intro x k
  show x.data[k]! = _
  rw [Array.getElem!_eq_getD,Array.getD_eq_getD_getElem?,Array.getElem?_toList]
 have hz:a.data.toList.length=a.size:=by simp
 rw [e,e,e,ByteArray.data_append,Array.toList_append]
 by_cases h:i<a.size
 ·rw [if_pos h,List.getElem?_append_left (by omega)]
 ·rw [if_neg h,List.getElem?_append_right (by omega),hz]
theorem size_app (a b:ByteArray):(a++b).size=a.size+b.size:=by simp [ByteArray.size_append]
theorem ob_app (a b:ByteArray) (i:Nat):ob (a++b) i=if i<a.size then ob a i else ob b (i-a.size):=by
 unfold ob by8
 rw [size_app,get_app]
 by_cases h:i<a.size
 ·rw [if_pos h,if_pos (by omega),if_pos h,if_pos h]
 ·rw [if_neg h]
  by_cases h2:i-a.size<b.size
  ·rw [if_pos (by omega),if_neg h,if_pos h2]
  ·rw [if_neg (by omega),if_neg h,if_neg h2]
theorem by8_app (a b:ByteArray) (i:Nat):by8 (a++b) i=if i<a.size then by8 a i else by8 b (i-a.size):=by
 unfold by8
 rw [get_app]
 split <;> rfl
theorem dec_second (a b:ByteArray) (i:Nat):Utf8.decode (a++b) (a.size+i)=Utf8.decode b i:=by
 rw [decode_eq,decode_eq,by8_app,ob_app,ob_app,ob_app,if_neg (by omega),if_neg (by omega),if_neg (by omega),if_neg (by omega)]
 rw [show a.size+i-a.size=i by omega,show a.size+i+1-a.size=i+1 by omega,show a.size+i+2-a.size=i+2 by omega,show a.size+i+3-a.size=i+3 by omega]
theorem extract_all (a:ByteArray):a.extract 0 a.size=a:=by
 apply ByteArray.ext
 rw [ByteArray.data_extract]
 exact Array.extract_size
theorem ba_ext (a b:ByteArray) (hz:a.size=b.size) (h:∀i,i<a.size→a.get! i=b.get! i):a=b:=by
 apply ByteArray.ext
 apply Array.ext
 ·exact hz
 ·intro i h1 h2
  have:=h i h1
  have e:∀(x:ByteArray) (hx:i<x.data.size),x.get! i=x.data[i]:=by
   intro x hx
   show x.data[i]! = _
   exact getElem!_pos x.data i hx
  rw [e a h1,e b h2] at this
  exact this
theorem by8_ext (a b:ByteArray) (hz:a.size=b.size) (h:∀i,i<a.size→by8 a i=by8 b i):a=b:=
 ba_ext a b hz (fun i hi=>UInt8.toNat_inj.1 (h i hi))
theorem by8_ext' (s:ByteArray) (a b i:Nat) (h:a+i<b):by8 (s.extract a b) i=by8 s (a+i):=by
 unfold by8
 rw [get_ext,if_pos h]
end Go.Proofs.YtpdlohfdjiaegaaGreatDoor.Lx
namespace Go.Proofs.YtpdlohfdjiaegaaGreatDoor.Lx
open Go.RowKit
theorem P_take (s:ByteArray) (k:Nat) (h:k<(P s).length):(P s).take (k+1)=(P s).take k++[st s k]:=by
 have h1:=P_at s k h
 rw [List.take_succ_eq_append_getElem h]
 have:=(List.getElem?_eq_some_iff.1 h1).2
 rw [this]
def pts (s:ByteArray):List Nat:=(P s).map (dp s)
theorem pts_len (s:ByteArray):(pts s).length=(P s).length:=by unfold pts;simp
theorem pts_take (s:ByteArray) (k:Nat) (h:k<(P s).length):(pts s).take (k+1)=(pts s).take k++[dp s (st s k)]:=by
 unfold pts
 rw [←List.map_take,P_take s k h,List.map_append,List.map_take];rfl
def ltr (p:Int):Prop:=(65≤p∧p≤90)∨(97≤p∧p≤122)∨(192≤p∧p≤214)∨(216≤p∧p≤246)∨(248≤p∧p≤591)∨(913≤p∧p≤929)∨(931≤p∧p≤974)∨(1024≤p∧p≤1119)∨(1488≤p∧p≤1514)∨(1568≤p∧p≤1610)∨(2308≤p∧p≤2361)∨(12353≤p∧p≤12438)∨(12449≤p∧p≤12538)∨(19968≤p∧p≤40959)∨(44032≤p∧p≤55203)∨(66560≤p∧p≤66639)∨(131072≤p∧p≤196607)
def mrk (p:Int):Prop:=(48≤p∧p≤57)∨(95≤p∧p≤95)∨(768≤p∧p≤879)
instance (p:Int):Decidable (ltr p):=by unfold ltr;infer_instance
instance (p:Int):Decidable (mrk p):=by unfold mrk;infer_instance
def us (p:Int):Int:=if ltr p then 2 else if mrk p then 1 else 0
def lt' (p:Int):Bool:=decide (ltr p)
def pr' (p:Int):Bool:=lt' p || decide (mrk p)
theorem us_two {p:Int}(h:ltr p):us p=2:=by unfold us;rw [if_pos h]
theorem us_one {p:Int}(h:mrk p):us p=1:=by
 unfold us
 rw [if_neg (by unfold mrk at h;unfold ltr;omega),if_pos h]
theorem us_no {p:Int}(h:¬ltr p) (h2:¬mrk p):us p=0:=by unfold us;rw [if_neg h,if_neg h2]
theorem us_lt (p:Int):(us p == 2)=lt' p:=by
 unfold us lt'
 by_cases h:ltr p
 ·rw [if_pos h,decide_eq_true h];rfl
 ·rw [if_neg h,decide_eq_false h];split <;> rfl
theorem us_pr (p:Int):(us p != 0)=pr' p:=by
 unfold us pr' lt'
 by_cases h:ltr p
 ·rw [if_pos h,decide_eq_true h];rfl
 ·rw [if_neg h,decide_eq_false h]
  by_cases h2:mrk p
  ·rw [if_pos h2,decide_eq_true h2];rfl
  ·rw [if_neg h2,decide_eq_false h2];rfl
theorem ctab_hit (i:Nat) (p:Int) (hi:i<20) (h0:clo i≤p) (h1:p≤chi i):cus i=us p:=by
 rcases i with _|_|_|_|_|_|_|_|_|_|_|_|_|_|_|_|_|_|_|_|i
 all_goals simp [clo,chi,cus,ctabL,List.getD] at h0 h1 ⊢
 all_goals first|exact (us_two (by unfold ltr;omega)).symm|exact (us_one (by unfold mrk;omega)).symm|omega
theorem ctab_all (p:Int) (h:∀k,k<20→p<clo k∨chi k<p):us p=0:=by
 have a0:=h 0 (by omega);have a1:=h 1 (by omega);have a2:=h 2 (by omega);have a3:=h 3 (by omega);have a4:=h 4 (by omega);have a5:=h 5 (by omega);have a6:=h 6 (by omega);have a7:=h 7 (by omega);have a8:=h 8 (by omega);have a9:=h 9 (by omega);have a10:=h 10 (by omega);have a11:=h 11 (by omega);have a12:=h 12 (by omega);have a13:=h 13 (by omega);have a14:=h 14 (by omega);have a15:=h 15 (by omega);have a16:=h 16 (by omega);have a17:=h 17 (by omega);have a18:=h 18 (by omega);have a19:=h 19 (by omega)
 simp only [clo,chi,ctabL,List.getD,List.getElem?_cons_zero,List.getElem?_cons_succ,Option.getD_some] at a0 a1 a2 a3 a4 a5 a6 a7 a8 a9 a10 a11 a12 a13 a14 a15 a16 a17 a18 a19
 refine us_no ?_ ?_
 ·unfold ltr;omega
 ·unfold mrk;omega
theorem ctab_up (i k:Nat) (hk:k<20) (h:i≤k):clo i≤clo k:=by
 have:∀k,k<20→∀i,i<20→i≤k→clo i≤clo k:=by decide +kernel
 exact this k hk i (by omega) h
theorem ctab_miss (i:Nat) (p:Int) (h:∀k,k<i→chi k<p) (h2:i<20→p<clo i):us p=0:=by
 refine ctab_all p fun k hk=>?_
 by_cases hki:k<i
 ·exact .inr (h k hki)
 ·have:=h2 (by omega)
  have:=ctab_up i k hk (by omega)
  omega
theorem kret_i64 {a b:Int}(h:a=b):Ending.returned (.int .i64 a)=.returned (.int .i64 b):=by rw [h]
theorem kret_b {a b:Bool}(h:a=b):Ending.returned (.bool a)=.returned (.bool b):=by rw [h]
set_option maxHeartbeats 400000 in
theorem use_any (p:Int) (w:World) (hT:CTab w) :
  Calls Tryz.prog 134 #[.int .i64 p] w fun e w'=>e=.returned (.int .i64 (us p))∧w'=w:=by
 go_enter Tryz.func134,Tryz.ntmps134
 go_wp2_with fail
 go_loopw [4] (fun i wr=>wr=w∧∃k:Nat,k≤20∧i=.int .i64 k∧∀j,j<k→chi j<p) (fun i _=>20-(intOf i).toNat)
 case atStart=>exact ⟨rfl,0,by omega,rfl,fun j hj=>by omega⟩
 case round=>
  obtain ⟨rfl,k,hk,rfl,hall⟩:=hrel
  by_cases h16:k<20
  ·obtain ⟨c0,c1,c2⟩:=hT k h16
   have HA:Hid (∀j,j<k→chi j<p):=hall
   have HH:Hid (clo k≤p→p≤chi k→cus k=us p):=ctab_hit k p h16
   have HM:Hid (p<clo k→us p=0):=fun h=>ctab_miss k p hall (fun _=>h)
   have HN:Hid (chi k<p→∀j,j<k+1→chi j<p):=fun h j hj=>by
    by_cases e:j=k
    ·subst e;exact h
    ·exact hall j (by omega)
   clear hall hT
   generalize clo k=l at *
   generalize cus k=c at *
   generalize chi k=u at *
   by_cases h1:p<l
   ·go_wp2_with fail
    go_ret
    exact ⟨kret_i64 (HM.out h1).symm,rfl⟩
   ·by_cases h2:p≤u
    ·go_wp2_with fail
     go_ret
     exact ⟨kret_i64 (HH.out (by omega) h2),rfl⟩
    ·go_wp2_with fail
     exact ⟨⟨trivial,k+1,by omega,by go_num,HN.out (by omega)⟩,by simp [intOf];omega⟩
  ·have HM:Hid (us p=0):=ctab_miss k p hall (fun h=>absurd h h16)
   clear hall hT
   go_wp2_with fail
   go_ret
   exact ⟨kret_i64 HM.out.symm,rfl⟩
theorem letter_any (p:Int) (w:World) (hT:CTab w) :
  Calls Tryz.prog 86 #[.int .i64 p] w fun e w'=>e=.returned (.bool (lt' p))∧w'=w:=by
 go_enter Tryz.func86,Tryz.ntmps86
 go_wp2_with fail
 refine (use_any p w hT).mono ?_
 rintro e w' ⟨rfl,rfl⟩
 have HU:Hid ((us p == 2)=lt' p):=us_lt p
 generalize us p=u at *
 go_wp2_with fail
 go_ret
 exact ⟨kret_b HU.out,rfl⟩
theorem part_any (p:Int) (w:World) (hT:CTab w) :
  Calls Tryz.prog 135 #[.int .i64 p] w fun e w'=>e=.returned (.bool (pr' p))∧w'=w:=by
 go_enter Tryz.func135,Tryz.ntmps135
 go_wp2_with fail
 refine (use_any p w hT).mono ?_
 rintro e w' ⟨rfl,rfl⟩
 have HU:Hid ((us p != 0)=pr' p):=us_pr p
 generalize us p=u at *
 go_wp2_with fail
 go_ret
 exact ⟨kret_b HU.out,rfl⟩
end Go.Proofs.YtpdlohfdjiaegaaGreatDoor.Lx
