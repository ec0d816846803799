import Derived.Test.YtkigadnkclkopaaGreatDoorM08
set_option linter.unusedVariables false
set_option linter.unusedSimpArgs false
namespace Go.Proofs.YtkigadnkclkopaaGreatDoor.Lx
open Go.RowKit
theorem arr2 {R:ByteArray}(h:R.size=2):∃x0 x1,R=⟨#[x0,x1]⟩:=by
 obtain ⟨⟨l⟩⟩:=R
 match l,h with
 |[x0,x1],_=>exact ⟨x0,x1,rfl⟩
theorem arr3 {R:ByteArray}(h:R.size=3):∃x0 x1 x2,R=⟨#[x0,x1,x2]⟩:=by
 obtain ⟨⟨l⟩⟩:=R
 match l,h with
 |[x0,x1,x2],_=>exact ⟨x0,x1,x2,rfl⟩
theorem arr4 {R:ByteArray}(h:R.size=4):∃x0 x1 x2 x3,R=⟨#[x0,x1,x2,x3]⟩:=by
 obtain ⟨⟨l⟩⟩:=R
 match l,h with
 |[x0,x1,x2,x3],_=>exact ⟨x0,x1,x2,x3,rfl⟩
theorem far_any (p:Int) (w:World) (h0:128≤p) :
  Calls Tryz.prog 116 #[.string ⟨#[32,9,13]⟩,.int .i32 p] w fun e w'=>e=.returned (.int .i64 (-1))∧Below w.heap.size w w':=by
 by_cases h2:p=65533
 ·subst h2;exact far_err w
 ·cases hv:Lib.validRune p with
  |false=>exact far_bad p w h0 h2 hv
  |true=>
   obtain ⟨f1,f2,f3⟩:=encode_facts p (by rw [validRune_eq];exact hv) h0
   have f4:=f3 (by omega)
   obtain ⟨R,hR⟩:∃R,Utf8.encode p=R:=⟨_,rfl⟩
   simp only [hR] at f1 f2 f3 f4
   rcases (show R.size=2∨R.size=3∨R.size=4 by omega) with h|h|h
   ·obtain ⟨x0,x1,rfl⟩:=arr2 h
    exact far2 p x0 x1 w h0 h2 hv hR f4
   ·obtain ⟨x0,x1,x2,rfl⟩:=arr3 h
    exact far3 p x0 x1 x2 w h0 h2 hv hR f4
   ·obtain ⟨x0,x1,x2,x3,rfl⟩:=arr4 h
    exact far4 p x0 x1 x2 x3 w h0 h2 hv hR f4
theorem near_bl:∀n:Nat,n<128→decide ((0:Int)≤Lib.indexByte [32,9,13] n.toUInt8)=decide (n=32∨n=9∨n=13):=by decide
def ptBl (p:Int):Bool:=decide (p=32∨p=9∨p=13)
theorem contains_any (p:Int) (w:World) (h0:0≤p) :
  Calls Tryz.prog 84 #[.string ⟨#[32,9,13]⟩,.int .i32 p] w fun e w'=>e=.returned (.bool (ptBl p))∧Below w.heap.size w w':=by
 by_cases h:p<128
 ·refine (Tryz.strings_ContainsRune_ascii ⟨#[32,9,13]⟩ p w h0 h).mono ?_
  rintro e w' ⟨rfl,rfl⟩
  refine ⟨?_,Below.refl _ _⟩
  have e:=near_bl p.toNat (by omega)
  have e2:decide (p.toNat=32∨p.toNat=9∨p.toNat=13)=ptBl p:=by unfold ptBl;rw [decide_eq_decide];omega
  rw [←e2,←e]
 ·have HF:Hid (Calls Tryz.prog 116 #[.string ⟨#[32,9,13]⟩,.int .i32 p] w fun e w'=>e=.returned (.int .i64 (-1))∧Below w.heap.size w w'):=far_any p w (by omega)
  have e2:ptBl p=false:=by unfold ptBl;rw [decide_eq_false_iff_not];omega
  rw [e2]
  clear e2
  go_enter Tryz.func84,Tryz.ntmps84
  go_wp2_with (go_at_call 116;refine HF.out.mono ?_;rintro e w1 ⟨rfl,hb⟩)
  go_ret
  exact ⟨rfl,hb⟩
theorem isBlank_any (p:Int) (w:World) (h0:0≤p) :
  Calls Tryz.prog 43 #[.int .i32 p] w fun e w'=>e=.returned (.bool (ptBl p))∧Below w.heap.size w w':=by
 have HF:Hid (Calls Tryz.prog 84 #[.string ⟨#[32,9,13]⟩,.int .i32 p] w fun e w'=>e=.returned (.bool (ptBl p))∧Below w.heap.size w w'):=contains_any p w h0
 generalize ptBl p=r at *
 go_enter Tryz.func43,Tryz.ntmps43
 go_wp2_with (go_at_call 84;refine HF.out.mono ?_;rintro e w1 ⟨rfl,hb⟩)
 go_ret
 exact ⟨rfl,hb⟩
theorem bl_con (b:UInt8):[(32:UInt8),9,13].contains b=tkBl b.toNat:=by
 unfold tkBl
 simp only [List.contains_cons,List.contains_nil,Bool.or_false]
 rw [Bool.eq_iff_iff]
 simp only [Bool.or_eq_true,beq_iff_eq,←UInt8.toNat_inj]
 constructor
 ·rintro (h|h|h)
  ·exact .inl (.inl h)
  ·exact .inl (.inr h)
  ·exact .inr h
 ·rintro ((h|h)|h)
  ·exact .inl h
  ·exact .inr (.inl h)
  ·exact .inr (.inr h)
theorem ext_get (s:ByteArray) (a p j:Nat) (b:UInt8) (hp:p≤s.size) (h:(s.extract a p).data.toList[j]?=some b):j<p-a∧by8 s (a+j)=b.toNat:=by
 have hz:=size_ext s a p hp
 have hj:j<(s.extract a p).data.toList.length:=(List.getElem?_eq_some_iff.1 h).1
 have hl:(s.extract a p).data.toList.length=(s.extract a p).size:=by rw [Array.length_toList];rfl
 refine ⟨by omega,?_⟩
 have e:=by8_ext' s a p j (by omega)
 rw [←e]
 unfold by8
 have h2:=(List.getElem?_eq_some_iff.1 h).2
 have:(s.extract a p).get! j=b:=by
  show (s.extract a p).data[j]! = b
  rw [getElem!_pos (s.extract a p).data j (by rw [Array.length_toList] at hj;exact hj)]
  simpa using h2
 rw [this]
theorem trim_is (s:ByteArray) (a p:Nat) (hap:a<p) (hp:p≤s.size) (ha:tkBl (by8 s a)=false):(⟨(Lib.trimRightS (s.extract a p).data.toList [32,9,13]).toArray⟩:ByteArray)=s.extract a (tkTrim s p):=by
 have h1:=tkTrim_le s p
 have h2:=tkTrim_ge s a ha p hap
 have h3:=tkTrim_gap s p
 have hz:=size_ext s a p hp
 have hl:(s.extract a p).data.toList.length=(s.extract a p).size:=by rw [Array.length_toList];rfl
 have e:Lib.trimRightS (s.extract a p).data.toList [32,9,13]=(s.extract a p).data.toList.take (tkTrim s p-a):=by
  refine Lib.trimRightS_take _ _ _ (by omega) (fun j b hj hb=>?_) (fun b h0 hb=>?_)
  ·obtain ⟨e1,e2⟩:=ext_get s a p j b hp hb
   rw [bl_con,←e2]
   exact h3 (a+j) (by omega) (by omega)
  ·obtain ⟨e1,e2⟩:=ext_get s a p _ b hp hb
   rw [bl_con,←e2]
   have h4:a+(tkTrim s p-a-1)=tkTrim s p-1:=by omega
   rw [h4]
   have key:∀q,0<tkTrim s q→tkBl (by8 s (tkTrim s q-1))=false:=by
    intro q
    induction q with
    |zero=>intro h;exact absurd h (by simp [tkTrim])
    |succ q ih=>
     intro h
     unfold tkTrim at h ⊢
     by_cases e:tkBl (by8 s q)=true
     ·rw [if_pos e] at h ⊢;exact ih h
     ·rw [if_neg e] at h ⊢;simpa using e
   exact key p (by omega)
 rw [e]
 refine by8_ext _ _ ?_ (fun j hj=>?_)
 ·rw [size_ext s a _ (by omega)]
  show ((s.extract a p).data.toList.take (tkTrim s p-a)).toArray.size=_
  simp
  omega
 ·have hj2:j<tkTrim s p-a:=by
   have:(⟨((s.extract a p).data.toList.take (tkTrim s p-a)).toArray⟩:ByteArray).size=((s.extract a p).data.toList.take (tkTrim s p-a)).length:=by show Array.size _=_;simp
   rw [this,List.length_take] at hj
   omega
  rw [by8_ext' s a _ j (by omega)]
  rw [←by8_ext' s a p j (by omega)]
  unfold by8
  congr 1
  show ((s.extract a p).data.toList.take (tkTrim s p-a)).toArray[j]! = (s.extract a p).data[j]!
  rw [getElem!_pos _ j (by simp;omega),getElem!_pos _ j (by have:(s.extract a p).data.size=(s.extract a p).size:=rfl;omega)]
  simp
end Go.Proofs.YtkigadnkclkopaaGreatDoor.Lx
