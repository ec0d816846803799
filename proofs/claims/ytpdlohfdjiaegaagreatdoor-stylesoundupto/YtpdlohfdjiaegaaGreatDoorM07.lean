import Derived.Deep.Cut
import Derived.Deep.CutRange
import Derived.Test.YtpdlohfdjiaegaaGreatDoorM06
set_option linter.unusedVariables false
set_option linter.unusedSimpArgs false
namespace Go.Proofs.YtpdlohfdjiaegaaGreatDoor.Lx
open Go.RowKit
theorem arr2 {R:ByteArray}(h:R.size=2):∃x0 x1,R=⟨#[x0,x1]⟩:=by
 obtain ⟨⟨l⟩⟩:=R
 match l,h with
 |[x0,x1],_=>exact ⟨x0,x1,rfl⟩
theorem arr3 {R:ByteArray}(h:R.size=3):∃x0 x1 x2,R=⟨#[x0,x1,x2]⟩:=by
 obtain ⟨⟨l⟩⟩:=R
 match l,h with
 |[x0,x1,x2],_=>exact ⟨x0,x1,x2,rfl⟩
theorem arr4 {R:ByteArray}(h:R.size=4):∃x0 x1 x2 x3,R=⟨#[x0,x1,x2,x3]⟩:=by
 obtain ⟨⟨l⟩⟩:=R
 match l,h with
 |[x0,x1,x2,x3],_=>exact ⟨x0,x1,x2,x3,rfl⟩
theorem far_any (p:Int) (w:World) (h0:128≤p) :
  Calls Tryz.prog 181 #[.string ⟨#[32,9,13]⟩,.int .i32 p] w fun e w'=>e=.returned (.int .i64 (-1))∧Below w.heap.size w w':=by
 by_cases h2:p=65533
 ·subst h2;exact far_err w
 ·cases hv:Lib.validRune p with
  |false=>exact far_bad p w h0 h2 hv
  |true=>
   obtain ⟨f1,f2,f3⟩:=encode_facts p (by rw [validRune_eq];exact hv) h0
   have f4:=f3 (by omega)
   obtain ⟨R,hR⟩:∃R,Utf8.encode p=R:=⟨_,rfl⟩
   simp only [hR] at f1 f2 f3 f4
   rcases (show R.size=2∨R.size=3∨R.size=4 by omega) with h|h|h
   ·obtain ⟨x0,x1,rfl⟩:=arr2 h
    exact far2 p x0 x1 w h0 h2 hv hR f4
   ·obtain ⟨x0,x1,x2,rfl⟩:=arr3 h
    exact far3 p x0 x1 x2 w h0 h2 hv hR f4
   ·obtain ⟨x0,x1,x2,x3,rfl⟩:=arr4 h
    exact far4 p x0 x1 x2 x3 w h0 h2 hv hR f4
theorem near_bl:∀n:Nat,n<128→decide ((0:Int)≤Lib.indexByte [32,9,13] n.toUInt8)=decide (n=32∨n=9∨n=13):=by decide
def ptBl (p:Int):Bool:=decide (p=32∨p=9∨p=13)
theorem contains_any (p:Int) (w:World) (h0:0≤p) :
  Calls Tryz.prog 132 #[.string ⟨#[32,9,13]⟩,.int .i32 p] w fun e w'=>e=.returned (.bool (ptBl p))∧Below w.heap.size w w':=by
 by_cases h:p<128
 ·refine (Tryz.strings_ContainsRune_ascii ⟨#[32,9,13]⟩ p w h0 h).mono ?_
  rintro e w' ⟨rfl,rfl⟩
  refine ⟨?_,Below.refl _ _⟩
  have e:=near_bl p.toNat (by omega)
  have e2:decide (p.toNat=32∨p.toNat=9∨p.toNat=13)=ptBl p:=by unfold ptBl;rw [decide_eq_decide];omega
  rw [←e2,←e]
 ·have HF:Hid (Calls Tryz.prog 181 #[.string ⟨#[32,9,13]⟩,.int .i32 p] w fun e w'=>e=.returned (.int .i64 (-1))∧Below w.heap.size w w'):=far_any p w (by omega)
  have e2:ptBl p=false:=by unfold ptBl;rw [decide_eq_false_iff_not];omega
  rw [e2]
  clear e2
  go_enter Tryz.func132,Tryz.ntmps132
  go_wp2_with (go_at_call 181;refine HF.out.mono ?_;rintro e w1 ⟨rfl,hb⟩)
  go_ret
  exact ⟨rfl,hb⟩
theorem isBlank_any (p:Int) (w:World) (h0:0≤p) :
  Calls Tryz.prog 83 #[.int .i32 p] w fun e w'=>e=.returned (.bool (ptBl p))∧Below w.heap.size w w':=by
 have HF:Hid (Calls Tryz.prog 132 #[.string ⟨#[32,9,13]⟩,.int .i32 p] w fun e w'=>e=.returned (.bool (ptBl p))∧Below w.heap.size w w'):=contains_any p w h0
 generalize ptBl p=r at *
 go_enter Tryz.func83,Tryz.ntmps83
 go_wp2_with (go_at_call 132;refine HF.out.mono ?_;rintro e w1 ⟨rfl,hb⟩)
 go_ret
 exact ⟨rfl,hb⟩
theorem bl_con (b:UInt8):[(32:UInt8),9,13].contains b=tkBl b.toNat:=by
 unfold tkBl
 simp only [List.contains_cons,List.contains_nil,Bool.or_false]
 rw [Bool.eq_iff_iff]
 simp only [Bool.or_eq_true,beq_iff_eq,←UInt8.toNat_inj]
 constructor
 ·rintro (h|h|h)
  ·exact .inl (.inl h)
  ·exact .inl (.inr h)
  ·exact .inr h
 ·rintro ((h|h)|h)
  ·exact .inl h
  ·exact .inr (.inl h)
  ·exact .inr (.inr h)
theorem ext_get (s:ByteArray) (a p j:Nat) (b:UInt8) (hp:p≤s.size) (h:(s.extract a p).data.toList[j]?=some b):j<p-a∧by8 s (a+j)=b.toNat:=by
 have hz:=size_ext s a p hp
 have hj:j<(s.extract a p).data.toList.length:=(List.getElem?_eq_some_iff.1 h).1
 have hl:(s.extract a p).data.toList.length=(s.extract a p).size:=by rw [Array.length_toList];rfl
 refine ⟨by omega,?_⟩
 have e:=by8_ext' s a p j (by omega)
 rw [←e]
 unfold by8
 have h2:=(List.getElem?_eq_some_iff.1 h).2
 have:(s.extract a p).get! j=b:=by
  show (s.extract a p).data[j]! = b
  rw [getElem!_pos (s.extract a p).data j (by rw [Array.length_toList] at hj;exact hj)]
  simpa using h2
 rw [this]
theorem trim_is (s:ByteArray) (a p:Nat) (hap:a<p) (hp:p≤s.size) (ha:tkBl (by8 s a)=false):(⟨(Lib.trimRightS (s.extract a p).data.toList [32,9,13]).toArray⟩:ByteArray)=s.extract a (tkTrim s p):=by
 have h1:=tkTrim_le s p
 have h2:=tkTrim_ge s a ha p hap
 have h3:=tkTrim_gap s p
 have hz:=size_ext s a p hp
 have hl:(s.extract a p).data.toList.length=(s.extract a p).size:=by rw [Array.length_toList];rfl
 have e:Lib.trimRightS (s.extract a p).data.toList [32,9,13]=(s.extract a p).data.toList.take (tkTrim s p-a):=by
  refine Lib.trimRightS_take _ _ _ (by omega) (fun j b hj hb=>?_) (fun b h0 hb=>?_)
  ·obtain ⟨e1,e2⟩:=ext_get s a p j b hp hb
   rw [bl_con,←e2]
   exact h3 (a+j) (by omega) (by omega)
  ·obtain ⟨e1,e2⟩:=ext_get s a p _ b hp hb
   rw [bl_con,←e2]
   have h4:a+(tkTrim s p-a-1)=tkTrim s p-1:=by omega
   rw [h4]
   have key:∀q,0<tkTrim s q→tkBl (by8 s (tkTrim s q-1))=false:=by
    intro q
    induction q with
    |zero=>intro h;exact absurd h (by simp [tkTrim])
    |succ q ih=>
     intro h
     unfold tkTrim at h ⊢
     by_cases e:tkBl (by8 s q)=true
     ·rw [if_pos e] at h ⊢;exact ih h
     ·rw [if_neg e] at h ⊢;simpa using e
   exact key p (by omega)
 rw [e]
 refine by8_ext _ _ ?_ (fun j hj=>?_)
 ·rw [size_ext s a _ (by omega)]
  show ((s.extract a p).data.toList.take (tkTrim s p-a)).toArray.size=_
  simp
  omega
 ·have hj2:j<tkTrim s p-a:=by
   have:(⟨((s.extract a p).data.toList.take (tkTrim s p-a)).toArray⟩:ByteArray).size=((s.extract a p).data.toList.take (tkTrim s p-a)).length:=by show Array.size _=_;simp
   rw [this,List.length_take] at hj
   omega
  rw [by8_ext' s a _ j (by omega)]
  rw [←by8_ext' s a p j (by omega)]
  unfold by8
  congr 1
  show ((s.extract a p).data.toList.take (tkTrim s p-a)).toArray[j]! = (s.extract a p).data[j]!
  rw [getElem!_pos _ j (by simp;omega),getElem!_pos _ j (by have:(s.extract a p).data.size=(s.extract a p).size:=rfl;omega)]
  simp
def TP (w0 w':World) (g:Nat) (s:ByteArray) (k a f:Nat) (l:List Tv):Prop:=
 if (tkEnd s a k).2=0 then Rs w0 w' g s (tkEnd s a k).1 a 0 (l++[tv s (tkTok s k a (tkEnd s a k).1 f)])
 else ∃a',bd s a'∧a≤a'∧Rs w0 w' g s a' a f l∧((tkEnd s a k).2=102→a'=(tkEnd s a k).1)
theorem TP.ok {w0 w':World}{g:Nat}{s:ByteArray}{k a f y:Nat}{l:List Tv}(hE:tkEnd s a k=(y,0)) (h:Rs w0 w' g s y a 0 (l++[tv s (tkTok s k a y f)])):TP w0 w' g s k a f l:=by
 unfold TP;rw [hE,if_pos rfl];exact h
theorem TP.bad {w0 w':World}{g:Nat}{s:ByteArray}{k a f y e a':Nat}{l:List Tv}(hE:tkEnd s a k=(y,e)) (he:e≠0) (hb:bd s a') (ha:a≤a') (h:Rs w0 w' g s a' a f l) (h2:e=102→a'=y):TP w0 w' g s k a f l:=by
 unfold TP;rw [hE,if_neg he];exact ⟨a',hb,ha,h,h2⟩
def cntAt (w:World) (g k:Nat):Nat:=match w.cell? ⟨g,k,none⟩ with
 |some (.int _ n)=>n.toNat
 |_=>0
theorem cntAt_of {w:World}{g k n:Nat}(h:w.cell? ⟨g,k,none⟩=some (.int .i64 (n:Nat))):cntAt w g k=n:=by
 unfold cntAt;rw [h];simp
theorem Rs.at {w0 W:World}{g:Nat}{s:ByteArray}{a b f:Nat}{l:List Tv}(h:Rs w0 W g s a b f l):cntAt W g 1=a:=by
 obtain ⟨h1,h2,v,h3,h4⟩:=h
 exact cntAt_of (Rq.cells h3).2.1
theorem gd_dp (s:ByteArray) (y:Nat) (h:gd s y=false):dp s y=65533:=by unfold dp;rw [gd_not s y h]
theorem pr_neg:pr' (-1)=false:=by decide
theorem pr_bad:pr' 65533=false:=by decide
theorem lt_bad:lt' 65533=false:=by decide
theorem part_pt (s:ByteArray) (y:Nat):pr' (rpt s y)=(decide (y<s.size) && (gd s y && pr' (dp s y))):=by
 by_cases h:y<s.size
 ·rw [rpt_in h,decide_eq_true h,Bool.true_and]
  cases e:gd s y with
  |true=>rfl
  |false=>rw [gd_dp s y e];exact pr_bad
 ·rw [rpt_out (by omega),decide_eq_false h,pr_neg];rfl
theorem letter_pt (s:ByteArray) (y:Nat) (h:y<s.size):lt' (rpt s y)=(gd s y && lt' (dp s y)):=by
 rw [rpt_in h]
 cases e:gd s y with
 |true=>rfl
 |false=>rw [gd_dp s y e];exact lt_bad
theorem digit_pt (s:ByteArray) (y:Nat):(decide (48≤rpt s y) && decide (rpt s y≤57))=(decide (y<s.size) && tkDg (by8 s y)):=by
 by_cases h:y<s.size
 ·rw [rpt_in h,decide_eq_true h,Bool.true_and]
  unfold tkDg
  rw [Bool.eq_iff_iff]
  simp only [Bool.and_eq_true,decide_eq_true_eq]
  constructor
  ·rintro ⟨h1,h2⟩
   have:=dp_asc s y (by omega)
   omega
  ·rintro ⟨h1,h2⟩
   have:=(chr_asc s y (by omega)).2.1
   omega
 ·rw [rpt_out (by omega),decide_eq_false h];rfl
theorem is_pt (s:ByteArray) (y c:Nat) (hc:c<128) (h:y<s.size):rpt s y=(c:Int)↔by8 s y=c:=by
 rw [rpt_in h]
 constructor
 ·intro e;exact (dp_eq s y c hc).1 (by omega)
 ·intro e;have:=(dp_eq s y c hc).2 e;omega
theorem none_pt (s:ByteArray) (y:Nat):rpt s y=-1↔s.size≤y:=by
 by_cases h:y<s.size
 ·rw [rpt_in h];constructor <;> intro _ <;> omega
 ·rw [rpt_out (by omega)];constructor <;> intro _ <;> first|omega|rfl
theorem ctl_pt (s:ByteArray) (y:Nat) (h:y<s.size):(decide (rpt s y<32) || decide (rpt s y=127))=tkCtl s y:=by
 rw [rpt_in h]
 unfold tkCtl
 cases e:gd s y with
 |true=>
  rw [Bool.true_and,Bool.eq_iff_iff]
  simp only [Bool.or_eq_true,decide_eq_true_eq,beq_iff_eq]
  constructor <;> intro _ <;> omega
 |false=>rw [gd_dp s y e];rfl
theorem bl_pt (s:ByteArray) (y:Nat) (h:y<s.size):ptBl (rpt s y)=tkBl (by8 s y):=by
 unfold ptBl tkBl
 rw [Bool.eq_iff_iff]
 simp only [Bool.or_eq_true,decide_eq_true_eq,beq_iff_eq]
 have e1:=is_pt s y 32 (by decide) h
 have e2:=is_pt s y 9 (by decide) h
 have e3:=is_pt s y 13 (by decide) h
 constructor
 ·rintro (h|h|h)
  ·exact .inl (.inl (e1.1 h))
  ·exact .inl (.inr (e2.1 h))
  ·exact .inr (e3.1 h)
 ·rintro ((h|h)|h)
  ·exact .inl (e1.2 h)
  ·exact .inr (.inl (e2.2 h))
  ·exact .inr (.inr (e3.2 h))
theorem row_go {s:ByteArray}{a k x m:Nat}{E:Nat × Nat}(hx:x<s.size) (h:run (gRow s a k) s.size x m=E) (hon:gRow s a k x m=.on (dw s x)):x+dw s x≤s.size∧run (gRow s a k) s.size (x+dw s x) (m+1)=E:=by
 refine ⟨(dw_facts s x hx).2.2,?_⟩
 rw [←run_on (gRow_on s a k) (by omega) hon];exact h
theorem row_stop {s:ByteArray}{a k y m:Nat}{E:Nat × Nat}(hy:y≤s.size) (h:run (gRow s a k) s.size y m=E) (hc:s.size≤y∨(k=1∧(gd s y && pr' (dp s y))=false)∨(k=3∧tkDg (by8 s y)=false)):E=(y,0):=by
 rw [←h]
 refine run_out hy ?_
 unfold gRow
 by_cases h1:s.size≤y
 ·rw [if_pos h1]
 ·rw [if_neg h1,if_pos (hc.resolve_left h1)]
theorem row_full {s:ByteArray}{a k y m:Nat}{E:Nat × Nat}(hy:y<s.size) (h:run (gRow s a k) s.size y m=E) (hc:¬((k=1∧(gd s y && pr' (dp s y))=false)∨(k=3∧tkDg (by8 s y)=false))) (hf:65535<y+dw s y-a):E=(a,103):=by
 rw [←h]
 refine run_out (by omega) ?_
 unfold gRow
 rw [if_neg (by omega),if_neg hc,if_pos hf]
theorem row_on {s:ByteArray}{a k y m:Nat}(hy:y<s.size) (hc:¬((k=1∧(gd s y && pr' (dp s y))=false)∨(k=3∧tkDg (by8 s y)=false))) (hf:¬65535<y+dw s y-a):gRow s a k y m=.on (dw s y):=by
 unfold gRow
 rw [if_neg (by omega),if_neg hc,if_neg hf]
theorem quo_open {s:ByteArray}{a q y m:Nat}{o:Bool}{E:Nat × Nat}(hy:y≤s.size) (h:run (gQuo s a q o) s.size y m=E) (hc:s.size≤y∨by8 s y=10):E=(a,101):=by
 rw [←h]
 refine run_out hy ?_
 unfold gQuo
 rw [if_pos hc]
theorem quo_full {s:ByteArray}{a q y m:Nat}{o:Bool}{E:Nat × Nat}(hy:y<s.size) (h:run (gQuo s a q o) s.size y m=E) (hc:by8 s y≠10) (hf:65535<y+dw s y-a):E=(a,103):=by
 rw [←h]
 refine run_out (by omega) ?_
 unfold gQuo
 rw [if_neg (by rintro (h|h);omega;exact hc h),if_pos hf]
theorem quo_fin {s:ByteArray}{a q y m:Nat}{o:Bool}{E:Nat × Nat}(hy:y<s.size) (h:run (gQuo s a q o) s.size y m=E) (hc:by8 s y≠10) (hf:¬65535<y+dw s y-a) (hq:by8 s y=q∧(o=false∨m=1)):E=(y+1,0):=by
 rw [←h]
 refine run_out (by omega) ?_
 unfold gQuo
 rw [if_neg (by rintro (h|h);omega;exact hc h),if_neg hf,if_pos hq]
theorem quo_wrong {s:ByteArray}{a q y m:Nat}{o:Bool}{E:Nat × Nat}(hy:y<s.size) (h:run (gQuo s a q o) s.size y m=E) (hc:by8 s y≠10) (hf:¬65535<y+dw s y-a) (hq:¬(by8 s y=q∧(o=false∨m=1))) (hb:tkCtl s y=true∨(o=true∧(m=1∨by8 s y=q))):E=(y,102):=by
 rw [←h]
 refine run_out (by omega) ?_
 unfold gQuo
 rw [if_neg (by rintro (h|h);omega;exact hc h),if_neg hf,if_neg hq,if_pos hb]
theorem quo_more {s:ByteArray}{a q y m:Nat}{o:Bool}{E:Nat × Nat}(hy:y<s.size) (h:run (gQuo s a q o) s.size y m=E) (hc:by8 s y≠10) (hf:¬65535<y+dw s y-a) (hq:¬(by8 s y=q∧(o=false∨m=1))) (hb:¬(tkCtl s y=true∨(o=true∧(m=1∨by8 s y=q)))):run (gQuo s a q o) s.size (y+dw s y) (m+1)=E:=by
 rw [←h]
 refine (run_on (gQuo_on s a q o) (by omega) ?_).symm
 unfold gQuo
 rw [if_neg (by rintro (h|h);omega;exact hc h),if_neg hf,if_neg hq,if_neg hb]
theorem com_on1 {s:ByteArray}{a y:Nat}{o:Bool}(m:Nat) (hy:y<s.size) (h10:o=false→by8 s y≠10) (h125:o=true→by8 s y≠125) (hf:y+1-a≤65535):run (gCom s a o) s.size y m=run (gCom s a o) s.size (y+1) (m+1):=by
 refine run_on (gCom_on s a o) (by omega) ?_
 unfold gCom
 rw [if_neg (by omega),if_neg (by rintro ⟨h1,h2⟩;exact h10 h1 h2),if_neg (by omega),if_neg (by rintro ⟨h1,h2⟩;exact h125 h1 h2)]
theorem com_ons {s:ByteArray}{a y:Nat}{o:Bool}:∀(i m:Nat),(∀j,j<i→y+j<s.size∧(o=false→by8 s (y+j)≠10)∧(o=true→by8 s (y+j)≠125)∧y+j+1-a≤65535)→run (gCom s a o) s.size y m=run (gCom s a o) s.size (y+i) (m+i)
 |0,m,_=>rfl
 |i+1,m,h=>by
  rw [com_ons i m (fun j hj=>h j (by omega))]
  obtain ⟨h1,h2,h3,h4⟩:=h i (by omega)
  exact com_on1 (m+i) h1 h2 h3 h4
theorem chr_in (s:ByteArray) (y j:Nat) (hy:y<s.size) (hj:j<dw s y):y+j<s.size∧(j≠0→by8 s (y+j)≠10∧by8 s (y+j)≠125):=by
 have:=(dw_facts s y hy).2.2
 refine ⟨by omega,fun h=>?_⟩
 have:=(dec_inner s y j (by omega) hj).2
 omega
theorem com_go {s:ByteArray}{a y:Nat}{o:Bool}{E:Nat × Nat}(m:Nat) (hy:y<s.size) (h10:o=false→by8 s y≠10) (h125:o=true→by8 s y≠125) (hf:y+dw s y-a≤65535) (h:run (gCom s a o) s.size y m=E):run (gCom s a o) s.size (y+dw s y) (m+dw s y)=E:=by
 rw [←h]
 refine (com_ons (dw s y) m (fun j hj=>?_)).symm
 obtain ⟨h1,h2⟩:=chr_in s y j hy hj
 refine ⟨h1,fun ho=>?_,fun ho=>?_,by omega⟩
 ·by_cases e:j=0
  ·subst e;exact h10 ho
  ·exact (h2 e).1
 ·by_cases e:j=0
  ·subst e;exact h125 ho
  ·exact (h2 e).2
theorem com_full {s:ByteArray}{a y:Nat}{o:Bool}{E:Nat × Nat}(m:Nat) (hy:y<s.size) (h10:o=false→by8 s y≠10) (hay:a≤y) (hb:y-a≤65535) (hf:65535<y+dw s y-a) (h:run (gCom s a o) s.size y m=E):E=(a,103):=by
 obtain ⟨i,hi⟩:∃i,y+i=a+65535:=⟨a+65535-y,by omega⟩
 have hid:i<dw s y:=by omega
 obtain ⟨d1,d2,d3⟩:=dw_facts s y hy
 have last:∀z m,z<s.size→(o=false→by8 s z≠10)→65535<z+1-a→run (gCom s a o) s.size z m=(a,103):=by
  intro z m hz h1 h2
  refine run_out (by omega) ?_
  unfold gCom
  rw [if_neg (by omega),if_neg (by rintro ⟨e1,e2⟩;exact h1 e1 e2),if_pos h2]
 by_cases h0:i=0
 ·rw [←h]
  exact last y m hy h10 (by omega)
 ·by_cases c:o=true∧by8 s y=125
  ·exfalso
   have:=(chr_asc s y (by omega)).1
   omega
  ·rw [←h,com_ons i m (fun j hj=>?_)]
   ·have h2:=chr_in s y i hy hid
    exact last (y+i) _ h2.1 (fun _=>(h2.2 h0).1) (by omega)
   ·obtain ⟨h1,h2⟩:=chr_in s y j hy (by omega)
    refine ⟨h1,fun ho=>?_,fun ho=>?_,by omega⟩
    ·by_cases e:j=0
     ·subst e;exact h10 ho
     ·exact (h2 e).1
    ·by_cases e:j=0
     ·subst e;exact fun e2=>c ⟨ho,e2⟩
     ·exact (h2 e).2
theorem com_line {s:ByteArray}{a y m:Nat}{E:Nat × Nat}(hy:y≤s.size) (h:run (gCom s a false) s.size y m=E) (hc:s.size≤y∨by8 s y=10):E=(y,0):=by
 rw [←h]
 refine run_out hy ?_
 unfold gCom
 by_cases h1:s.size≤y
 ·rw [if_pos h1];rfl
 ·rw [if_neg h1,if_pos ⟨rfl,hc.resolve_left h1⟩]
theorem com_open {s:ByteArray}{a y m:Nat}{E:Nat × Nat}(hy:y≤s.size) (h:run (gCom s a true) s.size y m=E) (hc:s.size≤y):E=(a,101):=by
 rw [←h]
 refine run_out hy ?_
 unfold gCom
 rw [if_pos hc];rfl
theorem com_brace {s:ByteArray}{a y m:Nat}{E:Nat × Nat}(hy:y<s.size) (h:run (gCom s a true) s.size y m=E) (hc:by8 s y=125) (hf:y+1-a≤65535):E=(y+1,0):=by
 rw [←h]
 refine run_out (by omega) ?_
 unfold gCom
 rw [if_neg (by omega),if_neg (by rintro ⟨e1,e2⟩;cases e1),if_neg (by omega),if_pos ⟨rfl,hc⟩]
theorem Rq.told {w0 W:World}{g:Nat}{s:ByteArray}{a:Nat}{p n:Int}{b f:Nat}{v v':Value}{l:List Tv}(h1:Below w0.heap.size w0 W) (h2:w0.heap.size≤g) (h3:RB W g s a p n b f v) (h4:Rt w0.heap.size W v' l) :
  Rq w0 ((W.setCell ⟨g,8,none⟩ v').setCell ⟨g,7,none⟩ (.int .i64 0)) g s a p n b 0 l:=by
 have hne:=h4.ne h3 (by decide)
 refine ⟨(h1.setCell (p:=⟨g,8,none⟩) h2 _).setCell (p:=⟨g,7,none⟩) h2 _,h2,v',?_,?_⟩
 ·exact blk_set (blk_set h3 8 _) 7 _
 ·exact (h4.kp (Kp.set _ g 8 _) hne).kp (Kp.set _ g 7 _) hne
theorem step_tok {W:World}{ops:Array Oper}{o:Oper}{a:Act}{K:Act→World→Prop}{Q:Exit→Act→World→Prop}{E:Prop}(hgd:o.guard=none) (s x:Operand)
  (ho:o.op=.call { callee:=.builtin .append,args:=#[s,x],argTypes:=#[60,60] }) (B:Nat) (v:Value) (l:List Tv) (d:Tv) (hs:a.eval s=v) (hr:Rt B W v l)
  (g c:Nat) (hx:a.eval x=.slice (some ⟨g,0,none⟩) 1 c) (hg:W.heap[g]?=some (.cells #[.int .u8 d.k,.string d.t,.int .i64 d.a,.int .i64 d.l,.int .i64 d.c,.int .i64 d.f] 37 (0,0))) (hl:l.length≤1000000000) (hB:B≤W.heap.size)
  (h:∀q cap w',Rt B w' (.slice (some ⟨q,0,none⟩) (l.length+1) cap) (l++[d])→Below B W w'→W.grownBy w' v.ownBlock→K (a.put o.dst (.slice (some ⟨q,0,none⟩) (l.length+1) cap)) w') :
  if Region.wanted o (yielded ops a.tmps)=true then Oper.wp Tryz.prog o a W K Q else E:=by
 obtain ⟨i0,hi,hz0,hz1,hz2⟩:=info_parts Tryz.info37
 refine step_append_lies W hgd s x 60 ho B 37 i0 _ 6 56 Tryz.underlying60 hi hz0 hz1 hz2 rfl (by decide) v _ _ hs hr ⟨g,0,none⟩ 1 c (tcs [d]) hx (by rw [tcs_len];rfl) ?_ (tcs_one [d]) (by omega) (by unfold maxLen;omega) (by omega) hB _ rfl ?_
 ·intro j u hu
  refine World.news_of_block hg j u ?_
  have e:tcs [d]=[.int .u8 d.k,.string d.t,.int .i64 d.a,.int .i64 d.l,.int .i64 d.c,.int .i64 d.f]:=by simp [tcs,flat,Tv.cs]
  rw [e] at hu
  simpa using hu
 ·intro q cap w' a1 a2 a3 _
  refine h q cap w' ?_ ((Below.refl B W).grown a2 hB hr.own) a2
  unfold Rt
  rw [List.length_append,tcs_app]
  exact a1
set_option maxRecDepth 100000 in
set_option maxHeartbeats 4000000 in
theorem tell_core {w0 W:World}{g:Nat}{s:ByteArray}{a:Nat}{p n:Int}{b f:Nat}{l:List Tv}(h:Rq w0 W g s a p n b f l) (k:Nat) (T:ByteArray) (hT:(if k=7 then s.extract b (tkTrim s a) else s.extract b a)=T) (h7:k=7→b<a∧tkBl (by8 s b)=false) (hs:s.size≤2147483647) (hba:b≤a) (ha:a≤s.size) (hl:l.length≤1000000000) :
  Calls Tryz.prog 136 #[.pointer (some ⟨g,0,none⟩),.int .u8 k] W fun e w'=>e=.returned (.int .i64 0)∧Rq w0 w' g s a p n b 0 (l++[⟨k,T,b,pL s b,pC s b,f⟩]):=by
 obtain ⟨h1,h2,v,h3,h4⟩:=h
 have hTz:T.size≤2147483647:=by
  rw [←hT]
  have:=tkTrim_le s a
  split
  ·rw [size_ext s b _ (by omega)];omega
  ·rw [size_ext s b a ha];omega
 obtain ⟨U,hU⟩:∃U,s.extract b a=U:=⟨_,rfl⟩
 have HTr:Hid (k=7→∀V,Calls Tryz.prog 182 #[.string U,.string ⟨#[32,9,13]⟩] V fun e w'=>e=.returned (.string T)∧Below V.heap.size V w'):=fun hk V=>by
  have h8:=trim_any U V (by rw [←hU,size_ext s b a ha];omega)
  rw [if_pos hk] at hT
  rw [←hU,trim_is s b a (h7 hk).1 ha (h7 hk).2,hT] at h8
  rw [←hU]
  exact h8
 have HTn:Hid (k≠7→U=T):=fun hk=>by rw [if_neg hk] at hT;rw [←hU];exact hT
 have HB:Hid (Calls Tryz.prog 144 #[.pointer (some ⟨g,0,none⟩)] W fun e w'=>e=.returned (.string U)∧∃m,w'=W.drewN m):=by rw [←hU];exact bytes_any h3 hs hba ha
 have HC:Hid (∀V,Calls Tryz.prog 183 #[.string T] V fun e w'=>e=.returned (.string T)∧Below V.heap.size V w'):=fun V=>clone_any T V hTz
 have HK:Hid (∀V,Below W.heap.size W V→Below w0.heap.size w0 V∧RB V g s a p n b f v∧Rt w0.heap.size V v l):=fun V hb=>⟨h1.trans (hb.mono h1.size),blk_below h3 hb,h4.below hb⟩
 obtain ⟨vp,vc,rfl,hv1,hv2⟩:=h4.shape
 clear h1 h3 h4 hT h7 hU
 go_enter Tryz.func136,Tryz.ntmps136
 go_upto_if 9 with (first|(go_at_call 144;refine HB.out.mono ?_;rintro e w1 ⟨rfl,m,hw⟩;have hb0:=bel_dn W m;rw [←hw] at hb0;clear hw))
 go_cut [5] from 9 (fun t wx=>t=.string T∧Hid (Below W.heap.size W wx))
 case first=>
  by_cases hk:k=7
  ·have q1:((k:Int) == 7)=true:=by simp;omega
   have HKk:Hid (k=7):=hk
   clear hk
   go_wp2_with (first|(go_at_call 182;refine (HTr.out HKk.out _).mono ?_;rintro e w2 ⟨rfl,hb2⟩))
   go_meet
   exact ⟨rfl,hb0.trans (hb2.mono hb0.size)⟩
  ·have q1:((k:Int) == 7)=false:=by simp;omega
   have HKk:Hid (k≠7):=hk
   clear hk
   go_wp2_with fail
   go_meet
   exact ⟨by rw [HTn.out HKk.out],hb0⟩
 case rest=>
  obtain ⟨rfl,HW⟩:=hcut
  have hb0:=HW.out
  go_wp2_with fail
  have HK1:Hid (∀V,Below wc.heap.size wc V→Below w0.heap.size w0 V∧RB V g s a p n b f (.slice vp l.length vc)∧Rt w0.heap.size V (.slice vp l.length vc) l):=fun V hb=>HK.out V (hb0.trans (hb.mono hb0.size))
  obtain ⟨_,k3,_⟩:=HK1.out _ (Below.refl _ _)
  obtain ⟨c0,c1,c2,c3,c4,c5,c6,c7,c8⟩:=Rq.cells k3
  have hlt:=blk_lt k3
  clear HK HB hb0 k3 c0 c1 c2 c3
  have HA:Hid (∀V q cap w',Below wc.heap.size wc V→Rt w0.heap.size w' (.slice (some ⟨q,0,none⟩) (l.length+1) cap) (l++[⟨k,T,b,pL s b,pC s b,f⟩])→Below w0.heap.size V w'→V.grownBy w' (Value.slice vp l.length vc).ownBlock→RB w' g s a p n b f (.slice vp l.length vc)∧Below w0.heap.size w0 w'):=fun V q cap w' hV hr hb hg=>by
   obtain ⟨x1,x3,x4⟩:=HK1.out _ hV
   exact ⟨(Kp.of_grown hg).blk x3 (fun e=>x4.ne x3 (by decide) _ e.symm rfl),x1.trans hb⟩
  go_region_law (first|(go_simp;go_at_call 183;refine (HC.out _).mono ?_;rintro e w2 ⟨rfl,hb2⟩;have hbW:Below wc.heap.size wc w2:=(Below.refl wc.heap.size wc).drew.trans (hb2.mono (Nat.le_refl _));obtain ⟨y1,y3,yr⟩:=HK1.out _ hbW;obtain ⟨_,_,_,_,y4,y5,y6,y7,y8⟩:=Rq.cells y3;have hlt2:=blk_lt y3;have hs0:=y1.size)|(refine step_tok (by rfl) _ _ (by rfl) w0.heap.size (.slice vp l.length vc) l ⟨k,T,b,pL s b,pC s b,f⟩ (by rfl) (yr.below ((Below.refl _ _).alloc (Nat.le_refl _) _)) w2.heap.size 1 (by rfl) (new_at _ _) hl (by rw [World.size_alloc];exact Nat.le_succ_of_le hs0) ?_;intro q cap w3 hr3 hb3 hg3;obtain ⟨z3,z1⟩:=HA.out _ _ _ _ (hbW.alloc hbW.size _) hr3 hb3 hg3;have HF:Hid (Rq w0 ((w3.setCell ⟨g,8,none⟩ (.slice (some ⟨q,0,none⟩) (l.length+1) cap)).setCell ⟨g,7,none⟩ (.int .i64 0)) g s a p n b 0 (l++[⟨k,T,b,pL s b,pC s b,f⟩])):=Rq.told z1 h2 z3 hr3;have zf:=z3.frozen 8;have zc:w3.cell? ⟨g,8,none⟩=some (.slice vp l.length vc):=blk_cell z3 rfl;have zg:=z3.frozen 7;have zd:w3.cell? ⟨g,7,none⟩=some (.int .i64 f):=blk_cell z3 rfl;clear hr3 hb3 hg3 z3 z1 y1 y3 yr))
  all_goals (
   go_wp2_with fail
   go_ret
   exact ⟨rfl,HF.out⟩)
theorem tell_any {w0 W:World}{g:Nat}{s:ByteArray}{y a f:Nat}{l:List Tv}(h:Rs w0 W g s y a f l) (k:Nat) (hs:s.size≤2147483647) (hay:a≤y) (hy:y≤s.size) (hl:l.length≤1000000000) (h7:k=7→a<y∧tkBl (by8 s a)=false) :
  Calls Tryz.prog 136 #[.pointer (some ⟨g,0,none⟩),.int .u8 k] W fun e w'=>e=.returned (.int .i64 0)∧Rs w0 w' g s y a 0 (l++[tv s ⟨k,a,if k=7 then tkTrim s y else y,f⟩]):=by
 refine (tell_core h k _ rfl h7 hs hay hy hl).mono ?_
 rintro e w' ⟨rfl,hr⟩
 refine ⟨rfl,?_⟩
 have e:tv s ⟨k,a,if k=7 then tkTrim s y else y,f⟩=⟨k,if k=7 then s.extract a (tkTrim s y) else s.extract a y,a,pL s a,pC s a,f⟩:=by
  unfold tv
  by_cases e:k=7
  ·simp only [if_pos e]
  ·simp only [if_neg e]
 rw [e]
 exact hr
theorem bgn3 {s:ByteArray}{a:Nat}(h:tkBgn s a=3):tkDg (by8 s a)=true:=by
 unfold tkBgn at h
 repeat' split at h
 all_goals first|assumption|(cases h;done)
theorem bgn1 {s:ByteArray}{a:Nat}(h:tkBgn s a=1):(gd s a && lt' (dp s a))=true:=by
 unfold tkBgn at h
 repeat' split at h
 all_goals first|assumption|(cases h;done)
theorem bgn4 {s:ByteArray}{a:Nat}(h:tkBgn s a=4):by8 s a=34:=by
 unfold tkBgn at h
 repeat' split at h
 all_goals first|assumption|(cases h;done)
theorem bgn5 {s:ByteArray}{a:Nat}(h:tkBgn s a=5):by8 s a=39:=by
 unfold tkBgn at h
 repeat' split at h
 all_goals first|assumption|(cases h;done)
theorem bgn7 {s:ByteArray}{a:Nat}(h:tkBgn s a=7):by8 s a=47∧a+1<s.size∧by8 s (a+1)=47:=by
 unfold tkBgn at h
 repeat' split at h
 all_goals first|assumption|(cases h;done)
theorem bgn8 {s:ByteArray}{a:Nat}(h:tkBgn s a=8):by8 s a=123:=by
 unfold tkBgn at h
 repeat' split at h
 all_goals first|assumption|(cases h;done)
theorem dg_asc {c:Nat}(h:tkDg c=true):48≤c∧c≤57:=by
 unfold tkDg at h
 simpa using h
structure JN (w0 W:World) (g:Nat) (s:ByteArray) (k a f:Nat) (l:List Tv) (x:Nat):Prop where
 ax:a≤x
 xs:x<s.size
 bx:bd s x
 rs:Rs w0 W g s x a f l
 on:∃m,run (gRow s a k) s.size x m=tkEnd s a k∧gRow s a k x m=.on (dw s x)
theorem JN.next {w0 W W':World}{g:Nat}{s:ByteArray}{k a f:Nat}{l:List Tv}{x:Nat}(h:JN w0 W g s k a f l x) (hr:Rs w0 W' g s (x+rsz s x) a f l) :
  ∃y,x<y∧a≤y∧y≤s.size∧bd s y∧Rs w0 W' g s y a f l∧∃m,run (gRow s a k) s.size y m=tkEnd s a k:=by
 obtain ⟨h1,h2,h3,h4,m,h5,h6⟩:=h
 obtain ⟨e1,e2⟩:=row_go h2 h5 h6
 have d:=(dw_facts s x h2).1
 rw [rsz_in h2] at hr
 exact ⟨x+dw s x,by omega,by omega,e1,bd_next h3 h2,hr,m+1,e2⟩
set_option maxHeartbeats 1000000 in
theorem num_any {w0 W:World}{g:Nat}{s:ByteArray}{a f:Nat}{l:List Tv}(h:Rs w0 W g s a a f l) (hs:s.size≤2147483647) (ha:a<s.size) (hb:bd s a) (hk:tkBgn s a=3) (hl:l.length≤1000000000) :
  Calls Tryz.prog 88 #[.pointer (some ⟨g,0,none⟩)] W fun e w'=>e=.returned (.int .i64 ((tkEnd s a 3).2:Nat))∧TP w0 w' g s 3 a f l:=by
 have hd:=bgn3 hk
 have hd2:=dg_asc hd
 have hE:tkEnd s a 3=run (gRow s a 3) s.size a 0:=by unfold tkEnd;simp
 have hw:=(chr_asc s a (by omega)).1
 have hJ0:JN w0 W g s 3 a f l a:=⟨Nat.le_refl _,ha,hb,h,0,hE.symm,row_on ha (by rintro (⟨h,_⟩|⟨_,h⟩);cases h;rw [hd] at h;cases h) (by omega)⟩
 have HT:Hid (∀V x,JN w0 V g s 3 a f l x→Calls Tryz.prog 133 #[.pointer (some ⟨g,0,none⟩)] V fun e w'=>e=.returned (.tuple #[])∧∃y,x<y∧a≤y∧y≤s.size∧bd s y∧Rs w0 w' g s y a f l∧∃m,run (gRow s a 3) s.size y m=tkEnd s a 3):=fun V x hx=>by
  refine (take_any hx.rs hs (Nat.le_of_lt hx.xs)).mono ?_
  rintro e w' ⟨rfl,hr⟩
  exact ⟨rfl,hx.next hr⟩
 have HD:Hid (∀p V,Calls Tryz.prog 87 #[.int .i32 p] V fun e w'=>e=.returned (.bool (decide (48≤p) && decide (p≤57)))∧w'=V):=isDigit_any
 have HP:Hid (∀V y,Rs w0 V g s y a f l→a≤y→y≤s.size→(Calls Tryz.prog 136 #[.pointer (some ⟨g,0,none⟩),.int .u8 3] V fun e w'=>e=.returned (.int .i64 0)∧Rs w0 w' g s y a 0 (l++[tv s (tkTok s 3 a y f)]))∧(Calls Tryz.prog 138 #[.pointer (some ⟨g,0,none⟩)] V fun e w'=>e=.returned (.bool (decide (65535<y+rsz s y-a)))∧Rs w0 w' g s y a f l)):=fun V y hr h1 h2=>by
  constructor
  ·exact tell_any hr 3 hs h1 h2 hl (by intro h;cases h)
  ·obtain ⟨h1',h2',v,h3,h4⟩:=hr
   refine (isFull_any h3 hs h1 h2 (by by_cases e:y<s.size;rw [rsz_in e];exact (dw_facts s y e).2.1;rw [rsz_out (by omega)];omega)).mono ?_
   rintro e w' ⟨rfl,hb⟩
   exact ⟨rfl,Rq.below ⟨h1',h2',v,h3,h4⟩ hb⟩
 have HC:Hid (∀V y,Rs w0 V g s y a f l→V.cell? ⟨g,2,none⟩=some (.int .i32 (rpt s y))):=fun V y hr=>by
  obtain ⟨h1',h2',v,h3,h4⟩:=hr
  exact (Rq.cells h3).2.2.1
 have c2:=HC.out _ _ h
 have q0:(decide (48≤rpt s a) && decide (rpt s a≤57))=true:=by rw [digit_pt,decide_eq_true ha,hd];rfl
 have HJ0:Hid (JN w0 W g s 3 a f l a):=hJ0
 have HD0:Hid (Calls Tryz.prog 87 #[.int .i32 (rpt s a)] W fun e w'=>e=.returned (.bool true)∧w'=W):=by rw [←q0];exact isDigit_any _ _
 clear hd hd2 hE hw hJ0 h hk q0
 go_enter Tryz.func88,Tryz.ntmps88
 go_wp2_with fail
 refine wp_scope_jumps 0 (fun a' w'=>∃(x:Nat) (u1 u2 u3 u4 u5 u6 u7 u8 u9 u10 u11 u12 u13 u14 u15 u16 u17 u18 u19 u20 u21 u22 u23 u24 u25 u26 u27 u28 u29 u30 u31 u32 u33 u34 u35 u36 u37 u38:Value),Hid (JN w0 w' g s 3 a f l x)∧a'={ tmps:=#[.pointer (some ⟨g,0,none⟩),u1,u2,u3,u4,u5,u6,u7,u8,u9,u10,u11,u12,u13,u14,u15,u16,u17,u18,u19,u20,u21,u22,u23,u24,u25,u26,u27,u28,u29,u30,u31,u32,u33,u34,u35,u36,u37,u38],defers:=[] }) (fun _ w'=>s.size-cntAt w' g 1) rfl ?_ ?_
 ·go_wp2_with (first|(go_at_call 87;refine HD0.out.mono ?_;rintro e w1 ⟨rfl,hw⟩;replace hw:=hw.symm;subst hw))
  go_step3
  exact ⟨rfl,a,_,_,_,_,_,_,_,_,_,_,_,_,_,_,_,_,_,_,_,_,_,_,_,_,_,_,_,_,_,_,_,_,_,_,_,_,_,_,HJ0,rfl⟩
 ·rintro a' w' ⟨x,u1,u2,u3,u4,u5,u6,u7,u8,u9,u10,u11,u12,u13,u14,u15,u16,u17,u18,u19,u20,u21,u22,u23,u24,u25,u26,u27,u28,u29,u30,u31,u32,u33,u34,u35,u36,u37,u38,HJ,rfl⟩
  have HX:Hid (cntAt w' g 1=x∧x<s.size):=⟨HJ.out.rs.at,HJ.out.xs⟩
  go_wp2_with fail
  refine (HT.out _ _ HJ.out).mono ?_
  rintro e w1 ⟨rfl,y,y1,y2,y3,y4,y5,m,y6⟩
  have z2:=HC.out _ _ y5
  obtain ⟨t1,t2⟩:=HP.out _ _ y5 y2 y3
  have HY:Hid (Rs w0 w1 g s y a f l∧bd s y∧run (gRow s a 3) s.size y m=tkEnd s a 3):=⟨y5,y4,y6⟩
  clear HJ y5 y4 y6 c2
  by_cases hc:(decide (48≤rpt s y) && decide (rpt s y≤57))=true
  ·have HDy:Hid (Calls Tryz.prog 87 #[.int .i32 (rpt s y)] w1 fun e w'=>e=.returned (.bool true)∧w'=w1):=by rw [←hc];exact isDigit_any _ _
   have hc2:=hc
   rw [digit_pt,Bool.and_eq_true,decide_eq_true_eq] at hc2
   obtain ⟨d1,d2⟩:=hc2
   have HN:Hid (¬((3=1∧(gd s y && pr' (dp s y))=false)∨((3:Nat)=3∧tkDg (by8 s y)=false))):=by
    show ¬_
    rintro (⟨h,_⟩|⟨_,h⟩)
    ·cases h
    ·rw [d2] at h;cases h
   have HF2:Hid (Calls Tryz.prog 138 #[.pointer (some ⟨g,0,none⟩)] w1 fun e w'=>e=.returned (.bool (decide (65535<y+rsz s y-a)))∧Rs w0 w' g s y a f l):=t2
   rw [rsz_in d1] at HF2
   clear hc t1 t2
   by_cases hf:65535<y+dw s y-a
   ·have HE:Hid (tkEnd s a 3=(a,103)):=row_full d1 HY.out.2.2 HN.out hf
    rw [decide_eq_true hf] at HF2
    clear hf
    go_wp2_with (first|(go_at_call 87;refine HDy.out.mono ?_;rintro e w2 ⟨rfl,hw⟩;replace hw:=hw.symm;subst hw)|(go_at_call 138;refine HF2.out.mono ?_;rintro e w3 ⟨rfl,hr3⟩))
    simp only [Exit.jump]
    go_ret
    rw [HE.out]
    exact ⟨rfl,TP.bad HE.out (by decide) HY.out.2.1 y2 hr3 (by intro h;cases h)⟩
   ·have HO:Hid (gRow s a 3 y m=.on (dw s y)):=row_on d1 HN.out hf
    rw [decide_eq_false hf] at HF2
    clear hf
    go_wp2_with (first|(go_at_call 87;refine HDy.out.mono ?_;rintro e w2 ⟨rfl,hw⟩;replace hw:=hw.symm;subst hw)|(go_at_call 138;refine HF2.out.mono ?_;rintro e w3 ⟨rfl,hr3⟩))
    go_step3
    refine ⟨rfl,⟨y,_,_,_,_,_,_,_,_,_,_,_,_,_,_,_,_,_,_,_,_,_,_,_,_,_,_,_,_,_,_,_,_,_,_,_,_,_,_,⟨y2,d1,HY.out.2.1,hr3,m,HY.out.2.2,HO.out⟩,rfl⟩,?_⟩
    rw [HX.out.1,hr3.at]
    have:=HX.out.2
    omega
  ·have hc1:(decide (48≤rpt s y) && decide (rpt s y≤57))=false:=by simpa using hc
   have HDy:Hid (Calls Tryz.prog 87 #[.int .i32 (rpt s y)] w1 fun e w'=>e=.returned (.bool false)∧w'=w1):=by rw [←hc1];exact isDigit_any _ _
   have HE:Hid (tkEnd s a 3=(y,0)):=by
    refine row_stop y3 HY.out.2.2 ?_
    rw [digit_pt] at hc1
    by_cases e:y<s.size
    ·rw [decide_eq_true e,Bool.true_and] at hc1;exact .inr (.inr ⟨rfl,hc1⟩)
    ·exact .inl (by omega)
   have HTl:Hid (Calls Tryz.prog 136 #[.pointer (some ⟨g,0,none⟩),.int .u8 3] w1 fun e w'=>e=.returned (.int .i64 0)∧Rs w0 w' g s y a 0 (l++[tv s (tkTok s 3 a y f)])):=t1
   clear hc hc1 t1 t2
   go_wp2_with (first|(go_at_call 87;refine HDy.out.mono ?_;rintro e w2 ⟨rfl,hw⟩;replace hw:=hw.symm;subst hw)|(go_at_call 136;refine HTl.out.mono ?_;rintro e w3 ⟨rfl,hr3⟩))
   simp only [Exit.jump]
   go_ret
   rw [HE.out]
   exact ⟨rfl,TP.ok HE.out hr3⟩
end Go.Proofs.YtpdlohfdjiaegaaGreatDoor.Lx
