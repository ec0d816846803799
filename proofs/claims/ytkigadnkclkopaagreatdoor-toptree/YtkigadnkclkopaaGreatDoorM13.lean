import Derived.Test.YtkigadnkclkopaaGreatDoorM12
set_option linter.unusedVariables false
set_option linter.unusedSimpArgs false
namespace Go.Proofs.YtkigadnkclkopaaGreatDoor.Lx
open Go.RowKit
theorem sign_not2 {s:ByteArray}{b p:Nat}(h:MS s b p 3):s.extract b p≠twoSl:=by
 cases h with
 |sign h1 h2 h3=>
  intro e
  obtain ⟨g1,g2,g3⟩:=sg_in (s.extract b p) 0 (by omega)
  have hz:=size_ext s b p h2
  have e2:(s.extract b p).extract 0 (0+(sg (s.extract b p) 0).size)=s.extract b p:=by
   rw [h3,Nat.zero_add,←hz]
   exact extract_all _
  rw [e2,e] at g2
  rw [e,←g2] at g3
  exact sign_slash g3
theorem sign_notm {s:ByteArray}{b p:Nat}(h:MS s b p 3):¬p-b<(sg (s.extract b p) 0).size:=by
 cases h with
 |sign h1 h2 h3=>omega
theorem lline_at {S:Nat→Prop}{w0 W:World}{g:Nat}{s o:ByteArray}{T0:List Tk}{p b f:Nat}{new:List Tk}{r:Bool}(h:SPr S w0 W g s o T0 p 3 b f new) (hs:s.size≤2147483647) (hb:b<s.size) (hr:r=true↔s.extract b (xq s p)=twoSl) :
  Hid (Calls Tryz.prog 62 #[.pointer (some ⟨g,0,none⟩),.string (s.extract p (xq s p))] W fun e w'=>e=.returned (.bool r)∧∃m,w'=W.drewN m):=by
 obtain ⟨f1,f2,f3,f4,f5,f6⟩:=h.facts
 obtain ⟨q1,q2,q3,q4⟩:=xq_bd h.pd
 obtain ⟨vt,vo,vs,h1,h2⟩:=h.lq
 exact lline_any h1 h2.rt _ (by rw [size_ext s b p f4];omega) (by rw [size_ext s p _ q4];omega) r (by rw [ext_cat s b p _ f1 q2 q4];exact hr)
theorem lsign_at {S:Nat→Prop}{w0 W:World}{g:Nat}{s o:ByteArray}{T0:List Tk}{p b f:Nat}{new:List Tk}{r:Bool}(h:SPr S w0 W g s o T0 p 3 b f new) (hs:s.size≤2147483647) (hb:b<s.size) (hK:∀V,Kp S w0 V→Kab V) (hr:r=true↔p-b<(sg (s.extract b (xq s p)) 0).size) :
  Hid (∀V,SPr S w0 V g s o T0 p 3 b f new→Calls Tryz.prog 63 #[.pointer (some ⟨g,0,none⟩),.string (s.extract p (xq s p))] V fun e w'=>e=.returned (.bool r)∧Below V.heap.size V w'):=fun V hV=>by
 obtain ⟨f1,f2,f3,f4,f5,f6⟩:=h.facts
 obtain ⟨q1,q2,q3,q4⟩:=xq_bd h.pd
 have hbp:b<p:=by
  cases h.ms with
  |sign e _ _=>exact e
 obtain ⟨vt,vo,vs,h1,h2⟩:=hV.lq
 have hz:=size_ext s b p f4
 have h9:=lsign_any h1 h2.rt (hK V h2.kp).2.2 (s.extract p (xq s p)) (by omega) (by omega) (by rw [size_ext s p _ q4];omega)
 rw [ext_cat s b p _ f1 q2 q4] at h9
 have e:decide ((s.extract b p).size<(sg (s.extract b (xq s p)) 0).size)=r:=by rw [Bool.eq_iff_iff,decide_eq_true_eq,hr,hz]
 rw [e] at h9
 exact h9
set_option maxRecDepth 100000 in
set_option maxHeartbeats 1000000 in
theorem lstep0_end {S:Nat→Prop}{w0 W:World}{g:Nat}{s o:ByteArray}{T0:List Tk}{p b f:Nat}{new:List Tk}(h:SPr S w0 W g s o T0 p 0 b f new) (hs:s.size≤1000000000) (hK:∀V,Kp S w0 V→Kab V) (hp:s.size≤p) :
  Calls Tryz.prog 27 #[.pointer (some ⟨g,0,none⟩),.int .i32 (xp s p),.string (s.extract p (xq s p))] W fun e w'=>SPo S w0 g s o T0 p e w':=by
 obtain ⟨f1,f2,f3,f4,f5,f6⟩:=h.facts
 obtain ⟨c5,z5,hgl⟩:=h.cell
 have hwr:IntKind.i64.wrap (xp s p)=xp s p:=by
  rw [IntKind.wrap_i64]
  have:=dp_le s p
  unfold xp
  split <;> omega
 obtain rfl:b=p:=by
  cases h.ms with
  |none e=>exact e
 have HSP:Hid (SPr S w0 W g s o T0 b 0 b f new):=h
 have HP:Hid (s.size≤b):=hp
 have q1:(xp s b == -1)=true:=by rw [beq_iff_eq];exact xp_out hp
 have HF:Hid (SPo S w0 g s o T0 b (.returned (.int .i64 0)) W):=SPo.ends h hp
 clear h hK hp
 go_enter Tryz.func27,Tryz.ntmps27
 go_wp2_with fail
 refine wp_scope_go 0 rfl ?_
 go_wp2_with fail
 go_step3
 refine ⟨rfl,?_⟩
 go_wp2_with fail
 simp only [Exit.jump]
 go_ret
 exact HF.out
set_option maxRecDepth 100000 in
set_option maxHeartbeats 1000000 in
theorem lstep1_end {S:Nat→Prop}{w0 W:World}{g:Nat}{s o:ByteArray}{T0:List Tk}{p b f:Nat}{new:List Tk}(h:SPr S w0 W g s o T0 p 1 b f new) (hs:s.size≤1000000000) (hK:∀V,Kp S w0 V→Kab V) (hp:s.size≤p) (hoff:p<s.size→(gd s p && pr' (dp s p))=false) :
  Calls Tryz.prog 27 #[.pointer (some ⟨g,0,none⟩),.int .i32 (xp s p),.string (s.extract p (xq s p))] W fun e w'=>SPo S w0 g s o T0 p e w':=by
 obtain ⟨f1,f2,f3,f4,f5,f6⟩:=h.facts
 obtain ⟨c5,z5,hgl⟩:=h.cell
 have hwr:IntKind.i64.wrap (xp s p)=xp s p:=by
  rw [IntKind.wrap_i64]
  have:=dp_le s p
  unfold xp
  split <;> omega
 obtain ⟨a1,a2⟩:=name_off h.ms f4 hoff
 have hbl':b<s.size:=by
  cases h.ms with
  |name e _ _=>omega
 have HSP:Hid (SPr S w0 W g s o T0 p 1 b f new):=h
 have HP:Hid (s.size≤p):=hp
 have q1:(xp s p == -1)=true:=by rw [beq_iff_eq];exact xp_out hp
 have HPt:Hid (Calls Tryz.prog 57 #[.int .i64 (xp s p)] W fun e w'=>e=.returned (.bool false)∧w'=W):=lpart_at W (hK W (by obtain ⟨vt,vo,vs,h1,h2⟩:=h.lq;exact h2.kp)) false ⟨fun h=>(by cases h),fun h=>(by rw [hoff h.1] at h;cases h.2)⟩
 obtain ⟨kk,hkk⟩:∃kk:Nat,(tkTok s 1 b p f).k=kk:=⟨_,rfl⟩
 have HWo:Hid (Calls Tryz.prog 60 #[.pointer (some ⟨g,0,none⟩)] W fun e w'=>e=.returned (.int .u8 kk)∧w'=W):=by
  obtain ⟨vt,vo,vs,h1,h2⟩:=h.lq
  have h9:=lword_any h1 h2.rt (hK W h2.kp).2.1
  have e9:(if ky (s.extract b p)=true then (2:Int) else 1)=kk:=by
   rw [←hkk]
   show _=(((if 1=1∧ky (s.extract b p)=true then 2 else 1:Nat)):Int)
   by_cases hy:ky (s.extract b p)=true
   ·rw [if_pos hy,if_pos ⟨rfl,hy⟩];rfl
   ·rw [if_neg hy,if_neg (fun e=>hy e.2)];rfl
  rw [e9] at h9
  exact h9
 have HTe:Hid (∀V,SPr S w0 V g s o T0 p 1 b f new→Calls Tryz.prog 59 #[.pointer (some ⟨g,0,none⟩),.int .u8 kk] V fun e w'=>e=.returned (.tuple #[])∧(p<s.size→SPr S w0 w' g s o T0 p 0 p 0 (new++[tkTok s 1 b p f]))∧(s.size≤p→SPo S w0 g s o T0 p (.returned (.int .i64 0)) w')):=fun V hV=>ltell_po hV hs hbl' a1 (by decide) a2 hkk.symm
 clear h hK a1 a2 hoff hkk hp
 go_enter Tryz.func27,Tryz.ntmps27
 go_wp2_with fail
 refine wp_scope_two 0 1 rfl rfl ?_
 go_wp2_with fail
 go_step3
 refine ⟨rfl,?_⟩
 go_wp2_with (first|(go_at_call 57;refine HPt.out.mono ?_;rintro e w1 ⟨rfl,hw⟩;replace hw:=hw.symm;subst hw)|(go_at_call 60;refine HWo.out.mono ?_;rintro e w1 ⟨rfl,hw⟩;replace hw:=hw.symm;subst hw)|(go_at_call 59;refine (HTe.out _ HSP.out).mono ?_;rintro e w3 ⟨rfl,r3a,r3b⟩;have HF:Hid (SPo S w0 g s o T0 p (.returned (.int .i64 0)) w3):=r3b HP.out))
 go_step3
 refine ⟨rfl,?_⟩
 go_wp2_with fail
 simp only [Exit.jump]
 go_ret
 exact HF.out
set_option maxRecDepth 100000 in
set_option maxHeartbeats 1000000 in
theorem lstep2_end {S:Nat→Prop}{w0 W:World}{g:Nat}{s o:ByteArray}{T0:List Tk}{p b f:Nat}{new:List Tk}(h:SPr S w0 W g s o T0 p 2 b f new) (hs:s.size≤1000000000) (hK:∀V,Kp S w0 V→Kab V) (hp:s.size≤p) (hoff:p<s.size→tkDg (by8 s p)=false) :
  Calls Tryz.prog 27 #[.pointer (some ⟨g,0,none⟩),.int .i32 (xp s p),.string (s.extract p (xq s p))] W fun e w'=>SPo S w0 g s o T0 p e w':=by
 obtain ⟨f1,f2,f3,f4,f5,f6⟩:=h.facts
 obtain ⟨c5,z5,hgl⟩:=h.cell
 have hwr:IntKind.i64.wrap (xp s p)=xp s p:=by
  rw [IntKind.wrap_i64]
  have:=dp_le s p
  unfold xp
  split <;> omega
 obtain ⟨a1,a2⟩:=num_off h.ms f4 hoff
 have hbl':b<s.size:=by
  cases h.ms with
  |num e _ _=>omega
 have HSP:Hid (SPr S w0 W g s o T0 p 2 b f new):=h
 have HP:Hid (s.size≤p):=hp
 have q1:(xp s p == -1)=true:=by rw [beq_iff_eq];exact xp_out hp
 have HDg:Hid (Calls Tryz.prog 61 #[.int .i32 (xp s p)] W fun e w'=>e=.returned (.bool false)∧w'=W):=ldigit_at W false ⟨fun h=>(by cases h),fun h=>(by rw [hoff h.1] at h;cases h.2)⟩
 have HTe:Hid (∀V,SPr S w0 V g s o T0 p 2 b f new→Calls Tryz.prog 59 #[.pointer (some ⟨g,0,none⟩),.int .u8 3] V fun e w'=>e=.returned (.tuple #[])∧(p<s.size→SPr S w0 w' g s o T0 p 0 p 0 (new++[tkTok s 3 b p f]))∧(s.size≤p→SPo S w0 g s o T0 p (.returned (.int .i64 0)) w')):=fun V hV=>ltell_po hV hs hbl' a1 (by decide) a2 rfl
 clear h hK a1 a2 hoff hp
 go_enter Tryz.func27,Tryz.ntmps27
 go_wp2_with fail
 refine wp_scope_two 0 2 rfl rfl ?_
 go_wp2_with fail
 go_step3
 refine ⟨rfl,?_⟩
 go_wp2_with (first|(go_at_call 61;refine HDg.out.mono ?_;rintro e w1 ⟨rfl,hw⟩;replace hw:=hw.symm;subst hw)|(go_at_call 59;refine (HTe.out _ HSP.out).mono ?_;rintro e w3 ⟨rfl,r3a,r3b⟩;have HF:Hid (SPo S w0 g s o T0 p (.returned (.int .i64 0)) w3):=r3b HP.out))
 go_step3
 refine ⟨rfl,?_⟩
 go_wp2_with fail
 simp only [Exit.jump]
 go_ret
 exact HF.out
set_option maxRecDepth 100000 in
set_option maxHeartbeats 1000000 in
theorem lstep3_end {S:Nat→Prop}{w0 W:World}{g:Nat}{s o:ByteArray}{T0:List Tk}{p b f:Nat}{new:List Tk}(h:SPr S w0 W g s o T0 p 3 b f new) (hs:s.size≤1000000000) (hK:∀V,Kp S w0 V→Kab V) (hp:s.size≤p) (hl:p<s.size→s.extract b (p+dw s p)≠twoSl) (hsg:p<s.size→¬p-b<(sg (s.extract b (p+dw s p)) 0).size) :
  Calls Tryz.prog 27 #[.pointer (some ⟨g,0,none⟩),.int .i32 (xp s p),.string (s.extract p (xq s p))] W fun e w'=>SPo S w0 g s o T0 p e w':=by
 obtain ⟨f1,f2,f3,f4,f5,f6⟩:=h.facts
 obtain ⟨c5,z5,hgl⟩:=h.cell
 have hwr:IntKind.i64.wrap (xp s p)=xp s p:=by
  rw [IntKind.wrap_i64]
  have:=dp_le s p
  unfold xp
  split <;> omega
 obtain ⟨a1,a2⟩:=sign_off h.ms f4 hl hsg
 have hbl':b<s.size:=by
  cases h.ms with
  |sign e _ _=>omega
 have HSP:Hid (SPr S w0 W g s o T0 p 3 b f new):=h
 have HP:Hid (s.size≤p):=hp
 have q1:(xp s p == -1)=true:=by rw [beq_iff_eq];exact xp_out hp
 have HLi:=lline_at (r:=false) h (by omega) hbl' (by
  refine ⟨fun e=>(by cases e),fun e=>?_⟩
  by_cases hx:p<s.size
  ·rw [xq_in hx] at e;exact absurd e (hl hx)
  ·rw [xq_out (by omega)] at e;exact absurd e (sign_not2 h.ms))
 have HSi:=lsign_at (r:=false) h (by omega) hbl' hK (by
  refine ⟨fun e=>(by cases e),fun e=>?_⟩
  by_cases hx:p<s.size
  ·rw [xq_in hx] at e;exact absurd e (hsg hx)
  ·rw [xq_out (by omega)] at e;exact absurd e (sign_notm h.ms))
 have HTe:Hid (∀V,SPr S w0 V g s o T0 p 3 b f new→Calls Tryz.prog 59 #[.pointer (some ⟨g,0,none⟩),.int .u8 6] V fun e w'=>e=.returned (.tuple #[])∧(p<s.size→SPr S w0 w' g s o T0 p 0 p 0 (new++[tkTok s 6 b p f]))∧(s.size≤p→SPo S w0 g s o T0 p (.returned (.int .i64 0)) w')):=fun V hV=>ltell_po hV hs hbl' a1 (by decide) a2 rfl
 clear h hK a1 a2 hl hsg hp
 go_enter Tryz.func27,Tryz.ntmps27
 go_wp2_with fail
 refine wp_scope_two 0 3 rfl rfl ?_
 go_wp2_with fail
 go_step3
 refine ⟨rfl,?_⟩
 go_wp2_with (first|(go_at_call 62;refine HLi.out.mono ?_;rintro e w1 ⟨rfl,m1,hw1⟩;have hb1:=lbel_dn W m1;rw [←hw1] at hb1;clear hw1;have r1:=HSP.out.below hb1;obtain ⟨y1,v1,g1⟩:=r1.cell)|(go_at_call 63;refine (HSi.out _ r1).mono ?_;rintro e w2 ⟨rfl,hb2⟩;have r2:=r1.below hb2;obtain ⟨y2,v2,g2⟩:=r2.cell)|(go_at_call 59;refine (HTe.out _ r2).mono ?_;rintro e w3 ⟨rfl,r3a,r3b⟩;have HF:Hid (SPo S w0 g s o T0 p (.returned (.int .i64 0)) w3):=r3b HP.out))
 go_step3
 refine ⟨rfl,?_⟩
 go_wp2_with fail
 simp only [Exit.jump]
 go_ret
 exact HF.out
set_option maxRecDepth 100000 in
set_option maxHeartbeats 1000000 in
theorem lstep4_end {S:Nat→Prop}{w0 W:World}{g:Nat}{s o:ByteArray}{T0:List Tk}{p b f:Nat}{new:List Tk}(h:SPr S w0 W g s o T0 p 4 b f new) (hs:s.size≤1000000000) (hK:∀V,Kp S w0 V→Kab V) (hp:s.size≤p) :
  Calls Tryz.prog 27 #[.pointer (some ⟨g,0,none⟩),.int .i32 (xp s p),.string (s.extract p (xq s p))] W fun e w'=>SPo S w0 g s o T0 p e w':=by
 obtain ⟨f1,f2,f3,f4,f5,f6⟩:=h.facts
 obtain ⟨c5,z5,hgl⟩:=h.cell
 have hwr:IntKind.i64.wrap (xp s p)=xp s p:=by
  rw [IntKind.wrap_i64]
  have:=dp_le s p
  unfold xp
  split <;> omega
 obtain ⟨a1,a2⟩:=line_off h.ms f4 (fun hx=>absurd hx (by omega))
 have hbl':b<s.size:=by
  cases h.ms with
  |line e _ _=>omega
 have HSP:Hid (SPr S w0 W g s o T0 p 4 b f new):=h
 have HP:Hid (s.size≤p):=hp
 have q1:(xp s p == -1)=true:=by rw [beq_iff_eq];exact xp_out hp
 have HEn:Hid (Calls Tryz.prog 64 #[.int .i32 (xp s p)] W fun e w'=>e=.returned (.bool true)∧w'=W):=lends_at W true ⟨fun _=>.inl hp,fun _=>rfl⟩
 have HTe:Hid (∀V,SPr S w0 V g s o T0 p 4 b f new→Calls Tryz.prog 59 #[.pointer (some ⟨g,0,none⟩),.int .u8 7] V fun e w'=>e=.returned (.tuple #[])∧(p<s.size→SPr S w0 w' g s o T0 p 0 p 0 (new++[tkTok s 7 b p f]))∧(s.size≤p→SPo S w0 g s o T0 p (.returned (.int .i64 0)) w')):=fun V hV=>ltell_po hV hs hbl' a1 (by decide) a2 rfl
 clear h hK a1 a2 hp
 go_enter Tryz.func27,Tryz.ntmps27
 go_wp2_with fail
 refine wp_scope_go 4 rfl ?_
 go_wp2_with fail
 go_step3
 refine ⟨rfl,?_⟩
 go_wp2_with (first|(go_at_call 64;refine HEn.out.mono ?_;rintro e w1 ⟨rfl,hw⟩;replace hw:=hw.symm;subst hw)|(go_at_call 59;refine (HTe.out _ HSP.out).mono ?_;rintro e w3 ⟨rfl,r3a,r3b⟩;have HF:Hid (SPo S w0 g s o T0 p (.returned (.int .i64 0)) w3):=r3b HP.out))
 go_step3
 go_wp2_with fail
 simp only [Exit.jump]
 go_ret
 exact HF.out
set_option maxRecDepth 100000 in
set_option maxHeartbeats 1000000 in
theorem lstep0_lf {S:Nat→Prop}{w0 W:World}{g:Nat}{s o:ByteArray}{T0:List Tk}{p b f:Nat}{new:List Tk}(h:SPr S w0 W g s o T0 p 0 b f new) (hs:s.size≤1000000000) (hK:∀V,Kp S w0 V→Kab V) (hp:p<s.size) (h10:by8 s p=10) :
  Calls Tryz.prog 27 #[.pointer (some ⟨g,0,none⟩),.int .i32 (xp s p),.string (s.extract p (xq s p))] W fun e w'=>SPo S w0 g s o T0 p e w':=by
 obtain ⟨f1,f2,f3,f4,f5,f6⟩:=h.facts
 obtain ⟨c5,z5,hgl⟩:=h.cell
 have hwr:IntKind.i64.wrap (xp s p)=xp s p:=by
  rw [IntKind.wrap_i64]
  have:=dp_le s p
  unfold xp
  split <;> omega
 obtain rfl:b=p:=by
  cases h.ms with
  |none e=>exact e
 have HSP:Hid (SPr S w0 W g s o T0 b 0 b f new):=h
 have HP:Hid (b<s.size):=hp
 have q1:(xp s b == -1)=false:=by rw [beq_eq_false_iff_ne,xp_in hp];omega
 have q10:(xp s b == 10)=true:=by rw [beq_iff_eq,xp_in hp];exact (x_is s b 10 (by decide)).2 h10
 have HPs:Hid (∀V f new,SPr S w0 V g s o T0 b 0 b f new→Calls Tryz.prog 66 #[.pointer (some ⟨g,0,none⟩),.int .i32 (xp s b),.string (s.extract b (xq s b))] V fun e w'=>SPo S w0 g s o T0 b e w'):=fun V f new hV=>lpass_po hV hp hs (.inl h10)
 clear h hK h10 hp
 go_enter Tryz.func27,Tryz.ntmps27
 go_wp2_with fail
 refine wp_scope_go 0 rfl ?_
 go_wp2_with fail
 go_step3
 refine ⟨rfl,?_⟩
 go_wp2_with (first|(go_at_call 66;refine (HPs.out _ _ _ HSP.out).mono ?_;intro e w9 hz;obtain ⟨E,k',b',f',p',new',rfl,hz'⟩:=hz;have HF:Hid (SPo S w0 g s o T0 b (.returned (.int .i64 E)) w9):=⟨E,k',b',f',p',new',rfl,hz'⟩;clear hz'))
 simp only [Exit.jump]
 go_ret
 exact HF.out
set_option maxRecDepth 100000 in
set_option maxHeartbeats 1000000 in
theorem lstep1_lf {S:Nat→Prop}{w0 W:World}{g:Nat}{s o:ByteArray}{T0:List Tk}{p b f:Nat}{new:List Tk}(h:SPr S w0 W g s o T0 p 1 b f new) (hs:s.size≤1000000000) (hK:∀V,Kp S w0 V→Kab V) (hp:p<s.size) (h10:by8 s p=10) (hoff:p<s.size→(gd s p && pr' (dp s p))=false) :
  Calls Tryz.prog 27 #[.pointer (some ⟨g,0,none⟩),.int .i32 (xp s p),.string (s.extract p (xq s p))] W fun e w'=>SPo S w0 g s o T0 p e w':=by
 obtain ⟨f1,f2,f3,f4,f5,f6⟩:=h.facts
 obtain ⟨c5,z5,hgl⟩:=h.cell
 have hwr:IntKind.i64.wrap (xp s p)=xp s p:=by
  rw [IntKind.wrap_i64]
  have:=dp_le s p
  unfold xp
  split <;> omega
 obtain ⟨a1,a2⟩:=name_off h.ms f4 hoff
 have hbl':b<s.size:=by
  cases h.ms with
  |name e _ _=>omega
 have HSP:Hid (SPr S w0 W g s o T0 p 1 b f new):=h
 have HP:Hid (p<s.size):=hp
 have q1:(xp s p == -1)=false:=by rw [beq_eq_false_iff_ne,xp_in hp];omega
 have q10:(xp s p == 10)=true:=by rw [beq_iff_eq,xp_in hp];exact (x_is s p 10 (by decide)).2 h10
 have HPs:Hid (∀V f new,SPr S w0 V g s o T0 p 0 p f new→Calls Tryz.prog 66 #[.pointer (some ⟨g,0,none⟩),.int .i32 (xp s p),.string (s.extract p (xq s p))] V fun e w'=>SPo S w0 g s o T0 p e w'):=fun V f new hV=>lpass_po hV hp hs (.inl h10)
 have HPt:Hid (Calls Tryz.prog 57 #[.int .i64 (xp s p)] W fun e w'=>e=.returned (.bool false)∧w'=W):=lpart_at W (hK W (by obtain ⟨vt,vo,vs,h1,h2⟩:=h.lq;exact h2.kp)) false ⟨fun h=>(by cases h),fun h=>(by rw [hoff h.1] at h;cases h.2)⟩
 obtain ⟨kk,hkk⟩:∃kk:Nat,(tkTok s 1 b p f).k=kk:=⟨_,rfl⟩
 have HWo:Hid (Calls Tryz.prog 60 #[.pointer (some ⟨g,0,none⟩)] W fun e w'=>e=.returned (.int .u8 kk)∧w'=W):=by
  obtain ⟨vt,vo,vs,h1,h2⟩:=h.lq
  have h9:=lword_any h1 h2.rt (hK W h2.kp).2.1
  have e9:(if ky (s.extract b p)=true then (2:Int) else 1)=kk:=by
   rw [←hkk]
   show _=(((if 1=1∧ky (s.extract b p)=true then 2 else 1:Nat)):Int)
   by_cases hy:ky (s.extract b p)=true
   ·rw [if_pos hy,if_pos ⟨rfl,hy⟩];rfl
   ·rw [if_neg hy,if_neg (fun e=>hy e.2)];rfl
  rw [e9] at h9
  exact h9
 have HTe:Hid (∀V,SPr S w0 V g s o T0 p 1 b f new→Calls Tryz.prog 59 #[.pointer (some ⟨g,0,none⟩),.int .u8 kk] V fun e w'=>e=.returned (.tuple #[])∧(p<s.size→SPr S w0 w' g s o T0 p 0 p 0 (new++[tkTok s 1 b p f]))∧(s.size≤p→SPo S w0 g s o T0 p (.returned (.int .i64 0)) w')):=fun V hV=>ltell_po hV hs hbl' a1 (by decide) a2 hkk.symm
 clear h hK a1 a2 hoff hkk h10 hp
 go_enter Tryz.func27,Tryz.ntmps27
 go_wp2_with fail
 refine wp_scope_two 0 1 rfl rfl ?_
 go_wp2_with fail
 go_step3
 refine ⟨rfl,?_⟩
 go_wp2_with (first|(go_at_call 57;refine HPt.out.mono ?_;rintro e w1 ⟨rfl,hw⟩;replace hw:=hw.symm;subst hw)|(go_at_call 60;refine HWo.out.mono ?_;rintro e w1 ⟨rfl,hw⟩;replace hw:=hw.symm;subst hw)|(go_at_call 59;refine (HTe.out _ HSP.out).mono ?_;rintro e w3 ⟨rfl,r3a,r3b⟩;have r3:=r3a HP.out;obtain ⟨y3,v3,g3⟩:=r3.cell;clear r3a r3b))
 go_step3
 refine ⟨rfl,?_⟩
 go_wp2_with (first|(go_at_call 66;refine (HPs.out _ _ _ r3).mono ?_;intro e w9 hz;obtain ⟨E,k',b',f',p',new',rfl,hz'⟩:=hz;have HF:Hid (SPo S w0 g s o T0 p (.returned (.int .i64 E)) w9):=⟨E,k',b',f',p',new',rfl,hz'⟩;clear hz'))
 simp only [Exit.jump]
 go_ret
 exact HF.out
set_option maxRecDepth 100000 in
set_option maxHeartbeats 1000000 in
theorem lstep2_lf {S:Nat→Prop}{w0 W:World}{g:Nat}{s o:ByteArray}{T0:List Tk}{p b f:Nat}{new:List Tk}(h:SPr S w0 W g s o T0 p 2 b f new) (hs:s.size≤1000000000) (hK:∀V,Kp S w0 V→Kab V) (hp:p<s.size) (h10:by8 s p=10) (hoff:p<s.size→tkDg (by8 s p)=false) :
  Calls Tryz.prog 27 #[.pointer (some ⟨g,0,none⟩),.int .i32 (xp s p),.string (s.extract p (xq s p))] W fun e w'=>SPo S w0 g s o T0 p e w':=by
 obtain ⟨f1,f2,f3,f4,f5,f6⟩:=h.facts
 obtain ⟨c5,z5,hgl⟩:=h.cell
 have hwr:IntKind.i64.wrap (xp s p)=xp s p:=by
  rw [IntKind.wrap_i64]
  have:=dp_le s p
  unfold xp
  split <;> omega
 obtain ⟨a1,a2⟩:=num_off h.ms f4 hoff
 have hbl':b<s.size:=by
  cases h.ms with
  |num e _ _=>omega
 have HSP:Hid (SPr S w0 W g s o T0 p 2 b f new):=h
 have HP:Hid (p<s.size):=hp
 have q1:(xp s p == -1)=false:=by rw [beq_eq_false_iff_ne,xp_in hp];omega
 have q10:(xp s p == 10)=true:=by rw [beq_iff_eq,xp_in hp];exact (x_is s p 10 (by decide)).2 h10
 have HPs:Hid (∀V f new,SPr S w0 V g s o T0 p 0 p f new→Calls Tryz.prog 66 #[.pointer (some ⟨g,0,none⟩),.int .i32 (xp s p),.string (s.extract p (xq s p))] V fun e w'=>SPo S w0 g s o T0 p e w'):=fun V f new hV=>lpass_po hV hp hs (.inl h10)
 have HDg:Hid (Calls Tryz.prog 61 #[.int .i32 (xp s p)] W fun e w'=>e=.returned (.bool false)∧w'=W):=ldigit_at W false ⟨fun h=>(by cases h),fun h=>(by rw [hoff h.1] at h;cases h.2)⟩
 have HTe:Hid (∀V,SPr S w0 V g s o T0 p 2 b f new→Calls Tryz.prog 59 #[.pointer (some ⟨g,0,none⟩),.int .u8 3] V fun e w'=>e=.returned (.tuple #[])∧(p<s.size→SPr S w0 w' g s o T0 p 0 p 0 (new++[tkTok s 3 b p f]))∧(s.size≤p→SPo S w0 g s o T0 p (.returned (.int .i64 0)) w')):=fun V hV=>ltell_po hV hs hbl' a1 (by decide) a2 rfl
 clear h hK a1 a2 hoff h10 hp
 go_enter Tryz.func27,Tryz.ntmps27
 go_wp2_with fail
 refine wp_scope_two 0 2 rfl rfl ?_
 go_wp2_with fail
 go_step3
 refine ⟨rfl,?_⟩
 go_wp2_with (first|(go_at_call 61;refine HDg.out.mono ?_;rintro e w1 ⟨rfl,hw⟩;replace hw:=hw.symm;subst hw)|(go_at_call 59;refine (HTe.out _ HSP.out).mono ?_;rintro e w3 ⟨rfl,r3a,r3b⟩;have r3:=r3a HP.out;obtain ⟨y3,v3,g3⟩:=r3.cell;clear r3a r3b))
 go_step3
 refine ⟨rfl,?_⟩
 go_wp2_with (first|(go_at_call 66;refine (HPs.out _ _ _ r3).mono ?_;intro e w9 hz;obtain ⟨E,k',b',f',p',new',rfl,hz'⟩:=hz;have HF:Hid (SPo S w0 g s o T0 p (.returned (.int .i64 E)) w9):=⟨E,k',b',f',p',new',rfl,hz'⟩;clear hz'))
 simp only [Exit.jump]
 go_ret
 exact HF.out
set_option maxRecDepth 100000 in
set_option maxHeartbeats 1000000 in
theorem lstep3_lf {S:Nat→Prop}{w0 W:World}{g:Nat}{s o:ByteArray}{T0:List Tk}{p b f:Nat}{new:List Tk}(h:SPr S w0 W g s o T0 p 3 b f new) (hs:s.size≤1000000000) (hK:∀V,Kp S w0 V→Kab V) (hp:p<s.size) (h10:by8 s p=10) (hl:p<s.size→s.extract b (p+dw s p)≠twoSl) (hsg:p<s.size→¬p-b<(sg (s.extract b (p+dw s p)) 0).size) :
  Calls Tryz.prog 27 #[.pointer (some ⟨g,0,none⟩),.int .i32 (xp s p),.string (s.extract p (xq s p))] W fun e w'=>SPo S w0 g s o T0 p e w':=by
 obtain ⟨f1,f2,f3,f4,f5,f6⟩:=h.facts
 obtain ⟨c5,z5,hgl⟩:=h.cell
 have hwr:IntKind.i64.wrap (xp s p)=xp s p:=by
  rw [IntKind.wrap_i64]
  have:=dp_le s p
  unfold xp
  split <;> omega
 obtain ⟨a1,a2⟩:=sign_off h.ms f4 hl hsg
 have hbl':b<s.size:=by
  cases h.ms with
  |sign e _ _=>omega
 have HSP:Hid (SPr S w0 W g s o T0 p 3 b f new):=h
 have HP:Hid (p<s.size):=hp
 have q1:(xp s p == -1)=false:=by rw [beq_eq_false_iff_ne,xp_in hp];omega
 have q10:(xp s p == 10)=true:=by rw [beq_iff_eq,xp_in hp];exact (x_is s p 10 (by decide)).2 h10
 have HPs:Hid (∀V f new,SPr S w0 V g s o T0 p 0 p f new→Calls Tryz.prog 66 #[.pointer (some ⟨g,0,none⟩),.int .i32 (xp s p),.string (s.extract p (xq s p))] V fun e w'=>SPo S w0 g s o T0 p e w'):=fun V f new hV=>lpass_po hV hp hs (.inl h10)
 have HLi:=lline_at (r:=false) h (by omega) hbl' (by
  refine ⟨fun e=>(by cases e),fun e=>?_⟩
  by_cases hx:p<s.size
  ·rw [xq_in hx] at e;exact absurd e (hl hx)
  ·rw [xq_out (by omega)] at e;exact absurd e (sign_not2 h.ms))
 have HSi:=lsign_at (r:=false) h (by omega) hbl' hK (by
  refine ⟨fun e=>(by cases e),fun e=>?_⟩
  by_cases hx:p<s.size
  ·rw [xq_in hx] at e;exact absurd e (hsg hx)
  ·rw [xq_out (by omega)] at e;exact absurd e (sign_notm h.ms))
 have HTe:Hid (∀V,SPr S w0 V g s o T0 p 3 b f new→Calls Tryz.prog 59 #[.pointer (some ⟨g,0,none⟩),.int .u8 6] V fun e w'=>e=.returned (.tuple #[])∧(p<s.size→SPr S w0 w' g s o T0 p 0 p 0 (new++[tkTok s 6 b p f]))∧(s.size≤p→SPo S w0 g s o T0 p (.returned (.int .i64 0)) w')):=fun V hV=>ltell_po hV hs hbl' a1 (by decide) a2 rfl
 clear h hK a1 a2 hl hsg h10 hp
 go_enter Tryz.func27,Tryz.ntmps27
 go_wp2_with fail
 refine wp_scope_two 0 3 rfl rfl ?_
 go_wp2_with fail
 go_step3
 refine ⟨rfl,?_⟩
 go_wp2_with (first|(go_at_call 62;refine HLi.out.mono ?_;rintro e w1 ⟨rfl,m1,hw1⟩;have hb1:=lbel_dn W m1;rw [←hw1] at hb1;clear hw1;have r1:=HSP.out.below hb1;obtain ⟨y1,v1,g1⟩:=r1.cell)|(go_at_call 63;refine (HSi.out _ r1).mono ?_;rintro e w2 ⟨rfl,hb2⟩;have r2:=r1.below hb2;obtain ⟨y2,v2,g2⟩:=r2.cell)|(go_at_call 59;refine (HTe.out _ r2).mono ?_;rintro e w3 ⟨rfl,r3a,r3b⟩;have r3:=r3a HP.out;obtain ⟨y3,v3,g3⟩:=r3.cell;clear r3a r3b))
 go_step3
 refine ⟨rfl,?_⟩
 go_wp2_with (first|(go_at_call 66;refine (HPs.out _ _ _ r3).mono ?_;intro e w9 hz;obtain ⟨E,k',b',f',p',new',rfl,hz'⟩:=hz;have HF:Hid (SPo S w0 g s o T0 p (.returned (.int .i64 E)) w9):=⟨E,k',b',f',p',new',rfl,hz'⟩;clear hz'))
 simp only [Exit.jump]
 go_ret
 exact HF.out
set_option maxRecDepth 100000 in
set_option maxHeartbeats 1000000 in
theorem lstep4_lf {S:Nat→Prop}{w0 W:World}{g:Nat}{s o:ByteArray}{T0:List Tk}{p b f:Nat}{new:List Tk}(h:SPr S w0 W g s o T0 p 4 b f new) (hs:s.size≤1000000000) (hK:∀V,Kp S w0 V→Kab V) (hp:p<s.size) (h10:by8 s p=10) :
  Calls Tryz.prog 27 #[.pointer (some ⟨g,0,none⟩),.int .i32 (xp s p),.string (s.extract p (xq s p))] W fun e w'=>SPo S w0 g s o T0 p e w':=by
 obtain ⟨f1,f2,f3,f4,f5,f6⟩:=h.facts
 obtain ⟨c5,z5,hgl⟩:=h.cell
 have hwr:IntKind.i64.wrap (xp s p)=xp s p:=by
  rw [IntKind.wrap_i64]
  have:=dp_le s p
  unfold xp
  split <;> omega
 obtain ⟨a1,a2⟩:=line_off h.ms f4 (fun hx=>h10)
 have hbl':b<s.size:=by
  cases h.ms with
  |line e _ _=>omega
 have HSP:Hid (SPr S w0 W g s o T0 p 4 b f new):=h
 have HP:Hid (p<s.size):=hp
 have q1:(xp s p == -1)=false:=by rw [beq_eq_false_iff_ne,xp_in hp];omega
 have q10:(xp s p == 10)=true:=by rw [beq_iff_eq,xp_in hp];exact (x_is s p 10 (by decide)).2 h10
 have HPs:Hid (∀V f new,SPr S w0 V g s o T0 p 0 p f new→Calls Tryz.prog 66 #[.pointer (some ⟨g,0,none⟩),.int .i32 (xp s p),.string (s.extract p (xq s p))] V fun e w'=>SPo S w0 g s o T0 p e w'):=fun V f new hV=>lpass_po hV hp hs (.inl h10)
 have HEn:Hid (Calls Tryz.prog 64 #[.int .i32 (xp s p)] W fun e w'=>e=.returned (.bool true)∧w'=W):=lends_at W true ⟨fun _=>.inr h10,fun _=>rfl⟩
 have HTe:Hid (∀V,SPr S w0 V g s o T0 p 4 b f new→Calls Tryz.prog 59 #[.pointer (some ⟨g,0,none⟩),.int .u8 7] V fun e w'=>e=.returned (.tuple #[])∧(p<s.size→SPr S w0 w' g s o T0 p 0 p 0 (new++[tkTok s 7 b p f]))∧(s.size≤p→SPo S w0 g s o T0 p (.returned (.int .i64 0)) w')):=fun V hV=>ltell_po hV hs hbl' a1 (by decide) a2 rfl
 clear h hK a1 a2 h10 hp
 go_enter Tryz.func27,Tryz.ntmps27
 go_wp2_with fail
 refine wp_scope_go 4 rfl ?_
 go_wp2_with fail
 go_step3
 refine ⟨rfl,?_⟩
 go_wp2_with (first|(go_at_call 64;refine HEn.out.mono ?_;rintro e w1 ⟨rfl,hw⟩;replace hw:=hw.symm;subst hw)|(go_at_call 59;refine (HTe.out _ HSP.out).mono ?_;rintro e w3 ⟨rfl,r3a,r3b⟩;have r3:=r3a HP.out;obtain ⟨y3,v3,g3⟩:=r3.cell;clear r3a r3b))
 go_step3
 go_wp2_with (first|(go_at_call 66;refine (HPs.out _ _ _ r3).mono ?_;intro e w9 hz;obtain ⟨E,k',b',f',p',new',rfl,hz'⟩:=hz;have HF:Hid (SPo S w0 g s o T0 p (.returned (.int .i64 E)) w9):=⟨E,k',b',f',p',new',rfl,hz'⟩;clear hz'))
 simp only [Exit.jump]
 go_ret
 exact HF.out
set_option maxRecDepth 100000 in
set_option maxHeartbeats 1000000 in
theorem lstep0_bl {S:Nat→Prop}{w0 W:World}{g:Nat}{s o:ByteArray}{T0:List Tk}{p b f:Nat}{new:List Tk}(h:SPr S w0 W g s o T0 p 0 b f new) (hs:s.size≤1000000000) (hK:∀V,Kp S w0 V→Kab V) (hp:p<s.size) (h10:by8 s p≠10) (hbl:tkBl (by8 s p)=true) :
  Calls Tryz.prog 27 #[.pointer (some ⟨g,0,none⟩),.int .i32 (xp s p),.string (s.extract p (xq s p))] W fun e w'=>SPo S w0 g s o T0 p e w':=by
 obtain ⟨f1,f2,f3,f4,f5,f6⟩:=h.facts
 obtain ⟨c5,z5,hgl⟩:=h.cell
 have hwr:IntKind.i64.wrap (xp s p)=xp s p:=by
  rw [IntKind.wrap_i64]
  have:=dp_le s p
  unfold xp
  split <;> omega
 obtain rfl:b=p:=by
  cases h.ms with
  |none e=>exact e
 have HSP:Hid (SPr S w0 W g s o T0 b 0 b f new):=h
 have HP:Hid (b<s.size):=hp
 have q1:(xp s b == -1)=false:=by rw [beq_eq_false_iff_ne,xp_in hp];omega
 have q10:(xp s b == 10)=false:=by rw [beq_eq_false_iff_ne,xp_in hp];exact fun e=>h10 ((x_is s b 10 (by decide)).1 e)
 have HBl:Hid (∀V,Calls Tryz.prog 65 #[.int .i32 (xp s b)] V fun e w'=>e=.returned (.bool true)∧Below V.heap.size V w'):=fun V=>lblank_at V hp true hbl.symm
 have HPs:Hid (∀V f new,SPr S w0 V g s o T0 b 0 b f new→Calls Tryz.prog 66 #[.pointer (some ⟨g,0,none⟩),.int .i32 (xp s b),.string (s.extract b (xq s b))] V fun e w'=>SPo S w0 g s o T0 b e w'):=fun V f new hV=>lpass_po hV hp hs (.inr hbl)
 clear h hK h10 hbl hp
 go_enter Tryz.func27,Tryz.ntmps27
 go_wp2_with fail
 refine wp_scope_go 0 rfl ?_
 go_wp2_with fail
 go_step3
 refine ⟨rfl,?_⟩
 go_wp2_with (first|(go_at_call 65;refine (HBl.out _).mono ?_;rintro e w4 ⟨rfl,hb4⟩;have r4:=SPr.below HSP.out hb4)|(go_at_call 66;refine (HPs.out _ _ _ r4).mono ?_;intro e w9 hz;obtain ⟨E,k',b',f',p',new',rfl,hz'⟩:=hz;have HF:Hid (SPo S w0 g s o T0 b (.returned (.int .i64 E)) w9):=⟨E,k',b',f',p',new',rfl,hz'⟩;clear hz'))
 simp only [Exit.jump]
 go_ret
 exact HF.out
set_option maxRecDepth 100000 in
set_option maxHeartbeats 1000000 in
theorem lstep1_bl {S:Nat→Prop}{w0 W:World}{g:Nat}{s o:ByteArray}{T0:List Tk}{p b f:Nat}{new:List Tk}(h:SPr S w0 W g s o T0 p 1 b f new) (hs:s.size≤1000000000) (hK:∀V,Kp S w0 V→Kab V) (hp:p<s.size) (h10:by8 s p≠10) (hbl:tkBl (by8 s p)=true) (hoff:p<s.size→(gd s p && pr' (dp s p))=false) :
  Calls Tryz.prog 27 #[.pointer (some ⟨g,0,none⟩),.int .i32 (xp s p),.string (s.extract p (xq s p))] W fun e w'=>SPo S w0 g s o T0 p e w':=by
 obtain ⟨f1,f2,f3,f4,f5,f6⟩:=h.facts
 obtain ⟨c5,z5,hgl⟩:=h.cell
 have hwr:IntKind.i64.wrap (xp s p)=xp s p:=by
  rw [IntKind.wrap_i64]
  have:=dp_le s p
  unfold xp
  split <;> omega
 obtain ⟨a1,a2⟩:=name_off h.ms f4 hoff
 have hbl':b<s.size:=by
  cases h.ms with
  |name e _ _=>omega
 have HSP:Hid (SPr S w0 W g s o T0 p 1 b f new):=h
 have HP:Hid (p<s.size):=hp
 have q1:(xp s p == -1)=false:=by rw [beq_eq_false_iff_ne,xp_in hp];omega
 have q10:(xp s p == 10)=false:=by rw [beq_eq_false_iff_ne,xp_in hp];exact fun e=>h10 ((x_is s p 10 (by decide)).1 e)
 have HBl:Hid (∀V,Calls Tryz.prog 65 #[.int .i32 (xp s p)] V fun e w'=>e=.returned (.bool true)∧Below V.heap.size V w'):=fun V=>lblank_at V hp true hbl.symm
 have HPs:Hid (∀V f new,SPr S w0 V g s o T0 p 0 p f new→Calls Tryz.prog 66 #[.pointer (some ⟨g,0,none⟩),.int .i32 (xp s p),.string (s.extract p (xq s p))] V fun e w'=>SPo S w0 g s o T0 p e w'):=fun V f new hV=>lpass_po hV hp hs (.inr hbl)
 have HPt:Hid (Calls Tryz.prog 57 #[.int .i64 (xp s p)] W fun e w'=>e=.returned (.bool false)∧w'=W):=lpart_at W (hK W (by obtain ⟨vt,vo,vs,h1,h2⟩:=h.lq;exact h2.kp)) false ⟨fun h=>(by cases h),fun h=>(by rw [hoff h.1] at h;cases h.2)⟩
 obtain ⟨kk,hkk⟩:∃kk:Nat,(tkTok s 1 b p f).k=kk:=⟨_,rfl⟩
 have HWo:Hid (Calls Tryz.prog 60 #[.pointer (some ⟨g,0,none⟩)] W fun e w'=>e=.returned (.int .u8 kk)∧w'=W):=by
  obtain ⟨vt,vo,vs,h1,h2⟩:=h.lq
  have h9:=lword_any h1 h2.rt (hK W h2.kp).2.1
  have e9:(if ky (s.extract b p)=true then (2:Int) else 1)=kk:=by
   rw [←hkk]
   show _=(((if 1=1∧ky (s.extract b p)=true then 2 else 1:Nat)):Int)
   by_cases hy:ky (s.extract b p)=true
   ·rw [if_pos hy,if_pos ⟨rfl,hy⟩];rfl
   ·rw [if_neg hy,if_neg (fun e=>hy e.2)];rfl
  rw [e9] at h9
  exact h9
 have HTe:Hid (∀V,SPr S w0 V g s o T0 p 1 b f new→Calls Tryz.prog 59 #[.pointer (some ⟨g,0,none⟩),.int .u8 kk] V fun e w'=>e=.returned (.tuple #[])∧(p<s.size→SPr S w0 w' g s o T0 p 0 p 0 (new++[tkTok s 1 b p f]))∧(s.size≤p→SPo S w0 g s o T0 p (.returned (.int .i64 0)) w')):=fun V hV=>ltell_po hV hs hbl' a1 (by decide) a2 hkk.symm
 clear h hK a1 a2 hoff hkk h10 hbl hp
 go_enter Tryz.func27,Tryz.ntmps27
 go_wp2_with fail
 refine wp_scope_two 0 1 rfl rfl ?_
 go_wp2_with fail
 go_step3
 refine ⟨rfl,?_⟩
 go_wp2_with (first|(go_at_call 57;refine HPt.out.mono ?_;rintro e w1 ⟨rfl,hw⟩;replace hw:=hw.symm;subst hw)|(go_at_call 60;refine HWo.out.mono ?_;rintro e w1 ⟨rfl,hw⟩;replace hw:=hw.symm;subst hw)|(go_at_call 59;refine (HTe.out _ HSP.out).mono ?_;rintro e w3 ⟨rfl,r3a,r3b⟩;have r3:=r3a HP.out;obtain ⟨y3,v3,g3⟩:=r3.cell;clear r3a r3b))
 go_step3
 refine ⟨rfl,?_⟩
 go_wp2_with (first|(go_at_call 65;refine (HBl.out _).mono ?_;rintro e w4 ⟨rfl,hb4⟩;have r4:=SPr.below r3 hb4)|(go_at_call 66;refine (HPs.out _ _ _ r4).mono ?_;intro e w9 hz;obtain ⟨E,k',b',f',p',new',rfl,hz'⟩:=hz;have HF:Hid (SPo S w0 g s o T0 p (.returned (.int .i64 E)) w9):=⟨E,k',b',f',p',new',rfl,hz'⟩;clear hz'))
 simp only [Exit.jump]
 go_ret
 exact HF.out
set_option maxRecDepth 100000 in
set_option maxHeartbeats 1000000 in
theorem lstep2_bl {S:Nat→Prop}{w0 W:World}{g:Nat}{s o:ByteArray}{T0:List Tk}{p b f:Nat}{new:List Tk}(h:SPr S w0 W g s o T0 p 2 b f new) (hs:s.size≤1000000000) (hK:∀V,Kp S w0 V→Kab V) (hp:p<s.size) (h10:by8 s p≠10) (hbl:tkBl (by8 s p)=true) (hoff:p<s.size→tkDg (by8 s p)=false) :
  Calls Tryz.prog 27 #[.pointer (some ⟨g,0,none⟩),.int .i32 (xp s p),.string (s.extract p (xq s p))] W fun e w'=>SPo S w0 g s o T0 p e w':=by
 obtain ⟨f1,f2,f3,f4,f5,f6⟩:=h.facts
 obtain ⟨c5,z5,hgl⟩:=h.cell
 have hwr:IntKind.i64.wrap (xp s p)=xp s p:=by
  rw [IntKind.wrap_i64]
  have:=dp_le s p
  unfold xp
  split <;> omega
 obtain ⟨a1,a2⟩:=num_off h.ms f4 hoff
 have hbl':b<s.size:=by
  cases h.ms with
  |num e _ _=>omega
 have HSP:Hid (SPr S w0 W g s o T0 p 2 b f new):=h
 have HP:Hid (p<s.size):=hp
 have q1:(xp s p == -1)=false:=by rw [beq_eq_false_iff_ne,xp_in hp];omega
 have q10:(xp s p == 10)=false:=by rw [beq_eq_false_iff_ne,xp_in hp];exact fun e=>h10 ((x_is s p 10 (by decide)).1 e)
 have HBl:Hid (∀V,Calls Tryz.prog 65 #[.int .i32 (xp s p)] V fun e w'=>e=.returned (.bool true)∧Below V.heap.size V w'):=fun V=>lblank_at V hp true hbl.symm
 have HPs:Hid (∀V f new,SPr S w0 V g s o T0 p 0 p f new→Calls Tryz.prog 66 #[.pointer (some ⟨g,0,none⟩),.int .i32 (xp s p),.string (s.extract p (xq s p))] V fun e w'=>SPo S w0 g s o T0 p e w'):=fun V f new hV=>lpass_po hV hp hs (.inr hbl)
 have HDg:Hid (Calls Tryz.prog 61 #[.int .i32 (xp s p)] W fun e w'=>e=.returned (.bool false)∧w'=W):=ldigit_at W false ⟨fun h=>(by cases h),fun h=>(by rw [hoff h.1] at h;cases h.2)⟩
 have HTe:Hid (∀V,SPr S w0 V g s o T0 p 2 b f new→Calls Tryz.prog 59 #[.pointer (some ⟨g,0,none⟩),.int .u8 3] V fun e w'=>e=.returned (.tuple #[])∧(p<s.size→SPr S w0 w' g s o T0 p 0 p 0 (new++[tkTok s 3 b p f]))∧(s.size≤p→SPo S w0 g s o T0 p (.returned (.int .i64 0)) w')):=fun V hV=>ltell_po hV hs hbl' a1 (by decide) a2 rfl
 clear h hK a1 a2 hoff h10 hbl hp
 go_enter Tryz.func27,Tryz.ntmps27
 go_wp2_with fail
 refine wp_scope_two 0 2 rfl rfl ?_
 go_wp2_with fail
 go_step3
 refine ⟨rfl,?_⟩
 go_wp2_with (first|(go_at_call 61;refine HDg.out.mono ?_;rintro e w1 ⟨rfl,hw⟩;replace hw:=hw.symm;subst hw)|(go_at_call 59;refine (HTe.out _ HSP.out).mono ?_;rintro e w3 ⟨rfl,r3a,r3b⟩;have r3:=r3a HP.out;obtain ⟨y3,v3,g3⟩:=r3.cell;clear r3a r3b))
 go_step3
 refine ⟨rfl,?_⟩
 go_wp2_with (first|(go_at_call 65;refine (HBl.out _).mono ?_;rintro e w4 ⟨rfl,hb4⟩;have r4:=SPr.below r3 hb4)|(go_at_call 66;refine (HPs.out _ _ _ r4).mono ?_;intro e w9 hz;obtain ⟨E,k',b',f',p',new',rfl,hz'⟩:=hz;have HF:Hid (SPo S w0 g s o T0 p (.returned (.int .i64 E)) w9):=⟨E,k',b',f',p',new',rfl,hz'⟩;clear hz'))
 simp only [Exit.jump]
 go_ret
 exact HF.out
set_option maxRecDepth 100000 in
set_option maxHeartbeats 1000000 in
theorem lstep3_bl {S:Nat→Prop}{w0 W:World}{g:Nat}{s o:ByteArray}{T0:List Tk}{p b f:Nat}{new:List Tk}(h:SPr S w0 W g s o T0 p 3 b f new) (hs:s.size≤1000000000) (hK:∀V,Kp S w0 V→Kab V) (hp:p<s.size) (h10:by8 s p≠10) (hbl:tkBl (by8 s p)=true) (hl:p<s.size→s.extract b (p+dw s p)≠twoSl) (hsg:p<s.size→¬p-b<(sg (s.extract b (p+dw s p)) 0).size) :
  Calls Tryz.prog 27 #[.pointer (some ⟨g,0,none⟩),.int .i32 (xp s p),.string (s.extract p (xq s p))] W fun e w'=>SPo S w0 g s o T0 p e w':=by
 obtain ⟨f1,f2,f3,f4,f5,f6⟩:=h.facts
 obtain ⟨c5,z5,hgl⟩:=h.cell
 have hwr:IntKind.i64.wrap (xp s p)=xp s p:=by
  rw [IntKind.wrap_i64]
  have:=dp_le s p
  unfold xp
  split <;> omega
 obtain ⟨a1,a2⟩:=sign_off h.ms f4 hl hsg
 have hbl':b<s.size:=by
  cases h.ms with
  |sign e _ _=>omega
 have HSP:Hid (SPr S w0 W g s o T0 p 3 b f new):=h
 have HP:Hid (p<s.size):=hp
 have q1:(xp s p == -1)=false:=by rw [beq_eq_false_iff_ne,xp_in hp];omega
 have q10:(xp s p == 10)=false:=by rw [beq_eq_false_iff_ne,xp_in hp];exact fun e=>h10 ((x_is s p 10 (by decide)).1 e)
 have HBl:Hid (∀V,Calls Tryz.prog 65 #[.int .i32 (xp s p)] V fun e w'=>e=.returned (.bool true)∧Below V.heap.size V w'):=fun V=>lblank_at V hp true hbl.symm
 have HPs:Hid (∀V f new,SPr S w0 V g s o T0 p 0 p f new→Calls Tryz.prog 66 #[.pointer (some ⟨g,0,none⟩),.int .i32 (xp s p),.string (s.extract p (xq s p))] V fun e w'=>SPo S w0 g s o T0 p e w'):=fun V f new hV=>lpass_po hV hp hs (.inr hbl)
 have HLi:=lline_at (r:=false) h (by omega) hbl' (by
  refine ⟨fun e=>(by cases e),fun e=>?_⟩
  by_cases hx:p<s.size
  ·rw [xq_in hx] at e;exact absurd e (hl hx)
  ·rw [xq_out (by omega)] at e;exact absurd e (sign_not2 h.ms))
 have HSi:=lsign_at (r:=false) h (by omega) hbl' hK (by
  refine ⟨fun e=>(by cases e),fun e=>?_⟩
  by_cases hx:p<s.size
  ·rw [xq_in hx] at e;exact absurd e (hsg hx)
  ·rw [xq_out (by omega)] at e;exact absurd e (sign_notm h.ms))
 have HTe:Hid (∀V,SPr S w0 V g s o T0 p 3 b f new→Calls Tryz.prog 59 #[.pointer (some ⟨g,0,none⟩),.int .u8 6] V fun e w'=>e=.returned (.tuple #[])∧(p<s.size→SPr S w0 w' g s o T0 p 0 p 0 (new++[tkTok s 6 b p f]))∧(s.size≤p→SPo S w0 g s o T0 p (.returned (.int .i64 0)) w')):=fun V hV=>ltell_po hV hs hbl' a1 (by decide) a2 rfl
 clear h hK a1 a2 hl hsg h10 hbl hp
 go_enter Tryz.func27,Tryz.ntmps27
 go_wp2_with fail
 refine wp_scope_two 0 3 rfl rfl ?_
 go_wp2_with fail
 go_step3
 refine ⟨rfl,?_⟩
 go_wp2_with (first|(go_at_call 62;refine HLi.out.mono ?_;rintro e w1 ⟨rfl,m1,hw1⟩;have hb1:=lbel_dn W m1;rw [←hw1] at hb1;clear hw1;have r1:=HSP.out.below hb1;obtain ⟨y1,v1,g1⟩:=r1.cell)|(go_at_call 63;refine (HSi.out _ r1).mono ?_;rintro e w2 ⟨rfl,hb2⟩;have r2:=r1.below hb2;obtain ⟨y2,v2,g2⟩:=r2.cell)|(go_at_call 59;refine (HTe.out _ r2).mono ?_;rintro e w3 ⟨rfl,r3a,r3b⟩;have r3:=r3a HP.out;obtain ⟨y3,v3,g3⟩:=r3.cell;clear r3a r3b))
 go_step3
 refine ⟨rfl,?_⟩
 go_wp2_with (first|(go_at_call 65;refine (HBl.out _).mono ?_;rintro e w4 ⟨rfl,hb4⟩;have r4:=SPr.below r3 hb4)|(go_at_call 66;refine (HPs.out _ _ _ r4).mono ?_;intro e w9 hz;obtain ⟨E,k',b',f',p',new',rfl,hz'⟩:=hz;have HF:Hid (SPo S w0 g s o T0 p (.returned (.int .i64 E)) w9):=⟨E,k',b',f',p',new',rfl,hz'⟩;clear hz'))
 simp only [Exit.jump]
 go_ret
 exact HF.out
set_option maxRecDepth 100000 in
set_option maxHeartbeats 1000000 in
theorem lstep0_no {S:Nat→Prop}{w0 W:World}{g:Nat}{s o:ByteArray}{T0:List Tk}{p b f:Nat}{new:List Tk}(h:SPr S w0 W g s o T0 p 0 b f new) (hs:s.size≤1000000000) (hK:∀V,Kp S w0 V→Kab V) (hp:p<s.size) (h10:by8 s p≠10) (hbl:tkBl (by8 s p)=false) (hB:bgK s p=0) :
  Calls Tryz.prog 27 #[.pointer (some ⟨g,0,none⟩),.int .i32 (xp s p),.string (s.extract p (xq s p))] W fun e w'=>SPo S w0 g s o T0 p e w':=by
 obtain ⟨f1,f2,f3,f4,f5,f6⟩:=h.facts
 obtain ⟨c5,z5,hgl⟩:=h.cell
 have hwr:IntKind.i64.wrap (xp s p)=xp s p:=by
  rw [IntKind.wrap_i64]
  have:=dp_le s p
  unfold xp
  split <;> omega
 obtain rfl:b=p:=by
  cases h.ms with
  |none e=>exact e
 have HSP:Hid (SPr S w0 W g s o T0 b 0 b f new):=h
 have HP:Hid (b<s.size):=hp
 have q1:(xp s b == -1)=false:=by rw [beq_eq_false_iff_ne,xp_in hp];omega
 have q10:(xp s b == 10)=false:=by rw [beq_eq_false_iff_ne,xp_in hp];exact fun e=>h10 ((x_is s b 10 (by decide)).1 e)
 have HBl:Hid (∀V,Calls Tryz.prog 65 #[.int .i32 (xp s b)] V fun e w'=>e=.returned (.bool false)∧Below V.heap.size V w'):=fun V=>lblank_at V hp false hbl.symm
 have HBg:Hid (∀V,∀{f:Nat} {new:List Tk},SPr S w0 V g s o T0 b 0 b f new→Calls Tryz.prog 67 #[.int .i32 (xp s b)] V fun e w'=>e=.returned (.int .i64 (0))∧Below V.heap.size V w'):=fun V f new hV=>by
  have h9:=lbegin_any s b hp V (hK V (by obtain ⟨vt,vo,vs,h1,h2⟩:=hV.lq;exact h2.kp))
  rw [hB] at h9
  rw [xp_in hp]
  exact h9
 have HNo:Hid (∀V,∀{f:Nat} {new:List Tk},SPr S w0 V g s o T0 b 0 b f new→SPo S w0 g s o T0 b (.returned (.int .i64 100)) (V.setCell ⟨g,5,none⟩ (.int .i64 0))):=fun V f new hV=>SPo.noTok hV hp h10 hbl hB
 clear h hK h10 hbl hB hp
 go_enter Tryz.func27,Tryz.ntmps27
 go_wp2_with fail
 refine wp_scope_go 0 rfl ?_
 go_wp2_with fail
 go_step3
 refine ⟨rfl,?_⟩
 go_wp2_with (first|(go_at_call 65;refine (HBl.out _).mono ?_;rintro e w4 ⟨rfl,hb4⟩;have r4:=SPr.below HSP.out hb4)|(go_at_call 67;refine (HBg.out _ r4).mono ?_;rintro e w5 ⟨rfl,hb5⟩;have r5:=r4.below hb5;obtain ⟨y5,v5,g5⟩:=r5.cell;have HF:Hid (SPo S w0 g s o T0 b (.returned (.int .i64 100)) (w5.setCell ⟨g,5,none⟩ (.int .i64 0))):=HNo.out _ r5))
 simp only [Exit.jump]
 go_ret
 exact HF.out
set_option maxRecDepth 100000 in
set_option maxHeartbeats 1000000 in
theorem lstep1_no {S:Nat→Prop}{w0 W:World}{g:Nat}{s o:ByteArray}{T0:List Tk}{p b f:Nat}{new:List Tk}(h:SPr S w0 W g s o T0 p 1 b f new) (hs:s.size≤1000000000) (hK:∀V,Kp S w0 V→Kab V) (hp:p<s.size) (h10:by8 s p≠10) (hbl:tkBl (by8 s p)=false) (hB:bgK s p=0) (hoff:p<s.size→(gd s p && pr' (dp s p))=false) :
  Calls Tryz.prog 27 #[.pointer (some ⟨g,0,none⟩),.int .i32 (xp s p),.string (s.extract p (xq s p))] W fun e w'=>SPo S w0 g s o T0 p e w':=by
 obtain ⟨f1,f2,f3,f4,f5,f6⟩:=h.facts
 obtain ⟨c5,z5,hgl⟩:=h.cell
 have hwr:IntKind.i64.wrap (xp s p)=xp s p:=by
  rw [IntKind.wrap_i64]
  have:=dp_le s p
  unfold xp
  split <;> omega
 obtain ⟨a1,a2⟩:=name_off h.ms f4 hoff
 have hbl':b<s.size:=by
  cases h.ms with
  |name e _ _=>omega
 have HSP:Hid (SPr S w0 W g s o T0 p 1 b f new):=h
 have HP:Hid (p<s.size):=hp
 have q1:(xp s p == -1)=false:=by rw [beq_eq_false_iff_ne,xp_in hp];omega
 have q10:(xp s p == 10)=false:=by rw [beq_eq_false_iff_ne,xp_in hp];exact fun e=>h10 ((x_is s p 10 (by decide)).1 e)
 have HBl:Hid (∀V,Calls Tryz.prog 65 #[.int .i32 (xp s p)] V fun e w'=>e=.returned (.bool false)∧Below V.heap.size V w'):=fun V=>lblank_at V hp false hbl.symm
 have HBg:Hid (∀V,∀{f:Nat} {new:List Tk},SPr S w0 V g s o T0 p 0 p f new→Calls Tryz.prog 67 #[.int .i32 (xp s p)] V fun e w'=>e=.returned (.int .i64 (0))∧Below V.heap.size V w'):=fun V f new hV=>by
  have h9:=lbegin_any s p hp V (hK V (by obtain ⟨vt,vo,vs,h1,h2⟩:=hV.lq;exact h2.kp))
  rw [hB] at h9
  rw [xp_in hp]
  exact h9
 have HNo:Hid (∀V,∀{f:Nat} {new:List Tk},SPr S w0 V g s o T0 p 0 p f new→SPo S w0 g s o T0 p (.returned (.int .i64 100)) (V.setCell ⟨g,5,none⟩ (.int .i64 0))):=fun V f new hV=>SPo.noTok hV hp h10 hbl hB
 have HPt:Hid (Calls Tryz.prog 57 #[.int .i64 (xp s p)] W fun e w'=>e=.returned (.bool false)∧w'=W):=lpart_at W (hK W (by obtain ⟨vt,vo,vs,h1,h2⟩:=h.lq;exact h2.kp)) false ⟨fun h=>(by cases h),fun h=>(by rw [hoff h.1] at h;cases h.2)⟩
 obtain ⟨kk,hkk⟩:∃kk:Nat,(tkTok s 1 b p f).k=kk:=⟨_,rfl⟩
 have HWo:Hid (Calls Tryz.prog 60 #[.pointer (some ⟨g,0,none⟩)] W fun e w'=>e=.returned (.int .u8 kk)∧w'=W):=by
  obtain ⟨vt,vo,vs,h1,h2⟩:=h.lq
  have h9:=lword_any h1 h2.rt (hK W h2.kp).2.1
  have e9:(if ky (s.extract b p)=true then (2:Int) else 1)=kk:=by
   rw [←hkk]
   show _=(((if 1=1∧ky (s.extract b p)=true then 2 else 1:Nat)):Int)
   by_cases hy:ky (s.extract b p)=true
   ·rw [if_pos hy,if_pos ⟨rfl,hy⟩];rfl
   ·rw [if_neg hy,if_neg (fun e=>hy e.2)];rfl
  rw [e9] at h9
  exact h9
 have HTe:Hid (∀V,SPr S w0 V g s o T0 p 1 b f new→Calls Tryz.prog 59 #[.pointer (some ⟨g,0,none⟩),.int .u8 kk] V fun e w'=>e=.returned (.tuple #[])∧(p<s.size→SPr S w0 w' g s o T0 p 0 p 0 (new++[tkTok s 1 b p f]))∧(s.size≤p→SPo S w0 g s o T0 p (.returned (.int .i64 0)) w')):=fun V hV=>ltell_po hV hs hbl' a1 (by decide) a2 hkk.symm
 clear h hK a1 a2 hoff hkk h10 hbl hB hp
 go_enter Tryz.func27,Tryz.ntmps27
 go_wp2_with fail
 refine wp_scope_two 0 1 rfl rfl ?_
 go_wp2_with fail
 go_step3
 refine ⟨rfl,?_⟩
 go_wp2_with (first|(go_at_call 57;refine HPt.out.mono ?_;rintro e w1 ⟨rfl,hw⟩;replace hw:=hw.symm;subst hw)|(go_at_call 60;refine HWo.out.mono ?_;rintro e w1 ⟨rfl,hw⟩;replace hw:=hw.symm;subst hw)|(go_at_call 59;refine (HTe.out _ HSP.out).mono ?_;rintro e w3 ⟨rfl,r3a,r3b⟩;have r3:=r3a HP.out;obtain ⟨y3,v3,g3⟩:=r3.cell;clear r3a r3b))
 go_step3
 refine ⟨rfl,?_⟩
 go_wp2_with (first|(go_at_call 65;refine (HBl.out _).mono ?_;rintro e w4 ⟨rfl,hb4⟩;have r4:=SPr.below r3 hb4)|(go_at_call 67;refine (HBg.out _ r4).mono ?_;rintro e w5 ⟨rfl,hb5⟩;have r5:=r4.below hb5;obtain ⟨y5,v5,g5⟩:=r5.cell;have HF:Hid (SPo S w0 g s o T0 p (.returned (.int .i64 100)) (w5.setCell ⟨g,5,none⟩ (.int .i64 0))):=HNo.out _ r5))
 simp only [Exit.jump]
 go_ret
 exact HF.out
set_option maxRecDepth 100000 in
set_option maxHeartbeats 1000000 in
theorem lstep2_no {S:Nat→Prop}{w0 W:World}{g:Nat}{s o:ByteArray}{T0:List Tk}{p b f:Nat}{new:List Tk}(h:SPr S w0 W g s o T0 p 2 b f new) (hs:s.size≤1000000000) (hK:∀V,Kp S w0 V→Kab V) (hp:p<s.size) (h10:by8 s p≠10) (hbl:tkBl (by8 s p)=false) (hB:bgK s p=0) (hoff:p<s.size→tkDg (by8 s p)=false) :
  Calls Tryz.prog 27 #[.pointer (some ⟨g,0,none⟩),.int .i32 (xp s p),.string (s.extract p (xq s p))] W fun e w'=>SPo S w0 g s o T0 p e w':=by
 obtain ⟨f1,f2,f3,f4,f5,f6⟩:=h.facts
 obtain ⟨c5,z5,hgl⟩:=h.cell
 have hwr:IntKind.i64.wrap (xp s p)=xp s p:=by
  rw [IntKind.wrap_i64]
  have:=dp_le s p
  unfold xp
  split <;> omega
 obtain ⟨a1,a2⟩:=num_off h.ms f4 hoff
 have hbl':b<s.size:=by
  cases h.ms with
  |num e _ _=>omega
 have HSP:Hid (SPr S w0 W g s o T0 p 2 b f new):=h
 have HP:Hid (p<s.size):=hp
 have q1:(xp s p == -1)=false:=by rw [beq_eq_false_iff_ne,xp_in hp];omega
 have q10:(xp s p == 10)=false:=by rw [beq_eq_false_iff_ne,xp_in hp];exact fun e=>h10 ((x_is s p 10 (by decide)).1 e)
 have HBl:Hid (∀V,Calls Tryz.prog 65 #[.int .i32 (xp s p)] V fun e w'=>e=.returned (.bool false)∧Below V.heap.size V w'):=fun V=>lblank_at V hp false hbl.symm
 have HBg:Hid (∀V,∀{f:Nat} {new:List Tk},SPr S w0 V g s o T0 p 0 p f new→Calls Tryz.prog 67 #[.int .i32 (xp s p)] V fun e w'=>e=.returned (.int .i64 (0))∧Below V.heap.size V w'):=fun V f new hV=>by
  have h9:=lbegin_any s p hp V (hK V (by obtain ⟨vt,vo,vs,h1,h2⟩:=hV.lq;exact h2.kp))
  rw [hB] at h9
  rw [xp_in hp]
  exact h9
 have HNo:Hid (∀V,∀{f:Nat} {new:List Tk},SPr S w0 V g s o T0 p 0 p f new→SPo S w0 g s o T0 p (.returned (.int .i64 100)) (V.setCell ⟨g,5,none⟩ (.int .i64 0))):=fun V f new hV=>SPo.noTok hV hp h10 hbl hB
 have HDg:Hid (Calls Tryz.prog 61 #[.int .i32 (xp s p)] W fun e w'=>e=.returned (.bool false)∧w'=W):=ldigit_at W false ⟨fun h=>(by cases h),fun h=>(by rw [hoff h.1] at h;cases h.2)⟩
 have HTe:Hid (∀V,SPr S w0 V g s o T0 p 2 b f new→Calls Tryz.prog 59 #[.pointer (some ⟨g,0,none⟩),.int .u8 3] V fun e w'=>e=.returned (.tuple #[])∧(p<s.size→SPr S w0 w' g s o T0 p 0 p 0 (new++[tkTok s 3 b p f]))∧(s.size≤p→SPo S w0 g s o T0 p (.returned (.int .i64 0)) w')):=fun V hV=>ltell_po hV hs hbl' a1 (by decide) a2 rfl
 clear h hK a1 a2 hoff h10 hbl hB hp
 go_enter Tryz.func27,Tryz.ntmps27
 go_wp2_with fail
 refine wp_scope_two 0 2 rfl rfl ?_
 go_wp2_with fail
 go_step3
 refine ⟨rfl,?_⟩
 go_wp2_with (first|(go_at_call 61;refine HDg.out.mono ?_;rintro e w1 ⟨rfl,hw⟩;replace hw:=hw.symm;subst hw)|(go_at_call 59;refine (HTe.out _ HSP.out).mono ?_;rintro e w3 ⟨rfl,r3a,r3b⟩;have r3:=r3a HP.out;obtain ⟨y3,v3,g3⟩:=r3.cell;clear r3a r3b))
 go_step3
 refine ⟨rfl,?_⟩
 go_wp2_with (first|(go_at_call 65;refine (HBl.out _).mono ?_;rintro e w4 ⟨rfl,hb4⟩;have r4:=SPr.below r3 hb4)|(go_at_call 67;refine (HBg.out _ r4).mono ?_;rintro e w5 ⟨rfl,hb5⟩;have r5:=r4.below hb5;obtain ⟨y5,v5,g5⟩:=r5.cell;have HF:Hid (SPo S w0 g s o T0 p (.returned (.int .i64 100)) (w5.setCell ⟨g,5,none⟩ (.int .i64 0))):=HNo.out _ r5))
 simp only [Exit.jump]
 go_ret
 exact HF.out
set_option maxRecDepth 100000 in
set_option maxHeartbeats 1000000 in
theorem lstep3_no {S:Nat→Prop}{w0 W:World}{g:Nat}{s o:ByteArray}{T0:List Tk}{p b f:Nat}{new:List Tk}(h:SPr S w0 W g s o T0 p 3 b f new) (hs:s.size≤1000000000) (hK:∀V,Kp S w0 V→Kab V) (hp:p<s.size) (h10:by8 s p≠10) (hbl:tkBl (by8 s p)=false) (hB:bgK s p=0) (hl:p<s.size→s.extract b (p+dw s p)≠twoSl) (hsg:p<s.size→¬p-b<(sg (s.extract b (p+dw s p)) 0).size) :
  Calls Tryz.prog 27 #[.pointer (some ⟨g,0,none⟩),.int .i32 (xp s p),.string (s.extract p (xq s p))] W fun e w'=>SPo S w0 g s o T0 p e w':=by
 obtain ⟨f1,f2,f3,f4,f5,f6⟩:=h.facts
 obtain ⟨c5,z5,hgl⟩:=h.cell
 have hwr:IntKind.i64.wrap (xp s p)=xp s p:=by
  rw [IntKind.wrap_i64]
  have:=dp_le s p
  unfold xp
  split <;> omega
 obtain ⟨a1,a2⟩:=sign_off h.ms f4 hl hsg
 have hbl':b<s.size:=by
  cases h.ms with
  |sign e _ _=>omega
 have HSP:Hid (SPr S w0 W g s o T0 p 3 b f new):=h
 have HP:Hid (p<s.size):=hp
 have q1:(xp s p == -1)=false:=by rw [beq_eq_false_iff_ne,xp_in hp];omega
 have q10:(xp s p == 10)=false:=by rw [beq_eq_false_iff_ne,xp_in hp];exact fun e=>h10 ((x_is s p 10 (by decide)).1 e)
 have HBl:Hid (∀V,Calls Tryz.prog 65 #[.int .i32 (xp s p)] V fun e w'=>e=.returned (.bool false)∧Below V.heap.size V w'):=fun V=>lblank_at V hp false hbl.symm
 have HBg:Hid (∀V,∀{f:Nat} {new:List Tk},SPr S w0 V g s o T0 p 0 p f new→Calls Tryz.prog 67 #[.int .i32 (xp s p)] V fun e w'=>e=.returned (.int .i64 (0))∧Below V.heap.size V w'):=fun V f new hV=>by
  have h9:=lbegin_any s p hp V (hK V (by obtain ⟨vt,vo,vs,h1,h2⟩:=hV.lq;exact h2.kp))
  rw [hB] at h9
  rw [xp_in hp]
  exact h9
 have HNo:Hid (∀V,∀{f:Nat} {new:List Tk},SPr S w0 V g s o T0 p 0 p f new→SPo S w0 g s o T0 p (.returned (.int .i64 100)) (V.setCell ⟨g,5,none⟩ (.int .i64 0))):=fun V f new hV=>SPo.noTok hV hp h10 hbl hB
 have HLi:=lline_at (r:=false) h (by omega) hbl' (by
  refine ⟨fun e=>(by cases e),fun e=>?_⟩
  by_cases hx:p<s.size
  ·rw [xq_in hx] at e;exact absurd e (hl hx)
  ·rw [xq_out (by omega)] at e;exact absurd e (sign_not2 h.ms))
 have HSi:=lsign_at (r:=false) h (by omega) hbl' hK (by
  refine ⟨fun e=>(by cases e),fun e=>?_⟩
  by_cases hx:p<s.size
  ·rw [xq_in hx] at e;exact absurd e (hsg hx)
  ·rw [xq_out (by omega)] at e;exact absurd e (sign_notm h.ms))
 have HTe:Hid (∀V,SPr S w0 V g s o T0 p 3 b f new→Calls Tryz.prog 59 #[.pointer (some ⟨g,0,none⟩),.int .u8 6] V fun e w'=>e=.returned (.tuple #[])∧(p<s.size→SPr S w0 w' g s o T0 p 0 p 0 (new++[tkTok s 6 b p f]))∧(s.size≤p→SPo S w0 g s o T0 p (.returned (.int .i64 0)) w')):=fun V hV=>ltell_po hV hs hbl' a1 (by decide) a2 rfl
 clear h hK a1 a2 hl hsg h10 hbl hB hp
 go_enter Tryz.func27,Tryz.ntmps27
 go_wp2_with fail
 refine wp_scope_two 0 3 rfl rfl ?_
 go_wp2_with fail
 go_step3
 refine ⟨rfl,?_⟩
 go_wp2_with (first|(go_at_call 62;refine HLi.out.mono ?_;rintro e w1 ⟨rfl,m1,hw1⟩;have hb1:=lbel_dn W m1;rw [←hw1] at hb1;clear hw1;have r1:=HSP.out.below hb1;obtain ⟨y1,v1,g1⟩:=r1.cell)|(go_at_call 63;refine (HSi.out _ r1).mono ?_;rintro e w2 ⟨rfl,hb2⟩;have r2:=r1.below hb2;obtain ⟨y2,v2,g2⟩:=r2.cell)|(go_at_call 59;refine (HTe.out _ r2).mono ?_;rintro e w3 ⟨rfl,r3a,r3b⟩;have r3:=r3a HP.out;obtain ⟨y3,v3,g3⟩:=r3.cell;clear r3a r3b))
 go_step3
 refine ⟨rfl,?_⟩
 go_wp2_with (first|(go_at_call 65;refine (HBl.out _).mono ?_;rintro e w4 ⟨rfl,hb4⟩;have r4:=SPr.below r3 hb4)|(go_at_call 67;refine (HBg.out _ r4).mono ?_;rintro e w5 ⟨rfl,hb5⟩;have r5:=r4.below hb5;obtain ⟨y5,v5,g5⟩:=r5.cell;have HF:Hid (SPo S w0 g s o T0 p (.returned (.int .i64 100)) (w5.setCell ⟨g,5,none⟩ (.int .i64 0))):=HNo.out _ r5))
 simp only [Exit.jump]
 go_ret
 exact HF.out
set_option maxRecDepth 100000 in
set_option maxHeartbeats 1000000 in
theorem lstep0_be {S:Nat→Prop}{w0 W:World}{g:Nat}{s o:ByteArray}{T0:List Tk}{p b f:Nat}{new:List Tk}(h:SPr S w0 W g s o T0 p 0 b f new) (hs:s.size≤1000000000) (hK:∀V,Kp S w0 V→Kab V) (hp:p<s.size) (h10:by8 s p≠10) (hbl:tkBl (by8 s p)=false) (B:Nat) (hB:bgK s p=B) (hB0:B≠0) :
  Calls Tryz.prog 27 #[.pointer (some ⟨g,0,none⟩),.int .i32 (xp s p),.string (s.extract p (xq s p))] W fun e w'=>SPo S w0 g s o T0 p e w':=by
 obtain ⟨f1,f2,f3,f4,f5,f6⟩:=h.facts
 obtain ⟨c5,z5,hgl⟩:=h.cell
 have hwr:IntKind.i64.wrap (xp s p)=xp s p:=by
  rw [IntKind.wrap_i64]
  have:=dp_le s p
  unfold xp
  split <;> omega
 obtain rfl:b=p:=by
  cases h.ms with
  |none e=>exact e
 have HSP:Hid (SPr S w0 W g s o T0 b 0 b f new):=h
 have HP:Hid (b<s.size):=hp
 have q1:(xp s b == -1)=false:=by rw [beq_eq_false_iff_ne,xp_in hp];omega
 have q10:(xp s b == 10)=false:=by rw [beq_eq_false_iff_ne,xp_in hp];exact fun e=>h10 ((x_is s b 10 (by decide)).1 e)
 have HBl:Hid (∀V,Calls Tryz.prog 65 #[.int .i32 (xp s b)] V fun e w'=>e=.returned (.bool false)∧Below V.heap.size V w'):=fun V=>lblank_at V hp false hbl.symm
 have HBg:Hid (∀V,∀{f:Nat} {new:List Tk},SPr S w0 V g s o T0 b 0 b f new→Calls Tryz.prog 67 #[.int .i32 (xp s b)] V fun e w'=>e=.returned (.int .i64 (B))∧Below V.heap.size V w'):=fun V f new hV=>by
  have h9:=lbegin_any s b hp V (hK V (by obtain ⟨vt,vo,vs,h1,h2⟩:=hV.lq;exact h2.kp))
  rw [hB] at h9
  rw [xp_in hp]
  exact h9
 have qB:((B:Int) == 0)=false:=by simp;omega
 have HAd:Hid (∀V f new,SPr S w0 V g s o T0 b 0 b f new→Calls Tryz.prog 58 #[.pointer (some ⟨g,0,none⟩),.string (s.extract b (xq s b))] (V.setCell ⟨g,5,none⟩ (.int .i64 B)) fun e w'=>SPo S w0 g s o T0 b e w'):=fun V f new hV=>lbeg_po hV hp hs hB hB0
 clear h hK h10 hbl hB hB0 hp
 go_enter Tryz.func27,Tryz.ntmps27
 go_wp2_with fail
 refine wp_scope_go 0 rfl ?_
 go_wp2_with fail
 go_step3
 refine ⟨rfl,?_⟩
 go_wp2_with (first|(go_at_call 65;refine (HBl.out _).mono ?_;rintro e w4 ⟨rfl,hb4⟩;have r4:=SPr.below HSP.out hb4)|(go_at_call 67;refine (HBg.out _ r4).mono ?_;rintro e w5 ⟨rfl,hb5⟩;have r5:=r4.below hb5;obtain ⟨y5,v5,g5⟩:=r5.cell)|(go_at_call 58;refine (HAd.out _ _ _ r5).mono ?_;intro e w9 hz;obtain ⟨E,k',b',f',p',new',rfl,hz'⟩:=hz;have HF:Hid (SPo S w0 g s o T0 b (.returned (.int .i64 E)) w9):=⟨E,k',b',f',p',new',rfl,hz'⟩;clear hz'))
 simp only [Exit.jump]
 go_ret
 exact HF.out
set_option maxRecDepth 100000 in
set_option maxHeartbeats 1000000 in
theorem lstep1_be {S:Nat→Prop}{w0 W:World}{g:Nat}{s o:ByteArray}{T0:List Tk}{p b f:Nat}{new:List Tk}(h:SPr S w0 W g s o T0 p 1 b f new) (hs:s.size≤1000000000) (hK:∀V,Kp S w0 V→Kab V) (hp:p<s.size) (h10:by8 s p≠10) (hbl:tkBl (by8 s p)=false) (B:Nat) (hB:bgK s p=B) (hB0:B≠0) (hoff:p<s.size→(gd s p && pr' (dp s p))=false) :
  Calls Tryz.prog 27 #[.pointer (some ⟨g,0,none⟩),.int .i32 (xp s p),.string (s.extract p (xq s p))] W fun e w'=>SPo S w0 g s o T0 p e w':=by
 obtain ⟨f1,f2,f3,f4,f5,f6⟩:=h.facts
 obtain ⟨c5,z5,hgl⟩:=h.cell
 have hwr:IntKind.i64.wrap (xp s p)=xp s p:=by
  rw [IntKind.wrap_i64]
  have:=dp_le s p
  unfold xp
  split <;> omega
 obtain ⟨a1,a2⟩:=name_off h.ms f4 hoff
 have hbl':b<s.size:=by
  cases h.ms with
  |name e _ _=>omega
 have HSP:Hid (SPr S w0 W g s o T0 p 1 b f new):=h
 have HP:Hid (p<s.size):=hp
 have q1:(xp s p == -1)=false:=by rw [beq_eq_false_iff_ne,xp_in hp];omega
 have q10:(xp s p == 10)=false:=by rw [beq_eq_false_iff_ne,xp_in hp];exact fun e=>h10 ((x_is s p 10 (by decide)).1 e)
 have HBl:Hid (∀V,Calls Tryz.prog 65 #[.int .i32 (xp s p)] V fun e w'=>e=.returned (.bool false)∧Below V.heap.size V w'):=fun V=>lblank_at V hp false hbl.symm
 have HBg:Hid (∀V,∀{f:Nat} {new:List Tk},SPr S w0 V g s o T0 p 0 p f new→Calls Tryz.prog 67 #[.int .i32 (xp s p)] V fun e w'=>e=.returned (.int .i64 (B))∧Below V.heap.size V w'):=fun V f new hV=>by
  have h9:=lbegin_any s p hp V (hK V (by obtain ⟨vt,vo,vs,h1,h2⟩:=hV.lq;exact h2.kp))
  rw [hB] at h9
  rw [xp_in hp]
  exact h9
 have qB:((B:Int) == 0)=false:=by simp;omega
 have HAd:Hid (∀V f new,SPr S w0 V g s o T0 p 0 p f new→Calls Tryz.prog 58 #[.pointer (some ⟨g,0,none⟩),.string (s.extract p (xq s p))] (V.setCell ⟨g,5,none⟩ (.int .i64 B)) fun e w'=>SPo S w0 g s o T0 p e w'):=fun V f new hV=>lbeg_po hV hp hs hB hB0
 have HPt:Hid (Calls Tryz.prog 57 #[.int .i64 (xp s p)] W fun e w'=>e=.returned (.bool false)∧w'=W):=lpart_at W (hK W (by obtain ⟨vt,vo,vs,h1,h2⟩:=h.lq;exact h2.kp)) false ⟨fun h=>(by cases h),fun h=>(by rw [hoff h.1] at h;cases h.2)⟩
 obtain ⟨kk,hkk⟩:∃kk:Nat,(tkTok s 1 b p f).k=kk:=⟨_,rfl⟩
 have HWo:Hid (Calls Tryz.prog 60 #[.pointer (some ⟨g,0,none⟩)] W fun e w'=>e=.returned (.int .u8 kk)∧w'=W):=by
  obtain ⟨vt,vo,vs,h1,h2⟩:=h.lq
  have h9:=lword_any h1 h2.rt (hK W h2.kp).2.1
  have e9:(if ky (s.extract b p)=true then (2:Int) else 1)=kk:=by
   rw [←hkk]
   show _=(((if 1=1∧ky (s.extract b p)=true then 2 else 1:Nat)):Int)
   by_cases hy:ky (s.extract b p)=true
   ·rw [if_pos hy,if_pos ⟨rfl,hy⟩];rfl
   ·rw [if_neg hy,if_neg (fun e=>hy e.2)];rfl
  rw [e9] at h9
  exact h9
 have HTe:Hid (∀V,SPr S w0 V g s o T0 p 1 b f new→Calls Tryz.prog 59 #[.pointer (some ⟨g,0,none⟩),.int .u8 kk] V fun e w'=>e=.returned (.tuple #[])∧(p<s.size→SPr S w0 w' g s o T0 p 0 p 0 (new++[tkTok s 1 b p f]))∧(s.size≤p→SPo S w0 g s o T0 p (.returned (.int .i64 0)) w')):=fun V hV=>ltell_po hV hs hbl' a1 (by decide) a2 hkk.symm
 clear h hK a1 a2 hoff hkk h10 hbl hB hB0 hp
 go_enter Tryz.func27,Tryz.ntmps27
 go_wp2_with fail
 refine wp_scope_two 0 1 rfl rfl ?_
 go_wp2_with fail
 go_step3
 refine ⟨rfl,?_⟩
 go_wp2_with (first|(go_at_call 57;refine HPt.out.mono ?_;rintro e w1 ⟨rfl,hw⟩;replace hw:=hw.symm;subst hw)|(go_at_call 60;refine HWo.out.mono ?_;rintro e w1 ⟨rfl,hw⟩;replace hw:=hw.symm;subst hw)|(go_at_call 59;refine (HTe.out _ HSP.out).mono ?_;rintro e w3 ⟨rfl,r3a,r3b⟩;have r3:=r3a HP.out;obtain ⟨y3,v3,g3⟩:=r3.cell;clear r3a r3b))
 go_step3
 refine ⟨rfl,?_⟩
 go_wp2_with (first|(go_at_call 65;refine (HBl.out _).mono ?_;rintro e w4 ⟨rfl,hb4⟩;have r4:=SPr.below r3 hb4)|(go_at_call 67;refine (HBg.out _ r4).mono ?_;rintro e w5 ⟨rfl,hb5⟩;have r5:=r4.below hb5;obtain ⟨y5,v5,g5⟩:=r5.cell)|(go_at_call 58;refine (HAd.out _ _ _ r5).mono ?_;intro e w9 hz;obtain ⟨E,k',b',f',p',new',rfl,hz'⟩:=hz;have HF:Hid (SPo S w0 g s o T0 p (.returned (.int .i64 E)) w9):=⟨E,k',b',f',p',new',rfl,hz'⟩;clear hz'))
 simp only [Exit.jump]
 go_ret
 exact HF.out
set_option maxRecDepth 100000 in
set_option maxHeartbeats 1000000 in
theorem lstep2_be {S:Nat→Prop}{w0 W:World}{g:Nat}{s o:ByteArray}{T0:List Tk}{p b f:Nat}{new:List Tk}(h:SPr S w0 W g s o T0 p 2 b f new) (hs:s.size≤1000000000) (hK:∀V,Kp S w0 V→Kab V) (hp:p<s.size) (h10:by8 s p≠10) (hbl:tkBl (by8 s p)=false) (B:Nat) (hB:bgK s p=B) (hB0:B≠0) (hoff:p<s.size→tkDg (by8 s p)=false) :
  Calls Tryz.prog 27 #[.pointer (some ⟨g,0,none⟩),.int .i32 (xp s p),.string (s.extract p (xq s p))] W fun e w'=>SPo S w0 g s o T0 p e w':=by
 obtain ⟨f1,f2,f3,f4,f5,f6⟩:=h.facts
 obtain ⟨c5,z5,hgl⟩:=h.cell
 have hwr:IntKind.i64.wrap (xp s p)=xp s p:=by
  rw [IntKind.wrap_i64]
  have:=dp_le s p
  unfold xp
  split <;> omega
 obtain ⟨a1,a2⟩:=num_off h.ms f4 hoff
 have hbl':b<s.size:=by
  cases h.ms with
  |num e _ _=>omega
 have HSP:Hid (SPr S w0 W g s o T0 p 2 b f new):=h
 have HP:Hid (p<s.size):=hp
 have q1:(xp s p == -1)=false:=by rw [beq_eq_false_iff_ne,xp_in hp];omega
 have q10:(xp s p == 10)=false:=by rw [beq_eq_false_iff_ne,xp_in hp];exact fun e=>h10 ((x_is s p 10 (by decide)).1 e)
 have HBl:Hid (∀V,Calls Tryz.prog 65 #[.int .i32 (xp s p)] V fun e w'=>e=.returned (.bool false)∧Below V.heap.size V w'):=fun V=>lblank_at V hp false hbl.symm
 have HBg:Hid (∀V,∀{f:Nat} {new:List Tk},SPr S w0 V g s o T0 p 0 p f new→Calls Tryz.prog 67 #[.int .i32 (xp s p)] V fun e w'=>e=.returned (.int .i64 (B))∧Below V.heap.size V w'):=fun V f new hV=>by
  have h9:=lbegin_any s p hp V (hK V (by obtain ⟨vt,vo,vs,h1,h2⟩:=hV.lq;exact h2.kp))
  rw [hB] at h9
  rw [xp_in hp]
  exact h9
 have qB:((B:Int) == 0)=false:=by simp;omega
 have HAd:Hid (∀V f new,SPr S w0 V g s o T0 p 0 p f new→Calls Tryz.prog 58 #[.pointer (some ⟨g,0,none⟩),.string (s.extract p (xq s p))] (V.setCell ⟨g,5,none⟩ (.int .i64 B)) fun e w'=>SPo S w0 g s o T0 p e w'):=fun V f new hV=>lbeg_po hV hp hs hB hB0
 have HDg:Hid (Calls Tryz.prog 61 #[.int .i32 (xp s p)] W fun e w'=>e=.returned (.bool false)∧w'=W):=ldigit_at W false ⟨fun h=>(by cases h),fun h=>(by rw [hoff h.1] at h;cases h.2)⟩
 have HTe:Hid (∀V,SPr S w0 V g s o T0 p 2 b f new→Calls Tryz.prog 59 #[.pointer (some ⟨g,0,none⟩),.int .u8 3] V fun e w'=>e=.returned (.tuple #[])∧(p<s.size→SPr S w0 w' g s o T0 p 0 p 0 (new++[tkTok s 3 b p f]))∧(s.size≤p→SPo S w0 g s o T0 p (.returned (.int .i64 0)) w')):=fun V hV=>ltell_po hV hs hbl' a1 (by decide) a2 rfl
 clear h hK a1 a2 hoff h10 hbl hB hB0 hp
 go_enter Tryz.func27,Tryz.ntmps27
 go_wp2_with fail
 refine wp_scope_two 0 2 rfl rfl ?_
 go_wp2_with fail
 go_step3
 refine ⟨rfl,?_⟩
 go_wp2_with (first|(go_at_call 61;refine HDg.out.mono ?_;rintro e w1 ⟨rfl,hw⟩;replace hw:=hw.symm;subst hw)|(go_at_call 59;refine (HTe.out _ HSP.out).mono ?_;rintro e w3 ⟨rfl,r3a,r3b⟩;have r3:=r3a HP.out;obtain ⟨y3,v3,g3⟩:=r3.cell;clear r3a r3b))
 go_step3
 refine ⟨rfl,?_⟩
 go_wp2_with (first|(go_at_call 65;refine (HBl.out _).mono ?_;rintro e w4 ⟨rfl,hb4⟩;have r4:=SPr.below r3 hb4)|(go_at_call 67;refine (HBg.out _ r4).mono ?_;rintro e w5 ⟨rfl,hb5⟩;have r5:=r4.below hb5;obtain ⟨y5,v5,g5⟩:=r5.cell)|(go_at_call 58;refine (HAd.out _ _ _ r5).mono ?_;intro e w9 hz;obtain ⟨E,k',b',f',p',new',rfl,hz'⟩:=hz;have HF:Hid (SPo S w0 g s o T0 p (.returned (.int .i64 E)) w9):=⟨E,k',b',f',p',new',rfl,hz'⟩;clear hz'))
 simp only [Exit.jump]
 go_ret
 exact HF.out
set_option maxRecDepth 100000 in
set_option maxHeartbeats 1000000 in
theorem lstep3_be {S:Nat→Prop}{w0 W:World}{g:Nat}{s o:ByteArray}{T0:List Tk}{p b f:Nat}{new:List Tk}(h:SPr S w0 W g s o T0 p 3 b f new) (hs:s.size≤1000000000) (hK:∀V,Kp S w0 V→Kab V) (hp:p<s.size) (h10:by8 s p≠10) (hbl:tkBl (by8 s p)=false) (B:Nat) (hB:bgK s p=B) (hB0:B≠0) (hl:p<s.size→s.extract b (p+dw s p)≠twoSl) (hsg:p<s.size→¬p-b<(sg (s.extract b (p+dw s p)) 0).size) :
  Calls Tryz.prog 27 #[.pointer (some ⟨g,0,none⟩),.int .i32 (xp s p),.string (s.extract p (xq s p))] W fun e w'=>SPo S w0 g s o T0 p e w':=by
 obtain ⟨f1,f2,f3,f4,f5,f6⟩:=h.facts
 obtain ⟨c5,z5,hgl⟩:=h.cell
 have hwr:IntKind.i64.wrap (xp s p)=xp s p:=by
  rw [IntKind.wrap_i64]
  have:=dp_le s p
  unfold xp
  split <;> omega
 obtain ⟨a1,a2⟩:=sign_off h.ms f4 hl hsg
 have hbl':b<s.size:=by
  cases h.ms with
  |sign e _ _=>omega
 have HSP:Hid (SPr S w0 W g s o T0 p 3 b f new):=h
 have HP:Hid (p<s.size):=hp
 have q1:(xp s p == -1)=false:=by rw [beq_eq_false_iff_ne,xp_in hp];omega
 have q10:(xp s p == 10)=false:=by rw [beq_eq_false_iff_ne,xp_in hp];exact fun e=>h10 ((x_is s p 10 (by decide)).1 e)
 have HBl:Hid (∀V,Calls Tryz.prog 65 #[.int .i32 (xp s p)] V fun e w'=>e=.returned (.bool false)∧Below V.heap.size V w'):=fun V=>lblank_at V hp false hbl.symm
 have HBg:Hid (∀V,∀{f:Nat} {new:List Tk},SPr S w0 V g s o T0 p 0 p f new→Calls Tryz.prog 67 #[.int .i32 (xp s p)] V fun e w'=>e=.returned (.int .i64 (B))∧Below V.heap.size V w'):=fun V f new hV=>by
  have h9:=lbegin_any s p hp V (hK V (by obtain ⟨vt,vo,vs,h1,h2⟩:=hV.lq;exact h2.kp))
  rw [hB] at h9
  rw [xp_in hp]
  exact h9
 have qB:((B:Int) == 0)=false:=by simp;omega
 have HAd:Hid (∀V f new,SPr S w0 V g s o T0 p 0 p f new→Calls Tryz.prog 58 #[.pointer (some ⟨g,0,none⟩),.string (s.extract p (xq s p))] (V.setCell ⟨g,5,none⟩ (.int .i64 B)) fun e w'=>SPo S w0 g s o T0 p e w'):=fun V f new hV=>lbeg_po hV hp hs hB hB0
 have HLi:=lline_at (r:=false) h (by omega) hbl' (by
  refine ⟨fun e=>(by cases e),fun e=>?_⟩
  by_cases hx:p<s.size
  ·rw [xq_in hx] at e;exact absurd e (hl hx)
  ·rw [xq_out (by omega)] at e;exact absurd e (sign_not2 h.ms))
 have HSi:=lsign_at (r:=false) h (by omega) hbl' hK (by
  refine ⟨fun e=>(by cases e),fun e=>?_⟩
  by_cases hx:p<s.size
  ·rw [xq_in hx] at e;exact absurd e (hsg hx)
  ·rw [xq_out (by omega)] at e;exact absurd e (sign_notm h.ms))
 have HTe:Hid (∀V,SPr S w0 V g s o T0 p 3 b f new→Calls Tryz.prog 59 #[.pointer (some ⟨g,0,none⟩),.int .u8 6] V fun e w'=>e=.returned (.tuple #[])∧(p<s.size→SPr S w0 w' g s o T0 p 0 p 0 (new++[tkTok s 6 b p f]))∧(s.size≤p→SPo S w0 g s o T0 p (.returned (.int .i64 0)) w')):=fun V hV=>ltell_po hV hs hbl' a1 (by decide) a2 rfl
 clear h hK a1 a2 hl hsg h10 hbl hB hB0 hp
 go_enter Tryz.func27,Tryz.ntmps27
 go_wp2_with fail
 refine wp_scope_two 0 3 rfl rfl ?_
 go_wp2_with fail
 go_step3
 refine ⟨rfl,?_⟩
 go_wp2_with (first|(go_at_call 62;refine HLi.out.mono ?_;rintro e w1 ⟨rfl,m1,hw1⟩;have hb1:=lbel_dn W m1;rw [←hw1] at hb1;clear hw1;have r1:=HSP.out.below hb1;obtain ⟨y1,v1,g1⟩:=r1.cell)|(go_at_call 63;refine (HSi.out _ r1).mono ?_;rintro e w2 ⟨rfl,hb2⟩;have r2:=r1.below hb2;obtain ⟨y2,v2,g2⟩:=r2.cell)|(go_at_call 59;refine (HTe.out _ r2).mono ?_;rintro e w3 ⟨rfl,r3a,r3b⟩;have r3:=r3a HP.out;obtain ⟨y3,v3,g3⟩:=r3.cell;clear r3a r3b))
 go_step3
 refine ⟨rfl,?_⟩
 go_wp2_with (first|(go_at_call 65;refine (HBl.out _).mono ?_;rintro e w4 ⟨rfl,hb4⟩;have r4:=SPr.below r3 hb4)|(go_at_call 67;refine (HBg.out _ r4).mono ?_;rintro e w5 ⟨rfl,hb5⟩;have r5:=r4.below hb5;obtain ⟨y5,v5,g5⟩:=r5.cell)|(go_at_call 58;refine (HAd.out _ _ _ r5).mono ?_;intro e w9 hz;obtain ⟨E,k',b',f',p',new',rfl,hz'⟩:=hz;have HF:Hid (SPo S w0 g s o T0 p (.returned (.int .i64 E)) w9):=⟨E,k',b',f',p',new',rfl,hz'⟩;clear hz'))
 simp only [Exit.jump]
 go_ret
 exact HF.out
set_option maxRecDepth 100000 in
set_option maxHeartbeats 1000000 in
theorem lstep1_on {S:Nat→Prop}{w0 W:World}{g:Nat}{s o:ByteArray}{T0:List Tk}{p b f:Nat}{new:List Tk}(h:SPr S w0 W g s o T0 p 1 b f new) (hs:s.size≤1000000000) (hK:∀V,Kp S w0 V→Kab V) (hp:p<s.size) (hon:(gd s p && pr' (dp s p))=true) :
  Calls Tryz.prog 27 #[.pointer (some ⟨g,0,none⟩),.int .i32 (xp s p),.string (s.extract p (xq s p))] W fun e w'=>SPo S w0 g s o T0 p e w':=by
 obtain ⟨f1,f2,f3,f4,f5,f6⟩:=h.facts
 obtain ⟨c5,z5,hgl⟩:=h.cell
 have hwr:IntKind.i64.wrap (xp s p)=xp s p:=by
  rw [IntKind.wrap_i64]
  have:=dp_le s p
  unfold xp
  split <;> omega
 have hbl':b<s.size:=by
  cases h.ms with
  |name e _ _=>omega
 obtain ⟨a1,a2,a3⟩:=name_on h.ms hp hon
 have HPt:Hid (Calls Tryz.prog 57 #[.int .i64 (xp s p)] W fun e w'=>e=.returned (.bool true)∧w'=W):=lpart_at W (hK W (by obtain ⟨vt,vo,vs,h1,h2⟩:=h.lq;exact h2.kp)) true ⟨fun _=>⟨hp,hon⟩,fun _=>rfl⟩
 have HAo:Hid (Calls Tryz.prog 58 #[.pointer (some ⟨g,0,none⟩),.string (s.extract p (xq s p))] W fun e w'=>SPo S w0 g s o T0 p e w'):=ladd_po (kk:=1) h h.lq hp hbl' (by omega) (by decide) (fun hx=>⟨a1,a2 hx⟩) a3
 clear h hK a1 a2 a3 hon
 go_enter Tryz.func27,Tryz.ntmps27
 go_wp2_with fail
 refine wp_scope_two 0 1 rfl rfl ?_
 go_wp2_with fail
 go_step3
 refine ⟨rfl,?_⟩
 go_wp2_with (first|(go_at_call 57;refine HPt.out.mono ?_;rintro e w1 ⟨rfl,hw⟩;replace hw:=hw.symm;subst hw)|(go_at_call 58;refine HAo.out.mono ?_;intro e w9 hz;obtain ⟨E,k',b',f',p',new',rfl,hz'⟩:=hz;have HF:Hid (SPo S w0 g s o T0 p (.returned (.int .i64 E)) w9):=⟨E,k',b',f',p',new',rfl,hz'⟩;clear hz'))
 simp only [Exit.jump]
 go_ret
 exact HF.out
set_option maxRecDepth 100000 in
set_option maxHeartbeats 1000000 in
theorem lstep2_on {S:Nat→Prop}{w0 W:World}{g:Nat}{s o:ByteArray}{T0:List Tk}{p b f:Nat}{new:List Tk}(h:SPr S w0 W g s o T0 p 2 b f new) (hs:s.size≤1000000000) (hK:∀V,Kp S w0 V→Kab V) (hp:p<s.size) (hon:tkDg (by8 s p)=true) :
  Calls Tryz.prog 27 #[.pointer (some ⟨g,0,none⟩),.int .i32 (xp s p),.string (s.extract p (xq s p))] W fun e w'=>SPo S w0 g s o T0 p e w':=by
 obtain ⟨f1,f2,f3,f4,f5,f6⟩:=h.facts
 obtain ⟨c5,z5,hgl⟩:=h.cell
 have hwr:IntKind.i64.wrap (xp s p)=xp s p:=by
  rw [IntKind.wrap_i64]
  have:=dp_le s p
  unfold xp
  split <;> omega
 have hbl':b<s.size:=by
  cases h.ms with
  |num e _ _=>omega
 obtain ⟨a1,a2,a3⟩:=num_on h.ms hp hon
 have HDg:Hid (Calls Tryz.prog 61 #[.int .i32 (xp s p)] W fun e w'=>e=.returned (.bool true)∧w'=W):=ldigit_at W true ⟨fun _=>⟨hp,hon⟩,fun _=>rfl⟩
 have HAo:Hid (Calls Tryz.prog 58 #[.pointer (some ⟨g,0,none⟩),.string (s.extract p (xq s p))] W fun e w'=>SPo S w0 g s o T0 p e w'):=ladd_po (kk:=3) h h.lq hp hbl' (by omega) (by decide) (fun hx=>⟨a1,a2 hx⟩) a3
 clear h hK a1 a2 a3 hon
 go_enter Tryz.func27,Tryz.ntmps27
 go_wp2_with fail
 refine wp_scope_two 0 2 rfl rfl ?_
 go_wp2_with fail
 go_step3
 refine ⟨rfl,?_⟩
 go_wp2_with (first|(go_at_call 61;refine HDg.out.mono ?_;rintro e w1 ⟨rfl,hw⟩;replace hw:=hw.symm;subst hw)|(go_at_call 58;refine HAo.out.mono ?_;intro e w9 hz;obtain ⟨E,k',b',f',p',new',rfl,hz'⟩:=hz;have HF:Hid (SPo S w0 g s o T0 p (.returned (.int .i64 E)) w9):=⟨E,k',b',f',p',new',rfl,hz'⟩;clear hz'))
 simp only [Exit.jump]
 go_ret
 exact HF.out
set_option maxRecDepth 100000 in
set_option maxHeartbeats 1000000 in
theorem lstep4_on {S:Nat→Prop}{w0 W:World}{g:Nat}{s o:ByteArray}{T0:List Tk}{p b f:Nat}{new:List Tk}(h:SPr S w0 W g s o T0 p 4 b f new) (hs:s.size≤1000000000) (hK:∀V,Kp S w0 V→Kab V) (hp:p<s.size) (hon:by8 s p≠10) :
  Calls Tryz.prog 27 #[.pointer (some ⟨g,0,none⟩),.int .i32 (xp s p),.string (s.extract p (xq s p))] W fun e w'=>SPo S w0 g s o T0 p e w':=by
 obtain ⟨f1,f2,f3,f4,f5,f6⟩:=h.facts
 obtain ⟨c5,z5,hgl⟩:=h.cell
 have hwr:IntKind.i64.wrap (xp s p)=xp s p:=by
  rw [IntKind.wrap_i64]
  have:=dp_le s p
  unfold xp
  split <;> omega
 have hbl':b<s.size:=by
  cases h.ms with
  |line e _ _=>omega
 obtain ⟨a1,a2,a3⟩:=line_on h.ms hp hon
 have HEn:Hid (Calls Tryz.prog 64 #[.int .i32 (xp s p)] W fun e w'=>e=.returned (.bool false)∧w'=W):=lends_at W false ⟨fun h=>(by cases h),fun h=>(by rcases h with h|h;omega;exact absurd h hon)⟩
 have HAo:Hid (Calls Tryz.prog 58 #[.pointer (some ⟨g,0,none⟩),.string (s.extract p (xq s p))] W fun e w'=>SPo S w0 g s o T0 p e w'):=ladd_po (kk:=7) h h.lq hp hbl' (by omega) (by decide) (fun hx=>⟨a1,a2 hx⟩) a3
 clear h hK a1 a2 a3 hon
 go_enter Tryz.func27,Tryz.ntmps27
 go_wp2_with fail
 refine wp_scope_go 4 rfl ?_
 go_wp2_with fail
 go_step3
 refine ⟨rfl,?_⟩
 go_wp2_with (first|(go_at_call 64;refine HEn.out.mono ?_;rintro e w1 ⟨rfl,hw⟩;replace hw:=hw.symm;subst hw)|(go_at_call 58;refine HAo.out.mono ?_;intro e w9 hz;obtain ⟨E,k',b',f',p',new',rfl,hz'⟩:=hz;have HF:Hid (SPo S w0 g s o T0 p (.returned (.int .i64 E)) w9):=⟨E,k',b',f',p',new',rfl,hz'⟩;clear hz'))
 simp only [Exit.jump]
 go_ret
 exact HF.out
set_option maxRecDepth 100000 in
set_option maxHeartbeats 1000000 in
theorem lstep3_line {S:Nat→Prop}{w0 W:World}{g:Nat}{s o:ByteArray}{T0:List Tk}{p b f:Nat}{new:List Tk}(h:SPr S w0 W g s o T0 p 3 b f new) (hs:s.size≤1000000000) (hK:∀V,Kp S w0 V→Kab V) (hp:p<s.size) (hon:s.extract b (p+dw s p)=twoSl) :
  Calls Tryz.prog 27 #[.pointer (some ⟨g,0,none⟩),.int .i32 (xp s p),.string (s.extract p (xq s p))] W fun e w'=>SPo S w0 g s o T0 p e w':=by
 obtain ⟨f1,f2,f3,f4,f5,f6⟩:=h.facts
 obtain ⟨c5,z5,hgl⟩:=h.cell
 have hwr:IntKind.i64.wrap (xp s p)=xp s p:=by
  rw [IntKind.wrap_i64]
  have:=dp_le s p
  unfold xp
  split <;> omega
 have hbl':b<s.size:=by
  cases h.ms with
  |sign e _ _=>omega
 obtain ⟨a1,a2⟩:=sign_line h.ms hp hon
 have HSP:Hid (SPr S w0 W g s o T0 p 3 b f new):=h
 have HLi:=lline_at (r:=true) h (by omega) hbl' ⟨fun _=>(by rw [xq_in hp];exact hon),fun _=>rfl⟩
 have HAv:Hid (∀V,SPr S w0 V g s o T0 p 3 b f new→Calls Tryz.prog 58 #[.pointer (some ⟨g,0,none⟩),.string (s.extract p (xq s p))] (V.setCell ⟨g,5,none⟩ (.int .i64 4)) fun e w'=>SPo S w0 g s o T0 p e w'):=fun V hV=>ladd_po (kk:=7) hV (hV.setK 4) hp hbl' (by omega) (by decide) (fun hx=>absurd hx a2) (fun _=>a1)
 clear h hK a1 a2 hon
 go_enter Tryz.func27,Tryz.ntmps27
 go_wp2_with fail
 refine wp_scope_two 0 3 rfl rfl ?_
 go_wp2_with fail
 go_step3
 refine ⟨rfl,?_⟩
 go_wp2_with (first|(go_at_call 62;refine HLi.out.mono ?_;rintro e w1 ⟨rfl,m1,hw1⟩;have hb1:=lbel_dn W m1;rw [←hw1] at hb1;clear hw1;have r1:=HSP.out.below hb1;obtain ⟨y1,v1,g1⟩:=r1.cell)|(go_at_call 58;refine (HAv.out _ r1).mono ?_;intro e w9 hz;obtain ⟨E,k',b',f',p',new',rfl,hz'⟩:=hz;have HF:Hid (SPo S w0 g s o T0 p (.returned (.int .i64 E)) w9):=⟨E,k',b',f',p',new',rfl,hz'⟩;clear hz'))
 simp only [Exit.jump]
 go_ret
 exact HF.out
set_option maxRecDepth 100000 in
set_option maxHeartbeats 1000000 in
theorem lstep3_on {S:Nat→Prop}{w0 W:World}{g:Nat}{s o:ByteArray}{T0:List Tk}{p b f:Nat}{new:List Tk}(h:SPr S w0 W g s o T0 p 3 b f new) (hs:s.size≤1000000000) (hK:∀V,Kp S w0 V→Kab V) (hp:p<s.size) (hl:s.extract b (p+dw s p)≠twoSl) (hon:p-b<(sg (s.extract b (p+dw s p)) 0).size) :
  Calls Tryz.prog 27 #[.pointer (some ⟨g,0,none⟩),.int .i32 (xp s p),.string (s.extract p (xq s p))] W fun e w'=>SPo S w0 g s o T0 p e w':=by
 obtain ⟨f1,f2,f3,f4,f5,f6⟩:=h.facts
 obtain ⟨c5,z5,hgl⟩:=h.cell
 have hwr:IntKind.i64.wrap (xp s p)=xp s p:=by
  rw [IntKind.wrap_i64]
  have:=dp_le s p
  unfold xp
  split <;> omega
 have hbl':b<s.size:=by
  cases h.ms with
  |sign e _ _=>omega
 obtain ⟨a1,a2⟩:=sign_on h.ms hp hon
 have HSP:Hid (SPr S w0 W g s o T0 p 3 b f new):=h
 have HLi:=lline_at (r:=false) h (by omega) hbl' ⟨fun e=>(by cases e),fun e=>(by rw [xq_in hp] at e;exact absurd e hl)⟩
 have HSi:=lsign_at (r:=true) h (by omega) hbl' hK ⟨fun _=>(by rw [xq_in hp];exact hon),fun _=>rfl⟩
 have HAv:Hid (∀V,SPr S w0 V g s o T0 p 3 b f new→Calls Tryz.prog 58 #[.pointer (some ⟨g,0,none⟩),.string (s.extract p (xq s p))] V fun e w'=>SPo S w0 g s o T0 p e w'):=fun V hV=>ladd_po (kk:=6) hV hV.lq hp hbl' (by omega) (by decide) (fun hx=>absurd hx a2) (fun _=>a1)
 clear h hK a1 a2 hon hl
 go_enter Tryz.func27,Tryz.ntmps27
 go_wp2_with fail
 refine wp_scope_two 0 3 rfl rfl ?_
 go_wp2_with fail
 go_step3
 refine ⟨rfl,?_⟩
 go_wp2_with (first|(go_at_call 62;refine HLi.out.mono ?_;rintro e w1 ⟨rfl,m1,hw1⟩;have hb1:=lbel_dn W m1;rw [←hw1] at hb1;clear hw1;have r1:=HSP.out.below hb1;obtain ⟨y1,v1,g1⟩:=r1.cell)|(go_at_call 63;refine (HSi.out _ r1).mono ?_;rintro e w2 ⟨rfl,hb2⟩;have r2:=r1.below hb2;obtain ⟨y2,v2,g2⟩:=r2.cell)|(go_at_call 58;refine (HAv.out _ r2).mono ?_;intro e w9 hz;obtain ⟨E,k',b',f',p',new',rfl,hz'⟩:=hz;have HF:Hid (SPo S w0 g s o T0 p (.returned (.int .i64 E)) w9):=⟨E,k',b',f',p',new',rfl,hz'⟩;clear hz'))
 simp only [Exit.jump]
 go_ret
 exact HF.out
end Go.Proofs.YtkigadnkclkopaaGreatDoor.Lx
