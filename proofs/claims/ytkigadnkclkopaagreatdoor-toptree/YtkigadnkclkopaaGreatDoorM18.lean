import Derived.Test.YtkigadnkclkopaaGreatDoorM17
set_option linter.unusedVariables false
set_option linter.unusedSimpArgs false
namespace Go.Proofs.YtkigadnkclkopaaGreatDoor.Lx
open Go.RowKit
theorem tell_any {w0 W:World}{g:Nat}{s:ByteArray}{y a f:Nat}{l:List Tv}(h:Rs w0 W g s y a f l) (k:Nat) (hs:s.size≤2147483647) (hay:a≤y) (hy:y≤s.size) (hl:l.length≤1000000000) (h7:k=7→a<y∧tkBl (by8 s a)=false) :
  Calls Tryz.prog 87 #[.pointer (some ⟨g,0,none⟩),.int .u8 k] W fun e w'=>e=.returned (.int .i64 0)∧Rs w0 w' g s y a 0 (l++[tv s ⟨k,a,if k=7 then tkTrim s y else y,f⟩]):=by
 refine (tell_core h k _ rfl h7 hs hay hy hl).mono ?_
 rintro e w' ⟨rfl,hr⟩
 refine ⟨rfl,?_⟩
 have e:tv s ⟨k,a,if k=7 then tkTrim s y else y,f⟩=⟨k,if k=7 then s.extract a (tkTrim s y) else s.extract a y,a,pL s a,pC s a,f⟩:=by
  unfold tv
  by_cases e:k=7
  ·simp only [if_pos e]
  ·simp only [if_neg e]
 rw [e]
 exact hr
theorem bgn3 {s:ByteArray}{a:Nat}(h:tkBgn s a=3):tkDg (by8 s a)=true:=by
 unfold tkBgn at h
 repeat' split at h
 all_goals first|assumption|(cases h;done)
theorem bgn1 {s:ByteArray}{a:Nat}(h:tkBgn s a=1):(gd s a && lt' (dp s a))=true:=by
 unfold tkBgn at h
 repeat' split at h
 all_goals first|assumption|(cases h;done)
theorem bgn4 {s:ByteArray}{a:Nat}(h:tkBgn s a=4):by8 s a=34:=by
 unfold tkBgn at h
 repeat' split at h
 all_goals first|assumption|(cases h;done)
theorem bgn5 {s:ByteArray}{a:Nat}(h:tkBgn s a=5):by8 s a=39:=by
 unfold tkBgn at h
 repeat' split at h
 all_goals first|assumption|(cases h;done)
theorem bgn7 {s:ByteArray}{a:Nat}(h:tkBgn s a=7):by8 s a=47∧a+1<s.size∧by8 s (a+1)=47:=by
 unfold tkBgn at h
 repeat' split at h
 all_goals first|assumption|(cases h;done)
theorem bgn8 {s:ByteArray}{a:Nat}(h:tkBgn s a=8):by8 s a=123:=by
 unfold tkBgn at h
 repeat' split at h
 all_goals first|assumption|(cases h;done)
theorem dg_asc {c:Nat}(h:tkDg c=true):48≤c∧c≤57:=by
 unfold tkDg at h
 simpa using h
structure JN (w0 W:World) (g:Nat) (s:ByteArray) (k a f:Nat) (l:List Tv) (x:Nat):Prop where
 ax:a≤x
 xs:x<s.size
 bx:bd s x
 rs:Rs w0 W g s x a f l
 on:∃m,run (gRow s a k) s.size x m=tkEnd s a k∧gRow s a k x m=.on (dw s x)
theorem JN.next {w0 W W':World}{g:Nat}{s:ByteArray}{k a f:Nat}{l:List Tv}{x:Nat}(h:JN w0 W g s k a f l x) (hr:Rs w0 W' g s (x+rsz s x) a f l) :
  ∃y,x<y∧a≤y∧y≤s.size∧bd s y∧Rs w0 W' g s y a f l∧∃m,run (gRow s a k) s.size y m=tkEnd s a k:=by
 obtain ⟨h1,h2,h3,h4,m,h5,h6⟩:=h
 obtain ⟨e1,e2⟩:=row_go h2 h5 h6
 have d:=(dw_facts s x h2).1
 rw [rsz_in h2] at hr
 exact ⟨x+dw s x,by omega,by omega,e1,bd_next h3 h2,hr,m+1,e2⟩
set_option maxHeartbeats 1000000 in
theorem num_any {w0 W:World}{g:Nat}{s:ByteArray}{a f:Nat}{l:List Tv}(h:Rs w0 W g s a a f l) (hs:s.size≤2147483647) (ha:a<s.size) (hb:bd s a) (hk:tkBgn s a=3) (hl:l.length≤1000000000) :
  Calls Tryz.prog 48 #[.pointer (some ⟨g,0,none⟩)] W fun e w'=>e=.returned (.int .i64 ((tkEnd s a 3).2:Nat))∧TP w0 w' g s 3 a f l:=by
 have hd:=bgn3 hk
 have hd2:=dg_asc hd
 have hE:tkEnd s a 3=run (gRow s a 3) s.size a 0:=by unfold tkEnd;simp
 have hw:=(chr_asc s a (by omega)).1
 have hJ0:JN w0 W g s 3 a f l a:=⟨Nat.le_refl _,ha,hb,h,0,hE.symm,row_on ha (by rintro (⟨h,_⟩|⟨_,h⟩);cases h;rw [hd] at h;cases h) (by omega)⟩
 have HT:Hid (∀V x,JN w0 V g s 3 a f l x→Calls Tryz.prog 85 #[.pointer (some ⟨g,0,none⟩)] V fun e w'=>e=.returned (.tuple #[])∧∃y,x<y∧a≤y∧y≤s.size∧bd s y∧Rs w0 w' g s y a f l∧∃m,run (gRow s a 3) s.size y m=tkEnd s a 3):=fun V x hx=>by
  refine (take_any hx.rs hs (Nat.le_of_lt hx.xs)).mono ?_
  rintro e w' ⟨rfl,hr⟩
  exact ⟨rfl,hx.next hr⟩
 have HD:Hid (∀p V,Calls Tryz.prog 47 #[.int .i32 p] V fun e w'=>e=.returned (.bool (decide (48≤p) && decide (p≤57)))∧w'=V):=isDigit_any
 have HP:Hid (∀V y,Rs w0 V g s y a f l→a≤y→y≤s.size→(Calls Tryz.prog 87 #[.pointer (some ⟨g,0,none⟩),.int .u8 3] V fun e w'=>e=.returned (.int .i64 0)∧Rs w0 w' g s y a 0 (l++[tv s (tkTok s 3 a y f)]))∧(Calls Tryz.prog 89 #[.pointer (some ⟨g,0,none⟩)] V fun e w'=>e=.returned (.bool (decide (65535<y+rsz s y-a)))∧Rs w0 w' g s y a f l)):=fun V y hr h1 h2=>by
  constructor
  ·exact tell_any hr 3 hs h1 h2 hl (by intro h;cases h)
  ·obtain ⟨h1',h2',v,h3,h4⟩:=hr
   refine (isFull_any h3 hs h1 h2 (by by_cases e:y<s.size;rw [rsz_in e];exact (dw_facts s y e).2.1;rw [rsz_out (by omega)];omega)).mono ?_
   rintro e w' ⟨rfl,hb⟩
   exact ⟨rfl,Rq.below ⟨h1',h2',v,h3,h4⟩ hb⟩
 have HC:Hid (∀V y,Rs w0 V g s y a f l→V.cell? ⟨g,2,none⟩=some (.int .i32 (rpt s y))):=fun V y hr=>by
  obtain ⟨h1',h2',v,h3,h4⟩:=hr
  exact (Rq.cells h3).2.2.1
 have c2:=HC.out _ _ h
 have q0:(decide (48≤rpt s a) && decide (rpt s a≤57))=true:=by rw [digit_pt,decide_eq_true ha,hd];rfl
 have HJ0:Hid (JN w0 W g s 3 a f l a):=hJ0
 have HD0:Hid (Calls Tryz.prog 47 #[.int .i32 (rpt s a)] W fun e w'=>e=.returned (.bool true)∧w'=W):=by rw [←q0];exact isDigit_any _ _
 clear hd hd2 hE hw hJ0 h hk q0
 go_enter Tryz.func48,Tryz.ntmps48
 go_wp2_with fail
 refine wp_scope_jumps 0 (fun a' w'=>∃(x:Nat) (u1 u2 u3 u4 u5 u6 u7 u8 u9 u10 u11 u12 u13 u14 u15 u16 u17 u18 u19 u20 u21 u22 u23 u24 u25 u26 u27 u28 u29 u30 u31 u32 u33 u34 u35 u36 u37 u38:Value),Hid (JN w0 w' g s 3 a f l x)∧a'={ tmps:=#[.pointer (some ⟨g,0,none⟩),u1,u2,u3,u4,u5,u6,u7,u8,u9,u10,u11,u12,u13,u14,u15,u16,u17,u18,u19,u20,u21,u22,u23,u24,u25,u26,u27,u28,u29,u30,u31,u32,u33,u34,u35,u36,u37,u38],defers:=[] }) (fun _ w'=>s.size-cntAt w' g 1) rfl ?_ ?_
 ·go_wp2_with (first|(go_at_call 47;refine HD0.out.mono ?_;rintro e w1 ⟨rfl,hw⟩;replace hw:=hw.symm;subst hw))
  go_step3
  exact ⟨rfl,a,_,_,_,_,_,_,_,_,_,_,_,_,_,_,_,_,_,_,_,_,_,_,_,_,_,_,_,_,_,_,_,_,_,_,_,_,_,_,HJ0,rfl⟩
 ·rintro a' w' ⟨x,u1,u2,u3,u4,u5,u6,u7,u8,u9,u10,u11,u12,u13,u14,u15,u16,u17,u18,u19,u20,u21,u22,u23,u24,u25,u26,u27,u28,u29,u30,u31,u32,u33,u34,u35,u36,u37,u38,HJ,rfl⟩
  have HX:Hid (cntAt w' g 1=x∧x<s.size):=⟨HJ.out.rs.at,HJ.out.xs⟩
  go_wp2_with fail
  refine (HT.out _ _ HJ.out).mono ?_
  rintro e w1 ⟨rfl,y,y1,y2,y3,y4,y5,m,y6⟩
  have z2:=HC.out _ _ y5
  obtain ⟨t1,t2⟩:=HP.out _ _ y5 y2 y3
  have HY:Hid (Rs w0 w1 g s y a f l∧bd s y∧run (gRow s a 3) s.size y m=tkEnd s a 3):=⟨y5,y4,y6⟩
  clear HJ y5 y4 y6 c2
  by_cases hc:(decide (48≤rpt s y) && decide (rpt s y≤57))=true
  ·have HDy:Hid (Calls Tryz.prog 47 #[.int .i32 (rpt s y)] w1 fun e w'=>e=.returned (.bool true)∧w'=w1):=by rw [←hc];exact isDigit_any _ _
   have hc2:=hc
   rw [digit_pt,Bool.and_eq_true,decide_eq_true_eq] at hc2
   obtain ⟨d1,d2⟩:=hc2
   have HN:Hid (¬((3=1∧(gd s y && pr' (dp s y))=false)∨((3:Nat)=3∧tkDg (by8 s y)=false))):=by
    show ¬_
    rintro (⟨h,_⟩|⟨_,h⟩)
    ·cases h
    ·rw [d2] at h;cases h
   have HF2:Hid (Calls Tryz.prog 89 #[.pointer (some ⟨g,0,none⟩)] w1 fun e w'=>e=.returned (.bool (decide (65535<y+rsz s y-a)))∧Rs w0 w' g s y a f l):=t2
   rw [rsz_in d1] at HF2
   clear hc t1 t2
   by_cases hf:65535<y+dw s y-a
   ·have HE:Hid (tkEnd s a 3=(a,103)):=row_full d1 HY.out.2.2 HN.out hf
    rw [decide_eq_true hf] at HF2
    clear hf
    go_wp2_with (first|(go_at_call 47;refine HDy.out.mono ?_;rintro e w2 ⟨rfl,hw⟩;replace hw:=hw.symm;subst hw)|(go_at_call 89;refine HF2.out.mono ?_;rintro e w3 ⟨rfl,hr3⟩))
    simp only [Exit.jump]
    go_ret
    rw [HE.out]
    exact ⟨rfl,TP.bad HE.out (by decide) HY.out.2.1 y2 hr3 (by intro h;cases h)⟩
   ·have HO:Hid (gRow s a 3 y m=.on (dw s y)):=row_on d1 HN.out hf
    rw [decide_eq_false hf] at HF2
    clear hf
    go_wp2_with (first|(go_at_call 47;refine HDy.out.mono ?_;rintro e w2 ⟨rfl,hw⟩;replace hw:=hw.symm;subst hw)|(go_at_call 89;refine HF2.out.mono ?_;rintro e w3 ⟨rfl,hr3⟩))
    go_step3
    refine ⟨rfl,⟨y,_,_,_,_,_,_,_,_,_,_,_,_,_,_,_,_,_,_,_,_,_,_,_,_,_,_,_,_,_,_,_,_,_,_,_,_,_,_,⟨y2,d1,HY.out.2.1,hr3,m,HY.out.2.2,HO.out⟩,rfl⟩,?_⟩
    rw [HX.out.1,hr3.at]
    have:=HX.out.2
    omega
  ·have hc1:(decide (48≤rpt s y) && decide (rpt s y≤57))=false:=by simpa using hc
   have HDy:Hid (Calls Tryz.prog 47 #[.int .i32 (rpt s y)] w1 fun e w'=>e=.returned (.bool false)∧w'=w1):=by rw [←hc1];exact isDigit_any _ _
   have HE:Hid (tkEnd s a 3=(y,0)):=by
    refine row_stop y3 HY.out.2.2 ?_
    rw [digit_pt] at hc1
    by_cases e:y<s.size
    ·rw [decide_eq_true e,Bool.true_and] at hc1;exact .inr (.inr ⟨rfl,hc1⟩)
    ·exact .inl (by omega)
   have HTl:Hid (Calls Tryz.prog 87 #[.pointer (some ⟨g,0,none⟩),.int .u8 3] w1 fun e w'=>e=.returned (.int .i64 0)∧Rs w0 w' g s y a 0 (l++[tv s (tkTok s 3 a y f)])):=t1
   clear hc hc1 t1 t2
   go_wp2_with (first|(go_at_call 47;refine HDy.out.mono ?_;rintro e w2 ⟨rfl,hw⟩;replace hw:=hw.symm;subst hw)|(go_at_call 87;refine HTl.out.mono ?_;rintro e w3 ⟨rfl,hr3⟩))
   simp only [Exit.jump]
   go_ret
   rw [HE.out]
   exact ⟨rfl,TP.ok HE.out hr3⟩
set_option maxHeartbeats 2000000 in
theorem name_any {w0 W:World}{g:Nat}{s:ByteArray}{a f:Nat}{l:List Tv}(hK:Kab w0) (h:Rs w0 W g s a a f l) (hs:s.size≤2147483647) (ha:a<s.size) (hb:bd s a) (hk:tkBgn s a=1) (hl:l.length≤1000000000) :
  Calls Tryz.prog 48 #[.pointer (some ⟨g,0,none⟩)] W fun e w'=>e=.returned (.int .i64 ((tkEnd s a 1).2:Nat))∧TP w0 w' g s 1 a f l:=by
 have hd:=bgn1 hk
 have hE:tkEnd s a 1=run (gRow s a 1) s.size a 0:=by unfold tkEnd;simp
 obtain ⟨hw1,hw2,hw3⟩:=dw_facts s a ha
 have hd3:(gd s a && pr' (dp s a))=true:=by
  rw [Bool.and_eq_true] at hd ⊢
  exact ⟨hd.1,pr_of_lt hd.2⟩
 have HJ:Hid (JN w0 W g s 1 a f l a):=⟨Nat.le_refl _,ha,hb,h,0,hE.symm,row_on ha (by rintro (⟨_,h⟩|⟨h,_⟩);rw [hd3] at h;cases h;cases h) (by omega)⟩
 have HT:Hid (∀V x,JN w0 V g s 1 a f l x→Calls Tryz.prog 85 #[.pointer (some ⟨g,0,none⟩)] V fun e w'=>e=.returned (.tuple #[])∧∃y,x<y∧a≤y∧y≤s.size∧bd s y∧Rs w0 w' g s y a f l∧∃m,run (gRow s a 1) s.size y m=tkEnd s a 1):=fun V x hx=>by
  refine (take_any hx.rs hs (Nat.le_of_lt hx.xs)).mono ?_
  rintro e w' ⟨rfl,hr⟩
  exact ⟨rfl,hx.next hr⟩
 have HFl:Hid (∀V y,Rs w0 V g s y a f l→a≤y→y≤s.size→Calls Tryz.prog 89 #[.pointer (some ⟨g,0,none⟩)] V fun e w'=>e=.returned (.bool (decide (65535<y+rsz s y-a)))∧Rs w0 w' g s y a f l):=fun V y hr h1 h2=>by
  obtain ⟨h1',h2',v,h3,h4⟩:=hr
  refine (isFull_any h3 hs h1 h2 (by by_cases e:y<s.size;rw [rsz_in e];exact (dw_facts s y e).2.1;rw [rsz_out (by omega)];omega)).mono ?_
  rintro e w' ⟨rfl,hb⟩
  exact ⟨rfl,Rq.below ⟨h1',h2',v,h3,h4⟩ hb⟩
 have HC:Hid (∀V y,Rs w0 V g s y a f l→V.cell? ⟨g,2,none⟩=some (.int .i32 (rpt s y))):=fun V y hr=>by
  obtain ⟨h1',h2',v,h3,h4⟩:=hr
  exact (Rq.cells h3).2.2.1
 have c2:=HC.out _ _ h
 have hdg:(decide (48≤rpt s a) && decide (rpt s a≤57))=false:=by
  cases e:(decide (48≤rpt s a) && decide (rpt s a≤57)) with
  |false=>rfl
  |true=>
   exfalso
   rw [rpt_in ha,Bool.and_eq_true,decide_eq_true_eq,decide_eq_true_eq] at e
   rw [Bool.and_eq_true] at hd
   have h2:=of_decide_eq_true hd.2
   unfold ltr at h2
   omega
 have HD0:Hid (Calls Tryz.prog 47 #[.int .i32 (rpt s a)] W fun e w'=>e=.returned (.bool false)∧w'=W):=by rw [←hdg];exact isDigit_any _ _
 clear hd hE hw1 hw2 hw3 hd3 h hk hdg
 go_enter Tryz.func48,Tryz.ntmps48
 go_wp2_with fail
 refine wp_scope_jumps 1 (fun a' w'=>∃(x:Nat) (u1 u2 u3 u4 u5 u6 u7 u8 u9 u10 u11 u12 u13 u14 u15 u16 u17 u18 u19 u20 u21 u22 u23 u24 u25 u26 u27 u28 u29 u30 u31 u32 u33 u34 u35 u36 u37 u38:Value),Hid (JN w0 w' g s 1 a f l x)∧a'={ tmps:=#[.pointer (some ⟨g,0,none⟩),u1,u2,u3,u4,u5,u6,u7,u8,u9,u10,u11,u12,u13,u14,u15,u16,u17,u18,u19,u20,u21,u22,u23,u24,u25,u26,u27,u28,u29,u30,u31,u32,u33,u34,u35,u36,u37,u38],defers:=[] }) (fun _ w'=>s.size-cntAt w' g 1) rfl ?_ ?_
 ·go_wp2_with (first|(go_at_call 47;refine HD0.out.mono ?_;rintro e w1 ⟨rfl,hw⟩;replace hw:=hw.symm;subst hw))
  go_step3
  clear c2
  go_wp2_with fail
  refine (HT.out _ _ HJ.out).mono ?_
  rintro e w1 ⟨rfl,y,y1,y2,y3,y4,y5,m,y6⟩
  have z2:=HC.out _ _ y5
  have hfl:=HFl.out _ _ y5 y2 y3
  have HY:Hid (Rs w0 w1 g s y a f l∧bd s y∧run (gRow s a 1) s.size y m=tkEnd s a 1):=⟨y5,y4,y6⟩
  have rg:=rpt_rng s y
  have hwr:IntKind.i64.wrap (rpt s y)=rpt s y:=by rw [IntKind.wrap_i64];omega
  have HPt:Hid (Calls Tryz.prog 57 #[.int .i64 (rpt s y)] w1 fun e w'=>e=.returned (.bool (pr' (rpt s y)))∧w'=w1):=part_any _ _ (hK.below y5.bel).1
  have hpp:=part_pt s y
  clear HJ y5 y4 y6
  by_cases hc:pr' (rpt s y)=true
  ·rw [hc] at HPt
   rw [hc] at hpp
   obtain ⟨d1,d2⟩:y<s.size∧(gd s y && pr' (dp s y))=true:=by rw [eq_comm,Bool.and_eq_true,decide_eq_true_eq] at hpp;exact hpp
   have HN:Hid (¬(((1:Nat)=1∧(gd s y && pr' (dp s y))=false)∨(1=3∧tkDg (by8 s y)=false))):=by
    show ¬_
    rintro (⟨_,h⟩|⟨h,_⟩)
    ·rw [d2] at h;cases h
    ·cases h
   have HF2:Hid (Calls Tryz.prog 89 #[.pointer (some ⟨g,0,none⟩)] w1 fun e w'=>e=.returned (.bool (decide (65535<y+rsz s y-a)))∧Rs w0 w' g s y a f l):=hfl
   rw [rsz_in d1] at HF2
   clear hc hfl hpp d2
   by_cases hf:65535<y+dw s y-a
   ·have HE:Hid (tkEnd s a 1=(a,103)):=row_full d1 HY.out.2.2 HN.out hf
    rw [decide_eq_true hf] at HF2
    clear hf
    go_wp2_with (first|(go_at_call 57;refine HPt.out.mono ?_;rintro e w2 ⟨rfl,hw⟩;replace hw:=hw.symm;subst hw)|(go_at_call 89;refine HF2.out.mono ?_;rintro e w3 ⟨rfl,hr3⟩))
    simp only [Exit.jump]
    go_ret
    rw [HE.out]
    exact ⟨rfl,TP.bad HE.out (by decide) HY.out.2.1 y2 hr3 (by intro h;cases h)⟩
   ·have HO:Hid (gRow s a 1 y m=.on (dw s y)):=row_on d1 HN.out hf
    rw [decide_eq_false hf] at HF2
    clear hf
    go_wp2_with (first|(go_at_call 57;refine HPt.out.mono ?_;rintro e w2 ⟨rfl,hw⟩;replace hw:=hw.symm;subst hw)|(go_at_call 89;refine HF2.out.mono ?_;rintro e w3 ⟨rfl,hr3⟩))
    go_step3
    refine ⟨rfl,y,_,_,_,_,_,_,_,_,_,_,_,_,_,_,_,_,_,_,_,_,_,_,_,_,_,_,_,_,_,_,_,_,_,_,_,_,_,_,⟨y2,d1,HY.out.2.1,hr3,m,HY.out.2.2,HO.out⟩,rfl⟩
  ·have hc1:pr' (rpt s y)=false:=by simpa using hc
   rw [hc1] at HPt
   have HE:Hid (tkEnd s a 1=(y,0)):=by
    refine row_stop y3 HY.out.2.2 ?_
    rw [hc1] at hpp
    by_cases e:y<s.size
    ·rw [decide_eq_true e,Bool.true_and] at hpp;exact .inr (.inl ⟨rfl,hpp.symm⟩)
    ·exact .inl (by omega)
   have hKw:=hK.below HY.out.1.bel
   obtain ⟨kd,hkd⟩:∃kd:Nat,(if ky (s.extract a y)=true then 2 else 1)=kd:=⟨_,rfl⟩
   have HWk:Hid (Calls Tryz.prog 88 #[.pointer (some ⟨g,0,none⟩)] w1 fun e w'=>e=.returned (.int .u8 kd)∧Rs w0 w' g s y a f l):=by
    obtain ⟨h1',h2',v,h3,h4⟩:=HY.out.1
    refine (wordKind_any h3 hKw hs y2 y3).mono ?_
    rintro e w' ⟨rfl,hb⟩
    refine ⟨?_,Rq.below ⟨h1',h2',v,h3,h4⟩ hb⟩
    rw [←hkd];split <;> rfl
   have HTl:Hid (∀V,Rs w0 V g s y a f l→Calls Tryz.prog 87 #[.pointer (some ⟨g,0,none⟩),.int .u8 kd] V fun e w'=>e=.returned (.int .i64 0)∧Rs w0 w' g s y a 0 (l++[tv s (tkTok s 1 a y f)])):=fun V hV=>by
    have:=tell_any hV kd hs y2 y3 hl (by intro h;rw [←hkd] at h;split at h <;> cases h)
    have e7:(if kd=7 then tkTrim s y else y)=y:=if_neg (by rw [←hkd];split <;> decide)
    rw [e7] at this
    have e8:tkTok s 1 a y f=⟨kd,a,y,f⟩:=by
     unfold tkTok
     rw [←hkd]
     congr 1
     by_cases e:ky (s.extract a y)=true
     ·rw [if_pos ⟨rfl,e⟩,if_pos e]
     ·rw [if_neg (fun h=>e h.2),if_neg e]
    rw [e8]
    exact this
   clear hc hc1 hfl hpp hKw hkd
   go_wp2_with (first|(go_at_call 57;refine HPt.out.mono ?_;rintro e w2 ⟨rfl,hw⟩;replace hw:=hw.symm;subst hw)|(go_at_call 88;refine HWk.out.mono ?_;rintro e w4 ⟨rfl,hr4⟩)|(go_at_call 87;refine (HTl.out _ hr4).mono ?_;rintro e w3 ⟨rfl,hr3⟩))
   simp only [Exit.jump]
   go_ret
   rw [HE.out]
   exact ⟨rfl,TP.ok HE.out hr3⟩
 ·rintro a' w' ⟨x,u1,u2,u3,u4,u5,u6,u7,u8,u9,u10,u11,u12,u13,u14,u15,u16,u17,u18,u19,u20,u21,u22,u23,u24,u25,u26,u27,u28,u29,u30,u31,u32,u33,u34,u35,u36,u37,u38,HJ,rfl⟩
  have HX:Hid (cntAt w' g 1=x∧x<s.size):=⟨HJ.out.rs.at,HJ.out.xs⟩
  go_wp2_with fail
  refine (HT.out _ _ HJ.out).mono ?_
  rintro e w1 ⟨rfl,y,y1,y2,y3,y4,y5,m,y6⟩
  have z2:=HC.out _ _ y5
  have hfl:=HFl.out _ _ y5 y2 y3
  have HY:Hid (Rs w0 w1 g s y a f l∧bd s y∧run (gRow s a 1) s.size y m=tkEnd s a 1):=⟨y5,y4,y6⟩
  have rg:=rpt_rng s y
  have hwr:IntKind.i64.wrap (rpt s y)=rpt s y:=by rw [IntKind.wrap_i64];omega
  have HPt:Hid (Calls Tryz.prog 57 #[.int .i64 (rpt s y)] w1 fun e w'=>e=.returned (.bool (pr' (rpt s y)))∧w'=w1):=part_any _ _ (hK.below y5.bel).1
  have hpp:=part_pt s y
  clear HJ y5 y4 y6
  by_cases hc:pr' (rpt s y)=true
  ·rw [hc] at HPt
   rw [hc] at hpp
   obtain ⟨d1,d2⟩:y<s.size∧(gd s y && pr' (dp s y))=true:=by rw [eq_comm,Bool.and_eq_true,decide_eq_true_eq] at hpp;exact hpp
   have HN:Hid (¬(((1:Nat)=1∧(gd s y && pr' (dp s y))=false)∨(1=3∧tkDg (by8 s y)=false))):=by
    show ¬_
    rintro (⟨_,h⟩|⟨h,_⟩)
    ·rw [d2] at h;cases h
    ·cases h
   have HF2:Hid (Calls Tryz.prog 89 #[.pointer (some ⟨g,0,none⟩)] w1 fun e w'=>e=.returned (.bool (decide (65535<y+rsz s y-a)))∧Rs w0 w' g s y a f l):=hfl
   rw [rsz_in d1] at HF2
   clear hc hfl hpp d2
   by_cases hf:65535<y+dw s y-a
   ·have HE:Hid (tkEnd s a 1=(a,103)):=row_full d1 HY.out.2.2 HN.out hf
    rw [decide_eq_true hf] at HF2
    clear hf
    go_wp2_with (first|(go_at_call 57;refine HPt.out.mono ?_;rintro e w2 ⟨rfl,hw⟩;replace hw:=hw.symm;subst hw)|(go_at_call 89;refine HF2.out.mono ?_;rintro e w3 ⟨rfl,hr3⟩))
    simp only [Exit.jump]
    go_ret
    rw [HE.out]
    exact ⟨rfl,TP.bad HE.out (by decide) HY.out.2.1 y2 hr3 (by intro h;cases h)⟩
   ·have HO:Hid (gRow s a 1 y m=.on (dw s y)):=row_on d1 HN.out hf
    rw [decide_eq_false hf] at HF2
    clear hf
    go_wp2_with (first|(go_at_call 57;refine HPt.out.mono ?_;rintro e w2 ⟨rfl,hw⟩;replace hw:=hw.symm;subst hw)|(go_at_call 89;refine HF2.out.mono ?_;rintro e w3 ⟨rfl,hr3⟩))
    go_step3
    refine ⟨rfl,⟨y,_,_,_,_,_,_,_,_,_,_,_,_,_,_,_,_,_,_,_,_,_,_,_,_,_,_,_,_,_,_,_,_,_,_,_,_,_,_,⟨y2,d1,HY.out.2.1,hr3,m,HY.out.2.2,HO.out⟩,rfl⟩,?_⟩
    rw [HX.out.1,hr3.at]
    have:=HX.out.2
    omega
  ·have hc1:pr' (rpt s y)=false:=by simpa using hc
   rw [hc1] at HPt
   have HE:Hid (tkEnd s a 1=(y,0)):=by
    refine row_stop y3 HY.out.2.2 ?_
    rw [hc1] at hpp
    by_cases e:y<s.size
    ·rw [decide_eq_true e,Bool.true_and] at hpp;exact .inr (.inl ⟨rfl,hpp.symm⟩)
    ·exact .inl (by omega)
   have hKw:=hK.below HY.out.1.bel
   obtain ⟨kd,hkd⟩:∃kd:Nat,(if ky (s.extract a y)=true then 2 else 1)=kd:=⟨_,rfl⟩
   have HWk:Hid (Calls Tryz.prog 88 #[.pointer (some ⟨g,0,none⟩)] w1 fun e w'=>e=.returned (.int .u8 kd)∧Rs w0 w' g s y a f l):=by
    obtain ⟨h1',h2',v,h3,h4⟩:=HY.out.1
    refine (wordKind_any h3 hKw hs y2 y3).mono ?_
    rintro e w' ⟨rfl,hb⟩
    refine ⟨?_,Rq.below ⟨h1',h2',v,h3,h4⟩ hb⟩
    rw [←hkd];split <;> rfl
   have HTl:Hid (∀V,Rs w0 V g s y a f l→Calls Tryz.prog 87 #[.pointer (some ⟨g,0,none⟩),.int .u8 kd] V fun e w'=>e=.returned (.int .i64 0)∧Rs w0 w' g s y a 0 (l++[tv s (tkTok s 1 a y f)])):=fun V hV=>by
    have:=tell_any hV kd hs y2 y3 hl (by intro h;rw [←hkd] at h;split at h <;> cases h)
    have e7:(if kd=7 then tkTrim s y else y)=y:=if_neg (by rw [←hkd];split <;> decide)
    rw [e7] at this
    have e8:tkTok s 1 a y f=⟨kd,a,y,f⟩:=by
     unfold tkTok
     rw [←hkd]
     congr 1
     by_cases e:ky (s.extract a y)=true
     ·rw [if_pos ⟨rfl,e⟩,if_pos e]
     ·rw [if_neg (fun h=>e h.2),if_neg e]
    rw [e8]
    exact this
   clear hc hc1 hfl hpp hKw hkd
   go_wp2_with (first|(go_at_call 57;refine HPt.out.mono ?_;rintro e w2 ⟨rfl,hw⟩;replace hw:=hw.symm;subst hw)|(go_at_call 88;refine HWk.out.mono ?_;rintro e w4 ⟨rfl,hr4⟩)|(go_at_call 87;refine (HTl.out _ hr4).mono ?_;rintro e w3 ⟨rfl,hr3⟩))
   simp only [Exit.jump]
   go_ret
   rw [HE.out]
   exact ⟨rfl,TP.ok HE.out hr3⟩
end Go.Proofs.YtkigadnkclkopaaGreatDoor.Lx
