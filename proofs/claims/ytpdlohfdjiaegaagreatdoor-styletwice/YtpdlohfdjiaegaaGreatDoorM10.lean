import Derived.Test.YtpdlohfdjiaegaaGreatDoorM09
set_option linter.unusedVariables false
set_option linter.unusedSimpArgs false
set_option maxHeartbeats 4000000
set_option maxRecDepth 100000
namespace Go.Proofs.YtpdlohfdjiaegaaGreatDoor.Lx
open Go.RowKit
variable {w0 W W':World}{g a f x:Nat}{s:ByteArray}{l:List Tv}
structure JQ (w0 W:World) (g:Nat) (s:ByteArray) (a f:Nat) (l:List Tv) (x:Nat):Prop where
 ax:a<=x
 xs:x<s.size
 bx:bd s x
 rs:Rs w0 W g s x a f l
 on:∃m,run (bH s a 34 false) s.size (x+dw s x) m=ah s a 4
theorem JQ.next (h:JQ w0 W g s a f l x) (hr:Rs w0 W' g s (x+rsz s x) a f l) :
  ∃y,x<y/\a<=y/\y<=s.size/\bd s y/\Rs w0 W' g s y a f l/\∃m,run (bH s a 34 false) s.size y m=ah s a 4:=by
 obtain ⟨h1,h2,h3,h4,m,h5⟩:=h;obtain ⟨d,_,d2⟩:=aG s x h2;rw [bh h2] at hr;exact ⟨x+dw s x,by omega,by omega,d2,fR h3 h2,hr,m,h5⟩
theorem ua (h:Rs w0 W g s a a f l) (hs:s.size<=2147483647) (ha:a<s.size) (hb:bd s a) (hk:ag s a=4) (hl:l.length<=1000000000) :
  Da 89 #[.pointer (some ⟨g,0,none⟩)] W fun e w'=>e=.returned (.int .i64 ((ah s a 4).2:Nat))/\TP w0 w' g s 4 a f l:=by
 have hd:=Cq hk;have hE:ah s a 4=run (bH s a 34 false) s.size (a+1) 0:=by unfold ah;simp
 have hw:=(aM s a (by omega)).1;have HJ:Hid (JQ w0 W g s a f l a):=⟨Nat.le_refl _,ha,hb,h,0,by rw [hw];exact hE.symm⟩
 have HT:Hid (∀V x,JQ w0 V g s a f l x->Da 133 #[.pointer (some ⟨g,0,none⟩)] V fun e w'=>e=.returned (.tuple #[])/\∃y,x<y/\a<=y/\y<=s.size/\bd s y/\Rs w0 w' g s y a f l/\∃m,run (bH s a 34 false) s.size y m=ah s a 4):=fun V x hx=>by
  refine (bD hx.rs hs (Nat.le_of_lt hx.xs)).mono ?_;rintro e w' ⟨rfl,hr⟩;exact ⟨rfl,hx.next hr⟩
 have HFl:Hid (∀V y,Rs w0 V g s y a f l->a<=y->y<=s.size->Da 138 #[.pointer (some ⟨g,0,none⟩)] V fun e w'=>e=.returned (.bool (decide (65535<y+rsz s y-a)))/\Rs w0 w' g s y a f l):=fun V y hr h1 h2=>by
  obtain ⟨h1',h2',v,h3,h4⟩:=hr;refine (dO h3 hs h1 h2 (by by_cases e:y<s.size;rw [bh e];exact (aG s y e).2.1;rw [dZ (by omega)];omega)).mono ?_;rintro e w' ⟨rfl,hb⟩;exact ⟨rfl,Rq.below ⟨h1',h2',v,h3,h4⟩ hb⟩
 have HC:Hid (∀V y,Rs w0 V g s y a f l->V.cell? ⟨g,2,none⟩=some (.int .i32 (rpt s y))):=fun V y hr=>by
  obtain ⟨h1',h2',v,h3,h4⟩:=hr;exact (Rq.cells h3).2.2.1
 have c2:=HC.out _ _ h;rw [(aQ s a 34 (by decide) ha).2 hd] at c2;clear hd hE hw h hk
 go_enter Tryz.func89,Tryz.ntmps89
 go_wp2_with fail
 refine wp_scope_jumps 1 (fun a' w'=>∃(x:Nat) (u1 u2 u3 u4 u5 u6 u7 u8 u9 u10 u11 u12 u13 u14 u15 u16 u17 u18 u19 u20 u21 u22 u23 u24 u25 u26 u27 u28 u29 u30 u31 u32 u33 u34 u35 u36 u37 u38 u39 u40 u41 u42 u43 u44 u45 u46 u47 u48 u49 u50 u51 u52 u53 u54 u55 u56 u57 u58 u59 u60 u61 u62 u63 u64 u65 u66 u67 u68 u69 u70 u71 u72 u73:Value),Hid (JQ w0 w' g s a f l x)/\a'={ tmps:=#[.pointer (some ⟨g,0,none⟩),u1,u2,u3,u4,u5,u6,u7,u8,u9,u10,u11,u12,u13,u14,u15,u16,u17,u18,u19,u20,u21,u22,u23,u24,u25,u26,u27,u28,u29,u30,u31,u32,u33,u34,u35,u36,u37,u38,u39,u40,u41,u42,u43,u44,u45,u46,u47,u48,u49,u50,u51,u52,u53,u54,u55,u56,u57,u58,u59,u60,u61,u62,u63,u64,u65,u66,u67,u68,u69,u70,u71,u72,u73],defers:=[] }) (fun _ w'=>s.size-dR w' g 1) rfl ?_ ?_
 ·go_wp2_with fail
  go_step3
  clear c2
  go_wp2_with fail
  refine (HT.out _ _ HJ.out).mono ?_;rintro e w1 ⟨rfl,y,y1,y2,y3,y4,y5,m,y6⟩;have z2:=HC.out _ _ y5;have hfl:=HFl.out _ _ y5 y2 y3;have HY:Hid (Rs w0 w1 g s y a f l/\bd s y/\run (bH s a 34 false) s.size y m=ah s a 4):=⟨y5,y4,y6⟩;have hel:=bJ (rpt s y) w1;clear HJ y5 y4 y6
  by_cases hc:s.size<=y\/by8 s y=10
  ·have e1:(decide (rpt s y=10) || decide (rpt s y=-1))=true:=by
    rw [Bool.or_eq_true,decide_eq_true_eq,decide_eq_true_eq]
    rcases hc with h|h
    ·exact .inr ((bB s y).2 h)
    ·by_cases e:y<s.size
     ·exact .inl ((aQ s y 10 (by decide) e).2 h)
     ·exact .inr ((bB s y).2 (by omega))
   rw [e1] at hel;have HEl:Hid (Da 139 #[.int .i32 (rpt s y)] w1 fun e w'=>e=.returned (.bool true)/\w'=w1):=hel;have HE:Hid (ah s a 4=(a,101)):=gy y3 HY.out.2.2 hc;clear hel e1 hc hfl
   go_wp2_with (first|(go_at_call 139;refine HEl.out.mono ?_;rintro e w2 ⟨rfl,hw⟩;replace hw:=hw.symm;subst hw))
   simp only [Exit.jump]
   go_ret
   rw [HE.out];exact ⟨rfl,TP.bad HE.out (by decide) HY.out.2.1 y2 HY.out.1 (by intro h;cases h)⟩
  ·obtain ⟨d1,d2⟩:y<s.size/\by8 s y≠10:=⟨by omega,fun h=>hc (.inr h)⟩
   have e1:(decide (rpt s y=10) || decide (rpt s y=-1))=false:=by
    rw [Bool.or_eq_false_iff,decide_eq_false_iff_not,decide_eq_false_iff_not];exact ⟨fun h=>d2 ((aQ s y 10 (by decide) d1).1 h),fun h=>by have:=(bB s y).1 h;omega⟩
   rw [e1] at hel;have HEl:Hid (Da 139 #[.int .i32 (rpt s y)] w1 fun e w'=>e=.returned (.bool false)/\w'=w1):=hel;have HF2:Hid (Da 138 #[.pointer (some ⟨g,0,none⟩)] w1 fun e w'=>e=.returned (.bool (decide (65535<y+rsz s y-a)))/\Rs w0 w' g s y a f l):=hfl;rw [bh d1] at HF2;clear hc hfl e1 hel
   by_cases hf:65535<y+dw s y-a
   ·have HE:Hid (ah s a 4=(a,103)):=m8 d1 HY.out.2.2 d2 hf;rw [decide_eq_true hf] at HF2;clear hf
    go_wp2_with (first|(go_at_call 139;refine HEl.out.mono ?_;rintro e w2 ⟨rfl,hw⟩;replace hw:=hw.symm;subst hw)|(go_at_call 138;refine HF2.out.mono ?_;rintro e w3 ⟨rfl,hr3⟩;have z3:=HC.out _ _ hr3))
    simp only [Exit.jump]
    go_ret
    rw [HE.out];exact ⟨rfl,TP.bad HE.out (by decide) HY.out.2.1 y2 hr3 (by intro h;cases h)⟩
   ·rw [decide_eq_false hf] at HF2;have hct:=pI s y d1
    by_cases hb:df s y=true
    ·have HCt:Hid (∀V,Da 140 #[.int .i32 (rpt s y)] V fun e w'=>e=.returned (.bool true)/\w'=V):=fun V=>by
      rw [<-hb,<-hct];exact bU _ _
     have HE:Hid (ah s a 4=(y,102)):=by
      refine ep d1 HY.out.2.2 d2 hf ?_ (.inl hb);rintro ⟨h,_⟩;unfold df at hb;rw [(aM s y (by omega)).2.1,h] at hb;rw [Bool.and_eq_true] at hb;exact absurd hb.2 (by decide)
     clear hf hb hct
     go_wp2_with (first|(go_at_call 139;refine HEl.out.mono ?_;rintro e w2 ⟨rfl,hw⟩;replace hw:=hw.symm;subst hw)|(go_at_call 138;refine HF2.out.mono ?_;rintro e w3 ⟨rfl,hr3⟩;have z3:=HC.out _ _ hr3)|(go_at_call 140;refine (HCt.out _).mono ?_;rintro e w4 ⟨rfl,hw⟩;replace hw:=hw.symm;subst hw))
     simp only [Exit.jump]
     go_ret
     rw [HE.out];exact ⟨rfl,TP.bad HE.out (by decide) HY.out.2.1 y2 hr3 (fun _=>rfl)⟩
    ·have hb1:df s y=false:=by simpa using hb
     have HCt:Hid (∀V,Da 140 #[.int .i32 (rpt s y)] V fun e w'=>e=.returned (.bool false)/\w'=V):=fun V=>by
      rw [<-hb1,<-hct];exact bU _ _
     by_cases hq:by8 s y=34
     ·have HE:Hid (ah s a 4=(y+1,0)):=lB d1 HY.out.2.2 d2 hf ⟨hq,.inl rfl⟩;have q34:rpt s y=34:=(aQ s y 34 (by decide) d1).2 hq;have hw1:=(aM s y (by omega)).1
      have HT2:Hid (∀V,Rs w0 V g s y a f l->Da 133 #[.pointer (some ⟨g,0,none⟩)] V fun e w'=>e=.returned (.tuple #[])/\Rs w0 w' g s (y+1) a f l):=fun V hV=>by
       have:=bD hV hs y3;rw [bh d1,hw1] at this;exact this
      have HTl:Hid (∀V,Rs w0 V g s (y+1) a f l->Da 136 #[.pointer (some ⟨g,0,none⟩),.int .u8 4] V fun e w'=>e=.returned (.int .i64 0)/\Rs w0 w' g s (y+1) a 0 (l++[tv s (bI s 4 a (y+1) f)])):=fun V hV=>bS hV 4 hs (by omega) (by omega) hl (by intro h;cases h)
      rw [q34] at HCt HEl;clear hf hb hb1 hct hq hw1
      go_wp2_with (first|(go_at_call 139;refine HEl.out.mono ?_;rintro e w2 ⟨rfl,hw⟩;replace hw:=hw.symm;subst hw)|(go_at_call 138;refine HF2.out.mono ?_;rintro e w3 ⟨rfl,hr3⟩;have z3:=HC.out _ _ hr3;rw [q34] at z3)|(go_at_call 140;refine (HCt.out _).mono ?_;rintro e w4 ⟨rfl,hw⟩;replace hw:=hw.symm;subst hw)|(go_at_call 133;refine (HT2.out _ hr3).mono ?_;rintro e w5 ⟨rfl,hr5⟩)|(go_at_call 136;refine (HTl.out _ hr5).mono ?_;rintro e w6 ⟨rfl,hr6⟩))
      simp only [Exit.jump]
      go_ret
      rw [HE.out];exact ⟨rfl,TP.ok HE.out hr6⟩
     ·have q34:(rpt s y != 34)=true:=by
       rw [bne_iff_ne];exact fun h=>hq ((aQ s y 34 (by decide) d1).1 h)
      have HO:Hid (run (bH s a 34 false) s.size (y+dw s y) (m+1)=ah s a 4):=jA d1 HY.out.2.2 d2 hf (fun h=>hq h.1) (by rintro (h|h);exact hb h;cases h.1);clear hf hb hb1 hct hq
      go_wp2_with (first|(go_at_call 139;refine HEl.out.mono ?_;rintro e w2 ⟨rfl,hw⟩;replace hw:=hw.symm;subst hw)|(go_at_call 138;refine HF2.out.mono ?_;rintro e w3 ⟨rfl,hr3⟩;have z3:=HC.out _ _ hr3)|(go_at_call 140;refine (HCt.out _).mono ?_;rintro e w4 ⟨rfl,hw⟩;replace hw:=hw.symm;subst hw))
      go_step3
      refine ⟨rfl,y,_,_,_,_,_,_,_,_,_,_,_,_,_,_,_,_,_,_,_,_,_,_,_,_,_,_,_,_,_,_,_,_,_,_,_,_,_,_,_,_,_,_,_,_,_,_,_,_,_,_,_,_,_,_,_,_,_,_,_,_,_,_,_,_,_,_,_,_,_,_,_,_,_,⟨y2,d1,HY.out.2.1,hr3,m+1,HO.out⟩,rfl⟩
 ·rintro a' w' ⟨x,u1,u2,u3,u4,u5,u6,u7,u8,u9,u10,u11,u12,u13,u14,u15,u16,u17,u18,u19,u20,u21,u22,u23,u24,u25,u26,u27,u28,u29,u30,u31,u32,u33,u34,u35,u36,u37,u38,u39,u40,u41,u42,u43,u44,u45,u46,u47,u48,u49,u50,u51,u52,u53,u54,u55,u56,u57,u58,u59,u60,u61,u62,u63,u64,u65,u66,u67,u68,u69,u70,u71,u72,u73,HJ,rfl⟩;have HX:Hid (dR w' g 1=x/\x<s.size):=⟨HJ.out.rs.at,HJ.out.xs⟩;clear c2
  go_wp2_with fail
  refine (HT.out _ _ HJ.out).mono ?_;rintro e w1 ⟨rfl,y,y1,y2,y3,y4,y5,m,y6⟩;have z2:=HC.out _ _ y5;have hfl:=HFl.out _ _ y5 y2 y3;have HY:Hid (Rs w0 w1 g s y a f l/\bd s y/\run (bH s a 34 false) s.size y m=ah s a 4):=⟨y5,y4,y6⟩;have hel:=bJ (rpt s y) w1;clear HJ y5 y4 y6
  by_cases hc:s.size<=y\/by8 s y=10
  ·have e1:(decide (rpt s y=10) || decide (rpt s y=-1))=true:=by
    rw [Bool.or_eq_true,decide_eq_true_eq,decide_eq_true_eq]
    rcases hc with h|h
    ·exact .inr ((bB s y).2 h)
    ·by_cases e:y<s.size
     ·exact .inl ((aQ s y 10 (by decide) e).2 h)
     ·exact .inr ((bB s y).2 (by omega))
   rw [e1] at hel;have HEl:Hid (Da 139 #[.int .i32 (rpt s y)] w1 fun e w'=>e=.returned (.bool true)/\w'=w1):=hel;have HE:Hid (ah s a 4=(a,101)):=gy y3 HY.out.2.2 hc;clear hel e1 hc hfl
   go_wp2_with (first|(go_at_call 139;refine HEl.out.mono ?_;rintro e w2 ⟨rfl,hw⟩;replace hw:=hw.symm;subst hw))
   simp only [Exit.jump]
   go_ret
   rw [HE.out];exact ⟨rfl,TP.bad HE.out (by decide) HY.out.2.1 y2 HY.out.1 (by intro h;cases h)⟩
  ·obtain ⟨d1,d2⟩:y<s.size/\by8 s y≠10:=⟨by omega,fun h=>hc (.inr h)⟩
   have e1:(decide (rpt s y=10) || decide (rpt s y=-1))=false:=by
    rw [Bool.or_eq_false_iff,decide_eq_false_iff_not,decide_eq_false_iff_not];exact ⟨fun h=>d2 ((aQ s y 10 (by decide) d1).1 h),fun h=>by have:=(bB s y).1 h;omega⟩
   rw [e1] at hel;have HEl:Hid (Da 139 #[.int .i32 (rpt s y)] w1 fun e w'=>e=.returned (.bool false)/\w'=w1):=hel;have HF2:Hid (Da 138 #[.pointer (some ⟨g,0,none⟩)] w1 fun e w'=>e=.returned (.bool (decide (65535<y+rsz s y-a)))/\Rs w0 w' g s y a f l):=hfl;rw [bh d1] at HF2;clear hc hfl e1 hel
   by_cases hf:65535<y+dw s y-a
   ·have HE:Hid (ah s a 4=(a,103)):=m8 d1 HY.out.2.2 d2 hf;rw [decide_eq_true hf] at HF2;clear hf
    go_wp2_with (first|(go_at_call 139;refine HEl.out.mono ?_;rintro e w2 ⟨rfl,hw⟩;replace hw:=hw.symm;subst hw)|(go_at_call 138;refine HF2.out.mono ?_;rintro e w3 ⟨rfl,hr3⟩;have z3:=HC.out _ _ hr3))
    simp only [Exit.jump]
    go_ret
    rw [HE.out];exact ⟨rfl,TP.bad HE.out (by decide) HY.out.2.1 y2 hr3 (by intro h;cases h)⟩
   ·rw [decide_eq_false hf] at HF2;have hct:=pI s y d1
    by_cases hb:df s y=true
    ·have HCt:Hid (∀V,Da 140 #[.int .i32 (rpt s y)] V fun e w'=>e=.returned (.bool true)/\w'=V):=fun V=>by
      rw [<-hb,<-hct];exact bU _ _
     have HE:Hid (ah s a 4=(y,102)):=by
      refine ep d1 HY.out.2.2 d2 hf ?_ (.inl hb);rintro ⟨h,_⟩;unfold df at hb;rw [(aM s y (by omega)).2.1,h] at hb;rw [Bool.and_eq_true] at hb;exact absurd hb.2 (by decide)
     clear hf hb hct
     go_wp2_with (first|(go_at_call 139;refine HEl.out.mono ?_;rintro e w2 ⟨rfl,hw⟩;replace hw:=hw.symm;subst hw)|(go_at_call 138;refine HF2.out.mono ?_;rintro e w3 ⟨rfl,hr3⟩;have z3:=HC.out _ _ hr3)|(go_at_call 140;refine (HCt.out _).mono ?_;rintro e w4 ⟨rfl,hw⟩;replace hw:=hw.symm;subst hw))
     simp only [Exit.jump]
     go_ret
     rw [HE.out];exact ⟨rfl,TP.bad HE.out (by decide) HY.out.2.1 y2 hr3 (fun _=>rfl)⟩
    ·have hb1:df s y=false:=by simpa using hb
     have HCt:Hid (∀V,Da 140 #[.int .i32 (rpt s y)] V fun e w'=>e=.returned (.bool false)/\w'=V):=fun V=>by
      rw [<-hb1,<-hct];exact bU _ _
     by_cases hq:by8 s y=34
     ·have HE:Hid (ah s a 4=(y+1,0)):=lB d1 HY.out.2.2 d2 hf ⟨hq,.inl rfl⟩;have q34:rpt s y=34:=(aQ s y 34 (by decide) d1).2 hq;have hw1:=(aM s y (by omega)).1
      have HT2:Hid (∀V,Rs w0 V g s y a f l->Da 133 #[.pointer (some ⟨g,0,none⟩)] V fun e w'=>e=.returned (.tuple #[])/\Rs w0 w' g s (y+1) a f l):=fun V hV=>by
       have:=bD hV hs y3;rw [bh d1,hw1] at this;exact this
      have HTl:Hid (∀V,Rs w0 V g s (y+1) a f l->Da 136 #[.pointer (some ⟨g,0,none⟩),.int .u8 4] V fun e w'=>e=.returned (.int .i64 0)/\Rs w0 w' g s (y+1) a 0 (l++[tv s (bI s 4 a (y+1) f)])):=fun V hV=>bS hV 4 hs (by omega) (by omega) hl (by intro h;cases h)
      rw [q34] at HCt HEl;clear hf hb hb1 hct hq hw1
      go_wp2_with (first|(go_at_call 139;refine HEl.out.mono ?_;rintro e w2 ⟨rfl,hw⟩;replace hw:=hw.symm;subst hw)|(go_at_call 138;refine HF2.out.mono ?_;rintro e w3 ⟨rfl,hr3⟩;have z3:=HC.out _ _ hr3;rw [q34] at z3)|(go_at_call 140;refine (HCt.out _).mono ?_;rintro e w4 ⟨rfl,hw⟩;replace hw:=hw.symm;subst hw)|(go_at_call 133;refine (HT2.out _ hr3).mono ?_;rintro e w5 ⟨rfl,hr5⟩)|(go_at_call 136;refine (HTl.out _ hr5).mono ?_;rintro e w6 ⟨rfl,hr6⟩))
      simp only [Exit.jump]
      go_ret
      rw [HE.out];exact ⟨rfl,TP.ok HE.out hr6⟩
     ·have q34:(rpt s y != 34)=true:=by
       rw [bne_iff_ne];exact fun h=>hq ((aQ s y 34 (by decide) d1).1 h)
      have HO:Hid (run (bH s a 34 false) s.size (y+dw s y) (m+1)=ah s a 4):=jA d1 HY.out.2.2 d2 hf (fun h=>hq h.1) (by rintro (h|h);exact hb h;cases h.1);clear hf hb hb1 hct hq
      go_wp2_with (first|(go_at_call 139;refine HEl.out.mono ?_;rintro e w2 ⟨rfl,hw⟩;replace hw:=hw.symm;subst hw)|(go_at_call 138;refine HF2.out.mono ?_;rintro e w3 ⟨rfl,hr3⟩;have z3:=HC.out _ _ hr3)|(go_at_call 140;refine (HCt.out _).mono ?_;rintro e w4 ⟨rfl,hw⟩;replace hw:=hw.symm;subst hw))
      go_step3
      refine ⟨rfl,⟨y,_,_,_,_,_,_,_,_,_,_,_,_,_,_,_,_,_,_,_,_,_,_,_,_,_,_,_,_,_,_,_,_,_,_,_,_,_,_,_,_,_,_,_,_,_,_,_,_,_,_,_,_,_,_,_,_,_,_,_,_,_,_,_,_,_,_,_,_,_,_,_,_,_,⟨y2,d1,HY.out.2.1,hr3,m+1,HO.out⟩,rfl⟩,?_⟩;rw [HX.out.1,hr3.at];have:=HX.out.2;omega
structure JC (w0 W:World) (g:Nat) (s:ByteArray) (o:Bool) (k a f:Nat) (l:List Tv) (x:Nat):Prop where
 ax:a<=x
 xs:x<s.size
 bx:bd s x
 rs:Rs w0 W g s x a f l
 h10:o=false->by8 s x≠10
 h125:o=true->by8 s x≠125
 ful:x+dw s x-a<=65535
 on:∃m,run (aV s a o) s.size x m=ah s a k
theorem JC.next {o:Bool}{k:Nat}(h:JC w0 W g s o k a f l x) (hr:Rs w0 W' g s (x+rsz s x) a f l) :
  ∃y,x<y/\a<y/\y<=s.size/\y-a<=65535/\bd s y/\Rs w0 W' g s y a f l/\∃m,run (aV s a o) s.size y m=ah s a k:=by
 obtain ⟨h1,h2,h3,h4,h5,h6,h7,m,h8⟩:=h;obtain ⟨d,_,d2⟩:=aG s x h2;rw [bh h2] at hr;exact ⟨x+dw s x,by omega,by omega,d2,h7,fR h3 h2,hr,_,Bg m h2 h5 h6 h7 h8⟩
theorem vE (h:Rs w0 W g s a a f l) (hs:s.size<=2147483647) (ha:a<s.size) (hb:bd s a) (hk:ag s a=7) (hl:l.length<=1000000000) :
  Da 91 #[.pointer (some ⟨g,0,none⟩)] W fun e w'=>e=.returned (.int .i64 ((ah s a 7).2:Nat))/\TP w0 w' g s 7 a f l:=by
 have hd:by8 s a=47:=(Bu hk).1;have hE:ah s a 7=run (aV s a false) s.size a 0:=by unfold ah;simp
 have hw:=(aM s a (by omega)).1;have hbl:bV (by8 s a)=false:=by rw [hd];decide
 have HJ:Hid (JC w0 W g s false 7 a f l a):=⟨Nat.le_refl _,ha,hb,h,fun _=>by omega,fun _=>by omega,by omega,0,hE.symm⟩
 have HT:Hid (∀V x,JC w0 V g s false 7 a f l x->Da 133 #[.pointer (some ⟨g,0,none⟩)] V fun e w'=>e=.returned (.tuple #[])/\∃y,x<y/\a<y/\y<=s.size/\y-a<=65535/\bd s y/\Rs w0 w' g s y a f l/\∃m,run (aV s a false) s.size y m=ah s a 7):=fun V x hx=>by
  refine (bD hx.rs hs (Nat.le_of_lt hx.xs)).mono ?_;rintro e w' ⟨rfl,hr⟩;exact ⟨rfl,hx.next hr⟩
 have HFl:Hid (∀V y,Rs w0 V g s y a f l->a<=y->y<=s.size->Da 138 #[.pointer (some ⟨g,0,none⟩)] V fun e w'=>e=.returned (.bool (decide (65535<y+rsz s y-a)))/\Rs w0 w' g s y a f l):=fun V y hr h1 h2=>by
  obtain ⟨h1',h2',v,h3,h4⟩:=hr;refine (dO h3 hs h1 h2 (by by_cases e:y<s.size;rw [bh e];exact (aG s y e).2.1;rw [dZ (by omega)];omega)).mono ?_;rintro e w' ⟨rfl,hb⟩;exact ⟨rfl,Rq.below ⟨h1',h2',v,h3,h4⟩ hb⟩
 have HC:Hid (∀V y,Rs w0 V g s y a f l->V.cell? ⟨g,2,none⟩=some (.int .i32 (rpt s y))):=fun V y hr=>by
  obtain ⟨h1',h2',v,h3,h4⟩:=hr;exact (Rq.cells h3).2.2.1
 have c2:=HC.out _ _ h;rw [(aQ s a 47 (by decide) ha).2 hd] at c2;clear hd hE hw h hk
 go_enter Tryz.func91,Tryz.ntmps91
 go_wp2_with fail
 refine wp_scope_jumps 1 (fun a' w'=>∃(x:Nat) (u1 u2 u3 u4 u5 u6 u7 u8 u9 u10 u11 u12 u13 u14 u15 u16 u17 u18 u19 u20 u21 u22 u23 u24 u25 u26 u27 u28 u29 u30 u31 u32 u33 u34 u35 u36 u37 u38 u39 u40 u41:Value),Hid (JC w0 w' g s false 7 a f l x)/\a'={ tmps:=#[.pointer (some ⟨g,0,none⟩),u1,u2,u3,u4,u5,u6,u7,u8,u9,u10,u11,u12,u13,u14,u15,u16,u17,u18,u19,u20,u21,u22,u23,u24,u25,u26,u27,u28,u29,u30,u31,u32,u33,u34,u35,u36,u37,u38,u39,u40,u41],defers:=[] }) (fun _ w'=>s.size-dR w' g 1) rfl ?_ ?_
 ·go_wp2_with fail
  go_step3
  clear c2
  go_wp2_with fail
  refine (HT.out _ _ HJ.out).mono ?_;rintro e w1 ⟨rfl,y,y1,y2,y3,yb,y4,y5,m,y6⟩;have z2:=HC.out _ _ y5;have hfl:=HFl.out _ _ y5 (Nat.le_of_lt y2) y3;have HY:Hid (Rs w0 w1 g s y a f l/\bd s y/\run (aV s a false) s.size y m=ah s a 7):=⟨y5,y4,y6⟩;have hel:=bJ (rpt s y) w1;clear HJ y5 y4 y6
  by_cases hc:s.size<=y\/by8 s y=10
  ·have e1:(decide (rpt s y=10) || decide (rpt s y=-1))=true:=by
    rw [Bool.or_eq_true,decide_eq_true_eq,decide_eq_true_eq]
    rcases hc with h|h
    ·exact .inr ((bB s y).2 h)
    ·by_cases e:y<s.size
     ·exact .inl ((aQ s y 10 (by decide) e).2 h)
     ·exact .inr ((bB s y).2 (by omega))
   rw [e1] at hel;have HEl:Hid (Da 139 #[.int .i32 (rpt s y)] w1 fun e w'=>e=.returned (.bool true)/\w'=w1):=hel;have HE:Hid (ah s a 7=(y,0)):=ol y3 HY.out.2.2 hc;have HTl:Hid (Da 136 #[.pointer (some ⟨g,0,none⟩),.int .u8 7] w1 fun e w'=>e=.returned (.int .i64 0)/\Rs w0 w' g s y a 0 (l++[tv s (bI s 7 a y f)])):=bS HY.out.1 7 hs (Nat.le_of_lt y2) y3 hl (fun _=>⟨y2,hbl⟩);clear hel e1 hc hfl
   go_wp2_with (first|(go_at_call 139;refine HEl.out.mono ?_;rintro e w2 ⟨rfl,hw⟩;replace hw:=hw.symm;subst hw)|(go_at_call 136;refine HTl.out.mono ?_;rintro e w6 ⟨rfl,hr6⟩))
   simp only [Exit.jump]
   go_ret
   rw [HE.out];exact ⟨rfl,TP.ok HE.out hr6⟩
  ·obtain ⟨d1,d2⟩:y<s.size/\by8 s y≠10:=⟨by omega,fun h=>hc (.inr h)⟩
   have e1:(decide (rpt s y=10) || decide (rpt s y=-1))=false:=by
    rw [Bool.or_eq_false_iff,decide_eq_false_iff_not,decide_eq_false_iff_not];exact ⟨fun h=>d2 ((aQ s y 10 (by decide) d1).1 h),fun h=>by have:=(bB s y).1 h;omega⟩
   rw [e1] at hel;have HEl:Hid (Da 139 #[.int .i32 (rpt s y)] w1 fun e w'=>e=.returned (.bool false)/\w'=w1):=hel;have HF2:Hid (Da 138 #[.pointer (some ⟨g,0,none⟩)] w1 fun e w'=>e=.returned (.bool (decide (65535<y+rsz s y-a)))/\Rs w0 w' g s y a f l):=hfl;rw [bh d1] at HF2;clear hc hfl e1 hel
   by_cases hf:65535<y+dw s y-a
   ·have HE:Hid (ah s a 7=(a,103)):=j5 m d1 (fun _=>d2) (Nat.le_of_lt y2) yb hf HY.out.2.2;rw [decide_eq_true hf] at HF2;clear hf
    go_wp2_with (first|(go_at_call 139;refine HEl.out.mono ?_;rintro e w2 ⟨rfl,hw⟩;replace hw:=hw.symm;subst hw)|(go_at_call 138;refine HF2.out.mono ?_;rintro e w3 ⟨rfl,hr3⟩;have z3:=HC.out _ _ hr3))
    simp only [Exit.jump]
    go_ret
    rw [HE.out];exact ⟨rfl,TP.bad HE.out (by decide) HY.out.2.1 (Nat.le_of_lt y2) hr3 (by intro h;cases h)⟩
   ·have HO:Hid (y+dw s y-a<=65535):=by show _<=_;omega
    rw [decide_eq_false hf] at HF2;clear hf
    go_wp2_with (first|(go_at_call 139;refine HEl.out.mono ?_;rintro e w2 ⟨rfl,hw⟩;replace hw:=hw.symm;subst hw)|(go_at_call 138;refine HF2.out.mono ?_;rintro e w3 ⟨rfl,hr3⟩;have z3:=HC.out _ _ hr3))
    go_step3
    refine ⟨rfl,y,_,_,_,_,_,_,_,_,_,_,_,_,_,_,_,_,_,_,_,_,_,_,_,_,_,_,_,_,_,_,_,_,_,_,_,_,_,_,_,_,_,⟨Nat.le_of_lt y2,d1,HY.out.2.1,hr3,fun _=>d2,fun h=>(by cases h),HO.out,m,HY.out.2.2⟩,rfl⟩
 ·rintro a' w' ⟨x,u1,u2,u3,u4,u5,u6,u7,u8,u9,u10,u11,u12,u13,u14,u15,u16,u17,u18,u19,u20,u21,u22,u23,u24,u25,u26,u27,u28,u29,u30,u31,u32,u33,u34,u35,u36,u37,u38,u39,u40,u41,HJ,rfl⟩;have HX:Hid (dR w' g 1=x/\x<s.size):=⟨HJ.out.rs.at,HJ.out.xs⟩;clear c2
  go_wp2_with fail
  refine (HT.out _ _ HJ.out).mono ?_;rintro e w1 ⟨rfl,y,y1,y2,y3,yb,y4,y5,m,y6⟩;have z2:=HC.out _ _ y5;have hfl:=HFl.out _ _ y5 (Nat.le_of_lt y2) y3;have HY:Hid (Rs w0 w1 g s y a f l/\bd s y/\run (aV s a false) s.size y m=ah s a 7):=⟨y5,y4,y6⟩;have hel:=bJ (rpt s y) w1;clear HJ y5 y4 y6
  by_cases hc:s.size<=y\/by8 s y=10
  ·have e1:(decide (rpt s y=10) || decide (rpt s y=-1))=true:=by
    rw [Bool.or_eq_true,decide_eq_true_eq,decide_eq_true_eq]
    rcases hc with h|h
    ·exact .inr ((bB s y).2 h)
    ·by_cases e:y<s.size
     ·exact .inl ((aQ s y 10 (by decide) e).2 h)
     ·exact .inr ((bB s y).2 (by omega))
   rw [e1] at hel;have HEl:Hid (Da 139 #[.int .i32 (rpt s y)] w1 fun e w'=>e=.returned (.bool true)/\w'=w1):=hel;have HE:Hid (ah s a 7=(y,0)):=ol y3 HY.out.2.2 hc;have HTl:Hid (Da 136 #[.pointer (some ⟨g,0,none⟩),.int .u8 7] w1 fun e w'=>e=.returned (.int .i64 0)/\Rs w0 w' g s y a 0 (l++[tv s (bI s 7 a y f)])):=bS HY.out.1 7 hs (Nat.le_of_lt y2) y3 hl (fun _=>⟨y2,hbl⟩);clear hel e1 hc hfl
   go_wp2_with (first|(go_at_call 139;refine HEl.out.mono ?_;rintro e w2 ⟨rfl,hw⟩;replace hw:=hw.symm;subst hw)|(go_at_call 136;refine HTl.out.mono ?_;rintro e w6 ⟨rfl,hr6⟩))
   simp only [Exit.jump]
   go_ret
   rw [HE.out];exact ⟨rfl,TP.ok HE.out hr6⟩
  ·obtain ⟨d1,d2⟩:y<s.size/\by8 s y≠10:=⟨by omega,fun h=>hc (.inr h)⟩
   have e1:(decide (rpt s y=10) || decide (rpt s y=-1))=false:=by
    rw [Bool.or_eq_false_iff,decide_eq_false_iff_not,decide_eq_false_iff_not];exact ⟨fun h=>d2 ((aQ s y 10 (by decide) d1).1 h),fun h=>by have:=(bB s y).1 h;omega⟩
   rw [e1] at hel;have HEl:Hid (Da 139 #[.int .i32 (rpt s y)] w1 fun e w'=>e=.returned (.bool false)/\w'=w1):=hel;have HF2:Hid (Da 138 #[.pointer (some ⟨g,0,none⟩)] w1 fun e w'=>e=.returned (.bool (decide (65535<y+rsz s y-a)))/\Rs w0 w' g s y a f l):=hfl;rw [bh d1] at HF2;clear hc hfl e1 hel
   by_cases hf:65535<y+dw s y-a
   ·have HE:Hid (ah s a 7=(a,103)):=j5 m d1 (fun _=>d2) (Nat.le_of_lt y2) yb hf HY.out.2.2;rw [decide_eq_true hf] at HF2;clear hf
    go_wp2_with (first|(go_at_call 139;refine HEl.out.mono ?_;rintro e w2 ⟨rfl,hw⟩;replace hw:=hw.symm;subst hw)|(go_at_call 138;refine HF2.out.mono ?_;rintro e w3 ⟨rfl,hr3⟩;have z3:=HC.out _ _ hr3))
    simp only [Exit.jump]
    go_ret
    rw [HE.out];exact ⟨rfl,TP.bad HE.out (by decide) HY.out.2.1 (Nat.le_of_lt y2) hr3 (by intro h;cases h)⟩
   ·have HO:Hid (y+dw s y-a<=65535):=by show _<=_;omega
    rw [decide_eq_false hf] at HF2;clear hf
    go_wp2_with (first|(go_at_call 139;refine HEl.out.mono ?_;rintro e w2 ⟨rfl,hw⟩;replace hw:=hw.symm;subst hw)|(go_at_call 138;refine HF2.out.mono ?_;rintro e w3 ⟨rfl,hr3⟩;have z3:=HC.out _ _ hr3))
    go_step3
    refine ⟨rfl,⟨y,_,_,_,_,_,_,_,_,_,_,_,_,_,_,_,_,_,_,_,_,_,_,_,_,_,_,_,_,_,_,_,_,_,_,_,_,_,_,_,_,_,⟨Nat.le_of_lt y2,d1,HY.out.2.1,hr3,fun _=>d2,fun h=>(by cases h),HO.out,m,HY.out.2.2⟩,rfl⟩,?_⟩;rw [HX.out.1,hr3.at];have this:=HX.out.2;omega
theorem tK (h:Rs w0 W g s a a f l) (hs:s.size<=2147483647) (ha:a<s.size) (hb:bd s a) (hk:ag s a=8) (hl:l.length<=1000000000) :
  Da 91 #[.pointer (some ⟨g,0,none⟩)] W fun e w'=>e=.returned (.int .i64 ((ah s a 8).2:Nat))/\TP w0 w' g s 8 a f l:=by
 have hd:by8 s a=123:=Co hk;have hE:ah s a 8=run (aV s a true) s.size a 0:=by unfold ah;simp
 have hw:=(aM s a (by omega)).1;have hbl:bV (by8 s a)=false:=by rw [hd];decide
 have HJ:Hid (JC w0 W g s true 8 a f l a):=⟨Nat.le_refl _,ha,hb,h,fun _=>by omega,fun _=>by omega,by omega,0,hE.symm⟩
 have HT:Hid (∀V x,JC w0 V g s true 8 a f l x->Da 133 #[.pointer (some ⟨g,0,none⟩)] V fun e w'=>e=.returned (.tuple #[])/\∃y,x<y/\a<y/\y<=s.size/\y-a<=65535/\bd s y/\Rs w0 w' g s y a f l/\∃m,run (aV s a true) s.size y m=ah s a 8):=fun V x hx=>by
  refine (bD hx.rs hs (Nat.le_of_lt hx.xs)).mono ?_;rintro e w' ⟨rfl,hr⟩;exact ⟨rfl,hx.next hr⟩
 have HFl:Hid (∀V y,Rs w0 V g s y a f l->a<=y->y<=s.size->Da 138 #[.pointer (some ⟨g,0,none⟩)] V fun e w'=>e=.returned (.bool (decide (65535<y+rsz s y-a)))/\Rs w0 w' g s y a f l):=fun V y hr h1 h2=>by
  obtain ⟨h1',h2',v,h3,h4⟩:=hr;refine (dO h3 hs h1 h2 (by by_cases e:y<s.size;rw [bh e];exact (aG s y e).2.1;rw [dZ (by omega)];omega)).mono ?_;rintro e w' ⟨rfl,hb⟩;exact ⟨rfl,Rq.below ⟨h1',h2',v,h3,h4⟩ hb⟩
 have HC:Hid (∀V y,Rs w0 V g s y a f l->V.cell? ⟨g,2,none⟩=some (.int .i32 (rpt s y))):=fun V y hr=>by
  obtain ⟨h1',h2',v,h3,h4⟩:=hr;exact (Rq.cells h3).2.2.1
 have c2:=HC.out _ _ h;rw [(aQ s a 123 (by decide) ha).2 hd] at c2;clear hd hE hw h hk
 go_enter Tryz.func91,Tryz.ntmps91
 go_wp2_with fail
 refine wp_scope_jumps 0 (fun a' w'=>∃(x:Nat) (u1 u2 u3 u4 u5 u6 u7 u8 u9 u10 u11 u12 u13 u14 u15 u16 u17 u18 u19 u20 u21 u22 u23 u24 u25 u26 u27 u28 u29 u30 u31 u32 u33 u34 u35 u36 u37 u38 u39 u40 u41:Value),Hid (JC w0 w' g s true 8 a f l x)/\a'={ tmps:=#[.pointer (some ⟨g,0,none⟩),u1,u2,u3,u4,u5,u6,u7,u8,u9,u10,u11,u12,u13,u14,u15,u16,u17,u18,u19,u20,u21,u22,u23,u24,u25,u26,u27,u28,u29,u30,u31,u32,u33,u34,u35,u36,u37,u38,u39,u40,u41],defers:=[] }) (fun _ w'=>s.size-dR w' g 1) rfl ?_ ?_
 ·go_wp2_with fail
  go_step3
  exact ⟨rfl,a,_,_,_,_,_,_,_,_,_,_,_,_,_,_,_,_,_,_,_,_,_,_,_,_,_,_,_,_,_,_,_,_,_,_,_,_,_,_,_,_,_,HJ,rfl⟩
 ·rintro a' w' ⟨x,u1,u2,u3,u4,u5,u6,u7,u8,u9,u10,u11,u12,u13,u14,u15,u16,u17,u18,u19,u20,u21,u22,u23,u24,u25,u26,u27,u28,u29,u30,u31,u32,u33,u34,u35,u36,u37,u38,u39,u40,u41,HJ,rfl⟩;have HX:Hid (dR w' g 1=x/\x<s.size):=⟨HJ.out.rs.at,HJ.out.xs⟩;clear c2
  go_wp2_with fail
  refine (HT.out _ _ HJ.out).mono ?_;rintro e w1 ⟨rfl,y,y1,y2,y3,yb,y4,y5,m,y6⟩;have z2:=HC.out _ _ y5;have hfl:=HFl.out _ _ y5 (Nat.le_of_lt y2) y3;have HY:Hid (Rs w0 w1 g s y a f l/\bd s y/\run (aV s a true) s.size y m=ah s a 8):=⟨y5,y4,y6⟩;clear HJ y5 y4 y6
  by_cases hc:s.size<=y
  ·rw [(bB s y).2 hc] at z2;have HE:Hid (ah s a 8=(a,101)):=wz y3 HY.out.2.2 hc;clear hc hfl
   go_wp2_with fail
   simp only [Exit.jump]
   go_ret
   rw [HE.out];exact ⟨rfl,TP.bad HE.out (by decide) HY.out.2.1 (Nat.le_of_lt y2) HY.out.1 (by intro h;cases h)⟩
  ·have d1:y<s.size:=by omega
   have e1:(rpt s y == -1)=false:=by rw [beq_eq_false_iff_ne];exact fun h=>hc ((bB s y).1 h)
   have HF2:Hid (Da 138 #[.pointer (some ⟨g,0,none⟩)] w1 fun e w'=>e=.returned (.bool (decide (65535<y+rsz s y-a)))/\Rs w0 w' g s y a f l):=hfl;rw [bh d1] at HF2;clear hc hfl
   by_cases hf:65535<y+dw s y-a
   ·have HE:Hid (ah s a 8=(a,103)):=j5 m d1 (by intro h;cases h) (Nat.le_of_lt y2) yb hf HY.out.2.2;rw [decide_eq_true hf] at HF2;clear hf
    go_wp2_with (first|(go_at_call 138;refine HF2.out.mono ?_;rintro e w3 ⟨rfl,hr3⟩;have z3:=HC.out _ _ hr3))
    simp only [Exit.jump]
    go_ret
    rw [HE.out];exact ⟨rfl,TP.bad HE.out (by decide) HY.out.2.1 (Nat.le_of_lt y2) hr3 (by intro h;cases h)⟩
   ·rw [decide_eq_false hf] at HF2
    by_cases hq:by8 s y=125
    ·have hw1:=(aM s y (by omega)).1;have HE:Hid (ah s a 8=(y+1,0)):=tA d1 HY.out.2.2 hq (by omega);have q34:rpt s y=125:=(aQ s y 125 (by decide) d1).2 hq
     have HT2:Hid (∀V,Rs w0 V g s y a f l->Da 133 #[.pointer (some ⟨g,0,none⟩)] V fun e w'=>e=.returned (.tuple #[])/\Rs w0 w' g s (y+1) a f l):=fun V hV=>by
      have:=bD hV hs y3;rw [bh d1,hw1] at this;exact this
     have HTl:Hid (∀V,Rs w0 V g s (y+1) a f l->Da 136 #[.pointer (some ⟨g,0,none⟩),.int .u8 8] V fun e w'=>e=.returned (.int .i64 0)/\Rs w0 w' g s (y+1) a 0 (l++[tv s (bI s 8 a (y+1) f)])):=fun V hV=>bS hV 8 hs (by omega) (by omega) hl (by intro h;cases h)
     rw [q34] at z2;clear hf hq hw1 e1
     go_wp2_with (first|(go_at_call 138;refine HF2.out.mono ?_;rintro e w3 ⟨rfl,hr3⟩;have z3:=HC.out _ _ hr3;rw [q34] at z3)|(go_at_call 133;refine (HT2.out _ hr3).mono ?_;rintro e w5 ⟨rfl,hr5⟩)|(go_at_call 136;refine (HTl.out _ hr5).mono ?_;rintro e w6 ⟨rfl,hr6⟩))
     simp only [Exit.jump]
     go_ret
     rw [HE.out];exact ⟨rfl,TP.ok HE.out hr6⟩
    ·have q34:(rpt s y != 125)=true:=by
      rw [bne_iff_ne];exact fun h=>hq ((aQ s y 125 (by decide) d1).1 h)
     have HO:Hid (y+dw s y-a<=65535/\by8 s y≠125):=⟨by omega,hq⟩;clear hf hq
     go_wp2_with (first|(go_at_call 138;refine HF2.out.mono ?_;rintro e w3 ⟨rfl,hr3⟩;have z3:=HC.out _ _ hr3))
     go_step3
     refine ⟨rfl,⟨y,_,_,_,_,_,_,_,_,_,_,_,_,_,_,_,_,_,_,_,_,_,_,_,_,_,_,_,_,_,_,_,_,_,_,_,_,_,_,_,_,_,⟨Nat.le_of_lt y2,d1,HY.out.2.1,hr3,fun h=>(by cases h),fun _=>HO.out.2,HO.out.1,m,HY.out.2.2⟩,rfl⟩,?_⟩;rw [HX.out.1,hr3.at];have this:=HX.out.2;omega
end Go.Proofs.YtpdlohfdjiaegaaGreatDoor.Lx
