import Derived.Test.YtjiepkenkcgkhaaGreatDoorM05
set_option linter.unusedVariables false
set_option linter.unusedSimpArgs false
set_option maxHeartbeats 4000000
set_option maxRecDepth 100000
namespace Go.Proofs.YtjiepkenkcgkhaaGreatDoor.Lx
open Go.RowKit
variable {s:ByteArray}{w0 W W':World}{g a f x y:Nat}{l:List Tv}
theorem Es (hK:nX w0) (h:Rs w0 W g s a a f l) (hs:s.size<=2147483647) (ha:a<s.size) (hb:bd s a) (hk:ak s a=1) (hl:l.length<=2147483647) :
  Ra 55 #[.pointer (some ⟨g,0,none⟩)] W fun e w'=>e=.returned (.int .i64 ((ap s a 1).2:Nat))/\TP w0 w' g s 1 a f l:=by
 have hd:=OR hk;have hE:ap s a 1=run (cf s a 1) s.size a 0:=by unfold ap;simp
 obtain ⟨hw1,hw2,hw3⟩:=aV s a ha
 have hd3:(gd s a && jC (dp s a))=true:=by
  rw [QR] at hd ⊢;exact ⟨hd.1,uJ hd.2⟩
 have HJ:Hid (JN w0 W g s 1 a f l a):=⟨gt _,ha,hb,h,0,hE.symm,rV ha (by rintro (⟨_,h⟩|⟨h,_⟩);rw [hd3] at h;cases h;cases h) (by omega)⟩
 have HT:Hid (∀V x,JN w0 V g s 1 a f l x->Ra 98 #[.pointer (some ⟨g,0,none⟩)] V fun e w'=>e=.returned (.tuple #[])/\∃y,x<y/\a<=y/\y<=s.size/\bd s y/\Rs w0 w' g s y a f l/\∃m,run (cf s a 1) s.size y m=ap s a 1):=fun V x hx=>by
  refine (co hx.rs hs (RO hx.xs)).mono ?_;rintro e w' ⟨rfl,hr⟩;exact ⟨rfl,hx.next hr⟩
 have HFl:Hid (∀V y,Rs w0 V g s y a f l->a<=y->y<=s.size->Ra 103 #[.pointer (some ⟨g,0,none⟩)] V fun e w'=>e=.returned (.bool (decide (65535<y+fe s y-a)))/\Rs w0 w' g s y a f l):=fun V y hr h1 h2=>by
  obtain ⟨h1',h2',v,h3,h4⟩:=hr;refine (fT h3 hs h1 h2 (by by_cases e:y<s.size;rw [ce e];exact (aV s y e).2.1;rw [gm (by omega)];omega)).mono ?_;rintro e w' ⟨rfl,hb⟩;exact ⟨rfl,Rq.below ⟨h1',h2',v,h3,h4⟩ hb⟩
 have HC:Hid (∀V y,Rs w0 V g s y a f l->V.cell? ⟨g,2,none⟩=some (.int .i32 (bf s y))):=fun V y hr=>by
  obtain ⟨h1',h2',v,h3,h4⟩:=hr;exact (Rq.cells h3).2.2.1
 have c2:=HC.out _ _ h
 have hdg:(decide (48<=bf s a) && decide (bf s a<=57))=false:=by
  cases e:(decide (48<=bf s a) && decide (bf s a<=57)) with
  |false=>rfl
  |true=>
   exfalso
   rw [gC ha,QR,Rj,Rj] at e;rw [QR] at hd;have h2:=Rm hd.2;unfold CA at h2;omega
 have HD0:Hid (Ra 54 #[.int .i32 (bf s a)] W fun e w'=>e=.returned (.bool false)/\w'=W):=by rw [<-hdg];exact bP _ _
 clear hd hE hw1 hw2 hw3 hd3 h hk hdg
 go_enter Tryz.func55,Tryz.ntmps55
 go_wp2_with fail
 refine Tl 1 (fun a' w'=>∃(x:Nat) (u1 u2 u3 u4 u5 u6 u7 u8 u9 u10 u11 u12 u13 u14 u15 u16 u17 u18 u19 u20 u21 u22 u23 u24 u25 u26 u27 u28 u29 u30 u31 u32 u33 u34 u35 u36 u37 u38:Value),Hid (JN w0 w' g s 1 a f l x)/\a'={ tmps:=#[.pointer (some ⟨g,0,none⟩),u1,u2,u3,u4,u5,u6,u7,u8,u9,u10,u11,u12,u13,u14,u15,u16,u17,u18,u19,u20,u21,u22,u23,u24,u25,u26,u27,u28,u29,u30,u31,u32,u33,u34,u35,u36,u37,u38],defers:=[] }) (fun _ w'=>s.size-fW w' g 1) rfl ?_ ?_
 rotate_left
 rintro a' w' ⟨x,u1,u2,u3,u4,u5,u6,u7,u8,u9,u10,u11,u12,u13,u14,u15,u16,u17,u18,u19,u20,u21,u22,u23,u24,u25,u26,u27,u28,u29,u30,u31,u32,u33,u34,u35,u36,u37,u38,HJ,rfl⟩;have HX:Hid (fW w' g 1=x/\x<s.size):=⟨HJ.out.rs.at,HJ.out.xs⟩
 rotate_left
 go_wp2_with (first|(go_at_call 54;refine HD0.out.mono ?_;rintro e w1 ⟨rfl,hw⟩;replace hw:=hw.symm;subst hw))
 go_step3
 clear c2
 all_goals (
  go_wp2_with fail
  refine (HT.out _ _ HJ.out).mono ?_;rintro e w1 ⟨rfl,y,y1,y2,y3,y4,y5,m,y6⟩;have z2:=HC.out _ _ y5;have hfl:=HFl.out _ _ y5 y2 y3;have HY:Hid (Rs w0 w1 g s y a f l/\bd s y/\run (cf s a 1) s.size y m=ap s a 1):=⟨y5,y4,y6⟩;have rg:=yI s y;have hwr:IntKind.i64.wrap (bf s y)=bf s y:=by rw [RA];omega
  have HPt:Hid (Ra 100 #[.int .i64 (bf s y)] w1 fun e w'=>e=.returned (.bool (jC (bf s y)))/\w'=w1):=D8 _ _ (hK.below y5.bel).1;have hpp:=IK s y;clear HJ y5 y4 y6
  by_cases hc:jC (bf s y)=true
  ·rw [hc] at HPt;rw [hc] at hpp;obtain ⟨d1,d2⟩:y<s.size/\(gd s y && jC (dp s y))=true:=by rw [eq_comm,QR,Rj] at hpp;exact hpp
   have HN:Hid (¬(((1:Nat)=1/\(gd s y && jC (dp s y))=false)\/(1=3/\cJ (ay s y)=false))):=by
    show ¬_
    rintro (⟨_,h⟩|⟨h,_⟩)
    ·rw [d2] at h;cases h
    ·cases h
   have HF2:Hid (Ra 103 #[.pointer (some ⟨g,0,none⟩)] w1 fun e w'=>e=.returned (.bool (decide (65535<y+fe s y-a)))/\Rs w0 w' g s y a f l):=hfl;rw [ce d1] at HF2;clear hc hfl hpp d2
   by_cases hf:65535<y+dw s y-a
   ·have HE:Hid (ap s a 1=(a,103)):=uz d1 HY.out.2.2 HN.out hf;rw [QW hf] at HF2;clear hf
    go_wp2_with (first|(go_at_call 100;refine HPt.out.mono ?_;rintro e w2 ⟨rfl,hw⟩;replace hw:=hw.symm;subst hw)|(go_at_call 103;refine HF2.out.mono ?_;rintro e w3 ⟨rfl,hr3⟩))
    simp only [Exit.jump]
    go_ret
    rw [HE.out];exact ⟨rfl,TP.bad HE.out (by decide) HY.out.2.1 y2 hr3 (by intro h;cases h)⟩
   ·have HO:Hid (cf s a 1 y m=.on (dw s y)):=rV d1 HN.out hf;rw [QX hf] at HF2;clear hf
    go_wp2_with (first|(go_at_call 100;refine HPt.out.mono ?_;rintro e w2 ⟨rfl,hw⟩;replace hw:=hw.symm;subst hw)|(go_at_call 103;refine HF2.out.mono ?_;rintro e w3 ⟨rfl,hr3⟩))
    go_step3
    refine ⟨rfl,?_⟩
    try refine ⟨?_,by rw [HX.out.1,hr3.at];have:=HX.out.2;omega⟩
    exact ⟨y,_,_,_,_,_,_,_,_,_,_,_,_,_,_,_,_,_,_,_,_,_,_,_,_,_,_,_,_,_,_,_,_,_,_,_,_,_,_,⟨y2,d1,HY.out.2.1,hr3,m,HY.out.2.2,HO.out⟩,rfl⟩
  ·have hc1:jC (bf s y)=false:=by simpa using hc
   rw [hc1] at HPt
   have HE:Hid (ap s a 1=(y,0)):=by
    refine uy y3 HY.out.2.2 ?_;rw [hc1] at hpp
    by_cases e:y<s.size
    ·rw [QW e,R4] at hpp;exact .inr (.inl ⟨rfl,hpp.symm⟩)
    ·exact .inl (by omega)
   have hKw:=hK.below HY.out.1.bel;obtain ⟨kd,hkd⟩:∃kd:Nat,(if ky (s.extract a y)=true then 2 else 1)=kd:=⟨_,rfl⟩
   have HWk:Hid (Ra 102 #[.pointer (some ⟨g,0,none⟩)] w1 fun e w'=>e=.returned (.int .u8 kd)/\Rs w0 w' g s y a f l):=by
    obtain ⟨h1',h2',v,h3,h4⟩:=HY.out.1;refine (rE h3 hKw hs y2 y3).mono ?_;rintro e w' ⟨rfl,hb⟩;refine ⟨?_,Rq.below ⟨h1',h2',v,h3,h4⟩ hb⟩;rw [<-hkd];split <;> rfl
   have HTl:Hid (∀V,Rs w0 V g s y a f l->Ra 101 #[.pointer (some ⟨g,0,none⟩),.int .u8 kd] V fun e w'=>e=.returned (.int .i64 0)/\Rs w0 w' g s y a 0 (l++[tv s (cM s 1 a y f)])):=fun V hV=>by
    have:=da hV kd hs y2 y3 hl (by intro h;rw [<-hkd] at h;split at h <;> cases h);have e7:(if kd=7 then aY s y else y)=y:=Eq (by rw [<-hkd];split <;> decide);rw [e7] at this
    have e8:cM s 1 a y f=⟨kd,a,y,f⟩:=by
     unfold cM;rw [<-hkd]
     congr 1
     by_cases e:ky (s.extract a y)=true
     ·rw [IO ⟨rfl,e⟩,IO e]
     ·rw [Eq (fun h=>e h.2),Eq e]
    rw [e8];exact this
   clear hc hc1 hfl hpp hKw hkd
   go_wp2_with (first|(go_at_call 100;refine HPt.out.mono ?_;rintro e w2 ⟨rfl,hw⟩;replace hw:=hw.symm;subst hw)|(go_at_call 102;refine HWk.out.mono ?_;rintro e w4 ⟨rfl,hr4⟩)|(go_at_call 101;refine (HTl.out _ hr4).mono ?_;rintro e w3 ⟨rfl,hr3⟩))
   simp only [Exit.jump]
   go_ret
   rw [HE.out];exact ⟨rfl,TP.ok HE.out hr3⟩)
structure JQ (w0 W:World) (g:Nat) (s:ByteArray) (a f:Nat) (l:List Tv) (x:Nat):Prop where
 ax:a<=x
 xs:x<s.size
 bx:bd s x
 rs:Rs w0 W g s x a f l
 on:∃m,run (cq s a 34 false) s.size (x+dw s x) m=ap s a 4
theorem JQ.next (h:JQ w0 W g s a f l x) (hr:Rs w0 W' g s (x+fe s x) a f l) :
  ∃y,x<y/\a<=y/\y<=s.size/\bd s y/\Rs w0 W' g s y a f l/\∃m,run (cq s a 34 false) s.size y m=ap s a 4:=by
 obtain ⟨h1,h2,h3,h4,m,h5⟩:=h;obtain ⟨d,_,d2⟩:=aV s x h2;rw [ce h2] at hr;exact ⟨x+dw s x,by omega,by omega,d2,jA h3 h2,hr,m,h5⟩
theorem CV (h:Rs w0 W g s a a f l) (hs:s.size<=2147483647) (ha:a<s.size) (hb:bd s a) (hk:ak s a=4) (hl:l.length<=2147483647) :
  Ra 56 #[.pointer (some ⟨g,0,none⟩)] W fun e w'=>e=.returned (.int .i64 ((ap s a 4).2:Nat))/\TP w0 w' g s 4 a f l:=by
 have hd:=OP hk;have hE:ap s a 4=run (cq s a 34 false) s.size (a+1) 0:=by unfold ap;simp
 have hw:=(bq s a (by omega)).1;have HJ:Hid (JQ w0 W g s a f l a):=⟨gt _,ha,hb,h,0,by rw [hw];exact hE.symm⟩
 have HT:Hid (∀V x,JQ w0 V g s a f l x->Ra 98 #[.pointer (some ⟨g,0,none⟩)] V fun e w'=>e=.returned (.tuple #[])/\∃y,x<y/\a<=y/\y<=s.size/\bd s y/\Rs w0 w' g s y a f l/\∃m,run (cq s a 34 false) s.size y m=ap s a 4):=fun V x hx=>by
  refine (co hx.rs hs (RO hx.xs)).mono ?_;rintro e w' ⟨rfl,hr⟩;exact ⟨rfl,hx.next hr⟩
 have HFl:Hid (∀V y,Rs w0 V g s y a f l->a<=y->y<=s.size->Ra 103 #[.pointer (some ⟨g,0,none⟩)] V fun e w'=>e=.returned (.bool (decide (65535<y+fe s y-a)))/\Rs w0 w' g s y a f l):=fun V y hr h1 h2=>by
  obtain ⟨h1',h2',v,h3,h4⟩:=hr;refine (fT h3 hs h1 h2 (by by_cases e:y<s.size;rw [ce e];exact (aV s y e).2.1;rw [gm (by omega)];omega)).mono ?_;rintro e w' ⟨rfl,hb⟩;exact ⟨rfl,Rq.below ⟨h1',h2',v,h3,h4⟩ hb⟩
 have HC:Hid (∀V y,Rs w0 V g s y a f l->V.cell? ⟨g,2,none⟩=some (.int .i32 (bf s y))):=fun V y hr=>by
  obtain ⟨h1',h2',v,h3,h4⟩:=hr;exact (Rq.cells h3).2.2.1
 have c2:=HC.out _ _ h;rw [(bI s a 34 (by decide) ha).2 hd] at c2;clear hd hE hw h hk
 go_enter Tryz.func56,Tryz.ntmps56
 go_wp2_with fail
 refine Tl 1 (fun a' w'=>∃(x:Nat) (u1 u2 u3 u4 u5 u6 u7 u8 u9 u10 u11 u12 u13 u14 u15 u16 u17 u18 u19 u20 u21 u22 u23 u24 u25 u26 u27 u28 u29 u30 u31 u32 u33 u34 u35 u36 u37 u38 u39 u40 u41 u42 u43 u44 u45 u46 u47 u48 u49 u50 u51 u52 u53 u54 u55 u56 u57 u58 u59 u60 u61 u62 u63 u64 u65 u66 u67 u68 u69 u70 u71 u72 u73:Value),Hid (JQ w0 w' g s a f l x)/\a'={ tmps:=#[.pointer (some ⟨g,0,none⟩),u1,u2,u3,u4,u5,u6,u7,u8,u9,u10,u11,u12,u13,u14,u15,u16,u17,u18,u19,u20,u21,u22,u23,u24,u25,u26,u27,u28,u29,u30,u31,u32,u33,u34,u35,u36,u37,u38,u39,u40,u41,u42,u43,u44,u45,u46,u47,u48,u49,u50,u51,u52,u53,u54,u55,u56,u57,u58,u59,u60,u61,u62,u63,u64,u65,u66,u67,u68,u69,u70,u71,u72,u73],defers:=[] }) (fun _ w'=>s.size-fW w' g 1) rfl ?_ ?_
 rotate_left
 rintro a' w' ⟨x,u1,u2,u3,u4,u5,u6,u7,u8,u9,u10,u11,u12,u13,u14,u15,u16,u17,u18,u19,u20,u21,u22,u23,u24,u25,u26,u27,u28,u29,u30,u31,u32,u33,u34,u35,u36,u37,u38,u39,u40,u41,u42,u43,u44,u45,u46,u47,u48,u49,u50,u51,u52,u53,u54,u55,u56,u57,u58,u59,u60,u61,u62,u63,u64,u65,u66,u67,u68,u69,u70,u71,u72,u73,HJ,rfl⟩;have HX:Hid (fW w' g 1=x/\x<s.size):=⟨HJ.out.rs.at,HJ.out.xs⟩
 rotate_left
 go_wp2_with fail
 go_step3
 all_goals (
  clear c2
  go_wp2_with fail
  refine (HT.out _ _ HJ.out).mono ?_;rintro e w1 ⟨rfl,y,y1,y2,y3,y4,y5,m,y6⟩;have z2:=HC.out _ _ y5;have hfl:=HFl.out _ _ y5 y2 y3;have HY:Hid (Rs w0 w1 g s y a f l/\bd s y/\run (cq s a 34 false) s.size y m=ap s a 4):=⟨y5,y4,y6⟩;have hel:=du (bf s y) w1;clear HJ y5 y4 y6
  by_cases hc:s.size<=y\/ay s y=10
  ·have e1:(decide (bf s y=10) || decide (bf s y=-1))=true:=by
    rw [QY,Rj,Rj]
    rcases hc with h|h
    ·exact .inr ((dm s y).2 h)
    ·by_cases e:y<s.size
     ·exact .inl ((bI s y 10 (by decide) e).2 h)
     ·exact .inr ((dm s y).2 (by omega))
   rw [e1] at hel;have HEl:Hid (Ra 104 #[.int .i32 (bf s y)] w1 fun e w'=>e=.returned (.bool true)/\w'=w1):=hel;have HE:Hid (ap s a 4=(a,101)):=oP y3 HY.out.2.2 hc;clear hel e1 hc hfl
   go_wp2_with (first|(go_at_call 104;refine HEl.out.mono ?_;rintro e w2 ⟨rfl,hw⟩;replace hw:=hw.symm;subst hw))
   simp only [Exit.jump]
   go_ret
   rw [HE.out];exact ⟨rfl,TP.bad HE.out (by decide) HY.out.2.1 y2 HY.out.1 (by intro h;cases h)⟩
  ·obtain ⟨d1,d2⟩:y<s.size/\ay s y≠10:=⟨by omega,fun h=>hc (.inr h)⟩
   have e1:(decide (bf s y=10) || decide (bf s y=-1))=false:=by
    rw [SZ,R3,R3];exact ⟨fun h=>d2 ((bI s y 10 (by decide) d1).1 h),fun h=>by have:=(dm s y).1 h;omega⟩
   rw [e1] at hel;have HEl:Hid (Ra 104 #[.int .i32 (bf s y)] w1 fun e w'=>e=.returned (.bool false)/\w'=w1):=hel;have HF2:Hid (Ra 103 #[.pointer (some ⟨g,0,none⟩)] w1 fun e w'=>e=.returned (.bool (decide (65535<y+fe s y-a)))/\Rs w0 w' g s y a f l):=hfl;rw [ce d1] at HF2;clear hc hfl e1 hel
   by_cases hf:65535<y+dw s y-a
   ·have HE:Hid (ap s a 4=(a,103)):=DP d1 HY.out.2.2 d2 hf;rw [QW hf] at HF2;clear hf
    go_wp2_with (first|(go_at_call 104;refine HEl.out.mono ?_;rintro e w2 ⟨rfl,hw⟩;replace hw:=hw.symm;subst hw)|(go_at_call 103;refine HF2.out.mono ?_;rintro e w3 ⟨rfl,hr3⟩;have z3:=HC.out _ _ hr3))
    simp only [Exit.jump]
    go_ret
    rw [HE.out];exact ⟨rfl,TP.bad HE.out (by decide) HY.out.2.1 y2 hr3 (by intro h;cases h)⟩
   ·rw [QX hf] at HF2;have hct:=FD s y d1
    by_cases hb:gi s y=true
    ·have HCt:Hid (∀V,Ra 105 #[.int .i32 (bf s y)] V fun e w'=>e=.returned (.bool true)/\w'=V):=fun V=>by
      rw [<-hb,<-hct];exact eQ _ _
     have HE:Hid (ap s a 4=(y,102)):=by
      refine jg d1 HY.out.2.2 d2 hf ?_ (.inl hb);rintro ⟨h,_⟩;unfold gi at hb;rw [(bq s y (by omega)).2.1,h] at hb;rw [QR] at hb;exact absurd hb.2 (by decide)
     clear hf hb hct
     go_wp2_with (first|(go_at_call 104;refine HEl.out.mono ?_;rintro e w2 ⟨rfl,hw⟩;replace hw:=hw.symm;subst hw)|(go_at_call 103;refine HF2.out.mono ?_;rintro e w3 ⟨rfl,hr3⟩;have z3:=HC.out _ _ hr3)|(go_at_call 105;refine (HCt.out _).mono ?_;rintro e w4 ⟨rfl,hw⟩;replace hw:=hw.symm;subst hw))
     simp only [Exit.jump]
     go_ret
     rw [HE.out];exact ⟨rfl,TP.bad HE.out (by decide) HY.out.2.1 y2 hr3 (fun _=>rfl)⟩
    ·have hb1:gi s y=false:=by simpa using hb
     have HCt:Hid (∀V,Ra 105 #[.int .i32 (bf s y)] V fun e w'=>e=.returned (.bool false)/\w'=V):=fun V=>by
      rw [<-hb1,<-hct];exact eQ _ _
     by_cases hq:ay s y=34
     ·have HE:Hid (ap s a 4=(y+1,0)):=yO d1 HY.out.2.2 d2 hf ⟨hq,.inl rfl⟩;have q34:bf s y=34:=(bI s y 34 (by decide) d1).2 hq;have hw1:=(bq s y (by omega)).1
      have HT2:Hid (∀V,Rs w0 V g s y a f l->Ra 98 #[.pointer (some ⟨g,0,none⟩)] V fun e w'=>e=.returned (.tuple #[])/\Rs w0 w' g s (y+1) a f l):=fun V hV=>by
       have:=co hV hs y3;rw [ce d1,hw1] at this;exact this
      have HTl:Hid (∀V,Rs w0 V g s (y+1) a f l->Ra 101 #[.pointer (some ⟨g,0,none⟩),.int .u8 4] V fun e w'=>e=.returned (.int .i64 0)/\Rs w0 w' g s (y+1) a 0 (l++[tv s (cM s 4 a (y+1) f)])):=fun V hV=>da hV 4 hs (by omega) (by omega) hl (by intro h;cases h)
      rw [q34] at HCt HEl;clear hf hb hb1 hct hq hw1
      go_wp2_with (first|(go_at_call 104;refine HEl.out.mono ?_;rintro e w2 ⟨rfl,hw⟩;replace hw:=hw.symm;subst hw)|(go_at_call 103;refine HF2.out.mono ?_;rintro e w3 ⟨rfl,hr3⟩;have z3:=HC.out _ _ hr3;rw [q34] at z3)|(go_at_call 105;refine (HCt.out _).mono ?_;rintro e w4 ⟨rfl,hw⟩;replace hw:=hw.symm;subst hw)|(go_at_call 98;refine (HT2.out _ hr3).mono ?_;rintro e w5 ⟨rfl,hr5⟩)|(go_at_call 101;refine (HTl.out _ hr5).mono ?_;rintro e w6 ⟨rfl,hr6⟩))
      simp only [Exit.jump]
      go_ret
      rw [HE.out];exact ⟨rfl,TP.ok HE.out hr6⟩
     ·have q34:(bf s y != 34)=true:=by
       rw [bne_iff_ne];exact fun h=>hq ((bI s y 34 (by decide) d1).1 h)
      have HO:Hid (run (cq s a 34 false) s.size (y+dw s y) (m+1)=ap s a 4):=uE d1 HY.out.2.2 d2 hf (fun h=>hq h.1) (by rintro (h|h);exact hb h;cases h.1);clear hf hb hb1 hct hq
      go_wp2_with (first|(go_at_call 104;refine HEl.out.mono ?_;rintro e w2 ⟨rfl,hw⟩;replace hw:=hw.symm;subst hw)|(go_at_call 103;refine HF2.out.mono ?_;rintro e w3 ⟨rfl,hr3⟩;have z3:=HC.out _ _ hr3)|(go_at_call 105;refine (HCt.out _).mono ?_;rintro e w4 ⟨rfl,hw⟩;replace hw:=hw.symm;subst hw))
      go_step3
      refine ⟨rfl,?_⟩
      try refine ⟨?_,by rw [HX.out.1,hr3.at];have:=HX.out.2;omega⟩
      exact ⟨y,_,_,_,_,_,_,_,_,_,_,_,_,_,_,_,_,_,_,_,_,_,_,_,_,_,_,_,_,_,_,_,_,_,_,_,_,_,_,_,_,_,_,_,_,_,_,_,_,_,_,_,_,_,_,_,_,_,_,_,_,_,_,_,_,_,_,_,_,_,_,_,_,_,⟨y2,d1,HY.out.2.1,hr3,m+1,HO.out⟩,rfl⟩)
structure JC (w0 W:World) (g:Nat) (s:ByteArray) (o:Bool) (k a f:Nat) (l:List Tv) (x:Nat):Prop where
 ax:a<=x
 xs:x<s.size
 bx:bd s x
 rs:Rs w0 W g s x a f l
 h10:o=false->ay s x≠10
 h125:o=true->ay s x≠125
 ful:x+dw s x-a<=65535
 on:∃m,run (bF s a o) s.size x m=ap s a k
theorem JC.next {o:Bool}{k:Nat}(h:JC w0 W g s o k a f l x) (hr:Rs w0 W' g s (x+fe s x) a f l) :
  ∃y,x<y/\a<y/\y<=s.size/\y-a<=65535/\bd s y/\Rs w0 W' g s y a f l/\∃m,run (bF s a o) s.size y m=ap s a k:=by
 obtain ⟨h1,h2,h3,h4,h5,h6,h7,m,h8⟩:=h;obtain ⟨d,_,d2⟩:=aV s x h2;rw [ce h2] at hr;exact ⟨x+dw s x,by omega,by omega,d2,h7,jA h3 h2,hr,_,M2 m h2 h5 h6 h7 h8⟩
theorem Ez (h:Rs w0 W g s a a f l) (hs:s.size<=2147483647) (ha:a<s.size) (hb:bd s a) (hk:ak s a=7) (hl:l.length<=2147483647) :
  Ra 58 #[.pointer (some ⟨g,0,none⟩)] W fun e w'=>e=.returned (.int .i64 ((ap s a 7).2:Nat))/\TP w0 w' g s 7 a f l:=by
 have hd:ay s a=47:=(Ng hk).1;have hE:ap s a 7=run (bF s a false) s.size a 0:=by unfold ap;simp
 have hw:=(bq s a (by omega)).1;have hbl:cQ (ay s a)=false:=by rw [hd];decide
 have HJ:Hid (JC w0 W g s false 7 a f l a):=⟨gt _,ha,hb,h,fun _=>by omega,fun _=>by omega,by omega,0,hE.symm⟩
 have HT:Hid (∀V x,JC w0 V g s false 7 a f l x->Ra 98 #[.pointer (some ⟨g,0,none⟩)] V fun e w'=>e=.returned (.tuple #[])/\∃y,x<y/\a<y/\y<=s.size/\y-a<=65535/\bd s y/\Rs w0 w' g s y a f l/\∃m,run (bF s a false) s.size y m=ap s a 7):=fun V x hx=>by
  refine (co hx.rs hs (RO hx.xs)).mono ?_;rintro e w' ⟨rfl,hr⟩;exact ⟨rfl,hx.next hr⟩
 have HFl:Hid (∀V y,Rs w0 V g s y a f l->a<=y->y<=s.size->Ra 103 #[.pointer (some ⟨g,0,none⟩)] V fun e w'=>e=.returned (.bool (decide (65535<y+fe s y-a)))/\Rs w0 w' g s y a f l):=fun V y hr h1 h2=>by
  obtain ⟨h1',h2',v,h3,h4⟩:=hr;refine (fT h3 hs h1 h2 (by by_cases e:y<s.size;rw [ce e];exact (aV s y e).2.1;rw [gm (by omega)];omega)).mono ?_;rintro e w' ⟨rfl,hb⟩;exact ⟨rfl,Rq.below ⟨h1',h2',v,h3,h4⟩ hb⟩
 have HC:Hid (∀V y,Rs w0 V g s y a f l->V.cell? ⟨g,2,none⟩=some (.int .i32 (bf s y))):=fun V y hr=>by
  obtain ⟨h1',h2',v,h3,h4⟩:=hr;exact (Rq.cells h3).2.2.1
 have c2:=HC.out _ _ h;rw [(bI s a 47 (by decide) ha).2 hd] at c2;clear hd hE hw h hk
 go_enter Tryz.func58,Tryz.ntmps58
 go_wp2_with fail
 refine Tl 1 (fun a' w'=>∃(x:Nat) (u1 u2 u3 u4 u5 u6 u7 u8 u9 u10 u11 u12 u13 u14 u15 u16 u17 u18 u19 u20 u21 u22 u23 u24 u25 u26 u27 u28 u29 u30 u31 u32 u33 u34 u35 u36 u37 u38 u39 u40 u41:Value),Hid (JC w0 w' g s false 7 a f l x)/\a'={ tmps:=#[.pointer (some ⟨g,0,none⟩),u1,u2,u3,u4,u5,u6,u7,u8,u9,u10,u11,u12,u13,u14,u15,u16,u17,u18,u19,u20,u21,u22,u23,u24,u25,u26,u27,u28,u29,u30,u31,u32,u33,u34,u35,u36,u37,u38,u39,u40,u41],defers:=[] }) (fun _ w'=>s.size-fW w' g 1) rfl ?_ ?_
 rotate_left
 rintro a' w' ⟨x,u1,u2,u3,u4,u5,u6,u7,u8,u9,u10,u11,u12,u13,u14,u15,u16,u17,u18,u19,u20,u21,u22,u23,u24,u25,u26,u27,u28,u29,u30,u31,u32,u33,u34,u35,u36,u37,u38,u39,u40,u41,HJ,rfl⟩;have HX:Hid (fW w' g 1=x/\x<s.size):=⟨HJ.out.rs.at,HJ.out.xs⟩
 rotate_left
 go_wp2_with fail
 go_step3
 all_goals (
  clear c2
  go_wp2_with fail
  refine (HT.out _ _ HJ.out).mono ?_;rintro e w1 ⟨rfl,y,y1,y2,y3,yb,y4,y5,m,y6⟩;have z2:=HC.out _ _ y5;have hfl:=HFl.out _ _ y5 (RO y2) y3;have HY:Hid (Rs w0 w1 g s y a f l/\bd s y/\run (bF s a false) s.size y m=ap s a 7):=⟨y5,y4,y6⟩;have hel:=du (bf s y) w1;clear HJ y5 y4 y6
  by_cases hc:s.size<=y\/ay s y=10
  ·have e1:(decide (bf s y=10) || decide (bf s y=-1))=true:=by
    rw [QY,Rj,Rj]
    rcases hc with h|h
    ·exact .inr ((dm s y).2 h)
    ·by_cases e:y<s.size
     ·exact .inl ((bI s y 10 (by decide) e).2 h)
     ·exact .inr ((dm s y).2 (by omega))
   rw [e1] at hel;have HEl:Hid (Ra 104 #[.int .i32 (bf s y)] w1 fun e w'=>e=.returned (.bool true)/\w'=w1):=hel;have HE:Hid (ap s a 7=(y,0)):=FP y3 HY.out.2.2 hc;have HTl:Hid (Ra 101 #[.pointer (some ⟨g,0,none⟩),.int .u8 7] w1 fun e w'=>e=.returned (.int .i64 0)/\Rs w0 w' g s y a 0 (l++[tv s (cM s 7 a y f)])):=da HY.out.1 7 hs (RO y2) y3 hl (fun _=>⟨y2,hbl⟩);clear hel e1 hc hfl
   go_wp2_with (first|(go_at_call 104;refine HEl.out.mono ?_;rintro e w2 ⟨rfl,hw⟩;replace hw:=hw.symm;subst hw)|(go_at_call 101;refine HTl.out.mono ?_;rintro e w6 ⟨rfl,hr6⟩))
   simp only [Exit.jump]
   go_ret
   rw [HE.out];exact ⟨rfl,TP.ok HE.out hr6⟩
  ·obtain ⟨d1,d2⟩:y<s.size/\ay s y≠10:=⟨by omega,fun h=>hc (.inr h)⟩
   have e1:(decide (bf s y=10) || decide (bf s y=-1))=false:=by
    rw [SZ,R3,R3];exact ⟨fun h=>d2 ((bI s y 10 (by decide) d1).1 h),fun h=>by have:=(dm s y).1 h;omega⟩
   rw [e1] at hel;have HEl:Hid (Ra 104 #[.int .i32 (bf s y)] w1 fun e w'=>e=.returned (.bool false)/\w'=w1):=hel;have HF2:Hid (Ra 103 #[.pointer (some ⟨g,0,none⟩)] w1 fun e w'=>e=.returned (.bool (decide (65535<y+fe s y-a)))/\Rs w0 w' g s y a f l):=hfl;rw [ce d1] at HF2;clear hc hfl e1 hel
   by_cases hf:65535<y+dw s y-a
   ·have HE:Hid (ap s a 7=(a,103)):=wg m d1 (fun _=>d2) (RO y2) yb hf HY.out.2.2;rw [QW hf] at HF2;clear hf
    go_wp2_with (first|(go_at_call 104;refine HEl.out.mono ?_;rintro e w2 ⟨rfl,hw⟩;replace hw:=hw.symm;subst hw)|(go_at_call 103;refine HF2.out.mono ?_;rintro e w3 ⟨rfl,hr3⟩;have z3:=HC.out _ _ hr3))
    simp only [Exit.jump]
    go_ret
    rw [HE.out];exact ⟨rfl,TP.bad HE.out (by decide) HY.out.2.1 (RO y2) hr3 (by intro h;cases h)⟩
   ·have HO:Hid (y+dw s y-a<=65535):=by show _<=_;omega
    rw [QX hf] at HF2;clear hf
    go_wp2_with (first|(go_at_call 104;refine HEl.out.mono ?_;rintro e w2 ⟨rfl,hw⟩;replace hw:=hw.symm;subst hw)|(go_at_call 103;refine HF2.out.mono ?_;rintro e w3 ⟨rfl,hr3⟩;have z3:=HC.out _ _ hr3))
    go_step3
    refine ⟨rfl,?_⟩
    try refine ⟨?_,by rw [HX.out.1,hr3.at];have:=HX.out.2;omega⟩
    exact ⟨y,_,_,_,_,_,_,_,_,_,_,_,_,_,_,_,_,_,_,_,_,_,_,_,_,_,_,_,_,_,_,_,_,_,_,_,_,_,_,_,_,_,⟨RO y2,d1,HY.out.2.1,hr3,fun _=>d2,fun h=>(by cases h),HO.out,m,HY.out.2.2⟩,rfl⟩)
theorem Cn (h:Rs w0 W g s a a f l) (hs:s.size<=2147483647) (ha:a<s.size) (hb:bd s a) (hk:ak s a=8) (hl:l.length<=2147483647) :
  Ra 58 #[.pointer (some ⟨g,0,none⟩)] W fun e w'=>e=.returned (.int .i64 ((ap s a 8).2:Nat))/\TP w0 w' g s 8 a f l:=by
 have hd:ay s a=123:=ON hk;have hE:ap s a 8=run (bF s a true) s.size a 0:=by unfold ap;simp
 have hw:=(bq s a (by omega)).1;have hbl:cQ (ay s a)=false:=by rw [hd];decide
 have HJ:Hid (JC w0 W g s true 8 a f l a):=⟨gt _,ha,hb,h,fun _=>by omega,fun _=>by omega,by omega,0,hE.symm⟩
 have HT:Hid (∀V x,JC w0 V g s true 8 a f l x->Ra 98 #[.pointer (some ⟨g,0,none⟩)] V fun e w'=>e=.returned (.tuple #[])/\∃y,x<y/\a<y/\y<=s.size/\y-a<=65535/\bd s y/\Rs w0 w' g s y a f l/\∃m,run (bF s a true) s.size y m=ap s a 8):=fun V x hx=>by
  refine (co hx.rs hs (RO hx.xs)).mono ?_;rintro e w' ⟨rfl,hr⟩;exact ⟨rfl,hx.next hr⟩
 have HFl:Hid (∀V y,Rs w0 V g s y a f l->a<=y->y<=s.size->Ra 103 #[.pointer (some ⟨g,0,none⟩)] V fun e w'=>e=.returned (.bool (decide (65535<y+fe s y-a)))/\Rs w0 w' g s y a f l):=fun V y hr h1 h2=>by
  obtain ⟨h1',h2',v,h3,h4⟩:=hr;refine (fT h3 hs h1 h2 (by by_cases e:y<s.size;rw [ce e];exact (aV s y e).2.1;rw [gm (by omega)];omega)).mono ?_;rintro e w' ⟨rfl,hb⟩;exact ⟨rfl,Rq.below ⟨h1',h2',v,h3,h4⟩ hb⟩
 have HC:Hid (∀V y,Rs w0 V g s y a f l->V.cell? ⟨g,2,none⟩=some (.int .i32 (bf s y))):=fun V y hr=>by
  obtain ⟨h1',h2',v,h3,h4⟩:=hr;exact (Rq.cells h3).2.2.1
 have c2:=HC.out _ _ h;rw [(bI s a 123 (by decide) ha).2 hd] at c2;clear hd hE hw h hk
 go_enter Tryz.func58,Tryz.ntmps58
 go_wp2_with fail
 refine Tl 0 (fun a' w'=>∃(x:Nat) (u1 u2 u3 u4 u5 u6 u7 u8 u9 u10 u11 u12 u13 u14 u15 u16 u17 u18 u19 u20 u21 u22 u23 u24 u25 u26 u27 u28 u29 u30 u31 u32 u33 u34 u35 u36 u37 u38 u39 u40 u41:Value),Hid (JC w0 w' g s true 8 a f l x)/\a'={ tmps:=#[.pointer (some ⟨g,0,none⟩),u1,u2,u3,u4,u5,u6,u7,u8,u9,u10,u11,u12,u13,u14,u15,u16,u17,u18,u19,u20,u21,u22,u23,u24,u25,u26,u27,u28,u29,u30,u31,u32,u33,u34,u35,u36,u37,u38,u39,u40,u41],defers:=[] }) (fun _ w'=>s.size-fW w' g 1) rfl ?_ ?_
 ·go_wp2_with fail
  go_step3
  exact ⟨rfl,a,_,_,_,_,_,_,_,_,_,_,_,_,_,_,_,_,_,_,_,_,_,_,_,_,_,_,_,_,_,_,_,_,_,_,_,_,_,_,_,_,_,HJ,rfl⟩
 ·rintro a' w' ⟨x,u1,u2,u3,u4,u5,u6,u7,u8,u9,u10,u11,u12,u13,u14,u15,u16,u17,u18,u19,u20,u21,u22,u23,u24,u25,u26,u27,u28,u29,u30,u31,u32,u33,u34,u35,u36,u37,u38,u39,u40,u41,HJ,rfl⟩;have HX:Hid (fW w' g 1=x/\x<s.size):=⟨HJ.out.rs.at,HJ.out.xs⟩;clear c2
  go_wp2_with fail
  refine (HT.out _ _ HJ.out).mono ?_;rintro e w1 ⟨rfl,y,y1,y2,y3,yb,y4,y5,m,y6⟩;have z2:=HC.out _ _ y5;have hfl:=HFl.out _ _ y5 (RO y2) y3;have HY:Hid (Rs w0 w1 g s y a f l/\bd s y/\run (bF s a true) s.size y m=ap s a 8):=⟨y5,y4,y6⟩;clear HJ y5 y4 y6
  by_cases hc:s.size<=y
  ·rw [(dm s y).2 hc] at z2;have HE:Hid (ap s a 8=(a,101)):=FO y3 HY.out.2.2 hc;clear hc hfl
   go_wp2_with fail
   simp only [Exit.jump]
   go_ret
   rw [HE.out];exact ⟨rfl,TP.bad HE.out (by decide) HY.out.2.1 (RO y2) HY.out.1 (by intro h;cases h)⟩
  ·have d1:y<s.size:=by omega
   have e1:(bf s y == -1)=false:=by rw [Q7];exact fun h=>hc ((dm s y).1 h)
   have HF2:Hid (Ra 103 #[.pointer (some ⟨g,0,none⟩)] w1 fun e w'=>e=.returned (.bool (decide (65535<y+fe s y-a)))/\Rs w0 w' g s y a f l):=hfl;rw [ce d1] at HF2;clear hc hfl
   by_cases hf:65535<y+dw s y-a
   ·have HE:Hid (ap s a 8=(a,103)):=wg m d1 (by intro h;cases h) (RO y2) yb hf HY.out.2.2;rw [QW hf] at HF2;clear hf
    go_wp2_with (first|(go_at_call 103;refine HF2.out.mono ?_;rintro e w3 ⟨rfl,hr3⟩;have z3:=HC.out _ _ hr3))
    simp only [Exit.jump]
    go_ret
    rw [HE.out];exact ⟨rfl,TP.bad HE.out (by decide) HY.out.2.1 (RO y2) hr3 (by intro h;cases h)⟩
   ·rw [QX hf] at HF2
    by_cases hq:ay s y=125
    ·have hw1:=(bq s y (by omega)).1;have HE:Hid (ap s a 8=(y+1,0)):=Cb d1 HY.out.2.2 hq (by omega);have q34:bf s y=125:=(bI s y 125 (by decide) d1).2 hq
     have HT2:Hid (∀V,Rs w0 V g s y a f l->Ra 98 #[.pointer (some ⟨g,0,none⟩)] V fun e w'=>e=.returned (.tuple #[])/\Rs w0 w' g s (y+1) a f l):=fun V hV=>by
      have:=co hV hs y3;rw [ce d1,hw1] at this;exact this
     have HTl:Hid (∀V,Rs w0 V g s (y+1) a f l->Ra 101 #[.pointer (some ⟨g,0,none⟩),.int .u8 8] V fun e w'=>e=.returned (.int .i64 0)/\Rs w0 w' g s (y+1) a 0 (l++[tv s (cM s 8 a (y+1) f)])):=fun V hV=>da hV 8 hs (by omega) (by omega) hl (by intro h;cases h)
     rw [q34] at z2;clear hf hq hw1 e1
     go_wp2_with (first|(go_at_call 103;refine HF2.out.mono ?_;rintro e w3 ⟨rfl,hr3⟩;have z3:=HC.out _ _ hr3;rw [q34] at z3)|(go_at_call 98;refine (HT2.out _ hr3).mono ?_;rintro e w5 ⟨rfl,hr5⟩)|(go_at_call 101;refine (HTl.out _ hr5).mono ?_;rintro e w6 ⟨rfl,hr6⟩))
     simp only [Exit.jump]
     go_ret
     rw [HE.out];exact ⟨rfl,TP.ok HE.out hr6⟩
    ·have q34:(bf s y != 125)=true:=by
      rw [bne_iff_ne];exact fun h=>hq ((bI s y 125 (by decide) d1).1 h)
     have HO:Hid (y+dw s y-a<=65535/\ay s y≠125):=⟨by omega,hq⟩;clear hf hq
     go_wp2_with (first|(go_at_call 103;refine HF2.out.mono ?_;rintro e w3 ⟨rfl,hr3⟩;have z3:=HC.out _ _ hr3))
     go_step3
     refine ⟨rfl,⟨y,_,_,_,_,_,_,_,_,_,_,_,_,_,_,_,_,_,_,_,_,_,_,_,_,_,_,_,_,_,_,_,_,_,_,_,_,_,_,_,_,_,⟨RO y2,d1,HY.out.2.1,hr3,fun h=>(by cases h),fun _=>HO.out.2,HO.out.1,m,HY.out.2.2⟩,rfl⟩,?_⟩;rw [HX.out.1,hr3.at];have this:=HX.out.2;omega
theorem zN (hc:s.size<=y\/ay s y=10):(decide (bf s y=10) || decide (bf s y=-1))=true:=by
 rw [QY,Rj,Rj]
 rcases hc with h|h
 ·exact .inr ((dm s y).2 h)
 ·by_cases e:y<s.size
  ·exact .inl ((bI s y 10 (by decide) e).2 h)
  ·exact .inr ((dm s y).2 (by omega))
theorem vQ (d1:y<s.size) (d2:ay s y≠10):(decide (bf s y=10) || decide (bf s y=-1))=false:=by
 rw [SZ,R3,R3];exact ⟨fun h=>d2 ((bI s y 10 (by decide) d1).1 h),fun h=>by have:=(dm s y).1 h;omega⟩
theorem F2 (h:Rs w0 W g s a a f l) (hs:s.size<=2147483647) (ha:a<s.size) (hb:bd s a) (hk:ak s a=5) (hl:l.length<=2147483647) :
  Ra 56 #[.pointer (some ⟨g,0,none⟩)] W fun e w'=>e=.returned (.int .i64 ((ap s a 5).2:Nat))/\TP w0 w' g s 5 a f l:=by
 have hd:=OO hk;have hE:run (cq s a 39 true) s.size (a+1) 0=ap s a 5:=by unfold ap;simp
 have hw:=(bq s a (by omega)).1;have hb1:bd s (a+1):=(jW s a ha (by omega)).2;have HT:Hid (∀V y,Rs w0 V g s y a f l->y<=s.size->Ra 98 #[.pointer (some ⟨g,0,none⟩)] V fun e w'=>e=.returned (.tuple #[])/\Rs w0 w' g s (y+fe s y) a f l):=fun V y hV hy=>co hV hs hy
 have HC:Hid (∀V y,Rs w0 V g s y a f l->V.cell? ⟨g,2,none⟩=some (.int .i32 (bf s y))):=fun V y hr=>by
  obtain ⟨h1',h2',v,h3,h4⟩:=hr;exact (Rq.cells h3).2.2.1
 have c2:=HC.out _ _ h;rw [(bI s a 39 (by decide) ha).2 hd] at c2;have HR:Hid (Rs w0 W g s a a f l/\fe s a=1):=⟨h,by rw [ce ha];exact hw⟩;clear hd hw h hk
 go_enter Tryz.func56,Tryz.ntmps56
 go_wp2_with fail
 refine Tl 0 (fun a' w'=>∃(u1 u2 u3 u4 u5 u6 u7 u8 u9 u10 u11 u12 u13 u14 u15 u16 u17 u18 u19 u20 u21 u22 u23 u24 u25 u26 u27 u28 u29 u30 u31 u32 u33 u34 u35 u36 u37 u38 u39 u40 u41 u42 u43 u44 u45 u46 u47 u48 u49 u50 u51 u52 u53 u54 u55 u56 u57 u58 u59 u60 u61 u62 u63 u64 u65 u66 u67 u68 u69 u70 u71 u72 u73:Value),Hid (Rs w0 w' g s a a f l)/\a'={ tmps:=#[.pointer (some ⟨g,0,none⟩),u1,u2,u3,u4,u5,u6,u7,u8,u9,u10,u11,u12,u13,u14,u15,u16,u17,u18,u19,u20,u21,u22,u23,u24,u25,u26,u27,u28,u29,u30,u31,u32,u33,u34,u35,u36,u37,u38,u39,u40,u41,u42,u43,u44,u45,u46,u47,u48,u49,u50,u51,u52,u53,u54,u55,u56,u57,u58,u59,u60,u61,u62,u63,u64,u65,u66,u67,u68,u69,u70,u71,u72,u73],defers:=[] }) (fun _ w'=>0) rfl ?_ ?_
 ·go_wp2_with fail
  go_step3
  exact ⟨rfl,_,_,_,_,_,_,_,_,_,_,_,_,_,_,_,_,_,_,_,_,_,_,_,_,_,_,_,_,_,_,_,_,_,_,_,_,_,_,_,_,_,_,_,_,_,_,_,_,_,_,_,_,_,_,_,_,_,_,_,_,_,_,_,_,_,_,_,_,_,_,_,_,_,HR.out.1,rfl⟩
 ·rintro a' w' ⟨u1,u2,u3,u4,u5,u6,u7,u8,u9,u10,u11,u12,u13,u14,u15,u16,u17,u18,u19,u20,u21,u22,u23,u24,u25,u26,u27,u28,u29,u30,u31,u32,u33,u34,u35,u36,u37,u38,u39,u40,u41,u42,u43,u44,u45,u46,u47,u48,u49,u50,u51,u52,u53,u54,u55,u56,u57,u58,u59,u60,u61,u62,u63,u64,u65,u66,u67,u68,u69,u70,u71,u72,u73,HJ,rfl⟩;clear c2
  go_wp2_with fail
  refine (HT.out _ _ HJ.out (by omega)).mono ?_;rintro e w1 ⟨rfl,y5⟩;rw [HR.out.2] at y5;have z2:=HC.out _ _ y5;have HY:Hid (Rs w0 w1 g s (a+1) a f l):=y5;have hE2:Hid (run (cq s a 39 true) s.size (a+1) 0=ap s a 5):=hE;obtain ⟨y,hy⟩:∃y,a+1=y:=⟨_,rfl⟩;rw [hy] at z2 HY hE2 hb1;have y3:y<=s.size:=by omega
  have y2:a<=y:=by omega
  have ylo:y<=a+1:=by omega
  clear HJ y5 hE hy
  by_cases hc:s.size<=y\/ay s y=10
  ·have HEl:Hid (Ra 104 #[.int .i32 (bf s y)] w1 fun e w'=>e=.returned (.bool true)/\w'=w1):=by rw [<-zN hc];exact du _ _
   have HE:Hid (ap s a 5=(a,101)):=oP y3 hE2.out hc;clear hc
   go_wp2_with (first|(go_at_call 104;refine HEl.out.mono ?_;rintro e w2 ⟨rfl,hw⟩;replace hw:=hw.symm;subst hw))
   simp only [Exit.jump]
   go_ret
   rw [HE.out];exact ⟨rfl,TP.bad HE.out (by decide) hb1 y2 HY.out (by intro h;cases h)⟩
  ·obtain ⟨d1,d2⟩:y<s.size/\ay s y≠10:=⟨by omega,fun h=>hc (.inr h)⟩;have HEl:Hid (Ra 104 #[.int .i32 (bf s y)] w1 fun e w'=>e=.returned (.bool false)/\w'=w1):=by rw [<-vQ d1 d2];exact du _ _
   have hct:=FD s y d1;obtain ⟨w1',w2',w3'⟩:=aV s y d1;clear hc
   by_cases hbb:gi s y=true
   ·have HCt:Hid (∀V,Ra 105 #[.int .i32 (bf s y)] V fun e w'=>e=.returned (.bool true)/\w'=V):=fun V=>by
     rw [<-hbb,<-hct];exact eQ _ _
    have HE:Hid (ap s a 5=(y,102)):=jg d1 hE2.out d2 (by omega) (by rintro ⟨_,h|h⟩ <;> cases h) (.inl hbb);clear hbb hct
    go_wp2_with (first|(go_at_call 104;refine HEl.out.mono ?_;rintro e w2 ⟨rfl,hw⟩;replace hw:=hw.symm;subst hw)|(go_at_call 105;refine (HCt.out _).mono ?_;rintro e w4 ⟨rfl,hw⟩;replace hw:=hw.symm;subst hw))
    simp only [Exit.jump]
    go_ret
    rw [HE.out];exact ⟨rfl,TP.bad HE.out (by decide) hb1 y2 HY.out (fun _=>rfl)⟩
   ·have hbb1:gi s y=false:=by simpa using hbb
    have HCt:Hid (∀V,Ra 105 #[.int .i32 (bf s y)] V fun e w'=>e=.returned (.bool false)/\w'=V):=fun V=>by
     rw [<-hbb1,<-hct];exact eQ _ _
    by_cases hq:ay s y=39
    ·have HE:Hid (ap s a 5=(y,102)):=jg d1 hE2.out d2 (by omega) (by rintro ⟨_,h|h⟩ <;> cases h) (.inr ⟨rfl,.inr hq⟩);have q39:bf s y=39:=(bI s y 39 (by decide) d1).2 hq;rw [q39] at z2 HCt HEl;clear hbb hbb1 hct hq
     go_wp2_with (first|(go_at_call 104;refine HEl.out.mono ?_;rintro e w2 ⟨rfl,hw⟩;replace hw:=hw.symm;subst hw)|(go_at_call 105;refine (HCt.out _).mono ?_;rintro e w4 ⟨rfl,hw⟩;replace hw:=hw.symm;subst hw))
     simp only [Exit.jump]
     go_ret
     rw [HE.out];exact ⟨rfl,TP.bad HE.out (by decide) hb1 y2 HY.out (fun _=>rfl)⟩
    ·have q39:(bf s y == 39)=false:=by
      rw [Q7];exact fun h=>hq ((bI s y 39 (by decide) d1).1 h)
     have hE3:=uE d1 hE2.out d2 (by omega) (by rintro ⟨h,_⟩;exact hq h) (by rintro (h|⟨_,h|h⟩);exact hbb h;cases h;exact hq h)
     have HT2:Hid (∀V,Rs w0 V g s y a f l->Ra 98 #[.pointer (some ⟨g,0,none⟩)] V fun e w'=>e=.returned (.tuple #[])/\Rs w0 w' g s (y+dw s y) a f l):=fun V hV=>by
      have:=co hV hs y3;rw [ce d1] at this;exact this
     have hb2:bd s (y+dw s y):=jA hb1 d1;obtain ⟨z,hz⟩:∃z,y+dw s y=z:=⟨_,rfl⟩;rw [hz] at hE3 HT2 hb2 w3';have zlo:a<=z/\z<=a+5:=by omega
     clear hbb hbb1 hct hq hz;have HE3:Hid (run (cq s a 39 true) s.size z (0+1)=ap s a 5):=hE3;clear hE3
     by_cases hc:s.size<=z\/ay s z=10
     ·have HEl2:Hid (∀V,Ra 104 #[.int .i32 (bf s z)] V fun e w'=>e=.returned (.bool true)/\w'=V):=fun V=>by rw [<-zN hc];exact du _ _
      have HE:Hid (ap s a 5=(a,101)):=oP w3' HE3.out hc;clear hc
      go_wp2_with (first|(go_at_call 98;refine (HT2.out _ HY.out).mono ?_;rintro e w5 ⟨rfl,hr5⟩;have z5:=HC.out _ _ hr5)|(go_at_call 104;have hg:=hr5;clear hg;refine (HEl2.out _).mono ?_;rintro e w6 ⟨rfl,hw⟩;replace hw:=hw.symm;subst hw)|(go_at_call 104;refine HEl.out.mono ?_;rintro e w2 ⟨rfl,hw⟩;replace hw:=hw.symm;subst hw)|(go_at_call 105;refine (HCt.out _).mono ?_;rintro e w4 ⟨rfl,hw⟩;replace hw:=hw.symm;subst hw))
      simp only [Exit.jump]
      go_ret
      rw [HE.out];exact ⟨rfl,TP.bad HE.out (by decide) hb2 zlo.1 hr5 (by intro h;cases h)⟩
     ·obtain ⟨e1,e2⟩:z<s.size/\ay s z≠10:=⟨by omega,fun h=>hc (.inr h)⟩;have HEl2:Hid (∀V,Ra 104 #[.int .i32 (bf s z)] V fun e w'=>e=.returned (.bool false)/\w'=V):=fun V=>by rw [<-vQ e1 e2];exact du _ _
      have dz:=aV s z e1;clear hc
      by_cases hq:ay s z=39
      ·have HE:Hid (ap s a 5=(z+1,0)):=yO e1 HE3.out e2 (by omega) ⟨hq,.inr rfl⟩;have qz:bf s z=39:=(bI s z 39 (by decide) e1).2 hq;have hwz:=(bq s z (by omega)).1
       have HT3:Hid (∀V,Rs w0 V g s z a f l->Ra 98 #[.pointer (some ⟨g,0,none⟩)] V fun e w'=>e=.returned (.tuple #[])/\Rs w0 w' g s (z+1) a f l):=fun V hV=>by
        have:=co hV hs w3';rw [ce e1,hwz] at this;exact this
       have HTl:Hid (∀V,Rs w0 V g s (z+1) a f l->Ra 101 #[.pointer (some ⟨g,0,none⟩),.int .u8 5] V fun e w'=>e=.returned (.int .i64 0)/\Rs w0 w' g s (z+1) a 0 (l++[tv s (cM s 5 a (z+1) f)])):=fun V hV=>da hV 5 hs (by omega) (by omega) hl (by intro h;cases h)
       rw [qz] at HEl2;clear hq hwz dz
       go_wp2_with (first|(go_at_call 98;have hg:=hr5;clear hg;refine (HT3.out _ hr5).mono ?_;rintro e w7 ⟨rfl,hr7⟩)|(go_at_call 98;refine (HT2.out _ HY.out).mono ?_;rintro e w5 ⟨rfl,hr5⟩;have z5:=HC.out _ _ hr5;rw [qz] at z5)|(go_at_call 104;have hg:=hr5;clear hg;refine (HEl2.out _).mono ?_;rintro e w6 ⟨rfl,hw⟩;replace hw:=hw.symm;subst hw)|(go_at_call 104;refine HEl.out.mono ?_;rintro e w2 ⟨rfl,hw⟩;replace hw:=hw.symm;subst hw)|(go_at_call 105;refine (HCt.out _).mono ?_;rintro e w4 ⟨rfl,hw⟩;replace hw:=hw.symm;subst hw)|(go_at_call 101;refine (HTl.out _ hr7).mono ?_;rintro e w8 ⟨rfl,hr8⟩))
       simp only [Exit.jump]
       go_ret
       rw [HE.out];exact ⟨rfl,TP.ok HE.out hr8⟩
      ·have HE:Hid (ap s a 5=(z,102)):=jg e1 HE3.out e2 (by omega) (by rintro ⟨h,_⟩;exact hq h) (.inr ⟨rfl,.inl rfl⟩)
       have qz:(bf s z != 39)=true:=by
        rw [bne_iff_ne];exact fun h=>hq ((bI s z 39 (by decide) e1).1 h)
       clear hq dz
       go_wp2_with (first|(go_at_call 98;refine (HT2.out _ HY.out).mono ?_;rintro e w5 ⟨rfl,hr5⟩;have z5:=HC.out _ _ hr5)|(go_at_call 104;have hg:=hr5;clear hg;refine (HEl2.out _).mono ?_;rintro e w6 ⟨rfl,hw⟩;replace hw:=hw.symm;subst hw)|(go_at_call 104;refine HEl.out.mono ?_;rintro e w2 ⟨rfl,hw⟩;replace hw:=hw.symm;subst hw)|(go_at_call 105;refine (HCt.out _).mono ?_;rintro e w4 ⟨rfl,hw⟩;replace hw:=hw.symm;subst hw))
       simp only [Exit.jump]
       go_ret
       rw [HE.out];exact ⟨rfl,TP.bad HE.out (by decide) hb2 zlo.1 hr5 (fun _=>rfl)⟩
end Go.Proofs.YtjiepkenkcgkhaaGreatDoor.Lx
