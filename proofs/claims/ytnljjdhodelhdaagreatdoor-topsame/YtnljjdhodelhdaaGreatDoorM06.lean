import Derived.Lib.OthersKept
import Derived.Test.YtnljjdhodelhdaaGreatDoorM05
set_option linter.unusedVariables false
set_option linter.unusedSimpArgs false
set_option maxHeartbeats 4000000
set_option maxRecDepth 100000
namespace Go.Proofs.YtnljjdhodelhdaaGreatDoor.Lx
open Go.RowKit
variable {s:ByteArray}{a g f y b:Nat}{w0 W:World}{l:List Tv}
theorem CF (h:Rs w0 W g s a a f l) (hs:s.size<=2147483647) (ha:a<s.size) (hb:bd s a) (hk:ak s a=8) (hl:l.length<=2147483647) :
  Ra 41 #[.pointer (some ⟨g,0,none⟩)] W fun e w'=>e=.returned (.int .i64 ((ap s a 8).2:Nat))/\TP w0 w' g s 8 a f l:=by
 have hd:ay s a=123:=O4 hk;have hE:ap s a 8=run (bI s a true) s.size a 0:=by unfold ap;simp
 have hw:=(bv s a (by omega)).1;have hbl:cV (ay s a)=false:=by rw [hd];decide
 have HJ:Hid (JC w0 W g s true 8 a f l a):=⟨gt _,ha,hb,h,fun _=>by omega,fun _=>by omega,by omega,0,hE.symm⟩
 have HT:Hid (∀V x,JC w0 V g s true 8 a f l x->Ra 80 #[.pointer (some ⟨g,0,none⟩)] V fun e w'=>e=.returned (.tuple #[])/\∃y,x<y/\a<y/\y<=s.size/\y-a<=65535/\bd s y/\Rs w0 w' g s y a f l/\∃m,run (bI s a true) s.size y m=ap s a 8):=fun V x hx=>by
  refine (cu hx.rs hs (R4 hx.xs)).mono ?_;rintro e w' ⟨rfl,hr⟩;exact ⟨rfl,hx.next hr⟩
 have HFl:Hid (∀V y,Rs w0 V g s y a f l->a<=y->y<=s.size->Ra 85 #[.pointer (some ⟨g,0,none⟩)] V fun e w'=>e=.returned (.bool (decide (65535<y+fj s y-a)))/\Rs w0 w' g s y a f l):=fun V y hr h1 h2=>by
  obtain ⟨h1',h2',v,h3,h4⟩:=hr;refine (fY h3 hs h1 h2 (by by_cases e:y<s.size;rw [cg e];exact (aW s y e).2.1;rw [gr (by omega)];omega)).mono ?_;rintro e w' ⟨rfl,hb⟩;exact ⟨rfl,Rq.below ⟨h1',h2',v,h3,h4⟩ hb⟩
 have HC:Hid (∀V y,Rs w0 V g s y a f l->V.cell? ⟨g,2,none⟩=some (.int .i32 (bj s y))):=fun V y hr=>by
  obtain ⟨h1',h2',v,h3,h4⟩:=hr;exact (Rq.cells h3).2.2.1
 have c2:=HC.out _ _ h;rw [(bL s a 123 (by decide) ha).2 hd] at c2;clear hd hE hw h hk
 go_enter Tryz.func41,Tryz.ntmps41
 go_wp2_with fail
 refine TD 0 (fun a' w'=>∃(x:Nat) (u1 u2 u3 u4 u5 u6 u7 u8 u9 u10 u11 u12 u13 u14 u15 u16 u17 u18 u19 u20 u21 u22 u23 u24 u25 u26 u27 u28 u29 u30 u31 u32 u33 u34 u35 u36 u37 u38 u39 u40 u41:Value),Hid (JC w0 w' g s true 8 a f l x)/\a'={ tmps:=#[.pointer (some ⟨g,0,none⟩),u1,u2,u3,u4,u5,u6,u7,u8,u9,u10,u11,u12,u13,u14,u15,u16,u17,u18,u19,u20,u21,u22,u23,u24,u25,u26,u27,u28,u29,u30,u31,u32,u33,u34,u35,u36,u37,u38,u39,u40,u41],defers:=[] }) (fun _ w'=>s.size-gh w' g 1) rfl ?_ ?_
 ·go_wp2_with fail
  go_step3
  exact ⟨rfl,a,_,_,_,_,_,_,_,_,_,_,_,_,_,_,_,_,_,_,_,_,_,_,_,_,_,_,_,_,_,_,_,_,_,_,_,_,_,_,_,_,_,HJ,rfl⟩
 ·rintro a' w' ⟨x,u1,u2,u3,u4,u5,u6,u7,u8,u9,u10,u11,u12,u13,u14,u15,u16,u17,u18,u19,u20,u21,u22,u23,u24,u25,u26,u27,u28,u29,u30,u31,u32,u33,u34,u35,u36,u37,u38,u39,u40,u41,HJ,rfl⟩;have HX:Hid (gh w' g 1=x/\x<s.size):=⟨HJ.out.rs.at,HJ.out.xs⟩;clear c2
  go_wp2_with fail
  refine (HT.out _ _ HJ.out).mono ?_;rintro e w1 ⟨rfl,y,y1,y2,y3,yb,y4,y5,m,y6⟩;have z2:=HC.out _ _ y5;have hfl:=HFl.out _ _ y5 (R4 y2) y3;have HY:Hid (Rs w0 w1 g s y a f l/\bd s y/\run (bI s a true) s.size y m=ap s a 8):=⟨y5,y4,y6⟩;clear HJ y5 y4 y6
  by_cases hc:s.size<=y
  ·rw [(dv s y).2 hc] at z2;have HE:Hid (ap s a 8=(a,101)):=F7 y3 HY.out.2.2 hc;clear hc hfl
   go_wp2_with fail
   simp only [Exit.jump]
   go_ret
   rw [HE.out];exact ⟨rfl,TP.bad HE.out (by decide) HY.out.2.1 (R4 y2) HY.out.1 (by intro h;cases h)⟩
  ·have d1:y<s.size:=by omega
   have e1:(bj s y == -1)=false:=by rw [Rr];exact fun h=>hc ((dv s y).1 h)
   have HF2:Hid (Ra 85 #[.pointer (some ⟨g,0,none⟩)] w1 fun e w'=>e=.returned (.bool (decide (65535<y+fj s y-a)))/\Rs w0 w' g s y a f l):=hfl;rw [cg d1] at HF2;clear hc hfl
   by_cases hf:65535<y+dw s y-a
   ·have HE:Hid (ap s a 8=(a,103)):=wA m d1 (by intro h;cases h) (R4 y2) yb hf HY.out.2.2;rw [Q9 hf] at HF2;clear hf
    go_wp2_with (first|(go_at_call 85;refine HF2.out.mono ?_;rintro e w3 ⟨rfl,hr3⟩;have z3:=HC.out _ _ hr3))
    simp only [Exit.jump]
    go_ret
    rw [HE.out];exact ⟨rfl,TP.bad HE.out (by decide) HY.out.2.1 (R4 y2) hr3 (by intro h;cases h)⟩
   ·rw [Rf hf] at HF2
    by_cases hq:ay s y=125
    ·have hw1:=(bv s y (by omega)).1;have HE:Hid (ap s a 8=(y+1,0)):=Cs d1 HY.out.2.2 hq (by omega);have q34:bj s y=125:=(bL s y 125 (by decide) d1).2 hq
     have HT2:Hid (∀V,Rs w0 V g s y a f l->Ra 80 #[.pointer (some ⟨g,0,none⟩)] V fun e w'=>e=.returned (.tuple #[])/\Rs w0 w' g s (y+1) a f l):=fun V hV=>by
      have:=cu hV hs y3;rw [cg d1,hw1] at this;exact this
     have HTl:Hid (∀V,Rs w0 V g s (y+1) a f l->Ra 83 #[.pointer (some ⟨g,0,none⟩),.int .u8 8] V fun e w'=>e=.returned (.int .i64 0)/\Rs w0 w' g s (y+1) a 0 (l++[tv s (cQ s 8 a (y+1) f)])):=fun V hV=>dg hV 8 hs (by omega) (by omega) hl (by intro h;cases h)
     rw [q34] at z2;clear hf hq hw1 e1
     go_wp2_with (first|(go_at_call 85;refine HF2.out.mono ?_;rintro e w3 ⟨rfl,hr3⟩;have z3:=HC.out _ _ hr3;rw [q34] at z3)|(go_at_call 80;refine (HT2.out _ hr3).mono ?_;rintro e w5 ⟨rfl,hr5⟩)|(go_at_call 83;refine (HTl.out _ hr5).mono ?_;rintro e w6 ⟨rfl,hr6⟩))
     simp only [Exit.jump]
     go_ret
     rw [HE.out];exact ⟨rfl,TP.ok HE.out hr6⟩
    ·have q34:(bj s y != 125)=true:=by
      rw [bne_iff_ne];exact fun h=>hq ((bL s y 125 (by decide) d1).1 h)
     have HO:Hid (y+dw s y-a<=65535/\ay s y≠125):=⟨by omega,hq⟩;clear hf hq
     go_wp2_with (first|(go_at_call 85;refine HF2.out.mono ?_;rintro e w3 ⟨rfl,hr3⟩;have z3:=HC.out _ _ hr3))
     go_step3
     refine ⟨rfl,⟨y,_,_,_,_,_,_,_,_,_,_,_,_,_,_,_,_,_,_,_,_,_,_,_,_,_,_,_,_,_,_,_,_,_,_,_,_,_,_,_,_,_,⟨R4 y2,d1,HY.out.2.1,hr3,fun h=>(by cases h),fun _=>HO.out.2,HO.out.1,m,HY.out.2.2⟩,rfl⟩,?_⟩;rw [HX.out.1,hr3.at];have this:=HX.out.2;omega
theorem Ai (hc:s.size<=y\/ay s y=10):(decide (bj s y=10) || decide (bj s y=-1))=true:=by
 rw [Ri,RC,RC]
 rcases hc with h|h
 ·exact .inr ((dv s y).2 h)
 ·by_cases e:y<s.size
  ·exact .inl ((bL s y 10 (by decide) e).2 h)
  ·exact .inr ((dv s y).2 (by omega))
theorem we (d1:y<s.size) (d2:ay s y≠10):(decide (bj s y=10) || decide (bj s y=-1))=false:=by
 rw [Tq,Sj,Sj];exact ⟨fun h=>d2 ((bL s y 10 (by decide) d1).1 h),fun h=>by have:=(dv s y).1 h;omega⟩
theorem Gl (h:Rs w0 W g s a a f l) (hs:s.size<=2147483647) (ha:a<s.size) (hb:bd s a) (hk:ak s a=5) (hl:l.length<=2147483647) :
  Ra 39 #[.pointer (some ⟨g,0,none⟩)] W fun e w'=>e=.returned (.int .i64 ((ap s a 5).2:Nat))/\TP w0 w' g s 5 a f l:=by
 have hd:=O5 hk;have hE:run (cy s a 39 true) s.size (a+1) 0=ap s a 5:=by unfold ap;simp
 have hw:=(bv s a (by omega)).1;have hb1:bd s (a+1):=(jZ s a ha (by omega)).2;have HT:Hid (∀V y,Rs w0 V g s y a f l->y<=s.size->Ra 80 #[.pointer (some ⟨g,0,none⟩)] V fun e w'=>e=.returned (.tuple #[])/\Rs w0 w' g s (y+fj s y) a f l):=fun V y hV hy=>cu hV hs hy
 have HC:Hid (∀V y,Rs w0 V g s y a f l->V.cell? ⟨g,2,none⟩=some (.int .i32 (bj s y))):=fun V y hr=>by
  obtain ⟨h1',h2',v,h3,h4⟩:=hr;exact (Rq.cells h3).2.2.1
 have c2:=HC.out _ _ h;rw [(bL s a 39 (by decide) ha).2 hd] at c2;have HR:Hid (Rs w0 W g s a a f l/\fj s a=1):=⟨h,by rw [cg ha];exact hw⟩;clear hd hw h hk
 go_enter Tryz.func39,Tryz.ntmps39
 go_wp2_with fail
 refine TD 0 (fun a' w'=>∃(u1 u2 u3 u4 u5 u6 u7 u8 u9 u10 u11 u12 u13 u14 u15 u16 u17 u18 u19 u20 u21 u22 u23 u24 u25 u26 u27 u28 u29 u30 u31 u32 u33 u34 u35 u36 u37 u38 u39 u40 u41 u42 u43 u44 u45 u46 u47 u48 u49 u50 u51 u52 u53 u54 u55 u56 u57 u58 u59 u60 u61 u62 u63 u64 u65 u66 u67 u68 u69 u70 u71 u72 u73:Value),Hid (Rs w0 w' g s a a f l)/\a'={ tmps:=#[.pointer (some ⟨g,0,none⟩),u1,u2,u3,u4,u5,u6,u7,u8,u9,u10,u11,u12,u13,u14,u15,u16,u17,u18,u19,u20,u21,u22,u23,u24,u25,u26,u27,u28,u29,u30,u31,u32,u33,u34,u35,u36,u37,u38,u39,u40,u41,u42,u43,u44,u45,u46,u47,u48,u49,u50,u51,u52,u53,u54,u55,u56,u57,u58,u59,u60,u61,u62,u63,u64,u65,u66,u67,u68,u69,u70,u71,u72,u73],defers:=[] }) (fun _ w'=>0) rfl ?_ ?_
 ·go_wp2_with fail
  go_step3
  exact ⟨rfl,_,_,_,_,_,_,_,_,_,_,_,_,_,_,_,_,_,_,_,_,_,_,_,_,_,_,_,_,_,_,_,_,_,_,_,_,_,_,_,_,_,_,_,_,_,_,_,_,_,_,_,_,_,_,_,_,_,_,_,_,_,_,_,_,_,_,_,_,_,_,_,_,_,HR.out.1,rfl⟩
 ·rintro a' w' ⟨u1,u2,u3,u4,u5,u6,u7,u8,u9,u10,u11,u12,u13,u14,u15,u16,u17,u18,u19,u20,u21,u22,u23,u24,u25,u26,u27,u28,u29,u30,u31,u32,u33,u34,u35,u36,u37,u38,u39,u40,u41,u42,u43,u44,u45,u46,u47,u48,u49,u50,u51,u52,u53,u54,u55,u56,u57,u58,u59,u60,u61,u62,u63,u64,u65,u66,u67,u68,u69,u70,u71,u72,u73,HJ,rfl⟩;clear c2
  go_wp2_with fail
  refine (HT.out _ _ HJ.out (by omega)).mono ?_;rintro e w1 ⟨rfl,y5⟩;rw [HR.out.2] at y5;have z2:=HC.out _ _ y5;have HY:Hid (Rs w0 w1 g s (a+1) a f l):=y5;have hE2:Hid (run (cy s a 39 true) s.size (a+1) 0=ap s a 5):=hE;obtain ⟨y,hy⟩:∃y,a+1=y:=⟨_,rfl⟩;rw [hy] at z2 HY hE2 hb1;have y3:y<=s.size:=by omega
  have y2:a<=y:=by omega
  have ylo:y<=a+1:=by omega
  clear HJ y5 hE hy
  by_cases hc:s.size<=y\/ay s y=10
  ·have HEl:Hid (Ra 86 #[.int .i32 (bj s y)] w1 fun e w'=>e=.returned (.bool true)/\w'=w1):=by rw [<-Ai hc];exact dC _ _
   have HE:Hid (ap s a 5=(a,101)):=oS y3 hE2.out hc;clear hc
   go_wp2_with (first|(go_at_call 86;refine HEl.out.mono ?_;rintro e w2 ⟨rfl,hw⟩;replace hw:=hw.symm;subst hw))
   simp only [Exit.jump]
   go_ret
   rw [HE.out];exact ⟨rfl,TP.bad HE.out (by decide) hb1 y2 HY.out (by intro h;cases h)⟩
  ·obtain ⟨d1,d2⟩:y<s.size/\ay s y≠10:=⟨by omega,fun h=>hc (.inr h)⟩;have HEl:Hid (Ra 86 #[.int .i32 (bj s y)] w1 fun e w'=>e=.returned (.bool false)/\w'=w1):=by rw [<-we d1 d2];exact dC _ _
   have hct:=FZ s y d1;obtain ⟨w1',w2',w3'⟩:=aW s y d1;clear hc
   by_cases hbb:gn s y=true
   ·have HCt:Hid (∀V,Ra 87 #[.int .i32 (bj s y)] V fun e w'=>e=.returned (.bool true)/\w'=V):=fun V=>by
     rw [<-hbb,<-hct];exact eZ _ _
    have HE:Hid (ap s a 5=(y,102)):=jj d1 hE2.out d2 (by omega) (by rintro ⟨_,h|h⟩ <;> cases h) (.inl hbb);clear hbb hct
    go_wp2_with (first|(go_at_call 86;refine HEl.out.mono ?_;rintro e w2 ⟨rfl,hw⟩;replace hw:=hw.symm;subst hw)|(go_at_call 87;refine (HCt.out _).mono ?_;rintro e w4 ⟨rfl,hw⟩;replace hw:=hw.symm;subst hw))
    simp only [Exit.jump]
    go_ret
    rw [HE.out];exact ⟨rfl,TP.bad HE.out (by decide) hb1 y2 HY.out (fun _=>rfl)⟩
   ·have hbb1:gn s y=false:=by simpa using hbb
    have HCt:Hid (∀V,Ra 87 #[.int .i32 (bj s y)] V fun e w'=>e=.returned (.bool false)/\w'=V):=fun V=>by
     rw [<-hbb1,<-hct];exact eZ _ _
    by_cases hq:ay s y=39
    ·have HE:Hid (ap s a 5=(y,102)):=jj d1 hE2.out d2 (by omega) (by rintro ⟨_,h|h⟩ <;> cases h) (.inr ⟨rfl,.inr hq⟩);have q39:bj s y=39:=(bL s y 39 (by decide) d1).2 hq;rw [q39] at z2 HCt HEl;clear hbb hbb1 hct hq
     go_wp2_with (first|(go_at_call 86;refine HEl.out.mono ?_;rintro e w2 ⟨rfl,hw⟩;replace hw:=hw.symm;subst hw)|(go_at_call 87;refine (HCt.out _).mono ?_;rintro e w4 ⟨rfl,hw⟩;replace hw:=hw.symm;subst hw))
     simp only [Exit.jump]
     go_ret
     rw [HE.out];exact ⟨rfl,TP.bad HE.out (by decide) hb1 y2 HY.out (fun _=>rfl)⟩
    ·have q39:(bj s y == 39)=false:=by
      rw [Rr];exact fun h=>hq ((bL s y 39 (by decide) d1).1 h)
     have hE3:=uM d1 hE2.out d2 (by omega) (by rintro ⟨h,_⟩;exact hq h) (by rintro (h|⟨_,h|h⟩);exact hbb h;cases h;exact hq h)
     have HT2:Hid (∀V,Rs w0 V g s y a f l->Ra 80 #[.pointer (some ⟨g,0,none⟩)] V fun e w'=>e=.returned (.tuple #[])/\Rs w0 w' g s (y+dw s y) a f l):=fun V hV=>by
      have:=cu hV hs y3;rw [cg d1] at this;exact this
     have hb2:bd s (y+dw s y):=jB hb1 d1;obtain ⟨z,hz⟩:∃z,y+dw s y=z:=⟨_,rfl⟩;rw [hz] at hE3 HT2 hb2 w3';have zlo:a<=z/\z<=a+5:=by omega
     clear hbb hbb1 hct hq hz;have HE3:Hid (run (cy s a 39 true) s.size z (0+1)=ap s a 5):=hE3;clear hE3
     by_cases hc:s.size<=z\/ay s z=10
     ·have HEl2:Hid (∀V,Ra 86 #[.int .i32 (bj s z)] V fun e w'=>e=.returned (.bool true)/\w'=V):=fun V=>by rw [<-Ai hc];exact dC _ _
      have HE:Hid (ap s a 5=(a,101)):=oS w3' HE3.out hc;clear hc
      go_wp2_with (first|(go_at_call 80;refine (HT2.out _ HY.out).mono ?_;rintro e w5 ⟨rfl,hr5⟩;have z5:=HC.out _ _ hr5)|(go_at_call 86;have hg:=hr5;clear hg;refine (HEl2.out _).mono ?_;rintro e w6 ⟨rfl,hw⟩;replace hw:=hw.symm;subst hw)|(go_at_call 86;refine HEl.out.mono ?_;rintro e w2 ⟨rfl,hw⟩;replace hw:=hw.symm;subst hw)|(go_at_call 87;refine (HCt.out _).mono ?_;rintro e w4 ⟨rfl,hw⟩;replace hw:=hw.symm;subst hw))
      simp only [Exit.jump]
      go_ret
      rw [HE.out];exact ⟨rfl,TP.bad HE.out (by decide) hb2 zlo.1 hr5 (by intro h;cases h)⟩
     ·obtain ⟨e1,e2⟩:z<s.size/\ay s z≠10:=⟨by omega,fun h=>hc (.inr h)⟩;have HEl2:Hid (∀V,Ra 86 #[.int .i32 (bj s z)] V fun e w'=>e=.returned (.bool false)/\w'=V):=fun V=>by rw [<-we e1 e2];exact dC _ _
      have dz:=aW s z e1;clear hc
      by_cases hq:ay s z=39
      ·have HE:Hid (ap s a 5=(z+1,0)):=zh e1 HE3.out e2 (by omega) ⟨hq,.inr rfl⟩;have qz:bj s z=39:=(bL s z 39 (by decide) e1).2 hq;have hwz:=(bv s z (by omega)).1
       have HT3:Hid (∀V,Rs w0 V g s z a f l->Ra 80 #[.pointer (some ⟨g,0,none⟩)] V fun e w'=>e=.returned (.tuple #[])/\Rs w0 w' g s (z+1) a f l):=fun V hV=>by
        have:=cu hV hs w3';rw [cg e1,hwz] at this;exact this
       have HTl:Hid (∀V,Rs w0 V g s (z+1) a f l->Ra 83 #[.pointer (some ⟨g,0,none⟩),.int .u8 5] V fun e w'=>e=.returned (.int .i64 0)/\Rs w0 w' g s (z+1) a 0 (l++[tv s (cQ s 5 a (z+1) f)])):=fun V hV=>dg hV 5 hs (by omega) (by omega) hl (by intro h;cases h)
       rw [qz] at HEl2;clear hq hwz dz
       go_wp2_with (first|(go_at_call 80;have hg:=hr5;clear hg;refine (HT3.out _ hr5).mono ?_;rintro e w7 ⟨rfl,hr7⟩)|(go_at_call 80;refine (HT2.out _ HY.out).mono ?_;rintro e w5 ⟨rfl,hr5⟩;have z5:=HC.out _ _ hr5;rw [qz] at z5)|(go_at_call 86;have hg:=hr5;clear hg;refine (HEl2.out _).mono ?_;rintro e w6 ⟨rfl,hw⟩;replace hw:=hw.symm;subst hw)|(go_at_call 86;refine HEl.out.mono ?_;rintro e w2 ⟨rfl,hw⟩;replace hw:=hw.symm;subst hw)|(go_at_call 87;refine (HCt.out _).mono ?_;rintro e w4 ⟨rfl,hw⟩;replace hw:=hw.symm;subst hw)|(go_at_call 83;refine (HTl.out _ hr7).mono ?_;rintro e w8 ⟨rfl,hr8⟩))
       simp only [Exit.jump]
       go_ret
       rw [HE.out];exact ⟨rfl,TP.ok HE.out hr8⟩
      ·have HE:Hid (ap s a 5=(z,102)):=jj e1 HE3.out e2 (by omega) (by rintro ⟨h,_⟩;exact hq h) (.inr ⟨rfl,.inl rfl⟩)
       have qz:(bj s z != 39)=true:=by
        rw [bne_iff_ne];exact fun h=>hq ((bL s z 39 (by decide) e1).1 h)
       clear hq dz
       go_wp2_with (first|(go_at_call 80;refine (HT2.out _ HY.out).mono ?_;rintro e w5 ⟨rfl,hr5⟩;have z5:=HC.out _ _ hr5)|(go_at_call 86;have hg:=hr5;clear hg;refine (HEl2.out _).mono ?_;rintro e w6 ⟨rfl,hw⟩;replace hw:=hw.symm;subst hw)|(go_at_call 86;refine HEl.out.mono ?_;rintro e w2 ⟨rfl,hw⟩;replace hw:=hw.symm;subst hw)|(go_at_call 87;refine (HCt.out _).mono ?_;rintro e w4 ⟨rfl,hw⟩;replace hw:=hw.symm;subst hw))
       simp only [Exit.jump]
       go_ret
       rw [HE.out];exact ⟨rfl,TP.bad HE.out (by decide) hb2 zlo.1 hr5 (fun _=>rfl)⟩
theorem Jw {p n:Int}(h:Rq w0 W g s a p n b f l) (hs:s.size<=2147483647) (ha:a<=s.size) :
  Ra 14 #[.pointer (some ⟨g,0,none⟩)] W fun e w'=>e=.returned (.tuple #[])/\Rs w0 w' g s a b f l/\Kp (fun k=>k=g) W w':=by
 obtain ⟨h1,h2,v,h3,h4⟩:=h;obtain ⟨c0,c1,c2,c3,c4,c5,c6,c7,c8⟩:=Rq.cells h3
 by_cases hlt:a<s.size
 ·have hd:=wi s a;obtain ⟨hw1,hw2,hw3⟩:=aW s a hlt
  have HN:Hid (∀w,Ra 32 #[.string s,.int .i64 a] w fun e w'=>e=.returned (.tuple #[.int .i64 (dp s a),.int .i64 (dw s a),.bool (gd s a)])/\Rc w w'):=fun w=>by
   have:=zF s a w (by unfold maxLen;omega) (by omega) (by omega);rw [TO] at this;exact this
  have HR:Hid (∀w',Rc W w'->Rc w0 w'/\RB w' g s a p n b f v/\Rt w0.heap.size w' v l):=fun w' hb=>⟨h1.trans (hb.mono h1.size),ag h3 hb,h4.below hb⟩
  have HK:Hid (∀V,Rc W V->V.cell? ⟨g,0,none⟩=some (.string s)/\V.cell? ⟨g,1,none⟩=some (.int .i64 a)/\Rc W V):=fun V hV=>⟨af (ag h3 hV) rfl,af (ag h3 hV) rfl,hV⟩
  have e1:=gF hlt;have e2:=cg hlt;have HE:Hid (bj s a=dp s a/\fj s a=dw s a):=⟨e1,e2⟩
  generalize dp s a=x at *
  generalize dw s a=y at *
  generalize gd s a=z at *
  clear e1 e2 h1 h3 h4 c0 c1 c2 c3 c4 c5 c6 c7 c8
  go_enter VF,Vr
  go_wp2_with fail
  go_region_held3 (fun w'=>w'.cell? ⟨g,0,none⟩=some (.string s)/\w'.cell? ⟨g,1,none⟩=some (.int .i64 a)/\Below W.heap.size W w') (first|(exact HK.out _ (by assumption))|(exact HK.out _ (hH _ _).drew)|go_keep) (first|(go_at_call 32;refine (HN.out _).mono ?_;rintro e w1 ⟨rfl,hb1⟩;have hbW:=(by first|exact (hH W.heap.size W).drew.trans (hb1.mono (gt _))|exact (by assumption:Below W.heap.size W _).trans (hb1.mono (T4 (by assumption))):Below W.heap.size W w1)))
  all_goals (
   obtain ⟨k1,k3,k4⟩:=HR.out _ hbW;have z2:=k3.frozen 2;have z3:=k3.frozen 3;obtain ⟨_,_,c2,c3,_⟩:=Rq.cells k3;obtain ⟨m1,m3,m4⟩:=Rq.set k1 h2 k3 k4 2 (.int .i32 x) (p':=x) rfl rfl;obtain ⟨n1,n3,n4⟩:=Rq.set m1 h2 m3 m4 3 (.int .i64 y) (n':=y) rfl rfl;have HF:Hid (Rs w0 ((w1.setCell ⟨g,2,none⟩ (.int .i32 x)).setCell ⟨g,3,none⟩ (.int .i64 y)) g s a b f l/\Kp (fun k=>k=g) W ((w1.setCell ⟨g,2,none⟩ (.int .i32 x)).setCell ⟨g,3,none⟩ (.int .i64 y))):=⟨⟨n1,h2,v,by rw [HE.out.1,HE.out.2];exact n3,n4⟩,((Kp.of_below hbW).step (Kp.set _ g 2 _) (fun _ _ h=>h)).step (Kp.set _ g 3 _) (fun _ _ h=>h)⟩;clear k1 k3 k4 m1 m3 m4 n1 n3 n4
   go_wp2_with fail
   go_end0
   exact ⟨rfl,HF.out⟩)
 ·have HN:Hid (∀w,Ra 32 #[.string s,.int .i64 a] w fun e w'=>e=.returned (.tuple #[.int .i64 0,.int .i64 0,.bool false])/\Rc w w'):=fun w=>vk s a w (by unfold maxLen;omega) (.inr (by omega))
  have HR:Hid (∀w',Rc W w'->Rc w0 w'/\RB w' g s a p n b f v/\Rt w0.heap.size w' v l):=fun w' hb=>⟨h1.trans (hb.mono h1.size),ag h3 hb,h4.below hb⟩
  have HK:Hid (∀V,Rc W V->V.cell? ⟨g,0,none⟩=some (.string s)/\V.cell? ⟨g,1,none⟩=some (.int .i64 a)/\Rc W V):=fun V hV=>⟨af (ag h3 hV) rfl,af (ag h3 hV) rfl,hV⟩
  have HE:Hid (bj s a=-1/\fj s a=0):=⟨kq (by omega),gr (by omega)⟩;clear h1 h3 h4 c0 c1 c2 c3 c4 c5 c6 c7 c8
  go_enter VF,Vr
  go_wp2_with fail
  go_region_held3 (fun w'=>w'.cell? ⟨g,0,none⟩=some (.string s)/\w'.cell? ⟨g,1,none⟩=some (.int .i64 a)/\Below W.heap.size W w') (first|(exact HK.out _ (by assumption))|(exact HK.out _ (hH _ _).drew)|go_keep) (first|(go_at_call 32;refine (HN.out _).mono ?_;rintro e w1 ⟨rfl,hb1⟩;have hbW:=(by first|exact (hH W.heap.size W).drew.trans (hb1.mono (gt _))|exact (by assumption:Below W.heap.size W _).trans (hb1.mono (T4 (by assumption))):Below W.heap.size W w1)))
  all_goals (
   obtain ⟨k1,k3,k4⟩:=HR.out _ hbW;have z2:=k3.frozen 2;have z3:=k3.frozen 3;obtain ⟨_,_,c2,c3,_⟩:=Rq.cells k3;obtain ⟨m1,m3,m4⟩:=Rq.set k1 h2 k3 k4 2 (.int .i32 0) (p':=0) rfl rfl;obtain ⟨n1,n3,n4⟩:=Rq.set m1 h2 m3 m4 3 (.int .i64 0) (n':=0) rfl rfl;obtain ⟨o1,o3,o4⟩:=Rq.set n1 h2 n3 n4 2 (.int .i32 (-1)) (p':=-1) rfl rfl;have HF:Hid (Rs w0 (((w1.setCell ⟨g,2,none⟩ (.int .i32 0)).setCell ⟨g,3,none⟩ (.int .i64 0)).setCell ⟨g,2,none⟩ (.int .i32 (-1))) g s a b f l/\Kp (fun k=>k=g) W (((w1.setCell ⟨g,2,none⟩ (.int .i32 0)).setCell ⟨g,3,none⟩ (.int .i64 0)).setCell ⟨g,2,none⟩ (.int .i32 (-1)))):=⟨⟨o1,h2,v,by rw [HE.out.1,HE.out.2];exact o3,o4⟩,(((Kp.of_below hbW).step (Kp.set _ g 2 _) (fun _ _ h=>h)).step (Kp.set _ g 3 _) (fun _ _ h=>h)).step (Kp.set _ g 2 _) (fun _ _ h=>h)⟩;clear k1 k3 k4 m1 m3 m4 n1 n3 n4 o1 o3 o4
   go_wp2_with fail
   go_end0
   exact ⟨rfl,HF.out⟩)
theorem Hz (h:Rs w0 W g s a b f l) (hs:s.size<=2147483647) (ha:a<=s.size) :
  Ra 80 #[.pointer (some ⟨g,0,none⟩)] W fun e w'=>e=.returned (.tuple #[])/\Rs w0 w' g s (a+fj s a) b f l/\Kp (fun k=>k=g) W w':=by
 have hle:=DS s a ha;obtain ⟨h1,h2,v,h3,h4⟩:=h;obtain ⟨c0,c1,c2,c3,c4,c5,c6,c7,c8⟩:=Rq.cells h3;have z1:=h3.frozen 1;obtain ⟨m1,m3,m4⟩:=Rq.set h1 h2 h3 h4 1 (.int .i64 ((a+fj s a:Nat):Int)) (a':=a+fj s a) rfl rfl;have hwr:IntKind.i64.wrap ((a:Int)+(fj s a:Int))=(a:Int)+(fj s a:Int):=by rw [RQ];omega
 have HL:Hid (∀V,Below (W.setCell ⟨g,1,none⟩ (.int .i64 ((a:Int)+(fj s a:Int)))).heap.size (W.setCell ⟨g,1,none⟩ (.int .i64 ((a:Int)+(fj s a:Int)))) V->Ra 14 #[.pointer (some ⟨g,0,none⟩)] V fun e w'=>e=.returned (.tuple #[])/\Rs w0 w' g s (a+fj s a) b f l/\Kp (fun k=>k=g) W w'):=by
  intro V hV;rw [Vs] at m1 m3 m4;refine (Jw (Rq.below ⟨m1,h2,v,m3,m4⟩ hV) hs hle).mono ?_;rintro e w' ⟨rfl,r1,r2⟩;exact ⟨rfl,r1,((Kp.set W g 1 _).step (Kp.of_below (S:=fun k=>k=g) hV) (fun _ _ h=>h)).step r2 (fun _ _ h=>h)⟩
 generalize fj s a=y at *
 clear h1 h3 h4 m1 m3 m4
 go_enter Tryz.func80,Tryz.ntmps80
 go_wp2_with fail
 go_region_law (fail)
 all_goals (
  go_wp2_with (go_at_call 14;refine (HL.out _ (hH _ _).drew).mono ?_;rintro e w1 ⟨rfl,h5⟩)
  go_end0
  exact ⟨rfl,h5⟩)
theorem Rs.kp {w0 W W':World}{g:Nat}{s:ByteArray}{a b f:Nat}{l:List Tv}{S:Nat->Prop}(h:Rs w0 W g s a b f l) (hb:Below w0.heap.size W W') (hk:Kp S W W') (hg:¬S g) (hv:∀k cs T z,W.heap[k]?=some (.cells cs T z)->¬S k):Rs w0 W' g s a b f l:=by
 obtain ⟨h1,h2,v,h3,h4⟩:=h;refine ⟨h1.trans hb,h2,v,hk.blk h3 hg,?_⟩;refine h4.kp hk (fun k e=>?_)
 rcases h4.2 with ⟨rfl,_⟩|⟨q,cap,cur,rfl,_,x3,_⟩
 ·cases e
 ·simp only [Value.ownBlock,RF] at e;subst e;exact hv _ _ _ _ x3
theorem QD (h:ak s a=6):(sg s a).size≠0:=by
 unfold ak at h
 repeat' split at h
 all_goals first|assumption|(cases h;done)
theorem Oj:∀x∈bk,ay x 0<128/\(x.size=2->ay x 1<128):=by decide
theorem DG (hK:qk w0) (h:Rs w0 W g s a a f l) (hs:s.size<=2147483647) (ha:a<s.size) (hb:bd s a) (hk:ak s a=6) (hl:l.length<=2147483647) :
  Ra 42 #[.pointer (some ⟨g,0,none⟩)] W fun e w'=>e=.returned (.int .i64 ((ap s a 6).2:Nat))/\TP w0 w' g s 6 a f l:=by
 have hE:ap s a 6=(a+(sg s a).size,0):=by unfold ap;simp
 have hz:=QD hk;obtain ⟨g1,g2,g3⟩:=jJ s a hz;have g4:=(uD _ g3).1;have g5:=Oj _ g3
 have hby:∀j,j<(sg s a).size->ay s (a+j)=ay (sg s a) j/\ay (sg s a) j<128:=fun j hj=>by
  have e:=aS s a (a+(sg s a).size) j (by omega);rw [g2] at e;refine ⟨e.symm,?_⟩
  rcases (show j=0\/(j=1/\(sg s a).size=2) by omega) with rfl|⟨rfl,h2⟩
  ·exact g5.1
  ·exact g5.2 h2
 have HTk:Hid (∀V j,j<(sg s a).size->Rs w0 V g s (a+j) a f l->Ra 80 #[.pointer (some ⟨g,0,none⟩)] V fun e w'=>e=.returned (.tuple #[])/\Rs w0 w' g s (a+(j+1)) a f l/\Kp (fun k=>k=g) V w'):=fun V j hj hV=>by
  have:=Hz hV hs (by omega);rw [cg (by omega),(bv s (a+j) (by rw [(hby j hj).1];exact (hby j hj).2)).1] at this;exact this
 have HDc:Hid (∀j,j<(sg s a).size->(Utf8.decode (sg s a) j).2=1/\(Utf8.decode (sg s a) j).1<128):=fun j hj=>by
  obtain ⟨e1,e2,_⟩:=bv (sg s a) j (hby j hj).2;unfold dw at e1;unfold dp at e2;exact ⟨e1,by rw [e2];exact (hby j hj).2⟩
 obtain ⟨x,hx⟩:∃x,sg s a=x:=⟨_,rfl⟩;have HTl:Hid (∀V,Rs w0 V g s (a+x.size) a f l->Ra 83 #[.pointer (some ⟨g,0,none⟩),.int .u8 6] V fun e w'=>e=.returned (.int .i64 0)/\Rs w0 w' g s (a+x.size) a 0 (l++[tv s (cQ s 6 a (a+x.size) f)])):=fun V hV=>dg hV 6 hs (by omega) (by rw [<-hx];exact g1) hl (by intro h;cases h)
 have HS:Hid (∀V,Below W.heap.size W V->Ra 89 #[.string s,.int .i64 a] V fun e w'=>e=.returned (.string x)/\Below V.heap.size V w'):=fun V hV=>by
  rw [<-hx];exact yT s a V (hK.below (h.bel.trans (hV.mono h.bel.size))).2.2 ha
 have HE:Hid (ap s a 6=(a+x.size,0)):=by rw [<-hx];exact hE
 rw [hx] at HTk HDc hz g4;have HR:Hid (∀V,Below W.heap.size W V->Rs w0 V g s a a f l):=fun V hV=>h.below hV
 have HK:Hid (∀V,Below W.heap.size W V->V.cell? ⟨g,0,none⟩=some (.string s)/\V.cell? ⟨g,1,none⟩=some (.int .i64 a)/\Below W.heap.size W V):=fun V hV=>by
  obtain ⟨h1,h2,v,h3,h4⟩:=Rq.below h hV;exact ⟨(Rq.cells h3).1,(Rq.cells h3).2.1,hV⟩
 have hxe:x.toList.isEmpty=false:=by
  cases e:x.toList with
  |cons _ _=>rfl
  |nil=>
   rw [rN] at e;have:x.data.toList.length=0:=by rw [e];rfl
   rw [RU] at this;exact absurd this hz
 clear hE g1 g2 g3 g5 hby hx h hk
 go_enter Tryz.func42,Tryz.ntmps42
 go_wp2_with fail
 go_region_held3 (fun w'=>w'.cell? ⟨g,0,none⟩=some (.string s)/\w'.cell? ⟨g,1,none⟩=some (.int .i64 a)/\Below W.heap.size W w') (first|(exact HK.out _ (by assumption))|(exact HK.out _ (hH _ _).drew)|go_keep) (first|(go_at_call 89;refine (HS.out _ (by first|assumption|exact (hH _ _).drew)).mono ?_;rintro e w1 ⟨rfl,hb1⟩;have hbW:=(by first|exact (hH W.heap.size W).drew.trans (hb1.mono (gt _))|exact (by assumption:Below W.heap.size W _).trans (hb1.mono (T4 (by assumption))):Below W.heap.size W w1)))
 all_goals (
  have HR1:Hid (Rs w0 (w1.iter x 0) g s (a+0) a f l/\(w1.iter x 0).heap[w1.heap.size]?=some (.stringIter x 0)):=⟨(HR.out _ hbW).below (dY w1 x 0),World.iter_heap w1 x 0⟩
  have HG:Hid (g≠w1.heap.size):=by
   obtain ⟨_,_,v,h3,_⟩:=HR.out _ hbW;have:=au h3;show g≠_;omega
  have HW0:Hid (w0.heap.size<=w1.heap.size):=(HR.out _ hbW).bel.size;clear HR HK HS
  go_wp2_with fail
  go_loopw [] (fun wr=>∃pos:Nat,pos<=x.size/\Hid (Rs w0 wr g s (a+pos) a f l/\wr.heap[w1.heap.size]?=some (.stringIter x pos))) (fun wr=>x.size-wr.iterPos w1.heap.size)
  case atStart=>exact ⟨0,QU _,HR1⟩
  case round=>
   obtain ⟨pos,hp3,HI⟩:=hrel
   by_cases hp:pos<x.size
   ·have hnx:∀ty,(Instr.next (.pointer (some ⟨w1.heap.size,0,none⟩)) true ty).run Tryz.prog wr=_:=fun ty=>Lib.run_next_any_at wr w1.heap.size x pos ty HI.out.2 hp
    obtain ⟨d1,d2⟩:=HDc.out pos hp
    have HI2:Hid (Rs w0 (wr.iterAt w1.heap.size x (pos+1)) g s (a+pos) a f l/\(wr.iterAt w1.heap.size x (pos+1)).heap[w1.heap.size]?=some (.stringIter x (pos+1))):=by
     refine ⟨Rs.kp (S:=fun k=>k=w1.heap.size) HI.out.1 (Lib.below_iterAt (hH _ _) HW0.out x _) ⟨rfl,rfl,rfl,by rw [Lib.iterAt_size];exact gt _,fun k _ hk=>Lib.iterAt_other _ _ _ _ _ hk⟩ HG.out (fun k cs T z hk e=>?_),Lib.iterAt_heap _ _ _ _ _ HI.out.2⟩;rw [e,HI.out.2] at hk;cases hk
    have HM:Hid (wr.iterPos w1.heap.size=pos):=by
     show _=_
     unfold World.iterPos;rw [HI.out.2]
    rw [d1] at hnx;clear HI
    go_wp2_with (first|(go_at_call 80;refine (HTk.out _ pos hp HI2.out.1).mono ?_;rintro e w3 ⟨rfl,hr3,hk3⟩))
    refine ⟨⟨pos+1,hp,hr3,hk3.blk HI2.out.2 (fun e=>HG.out e.symm)⟩,?_⟩;rw [HM.out];have e:w3.iterPos w1.heap.size=pos+1:=by unfold World.iterPos;rw [hk3.blk HI2.out.2 (fun e=>HG.out e.symm)]
    rw [e];omega
   ·have hnx:∀ty,(Instr.next (.pointer (some ⟨w1.heap.size,0,none⟩)) true ty).run Tryz.prog wr=_:=fun ty=>Lib.run_next_end_at wr w1.heap.size x pos ty HI.out.2 hp
    have HI2:Hid (Rs w0 wr g s (a+x.size) a f l):=by
     have:=HI.out.1;rw [show pos=x.size by omega] at this;exact this
    clear HI
    go_wp2_with (first|(go_at_call 83;refine (HTl.out _ HI2.out).mono ?_;rintro e w3 ⟨rfl,hr3⟩))
    go_ret
    rw [HE.out];exact ⟨rfl,TP.ok HE.out hr3⟩)
theorem A5 (hK:qk w0) (h:Rs w0 W g s a a f l) (hs:s.size<=2147483647) (ha:a<s.size) (hz:(sg s a).size=0) :
  Ra 42 #[.pointer (some ⟨g,0,none⟩)] W fun e w'=>e=.returned (.int .i64 100)/\Rs w0 w' g s a a f l:=by
 have hx:sg s a=⟨#[]⟩:=fh _ _ (by rw [hz];rfl) (fun j hj=>by omega)
 have HS:Hid (∀V,Rc W V->Ra 89 #[.string s,.int .i64 a] V fun e w'=>e=.returned (.string ⟨#[]⟩)/\Rc V w'):=fun V hV=>by
  rw [<-hx];exact yT s a V (hK.below (h.bel.trans (hV.mono h.bel.size))).2.2 ha
 have HR:Hid (∀V,Rc W V->Rs w0 V g s a a f l):=fun V hV=>h.below hV
 have HK:Hid (∀V,Rc W V->V.cell? ⟨g,0,none⟩=some (.string s)/\V.cell? ⟨g,1,none⟩=some (.int .i64 a)/\Rc W V):=fun V hV=>by
  obtain ⟨h1,h2,v,h3,h4⟩:=Rq.below h hV;exact ⟨(Rq.cells h3).1,(Rq.cells h3).2.1,hV⟩
 clear hx h hz
 go_enter Tryz.func42,Tryz.ntmps42
 go_wp2_with fail
 go_region_held3 (fun w'=>w'.cell? ⟨g,0,none⟩=some (.string s)/\w'.cell? ⟨g,1,none⟩=some (.int .i64 a)/\Below W.heap.size W w') (first|(exact HK.out _ (by assumption))|(exact HK.out _ (hH _ _).drew)|go_keep) (first|(go_at_call 89;refine (HS.out _ (by first|assumption|exact (hH _ _).drew)).mono ?_;rintro e w1 ⟨rfl,hb1⟩;have hbW:=(by first|exact (hH W.heap.size W).drew.trans (hb1.mono (gt _))|exact (by assumption:Below W.heap.size W _).trans (hb1.mono (T4 (by assumption))):Below W.heap.size W w1)))
 all_goals (
  go_wp2_with fail
  go_ret
  exact ⟨rfl,HR.out _ hbW⟩)
end Go.Proofs.YtnljjdhodelhdaaGreatDoor.Lx
