import Derived.Test.YtcjiapphbpiffaaGreatDoorM05
set_option linter.unusedVariables false
set_option linter.unusedSimpArgs false
set_option maxHeartbeats 4000000
set_option maxRecDepth 100000
namespace Go.Proofs.YtcjiapphbpiffaaGreatDoor.Lx
open Go.RowKit
variable {s:ByteArray}{w0 W W':World}{g a f x y:Nat}{l:List Tv}
theorem FT (hK:nt w0) (h:Rs w0 W g s a a f l) (hs:s.size<=2147483647) (ha:a<s.size) (hb:bd s a) (hk:ak s a=1) (hl:l.length<=2147483647) :
  Ta 61 #[.pointer (some ⟨g,0,none⟩)] W fun e w'=>e=.returned (.int .i64 ((ap s a 1).2:Nat))/\TP w0 w' g s 1 a f l:=by
 have hd:=QB hk;have hE:ap s a 1=run (cg s a 1) s.size a 0:=by unfold ap;simp
 obtain ⟨ah,ai,aj⟩:=aW s a ha
 have ab:(gd s a && iq (dp s a))=true:=by
  rw [Tc] at hd ⊢;exact ⟨hd.1,vQ hd.2⟩
 have HJ:Hid (JN w0 W g s 1 a f l a):=⟨gt _,ha,hb,h,0,hE.symm,sQ ha (by rintro (⟨_,h⟩|⟨h,_⟩);rw [ab] at h;cases h;cases h) (by omega)⟩
 have HT:Hid (∀V x,JN w0 V g s 1 a f l x->Ta 103 #[.pointer (some ⟨g,0,none⟩)] V fun e w'=>e=.returned (.tuple #[])/\∃y,x<y/\a<=y/\y<=s.size/\bd s y/\Rs w0 w' g s y a f l/\∃m,run (cg s a 1) s.size y m=ap s a 1):=fun V x hx=>by
  refine (cC hx.rs hs (T5 hx.xs)).mono ?_;rintro e w' ⟨rfl,hr⟩;exact ⟨rfl,hx.next hr⟩
 have ae:Hid (∀V y,Rs w0 V g s y a f l->a<=y->y<=s.size->Ta 108 #[.pointer (some ⟨g,0,none⟩)] V fun e w'=>e=.returned (.bool (decide (65535<y+fw s y-a)))/\Rs w0 w' g s y a f l):=fun V y hr h1 h2=>by
  obtain ⟨J,M,v,Q,h4⟩:=hr;refine (gm Q hs h1 h2 (by by_cases e:y<s.size;rw [cr e];exact (aW s y e).2.1;rw [gE (by omega)];omega)).mono ?_;rintro e w' ⟨rfl,hb⟩;exact ⟨rfl,Rq.below ⟨J,M,v,Q,h4⟩ hb⟩
 have HC:Hid (∀V y,Rs w0 V g s y a f l->V.cell? ⟨g,2,none⟩=some (.int .i32 (bk s y))):=fun V y hr=>by
  obtain ⟨J,M,v,Q,h4⟩:=hr;exact (Rq.cells Q).2.2.1
 have c2:=HC.out _ _ h
 have ac:(decide (48<=bk s a) && decide (bk s a<=57))=false:=by
  cases e:(decide (48<=bk s a) && decide (bk s a<=57)) with
  |false=>rfl
  |true=>
   exfalso
   rw [gO ha,Tc,Tz,Tz] at e;rw [Tc] at hd;have h2:=TI hd.2;unfold DS at h2;omega
 have ad:Hid (Ta 60 #[.int .i32 (bk s a)] W fun e w'=>e=.returned (.bool false)/\w'=W):=by rw [<-ac];exact bT _ _
 clear hd hE ah ai aj ab h hk ac
 go_enter Tryz.func61,Tryz.ntmps61
 go_wp2_with fail
 refine Vg 1 (fun a' w'=>∃(x:Nat) (u1 u2 u3 u4 u5 u6 u7 u8 u9 u10 u11 u12 u13 u14 u15 u16 u17 u18 u19 u20 u21 u22 u23 u24 u25 u26 u27 u28 u29 u30 u31 u32 u33 u34 u35 u36 u37 u38:Value),Hid (JN w0 w' g s 1 a f l x)/\a'={ tmps:=#[.pointer (some ⟨g,0,none⟩),u1,u2,u3,u4,u5,u6,u7,u8,u9,u10,u11,u12,u13,u14,u15,u16,u17,u18,u19,u20,u21,u22,u23,u24,u25,u26,u27,u28,u29,u30,u31,u32,u33,u34,u35,u36,u37,u38],defers:=[] }) (fun _ w'=>s.size-gr w' g 1) rfl ?_ ?_
 rotate_left
 rintro a' w' ⟨x,u1,u2,u3,u4,u5,u6,u7,u8,u9,u10,u11,u12,u13,u14,u15,u16,u17,u18,u19,u20,u21,u22,u23,u24,u25,u26,u27,u28,u29,u30,u31,u32,u33,u34,u35,u36,u37,u38,HJ,rfl⟩;have HX:Hid (gr w' g 1=x/\x<s.size):=⟨HJ.out.rs.at,HJ.out.xs⟩
 rotate_left
 go_wp2_with (first|(go_at_call 60;refine ad.out.mono ?_;rintro e Z ⟨rfl,F⟩;replace F:=F.symm;subst F))
 go_step3
 clear c2
 all_goals (
  go_wp2_with fail
  refine (HT.out _ _ HJ.out).mono ?_;rintro e Z ⟨rfl,y,y1,y2,y3,y4,y5,m,y6⟩;have z2:=HC.out _ _ y5;have U:=ae.out _ _ y5 y2 y3;have O:Hid (Rs w0 Z g s y a f l/\bd s y/\run (cg s a 1) s.size y m=ap s a 1):=⟨y5,y4,y6⟩;have rg:=Aa s y;have al:IntKind.i64.wrap (bk s y)=bk s y:=by rw [TJ];omega
  have H:Hid (Ta 105 #[.int .i64 (bk s y)] Z fun e w'=>e=.returned (.bool (iq (bk s y)))/\w'=Z):=Fw _ _ (hK.below y5.bel).1;have C:=Kd s y;clear HJ y5 y4 y6
  by_cases hc:iq (bk s y)=true
  ·rw [hc] at H;rw [hc] at C;obtain ⟨d1,d2⟩:y<s.size/\(gd s y && iq (dp s y))=true:=by rw [eq_comm,Tc,Tz] at C;exact C
   have HN:Hid (¬(((1:Nat)=1/\(gd s y && iq (dp s y))=false)\/(1=3/\cK (ay s y)=false))):=by
    show ¬_
    rintro (⟨_,h⟩|⟨h,_⟩)
    ·rw [d2] at h;cases h
    ·cases h
   have G:Hid (Ta 108 #[.pointer (some ⟨g,0,none⟩)] Z fun e w'=>e=.returned (.bool (decide (65535<y+fw s y-a)))/\Rs w0 w' g s y a f l):=U;rw [cr d1] at G;clear hc U C d2
   by_cases Y:65535<y+dw s y-a
   ·have HE:Hid (ap s a 1=(a,103)):=vE d1 O.out.2.2 HN.out Y;rw [Tf Y] at G;clear Y
    go_wp2_with (first|(go_at_call 105;refine H.out.mono ?_;rintro e w2 ⟨rfl,F⟩;replace F:=F.symm;subst F)|(go_at_call 108;refine G.out.mono ?_;rintro e w3 ⟨rfl,hr3⟩))
    simp only [Exit.jump]
    go_ret
    rw [HE.out];exact ⟨rfl,TP.bad HE.out (by decide) O.out.2.1 y2 hr3 (by intro h;cases h)⟩
   ·have HO:Hid (cg s a 1 y m=.on (dw s y)):=sQ d1 HN.out Y;rw [Tg Y] at G;clear Y
    go_wp2_with (first|(go_at_call 105;refine H.out.mono ?_;rintro e w2 ⟨rfl,F⟩;replace F:=F.symm;subst F)|(go_at_call 108;refine G.out.mono ?_;rintro e w3 ⟨rfl,hr3⟩))
    go_step3
    refine ⟨rfl,?_⟩
    try refine ⟨?_,by rw [HX.out.1,hr3.at];have:=HX.out.2;omega⟩
    exact ⟨y,_,_,_,_,_,_,_,_,_,_,_,_,_,_,_,_,_,_,_,_,_,_,_,_,_,_,_,_,_,_,_,_,_,_,_,_,_,_,⟨y2,d1,O.out.2.1,hr3,m,O.out.2.2,HO.out⟩,rfl⟩
  ·have S:iq (bk s y)=false:=by simpa using hc
   rw [S] at H
   have HE:Hid (ap s a 1=(y,0)):=by
    refine vD y3 O.out.2.2 ?_;rw [S] at C
    by_cases e:y<s.size
    ·rw [Tf e,T6] at C;exact .inr (.inl ⟨rfl,C.symm⟩)
    ·exact .inl (by omega)
   have aa:=hK.below O.out.1.bel;obtain ⟨kd,I⟩:∃kd:Nat,(if ky (s.extract a y)=true then 2 else 1)=kd:=⟨_,rfl⟩
   have ag:Hid (Ta 107 #[.pointer (some ⟨g,0,none⟩)] Z fun e w'=>e=.returned (.int .u8 kd)/\Rs w0 w' g s y a f l):=by
    obtain ⟨J,M,v,Q,h4⟩:=O.out.1;refine (so Q aa hs y2 y3).mono ?_;rintro e w' ⟨rfl,hb⟩;refine ⟨?_,Rq.below ⟨J,M,v,Q,h4⟩ hb⟩;rw [<-I];split <;> rfl
   have af:Hid (∀V,Rs w0 V g s y a f l->Ta 106 #[.pointer (some ⟨g,0,none⟩),.int .u8 kd] V fun e w'=>e=.returned (.int .i64 0)/\Rs w0 w' g s y a 0 (l++[tv s (bS s 1 a y f)])):=fun V hV=>by
    have:=dy hV kd hs y2 y3 hl (by intro h;rw [<-I] at h;split at h <;> cases h);have e7:(if kd=7 then aV s y else y)=y:=Eq (by rw [<-I];split <;> decide);rw [e7] at this
    have e8:bS s 1 a y f=⟨kd,a,y,f⟩:=by
     unfold bS;rw [<-I]
     congr 1
     by_cases e:ky (s.extract a y)=true
     ·rw [IO ⟨rfl,e⟩,IO e]
     ·rw [Eq (fun h=>e h.2),Eq e]
    rw [e8];exact this
   clear hc S U C aa I
   go_wp2_with (first|(go_at_call 105;refine H.out.mono ?_;rintro e w2 ⟨rfl,F⟩;replace F:=F.symm;subst F)|(go_at_call 107;refine ag.out.mono ?_;rintro e w4 ⟨rfl,hr4⟩)|(go_at_call 106;refine (af.out _ hr4).mono ?_;rintro e w3 ⟨rfl,hr3⟩))
   simp only [Exit.jump]
   go_ret
   rw [HE.out];exact ⟨rfl,TP.ok HE.out hr3⟩)
structure JQ (w0 W:World) (g:Nat) (s:ByteArray) (a f:Nat) (l:List Tv) (x:Nat):Prop where
 ax:a<=x
 xs:x<s.size
 bx:bd s x
 rs:Rs w0 W g s x a f l
 on:∃m,run (cE s a 34 false) s.size (x+dw s x) m=ap s a 4
theorem JQ.next (h:JQ w0 W g s a f l x) (F:Rs w0 W' g s (x+fw s x) a f l) :
  ∃y,x<y/\a<=y/\y<=s.size/\bd s y/\Rs w0 W' g s y a f l/\∃m,run (cE s a 34 false) s.size y m=ap s a 4:=by
 obtain ⟨I,C,G,J,m,H⟩:=h;obtain ⟨d,_,d2⟩:=aW s x C;rw [cr C] at F;exact ⟨x+dw s x,by omega,by omega,d2,jM G C,F,m,H⟩
theorem Ea (h:Rs w0 W g s a a f l) (hs:s.size<=2147483647) (ha:a<s.size) (F:bd s a) (hk:ak s a=4) (hl:l.length<=2147483647) :
  Ta 62 #[.pointer (some ⟨g,0,none⟩)] W fun e w'=>e=.returned (.int .i64 ((ap s a 4).2:Nat))/\TP w0 w' g s 4 a f l:=by
 have hd:=Qz hk;have hE:ap s a 4=run (cE s a 34 false) s.size (a+1) 0:=by unfold ap;simp
 have C:=(bp s a (by omega)).1;have HJ:Hid (JQ w0 W g s a f l a):=⟨gt _,ha,F,h,0,by rw [C];exact hE.symm⟩
 have HT:Hid (∀V x,JQ w0 V g s a f l x->Ta 103 #[.pointer (some ⟨g,0,none⟩)] V fun e w'=>e=.returned (.tuple #[])/\∃y,x<y/\a<=y/\y<=s.size/\bd s y/\Rs w0 w' g s y a f l/\∃m,run (cE s a 34 false) s.size y m=ap s a 4):=fun V x hx=>by
  refine (cC hx.rs hs (T5 hx.xs)).mono ?_;rintro e w' ⟨rfl,hr⟩;exact ⟨rfl,hx.next hr⟩
 have ae:Hid (∀V y,Rs w0 V g s y a f l->a<=y->y<=s.size->Ta 108 #[.pointer (some ⟨g,0,none⟩)] V fun e w'=>e=.returned (.bool (decide (65535<y+fw s y-a)))/\Rs w0 w' g s y a f l):=fun V y hr h1 h2=>by
  obtain ⟨ab,ac,v,h3,h4⟩:=hr;refine (gm h3 hs h1 h2 (by by_cases e:y<s.size;rw [cr e];exact (aW s y e).2.1;rw [gE (by omega)];omega)).mono ?_;rintro e w' ⟨rfl,F⟩;exact ⟨rfl,Rq.below ⟨ab,ac,v,h3,h4⟩ F⟩
 have HC:Hid (∀V y,Rs w0 V g s y a f l->V.cell? ⟨g,2,none⟩=some (.int .i32 (bk s y))):=fun V y hr=>by
  obtain ⟨ab,ac,v,h3,h4⟩:=hr;exact (Rq.cells h3).2.2.1
 have c2:=HC.out _ _ h;rw [(bL s a 34 (by decide) ha).2 hd] at c2;clear hd hE C h hk
 go_enter Tryz.func62,Tryz.ntmps62
 go_wp2_with fail
 refine Vg 1 (fun a' w'=>∃(x:Nat) (u1 u2 u3 u4 u5 u6 u7 u8 u9 u10 u11 u12 u13 u14 u15 u16 u17 u18 u19 u20 u21 u22 u23 u24 u25 u26 u27 u28 u29 u30 u31 u32 u33 u34 u35 u36 u37 u38 u39 u40 u41 u42 u43 u44 u45 u46 u47 u48 u49 u50 u51 u52 u53 u54 u55 u56 u57 u58 u59 u60 u61 u62 u63 u64 u65 u66 u67 u68 u69 u70 u71 u72 u73:Value),Hid (JQ w0 w' g s a f l x)/\a'={ tmps:=#[.pointer (some ⟨g,0,none⟩),u1,u2,u3,u4,u5,u6,u7,u8,u9,u10,u11,u12,u13,u14,u15,u16,u17,u18,u19,u20,u21,u22,u23,u24,u25,u26,u27,u28,u29,u30,u31,u32,u33,u34,u35,u36,u37,u38,u39,u40,u41,u42,u43,u44,u45,u46,u47,u48,u49,u50,u51,u52,u53,u54,u55,u56,u57,u58,u59,u60,u61,u62,u63,u64,u65,u66,u67,u68,u69,u70,u71,u72,u73],defers:=[] }) (fun _ w'=>s.size-gr w' g 1) rfl ?_ ?_
 rotate_left
 rintro a' w' ⟨x,u1,u2,u3,u4,u5,u6,u7,u8,u9,u10,u11,u12,u13,u14,u15,u16,u17,u18,u19,u20,u21,u22,u23,u24,u25,u26,u27,u28,u29,u30,u31,u32,u33,u34,u35,u36,u37,u38,u39,u40,u41,u42,u43,u44,u45,u46,u47,u48,u49,u50,u51,u52,u53,u54,u55,u56,u57,u58,u59,u60,u61,u62,u63,u64,u65,u66,u67,u68,u69,u70,u71,u72,u73,HJ,rfl⟩;have HX:Hid (gr w' g 1=x/\x<s.size):=⟨HJ.out.rs.at,HJ.out.xs⟩
 rotate_left
 go_wp2_with fail
 go_step3
 all_goals (
  clear c2
  go_wp2_with fail
  refine (HT.out _ _ HJ.out).mono ?_;rintro e U ⟨rfl,y,y1,y2,y3,y4,y5,m,y6⟩;have z2:=HC.out _ _ y5;have Z:=ae.out _ _ y5 y2 y3;have Q:Hid (Rs w0 U g s y a f l/\bd s y/\run (cE s a 34 false) s.size y m=ap s a 4):=⟨y5,y4,y6⟩;have I:=dM (bk s y) U;clear HJ y5 y4 y6
  by_cases hc:s.size<=y\/ay s y=10
  ·have e1:(decide (bk s y=10) || decide (bk s y=-1))=true:=by
    rw [Th,Tz,Tz]
    rcases hc with h|h
    ·exact .inr ((dJ s y).2 h)
    ·by_cases e:y<s.size
     ·exact .inl ((bL s y 10 (by decide) e).2 h)
     ·exact .inr ((dJ s y).2 (by omega))
   rw [e1] at I;have G:Hid (Ta 109 #[.int .i32 (bk s y)] U fun e w'=>e=.returned (.bool true)/\w'=U):=I;have J:Hid (ap s a 4=(a,101)):=pk y3 Q.out.2.2 hc;clear I e1 hc Z
   go_wp2_with (first|(go_at_call 109;refine G.out.mono ?_;rintro e w2 ⟨rfl,C⟩;replace C:=C.symm;subst C))
   simp only [Exit.jump]
   go_ret
   rw [J.out];exact ⟨rfl,TP.bad J.out (by decide) Q.out.2.1 y2 Q.out.1 (by intro h;cases h)⟩
  ·obtain ⟨d1,d2⟩:y<s.size/\ay s y≠10:=⟨by omega,fun h=>hc (.inr h)⟩
   have e1:(decide (bk s y=10) || decide (bk s y=-1))=false:=by
    rw [U3,Uf,Uf];exact ⟨fun h=>d2 ((bL s y 10 (by decide) d1).1 h),fun h=>by have:=(dJ s y).1 h;omega⟩
   rw [e1] at I;have G:Hid (Ta 109 #[.int .i32 (bk s y)] U fun e w'=>e=.returned (.bool false)/\w'=U):=I;have H:Hid (Ta 108 #[.pointer (some ⟨g,0,none⟩)] U fun e w'=>e=.returned (.bool (decide (65535<y+fw s y-a)))/\Rs w0 w' g s y a f l):=Z;rw [cr d1] at H;clear hc Z e1 I
   by_cases S:65535<y+dw s y-a
   ·have J:Hid (ap s a 4=(a,103)):=E9 d1 Q.out.2.2 d2 S;rw [Tf S] at H;clear S
    go_wp2_with (first|(go_at_call 109;refine G.out.mono ?_;rintro e w2 ⟨rfl,C⟩;replace C:=C.symm;subst C)|(go_at_call 108;refine H.out.mono ?_;rintro e w3 ⟨rfl,hr3⟩;have z3:=HC.out _ _ hr3))
    simp only [Exit.jump]
    go_ret
    rw [J.out];exact ⟨rfl,TP.bad J.out (by decide) Q.out.2.1 y2 hr3 (by intro h;cases h)⟩
   ·rw [Tg S] at H;have O:=GY s y d1
    by_cases F:gy s y=true
    ·have M:Hid (∀V,Ta 110 #[.int .i32 (bk s y)] V fun e w'=>e=.returned (.bool true)/\w'=V):=fun V=>by
      rw [<-F,<-O];exact fo _ _
     have J:Hid (ap s a 4=(y,102)):=by
      refine ju d1 Q.out.2.2 d2 S ?_ (.inl F);rintro ⟨h,_⟩;unfold gy at F;rw [(bp s y (by omega)).2.1,h] at F;rw [Tc] at F;exact absurd F.2 (by decide)
     clear S F O
     go_wp2_with (first|(go_at_call 109;refine G.out.mono ?_;rintro e w2 ⟨rfl,C⟩;replace C:=C.symm;subst C)|(go_at_call 108;refine H.out.mono ?_;rintro e w3 ⟨rfl,hr3⟩;have z3:=HC.out _ _ hr3)|(go_at_call 110;refine (M.out _).mono ?_;rintro e w4 ⟨rfl,C⟩;replace C:=C.symm;subst C))
     simp only [Exit.jump]
     go_ret
     rw [J.out];exact ⟨rfl,TP.bad J.out (by decide) Q.out.2.1 y2 hr3 (fun _=>rfl)⟩
    ·have Y:gy s y=false:=by simpa using F
     have M:Hid (∀V,Ta 110 #[.int .i32 (bk s y)] V fun e w'=>e=.returned (.bool false)/\w'=V):=fun V=>by
      rw [<-Y,<-O];exact fo _ _
     by_cases hq:ay s y=34
     ·have J:Hid (ap s a 4=(y+1,0)):=Ai d1 Q.out.2.2 d2 S ⟨hq,.inl rfl⟩;have aa:bk s y=34:=(bL s y 34 (by decide) d1).2 hq;have ad:=(bp s y (by omega)).1
      have af:Hid (∀V,Rs w0 V g s y a f l->Ta 103 #[.pointer (some ⟨g,0,none⟩)] V fun e w'=>e=.returned (.tuple #[])/\Rs w0 w' g s (y+1) a f l):=fun V hV=>by
       have:=cC hV hs y3;rw [cr d1,ad] at this;exact this
      have ag:Hid (∀V,Rs w0 V g s (y+1) a f l->Ta 106 #[.pointer (some ⟨g,0,none⟩),.int .u8 4] V fun e w'=>e=.returned (.int .i64 0)/\Rs w0 w' g s (y+1) a 0 (l++[tv s (bS s 4 a (y+1) f)])):=fun V hV=>dy hV 4 hs (by omega) (by omega) hl (by intro h;cases h)
      rw [aa] at M G;clear S F Y O hq ad
      go_wp2_with (first|(go_at_call 109;refine G.out.mono ?_;rintro e w2 ⟨rfl,C⟩;replace C:=C.symm;subst C)|(go_at_call 108;refine H.out.mono ?_;rintro e w3 ⟨rfl,hr3⟩;have z3:=HC.out _ _ hr3;rw [aa] at z3)|(go_at_call 110;refine (M.out _).mono ?_;rintro e w4 ⟨rfl,C⟩;replace C:=C.symm;subst C)|(go_at_call 103;refine (af.out _ hr3).mono ?_;rintro e w5 ⟨rfl,hr5⟩)|(go_at_call 106;refine (ag.out _ hr5).mono ?_;rintro e w6 ⟨rfl,hr6⟩))
      simp only [Exit.jump]
      go_ret
      rw [J.out];exact ⟨rfl,TP.ok J.out hr6⟩
     ·have aa:(bk s y != 34)=true:=by
       rw [bne_iff_ne];exact fun h=>hq ((bL s y 34 (by decide) d1).1 h)
      have HO:Hid (run (cE s a 34 false) s.size (y+dw s y) (m+1)=ap s a 4):=vL d1 Q.out.2.2 d2 S (fun h=>hq h.1) (by rintro (h|h);exact F h;cases h.1);clear S F Y O hq
      go_wp2_with (first|(go_at_call 109;refine G.out.mono ?_;rintro e w2 ⟨rfl,C⟩;replace C:=C.symm;subst C)|(go_at_call 108;refine H.out.mono ?_;rintro e w3 ⟨rfl,hr3⟩;have z3:=HC.out _ _ hr3)|(go_at_call 110;refine (M.out _).mono ?_;rintro e w4 ⟨rfl,C⟩;replace C:=C.symm;subst C))
      go_step3
      refine ⟨rfl,?_⟩
      try refine ⟨?_,by rw [HX.out.1,hr3.at];have:=HX.out.2;omega⟩
      exact ⟨y,_,_,_,_,_,_,_,_,_,_,_,_,_,_,_,_,_,_,_,_,_,_,_,_,_,_,_,_,_,_,_,_,_,_,_,_,_,_,_,_,_,_,_,_,_,_,_,_,_,_,_,_,_,_,_,_,_,_,_,_,_,_,_,_,_,_,_,_,_,_,_,_,_,⟨y2,d1,Q.out.2.1,hr3,m+1,HO.out⟩,rfl⟩)
structure JC (w0 W:World) (g:Nat) (s:ByteArray) (o:Bool) (k a f:Nat) (l:List Tv) (x:Nat):Prop where
 ax:a<=x
 xs:x<s.size
 bx:bd s x
 rs:Rs w0 W g s x a f l
 h10:o=false->ay s x≠10
 h125:o=true->ay s x≠125
 ful:x+dw s x-a<=65535
 on:∃m,run (bF s a o) s.size x m=ap s a k
theorem JC.next {o:Bool}{k:Nat}(h:JC w0 W g s o k a f l x) (G:Rs w0 W' g s (x+fw s x) a f l) :
  ∃y,x<y/\a<y/\y<=s.size/\y-a<=65535/\bd s y/\Rs w0 W' g s y a f l/\∃m,run (bF s a o) s.size y m=ap s a k:=by
 obtain ⟨O,C,H,Q,I,J,F,m,M⟩:=h;obtain ⟨d,_,d2⟩:=aW s x C;rw [cr C] at G;exact ⟨x+dw s x,by omega,by omega,d2,F,jM H C,G,_,OK m C I J F M⟩
theorem FZ (h:Rs w0 W g s a a f l) (hs:s.size<=2147483647) (ha:a<s.size) (hb:bd s a) (hk:ak s a=7) (hl:l.length<=2147483647) :
  Ta 64 #[.pointer (some ⟨g,0,none⟩)] W fun e w'=>e=.returned (.int .i64 ((ap s a 7).2:Nat))/\TP w0 w' g s 7 a f l:=by
 have hd:ay s a=47:=(OW hk).1;have hE:ap s a 7=run (bF s a false) s.size a 0:=by unfold ap;simp
 have C:=(bp s a (by omega)).1;have ae:cq (ay s a)=false:=by rw [hd];decide
 have S:Hid (JC w0 W g s false 7 a f l a):=⟨gt _,ha,hb,h,fun _=>by omega,fun _=>by omega,by omega,0,hE.symm⟩
 have HT:Hid (∀V x,JC w0 V g s false 7 a f l x->Ta 103 #[.pointer (some ⟨g,0,none⟩)] V fun e w'=>e=.returned (.tuple #[])/\∃y,x<y/\a<y/\y<=s.size/\y-a<=65535/\bd s y/\Rs w0 w' g s y a f l/\∃m,run (bF s a false) s.size y m=ap s a 7):=fun V x hx=>by
  refine (cC hx.rs hs (T5 hx.xs)).mono ?_;rintro e w' ⟨rfl,hr⟩;exact ⟨rfl,hx.next hr⟩
 have ac:Hid (∀V y,Rs w0 V g s y a f l->a<=y->y<=s.size->Ta 108 #[.pointer (some ⟨g,0,none⟩)] V fun e w'=>e=.returned (.bool (decide (65535<y+fw s y-a)))/\Rs w0 w' g s y a f l):=fun V y hr h1 h2=>by
  obtain ⟨aa,ab,v,h3,h4⟩:=hr;refine (gm h3 hs h1 h2 (by by_cases e:y<s.size;rw [cr e];exact (aW s y e).2.1;rw [gE (by omega)];omega)).mono ?_;rintro e w' ⟨rfl,hb⟩;exact ⟨rfl,Rq.below ⟨aa,ab,v,h3,h4⟩ hb⟩
 have HC:Hid (∀V y,Rs w0 V g s y a f l->V.cell? ⟨g,2,none⟩=some (.int .i32 (bk s y))):=fun V y hr=>by
  obtain ⟨aa,ab,v,h3,h4⟩:=hr;exact (Rq.cells h3).2.2.1
 have c2:=HC.out _ _ h;rw [(bL s a 47 (by decide) ha).2 hd] at c2;clear hd hE C h hk
 go_enter Tryz.func64,Tryz.ntmps64
 go_wp2_with fail
 refine Vg 1 (fun a' w'=>∃(x:Nat) (u1 u2 u3 u4 u5 u6 u7 u8 u9 u10 u11 u12 u13 u14 u15 u16 u17 u18 u19 u20 u21 u22 u23 u24 u25 u26 u27 u28 u29 u30 u31 u32 u33 u34 u35 u36 u37 u38 u39 u40 u41:Value),Hid (JC w0 w' g s false 7 a f l x)/\a'={ tmps:=#[.pointer (some ⟨g,0,none⟩),u1,u2,u3,u4,u5,u6,u7,u8,u9,u10,u11,u12,u13,u14,u15,u16,u17,u18,u19,u20,u21,u22,u23,u24,u25,u26,u27,u28,u29,u30,u31,u32,u33,u34,u35,u36,u37,u38,u39,u40,u41],defers:=[] }) (fun _ w'=>s.size-gr w' g 1) rfl ?_ ?_
 rotate_left
 rintro a' w' ⟨x,u1,u2,u3,u4,u5,u6,u7,u8,u9,u10,u11,u12,u13,u14,u15,u16,u17,u18,u19,u20,u21,u22,u23,u24,u25,u26,u27,u28,u29,u30,u31,u32,u33,u34,u35,u36,u37,u38,u39,u40,u41,S,rfl⟩;have HX:Hid (gr w' g 1=x/\x<s.size):=⟨S.out.rs.at,S.out.xs⟩
 rotate_left
 go_wp2_with fail
 go_step3
 all_goals (
  clear c2
  go_wp2_with fail
  refine (HT.out _ _ S.out).mono ?_;rintro e I ⟨rfl,y,y1,O,y3,yb,y4,y5,m,y6⟩;have z2:=HC.out _ _ y5;have J:=ac.out _ _ y5 (T5 O) y3;have M:Hid (Rs w0 I g s y a f l/\bd s y/\run (bF s a false) s.size y m=ap s a 7):=⟨y5,y4,y6⟩;have F:=dM (bk s y) I;clear S y5 y4 y6
  by_cases Y:s.size<=y\/ay s y=10
  ·have U:(decide (bk s y=10) || decide (bk s y=-1))=true:=by
    rw [Th,Tz,Tz]
    rcases Y with h|h
    ·exact .inr ((dJ s y).2 h)
    ·by_cases e:y<s.size
     ·exact .inl ((bL s y 10 (by decide) e).2 h)
     ·exact .inr ((dJ s y).2 (by omega))
   rw [U] at F;have H:Hid (Ta 109 #[.int .i32 (bk s y)] I fun e w'=>e=.returned (.bool true)/\w'=I):=F;have Q:Hid (ap s a 7=(y,0)):=G8 y3 M.out.2.2 Y;have ad:Hid (Ta 106 #[.pointer (some ⟨g,0,none⟩),.int .u8 7] I fun e w'=>e=.returned (.int .i64 0)/\Rs w0 w' g s y a 0 (l++[tv s (bS s 7 a y f)])):=dy M.out.1 7 hs (T5 O) y3 hl (fun _=>⟨O,ae⟩);clear F U Y J
   go_wp2_with (first|(go_at_call 109;refine H.out.mono ?_;rintro e w2 ⟨rfl,C⟩;replace C:=C.symm;subst C)|(go_at_call 106;refine ad.out.mono ?_;rintro e w6 ⟨rfl,hr6⟩))
   simp only [Exit.jump]
   go_ret
   rw [Q.out];exact ⟨rfl,TP.ok Q.out hr6⟩
  ·obtain ⟨d1,d2⟩:y<s.size/\ay s y≠10:=⟨by omega,fun h=>Y (.inr h)⟩
   have U:(decide (bk s y=10) || decide (bk s y=-1))=false:=by
    rw [U3,Uf,Uf];exact ⟨fun h=>d2 ((bL s y 10 (by decide) d1).1 h),fun h=>by have:=(dJ s y).1 h;omega⟩
   rw [U] at F;have H:Hid (Ta 109 #[.int .i32 (bk s y)] I fun e w'=>e=.returned (.bool false)/\w'=I):=F;have G:Hid (Ta 108 #[.pointer (some ⟨g,0,none⟩)] I fun e w'=>e=.returned (.bool (decide (65535<y+fw s y-a)))/\Rs w0 w' g s y a f l):=J;rw [cr d1] at G;clear Y J U F
   by_cases Z:65535<y+dw s y-a
   ·have Q:Hid (ap s a 7=(a,103)):=xk m d1 (fun _=>d2) (T5 O) yb Z M.out.2.2;rw [Tf Z] at G;clear Z
    go_wp2_with (first|(go_at_call 109;refine H.out.mono ?_;rintro e w2 ⟨rfl,C⟩;replace C:=C.symm;subst C)|(go_at_call 108;refine G.out.mono ?_;rintro e w3 ⟨rfl,hr3⟩;have z3:=HC.out _ _ hr3))
    simp only [Exit.jump]
    go_ret
    rw [Q.out];exact ⟨rfl,TP.bad Q.out (by decide) M.out.2.1 (T5 O) hr3 (by intro h;cases h)⟩
   ·have HO:Hid (y+dw s y-a<=65535):=by show _<=_;omega
    rw [Tg Z] at G;clear Z
    go_wp2_with (first|(go_at_call 109;refine H.out.mono ?_;rintro e w2 ⟨rfl,C⟩;replace C:=C.symm;subst C)|(go_at_call 108;refine G.out.mono ?_;rintro e w3 ⟨rfl,hr3⟩;have z3:=HC.out _ _ hr3))
    go_step3
    refine ⟨rfl,?_⟩
    try refine ⟨?_,by rw [HX.out.1,hr3.at];have:=HX.out.2;omega⟩
    exact ⟨y,_,_,_,_,_,_,_,_,_,_,_,_,_,_,_,_,_,_,_,_,_,_,_,_,_,_,_,_,_,_,_,_,_,_,_,_,_,_,_,_,_,⟨T5 O,d1,M.out.2.1,hr3,fun _=>d2,fun h=>(by cases h),HO.out,m,M.out.2.2⟩,rfl⟩)
theorem DG (h:Rs w0 W g s a a f l) (hs:s.size<=2147483647) (ha:a<s.size) (hb:bd s a) (hk:ak s a=8) (hl:l.length<=2147483647) :
  Ta 64 #[.pointer (some ⟨g,0,none⟩)] W fun e w'=>e=.returned (.int .i64 ((ap s a 8).2:Nat))/\TP w0 w' g s 8 a f l:=by
 have hd:ay s a=123:=Qx hk;have hE:ap s a 8=run (bF s a true) s.size a 0:=by unfold ap;simp
 have hw:=(bp s a (by omega)).1;have ag:cq (ay s a)=false:=by rw [hd];decide
 have M:Hid (JC w0 W g s true 8 a f l a):=⟨gt _,ha,hb,h,fun _=>by omega,fun _=>by omega,by omega,0,hE.symm⟩
 have HT:Hid (∀V x,JC w0 V g s true 8 a f l x->Ta 103 #[.pointer (some ⟨g,0,none⟩)] V fun e w'=>e=.returned (.tuple #[])/\∃y,x<y/\a<y/\y<=s.size/\y-a<=65535/\bd s y/\Rs w0 w' g s y a f l/\∃m,run (bF s a true) s.size y m=ap s a 8):=fun V x hx=>by
  refine (cC hx.rs hs (T5 hx.xs)).mono ?_;rintro e w' ⟨rfl,Y⟩;exact ⟨rfl,hx.next Y⟩
 have ad:Hid (∀V y,Rs w0 V g s y a f l->a<=y->y<=s.size->Ta 108 #[.pointer (some ⟨g,0,none⟩)] V fun e w'=>e=.returned (.bool (decide (65535<y+fw s y-a)))/\Rs w0 w' g s y a f l):=fun V y Y h1 h2=>by
  obtain ⟨aa,ab,v,h3,h4⟩:=Y;refine (gm h3 hs h1 h2 (by by_cases e:y<s.size;rw [cr e];exact (aW s y e).2.1;rw [gE (by omega)];omega)).mono ?_;rintro e w' ⟨rfl,hb⟩;exact ⟨rfl,Rq.below ⟨aa,ab,v,h3,h4⟩ hb⟩
 have S:Hid (∀V y,Rs w0 V g s y a f l->V.cell? ⟨g,2,none⟩=some (.int .i32 (bk s y))):=fun V y Y=>by
  obtain ⟨aa,ab,v,h3,h4⟩:=Y;exact (Rq.cells h3).2.2.1
 have c2:=S.out _ _ h;rw [(bL s a 123 (by decide) ha).2 hd] at c2;clear hd hE hw h hk
 go_enter Tryz.func64,Tryz.ntmps64
 go_wp2_with fail
 refine Vg 0 (fun a' w'=>∃(x:Nat) (u1 u2 u3 u4 u5 u6 u7 u8 u9 u10 u11 u12 u13 u14 u15 u16 u17 u18 u19 u20 u21 u22 u23 u24 u25 u26 u27 u28 u29 u30 u31 u32 u33 u34 u35 u36 u37 u38 u39 u40 u41:Value),Hid (JC w0 w' g s true 8 a f l x)/\a'={ tmps:=#[.pointer (some ⟨g,0,none⟩),u1,u2,u3,u4,u5,u6,u7,u8,u9,u10,u11,u12,u13,u14,u15,u16,u17,u18,u19,u20,u21,u22,u23,u24,u25,u26,u27,u28,u29,u30,u31,u32,u33,u34,u35,u36,u37,u38,u39,u40,u41],defers:=[] }) (fun _ w'=>s.size-gr w' g 1) rfl ?_ ?_
 ·go_wp2_with fail
  go_step3
  exact ⟨rfl,a,_,_,_,_,_,_,_,_,_,_,_,_,_,_,_,_,_,_,_,_,_,_,_,_,_,_,_,_,_,_,_,_,_,_,_,_,_,_,_,_,_,M,rfl⟩
 ·rintro a' w' ⟨x,u1,u2,u3,u4,u5,u6,u7,u8,u9,u10,u11,u12,u13,u14,u15,u16,u17,u18,u19,u20,u21,u22,u23,u24,u25,u26,u27,u28,u29,u30,u31,u32,u33,u34,u35,u36,u37,u38,u39,u40,u41,M,rfl⟩;have HX:Hid (gr w' g 1=x/\x<s.size):=⟨M.out.rs.at,M.out.xs⟩;clear c2
  go_wp2_with fail
  refine (HT.out _ _ M.out).mono ?_;rintro e w1 ⟨rfl,y,y1,Z,y3,yb,y4,y5,m,y6⟩;have z2:=S.out _ _ y5;have I:=ad.out _ _ y5 (T5 Z) y3;have H:Hid (Rs w0 w1 g s y a f l/\bd s y/\run (bF s a true) s.size y m=ap s a 8):=⟨y5,y4,y6⟩;clear M y5 y4 y6
  by_cases U:s.size<=y
  ·rw [(dJ s y).2 U] at z2;have G:Hid (ap s a 8=(a,101)):=G7 y3 H.out.2.2 U;clear U I
   go_wp2_with fail
   simp only [Exit.jump]
   go_ret
   rw [G.out];exact ⟨rfl,TP.bad G.out (by decide) H.out.2.1 (T5 Z) H.out.1 (by intro h;cases h)⟩
  ·have d1:y<s.size:=by omega
   have e1:(bk s y == -1)=false:=by rw [Tq];exact fun h=>U ((dJ s y).1 h)
   have F:Hid (Ta 108 #[.pointer (some ⟨g,0,none⟩)] w1 fun e w'=>e=.returned (.bool (decide (65535<y+fw s y-a)))/\Rs w0 w' g s y a f l):=I;rw [cr d1] at F;clear U I
   by_cases O:65535<y+dw s y-a
   ·have G:Hid (ap s a 8=(a,103)):=xk m d1 (by intro h;cases h) (T5 Z) yb O H.out.2.2;rw [Tf O] at F;clear O
    go_wp2_with (first|(go_at_call 108;refine F.out.mono ?_;rintro e w3 ⟨rfl,C⟩;have z3:=S.out _ _ C))
    simp only [Exit.jump]
    go_ret
    rw [G.out];exact ⟨rfl,TP.bad G.out (by decide) H.out.2.1 (T5 Z) C (by intro h;cases h)⟩
   ·rw [Tg O] at F
    by_cases Q:ay s y=125
    ·have ac:=(bp s y (by omega)).1;have G:Hid (ap s a 8=(y+1,0)):=Dv d1 H.out.2.2 Q (by omega);have J:bk s y=125:=(bL s y 125 (by decide) d1).2 Q
     have ae:Hid (∀V,Rs w0 V g s y a f l->Ta 103 #[.pointer (some ⟨g,0,none⟩)] V fun e w'=>e=.returned (.tuple #[])/\Rs w0 w' g s (y+1) a f l):=fun V hV=>by
      have:=cC hV hs y3;rw [cr d1,ac] at this;exact this
     have af:Hid (∀V,Rs w0 V g s (y+1) a f l->Ta 106 #[.pointer (some ⟨g,0,none⟩),.int .u8 8] V fun e w'=>e=.returned (.int .i64 0)/\Rs w0 w' g s (y+1) a 0 (l++[tv s (bS s 8 a (y+1) f)])):=fun V hV=>dy hV 8 hs (by omega) (by omega) hl (by intro h;cases h)
     rw [J] at z2;clear O Q ac e1
     go_wp2_with (first|(go_at_call 108;refine F.out.mono ?_;rintro e w3 ⟨rfl,C⟩;have z3:=S.out _ _ C;rw [J] at z3)|(go_at_call 103;refine (ae.out _ C).mono ?_;rintro e w5 ⟨rfl,hr5⟩)|(go_at_call 106;refine (af.out _ hr5).mono ?_;rintro e w6 ⟨rfl,hr6⟩))
     simp only [Exit.jump]
     go_ret
     rw [G.out];exact ⟨rfl,TP.ok G.out hr6⟩
    ·have J:(bk s y != 125)=true:=by
      rw [bne_iff_ne];exact fun h=>Q ((bL s y 125 (by decide) d1).1 h)
     have HO:Hid (y+dw s y-a<=65535/\ay s y≠125):=⟨by omega,Q⟩;clear O Q
     go_wp2_with (first|(go_at_call 108;refine F.out.mono ?_;rintro e w3 ⟨rfl,C⟩;have z3:=S.out _ _ C))
     go_step3
     refine ⟨rfl,⟨y,_,_,_,_,_,_,_,_,_,_,_,_,_,_,_,_,_,_,_,_,_,_,_,_,_,_,_,_,_,_,_,_,_,_,_,_,_,_,_,_,_,⟨T5 Z,d1,H.out.2.1,C,fun h=>(by cases h),fun _=>HO.out.2,HO.out.1,m,H.out.2.2⟩,rfl⟩,?_⟩;rw [HX.out.1,C.at];have this:=HX.out.2;omega
theorem A5 (hc:s.size<=y\/ay s y=10):(decide (bk s y=10) || decide (bk s y=-1))=true:=by
 rw [Th,Tz,Tz]
 rcases hc with h|h
 ·exact .inr ((dJ s y).2 h)
 ·by_cases e:y<s.size
  ·exact .inl ((bL s y 10 (by decide) e).2 h)
  ·exact .inr ((dJ s y).2 (by omega))
theorem wX (d1:y<s.size) (d2:ay s y≠10):(decide (bk s y=10) || decide (bk s y=-1))=false:=by
 rw [U3,Uf,Uf];exact ⟨fun h=>d2 ((bL s y 10 (by decide) d1).1 h),fun h=>by have:=(dJ s y).1 h;omega⟩
theorem Hn (h:Rs w0 W g s a a f l) (hs:s.size<=2147483647) (ha:a<s.size) (hb:bd s a) (hk:ak s a=5) (hl:l.length<=2147483647) :
  Ta 62 #[.pointer (some ⟨g,0,none⟩)] W fun e w'=>e=.returned (.int .i64 ((ap s a 5).2:Nat))/\TP w0 w' g s 5 a f l:=by
 have hd:=Qy hk;have hE:run (cE s a 39 true) s.size (a+1) 0=ap s a 5:=by unfold ap;simp
 have C:=(bp s a (by omega)).1;have U:bd s (a+1):=(kj s a ha (by omega)).2;have HT:Hid (∀V y,Rs w0 V g s y a f l->y<=s.size->Ta 103 #[.pointer (some ⟨g,0,none⟩)] V fun e w'=>e=.returned (.tuple #[])/\Rs w0 w' g s (y+fw s y) a f l):=fun V y hV hy=>cC hV hs hy
 have HC:Hid (∀V y,Rs w0 V g s y a f l->V.cell? ⟨g,2,none⟩=some (.int .i32 (bk s y))):=fun V y hr=>by
  obtain ⟨am,an,v,h3,h4⟩:=hr;exact (Rq.cells h3).2.2.1
 have c2:=HC.out _ _ h;rw [(bL s a 39 (by decide) ha).2 hd] at c2;have HR:Hid (Rs w0 W g s a a f l/\fw s a=1):=⟨h,by rw [cr ha];exact C⟩;clear hd C h hk
 go_enter Tryz.func62,Tryz.ntmps62
 go_wp2_with fail
 refine Vg 0 (fun a' w'=>∃(u1 u2 u3 u4 u5 u6 u7 u8 u9 u10 u11 u12 u13 u14 u15 u16 u17 u18 u19 u20 u21 u22 u23 u24 u25 u26 u27 u28 u29 u30 u31 u32 u33 u34 u35 u36 u37 u38 u39 u40 u41 u42 u43 u44 u45 u46 u47 u48 u49 u50 u51 u52 u53 u54 u55 u56 u57 u58 u59 u60 u61 u62 u63 u64 u65 u66 u67 u68 u69 u70 u71 u72 u73:Value),Hid (Rs w0 w' g s a a f l)/\a'={ tmps:=#[.pointer (some ⟨g,0,none⟩),u1,u2,u3,u4,u5,u6,u7,u8,u9,u10,u11,u12,u13,u14,u15,u16,u17,u18,u19,u20,u21,u22,u23,u24,u25,u26,u27,u28,u29,u30,u31,u32,u33,u34,u35,u36,u37,u38,u39,u40,u41,u42,u43,u44,u45,u46,u47,u48,u49,u50,u51,u52,u53,u54,u55,u56,u57,u58,u59,u60,u61,u62,u63,u64,u65,u66,u67,u68,u69,u70,u71,u72,u73],defers:=[] }) (fun _ w'=>0) rfl ?_ ?_
 ·go_wp2_with fail
  go_step3
  exact ⟨rfl,_,_,_,_,_,_,_,_,_,_,_,_,_,_,_,_,_,_,_,_,_,_,_,_,_,_,_,_,_,_,_,_,_,_,_,_,_,_,_,_,_,_,_,_,_,_,_,_,_,_,_,_,_,_,_,_,_,_,_,_,_,_,_,_,_,_,_,_,_,_,_,_,_,HR.out.1,rfl⟩
 ·rintro a' w' ⟨u1,u2,u3,u4,u5,u6,u7,u8,u9,u10,u11,u12,u13,u14,u15,u16,u17,u18,u19,u20,u21,u22,u23,u24,u25,u26,u27,u28,u29,u30,u31,u32,u33,u34,u35,u36,u37,u38,u39,u40,u41,u42,u43,u44,u45,u46,u47,u48,u49,u50,u51,u52,u53,u54,u55,u56,u57,u58,u59,u60,u61,u62,u63,u64,u65,u66,u67,u68,u69,u70,u71,u72,u73,HJ,rfl⟩;clear c2
  go_wp2_with fail
  refine (HT.out _ _ HJ.out (by omega)).mono ?_;rintro e w1 ⟨rfl,y5⟩;rw [HR.out.2] at y5;have z2:=HC.out _ _ y5;have HY:Hid (Rs w0 w1 g s (a+1) a f l):=y5;have S:Hid (run (cE s a 39 true) s.size (a+1) 0=ap s a 5):=hE;obtain ⟨y,hy⟩:∃y,a+1=y:=⟨_,rfl⟩;rw [hy] at z2 HY S U;have y3:y<=s.size:=by omega
  have y2:a<=y:=by omega
  have au:y<=a+1:=by omega
  clear HJ y5 hE hy
  by_cases Q:s.size<=y\/ay s y=10
  ·have H:Hid (Ta 109 #[.int .i32 (bk s y)] w1 fun e w'=>e=.returned (.bool true)/\w'=w1):=by rw [<-A5 Q];exact dM _ _
   have G:Hid (ap s a 5=(a,101)):=pk y3 S.out Q;clear Q
   go_wp2_with (first|(go_at_call 109;refine H.out.mono ?_;rintro e w2 ⟨rfl,C⟩;replace C:=C.symm;subst C))
   simp only [Exit.jump]
   go_ret
   rw [G.out];exact ⟨rfl,TP.bad G.out (by decide) U y2 HY.out (by intro h;cases h)⟩
  ·obtain ⟨d1,d2⟩:y<s.size/\ay s y≠10:=⟨by omega,fun h=>Q (.inr h)⟩;have H:Hid (Ta 109 #[.int .i32 (bk s y)] w1 fun e w'=>e=.returned (.bool false)/\w'=w1):=by rw [<-wX d1 d2];exact dM _ _
   have Y:=GY s y d1;obtain ⟨aq,ar,ae⟩:=aW s y d1;clear Q
   by_cases M:gy s y=true
   ·have J:Hid (∀V,Ta 110 #[.int .i32 (bk s y)] V fun e w'=>e=.returned (.bool true)/\w'=V):=fun V=>by
     rw [<-M,<-Y];exact fo _ _
    have G:Hid (ap s a 5=(y,102)):=ju d1 S.out d2 (by omega) (by rintro ⟨_,h|h⟩ <;> cases h) (.inl M);clear M Y
    go_wp2_with (first|(go_at_call 109;refine H.out.mono ?_;rintro e w2 ⟨rfl,C⟩;replace C:=C.symm;subst C)|(go_at_call 110;refine (J.out _).mono ?_;rintro e w4 ⟨rfl,C⟩;replace C:=C.symm;subst C))
    simp only [Exit.jump]
    go_ret
    rw [G.out];exact ⟨rfl,TP.bad G.out (by decide) U y2 HY.out (fun _=>rfl)⟩
   ·have Z:gy s y=false:=by simpa using M
    have J:Hid (∀V,Ta 110 #[.int .i32 (bk s y)] V fun e w'=>e=.returned (.bool false)/\w'=V):=fun V=>by
     rw [<-Z,<-Y];exact fo _ _
    by_cases O:ay s y=39
    ·have G:Hid (ap s a 5=(y,102)):=ju d1 S.out d2 (by omega) (by rintro ⟨_,h|h⟩ <;> cases h) (.inr ⟨rfl,.inr O⟩);have ag:bk s y=39:=(bL s y 39 (by decide) d1).2 O;rw [ag] at z2 J H;clear M Z Y O
     go_wp2_with (first|(go_at_call 109;refine H.out.mono ?_;rintro e w2 ⟨rfl,C⟩;replace C:=C.symm;subst C)|(go_at_call 110;refine (J.out _).mono ?_;rintro e w4 ⟨rfl,C⟩;replace C:=C.symm;subst C))
     simp only [Exit.jump]
     go_ret
     rw [G.out];exact ⟨rfl,TP.bad G.out (by decide) U y2 HY.out (fun _=>rfl)⟩
    ·have ag:(bk s y == 39)=false:=by
      rw [Tq];exact fun h=>O ((bL s y 39 (by decide) d1).1 h)
     have ac:=vL d1 S.out d2 (by omega) (by rintro ⟨h,_⟩;exact O h) (by rintro (h|⟨_,h|h⟩);exact M h;cases h;exact O h)
     have aa:Hid (∀V,Rs w0 V g s y a f l->Ta 103 #[.pointer (some ⟨g,0,none⟩)] V fun e w'=>e=.returned (.tuple #[])/\Rs w0 w' g s (y+dw s y) a f l):=fun V hV=>by
      have:=cC hV hs y3;rw [cr d1] at this;exact this
     have ad:bd s (y+dw s y):=jM U d1;obtain ⟨z,hz⟩:∃z,y+dw s y=z:=⟨_,rfl⟩;rw [hz] at ac aa ad ae;have ah:a<=z/\z<=a+5:=by omega
     clear M Z Y O hz;have ab:Hid (run (cE s a 39 true) s.size z (0+1)=ap s a 5):=ac;clear ac
     by_cases Q:s.size<=z\/ay s z=10
     ·have I:Hid (∀V,Ta 109 #[.int .i32 (bk s z)] V fun e w'=>e=.returned (.bool true)/\w'=V):=fun V=>by rw [<-A5 Q];exact dM _ _
      have G:Hid (ap s a 5=(a,101)):=pk ae ab.out Q;clear Q
      go_wp2_with (first|(go_at_call 103;refine (aa.out _ HY.out).mono ?_;rintro e w5 ⟨rfl,F⟩;have z5:=HC.out _ _ F)|(go_at_call 109;have hg:=F;clear hg;refine (I.out _).mono ?_;rintro e w6 ⟨rfl,C⟩;replace C:=C.symm;subst C)|(go_at_call 109;refine H.out.mono ?_;rintro e w2 ⟨rfl,C⟩;replace C:=C.symm;subst C)|(go_at_call 110;refine (J.out _).mono ?_;rintro e w4 ⟨rfl,C⟩;replace C:=C.symm;subst C))
      simp only [Exit.jump]
      go_ret
      rw [G.out];exact ⟨rfl,TP.bad G.out (by decide) ad ah.1 F (by intro h;cases h)⟩
     ·obtain ⟨e1,e2⟩:z<s.size/\ay s z≠10:=⟨by omega,fun h=>Q (.inr h)⟩;have I:Hid (∀V,Ta 109 #[.int .i32 (bk s z)] V fun e w'=>e=.returned (.bool false)/\w'=V):=fun V=>by rw [<-wX e1 e2];exact dM _ _
      have dz:=aW s z e1;clear Q
      by_cases O:ay s z=39
      ·have G:Hid (ap s a 5=(z+1,0)):=Ai e1 ab.out e2 (by omega) ⟨O,.inr rfl⟩;have qz:bk s z=39:=(bL s z 39 (by decide) e1).2 O;have af:=(bp s z (by omega)).1
       have ai:Hid (∀V,Rs w0 V g s z a f l->Ta 103 #[.pointer (some ⟨g,0,none⟩)] V fun e w'=>e=.returned (.tuple #[])/\Rs w0 w' g s (z+1) a f l):=fun V hV=>by
        have:=cC hV hs ae;rw [cr e1,af] at this;exact this
       have aj:Hid (∀V,Rs w0 V g s (z+1) a f l->Ta 106 #[.pointer (some ⟨g,0,none⟩),.int .u8 5] V fun e w'=>e=.returned (.int .i64 0)/\Rs w0 w' g s (z+1) a 0 (l++[tv s (bS s 5 a (z+1) f)])):=fun V hV=>dy hV 5 hs (by omega) (by omega) hl (by intro h;cases h)
       rw [qz] at I;clear O af dz
       go_wp2_with (first|(go_at_call 103;have hg:=F;clear hg;refine (ai.out _ F).mono ?_;rintro e w7 ⟨rfl,al⟩)|(go_at_call 103;refine (aa.out _ HY.out).mono ?_;rintro e w5 ⟨rfl,F⟩;have z5:=HC.out _ _ F;rw [qz] at z5)|(go_at_call 109;have hg:=F;clear hg;refine (I.out _).mono ?_;rintro e w6 ⟨rfl,C⟩;replace C:=C.symm;subst C)|(go_at_call 109;refine H.out.mono ?_;rintro e w2 ⟨rfl,C⟩;replace C:=C.symm;subst C)|(go_at_call 110;refine (J.out _).mono ?_;rintro e w4 ⟨rfl,C⟩;replace C:=C.symm;subst C)|(go_at_call 106;refine (aj.out _ al).mono ?_;rintro e w8 ⟨rfl,hr8⟩))
       simp only [Exit.jump]
       go_ret
       rw [G.out];exact ⟨rfl,TP.ok G.out hr8⟩
      ·have G:Hid (ap s a 5=(z,102)):=ju e1 ab.out e2 (by omega) (by rintro ⟨h,_⟩;exact O h) (.inr ⟨rfl,.inl rfl⟩)
       have qz:(bk s z != 39)=true:=by
        rw [bne_iff_ne];exact fun h=>O ((bL s z 39 (by decide) e1).1 h)
       clear O dz
       go_wp2_with (first|(go_at_call 103;refine (aa.out _ HY.out).mono ?_;rintro e w5 ⟨rfl,F⟩;have z5:=HC.out _ _ F)|(go_at_call 109;have hg:=F;clear hg;refine (I.out _).mono ?_;rintro e w6 ⟨rfl,C⟩;replace C:=C.symm;subst C)|(go_at_call 109;refine H.out.mono ?_;rintro e w2 ⟨rfl,C⟩;replace C:=C.symm;subst C)|(go_at_call 110;refine (J.out _).mono ?_;rintro e w4 ⟨rfl,C⟩;replace C:=C.symm;subst C))
       simp only [Exit.jump]
       go_ret
       rw [G.out];exact ⟨rfl,TP.bad G.out (by decide) ad ah.1 F (fun _=>rfl)⟩
end Go.Proofs.YtcjiapphbpiffaaGreatDoor.Lx
