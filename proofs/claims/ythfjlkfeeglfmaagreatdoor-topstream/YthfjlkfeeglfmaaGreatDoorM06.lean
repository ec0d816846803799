import Derived.Lib.OthersKept
import Derived.Test.YthfjlkfeeglfmaaGreatDoorM05
set_option linter.all false
set_option maxHeartbeats 4000000
set_option maxRecDepth 100000
namespace Go.Proofs.YthfjlkfeeglfmaaGreatDoor.Lx
open Go.Proofs.Tryz
open Go.RowKit
variable {s:ByteArray}{a g f y b:Nat}{w0 W:World}{l:List Tv}
def DJ (h:Rs w0 W g s a a f l) (hs:s.size<=2147483647) (ha:a<s.size) (hb:bd s a) (hk:au s a=8) (hl:l.length<=2147483647) :
  Sa 131 #[.pointer (some (Tw g 0))] W λe w'=>Uk e (Tu ((aq s a 8).2:Nat))/\TP w0 w' g s 8 a f l:=by
 have hd:aK s a=123:=PR hk;have hE:aq s a 8=run (cP s a true) s.size a 0:=by unfold aq;simp
 have hw:=(bZ s a (by omega)).1;have ag:dY (aK s a)=false:=by rw[hd];decide
 have O:Hid (JC w0 W g s true 8 a f l a):=⟨ge _,ha,hb,h,λ_=>by omega,λ_=>by omega,by omega,0,hE.symm⟩
 have HT:Hid (∀V x,JC w0 V g s true 8 a f l x->Sa 188 #[.pointer (some (Tw g 0))] V λe w'=>Uk e (.tuple #[])/\∃y,x<y/\a<y/\y<=s.size/\y-a<=65535/\bd s y/\Rs w0 w' g s y a f l/\∃m,run (cP s a true) s.size y m=aq s a 8):=λV x hx=>by
  refine(ce hx.rs hs (Tl hx.xs)).mono ?_;rintro e w'⟨rfl,Y⟩;exact⟨rfl,hx.next Y⟩
 have ad:Hid (∀V y,Rs w0 V g s y a f l->a<=y->y<=s.size->Sa 193 #[.pointer (some (Tw g 0))] V λe w'=>Uk e (.bool (decide (65535<y+eH s y-a)))/\Rs w0 w' g s y a f l):=λV y Y h1 h2=>by
  obtain⟨aa,ab,v,h3,h4⟩:=Y;refine(fD h3 hs h1 h2 (by by_cases e:y<s.size;rw[bW e];exact(aQ s y e).2.1;rw[fO (by omega)];omega)).mono ?_;rintro e w'⟨rfl,hb⟩;exact⟨rfl,Rq.below ⟨aa,ab,v,h3,h4⟩ hb⟩
 have HC:Hid (∀V y,Rs w0 V g s y a f l->V.cell? (Tw g 2)=some (.int .i32 (aY s y))):=λV y Y=>by
  obtain⟨aa,ab,v,h3,h4⟩:=Y;exact(Rq.cells h3).2.2.1
 have c2:=HC.out _ _ h;rw[(bB s a 123 (by decide) ha).2 hd]at c2;clear hd hE hw h hk;go_enter func131,ntmps131;(go_wp2_with fail);refine Ux 0 (λa' w'=>∃(x:Nat) (u1 u2 u3 u4 u5 u6 u7 u8 u9 u10 u11 u12 u13 u14 u15 u16 u17 u18 u19 u20 u21 u22 u23 u24 u25 u26 u27 u28 u29 u30 u31 u32 u33 u34 u35 u36 u37 u38 u39 u40 u41:Value),Hid (JC w0 w' g s true 8 a f l x)/\a'={ tmps:=#[.pointer (some (Tw g 0)),u1,u2,u3,u4,u5,u6,u7,u8,u9,u10,u11,u12,u13,u14,u15,u16,u17,u18,u19,u20,u21,u22,u23,u24,u25,u26,u27,u28,u29,u30,u31,u32,u33,u34,u35,u36,u37,u38,u39,u40,u41],defers:=[] }) (λ_ w'=>s.size-dD w' g 1) rfl ?_ ?_
 ·go_wp2_with fail
  go_step3
  exact⟨rfl,a,_,_,_,_,_,_,_,_,_,_,_,_,_,_,_,_,_,_,_,_,_,_,_,_,_,_,_,_,_,_,_,_,_,_,_,_,_,_,_,_,_,O,rfl⟩
 ·rintro a' w'⟨x,u1,u2,u3,u4,u5,u6,u7,u8,u9,u10,u11,u12,u13,u14,u15,u16,u17,u18,u19,u20,u21,u22,u23,u24,u25,u26,u27,u28,u29,u30,u31,u32,u33,u34,u35,u36,u37,u38,u39,u40,u41,O,rfl⟩;have HX:Hid (dD w' g 1=x/\x<s.size):=⟨O.out.rs.at,O.out.xs⟩;clear c2;(go_wp2_with fail);refine(HT.out _ _ O.out).mono ?_;rintro e w1⟨rfl,y,y1,Z,y3,yb,y4,y5,m,y6⟩;have z2:=HC.out _ _ y5;have J:=ad.out _ _ y5 (Tl Z) y3;have I:Hid (Rs w0 w1 g s y a f l/\bd s y/\run (cP s a true) s.size y m=aq s a 8):=⟨y5,y4,y6⟩;clear O y5 y4 y6
  by_cases hc:s.size<=y
  ·rw[(cN s y).2 hc]at z2;have H:=aW (Ht y3 I.out.2.2 hc);clear hc J;(go_wp2_with fail);simp only[Exit.jump];go_ret;rw[H.out];exact⟨rfl,TP.bad H.out (by decide) I.out.2.1 (Tl Z) I.out.1 (by intro h;cases h)⟩
  ·have d1:y<s.size:=by omega
   have e1:(aY s y == -1)=false:=by rw[Su];exact λh=>hc ((cN s y).1 h)
   have G:=aW J;rw[bW d1]at G;clear hc J
   by_cases Q:65535<y+dw s y-a
   ·have H:=aW (xi m d1 (by intro h;cases h) (Tl Z) yb Q I.out.2.2);rw[R8 Q]at G;clear Q
    go_wp2_with(first|(go_at_call 193;refine G.out.mono ?_;rintro e w3⟨rfl,u⟩;have z3:=HC.out _ _ u))
    simp only[Exit.jump];go_ret;rw[H.out];exact⟨rfl,TP.bad H.out (by decide) I.out.2.1 (Tl Z) u (by intro h;cases h)⟩
   ·rw[R9 Q]at G
    by_cases S:aK s y=125
    ·have ac:=(bZ s y (by omega)).1;have H:=aW (Dz d1 I.out.2.2 S (by omega));have M:aY s y=125:=(bB s y 125 (by decide) d1).2 S
     have ae:Hid (∀V,Rs w0 V g s y a f l->Sa 188 #[.pointer (some (Tw g 0))] V λe w'=>Uk e (.tuple #[])/\Rs w0 w' g s (y+1) a f l):=λV hV=>by
      have:=ce hV hs y3;rw[bW d1,ac]at this;exact this
     have af:=aW λV (hV:Rs w0 V g s (y+1) a f l)=>cI hV 8 hs (by omega) (by omega) hl (by intro h;cases h)
     rw[M]at z2;clear Q S ac e1
     go_wp2_with(first|(go_at_call 193;refine G.out.mono ?_;rintro e w3⟨rfl,u⟩;have z3:=HC.out _ _ u;rw[M]at z3)|(go_at_call 188;refine(ae.out _ u).mono ?_;rintro e w5⟨rfl,hr5⟩)|(go_at_call 191;refine(af.out _ hr5).mono ?_;rintro e w6⟨rfl,hr6⟩))
     simp only[Exit.jump];go_ret;rw[H.out];exact⟨rfl,TP.ok H.out hr6⟩
    ·have M:(aY s y != 125)=true:=by
      rw[bne_iff_ne];exact λh=>S ((bB s y 125 (by decide) d1).1 h)
     have HO:Hid (y+dw s y-a<=65535/\aK s y≠125):=⟨by omega,S⟩;clear Q S
     go_wp2_with(first|(go_at_call 193;refine G.out.mono ?_;rintro e w3⟨rfl,u⟩;have z3:=HC.out _ _ u))
     go_step3
     refine⟨rfl,⟨y,_,_,_,_,_,_,_,_,_,_,_,_,_,_,_,_,_,_,_,_,_,_,_,_,_,_,_,_,_,_,_,_,_,_,_,_,_,_,_,_,_,⟨Tl Z,d1,I.out.2.1,u,λh=>(by cases h),λ_=>HO.out.2,HO.out.1,m,I.out.2.2⟩,rfl⟩,?_⟩;rw[HX.out.1,u.at];have this:=HX.out.2;omega
def A6 (hc:s.size<=y\/aK s y=10):(decide (aY s y=10)||decide (aY s y=-1))=true:=by
 rw[SC,So,So]
 rcases hc with h|h
 ·exact .inr ((cN s y).2 h)
 ·by_cases e:y<s.size
  ·exact .inl ((bB s y 10 (by decide) e).2 h)
  ·exact .inr ((cN s y).2 (by omega))
def wT (d1:y<s.size) (d2:aK s y≠10):(decide (aY s y=10)||decide (aY s y=-1))=false:=by
 rw[UN,Tr,Tr];exact⟨λh=>d2 ((bB s y 10 (by decide) d1).1 h),λh=>by have:=(cN s y).1 h;omega⟩
def Ih (h:Rs w0 W g s a a f l) (hs:s.size<=2147483647) (ha:a<s.size) (hb:bd s a) (hk:au s a=5) (hl:l.length<=2147483647) :
  Sa 130 #[.pointer (some (Tw g 0))] W λe w'=>Uk e (Tu ((aq s a 5).2:Nat))/\TP w0 w' g s 5 a f l:=by
 have hd:=PT hk;have hE:run (dr s a 39 true) s.size (a+1) 0=aq s a 5:=by unfold aq;simp
 have u:=(bZ s a (by omega)).1;have Y:bd s (a+1):=(jZ s a ha (by omega)).2;have HT:=aW λV y (hV:Rs w0 V g s y a f l) (hy:y<=s.size)=>ce hV hs hy
 have HC:Hid (∀V y,Rs w0 V g s y a f l->V.cell? (Tw g 2)=some (.int .i32 (aY s y))):=λV y hr=>by
  obtain⟨am,an,v,h3,h4⟩:=hr;exact(Rq.cells h3).2.2.1
 have c2:=HC.out _ _ h;rw[(bB s a 39 (by decide) ha).2 hd]at c2;have HR:Hid (Rs w0 W g s a a f l/\eH s a=1):=⟨h,by rw[bW ha];exact u⟩;clear hd u h hk;go_enter func130,ntmps130;(go_wp2_with fail);refine Ux 0 (λa' w'=>∃(u1 u2 u3 u4 u5 u6 u7 u8 u9 u10 u11 u12 u13 u14 u15 u16 u17 u18 u19 u20 u21 u22 u23 u24 u25 u26 u27 u28 u29 u30 u31 u32 u33 u34 u35 u36 u37 u38 u39 u40 u41 u42 u43 u44 u45 u46 u47 u48 u49 u50 u51 u52 u53 u54 u55 u56 u57 u58 u59 u60 u61 u62 u63 u64 u65 u66 u67 u68 u69 u70 u71 u72 u73:Value),Hid (Rs w0 w' g s a a f l)/\a'={ tmps:=#[.pointer (some (Tw g 0)),u1,u2,u3,u4,u5,u6,u7,u8,u9,u10,u11,u12,u13,u14,u15,u16,u17,u18,u19,u20,u21,u22,u23,u24,u25,u26,u27,u28,u29,u30,u31,u32,u33,u34,u35,u36,u37,u38,u39,u40,u41,u42,u43,u44,u45,u46,u47,u48,u49,u50,u51,u52,u53,u54,u55,u56,u57,u58,u59,u60,u61,u62,u63,u64,u65,u66,u67,u68,u69,u70,u71,u72,u73],defers:=[] }) (λ_ w'=>0) rfl ?_ ?_
 ·go_wp2_with fail
  go_step3
  exact⟨rfl,_,_,_,_,_,_,_,_,_,_,_,_,_,_,_,_,_,_,_,_,_,_,_,_,_,_,_,_,_,_,_,_,_,_,_,_,_,_,_,_,_,_,_,_,_,_,_,_,_,_,_,_,_,_,_,_,_,_,_,_,_,_,_,_,_,_,_,_,_,_,_,_,_,HR.out.1,rfl⟩
 ·rintro a' w'⟨u1,u2,u3,u4,u5,u6,u7,u8,u9,u10,u11,u12,u13,u14,u15,u16,u17,u18,u19,u20,u21,u22,u23,u24,u25,u26,u27,u28,u29,u30,u31,u32,u33,u34,u35,u36,u37,u38,u39,u40,u41,u42,u43,u44,u45,u46,u47,u48,u49,u50,u51,u52,u53,u54,u55,u56,u57,u58,u59,u60,u61,u62,u63,u64,u65,u66,u67,u68,u69,u70,u71,u72,u73,HJ,rfl⟩;clear c2;(go_wp2_with fail);refine(HT.out _ _ HJ.out (by omega)).mono ?_;rintro e w1⟨rfl,y5⟩;rw[HR.out.2]at y5;have z2:=HC.out _ _ y5;have HY:=aW y5;have S:=aW hE;obtain⟨y,hy⟩:=ea (a+1);rw[hy]at z2 HY S Y;have y3:y<=s.size:=by omega
  have y2:a<=y:=by omega
  have av:y<=a+1:=by omega
  clear HJ y5 hE hy
  by_cases hc:s.size<=y\/aK s y=10
  ·have I:Hid (Sa 194 #[.int .i32 (aY s y)] w1 λe w'=>Uk e (.bool true)/\w'=w1):=by rw[<-A6 hc];exact cR _ _
   have H:=aW (oS y3 S.out hc);clear hc
   go_wp2_with(first|(go_at_call 194;refine I.out.mono ?_;rintro e w2⟨rfl,u⟩;replace u:=u.symm;subst u))
   simp only[Exit.jump];go_ret;rw[H.out];exact⟨rfl,TP.bad H.out (by decide) Y y2 HY.out (by intro h;cases h)⟩
  ·obtain⟨d1,d2⟩:y<s.size/\aK s y≠10:=⟨by omega,λh=>hc (.inr h)⟩;have I:Hid (Sa 194 #[.int .i32 (aY s y)] w1 λe w'=>Uk e (.bool false)/\w'=w1):=by rw[<-wT d1 d2];exact cR _ _
   have Z:=Hk s y d1;obtain⟨ap,ar,af⟩:=aQ s y d1;clear hc
   by_cases O:jG s y=true
   ·have M:Hid (∀V,Sa 195 #[.int .i32 (aY s y)] V λe w'=>Uk e (.bool true)/\w'=V):=λV=>by
     rw[<-O,<-Z];exact eF _ _
    have H:Hid (aq s a 5=(y,102)):=jc d1 S.out d2 (by omega) (by rintro⟨_,h|h⟩<;>cases h) (.inl O);clear O Z
    go_wp2_with(first|(go_at_call 194;refine I.out.mono ?_;rintro e w2⟨rfl,u⟩;replace u:=u.symm;subst u)|(go_at_call 195;refine(M.out _).mono ?_;rintro e w4⟨rfl,u⟩;replace u:=u.symm;subst u))
    simp only[Exit.jump];go_ret;rw[H.out];exact⟨rfl,TP.bad H.out (by decide) Y y2 HY.out (λ_=>rfl)⟩
   ·have aa:jG s y=false:=by simpa using O
    have M:Hid (∀V,Sa 195 #[.int .i32 (aY s y)] V λe w'=>Uk e (.bool false)/\w'=V):=λV=>by
     rw[<-aa,<-Z];exact eF _ _
    by_cases Q:aK s y=39
    ·have H:Hid (aq s a 5=(y,102)):=jc d1 S.out d2 (by omega) (by rintro⟨_,h|h⟩<;>cases h) (.inr ⟨rfl,.inr Q⟩);have ah:aY s y=39:=(bB s y 39 (by decide) d1).2 Q;rw[ah]at z2 M I;clear O aa Z Q
     go_wp2_with(first|(go_at_call 194;refine I.out.mono ?_;rintro e w2⟨rfl,u⟩;replace u:=u.symm;subst u)|(go_at_call 195;refine(M.out _).mono ?_;rintro e w4⟨rfl,u⟩;replace u:=u.symm;subst u))
     simp only[Exit.jump];go_ret;rw[H.out];exact⟨rfl,TP.bad H.out (by decide) Y y2 HY.out (λ_=>rfl)⟩
    ·have ah:(aY s y==39)=false:=by
      rw[Su];exact λh=>Q ((bB s y 39 (by decide) d1).1 h)
     have ad:=vu d1 S.out d2 (by omega) (by rintro⟨h,_⟩;exact Q h) (by rintro(h|⟨_,h|h⟩);exact O h;cases h;exact Q h)
     have ab:Hid (∀V,Rs w0 V g s y a f l->Sa 188 #[.pointer (some (Tw g 0))] V λe w'=>Uk e (.tuple #[])/\Rs w0 w' g s (y+dw s y) a f l):=λV hV=>by
      have:=ce hV hs y3;rw[bW d1]at this;exact this
     have ae:bd s (y+dw s y):=jz Y d1;obtain⟨z,hz⟩:=ea (y+dw s y);rw[hz]at ad ab ae af;have ai:a<=z/\z<=a+5:=by omega
     clear O aa Z Q hz;have ac:=aW ad;clear ad
     by_cases hc:s.size<=z\/aK s z=10
     ·have J:Hid (∀V,Sa 194 #[.int .i32 (aY s z)] V λe w'=>Uk e (.bool true)/\w'=V):=λV=>by rw[<-A6 hc];exact cR _ _
      have H:=aW (oS af ac.out hc);clear hc
      go_wp2_with(first|(go_at_call 188;refine(ab.out _ HY.out).mono ?_;rintro e w5⟨rfl,G⟩;have z5:=HC.out _ _ G)|(go_at_call 194;have hg:=G;clear hg;refine(J.out _).mono ?_;rintro e w6⟨rfl,u⟩;replace u:=u.symm;subst u)|(go_at_call 194;refine I.out.mono ?_;rintro e w2⟨rfl,u⟩;replace u:=u.symm;subst u)|(go_at_call 195;refine(M.out _).mono ?_;rintro e w4⟨rfl,u⟩;replace u:=u.symm;subst u))
      simp only[Exit.jump];go_ret;rw[H.out];exact⟨rfl,TP.bad H.out (by decide) ae ai.1 G (by intro h;cases h)⟩
     ·obtain⟨e1,e2⟩:z<s.size/\aK s z≠10:=⟨by omega,λh=>hc (.inr h)⟩;have J:Hid (∀V,Sa 194 #[.int .i32 (aY s z)] V λe w'=>Uk e (.bool false)/\w'=V):=λV=>by rw[<-wT e1 e2];exact cR _ _
      have dz:=aQ s z e1;clear hc
      by_cases Q:aK s z=39
      ·have H:=aW (Ag e1 ac.out e2 (by omega) ⟨Q,.inr rfl⟩);have qz:aY s z=39:=(bB s z 39 (by decide) e1).2 Q;have ag:=(bZ s z (by omega)).1
       have aj:Hid (∀V,Rs w0 V g s z a f l->Sa 188 #[.pointer (some (Tw g 0))] V λe w'=>Uk e (.tuple #[])/\Rs w0 w' g s (z+1) a f l):=λV hV=>by
        have:=ce hV hs af;rw[bW e1,ag]at this;exact this
       have ak:=aW λV (hV:Rs w0 V g s (z+1) a f l)=>cI hV 5 hs (by omega) (by omega) hl (by intro h;cases h)
       rw[qz]at J;clear Q ag dz
       go_wp2_with(first|(go_at_call 188;have hg:=G;clear hg;refine(aj.out _ G).mono ?_;rintro e w7⟨rfl,al⟩)|(go_at_call 188;refine(ab.out _ HY.out).mono ?_;rintro e w5⟨rfl,G⟩;have z5:=HC.out _ _ G;rw[qz]at z5)|(go_at_call 194;have hg:=G;clear hg;refine(J.out _).mono ?_;rintro e w6⟨rfl,u⟩;replace u:=u.symm;subst u)|(go_at_call 194;refine I.out.mono ?_;rintro e w2⟨rfl,u⟩;replace u:=u.symm;subst u)|(go_at_call 195;refine(M.out _).mono ?_;rintro e w4⟨rfl,u⟩;replace u:=u.symm;subst u)|(go_at_call 191;refine(ak.out _ al).mono ?_;rintro e w8⟨rfl,hr8⟩))
       simp only[Exit.jump];go_ret;rw[H.out];exact⟨rfl,TP.ok H.out hr8⟩
      ·have H:=aW (jc e1 ac.out e2 (by omega) (by rintro⟨h,_⟩;exact Q h) (.inr ⟨rfl,.inl rfl⟩))
       have qz:(aY s z != 39)=true:=by
        rw[bne_iff_ne];exact λh=>Q ((bB s z 39 (by decide) e1).1 h)
       clear Q dz
       go_wp2_with(first|(go_at_call 188;refine(ab.out _ HY.out).mono ?_;rintro e w5⟨rfl,G⟩;have z5:=HC.out _ _ G)|(go_at_call 194;have hg:=G;clear hg;refine(J.out _).mono ?_;rintro e w6⟨rfl,u⟩;replace u:=u.symm;subst u)|(go_at_call 194;refine I.out.mono ?_;rintro e w2⟨rfl,u⟩;replace u:=u.symm;subst u)|(go_at_call 195;refine(M.out _).mono ?_;rintro e w4⟨rfl,u⟩;replace u:=u.symm;subst u))
       simp only[Exit.jump];go_ret;rw[H.out];exact⟨rfl,TP.bad H.out (by decide) ae ai.1 G (λ_=>rfl)⟩
def KD {p n:Int}(h:Rq w0 W g s a p n b f l) (hs:s.size<=2147483647) (ha:a<=s.size) :
  Sa 66 #[.pointer (some (Tw g 0))] W λe w'=>Uk e (.tuple #[])/\Rs w0 w' g s a b f l/\Kp (λk=>k=g) W w':=by
 obtain⟨Y,J,v,I,h4⟩:=h;obtain⟨c0,c1,c2,c3,c4,c5,c6,c7,c8⟩:=Rq.cells I
 by_cases S:a<s.size
 ·have hd:=wW s a;obtain⟨ab,ac,ad⟩:=aQ s a S
  have HN:Hid (∀w,Sa 123 #[.string s,Tu a] w λe w'=>Uk e (.tuple #[Tu (dp s a),Tu (dw s a),.bool (gd s a)])/\Se w w'):=λw=>by
   have:=AB s a w (by unfold maxLen;omega) (by omega) (by omega);rw[Tg]at this;exact this
  have HR:Hid (∀w',Se W w'->Se w0 w'/\RB w' g s a p n b f v/\Rt w0.heap.size w' v l):=λw' O=>⟨Y.trans (O.mono Y.size),af I O,h4.below O⟩
  have HK:Hid (∀V,Se W V->V.cell? (Tw g 0)=some (.string s)/\V.cell? (Tw g 1)=some (Tu a)/\Se W V):=λV M=>⟨aa (af I M) rfl,aa (af I M) rfl,M⟩
  have e1:=fZ S;have e2:=bW S;have Z:Hid (aY s a=dp s a/\eH s a=dw s a):=⟨e1,e2⟩;generalize dp s a=x at *;generalize dw s a=y at *;generalize gd s a=z at *;clear e1 e2 Y I h4 c0 c1 c2 c3 c4 c5 c6 c7 c8;go_enter func66,ntmps66;(go_wp2_with fail)
  go_region_held3 (λw'=>w'.cell? (Tw g 0)=some (.string s)/\w'.cell? (Tw g 1)=some (Tu a)/\Se W w') (first|(exact HK.out _ (by assumption))|(exact HK.out _ (gt _ _).drew)|go_keep) (first|(go_at_call 123;refine(HN.out _).mono ?_;rintro e Q⟨rfl,G⟩;have H:=(by first|exact(gt W.heap.size W).drew.trans (G.mono (ge _))|exact(by assumption:Se W _).trans (G.mono (U2 (by assumption))):Se W Q)))
  all_goals(
   obtain⟨k1,u,k4⟩:=HR.out _ H;have z2:=u.frozen 2;have z3:=u.frozen 3;obtain⟨_,_,c2,c3,_⟩:=Rq.cells u;obtain⟨m1,m3,m4⟩:=Rq.set k1 J u k4 2 (.int .i32 x) (p':=x) rfl rfl;obtain⟨n1,n3,n4⟩:=Rq.set m1 J m3 m4 3 (Tu y) (n':=y) rfl rfl;have HF:Hid (Rs w0 ((Q.setCell ⟨g,2,none⟩ (.int .i32 x)).setCell ⟨g,3,none⟩ (Tu y)) g s a b f l/\Kp (λk=>k=g) W ((Q.setCell ⟨g,2,none⟩ (.int .i32 x)).setCell ⟨g,3,none⟩ (Tu y))):=⟨⟨n1,J,v,by rw[Z.out.1,Z.out.2];exact n3,n4⟩,((Kp.of_below H).step (Kp.set _ g 2 _) (λ_ _ h=>h)).step (Kp.set _ g 3 _) (λ_ _ h=>h)⟩;clear k1 u k4 m1 m3 m4 n1 n3 n4;(go_wp2_with fail);go_end0;exact⟨rfl,HF.out⟩)
 ·have HN:Hid (∀w,Sa 123 #[.string s,Tu a] w λe w'=>Uk e (.tuple #[Tu 0,Tu 0,.bool false])/\Se w w'):=λw=>vW s a w (by unfold maxLen;omega) (.inr (by omega))
  have HR:Hid (∀w',Se W w'->Se w0 w'/\RB w' g s a p n b f v/\Rt w0.heap.size w' v l):=λw' O=>⟨Y.trans (O.mono Y.size),af I O,h4.below O⟩
  have HK:Hid (∀V,Se W V->V.cell? (Tw g 0)=some (.string s)/\V.cell? (Tw g 1)=some (Tu a)/\Se W V):=λV M=>⟨aa (af I M) rfl,aa (af I M) rfl,M⟩
  have Z:Hid (aY s a=-1/\eH s a=0):=⟨kr (by omega),fO (by omega)⟩;clear Y I h4 c0 c1 c2 c3 c4 c5 c6 c7 c8;go_enter func66,ntmps66;(go_wp2_with fail)
  go_region_held3 (λw'=>w'.cell? (Tw g 0)=some (.string s)/\w'.cell? (Tw g 1)=some (Tu a)/\Se W w') (first|(exact HK.out _ (by assumption))|(exact HK.out _ (gt _ _).drew)|go_keep) (first|(go_at_call 123;refine(HN.out _).mono ?_;rintro e Q⟨rfl,G⟩;have H:=(by first|exact(gt W.heap.size W).drew.trans (G.mono (ge _))|exact(by assumption:Se W _).trans (G.mono (U2 (by assumption))):Se W Q)))
  all_goals(
   obtain⟨k1,u,k4⟩:=HR.out _ H;have z2:=u.frozen 2;have z3:=u.frozen 3;obtain⟨_,_,c2,c3,_⟩:=Rq.cells u;obtain⟨m1,m3,m4⟩:=Rq.set k1 J u k4 2 (.int .i32 0) (p':=0) rfl rfl;obtain⟨n1,n3,n4⟩:=Rq.set m1 J m3 m4 3 (Tu 0) (n':=0) rfl rfl;obtain⟨o1,o3,o4⟩:=Rq.set n1 J n3 n4 2 (.int .i32 (-1)) (p':=-1) rfl rfl;have HF:Hid (Rs w0 (((Q.setCell ⟨g,2,none⟩ (.int .i32 0)).setCell ⟨g,3,none⟩ (Tu 0)).setCell ⟨g,2,none⟩ (.int .i32 (-1))) g s a b f l/\Kp (λk=>k=g) W (((Q.setCell ⟨g,2,none⟩ (.int .i32 0)).setCell ⟨g,3,none⟩ (Tu 0)).setCell ⟨g,2,none⟩ (.int .i32 (-1)))):=⟨⟨o1,J,v,by rw[Z.out.1,Z.out.2];exact o3,o4⟩,(((Kp.of_below H).step (Kp.set _ g 2 _) (λ_ _ h=>h)).step (Kp.set _ g 3 _) (λ_ _ h=>h)).step (Kp.set _ g 2 _) (λ_ _ h=>h)⟩;clear k1 u k4 m1 m3 m4 n1 n3 n4 o1 o3 o4;(go_wp2_with fail);go_end0;exact⟨rfl,HF.out⟩)
def Ju (h:Rs w0 W g s a b f l) (Y:s.size<=2147483647) (Q:a<=s.size) :
  Sa 188 #[.pointer (some (Tw g 0))] W λe w'=>Uk e (.tuple #[])/\Rs w0 w' g s (a+eH s a) b f l/\Kp (λk=>k=g) W w':=by
 have G:=E4 s a Q;obtain⟨H,I,v,u,J⟩:=h;obtain⟨c0,c1,c2,c3,c4,c5,c6,c7,c8⟩:=Rq.cells u;have z1:=u.frozen 1;obtain⟨m1,m3,m4⟩:=Rq.set H I u J 1 (Tu ((a+eH s a:Nat):Int)) (a':=a+eH s a) rfl rfl;have aa:IntKind.i64.wrap ((a:Int)+(eH s a:Int))=(a:Int)+(eH s a:Int):=by rw[Sn];omega
 have HL:Hid (∀V,Below (W.setCell ⟨g,1,none⟩ (Tu ((a:Int)+(eH s a:Int)))).heap.size (W.setCell ⟨g,1,none⟩ (Tu ((a:Int)+(eH s a:Int)))) V->Sa 66 #[.pointer (some (Tw g 0))] V λe w'=>Uk e (.tuple #[])/\Rs w0 w' g s (a+eH s a) b f l/\Kp (λk=>k=g) W w'):=by
  intro V M;rw[WF]at m1 m3 m4;refine(KD (Rq.below ⟨m1,I,v,m3,m4⟩ M) Y G).mono ?_;rintro e w'⟨rfl,Z,r2⟩;exact⟨rfl,Z,((Kp.set W g 1 _).step (Kp.of_below (S:=λk=>k=g) M) (λ_ _ h=>h)).step r2 (λ_ _ h=>h)⟩
 generalize eH s a=y at *;clear H u J m1 m3 m4;go_enter func188,ntmps188;(go_wp2_with fail)
 go_region_law (fail)
 all_goals(
  go_wp2_with(go_at_call 66;refine(HL.out _ (gt _ _).drew).mono ?_;rintro e w1⟨rfl,O⟩)
  go_end0;exact⟨rfl,O⟩)
def Rs.kp {w0 W W':World}{g:Nat}{s:ByteArray}{a b f:Nat}{l:List Tv}{S:Nat->Prop}(h:Rs w0 W g s a b f l) (M:Below w0.heap.size W W') (G:Kp S W W') (O:¬S g) (Q:∀k cs T z,W.heap[k]?=some (.cells cs T z)->¬S k):Rs w0 W' g s a b f l:=by
 obtain⟨H,I,v,J,u⟩:=h;refine⟨H.trans M,I,v,G.blk J O,?_⟩;refine u.kp G (λk e=>?_)
 rcases u.2 with⟨rfl,_⟩|⟨q,cap,Z,rfl,_,Y,_⟩
 ·cases e
 ·simp only[Value.ownBlock,St]at e;subst e;exact Q _ _ _ _ Y
def Rv (h:au s a=6):(sg s a).size≠0:=by
 unfold au at h
 repeat' split at h
 all_goals first|assumption|(cases h;done)
def O4:∀x∈cg,aK x 0<128/\(x.size=2->aK x 1<128):=by decide
def EL (hK:pT w0) (h:Rs w0 W g s a a f l) (hs:s.size<=2147483647) (ha:a<s.size) (hb:bd s a) (J:au s a=6) (hl:l.length<=2147483647) :
  Sa 132 #[.pointer (some (Tw g 0))] W λe w'=>Uk e (Tu ((aq s a 6).2:Nat))/\TP w0 w' g s 6 a f l:=by
 have hE:aq s a 6=(a+(sg s a).size,0):=by unfold aq;simp
 have hz:=Rv J;obtain⟨g1,g2,g3⟩:=EM s a hz;have g4:=(uS _ g3).1;have g5:=O4 _ g3
 have H:∀j,j<(sg s a).size->aK s (a+j)=aK (sg s a) j/\aK (sg s a) j<128:=λj Y=>by
  have e:=bX s a (a+(sg s a).size) j (by omega);rw[g2]at e;refine⟨e.symm,?_⟩
  rcases(show j=0\/(j=1/\(sg s a).size=2)by omega)with rfl|⟨rfl,h2⟩
  ·exact g5.1
  ·exact g5.2 h2
 have ab:Hid (∀V j,j<(sg s a).size->Rs w0 V g s (a+j) a f l->Sa 188 #[.pointer (some (Tw g 0))] V λe w'=>Uk e (.tuple #[])/\Rs w0 w' g s (a+(j+1)) a f l/\Kp (λk=>k=g) V w'):=λV j Y I=>by
  have:=Ju I hs (by omega);rw[bW (by omega),(bZ s (a+j) (by rw[(H j Y).1];exact(H j Y).2)).1]at this;exact this
 have aa:Hid (∀j,j<(sg s a).size->(Utf8.decode (sg s a) j).2=1/\(Utf8.decode (sg s a) j).1<128):=λj Y=>by
  obtain⟨e1,e2,_⟩:=bZ (sg s a) j (H j Y).2;unfold dw at e1;unfold dp at e2;exact⟨e1,by rw[e2];exact(H j Y).2⟩
 obtain⟨x,hx⟩:=ea (sg s a);have af:=aW λV (I:Rs w0 V g s (a+x.size) a f l)=>cI I 6 hs (by omega) (by rw[<-hx];exact g1) hl (by intro h;cases h)
 have HS:Hid (∀V,Below W.heap.size W V->Sa 196 #[.string s,Tu a] V λe w'=>Uk e (.string x)/\Below V.heap.size V w'):=λV I=>by
  rw[<-hx];exact zV s a V (hK.below (h.bel.trans (I.mono h.bel.size))).2.2 ha
 have HE:Hid (aq s a 6=(a+x.size,0)):=by rw[<-hx];exact hE
 rw[hx]at ab aa hz g4;have HR:=aW λV (I:Below W.heap.size W V)=>h.below I
 have HK:Hid (∀V,Below W.heap.size W V->V.cell? (Tw g 0)=some (.string s)/\V.cell? (Tw g 1)=some (Tu a)/\Below W.heap.size W V):=λV I=>by
  obtain⟨h1,h2,v,h3,h4⟩:=Rq.below h I;exact⟨(Rq.cells h3).1,(Rq.cells h3).2.1,I⟩
 have aj:x.toList.isEmpty=false:=by
  cases e:x.toList with
  |cons _ _=>rfl
  |nil=>
   rw[rO]at e;have:x.data.toList.length=0:=by rw[e];rfl
   rw[Tb]at this;exact absurd this hz
 clear hE g1 g2 g3 g5 H hx h J;go_enter func132,ntmps132;(go_wp2_with fail)
 go_region_held3 (λw'=>w'.cell? (Tw g 0)=some (.string s)/\w'.cell? (Tw g 1)=some (Tu a)/\Below W.heap.size W w') (first|(exact HK.out _ (by assumption))|(exact HK.out _ (gt _ _).drew)|go_keep) (first|(go_at_call 196;refine(HS.out _ (by first|assumption|exact(gt _ _).drew)).mono ?_;rintro e u⟨rfl,ac⟩;have O:=(by first|exact(gt W.heap.size W).drew.trans (ac.mono (ge _))|exact(by assumption:Below W.heap.size W _).trans (ac.mono (U2 (by assumption))):Below W.heap.size W u)))
 all_goals(
  have ae:Hid (Rs w0 (u.iter x 0) g s (a+0) a f l/\(u.iter x 0).heap[u.heap.size]?=some (.stringIter x 0)):=⟨(HR.out _ O).below (du u x 0),World.iter_heap u x 0⟩
  have HG:Hid (g≠u.heap.size):=by
   obtain⟨_,_,v,h3,_⟩:=HR.out _ O;have:=ai h3;show g≠_;omega
  have ag:=aW ((HR.out _ O).bel.size);clear HR HK HS;(go_wp2_with fail)
  go_loopw [] (λwr=>∃pos:Nat,pos<=x.size/\Hid (Rs w0 wr g s (a+pos) a f l/\wr.heap[u.heap.size]?=some (.stringIter x pos))) (λwr=>x.size-wr.iterPos u.heap.size)
  case atStart=>exact⟨0,RU _,ae⟩
  case round=>
   obtain⟨pos,ah,HI⟩:=hrel
   by_cases Z:pos<x.size
   ·have hnx:∀M,(Instr.next (.pointer (some ⟨u.heap.size,0,none⟩)) true M).run Tryz.prog wr=_:=λM=>Lib.run_next_any_at wr u.heap.size x pos M HI.out.2 Z
    obtain⟨d1,d2⟩:=aa.out pos Z
    have G:Hid (Rs w0 (wr.iterAt u.heap.size x (pos+1)) g s (a+pos) a f l/\(wr.iterAt u.heap.size x (pos+1)).heap[u.heap.size]?=some (.stringIter x (pos+1))):=by
     refine⟨Rs.kp (S:=λk=>k=u.heap.size) HI.out.1 (Lib.below_iterAt (gt _ _) ag.out x _) ⟨rfl,rfl,rfl,by rw[Lib.iterAt_size];exact ge _,λk _ J=>Lib.iterAt_other _ _ _ _ _ J⟩ HG.out (λk cs T z J e=>?_),Lib.iterAt_heap _ _ _ _ _ HI.out.2⟩;rw[e,HI.out.2]at J;cases J
    have HM:Hid (wr.iterPos u.heap.size=pos):=by
     show _=_;unfold World.iterPos;rw[HI.out.2]
    rw[d1]at hnx;clear HI
    go_wp2_with(first|(go_at_call 188;refine(ab.out _ pos Z G.out.1).mono ?_;rintro e w3⟨rfl,Q,ad⟩))
    refine⟨⟨pos+1,Z,Q,ad.blk G.out.2 (λe=>HG.out e.symm)⟩,?_⟩;rw[HM.out];have e:w3.iterPos u.heap.size=pos+1:=by unfold World.iterPos;rw[ad.blk G.out.2 (λe=>HG.out e.symm)]
    rw[e];omega
   ·have hnx:∀M,(Instr.next (.pointer (some ⟨u.heap.size,0,none⟩)) true M).run Tryz.prog wr=_:=λM=>Lib.run_next_end_at wr u.heap.size x pos M HI.out.2 Z
    have G:Hid (Rs w0 wr g s (a+x.size) a f l):=by
     have:=HI.out.1;rw[show pos=x.size by omega]at this;exact this
    clear HI
    go_wp2_with(first|(go_at_call 191;refine(af.out _ G.out).mono ?_;rintro e w3⟨rfl,Q⟩))
    go_ret;rw[HE.out];exact⟨rfl,TP.ok HE.out Q⟩)
def Cc (Y:pT w0) (h:Rs w0 W g s a a f l) (hs:s.size<=2147483647) (Z:a<s.size) (O:(sg s a).size=0) :
  Sa 132 #[.pointer (some (Tw g 0))] W λe w'=>Uk e (Tu 100)/\Rs w0 w' g s a a f l:=by
 have M:sg s a=⟨#[]⟩:=kY _ _ (by rw[O];rfl) (λj hj=>by omega)
 have S:Hid (∀V,Se W V->Sa 196 #[.string s,Tu a] V λe w'=>Uk e (.string ⟨#[]⟩)/\Se V w'):=λV u=>by
  rw[<-M];exact zV s a V (Y.below (h.bel.trans (u.mono h.bel.size))).2.2 Z
 have Q:=aW λV (u:Se W V)=>h.below u
 have I:Hid (∀V,Se W V->V.cell? (Tw g 0)=some (.string s)/\V.cell? (Tw g 1)=some (Tu a)/\Se W V):=λV u=>by
  obtain⟨h1,h2,v,J,h4⟩:=Rq.below h u;exact⟨(Rq.cells J).1,(Rq.cells J).2.1,u⟩
 clear M h O;go_enter func132,ntmps132;(go_wp2_with fail)
 go_region_held3 (λw'=>w'.cell? (Tw g 0)=some (.string s)/\w'.cell? (Tw g 1)=some (Tu a)/\Se W w') (first|(exact I.out _ (by assumption))|(exact I.out _ (gt _ _).drew)|go_keep) (first|(go_at_call 196;refine(S.out _ (by first|assumption|exact(gt _ _).drew)).mono ?_;rintro e w1⟨rfl,G⟩;have H:=(by first|exact(gt W.heap.size W).drew.trans (G.mono (ge _))|exact(by assumption:Se W _).trans (G.mono (U2 (by assumption))):Se W w1)))
 all_goals(
  (go_wp2_with fail);go_ret;exact⟨rfl,Q.out _ H⟩)
