import Derived.Test.YtcjiapphbpiffaaGreatDoorM21
set_option linter.unusedVariables false
set_option linter.unusedSimpArgs false
set_option maxHeartbeats 2000000
namespace Go.Proofs.YtcjiapphbpiffaaGreatDoor
open Go.RowKit
theorem Hu (n:Nat) (hdeclaration:PD .declaration 194 n) (hbodyA:∀k,k<n->bJ 195 gI 45 k):bJ 158 pQ 40 n:=by
 intro X r d W h hr hm;have H0:Hid (SD X r d W):=h;have HM:Hid (ms (aG X.l) d<=n):=hm;have bg:=mkfn;clear h hm
 go_enter Tryz.func158,Tryz.ntmps158
 have ak:Hid (PD .declaration 194 n):=hdeclaration
 go_wp2_with fail
 refine (ak.out X _ _ _ H0.out).mono ?_;rintro e w1 ⟨u1,v1,rfl,p1,am⟩;have P1:=ai p1;have H1:=show Hid _ from H0.out.below am
 clear p1 am
 go_wp2_with fail
 go_loopw [2,3] (fun u v wr=>∃dk,Hid (SD X r dk wr)/\Hid (Lp (aG X.l) (.fn .declaration) d dk)/\Hid (IC X .declaration n dk u v)) (fun _ _ wr=>mW X wr)
 case atStart=>exact ⟨_,H1.out,.refl,P1.out⟩
 case round=>
  obtain ⟨e1,H,C,ab⟩:=hrel;clear P1
  rcases ab.out with ⟨nd,ff,Nl,au,rfl,rfl,Z,ap,ar,Q,aq⟩|⟨rfl,rfl,Q⟩
  ·have ba:=tZ ff X.g;have F:=ai Q;have HN:Hid (Ta 115 #[pg X.g,.int .u8 nd,fv ff X.g] wr fun e w'=>∃d',Ib (aG X.l) au e1 d'/\lA X (.tuple #[]) d' e w'):=aQ H.out (by omega) (by omega) (by have m0:=HM.out;have av:=C.out.le;omega) ar Z ap aq;have ax:Hid (∀d',Ib (aG X.l) au e1 d'->d'.e=0->ms (aG X.l) d' < ms (aG X.l) e1):=fun d' h1 h2=>At F.out h1 H.out.e0 h2
   clear ar aq Z Q ap ab
   go_wp2_with fail
   refine HN.out.mono ?_;rintro e w2 ⟨d2,i2,o2⟩;have I2:=ai i2
   rcases o2 with ⟨z2,rfl,h2⟩|⟨z2,rfl,h2⟩
   rotate_left
   ·have HP:=ai h2;have G:=ai z2;clear h2 i2 z2
    go_wp2_with fail
    exact ⟨rfl,_,(aa (C.out.go _ (bq F.out I2.out (aT G.out))) (ah G.out _)),.inr ⟨G.out,rfl,HP.out⟩⟩
   have H2:=ai h2;clear h2 i2 z2
   go_wp2_with fail
   refine (ak.out X _ _ _ H2.out).mono ?_;rintro e w3 ⟨u3,v3,rfl,p3,an⟩;have P3:=ai p3;have H3:=show Hid _ from H2.out.below an
   clear p3 an
   go_wp2_with fail
   exact ⟨⟨_,H3.out.up (SW _),C.out.step F.out I2.out,P3.out⟩,iM H.out H3.out (by have m0:=HM.out;have av:=C.out.le;have m2:=bK I2.out;have mx:=ax.out _ I2.out H2.out.e0;omega)⟩
  ·have ba:=qa;have F:=ai Q;clear Q ab
   go_wp2_with fail
   refine (bW H.out (by omega) (by kernel_rfl)).mono ?_;rintro e bi ⟨ay,ad,bb⟩;have I:=ai ad
   rcases bb with ⟨S,rfl,J⟩|⟨S,rfl,J⟩
   rotate_left
   ·have HP:=ai J;have G:=ai S;clear J ad S
    go_wp2_with fail
    exact ⟨rfl,_,(aa (C.out.fin F.out) (aa I.out (ah G.out _))),.inr ⟨G.out,rfl,HP.out⟩⟩
   have ag:=ai J;clear J ad S
   go_wp2_with fail
   refine (aQ ag.out (by omega) (by omega) (gt _) (hbodyA (ms (aG X.l) ay) (by have m0:=HM.out;have av:=C.out.le;have bh:=az aC I.out H.out.e0 ag.out.e0;omega)) jH rfl (fun d' hh=>aU (m:=.body) rfl hh)).mono ?_;rintro e bj ⟨be,ae,bc⟩;have ac:=ai ae
   rcases bc with ⟨U,rfl,M⟩|⟨U,rfl,M⟩
   rotate_left
   ·have HP:=ai M;have G:=ai U;clear M ae U
    go_wp2_with fail
    exact ⟨rfl,_,(aa (C.out.fin F.out) (aa I.out (aa ac.out (ah G.out _)))),.inr ⟨G.out,rfl,HP.out⟩⟩
   have aw:=ai M;clear M ae U
   go_wp2_with fail
   refine (bW aw.out (by omega) (by kernel_rfl)).mono ?_;rintro e bk ⟨bf,af,bd⟩;have al:=ai af
   rcases bd with ⟨Y,rfl,O⟩|⟨Y,rfl,O⟩
   rotate_left
   ·have HP:=ai O;have G:=ai Y;clear O af Y
    go_wp2_with fail
    exact ⟨rfl,_,(aa (C.out.fin F.out) (aa I.out (aa ac.out (aa al.out (ah G.out _))))),.inr ⟨G.out,rfl,HP.out⟩⟩
   have aj:=ai O;clear O af Y
   go_wp2_with fail
   go_end0
   exact ⟨_,(aa (C.out.fin F.out) (aa I.out (aa ac.out (aa al.out aF)))),.inl ⟨aj.out.e0,rfl,aj.out⟩⟩
theorem sp (n:Nat) (htypedA:∀k,k<n->bJ 235 g9 90 k):bJ 221 fV 90 n:=by
 intro X r d W h hr hm;have H0:Hid (SD X r d W):=h;have HM:Hid (ms (aG X.l) d<=n):=hm;have ab:=mkfn;clear h hm
 go_enter Tryz.func221,Tryz.ntmps221
 go_wp2_with fail
 refine (bW H0.out (by omega) (by kernel_rfl)).mono ?_;rintro e w1 ⟨d1,Y,o1⟩;have G:=ai Y
 rcases o1 with ⟨O,rfl,H⟩|⟨O,rfl,H⟩
 rotate_left
 ·have F:=ai H;have C:=ai O;clear H Y O
  go_wp2_with fail
  exact ⟨rfl,_,(aa G.out (ah C.out _)),.inr ⟨C.out,rfl,F.out⟩⟩
 have H1:=ai H;clear H Y O
 go_wp2_with fail
 refine ((htypedA (ms (aG X.l) d1) (by have m0:=HM.out;have m1:=az aC G.out H0.out.e0 H1.out.e0;omega)) X _ _ _ H1.out (by omega) (gt _)).mono ?_;rintro e w2 ⟨d2,M,o2⟩;replace M:=show Ib (aG X.l) (.fl (.mt .typed)) d1 d2 from rK rfl M
 have U:=ai M
 rcases o2 with ⟨Q,rfl,I⟩|⟨Q,rfl,I⟩
 rotate_left
 ·have F:=ai I;have C:=ai Q;clear I M Q
  go_wp2_with fail
  exact ⟨rfl,_,(aa G.out (aa U.out (ah C.out _))),.inr ⟨C.out,rfl,F.out⟩⟩
 have H2:=ai I;clear I M Q
 go_wp2_with fail
 refine (bu H2.out (by omega) (by kernel_rfl)).mono ?_;rintro e w3 ⟨d3,Z,o3⟩;have I3:=ai Z
 rcases o3 with ⟨S,rfl,J⟩|⟨S,rfl,J⟩
 rotate_left
 ·have F:=ai J;have C:=ai S;clear J Z S
  go_wp2_with fail
  exact ⟨rfl,_,(aa G.out (aa U.out (aa I3.out (ah C.out _)))),.inr ⟨C.out,rfl,F.out⟩⟩
 have H3:=ai J;clear J Z S
 go_wp2_with fail
 go_end0
 exact ⟨_,(aa G.out (aa U.out (aa I3.out aF))),.inl ⟨H3.out.e0,rfl,H3.out⟩⟩
theorem xi (n:Nat) (hexprA:∀k,k<n->bJ 236 dK 50 k):bJ 222 gF 90 n:=by
 intro X r d W h hr hm;have H0:Hid (SD X r d W):=h;have HM:Hid (ms (aG X.l) d<=n):=hm;have ab:=mkfn;clear h hm
 go_enter Tryz.func222,Tryz.ntmps222
 go_wp2_with fail
 refine (bW H0.out (by omega) (by kernel_rfl)).mono ?_;rintro e w1 ⟨d1,i1,o1⟩;have G:=ai i1
 rcases o1 with ⟨U,rfl,J⟩|⟨U,rfl,J⟩
 rotate_left
 ·have F:=ai J;have C:=ai U;clear J i1 U
  go_wp2_with fail
  exact ⟨rfl,_,(aa G.out (ah C.out _)),.inr ⟨C.out,rfl,F.out⟩⟩
 have H1:=ai J;clear J i1 U
 go_wp2_with fail
 refine (fU H1.out (by omega)).mono ?_;rintro e w2 ⟨d2,i2,o2⟩;have H:=ai i2
 rcases o2 with ⟨Y,rfl,M⟩|⟨Y,rfl,M⟩
 rotate_left
 ·have F:=ai M;have C:=ai Y;clear M i2 Y
  go_wp2_with fail
  exact ⟨rfl,_,(aa G.out (aa H.out (ah C.out _))),.inr ⟨C.out,rfl,F.out⟩⟩
 have H2:=ai M;clear M i2 Y
 go_wp2_with fail
 refine (bu H2.out (by omega) (by kernel_rfl)).mono ?_;rintro e w3 ⟨d3,i3,o3⟩;have I:=ai i3
 rcases o3 with ⟨Z,rfl,O⟩|⟨Z,rfl,O⟩
 rotate_left
 ·have F:=ai O;have C:=ai Z;clear O i3 Z
  go_wp2_with fail
  exact ⟨rfl,_,(aa G.out (aa H.out (aa I.out (ah C.out _)))),.inr ⟨C.out,rfl,F.out⟩⟩
 have H3:=ai O;clear O i3 Z
 go_wp2_with fail
 refine (aQ H3.out (by omega) (by omega) (gt _) (hexprA (ms (aG X.l) d3) (by have m0:=HM.out;have m1:=az aC G.out H0.out.e0 H1.out.e0;have m2:=az df H.out H1.out.e0 H2.out.e0;have m3:=az aC I.out H2.out.e0 H3.out.e0;omega)) dN rfl (fun d' hh=>aU (m:=.expr) rfl hh)).mono ?_;rintro e w4 ⟨d4,i4,o4⟩;have I4:=ai i4
 rcases o4 with ⟨z4,rfl,Q⟩|⟨z4,rfl,Q⟩
 rotate_left
 ·have F:=ai Q;have C:=ai z4;clear Q i4 z4
  go_wp2_with fail
  exact ⟨rfl,_,(aa G.out (aa H.out (aa I.out (aa I4.out (ah C.out _))))),.inr ⟨C.out,rfl,F.out⟩⟩
 have H4:=ai Q;clear Q i4 z4
 go_wp2_with fail
 refine (bu H4.out (by omega) (by kernel_rfl)).mono ?_;rintro e w5 ⟨d5,i5,o5⟩;have I5:=ai i5
 rcases o5 with ⟨z5,rfl,S⟩|⟨z5,rfl,S⟩
 rotate_left
 ·have F:=ai S;have C:=ai z5;clear S i5 z5
  go_wp2_with fail
  exact ⟨rfl,_,(aa G.out (aa H.out (aa I.out (aa I4.out (aa I5.out (ah C.out _)))))),.inr ⟨C.out,rfl,F.out⟩⟩
 have H5:=ai S;clear S i5 z5
 go_wp2_with fail
 go_end0
 exact ⟨_,(aa G.out (aa H.out (aa I.out (aa I4.out (aa I5.out aF))))),.inl ⟨H5.out.e0,rfl,H5.out⟩⟩
theorem sZ (n:Nat) (hparamsA:∀k,k<n->bJ 237 me 90 k) (hkindA:∀k,k<n->PC .kind 238 k) (hblockA:∀k,k<n->bJ 158 pQ 40 k):bJ 223 fX 90 n:=by
 intro X r d W h hr hm;have H0:Hid (SD X r d W):=h;have HM:Hid (ms (aG X.l) d<=n):=hm;have ee:=mkfn;clear h hm
 go_enter Tryz.func223,Tryz.ntmps223
 go_wp2_with fail
 refine (bW H0.out (by omega) (by kernel_rfl)).mono ?_;rintro e w1 ⟨d1,i1,o1⟩;have G:=ai i1
 rcases o1 with ⟨z1,rfl,h1⟩|⟨z1,rfl,h1⟩
 rotate_left
 ·have F:=ai h1;have C:=ai z1;clear h1 i1 z1
  go_wp2_with fail
  exact ⟨rfl,_,(aa G.out (ah C.out _)),.inr ⟨C.out,rfl,F.out⟩⟩
 have Q:=ai h1;clear h1 i1 z1
 go_wp2_with fail
 refine (fU Q.out (by omega)).mono ?_;rintro e w2 ⟨d2,i2,o2⟩;have H:=ai i2
 rcases o2 with ⟨z2,rfl,h2⟩|⟨z2,rfl,h2⟩
 rotate_left
 ·have F:=ai h2;have C:=ai z2;clear h2 i2 z2
  go_wp2_with fail
  exact ⟨rfl,_,(aa G.out (aa H.out (ah C.out _))),.inr ⟨C.out,rfl,F.out⟩⟩
 have H2:=ai h2;clear h2 i2 z2
 go_wp2_with fail
 refine (lO H2.out.sv (fN _ _)).mono ?_;rintro e w3 ⟨rfl,cr⟩;have H3:=show Hid _ from H2.out.below cr
 clear cr;obtain ⟨a3,bp⟩:∃a,kt 6 (nx X (ps X.l d2.i))=a:=⟨_,rfl⟩;rw [bp];have A3:=ai bp;clear bp
 by_cases av:(a3.toList == [40])=true
 ·have I:=show Hid _ from OR H3.out A3.out av
  go_wp2_with fail
  refine (aQ H3.out (by omega) (by omega) (gt _) (hparamsA (ms (aG X.l) d2) (by have m0:=HM.out;have m1:=az aC G.out H0.out.e0 Q.out.e0;have m2:=az df H.out Q.out.e0 H2.out.e0;omega)) Dn rfl (fun d' hh=>bm I.out (aU (m:=.params) rfl hh))).mono ?_;rintro e w4 ⟨d4,i4,o4⟩;have U:=ai i4
  rcases o4 with ⟨z4,rfl,h4⟩|⟨z4,rfl,h4⟩
  rotate_left
  ·have F:=ai h4;have C:=ai z4;clear h4 i4 z4
   go_wp2_with fail
   exact ⟨rfl,_,(aa G.out (aa H.out (aa U.out (ah C.out _)))),.inr ⟨C.out,rfl,F.out⟩⟩
  have H4:=ai h4;clear h4 i4 z4
  go_wp2_with fail
  refine (bN H4.out (by omega) [⟨#[58]⟩] (by simp) (by kernel_rfl) rfl rfl).mono ?_;rintro e w5 (⟨q5,rfl,h5⟩|⟨q5,d5,i5,o5⟩)
  rotate_left
  ·have Z:=ai q5;clear q5;have I5:=ai i5
   rcases o5 with ⟨z5,rfl,h5⟩|⟨z5,rfl,h5⟩
   rotate_left
   ·have F:=ai h5;have C:=ai z5;clear h5 i5 z5
    go_wp2_with fail
    exact ⟨rfl,_,(aa G.out (aa H.out (aa U.out (aa (bm (aA Z.out) (aO (aa I5.out (ah C.out _)))) (ah C.out _))))),.inr ⟨C.out,rfl,F.out⟩⟩
   have H5:=ai h5;clear h5 i5 z5
   go_wp2_with fail
   refine ((hkindA (ms (aG X.l) d5) (by have m0:=HM.out;have m1:=az aC G.out H0.out.e0 Q.out.e0;have m2:=az df H.out Q.out.e0 H2.out.e0;have m4:=bK U.out;have m5:=az aC I5.out H4.out.e0 H5.out.e0;omega)) X _ _ _ H5.out).mono ?_;rintro e w6 ⟨u6,v6,rfl,p6,cs⟩;have P6:=ai p6;have H6:=show Hid _ from H5.out.below cs
   clear p6 cs
   go_wp2_with fail
   refine (dY H6.out (by omega) (gt _) P6.out).mono ?_;rintro e w7 ⟨d7,i7,o7⟩;have I7:=ai i7
   rcases o7 with ⟨z7,rfl,h7⟩|⟨z7,rfl,h7⟩
   rotate_left
   ·have F:=ai h7;have C:=ai z7;clear h7 i7 z7
    go_wp2_with fail
    exact ⟨rfl,_,(aa G.out (aa H.out (aa U.out (aa (bm (aA Z.out) (aO (aa I5.out (aa I7.out (ah C.out _))))) (ah C.out _))))),.inr ⟨C.out,rfl,F.out⟩⟩
   have H7:=ai h7;clear h7 i7 z7
   go_wp2_with fail
   refine (bu H7.out (by omega) (by kernel_rfl)).mono ?_;rintro e w8 ⟨d8,i8,o8⟩;have I8:=ai i8
   rcases o8 with ⟨z8,rfl,h8⟩|⟨z8,rfl,h8⟩
   rotate_left
   ·have F:=ai h8;have C:=ai z8;clear h8 i8 z8
    go_wp2_with fail
    exact ⟨rfl,_,(aa G.out (aa H.out (aa U.out (aa (bm (aA Z.out) (aO (aa I5.out (aa I7.out aF)))) (aa I8.out (ah C.out _)))))),.inr ⟨C.out,rfl,F.out⟩⟩
   have H8:=ai h8;clear h8 i8 z8
   go_wp2_with fail
   refine (aQ H8.out (by omega) (by omega) (gt _) (hblockA (ms (aG X.l) d8) (by have m0:=HM.out;have m1:=az aC G.out H0.out.e0 Q.out.e0;have m2:=az df H.out Q.out.e0 H2.out.e0;have m4:=bK U.out;have m5:=az aC I5.out H4.out.e0 H5.out.e0;have m7:=bK I7.out;have m8:=az aC I8.out H7.out.e0 H8.out.e0;omega)) ja rfl (fun d' hh=>aU (m:=.block) rfl hh)).mono ?_;rintro e w9 ⟨d9,i9,o9⟩;have I9:=ai i9
   rcases o9 with ⟨z9,rfl,h9⟩|⟨z9,rfl,h9⟩
   rotate_left
   ·have F:=ai h9;have C:=ai z9;clear h9 i9 z9
    go_wp2_with fail
    exact ⟨rfl,_,(aa G.out (aa H.out (aa U.out (aa (bm (aA Z.out) (aO (aa I5.out (aa I7.out aF)))) (aa I8.out (aa I9.out (ah C.out _))))))),.inr ⟨C.out,rfl,F.out⟩⟩
   have H9:=ai h9;clear h9 i9 z9
   go_wp2_with fail
   refine (bu H9.out (by omega) (by kernel_rfl)).mono ?_;rintro e el ⟨du,bq,de⟩;have cn:=ai bq
   rcases de with ⟨aw,rfl,ae⟩|⟨aw,rfl,ae⟩
   rotate_left
   ·have F:=ai ae;have C:=ai aw;clear ae bq aw
    go_wp2_with fail
    exact ⟨rfl,_,(aa G.out (aa H.out (aa U.out (aa (bm (aA Z.out) (aO (aa I5.out (aa I7.out aF)))) (aa I8.out (aa I9.out (aa cn.out (ah C.out _)))))))),.inr ⟨C.out,rfl,F.out⟩⟩
   have cf:=ai ae;clear ae bq aw
   go_wp2_with fail
   go_end0
   exact ⟨_,(aa G.out (aa H.out (aa U.out (aa (bm (aA Z.out) (aO (aa I5.out (aa I7.out aF)))) (aa I8.out (aa I9.out (aa cn.out aF))))))),.inl ⟨cf.out.e0,rfl,cf.out⟩⟩
  have Z:=ai q5;have H5:=ai h5;clear q5 h5
  go_wp2_with fail
  refine (bu H5.out (by omega) (by kernel_rfl)).mono ?_;rintro e em ⟨cz,br,dg⟩;have ab:=ai br
  rcases dg with ⟨ax,rfl,af⟩|⟨ax,rfl,af⟩
  rotate_left
  ·have F:=ai af;have C:=ai ax;clear af br ax
   go_wp2_with fail
   exact ⟨rfl,_,(aa G.out (aa H.out (aa U.out (aa (bi (aM Z.out)) (aa ab.out (ah C.out _)))))),.inr ⟨C.out,rfl,F.out⟩⟩
  have cg:=ai af;clear af br ax
  go_wp2_with fail
  refine (aQ cg.out (by omega) (by omega) (gt _) (hblockA (ms (aG X.l) cz) (by have m0:=HM.out;have m1:=az aC G.out H0.out.e0 Q.out.e0;have m2:=az df H.out Q.out.e0 H2.out.e0;have m4:=bK U.out;have ef:=az aC ab.out H5.out.e0 cg.out.e0;omega)) ja rfl (fun d' hh=>aU (m:=.block) rfl hh)).mono ?_;rintro e eo ⟨dv,bt,dh⟩;have bl:=ai bt
  rcases dh with ⟨ay,rfl,ag⟩|⟨ay,rfl,ag⟩
  rotate_left
  ·have F:=ai ag;have C:=ai ay;clear ag bt ay
   go_wp2_with fail
   exact ⟨rfl,_,(aa G.out (aa H.out (aa U.out (aa (bi (aM Z.out)) (aa ab.out (aa bl.out (ah C.out _))))))),.inr ⟨C.out,rfl,F.out⟩⟩
  have cu:=ai ag;clear ag bt ay
  go_wp2_with fail
  refine (bu cu.out (by omega) (by kernel_rfl)).mono ?_;rintro e ep ⟨dw,bv,di⟩;have co:=ai bv
  rcases di with ⟨ba,rfl,aj⟩|⟨ba,rfl,aj⟩
  rotate_left
  ·have F:=ai aj;have C:=ai ba;clear aj bv ba
   go_wp2_with fail
   exact ⟨rfl,_,(aa G.out (aa H.out (aa U.out (aa (bi (aM Z.out)) (aa ab.out (aa bl.out (aa co.out (ah C.out _)))))))),.inr ⟨C.out,rfl,F.out⟩⟩
  have ch:=ai aj;clear aj bv ba
  go_wp2_with fail
  go_end0
  exact ⟨_,(aa G.out (aa H.out (aa U.out (aa (bi (aM Z.out)) (aa ab.out (aa bl.out (aa co.out aF))))))),.inl ⟨ch.out.e0,rfl,ch.out⟩⟩
 ·have I:=show Hid _ from Qu H3.out A3.out (by simpa using av)
  have dt:(a3.toList == [40])=false:=by simpa using av
  clear av
  go_wp2_with fail
  refine (bN H3.out (by omega) [⟨#[58]⟩] (by simp) (by kernel_rfl) rfl rfl).mono ?_;rintro e eq (⟨au,rfl,O⟩|⟨au,da,bw,dj⟩)
  rotate_left
  ·have J:=ai au;clear au;have M:=ai bw
   rcases dj with ⟨bb,rfl,O⟩|⟨bb,rfl,O⟩
   rotate_left
   ·have F:=ai O;have C:=ai bb;clear O bw bb
    go_wp2_with fail
    exact ⟨rfl,_,(aa G.out (aa H.out (aa (bi I.out) (aa (bm (aA J.out) (aO (aa M.out (ah C.out _)))) (ah C.out _))))),.inr ⟨C.out,rfl,F.out⟩⟩
   have S:=ai O;clear O bw bb
   go_wp2_with fail
   refine ((hkindA (ms (aG X.l) da) (by have m0:=HM.out;have m1:=az aC G.out H0.out.e0 Q.out.e0;have m2:=az df H.out Q.out.e0 H2.out.e0;have dd:=az aC M.out H3.out.e0 S.out.e0;omega)) X _ _ _ S.out).mono ?_;rintro e er ⟨u55,ej,rfl,ct,bk⟩;have cy:=ai ct;have cv:=show Hid _ from S.out.below bk
   clear ct bk
   go_wp2_with fail
   refine (dY cv.out (by omega) (gt _) cy.out).mono ?_;rintro e es ⟨dx,bx,dk⟩;have Y:=ai bx
   rcases dk with ⟨bc,rfl,ak⟩|⟨bc,rfl,ak⟩
   rotate_left
   ·have F:=ai ak;have C:=ai bc;clear ak bx bc
    go_wp2_with fail
    exact ⟨rfl,_,(aa G.out (aa H.out (aa (bi I.out) (aa (bm (aA J.out) (aO (aa M.out (aa Y.out (ah C.out _))))) (ah C.out _))))),.inr ⟨C.out,rfl,F.out⟩⟩
   have ci:=ai ak;clear ak bx bc
   go_wp2_with fail
   refine (bu ci.out (by omega) (by kernel_rfl)).mono ?_;rintro e et ⟨db,bz,dl⟩;have ac:=ai bz
   rcases dl with ⟨bd,rfl,al⟩|⟨bd,rfl,al⟩
   rotate_left
   ·have F:=ai al;have C:=ai bd;clear al bz bd
    go_wp2_with fail
    exact ⟨rfl,_,(aa G.out (aa H.out (aa (bi I.out) (aa (bm (aA J.out) (aO (aa M.out (aa Y.out aF)))) (aa ac.out (ah C.out _)))))),.inr ⟨C.out,rfl,F.out⟩⟩
   have cj:=ai al;clear al bz bd
   go_wp2_with fail
   refine (aQ cj.out (by omega) (by omega) (gt _) (hblockA (ms (aG X.l) db) (by have m0:=HM.out;have m1:=az aC G.out H0.out.e0 Q.out.e0;have m2:=az df H.out Q.out.e0 H2.out.e0;have dd:=az aC M.out H3.out.e0 S.out.e0;have eg:=bK Y.out;have eh:=az aC ac.out ci.out.e0 cj.out.e0;omega)) ja rfl (fun d' hh=>aU (m:=.block) rfl hh)).mono ?_;rintro e eu ⟨dy,ca,dm⟩;have bn:=ai ca
   rcases dm with ⟨be,rfl,am⟩|⟨be,rfl,am⟩
   rotate_left
   ·have F:=ai am;have C:=ai be;clear am ca be
    go_wp2_with fail
    exact ⟨rfl,_,(aa G.out (aa H.out (aa (bi I.out) (aa (bm (aA J.out) (aO (aa M.out (aa Y.out aF)))) (aa ac.out (aa bn.out (ah C.out _))))))),.inr ⟨C.out,rfl,F.out⟩⟩
   have cw:=ai am;clear am ca be
   go_wp2_with fail
   refine (bu cw.out (by omega) (by kernel_rfl)).mono ?_;rintro e ew ⟨ea,cb,dp⟩;have cp:=ai cb
   rcases dp with ⟨bf,rfl,an⟩|⟨bf,rfl,an⟩
   rotate_left
   ·have F:=ai an;have C:=ai bf;clear an cb bf
    go_wp2_with fail
    exact ⟨rfl,_,(aa G.out (aa H.out (aa (bi I.out) (aa (bm (aA J.out) (aO (aa M.out (aa Y.out aF)))) (aa ac.out (aa bn.out (aa cp.out (ah C.out _)))))))),.inr ⟨C.out,rfl,F.out⟩⟩
   have ck:=ai an;clear an cb bf
   go_wp2_with fail
   go_end0
   exact ⟨_,(aa G.out (aa H.out (aa (bi I.out) (aa (bm (aA J.out) (aO (aa M.out (aa Y.out aF)))) (aa ac.out (aa bn.out (aa cp.out aF))))))),.inl ⟨ck.out.e0,rfl,ck.out⟩⟩
  have J:=ai au;have S:=ai O;clear au O
  go_wp2_with fail
  refine (bu S.out (by omega) (by kernel_rfl)).mono ?_;rintro e ex ⟨dc,cc,dq⟩;have ad:=ai cc
  rcases dq with ⟨bg,rfl,ap⟩|⟨bg,rfl,ap⟩
  rotate_left
  ·have F:=ai ap;have C:=ai bg;clear ap cc bg
   go_wp2_with fail
   exact ⟨rfl,_,(aa G.out (aa H.out (aa (bi I.out) (aa (bi (aM J.out)) (aa ad.out (ah C.out _)))))),.inr ⟨C.out,rfl,F.out⟩⟩
  have cl:=ai ap;clear ap cc bg
  go_wp2_with fail
  refine (aQ cl.out (by omega) (by omega) (gt _) (hblockA (ms (aG X.l) dc) (by have m0:=HM.out;have m1:=az aC G.out H0.out.e0 Q.out.e0;have m2:=az df H.out Q.out.e0 H2.out.e0;have ei:=az aC ad.out S.out.e0 cl.out.e0;omega)) ja rfl (fun d' hh=>aU (m:=.block) rfl hh)).mono ?_;rintro e ey ⟨eb,cd,dr⟩;have bo:=ai cd
  rcases dr with ⟨bh,rfl,aq⟩|⟨bh,rfl,aq⟩
  rotate_left
  ·have F:=ai aq;have C:=ai bh;clear aq cd bh
   go_wp2_with fail
   exact ⟨rfl,_,(aa G.out (aa H.out (aa (bi I.out) (aa (bi (aM J.out)) (aa ad.out (aa bo.out (ah C.out _))))))),.inr ⟨C.out,rfl,F.out⟩⟩
  have cx:=ai aq;clear aq cd bh
  go_wp2_with fail
  refine (bu cx.out (by omega) (by kernel_rfl)).mono ?_;rintro e ez ⟨ec,ce,ds⟩;have cq:=ai ce
  rcases ds with ⟨bj,rfl,ar⟩|⟨bj,rfl,ar⟩
  rotate_left
  ·have F:=ai ar;have C:=ai bj;clear ar ce bj
   go_wp2_with fail
   exact ⟨rfl,_,(aa G.out (aa H.out (aa (bi I.out) (aa (bi (aM J.out)) (aa ad.out (aa bo.out (aa cq.out (ah C.out _)))))))),.inr ⟨C.out,rfl,F.out⟩⟩
  have cm:=ai ar;clear ar ce bj
  go_wp2_with fail
  go_end0
  exact ⟨_,(aa G.out (aa H.out (aa (bi I.out) (aa (bi (aM J.out)) (aa ad.out (aa bo.out (aa cq.out aF))))))),.inl ⟨cm.out.e0,rfl,cm.out⟩⟩
theorem Cy (n:Nat) (htypedA:∀k,k<n->bJ 235 g9 90 k):bJ 237 me 90 n:=by
 intro X r d W h hr hm;have H0:Hid (SD X r d W):=h;have HM:Hid (ms (aG X.l) d<=n):=hm;have ag:=mkfn;clear h hm
 go_enter Tryz.func237,Tryz.ntmps237
 go_wp2_with fail
 refine (bu H0.out (by omega) (by kernel_rfl)).mono ?_;rintro e w1 ⟨d1,i1,o1⟩;have I:=ai i1
 rcases o1 with ⟨z1,rfl,h1⟩|⟨z1,rfl,h1⟩
 rotate_left
 ·have H:=ai h1;have C:=ai z1;clear h1 i1 z1
  go_wp2_with fail
  exact ⟨rfl,_,(aa I.out (ah C.out _)),.inr ⟨C.out,rfl,H.out⟩⟩
 have H1:=ai h1;clear h1 i1 z1
 go_wp2_with fail
 refine (aQ H1.out (by omega) (by omega) (gt _) (kG (htypedA (ms (aG X.l) d1) (by have m0:=HM.out;have m1:=az aC I.out H0.out.e0 H1.out.e0;omega))) lh rfl (fun d' hh=>aU (m:=.param) rfl hh)).mono ?_;rintro e w2 ⟨d2,i2,o2⟩;have Q:=ai i2
 rcases o2 with ⟨z2,rfl,h2⟩|⟨z2,rfl,h2⟩
 rotate_left
 ·have H:=ai h2;have C:=ai z2;clear h2 i2 z2
  go_wp2_with fail
  exact ⟨rfl,_,(aa I.out (aa Q.out (ah C.out _))),.inr ⟨C.out,rfl,H.out⟩⟩
 have H2:=ai h2;clear h2 i2 z2
 go_wp2_with fail
 go_loopw [] (fun wr=>∃dk,Hid (SD X 0 dk wr)/\Hid (Lp (aG X.l) (.row [.wd 6 [⟨#[59]⟩],.mt .param]) d2 dk)) (fun wr=>mW X wr)
 case atStart=>exact ⟨_,H2.out,.refl⟩
 case round=>
  obtain ⟨e3,J,F⟩:=hrel
  go_wp2_with fail
  refine (bN J.out (by omega) [⟨#[59]⟩] (by simp) (by kernel_rfl) rfl rfl).mono ?_;rintro e w4 (⟨q4,rfl,O⟩|⟨q4,d4,i4,o4⟩)
  rotate_left
  ·have U:=ai q4;clear q4;have Z:=ai i4
   rcases o4 with ⟨z4,rfl,O⟩|⟨z4,rfl,O⟩
   rotate_left
   ·have H:=ai O;have C:=ai z4;clear O i4 z4
    go_wp2_with fail
    exact ⟨rfl,_,(aa I.out (aa Q.out (aa (F.out.go _ (bq (aA U.out) (aO (aa Z.out (ah C.out _))) (aT C.out))) (ah C.out _)))),.inr ⟨C.out,rfl,H.out⟩⟩
   have Y:=ai O;clear O i4 z4
   go_wp2_with fail
   refine (aQ Y.out (by omega) (by omega) (gt _) (kG (htypedA (ms (aG X.l) d4) (by have m0:=HM.out;have m1:=az aC I.out H0.out.e0 H1.out.e0;have m2:=bK Q.out;have ad:=F.out.le;have m4:=az aC Z.out J.out.e0 Y.out.e0;omega))) lh rfl (fun d' hh=>aU (m:=.param) rfl hh)).mono ?_;rintro e w5 ⟨d5,i5,o5⟩;have I5:=ai i5
   rcases o5 with ⟨z5,rfl,h5⟩|⟨z5,rfl,h5⟩
   rotate_left
   ·have H:=ai h5;have C:=ai z5;clear h5 i5 z5
    go_wp2_with fail
    exact ⟨rfl,_,(aa I.out (aa Q.out (aa (F.out.go _ (bq (aA U.out) (aO (aa Z.out (aa I5.out (ah C.out _)))) (aT C.out))) (ah C.out _)))),.inr ⟨C.out,rfl,H.out⟩⟩
   have H5:=ai h5;clear h5 i5 z5
   go_wp2_with fail
   exact ⟨⟨_,H5.out,F.out.step (aA U.out) (aO (aa Z.out (aa I5.out aF)))⟩,iM J.out H5.out (by have m0:=HM.out;have m1:=az aC I.out H0.out.e0 H1.out.e0;have m2:=bK Q.out;have ad:=F.out.le;have m4:=az aC Z.out J.out.e0 Y.out.e0;have m5:=bK I5.out;omega)⟩
  have U:=ai q4;have Y:=ai O;clear q4 O
  go_wp2_with fail
  refine (bu Y.out (by omega) (by kernel_rfl)).mono ?_;rintro e aj ⟨af,S,ae⟩;have ac:=ai S
  rcases ae with ⟨M,rfl,G⟩|⟨M,rfl,G⟩
  rotate_left
  ·have H:=ai G;have C:=ai M;clear G S M
   go_wp2_with fail
   exact ⟨rfl,_,(aa I.out (aa Q.out (aa (F.out.fin (aM U.out)) (aa ac.out (ah C.out _))))),.inr ⟨C.out,rfl,H.out⟩⟩
  have ab:=ai G;clear G S M
  go_wp2_with fail
  go_end0
  exact ⟨_,(aa I.out (aa Q.out (aa (F.out.fin (aM U.out)) (aa ac.out aF)))),.inl ⟨ab.out.e0,rfl,ab.out⟩⟩
theorem D7 (n:Nat) (hkindA:∀k,k<n->PC .kind 238 k):bJ 235 g9 90 n:=by
 intro X r d W h hr hm;have H0:Hid (SD X r d W):=h;have HM:Hid (ms (aG X.l) d<=n):=hm;have ar:=mkfn;clear h hm
 go_enter Tryz.func235,Tryz.ntmps235
 go_wp2_with fail
 refine (fU H0.out (by omega)).mono ?_;rintro e w1 ⟨d1,i1,o1⟩;have Q:=ai i1
 rcases o1 with ⟨z1,rfl,h1⟩|⟨z1,rfl,h1⟩
 rotate_left
 ·have I:=ai h1;have C:=ai z1;clear h1 i1 z1
  go_wp2_with fail
  exact ⟨rfl,_,(aa Q.out (ah C.out _)),.inr ⟨C.out,rfl,I.out⟩⟩
 have H1:=ai h1;clear h1 i1 z1
 go_wp2_with fail
 go_loopw [] (fun wr=>∃dk,Hid (SD X 0 dk wr)/\Hid (Lp (aG X.l) (.row [.wd 6 [⟨#[44]⟩],.nm]) d1 dk)) (fun wr=>mW X wr)
 case atStart=>exact ⟨_,H1.out,.refl⟩
 case round=>
  obtain ⟨e2,ab,F⟩:=hrel
  go_wp2_with fail
  refine (bN ab.out (by omega) [⟨#[44]⟩] (by simp) (by kernel_rfl) rfl rfl).mono ?_;rintro e w3 (⟨q3,rfl,S⟩|⟨q3,d3,i3,o3⟩)
  rotate_left
  ·have Y:=ai q3;clear q3;have I3:=ai i3
   rcases o3 with ⟨z3,rfl,S⟩|⟨z3,rfl,S⟩
   rotate_left
   ·have I:=ai S;have C:=ai z3;clear S i3 z3
    go_wp2_with fail
    exact ⟨rfl,_,(aa Q.out (aa (F.out.go _ (bq (aA Y.out) (aO (aa I3.out (ah C.out _))) (aT C.out))) (ah C.out _))),.inr ⟨C.out,rfl,I.out⟩⟩
   have H3:=ai S;clear S i3 z3
   go_wp2_with fail
   refine (fU H3.out (by omega)).mono ?_;rintro e w4 ⟨d4,i4,o4⟩;have I4:=ai i4
   rcases o4 with ⟨z4,rfl,h4⟩|⟨z4,rfl,h4⟩
   rotate_left
   ·have I:=ai h4;have C:=ai z4;clear h4 i4 z4
    go_wp2_with fail
    exact ⟨rfl,_,(aa Q.out (aa (F.out.go _ (bq (aA Y.out) (aO (aa I3.out (aa I4.out (ah C.out _)))) (aT C.out))) (ah C.out _))),.inr ⟨C.out,rfl,I.out⟩⟩
   have H4:=ai h4;clear h4 i4 z4
   go_wp2_with fail
   exact ⟨⟨_,H4.out,F.out.step (aA Y.out) (aO (aa I3.out (aa I4.out aF)))⟩,iM ab.out H4.out (by have m0:=HM.out;have m1:=az df Q.out H0.out.e0 H1.out.e0;have am:=F.out.le;have m3:=az aC I3.out ab.out.e0 H3.out.e0;have m4:=az df I4.out H3.out.e0 H4.out.e0;omega)⟩
  have Y:=ai q3;have H3:=ai S;clear q3 S
  go_wp2_with fail
  refine (bu H3.out (by omega) (by kernel_rfl)).mono ?_;rintro e aw ⟨al,ac,an⟩;have J:=ai ac
  rcases an with ⟨M,rfl,G⟩|⟨M,rfl,G⟩
  rotate_left
  ·have I:=ai G;have C:=ai M;clear G ac M
   go_wp2_with fail
   exact ⟨rfl,_,(aa Q.out (aa (F.out.fin (aM Y.out)) (aa J.out (ah C.out _)))),.inr ⟨C.out,rfl,I.out⟩⟩
  have Z:=ai G;clear G ac M
  go_wp2_with fail
  refine ((hkindA (ms (aG X.l) al) (by have m0:=HM.out;have m1:=az df Q.out H0.out.e0 H1.out.e0;have am:=F.out.le;have au:=az aC J.out H3.out.e0 Z.out.e0;omega)) X _ _ _ Z.out).mono ?_;rintro e ax ⟨u26,av,rfl,ag,U⟩;have ak:=ai ag;have aj:=show Hid _ from Z.out.below U
  clear ag U
  go_wp2_with fail
  refine (dY aj.out (by omega) (gt _) ak.out).mono ?_;rintro e ay ⟨aq,ad,ap⟩;have af:=ai ad
  rcases ap with ⟨O,rfl,H⟩|⟨O,rfl,H⟩
  rotate_left
  ·have I:=ai H;have C:=ai O;clear H ad O
   go_wp2_with fail
   exact ⟨rfl,_,(aa Q.out (aa (F.out.fin (aM Y.out)) (aa J.out (aa af.out (ah C.out _))))),.inr ⟨C.out,rfl,I.out⟩⟩
  have ae:=ai H;clear H ad O
  go_wp2_with fail
  go_end0
  exact ⟨_,(aa Q.out (aa (F.out.fin (aM Y.out)) (aa J.out (aa af.out aF)))),.inl ⟨ae.out.e0,rfl,ae.out⟩⟩
theorem Im (n:Nat) (hexprA:∀k,k<n->bJ 236 dK 50 k) (hkindA:∀k,k<n->PC .kind 238 k):bJ 250 iY 90 n:=by
 intro X r d W h hr hm;have H0:Hid (SD X r d W):=h;have HM:Hid (ms (aG X.l) d<=n):=hm;have ac:=mkfn;clear h hm
 go_enter Tryz.func250,Tryz.ntmps250
 go_wp2_with fail
 refine (bW H0.out (by omega) (by kernel_rfl)).mono ?_;rintro e w1 ⟨d1,i1,o1⟩;have G:=ai i1
 rcases o1 with ⟨z1,rfl,S⟩|⟨z1,rfl,S⟩
 rotate_left
 ·have F:=ai S;have C:=ai z1;clear S i1 z1
  go_wp2_with fail
  exact ⟨rfl,_,(aa G.out (ah C.out _)),.inr ⟨C.out,rfl,F.out⟩⟩
 have M:=ai S;clear S i1 z1
 go_wp2_with fail
 refine (bu M.out (by omega) (by kernel_rfl)).mono ?_;rintro e w2 ⟨d2,i2,o2⟩;have H:=ai i2
 rcases o2 with ⟨z2,rfl,U⟩|⟨z2,rfl,U⟩
 rotate_left
 ·have F:=ai U;have C:=ai z2;clear U i2 z2
  go_wp2_with fail
  exact ⟨rfl,_,(aa G.out (aa H.out (ah C.out _))),.inr ⟨C.out,rfl,F.out⟩⟩
 have H2:=ai U;clear U i2 z2
 go_wp2_with fail
 refine (aQ H2.out (by omega) (by omega) (gt _) (hexprA (ms (aG X.l) d2) (by have m0:=HM.out;have m1:=az aC G.out H0.out.e0 M.out.e0;have m2:=az aC H.out M.out.e0 H2.out.e0;omega)) dN rfl (fun d' hh=>aU (m:=.expr) rfl hh)).mono ?_;rintro e w3 ⟨d3,i3,o3⟩;have I:=ai i3
 rcases o3 with ⟨z3,rfl,Y⟩|⟨z3,rfl,Y⟩
 rotate_left
 ·have F:=ai Y;have C:=ai z3;clear Y i3 z3
  go_wp2_with fail
  exact ⟨rfl,_,(aa G.out (aa H.out (aa I.out (ah C.out _)))),.inr ⟨C.out,rfl,F.out⟩⟩
 have H3:=ai Y;clear Y i3 z3
 go_wp2_with fail
 refine (bu H3.out (by omega) (by kernel_rfl)).mono ?_;rintro e w4 ⟨d4,i4,o4⟩;have J:=ai i4
 rcases o4 with ⟨z4,rfl,Z⟩|⟨z4,rfl,Z⟩
 rotate_left
 ·have F:=ai Z;have C:=ai z4;clear Z i4 z4
  go_wp2_with fail
  exact ⟨rfl,_,(aa G.out (aa H.out (aa I.out (aa J.out (ah C.out _))))),.inr ⟨C.out,rfl,F.out⟩⟩
 have H4:=ai Z;clear Z i4 z4
 go_wp2_with fail
 refine (aQ H4.out (by omega) (by omega) (gt _) (hexprA (ms (aG X.l) d4) (by have m0:=HM.out;have m1:=az aC G.out H0.out.e0 M.out.e0;have m2:=az aC H.out M.out.e0 H2.out.e0;have m3:=bK I.out;have m4:=az aC J.out H3.out.e0 H4.out.e0;omega)) dN rfl (fun d' hh=>aU (m:=.expr) rfl hh)).mono ?_;rintro e w5 ⟨d5,i5,o5⟩;have O:=ai i5
 rcases o5 with ⟨z5,rfl,h5⟩|⟨z5,rfl,h5⟩
 rotate_left
 ·have F:=ai h5;have C:=ai z5;clear h5 i5 z5
  go_wp2_with fail
  exact ⟨rfl,_,(aa G.out (aa H.out (aa I.out (aa J.out (aa O.out (ah C.out _)))))),.inr ⟨C.out,rfl,F.out⟩⟩
 have H5:=ai h5;clear h5 i5 z5
 go_wp2_with fail
 refine (bu H5.out (by omega) (by kernel_rfl)).mono ?_;rintro e w6 ⟨d6,i6,o6⟩;have Q:=ai i6
 rcases o6 with ⟨z6,rfl,h6⟩|⟨z6,rfl,h6⟩
 rotate_left
 ·have F:=ai h6;have C:=ai z6;clear h6 i6 z6
  go_wp2_with fail
  exact ⟨rfl,_,(aa G.out (aa H.out (aa I.out (aa J.out (aa O.out (aa Q.out (ah C.out _))))))),.inr ⟨C.out,rfl,F.out⟩⟩
 have H6:=ai h6;clear h6 i6 z6
 go_wp2_with fail
 refine (bW H6.out (by omega) (by kernel_rfl)).mono ?_;rintro e w7 ⟨d7,i7,o7⟩;have I7:=ai i7
 rcases o7 with ⟨z7,rfl,h7⟩|⟨z7,rfl,h7⟩
 rotate_left
 ·have F:=ai h7;have C:=ai z7;clear h7 i7 z7
  go_wp2_with fail
  exact ⟨rfl,_,(aa G.out (aa H.out (aa I.out (aa J.out (aa O.out (aa Q.out (aa I7.out (ah C.out _)))))))),.inr ⟨C.out,rfl,F.out⟩⟩
 have H7:=ai h7;clear h7 i7 z7
 go_wp2_with fail
 refine ((hkindA (ms (aG X.l) d7) (by have m0:=HM.out;have m1:=az aC G.out H0.out.e0 M.out.e0;have m2:=az aC H.out M.out.e0 H2.out.e0;have m3:=bK I.out;have m4:=az aC J.out H3.out.e0 H4.out.e0;have m5:=bK O.out;have m6:=az aC Q.out H5.out.e0 H6.out.e0;have m7:=az aC I7.out H6.out.e0 H7.out.e0;omega)) X _ _ _ H7.out).mono ?_;rintro e w8 ⟨u8,v8,rfl,p8,ab⟩;have P8:=ai p8;have H8:=show Hid _ from H7.out.below ab
 clear p8 ab
 go_wp2_with fail
 refine (dY H8.out (by omega) (gt _) P8.out).mono ?_;rintro e w9 ⟨d9,i9,o9⟩;have I9:=ai i9
 rcases o9 with ⟨z9,rfl,h9⟩|⟨z9,rfl,h9⟩
 rotate_left
 ·have F:=ai h9;have C:=ai z9;clear h9 i9 z9
  go_wp2_with fail
  exact ⟨rfl,_,(aa G.out (aa H.out (aa I.out (aa J.out (aa O.out (aa Q.out (aa I7.out (aa I9.out (ah C.out _))))))))),.inr ⟨C.out,rfl,F.out⟩⟩
 have H9:=ai h9;clear h9 i9 z9
 go_wp2_with fail
 go_end0
 exact ⟨_,(aa G.out (aa H.out (aa I.out (aa J.out (aa O.out (aa Q.out (aa I7.out (aa I9.out aF)))))))),.inl ⟨H9.out.e0,rfl,H9.out⟩⟩
theorem Cg (n:Nat) (htypedA:∀k,k<n->bJ 235 g9 90 k):bJ 251 ia 90 n:=by
 intro X r d W h hr hm;have H0:Hid (SD X r d W):=h;have HM:Hid (ms (aG X.l) d<=n):=hm;have ag:=mkfn;clear h hm
 go_enter Tryz.func251,Tryz.ntmps251
 go_wp2_with fail
 refine (bW H0.out (by omega) (by kernel_rfl)).mono ?_;rintro e w1 ⟨d1,i1,o1⟩;have I:=ai i1
 rcases o1 with ⟨z1,rfl,h1⟩|⟨z1,rfl,h1⟩
 rotate_left
 ·have H:=ai h1;have C:=ai z1;clear h1 i1 z1
  go_wp2_with fail
  exact ⟨rfl,_,(aa I.out (ah C.out _)),.inr ⟨C.out,rfl,H.out⟩⟩
 have H1:=ai h1;clear h1 i1 z1
 go_wp2_with fail
 refine (aQ H1.out (by omega) (by omega) (gt _) (kG (htypedA (ms (aG X.l) d1) (by have m0:=HM.out;have m1:=az aC I.out H0.out.e0 H1.out.e0;omega))) lh rfl (fun d' hh=>aU (m:=.member) rfl hh)).mono ?_;rintro e w2 ⟨d2,i2,o2⟩;have Q:=ai i2
 rcases o2 with ⟨z2,rfl,h2⟩|⟨z2,rfl,h2⟩
 rotate_left
 ·have H:=ai h2;have C:=ai z2;clear h2 i2 z2
  go_wp2_with fail
  exact ⟨rfl,_,(aa I.out (aa Q.out (ah C.out _))),.inr ⟨C.out,rfl,H.out⟩⟩
 have H2:=ai h2;clear h2 i2 z2
 go_wp2_with fail
 go_loopw [] (fun wr=>∃dk,Hid (SD X 0 dk wr)/\Hid (Lp (aG X.l) (.row [.wd 6 [⟨#[59]⟩],.mt .member]) d2 dk)) (fun wr=>mW X wr)
 case atStart=>exact ⟨_,H2.out,.refl⟩
 case round=>
  obtain ⟨e3,J,F⟩:=hrel
  go_wp2_with fail
  refine (bN J.out (by omega) [⟨#[59]⟩] (by simp) (by kernel_rfl) rfl rfl).mono ?_;rintro e w4 (⟨q4,rfl,O⟩|⟨q4,d4,i4,o4⟩)
  rotate_left
  ·have U:=ai q4;clear q4;have Z:=ai i4
   rcases o4 with ⟨z4,rfl,O⟩|⟨z4,rfl,O⟩
   rotate_left
   ·have H:=ai O;have C:=ai z4;clear O i4 z4
    go_wp2_with fail
    exact ⟨rfl,_,(aa I.out (aa Q.out (aa (F.out.go _ (bq (aA U.out) (aO (aa Z.out (ah C.out _))) (aT C.out))) (ah C.out _)))),.inr ⟨C.out,rfl,H.out⟩⟩
   have Y:=ai O;clear O i4 z4
   go_wp2_with fail
   refine (aQ Y.out (by omega) (by omega) (gt _) (kG (htypedA (ms (aG X.l) d4) (by have m0:=HM.out;have m1:=az aC I.out H0.out.e0 H1.out.e0;have m2:=bK Q.out;have ad:=F.out.le;have m4:=az aC Z.out J.out.e0 Y.out.e0;omega))) lh rfl (fun d' hh=>aU (m:=.member) rfl hh)).mono ?_;rintro e w5 ⟨d5,i5,o5⟩;have I5:=ai i5
   rcases o5 with ⟨z5,rfl,h5⟩|⟨z5,rfl,h5⟩
   rotate_left
   ·have H:=ai h5;have C:=ai z5;clear h5 i5 z5
    go_wp2_with fail
    exact ⟨rfl,_,(aa I.out (aa Q.out (aa (F.out.go _ (bq (aA U.out) (aO (aa Z.out (aa I5.out (ah C.out _)))) (aT C.out))) (ah C.out _)))),.inr ⟨C.out,rfl,H.out⟩⟩
   have H5:=ai h5;clear h5 i5 z5
   go_wp2_with fail
   exact ⟨⟨_,H5.out,F.out.step (aA U.out) (aO (aa Z.out (aa I5.out aF)))⟩,iM J.out H5.out (by have m0:=HM.out;have m1:=az aC I.out H0.out.e0 H1.out.e0;have m2:=bK Q.out;have ad:=F.out.le;have m4:=az aC Z.out J.out.e0 Y.out.e0;have m5:=bK I5.out;omega)⟩
  have U:=ai q4;have Y:=ai O;clear q4 O
  go_wp2_with fail
  refine (bW Y.out (by omega) (by kernel_rfl)).mono ?_;rintro e aj ⟨af,S,ae⟩;have ac:=ai S
  rcases ae with ⟨M,rfl,G⟩|⟨M,rfl,G⟩
  rotate_left
  ·have H:=ai G;have C:=ai M;clear G S M
   go_wp2_with fail
   exact ⟨rfl,_,(aa I.out (aa Q.out (aa (F.out.fin (aM U.out)) (aa ac.out (ah C.out _))))),.inr ⟨C.out,rfl,H.out⟩⟩
  have ab:=ai G;clear G S M
  go_wp2_with fail
  go_end0
  exact ⟨_,(aa I.out (aa Q.out (aa (F.out.fin (aM U.out)) (aa ac.out aF)))),.inl ⟨ab.out.e0,rfl,ab.out⟩⟩
theorem LP (n:Nat) (hstatement:PC .statement 225 n) (hstatementA:∀k,k<n->PC .statement 225 k):bJ 195 gI 45 n:=by
 intro X r d W h hr hm;have H0:Hid (SD X r d W):=h;have HM:Hid (ms (aG X.l) d<=n):=hm;have ad:=mkfn;clear h hm
 go_enter Tryz.func195,Tryz.ntmps195
 go_wp2_with fail
 refine (hstatement X _ _ _ H0.out).mono ?_;rintro e w1 ⟨u1,v1,rfl,p1,Z⟩;have P1:=ai p1;have H1:=show Hid _ from H0.out.below Z
 clear p1 Z
 go_wp2_with fail
 refine (dY H1.out (by omega) (by have m0:=HM.out;omega) P1.out).mono ?_;rintro e w2 ⟨d2,i2,o2⟩;have J:=ai i2
 rcases o2 with ⟨z2,rfl,S⟩|⟨z2,rfl,S⟩
 rotate_left
 ·have M:=ai S;have F:=ai z2;clear S i2 z2
  go_wp2_with fail
  exact ⟨rfl,_,(aa J.out (ah F.out _)),.inr ⟨F.out,rfl,M.out⟩⟩
 have H2:=ai S;clear S i2 z2
 go_wp2_with fail
 go_loopw [] (fun wr=>∃dk,Hid (SD X 0 dk wr)/\Hid (Lp (aG X.l) (.row [.wd 6 [⟨#[59]⟩],.mt .statement]) d2 dk)) (fun wr=>mW X wr)
 case atStart=>exact ⟨_,H2.out,.refl⟩
 case round=>
  obtain ⟨e3,G,C⟩:=hrel
  go_wp2_with fail
  refine (bN G.out (by omega) [⟨#[59]⟩] (by simp) (by kernel_rfl) rfl rfl).mono ?_;rintro e w4 (⟨Y,rfl,H⟩|⟨Y,d4,i4,o4⟩)
  rotate_left
  ·have Q:=ai Y;clear Y;have O:=ai i4
   rcases o4 with ⟨z4,rfl,H⟩|⟨z4,rfl,H⟩
   rotate_left
   ·have M:=ai H;have F:=ai z4;clear H i4 z4
    go_wp2_with fail
    exact ⟨rfl,_,(aa J.out (aa (C.out.go _ (bq (aA Q.out) (aO (aa O.out (ah F.out _))) (aT F.out))) (ah F.out _))),.inr ⟨F.out,rfl,M.out⟩⟩
   have I:=ai H;clear H i4 z4
   go_wp2_with fail
   refine ((hstatementA (ms (aG X.l) d4) (by have m0:=HM.out;have m2:=bK J.out;have ac:=C.out.le;have m4:=az aC O.out G.out.e0 I.out.e0;omega)) X _ _ _ I.out).mono ?_;rintro e w5 ⟨u5,v5,rfl,p5,ab⟩;have P5:=ai p5;have H5:=show Hid _ from I.out.below ab
   clear p5 ab
   go_wp2_with fail
   refine (dY H5.out (by omega) (gt _) P5.out).mono ?_;rintro e w6 ⟨d6,i6,o6⟩;have I6:=ai i6
   rcases o6 with ⟨z6,rfl,U⟩|⟨z6,rfl,U⟩
   rotate_left
   ·have M:=ai U;have F:=ai z6;clear U i6 z6
    go_wp2_with fail
    exact ⟨rfl,_,(aa J.out (aa (C.out.go _ (bq (aA Q.out) (aO (aa O.out (aa I6.out (ah F.out _)))) (aT F.out))) (ah F.out _))),.inr ⟨F.out,rfl,M.out⟩⟩
   have H6:=ai U;clear U i6 z6
   go_wp2_with fail
   exact ⟨⟨_,H6.out,C.out.step (aA Q.out) (aO (aa O.out (aa I6.out aF)))⟩,iM G.out H6.out (by have m0:=HM.out;have m2:=bK J.out;have ac:=C.out.le;have m4:=az aC O.out G.out.e0 I.out.e0;have m6:=bK I6.out;omega)⟩
  have Q:=ai Y;have I:=ai H;clear Y H
  go_wp2_with fail
  go_end0
  exact ⟨_,(aa J.out (aa (C.out.fin (aM Q.out)) aF)),.inl ⟨I.out.e0,rfl,I.out⟩⟩
theorem JA (n:Nat):bJ 240 oc 90 n:=by
 intro X r d W h Z M;have O:Hid (SD X r d W):=h;have Y:Hid (ms (aG X.l) d<=n):=M;have U:=mkfn;clear h M
 go_enter Tryz.func240,Tryz.ntmps240
 go_wp2_with fail
 refine (bW O.out (by omega) (by kernel_rfl)).mono ?_;rintro e w1 ⟨d1,G,S⟩;have J:=ai G
 rcases S with ⟨F,rfl,C⟩|⟨F,rfl,C⟩
 rotate_left
 ·have Q:=ai C;have I:=ai F;clear C G F
  go_wp2_with fail
  exact ⟨rfl,_,(aa J.out (ah I.out _)),.inr ⟨I.out,rfl,Q.out⟩⟩
 have H:=ai C;clear C G F
 go_wp2_with fail
 go_end0
 exact ⟨_,(aa J.out aF),.inl ⟨H.out.e0,rfl,H.out⟩⟩
theorem O8 (n:Nat) (hobject:bJ 252 ib 95 n) (hexprA:∀k,k<n->bJ 236 dK 50 k):bJ 239 pR 90 n:=by
 intro X r d W h hr hm;have H0:Hid (SD X r d W):=h;have HM:Hid (ms (aG X.l) d<=n):=hm;have ab:=mkfn;clear h hm
 go_enter Tryz.func239,Tryz.ntmps239
 go_wp2_with fail
 refine (aQ H0.out (by omega) (by omega) (by have m0:=HM.out;omega) hobject rS rfl (fun d' hh=>aU (m:=.object) rfl hh)).mono ?_;rintro e w1 ⟨d1,i1,o1⟩;have G:=ai i1
 rcases o1 with ⟨U,rfl,M⟩|⟨U,rfl,M⟩
 rotate_left
 ·have I:=ai M;have C:=ai U;clear M i1 U
  go_wp2_with fail
  exact ⟨rfl,_,(aa G.out (ah C.out _)),.inr ⟨C.out,rfl,I.out⟩⟩
 have H1:=ai M;clear M i1 U
 go_wp2_with fail
 refine (bN H1.out (by omega) [⟨#[58,61]⟩] (by simp) (by kernel_rfl) rfl rfl).mono ?_;rintro e w2 (⟨Q,rfl,F⟩|⟨Q,d2,i2,o2⟩)
 rotate_left
 ·have J:=ai Q;clear Q;have S:=ai i2
  rcases o2 with ⟨Y,rfl,F⟩|⟨Y,rfl,F⟩
  rotate_left
  ·have I:=ai F;have C:=ai Y;clear F i2 Y
   go_wp2_with fail
   exact ⟨rfl,_,(aa G.out (aa (bm (aA J.out) (aO (aa S.out (ah C.out _)))) (ah C.out _))),.inr ⟨C.out,rfl,I.out⟩⟩
  have H:=ai F;clear F i2 Y
  go_wp2_with fail
  refine (aQ H.out (by omega) (by omega) (gt _) (hexprA (ms (aG X.l) d2) (by have m0:=HM.out;have m1:=bK G.out;have m2:=az aC S.out H1.out.e0 H.out.e0;omega)) dN rfl (fun d' hh=>aU (m:=.expr) rfl hh)).mono ?_;rintro e w3 ⟨d3,i3,o3⟩;have I3:=ai i3
  rcases o3 with ⟨Z,rfl,O⟩|⟨Z,rfl,O⟩
  rotate_left
  ·have I:=ai O;have C:=ai Z;clear O i3 Z
   go_wp2_with fail
   exact ⟨rfl,_,(aa G.out (aa (bm (aA J.out) (aO (aa S.out (aa I3.out (ah C.out _))))) (ah C.out _))),.inr ⟨C.out,rfl,I.out⟩⟩
  have H3:=ai O;clear O i3 Z
  go_wp2_with fail
  go_end0
  exact ⟨_,(aa G.out (aa (bm (aA J.out) (aO (aa S.out (aa I3.out aF)))) aF)),.inl ⟨H3.out.e0,rfl,H3.out⟩⟩
 have J:=ai Q;have H:=ai F;clear Q F
 go_wp2_with fail
 go_end0
 exact ⟨_,(aa G.out (aa (bi (aM J.out)) aF)),.inl ⟨H.out.e0,rfl,H.out⟩⟩
theorem DF (n:Nat) (hexpr:bJ 236 dK 50 n) (hbodyA:∀k,k<n->bJ 195 gI 45 k):bJ 253 mf 45 n:=by
 intro X r d W h hr hm;have H0:Hid (SD X r d W):=h;have HM:Hid (ms (aG X.l) d<=n):=hm;have ab:=mkfn;clear h hm
 go_enter Tryz.func253,Tryz.ntmps253
 go_wp2_with fail
 refine (aQ H0.out (by omega) (by omega) (by have m0:=HM.out;omega) hexpr dN rfl (fun d' U=>aU (m:=.expr) rfl U)).mono ?_;rintro e w1 ⟨d1,Y,o1⟩;have G:=ai Y
 rcases o1 with ⟨O,rfl,H⟩|⟨O,rfl,H⟩
 rotate_left
 ·have F:=ai H;have C:=ai O;clear H Y O
  go_wp2_with fail
  exact ⟨rfl,_,(aa G.out (ah C.out _)),.inr ⟨C.out,rfl,F.out⟩⟩
 have H1:=ai H;clear H Y O
 go_wp2_with fail
 refine (bW H1.out (by omega) (by kernel_rfl)).mono ?_;rintro e w2 ⟨d2,Z,o2⟩;have M:=ai Z
 rcases o2 with ⟨Q,rfl,I⟩|⟨Q,rfl,I⟩
 rotate_left
 ·have F:=ai I;have C:=ai Q;clear I Z Q
  go_wp2_with fail
  exact ⟨rfl,_,(aa G.out (aa M.out (ah C.out _))),.inr ⟨C.out,rfl,F.out⟩⟩
 have H2:=ai I;clear I Z Q
 go_wp2_with fail
 refine (aQ H2.out (by omega) (by omega) (gt _) (hbodyA (ms (aG X.l) d2) (by have m0:=HM.out;have m1:=bK G.out;have m2:=az aC M.out H1.out.e0 H2.out.e0;omega)) jH rfl (fun d' U=>aU (m:=.body) rfl U)).mono ?_;rintro e w3 ⟨d3,i3,o3⟩;have I3:=ai i3
 rcases o3 with ⟨S,rfl,J⟩|⟨S,rfl,J⟩
 rotate_left
 ·have F:=ai J;have C:=ai S;clear J i3 S
  go_wp2_with fail
  exact ⟨rfl,_,(aa G.out (aa M.out (aa I3.out (ah C.out _)))),.inr ⟨C.out,rfl,F.out⟩⟩
 have H3:=ai J;clear J i3 S
 go_wp2_with fail
 go_end0
 exact ⟨_,(aa G.out (aa M.out (aa I3.out aF))),.inl ⟨H3.out.e0,rfl,H3.out⟩⟩
theorem Lu (n:Nat) (hbodyA:∀k,k<n->bJ 195 gI 45 k):bJ 254 oe 90 n:=by
 intro X r d W h hr hm;have H0:Hid (SD X r d W):=h;have HM:Hid (ms (aG X.l) d<=n):=hm;have ab:=mkfn;clear h hm
 go_enter Tryz.func254,Tryz.ntmps254
 go_wp2_with fail
 refine (bW H0.out (by omega) (by kernel_rfl)).mono ?_;rintro e w1 ⟨d1,U,o1⟩;have G:=ai U
 rcases o1 with ⟨M,rfl,H⟩|⟨M,rfl,H⟩
 rotate_left
 ·have F:=ai H;have C:=ai M;clear H U M
  go_wp2_with fail
  exact ⟨rfl,_,(aa G.out (ah C.out _)),.inr ⟨C.out,rfl,F.out⟩⟩
 have H1:=ai H;clear H U M
 go_wp2_with fail
 refine (aQ H1.out (by omega) (by omega) (gt _) (hbodyA (ms (aG X.l) d1) (by have m0:=HM.out;have m1:=az aC G.out H0.out.e0 H1.out.e0;omega)) jH rfl (fun d' hh=>aU (m:=.body) rfl hh)).mono ?_;rintro e w2 ⟨d2,Y,o2⟩;have S:=ai Y
 rcases o2 with ⟨O,rfl,I⟩|⟨O,rfl,I⟩
 rotate_left
 ·have F:=ai I;have C:=ai O;clear I Y O
  go_wp2_with fail
  exact ⟨rfl,_,(aa G.out (aa S.out (ah C.out _))),.inr ⟨C.out,rfl,F.out⟩⟩
 have H2:=ai I;clear I Y O
 go_wp2_with fail
 refine (bW H2.out (by omega) (by kernel_rfl)).mono ?_;rintro e w3 ⟨d3,Z,o3⟩;have I3:=ai Z
 rcases o3 with ⟨Q,rfl,J⟩|⟨Q,rfl,J⟩
 rotate_left
 ·have F:=ai J;have C:=ai Q;clear J Z Q
  go_wp2_with fail
  exact ⟨rfl,_,(aa G.out (aa S.out (aa I3.out (ah C.out _)))),.inr ⟨C.out,rfl,F.out⟩⟩
 have H3:=ai J;clear J Z Q
 go_wp2_with fail
 go_end0
 exact ⟨_,(aa G.out (aa S.out (aa I3.out aF))),.inl ⟨H3.out.e0,rfl,H3.out⟩⟩
theorem xx (n:Nat) (hbranchA:∀k,k<n->bJ 253 mf 45 k) (hbodyA:∀k,k<n->bJ 195 gI 45 k):bJ 241 gH 90 n:=by
 intro X r d W h hr hm;have H0:Hid (SD X r d W):=h;have HM:Hid (ms (aG X.l) d<=n):=hm;have bg:=mkfn;clear h hm
 go_enter Tryz.func241,Tryz.ntmps241
 go_wp2_with fail
 refine (bW H0.out (by omega) (by kernel_rfl)).mono ?_;rintro e w1 ⟨d1,i1,o1⟩;have J:=ai i1
 rcases o1 with ⟨z1,rfl,h1⟩|⟨z1,rfl,h1⟩
 rotate_left
 ·have H:=ai h1;have C:=ai z1;clear h1 i1 z1
  go_wp2_with fail
  exact ⟨rfl,_,(aa J.out (ah C.out _)),.inr ⟨C.out,rfl,H.out⟩⟩
 have H1:=ai h1;clear h1 i1 z1
 go_wp2_with fail
 refine ((hbranchA (ms (aG X.l) d1) (by have m0:=HM.out;have m1:=az aC J.out H0.out.e0 H1.out.e0;omega)) X _ _ _ H1.out (by omega) (gt _)).mono ?_;rintro e w2 ⟨d2,i2,o2⟩;have M:=ai i2
 rcases o2 with ⟨z2,rfl,h2⟩|⟨z2,rfl,h2⟩
 rotate_left
 ·have H:=ai h2;have C:=ai z2;clear h2 i2 z2
  go_wp2_with fail
  exact ⟨rfl,_,(aa J.out (dh M.out (ah C.out _))),.inr ⟨C.out,rfl,H.out⟩⟩
 have H2:=ai h2;clear h2 i2 z2
 go_wp2_with fail
 go_loopw [] (fun wr=>∃dk,Hid (SD X 0 dk wr)/\Hid (Lp (aG X.l) (.row [.wd 2 [⟨#[101,108,105,102]⟩],.mt .expr,.wd 2 [⟨#[116,104,101,110]⟩],.mt .body]) d2 dk)) (fun wr=>mW X wr)
 case atStart=>exact ⟨_,H2.out,.refl⟩
 case round=>
  obtain ⟨e3,ac,F⟩:=hrel
  go_wp2_with fail
  refine (iN ac.out (by omega) [⟨#[101,108,105,102]⟩] (by simp) (by kernel_rfl) rfl rfl).mono ?_;rintro e w4 (⟨q4,rfl,h4⟩|⟨q4,d4,i4,o4⟩)
  rotate_left
  ·have Z:=ai q4;clear q4;have I4:=ai i4
   rcases o4 with ⟨z4,rfl,h4⟩|⟨z4,rfl,h4⟩
   rotate_left
   ·have H:=ai h4;have C:=ai z4;clear h4 i4 z4
    go_wp2_with fail
    exact ⟨rfl,_,(aa J.out (dh M.out (aa (F.out.go _ (bq (aA Z.out) (aO (aa I4.out (ah C.out _))) (aT C.out))) (ah C.out _)))),.inr ⟨C.out,rfl,H.out⟩⟩
   have H4:=ai h4;clear h4 i4 z4
   go_wp2_with fail
   refine ((hbranchA (ms (aG X.l) d4) (by have m0:=HM.out;have m1:=az aC J.out H0.out.e0 H1.out.e0;have m2:=lT (M.out []);have av:=F.out.le;have m4:=az aC I4.out ac.out.e0 H4.out.e0;omega)) X _ _ _ H4.out (by omega) (gt _)).mono ?_;rintro e w5 ⟨d5,i5,o5⟩;have I5:=ai i5
   rcases o5 with ⟨z5,rfl,h5⟩|⟨z5,rfl,h5⟩
   rotate_left
   ·have H:=ai h5;have C:=ai z5;clear h5 i5 z5
    go_wp2_with fail
    exact ⟨rfl,_,(aa J.out (dh M.out (aa (F.out.go _ (bq (aA Z.out) (aO (aa I4.out (dh I5.out (ah C.out _)))) (aT C.out))) (ah C.out _)))),.inr ⟨C.out,rfl,H.out⟩⟩
   have H5:=ai h5;clear h5 i5 z5
   go_wp2_with fail
   exact ⟨⟨_,H5.out,F.out.step (aA Z.out) (aO (aa I4.out (dh I5.out aF)))⟩,iM ac.out H5.out (by have m0:=HM.out;have m1:=az aC J.out H0.out.e0 H1.out.e0;have m2:=lT (M.out []);have av:=F.out.le;have m4:=az aC I4.out ac.out.e0 H4.out.e0;have m5:=lT (I5.out []);omega)⟩
  have Z:=ai q4;have H4:=ai h4;clear q4 h4
  go_wp2_with fail
  refine (iN H4.out (by omega) [⟨#[101,108,115,101]⟩] (by simp) (by kernel_rfl) rfl rfl).mono ?_;rintro e bj (⟨Y,rfl,G⟩|⟨Y,ax,ak,ay⟩)
  rotate_left
  ·have I:=ai Y;clear Y;have O:=ai ak
   rcases ay with ⟨ad,rfl,G⟩|⟨ad,rfl,G⟩
   rotate_left
   ·have H:=ai G;have C:=ai ad;clear G ak ad
    go_wp2_with fail
    exact ⟨rfl,_,(aa J.out (dh M.out (aa (F.out.fin (aM Z.out)) (aa (bm (aA I.out) (aO (aa O.out (ah C.out _)))) (ah C.out _))))),.inr ⟨C.out,rfl,H.out⟩⟩
   have ab:=ai G;clear G ak ad
   go_wp2_with fail
   refine (aQ ab.out (by omega) (by omega) (gt _) (hbodyA (ms (aG X.l) ax) (by have m0:=HM.out;have m1:=az aC J.out H0.out.e0 H1.out.e0;have m2:=lT (M.out []);have av:=F.out.le;have bh:=az aC O.out H4.out.e0 ab.out.e0;omega)) jH rfl (fun d' hh=>aU (m:=.body) rfl hh)).mono ?_;rintro e bk ⟨bd,al,ba⟩;have aj:=ai al
   rcases ba with ⟨ae,rfl,Q⟩|⟨ae,rfl,Q⟩
   rotate_left
   ·have H:=ai Q;have C:=ai ae;clear Q al ae
    go_wp2_with fail
    exact ⟨rfl,_,(aa J.out (dh M.out (aa (F.out.fin (aM Z.out)) (aa (bm (aA I.out) (aO (aa O.out (aa aj.out (ah C.out _))))) (ah C.out _))))),.inr ⟨C.out,rfl,H.out⟩⟩
   have aw:=ai Q;clear Q al ae
   go_wp2_with fail
   refine (bW aw.out (by omega) (by kernel_rfl)).mono ?_;rintro e bl ⟨be,am,bb⟩;have ar:=ai am
   rcases bb with ⟨af,rfl,S⟩|⟨af,rfl,S⟩
   rotate_left
   ·have H:=ai S;have C:=ai af;clear S am af
    go_wp2_with fail
    exact ⟨rfl,_,(aa J.out (dh M.out (aa (F.out.fin (aM Z.out)) (aa (bm (aA I.out) (aO (aa O.out (aa aj.out aF)))) (aa ar.out (ah C.out _)))))),.inr ⟨C.out,rfl,H.out⟩⟩
   have ap:=ai S;clear S am af
   go_wp2_with fail
   go_end0
   exact ⟨_,(aa J.out (dh M.out (aa (F.out.fin (aM Z.out)) (aa (bm (aA I.out) (aO (aa O.out (aa aj.out aF)))) (aa ar.out aF))))),.inl ⟨ap.out.e0,rfl,ap.out⟩⟩
  have I:=ai Y;have ab:=ai G;clear Y G
  go_wp2_with fail
  refine (bW ab.out (by omega) (by kernel_rfl)).mono ?_;rintro e bn ⟨bf,an,bc⟩;have au:=ai an
  rcases bc with ⟨ag,rfl,U⟩|⟨ag,rfl,U⟩
  rotate_left
  ·have H:=ai U;have C:=ai ag;clear U an ag
   go_wp2_with fail
   exact ⟨rfl,_,(aa J.out (dh M.out (aa (F.out.fin (aM Z.out)) (aa (bi (aM I.out)) (aa au.out (ah C.out _)))))),.inr ⟨C.out,rfl,H.out⟩⟩
  have aq:=ai U;clear U an ag
  go_wp2_with fail
  go_end0
  exact ⟨_,(aa J.out (dh M.out (aa (F.out.fin (aM Z.out)) (aa (bi (aM I.out)) (aa au.out aF))))),.inl ⟨aq.out.e0,rfl,aq.out⟩⟩
theorem D1 (n:Nat) (hexprA:∀k,k<n->bJ 236 dK 50 k) (hdoneA:∀k,k<n->bJ 254 oe 90 k):bJ 242 kT 90 n:=by
 intro X r d W h hr hm;have U:Hid (SD X r d W):=h;have HM:Hid (ms (aG X.l) d<=n):=hm;have ab:=mkfn;clear h hm
 go_enter Tryz.func242,Tryz.ntmps242
 go_wp2_with fail
 refine (bW U.out (by omega) (by kernel_rfl)).mono ?_;rintro e w1 ⟨d1,Z,o1⟩;have F:=ai Z
 rcases o1 with ⟨O,rfl,H⟩|⟨O,rfl,H⟩
 rotate_left
 ·have G:=ai H;have C:=ai O;clear H Z O
  go_wp2_with fail
  exact ⟨rfl,_,(aa F.out (ah C.out _)),.inr ⟨C.out,rfl,G.out⟩⟩
 have Y:=ai H;clear H Z O
 go_wp2_with fail
 refine (aQ Y.out (by omega) (by omega) (gt _) (hexprA (ms (aG X.l) d1) (by have m0:=HM.out;have m1:=az aC F.out U.out.e0 Y.out.e0;omega)) dN rfl (fun d' hh=>aU (m:=.expr) rfl hh)).mono ?_;rintro e w2 ⟨d2,i2,o2⟩;have M:=ai i2
 rcases o2 with ⟨Q,rfl,I⟩|⟨Q,rfl,I⟩
 rotate_left
 ·have G:=ai I;have C:=ai Q;clear I i2 Q
  go_wp2_with fail
  exact ⟨rfl,_,(aa F.out (aa M.out (ah C.out _))),.inr ⟨C.out,rfl,G.out⟩⟩
 have H2:=ai I;clear I i2 Q
 go_wp2_with fail
 refine ((hdoneA (ms (aG X.l) d2) (by have m0:=HM.out;have m1:=az aC F.out U.out.e0 Y.out.e0;have m2:=bK M.out;omega)) X _ _ _ H2.out (by omega) (gt _)).mono ?_;rintro e w3 ⟨d3,i3,o3⟩;have I3:=ai i3
 rcases o3 with ⟨S,rfl,J⟩|⟨S,rfl,J⟩
 rotate_left
 ·have G:=ai J;have C:=ai S;clear J i3 S
  go_wp2_with fail
  exact ⟨rfl,_,(aa F.out (aa M.out (dh I3.out (ah C.out _)))),.inr ⟨C.out,rfl,G.out⟩⟩
 have H3:=ai J;clear J i3 S
 go_wp2_with fail
 go_end0
 exact ⟨_,(aa F.out (aa M.out (dh I3.out aF))),.inl ⟨H3.out.e0,rfl,H3.out⟩⟩
theorem G5 (n:Nat) (hexprA:∀k,k<n->bJ 236 dK 50 k) (hdoneA:∀k,k<n->bJ 254 oe 90 k):bJ 243 kX 90 n:=by
 intro X r d W h hr hm;have H0:Hid (SD X r d W):=h;have HM:Hid (ms (aG X.l) d<=n):=hm;have ab:=mkfn;clear h hm
 go_enter Tryz.func243,Tryz.ntmps243
 go_wp2_with fail
 refine (bW H0.out (by omega) (by kernel_rfl)).mono ?_;rintro e w1 ⟨d1,i1,o1⟩;have G:=ai i1
 rcases o1 with ⟨z1,rfl,S⟩|⟨z1,rfl,S⟩
 rotate_left
 ·have F:=ai S;have C:=ai z1;clear S i1 z1
  go_wp2_with fail
  exact ⟨rfl,_,(aa G.out (ah C.out _)),.inr ⟨C.out,rfl,F.out⟩⟩
 have J:=ai S;clear S i1 z1
 go_wp2_with fail
 refine (fU J.out (by omega)).mono ?_;rintro e w2 ⟨d2,i2,o2⟩;have H:=ai i2
 rcases o2 with ⟨z2,rfl,U⟩|⟨z2,rfl,U⟩
 rotate_left
 ·have F:=ai U;have C:=ai z2;clear U i2 z2
  go_wp2_with fail
  exact ⟨rfl,_,(aa G.out (aa H.out (ah C.out _))),.inr ⟨C.out,rfl,F.out⟩⟩
 have M:=ai U;clear U i2 z2
 go_wp2_with fail
 refine (bu M.out (by omega) (by kernel_rfl)).mono ?_;rintro e w3 ⟨d3,i3,o3⟩;have I:=ai i3
 rcases o3 with ⟨z3,rfl,Y⟩|⟨z3,rfl,Y⟩
 rotate_left
 ·have F:=ai Y;have C:=ai z3;clear Y i3 z3
  go_wp2_with fail
  exact ⟨rfl,_,(aa G.out (aa H.out (aa I.out (ah C.out _)))),.inr ⟨C.out,rfl,F.out⟩⟩
 have H3:=ai Y;clear Y i3 z3
 go_wp2_with fail
 refine (aQ H3.out (by omega) (by omega) (gt _) (hexprA (ms (aG X.l) d3) (by have m0:=HM.out;have m1:=az aC G.out H0.out.e0 J.out.e0;have m2:=az df H.out J.out.e0 M.out.e0;have m3:=az aC I.out M.out.e0 H3.out.e0;omega)) dN rfl (fun d' hh=>aU (m:=.expr) rfl hh)).mono ?_;rintro e w4 ⟨d4,i4,o4⟩;have O:=ai i4
 rcases o4 with ⟨z4,rfl,Z⟩|⟨z4,rfl,Z⟩
 rotate_left
 ·have F:=ai Z;have C:=ai z4;clear Z i4 z4
  go_wp2_with fail
  exact ⟨rfl,_,(aa G.out (aa H.out (aa I.out (aa O.out (ah C.out _))))),.inr ⟨C.out,rfl,F.out⟩⟩
 have H4:=ai Z;clear Z i4 z4
 go_wp2_with fail
 refine (bW H4.out (by omega) (by kernel_rfl)).mono ?_;rintro e w5 ⟨d5,i5,o5⟩;have Q:=ai i5
 rcases o5 with ⟨z5,rfl,h5⟩|⟨z5,rfl,h5⟩
 rotate_left
 ·have F:=ai h5;have C:=ai z5;clear h5 i5 z5
  go_wp2_with fail
  exact ⟨rfl,_,(aa G.out (aa H.out (aa I.out (aa O.out (aa Q.out (ah C.out _)))))),.inr ⟨C.out,rfl,F.out⟩⟩
 have H5:=ai h5;clear h5 i5 z5
 go_wp2_with fail
 refine (aQ H5.out (by omega) (by omega) (gt _) (hexprA (ms (aG X.l) d5) (by have m0:=HM.out;have m1:=az aC G.out H0.out.e0 J.out.e0;have m2:=az df H.out J.out.e0 M.out.e0;have m3:=az aC I.out M.out.e0 H3.out.e0;have m4:=bK O.out;have m5:=az aC Q.out H4.out.e0 H5.out.e0;omega)) dN rfl (fun d' hh=>aU (m:=.expr) rfl hh)).mono ?_;rintro e w6 ⟨d6,i6,o6⟩;have I6:=ai i6
 rcases o6 with ⟨z6,rfl,h6⟩|⟨z6,rfl,h6⟩
 rotate_left
 ·have F:=ai h6;have C:=ai z6;clear h6 i6 z6
  go_wp2_with fail
  exact ⟨rfl,_,(aa G.out (aa H.out (aa I.out (aa O.out (aa Q.out (aa I6.out (ah C.out _))))))),.inr ⟨C.out,rfl,F.out⟩⟩
 have H6:=ai h6;clear h6 i6 z6
 go_wp2_with fail
 refine ((hdoneA (ms (aG X.l) d6) (by have m0:=HM.out;have m1:=az aC G.out H0.out.e0 J.out.e0;have m2:=az df H.out J.out.e0 M.out.e0;have m3:=az aC I.out M.out.e0 H3.out.e0;have m4:=bK O.out;have m5:=az aC Q.out H4.out.e0 H5.out.e0;have m6:=bK I6.out;omega)) X _ _ _ H6.out (by omega) (gt _)).mono ?_;rintro e w7 ⟨d7,i7,o7⟩;have I7:=ai i7
 rcases o7 with ⟨z7,rfl,h7⟩|⟨z7,rfl,h7⟩
 rotate_left
 ·have F:=ai h7;have C:=ai z7;clear h7 i7 z7
  go_wp2_with fail
  exact ⟨rfl,_,(aa G.out (aa H.out (aa I.out (aa O.out (aa Q.out (aa I6.out (dh I7.out (ah C.out _)))))))),.inr ⟨C.out,rfl,F.out⟩⟩
 have H7:=ai h7;clear h7 i7 z7
 go_wp2_with fail
 go_end0
 exact ⟨_,(aa G.out (aa H.out (aa I.out (aa O.out (aa Q.out (aa I6.out (dh I7.out aF))))))),.inl ⟨H7.out.e0,rfl,H7.out⟩⟩
theorem Cf (n:Nat) (hbodyA:∀k,k<n->bJ 195 gI 45 k) (hexprA:∀k,k<n->bJ 236 dK 50 k):bJ 244 jB 90 n:=by
 intro X r d W h hr hm;have H0:Hid (SD X r d W):=h;have HM:Hid (ms (aG X.l) d<=n):=hm;have ab:=mkfn;clear h hm
 go_enter Tryz.func244,Tryz.ntmps244
 go_wp2_with fail
 refine (bW H0.out (by omega) (by kernel_rfl)).mono ?_;rintro e w1 ⟨d1,i1,o1⟩;have G:=ai i1
 rcases o1 with ⟨S,rfl,I⟩|⟨S,rfl,I⟩
 rotate_left
 ·have F:=ai I;have C:=ai S;clear I i1 S
  go_wp2_with fail
  exact ⟨rfl,_,(aa G.out (ah C.out _)),.inr ⟨C.out,rfl,F.out⟩⟩
 have H1:=ai I;clear I i1 S
 go_wp2_with fail
 refine (aQ H1.out (by omega) (by omega) (gt _) (hbodyA (ms (aG X.l) d1) (by have m0:=HM.out;have m1:=az aC G.out H0.out.e0 H1.out.e0;omega)) jH rfl (fun d' hh=>aU (m:=.body) rfl hh)).mono ?_;rintro e w2 ⟨d2,i2,o2⟩;have H:=ai i2
 rcases o2 with ⟨U,rfl,J⟩|⟨U,rfl,J⟩
 rotate_left
 ·have F:=ai J;have C:=ai U;clear J i2 U
  go_wp2_with fail
  exact ⟨rfl,_,(aa G.out (aa H.out (ah C.out _))),.inr ⟨C.out,rfl,F.out⟩⟩
 have H2:=ai J;clear J i2 U
 go_wp2_with fail
 refine (bW H2.out (by omega) (by kernel_rfl)).mono ?_;rintro e w3 ⟨d3,i3,o3⟩;have Q:=ai i3
 rcases o3 with ⟨Y,rfl,M⟩|⟨Y,rfl,M⟩
 rotate_left
 ·have F:=ai M;have C:=ai Y;clear M i3 Y
  go_wp2_with fail
  exact ⟨rfl,_,(aa G.out (aa H.out (aa Q.out (ah C.out _)))),.inr ⟨C.out,rfl,F.out⟩⟩
 have H3:=ai M;clear M i3 Y
 go_wp2_with fail
 refine (aQ H3.out (by omega) (by omega) (gt _) (hexprA (ms (aG X.l) d3) (by have m0:=HM.out;have m1:=az aC G.out H0.out.e0 H1.out.e0;have m2:=bK H.out;have m3:=az aC Q.out H2.out.e0 H3.out.e0;omega)) dN rfl (fun d' hh=>aU (m:=.expr) rfl hh)).mono ?_;rintro e w4 ⟨d4,i4,o4⟩;have I4:=ai i4
 rcases o4 with ⟨Z,rfl,O⟩|⟨Z,rfl,O⟩
 rotate_left
 ·have F:=ai O;have C:=ai Z;clear O i4 Z
  go_wp2_with fail
  exact ⟨rfl,_,(aa G.out (aa H.out (aa Q.out (aa I4.out (ah C.out _))))),.inr ⟨C.out,rfl,F.out⟩⟩
 have H4:=ai O;clear O i4 Z
 go_wp2_with fail
 go_end0
 exact ⟨_,(aa G.out (aa H.out (aa Q.out (aa I4.out aF)))),.inl ⟨H4.out.e0,rfl,H4.out⟩⟩
theorem DM (n:Nat) (hexprA:∀k,k<n->bJ 236 dK 50 k):bJ 245 jC 90 n:=by
 intro X r d W h hr hm;have H0:Hid (SD X r d W):=h;have HM:Hid (ms (aG X.l) d<=n):=hm;have ab:=mkfn;clear h hm
 go_enter Tryz.func245,Tryz.ntmps245
 go_wp2_with fail
 refine (bW H0.out (by omega) (by kernel_rfl)).mono ?_;rintro e w1 ⟨d1,Z,o1⟩;have G:=ai Z
 rcases o1 with ⟨O,rfl,H⟩|⟨O,rfl,H⟩
 rotate_left
 ·have Y:=ai H;have F:=ai O;clear H Z O
  go_wp2_with fail
  exact ⟨rfl,_,(aa G.out (ah F.out _)),.inr ⟨F.out,rfl,Y.out⟩⟩
 have S:=ai H;clear H Z O
 go_wp2_with fail
 refine (pP S.out).mono ?_;rintro e w2 ⟨b2,rfl,C,M⟩;have U:=show Hid _ from S.out.below M
 have J:=show Hid _ from C .expr
 clear M C;cases b2 with
 |true=>
  go_wp2_with fail
  refine (aQ U.out (by omega) (by omega) (gt _) (hexprA (ms (aG X.l) d1) (by have m0:=HM.out;have m1:=az aC G.out H0.out.e0 S.out.e0;omega)) dN rfl (fun d' hh=>bm J.out (aU (m:=.expr) rfl hh))).mono ?_;rintro e w3 ⟨d3,i3,o3⟩;have I3:=ai i3
  rcases o3 with ⟨Q,rfl,I⟩|⟨Q,rfl,I⟩
  rotate_left
  ·have Y:=ai I;have F:=ai Q;clear I i3 Q
   go_wp2_with fail
   exact ⟨rfl,_,(aa G.out (aa I3.out (ah F.out _))),.inr ⟨F.out,rfl,Y.out⟩⟩
  have H3:=ai I;clear I i3 Q
  go_wp2_with fail
  go_end0
  exact ⟨_,(aa G.out (aa I3.out aF)),.inl ⟨H3.out.e0,rfl,H3.out⟩⟩
 |false=>
  go_wp2_with fail
  go_end0
  exact ⟨_,(aa G.out (aa (bi J.out) aF)),.inl ⟨U.out.e0,rfl,U.out⟩⟩
theorem xj (n:Nat) (hbodyA:∀k,k<n->bJ 195 gI 45 k):bJ 246 gG 90 n:=by
 intro X r d W h hr hm;have H0:Hid (SD X r d W):=h;have HM:Hid (ms (aG X.l) d<=n):=hm;have ab:=mkfn;clear h hm
 go_enter Tryz.func246,Tryz.ntmps246
 go_wp2_with fail
 refine (bW H0.out (by omega) (by kernel_rfl)).mono ?_;rintro e w1 ⟨d1,U,o1⟩;have G:=ai U
 rcases o1 with ⟨M,rfl,H⟩|⟨M,rfl,H⟩
 rotate_left
 ·have F:=ai H;have C:=ai M;clear H U M
  go_wp2_with fail
  exact ⟨rfl,_,(aa G.out (ah C.out _)),.inr ⟨C.out,rfl,F.out⟩⟩
 have H1:=ai H;clear H U M
 go_wp2_with fail
 refine (aQ H1.out (by omega) (by omega) (gt _) (hbodyA (ms (aG X.l) d1) (by have m0:=HM.out;have m1:=az aC G.out H0.out.e0 H1.out.e0;omega)) jH rfl (fun d' hh=>aU (m:=.body) rfl hh)).mono ?_;rintro e w2 ⟨d2,Y,o2⟩;have S:=ai Y
 rcases o2 with ⟨O,rfl,I⟩|⟨O,rfl,I⟩
 rotate_left
 ·have F:=ai I;have C:=ai O;clear I Y O
  go_wp2_with fail
  exact ⟨rfl,_,(aa G.out (aa S.out (ah C.out _))),.inr ⟨C.out,rfl,F.out⟩⟩
 have H2:=ai I;clear I Y O
 go_wp2_with fail
 refine (bW H2.out (by omega) (by kernel_rfl)).mono ?_;rintro e w3 ⟨d3,Z,o3⟩;have I3:=ai Z
 rcases o3 with ⟨Q,rfl,J⟩|⟨Q,rfl,J⟩
 rotate_left
 ·have F:=ai J;have C:=ai Q;clear J Z Q
  go_wp2_with fail
  exact ⟨rfl,_,(aa G.out (aa S.out (aa I3.out (ah C.out _)))),.inr ⟨C.out,rfl,F.out⟩⟩
 have H3:=ai J;clear J Z Q
 go_wp2_with fail
 go_end0
 exact ⟨_,(aa G.out (aa S.out (aa I3.out aF))),.inl ⟨H3.out.e0,rfl,H3.out⟩⟩
end Go.Proofs.YtcjiapphbpiffaaGreatDoor
