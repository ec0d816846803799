import Derived.Test.YtnljjdhodelhdaaGreatDoorM21
set_option linter.unusedVariables false
set_option linter.unusedSimpArgs false
set_option maxHeartbeats 2000000
namespace Go.Proofs.YtnljjdhodelhdaaGreatDoor
open Go.RowKit
theorem J6 (n:Nat) (hrel:bJ 221 sQ 55 n) (hrelA:∀k,k<n->bJ 221 sQ 55 k):bJ 188 dy 50 n:=by
 intro X r d W h hr hm;have H0:Hid (SD X r d W):=h;have HM:Hid (ms (aG X.l) d<=n):=hm;have hmf:=mkfn;clear h hm
 go_enter Tryz.func188,Tryz.ntmps188
 go_wp2_with fail
 refine (aP H0.out (by omega) (by omega) (by have m0:=HM.out;omega) hrel FF rfl (fun d' hh=>aU (m:=.rel) rfl hh)).mono ?_;rintro e w1 ⟨d1,i1,o1⟩;have I1:=ai i1
 rcases o1 with ⟨z1,rfl,h1⟩|⟨z1,rfl,h1⟩
 rotate_left
 ·have HP:=ai h1;have HZ:=ai z1;clear h1 i1 z1
  go_wp2_with fail
  exact ⟨rfl,_,(aa I1.out (ah HZ.out _)),.inr ⟨HZ.out,rfl,HP.out⟩⟩
 have H1:=ai h1;clear h1 i1 z1
 go_wp2_with fail
 go_loopw [] (fun wr=>∃dk,Hid (SD X 0 dk wr)/\Hid (Lp (aG X.l) (.row [.wd 2 [⟨#[97,110,100]⟩,⟨#[111,114]⟩],.mt .rel]) d1 dk)) (fun wr=>mW X wr)
 case atStart=>exact ⟨_,H1.out,.refl⟩
 case round=>
  obtain ⟨e2,HJ2,HP2⟩:=hrel
  go_wp2_with fail
  refine (iD HJ2.out (by omega) [⟨#[97,110,100]⟩,⟨#[111,114]⟩] (by simp) (by kernel_rfl) rfl rfl).mono ?_;rintro e w3 (⟨q3,rfl,h3⟩|⟨q3,d3,i3,o3⟩)
  rotate_left
  ·have Q3:=ai q3;clear q3;have I3:=ai i3
   rcases o3 with ⟨z3,rfl,h3⟩|⟨z3,rfl,h3⟩
   rotate_left
   ·have HP:=ai h3;have HZ:=ai z3;clear h3 i3 z3
    go_wp2_with fail
    exact ⟨rfl,_,(aa I1.out (aa (HP2.out.go _ (bp (aA Q3.out) (aO (aa I3.out (ah HZ.out _))) (aT HZ.out))) (ah HZ.out _))),.inr ⟨HZ.out,rfl,HP.out⟩⟩
   have H3:=ai h3;clear h3 i3 z3
   go_wp2_with fail
   refine (aP H3.out (by omega) (by omega) (gt _) (hrelA (ms (aG X.l) d3) (by have m0:=HM.out;have m1:=bK I1.out;have ml2:=HP2.out.le;have m3:=av aD I3.out HJ2.out.e0 H3.out.e0;omega)) FF rfl (fun d' hh=>aU (m:=.rel) rfl hh)).mono ?_;rintro e w4 ⟨d4,i4,o4⟩;have I4:=ai i4
   rcases o4 with ⟨z4,rfl,h4⟩|⟨z4,rfl,h4⟩
   rotate_left
   ·have HP:=ai h4;have HZ:=ai z4;clear h4 i4 z4
    go_wp2_with fail
    exact ⟨rfl,_,(aa I1.out (aa (HP2.out.go _ (bp (aA Q3.out) (aO (aa I3.out (aa I4.out (ah HZ.out _)))) (aT HZ.out))) (ah HZ.out _))),.inr ⟨HZ.out,rfl,HP.out⟩⟩
   have H4:=ai h4;clear h4 i4 z4
   go_wp2_with fail
   exact ⟨⟨_,H4.out,HP2.out.step (aA Q3.out) (aO (aa I3.out (aa I4.out aF)))⟩,iC HJ2.out H4.out (by have m0:=HM.out;have m1:=bK I1.out;have ml2:=HP2.out.le;have m3:=av aD I3.out HJ2.out.e0 H3.out.e0;have m4:=bK I4.out;omega)⟩
  have Q3:=ai q3;have H3:=ai h3;clear q3 h3
  go_wp2_with fail
  go_end0
  exact ⟨_,(aa I1.out (aa (HP2.out.fin (aM Q3.out)) aF)),.inl ⟨H3.out.e0,rfl,H3.out⟩⟩
theorem Mq (n:Nat) (hsum:bJ 248 sP 60 n) (hsumA:∀k,k<n->bJ 248 sP 60 k):bJ 221 sQ 55 n:=by
 intro X r d W h hr hm;have H0:Hid (SD X r d W):=h;have HM:Hid (ms (aG X.l) d<=n):=hm;have hmf:=mkfn;clear h hm
 go_enter Tryz.func221,Tryz.ntmps221
 go_wp2_with fail
 refine (aP H0.out (by omega) (by omega) (by have m0:=HM.out;omega) hsum FE rfl (fun d' hh=>aU (m:=.sum) rfl hh)).mono ?_;rintro e w1 ⟨d1,i1,o1⟩;have I1:=ai i1
 rcases o1 with ⟨z1,rfl,h1⟩|⟨z1,rfl,h1⟩
 rotate_left
 ·have HP:=ai h1;have HZ:=ai z1;clear h1 i1 z1
  go_wp2_with fail
  exact ⟨rfl,_,(aa I1.out (ah HZ.out _)),.inr ⟨HZ.out,rfl,HP.out⟩⟩
 have H1:=ai h1;clear h1 i1 z1
 go_wp2_with fail
 refine (bO H1.out (by omega) [⟨#[61]⟩,⟨#[35]⟩,⟨#[60]⟩,⟨#[60,61]⟩,⟨#[62]⟩,⟨#[62,61]⟩] (by simp) (by kernel_rfl) rfl rfl).mono ?_;rintro e w2 (⟨q2,rfl,h2⟩|⟨q2,d2,i2,o2⟩)
 rotate_left
 ·have Q2:=ai q2;clear q2;have I2:=ai i2
  rcases o2 with ⟨z2,rfl,h2⟩|⟨z2,rfl,h2⟩
  rotate_left
  ·have HP:=ai h2;have HZ:=ai z2;clear h2 i2 z2
   go_wp2_with fail
   exact ⟨rfl,_,(aa I1.out (aa (bm (aA Q2.out) (aO (aa I2.out (ah HZ.out _)))) (ah HZ.out _))),.inr ⟨HZ.out,rfl,HP.out⟩⟩
  have H2:=ai h2;clear h2 i2 z2
  go_wp2_with fail
  refine (aP H2.out (by omega) (by omega) (gt _) (hsumA (ms (aG X.l) d2) (by have m0:=HM.out;have m1:=bK I1.out;have m2:=av aD I2.out H1.out.e0 H2.out.e0;omega)) FE rfl (fun d' hh=>aU (m:=.sum) rfl hh)).mono ?_;rintro e w3 ⟨d3,i3,o3⟩;have I3:=ai i3
  rcases o3 with ⟨z3,rfl,h3⟩|⟨z3,rfl,h3⟩
  rotate_left
  ·have HP:=ai h3;have HZ:=ai z3;clear h3 i3 z3
   go_wp2_with fail
   exact ⟨rfl,_,(aa I1.out (aa (bm (aA Q2.out) (aO (aa I2.out (aa I3.out (ah HZ.out _))))) (ah HZ.out _))),.inr ⟨HZ.out,rfl,HP.out⟩⟩
  have H3:=ai h3;clear h3 i3 z3
  go_wp2_with fail
  go_end0
  exact ⟨_,(aa I1.out (aa (bm (aA Q2.out) (aO (aa I2.out (aa I3.out aF)))) aF)),.inl ⟨H3.out.e0,rfl,H3.out⟩⟩
 have Q2:=ai q2;have H2:=ai h2;clear q2 h2
 go_wp2_with fail
 go_end0
 exact ⟨_,(aa I1.out (aa (bh (aM Q2.out)) aF)),.inl ⟨H2.out.e0,rfl,H2.out⟩⟩
theorem L3 (n:Nat) (hterm:bJ 255 nI 65 n) (htermA:∀k,k<n->bJ 255 nI 65 k):bJ 248 sP 60 n:=by
 intro X r d W h hr hm;have H0:Hid (SD X r d W):=h;have HM:Hid (ms (aG X.l) d<=n):=hm;have hmf:=mkfn;clear h hm
 go_enter Tryz.func248,Tryz.ntmps248
 go_wp2_with fail
 refine (aP H0.out (by omega) (by omega) (by have m0:=HM.out;omega) hterm Ah rfl (fun d' hh=>aU (m:=.term) rfl hh)).mono ?_;rintro e w1 ⟨d1,i1,o1⟩;have I1:=ai i1
 rcases o1 with ⟨z1,rfl,h1⟩|⟨z1,rfl,h1⟩
 rotate_left
 ·have HP:=ai h1;have HZ:=ai z1;clear h1 i1 z1
  go_wp2_with fail
  exact ⟨rfl,_,(aa I1.out (ah HZ.out _)),.inr ⟨HZ.out,rfl,HP.out⟩⟩
 have H1:=ai h1;clear h1 i1 z1
 go_wp2_with fail
 go_loopw [] (fun wr=>∃dk,Hid (SD X 0 dk wr)/\Hid (Lp (aG X.l) (.row [.wd 6 [⟨#[43]⟩,⟨#[45]⟩],.mt .term]) d1 dk)) (fun wr=>mW X wr)
 case atStart=>exact ⟨_,H1.out,.refl⟩
 case round=>
  obtain ⟨e2,HJ2,HP2⟩:=hrel
  go_wp2_with fail
  refine (bO HJ2.out (by omega) [⟨#[43]⟩,⟨#[45]⟩] (by simp) (by kernel_rfl) rfl rfl).mono ?_;rintro e w3 (⟨q3,rfl,h3⟩|⟨q3,d3,i3,o3⟩)
  rotate_left
  ·have Q3:=ai q3;clear q3;have I3:=ai i3
   rcases o3 with ⟨z3,rfl,h3⟩|⟨z3,rfl,h3⟩
   rotate_left
   ·have HP:=ai h3;have HZ:=ai z3;clear h3 i3 z3
    go_wp2_with fail
    exact ⟨rfl,_,(aa I1.out (aa (HP2.out.go _ (bp (aA Q3.out) (aO (aa I3.out (ah HZ.out _))) (aT HZ.out))) (ah HZ.out _))),.inr ⟨HZ.out,rfl,HP.out⟩⟩
   have H3:=ai h3;clear h3 i3 z3
   go_wp2_with fail
   refine (aP H3.out (by omega) (by omega) (gt _) (htermA (ms (aG X.l) d3) (by have m0:=HM.out;have m1:=bK I1.out;have ml2:=HP2.out.le;have m3:=av aD I3.out HJ2.out.e0 H3.out.e0;omega)) Ah rfl (fun d' hh=>aU (m:=.term) rfl hh)).mono ?_;rintro e w4 ⟨d4,i4,o4⟩;have I4:=ai i4
   rcases o4 with ⟨z4,rfl,h4⟩|⟨z4,rfl,h4⟩
   rotate_left
   ·have HP:=ai h4;have HZ:=ai z4;clear h4 i4 z4
    go_wp2_with fail
    exact ⟨rfl,_,(aa I1.out (aa (HP2.out.go _ (bp (aA Q3.out) (aO (aa I3.out (aa I4.out (ah HZ.out _)))) (aT HZ.out))) (ah HZ.out _))),.inr ⟨HZ.out,rfl,HP.out⟩⟩
   have H4:=ai h4;clear h4 i4 z4
   go_wp2_with fail
   exact ⟨⟨_,H4.out,HP2.out.step (aA Q3.out) (aO (aa I3.out (aa I4.out aF)))⟩,iC HJ2.out H4.out (by have m0:=HM.out;have m1:=bK I1.out;have ml2:=HP2.out.le;have m3:=av aD I3.out HJ2.out.e0 H3.out.e0;have m4:=bK I4.out;omega)⟩
  have Q3:=ai q3;have H3:=ai h3;clear q3 h3
  go_wp2_with fail
  go_end0
  exact ⟨_,(aa I1.out (aa (HP2.out.fin (aM Q3.out)) aF)),.inl ⟨H3.out.e0,rfl,H3.out⟩⟩
theorem Hs (n:Nat) (hfactor:PC .factor 250 n) (hfactorA:∀k,k<n->PC .factor 250 k):bJ 255 nI 65 n:=by
 intro X r d W h hr hm;have H0:Hid (SD X r d W):=h;have HM:Hid (ms (aG X.l) d<=n):=hm;have hmf:=mkfn;clear h hm
 go_enter Tryz.func255,Tryz.ntmps255
 go_wp2_with fail
 refine (hfactor X _ _ _ H0.out).mono ?_;rintro e w1 ⟨u1,v1,rfl,p1,hb1⟩;have P1:=ai p1;have H1:=show Hid _ from H0.out.below hb1
 clear p1 hb1
 go_wp2_with fail
 refine (dN H1.out (by omega) (by have m0:=HM.out;omega) P1.out).mono ?_;rintro e w2 ⟨d2,i2,o2⟩;have I2:=ai i2
 rcases o2 with ⟨z2,rfl,h2⟩|⟨z2,rfl,h2⟩
 rotate_left
 ·have HP:=ai h2;have HZ:=ai z2;clear h2 i2 z2
  go_wp2_with fail
  exact ⟨rfl,_,(aa I2.out (ah HZ.out _)),.inr ⟨HZ.out,rfl,HP.out⟩⟩
 have H2:=ai h2;clear h2 i2 z2
 go_wp2_with fail
 go_loopw [] (fun wr=>∃dk,Hid (SD X 0 dk wr)/\Hid (Lp (aG X.l) (.row [.wd 6 [⟨#[42]⟩,⟨#[47]⟩,⟨#[37]⟩],.mt .factor]) d2 dk)) (fun wr=>mW X wr)
 case atStart=>exact ⟨_,H2.out,.refl⟩
 case round=>
  obtain ⟨e3,HJ3,HP3⟩:=hrel
  go_wp2_with fail
  refine (bO HJ3.out (by omega) [⟨#[42]⟩,⟨#[47]⟩,⟨#[37]⟩] (by simp) (by kernel_rfl) rfl rfl).mono ?_;rintro e w4 (⟨q4,rfl,h4⟩|⟨q4,d4,i4,o4⟩)
  rotate_left
  ·have Q4:=ai q4;clear q4;have I4:=ai i4
   rcases o4 with ⟨z4,rfl,h4⟩|⟨z4,rfl,h4⟩
   rotate_left
   ·have HP:=ai h4;have HZ:=ai z4;clear h4 i4 z4
    go_wp2_with fail
    exact ⟨rfl,_,(aa I2.out (aa (HP3.out.go _ (bp (aA Q4.out) (aO (aa I4.out (ah HZ.out _))) (aT HZ.out))) (ah HZ.out _))),.inr ⟨HZ.out,rfl,HP.out⟩⟩
   have H4:=ai h4;clear h4 i4 z4
   go_wp2_with fail
   refine ((hfactorA (ms (aG X.l) d4) (by have m0:=HM.out;have m2:=bK I2.out;have ml3:=HP3.out.le;have m4:=av aD I4.out HJ3.out.e0 H4.out.e0;omega)) X _ _ _ H4.out).mono ?_;rintro e w5 ⟨u5,v5,rfl,p5,hb5⟩;have P5:=ai p5;have H5:=show Hid _ from H4.out.below hb5
   clear p5 hb5
   go_wp2_with fail
   refine (dN H5.out (by omega) (gt _) P5.out).mono ?_;rintro e w6 ⟨d6,i6,o6⟩;have I6:=ai i6
   rcases o6 with ⟨z6,rfl,h6⟩|⟨z6,rfl,h6⟩
   rotate_left
   ·have HP:=ai h6;have HZ:=ai z6;clear h6 i6 z6
    go_wp2_with fail
    exact ⟨rfl,_,(aa I2.out (aa (HP3.out.go _ (bp (aA Q4.out) (aO (aa I4.out (aa I6.out (ah HZ.out _)))) (aT HZ.out))) (ah HZ.out _))),.inr ⟨HZ.out,rfl,HP.out⟩⟩
   have H6:=ai h6;clear h6 i6 z6
   go_wp2_with fail
   exact ⟨⟨_,H6.out,HP3.out.step (aA Q4.out) (aO (aa I4.out (aa I6.out aF)))⟩,iC HJ3.out H6.out (by have m0:=HM.out;have m2:=bK I2.out;have ml3:=HP3.out.le;have m4:=av aD I4.out HJ3.out.e0 H4.out.e0;have m6:=bK I6.out;omega)⟩
  have Q4:=ai q4;have H4:=ai h4;clear q4 h4
  go_wp2_with fail
  go_end0
  exact ⟨_,(aa I2.out (aa (HP3.out.fin (aM Q4.out)) aF)),.inl ⟨H4.out.e0,rfl,H4.out⟩⟩
theorem EO (n:Nat) (hfactorA:∀k,k<n->PC .factor 250 k):bJ 260 kG 90 n:=by
 intro X r d W h hr hm;have H0:Hid (SD X r d W):=h;have HM:Hid (ms (aG X.l) d<=n):=hm;have hmf:=mkfn;clear h hm
 go_enter Tryz.func260,Tryz.ntmps260
 go_wp2_with fail
 refine (br H0.out (by omega) (by kernel_rfl)).mono ?_;rintro e w1 ⟨d1,i1,o1⟩;have I1:=ai i1
 rcases o1 with ⟨z1,rfl,h1⟩|⟨z1,rfl,h1⟩
 rotate_left
 ·have HP:=ai h1;have HZ:=ai z1;clear h1 i1 z1
  go_wp2_with fail
  exact ⟨rfl,_,(aa I1.out (ah HZ.out _)),.inr ⟨HZ.out,rfl,HP.out⟩⟩
 have H1:=ai h1;clear h1 i1 z1
 go_wp2_with fail
 refine ((hfactorA (ms (aG X.l) d1) (by have m0:=HM.out;have m1:=av aD I1.out H0.out.e0 H1.out.e0;omega)) X _ _ _ H1.out).mono ?_;rintro e w2 ⟨u2,v2,rfl,p2,hb2⟩;have P2:=ai p2;have H2:=show Hid _ from H1.out.below hb2
 clear p2 hb2
 go_wp2_with fail
 refine (dN H2.out (by omega) (gt _) P2.out).mono ?_;rintro e w3 ⟨d3,i3,o3⟩;have I3:=ai i3
 rcases o3 with ⟨z3,rfl,h3⟩|⟨z3,rfl,h3⟩
 rotate_left
 ·have HP:=ai h3;have HZ:=ai z3;clear h3 i3 z3
  go_wp2_with fail
  exact ⟨rfl,_,(aa I1.out (aa I3.out (ah HZ.out _))),.inr ⟨HZ.out,rfl,HP.out⟩⟩
 have H3:=ai h3;clear h3 i3 z3
 go_wp2_with fail
 go_end0
 exact ⟨_,(aa I1.out (aa I3.out aF)),.inl ⟨H3.out.e0,rfl,H3.out⟩⟩
theorem MG (n:Nat) (hfactorA:∀k,k<n->PC .factor 250 k):bJ 259 sR 90 n:=by
 intro X r d W h hr hm;have H0:Hid (SD X r d W):=h;have HM:Hid (ms (aG X.l) d<=n):=hm;have hmf:=mkfn;clear h hm
 go_enter Tryz.func259,Tryz.ntmps259
 go_wp2_with fail
 refine (bU H0.out (by omega) (by kernel_rfl)).mono ?_;rintro e w1 ⟨d1,i1,o1⟩;have I1:=ai i1
 rcases o1 with ⟨z1,rfl,h1⟩|⟨z1,rfl,h1⟩
 rotate_left
 ·have HP:=ai h1;have HZ:=ai z1;clear h1 i1 z1
  go_wp2_with fail
  exact ⟨rfl,_,(aa I1.out (ah HZ.out _)),.inr ⟨HZ.out,rfl,HP.out⟩⟩
 have H1:=ai h1;clear h1 i1 z1
 go_wp2_with fail
 refine ((hfactorA (ms (aG X.l) d1) (by have m0:=HM.out;have m1:=av aD I1.out H0.out.e0 H1.out.e0;omega)) X _ _ _ H1.out).mono ?_;rintro e w2 ⟨u2,v2,rfl,p2,hb2⟩;have P2:=ai p2;have H2:=show Hid _ from H1.out.below hb2
 clear p2 hb2
 go_wp2_with fail
 refine (dN H2.out (by omega) (gt _) P2.out).mono ?_;rintro e w3 ⟨d3,i3,o3⟩;have I3:=ai i3
 rcases o3 with ⟨z3,rfl,h3⟩|⟨z3,rfl,h3⟩
 rotate_left
 ·have HP:=ai h3;have HZ:=ai z3;clear h3 i3 z3
  go_wp2_with fail
  exact ⟨rfl,_,(aa I1.out (aa I3.out (ah HZ.out _))),.inr ⟨HZ.out,rfl,HP.out⟩⟩
 have H3:=ai h3;clear h3 i3 z3
 go_wp2_with fail
 go_end0
 exact ⟨_,(aa I1.out (aa I3.out aF)),.inl ⟨H3.out.e0,rfl,H3.out⟩⟩
theorem Fh (n:Nat) (hexprA:∀k,k<n->bJ 188 dy 50 k):bJ 261 kI 90 n:=by
 intro X r d W h hr hm;have H0:Hid (SD X r d W):=h;have HM:Hid (ms (aG X.l) d<=n):=hm;have hmf:=mkfn;clear h hm
 go_enter Tryz.func261,Tryz.ntmps261
 go_wp2_with fail
 refine (br H0.out (by omega) (by kernel_rfl)).mono ?_;rintro e w1 ⟨d1,i1,o1⟩;have I1:=ai i1
 rcases o1 with ⟨z1,rfl,h1⟩|⟨z1,rfl,h1⟩
 rotate_left
 ·have HP:=ai h1;have HZ:=ai z1;clear h1 i1 z1
  go_wp2_with fail
  exact ⟨rfl,_,(aa I1.out (ah HZ.out _)),.inr ⟨HZ.out,rfl,HP.out⟩⟩
 have H1:=ai h1;clear h1 i1 z1
 go_wp2_with fail
 refine (aP H1.out (by omega) (by omega) (gt _) (hexprA (ms (aG X.l) d1) (by have m0:=HM.out;have m1:=av aD I1.out H0.out.e0 H1.out.e0;omega)) dD rfl (fun d' hh=>aU (m:=.expr) rfl hh)).mono ?_;rintro e w2 ⟨d2,i2,o2⟩;have I2:=ai i2
 rcases o2 with ⟨z2,rfl,h2⟩|⟨z2,rfl,h2⟩
 rotate_left
 ·have HP:=ai h2;have HZ:=ai z2;clear h2 i2 z2
  go_wp2_with fail
  exact ⟨rfl,_,(aa I1.out (aa I2.out (ah HZ.out _))),.inr ⟨HZ.out,rfl,HP.out⟩⟩
 have H2:=ai h2;clear h2 i2 z2
 go_wp2_with fail
 refine (br H2.out (by omega) (by kernel_rfl)).mono ?_;rintro e w3 ⟨d3,i3,o3⟩;have I3:=ai i3
 rcases o3 with ⟨z3,rfl,h3⟩|⟨z3,rfl,h3⟩
 rotate_left
 ·have HP:=ai h3;have HZ:=ai z3;clear h3 i3 z3
  go_wp2_with fail
  exact ⟨rfl,_,(aa I1.out (aa I2.out (aa I3.out (ah HZ.out _)))),.inr ⟨HZ.out,rfl,HP.out⟩⟩
 have H3:=ai h3;clear h3 i3 z3
 go_wp2_with fail
 go_end0
 exact ⟨_,(aa I1.out (aa I2.out (aa I3.out aF))),.inl ⟨H3.out.e0,rfl,H3.out⟩⟩
theorem BJ (n:Nat) (hdetailA:∀k,k<n->PD .detail 249 k):bJ 224 gO 95 n:=by
 intro X r d W h hr hm;have H0:Hid (SD X r d W):=h;have HM:Hid (ms (aG X.l) d<=n):=hm;have hmf:=mkfn;clear h hm
 go_enter Tryz.func224,Tryz.ntmps224
 go_wp2_with fail
 refine (fN H0.out (by omega)).mono ?_;rintro e w1 ⟨d1,i1,o1⟩;have I1:=ai i1
 rcases o1 with ⟨z1,rfl,h1⟩|⟨z1,rfl,h1⟩
 rotate_left
 ·have HP:=ai h1;have HZ:=ai z1;clear h1 i1 z1
  go_wp2_with fail
  exact ⟨rfl,_,(aa I1.out (ah HZ.out _)),.inr ⟨HZ.out,rfl,HP.out⟩⟩
 have H1:=ai h1;clear h1 i1 z1;have HD2:Hid (PD .detail 249 (ms (aG X.l) d1)):=hdetailA (ms (aG X.l) d1) (by have m0:=HM.out;have m1:=av cU I1.out H0.out.e0 H1.out.e0;omega)
 go_wp2_with fail
 refine (HD2.out X _ _ _ H1.out).mono ?_;rintro e w2 ⟨u2,v2,rfl,p2,hb2⟩;have P2:=ai p2;have H2:=show Hid _ from H1.out.below hb2
 clear p2 hb2
 go_wp2_with fail
 go_loopw [2,3] (fun u v wr=>∃dk,Hid (SD X 0 dk wr)/\Hid (Lp (aG X.l) (.fn .detail) d1 dk)/\Hid (GY X .detail (ms (aG X.l) d1) dk u v)) (fun _ _ wr=>mW X wr)
 case atStart=>exact ⟨_,H2.out,.refl,P2.out⟩
 case round=>
  obtain ⟨e2,HJ2,HP2,HK2⟩:=hrel;clear P2
  rcases HK2.out with ⟨nd,ff,Ma,it0,rfl,rfl,hent,hlv,hrc,hpk,hop⟩|⟨rfl,rfl,hpk⟩
  ·have hne:=sZ ff X.g;have HPK:=ai hpk;have HN:Hid (Ra 18 #[pg X.g,.int .u8 nd,fv ff X.g] wr fun e w'=>∃d',Ib (aG X.l) it0 e2 d'/\kZ X (.tuple #[]) d' e w'):=aP HJ2.out (by omega) (by omega) (by have m0:=HM.out;have m1:=av cU I1.out H0.out.e0 H1.out.e0;have ml2:=HP2.out.le;omega) hrc hent hlv hop;have HLT:Hid (∀d',Ib (aG X.l) it0 e2 d'->d'.e=0->ms (aG X.l) d' < ms (aG X.l) e2):=fun d' h1 h2=>zu HPK.out h1 HJ2.out.e0 h2
   clear hrc hop hent hpk hlv HK2
   go_wp2_with fail
   refine HN.out.mono ?_;rintro e w3 ⟨d3,i3,o3⟩;have I3:=ai i3
   rcases o3 with ⟨z3,rfl,h3⟩|⟨z3,rfl,h3⟩
   rotate_left
   ·have HP:=ai h3;have HZ:=ai z3;clear h3 i3 z3
    go_wp2_with fail
    exact ⟨rfl,_,(aa I1.out (aa (HP2.out.go _ (bp HPK.out I3.out (aT HZ.out))) (ah HZ.out _))),.inr ⟨HZ.out,rfl,HP.out⟩⟩
   have H3:=ai h3;clear h3 i3 z3
   go_wp2_with fail
   refine (HD2.out X _ _ _ H3.out).mono ?_;rintro e w4 ⟨u4,v4,rfl,p4,hb4⟩;have P4:=ai p4;have H4:=show Hid _ from H3.out.below hb4
   clear p4 hb4
   go_wp2_with fail
   exact ⟨⟨_,H4.out,HP2.out.step HPK.out I3.out,P4.out⟩,iC HJ2.out H4.out (by have m0:=HM.out;have m1:=av cU I1.out H0.out.e0 H1.out.e0;have ml2:=HP2.out.le;have m3:=bK I3.out;have mx:=HLT.out _ I3.out H3.out.e0;omega)⟩
  ·have hne:=pG;have HPK:=ai hpk;clear hpk HK2
   go_wp2_with fail
   go_end0
   exact ⟨_,(aa I1.out (aa (HP2.out.fin HPK.out) aF)),.inl ⟨HJ2.out.e0,rfl,HJ2.out⟩⟩
theorem JA (n:Nat) (hexpr:bJ 188 dy 50 n) (hexprA:∀k,k<n->bJ 188 dy 50 k):bJ 263 nK 45 n:=by
 intro X r d W h hr hm;have H0:Hid (SD X r d W):=h;have HM:Hid (ms (aG X.l) d<=n):=hm;have hmf:=mkfn;clear h hm
 go_enter Tryz.func263,Tryz.ntmps263
 go_wp2_with fail
 refine (aP H0.out (by omega) (by omega) (by have m0:=HM.out;omega) hexpr dD rfl (fun d' hh=>aU (m:=.expr) rfl hh)).mono ?_;rintro e w1 ⟨d1,i1,o1⟩;have I1:=ai i1
 rcases o1 with ⟨z1,rfl,h1⟩|⟨z1,rfl,h1⟩
 rotate_left
 ·have HP:=ai h1;have HZ:=ai z1;clear h1 i1 z1
  go_wp2_with fail
  exact ⟨rfl,_,(aa I1.out (ah HZ.out _)),.inr ⟨HZ.out,rfl,HP.out⟩⟩
 have H1:=ai h1;clear h1 i1 z1
 go_wp2_with fail
 go_loopw [] (fun wr=>∃dk,Hid (SD X 0 dk wr)/\Hid (Lp (aG X.l) (.row [.wd 6 [⟨#[44]⟩],.mt .expr]) d1 dk)) (fun wr=>mW X wr)
 case atStart=>exact ⟨_,H1.out,.refl⟩
 case round=>
  obtain ⟨e2,HJ2,HP2⟩:=hrel
  go_wp2_with fail
  refine (bO HJ2.out (by omega) [⟨#[44]⟩] (by simp) (by kernel_rfl) rfl rfl).mono ?_;rintro e w3 (⟨q3,rfl,h3⟩|⟨q3,d3,i3,o3⟩)
  rotate_left
  ·have Q3:=ai q3;clear q3;have I3:=ai i3
   rcases o3 with ⟨z3,rfl,h3⟩|⟨z3,rfl,h3⟩
   rotate_left
   ·have HP:=ai h3;have HZ:=ai z3;clear h3 i3 z3
    go_wp2_with fail
    exact ⟨rfl,_,(aa I1.out (aa (HP2.out.go _ (bp (aA Q3.out) (aO (aa I3.out (ah HZ.out _))) (aT HZ.out))) (ah HZ.out _))),.inr ⟨HZ.out,rfl,HP.out⟩⟩
   have H3:=ai h3;clear h3 i3 z3
   go_wp2_with fail
   refine (aP H3.out (by omega) (by omega) (gt _) (hexprA (ms (aG X.l) d3) (by have m0:=HM.out;have m1:=bK I1.out;have ml2:=HP2.out.le;have m3:=av aD I3.out HJ2.out.e0 H3.out.e0;omega)) dD rfl (fun d' hh=>aU (m:=.expr) rfl hh)).mono ?_;rintro e w4 ⟨d4,i4,o4⟩;have I4:=ai i4
   rcases o4 with ⟨z4,rfl,h4⟩|⟨z4,rfl,h4⟩
   rotate_left
   ·have HP:=ai h4;have HZ:=ai z4;clear h4 i4 z4
    go_wp2_with fail
    exact ⟨rfl,_,(aa I1.out (aa (HP2.out.go _ (bp (aA Q3.out) (aO (aa I3.out (aa I4.out (ah HZ.out _)))) (aT HZ.out))) (ah HZ.out _))),.inr ⟨HZ.out,rfl,HP.out⟩⟩
   have H4:=ai h4;clear h4 i4 z4
   go_wp2_with fail
   exact ⟨⟨_,H4.out,HP2.out.step (aA Q3.out) (aO (aa I3.out (aa I4.out aF)))⟩,iC HJ2.out H4.out (by have m0:=HM.out;have m1:=bK I1.out;have ml2:=HP2.out.le;have m3:=av aD I3.out HJ2.out.e0 H3.out.e0;have m4:=bK I4.out;omega)⟩
  have Q3:=ai q3;have H3:=ai h3;clear q3 h3
  go_wp2_with fail
  go_end0
  exact ⟨_,(aa I1.out (aa (HP2.out.fin (aM Q3.out)) aF)),.inl ⟨H3.out.e0,rfl,H3.out⟩⟩
theorem Fa (n:Nat) (hlistA:∀k,k<n->bJ 263 nK 45 k):bJ 256 kH 90 n:=by
 intro X r d W h hr hm;have H0:Hid (SD X r d W):=h;have HM:Hid (ms (aG X.l) d<=n):=hm;have hmf:=mkfn;clear h hm
 go_enter Tryz.func256,Tryz.ntmps256
 go_wp2_with fail
 refine (br H0.out (by omega) (by kernel_rfl)).mono ?_;rintro e w1 ⟨d1,i1,o1⟩;have I1:=ai i1
 rcases o1 with ⟨z1,rfl,h1⟩|⟨z1,rfl,h1⟩
 rotate_left
 ·have HP:=ai h1;have HZ:=ai z1;clear h1 i1 z1
  go_wp2_with fail
  exact ⟨rfl,_,(aa I1.out (ah HZ.out _)),.inr ⟨HZ.out,rfl,HP.out⟩⟩
 have H1:=ai h1;clear h1 i1 z1
 go_wp2_with fail
 refine ((hlistA (ms (aG X.l) d1) (by have m0:=HM.out;have m1:=av aD I1.out H0.out.e0 H1.out.e0;omega)) X _ _ _ H1.out (by omega) (gt _)).mono ?_;rintro e w2 ⟨d2,i2,o2⟩;replace i2:=show Ib (aG X.l) (.fl (.mt .list)) d1 d2 from rc rfl i2
 have I2:=ai i2
 rcases o2 with ⟨z2,rfl,h2⟩|⟨z2,rfl,h2⟩
 rotate_left
 ·have HP:=ai h2;have HZ:=ai z2;clear h2 i2 z2
  go_wp2_with fail
  exact ⟨rfl,_,(aa I1.out (aa I2.out (ah HZ.out _))),.inr ⟨HZ.out,rfl,HP.out⟩⟩
 have H2:=ai h2;clear h2 i2 z2
 go_wp2_with fail
 refine (br H2.out (by omega) (by kernel_rfl)).mono ?_;rintro e w3 ⟨d3,i3,o3⟩;have I3:=ai i3
 rcases o3 with ⟨z3,rfl,h3⟩|⟨z3,rfl,h3⟩
 rotate_left
 ·have HP:=ai h3;have HZ:=ai z3;clear h3 i3 z3
  go_wp2_with fail
  exact ⟨rfl,_,(aa I1.out (aa I2.out (aa I3.out (ah HZ.out _)))),.inr ⟨HZ.out,rfl,HP.out⟩⟩
 have H3:=ai h3;clear h3 i3 z3
 go_wp2_with fail
 go_end0
 exact ⟨_,(aa I1.out (aa I2.out (aa I3.out aF))),.inl ⟨H3.out.e0,rfl,H3.out⟩⟩
theorem rW (n:Nat):bJ 257 fP 90 n:=by
 intro X r d W h hr hm;have H0:Hid (SD X r d W):=h;have HM:Hid (ms (aG X.l) d<=n):=hm;have hmf:=mkfn;clear h hm
 go_enter Tryz.func257,Tryz.ntmps257
 go_wp2_with fail
 refine (br H0.out (by omega) (by kernel_rfl)).mono ?_;rintro e w1 ⟨d1,i1,o1⟩;have I1:=ai i1
 rcases o1 with ⟨z1,rfl,h1⟩|⟨z1,rfl,h1⟩
 rotate_left
 ·have HP:=ai h1;have HZ:=ai z1;clear h1 i1 z1
  go_wp2_with fail
  exact ⟨rfl,_,(aa I1.out (ah HZ.out _)),.inr ⟨HZ.out,rfl,HP.out⟩⟩
 have H1:=ai h1;clear h1 i1 z1
 go_wp2_with fail
 refine (fN H1.out (by omega)).mono ?_;rintro e w2 ⟨d2,i2,o2⟩;have I2:=ai i2
 rcases o2 with ⟨z2,rfl,h2⟩|⟨z2,rfl,h2⟩
 rotate_left
 ·have HP:=ai h2;have HZ:=ai z2;clear h2 i2 z2
  go_wp2_with fail
  exact ⟨rfl,_,(aa I1.out (aa I2.out (ah HZ.out _))),.inr ⟨HZ.out,rfl,HP.out⟩⟩
 have H2:=ai h2;clear h2 i2 z2
 go_wp2_with fail
 go_end0
 exact ⟨_,(aa I1.out (aa I2.out aF)),.inl ⟨H2.out.e0,rfl,H2.out⟩⟩
theorem KG (n:Nat) (hlistA:∀k,k<n->bJ 263 nK 45 k):bJ 258 nM 90 n:=by
 intro X r d W h hr hm;have H0:Hid (SD X r d W):=h;have HM:Hid (ms (aG X.l) d<=n):=hm;have hmf:=mkfn;clear h hm
 go_enter Tryz.func258,Tryz.ntmps258
 go_wp2_with fail
 refine (br H0.out (by omega) (by kernel_rfl)).mono ?_;rintro e w1 ⟨d1,i1,o1⟩;have I1:=ai i1
 rcases o1 with ⟨z1,rfl,h1⟩|⟨z1,rfl,h1⟩
 rotate_left
 ·have HP:=ai h1;have HZ:=ai z1;clear h1 i1 z1
  go_wp2_with fail
  exact ⟨rfl,_,(aa I1.out (ah HZ.out _)),.inr ⟨HZ.out,rfl,HP.out⟩⟩
 have H1:=ai h1;clear h1 i1 z1
 go_wp2_with fail
 refine (pm H1.out).mono ?_;rintro e w2 ⟨b2,rfl,hbe2,hb2⟩;have H2:=show Hid _ from H1.out.below hb2
 have PB2:=show Hid _ from hbe2 .list
 clear hb2 hbe2;cases b2 with
 |true=>
  go_wp2_with fail
  refine ((hlistA (ms (aG X.l) d1) (by have m0:=HM.out;have m1:=av aD I1.out H0.out.e0 H1.out.e0;omega) X _ _ _ H2.out (by omega) (gt _)).mono (fun e w' ⟨d',h1,h2⟩=>(⟨d',bm PB2.out (rc rfl h1),h2⟩:∃d',Ib (aG X.l) (.once (.ex .list)) _ d'/\kZ X (.tuple #[]) d' e w'))).mono ?_;rintro e w3 ⟨d3,i3,o3⟩;have I3:=ai i3
  rcases o3 with ⟨z3,rfl,h3⟩|⟨z3,rfl,h3⟩
  rotate_left
  ·have HP:=ai h3;have HZ:=ai z3;clear h3 i3 z3
   go_wp2_with fail
   exact ⟨rfl,_,(aa I1.out (aa I3.out (ah HZ.out _))),.inr ⟨HZ.out,rfl,HP.out⟩⟩
  have H3:=ai h3;clear h3 i3 z3
  go_wp2_with fail
  refine (br H3.out (by omega) (by kernel_rfl)).mono ?_;rintro e w4 ⟨d4,i4,o4⟩;have I4:=ai i4
  rcases o4 with ⟨z4,rfl,h4⟩|⟨z4,rfl,h4⟩
  rotate_left
  ·have HP:=ai h4;have HZ:=ai z4;clear h4 i4 z4
   go_wp2_with fail
   exact ⟨rfl,_,(aa I1.out (aa I3.out (aa I4.out (ah HZ.out _)))),.inr ⟨HZ.out,rfl,HP.out⟩⟩
  have H4:=ai h4;clear h4 i4 z4
  go_wp2_with fail
  go_end0
  exact ⟨_,(aa I1.out (aa I3.out (aa I4.out aF))),.inl ⟨H4.out.e0,rfl,H4.out⟩⟩
 |false=>
  go_wp2_with fail
  refine (br H2.out (by omega) (by kernel_rfl)).mono ?_;rintro e w25 ⟨d25,i25,o25⟩;have I25:=ai i25
  rcases o25 with ⟨z25,rfl,h25⟩|⟨z25,rfl,h25⟩
  rotate_left
  ·have HP:=ai h25;have HZ:=ai z25;clear h25 i25 z25
   go_wp2_with fail
   exact ⟨rfl,_,(aa I1.out (aa (bh PB2.out) (aa I25.out (ah HZ.out _)))),.inr ⟨HZ.out,rfl,HP.out⟩⟩
  have H25:=ai h25;clear h25 i25 z25
  go_wp2_with fail
  go_end0
  exact ⟨_,(aa I1.out (aa (bh PB2.out) (aa I25.out aF))),.inl ⟨H25.out.e0,rfl,H25.out⟩⟩
theorem bJ.at {f:Nat}{row:List It}{b n:Nat}(h:bJ f row b n) (hb:90<=b) (X:Sx) (d:D):QS X f row n d:=fun r W hs hr hm=>h X r d W hs (Q0 hr hb) hm
theorem D6 {L:List Tv}{n:Int}{d:D}{f:Tv->Bool}:qn L (eu n d) f=qn L d f:=by unfold qn cP eu;by_cases h:d.e=0 <;> simp [h]
theorem M8 {t:Tv}(h:cG t=32):Fl.takes t .cs=true:=by
 unfold cG at h;simp only [Fl.takes]
 repeat' (split at h)
 all_goals first|assumption|(cases h;done)
theorem rm (n:Nat) (hminus:bJ 260 kG 90 n) (hnot:bJ 259 sR 90 n) (hgroup:bJ 261 kI 90 n) (hobject:bJ 224 gO 95 n):PC .factor 250 n:=by
 intro X r d W h;refine (pN h).mono ?_;rintro e w' ⟨rfl,hb⟩;refine ⟨_,_,rfl,?_,hb⟩;have hcs:qn (aG X.l) d (fun t=>Fl.takes t .cs)=Fl.takes (nx X (ps X.l d.i)) .cs:=h.hqn (by simp [Fl.takes,aC]);have hd:cJ (cP (aG X.l) d) .factor=M.row (nx X (ps X.l d.i)) .factor:=by rw [h.hnx];exact wg _
 generalize nx X (ps X.l d.i)=t at *
 have hf:cG t=25\/cG t=26\/cG t=27\/cG t=32\/cG t=28\/cG t=0:=by unfold cG;(repeat' split) <;> simp
 rcases hf with e|e|e|e|e|e
 ·exact .inl ⟨25,_,kG,by rw [e],by simp only [lS,e];rfl,FG,rfl,hminus.at (by omega) X _,fun d' hh=>aU (m:=.factor) (by rw [hd];simp only [M.row,e];rfl) hh⟩
 ·exact .inl ⟨26,_,sR,by rw [e],by simp only [lS,e];rfl,Nc,rfl,hnot.at (by omega) X _,fun d' hh=>aU (m:=.factor) (by rw [hd];simp only [M.row,e];rfl) hh⟩
 ·exact .inl ⟨27,_,kI,by rw [e],by simp only [lS,e];rfl,FI,rfl,hgroup.at (by omega) X _,fun d' hh=>aU (m:=.factor) (by rw [hd];simp only [M.row,e];rfl) hh⟩
 ·refine .inl ⟨32,_,[.fl .cs],by rw [e],by simp only [lS,e];rfl,J9,rfl,fun r1 W1 h1 hr1 _=>Iw (n:=n) h1 hr1 ?_,fun d' hh=>aU (m:=.factor) (by rw [hd];simp only [M.row,e];rfl) hh⟩;rw [D6,hcs];exact M8 e
 ·exact .inl ⟨28,_,gO,by rw [e],by simp only [lS,e];rfl,rp,rfl,hobject.at (by omega) X _,fun d' hh=>rc (m:=.factor) (r:=[.fl (.mt .object)]) (by rw [hd];simp only [M.row,e];rfl) (bT (aU (m:=.object) rfl hh))⟩
 ·exact .inr ⟨by rw [e],by simp only [lS,e];rfl,_,sN (m:=.factor) (by rw [hd];simp only [M.row,e];rfl),rfl,by unfold eU;simp only [Rp,R7];(repeat' split) <;> rfl⟩
theorem jX {t:Tv}{l:List UInt8}{s:ByteArray}(h:t.is l=true) (hs:s.toList=l):t.t=s:=tK (by unfold Tv.is at h;simpa [hs] using h)
theorem JG (n:Nat) (harray:bJ 222 iM 90 n) (hrecord:bJ 223 gN 90 n):PC .kind 190 n:=by
 intro X r d W h;refine (EY h).mono ?_;rintro e w' ⟨rfl,hb⟩;refine ⟨_,_,rfl,?_,hb⟩;have hn:=h.hnx;have hz:=h.e0
 generalize nx X (ps X.l d.i)=t at *
 have ha:∀s,(cP (aG X.l) d).elim false (wk 2 s)=wk 2 s t:=fun s=>by rw [hn];cases cP (aG X.l) d <;> rfl
 have wa:wk 2 ⟨#[97,114,114,97,121]⟩ t=(t.k == 2 && t.is [97,114,114,97,121]):=by rw [qC,show (ByteArray.mk #[97,114,114,97,121]).toList=[97,114,114,97,121] by decide +kernel];rfl
 have wr:wk 2 ⟨#[114,101,99,111,114,100]⟩ t=(t.k == 2 && t.is [114,101,99,111,114,100]):=by rw [qC,show (ByteArray.mk #[114,101,99,111,114,100]).toList=[114,101,99,111,114,100] by decide +kernel];rfl
 have hd:cJ (cP (aG X.l) d) .kind=if (t.k == 2 && t.is [97,114,114,97,121])=true then .op 9 iM else if (t.k == 2 && t.is [114,101,99,111,114,100])=true then .op 10 gN else .op 8 [.fl .nm]:=by
  simp only [cJ,ha,wa,wr]
 cases h1:(t.k == 1) with
 |true=>
  have h2:(t.k == 2)=false:=by
   have:t.k=1:=by simpa using h1
   simp [this]
  refine .inl ⟨8,_,[.fl .nm],by simp only [jO,h1];rfl,by simp only [jN,h1];rfl,Kb,rfl,(Ix n).at (by omega) X _,fun d' hh=>aU (m:=.kind) (by rw [hd,h2];rfl) hh⟩
 |false=>
  cases h2:(t.k == 2 && t.is [97,114,114,97,121]) with
  |true=>exact .inl ⟨9,_,iM,by simp only [jO,h1,h2];rfl,by simp only [jN,h1,h2];rfl,FK,rfl,harray.at (by omega) X _,fun d' hh=>aU (m:=.kind) (by rw [hd,h2];rfl) hh⟩
  |false=>
   cases h3:(t.k == 2 && t.is [114,101,99,111,114,100]) with
   |true=>exact .inl ⟨10,_,gN,by simp only [jO,h1,h2,h3];rfl,by simp only [jN,h1,h2,h3];rfl,Cj,rfl,hrecord.at (by omega) X _,fun d' hh=>aU (m:=.kind) (by rw [hd,h2,h3];rfl) hh⟩
   |false=>
    have hq:qn (aG X.l) d (fun t=>Fl.takes t .nm)=false:=by
     rw [h.hqn (by simp [Fl.takes,aC]),h.hnx,<-hn];exact h1
    have hq2:qn (aG X.l) (eu 8 d) (fun t=>Fl.takes t .nm)=false:=by rw [D6];exact hq
    have ho:(eu 8 d).e=d.e/\(eu 8 d).i=d.i:=by unfold eu;rw [IO hz];exact ⟨rfl,rfl⟩
    have hee:(eU (aG X.l) false (eu 8 d)).e=(eU (aG X.l) false d).e/\(eU (aG X.l) false (eu 8 d)).e≠0/\(eU (aG X.l) false (eu 8 d)).i=d.i:=by
     unfold eU;simp only [Rp,R7,ho.1,ho.2,IO hz]
     split
     ·exact ⟨rfl,by show (120:Int)≠0;decide,by first|rfl|exact ho.2⟩
     ·exact ⟨rfl,by show (121:Int)≠0;decide,by first|rfl|exact ho.2⟩
    have hi:=iK (L:=aG X.l) (d:=eu 8 d) cU;rw [hq2] at hi;exact .inr ⟨by simp only [jO,h1,h2,h3];rfl,by simp only [jN,h1,h2,h3];rfl,_,aU (m:=.kind) (by rw [hd,h2,h3];rfl) (aa hi (bT (nW hee.2.1))),hee.1,hee.2.2⟩
theorem kf (n:Nat) (hact:bJ 191 pq 90 n) (hskip:bJ 192 nJ 90 n) (hbranches:bJ 193 gx 90 n) (hwhile:bJ 194 kF 90 n) (hcount:bJ 195 kJ 90 n) (hrepeat:bJ 196 jq 90 n) (hanswer:bJ 197 jr 90 n) (hcompound:bJ 198 gw 90 n):PC .statement 142 n:=by
 intro X r d W h;refine (qo h).mono ?_;rintro e w' ⟨rfl,hb⟩;refine ⟨_,_,rfl,?_,hb⟩;have hn:=h.hnx;have hz:=h.e0
 generalize nx X (ps X.l d.i)=t at *
 have hd:cJ (cP (aG X.l) d) .statement=if t.k == 1 then .op 14 pq else if t.k == 2 then cf t.t else .ref:=by
  rw [hn];cases cP (aG X.l) d <;> rfl
 have hee:(eU (aG X.l) false d).i=d.i:=by unfold eU;simp only [Rp,R7];(repeat' split) <;> rfl
 cases h1:(t.k == 1) with
 |true=>exact .inl ⟨14,_,pq,by simp only [dK,h1];rfl,by simp only [dJ,h1];rfl,Ng,rfl,hact.at (by omega) X _,fun d' hh=>aU (m:=.statement) (by rw [hd,h1];rfl) hh⟩
 |false=>
  cases h2:(t.k == 2) with
  |false=>exact .inr ⟨by simp only [dK,h1,h2];rfl,by simp only [dJ,h1,h2];rfl,_,sN (m:=.statement) (by rw [hd,h1,h2];rfl),rfl,hee⟩
  |true=>
   cases g13:t.is [115,107,105,112] with
   |true=>
    have hs:t.t=⟨#[115,107,105,112]⟩:=jX g13 (by decide +kernel);exact .inl ⟨13,_,nJ,by simp only [dK,h1,h2,g13];rfl,by simp only [dJ,h1,h2,g13];rfl,Ka,rfl,hskip.at (by omega) X _,fun d' hh=>aU (m:=.statement) (by rw [hd,h1,h2,hs];kernel_rfl) hh⟩
   |false=>
    cases g15:t.is [105,102] with
    |true=>
     have hs:t.t=⟨#[105,102]⟩:=jX g15 (by decide +kernel);exact .inl ⟨15,_,gx,by simp only [dK,h1,h2,g13,g15];rfl,by simp only [dJ,h1,h2,g13,g15];rfl,wb,rfl,hbranches.at (by omega) X _,fun d' hh=>aU (m:=.statement) (by rw [hd,h1,h2,hs];kernel_rfl) hh⟩
    |false=>
     cases g16:t.is [119,104,105,108,101] with
     |true=>
      have hs:t.t=⟨#[119,104,105,108,101]⟩:=jX g16 (by decide +kernel);exact .inl ⟨16,_,kF,by simp only [dK,h1,h2,g13,g15,g16];rfl,by simp only [dJ,h1,h2,g13,g15,g16];rfl,FD,rfl,hwhile.at (by omega) X _,fun d' hh=>aU (m:=.statement) (by rw [hd,h1,h2,hs];kernel_rfl) hh⟩
     |false=>
      cases g17:t.is [102,111,114] with
      |true=>
       have hs:t.t=⟨#[102,111,114]⟩:=jX g17 (by decide +kernel);exact .inl ⟨17,_,kJ,by simp only [dK,h1,h2,g13,g15,g16,g17];rfl,by simp only [dJ,h1,h2,g13,g15,g16,g17];rfl,FJ,rfl,hcount.at (by omega) X _,fun d' hh=>aU (m:=.statement) (by rw [hd,h1,h2,hs];kernel_rfl) hh⟩
      |false=>
       cases g18:t.is [114,101,112,101,97,116] with
       |true=>
        have hs:t.t=⟨#[114,101,112,101,97,116]⟩:=jX g18 (by decide +kernel);exact .inl ⟨18,_,jq,by simp only [dK,h1,h2,g13,g15,g16,g17,g18];rfl,by simp only [dJ,h1,h2,g13,g15,g16,g17,g18];rfl,Ci,rfl,hrepeat.at (by omega) X _,fun d' hh=>aU (m:=.statement) (by rw [hd,h1,h2,hs];kernel_rfl) hh⟩
       |false=>
        cases g19:t.is [114,101,116,117,114,110] with
        |true=>
         have hs:t.t=⟨#[114,101,116,117,114,110]⟩:=jX g19 (by decide +kernel);exact .inl ⟨19,_,jr,by simp only [dK,h1,h2,g13,g15,g16,g17,g18,g19];rfl,by simp only [dJ,h1,h2,g13,g15,g16,g17,g18,g19];rfl,Cm,rfl,hanswer.at (by omega) X _,fun d' hh=>aU (m:=.statement) (by rw [hd,h1,h2,hs];kernel_rfl) hh⟩
        |false=>
         cases g20:t.is [98,101,103,105,110] with
         |true=>
          have hs:t.t=⟨#[98,101,103,105,110]⟩:=jX g20 (by decide +kernel);exact .inl ⟨20,_,gw,by simp only [dK,h1,h2,g13,g15,g16,g17,g18,g19,g20];rfl,by simp only [dJ,h1,h2,g13,g15,g16,g17,g18,g19,g20];rfl,vZ,rfl,hcompound.at (by omega) X _,fun d' hh=>aU (m:=.statement) (by rw [hd,h1,h2,hs];kernel_rfl) hh⟩
         |false=>
          have hw:cf t.t=.ref:=by unfold Tv.is at g13 g15 g16 g17 g18 g19 g20;simp only [cf,g13,g15,g16,g17,g18,g19,g20];rfl
          exact .inr ⟨by simp only [dK,h1,h2,g13,g15,g16,g17,g18,g19,g20];rfl,by simp only [dJ,h1,h2,g13,g15,g16,g17,g18,g19,g20];rfl,_,sN (m:=.statement) (by rw [hd,h1,h2,hw];rfl),rfl,hee⟩
theorem pT (n:Nat) (hvariables:bJ 138 fO 90 n) (hconstant:bJ 139 gu 90 n) (hprocedure:bJ 140 fQ 90 n):PD .declaration 96 n:=by
 intro X r d W h;refine (mS h).mono ?_;rintro e w' ⟨rfl,hb⟩;refine ⟨_,_,rfl,?_,hb⟩;have hp:bz (cP (aG X.l) d) (.fn .declaration)=if (nx X (ps X.l d.i)).k == 2 then ((Dk.declaration).pick (nx X (ps X.l d.i))).map (fun m=>.fl (.mt m)) else none:=by rw [h.hnx];exact iQ _ _
 generalize nx X (ps X.l d.i)=t at *
 cases h2:(t.k == 2) with
 |false=>exact .inr ⟨by simp only [iU,h2];rfl,by simp only [iT,h2];rfl,by rw [hp,h2];rfl⟩
 |true=>
  cases g3:t.is [118,97,114] with
  |true=>exact .inl ⟨3,_,fO,.fl (.mt .variables),by simp only [iU,h2,g3];rfl,by simp only [iT,h2,g3];rfl,td,rfl,hvariables,by rw [hp,h2];simp only [Dk.pick,g3];rfl,fun d' hh=>aU (m:=.variables) rfl hh⟩
  |false=>
   cases g4:t.is [99,111,110,115,116] with
   |true=>exact .inl ⟨4,_,gu,.fl (.mt .constants),by simp only [iU,h2,g3,g4];rfl,by simp only [iT,h2,g3,g4];rfl,vY,rfl,hconstant,by rw [hp,h2];simp only [Dk.pick,g3,g4];rfl,fun d' hh=>aU (m:=.constants) rfl hh⟩
   |false=>
    cases g5:t.is [112,114,111,99] with
    |true=>exact .inl ⟨5,_,fQ,.fl (.mt .procedure),by simp only [iU,h2,g3,g4,g5];rfl,by simp only [iT,h2,g3,g4,g5];rfl,tf,rfl,hprocedure,by rw [hp,h2];simp only [Dk.pick,g3,g4,g5];rfl,fun d' hh=>aU (m:=.procedure) rfl hh⟩
    |false=>
     exact .inr ⟨by simp only [iU,h2,g3,g4,g5];rfl,by simp only [iT,h2,g3,g4,g5];rfl,by rw [hp,h2];simp only [Dk.pick,g3,g4,g5];rfl⟩
theorem Cp (n:Nat) (hindex:bJ 256 kH 90 n) (hselection:bJ 257 fP 90 n) (hargs:bJ 258 nM 90 n):PD .detail 249 n:=by
 intro X r d W h;refine (ye h).mono ?_;rintro e w' ⟨rfl,hb⟩;refine ⟨_,_,rfl,?_,hb⟩;have hp:bz (cP (aG X.l) d) (.fn .detail)=if (nx X (ps X.l d.i)).k == 6 then ((Dk.detail).pick (nx X (ps X.l d.i))).map (fun m=>.fl (.mt m)) else none:=by rw [h.hnx];exact iQ _ _
 generalize nx X (ps X.l d.i)=t at *
 cases h2:(t.k == 6) with
 |false=>exact .inr ⟨by simp only [iS,h2];rfl,by simp only [iR,h2];rfl,by rw [hp,h2];rfl⟩
 |true=>
  cases g29:t.is [91] with
  |true=>exact .inl ⟨29,_,kH,.fl (.mt .index),by simp only [iS,h2,g29];rfl,by simp only [iR,h2,g29];rfl,FH,rfl,hindex,by rw [hp,h2];simp only [Dk.pick,g29];rfl,fun d' hh=>aU (m:=.index) rfl hh⟩
  |false=>
   cases g30:t.is [46] with
   |true=>exact .inl ⟨30,_,fP,.fl (.mt .selection),by simp only [iS,h2,g29,g30];rfl,by simp only [iR,h2,g29,g30];rfl,te,rfl,hselection,by rw [hp,h2];simp only [Dk.pick,g29,g30];rfl,fun d' hh=>aU (m:=.selection) rfl hh⟩
   |false=>
    cases g31:t.is [40] with
    |true=>exact .inl ⟨31,_,nM,.fl (.mt .args),by simp only [iS,h2,g29,g30,g31];rfl,by simp only [iR,h2,g29,g30,g31];rfl,Kc,rfl,hargs,by rw [hp,h2];simp only [Dk.pick,g29,g30,g31];rfl,fun d' hh=>aU (m:=.args) rfl hh⟩
    |false=>
     exact .inr ⟨by simp only [iS,h2,g29,g30,g31];rfl,by simp only [iR,h2,g29,g30,g31];rfl,by rw [hp,h2];simp only [Dk.pick,g29,g30,g31];rfl⟩
end Go.Proofs.YtnljjdhodelhdaaGreatDoor
