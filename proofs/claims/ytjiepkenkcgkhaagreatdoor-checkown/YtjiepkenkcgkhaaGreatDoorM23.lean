import Derived.Test.YtjiepkenkcgkhaaGreatDoorM22
set_option linter.unusedVariables false
set_option linter.unusedSimpArgs false
set_option maxHeartbeats 2000000
namespace Go.Proofs.YtjiepkenkcgkhaaGreatDoor
open Go.RowKit
theorem JJ (n:Nat) (hrel:bG 245 sK 55 n) (hrelA:∀k,k<n->bG 245 sK 55 k):bG 232 dq 50 n:=by
 intro X r d W h hr hm;have H0:Hid (SD X r d W):=h;have HM:Hid (ms (aF X.l) d<=n):=hm;have hmf:=mkfn;clear h hm
 go_enter Tryz.func232,Tryz.ntmps232
 go_wp2_with fail
 refine (aP H0.out (by omega) (by omega) (by have m0:=HM.out;omega) hrel Ff rfl (fun d' hh=>aT (m:=.rel) rfl hh)).mono ?_;rintro e w1 ⟨d1,i1,o1⟩;have I1:=ai i1
 rcases o1 with ⟨z1,rfl,h1⟩|⟨z1,rfl,h1⟩
 rotate_left
 ·have HP:=ai h1;have HZ:=ai z1;clear h1 i1 z1
  go_wp2_with fail
  exact ⟨rfl,_,(aa I1.out (ah HZ.out _)),.inr ⟨HZ.out,rfl,HP.out⟩⟩
 have H1:=ai h1;clear h1 i1 z1
 go_wp2_with fail
 go_loopw [] (fun wr=>∃dk,Hid (SD X 0 dk wr)/\Hid (Lp (aF X.l) (.row [.wd 2 [⟨#[97,110,100]⟩,⟨#[111,114]⟩],.mt .rel]) d1 dk)) (fun wr=>mW X wr)
 case atStart=>exact ⟨_,H1.out,.refl⟩
 case round=>
  obtain ⟨e2,HJ2,HP2⟩:=hrel
  go_wp2_with fail
  refine (iB HJ2.out (by omega) [⟨#[97,110,100]⟩,⟨#[111,114]⟩] (by simp) (by kernel_rfl) rfl rfl).mono ?_;rintro e w3 (⟨q3,rfl,h3⟩|⟨q3,d3,i3,o3⟩)
  rotate_left
  ·have Q3:=ai q3;clear q3;have I3:=ai i3
   rcases o3 with ⟨z3,rfl,h3⟩|⟨z3,rfl,h3⟩
   rotate_left
   ·have HP:=ai h3;have HZ:=ai z3;clear h3 i3 z3
    go_wp2_with fail
    exact ⟨rfl,_,(aa I1.out (aa (HP2.out.go _ (bj (aA Q3.out) (aN (aa I3.out (ah HZ.out _))) (aS HZ.out))) (ah HZ.out _))),.inr ⟨HZ.out,rfl,HP.out⟩⟩
   have H3:=ai h3;clear h3 i3 z3
   go_wp2_with fail
   refine (aP H3.out (by omega) (by omega) (gt _) (hrelA (ms (aF X.l) d3) (by have m0:=HM.out;have m1:=bH I1.out;have ml2:=HP2.out.le;have m3:=av aC I3.out HJ2.out.e0 H3.out.e0;omega)) Ff rfl (fun d' hh=>aT (m:=.rel) rfl hh)).mono ?_;rintro e w4 ⟨d4,i4,o4⟩;have I4:=ai i4
   rcases o4 with ⟨z4,rfl,h4⟩|⟨z4,rfl,h4⟩
   rotate_left
   ·have HP:=ai h4;have HZ:=ai z4;clear h4 i4 z4
    go_wp2_with fail
    exact ⟨rfl,_,(aa I1.out (aa (HP2.out.go _ (bj (aA Q3.out) (aN (aa I3.out (aa I4.out (ah HZ.out _)))) (aS HZ.out))) (ah HZ.out _))),.inr ⟨HZ.out,rfl,HP.out⟩⟩
   have H4:=ai h4;clear h4 i4 z4
   go_wp2_with fail
   exact ⟨⟨_,H4.out,HP2.out.step (aA Q3.out) (aN (aa I3.out (aa I4.out aE)))⟩,iA HJ2.out H4.out (by have m0:=HM.out;have m1:=bH I1.out;have ml2:=HP2.out.le;have m3:=av aC I3.out HJ2.out.e0 H3.out.e0;have m4:=bH I4.out;omega)⟩
  have Q3:=ai q3;have H3:=ai h3;clear q3 h3
  go_wp2_with fail
  go_end0
  exact ⟨_,(aa I1.out (aa (HP2.out.fin (aL Q3.out)) aE)),.inl ⟨H3.out.e0,rfl,H3.out⟩⟩
theorem L6 (n:Nat) (hsum:bG 252 sJ 60 n) (hsumA:∀k,k<n->bG 252 sJ 60 k):bG 245 sK 55 n:=by
 intro X r d W h hr hm;have H0:Hid (SD X r d W):=h;have HM:Hid (ms (aF X.l) d<=n):=hm;have hmf:=mkfn;clear h hm
 go_enter Tryz.func245,Tryz.ntmps245
 go_wp2_with fail
 refine (aP H0.out (by omega) (by omega) (by have m0:=HM.out;omega) hsum Fe rfl (fun d' hh=>aT (m:=.sum) rfl hh)).mono ?_;rintro e w1 ⟨d1,i1,o1⟩;have I1:=ai i1
 rcases o1 with ⟨z1,rfl,h1⟩|⟨z1,rfl,h1⟩
 rotate_left
 ·have HP:=ai h1;have HZ:=ai z1;clear h1 i1 z1
  go_wp2_with fail
  exact ⟨rfl,_,(aa I1.out (ah HZ.out _)),.inr ⟨HZ.out,rfl,HP.out⟩⟩
 have H1:=ai h1;clear h1 i1 z1
 go_wp2_with fail
 refine (bL H1.out (by omega) [⟨#[61]⟩,⟨#[35]⟩,⟨#[60]⟩,⟨#[60,61]⟩,⟨#[62]⟩,⟨#[62,61]⟩] (by simp) (by kernel_rfl) rfl rfl).mono ?_;rintro e w2 (⟨q2,rfl,h2⟩|⟨q2,d2,i2,o2⟩)
 rotate_left
 ·have Q2:=ai q2;clear q2;have I2:=ai i2
  rcases o2 with ⟨z2,rfl,h2⟩|⟨z2,rfl,h2⟩
  rotate_left
  ·have HP:=ai h2;have HZ:=ai z2;clear h2 i2 z2
   go_wp2_with fail
   exact ⟨rfl,_,(aa I1.out (aa (bi (aA Q2.out) (aN (aa I2.out (ah HZ.out _)))) (ah HZ.out _))),.inr ⟨HZ.out,rfl,HP.out⟩⟩
  have H2:=ai h2;clear h2 i2 z2
  go_wp2_with fail
  refine (aP H2.out (by omega) (by omega) (gt _) (hsumA (ms (aF X.l) d2) (by have m0:=HM.out;have m1:=bH I1.out;have m2:=av aC I2.out H1.out.e0 H2.out.e0;omega)) Fe rfl (fun d' hh=>aT (m:=.sum) rfl hh)).mono ?_;rintro e w3 ⟨d3,i3,o3⟩;have I3:=ai i3
  rcases o3 with ⟨z3,rfl,h3⟩|⟨z3,rfl,h3⟩
  rotate_left
  ·have HP:=ai h3;have HZ:=ai z3;clear h3 i3 z3
   go_wp2_with fail
   exact ⟨rfl,_,(aa I1.out (aa (bi (aA Q2.out) (aN (aa I2.out (aa I3.out (ah HZ.out _))))) (ah HZ.out _))),.inr ⟨HZ.out,rfl,HP.out⟩⟩
  have H3:=ai h3;clear h3 i3 z3
  go_wp2_with fail
  go_end0
  exact ⟨_,(aa I1.out (aa (bi (aA Q2.out) (aN (aa I2.out (aa I3.out aE)))) aE)),.inl ⟨H3.out.e0,rfl,H3.out⟩⟩
 have Q2:=ai q2;have H2:=ai h2;clear q2 h2
 go_wp2_with fail
 go_end0
 exact ⟨_,(aa I1.out (aa (aZ (aL Q2.out)) aE)),.inl ⟨H2.out.e0,rfl,H2.out⟩⟩
theorem LE (n:Nat) (hterm:bG 255 nD 65 n) (htermA:∀k,k<n->bG 255 nD 65 k):bG 252 sJ 60 n:=by
 intro X r d W h hr hm;have H0:Hid (SD X r d W):=h;have HM:Hid (ms (aF X.l) d<=n):=hm;have hmf:=mkfn;clear h hm
 go_enter Tryz.func252,Tryz.ntmps252
 go_wp2_with fail
 refine (aP H0.out (by omega) (by omega) (by have m0:=HM.out;omega) hterm zM rfl (fun d' hh=>aT (m:=.term) rfl hh)).mono ?_;rintro e w1 ⟨d1,i1,o1⟩;have I1:=ai i1
 rcases o1 with ⟨z1,rfl,h1⟩|⟨z1,rfl,h1⟩
 rotate_left
 ·have HP:=ai h1;have HZ:=ai z1;clear h1 i1 z1
  go_wp2_with fail
  exact ⟨rfl,_,(aa I1.out (ah HZ.out _)),.inr ⟨HZ.out,rfl,HP.out⟩⟩
 have H1:=ai h1;clear h1 i1 z1
 go_wp2_with fail
 go_loopw [] (fun wr=>∃dk,Hid (SD X 0 dk wr)/\Hid (Lp (aF X.l) (.row [.wd 6 [⟨#[43]⟩,⟨#[45]⟩],.mt .term]) d1 dk)) (fun wr=>mW X wr)
 case atStart=>exact ⟨_,H1.out,.refl⟩
 case round=>
  obtain ⟨e2,HJ2,HP2⟩:=hrel
  go_wp2_with fail
  refine (bL HJ2.out (by omega) [⟨#[43]⟩,⟨#[45]⟩] (by simp) (by kernel_rfl) rfl rfl).mono ?_;rintro e w3 (⟨q3,rfl,h3⟩|⟨q3,d3,i3,o3⟩)
  rotate_left
  ·have Q3:=ai q3;clear q3;have I3:=ai i3
   rcases o3 with ⟨z3,rfl,h3⟩|⟨z3,rfl,h3⟩
   rotate_left
   ·have HP:=ai h3;have HZ:=ai z3;clear h3 i3 z3
    go_wp2_with fail
    exact ⟨rfl,_,(aa I1.out (aa (HP2.out.go _ (bj (aA Q3.out) (aN (aa I3.out (ah HZ.out _))) (aS HZ.out))) (ah HZ.out _))),.inr ⟨HZ.out,rfl,HP.out⟩⟩
   have H3:=ai h3;clear h3 i3 z3
   go_wp2_with fail
   refine (aP H3.out (by omega) (by omega) (gt _) (htermA (ms (aF X.l) d3) (by have m0:=HM.out;have m1:=bH I1.out;have ml2:=HP2.out.le;have m3:=av aC I3.out HJ2.out.e0 H3.out.e0;omega)) zM rfl (fun d' hh=>aT (m:=.term) rfl hh)).mono ?_;rintro e w4 ⟨d4,i4,o4⟩;have I4:=ai i4
   rcases o4 with ⟨z4,rfl,h4⟩|⟨z4,rfl,h4⟩
   rotate_left
   ·have HP:=ai h4;have HZ:=ai z4;clear h4 i4 z4
    go_wp2_with fail
    exact ⟨rfl,_,(aa I1.out (aa (HP2.out.go _ (bj (aA Q3.out) (aN (aa I3.out (aa I4.out (ah HZ.out _)))) (aS HZ.out))) (ah HZ.out _))),.inr ⟨HZ.out,rfl,HP.out⟩⟩
   have H4:=ai h4;clear h4 i4 z4
   go_wp2_with fail
   exact ⟨⟨_,H4.out,HP2.out.step (aA Q3.out) (aN (aa I3.out (aa I4.out aE)))⟩,iA HJ2.out H4.out (by have m0:=HM.out;have m1:=bH I1.out;have ml2:=HP2.out.le;have m3:=av aC I3.out HJ2.out.e0 H3.out.e0;have m4:=bH I4.out;omega)⟩
  have Q3:=ai q3;have H3:=ai h3;clear q3 h3
  go_wp2_with fail
  go_end0
  exact ⟨_,(aa I1.out (aa (HP2.out.fin (aL Q3.out)) aE)),.inl ⟨H3.out.e0,rfl,H3.out⟩⟩
theorem G8 (n:Nat) (hfactor:PC .factor 254 n) (hfactorA:∀k,k<n->PC .factor 254 k):bG 255 nD 65 n:=by
 intro X r d W h hr hm;have H0:Hid (SD X r d W):=h;have HM:Hid (ms (aF X.l) d<=n):=hm;have hmf:=mkfn;clear h hm
 go_enter Tryz.func255,Tryz.ntmps255
 go_wp2_with fail
 refine (hfactor X _ _ _ H0.out).mono ?_;rintro e w1 ⟨u1,v1,rfl,p1,hb1⟩;have P1:=ai p1;have H1:=show Hid _ from H0.out.below hb1
 clear p1 hb1
 go_wp2_with fail
 refine (dJ H1.out (by omega) (by have m0:=HM.out;omega) P1.out).mono ?_;rintro e w2 ⟨d2,i2,o2⟩;have I2:=ai i2
 rcases o2 with ⟨z2,rfl,h2⟩|⟨z2,rfl,h2⟩
 rotate_left
 ·have HP:=ai h2;have HZ:=ai z2;clear h2 i2 z2
  go_wp2_with fail
  exact ⟨rfl,_,(aa I2.out (ah HZ.out _)),.inr ⟨HZ.out,rfl,HP.out⟩⟩
 have H2:=ai h2;clear h2 i2 z2
 go_wp2_with fail
 go_loopw [] (fun wr=>∃dk,Hid (SD X 0 dk wr)/\Hid (Lp (aF X.l) (.row [.wd 6 [⟨#[42]⟩,⟨#[47]⟩,⟨#[37]⟩],.mt .factor]) d2 dk)) (fun wr=>mW X wr)
 case atStart=>exact ⟨_,H2.out,.refl⟩
 case round=>
  obtain ⟨e3,HJ3,HP3⟩:=hrel
  go_wp2_with fail
  refine (bL HJ3.out (by omega) [⟨#[42]⟩,⟨#[47]⟩,⟨#[37]⟩] (by simp) (by kernel_rfl) rfl rfl).mono ?_;rintro e w4 (⟨q4,rfl,h4⟩|⟨q4,d4,i4,o4⟩)
  rotate_left
  ·have Q4:=ai q4;clear q4;have I4:=ai i4
   rcases o4 with ⟨z4,rfl,h4⟩|⟨z4,rfl,h4⟩
   rotate_left
   ·have HP:=ai h4;have HZ:=ai z4;clear h4 i4 z4
    go_wp2_with fail
    exact ⟨rfl,_,(aa I2.out (aa (HP3.out.go _ (bj (aA Q4.out) (aN (aa I4.out (ah HZ.out _))) (aS HZ.out))) (ah HZ.out _))),.inr ⟨HZ.out,rfl,HP.out⟩⟩
   have H4:=ai h4;clear h4 i4 z4
   go_wp2_with fail
   refine ((hfactorA (ms (aF X.l) d4) (by have m0:=HM.out;have m2:=bH I2.out;have ml3:=HP3.out.le;have m4:=av aC I4.out HJ3.out.e0 H4.out.e0;omega)) X _ _ _ H4.out).mono ?_;rintro e w5 ⟨u5,v5,rfl,p5,hb5⟩;have P5:=ai p5;have H5:=show Hid _ from H4.out.below hb5
   clear p5 hb5
   go_wp2_with fail
   refine (dJ H5.out (by omega) (gt _) P5.out).mono ?_;rintro e w6 ⟨d6,i6,o6⟩;have I6:=ai i6
   rcases o6 with ⟨z6,rfl,h6⟩|⟨z6,rfl,h6⟩
   rotate_left
   ·have HP:=ai h6;have HZ:=ai z6;clear h6 i6 z6
    go_wp2_with fail
    exact ⟨rfl,_,(aa I2.out (aa (HP3.out.go _ (bj (aA Q4.out) (aN (aa I4.out (aa I6.out (ah HZ.out _)))) (aS HZ.out))) (ah HZ.out _))),.inr ⟨HZ.out,rfl,HP.out⟩⟩
   have H6:=ai h6;clear h6 i6 z6
   go_wp2_with fail
   exact ⟨⟨_,H6.out,HP3.out.step (aA Q4.out) (aN (aa I4.out (aa I6.out aE)))⟩,iA HJ3.out H6.out (by have m0:=HM.out;have m2:=bH I2.out;have ml3:=HP3.out.le;have m4:=av aC I4.out HJ3.out.e0 H4.out.e0;have m6:=bH I6.out;omega)⟩
  have Q4:=ai q4;have H4:=ai h4;clear q4 h4
  go_wp2_with fail
  go_end0
  exact ⟨_,(aa I2.out (aa (HP3.out.fin (aL Q4.out)) aE)),.inl ⟨H4.out.e0,rfl,H4.out⟩⟩
theorem Ew (n:Nat) (hfactorA:∀k,k<n->PC .factor 254 k):bG 260 kD 90 n:=by
 intro X r d W h hr hm;have H0:Hid (SD X r d W):=h;have HM:Hid (ms (aF X.l) d<=n):=hm;have hmf:=mkfn;clear h hm
 go_enter Tryz.func260,Tryz.ntmps260
 go_wp2_with fail
 refine (bm H0.out (by omega) (by kernel_rfl)).mono ?_;rintro e w1 ⟨d1,i1,o1⟩;have I1:=ai i1
 rcases o1 with ⟨z1,rfl,h1⟩|⟨z1,rfl,h1⟩
 rotate_left
 ·have HP:=ai h1;have HZ:=ai z1;clear h1 i1 z1
  go_wp2_with fail
  exact ⟨rfl,_,(aa I1.out (ah HZ.out _)),.inr ⟨HZ.out,rfl,HP.out⟩⟩
 have H1:=ai h1;clear h1 i1 z1
 go_wp2_with fail
 refine ((hfactorA (ms (aF X.l) d1) (by have m0:=HM.out;have m1:=av aC I1.out H0.out.e0 H1.out.e0;omega)) X _ _ _ H1.out).mono ?_;rintro e w2 ⟨u2,v2,rfl,p2,hb2⟩;have P2:=ai p2;have H2:=show Hid _ from H1.out.below hb2
 clear p2 hb2
 go_wp2_with fail
 refine (dJ H2.out (by omega) (gt _) P2.out).mono ?_;rintro e w3 ⟨d3,i3,o3⟩;have I3:=ai i3
 rcases o3 with ⟨z3,rfl,h3⟩|⟨z3,rfl,h3⟩
 rotate_left
 ·have HP:=ai h3;have HZ:=ai z3;clear h3 i3 z3
  go_wp2_with fail
  exact ⟨rfl,_,(aa I1.out (aa I3.out (ah HZ.out _))),.inr ⟨HZ.out,rfl,HP.out⟩⟩
 have H3:=ai h3;clear h3 i3 z3
 go_wp2_with fail
 go_end0
 exact ⟨_,(aa I1.out (aa I3.out aE)),.inl ⟨H3.out.e0,rfl,H3.out⟩⟩
theorem Ml (n:Nat) (hfactorA:∀k,k<n->PC .factor 254 k):bG 259 sL 90 n:=by
 intro X r d W h hr hm;have H0:Hid (SD X r d W):=h;have HM:Hid (ms (aF X.l) d<=n):=hm;have hmf:=mkfn;clear h hm
 go_enter Tryz.func259,Tryz.ntmps259
 go_wp2_with fail
 refine (bS H0.out (by omega) (by kernel_rfl)).mono ?_;rintro e w1 ⟨d1,i1,o1⟩;have I1:=ai i1
 rcases o1 with ⟨z1,rfl,h1⟩|⟨z1,rfl,h1⟩
 rotate_left
 ·have HP:=ai h1;have HZ:=ai z1;clear h1 i1 z1
  go_wp2_with fail
  exact ⟨rfl,_,(aa I1.out (ah HZ.out _)),.inr ⟨HZ.out,rfl,HP.out⟩⟩
 have H1:=ai h1;clear h1 i1 z1
 go_wp2_with fail
 refine ((hfactorA (ms (aF X.l) d1) (by have m0:=HM.out;have m1:=av aC I1.out H0.out.e0 H1.out.e0;omega)) X _ _ _ H1.out).mono ?_;rintro e w2 ⟨u2,v2,rfl,p2,hb2⟩;have P2:=ai p2;have H2:=show Hid _ from H1.out.below hb2
 clear p2 hb2
 go_wp2_with fail
 refine (dJ H2.out (by omega) (gt _) P2.out).mono ?_;rintro e w3 ⟨d3,i3,o3⟩;have I3:=ai i3
 rcases o3 with ⟨z3,rfl,h3⟩|⟨z3,rfl,h3⟩
 rotate_left
 ·have HP:=ai h3;have HZ:=ai z3;clear h3 i3 z3
  go_wp2_with fail
  exact ⟨rfl,_,(aa I1.out (aa I3.out (ah HZ.out _))),.inr ⟨HZ.out,rfl,HP.out⟩⟩
 have H3:=ai h3;clear h3 i3 z3
 go_wp2_with fail
 go_end0
 exact ⟨_,(aa I1.out (aa I3.out aE)),.inl ⟨H3.out.e0,rfl,H3.out⟩⟩
theorem ER (n:Nat) (hexprA:∀k,k<n->bG 232 dq 50 k):bG 261 kF 90 n:=by
 intro X r d W h hr hm;have H0:Hid (SD X r d W):=h;have HM:Hid (ms (aF X.l) d<=n):=hm;have hmf:=mkfn;clear h hm
 go_enter Tryz.func261,Tryz.ntmps261
 go_wp2_with fail
 refine (bm H0.out (by omega) (by kernel_rfl)).mono ?_;rintro e w1 ⟨d1,i1,o1⟩;have I1:=ai i1
 rcases o1 with ⟨z1,rfl,h1⟩|⟨z1,rfl,h1⟩
 rotate_left
 ·have HP:=ai h1;have HZ:=ai z1;clear h1 i1 z1
  go_wp2_with fail
  exact ⟨rfl,_,(aa I1.out (ah HZ.out _)),.inr ⟨HZ.out,rfl,HP.out⟩⟩
 have H1:=ai h1;clear h1 i1 z1
 go_wp2_with fail
 refine (aP H1.out (by omega) (by omega) (gt _) (hexprA (ms (aF X.l) d1) (by have m0:=HM.out;have m1:=av aC I1.out H0.out.e0 H1.out.e0;omega)) dv rfl (fun d' hh=>aT (m:=.expr) rfl hh)).mono ?_;rintro e w2 ⟨d2,i2,o2⟩;have I2:=ai i2
 rcases o2 with ⟨z2,rfl,h2⟩|⟨z2,rfl,h2⟩
 rotate_left
 ·have HP:=ai h2;have HZ:=ai z2;clear h2 i2 z2
  go_wp2_with fail
  exact ⟨rfl,_,(aa I1.out (aa I2.out (ah HZ.out _))),.inr ⟨HZ.out,rfl,HP.out⟩⟩
 have H2:=ai h2;clear h2 i2 z2
 go_wp2_with fail
 refine (bm H2.out (by omega) (by kernel_rfl)).mono ?_;rintro e w3 ⟨d3,i3,o3⟩;have I3:=ai i3
 rcases o3 with ⟨z3,rfl,h3⟩|⟨z3,rfl,h3⟩
 rotate_left
 ·have HP:=ai h3;have HZ:=ai z3;clear h3 i3 z3
  go_wp2_with fail
  exact ⟨rfl,_,(aa I1.out (aa I2.out (aa I3.out (ah HZ.out _)))),.inr ⟨HZ.out,rfl,HP.out⟩⟩
 have H3:=ai h3;clear h3 i3 z3
 go_wp2_with fail
 go_end0
 exact ⟨_,(aa I1.out (aa I2.out (aa I3.out aE))),.inl ⟨H3.out.e0,rfl,H3.out⟩⟩
theorem Bq (n:Nat) (hdetailA:∀k,k<n->PD .detail 253 k):bG 248 gN 95 n:=by
 intro X r d W h hr hm;have H0:Hid (SD X r d W):=h;have HM:Hid (ms (aF X.l) d<=n):=hm;have hmf:=mkfn;clear h hm
 go_enter Tryz.func248,Tryz.ntmps248
 go_wp2_with fail
 refine (fJ H0.out (by omega)).mono ?_;rintro e w1 ⟨d1,i1,o1⟩;have I1:=ai i1
 rcases o1 with ⟨z1,rfl,h1⟩|⟨z1,rfl,h1⟩
 rotate_left
 ·have HP:=ai h1;have HZ:=ai z1;clear h1 i1 z1
  go_wp2_with fail
  exact ⟨rfl,_,(aa I1.out (ah HZ.out _)),.inr ⟨HZ.out,rfl,HP.out⟩⟩
 have H1:=ai h1;clear h1 i1 z1;have HD2:Hid (PD .detail 253 (ms (aF X.l) d1)):=hdetailA (ms (aF X.l) d1) (by have m0:=HM.out;have m1:=av cP I1.out H0.out.e0 H1.out.e0;omega)
 go_wp2_with fail
 refine (HD2.out X _ _ _ H1.out).mono ?_;rintro e w2 ⟨u2,v2,rfl,p2,hb2⟩;have P2:=ai p2;have H2:=show Hid _ from H1.out.below hb2
 clear p2 hb2
 go_wp2_with fail
 go_loopw [2,3] (fun u v wr=>∃dk,Hid (SD X 0 dk wr)/\Hid (Lp (aF X.l) (.fn .detail) d1 dk)/\Hid (GC X .detail (ms (aF X.l) d1) dk u v)) (fun _ _ wr=>mW X wr)
 case atStart=>exact ⟨_,H2.out,.refl,P2.out⟩
 case round=>
  obtain ⟨e2,HJ2,HP2,HK2⟩:=hrel;clear P2
  rcases HK2.out with ⟨nd,ff,LP,it0,rfl,rfl,hent,hlv,hrc,hpk,hop⟩|⟨rfl,rfl,hpk⟩
  ·have hne:=sS ff X.g;have HPK:=ai hpk;have HN:Hid (Ra 110 #[pg X.g,.int .u8 nd,fv ff X.g] wr fun e w'=>∃d',Ib (aF X.l) it0 e2 d'/\kX X (.tuple #[]) d' e w'):=aP HJ2.out (by omega) (by omega) (by have m0:=HM.out;have m1:=av cP I1.out H0.out.e0 H1.out.e0;have ml2:=HP2.out.le;omega) hrc hent hlv hop;have HLT:Hid (∀d',Ib (aF X.l) it0 e2 d'->d'.e=0->ms (aF X.l) d' < ms (aF X.l) e2):=fun d' h1 h2=>yX HPK.out h1 HJ2.out.e0 h2
   clear hrc hop hent hpk hlv HK2
   go_wp2_with fail
   refine HN.out.mono ?_;rintro e w3 ⟨d3,i3,o3⟩;have I3:=ai i3
   rcases o3 with ⟨z3,rfl,h3⟩|⟨z3,rfl,h3⟩
   rotate_left
   ·have HP:=ai h3;have HZ:=ai z3;clear h3 i3 z3
    go_wp2_with fail
    exact ⟨rfl,_,(aa I1.out (aa (HP2.out.go _ (bj HPK.out I3.out (aS HZ.out))) (ah HZ.out _))),.inr ⟨HZ.out,rfl,HP.out⟩⟩
   have H3:=ai h3;clear h3 i3 z3
   go_wp2_with fail
   refine (HD2.out X _ _ _ H3.out).mono ?_;rintro e w4 ⟨u4,v4,rfl,p4,hb4⟩;have P4:=ai p4;have H4:=show Hid _ from H3.out.below hb4
   clear p4 hb4
   go_wp2_with fail
   exact ⟨⟨_,H4.out,HP2.out.step HPK.out I3.out,P4.out⟩,iA HJ2.out H4.out (by have m0:=HM.out;have m1:=av cP I1.out H0.out.e0 H1.out.e0;have ml2:=HP2.out.le;have m3:=bH I3.out;have mx:=HLT.out _ I3.out H3.out.e0;omega)⟩
  ·have hne:=pD;have HPK:=ai hpk;clear hpk HK2
   go_wp2_with fail
   go_end0
   exact ⟨_,(aa I1.out (aa (HP2.out.fin HPK.out) aE)),.inl ⟨HJ2.out.e0,rfl,HJ2.out⟩⟩
theorem Jg (n:Nat) (hexpr:bG 232 dq 50 n) (hexprA:∀k,k<n->bG 232 dq 50 k):bG 262 nG 45 n:=by
 intro X r d W h hr hm;have H0:Hid (SD X r d W):=h;have HM:Hid (ms (aF X.l) d<=n):=hm;have hmf:=mkfn;clear h hm
 go_enter Tryz.func262,Tryz.ntmps262
 go_wp2_with fail
 refine (aP H0.out (by omega) (by omega) (by have m0:=HM.out;omega) hexpr dv rfl (fun d' hh=>aT (m:=.expr) rfl hh)).mono ?_;rintro e w1 ⟨d1,i1,o1⟩;have I1:=ai i1
 rcases o1 with ⟨z1,rfl,h1⟩|⟨z1,rfl,h1⟩
 rotate_left
 ·have HP:=ai h1;have HZ:=ai z1;clear h1 i1 z1
  go_wp2_with fail
  exact ⟨rfl,_,(aa I1.out (ah HZ.out _)),.inr ⟨HZ.out,rfl,HP.out⟩⟩
 have H1:=ai h1;clear h1 i1 z1
 go_wp2_with fail
 go_loopw [] (fun wr=>∃dk,Hid (SD X 0 dk wr)/\Hid (Lp (aF X.l) (.row [.wd 6 [⟨#[44]⟩],.mt .expr]) d1 dk)) (fun wr=>mW X wr)
 case atStart=>exact ⟨_,H1.out,.refl⟩
 case round=>
  obtain ⟨e2,HJ2,HP2⟩:=hrel
  go_wp2_with fail
  refine (bL HJ2.out (by omega) [⟨#[44]⟩] (by simp) (by kernel_rfl) rfl rfl).mono ?_;rintro e w3 (⟨q3,rfl,h3⟩|⟨q3,d3,i3,o3⟩)
  rotate_left
  ·have Q3:=ai q3;clear q3;have I3:=ai i3
   rcases o3 with ⟨z3,rfl,h3⟩|⟨z3,rfl,h3⟩
   rotate_left
   ·have HP:=ai h3;have HZ:=ai z3;clear h3 i3 z3
    go_wp2_with fail
    exact ⟨rfl,_,(aa I1.out (aa (HP2.out.go _ (bj (aA Q3.out) (aN (aa I3.out (ah HZ.out _))) (aS HZ.out))) (ah HZ.out _))),.inr ⟨HZ.out,rfl,HP.out⟩⟩
   have H3:=ai h3;clear h3 i3 z3
   go_wp2_with fail
   refine (aP H3.out (by omega) (by omega) (gt _) (hexprA (ms (aF X.l) d3) (by have m0:=HM.out;have m1:=bH I1.out;have ml2:=HP2.out.le;have m3:=av aC I3.out HJ2.out.e0 H3.out.e0;omega)) dv rfl (fun d' hh=>aT (m:=.expr) rfl hh)).mono ?_;rintro e w4 ⟨d4,i4,o4⟩;have I4:=ai i4
   rcases o4 with ⟨z4,rfl,h4⟩|⟨z4,rfl,h4⟩
   rotate_left
   ·have HP:=ai h4;have HZ:=ai z4;clear h4 i4 z4
    go_wp2_with fail
    exact ⟨rfl,_,(aa I1.out (aa (HP2.out.go _ (bj (aA Q3.out) (aN (aa I3.out (aa I4.out (ah HZ.out _)))) (aS HZ.out))) (ah HZ.out _))),.inr ⟨HZ.out,rfl,HP.out⟩⟩
   have H4:=ai h4;clear h4 i4 z4
   go_wp2_with fail
   exact ⟨⟨_,H4.out,HP2.out.step (aA Q3.out) (aN (aa I3.out (aa I4.out aE)))⟩,iA HJ2.out H4.out (by have m0:=HM.out;have m1:=bH I1.out;have ml2:=HP2.out.le;have m3:=av aC I3.out HJ2.out.e0 H3.out.e0;have m4:=bH I4.out;omega)⟩
  have Q3:=ai q3;have H3:=ai h3;clear q3 h3
  go_wp2_with fail
  go_end0
  exact ⟨_,(aa I1.out (aa (HP2.out.fin (aL Q3.out)) aE)),.inl ⟨H3.out.e0,rfl,H3.out⟩⟩
theorem EM (n:Nat) (hlistA:∀k,k<n->bG 262 nG 45 k):bG 256 kE 90 n:=by
 intro X r d W h hr hm;have H0:Hid (SD X r d W):=h;have HM:Hid (ms (aF X.l) d<=n):=hm;have hmf:=mkfn;clear h hm
 go_enter Tryz.func256,Tryz.ntmps256
 go_wp2_with fail
 refine (bm H0.out (by omega) (by kernel_rfl)).mono ?_;rintro e w1 ⟨d1,i1,o1⟩;have I1:=ai i1
 rcases o1 with ⟨z1,rfl,h1⟩|⟨z1,rfl,h1⟩
 rotate_left
 ·have HP:=ai h1;have HZ:=ai z1;clear h1 i1 z1
  go_wp2_with fail
  exact ⟨rfl,_,(aa I1.out (ah HZ.out _)),.inr ⟨HZ.out,rfl,HP.out⟩⟩
 have H1:=ai h1;clear h1 i1 z1
 go_wp2_with fail
 refine ((hlistA (ms (aF X.l) d1) (by have m0:=HM.out;have m1:=av aC I1.out H0.out.e0 H1.out.e0;omega)) X _ _ _ H1.out (by omega) (gt _)).mono ?_;rintro e w2 ⟨d2,i2,o2⟩;replace i2:=show Ib (aF X.l) (.fl (.mt .list)) d1 d2 from qW rfl i2
 have I2:=ai i2
 rcases o2 with ⟨z2,rfl,h2⟩|⟨z2,rfl,h2⟩
 rotate_left
 ·have HP:=ai h2;have HZ:=ai z2;clear h2 i2 z2
  go_wp2_with fail
  exact ⟨rfl,_,(aa I1.out (aa I2.out (ah HZ.out _))),.inr ⟨HZ.out,rfl,HP.out⟩⟩
 have H2:=ai h2;clear h2 i2 z2
 go_wp2_with fail
 refine (bm H2.out (by omega) (by kernel_rfl)).mono ?_;rintro e w3 ⟨d3,i3,o3⟩;have I3:=ai i3
 rcases o3 with ⟨z3,rfl,h3⟩|⟨z3,rfl,h3⟩
 rotate_left
 ·have HP:=ai h3;have HZ:=ai z3;clear h3 i3 z3
  go_wp2_with fail
  exact ⟨rfl,_,(aa I1.out (aa I2.out (aa I3.out (ah HZ.out _)))),.inr ⟨HZ.out,rfl,HP.out⟩⟩
 have H3:=ai h3;clear h3 i3 z3
 go_wp2_with fail
 go_end0
 exact ⟨_,(aa I1.out (aa I2.out (aa I3.out aE))),.inl ⟨H3.out.e0,rfl,H3.out⟩⟩
theorem rP (n:Nat):bG 257 fL 90 n:=by
 intro X r d W h hr hm;have H0:Hid (SD X r d W):=h;have HM:Hid (ms (aF X.l) d<=n):=hm;have hmf:=mkfn;clear h hm
 go_enter Tryz.func257,Tryz.ntmps257
 go_wp2_with fail
 refine (bm H0.out (by omega) (by kernel_rfl)).mono ?_;rintro e w1 ⟨d1,i1,o1⟩;have I1:=ai i1
 rcases o1 with ⟨z1,rfl,h1⟩|⟨z1,rfl,h1⟩
 rotate_left
 ·have HP:=ai h1;have HZ:=ai z1;clear h1 i1 z1
  go_wp2_with fail
  exact ⟨rfl,_,(aa I1.out (ah HZ.out _)),.inr ⟨HZ.out,rfl,HP.out⟩⟩
 have H1:=ai h1;clear h1 i1 z1
 go_wp2_with fail
 refine (fJ H1.out (by omega)).mono ?_;rintro e w2 ⟨d2,i2,o2⟩;have I2:=ai i2
 rcases o2 with ⟨z2,rfl,h2⟩|⟨z2,rfl,h2⟩
 rotate_left
 ·have HP:=ai h2;have HZ:=ai z2;clear h2 i2 z2
  go_wp2_with fail
  exact ⟨rfl,_,(aa I1.out (aa I2.out (ah HZ.out _))),.inr ⟨HZ.out,rfl,HP.out⟩⟩
 have H2:=ai h2;clear h2 i2 z2
 go_wp2_with fail
 go_end0
 exact ⟨_,(aa I1.out (aa I2.out aE)),.inl ⟨H2.out.e0,rfl,H2.out⟩⟩
theorem Kj (n:Nat) (hlistA:∀k,k<n->bG 262 nG 45 k):bG 258 nJ 90 n:=by
 intro X r d W h hr hm;have H0:Hid (SD X r d W):=h;have HM:Hid (ms (aF X.l) d<=n):=hm;have hmf:=mkfn;clear h hm
 go_enter Tryz.func258,Tryz.ntmps258
 go_wp2_with fail
 refine (bm H0.out (by omega) (by kernel_rfl)).mono ?_;rintro e w1 ⟨d1,i1,o1⟩;have I1:=ai i1
 rcases o1 with ⟨z1,rfl,h1⟩|⟨z1,rfl,h1⟩
 rotate_left
 ·have HP:=ai h1;have HZ:=ai z1;clear h1 i1 z1
  go_wp2_with fail
  exact ⟨rfl,_,(aa I1.out (ah HZ.out _)),.inr ⟨HZ.out,rfl,HP.out⟩⟩
 have H1:=ai h1;clear h1 i1 z1
 go_wp2_with fail
 refine (pj H1.out).mono ?_;rintro e w2 ⟨b2,rfl,hbe2,hb2⟩;have H2:=show Hid _ from H1.out.below hb2
 have PB2:=show Hid _ from hbe2 .list
 clear hb2 hbe2;cases b2 with
 |true=>
  go_wp2_with fail
  refine ((hlistA (ms (aF X.l) d1) (by have m0:=HM.out;have m1:=av aC I1.out H0.out.e0 H1.out.e0;omega) X _ _ _ H2.out (by omega) (gt _)).mono (fun e w' ⟨d',h1,h2⟩=>(⟨d',bi PB2.out (qW rfl h1),h2⟩:∃d',Ib (aF X.l) (.once (.ex .list)) _ d'/\kX X (.tuple #[]) d' e w'))).mono ?_;rintro e w3 ⟨d3,i3,o3⟩;have I3:=ai i3
  rcases o3 with ⟨z3,rfl,h3⟩|⟨z3,rfl,h3⟩
  rotate_left
  ·have HP:=ai h3;have HZ:=ai z3;clear h3 i3 z3
   go_wp2_with fail
   exact ⟨rfl,_,(aa I1.out (aa I3.out (ah HZ.out _))),.inr ⟨HZ.out,rfl,HP.out⟩⟩
  have H3:=ai h3;clear h3 i3 z3
  go_wp2_with fail
  refine (bm H3.out (by omega) (by kernel_rfl)).mono ?_;rintro e w4 ⟨d4,i4,o4⟩;have I4:=ai i4
  rcases o4 with ⟨z4,rfl,h4⟩|⟨z4,rfl,h4⟩
  rotate_left
  ·have HP:=ai h4;have HZ:=ai z4;clear h4 i4 z4
   go_wp2_with fail
   exact ⟨rfl,_,(aa I1.out (aa I3.out (aa I4.out (ah HZ.out _)))),.inr ⟨HZ.out,rfl,HP.out⟩⟩
  have H4:=ai h4;clear h4 i4 z4
  go_wp2_with fail
  go_end0
  exact ⟨_,(aa I1.out (aa I3.out (aa I4.out aE))),.inl ⟨H4.out.e0,rfl,H4.out⟩⟩
 |false=>
  go_wp2_with fail
  refine (bm H2.out (by omega) (by kernel_rfl)).mono ?_;rintro e w25 ⟨d25,i25,o25⟩;have I25:=ai i25
  rcases o25 with ⟨z25,rfl,h25⟩|⟨z25,rfl,h25⟩
  rotate_left
  ·have HP:=ai h25;have HZ:=ai z25;clear h25 i25 z25
   go_wp2_with fail
   exact ⟨rfl,_,(aa I1.out (aa (aZ PB2.out) (aa I25.out (ah HZ.out _)))),.inr ⟨HZ.out,rfl,HP.out⟩⟩
  have H25:=ai h25;clear h25 i25 z25
  go_wp2_with fail
  go_end0
  exact ⟨_,(aa I1.out (aa (aZ PB2.out) (aa I25.out aE))),.inl ⟨H25.out.e0,rfl,H25.out⟩⟩
theorem bG.at {f:Nat}{row:List It}{b n:Nat}(h:bG f row b n) (hb:90<=b) (X:Sx) (d:D):QI X f row n d:=fun r W hs hr hm=>h X r d W hs (QQ hr hb) hm
theorem DQ {L:List Tv}{n:Int}{d:D}{f:Tv->Bool}:qn L (ei n d) f=qn L d f:=by unfold qn cL ei;by_cases h:d.e=0 <;> simp [h]
theorem MO {t:Tv}(h:cC t=32):Fl.takes t .cs=true:=by
 unfold cC at h;simp only [Fl.takes]
 repeat' (split at h)
 all_goals first|assumption|(cases h;done)
theorem ra (n:Nat) (hminus:bG 260 kD 90 n) (hnot:bG 259 sL 90 n) (hgroup:bG 261 kF 90 n) (hobject:bG 248 gN 95 n):PC .factor 254 n:=by
 intro X r d W h;refine (pJ h).mono ?_;rintro e w' ⟨rfl,hb⟩;refine ⟨_,_,rfl,?_,hb⟩;have hcs:qn (aF X.l) d (fun t=>Fl.takes t .cs)=Fl.takes (nx X (ps X.l d.i)) .cs:=h.hqn (by simp [Fl.takes,aB]);have hd:cH (cL (aF X.l) d) .factor=M.row (nx X (ps X.l d.i)) .factor:=by rw [h.hnx];exact vR _
 generalize nx X (ps X.l d.i)=t at *
 have hf:cC t=25\/cC t=26\/cC t=27\/cC t=32\/cC t=28\/cC t=0:=by unfold cC;(repeat' split) <;> simp
 rcases hf with e|e|e|e|e|e
 ·exact .inl ⟨25,_,kD,by rw [e],by simp only [lP,e];rfl,Fg,rfl,hminus.at (by omega) X _,fun d' hh=>aT (m:=.factor) (by rw [hd];simp only [M.row,e];rfl) hh⟩
 ·exact .inl ⟨26,_,sL,by rw [e],by simp only [lP,e];rfl,MR,rfl,hnot.at (by omega) X _,fun d' hh=>aT (m:=.factor) (by rw [hd];simp only [M.row,e];rfl) hh⟩
 ·exact .inl ⟨27,_,kF,by rw [e],by simp only [lP,e];rfl,Fi,rfl,hgroup.at (by omega) X _,fun d' hh=>aT (m:=.factor) (by rw [hd];simp only [M.row,e];rfl) hh⟩
 ·refine .inl ⟨32,_,[.fl .cs],by rw [e],by simp only [lP,e];rfl,JL,rfl,fun r1 W1 h1 hr1 _=>Ic (n:=n) h1 hr1 ?_,fun d' hh=>aT (m:=.factor) (by rw [hd];simp only [M.row,e];rfl) hh⟩;rw [DQ,hcs];exact MO e
 ·exact .inl ⟨28,_,gN,by rw [e],by simp only [lP,e];rfl,rf,rfl,hobject.at (by omega) X _,fun d' hh=>qW (m:=.factor) (r:=[.fl (.mt .object)]) (by rw [hd];simp only [M.row,e];rfl) (bR (aT (m:=.object) rfl hh))⟩
 ·exact .inr ⟨by rw [e],by simp only [lP,e];rfl,_,sH (m:=.factor) (by rw [hd];simp only [M.row,e];rfl),rfl,by unfold eM;simp only [Q8,R8];(repeat' split) <;> rfl⟩
theorem jU {t:Tv}{l:List UInt8}{s:ByteArray}(h:t.is l=true) (hs:s.toList=l):t.t=s:=tD (by unfold Tv.is at h;simpa [hs] using h)
theorem Jl (n:Nat) (harray:bG 246 iK 90 n) (hrecord:bG 247 gM 90 n):PC .kind 234 n:=by
 intro X r d W h;refine (EE h).mono ?_;rintro e w' ⟨rfl,hb⟩;refine ⟨_,_,rfl,?_,hb⟩;have hn:=h.hnx;have hz:=h.e0
 generalize nx X (ps X.l d.i)=t at *
 have ha:∀s,(cL (aF X.l) d).elim false (wk 2 s)=wk 2 s t:=fun s=>by rw [hn];cases cL (aF X.l) d <;> rfl
 have wa:wk 2 ⟨#[97,114,114,97,121]⟩ t=(t.k == 2 && t.is [97,114,114,97,121]):=by rw [qv,show (ByteArray.mk #[97,114,114,97,121]).toList=[97,114,114,97,121] by decide +kernel];rfl
 have wr:wk 2 ⟨#[114,101,99,111,114,100]⟩ t=(t.k == 2 && t.is [114,101,99,111,114,100]):=by rw [qv,show (ByteArray.mk #[114,101,99,111,114,100]).toList=[114,101,99,111,114,100] by decide +kernel];rfl
 have hd:cH (cL (aF X.l) d) .kind=if (t.k == 2 && t.is [97,114,114,97,121])=true then .op 9 iK else if (t.k == 2 && t.is [114,101,99,111,114,100])=true then .op 10 gM else .op 8 [.fl .nm]:=by
  simp only [cH,ha,wa,wr]
 cases h1:(t.k == 1) with
 |true=>
  have h2:(t.k == 2)=false:=by
   have:t.k=1:=by simpa using h1
   simp [this]
  refine .inl ⟨8,_,[.fl .nm],by simp only [jO,h1];rfl,by simp only [jN,h1];rfl,JO,rfl,(Id n).at (by omega) X _,fun d' hh=>aT (m:=.kind) (by rw [hd,h2];rfl) hh⟩
 |false=>
  cases h2:(t.k == 2 && t.is [97,114,114,97,121]) with
  |true=>exact .inl ⟨9,_,iK,by simp only [jO,h1,h2];rfl,by simp only [jN,h1,h2];rfl,Fk,rfl,harray.at (by omega) X _,fun d' hh=>aT (m:=.kind) (by rw [hd,h2];rfl) hh⟩
  |false=>
   cases h3:(t.k == 2 && t.is [114,101,99,111,114,100]) with
   |true=>exact .inl ⟨10,_,gM,by simp only [jO,h1,h2,h3];rfl,by simp only [jN,h1,h2,h3];rfl,B2,rfl,hrecord.at (by omega) X _,fun d' hh=>aT (m:=.kind) (by rw [hd,h2,h3];rfl) hh⟩
   |false=>
    have hq:qn (aF X.l) d (fun t=>Fl.takes t .nm)=false:=by
     rw [h.hqn (by simp [Fl.takes,aB]),h.hnx,<-hn];exact h1
    have hq2:qn (aF X.l) (ei 8 d) (fun t=>Fl.takes t .nm)=false:=by rw [DQ];exact hq
    have ho:(ei 8 d).e=d.e/\(ei 8 d).i=d.i:=by unfold ei;rw [IO hz];exact ⟨rfl,rfl⟩
    have hee:(eM (aF X.l) false (ei 8 d)).e=(eM (aF X.l) false d).e/\(eM (aF X.l) false (ei 8 d)).e≠0/\(eM (aF X.l) false (ei 8 d)).i=d.i:=by
     unfold eM;simp only [Q8,R8,ho.1,ho.2,IO hz]
     split
     ·exact ⟨rfl,by show (120:Int)≠0;decide,by first|rfl|exact ho.2⟩
     ·exact ⟨rfl,by show (121:Int)≠0;decide,by first|rfl|exact ho.2⟩
    have hi:=iI (L:=aF X.l) (d:=ei 8 d) cP;rw [hq2] at hi;exact .inr ⟨by simp only [jO,h1,h2,h3];rfl,by simp only [jN,h1,h2,h3];rfl,_,aT (m:=.kind) (by rw [hd,h2,h3];rfl) (aa hi (bR (nR hee.2.1))),hee.1,hee.2.2⟩
theorem kc (n:Nat) (hact:bG 235 pm 90 n) (hskip:bG 236 nF 90 n) (hbranches:bG 237 gr 90 n) (hwhile:bG 238 kC 90 n) (hcount:bG 239 kG 90 n) (hrepeat:bG 240 jo 90 n) (hanswer:bG 241 jp 90 n) (hcompound:bG 242 gq 90 n):PC .statement 221 n:=by
 intro X r d W h;refine (qh h).mono ?_;rintro e w' ⟨rfl,hb⟩;refine ⟨_,_,rfl,?_,hb⟩;have hn:=h.hnx;have hz:=h.e0
 generalize nx X (ps X.l d.i)=t at *
 have hd:cH (cL (aF X.l) d) .statement=if t.k == 1 then .op 14 pm else if t.k == 2 then cd t.t else .ref:=by
  rw [hn];cases cL (aF X.l) d <;> rfl
 have hee:(eM (aF X.l) false d).i=d.i:=by unfold eM;simp only [Q8,R8];(repeat' split) <;> rfl
 cases h1:(t.k == 1) with
 |true=>exact .inl ⟨14,_,pm,by simp only [dD,h1];rfl,by simp only [dC,h1];rfl,MS,rfl,hact.at (by omega) X _,fun d' hh=>aT (m:=.statement) (by rw [hd,h1];rfl) hh⟩
 |false=>
  cases h2:(t.k == 2) with
  |false=>exact .inr ⟨by simp only [dD,h1,h2];rfl,by simp only [dC,h1,h2];rfl,_,sH (m:=.statement) (by rw [hd,h1,h2];rfl),rfl,hee⟩
  |true=>
   cases g13:t.is [115,107,105,112] with
   |true=>
    have hs:t.t=⟨#[115,107,105,112]⟩:=jU g13 (by decide +kernel);exact .inl ⟨13,_,nF,by simp only [dD,h1,h2,g13];rfl,by simp only [dC,h1,h2,g13];rfl,JM,rfl,hskip.at (by omega) X _,fun d' hh=>aT (m:=.statement) (by rw [hd,h1,h2,hs];kernel_rfl) hh⟩
   |false=>
    cases g15:t.is [105,102] with
    |true=>
     have hs:t.t=⟨#[105,102]⟩:=jU g15 (by decide +kernel);exact .inl ⟨15,_,gr,by simp only [dD,h1,h2,g13,g15];rfl,by simp only [dC,h1,h2,g13,g15];rfl,vP,rfl,hbranches.at (by omega) X _,fun d' hh=>aT (m:=.statement) (by rw [hd,h1,h2,hs];kernel_rfl) hh⟩
    |false=>
     cases g16:t.is [119,104,105,108,101] with
     |true=>
      have hs:t.t=⟨#[119,104,105,108,101]⟩:=jU g16 (by decide +kernel);exact .inl ⟨16,_,kC,by simp only [dD,h1,h2,g13,g15,g16];rfl,by simp only [dC,h1,h2,g13,g15,g16];rfl,Fc,rfl,hwhile.at (by omega) X _,fun d' hh=>aT (m:=.statement) (by rw [hd,h1,h2,hs];kernel_rfl) hh⟩
     |false=>
      cases g17:t.is [102,111,114] with
      |true=>
       have hs:t.t=⟨#[102,111,114]⟩:=jU g17 (by decide +kernel);exact .inl ⟨17,_,kG,by simp only [dD,h1,h2,g13,g15,g16,g17];rfl,by simp only [dC,h1,h2,g13,g15,g16,g17];rfl,Fj,rfl,hcount.at (by omega) X _,fun d' hh=>aT (m:=.statement) (by rw [hd,h1,h2,hs];kernel_rfl) hh⟩
      |false=>
       cases g18:t.is [114,101,112,101,97,116] with
       |true=>
        have hs:t.t=⟨#[114,101,112,101,97,116]⟩:=jU g18 (by decide +kernel);exact .inl ⟨18,_,jo,by simp only [dD,h1,h2,g13,g15,g16,g17,g18];rfl,by simp only [dC,h1,h2,g13,g15,g16,g17,g18];rfl,BZ,rfl,hrepeat.at (by omega) X _,fun d' hh=>aT (m:=.statement) (by rw [hd,h1,h2,hs];kernel_rfl) hh⟩
       |false=>
        cases g19:t.is [114,101,116,117,114,110] with
        |true=>
         have hs:t.t=⟨#[114,101,116,117,114,110]⟩:=jU g19 (by decide +kernel);exact .inl ⟨19,_,jp,by simp only [dD,h1,h2,g13,g15,g16,g17,g18,g19];rfl,by simp only [dC,h1,h2,g13,g15,g16,g17,g18,g19];rfl,B4,rfl,hanswer.at (by omega) X _,fun d' hh=>aT (m:=.statement) (by rw [hd,h1,h2,hs];kernel_rfl) hh⟩
        |false=>
         cases g20:t.is [98,101,103,105,110] with
         |true=>
          have hs:t.t=⟨#[98,101,103,105,110]⟩:=jU g20 (by decide +kernel);exact .inl ⟨20,_,gq,by simp only [dD,h1,h2,g13,g15,g16,g17,g18,g19,g20];rfl,by simp only [dC,h1,h2,g13,g15,g16,g17,g18,g19,g20];rfl,vO,rfl,hcompound.at (by omega) X _,fun d' hh=>aT (m:=.statement) (by rw [hd,h1,h2,hs];kernel_rfl) hh⟩
         |false=>
          have hw:cd t.t=.ref:=by unfold Tv.is at g13 g15 g16 g17 g18 g19 g20;simp only [cd,g13,g15,g16,g17,g18,g19,g20];rfl
          exact .inr ⟨by simp only [dD,h1,h2,g13,g15,g16,g17,g18,g19,g20];rfl,by simp only [dC,h1,h2,g13,g15,g16,g17,g18,g19,g20];rfl,_,sH (m:=.statement) (by rw [hd,h1,h2,hw];rfl),rfl,hee⟩
theorem pP (n:Nat) (hvariables:bG 217 fK 90 n) (hconstant:bG 218 gn 90 n) (hprocedure:bG 219 fM 90 n):PD .declaration 190 n:=by
 intro X r d W h;refine (mM h).mono ?_;rintro e w' ⟨rfl,hb⟩;refine ⟨_,_,rfl,?_,hb⟩;have hp:bu (cL (aF X.l) d) (.fn .declaration)=if (nx X (ps X.l d.i)).k == 2 then ((Dk.declaration).pick (nx X (ps X.l d.i))).map (fun m=>.fl (.mt m)) else none:=by rw [h.hnx];exact iN _ _
 generalize nx X (ps X.l d.i)=t at *
 cases h2:(t.k == 2) with
 |false=>exact .inr ⟨by simp only [iR,h2];rfl,by simp only [iQ,h2];rfl,by rw [hp,h2];rfl⟩
 |true=>
  cases g3:t.is [118,97,114] with
  |true=>exact .inl ⟨3,_,fK,.fl (.mt .variables),by simp only [iR,h2,g3];rfl,by simp only [iQ,h2,g3];rfl,sV,rfl,hvariables,by rw [hp,h2];simp only [Dk.pick,g3];rfl,fun d' hh=>aT (m:=.variables) rfl hh⟩
  |false=>
   cases g4:t.is [99,111,110,115,116] with
   |true=>exact .inl ⟨4,_,gn,.fl (.mt .constants),by simp only [iR,h2,g3,g4];rfl,by simp only [iQ,h2,g3,g4];rfl,vN,rfl,hconstant,by rw [hp,h2];simp only [Dk.pick,g3,g4];rfl,fun d' hh=>aT (m:=.constants) rfl hh⟩
   |false=>
    cases g5:t.is [112,114,111,99] with
    |true=>exact .inl ⟨5,_,fM,.fl (.mt .procedure),by simp only [iR,h2,g3,g4,g5];rfl,by simp only [iQ,h2,g3,g4,g5];rfl,sX,rfl,hprocedure,by rw [hp,h2];simp only [Dk.pick,g3,g4,g5];rfl,fun d' hh=>aT (m:=.procedure) rfl hh⟩
    |false=>
     exact .inr ⟨by simp only [iR,h2,g3,g4,g5];rfl,by simp only [iQ,h2,g3,g4,g5];rfl,by rw [hp,h2];simp only [Dk.pick,g3,g4,g5];rfl⟩
theorem B8 (n:Nat) (hindex:bG 256 kE 90 n) (hselection:bG 257 fL 90 n) (hargs:bG 258 nJ 90 n):PD .detail 253 n:=by
 intro X r d W h;refine (xQ h).mono ?_;rintro e w' ⟨rfl,hb⟩;refine ⟨_,_,rfl,?_,hb⟩;have hp:bu (cL (aF X.l) d) (.fn .detail)=if (nx X (ps X.l d.i)).k == 6 then ((Dk.detail).pick (nx X (ps X.l d.i))).map (fun m=>.fl (.mt m)) else none:=by rw [h.hnx];exact iN _ _
 generalize nx X (ps X.l d.i)=t at *
 cases h2:(t.k == 6) with
 |false=>exact .inr ⟨by simp only [iP,h2];rfl,by simp only [iO,h2];rfl,by rw [hp,h2];rfl⟩
 |true=>
  cases g29:t.is [91] with
  |true=>exact .inl ⟨29,_,kE,.fl (.mt .index),by simp only [iP,h2,g29];rfl,by simp only [iO,h2,g29];rfl,Fh,rfl,hindex,by rw [hp,h2];simp only [Dk.pick,g29];rfl,fun d' hh=>aT (m:=.index) rfl hh⟩
  |false=>
   cases g30:t.is [46] with
   |true=>exact .inl ⟨30,_,fL,.fl (.mt .selection),by simp only [iP,h2,g29,g30];rfl,by simp only [iO,h2,g29,g30];rfl,sW,rfl,hselection,by rw [hp,h2];simp only [Dk.pick,g29,g30];rfl,fun d' hh=>aT (m:=.selection) rfl hh⟩
   |false=>
    cases g31:t.is [40] with
    |true=>exact .inl ⟨31,_,nJ,.fl (.mt .args),by simp only [iP,h2,g29,g30,g31];rfl,by simp only [iO,h2,g29,g30,g31];rfl,JP,rfl,hargs,by rw [hp,h2];simp only [Dk.pick,g29,g30,g31];rfl,fun d' hh=>aT (m:=.args) rfl hh⟩
    |false=>
     exact .inr ⟨by simp only [iP,h2,g29,g30,g31];rfl,by simp only [iO,h2,g29,g30,g31];rfl,by rw [hp,h2];simp only [Dk.pick,g29,g30,g31];rfl⟩
end Go.Proofs.YtjiepkenkcgkhaaGreatDoor
