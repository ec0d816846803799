import Derived.Test.YtcjiapphbpiffaaGreatDoorM22
set_option linter.unusedVariables false
set_option linter.unusedSimpArgs false
set_option maxHeartbeats 2000000
namespace Go.Proofs.YtcjiapphbpiffaaGreatDoor
open Go.RowKit
variable {X:Sx}{d:D}{t:Tv}{W:World}
theorem Lg (n:Nat) (hrel:bJ 249 tR 55 n) (hrelA:∀k,k<n->bJ 249 tR 55 k):bJ 236 dK 50 n:=by
 intro X r d W h hr hm;have H0:Hid (SD X r d W):=h;have HM:Hid (ms (aG X.l) d<=n):=hm;have ac:=mkfn;clear h hm
 go_enter Tryz.func236,Tryz.ntmps236
 go_wp2_with fail
 refine (aQ H0.out (by omega) (by omega) (by have m0:=HM.out;omega) hrel GC rfl (fun d' hh=>aU (m:=.rel) rfl hh)).mono ?_;rintro e w1 ⟨d1,i1,o1⟩;have J:=ai i1
 rcases o1 with ⟨Z,rfl,S⟩|⟨Z,rfl,S⟩
 rotate_left
 ·have M:=ai S;have F:=ai Z;clear S i1 Z
  go_wp2_with fail
  exact ⟨rfl,_,(aa J.out (ah F.out _)),.inr ⟨F.out,rfl,M.out⟩⟩
 have H1:=ai S;clear S i1 Z
 go_wp2_with fail
 go_loopw [] (fun wr=>∃dk,Hid (SD X 0 dk wr)/\Hid (Lp (aG X.l) (.row [.wd 2 [⟨#[97,110,100]⟩,⟨#[111,114]⟩],.mt .rel]) d1 dk)) (fun wr=>mW X wr)
 case atStart=>exact ⟨_,H1.out,.refl⟩
 case round=>
  obtain ⟨e2,G,C⟩:=hrel
  go_wp2_with fail
  refine (iN G.out (by omega) [⟨#[97,110,100]⟩,⟨#[111,114]⟩] (by simp) (by kernel_rfl) rfl rfl).mono ?_;rintro e w3 (⟨Y,rfl,H⟩|⟨Y,d3,i3,o3⟩)
  rotate_left
  ·have Q:=ai Y;clear Y;have O:=ai i3
   rcases o3 with ⟨z3,rfl,H⟩|⟨z3,rfl,H⟩
   rotate_left
   ·have M:=ai H;have F:=ai z3;clear H i3 z3
    go_wp2_with fail
    exact ⟨rfl,_,(aa J.out (aa (C.out.go _ (bq (aA Q.out) (aO (aa O.out (ah F.out _))) (aT F.out))) (ah F.out _))),.inr ⟨F.out,rfl,M.out⟩⟩
   have I:=ai H;clear H i3 z3
   go_wp2_with fail
   refine (aQ I.out (by omega) (by omega) (gt _) (hrelA (ms (aG X.l) d3) (by have m0:=HM.out;have m1:=bK J.out;have ab:=C.out.le;have m3:=az aC O.out G.out.e0 I.out.e0;omega)) GC rfl (fun d' hh=>aU (m:=.rel) rfl hh)).mono ?_;rintro e w4 ⟨d4,i4,o4⟩;have I4:=ai i4
   rcases o4 with ⟨z4,rfl,U⟩|⟨z4,rfl,U⟩
   rotate_left
   ·have M:=ai U;have F:=ai z4;clear U i4 z4
    go_wp2_with fail
    exact ⟨rfl,_,(aa J.out (aa (C.out.go _ (bq (aA Q.out) (aO (aa O.out (aa I4.out (ah F.out _)))) (aT F.out))) (ah F.out _))),.inr ⟨F.out,rfl,M.out⟩⟩
   have H4:=ai U;clear U i4 z4
   go_wp2_with fail
   exact ⟨⟨_,H4.out,C.out.step (aA Q.out) (aO (aa O.out (aa I4.out aF)))⟩,iM G.out H4.out (by have m0:=HM.out;have m1:=bK J.out;have ab:=C.out.le;have m3:=az aC O.out G.out.e0 I.out.e0;have m4:=bK I4.out;omega)⟩
  have Q:=ai Y;have I:=ai H;clear Y H
  go_wp2_with fail
  go_end0
  exact ⟨_,(aa J.out (aa (C.out.fin (aM Q.out)) aF)),.inl ⟨I.out.e0,rfl,I.out⟩⟩
theorem NB (n:Nat) (hsum:bJ 256 tQ 60 n) (hsumA:∀k,k<n->bJ 256 tQ 60 k):bJ 249 tR 55 n:=by
 intro X r d W h hr hm;have H0:Hid (SD X r d W):=h;have HM:Hid (ms (aG X.l) d<=n):=hm;have ab:=mkfn;clear h hm
 go_enter Tryz.func249,Tryz.ntmps249
 go_wp2_with fail
 refine (aQ H0.out (by omega) (by omega) (by have m0:=HM.out;omega) hsum GB rfl (fun d' hh=>aU (m:=.sum) rfl hh)).mono ?_;rintro e w1 ⟨d1,i1,o1⟩;have G:=ai i1
 rcases o1 with ⟨U,rfl,M⟩|⟨U,rfl,M⟩
 rotate_left
 ·have I:=ai M;have C:=ai U;clear M i1 U
  go_wp2_with fail
  exact ⟨rfl,_,(aa G.out (ah C.out _)),.inr ⟨C.out,rfl,I.out⟩⟩
 have H1:=ai M;clear M i1 U
 go_wp2_with fail
 refine (bN H1.out (by omega) [⟨#[61]⟩,⟨#[35]⟩,⟨#[60]⟩,⟨#[60,61]⟩,⟨#[62]⟩,⟨#[62,61]⟩] (by simp) (by kernel_rfl) rfl rfl).mono ?_;rintro e w2 (⟨Q,rfl,F⟩|⟨Q,d2,i2,o2⟩)
 rotate_left
 ·have J:=ai Q;clear Q;have S:=ai i2
  rcases o2 with ⟨Y,rfl,F⟩|⟨Y,rfl,F⟩
  rotate_left
  ·have I:=ai F;have C:=ai Y;clear F i2 Y
   go_wp2_with fail
   exact ⟨rfl,_,(aa G.out (aa (bm (aA J.out) (aO (aa S.out (ah C.out _)))) (ah C.out _))),.inr ⟨C.out,rfl,I.out⟩⟩
  have H:=ai F;clear F i2 Y
  go_wp2_with fail
  refine (aQ H.out (by omega) (by omega) (gt _) (hsumA (ms (aG X.l) d2) (by have m0:=HM.out;have m1:=bK G.out;have m2:=az aC S.out H1.out.e0 H.out.e0;omega)) GB rfl (fun d' hh=>aU (m:=.sum) rfl hh)).mono ?_;rintro e w3 ⟨d3,i3,o3⟩;have I3:=ai i3
  rcases o3 with ⟨Z,rfl,O⟩|⟨Z,rfl,O⟩
  rotate_left
  ·have I:=ai O;have C:=ai Z;clear O i3 Z
   go_wp2_with fail
   exact ⟨rfl,_,(aa G.out (aa (bm (aA J.out) (aO (aa S.out (aa I3.out (ah C.out _))))) (ah C.out _))),.inr ⟨C.out,rfl,I.out⟩⟩
  have H3:=ai O;clear O i3 Z
  go_wp2_with fail
  go_end0
  exact ⟨_,(aa G.out (aa (bm (aA J.out) (aO (aa S.out (aa I3.out aF)))) aF)),.inl ⟨H3.out.e0,rfl,H3.out⟩⟩
 have J:=ai Q;have H:=ai F;clear Q F
 go_wp2_with fail
 go_end0
 exact ⟨_,(aa G.out (aa (bi (aM J.out)) aF)),.inl ⟨H.out.e0,rfl,H.out⟩⟩
theorem Ng (n:Nat) (hterm:bJ 259 oa 65 n) (htermA:∀k,k<n->bJ 259 oa 65 k):bJ 256 tQ 60 n:=by
 intro X r d W h hr hm;have H0:Hid (SD X r d W):=h;have HM:Hid (ms (aG X.l) d<=n):=hm;have ac:=mkfn;clear h hm
 go_enter Tryz.func256,Tryz.ntmps256
 go_wp2_with fail
 refine (aQ H0.out (by omega) (by omega) (by have m0:=HM.out;omega) hterm A4 rfl (fun d' hh=>aU (m:=.term) rfl hh)).mono ?_;rintro e w1 ⟨d1,i1,o1⟩;have J:=ai i1
 rcases o1 with ⟨Z,rfl,S⟩|⟨Z,rfl,S⟩
 rotate_left
 ·have M:=ai S;have F:=ai Z;clear S i1 Z
  go_wp2_with fail
  exact ⟨rfl,_,(aa J.out (ah F.out _)),.inr ⟨F.out,rfl,M.out⟩⟩
 have H1:=ai S;clear S i1 Z
 go_wp2_with fail
 go_loopw [] (fun wr=>∃dk,Hid (SD X 0 dk wr)/\Hid (Lp (aG X.l) (.row [.wd 6 [⟨#[43]⟩,⟨#[45]⟩],.mt .term]) d1 dk)) (fun wr=>mW X wr)
 case atStart=>exact ⟨_,H1.out,.refl⟩
 case round=>
  obtain ⟨e2,G,C⟩:=hrel
  go_wp2_with fail
  refine (bN G.out (by omega) [⟨#[43]⟩,⟨#[45]⟩] (by simp) (by kernel_rfl) rfl rfl).mono ?_;rintro e w3 (⟨Y,rfl,H⟩|⟨Y,d3,i3,o3⟩)
  rotate_left
  ·have Q:=ai Y;clear Y;have O:=ai i3
   rcases o3 with ⟨z3,rfl,H⟩|⟨z3,rfl,H⟩
   rotate_left
   ·have M:=ai H;have F:=ai z3;clear H i3 z3
    go_wp2_with fail
    exact ⟨rfl,_,(aa J.out (aa (C.out.go _ (bq (aA Q.out) (aO (aa O.out (ah F.out _))) (aT F.out))) (ah F.out _))),.inr ⟨F.out,rfl,M.out⟩⟩
   have I:=ai H;clear H i3 z3
   go_wp2_with fail
   refine (aQ I.out (by omega) (by omega) (gt _) (htermA (ms (aG X.l) d3) (by have m0:=HM.out;have m1:=bK J.out;have ab:=C.out.le;have m3:=az aC O.out G.out.e0 I.out.e0;omega)) A4 rfl (fun d' hh=>aU (m:=.term) rfl hh)).mono ?_;rintro e w4 ⟨d4,i4,o4⟩;have I4:=ai i4
   rcases o4 with ⟨z4,rfl,U⟩|⟨z4,rfl,U⟩
   rotate_left
   ·have M:=ai U;have F:=ai z4;clear U i4 z4
    go_wp2_with fail
    exact ⟨rfl,_,(aa J.out (aa (C.out.go _ (bq (aA Q.out) (aO (aa O.out (aa I4.out (ah F.out _)))) (aT F.out))) (ah F.out _))),.inr ⟨F.out,rfl,M.out⟩⟩
   have H4:=ai U;clear U i4 z4
   go_wp2_with fail
   exact ⟨⟨_,H4.out,C.out.step (aA Q.out) (aO (aa O.out (aa I4.out aF)))⟩,iM G.out H4.out (by have m0:=HM.out;have m1:=bK J.out;have ab:=C.out.le;have m3:=az aC O.out G.out.e0 I.out.e0;have m4:=bK I4.out;omega)⟩
  have Q:=ai Y;have I:=ai H;clear Y H
  go_wp2_with fail
  go_end0
  exact ⟨_,(aa J.out (aa (C.out.fin (aM Q.out)) aF)),.inl ⟨I.out.e0,rfl,I.out⟩⟩
theorem Jg (n:Nat) (hfactor:PC .factor 258 n) (hfactorA:∀k,k<n->PC .factor 258 k):bJ 259 oa 65 n:=by
 intro X r d W h hr hm;have H0:Hid (SD X r d W):=h;have HM:Hid (ms (aG X.l) d<=n):=hm;have ad:=mkfn;clear h hm
 go_enter Tryz.func259,Tryz.ntmps259
 go_wp2_with fail
 refine (hfactor X _ _ _ H0.out).mono ?_;rintro e w1 ⟨u1,v1,rfl,p1,Z⟩;have P1:=ai p1;have H1:=show Hid _ from H0.out.below Z
 clear p1 Z
 go_wp2_with fail
 refine (dY H1.out (by omega) (by have m0:=HM.out;omega) P1.out).mono ?_;rintro e w2 ⟨d2,i2,o2⟩;have J:=ai i2
 rcases o2 with ⟨z2,rfl,S⟩|⟨z2,rfl,S⟩
 rotate_left
 ·have M:=ai S;have F:=ai z2;clear S i2 z2
  go_wp2_with fail
  exact ⟨rfl,_,(aa J.out (ah F.out _)),.inr ⟨F.out,rfl,M.out⟩⟩
 have H2:=ai S;clear S i2 z2
 go_wp2_with fail
 go_loopw [] (fun wr=>∃dk,Hid (SD X 0 dk wr)/\Hid (Lp (aG X.l) (.row [.wd 6 [⟨#[42]⟩,⟨#[47]⟩,⟨#[37]⟩],.mt .factor]) d2 dk)) (fun wr=>mW X wr)
 case atStart=>exact ⟨_,H2.out,.refl⟩
 case round=>
  obtain ⟨e3,G,C⟩:=hrel
  go_wp2_with fail
  refine (bN G.out (by omega) [⟨#[42]⟩,⟨#[47]⟩,⟨#[37]⟩] (by simp) (by kernel_rfl) rfl rfl).mono ?_;rintro e w4 (⟨Y,rfl,H⟩|⟨Y,d4,i4,o4⟩)
  rotate_left
  ·have Q:=ai Y;clear Y;have O:=ai i4
   rcases o4 with ⟨z4,rfl,H⟩|⟨z4,rfl,H⟩
   rotate_left
   ·have M:=ai H;have F:=ai z4;clear H i4 z4
    go_wp2_with fail
    exact ⟨rfl,_,(aa J.out (aa (C.out.go _ (bq (aA Q.out) (aO (aa O.out (ah F.out _))) (aT F.out))) (ah F.out _))),.inr ⟨F.out,rfl,M.out⟩⟩
   have I:=ai H;clear H i4 z4
   go_wp2_with fail
   refine ((hfactorA (ms (aG X.l) d4) (by have m0:=HM.out;have m2:=bK J.out;have ac:=C.out.le;have m4:=az aC O.out G.out.e0 I.out.e0;omega)) X _ _ _ I.out).mono ?_;rintro e w5 ⟨u5,v5,rfl,p5,ab⟩;have P5:=ai p5;have H5:=show Hid _ from I.out.below ab
   clear p5 ab
   go_wp2_with fail
   refine (dY H5.out (by omega) (gt _) P5.out).mono ?_;rintro e w6 ⟨d6,i6,o6⟩;have I6:=ai i6
   rcases o6 with ⟨z6,rfl,U⟩|⟨z6,rfl,U⟩
   rotate_left
   ·have M:=ai U;have F:=ai z6;clear U i6 z6
    go_wp2_with fail
    exact ⟨rfl,_,(aa J.out (aa (C.out.go _ (bq (aA Q.out) (aO (aa O.out (aa I6.out (ah F.out _)))) (aT F.out))) (ah F.out _))),.inr ⟨F.out,rfl,M.out⟩⟩
   have H6:=ai U;clear U i6 z6
   go_wp2_with fail
   exact ⟨⟨_,H6.out,C.out.step (aA Q.out) (aO (aa O.out (aa I6.out aF)))⟩,iM G.out H6.out (by have m0:=HM.out;have m2:=bK J.out;have ac:=C.out.le;have m4:=az aC O.out G.out.e0 I.out.e0;have m6:=bK I6.out;omega)⟩
  have Q:=ai Y;have I:=ai H;clear Y H
  go_wp2_with fail
  go_end0
  exact ⟨_,(aa J.out (aa (C.out.fin (aM Q.out)) aF)),.inl ⟨I.out.e0,rfl,I.out⟩⟩
theorem FW (n:Nat) (hfactorA:∀k,k<n->PC .factor 258 k):bJ 264 kU 90 n:=by
 intro X r d W h hr hm;have Y:Hid (SD X r d W):=h;have HM:Hid (ms (aG X.l) d<=n):=hm;have ab:=mkfn;clear h hm
 go_enter Tryz.func264,Tryz.ntmps264
 go_wp2_with fail
 refine (bu Y.out (by omega) (by kernel_rfl)).mono ?_;rintro e w1 ⟨d1,S,o1⟩;have I:=ai S
 rcases o1 with ⟨J,rfl,F⟩|⟨J,rfl,F⟩
 rotate_left
 ·have Q:=ai F;have C:=ai J;clear F S J
  go_wp2_with fail
  exact ⟨rfl,_,(aa I.out (ah C.out _)),.inr ⟨C.out,rfl,Q.out⟩⟩
 have O:=ai F;clear F S J
 go_wp2_with fail
 refine ((hfactorA (ms (aG X.l) d1) (by have m0:=HM.out;have m1:=az aC I.out Y.out.e0 O.out.e0;omega)) X _ _ _ O.out).mono ?_;rintro e w2 ⟨u2,v2,rfl,p2,H⟩;have P2:=ai p2;have H2:=show Hid _ from O.out.below H
 clear p2 H
 go_wp2_with fail
 refine (dY H2.out (by omega) (gt _) P2.out).mono ?_;rintro e w3 ⟨d3,U,o3⟩;have I3:=ai U
 rcases o3 with ⟨M,rfl,G⟩|⟨M,rfl,G⟩
 rotate_left
 ·have Q:=ai G;have C:=ai M;clear G U M
  go_wp2_with fail
  exact ⟨rfl,_,(aa I.out (aa I3.out (ah C.out _))),.inr ⟨C.out,rfl,Q.out⟩⟩
 have Z:=ai G;clear G U M
 go_wp2_with fail
 go_end0
 exact ⟨_,(aa I.out (aa I3.out aF)),.inl ⟨Z.out.e0,rfl,Z.out⟩⟩
theorem N1 (n:Nat) (hfactorA:∀k,k<n->PC .factor 258 k):bJ 263 tS 90 n:=by
 intro X r d W h hr hm;have Y:Hid (SD X r d W):=h;have HM:Hid (ms (aG X.l) d<=n):=hm;have ab:=mkfn;clear h hm
 go_enter Tryz.func263,Tryz.ntmps263
 go_wp2_with fail
 refine (bW Y.out (by omega) (by kernel_rfl)).mono ?_;rintro e w1 ⟨d1,S,o1⟩;have I:=ai S
 rcases o1 with ⟨J,rfl,F⟩|⟨J,rfl,F⟩
 rotate_left
 ·have Q:=ai F;have C:=ai J;clear F S J
  go_wp2_with fail
  exact ⟨rfl,_,(aa I.out (ah C.out _)),.inr ⟨C.out,rfl,Q.out⟩⟩
 have O:=ai F;clear F S J
 go_wp2_with fail
 refine ((hfactorA (ms (aG X.l) d1) (by have m0:=HM.out;have m1:=az aC I.out Y.out.e0 O.out.e0;omega)) X _ _ _ O.out).mono ?_;rintro e w2 ⟨u2,v2,rfl,p2,H⟩;have P2:=ai p2;have H2:=show Hid _ from O.out.below H
 clear p2 H
 go_wp2_with fail
 refine (dY H2.out (by omega) (gt _) P2.out).mono ?_;rintro e w3 ⟨d3,U,o3⟩;have I3:=ai U
 rcases o3 with ⟨M,rfl,G⟩|⟨M,rfl,G⟩
 rotate_left
 ·have Q:=ai G;have C:=ai M;clear G U M
  go_wp2_with fail
  exact ⟨rfl,_,(aa I.out (aa I3.out (ah C.out _))),.inr ⟨C.out,rfl,Q.out⟩⟩
 have Z:=ai G;clear G U M
 go_wp2_with fail
 go_end0
 exact ⟨_,(aa I.out (aa I3.out aF)),.inl ⟨Z.out.e0,rfl,Z.out⟩⟩
theorem Gi (n:Nat) (hexprA:∀k,k<n->bJ 236 dK 50 k):bJ 265 kW 90 n:=by
 intro X r d W h hr hm;have H0:Hid (SD X r d W):=h;have HM:Hid (ms (aG X.l) d<=n):=hm;have ab:=mkfn;clear h hm
 go_enter Tryz.func265,Tryz.ntmps265
 go_wp2_with fail
 refine (bu H0.out (by omega) (by kernel_rfl)).mono ?_;rintro e w1 ⟨d1,U,o1⟩;have G:=ai U
 rcases o1 with ⟨M,rfl,H⟩|⟨M,rfl,H⟩
 rotate_left
 ·have F:=ai H;have C:=ai M;clear H U M
  go_wp2_with fail
  exact ⟨rfl,_,(aa G.out (ah C.out _)),.inr ⟨C.out,rfl,F.out⟩⟩
 have H1:=ai H;clear H U M
 go_wp2_with fail
 refine (aQ H1.out (by omega) (by omega) (gt _) (hexprA (ms (aG X.l) d1) (by have m0:=HM.out;have m1:=az aC G.out H0.out.e0 H1.out.e0;omega)) dN rfl (fun d' hh=>aU (m:=.expr) rfl hh)).mono ?_;rintro e w2 ⟨d2,Y,o2⟩;have S:=ai Y
 rcases o2 with ⟨O,rfl,I⟩|⟨O,rfl,I⟩
 rotate_left
 ·have F:=ai I;have C:=ai O;clear I Y O
  go_wp2_with fail
  exact ⟨rfl,_,(aa G.out (aa S.out (ah C.out _))),.inr ⟨C.out,rfl,F.out⟩⟩
 have H2:=ai I;clear I Y O
 go_wp2_with fail
 refine (bu H2.out (by omega) (by kernel_rfl)).mono ?_;rintro e w3 ⟨d3,Z,o3⟩;have I3:=ai Z
 rcases o3 with ⟨Q,rfl,J⟩|⟨Q,rfl,J⟩
 rotate_left
 ·have F:=ai J;have C:=ai Q;clear J Z Q
  go_wp2_with fail
  exact ⟨rfl,_,(aa G.out (aa S.out (aa I3.out (ah C.out _)))),.inr ⟨C.out,rfl,F.out⟩⟩
 have H3:=ai J;clear J Z Q
 go_wp2_with fail
 go_end0
 exact ⟨_,(aa G.out (aa S.out (aa I3.out aF))),.inl ⟨H3.out.e0,rfl,H3.out⟩⟩
theorem CA (n:Nat) (hdetailA:∀k,k<n->PD .detail 257 k):bJ 252 ib 95 n:=by
 intro X r d W h hr hm;have H0:Hid (SD X r d W):=h;have HM:Hid (ms (aG X.l) d<=n):=hm;have al:=mkfn;clear h hm
 go_enter Tryz.func252,Tryz.ntmps252
 go_wp2_with fail
 refine (fU H0.out (by omega)).mono ?_;rintro e w1 ⟨d1,i1,o1⟩;have Q:=ai i1
 rcases o1 with ⟨z1,rfl,J⟩|⟨z1,rfl,J⟩
 rotate_left
 ·have HP:=ai J;have O:=ai z1;clear J i1 z1
  go_wp2_with fail
  exact ⟨rfl,_,(aa Q.out (ah O.out _)),.inr ⟨O.out,rfl,HP.out⟩⟩
 have S:=ai J;clear J i1 z1;have Y:Hid (PD .detail 257 (ms (aG X.l) d1)):=hdetailA (ms (aG X.l) d1) (by have m0:=HM.out;have m1:=az df Q.out H0.out.e0 S.out.e0;omega)
 go_wp2_with fail
 refine (Y.out X _ _ _ S.out).mono ?_;rintro e w2 ⟨u2,v2,rfl,p2,Z⟩;have P2:=ai p2;have H2:=show Hid _ from S.out.below Z
 clear p2 Z
 go_wp2_with fail
 go_loopw [2,3] (fun u v wr=>∃dk,Hid (SD X 0 dk wr)/\Hid (Lp (aG X.l) (.fn .detail) d1 dk)/\Hid (IC X .detail (ms (aG X.l) d1) dk u v)) (fun _ _ wr=>mW X wr)
 case atStart=>exact ⟨_,H2.out,.refl,P2.out⟩
 case round=>
  obtain ⟨e2,C,F,M⟩:=hrel;clear P2
  rcases M.out with ⟨nd,ff,Nl,af,rfl,rfl,I,ac,ae,H,ad⟩|⟨rfl,rfl,H⟩
  ·have aj:=tZ ff X.g;have G:=ai H;have HN:Hid (Ta 115 #[pg X.g,.int .u8 nd,fv ff X.g] wr fun e w'=>∃d',Ib (aG X.l) af e2 d'/\lA X (.tuple #[]) d' e w'):=aQ C.out (by omega) (by omega) (by have m0:=HM.out;have m1:=az df Q.out H0.out.e0 S.out.e0;have ak:=F.out.le;omega) ae I ac ad;have ag:Hid (∀d',Ib (aG X.l) af e2 d'->d'.e=0->ms (aG X.l) d' < ms (aG X.l) e2):=fun d' J h2=>At G.out J C.out.e0 h2
   clear ae ad I H ac M
   go_wp2_with fail
   refine HN.out.mono ?_;rintro e w3 ⟨d3,i3,o3⟩;have I3:=ai i3
   rcases o3 with ⟨z3,rfl,U⟩|⟨z3,rfl,U⟩
   rotate_left
   ·have HP:=ai U;have O:=ai z3;clear U i3 z3
    go_wp2_with fail
    exact ⟨rfl,_,(aa Q.out (aa (F.out.go _ (bq G.out I3.out (aT O.out))) (ah O.out _))),.inr ⟨O.out,rfl,HP.out⟩⟩
   have H3:=ai U;clear U i3 z3
   go_wp2_with fail
   refine (Y.out X _ _ _ H3.out).mono ?_;rintro e w4 ⟨u4,v4,rfl,p4,ab⟩;have P4:=ai p4;have H4:=show Hid _ from H3.out.below ab
   clear p4 ab
   go_wp2_with fail
   exact ⟨⟨_,H4.out,F.out.step G.out I3.out,P4.out⟩,iM C.out H4.out (by have m0:=HM.out;have m1:=az df Q.out H0.out.e0 S.out.e0;have ak:=F.out.le;have m3:=bK I3.out;have mx:=ag.out _ I3.out H3.out.e0;omega)⟩
  ·have aj:=qa;have G:=ai H;clear H M
   go_wp2_with fail
   go_end0
   exact ⟨_,(aa Q.out (aa (F.out.fin G.out) aF)),.inl ⟨C.out.e0,rfl,C.out⟩⟩
theorem KH (n:Nat) (hexpr:bJ 236 dK 50 n) (hexprA:∀k,k<n->bJ 236 dK 50 k):bJ 266 od 45 n:=by
 intro X r d W h hr hm;have H0:Hid (SD X r d W):=h;have HM:Hid (ms (aG X.l) d<=n):=hm;have ac:=mkfn;clear h hm
 go_enter Tryz.func266,Tryz.ntmps266
 go_wp2_with fail
 refine (aQ H0.out (by omega) (by omega) (by have m0:=HM.out;omega) hexpr dN rfl (fun d' hh=>aU (m:=.expr) rfl hh)).mono ?_;rintro e w1 ⟨d1,i1,o1⟩;have J:=ai i1
 rcases o1 with ⟨Z,rfl,S⟩|⟨Z,rfl,S⟩
 rotate_left
 ·have M:=ai S;have F:=ai Z;clear S i1 Z
  go_wp2_with fail
  exact ⟨rfl,_,(aa J.out (ah F.out _)),.inr ⟨F.out,rfl,M.out⟩⟩
 have H1:=ai S;clear S i1 Z
 go_wp2_with fail
 go_loopw [] (fun wr=>∃dk,Hid (SD X 0 dk wr)/\Hid (Lp (aG X.l) (.row [.wd 6 [⟨#[44]⟩],.mt .expr]) d1 dk)) (fun wr=>mW X wr)
 case atStart=>exact ⟨_,H1.out,.refl⟩
 case round=>
  obtain ⟨e2,G,C⟩:=hrel
  go_wp2_with fail
  refine (bN G.out (by omega) [⟨#[44]⟩] (by simp) (by kernel_rfl) rfl rfl).mono ?_;rintro e w3 (⟨Y,rfl,H⟩|⟨Y,d3,i3,o3⟩)
  rotate_left
  ·have Q:=ai Y;clear Y;have O:=ai i3
   rcases o3 with ⟨z3,rfl,H⟩|⟨z3,rfl,H⟩
   rotate_left
   ·have M:=ai H;have F:=ai z3;clear H i3 z3
    go_wp2_with fail
    exact ⟨rfl,_,(aa J.out (aa (C.out.go _ (bq (aA Q.out) (aO (aa O.out (ah F.out _))) (aT F.out))) (ah F.out _))),.inr ⟨F.out,rfl,M.out⟩⟩
   have I:=ai H;clear H i3 z3
   go_wp2_with fail
   refine (aQ I.out (by omega) (by omega) (gt _) (hexprA (ms (aG X.l) d3) (by have m0:=HM.out;have m1:=bK J.out;have ab:=C.out.le;have m3:=az aC O.out G.out.e0 I.out.e0;omega)) dN rfl (fun d' hh=>aU (m:=.expr) rfl hh)).mono ?_;rintro e w4 ⟨d4,i4,o4⟩;have I4:=ai i4
   rcases o4 with ⟨z4,rfl,U⟩|⟨z4,rfl,U⟩
   rotate_left
   ·have M:=ai U;have F:=ai z4;clear U i4 z4
    go_wp2_with fail
    exact ⟨rfl,_,(aa J.out (aa (C.out.go _ (bq (aA Q.out) (aO (aa O.out (aa I4.out (ah F.out _)))) (aT F.out))) (ah F.out _))),.inr ⟨F.out,rfl,M.out⟩⟩
   have H4:=ai U;clear U i4 z4
   go_wp2_with fail
   exact ⟨⟨_,H4.out,C.out.step (aA Q.out) (aO (aa O.out (aa I4.out aF)))⟩,iM G.out H4.out (by have m0:=HM.out;have m1:=bK J.out;have ab:=C.out.le;have m3:=az aC O.out G.out.e0 I.out.e0;have m4:=bK I4.out;omega)⟩
  have Q:=ai Y;have I:=ai H;clear Y H
  go_wp2_with fail
  go_end0
  exact ⟨_,(aa J.out (aa (C.out.fin (aM Q.out)) aF)),.inl ⟨I.out.e0,rfl,I.out⟩⟩
theorem Gd (n:Nat) (hlistA:∀k,k<n->bJ 266 od 45 k):bJ 260 kV 90 n:=by
 intro X r d W h hr hm;have H0:Hid (SD X r d W):=h;have HM:Hid (ms (aG X.l) d<=n):=hm;have ab:=mkfn;clear h hm
 go_enter Tryz.func260,Tryz.ntmps260
 go_wp2_with fail
 refine (bu H0.out (by omega) (by kernel_rfl)).mono ?_;rintro e w1 ⟨d1,Y,o1⟩;have G:=ai Y
 rcases o1 with ⟨O,rfl,H⟩|⟨O,rfl,H⟩
 rotate_left
 ·have F:=ai H;have C:=ai O;clear H Y O
  go_wp2_with fail
  exact ⟨rfl,_,(aa G.out (ah C.out _)),.inr ⟨C.out,rfl,F.out⟩⟩
 have H1:=ai H;clear H Y O
 go_wp2_with fail
 refine ((hlistA (ms (aG X.l) d1) (by have m0:=HM.out;have m1:=az aC G.out H0.out.e0 H1.out.e0;omega)) X _ _ _ H1.out (by omega) (gt _)).mono ?_;rintro e w2 ⟨d2,M,o2⟩;replace M:=show Ib (aG X.l) (.fl (.mt .list)) d1 d2 from rK rfl M
 have U:=ai M
 rcases o2 with ⟨Q,rfl,I⟩|⟨Q,rfl,I⟩
 rotate_left
 ·have F:=ai I;have C:=ai Q;clear I M Q
  go_wp2_with fail
  exact ⟨rfl,_,(aa G.out (aa U.out (ah C.out _))),.inr ⟨C.out,rfl,F.out⟩⟩
 have H2:=ai I;clear I M Q
 go_wp2_with fail
 refine (bu H2.out (by omega) (by kernel_rfl)).mono ?_;rintro e w3 ⟨d3,Z,o3⟩;have I3:=ai Z
 rcases o3 with ⟨S,rfl,J⟩|⟨S,rfl,J⟩
 rotate_left
 ·have F:=ai J;have C:=ai S;clear J Z S
  go_wp2_with fail
  exact ⟨rfl,_,(aa G.out (aa U.out (aa I3.out (ah C.out _)))),.inr ⟨C.out,rfl,F.out⟩⟩
 have H3:=ai J;clear J Z S
 go_wp2_with fail
 go_end0
 exact ⟨_,(aa G.out (aa U.out (aa I3.out aF))),.inl ⟨H3.out.e0,rfl,H3.out⟩⟩
theorem sK (n:Nat):bJ 261 fW 90 n:=by
 intro X r d W h hr Y;have Z:Hid (SD X r d W):=h;have HM:Hid (ms (aG X.l) d<=n):=Y;have ab:=mkfn;clear h Y
 go_enter Tryz.func261,Tryz.ntmps261
 go_wp2_with fail
 refine (bu Z.out (by omega) (by kernel_rfl)).mono ?_;rintro e w1 ⟨d1,O,o1⟩;have M:=ai O
 rcases o1 with ⟨H,rfl,F⟩|⟨H,rfl,F⟩
 rotate_left
 ·have J:=ai F;have C:=ai H;clear F O H
  go_wp2_with fail
  exact ⟨rfl,_,(aa M.out (ah C.out _)),.inr ⟨C.out,rfl,J.out⟩⟩
 have H1:=ai F;clear F O H
 go_wp2_with fail
 refine (fU H1.out (by omega)).mono ?_;rintro e w2 ⟨d2,Q,o2⟩;have U:=ai Q
 rcases o2 with ⟨I,rfl,G⟩|⟨I,rfl,G⟩
 rotate_left
 ·have J:=ai G;have C:=ai I;clear G Q I
  go_wp2_with fail
  exact ⟨rfl,_,(aa M.out (aa U.out (ah C.out _))),.inr ⟨C.out,rfl,J.out⟩⟩
 have S:=ai G;clear G Q I
 go_wp2_with fail
 go_end0
 exact ⟨_,(aa M.out (aa U.out aF)),.inl ⟨S.out.e0,rfl,S.out⟩⟩
theorem L3 (n:Nat) (hlistA:∀k,k<n->bJ 266 od 45 k):bJ 262 og 90 n:=by
 intro X r d W h hr hm;have H0:Hid (SD X r d W):=h;have HM:Hid (ms (aG X.l) d<=n):=hm;have ae:=mkfn;clear h hm
 go_enter Tryz.func262,Tryz.ntmps262
 go_wp2_with fail
 refine (bu H0.out (by omega) (by kernel_rfl)).mono ?_;rintro e w1 ⟨d1,i1,o1⟩;have J:=ai i1
 rcases o1 with ⟨z1,rfl,M⟩|⟨z1,rfl,M⟩
 rotate_left
 ·have I:=ai M;have C:=ai z1;clear M i1 z1
  go_wp2_with fail
  exact ⟨rfl,_,(aa J.out (ah C.out _)),.inr ⟨C.out,rfl,I.out⟩⟩
 have H1:=ai M;clear M i1 z1
 go_wp2_with fail
 refine (pP H1.out).mono ?_;rintro e w2 ⟨b2,rfl,H,ab⟩;have H2:=show Hid _ from H1.out.below ab
 have O:=show Hid _ from H .list
 clear ab H;cases b2 with
 |true=>
  go_wp2_with fail
  refine ((hlistA (ms (aG X.l) d1) (by have m0:=HM.out;have m1:=az aC J.out H0.out.e0 H1.out.e0;omega) X _ _ _ H2.out (by omega) (gt _)).mono (fun e w' ⟨d',M,h2⟩=>(⟨d',bm O.out (rK rfl M),h2⟩:∃d',Ib (aG X.l) (.once (.ex .list)) _ d'/\lA X (.tuple #[]) d' e w'))).mono ?_;rintro e w3 ⟨d3,i3,o3⟩;have I3:=ai i3
  rcases o3 with ⟨z3,rfl,S⟩|⟨z3,rfl,S⟩
  rotate_left
  ·have I:=ai S;have C:=ai z3;clear S i3 z3
   go_wp2_with fail
   exact ⟨rfl,_,(aa J.out (aa I3.out (ah C.out _))),.inr ⟨C.out,rfl,I.out⟩⟩
  have H3:=ai S;clear S i3 z3
  go_wp2_with fail
  refine (bu H3.out (by omega) (by kernel_rfl)).mono ?_;rintro e w4 ⟨d4,i4,o4⟩;have I4:=ai i4
  rcases o4 with ⟨z4,rfl,U⟩|⟨z4,rfl,U⟩
  rotate_left
  ·have I:=ai U;have C:=ai z4;clear U i4 z4
   go_wp2_with fail
   exact ⟨rfl,_,(aa J.out (aa I3.out (aa I4.out (ah C.out _)))),.inr ⟨C.out,rfl,I.out⟩⟩
  have H4:=ai U;clear U i4 z4
  go_wp2_with fail
  go_end0
  exact ⟨_,(aa J.out (aa I3.out (aa I4.out aF))),.inl ⟨H4.out.e0,rfl,H4.out⟩⟩
 |false=>
  go_wp2_with fail
  refine (bu H2.out (by omega) (by kernel_rfl)).mono ?_;rintro e af ⟨ad,Q,ac⟩;have Z:=ai Q
  rcases ac with ⟨G,rfl,F⟩|⟨G,rfl,F⟩
  rotate_left
  ·have I:=ai F;have C:=ai G;clear F Q G
   go_wp2_with fail
   exact ⟨rfl,_,(aa J.out (aa (bi O.out) (aa Z.out (ah C.out _)))),.inr ⟨C.out,rfl,I.out⟩⟩
  have Y:=ai F;clear F Q G
  go_wp2_with fail
  go_end0
  exact ⟨_,(aa J.out (aa (bi O.out) (aa Z.out aF))),.inl ⟨Y.out.e0,rfl,Y.out⟩⟩
theorem bJ.at {f:Nat}{row:List It}{b n:Nat}(h:bJ f row b n) (C:90<=b) (X:Sx) (d:D):SQ X f row n d:=fun r W H G F=>h X r d W H (SY G C) F
theorem Fa {L:List Tv}{n:Int}{f:Tv->Bool}:qn L (eI n d) f=qn L d f:=by unfold qn cZ eI;by_cases h:d.e=0 <;> simp [h]
theorem Oy (h:cL t=32):Fl.takes t .cs=true:=by
 unfold cL at h;simp only [Fl.takes]
 repeat' (split at h)
 all_goals first|assumption|(cases h;done)
theorem rP (n:Nat) (G:bJ 264 kU 90 n) (H:bJ 263 tS 90 n) (F:bJ 265 kW 90 n) (hobject:bJ 252 ib 95 n):PC .factor 258 n:=by
 intro X r d W h;refine (qi h).mono ?_;rintro e w' ⟨rfl,Q⟩;refine ⟨_,_,rfl,?_,Q⟩;have I:qn (aG X.l) d (fun t=>Fl.takes t .cs)=Fl.takes (nx X (ps X.l d.i)) .cs:=h.hqn (by simp [Fl.takes,aB]);have hd:cR (cZ (aG X.l) d) .factor=M.row (nx X (ps X.l d.i)) .factor:=by rw [h.hnx];exact wY _
 generalize nx X (ps X.l d.i)=t at *
 have S:cL t=25\/cL t=26\/cL t=27\/cL t=32\/cL t=28\/cL t=0:=by unfold cL;(repeat' split) <;> simp
 rcases S with e|e|e|e|e|e
 ·exact .inl ⟨25,_,kU,by rw [e],by simp only [mn,e];rfl,GD,rfl,G.at (by omega) X _,fun d' C=>aU (m:=.factor) (by rw [hd];simp only [M.row,e];rfl) C⟩
 ·exact .inl ⟨26,_,tS,by rw [e],by simp only [mn,e];rfl,OB,rfl,H.at (by omega) X _,fun d' C=>aU (m:=.factor) (by rw [hd];simp only [M.row,e];rfl) C⟩
 ·exact .inl ⟨27,_,kW,by rw [e],by simp only [mn,e];rfl,GF,rfl,F.at (by omega) X _,fun d' C=>aU (m:=.factor) (by rw [hd];simp only [M.row,e];rfl) C⟩
 ·refine .inl ⟨32,_,[.fl .cs],by rw [e],by simp only [mn,e];rfl,Li,rfl,fun U W1 O J _=>JI (n:=n) O J ?_,fun d' C=>aU (m:=.factor) (by rw [hd];simp only [M.row,e];rfl) C⟩;rw [Fa,I];exact Oy e
 ·exact .inl ⟨28,_,ib,by rw [e],by simp only [mn,e];rfl,rS,rfl,hobject.at (by omega) X _,fun d' C=>rK (m:=.factor) (r:=[.fl (.mt .object)]) (by rw [hd];simp only [M.row,e];rfl) (bV (aU (m:=.object) rfl C))⟩
 ·exact .inr ⟨by rw [e],by simp only [mn,e];rfl,_,tM (m:=.factor) (by rw [hd];simp only [M.row,e];rfl),rfl,by unfold fj;simp only [Tu,Ui];(repeat' split) <;> rfl⟩
theorem ke {l:List UInt8}{s:ByteArray}(h:t.is l=true) (C:s.toList=l):t.t=s:=uC (by unfold Tv.is at h;simpa [C] using h)
theorem KM (n:Nat) (H:bJ 250 iY 90 n) (F:bJ 251 ia 90 n):PC .kind 238 n:=by
 intro X r d W h;refine (F4 h).mono ?_;rintro e w' ⟨rfl,hb⟩;refine ⟨_,_,rfl,?_,hb⟩;have U:=h.hnx;have Y:=h.e0
 generalize nx X (ps X.l d.i)=t at *
 have Z:∀s,(cZ (aG X.l) d).elim false (wk 2 s)=wk 2 s t:=fun s=>by rw [U];cases cZ (aG X.l) d <;> rfl
 have wa:wk 2 ⟨#[97,114,114,97,121]⟩ t=(t.k == 2 && t.is [97,114,114,97,121]):=by rw [qV,show (ByteArray.mk #[97,114,114,97,121]).toList=[97,114,114,97,121] by decide +kernel];rfl
 have wr:wk 2 ⟨#[114,101,99,111,114,100]⟩ t=(t.k == 2 && t.is [114,101,99,111,114,100]):=by rw [qV,show (ByteArray.mk #[114,101,99,111,114,100]).toList=[114,101,99,111,114,100] by decide +kernel];rfl
 have hd:cR (cZ (aG X.l) d) .kind=if (t.k == 2 && t.is [97,114,114,97,121])=true then .op 9 iY else if (t.k == 2 && t.is [114,101,99,111,114,100])=true then .op 10 ia else .op 8 [.fl .nm]:=by
  simp only [cR,Z,wa,wr]
 cases G:(t.k == 1) with
 |true=>
  have C:(t.k == 2)=false:=by
   have:t.k=1:=by simpa using G
   simp [this]
  refine .inl ⟨8,_,[.fl .nm],by simp only [jX,G];rfl,by simp only [jW,G];rfl,Ll,rfl,(JJ n).at (by omega) X _,fun d' M=>aU (m:=.kind) (by rw [hd,C];rfl) M⟩
 |false=>
  cases C:(t.k == 2 && t.is [97,114,114,97,121]) with
  |true=>exact .inl ⟨9,_,iY,by simp only [jX,G,C];rfl,by simp only [jW,G,C];rfl,GH,rfl,H.at (by omega) X _,fun d' M=>aU (m:=.kind) (by rw [hd,C];rfl) M⟩
  |false=>
   cases J:(t.k == 2 && t.is [114,101,99,111,114,100]) with
   |true=>exact .inl ⟨10,_,ia,by simp only [jX,G,C,J];rfl,by simp only [jW,G,C,J];rfl,Dm,rfl,F.at (by omega) X _,fun d' M=>aU (m:=.kind) (by rw [hd,C,J];rfl) M⟩
   |false=>
    have hq:qn (aG X.l) d (fun t=>Fl.takes t .nm)=false:=by
     rw [h.hqn (by simp [Fl.takes,aB]),h.hnx,<-U];exact G
    have Q:qn (aG X.l) (eI 8 d) (fun t=>Fl.takes t .nm)=false:=by rw [Fa];exact hq
    have O:(eI 8 d).e=d.e/\(eI 8 d).i=d.i:=by unfold eI;rw [IO Y];exact ⟨rfl,rfl⟩
    have I:(fj (aG X.l) false (eI 8 d)).e=(fj (aG X.l) false d).e/\(fj (aG X.l) false (eI 8 d)).e≠0/\(fj (aG X.l) false (eI 8 d)).i=d.i:=by
     unfold fj;simp only [Tu,Ui,O.1,O.2,IO Y]
     split
     ·exact ⟨rfl,by show (120:Int)≠0;decide,by first|rfl|exact O.2⟩
     ·exact ⟨rfl,by show (121:Int)≠0;decide,by first|rfl|exact O.2⟩
    have S:=iW (L:=aG X.l) (d:=eI 8 d) df;rw [Q] at S;exact .inr ⟨by simp only [jX,G,C,J];rfl,by simp only [jW,G,C,J];rfl,_,aU (m:=.kind) (by rw [hd,C,J];rfl) (aa S (bV (ow I.2.1))),I.1,I.2.2⟩
theorem kx (n:Nat) (ag:bJ 239 pR 90 n) (ae:bJ 240 oc 90 n) (U:bJ 241 gH 90 n) (ad:bJ 242 kT 90 n) (ac:bJ 243 kX 90 n) (ab:bJ 244 jB 90 n) (aa:bJ 245 jC 90 n) (Y:bJ 246 gG 90 n):PC .statement 225 n:=by
 intro X r d W h;refine (qG h).mono ?_;rintro e w' ⟨rfl,hb⟩;refine ⟨_,_,rfl,?_,hb⟩;have hn:=h.hnx;have hz:=h.e0
 generalize nx X (ps X.l d.i)=t at *
 have hd:cR (cZ (aG X.l) d) .statement=if t.k == 1 then .op 14 pR else if t.k == 2 then co t.t else .ref:=by
  rw [hn];cases cZ (aG X.l) d <;> rfl
 have af:(fj (aG X.l) false d).i=d.i:=by unfold fj;simp only [Tu,Ui];(repeat' split) <;> rfl
 cases H:(t.k == 1) with
 |true=>exact .inl ⟨14,_,pR,by simp only [dR,H];rfl,by simp only [dQ,H];rfl,OC,rfl,ag.at (by omega) X _,fun d' Q=>aU (m:=.statement) (by rw [hd,H];rfl) Q⟩
 |false=>
  cases I:(t.k == 2) with
  |false=>exact .inr ⟨by simp only [dR,H,I];rfl,by simp only [dQ,H,I];rfl,_,tM (m:=.statement) (by rw [hd,H,I];rfl),rfl,af⟩
  |true=>
   cases C:t.is [115,107,105,112] with
   |true=>
    have Z:t.t=⟨#[115,107,105,112]⟩:=ke C (by decide +kernel);exact .inl ⟨13,_,oc,by simp only [dR,H,I,C];rfl,by simp only [dQ,H,I,C];rfl,Lj,rfl,ae.at (by omega) X _,fun d' Q=>aU (m:=.statement) (by rw [hd,H,I,Z];kernel_rfl) Q⟩
   |false=>
    cases F:t.is [105,102] with
    |true=>
     have Z:t.t=⟨#[105,102]⟩:=ke F (by decide +kernel);exact .inl ⟨15,_,gH,by simp only [dR,H,I,C,F];rfl,by simp only [dQ,H,I,C,F];rfl,wW,rfl,U.at (by omega) X _,fun d' Q=>aU (m:=.statement) (by rw [hd,H,I,Z];kernel_rfl) Q⟩
    |false=>
     cases G:t.is [119,104,105,108,101] with
     |true=>
      have Z:t.t=⟨#[119,104,105,108,101]⟩:=ke G (by decide +kernel);exact .inl ⟨16,_,kT,by simp only [dR,H,I,C,F,G];rfl,by simp only [dQ,H,I,C,F,G];rfl,GA,rfl,ad.at (by omega) X _,fun d' Q=>aU (m:=.statement) (by rw [hd,H,I,Z];kernel_rfl) Q⟩
     |false=>
      cases J:t.is [102,111,114] with
      |true=>
       have Z:t.t=⟨#[102,111,114]⟩:=ke J (by decide +kernel);exact .inl ⟨17,_,kX,by simp only [dR,H,I,C,F,G,J];rfl,by simp only [dQ,H,I,C,F,G,J];rfl,GG,rfl,ac.at (by omega) X _,fun d' Q=>aU (m:=.statement) (by rw [hd,H,I,Z];kernel_rfl) Q⟩
      |false=>
       cases M:t.is [114,101,112,101,97,116] with
       |true=>
        have Z:t.t=⟨#[114,101,112,101,97,116]⟩:=ke M (by decide +kernel);exact .inl ⟨18,_,jB,by simp only [dR,H,I,C,F,G,J,M];rfl,by simp only [dQ,H,I,C,F,G,J,M];rfl,Dl,rfl,ab.at (by omega) X _,fun d' Q=>aU (m:=.statement) (by rw [hd,H,I,Z];kernel_rfl) Q⟩
       |false=>
        cases O:t.is [114,101,116,117,114,110] with
        |true=>
         have Z:t.t=⟨#[114,101,116,117,114,110]⟩:=ke O (by decide +kernel);exact .inl ⟨19,_,jC,by simp only [dR,H,I,C,F,G,J,M,O];rfl,by simp only [dQ,H,I,C,F,G,J,M,O];rfl,Do,rfl,aa.at (by omega) X _,fun d' Q=>aU (m:=.statement) (by rw [hd,H,I,Z];kernel_rfl) Q⟩
        |false=>
         cases S:t.is [98,101,103,105,110] with
         |true=>
          have Z:t.t=⟨#[98,101,103,105,110]⟩:=ke S (by decide +kernel);exact .inl ⟨20,_,gG,by simp only [dR,H,I,C,F,G,J,M,O,S];rfl,by simp only [dQ,H,I,C,F,G,J,M,O,S];rfl,wV,rfl,Y.at (by omega) X _,fun d' Q=>aU (m:=.statement) (by rw [hd,H,I,Z];kernel_rfl) Q⟩
         |false=>
          have hw:co t.t=.ref:=by unfold Tv.is at C F G J M O S;simp only [co,C,F,G,J,M,O,S];rfl
          exact .inr ⟨by simp only [dR,H,I,C,F,G,J,M,O,S];rfl,by simp only [dQ,H,I,C,F,G,J,M,O,S];rfl,_,tM (m:=.statement) (by rw [hd,H,I,hw];rfl),rfl,af⟩
theorem qp (n:Nat) (F:bJ 221 fV 90 n) (H:bJ 222 gF 90 n) (C:bJ 223 fX 90 n):PD .declaration 194 n:=by
 intro X r d W h;refine (np h).mono ?_;rintro e w' ⟨rfl,S⟩;refine ⟨_,_,rfl,?_,S⟩;have Q:bw (cZ (aG X.l) d) (.fn .declaration)=if (nx X (ps X.l d.i)).k == 2 then ((Dk.declaration).pick (nx X (ps X.l d.i))).map (fun m=>.fl (.mt m)) else none:=by rw [h.hnx];exact jb _ _
 generalize nx X (ps X.l d.i)=t at *
 cases G:(t.k == 2) with
 |false=>exact .inr ⟨by simp only [jf,G];rfl,by simp only [je,G];rfl,by rw [Q,G];rfl⟩
 |true=>
  cases I:t.is [118,97,114] with
  |true=>exact .inl ⟨3,_,fV,.fl (.mt .variables),by simp only [jf,G,I];rfl,by simp only [je,G,I];rfl,ub,rfl,F,by rw [Q,G];simp only [Dk.pick,I];rfl,fun d' O=>aU (m:=.variables) rfl O⟩
  |false=>
   cases J:t.is [99,111,110,115,116] with
   |true=>exact .inl ⟨4,_,gF,.fl (.mt .constants),by simp only [jf,G,I,J];rfl,by simp only [je,G,I,J];rfl,wU,rfl,H,by rw [Q,G];simp only [Dk.pick,I,J];rfl,fun d' O=>aU (m:=.constants) rfl O⟩
   |false=>
    cases M:t.is [112,114,111,99] with
    |true=>exact .inl ⟨5,_,fX,.fl (.mt .procedure),by simp only [jf,G,I,J,M];rfl,by simp only [je,G,I,J,M];rfl,ue,rfl,C,by rw [Q,G];simp only [Dk.pick,I,J,M];rfl,fun d' O=>aU (m:=.procedure) rfl O⟩
    |false=>
     exact .inr ⟨by simp only [jf,G,I,J,M];rfl,by simp only [je,G,I,J,M];rfl,by rw [Q,G];simp only [Dk.pick,I,J,M];rfl⟩
theorem Ds (n:Nat) (J:bJ 260 kV 90 n) (G:bJ 261 fW 90 n) (M:bJ 262 og 90 n):PD .detail 257 n:=by
 intro X r d W h;refine (yX h).mono ?_;rintro e w' ⟨rfl,S⟩;refine ⟨_,_,rfl,?_,S⟩;have Q:bw (cZ (aG X.l) d) (.fn .detail)=if (nx X (ps X.l d.i)).k == 6 then ((Dk.detail).pick (nx X (ps X.l d.i))).map (fun m=>.fl (.mt m)) else none:=by rw [h.hnx];exact jb _ _
 generalize nx X (ps X.l d.i)=t at *
 cases H:(t.k == 6) with
 |false=>exact .inr ⟨by simp only [jd,H];rfl,by simp only [jc,H];rfl,by rw [Q,H];rfl⟩
 |true=>
  cases C:t.is [91] with
  |true=>exact .inl ⟨29,_,kV,.fl (.mt .index),by simp only [jd,H,C];rfl,by simp only [jc,H,C];rfl,GE,rfl,J,by rw [Q,H];simp only [Dk.pick,C];rfl,fun d' O=>aU (m:=.index) rfl O⟩
  |false=>
   cases F:t.is [46] with
   |true=>exact .inl ⟨30,_,fW,.fl (.mt .selection),by simp only [jd,H,C,F];rfl,by simp only [jc,H,C,F];rfl,uc,rfl,G,by rw [Q,H];simp only [Dk.pick,C,F];rfl,fun d' O=>aU (m:=.selection) rfl O⟩
   |false=>
    cases I:t.is [40] with
    |true=>exact .inl ⟨31,_,og,.fl (.mt .args),by simp only [jd,H,C,F,I];rfl,by simp only [jc,H,C,F,I];rfl,Lo,rfl,M,by rw [Q,H];simp only [Dk.pick,C,F,I];rfl,fun d' O=>aU (m:=.args) rfl O⟩
    |false=>
     exact .inr ⟨by simp only [jd,H,C,F,I];rfl,by simp only [jc,H,C,F,I];rfl,by rw [Q,H];simp only [Dk.pick,C,F,I];rfl⟩
structure SE (n:Nat):Prop where
 r_block:bJ 158 pQ 40 n
 r_variables:bJ 221 fV 90 n
 r_constant:bJ 222 gF 90 n
 r_procedure:bJ 223 fX 90 n
 r_params:bJ 237 me 90 n
 r_typed:bJ 235 g9 90 n
 r_array:bJ 250 iY 90 n
 r_record:bJ 251 ia 90 n
 r_body:bJ 195 gI 45 n
 r_skip:bJ 240 oc 90 n
 r_act:bJ 239 pR 90 n
 r_branch:bJ 253 mf 45 n
 r_done:bJ 254 oe 90 n
 r_branches:bJ 241 gH 90 n
 r_while:bJ 242 kT 90 n
 r_count:bJ 243 kX 90 n
 r_repeat:bJ 244 jB 90 n
 r_answer:bJ 245 jC 90 n
 r_compound:bJ 246 gG 90 n
 r_expr:bJ 236 dK 50 n
 r_rel:bJ 249 tR 55 n
 r_sum:bJ 256 tQ 60 n
 r_term:bJ 259 oa 65 n
 r_minus:bJ 264 kU 90 n
 r_not:bJ 263 tS 90 n
 r_group:bJ 265 kW 90 n
 r_object:bJ 252 ib 95 n
 r_list:bJ 266 od 45 n
 r_index:bJ 260 kV 90 n
 r_selection:bJ 261 fW 90 n
 r_args:bJ 262 og 90 n
theorem O6 (n:Nat):SE n:=by
 induction n using Nat.strongRecOn with
 |ind n ih=>
  have FA:∀k,k<n->PC .factor 258 k:=fun k C=>rP k (ih k C).r_minus (ih k C).r_not (ih k C).r_group (ih k C).r_object
  have KA:∀k,k<n->PC .kind 238 k:=fun k C=>KM k (ih k C).r_array (ih k C).r_record
  have SA:∀k,k<n->PC .statement 225 k:=fun k C=>kx k (ih k C).r_act (ih k C).r_skip (ih k C).r_branches (ih k C).r_while (ih k C).r_count (ih k C).r_repeat (ih k C).r_answer (ih k C).r_compound
  have DA:∀k,k<n->PD .detail 257 k:=fun k C=>Ds k (ih k C).r_index (ih k C).r_selection (ih k C).r_args
  have O:=CA n (hdetailA:=DA);have ab:=FW n (hfactorA:=FA);have an:=N1 n (hfactorA:=FA);have aa:=Gi n (hexprA:=(fun k C=>(ih k C).r_expr));have ac:=rP n ab an aa O;have ah:=Jg n (hfactor:=ac) (hfactorA:=FA);have aq:=Ng n (hterm:=ah) (htermA:=(fun k C=>(ih k C).r_term));have ap:=NB n (hsum:=aq) (hsumA:=(fun k C=>(ih k C).r_sum));have Y:=Lg n (hrel:=ap) (hrelA:=(fun k C=>(ih k C).r_rel));have av:=KH n (hexpr:=Y) (hexprA:=(fun k C=>(ih k C).r_expr));have ak:=Gd n (hlistA:=(fun k C=>(ih k C).r_list));have S:=sK n;have ar:=L3 n (hlistA:=(fun k C=>(ih k C).r_list));have al:=D7 n (hkindA:=KA);have ai:=Im n (hexprA:=(fun k C=>(ih k C).r_expr)) (hkindA:=KA);have af:=Cg n (htypedA:=(fun k C=>(ih k C).r_typed));have ae:=Cy n (htypedA:=(fun k C=>(ih k C).r_typed));have G:=sp n (htypedA:=(fun k C=>(ih k C).r_typed));have M:=xi n (hexprA:=(fun k C=>(ih k C).r_expr));have am:=O8 n (hobject:=O) (hexprA:=(fun k C=>(ih k C).r_expr));have ad:=DF n (hexpr:=Y) (hbodyA:=(fun k C=>(ih k C).r_body));have done:=Lu n (hbodyA:=(fun k C=>(ih k C).r_body));have I:=xx n (hbranchA:=(fun k C=>(ih k C).r_branch)) (hbodyA:=(fun k C=>(ih k C).r_body));have «while»:=D1 n (hexprA:=(fun k C=>(ih k C).r_expr)) (hdoneA:=(fun k C=>(ih k C).r_done));have Z:=G5 n (hexprA:=(fun k C=>(ih k C).r_expr)) (hdoneA:=(fun k C=>(ih k C).r_done));have «repeat»:=Cf n (hbodyA:=(fun k C=>(ih k C).r_body)) (hexprA:=(fun k C=>(ih k C).r_expr));have U:=DM n (hexprA:=(fun k C=>(ih k C).r_expr));have J:=xj n (hbodyA:=(fun k C=>(ih k C).r_body));have ag:=JA n;have Q:=kx n am ag I «while» Z «repeat» U J;have au:=LP n (hstatement:=Q) (hstatementA:=SA);have F:=sZ n (hparamsA:=(fun k C=>(ih k C).r_params)) (hkindA:=KA) (hblockA:=(fun k C=>(ih k C).r_block));have H:=qp n G M F;have aj:=Hu n (hdeclaration:=H) (hbodyA:=(fun k C=>(ih k C).r_body));exact ⟨aj,G,M,F,ae,al,ai,af,au,ag,am,ad,done,I,«while»,Z,«repeat»,U,J,Y,ap,aq,ah,ab,an,aa,O,av,ak,S,ar⟩
def Pr (X:Sx) (d:D) (e:Ending) (w:World):Prop:=(d.e=0/\d.i=(aG X.l).length/\e=.returned (.tuple #[])/\SD X 0 d w)\/((d.e=0->d.i<(aG X.l).length)/\e=.panicked (stop (if d.e=0 then 120 else d.e) (ps X.l d.i))/\Below X.w0.heap.size X.w0 w)
theorem pq {w:World}(C:d.e≠0) (F:Below X.w0.heap.size X.w0 w):Pr X d (.panicked (stop d.e (ps X.l d.i))) w:=.inr ⟨fun h=>absurd h C,by rw [Eq C],F⟩
def QO (X:Sx):Nat->List Ev:=fun j=>(qN X.l j).map ko
theorem EH (h:ej X (0+(bD (X.l.drop 0)).length) 1 ([⟨1,1,aB⟩]++(bD (X.l.drop 0)).map ko) W):SD X 1 (eI 1 (un (QO X))) W:=by
 rw [MG];rw [VW,Td] at h;refine ⟨?_,rfl,SW _,rfl,by simp,by simp,?_⟩
 ·show ej X (ps X.l 0) 1 (oq X _) W
  rw [nM];have:oq X ⟨0,[(1,1)],1,[],0,[⟨1,1,aB⟩],QO X⟩=[⟨1,1,aB⟩]++(bD X.l).map ko:=by simp [oq]
  rw [this];exact h
 ·simp [oq,nM];omega
theorem yx (h:ej X 0 1 [⟨1,1,aB⟩] W) :
  Ta 116 #[pg X.g] W fun e w'=>∃d,Rb (aG X.l) ci (eI 1 (un (QO X))) d/\Pr X d e w':=by
 have ad:=mkfn;have HC:Hid (Ta 154 #[pg X.g] W fun e w'=>e=.returned (.tuple #[])/\ej X (0+(bD (X.l.drop 0)).length) 1 ([⟨1,1,aB⟩]++(bD (X.l.drop 0)).map ko) w'):=lj h (SW _) (by have:=h.hl;simp;omega);have HS:Hid (∀w,ej X (0+(bD (X.l.drop 0)).length) 1 ([⟨1,1,aB⟩]++(bD (X.l.drop 0)).map ko) w->SD X 1 (eI 1 (un (QO X))) w):=fun w hw=>EH hw
 obtain ⟨d,hd⟩:∃d,eI 1 (un (QO X))=d:=⟨_,rfl⟩;rw [hd] at HS ⊢;clear h hd
 go_enter Tryz.func116,Tryz.ntmps116
 go_wp2_with fail
 refine HC.out.mono ?_;rintro e w0 ⟨rfl,h0⟩;have H0:=show Hid _ from HS.out _ h0
 clear h0 HC HS
 go_wp2_with fail
 refine (bW H0.out (by omega) (by kernel_rfl)).mono ?_;rintro e w1 ⟨d1,i1,o1⟩;have M:=ai i1
 rcases o1 with ⟨z1,rfl,I⟩|⟨z1,rfl,I⟩
 rotate_left
 ·have F:=ai I;have C:=ai z1;clear I i1 z1
  go_wp2_with fail
  exact ⟨rfl,_,(aa M.out (ah C.out _)),pq C.out F.out⟩
 have H1:=ai I;clear I i1 z1
 go_wp2_with fail
 refine (fU H1.out (by omega)).mono ?_;rintro e w2 ⟨d2,i2,o2⟩;have Q:=ai i2
 rcases o2 with ⟨z2,rfl,J⟩|⟨z2,rfl,J⟩
 rotate_left
 ·have F:=ai J;have C:=ai z2;clear J i2 z2
  go_wp2_with fail
  exact ⟨rfl,_,(aa M.out (aa Q.out (ah C.out _))),pq C.out F.out⟩
 have H2:=ai J;clear J i2 z2
 go_wp2_with fail
 refine (bu H2.out (by omega) (by kernel_rfl)).mono ?_;rintro e w3 ⟨d3,i3,o3⟩;have I3:=ai i3
 rcases o3 with ⟨z3,rfl,S⟩|⟨z3,rfl,S⟩
 rotate_left
 ·have F:=ai S;have C:=ai z3;clear S i3 z3
  go_wp2_with fail
  exact ⟨rfl,_,(aa M.out (aa Q.out (aa I3.out (ah C.out _)))),pq C.out F.out⟩
 have H3:=ai S;clear S i3 z3
 go_wp2_with fail
 refine (aQ H3.out (by omega) (by omega) (gt _) (O6 (ms (aG X.l) d3)).r_block ja rfl (fun d' hh=>aU (m:=.block) rfl hh)).mono ?_;rintro e w4 ⟨d4,i4,o4⟩;have I4:=ai i4
 rcases o4 with ⟨z4,rfl,U⟩|⟨z4,rfl,U⟩
 rotate_left
 ·have F:=ai U;have C:=ai z4;clear U i4 z4
  go_wp2_with fail
  exact ⟨rfl,_,(aa M.out (aa Q.out (aa I3.out (aa I4.out (ah C.out _))))),pq C.out F.out⟩
 have H4:=ai U;clear U i4 z4
 go_wp2_with fail
 refine (bu H4.out (by omega) (by kernel_rfl)).mono ?_;rintro e w5 ⟨H,i5,o5⟩;have I5:=ai i5
 rcases o5 with ⟨z5,rfl,Y⟩|⟨z5,rfl,Y⟩
 rotate_left
 ·have F:=ai Y;have C:=ai z5;clear Y i5 z5
  go_wp2_with fail
  exact ⟨rfl,_,(aa M.out (aa Q.out (aa I3.out (aa I4.out (aa I5.out (ah C.out _)))))),pq C.out F.out⟩
 have G:=ai Y;clear Y i5 z5;obtain ⟨ve,hs,_,_⟩:=G.out.sv.ex;obtain ⟨c0,c1,c2,c3⟩:=hs.cells;have ac:=hs.lt;have IB:=show Hid _ from ((aa M.out (aa Q.out (aa I3.out (aa I4.out (aa I5.out aF))))):Rb (aG X.l) ci d H)
 clear hs
 by_cases O:H.i<(aG X.l).length
 ·have q1:((ps X.l H.i:Int)<X.l.length):=by have:=Am.2 O;omega
  have HR:Hid (∀V,Tb w5 V->Ta 159 #[pg X.g] V fun e w'=>e=.panicked (stop 120 (ps X.l H.i))/\Below X.w0.heap.size X.w0 w'):=fun V hb=>(ph (G.out.below hb).sv).mono (fun e w' ⟨I,J⟩=>⟨by rw [I,Eq (by have:=Am.2 O;omega)],(G.out.below hb).sv.bel.trans (J.mono (G.out.below hb).sv.bel.size)⟩)
  have HB:Hid (∀m,Tb w5 (w5.drewN m)):=fun m=>fE (hH _ _) m
  have HI:=ai O;clear O
  go_wp2_with fail
  go_quiet (fail)
  go_wp2_with fail
  refine (HR.out _ (HB.out _)).mono ?_;rintro e w9 ⟨rfl,Z⟩;have ab:=ai Z;clear Z
  go_wp2_with fail
  exact ⟨rfl,_,IB.out,.inr ⟨fun _=>HI.out,by rw [IO G.out.e0],ab.out⟩⟩
 ·have q1:¬((ps X.l H.i:Int)<X.l.length):=(fun hn:¬ps X.l H.i<X.l.length=>by omega) (fun h=>O (Am.1 h));have HB:Hid (∀m,SD X 0 H (w5.drewN m)):=fun m=>G.out.below (fE (hH _ _) m)
  have HI:Hid (H.i=(aG X.l).length):=by have:=G.out.il;show _=_;omega
  clear O
  go_wp2_with fail
  go_quiet (fail)
  go_wp2_with fail
  go_end0
  exact ⟨_,IB.out,.inl ⟨G.out.e0,HI.out,rfl,HB.out _⟩⟩
end Go.Proofs.YtcjiapphbpiffaaGreatDoor
