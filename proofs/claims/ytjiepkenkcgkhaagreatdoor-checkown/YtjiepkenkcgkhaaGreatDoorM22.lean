import Derived.Test.YtjiepkenkcgkhaaGreatDoorM21
set_option linter.unusedVariables false
set_option linter.unusedSimpArgs false
set_option maxHeartbeats 2000000
namespace Go.Proofs.YtjiepkenkcgkhaaGreatDoor
open Go.RowKit
theorem F6 (n:Nat) (hdeclaration:PD .declaration 190 n) (hbodyA:∀k,k<n->bG 191 gu 45 k):bG 154 pk 40 n:=by
 intro X r d W h hr hm;have H0:Hid (SD X r d W):=h;have HM:Hid (ms (aF X.l) d<=n):=hm;have hmf:=mkfn;clear h hm
 go_enter Tryz.func154,Tryz.ntmps154
 have HD1:Hid (PD .declaration 190 n):=hdeclaration
 go_wp2_with fail
 refine (HD1.out X _ _ _ H0.out).mono ?_;rintro e w1 ⟨u1,v1,rfl,p1,hb1⟩;have P1:=ai p1;have H1:=show Hid _ from H0.out.below hb1
 clear p1 hb1
 go_wp2_with fail
 go_loopw [2,3] (fun u v wr=>∃dk,Hid (SD X r dk wr)/\Hid (Lp (aF X.l) (.fn .declaration) d dk)/\Hid (GC X .declaration n dk u v)) (fun _ _ wr=>mW X wr)
 case atStart=>exact ⟨_,H1.out,.refl,P1.out⟩
 case round=>
  obtain ⟨e1,HJ1,HP1,HK1⟩:=hrel;clear P1
  rcases HK1.out with ⟨nd,ff,LP,it0,rfl,rfl,hent,hlv,hrc,hpk,hop⟩|⟨rfl,rfl,hpk⟩
  ·have hne:=sS ff X.g;have HPK:=ai hpk;have HN:Hid (Ra 110 #[pg X.g,.int .u8 nd,fv ff X.g] wr fun e w'=>∃d',Ib (aF X.l) it0 e1 d'/\kX X (.tuple #[]) d' e w'):=aP HJ1.out (by omega) (by omega) (by have m0:=HM.out;have ml1:=HP1.out.le;omega) hrc hent hlv hop;have HLT:Hid (∀d',Ib (aF X.l) it0 e1 d'->d'.e=0->ms (aF X.l) d' < ms (aF X.l) e1):=fun d' h1 h2=>yX HPK.out h1 HJ1.out.e0 h2
   clear hrc hop hent hpk hlv HK1
   go_wp2_with fail
   refine HN.out.mono ?_;rintro e w2 ⟨d2,i2,o2⟩;have I2:=ai i2
   rcases o2 with ⟨z2,rfl,h2⟩|⟨z2,rfl,h2⟩
   rotate_left
   ·have HP:=ai h2;have HZ:=ai z2;clear h2 i2 z2
    go_wp2_with fail
    exact ⟨rfl,_,(aa (HP1.out.go _ (bj HPK.out I2.out (aS HZ.out))) (ah HZ.out _)),.inr ⟨HZ.out,rfl,HP.out⟩⟩
   have H2:=ai h2;clear h2 i2 z2
   go_wp2_with fail
   refine (HD1.out X _ _ _ H2.out).mono ?_;rintro e w3 ⟨u3,v3,rfl,p3,hb3⟩;have P3:=ai p3;have H3:=show Hid _ from H2.out.below hb3
   clear p3 hb3
   go_wp2_with fail
   exact ⟨⟨_,H3.out.up (QK _),HP1.out.step HPK.out I2.out,P3.out⟩,iA HJ1.out H3.out (by have m0:=HM.out;have ml1:=HP1.out.le;have m2:=bH I2.out;have mx:=HLT.out _ I2.out H2.out.e0;omega)⟩
  ·have hne:=pD;have HPK:=ai hpk;clear hpk HK1
   go_wp2_with fail
   refine (bS HJ1.out (by omega) (by kernel_rfl)).mono ?_;rintro e w24 ⟨d24,i24,o24⟩;have I24:=ai i24
   rcases o24 with ⟨z24,rfl,h24⟩|⟨z24,rfl,h24⟩
   rotate_left
   ·have HP:=ai h24;have HZ:=ai z24;clear h24 i24 z24
    go_wp2_with fail
    exact ⟨rfl,_,(aa (HP1.out.fin HPK.out) (aa I24.out (ah HZ.out _))),.inr ⟨HZ.out,rfl,HP.out⟩⟩
   have H24:=ai h24;clear h24 i24 z24
   go_wp2_with fail
   refine (aP H24.out (by omega) (by omega) (gt _) (hbodyA (ms (aF X.l) d24) (by have m0:=HM.out;have ml1:=HP1.out.le;have m24:=av aC I24.out HJ1.out.e0 H24.out.e0;omega)) ju rfl (fun d' hh=>aT (m:=.body) rfl hh)).mono ?_;rintro e w25 ⟨d25,i25,o25⟩;have I25:=ai i25
   rcases o25 with ⟨z25,rfl,h25⟩|⟨z25,rfl,h25⟩
   rotate_left
   ·have HP:=ai h25;have HZ:=ai z25;clear h25 i25 z25
    go_wp2_with fail
    exact ⟨rfl,_,(aa (HP1.out.fin HPK.out) (aa I24.out (aa I25.out (ah HZ.out _)))),.inr ⟨HZ.out,rfl,HP.out⟩⟩
   have H25:=ai h25;clear h25 i25 z25
   go_wp2_with fail
   refine (bS H25.out (by omega) (by kernel_rfl)).mono ?_;rintro e w26 ⟨d26,i26,o26⟩;have I26:=ai i26
   rcases o26 with ⟨z26,rfl,h26⟩|⟨z26,rfl,h26⟩
   rotate_left
   ·have HP:=ai h26;have HZ:=ai z26;clear h26 i26 z26
    go_wp2_with fail
    exact ⟨rfl,_,(aa (HP1.out.fin HPK.out) (aa I24.out (aa I25.out (aa I26.out (ah HZ.out _))))),.inr ⟨HZ.out,rfl,HP.out⟩⟩
   have H26:=ai h26;clear h26 i26 z26
   go_wp2_with fail
   go_end0
   exact ⟨_,(aa (HP1.out.fin HPK.out) (aa I24.out (aa I25.out (aa I26.out aE)))),.inl ⟨H26.out.e0,rfl,H26.out⟩⟩
theorem rF (n:Nat) (htypedA:∀k,k<n->bG 231 gK 90 k):bG 217 fK 90 n:=by
 intro X r d W h hr hm;have H0:Hid (SD X r d W):=h;have HM:Hid (ms (aF X.l) d<=n):=hm;have hmf:=mkfn;clear h hm
 go_enter Tryz.func217,Tryz.ntmps217
 go_wp2_with fail
 refine (bS H0.out (by omega) (by kernel_rfl)).mono ?_;rintro e w1 ⟨d1,i1,o1⟩;have I1:=ai i1
 rcases o1 with ⟨z1,rfl,h1⟩|⟨z1,rfl,h1⟩
 rotate_left
 ·have HP:=ai h1;have HZ:=ai z1;clear h1 i1 z1
  go_wp2_with fail
  exact ⟨rfl,_,(aa I1.out (ah HZ.out _)),.inr ⟨HZ.out,rfl,HP.out⟩⟩
 have H1:=ai h1;clear h1 i1 z1
 go_wp2_with fail
 refine ((htypedA (ms (aF X.l) d1) (by have m0:=HM.out;have m1:=av aC I1.out H0.out.e0 H1.out.e0;omega)) X _ _ _ H1.out (by omega) (gt _)).mono ?_;rintro e w2 ⟨d2,i2,o2⟩;replace i2:=show Ib (aF X.l) (.fl (.mt .typed)) d1 d2 from qW rfl i2
 have I2:=ai i2
 rcases o2 with ⟨z2,rfl,h2⟩|⟨z2,rfl,h2⟩
 rotate_left
 ·have HP:=ai h2;have HZ:=ai z2;clear h2 i2 z2
  go_wp2_with fail
  exact ⟨rfl,_,(aa I1.out (aa I2.out (ah HZ.out _))),.inr ⟨HZ.out,rfl,HP.out⟩⟩
 have H2:=ai h2;clear h2 i2 z2
 go_wp2_with fail
 refine (bm H2.out (by omega) (by kernel_rfl)).mono ?_;rintro e w3 ⟨d3,i3,o3⟩;have I3:=ai i3
 rcases o3 with ⟨z3,rfl,h3⟩|⟨z3,rfl,h3⟩
 rotate_left
 ·have HP:=ai h3;have HZ:=ai z3;clear h3 i3 z3
  go_wp2_with fail
  exact ⟨rfl,_,(aa I1.out (aa I2.out (aa I3.out (ah HZ.out _)))),.inr ⟨HZ.out,rfl,HP.out⟩⟩
 have H3:=ai h3;clear h3 i3 z3
 go_wp2_with fail
 go_end0
 exact ⟨_,(aa I1.out (aa I2.out (aa I3.out aE))),.inl ⟨H3.out.e0,rfl,H3.out⟩⟩
theorem wb (n:Nat) (hexprA:∀k,k<n->bG 232 dq 50 k):bG 218 gn 90 n:=by
 intro X r d W h hr hm;have H0:Hid (SD X r d W):=h;have HM:Hid (ms (aF X.l) d<=n):=hm;have hmf:=mkfn;clear h hm
 go_enter Tryz.func218,Tryz.ntmps218
 go_wp2_with fail
 refine (bS H0.out (by omega) (by kernel_rfl)).mono ?_;rintro e w1 ⟨d1,i1,o1⟩;have I1:=ai i1
 rcases o1 with ⟨z1,rfl,h1⟩|⟨z1,rfl,h1⟩
 rotate_left
 ·have HP:=ai h1;have HZ:=ai z1;clear h1 i1 z1
  go_wp2_with fail
  exact ⟨rfl,_,(aa I1.out (ah HZ.out _)),.inr ⟨HZ.out,rfl,HP.out⟩⟩
 have H1:=ai h1;clear h1 i1 z1
 go_wp2_with fail
 refine (fJ H1.out (by omega)).mono ?_;rintro e w2 ⟨d2,i2,o2⟩;have I2:=ai i2
 rcases o2 with ⟨z2,rfl,h2⟩|⟨z2,rfl,h2⟩
 rotate_left
 ·have HP:=ai h2;have HZ:=ai z2;clear h2 i2 z2
  go_wp2_with fail
  exact ⟨rfl,_,(aa I1.out (aa I2.out (ah HZ.out _))),.inr ⟨HZ.out,rfl,HP.out⟩⟩
 have H2:=ai h2;clear h2 i2 z2
 go_wp2_with fail
 refine (bm H2.out (by omega) (by kernel_rfl)).mono ?_;rintro e w3 ⟨d3,i3,o3⟩;have I3:=ai i3
 rcases o3 with ⟨z3,rfl,h3⟩|⟨z3,rfl,h3⟩
 rotate_left
 ·have HP:=ai h3;have HZ:=ai z3;clear h3 i3 z3
  go_wp2_with fail
  exact ⟨rfl,_,(aa I1.out (aa I2.out (aa I3.out (ah HZ.out _)))),.inr ⟨HZ.out,rfl,HP.out⟩⟩
 have H3:=ai h3;clear h3 i3 z3
 go_wp2_with fail
 refine (aP H3.out (by omega) (by omega) (gt _) (hexprA (ms (aF X.l) d3) (by have m0:=HM.out;have m1:=av aC I1.out H0.out.e0 H1.out.e0;have m2:=av cP I2.out H1.out.e0 H2.out.e0;have m3:=av aC I3.out H2.out.e0 H3.out.e0;omega)) dv rfl (fun d' hh=>aT (m:=.expr) rfl hh)).mono ?_;rintro e w4 ⟨d4,i4,o4⟩;have I4:=ai i4
 rcases o4 with ⟨z4,rfl,h4⟩|⟨z4,rfl,h4⟩
 rotate_left
 ·have HP:=ai h4;have HZ:=ai z4;clear h4 i4 z4
  go_wp2_with fail
  exact ⟨rfl,_,(aa I1.out (aa I2.out (aa I3.out (aa I4.out (ah HZ.out _))))),.inr ⟨HZ.out,rfl,HP.out⟩⟩
 have H4:=ai h4;clear h4 i4 z4
 go_wp2_with fail
 refine (bm H4.out (by omega) (by kernel_rfl)).mono ?_;rintro e w5 ⟨d5,i5,o5⟩;have I5:=ai i5
 rcases o5 with ⟨z5,rfl,h5⟩|⟨z5,rfl,h5⟩
 rotate_left
 ·have HP:=ai h5;have HZ:=ai z5;clear h5 i5 z5
  go_wp2_with fail
  exact ⟨rfl,_,(aa I1.out (aa I2.out (aa I3.out (aa I4.out (aa I5.out (ah HZ.out _)))))),.inr ⟨HZ.out,rfl,HP.out⟩⟩
 have H5:=ai h5;clear h5 i5 z5
 go_wp2_with fail
 go_end0
 exact ⟨_,(aa I1.out (aa I2.out (aa I3.out (aa I4.out (aa I5.out aE))))),.inl ⟨H5.out.e0,rfl,H5.out⟩⟩
theorem se (n:Nat) (hparamsA:∀k,k<n->bG 233 lI 90 k) (hkindA:∀k,k<n->PC .kind 234 k) (hblockA:∀k,k<n->bG 154 pk 40 k):bG 219 fM 90 n:=by
 intro X r d W h hr hm;have H0:Hid (SD X r d W):=h;have HM:Hid (ms (aF X.l) d<=n):=hm;have hmf:=mkfn;clear h hm
 go_enter Tryz.func219,Tryz.ntmps219
 go_wp2_with fail
 refine (bS H0.out (by omega) (by kernel_rfl)).mono ?_;rintro e w1 ⟨d1,i1,o1⟩;have I1:=ai i1
 rcases o1 with ⟨z1,rfl,h1⟩|⟨z1,rfl,h1⟩
 rotate_left
 ·have HP:=ai h1;have HZ:=ai z1;clear h1 i1 z1
  go_wp2_with fail
  exact ⟨rfl,_,(aa I1.out (ah HZ.out _)),.inr ⟨HZ.out,rfl,HP.out⟩⟩
 have H1:=ai h1;clear h1 i1 z1
 go_wp2_with fail
 refine (fJ H1.out (by omega)).mono ?_;rintro e w2 ⟨d2,i2,o2⟩;have I2:=ai i2
 rcases o2 with ⟨z2,rfl,h2⟩|⟨z2,rfl,h2⟩
 rotate_left
 ·have HP:=ai h2;have HZ:=ai z2;clear h2 i2 z2
  go_wp2_with fail
  exact ⟨rfl,_,(aa I1.out (aa I2.out (ah HZ.out _))),.inr ⟨HZ.out,rfl,HP.out⟩⟩
 have H2:=ai h2;clear h2 i2 z2
 go_wp2_with fail
 refine (ls H2.out.sv (fB _ _)).mono ?_;rintro e w3 ⟨rfl,hb3⟩;have H3:=show Hid _ from H2.out.below hb3
 clear hb3;obtain ⟨a3,ea3⟩:∃a,kt 6 (nx X (ps X.l d2.i))=a:=⟨_,rfl⟩;rw [ea3];have A3:=ai ea3;clear ea3
 by_cases hq3:(a3.toList == [40])=true
 ·have PB3:=show Hid _ from M9 H3.out A3.out hq3
  go_wp2_with fail
  refine (aP H3.out (by omega) (by omega) (gt _) (hparamsA (ms (aF X.l) d2) (by have m0:=HM.out;have m1:=av aC I1.out H0.out.e0 H1.out.e0;have m2:=av cP I2.out H1.out.e0 H2.out.e0;omega)) B3 rfl (fun d' hh=>bi PB3.out (aT (m:=.params) rfl hh))).mono ?_;rintro e w4 ⟨d4,i4,o4⟩;have I4:=ai i4
  rcases o4 with ⟨z4,rfl,h4⟩|⟨z4,rfl,h4⟩
  rotate_left
  ·have HP:=ai h4;have HZ:=ai z4;clear h4 i4 z4
   go_wp2_with fail
   exact ⟨rfl,_,(aa I1.out (aa I2.out (aa I4.out (ah HZ.out _)))),.inr ⟨HZ.out,rfl,HP.out⟩⟩
  have H4:=ai h4;clear h4 i4 z4
  go_wp2_with fail
  refine (bL H4.out (by omega) [⟨#[58]⟩] (by simp) (by kernel_rfl) rfl rfl).mono ?_;rintro e w5 (⟨q5,rfl,h5⟩|⟨q5,d5,i5,o5⟩)
  rotate_left
  ·have Q5:=ai q5;clear q5;have I5:=ai i5
   rcases o5 with ⟨z5,rfl,h5⟩|⟨z5,rfl,h5⟩
   rotate_left
   ·have HP:=ai h5;have HZ:=ai z5;clear h5 i5 z5
    go_wp2_with fail
    exact ⟨rfl,_,(aa I1.out (aa I2.out (aa I4.out (aa (bi (aA Q5.out) (aN (aa I5.out (ah HZ.out _)))) (ah HZ.out _))))),.inr ⟨HZ.out,rfl,HP.out⟩⟩
   have H5:=ai h5;clear h5 i5 z5
   go_wp2_with fail
   refine ((hkindA (ms (aF X.l) d5) (by have m0:=HM.out;have m1:=av aC I1.out H0.out.e0 H1.out.e0;have m2:=av cP I2.out H1.out.e0 H2.out.e0;have m4:=bH I4.out;have m5:=av aC I5.out H4.out.e0 H5.out.e0;omega)) X _ _ _ H5.out).mono ?_;rintro e w6 ⟨u6,v6,rfl,p6,hb6⟩;have P6:=ai p6;have H6:=show Hid _ from H5.out.below hb6
   clear p6 hb6
   go_wp2_with fail
   refine (dJ H6.out (by omega) (gt _) P6.out).mono ?_;rintro e w7 ⟨d7,i7,o7⟩;have I7:=ai i7
   rcases o7 with ⟨z7,rfl,h7⟩|⟨z7,rfl,h7⟩
   rotate_left
   ·have HP:=ai h7;have HZ:=ai z7;clear h7 i7 z7
    go_wp2_with fail
    exact ⟨rfl,_,(aa I1.out (aa I2.out (aa I4.out (aa (bi (aA Q5.out) (aN (aa I5.out (aa I7.out (ah HZ.out _))))) (ah HZ.out _))))),.inr ⟨HZ.out,rfl,HP.out⟩⟩
   have H7:=ai h7;clear h7 i7 z7
   go_wp2_with fail
   refine (bm H7.out (by omega) (by kernel_rfl)).mono ?_;rintro e w8 ⟨d8,i8,o8⟩;have I8:=ai i8
   rcases o8 with ⟨z8,rfl,h8⟩|⟨z8,rfl,h8⟩
   rotate_left
   ·have HP:=ai h8;have HZ:=ai z8;clear h8 i8 z8
    go_wp2_with fail
    exact ⟨rfl,_,(aa I1.out (aa I2.out (aa I4.out (aa (bi (aA Q5.out) (aN (aa I5.out (aa I7.out aE)))) (aa I8.out (ah HZ.out _)))))),.inr ⟨HZ.out,rfl,HP.out⟩⟩
   have H8:=ai h8;clear h8 i8 z8
   go_wp2_with fail
   refine (aP H8.out (by omega) (by omega) (gt _) (hblockA (ms (aF X.l) d8) (by have m0:=HM.out;have m1:=av aC I1.out H0.out.e0 H1.out.e0;have m2:=av cP I2.out H1.out.e0 H2.out.e0;have m4:=bH I4.out;have m5:=av aC I5.out H4.out.e0 H5.out.e0;have m7:=bH I7.out;have m8:=av aC I8.out H7.out.e0 H8.out.e0;omega)) iM rfl (fun d' hh=>aT (m:=.block) rfl hh)).mono ?_;rintro e w9 ⟨d9,i9,o9⟩;have I9:=ai i9
   rcases o9 with ⟨z9,rfl,h9⟩|⟨z9,rfl,h9⟩
   rotate_left
   ·have HP:=ai h9;have HZ:=ai z9;clear h9 i9 z9
    go_wp2_with fail
    exact ⟨rfl,_,(aa I1.out (aa I2.out (aa I4.out (aa (bi (aA Q5.out) (aN (aa I5.out (aa I7.out aE)))) (aa I8.out (aa I9.out (ah HZ.out _))))))),.inr ⟨HZ.out,rfl,HP.out⟩⟩
   have H9:=ai h9;clear h9 i9 z9
   go_wp2_with fail
   refine (bm H9.out (by omega) (by kernel_rfl)).mono ?_;rintro e w10 ⟨d10,i10,o10⟩;have I10:=ai i10
   rcases o10 with ⟨z10,rfl,h10⟩|⟨z10,rfl,h10⟩
   rotate_left
   ·have HP:=ai h10;have HZ:=ai z10;clear h10 i10 z10
    go_wp2_with fail
    exact ⟨rfl,_,(aa I1.out (aa I2.out (aa I4.out (aa (bi (aA Q5.out) (aN (aa I5.out (aa I7.out aE)))) (aa I8.out (aa I9.out (aa I10.out (ah HZ.out _)))))))),.inr ⟨HZ.out,rfl,HP.out⟩⟩
   have H10:=ai h10;clear h10 i10 z10
   go_wp2_with fail
   go_end0
   exact ⟨_,(aa I1.out (aa I2.out (aa I4.out (aa (bi (aA Q5.out) (aN (aa I5.out (aa I7.out aE)))) (aa I8.out (aa I9.out (aa I10.out aE))))))),.inl ⟨H10.out.e0,rfl,H10.out⟩⟩
  have Q5:=ai q5;have H5:=ai h5;clear q5 h5
  go_wp2_with fail
  refine (bm H5.out (by omega) (by kernel_rfl)).mono ?_;rintro e w31 ⟨d31,i31,o31⟩;have I31:=ai i31
  rcases o31 with ⟨z31,rfl,h31⟩|⟨z31,rfl,h31⟩
  rotate_left
  ·have HP:=ai h31;have HZ:=ai z31;clear h31 i31 z31
   go_wp2_with fail
   exact ⟨rfl,_,(aa I1.out (aa I2.out (aa I4.out (aa (aZ (aL Q5.out)) (aa I31.out (ah HZ.out _)))))),.inr ⟨HZ.out,rfl,HP.out⟩⟩
  have H31:=ai h31;clear h31 i31 z31
  go_wp2_with fail
  refine (aP H31.out (by omega) (by omega) (gt _) (hblockA (ms (aF X.l) d31) (by have m0:=HM.out;have m1:=av aC I1.out H0.out.e0 H1.out.e0;have m2:=av cP I2.out H1.out.e0 H2.out.e0;have m4:=bH I4.out;have m31:=av aC I31.out H5.out.e0 H31.out.e0;omega)) iM rfl (fun d' hh=>aT (m:=.block) rfl hh)).mono ?_;rintro e w32 ⟨d32,i32,o32⟩;have I32:=ai i32
  rcases o32 with ⟨z32,rfl,h32⟩|⟨z32,rfl,h32⟩
  rotate_left
  ·have HP:=ai h32;have HZ:=ai z32;clear h32 i32 z32
   go_wp2_with fail
   exact ⟨rfl,_,(aa I1.out (aa I2.out (aa I4.out (aa (aZ (aL Q5.out)) (aa I31.out (aa I32.out (ah HZ.out _))))))),.inr ⟨HZ.out,rfl,HP.out⟩⟩
  have H32:=ai h32;clear h32 i32 z32
  go_wp2_with fail
  refine (bm H32.out (by omega) (by kernel_rfl)).mono ?_;rintro e w33 ⟨d33,i33,o33⟩;have I33:=ai i33
  rcases o33 with ⟨z33,rfl,h33⟩|⟨z33,rfl,h33⟩
  rotate_left
  ·have HP:=ai h33;have HZ:=ai z33;clear h33 i33 z33
   go_wp2_with fail
   exact ⟨rfl,_,(aa I1.out (aa I2.out (aa I4.out (aa (aZ (aL Q5.out)) (aa I31.out (aa I32.out (aa I33.out (ah HZ.out _)))))))),.inr ⟨HZ.out,rfl,HP.out⟩⟩
  have H33:=ai h33;clear h33 i33 z33
  go_wp2_with fail
  go_end0
  exact ⟨_,(aa I1.out (aa I2.out (aa I4.out (aa (aZ (aL Q5.out)) (aa I31.out (aa I32.out (aa I33.out aE))))))),.inl ⟨H33.out.e0,rfl,H33.out⟩⟩
 ·have PB3:=show Hid _ from OK H3.out A3.out (by simpa using hq3)
  have hq3':(a3.toList == [40])=false:=by simpa using hq3
  clear hq3
  go_wp2_with fail
  refine (bL H3.out (by omega) [⟨#[58]⟩] (by simp) (by kernel_rfl) rfl rfl).mono ?_;rintro e w54 (⟨q54,rfl,h54⟩|⟨q54,d54,i54,o54⟩)
  rotate_left
  ·have Q54:=ai q54;clear q54;have I54:=ai i54
   rcases o54 with ⟨z54,rfl,h54⟩|⟨z54,rfl,h54⟩
   rotate_left
   ·have HP:=ai h54;have HZ:=ai z54;clear h54 i54 z54
    go_wp2_with fail
    exact ⟨rfl,_,(aa I1.out (aa I2.out (aa (aZ PB3.out) (aa (bi (aA Q54.out) (aN (aa I54.out (ah HZ.out _)))) (ah HZ.out _))))),.inr ⟨HZ.out,rfl,HP.out⟩⟩
   have H54:=ai h54;clear h54 i54 z54
   go_wp2_with fail
   refine ((hkindA (ms (aF X.l) d54) (by have m0:=HM.out;have m1:=av aC I1.out H0.out.e0 H1.out.e0;have m2:=av cP I2.out H1.out.e0 H2.out.e0;have m54:=av aC I54.out H3.out.e0 H54.out.e0;omega)) X _ _ _ H54.out).mono ?_;rintro e w55 ⟨u55,v55,rfl,p55,hb55⟩;have P55:=ai p55;have H55:=show Hid _ from H54.out.below hb55
   clear p55 hb55
   go_wp2_with fail
   refine (dJ H55.out (by omega) (gt _) P55.out).mono ?_;rintro e w56 ⟨d56,i56,o56⟩;have I56:=ai i56
   rcases o56 with ⟨z56,rfl,h56⟩|⟨z56,rfl,h56⟩
   rotate_left
   ·have HP:=ai h56;have HZ:=ai z56;clear h56 i56 z56
    go_wp2_with fail
    exact ⟨rfl,_,(aa I1.out (aa I2.out (aa (aZ PB3.out) (aa (bi (aA Q54.out) (aN (aa I54.out (aa I56.out (ah HZ.out _))))) (ah HZ.out _))))),.inr ⟨HZ.out,rfl,HP.out⟩⟩
   have H56:=ai h56;clear h56 i56 z56
   go_wp2_with fail
   refine (bm H56.out (by omega) (by kernel_rfl)).mono ?_;rintro e w57 ⟨d57,i57,o57⟩;have I57:=ai i57
   rcases o57 with ⟨z57,rfl,h57⟩|⟨z57,rfl,h57⟩
   rotate_left
   ·have HP:=ai h57;have HZ:=ai z57;clear h57 i57 z57
    go_wp2_with fail
    exact ⟨rfl,_,(aa I1.out (aa I2.out (aa (aZ PB3.out) (aa (bi (aA Q54.out) (aN (aa I54.out (aa I56.out aE)))) (aa I57.out (ah HZ.out _)))))),.inr ⟨HZ.out,rfl,HP.out⟩⟩
   have H57:=ai h57;clear h57 i57 z57
   go_wp2_with fail
   refine (aP H57.out (by omega) (by omega) (gt _) (hblockA (ms (aF X.l) d57) (by have m0:=HM.out;have m1:=av aC I1.out H0.out.e0 H1.out.e0;have m2:=av cP I2.out H1.out.e0 H2.out.e0;have m54:=av aC I54.out H3.out.e0 H54.out.e0;have m56:=bH I56.out;have m57:=av aC I57.out H56.out.e0 H57.out.e0;omega)) iM rfl (fun d' hh=>aT (m:=.block) rfl hh)).mono ?_;rintro e w58 ⟨d58,i58,o58⟩;have I58:=ai i58
   rcases o58 with ⟨z58,rfl,h58⟩|⟨z58,rfl,h58⟩
   rotate_left
   ·have HP:=ai h58;have HZ:=ai z58;clear h58 i58 z58
    go_wp2_with fail
    exact ⟨rfl,_,(aa I1.out (aa I2.out (aa (aZ PB3.out) (aa (bi (aA Q54.out) (aN (aa I54.out (aa I56.out aE)))) (aa I57.out (aa I58.out (ah HZ.out _))))))),.inr ⟨HZ.out,rfl,HP.out⟩⟩
   have H58:=ai h58;clear h58 i58 z58
   go_wp2_with fail
   refine (bm H58.out (by omega) (by kernel_rfl)).mono ?_;rintro e w59 ⟨d59,i59,o59⟩;have I59:=ai i59
   rcases o59 with ⟨z59,rfl,h59⟩|⟨z59,rfl,h59⟩
   rotate_left
   ·have HP:=ai h59;have HZ:=ai z59;clear h59 i59 z59
    go_wp2_with fail
    exact ⟨rfl,_,(aa I1.out (aa I2.out (aa (aZ PB3.out) (aa (bi (aA Q54.out) (aN (aa I54.out (aa I56.out aE)))) (aa I57.out (aa I58.out (aa I59.out (ah HZ.out _)))))))),.inr ⟨HZ.out,rfl,HP.out⟩⟩
   have H59:=ai h59;clear h59 i59 z59
   go_wp2_with fail
   go_end0
   exact ⟨_,(aa I1.out (aa I2.out (aa (aZ PB3.out) (aa (bi (aA Q54.out) (aN (aa I54.out (aa I56.out aE)))) (aa I57.out (aa I58.out (aa I59.out aE))))))),.inl ⟨H59.out.e0,rfl,H59.out⟩⟩
  have Q54:=ai q54;have H54:=ai h54;clear q54 h54
  go_wp2_with fail
  refine (bm H54.out (by omega) (by kernel_rfl)).mono ?_;rintro e w80 ⟨d80,i80,o80⟩;have I80:=ai i80
  rcases o80 with ⟨z80,rfl,h80⟩|⟨z80,rfl,h80⟩
  rotate_left
  ·have HP:=ai h80;have HZ:=ai z80;clear h80 i80 z80
   go_wp2_with fail
   exact ⟨rfl,_,(aa I1.out (aa I2.out (aa (aZ PB3.out) (aa (aZ (aL Q54.out)) (aa I80.out (ah HZ.out _)))))),.inr ⟨HZ.out,rfl,HP.out⟩⟩
  have H80:=ai h80;clear h80 i80 z80
  go_wp2_with fail
  refine (aP H80.out (by omega) (by omega) (gt _) (hblockA (ms (aF X.l) d80) (by have m0:=HM.out;have m1:=av aC I1.out H0.out.e0 H1.out.e0;have m2:=av cP I2.out H1.out.e0 H2.out.e0;have m80:=av aC I80.out H54.out.e0 H80.out.e0;omega)) iM rfl (fun d' hh=>aT (m:=.block) rfl hh)).mono ?_;rintro e w81 ⟨d81,i81,o81⟩;have I81:=ai i81
  rcases o81 with ⟨z81,rfl,h81⟩|⟨z81,rfl,h81⟩
  rotate_left
  ·have HP:=ai h81;have HZ:=ai z81;clear h81 i81 z81
   go_wp2_with fail
   exact ⟨rfl,_,(aa I1.out (aa I2.out (aa (aZ PB3.out) (aa (aZ (aL Q54.out)) (aa I80.out (aa I81.out (ah HZ.out _))))))),.inr ⟨HZ.out,rfl,HP.out⟩⟩
  have H81:=ai h81;clear h81 i81 z81
  go_wp2_with fail
  refine (bm H81.out (by omega) (by kernel_rfl)).mono ?_;rintro e w82 ⟨d82,i82,o82⟩;have I82:=ai i82
  rcases o82 with ⟨z82,rfl,h82⟩|⟨z82,rfl,h82⟩
  rotate_left
  ·have HP:=ai h82;have HZ:=ai z82;clear h82 i82 z82
   go_wp2_with fail
   exact ⟨rfl,_,(aa I1.out (aa I2.out (aa (aZ PB3.out) (aa (aZ (aL Q54.out)) (aa I80.out (aa I81.out (aa I82.out (ah HZ.out _)))))))),.inr ⟨HZ.out,rfl,HP.out⟩⟩
  have H82:=ai h82;clear h82 i82 z82
  go_wp2_with fail
  go_end0
  exact ⟨_,(aa I1.out (aa I2.out (aa (aZ PB3.out) (aa (aZ (aL Q54.out)) (aa I80.out (aa I81.out (aa I82.out aE))))))),.inl ⟨H82.out.e0,rfl,H82.out⟩⟩
theorem Bm (n:Nat) (htypedA:∀k,k<n->bG 231 gK 90 k):bG 233 lI 90 n:=by
 intro X r d W h hr hm;have H0:Hid (SD X r d W):=h;have HM:Hid (ms (aF X.l) d<=n):=hm;have hmf:=mkfn;clear h hm
 go_enter Tryz.func233,Tryz.ntmps233
 go_wp2_with fail
 refine (bm H0.out (by omega) (by kernel_rfl)).mono ?_;rintro e w1 ⟨d1,i1,o1⟩;have I1:=ai i1
 rcases o1 with ⟨z1,rfl,h1⟩|⟨z1,rfl,h1⟩
 rotate_left
 ·have HP:=ai h1;have HZ:=ai z1;clear h1 i1 z1
  go_wp2_with fail
  exact ⟨rfl,_,(aa I1.out (ah HZ.out _)),.inr ⟨HZ.out,rfl,HP.out⟩⟩
 have H1:=ai h1;clear h1 i1 z1
 go_wp2_with fail
 refine (aP H1.out (by omega) (by omega) (gt _) (km (htypedA (ms (aF X.l) d1) (by have m0:=HM.out;have m1:=av aC I1.out H0.out.e0 H1.out.e0;omega))) kN rfl (fun d' hh=>aT (m:=.param) rfl hh)).mono ?_;rintro e w2 ⟨d2,i2,o2⟩;have I2:=ai i2
 rcases o2 with ⟨z2,rfl,h2⟩|⟨z2,rfl,h2⟩
 rotate_left
 ·have HP:=ai h2;have HZ:=ai z2;clear h2 i2 z2
  go_wp2_with fail
  exact ⟨rfl,_,(aa I1.out (aa I2.out (ah HZ.out _))),.inr ⟨HZ.out,rfl,HP.out⟩⟩
 have H2:=ai h2;clear h2 i2 z2
 go_wp2_with fail
 go_loopw [] (fun wr=>∃dk,Hid (SD X 0 dk wr)/\Hid (Lp (aF X.l) (.row [.wd 6 [⟨#[59]⟩],.mt .param]) d2 dk)) (fun wr=>mW X wr)
 case atStart=>exact ⟨_,H2.out,.refl⟩
 case round=>
  obtain ⟨e3,HJ3,HP3⟩:=hrel
  go_wp2_with fail
  refine (bL HJ3.out (by omega) [⟨#[59]⟩] (by simp) (by kernel_rfl) rfl rfl).mono ?_;rintro e w4 (⟨q4,rfl,h4⟩|⟨q4,d4,i4,o4⟩)
  rotate_left
  ·have Q4:=ai q4;clear q4;have I4:=ai i4
   rcases o4 with ⟨z4,rfl,h4⟩|⟨z4,rfl,h4⟩
   rotate_left
   ·have HP:=ai h4;have HZ:=ai z4;clear h4 i4 z4
    go_wp2_with fail
    exact ⟨rfl,_,(aa I1.out (aa I2.out (aa (HP3.out.go _ (bj (aA Q4.out) (aN (aa I4.out (ah HZ.out _))) (aS HZ.out))) (ah HZ.out _)))),.inr ⟨HZ.out,rfl,HP.out⟩⟩
   have H4:=ai h4;clear h4 i4 z4
   go_wp2_with fail
   refine (aP H4.out (by omega) (by omega) (gt _) (km (htypedA (ms (aF X.l) d4) (by have m0:=HM.out;have m1:=av aC I1.out H0.out.e0 H1.out.e0;have m2:=bH I2.out;have ml3:=HP3.out.le;have m4:=av aC I4.out HJ3.out.e0 H4.out.e0;omega))) kN rfl (fun d' hh=>aT (m:=.param) rfl hh)).mono ?_;rintro e w5 ⟨d5,i5,o5⟩;have I5:=ai i5
   rcases o5 with ⟨z5,rfl,h5⟩|⟨z5,rfl,h5⟩
   rotate_left
   ·have HP:=ai h5;have HZ:=ai z5;clear h5 i5 z5
    go_wp2_with fail
    exact ⟨rfl,_,(aa I1.out (aa I2.out (aa (HP3.out.go _ (bj (aA Q4.out) (aN (aa I4.out (aa I5.out (ah HZ.out _)))) (aS HZ.out))) (ah HZ.out _)))),.inr ⟨HZ.out,rfl,HP.out⟩⟩
   have H5:=ai h5;clear h5 i5 z5
   go_wp2_with fail
   exact ⟨⟨_,H5.out,HP3.out.step (aA Q4.out) (aN (aa I4.out (aa I5.out aE)))⟩,iA HJ3.out H5.out (by have m0:=HM.out;have m1:=av aC I1.out H0.out.e0 H1.out.e0;have m2:=bH I2.out;have ml3:=HP3.out.le;have m4:=av aC I4.out HJ3.out.e0 H4.out.e0;have m5:=bH I5.out;omega)⟩
  have Q4:=ai q4;have H4:=ai h4;clear q4 h4
  go_wp2_with fail
  refine (bm H4.out (by omega) (by kernel_rfl)).mono ?_;rintro e w26 ⟨d26,i26,o26⟩;have I26:=ai i26
  rcases o26 with ⟨z26,rfl,h26⟩|⟨z26,rfl,h26⟩
  rotate_left
  ·have HP:=ai h26;have HZ:=ai z26;clear h26 i26 z26
   go_wp2_with fail
   exact ⟨rfl,_,(aa I1.out (aa I2.out (aa (HP3.out.fin (aL Q4.out)) (aa I26.out (ah HZ.out _))))),.inr ⟨HZ.out,rfl,HP.out⟩⟩
  have H26:=ai h26;clear h26 i26 z26
  go_wp2_with fail
  go_end0
  exact ⟨_,(aa I1.out (aa I2.out (aa (HP3.out.fin (aL Q4.out)) (aa I26.out aE)))),.inl ⟨H26.out.e0,rfl,H26.out⟩⟩
theorem CS (n:Nat) (hkindA:∀k,k<n->PC .kind 234 k):bG 231 gK 90 n:=by
 intro X r d W h hr hm;have H0:Hid (SD X r d W):=h;have HM:Hid (ms (aF X.l) d<=n):=hm;have hmf:=mkfn;clear h hm
 go_enter Tryz.func231,Tryz.ntmps231
 go_wp2_with fail
 refine (fJ H0.out (by omega)).mono ?_;rintro e w1 ⟨d1,i1,o1⟩;have I1:=ai i1
 rcases o1 with ⟨z1,rfl,h1⟩|⟨z1,rfl,h1⟩
 rotate_left
 ·have HP:=ai h1;have HZ:=ai z1;clear h1 i1 z1
  go_wp2_with fail
  exact ⟨rfl,_,(aa I1.out (ah HZ.out _)),.inr ⟨HZ.out,rfl,HP.out⟩⟩
 have H1:=ai h1;clear h1 i1 z1
 go_wp2_with fail
 go_loopw [] (fun wr=>∃dk,Hid (SD X 0 dk wr)/\Hid (Lp (aF X.l) (.row [.wd 6 [⟨#[44]⟩],.nm]) d1 dk)) (fun wr=>mW X wr)
 case atStart=>exact ⟨_,H1.out,.refl⟩
 case round=>
  obtain ⟨e2,HJ2,HP2⟩:=hrel
  go_wp2_with fail
  refine (bL HJ2.out (by omega) [⟨#[44]⟩] (by simp) (by kernel_rfl) rfl rfl).mono ?_;rintro e w3 (⟨q3,rfl,h3⟩|⟨q3,d3,i3,o3⟩)
  rotate_left
  ·have Q3:=ai q3;clear q3;have I3:=ai i3
   rcases o3 with ⟨z3,rfl,h3⟩|⟨z3,rfl,h3⟩
   rotate_left
   ·have HP:=ai h3;have HZ:=ai z3;clear h3 i3 z3
    go_wp2_with fail
    exact ⟨rfl,_,(aa I1.out (aa (HP2.out.go _ (bj (aA Q3.out) (aN (aa I3.out (ah HZ.out _))) (aS HZ.out))) (ah HZ.out _))),.inr ⟨HZ.out,rfl,HP.out⟩⟩
   have H3:=ai h3;clear h3 i3 z3
   go_wp2_with fail
   refine (fJ H3.out (by omega)).mono ?_;rintro e w4 ⟨d4,i4,o4⟩;have I4:=ai i4
   rcases o4 with ⟨z4,rfl,h4⟩|⟨z4,rfl,h4⟩
   rotate_left
   ·have HP:=ai h4;have HZ:=ai z4;clear h4 i4 z4
    go_wp2_with fail
    exact ⟨rfl,_,(aa I1.out (aa (HP2.out.go _ (bj (aA Q3.out) (aN (aa I3.out (aa I4.out (ah HZ.out _)))) (aS HZ.out))) (ah HZ.out _))),.inr ⟨HZ.out,rfl,HP.out⟩⟩
   have H4:=ai h4;clear h4 i4 z4
   go_wp2_with fail
   exact ⟨⟨_,H4.out,HP2.out.step (aA Q3.out) (aN (aa I3.out (aa I4.out aE)))⟩,iA HJ2.out H4.out (by have m0:=HM.out;have m1:=av cP I1.out H0.out.e0 H1.out.e0;have ml2:=HP2.out.le;have m3:=av aC I3.out HJ2.out.e0 H3.out.e0;have m4:=av cP I4.out H3.out.e0 H4.out.e0;omega)⟩
  have Q3:=ai q3;have H3:=ai h3;clear q3 h3
  go_wp2_with fail
  refine (bm H3.out (by omega) (by kernel_rfl)).mono ?_;rintro e w25 ⟨d25,i25,o25⟩;have I25:=ai i25
  rcases o25 with ⟨z25,rfl,h25⟩|⟨z25,rfl,h25⟩
  rotate_left
  ·have HP:=ai h25;have HZ:=ai z25;clear h25 i25 z25
   go_wp2_with fail
   exact ⟨rfl,_,(aa I1.out (aa (HP2.out.fin (aL Q3.out)) (aa I25.out (ah HZ.out _)))),.inr ⟨HZ.out,rfl,HP.out⟩⟩
  have H25:=ai h25;clear h25 i25 z25
  go_wp2_with fail
  refine ((hkindA (ms (aF X.l) d25) (by have m0:=HM.out;have m1:=av cP I1.out H0.out.e0 H1.out.e0;have ml2:=HP2.out.le;have m25:=av aC I25.out H3.out.e0 H25.out.e0;omega)) X _ _ _ H25.out).mono ?_;rintro e w26 ⟨u26,v26,rfl,p26,hb26⟩;have P26:=ai p26;have H26:=show Hid _ from H25.out.below hb26
  clear p26 hb26
  go_wp2_with fail
  refine (dJ H26.out (by omega) (gt _) P26.out).mono ?_;rintro e w27 ⟨d27,i27,o27⟩;have I27:=ai i27
  rcases o27 with ⟨z27,rfl,h27⟩|⟨z27,rfl,h27⟩
  rotate_left
  ·have HP:=ai h27;have HZ:=ai z27;clear h27 i27 z27
   go_wp2_with fail
   exact ⟨rfl,_,(aa I1.out (aa (HP2.out.fin (aL Q3.out)) (aa I25.out (aa I27.out (ah HZ.out _))))),.inr ⟨HZ.out,rfl,HP.out⟩⟩
  have H27:=ai h27;clear h27 i27 z27
  go_wp2_with fail
  go_end0
  exact ⟨_,(aa I1.out (aa (HP2.out.fin (aL Q3.out)) (aa I25.out (aa I27.out aE)))),.inl ⟨H27.out.e0,rfl,H27.out⟩⟩
theorem Gn (n:Nat) (hexprA:∀k,k<n->bG 232 dq 50 k) (hkindA:∀k,k<n->PC .kind 234 k):bG 246 iK 90 n:=by
 intro X r d W h hr hm;have H0:Hid (SD X r d W):=h;have HM:Hid (ms (aF X.l) d<=n):=hm;have hmf:=mkfn;clear h hm
 go_enter Tryz.func246,Tryz.ntmps246
 go_wp2_with fail
 refine (bS H0.out (by omega) (by kernel_rfl)).mono ?_;rintro e w1 ⟨d1,i1,o1⟩;have I1:=ai i1
 rcases o1 with ⟨z1,rfl,h1⟩|⟨z1,rfl,h1⟩
 rotate_left
 ·have HP:=ai h1;have HZ:=ai z1;clear h1 i1 z1
  go_wp2_with fail
  exact ⟨rfl,_,(aa I1.out (ah HZ.out _)),.inr ⟨HZ.out,rfl,HP.out⟩⟩
 have H1:=ai h1;clear h1 i1 z1
 go_wp2_with fail
 refine (bm H1.out (by omega) (by kernel_rfl)).mono ?_;rintro e w2 ⟨d2,i2,o2⟩;have I2:=ai i2
 rcases o2 with ⟨z2,rfl,h2⟩|⟨z2,rfl,h2⟩
 rotate_left
 ·have HP:=ai h2;have HZ:=ai z2;clear h2 i2 z2
  go_wp2_with fail
  exact ⟨rfl,_,(aa I1.out (aa I2.out (ah HZ.out _))),.inr ⟨HZ.out,rfl,HP.out⟩⟩
 have H2:=ai h2;clear h2 i2 z2
 go_wp2_with fail
 refine (aP H2.out (by omega) (by omega) (gt _) (hexprA (ms (aF X.l) d2) (by have m0:=HM.out;have m1:=av aC I1.out H0.out.e0 H1.out.e0;have m2:=av aC I2.out H1.out.e0 H2.out.e0;omega)) dv rfl (fun d' hh=>aT (m:=.expr) rfl hh)).mono ?_;rintro e w3 ⟨d3,i3,o3⟩;have I3:=ai i3
 rcases o3 with ⟨z3,rfl,h3⟩|⟨z3,rfl,h3⟩
 rotate_left
 ·have HP:=ai h3;have HZ:=ai z3;clear h3 i3 z3
  go_wp2_with fail
  exact ⟨rfl,_,(aa I1.out (aa I2.out (aa I3.out (ah HZ.out _)))),.inr ⟨HZ.out,rfl,HP.out⟩⟩
 have H3:=ai h3;clear h3 i3 z3
 go_wp2_with fail
 refine (bm H3.out (by omega) (by kernel_rfl)).mono ?_;rintro e w4 ⟨d4,i4,o4⟩;have I4:=ai i4
 rcases o4 with ⟨z4,rfl,h4⟩|⟨z4,rfl,h4⟩
 rotate_left
 ·have HP:=ai h4;have HZ:=ai z4;clear h4 i4 z4
  go_wp2_with fail
  exact ⟨rfl,_,(aa I1.out (aa I2.out (aa I3.out (aa I4.out (ah HZ.out _))))),.inr ⟨HZ.out,rfl,HP.out⟩⟩
 have H4:=ai h4;clear h4 i4 z4
 go_wp2_with fail
 refine (aP H4.out (by omega) (by omega) (gt _) (hexprA (ms (aF X.l) d4) (by have m0:=HM.out;have m1:=av aC I1.out H0.out.e0 H1.out.e0;have m2:=av aC I2.out H1.out.e0 H2.out.e0;have m3:=bH I3.out;have m4:=av aC I4.out H3.out.e0 H4.out.e0;omega)) dv rfl (fun d' hh=>aT (m:=.expr) rfl hh)).mono ?_;rintro e w5 ⟨d5,i5,o5⟩;have I5:=ai i5
 rcases o5 with ⟨z5,rfl,h5⟩|⟨z5,rfl,h5⟩
 rotate_left
 ·have HP:=ai h5;have HZ:=ai z5;clear h5 i5 z5
  go_wp2_with fail
  exact ⟨rfl,_,(aa I1.out (aa I2.out (aa I3.out (aa I4.out (aa I5.out (ah HZ.out _)))))),.inr ⟨HZ.out,rfl,HP.out⟩⟩
 have H5:=ai h5;clear h5 i5 z5
 go_wp2_with fail
 refine (bm H5.out (by omega) (by kernel_rfl)).mono ?_;rintro e w6 ⟨d6,i6,o6⟩;have I6:=ai i6
 rcases o6 with ⟨z6,rfl,h6⟩|⟨z6,rfl,h6⟩
 rotate_left
 ·have HP:=ai h6;have HZ:=ai z6;clear h6 i6 z6
  go_wp2_with fail
  exact ⟨rfl,_,(aa I1.out (aa I2.out (aa I3.out (aa I4.out (aa I5.out (aa I6.out (ah HZ.out _))))))),.inr ⟨HZ.out,rfl,HP.out⟩⟩
 have H6:=ai h6;clear h6 i6 z6
 go_wp2_with fail
 refine (bS H6.out (by omega) (by kernel_rfl)).mono ?_;rintro e w7 ⟨d7,i7,o7⟩;have I7:=ai i7
 rcases o7 with ⟨z7,rfl,h7⟩|⟨z7,rfl,h7⟩
 rotate_left
 ·have HP:=ai h7;have HZ:=ai z7;clear h7 i7 z7
  go_wp2_with fail
  exact ⟨rfl,_,(aa I1.out (aa I2.out (aa I3.out (aa I4.out (aa I5.out (aa I6.out (aa I7.out (ah HZ.out _)))))))),.inr ⟨HZ.out,rfl,HP.out⟩⟩
 have H7:=ai h7;clear h7 i7 z7
 go_wp2_with fail
 refine ((hkindA (ms (aF X.l) d7) (by have m0:=HM.out;have m1:=av aC I1.out H0.out.e0 H1.out.e0;have m2:=av aC I2.out H1.out.e0 H2.out.e0;have m3:=bH I3.out;have m4:=av aC I4.out H3.out.e0 H4.out.e0;have m5:=bH I5.out;have m6:=av aC I6.out H5.out.e0 H6.out.e0;have m7:=av aC I7.out H6.out.e0 H7.out.e0;omega)) X _ _ _ H7.out).mono ?_;rintro e w8 ⟨u8,v8,rfl,p8,hb8⟩;have P8:=ai p8;have H8:=show Hid _ from H7.out.below hb8
 clear p8 hb8
 go_wp2_with fail
 refine (dJ H8.out (by omega) (gt _) P8.out).mono ?_;rintro e w9 ⟨d9,i9,o9⟩;have I9:=ai i9
 rcases o9 with ⟨z9,rfl,h9⟩|⟨z9,rfl,h9⟩
 rotate_left
 ·have HP:=ai h9;have HZ:=ai z9;clear h9 i9 z9
  go_wp2_with fail
  exact ⟨rfl,_,(aa I1.out (aa I2.out (aa I3.out (aa I4.out (aa I5.out (aa I6.out (aa I7.out (aa I9.out (ah HZ.out _))))))))),.inr ⟨HZ.out,rfl,HP.out⟩⟩
 have H9:=ai h9;clear h9 i9 z9
 go_wp2_with fail
 go_end0
 exact ⟨_,(aa I1.out (aa I2.out (aa I3.out (aa I4.out (aa I5.out (aa I6.out (aa I7.out (aa I9.out aE)))))))),.inl ⟨H9.out.e0,rfl,H9.out⟩⟩
theorem A2 (n:Nat) (htypedA:∀k,k<n->bG 231 gK 90 k):bG 247 gM 90 n:=by
 intro X r d W h hr hm;have H0:Hid (SD X r d W):=h;have HM:Hid (ms (aF X.l) d<=n):=hm;have hmf:=mkfn;clear h hm
 go_enter Tryz.func247,Tryz.ntmps247
 go_wp2_with fail
 refine (bS H0.out (by omega) (by kernel_rfl)).mono ?_;rintro e w1 ⟨d1,i1,o1⟩;have I1:=ai i1
 rcases o1 with ⟨z1,rfl,h1⟩|⟨z1,rfl,h1⟩
 rotate_left
 ·have HP:=ai h1;have HZ:=ai z1;clear h1 i1 z1
  go_wp2_with fail
  exact ⟨rfl,_,(aa I1.out (ah HZ.out _)),.inr ⟨HZ.out,rfl,HP.out⟩⟩
 have H1:=ai h1;clear h1 i1 z1
 go_wp2_with fail
 refine (aP H1.out (by omega) (by omega) (gt _) (km (htypedA (ms (aF X.l) d1) (by have m0:=HM.out;have m1:=av aC I1.out H0.out.e0 H1.out.e0;omega))) kN rfl (fun d' hh=>aT (m:=.member) rfl hh)).mono ?_;rintro e w2 ⟨d2,i2,o2⟩;have I2:=ai i2
 rcases o2 with ⟨z2,rfl,h2⟩|⟨z2,rfl,h2⟩
 rotate_left
 ·have HP:=ai h2;have HZ:=ai z2;clear h2 i2 z2
  go_wp2_with fail
  exact ⟨rfl,_,(aa I1.out (aa I2.out (ah HZ.out _))),.inr ⟨HZ.out,rfl,HP.out⟩⟩
 have H2:=ai h2;clear h2 i2 z2
 go_wp2_with fail
 go_loopw [] (fun wr=>∃dk,Hid (SD X 0 dk wr)/\Hid (Lp (aF X.l) (.row [.wd 6 [⟨#[59]⟩],.mt .member]) d2 dk)) (fun wr=>mW X wr)
 case atStart=>exact ⟨_,H2.out,.refl⟩
 case round=>
  obtain ⟨e3,HJ3,HP3⟩:=hrel
  go_wp2_with fail
  refine (bL HJ3.out (by omega) [⟨#[59]⟩] (by simp) (by kernel_rfl) rfl rfl).mono ?_;rintro e w4 (⟨q4,rfl,h4⟩|⟨q4,d4,i4,o4⟩)
  rotate_left
  ·have Q4:=ai q4;clear q4;have I4:=ai i4
   rcases o4 with ⟨z4,rfl,h4⟩|⟨z4,rfl,h4⟩
   rotate_left
   ·have HP:=ai h4;have HZ:=ai z4;clear h4 i4 z4
    go_wp2_with fail
    exact ⟨rfl,_,(aa I1.out (aa I2.out (aa (HP3.out.go _ (bj (aA Q4.out) (aN (aa I4.out (ah HZ.out _))) (aS HZ.out))) (ah HZ.out _)))),.inr ⟨HZ.out,rfl,HP.out⟩⟩
   have H4:=ai h4;clear h4 i4 z4
   go_wp2_with fail
   refine (aP H4.out (by omega) (by omega) (gt _) (km (htypedA (ms (aF X.l) d4) (by have m0:=HM.out;have m1:=av aC I1.out H0.out.e0 H1.out.e0;have m2:=bH I2.out;have ml3:=HP3.out.le;have m4:=av aC I4.out HJ3.out.e0 H4.out.e0;omega))) kN rfl (fun d' hh=>aT (m:=.member) rfl hh)).mono ?_;rintro e w5 ⟨d5,i5,o5⟩;have I5:=ai i5
   rcases o5 with ⟨z5,rfl,h5⟩|⟨z5,rfl,h5⟩
   rotate_left
   ·have HP:=ai h5;have HZ:=ai z5;clear h5 i5 z5
    go_wp2_with fail
    exact ⟨rfl,_,(aa I1.out (aa I2.out (aa (HP3.out.go _ (bj (aA Q4.out) (aN (aa I4.out (aa I5.out (ah HZ.out _)))) (aS HZ.out))) (ah HZ.out _)))),.inr ⟨HZ.out,rfl,HP.out⟩⟩
   have H5:=ai h5;clear h5 i5 z5
   go_wp2_with fail
   exact ⟨⟨_,H5.out,HP3.out.step (aA Q4.out) (aN (aa I4.out (aa I5.out aE)))⟩,iA HJ3.out H5.out (by have m0:=HM.out;have m1:=av aC I1.out H0.out.e0 H1.out.e0;have m2:=bH I2.out;have ml3:=HP3.out.le;have m4:=av aC I4.out HJ3.out.e0 H4.out.e0;have m5:=bH I5.out;omega)⟩
  have Q4:=ai q4;have H4:=ai h4;clear q4 h4
  go_wp2_with fail
  refine (bS H4.out (by omega) (by kernel_rfl)).mono ?_;rintro e w26 ⟨d26,i26,o26⟩;have I26:=ai i26
  rcases o26 with ⟨z26,rfl,h26⟩|⟨z26,rfl,h26⟩
  rotate_left
  ·have HP:=ai h26;have HZ:=ai z26;clear h26 i26 z26
   go_wp2_with fail
   exact ⟨rfl,_,(aa I1.out (aa I2.out (aa (HP3.out.fin (aL Q4.out)) (aa I26.out (ah HZ.out _))))),.inr ⟨HZ.out,rfl,HP.out⟩⟩
  have H26:=ai h26;clear h26 i26 z26
  go_wp2_with fail
  go_end0
  exact ⟨_,(aa I1.out (aa I2.out (aa (HP3.out.fin (aL Q4.out)) (aa I26.out aE)))),.inl ⟨H26.out.e0,rfl,H26.out⟩⟩
theorem J7 (n:Nat) (hstatement:PC .statement 221 n) (hstatementA:∀k,k<n->PC .statement 221 k):bG 191 gu 45 n:=by
 intro X r d W h hr hm;have H0:Hid (SD X r d W):=h;have HM:Hid (ms (aF X.l) d<=n):=hm;have hmf:=mkfn;clear h hm
 go_enter Tryz.func191,Tryz.ntmps191
 go_wp2_with fail
 refine (hstatement X _ _ _ H0.out).mono ?_;rintro e w1 ⟨u1,v1,rfl,p1,hb1⟩;have P1:=ai p1;have H1:=show Hid _ from H0.out.below hb1
 clear p1 hb1
 go_wp2_with fail
 refine (dJ H1.out (by omega) (by have m0:=HM.out;omega) P1.out).mono ?_;rintro e w2 ⟨d2,i2,o2⟩;have I2:=ai i2
 rcases o2 with ⟨z2,rfl,h2⟩|⟨z2,rfl,h2⟩
 rotate_left
 ·have HP:=ai h2;have HZ:=ai z2;clear h2 i2 z2
  go_wp2_with fail
  exact ⟨rfl,_,(aa I2.out (ah HZ.out _)),.inr ⟨HZ.out,rfl,HP.out⟩⟩
 have H2:=ai h2;clear h2 i2 z2
 go_wp2_with fail
 go_loopw [] (fun wr=>∃dk,Hid (SD X 0 dk wr)/\Hid (Lp (aF X.l) (.row [.wd 6 [⟨#[59]⟩],.mt .statement]) d2 dk)) (fun wr=>mW X wr)
 case atStart=>exact ⟨_,H2.out,.refl⟩
 case round=>
  obtain ⟨e3,HJ3,HP3⟩:=hrel
  go_wp2_with fail
  refine (bL HJ3.out (by omega) [⟨#[59]⟩] (by simp) (by kernel_rfl) rfl rfl).mono ?_;rintro e w4 (⟨q4,rfl,h4⟩|⟨q4,d4,i4,o4⟩)
  rotate_left
  ·have Q4:=ai q4;clear q4;have I4:=ai i4
   rcases o4 with ⟨z4,rfl,h4⟩|⟨z4,rfl,h4⟩
   rotate_left
   ·have HP:=ai h4;have HZ:=ai z4;clear h4 i4 z4
    go_wp2_with fail
    exact ⟨rfl,_,(aa I2.out (aa (HP3.out.go _ (bj (aA Q4.out) (aN (aa I4.out (ah HZ.out _))) (aS HZ.out))) (ah HZ.out _))),.inr ⟨HZ.out,rfl,HP.out⟩⟩
   have H4:=ai h4;clear h4 i4 z4
   go_wp2_with fail
   refine ((hstatementA (ms (aF X.l) d4) (by have m0:=HM.out;have m2:=bH I2.out;have ml3:=HP3.out.le;have m4:=av aC I4.out HJ3.out.e0 H4.out.e0;omega)) X _ _ _ H4.out).mono ?_;rintro e w5 ⟨u5,v5,rfl,p5,hb5⟩;have P5:=ai p5;have H5:=show Hid _ from H4.out.below hb5
   clear p5 hb5
   go_wp2_with fail
   refine (dJ H5.out (by omega) (gt _) P5.out).mono ?_;rintro e w6 ⟨d6,i6,o6⟩;have I6:=ai i6
   rcases o6 with ⟨z6,rfl,h6⟩|⟨z6,rfl,h6⟩
   rotate_left
   ·have HP:=ai h6;have HZ:=ai z6;clear h6 i6 z6
    go_wp2_with fail
    exact ⟨rfl,_,(aa I2.out (aa (HP3.out.go _ (bj (aA Q4.out) (aN (aa I4.out (aa I6.out (ah HZ.out _)))) (aS HZ.out))) (ah HZ.out _))),.inr ⟨HZ.out,rfl,HP.out⟩⟩
   have H6:=ai h6;clear h6 i6 z6
   go_wp2_with fail
   exact ⟨⟨_,H6.out,HP3.out.step (aA Q4.out) (aN (aa I4.out (aa I6.out aE)))⟩,iA HJ3.out H6.out (by have m0:=HM.out;have m2:=bH I2.out;have ml3:=HP3.out.le;have m4:=av aC I4.out HJ3.out.e0 H4.out.e0;have m6:=bH I6.out;omega)⟩
  have Q4:=ai q4;have H4:=ai h4;clear q4 h4
  go_wp2_with fail
  go_end0
  exact ⟨_,(aa I2.out (aa (HP3.out.fin (aL Q4.out)) aE)),.inl ⟨H4.out.e0,rfl,H4.out⟩⟩
theorem Hu (n:Nat):bG 236 nF 90 n:=by
 intro X r d W h hr hm;have H0:Hid (SD X r d W):=h;have HM:Hid (ms (aF X.l) d<=n):=hm;have hmf:=mkfn;clear h hm
 go_enter Tryz.func236,Tryz.ntmps236
 go_wp2_with fail
 refine (bS H0.out (by omega) (by kernel_rfl)).mono ?_;rintro e w1 ⟨d1,i1,o1⟩;have I1:=ai i1
 rcases o1 with ⟨z1,rfl,h1⟩|⟨z1,rfl,h1⟩
 rotate_left
 ·have HP:=ai h1;have HZ:=ai z1;clear h1 i1 z1
  go_wp2_with fail
  exact ⟨rfl,_,(aa I1.out (ah HZ.out _)),.inr ⟨HZ.out,rfl,HP.out⟩⟩
 have H1:=ai h1;clear h1 i1 z1
 go_wp2_with fail
 go_end0
 exact ⟨_,(aa I1.out aE),.inl ⟨H1.out.e0,rfl,H1.out⟩⟩
theorem Nr (n:Nat) (hobject:bG 248 gN 95 n) (hexprA:∀k,k<n->bG 232 dq 50 k):bG 235 pm 90 n:=by
 intro X r d W h hr hm;have H0:Hid (SD X r d W):=h;have HM:Hid (ms (aF X.l) d<=n):=hm;have hmf:=mkfn;clear h hm
 go_enter Tryz.func235,Tryz.ntmps235
 go_wp2_with fail
 refine (aP H0.out (by omega) (by omega) (by have m0:=HM.out;omega) hobject rf rfl (fun d' hh=>aT (m:=.object) rfl hh)).mono ?_;rintro e w1 ⟨d1,i1,o1⟩;have I1:=ai i1
 rcases o1 with ⟨z1,rfl,h1⟩|⟨z1,rfl,h1⟩
 rotate_left
 ·have HP:=ai h1;have HZ:=ai z1;clear h1 i1 z1
  go_wp2_with fail
  exact ⟨rfl,_,(aa I1.out (ah HZ.out _)),.inr ⟨HZ.out,rfl,HP.out⟩⟩
 have H1:=ai h1;clear h1 i1 z1
 go_wp2_with fail
 refine (bL H1.out (by omega) [⟨#[58,61]⟩] (by simp) (by kernel_rfl) rfl rfl).mono ?_;rintro e w2 (⟨q2,rfl,h2⟩|⟨q2,d2,i2,o2⟩)
 rotate_left
 ·have Q2:=ai q2;clear q2;have I2:=ai i2
  rcases o2 with ⟨z2,rfl,h2⟩|⟨z2,rfl,h2⟩
  rotate_left
  ·have HP:=ai h2;have HZ:=ai z2;clear h2 i2 z2
   go_wp2_with fail
   exact ⟨rfl,_,(aa I1.out (aa (bi (aA Q2.out) (aN (aa I2.out (ah HZ.out _)))) (ah HZ.out _))),.inr ⟨HZ.out,rfl,HP.out⟩⟩
  have H2:=ai h2;clear h2 i2 z2
  go_wp2_with fail
  refine (aP H2.out (by omega) (by omega) (gt _) (hexprA (ms (aF X.l) d2) (by have m0:=HM.out;have m1:=bH I1.out;have m2:=av aC I2.out H1.out.e0 H2.out.e0;omega)) dv rfl (fun d' hh=>aT (m:=.expr) rfl hh)).mono ?_;rintro e w3 ⟨d3,i3,o3⟩;have I3:=ai i3
  rcases o3 with ⟨z3,rfl,h3⟩|⟨z3,rfl,h3⟩
  rotate_left
  ·have HP:=ai h3;have HZ:=ai z3;clear h3 i3 z3
   go_wp2_with fail
   exact ⟨rfl,_,(aa I1.out (aa (bi (aA Q2.out) (aN (aa I2.out (aa I3.out (ah HZ.out _))))) (ah HZ.out _))),.inr ⟨HZ.out,rfl,HP.out⟩⟩
  have H3:=ai h3;clear h3 i3 z3
  go_wp2_with fail
  go_end0
  exact ⟨_,(aa I1.out (aa (bi (aA Q2.out) (aN (aa I2.out (aa I3.out aE)))) aE)),.inl ⟨H3.out.e0,rfl,H3.out⟩⟩
 have Q2:=ai q2;have H2:=ai h2;clear q2 h2
 go_wp2_with fail
 go_end0
 exact ⟨_,(aa I1.out (aa (aZ (aL Q2.out)) aE)),.inl ⟨H2.out.e0,rfl,H2.out⟩⟩
theorem Cm (n:Nat) (hexpr:bG 232 dq 50 n) (hbodyA:∀k,k<n->bG 191 gu 45 k):bG 249 lJ 45 n:=by
 intro X r d W h hr hm;have H0:Hid (SD X r d W):=h;have HM:Hid (ms (aF X.l) d<=n):=hm;have hmf:=mkfn;clear h hm
 go_enter Tryz.func249,Tryz.ntmps249
 go_wp2_with fail
 refine (aP H0.out (by omega) (by omega) (by have m0:=HM.out;omega) hexpr dv rfl (fun d' hh=>aT (m:=.expr) rfl hh)).mono ?_;rintro e w1 ⟨d1,i1,o1⟩;have I1:=ai i1
 rcases o1 with ⟨z1,rfl,h1⟩|⟨z1,rfl,h1⟩
 rotate_left
 ·have HP:=ai h1;have HZ:=ai z1;clear h1 i1 z1
  go_wp2_with fail
  exact ⟨rfl,_,(aa I1.out (ah HZ.out _)),.inr ⟨HZ.out,rfl,HP.out⟩⟩
 have H1:=ai h1;clear h1 i1 z1
 go_wp2_with fail
 refine (bS H1.out (by omega) (by kernel_rfl)).mono ?_;rintro e w2 ⟨d2,i2,o2⟩;have I2:=ai i2
 rcases o2 with ⟨z2,rfl,h2⟩|⟨z2,rfl,h2⟩
 rotate_left
 ·have HP:=ai h2;have HZ:=ai z2;clear h2 i2 z2
  go_wp2_with fail
  exact ⟨rfl,_,(aa I1.out (aa I2.out (ah HZ.out _))),.inr ⟨HZ.out,rfl,HP.out⟩⟩
 have H2:=ai h2;clear h2 i2 z2
 go_wp2_with fail
 refine (aP H2.out (by omega) (by omega) (gt _) (hbodyA (ms (aF X.l) d2) (by have m0:=HM.out;have m1:=bH I1.out;have m2:=av aC I2.out H1.out.e0 H2.out.e0;omega)) ju rfl (fun d' hh=>aT (m:=.body) rfl hh)).mono ?_;rintro e w3 ⟨d3,i3,o3⟩;have I3:=ai i3
 rcases o3 with ⟨z3,rfl,h3⟩|⟨z3,rfl,h3⟩
 rotate_left
 ·have HP:=ai h3;have HZ:=ai z3;clear h3 i3 z3
  go_wp2_with fail
  exact ⟨rfl,_,(aa I1.out (aa I2.out (aa I3.out (ah HZ.out _)))),.inr ⟨HZ.out,rfl,HP.out⟩⟩
 have H3:=ai h3;clear h3 i3 z3
 go_wp2_with fail
 go_end0
 exact ⟨_,(aa I1.out (aa I2.out (aa I3.out aE))),.inl ⟨H3.out.e0,rfl,H3.out⟩⟩
theorem JT (n:Nat) (hbodyA:∀k,k<n->bG 191 gu 45 k):bG 250 nI 90 n:=by
 intro X r d W h hr hm;have H0:Hid (SD X r d W):=h;have HM:Hid (ms (aF X.l) d<=n):=hm;have hmf:=mkfn;clear h hm
 go_enter Tryz.func250,Tryz.ntmps250
 go_wp2_with fail
 refine (bS H0.out (by omega) (by kernel_rfl)).mono ?_;rintro e w1 ⟨d1,i1,o1⟩;have I1:=ai i1
 rcases o1 with ⟨z1,rfl,h1⟩|⟨z1,rfl,h1⟩
 rotate_left
 ·have HP:=ai h1;have HZ:=ai z1;clear h1 i1 z1
  go_wp2_with fail
  exact ⟨rfl,_,(aa I1.out (ah HZ.out _)),.inr ⟨HZ.out,rfl,HP.out⟩⟩
 have H1:=ai h1;clear h1 i1 z1
 go_wp2_with fail
 refine (aP H1.out (by omega) (by omega) (gt _) (hbodyA (ms (aF X.l) d1) (by have m0:=HM.out;have m1:=av aC I1.out H0.out.e0 H1.out.e0;omega)) ju rfl (fun d' hh=>aT (m:=.body) rfl hh)).mono ?_;rintro e w2 ⟨d2,i2,o2⟩;have I2:=ai i2
 rcases o2 with ⟨z2,rfl,h2⟩|⟨z2,rfl,h2⟩
 rotate_left
 ·have HP:=ai h2;have HZ:=ai z2;clear h2 i2 z2
  go_wp2_with fail
  exact ⟨rfl,_,(aa I1.out (aa I2.out (ah HZ.out _))),.inr ⟨HZ.out,rfl,HP.out⟩⟩
 have H2:=ai h2;clear h2 i2 z2
 go_wp2_with fail
 refine (bS H2.out (by omega) (by kernel_rfl)).mono ?_;rintro e w3 ⟨d3,i3,o3⟩;have I3:=ai i3
 rcases o3 with ⟨z3,rfl,h3⟩|⟨z3,rfl,h3⟩
 rotate_left
 ·have HP:=ai h3;have HZ:=ai z3;clear h3 i3 z3
  go_wp2_with fail
  exact ⟨rfl,_,(aa I1.out (aa I2.out (aa I3.out (ah HZ.out _)))),.inr ⟨HZ.out,rfl,HP.out⟩⟩
 have H3:=ai h3;clear h3 i3 z3
 go_wp2_with fail
 go_end0
 exact ⟨_,(aa I1.out (aa I2.out (aa I3.out aE))),.inl ⟨H3.out.e0,rfl,H3.out⟩⟩
theorem wu (n:Nat) (hbranchA:∀k,k<n->bG 249 lJ 45 k) (hbodyA:∀k,k<n->bG 191 gu 45 k):bG 237 gr 90 n:=by
 intro X r d W h hr hm;have H0:Hid (SD X r d W):=h;have HM:Hid (ms (aF X.l) d<=n):=hm;have hmf:=mkfn;clear h hm
 go_enter Tryz.func237,Tryz.ntmps237
 go_wp2_with fail
 refine (bS H0.out (by omega) (by kernel_rfl)).mono ?_;rintro e w1 ⟨d1,i1,o1⟩;have I1:=ai i1
 rcases o1 with ⟨z1,rfl,h1⟩|⟨z1,rfl,h1⟩
 rotate_left
 ·have HP:=ai h1;have HZ:=ai z1;clear h1 i1 z1
  go_wp2_with fail
  exact ⟨rfl,_,(aa I1.out (ah HZ.out _)),.inr ⟨HZ.out,rfl,HP.out⟩⟩
 have H1:=ai h1;clear h1 i1 z1
 go_wp2_with fail
 refine ((hbranchA (ms (aF X.l) d1) (by have m0:=HM.out;have m1:=av aC I1.out H0.out.e0 H1.out.e0;omega)) X _ _ _ H1.out (by omega) (gt _)).mono ?_;rintro e w2 ⟨d2,i2,o2⟩;have I2:=ai i2
 rcases o2 with ⟨z2,rfl,h2⟩|⟨z2,rfl,h2⟩
 rotate_left
 ·have HP:=ai h2;have HZ:=ai z2;clear h2 i2 z2
  go_wp2_with fail
  exact ⟨rfl,_,(aa I1.out (cR I2.out (ah HZ.out _))),.inr ⟨HZ.out,rfl,HP.out⟩⟩
 have H2:=ai h2;clear h2 i2 z2
 go_wp2_with fail
 go_loopw [] (fun wr=>∃dk,Hid (SD X 0 dk wr)/\Hid (Lp (aF X.l) (.row [.wd 2 [⟨#[101,108,105,102]⟩],.mt .expr,.wd 2 [⟨#[116,104,101,110]⟩],.mt .body]) d2 dk)) (fun wr=>mW X wr)
 case atStart=>exact ⟨_,H2.out,.refl⟩
 case round=>
  obtain ⟨e3,HJ3,HP3⟩:=hrel
  go_wp2_with fail
  refine (iB HJ3.out (by omega) [⟨#[101,108,105,102]⟩] (by simp) (by kernel_rfl) rfl rfl).mono ?_;rintro e w4 (⟨q4,rfl,h4⟩|⟨q4,d4,i4,o4⟩)
  rotate_left
  ·have Q4:=ai q4;clear q4;have I4:=ai i4
   rcases o4 with ⟨z4,rfl,h4⟩|⟨z4,rfl,h4⟩
   rotate_left
   ·have HP:=ai h4;have HZ:=ai z4;clear h4 i4 z4
    go_wp2_with fail
    exact ⟨rfl,_,(aa I1.out (cR I2.out (aa (HP3.out.go _ (bj (aA Q4.out) (aN (aa I4.out (ah HZ.out _))) (aS HZ.out))) (ah HZ.out _)))),.inr ⟨HZ.out,rfl,HP.out⟩⟩
   have H4:=ai h4;clear h4 i4 z4
   go_wp2_with fail
   refine ((hbranchA (ms (aF X.l) d4) (by have m0:=HM.out;have m1:=av aC I1.out H0.out.e0 H1.out.e0;have m2:=lB (I2.out []);have ml3:=HP3.out.le;have m4:=av aC I4.out HJ3.out.e0 H4.out.e0;omega)) X _ _ _ H4.out (by omega) (gt _)).mono ?_;rintro e w5 ⟨d5,i5,o5⟩;have I5:=ai i5
   rcases o5 with ⟨z5,rfl,h5⟩|⟨z5,rfl,h5⟩
   rotate_left
   ·have HP:=ai h5;have HZ:=ai z5;clear h5 i5 z5
    go_wp2_with fail
    exact ⟨rfl,_,(aa I1.out (cR I2.out (aa (HP3.out.go _ (bj (aA Q4.out) (aN (aa I4.out (cR I5.out (ah HZ.out _)))) (aS HZ.out))) (ah HZ.out _)))),.inr ⟨HZ.out,rfl,HP.out⟩⟩
   have H5:=ai h5;clear h5 i5 z5
   go_wp2_with fail
   exact ⟨⟨_,H5.out,HP3.out.step (aA Q4.out) (aN (aa I4.out (cR I5.out aE)))⟩,iA HJ3.out H5.out (by have m0:=HM.out;have m1:=av aC I1.out H0.out.e0 H1.out.e0;have m2:=lB (I2.out []);have ml3:=HP3.out.le;have m4:=av aC I4.out HJ3.out.e0 H4.out.e0;have m5:=lB (I5.out []);omega)⟩
  have Q4:=ai q4;have H4:=ai h4;clear q4 h4
  go_wp2_with fail
  refine (iB H4.out (by omega) [⟨#[101,108,115,101]⟩] (by simp) (by kernel_rfl) rfl rfl).mono ?_;rintro e w26 (⟨q26,rfl,h26⟩|⟨q26,d26,i26,o26⟩)
  rotate_left
  ·have Q26:=ai q26;clear q26;have I26:=ai i26
   rcases o26 with ⟨z26,rfl,h26⟩|⟨z26,rfl,h26⟩
   rotate_left
   ·have HP:=ai h26;have HZ:=ai z26;clear h26 i26 z26
    go_wp2_with fail
    exact ⟨rfl,_,(aa I1.out (cR I2.out (aa (HP3.out.fin (aL Q4.out)) (aa (bi (aA Q26.out) (aN (aa I26.out (ah HZ.out _)))) (ah HZ.out _))))),.inr ⟨HZ.out,rfl,HP.out⟩⟩
   have H26:=ai h26;clear h26 i26 z26
   go_wp2_with fail
   refine (aP H26.out (by omega) (by omega) (gt _) (hbodyA (ms (aF X.l) d26) (by have m0:=HM.out;have m1:=av aC I1.out H0.out.e0 H1.out.e0;have m2:=lB (I2.out []);have ml3:=HP3.out.le;have m26:=av aC I26.out H4.out.e0 H26.out.e0;omega)) ju rfl (fun d' hh=>aT (m:=.body) rfl hh)).mono ?_;rintro e w27 ⟨d27,i27,o27⟩;have I27:=ai i27
   rcases o27 with ⟨z27,rfl,h27⟩|⟨z27,rfl,h27⟩
   rotate_left
   ·have HP:=ai h27;have HZ:=ai z27;clear h27 i27 z27
    go_wp2_with fail
    exact ⟨rfl,_,(aa I1.out (cR I2.out (aa (HP3.out.fin (aL Q4.out)) (aa (bi (aA Q26.out) (aN (aa I26.out (aa I27.out (ah HZ.out _))))) (ah HZ.out _))))),.inr ⟨HZ.out,rfl,HP.out⟩⟩
   have H27:=ai h27;clear h27 i27 z27
   go_wp2_with fail
   refine (bS H27.out (by omega) (by kernel_rfl)).mono ?_;rintro e w28 ⟨d28,i28,o28⟩;have I28:=ai i28
   rcases o28 with ⟨z28,rfl,h28⟩|⟨z28,rfl,h28⟩
   rotate_left
   ·have HP:=ai h28;have HZ:=ai z28;clear h28 i28 z28
    go_wp2_with fail
    exact ⟨rfl,_,(aa I1.out (cR I2.out (aa (HP3.out.fin (aL Q4.out)) (aa (bi (aA Q26.out) (aN (aa I26.out (aa I27.out aE)))) (aa I28.out (ah HZ.out _)))))),.inr ⟨HZ.out,rfl,HP.out⟩⟩
   have H28:=ai h28;clear h28 i28 z28
   go_wp2_with fail
   go_end0
   exact ⟨_,(aa I1.out (cR I2.out (aa (HP3.out.fin (aL Q4.out)) (aa (bi (aA Q26.out) (aN (aa I26.out (aa I27.out aE)))) (aa I28.out aE))))),.inl ⟨H28.out.e0,rfl,H28.out⟩⟩
  have Q26:=ai q26;have H26:=ai h26;clear q26 h26
  go_wp2_with fail
  refine (bS H26.out (by omega) (by kernel_rfl)).mono ?_;rintro e w49 ⟨d49,i49,o49⟩;have I49:=ai i49
  rcases o49 with ⟨z49,rfl,h49⟩|⟨z49,rfl,h49⟩
  rotate_left
  ·have HP:=ai h49;have HZ:=ai z49;clear h49 i49 z49
   go_wp2_with fail
   exact ⟨rfl,_,(aa I1.out (cR I2.out (aa (HP3.out.fin (aL Q4.out)) (aa (aZ (aL Q26.out)) (aa I49.out (ah HZ.out _)))))),.inr ⟨HZ.out,rfl,HP.out⟩⟩
  have H49:=ai h49;clear h49 i49 z49
  go_wp2_with fail
  go_end0
  exact ⟨_,(aa I1.out (cR I2.out (aa (HP3.out.fin (aL Q4.out)) (aa (aZ (aL Q26.out)) (aa I49.out aE))))),.inl ⟨H49.out.e0,rfl,H49.out⟩⟩
theorem CJ (n:Nat) (hexprA:∀k,k<n->bG 232 dq 50 k) (hdoneA:∀k,k<n->bG 250 nI 90 k):bG 238 kC 90 n:=by
 intro X r d W h hr hm;have H0:Hid (SD X r d W):=h;have HM:Hid (ms (aF X.l) d<=n):=hm;have hmf:=mkfn;clear h hm
 go_enter Tryz.func238,Tryz.ntmps238
 go_wp2_with fail
 refine (bS H0.out (by omega) (by kernel_rfl)).mono ?_;rintro e w1 ⟨d1,i1,o1⟩;have I1:=ai i1
 rcases o1 with ⟨z1,rfl,h1⟩|⟨z1,rfl,h1⟩
 rotate_left
 ·have HP:=ai h1;have HZ:=ai z1;clear h1 i1 z1
  go_wp2_with fail
  exact ⟨rfl,_,(aa I1.out (ah HZ.out _)),.inr ⟨HZ.out,rfl,HP.out⟩⟩
 have H1:=ai h1;clear h1 i1 z1
 go_wp2_with fail
 refine (aP H1.out (by omega) (by omega) (gt _) (hexprA (ms (aF X.l) d1) (by have m0:=HM.out;have m1:=av aC I1.out H0.out.e0 H1.out.e0;omega)) dv rfl (fun d' hh=>aT (m:=.expr) rfl hh)).mono ?_;rintro e w2 ⟨d2,i2,o2⟩;have I2:=ai i2
 rcases o2 with ⟨z2,rfl,h2⟩|⟨z2,rfl,h2⟩
 rotate_left
 ·have HP:=ai h2;have HZ:=ai z2;clear h2 i2 z2
  go_wp2_with fail
  exact ⟨rfl,_,(aa I1.out (aa I2.out (ah HZ.out _))),.inr ⟨HZ.out,rfl,HP.out⟩⟩
 have H2:=ai h2;clear h2 i2 z2
 go_wp2_with fail
 refine ((hdoneA (ms (aF X.l) d2) (by have m0:=HM.out;have m1:=av aC I1.out H0.out.e0 H1.out.e0;have m2:=bH I2.out;omega)) X _ _ _ H2.out (by omega) (gt _)).mono ?_;rintro e w3 ⟨d3,i3,o3⟩;have I3:=ai i3
 rcases o3 with ⟨z3,rfl,h3⟩|⟨z3,rfl,h3⟩
 rotate_left
 ·have HP:=ai h3;have HZ:=ai z3;clear h3 i3 z3
  go_wp2_with fail
  exact ⟨rfl,_,(aa I1.out (aa I2.out (cR I3.out (ah HZ.out _)))),.inr ⟨HZ.out,rfl,HP.out⟩⟩
 have H3:=ai h3;clear h3 i3 z3
 go_wp2_with fail
 go_end0
 exact ⟨_,(aa I1.out (aa I2.out (cR I3.out aE))),.inl ⟨H3.out.e0,rfl,H3.out⟩⟩
theorem FM (n:Nat) (hexprA:∀k,k<n->bG 232 dq 50 k) (hdoneA:∀k,k<n->bG 250 nI 90 k):bG 239 kG 90 n:=by
 intro X r d W h hr hm;have H0:Hid (SD X r d W):=h;have HM:Hid (ms (aF X.l) d<=n):=hm;have hmf:=mkfn;clear h hm
 go_enter Tryz.func239,Tryz.ntmps239
 go_wp2_with fail
 refine (bS H0.out (by omega) (by kernel_rfl)).mono ?_;rintro e w1 ⟨d1,i1,o1⟩;have I1:=ai i1
 rcases o1 with ⟨z1,rfl,h1⟩|⟨z1,rfl,h1⟩
 rotate_left
 ·have HP:=ai h1;have HZ:=ai z1;clear h1 i1 z1
  go_wp2_with fail
  exact ⟨rfl,_,(aa I1.out (ah HZ.out _)),.inr ⟨HZ.out,rfl,HP.out⟩⟩
 have H1:=ai h1;clear h1 i1 z1
 go_wp2_with fail
 refine (fJ H1.out (by omega)).mono ?_;rintro e w2 ⟨d2,i2,o2⟩;have I2:=ai i2
 rcases o2 with ⟨z2,rfl,h2⟩|⟨z2,rfl,h2⟩
 rotate_left
 ·have HP:=ai h2;have HZ:=ai z2;clear h2 i2 z2
  go_wp2_with fail
  exact ⟨rfl,_,(aa I1.out (aa I2.out (ah HZ.out _))),.inr ⟨HZ.out,rfl,HP.out⟩⟩
 have H2:=ai h2;clear h2 i2 z2
 go_wp2_with fail
 refine (bm H2.out (by omega) (by kernel_rfl)).mono ?_;rintro e w3 ⟨d3,i3,o3⟩;have I3:=ai i3
 rcases o3 with ⟨z3,rfl,h3⟩|⟨z3,rfl,h3⟩
 rotate_left
 ·have HP:=ai h3;have HZ:=ai z3;clear h3 i3 z3
  go_wp2_with fail
  exact ⟨rfl,_,(aa I1.out (aa I2.out (aa I3.out (ah HZ.out _)))),.inr ⟨HZ.out,rfl,HP.out⟩⟩
 have H3:=ai h3;clear h3 i3 z3
 go_wp2_with fail
 refine (aP H3.out (by omega) (by omega) (gt _) (hexprA (ms (aF X.l) d3) (by have m0:=HM.out;have m1:=av aC I1.out H0.out.e0 H1.out.e0;have m2:=av cP I2.out H1.out.e0 H2.out.e0;have m3:=av aC I3.out H2.out.e0 H3.out.e0;omega)) dv rfl (fun d' hh=>aT (m:=.expr) rfl hh)).mono ?_;rintro e w4 ⟨d4,i4,o4⟩;have I4:=ai i4
 rcases o4 with ⟨z4,rfl,h4⟩|⟨z4,rfl,h4⟩
 rotate_left
 ·have HP:=ai h4;have HZ:=ai z4;clear h4 i4 z4
  go_wp2_with fail
  exact ⟨rfl,_,(aa I1.out (aa I2.out (aa I3.out (aa I4.out (ah HZ.out _))))),.inr ⟨HZ.out,rfl,HP.out⟩⟩
 have H4:=ai h4;clear h4 i4 z4
 go_wp2_with fail
 refine (bS H4.out (by omega) (by kernel_rfl)).mono ?_;rintro e w5 ⟨d5,i5,o5⟩;have I5:=ai i5
 rcases o5 with ⟨z5,rfl,h5⟩|⟨z5,rfl,h5⟩
 rotate_left
 ·have HP:=ai h5;have HZ:=ai z5;clear h5 i5 z5
  go_wp2_with fail
  exact ⟨rfl,_,(aa I1.out (aa I2.out (aa I3.out (aa I4.out (aa I5.out (ah HZ.out _)))))),.inr ⟨HZ.out,rfl,HP.out⟩⟩
 have H5:=ai h5;clear h5 i5 z5
 go_wp2_with fail
 refine (aP H5.out (by omega) (by omega) (gt _) (hexprA (ms (aF X.l) d5) (by have m0:=HM.out;have m1:=av aC I1.out H0.out.e0 H1.out.e0;have m2:=av cP I2.out H1.out.e0 H2.out.e0;have m3:=av aC I3.out H2.out.e0 H3.out.e0;have m4:=bH I4.out;have m5:=av aC I5.out H4.out.e0 H5.out.e0;omega)) dv rfl (fun d' hh=>aT (m:=.expr) rfl hh)).mono ?_;rintro e w6 ⟨d6,i6,o6⟩;have I6:=ai i6
 rcases o6 with ⟨z6,rfl,h6⟩|⟨z6,rfl,h6⟩
 rotate_left
 ·have HP:=ai h6;have HZ:=ai z6;clear h6 i6 z6
  go_wp2_with fail
  exact ⟨rfl,_,(aa I1.out (aa I2.out (aa I3.out (aa I4.out (aa I5.out (aa I6.out (ah HZ.out _))))))),.inr ⟨HZ.out,rfl,HP.out⟩⟩
 have H6:=ai h6;clear h6 i6 z6
 go_wp2_with fail
 refine ((hdoneA (ms (aF X.l) d6) (by have m0:=HM.out;have m1:=av aC I1.out H0.out.e0 H1.out.e0;have m2:=av cP I2.out H1.out.e0 H2.out.e0;have m3:=av aC I3.out H2.out.e0 H3.out.e0;have m4:=bH I4.out;have m5:=av aC I5.out H4.out.e0 H5.out.e0;have m6:=bH I6.out;omega)) X _ _ _ H6.out (by omega) (gt _)).mono ?_;rintro e w7 ⟨d7,i7,o7⟩;have I7:=ai i7
 rcases o7 with ⟨z7,rfl,h7⟩|⟨z7,rfl,h7⟩
 rotate_left
 ·have HP:=ai h7;have HZ:=ai z7;clear h7 i7 z7
  go_wp2_with fail
  exact ⟨rfl,_,(aa I1.out (aa I2.out (aa I3.out (aa I4.out (aa I5.out (aa I6.out (cR I7.out (ah HZ.out _)))))))),.inr ⟨HZ.out,rfl,HP.out⟩⟩
 have H7:=ai h7;clear h7 i7 z7
 go_wp2_with fail
 go_end0
 exact ⟨_,(aa I1.out (aa I2.out (aa I3.out (aa I4.out (aa I5.out (aa I6.out (cR I7.out aE))))))),.inl ⟨H7.out.e0,rfl,H7.out⟩⟩
theorem A1 (n:Nat) (hbodyA:∀k,k<n->bG 191 gu 45 k) (hexprA:∀k,k<n->bG 232 dq 50 k):bG 240 jo 90 n:=by
 intro X r d W h hr hm;have H0:Hid (SD X r d W):=h;have HM:Hid (ms (aF X.l) d<=n):=hm;have hmf:=mkfn;clear h hm
 go_enter Tryz.func240,Tryz.ntmps240
 go_wp2_with fail
 refine (bS H0.out (by omega) (by kernel_rfl)).mono ?_;rintro e w1 ⟨d1,i1,o1⟩;have I1:=ai i1
 rcases o1 with ⟨z1,rfl,h1⟩|⟨z1,rfl,h1⟩
 rotate_left
 ·have HP:=ai h1;have HZ:=ai z1;clear h1 i1 z1
  go_wp2_with fail
  exact ⟨rfl,_,(aa I1.out (ah HZ.out _)),.inr ⟨HZ.out,rfl,HP.out⟩⟩
 have H1:=ai h1;clear h1 i1 z1
 go_wp2_with fail
 refine (aP H1.out (by omega) (by omega) (gt _) (hbodyA (ms (aF X.l) d1) (by have m0:=HM.out;have m1:=av aC I1.out H0.out.e0 H1.out.e0;omega)) ju rfl (fun d' hh=>aT (m:=.body) rfl hh)).mono ?_;rintro e w2 ⟨d2,i2,o2⟩;have I2:=ai i2
 rcases o2 with ⟨z2,rfl,h2⟩|⟨z2,rfl,h2⟩
 rotate_left
 ·have HP:=ai h2;have HZ:=ai z2;clear h2 i2 z2
  go_wp2_with fail
  exact ⟨rfl,_,(aa I1.out (aa I2.out (ah HZ.out _))),.inr ⟨HZ.out,rfl,HP.out⟩⟩
 have H2:=ai h2;clear h2 i2 z2
 go_wp2_with fail
 refine (bS H2.out (by omega) (by kernel_rfl)).mono ?_;rintro e w3 ⟨d3,i3,o3⟩;have I3:=ai i3
 rcases o3 with ⟨z3,rfl,h3⟩|⟨z3,rfl,h3⟩
 rotate_left
 ·have HP:=ai h3;have HZ:=ai z3;clear h3 i3 z3
  go_wp2_with fail
  exact ⟨rfl,_,(aa I1.out (aa I2.out (aa I3.out (ah HZ.out _)))),.inr ⟨HZ.out,rfl,HP.out⟩⟩
 have H3:=ai h3;clear h3 i3 z3
 go_wp2_with fail
 refine (aP H3.out (by omega) (by omega) (gt _) (hexprA (ms (aF X.l) d3) (by have m0:=HM.out;have m1:=av aC I1.out H0.out.e0 H1.out.e0;have m2:=bH I2.out;have m3:=av aC I3.out H2.out.e0 H3.out.e0;omega)) dv rfl (fun d' hh=>aT (m:=.expr) rfl hh)).mono ?_;rintro e w4 ⟨d4,i4,o4⟩;have I4:=ai i4
 rcases o4 with ⟨z4,rfl,h4⟩|⟨z4,rfl,h4⟩
 rotate_left
 ·have HP:=ai h4;have HZ:=ai z4;clear h4 i4 z4
  go_wp2_with fail
  exact ⟨rfl,_,(aa I1.out (aa I2.out (aa I3.out (aa I4.out (ah HZ.out _))))),.inr ⟨HZ.out,rfl,HP.out⟩⟩
 have H4:=ai h4;clear h4 i4 z4
 go_wp2_with fail
 go_end0
 exact ⟨_,(aa I1.out (aa I2.out (aa I3.out (aa I4.out aE)))),.inl ⟨H4.out.e0,rfl,H4.out⟩⟩
theorem Ct (n:Nat) (hexprA:∀k,k<n->bG 232 dq 50 k):bG 241 jp 90 n:=by
 intro X r d W h hr hm;have H0:Hid (SD X r d W):=h;have HM:Hid (ms (aF X.l) d<=n):=hm;have hmf:=mkfn;clear h hm
 go_enter Tryz.func241,Tryz.ntmps241
 go_wp2_with fail
 refine (bS H0.out (by omega) (by kernel_rfl)).mono ?_;rintro e w1 ⟨d1,i1,o1⟩;have I1:=ai i1
 rcases o1 with ⟨z1,rfl,h1⟩|⟨z1,rfl,h1⟩
 rotate_left
 ·have HP:=ai h1;have HZ:=ai z1;clear h1 i1 z1
  go_wp2_with fail
  exact ⟨rfl,_,(aa I1.out (ah HZ.out _)),.inr ⟨HZ.out,rfl,HP.out⟩⟩
 have H1:=ai h1;clear h1 i1 z1
 go_wp2_with fail
 refine (pj H1.out).mono ?_;rintro e w2 ⟨b2,rfl,hbe2,hb2⟩;have H2:=show Hid _ from H1.out.below hb2
 have PB2:=show Hid _ from hbe2 .expr
 clear hb2 hbe2;cases b2 with
 |true=>
  go_wp2_with fail
  refine (aP H2.out (by omega) (by omega) (gt _) (hexprA (ms (aF X.l) d1) (by have m0:=HM.out;have m1:=av aC I1.out H0.out.e0 H1.out.e0;omega)) dv rfl (fun d' hh=>bi PB2.out (aT (m:=.expr) rfl hh))).mono ?_;rintro e w3 ⟨d3,i3,o3⟩;have I3:=ai i3
  rcases o3 with ⟨z3,rfl,h3⟩|⟨z3,rfl,h3⟩
  rotate_left
  ·have HP:=ai h3;have HZ:=ai z3;clear h3 i3 z3
   go_wp2_with fail
   exact ⟨rfl,_,(aa I1.out (aa I3.out (ah HZ.out _))),.inr ⟨HZ.out,rfl,HP.out⟩⟩
  have H3:=ai h3;clear h3 i3 z3
  go_wp2_with fail
  go_end0
  exact ⟨_,(aa I1.out (aa I3.out aE)),.inl ⟨H3.out.e0,rfl,H3.out⟩⟩
 |false=>
  go_wp2_with fail
  go_end0
  exact ⟨_,(aa I1.out (aa (aZ PB2.out) aE)),.inl ⟨H2.out.e0,rfl,H2.out⟩⟩
theorem we (n:Nat) (hbodyA:∀k,k<n->bG 191 gu 45 k):bG 242 gq 90 n:=by
 intro X r d W h hr hm;have H0:Hid (SD X r d W):=h;have HM:Hid (ms (aF X.l) d<=n):=hm;have hmf:=mkfn;clear h hm
 go_enter Tryz.func242,Tryz.ntmps242
 go_wp2_with fail
 refine (bS H0.out (by omega) (by kernel_rfl)).mono ?_;rintro e w1 ⟨d1,i1,o1⟩;have I1:=ai i1
 rcases o1 with ⟨z1,rfl,h1⟩|⟨z1,rfl,h1⟩
 rotate_left
 ·have HP:=ai h1;have HZ:=ai z1;clear h1 i1 z1
  go_wp2_with fail
  exact ⟨rfl,_,(aa I1.out (ah HZ.out _)),.inr ⟨HZ.out,rfl,HP.out⟩⟩
 have H1:=ai h1;clear h1 i1 z1
 go_wp2_with fail
 refine (aP H1.out (by omega) (by omega) (gt _) (hbodyA (ms (aF X.l) d1) (by have m0:=HM.out;have m1:=av aC I1.out H0.out.e0 H1.out.e0;omega)) ju rfl (fun d' hh=>aT (m:=.body) rfl hh)).mono ?_;rintro e w2 ⟨d2,i2,o2⟩;have I2:=ai i2
 rcases o2 with ⟨z2,rfl,h2⟩|⟨z2,rfl,h2⟩
 rotate_left
 ·have HP:=ai h2;have HZ:=ai z2;clear h2 i2 z2
  go_wp2_with fail
  exact ⟨rfl,_,(aa I1.out (aa I2.out (ah HZ.out _))),.inr ⟨HZ.out,rfl,HP.out⟩⟩
 have H2:=ai h2;clear h2 i2 z2
 go_wp2_with fail
 refine (bS H2.out (by omega) (by kernel_rfl)).mono ?_;rintro e w3 ⟨d3,i3,o3⟩;have I3:=ai i3
 rcases o3 with ⟨z3,rfl,h3⟩|⟨z3,rfl,h3⟩
 rotate_left
 ·have HP:=ai h3;have HZ:=ai z3;clear h3 i3 z3
  go_wp2_with fail
  exact ⟨rfl,_,(aa I1.out (aa I2.out (aa I3.out (ah HZ.out _)))),.inr ⟨HZ.out,rfl,HP.out⟩⟩
 have H3:=ai h3;clear h3 i3 z3
 go_wp2_with fail
 go_end0
 exact ⟨_,(aa I1.out (aa I2.out (aa I3.out aE))),.inl ⟨H3.out.e0,rfl,H3.out⟩⟩
end Go.Proofs.YtjiepkenkcgkhaaGreatDoor
