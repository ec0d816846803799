import Derived.Test.YtkigadnkclkopaaGreatDoorM30
set_option linter.unusedVariables false
set_option linter.unusedSimpArgs false
namespace Go.Proofs.YtkigadnkclkopaaGreatDoor
open Go.RowKit
set_option maxHeartbeats 2000000 in
theorem block_rc (n:Nat) (hdeclaration:PD .declaration 114 n) (hbodyA:∀k,k<n→RwC 115 gr_body 45 k):RwC 80 gr_block 40 n:=by
 intro X r d W h hr hm
 have H0:Hid (SD X r d W):=h
 have HM:Hid (ms (tks X.l) d≤n):=hm
 have hmf:∀(fn:Fn) (first cap:Array Value) (w:World),(Instr.makeFunc fn first cap).run Tryz.prog w=.ok (.func fn first cap) w:=fun _ _ _ _=>rfl
 clear h hm
 go_enter Tryz.func80,Tryz.ntmps80
 have HD1:Hid (PD .declaration 114 n):=hdeclaration
 go_wp2_with fail
 refine (HD1.out X _ _ _ H0.out).mono ?_
 rintro e w1 ⟨u1,v1,rfl,p1,hb1⟩
 have P1:=hid p1
 have H1:=show Hid _ from H0.out.below hb1
 clear p1 hb1
 go_wp2_with fail
 go_loopw [2,3] (fun u v wr=>∃dk,Hid (SD X r dk wr)∧Hid (Lp (tks X.l) (.fn .declaration) d dk)∧Hid (PickD X .declaration n dk u v)) (fun _ _ wr=>mW X wr)
 case atStart=>exact ⟨_,H1.out,.refl,P1.out⟩
 case round=>
  obtain ⟨e1,HJ1,HP1,HK1⟩:=hrel
  clear P1
  rcases HK1.out with ⟨nd,ff,rw0,it0,rfl,rfl,hent,hlv,hrc,hpk,hop⟩|⟨rfl,rfl,hpk⟩
  ·have hne:=fneq_fn ff X.g
   have HPK:=hid hpk
   have HN:Hid (Calls Tryz.prog 32 #[pg X.g,.int .u8 nd,fv ff X.g] wr fun e w'=>∃d',Ib (tks X.l) it0 e1 d'∧Out X (.tuple #[]) d' e w'):=node_ib HJ1.out (by omega) (by omega) (by have m0:=HM.out;have ml1:=HP1.out.le;omega) hrc hent hlv hop
   have HLT:Hid (∀d',Ib (tks X.l) it0 e1 d'→d'.e=0→ms (tks X.l) d' < ms (tks X.l) e1):=fun d' h1 h2=>pick_lt HPK.out h1 HJ1.out.e0 h2
   clear hrc hop hent hpk hlv HK1
   go_wp2_with fail
   refine HN.out.mono ?_
   rintro e w2 ⟨d2,i2,o2⟩
   have I2:=hid i2
   rcases o2 with ⟨z2,rfl,h2⟩|⟨z2,rfl,h2⟩
   rotate_left
   ·have HP:=hid h2
    have HZ:=hid z2
    clear h2 i2 z2
    go_wp2_with fail
    exact ⟨rfl,_,(rb_cons (HP1.out.go _ (ib_again1 HPK.out I2.out (dead_again HZ.out))) (dead_rb HZ.out _)),.inr ⟨HZ.out,rfl,HP.out⟩⟩
   have H2:=hid h2
   clear h2 i2 z2
   go_wp2_with fail
   refine (HD1.out X _ _ _ H2.out).mono ?_
   rintro e w3 ⟨u3,v3,rfl,p3,hb3⟩
   have P3:=hid p3
   have H3:=show Hid _ from H2.out.below hb3
   clear p3 hb3
   go_wp2_with fail
   exact ⟨⟨_,H3.out.up (Nat.zero_le _),HP1.out.step HPK.out I2.out,P3.out⟩,mw_lt HJ1.out H3.out (by have m0:=HM.out;have ml1:=HP1.out.le;have m2:=ms_ib I2.out;have mx:=HLT.out _ I2.out H2.out.e0;omega)⟩
  ·have hne:=fneq_nil
   have HPK:=hid hpk
   clear hpk HK1
   go_wp2_with fail
   refine (key_ib HJ1.out (by omega) (by kernel_rfl)).mono ?_
   rintro e w24 ⟨d24,i24,o24⟩
   have I24:=hid i24
   rcases o24 with ⟨z24,rfl,h24⟩|⟨z24,rfl,h24⟩
   rotate_left
   ·have HP:=hid h24
    have HZ:=hid z24
    clear h24 i24 z24
    go_wp2_with fail
    exact ⟨rfl,_,(rb_cons (HP1.out.fin HPK.out) (rb_cons I24.out (dead_rb HZ.out _))),.inr ⟨HZ.out,rfl,HP.out⟩⟩
   have H24:=hid h24
   clear h24 i24 z24
   go_wp2_with fail
   refine (node_ib H24.out (by omega) (by omega) (Nat.le_refl _) (hbodyA (ms (tks X.l) d24) (by have m0:=HM.out;have ml1:=HP1.out.le;have m24:=tok_lt ne_wd I24.out HJ1.out.e0 H24.out.e0;omega)) en_body rfl (fun d' hh=>ib_op (m:=.body) rfl hh)).mono ?_
   rintro e w25 ⟨d25,i25,o25⟩
   have I25:=hid i25
   rcases o25 with ⟨z25,rfl,h25⟩|⟨z25,rfl,h25⟩
   rotate_left
   ·have HP:=hid h25
    have HZ:=hid z25
    clear h25 i25 z25
    go_wp2_with fail
    exact ⟨rfl,_,(rb_cons (HP1.out.fin HPK.out) (rb_cons I24.out (rb_cons I25.out (dead_rb HZ.out _)))),.inr ⟨HZ.out,rfl,HP.out⟩⟩
   have H25:=hid h25
   clear h25 i25 z25
   go_wp2_with fail
   refine (key_ib H25.out (by omega) (by kernel_rfl)).mono ?_
   rintro e w26 ⟨d26,i26,o26⟩
   have I26:=hid i26
   rcases o26 with ⟨z26,rfl,h26⟩|⟨z26,rfl,h26⟩
   rotate_left
   ·have HP:=hid h26
    have HZ:=hid z26
    clear h26 i26 z26
    go_wp2_with fail
    exact ⟨rfl,_,(rb_cons (HP1.out.fin HPK.out) (rb_cons I24.out (rb_cons I25.out (rb_cons I26.out (dead_rb HZ.out _))))),.inr ⟨HZ.out,rfl,HP.out⟩⟩
   have H26:=hid h26
   clear h26 i26 z26
   go_wp2_with fail
   go_end0
   exact ⟨_,(rb_cons (HP1.out.fin HPK.out) (rb_cons I24.out (rb_cons I25.out (rb_cons I26.out rb_nil)))),.inl ⟨H26.out.e0,rfl,H26.out⟩⟩
set_option maxHeartbeats 2000000 in
theorem variables_rc (n:Nat) (htypedA:∀k,k<n→RwC 160 gr_typed 90 k):RwC 134 gr_variables 90 n:=by
 intro X r d W h hr hm
 have H0:Hid (SD X r d W):=h
 have HM:Hid (ms (tks X.l) d≤n):=hm
 have hmf:∀(fn:Fn) (first cap:Array Value) (w:World),(Instr.makeFunc fn first cap).run Tryz.prog w=.ok (.func fn first cap) w:=fun _ _ _ _=>rfl
 clear h hm
 go_enter Tryz.func134,Tryz.ntmps134
 go_wp2_with fail
 refine (key_ib H0.out (by omega) (by kernel_rfl)).mono ?_
 rintro e w1 ⟨d1,i1,o1⟩
 have I1:=hid i1
 rcases o1 with ⟨z1,rfl,h1⟩|⟨z1,rfl,h1⟩
 rotate_left
 ·have HP:=hid h1
  have HZ:=hid z1
  clear h1 i1 z1
  go_wp2_with fail
  exact ⟨rfl,_,(rb_cons I1.out (dead_rb HZ.out _)),.inr ⟨HZ.out,rfl,HP.out⟩⟩
 have H1:=hid h1
 clear h1 i1 z1
 go_wp2_with fail
 refine ((htypedA (ms (tks X.l) d1) (by have m0:=HM.out;have m1:=tok_lt ne_wd I1.out H0.out.e0 H1.out.e0;omega)) X _ _ _ H1.out (by omega) (Nat.le_refl _)).mono ?_
 rintro e w2 ⟨d2,i2,o2⟩
 replace i2:=show Ib (tks X.l) (.fl (.mt .typed)) d1 d2 from ib_ex rfl i2
 have I2:=hid i2
 rcases o2 with ⟨z2,rfl,h2⟩|⟨z2,rfl,h2⟩
 rotate_left
 ·have HP:=hid h2
  have HZ:=hid z2
  clear h2 i2 z2
  go_wp2_with fail
  exact ⟨rfl,_,(rb_cons I1.out (rb_cons I2.out (dead_rb HZ.out _))),.inr ⟨HZ.out,rfl,HP.out⟩⟩
 have H2:=hid h2
 clear h2 i2 z2
 go_wp2_with fail
 refine (sign_ib H2.out (by omega) (by kernel_rfl)).mono ?_
 rintro e w3 ⟨d3,i3,o3⟩
 have I3:=hid i3
 rcases o3 with ⟨z3,rfl,h3⟩|⟨z3,rfl,h3⟩
 rotate_left
 ·have HP:=hid h3
  have HZ:=hid z3
  clear h3 i3 z3
  go_wp2_with fail
  exact ⟨rfl,_,(rb_cons I1.out (rb_cons I2.out (rb_cons I3.out (dead_rb HZ.out _)))),.inr ⟨HZ.out,rfl,HP.out⟩⟩
 have H3:=hid h3
 clear h3 i3 z3
 go_wp2_with fail
 go_end0
 exact ⟨_,(rb_cons I1.out (rb_cons I2.out (rb_cons I3.out rb_nil))),.inl ⟨H3.out.e0,rfl,H3.out⟩⟩
set_option maxHeartbeats 2000000 in
theorem constant_rc (n:Nat) (hexprA:∀k,k<n→RwC 161 gr_expr 50 k):RwC 135 gr_constant 90 n:=by
 intro X r d W h hr hm
 have H0:Hid (SD X r d W):=h
 have HM:Hid (ms (tks X.l) d≤n):=hm
 have hmf:∀(fn:Fn) (first cap:Array Value) (w:World),(Instr.makeFunc fn first cap).run Tryz.prog w=.ok (.func fn first cap) w:=fun _ _ _ _=>rfl
 clear h hm
 go_enter Tryz.func135,Tryz.ntmps135
 go_wp2_with fail
 refine (key_ib H0.out (by omega) (by kernel_rfl)).mono ?_
 rintro e w1 ⟨d1,i1,o1⟩
 have I1:=hid i1
 rcases o1 with ⟨z1,rfl,h1⟩|⟨z1,rfl,h1⟩
 rotate_left
 ·have HP:=hid h1
  have HZ:=hid z1
  clear h1 i1 z1
  go_wp2_with fail
  exact ⟨rfl,_,(rb_cons I1.out (dead_rb HZ.out _)),.inr ⟨HZ.out,rfl,HP.out⟩⟩
 have H1:=hid h1
 clear h1 i1 z1
 go_wp2_with fail
 refine (name_ib H1.out (by omega)).mono ?_
 rintro e w2 ⟨d2,i2,o2⟩
 have I2:=hid i2
 rcases o2 with ⟨z2,rfl,h2⟩|⟨z2,rfl,h2⟩
 rotate_left
 ·have HP:=hid h2
  have HZ:=hid z2
  clear h2 i2 z2
  go_wp2_with fail
  exact ⟨rfl,_,(rb_cons I1.out (rb_cons I2.out (dead_rb HZ.out _))),.inr ⟨HZ.out,rfl,HP.out⟩⟩
 have H2:=hid h2
 clear h2 i2 z2
 go_wp2_with fail
 refine (sign_ib H2.out (by omega) (by kernel_rfl)).mono ?_
 rintro e w3 ⟨d3,i3,o3⟩
 have I3:=hid i3
 rcases o3 with ⟨z3,rfl,h3⟩|⟨z3,rfl,h3⟩
 rotate_left
 ·have HP:=hid h3
  have HZ:=hid z3
  clear h3 i3 z3
  go_wp2_with fail
  exact ⟨rfl,_,(rb_cons I1.out (rb_cons I2.out (rb_cons I3.out (dead_rb HZ.out _)))),.inr ⟨HZ.out,rfl,HP.out⟩⟩
 have H3:=hid h3
 clear h3 i3 z3
 go_wp2_with fail
 refine (node_ib H3.out (by omega) (by omega) (Nat.le_refl _) (hexprA (ms (tks X.l) d3) (by have m0:=HM.out;have m1:=tok_lt ne_wd I1.out H0.out.e0 H1.out.e0;have m2:=tok_lt ne_nm I2.out H1.out.e0 H2.out.e0;have m3:=tok_lt ne_wd I3.out H2.out.e0 H3.out.e0;omega)) en_expr rfl (fun d' hh=>ib_op (m:=.expr) rfl hh)).mono ?_
 rintro e w4 ⟨d4,i4,o4⟩
 have I4:=hid i4
 rcases o4 with ⟨z4,rfl,h4⟩|⟨z4,rfl,h4⟩
 rotate_left
 ·have HP:=hid h4
  have HZ:=hid z4
  clear h4 i4 z4
  go_wp2_with fail
  exact ⟨rfl,_,(rb_cons I1.out (rb_cons I2.out (rb_cons I3.out (rb_cons I4.out (dead_rb HZ.out _))))),.inr ⟨HZ.out,rfl,HP.out⟩⟩
 have H4:=hid h4
 clear h4 i4 z4
 go_wp2_with fail
 refine (sign_ib H4.out (by omega) (by kernel_rfl)).mono ?_
 rintro e w5 ⟨d5,i5,o5⟩
 have I5:=hid i5
 rcases o5 with ⟨z5,rfl,h5⟩|⟨z5,rfl,h5⟩
 rotate_left
 ·have HP:=hid h5
  have HZ:=hid z5
  clear h5 i5 z5
  go_wp2_with fail
  exact ⟨rfl,_,(rb_cons I1.out (rb_cons I2.out (rb_cons I3.out (rb_cons I4.out (rb_cons I5.out (dead_rb HZ.out _)))))),.inr ⟨HZ.out,rfl,HP.out⟩⟩
 have H5:=hid h5
 clear h5 i5 z5
 go_wp2_with fail
 go_end0
 exact ⟨_,(rb_cons I1.out (rb_cons I2.out (rb_cons I3.out (rb_cons I4.out (rb_cons I5.out rb_nil))))),.inl ⟨H5.out.e0,rfl,H5.out⟩⟩
set_option maxHeartbeats 2000000 in
theorem procedure_rc (n:Nat) (hparamsA:∀k,k<n→RwC 162 gr_params 90 k) (hkindA:∀k,k<n→PC .kind 163 k) (hblockA:∀k,k<n→RwC 80 gr_block 40 k):RwC 136 gr_procedure 90 n:=by
 intro X r d W h hr hm
 have H0:Hid (SD X r d W):=h
 have HM:Hid (ms (tks X.l) d≤n):=hm
 have hmf:∀(fn:Fn) (first cap:Array Value) (w:World),(Instr.makeFunc fn first cap).run Tryz.prog w=.ok (.func fn first cap) w:=fun _ _ _ _=>rfl
 clear h hm
 go_enter Tryz.func136,Tryz.ntmps136
 go_wp2_with fail
 refine (key_ib H0.out (by omega) (by kernel_rfl)).mono ?_
 rintro e w1 ⟨d1,i1,o1⟩
 have I1:=hid i1
 rcases o1 with ⟨z1,rfl,h1⟩|⟨z1,rfl,h1⟩
 rotate_left
 ·have HP:=hid h1
  have HZ:=hid z1
  clear h1 i1 z1
  go_wp2_with fail
  exact ⟨rfl,_,(rb_cons I1.out (dead_rb HZ.out _)),.inr ⟨HZ.out,rfl,HP.out⟩⟩
 have H1:=hid h1
 clear h1 i1 z1
 go_wp2_with fail
 refine (name_ib H1.out (by omega)).mono ?_
 rintro e w2 ⟨d2,i2,o2⟩
 have I2:=hid i2
 rcases o2 with ⟨z2,rfl,h2⟩|⟨z2,rfl,h2⟩
 rotate_left
 ·have HP:=hid h2
  have HZ:=hid z2
  clear h2 i2 z2
  go_wp2_with fail
  exact ⟨rfl,_,(rb_cons I1.out (rb_cons I2.out (dead_rb HZ.out _))),.inr ⟨HZ.out,rfl,HP.out⟩⟩
 have H2:=hid h2
 clear h2 i2 z2
 go_wp2_with fail
 refine (ssign_any H2.out.sv (ps_le _ _)).mono ?_
 rintro e w3 ⟨rfl,hb3⟩
 have H3:=show Hid _ from H2.out.below hb3
 clear hb3
 obtain ⟨a3,ea3⟩:∃a,kt 6 (nx X (ps X.l d2.i))=a:=⟨_,rfl⟩
 rw [ea3]
 have A3:=hid ea3
 clear ea3
 by_cases hq3:(a3.toList == [40])=true
 ·have PB3:=show Hid _ from br_yes H3.out A3.out hq3
  go_wp2_with fail
  refine (node_ib H3.out (by omega) (by omega) (Nat.le_refl _) (hparamsA (ms (tks X.l) d2) (by have m0:=HM.out;have m1:=tok_lt ne_wd I1.out H0.out.e0 H1.out.e0;have m2:=tok_lt ne_nm I2.out H1.out.e0 H2.out.e0;omega)) en_params rfl (fun d' hh=>ib_once1 PB3.out (ib_op (m:=.params) rfl hh))).mono ?_
  rintro e w4 ⟨d4,i4,o4⟩
  have I4:=hid i4
  rcases o4 with ⟨z4,rfl,h4⟩|⟨z4,rfl,h4⟩
  rotate_left
  ·have HP:=hid h4
   have HZ:=hid z4
   clear h4 i4 z4
   go_wp2_with fail
   exact ⟨rfl,_,(rb_cons I1.out (rb_cons I2.out (rb_cons I4.out (dead_rb HZ.out _)))),.inr ⟨HZ.out,rfl,HP.out⟩⟩
  have H4:=hid h4
  clear h4 i4 z4
  go_wp2_with fail
  refine (maybeSign_ib H4.out (by omega) [⟨#[58]⟩] (by simp) (by kernel_rfl) rfl rfl).mono ?_
  rintro e w5 (⟨q5,rfl,h5⟩|⟨q5,d5,i5,o5⟩)
  rotate_left
  ·have Q5:=hid q5
   clear q5
   have I5:=hid i5
   rcases o5 with ⟨z5,rfl,h5⟩|⟨z5,rfl,h5⟩
   rotate_left
   ·have HP:=hid h5
    have HZ:=hid z5
    clear h5 i5 z5
    go_wp2_with fail
    exact ⟨rfl,_,(rb_cons I1.out (rb_cons I2.out (rb_cons I4.out (rb_cons (ib_once1 (pick_row1 Q5.out) (ib_all (rb_cons I5.out (dead_rb HZ.out _)))) (dead_rb HZ.out _))))),.inr ⟨HZ.out,rfl,HP.out⟩⟩
   have H5:=hid h5
   clear h5 i5 z5
   go_wp2_with fail
   refine ((hkindA (ms (tks X.l) d5) (by have m0:=HM.out;have m1:=tok_lt ne_wd I1.out H0.out.e0 H1.out.e0;have m2:=tok_lt ne_nm I2.out H1.out.e0 H2.out.e0;have m4:=ms_ib I4.out;have m5:=tok_lt ne_wd I5.out H4.out.e0 H5.out.e0;omega)) X _ _ _ H5.out).mono ?_
   rintro e w6 ⟨u6,v6,rfl,p6,hb6⟩
   have P6:=hid p6
   have H6:=show Hid _ from H5.out.below hb6
   clear p6 hb6
   go_wp2_with fail
   refine (one_pick H6.out (by omega) (Nat.le_refl _) P6.out).mono ?_
   rintro e w7 ⟨d7,i7,o7⟩
   have I7:=hid i7
   rcases o7 with ⟨z7,rfl,h7⟩|⟨z7,rfl,h7⟩
   rotate_left
   ·have HP:=hid h7
    have HZ:=hid z7
    clear h7 i7 z7
    go_wp2_with fail
    exact ⟨rfl,_,(rb_cons I1.out (rb_cons I2.out (rb_cons I4.out (rb_cons (ib_once1 (pick_row1 Q5.out) (ib_all (rb_cons I5.out (rb_cons I7.out (dead_rb HZ.out _))))) (dead_rb HZ.out _))))),.inr ⟨HZ.out,rfl,HP.out⟩⟩
   have H7:=hid h7
   clear h7 i7 z7
   go_wp2_with fail
   refine (sign_ib H7.out (by omega) (by kernel_rfl)).mono ?_
   rintro e w8 ⟨d8,i8,o8⟩
   have I8:=hid i8
   rcases o8 with ⟨z8,rfl,h8⟩|⟨z8,rfl,h8⟩
   rotate_left
   ·have HP:=hid h8
    have HZ:=hid z8
    clear h8 i8 z8
    go_wp2_with fail
    exact ⟨rfl,_,(rb_cons I1.out (rb_cons I2.out (rb_cons I4.out (rb_cons (ib_once1 (pick_row1 Q5.out) (ib_all (rb_cons I5.out (rb_cons I7.out rb_nil)))) (rb_cons I8.out (dead_rb HZ.out _)))))),.inr ⟨HZ.out,rfl,HP.out⟩⟩
   have H8:=hid h8
   clear h8 i8 z8
   go_wp2_with fail
   refine (node_ib H8.out (by omega) (by omega) (Nat.le_refl _) (hblockA (ms (tks X.l) d8) (by have m0:=HM.out;have m1:=tok_lt ne_wd I1.out H0.out.e0 H1.out.e0;have m2:=tok_lt ne_nm I2.out H1.out.e0 H2.out.e0;have m4:=ms_ib I4.out;have m5:=tok_lt ne_wd I5.out H4.out.e0 H5.out.e0;have m7:=ms_ib I7.out;have m8:=tok_lt ne_wd I8.out H7.out.e0 H8.out.e0;omega)) en_block rfl (fun d' hh=>ib_op (m:=.block) rfl hh)).mono ?_
   rintro e w9 ⟨d9,i9,o9⟩
   have I9:=hid i9
   rcases o9 with ⟨z9,rfl,h9⟩|⟨z9,rfl,h9⟩
   rotate_left
   ·have HP:=hid h9
    have HZ:=hid z9
    clear h9 i9 z9
    go_wp2_with fail
    exact ⟨rfl,_,(rb_cons I1.out (rb_cons I2.out (rb_cons I4.out (rb_cons (ib_once1 (pick_row1 Q5.out) (ib_all (rb_cons I5.out (rb_cons I7.out rb_nil)))) (rb_cons I8.out (rb_cons I9.out (dead_rb HZ.out _))))))),.inr ⟨HZ.out,rfl,HP.out⟩⟩
   have H9:=hid h9
   clear h9 i9 z9
   go_wp2_with fail
   refine (sign_ib H9.out (by omega) (by kernel_rfl)).mono ?_
   rintro e w10 ⟨d10,i10,o10⟩
   have I10:=hid i10
   rcases o10 with ⟨z10,rfl,h10⟩|⟨z10,rfl,h10⟩
   rotate_left
   ·have HP:=hid h10
    have HZ:=hid z10
    clear h10 i10 z10
    go_wp2_with fail
    exact ⟨rfl,_,(rb_cons I1.out (rb_cons I2.out (rb_cons I4.out (rb_cons (ib_once1 (pick_row1 Q5.out) (ib_all (rb_cons I5.out (rb_cons I7.out rb_nil)))) (rb_cons I8.out (rb_cons I9.out (rb_cons I10.out (dead_rb HZ.out _)))))))),.inr ⟨HZ.out,rfl,HP.out⟩⟩
   have H10:=hid h10
   clear h10 i10 z10
   go_wp2_with fail
   go_end0
   exact ⟨_,(rb_cons I1.out (rb_cons I2.out (rb_cons I4.out (rb_cons (ib_once1 (pick_row1 Q5.out) (ib_all (rb_cons I5.out (rb_cons I7.out rb_nil)))) (rb_cons I8.out (rb_cons I9.out (rb_cons I10.out rb_nil))))))),.inl ⟨H10.out.e0,rfl,H10.out⟩⟩
  have Q5:=hid q5
  have H5:=hid h5
  clear q5 h5
  go_wp2_with fail
  refine (sign_ib H5.out (by omega) (by kernel_rfl)).mono ?_
  rintro e w31 ⟨d31,i31,o31⟩
  have I31:=hid i31
  rcases o31 with ⟨z31,rfl,h31⟩|⟨z31,rfl,h31⟩
  rotate_left
  ·have HP:=hid h31
   have HZ:=hid z31
   clear h31 i31 z31
   go_wp2_with fail
   exact ⟨rfl,_,(rb_cons I1.out (rb_cons I2.out (rb_cons I4.out (rb_cons (ib_once0 (pick_row0 Q5.out)) (rb_cons I31.out (dead_rb HZ.out _)))))),.inr ⟨HZ.out,rfl,HP.out⟩⟩
  have H31:=hid h31
  clear h31 i31 z31
  go_wp2_with fail
  refine (node_ib H31.out (by omega) (by omega) (Nat.le_refl _) (hblockA (ms (tks X.l) d31) (by have m0:=HM.out;have m1:=tok_lt ne_wd I1.out H0.out.e0 H1.out.e0;have m2:=tok_lt ne_nm I2.out H1.out.e0 H2.out.e0;have m4:=ms_ib I4.out;have m31:=tok_lt ne_wd I31.out H5.out.e0 H31.out.e0;omega)) en_block rfl (fun d' hh=>ib_op (m:=.block) rfl hh)).mono ?_
  rintro e w32 ⟨d32,i32,o32⟩
  have I32:=hid i32
  rcases o32 with ⟨z32,rfl,h32⟩|⟨z32,rfl,h32⟩
  rotate_left
  ·have HP:=hid h32
   have HZ:=hid z32
   clear h32 i32 z32
   go_wp2_with fail
   exact ⟨rfl,_,(rb_cons I1.out (rb_cons I2.out (rb_cons I4.out (rb_cons (ib_once0 (pick_row0 Q5.out)) (rb_cons I31.out (rb_cons I32.out (dead_rb HZ.out _))))))),.inr ⟨HZ.out,rfl,HP.out⟩⟩
  have H32:=hid h32
  clear h32 i32 z32
  go_wp2_with fail
  refine (sign_ib H32.out (by omega) (by kernel_rfl)).mono ?_
  rintro e w33 ⟨d33,i33,o33⟩
  have I33:=hid i33
  rcases o33 with ⟨z33,rfl,h33⟩|⟨z33,rfl,h33⟩
  rotate_left
  ·have HP:=hid h33
   have HZ:=hid z33
   clear h33 i33 z33
   go_wp2_with fail
   exact ⟨rfl,_,(rb_cons I1.out (rb_cons I2.out (rb_cons I4.out (rb_cons (ib_once0 (pick_row0 Q5.out)) (rb_cons I31.out (rb_cons I32.out (rb_cons I33.out (dead_rb HZ.out _)))))))),.inr ⟨HZ.out,rfl,HP.out⟩⟩
  have H33:=hid h33
  clear h33 i33 z33
  go_wp2_with fail
  go_end0
  exact ⟨_,(rb_cons I1.out (rb_cons I2.out (rb_cons I4.out (rb_cons (ib_once0 (pick_row0 Q5.out)) (rb_cons I31.out (rb_cons I32.out (rb_cons I33.out rb_nil))))))),.inl ⟨H33.out.e0,rfl,H33.out⟩⟩
 ·have PB3:=show Hid _ from br_no H3.out A3.out (by simpa using hq3)
  have hq3':(a3.toList == [40])=false:=by simpa using hq3
  clear hq3
  go_wp2_with fail
  refine (maybeSign_ib H3.out (by omega) [⟨#[58]⟩] (by simp) (by kernel_rfl) rfl rfl).mono ?_
  rintro e w54 (⟨q54,rfl,h54⟩|⟨q54,d54,i54,o54⟩)
  rotate_left
  ·have Q54:=hid q54
   clear q54
   have I54:=hid i54
   rcases o54 with ⟨z54,rfl,h54⟩|⟨z54,rfl,h54⟩
   rotate_left
   ·have HP:=hid h54
    have HZ:=hid z54
    clear h54 i54 z54
    go_wp2_with fail
    exact ⟨rfl,_,(rb_cons I1.out (rb_cons I2.out (rb_cons (ib_once0 PB3.out) (rb_cons (ib_once1 (pick_row1 Q54.out) (ib_all (rb_cons I54.out (dead_rb HZ.out _)))) (dead_rb HZ.out _))))),.inr ⟨HZ.out,rfl,HP.out⟩⟩
   have H54:=hid h54
   clear h54 i54 z54
   go_wp2_with fail
   refine ((hkindA (ms (tks X.l) d54) (by have m0:=HM.out;have m1:=tok_lt ne_wd I1.out H0.out.e0 H1.out.e0;have m2:=tok_lt ne_nm I2.out H1.out.e0 H2.out.e0;have m54:=tok_lt ne_wd I54.out H3.out.e0 H54.out.e0;omega)) X _ _ _ H54.out).mono ?_
   rintro e w55 ⟨u55,v55,rfl,p55,hb55⟩
   have P55:=hid p55
   have H55:=show Hid _ from H54.out.below hb55
   clear p55 hb55
   go_wp2_with fail
   refine (one_pick H55.out (by omega) (Nat.le_refl _) P55.out).mono ?_
   rintro e w56 ⟨d56,i56,o56⟩
   have I56:=hid i56
   rcases o56 with ⟨z56,rfl,h56⟩|⟨z56,rfl,h56⟩
   rotate_left
   ·have HP:=hid h56
    have HZ:=hid z56
    clear h56 i56 z56
    go_wp2_with fail
    exact ⟨rfl,_,(rb_cons I1.out (rb_cons I2.out (rb_cons (ib_once0 PB3.out) (rb_cons (ib_once1 (pick_row1 Q54.out) (ib_all (rb_cons I54.out (rb_cons I56.out (dead_rb HZ.out _))))) (dead_rb HZ.out _))))),.inr ⟨HZ.out,rfl,HP.out⟩⟩
   have H56:=hid h56
   clear h56 i56 z56
   go_wp2_with fail
   refine (sign_ib H56.out (by omega) (by kernel_rfl)).mono ?_
   rintro e w57 ⟨d57,i57,o57⟩
   have I57:=hid i57
   rcases o57 with ⟨z57,rfl,h57⟩|⟨z57,rfl,h57⟩
   rotate_left
   ·have HP:=hid h57
    have HZ:=hid z57
    clear h57 i57 z57
    go_wp2_with fail
    exact ⟨rfl,_,(rb_cons I1.out (rb_cons I2.out (rb_cons (ib_once0 PB3.out) (rb_cons (ib_once1 (pick_row1 Q54.out) (ib_all (rb_cons I54.out (rb_cons I56.out rb_nil)))) (rb_cons I57.out (dead_rb HZ.out _)))))),.inr ⟨HZ.out,rfl,HP.out⟩⟩
   have H57:=hid h57
   clear h57 i57 z57
   go_wp2_with fail
   refine (node_ib H57.out (by omega) (by omega) (Nat.le_refl _) (hblockA (ms (tks X.l) d57) (by have m0:=HM.out;have m1:=tok_lt ne_wd I1.out H0.out.e0 H1.out.e0;have m2:=tok_lt ne_nm I2.out H1.out.e0 H2.out.e0;have m54:=tok_lt ne_wd I54.out H3.out.e0 H54.out.e0;have m56:=ms_ib I56.out;have m57:=tok_lt ne_wd I57.out H56.out.e0 H57.out.e0;omega)) en_block rfl (fun d' hh=>ib_op (m:=.block) rfl hh)).mono ?_
   rintro e w58 ⟨d58,i58,o58⟩
   have I58:=hid i58
   rcases o58 with ⟨z58,rfl,h58⟩|⟨z58,rfl,h58⟩
   rotate_left
   ·have HP:=hid h58
    have HZ:=hid z58
    clear h58 i58 z58
    go_wp2_with fail
    exact ⟨rfl,_,(rb_cons I1.out (rb_cons I2.out (rb_cons (ib_once0 PB3.out) (rb_cons (ib_once1 (pick_row1 Q54.out) (ib_all (rb_cons I54.out (rb_cons I56.out rb_nil)))) (rb_cons I57.out (rb_cons I58.out (dead_rb HZ.out _))))))),.inr ⟨HZ.out,rfl,HP.out⟩⟩
   have H58:=hid h58
   clear h58 i58 z58
   go_wp2_with fail
   refine (sign_ib H58.out (by omega) (by kernel_rfl)).mono ?_
   rintro e w59 ⟨d59,i59,o59⟩
   have I59:=hid i59
   rcases o59 with ⟨z59,rfl,h59⟩|⟨z59,rfl,h59⟩
   rotate_left
   ·have HP:=hid h59
    have HZ:=hid z59
    clear h59 i59 z59
    go_wp2_with fail
    exact ⟨rfl,_,(rb_cons I1.out (rb_cons I2.out (rb_cons (ib_once0 PB3.out) (rb_cons (ib_once1 (pick_row1 Q54.out) (ib_all (rb_cons I54.out (rb_cons I56.out rb_nil)))) (rb_cons I57.out (rb_cons I58.out (rb_cons I59.out (dead_rb HZ.out _)))))))),.inr ⟨HZ.out,rfl,HP.out⟩⟩
   have H59:=hid h59
   clear h59 i59 z59
   go_wp2_with fail
   go_end0
   exact ⟨_,(rb_cons I1.out (rb_cons I2.out (rb_cons (ib_once0 PB3.out) (rb_cons (ib_once1 (pick_row1 Q54.out) (ib_all (rb_cons I54.out (rb_cons I56.out rb_nil)))) (rb_cons I57.out (rb_cons I58.out (rb_cons I59.out rb_nil))))))),.inl ⟨H59.out.e0,rfl,H59.out⟩⟩
  have Q54:=hid q54
  have H54:=hid h54
  clear q54 h54
  go_wp2_with fail
  refine (sign_ib H54.out (by omega) (by kernel_rfl)).mono ?_
  rintro e w80 ⟨d80,i80,o80⟩
  have I80:=hid i80
  rcases o80 with ⟨z80,rfl,h80⟩|⟨z80,rfl,h80⟩
  rotate_left
  ·have HP:=hid h80
   have HZ:=hid z80
   clear h80 i80 z80
   go_wp2_with fail
   exact ⟨rfl,_,(rb_cons I1.out (rb_cons I2.out (rb_cons (ib_once0 PB3.out) (rb_cons (ib_once0 (pick_row0 Q54.out)) (rb_cons I80.out (dead_rb HZ.out _)))))),.inr ⟨HZ.out,rfl,HP.out⟩⟩
  have H80:=hid h80
  clear h80 i80 z80
  go_wp2_with fail
  refine (node_ib H80.out (by omega) (by omega) (Nat.le_refl _) (hblockA (ms (tks X.l) d80) (by have m0:=HM.out;have m1:=tok_lt ne_wd I1.out H0.out.e0 H1.out.e0;have m2:=tok_lt ne_nm I2.out H1.out.e0 H2.out.e0;have m80:=tok_lt ne_wd I80.out H54.out.e0 H80.out.e0;omega)) en_block rfl (fun d' hh=>ib_op (m:=.block) rfl hh)).mono ?_
  rintro e w81 ⟨d81,i81,o81⟩
  have I81:=hid i81
  rcases o81 with ⟨z81,rfl,h81⟩|⟨z81,rfl,h81⟩
  rotate_left
  ·have HP:=hid h81
   have HZ:=hid z81
   clear h81 i81 z81
   go_wp2_with fail
   exact ⟨rfl,_,(rb_cons I1.out (rb_cons I2.out (rb_cons (ib_once0 PB3.out) (rb_cons (ib_once0 (pick_row0 Q54.out)) (rb_cons I80.out (rb_cons I81.out (dead_rb HZ.out _))))))),.inr ⟨HZ.out,rfl,HP.out⟩⟩
  have H81:=hid h81
  clear h81 i81 z81
  go_wp2_with fail
  refine (sign_ib H81.out (by omega) (by kernel_rfl)).mono ?_
  rintro e w82 ⟨d82,i82,o82⟩
  have I82:=hid i82
  rcases o82 with ⟨z82,rfl,h82⟩|⟨z82,rfl,h82⟩
  rotate_left
  ·have HP:=hid h82
   have HZ:=hid z82
   clear h82 i82 z82
   go_wp2_with fail
   exact ⟨rfl,_,(rb_cons I1.out (rb_cons I2.out (rb_cons (ib_once0 PB3.out) (rb_cons (ib_once0 (pick_row0 Q54.out)) (rb_cons I80.out (rb_cons I81.out (rb_cons I82.out (dead_rb HZ.out _)))))))),.inr ⟨HZ.out,rfl,HP.out⟩⟩
  have H82:=hid h82
  clear h82 i82 z82
  go_wp2_with fail
  go_end0
  exact ⟨_,(rb_cons I1.out (rb_cons I2.out (rb_cons (ib_once0 PB3.out) (rb_cons (ib_once0 (pick_row0 Q54.out)) (rb_cons I80.out (rb_cons I81.out (rb_cons I82.out rb_nil))))))),.inl ⟨H82.out.e0,rfl,H82.out⟩⟩
set_option maxHeartbeats 2000000 in
theorem params_rc (n:Nat) (htypedA:∀k,k<n→RwC 160 gr_typed 90 k):RwC 162 gr_params 90 n:=by
 intro X r d W h hr hm
 have H0:Hid (SD X r d W):=h
 have HM:Hid (ms (tks X.l) d≤n):=hm
 have hmf:∀(fn:Fn) (first cap:Array Value) (w:World),(Instr.makeFunc fn first cap).run Tryz.prog w=.ok (.func fn first cap) w:=fun _ _ _ _=>rfl
 clear h hm
 go_enter Tryz.func162,Tryz.ntmps162
 go_wp2_with fail
 refine (sign_ib H0.out (by omega) (by kernel_rfl)).mono ?_
 rintro e w1 ⟨d1,i1,o1⟩
 have I1:=hid i1
 rcases o1 with ⟨z1,rfl,h1⟩|⟨z1,rfl,h1⟩
 rotate_left
 ·have HP:=hid h1
  have HZ:=hid z1
  clear h1 i1 z1
  go_wp2_with fail
  exact ⟨rfl,_,(rb_cons I1.out (dead_rb HZ.out _)),.inr ⟨HZ.out,rfl,HP.out⟩⟩
 have H1:=hid h1
 clear h1 i1 z1
 go_wp2_with fail
 refine (node_ib H1.out (by omega) (by omega) (Nat.le_refl _) (rw_typed (htypedA (ms (tks X.l) d1) (by have m0:=HM.out;have m1:=tok_lt ne_wd I1.out H0.out.e0 H1.out.e0;omega))) en_typed rfl (fun d' hh=>ib_op (m:=.param) rfl hh)).mono ?_
 rintro e w2 ⟨d2,i2,o2⟩
 have I2:=hid i2
 rcases o2 with ⟨z2,rfl,h2⟩|⟨z2,rfl,h2⟩
 rotate_left
 ·have HP:=hid h2
  have HZ:=hid z2
  clear h2 i2 z2
  go_wp2_with fail
  exact ⟨rfl,_,(rb_cons I1.out (rb_cons I2.out (dead_rb HZ.out _))),.inr ⟨HZ.out,rfl,HP.out⟩⟩
 have H2:=hid h2
 clear h2 i2 z2
 go_wp2_with fail
 go_loopw [] (fun wr=>∃dk,Hid (SD X 0 dk wr)∧Hid (Lp (tks X.l) (.row [.wd 6 [⟨#[59]⟩],.mt .param]) d2 dk)) (fun wr=>mW X wr)
 case atStart=>exact ⟨_,H2.out,.refl⟩
 case round=>
  obtain ⟨e3,HJ3,HP3⟩:=hrel
  go_wp2_with fail
  refine (maybeSign_ib HJ3.out (by omega) [⟨#[59]⟩] (by simp) (by kernel_rfl) rfl rfl).mono ?_
  rintro e w4 (⟨q4,rfl,h4⟩|⟨q4,d4,i4,o4⟩)
  rotate_left
  ·have Q4:=hid q4
   clear q4
   have I4:=hid i4
   rcases o4 with ⟨z4,rfl,h4⟩|⟨z4,rfl,h4⟩
   rotate_left
   ·have HP:=hid h4
    have HZ:=hid z4
    clear h4 i4 z4
    go_wp2_with fail
    exact ⟨rfl,_,(rb_cons I1.out (rb_cons I2.out (rb_cons (HP3.out.go _ (ib_again1 (pick_row1 Q4.out) (ib_all (rb_cons I4.out (dead_rb HZ.out _))) (dead_again HZ.out))) (dead_rb HZ.out _)))),.inr ⟨HZ.out,rfl,HP.out⟩⟩
   have H4:=hid h4
   clear h4 i4 z4
   go_wp2_with fail
   refine (node_ib H4.out (by omega) (by omega) (Nat.le_refl _) (rw_typed (htypedA (ms (tks X.l) d4) (by have m0:=HM.out;have m1:=tok_lt ne_wd I1.out H0.out.e0 H1.out.e0;have m2:=ms_ib I2.out;have ml3:=HP3.out.le;have m4:=tok_lt ne_wd I4.out HJ3.out.e0 H4.out.e0;omega))) en_typed rfl (fun d' hh=>ib_op (m:=.param) rfl hh)).mono ?_
   rintro e w5 ⟨d5,i5,o5⟩
   have I5:=hid i5
   rcases o5 with ⟨z5,rfl,h5⟩|⟨z5,rfl,h5⟩
   rotate_left
   ·have HP:=hid h5
    have HZ:=hid z5
    clear h5 i5 z5
    go_wp2_with fail
    exact ⟨rfl,_,(rb_cons I1.out (rb_cons I2.out (rb_cons (HP3.out.go _ (ib_again1 (pick_row1 Q4.out) (ib_all (rb_cons I4.out (rb_cons I5.out (dead_rb HZ.out _)))) (dead_again HZ.out))) (dead_rb HZ.out _)))),.inr ⟨HZ.out,rfl,HP.out⟩⟩
   have H5:=hid h5
   clear h5 i5 z5
   go_wp2_with fail
   exact ⟨⟨_,H5.out,HP3.out.step (pick_row1 Q4.out) (ib_all (rb_cons I4.out (rb_cons I5.out rb_nil)))⟩,mw_lt HJ3.out H5.out (by have m0:=HM.out;have m1:=tok_lt ne_wd I1.out H0.out.e0 H1.out.e0;have m2:=ms_ib I2.out;have ml3:=HP3.out.le;have m4:=tok_lt ne_wd I4.out HJ3.out.e0 H4.out.e0;have m5:=ms_ib I5.out;omega)⟩
  have Q4:=hid q4
  have H4:=hid h4
  clear q4 h4
  go_wp2_with fail
  refine (sign_ib H4.out (by omega) (by kernel_rfl)).mono ?_
  rintro e w26 ⟨d26,i26,o26⟩
  have I26:=hid i26
  rcases o26 with ⟨z26,rfl,h26⟩|⟨z26,rfl,h26⟩
  rotate_left
  ·have HP:=hid h26
   have HZ:=hid z26
   clear h26 i26 z26
   go_wp2_with fail
   exact ⟨rfl,_,(rb_cons I1.out (rb_cons I2.out (rb_cons (HP3.out.fin (pick_row0 Q4.out)) (rb_cons I26.out (dead_rb HZ.out _))))),.inr ⟨HZ.out,rfl,HP.out⟩⟩
  have H26:=hid h26
  clear h26 i26 z26
  go_wp2_with fail
  go_end0
  exact ⟨_,(rb_cons I1.out (rb_cons I2.out (rb_cons (HP3.out.fin (pick_row0 Q4.out)) (rb_cons I26.out rb_nil)))),.inl ⟨H26.out.e0,rfl,H26.out⟩⟩
set_option maxHeartbeats 2000000 in
theorem typed_rc (n:Nat) (hkindA:∀k,k<n→PC .kind 163 k):RwC 160 gr_typed 90 n:=by
 intro X r d W h hr hm
 have H0:Hid (SD X r d W):=h
 have HM:Hid (ms (tks X.l) d≤n):=hm
 have hmf:∀(fn:Fn) (first cap:Array Value) (w:World),(Instr.makeFunc fn first cap).run Tryz.prog w=.ok (.func fn first cap) w:=fun _ _ _ _=>rfl
 clear h hm
 go_enter Tryz.func160,Tryz.ntmps160
 go_wp2_with fail
 refine (name_ib H0.out (by omega)).mono ?_
 rintro e w1 ⟨d1,i1,o1⟩
 have I1:=hid i1
 rcases o1 with ⟨z1,rfl,h1⟩|⟨z1,rfl,h1⟩
 rotate_left
 ·have HP:=hid h1
  have HZ:=hid z1
  clear h1 i1 z1
  go_wp2_with fail
  exact ⟨rfl,_,(rb_cons I1.out (dead_rb HZ.out _)),.inr ⟨HZ.out,rfl,HP.out⟩⟩
 have H1:=hid h1
 clear h1 i1 z1
 go_wp2_with fail
 go_loopw [] (fun wr=>∃dk,Hid (SD X 0 dk wr)∧Hid (Lp (tks X.l) (.row [.wd 6 [⟨#[44]⟩],.nm]) d1 dk)) (fun wr=>mW X wr)
 case atStart=>exact ⟨_,H1.out,.refl⟩
 case round=>
  obtain ⟨e2,HJ2,HP2⟩:=hrel
  go_wp2_with fail
  refine (maybeSign_ib HJ2.out (by omega) [⟨#[44]⟩] (by simp) (by kernel_rfl) rfl rfl).mono ?_
  rintro e w3 (⟨q3,rfl,h3⟩|⟨q3,d3,i3,o3⟩)
  rotate_left
  ·have Q3:=hid q3
   clear q3
   have I3:=hid i3
   rcases o3 with ⟨z3,rfl,h3⟩|⟨z3,rfl,h3⟩
   rotate_left
   ·have HP:=hid h3
    have HZ:=hid z3
    clear h3 i3 z3
    go_wp2_with fail
    exact ⟨rfl,_,(rb_cons I1.out (rb_cons (HP2.out.go _ (ib_again1 (pick_row1 Q3.out) (ib_all (rb_cons I3.out (dead_rb HZ.out _))) (dead_again HZ.out))) (dead_rb HZ.out _))),.inr ⟨HZ.out,rfl,HP.out⟩⟩
   have H3:=hid h3
   clear h3 i3 z3
   go_wp2_with fail
   refine (name_ib H3.out (by omega)).mono ?_
   rintro e w4 ⟨d4,i4,o4⟩
   have I4:=hid i4
   rcases o4 with ⟨z4,rfl,h4⟩|⟨z4,rfl,h4⟩
   rotate_left
   ·have HP:=hid h4
    have HZ:=hid z4
    clear h4 i4 z4
    go_wp2_with fail
    exact ⟨rfl,_,(rb_cons I1.out (rb_cons (HP2.out.go _ (ib_again1 (pick_row1 Q3.out) (ib_all (rb_cons I3.out (rb_cons I4.out (dead_rb HZ.out _)))) (dead_again HZ.out))) (dead_rb HZ.out _))),.inr ⟨HZ.out,rfl,HP.out⟩⟩
   have H4:=hid h4
   clear h4 i4 z4
   go_wp2_with fail
   exact ⟨⟨_,H4.out,HP2.out.step (pick_row1 Q3.out) (ib_all (rb_cons I3.out (rb_cons I4.out rb_nil)))⟩,mw_lt HJ2.out H4.out (by have m0:=HM.out;have m1:=tok_lt ne_nm I1.out H0.out.e0 H1.out.e0;have ml2:=HP2.out.le;have m3:=tok_lt ne_wd I3.out HJ2.out.e0 H3.out.e0;have m4:=tok_lt ne_nm I4.out H3.out.e0 H4.out.e0;omega)⟩
  have Q3:=hid q3
  have H3:=hid h3
  clear q3 h3
  go_wp2_with fail
  refine (sign_ib H3.out (by omega) (by kernel_rfl)).mono ?_
  rintro e w25 ⟨d25,i25,o25⟩
  have I25:=hid i25
  rcases o25 with ⟨z25,rfl,h25⟩|⟨z25,rfl,h25⟩
  rotate_left
  ·have HP:=hid h25
   have HZ:=hid z25
   clear h25 i25 z25
   go_wp2_with fail
   exact ⟨rfl,_,(rb_cons I1.out (rb_cons (HP2.out.fin (pick_row0 Q3.out)) (rb_cons I25.out (dead_rb HZ.out _)))),.inr ⟨HZ.out,rfl,HP.out⟩⟩
  have H25:=hid h25
  clear h25 i25 z25
  go_wp2_with fail
  refine ((hkindA (ms (tks X.l) d25) (by have m0:=HM.out;have m1:=tok_lt ne_nm I1.out H0.out.e0 H1.out.e0;have ml2:=HP2.out.le;have m25:=tok_lt ne_wd I25.out H3.out.e0 H25.out.e0;omega)) X _ _ _ H25.out).mono ?_
  rintro e w26 ⟨u26,v26,rfl,p26,hb26⟩
  have P26:=hid p26
  have H26:=show Hid _ from H25.out.below hb26
  clear p26 hb26
  go_wp2_with fail
  refine (one_pick H26.out (by omega) (Nat.le_refl _) P26.out).mono ?_
  rintro e w27 ⟨d27,i27,o27⟩
  have I27:=hid i27
  rcases o27 with ⟨z27,rfl,h27⟩|⟨z27,rfl,h27⟩
  rotate_left
  ·have HP:=hid h27
   have HZ:=hid z27
   clear h27 i27 z27
   go_wp2_with fail
   exact ⟨rfl,_,(rb_cons I1.out (rb_cons (HP2.out.fin (pick_row0 Q3.out)) (rb_cons I25.out (rb_cons I27.out (dead_rb HZ.out _))))),.inr ⟨HZ.out,rfl,HP.out⟩⟩
  have H27:=hid h27
  clear h27 i27 z27
  go_wp2_with fail
  go_end0
  exact ⟨_,(rb_cons I1.out (rb_cons (HP2.out.fin (pick_row0 Q3.out)) (rb_cons I25.out (rb_cons I27.out rb_nil)))),.inl ⟨H27.out.e0,rfl,H27.out⟩⟩
set_option maxHeartbeats 2000000 in
theorem array_rc (n:Nat) (hexprA:∀k,k<n→RwC 161 gr_expr 50 k) (hkindA:∀k,k<n→PC .kind 163 k):RwC 184 gr_array 90 n:=by
 intro X r d W h hr hm
 have H0:Hid (SD X r d W):=h
 have HM:Hid (ms (tks X.l) d≤n):=hm
 have hmf:∀(fn:Fn) (first cap:Array Value) (w:World),(Instr.makeFunc fn first cap).run Tryz.prog w=.ok (.func fn first cap) w:=fun _ _ _ _=>rfl
 clear h hm
 go_enter Tryz.func184,Tryz.ntmps184
 go_wp2_with fail
 refine (key_ib H0.out (by omega) (by kernel_rfl)).mono ?_
 rintro e w1 ⟨d1,i1,o1⟩
 have I1:=hid i1
 rcases o1 with ⟨z1,rfl,h1⟩|⟨z1,rfl,h1⟩
 rotate_left
 ·have HP:=hid h1
  have HZ:=hid z1
  clear h1 i1 z1
  go_wp2_with fail
  exact ⟨rfl,_,(rb_cons I1.out (dead_rb HZ.out _)),.inr ⟨HZ.out,rfl,HP.out⟩⟩
 have H1:=hid h1
 clear h1 i1 z1
 go_wp2_with fail
 refine (sign_ib H1.out (by omega) (by kernel_rfl)).mono ?_
 rintro e w2 ⟨d2,i2,o2⟩
 have I2:=hid i2
 rcases o2 with ⟨z2,rfl,h2⟩|⟨z2,rfl,h2⟩
 rotate_left
 ·have HP:=hid h2
  have HZ:=hid z2
  clear h2 i2 z2
  go_wp2_with fail
  exact ⟨rfl,_,(rb_cons I1.out (rb_cons I2.out (dead_rb HZ.out _))),.inr ⟨HZ.out,rfl,HP.out⟩⟩
 have H2:=hid h2
 clear h2 i2 z2
 go_wp2_with fail
 refine (node_ib H2.out (by omega) (by omega) (Nat.le_refl _) (hexprA (ms (tks X.l) d2) (by have m0:=HM.out;have m1:=tok_lt ne_wd I1.out H0.out.e0 H1.out.e0;have m2:=tok_lt ne_wd I2.out H1.out.e0 H2.out.e0;omega)) en_expr rfl (fun d' hh=>ib_op (m:=.expr) rfl hh)).mono ?_
 rintro e w3 ⟨d3,i3,o3⟩
 have I3:=hid i3
 rcases o3 with ⟨z3,rfl,h3⟩|⟨z3,rfl,h3⟩
 rotate_left
 ·have HP:=hid h3
  have HZ:=hid z3
  clear h3 i3 z3
  go_wp2_with fail
  exact ⟨rfl,_,(rb_cons I1.out (rb_cons I2.out (rb_cons I3.out (dead_rb HZ.out _)))),.inr ⟨HZ.out,rfl,HP.out⟩⟩
 have H3:=hid h3
 clear h3 i3 z3
 go_wp2_with fail
 refine (sign_ib H3.out (by omega) (by kernel_rfl)).mono ?_
 rintro e w4 ⟨d4,i4,o4⟩
 have I4:=hid i4
 rcases o4 with ⟨z4,rfl,h4⟩|⟨z4,rfl,h4⟩
 rotate_left
 ·have HP:=hid h4
  have HZ:=hid z4
  clear h4 i4 z4
  go_wp2_with fail
  exact ⟨rfl,_,(rb_cons I1.out (rb_cons I2.out (rb_cons I3.out (rb_cons I4.out (dead_rb HZ.out _))))),.inr ⟨HZ.out,rfl,HP.out⟩⟩
 have H4:=hid h4
 clear h4 i4 z4
 go_wp2_with fail
 refine (node_ib H4.out (by omega) (by omega) (Nat.le_refl _) (hexprA (ms (tks X.l) d4) (by have m0:=HM.out;have m1:=tok_lt ne_wd I1.out H0.out.e0 H1.out.e0;have m2:=tok_lt ne_wd I2.out H1.out.e0 H2.out.e0;have m3:=ms_ib I3.out;have m4:=tok_lt ne_wd I4.out H3.out.e0 H4.out.e0;omega)) en_expr rfl (fun d' hh=>ib_op (m:=.expr) rfl hh)).mono ?_
 rintro e w5 ⟨d5,i5,o5⟩
 have I5:=hid i5
 rcases o5 with ⟨z5,rfl,h5⟩|⟨z5,rfl,h5⟩
 rotate_left
 ·have HP:=hid h5
  have HZ:=hid z5
  clear h5 i5 z5
  go_wp2_with fail
  exact ⟨rfl,_,(rb_cons I1.out (rb_cons I2.out (rb_cons I3.out (rb_cons I4.out (rb_cons I5.out (dead_rb HZ.out _)))))),.inr ⟨HZ.out,rfl,HP.out⟩⟩
 have H5:=hid h5
 clear h5 i5 z5
 go_wp2_with fail
 refine (sign_ib H5.out (by omega) (by kernel_rfl)).mono ?_
 rintro e w6 ⟨d6,i6,o6⟩
 have I6:=hid i6
 rcases o6 with ⟨z6,rfl,h6⟩|⟨z6,rfl,h6⟩
 rotate_left
 ·have HP:=hid h6
  have HZ:=hid z6
  clear h6 i6 z6
  go_wp2_with fail
  exact ⟨rfl,_,(rb_cons I1.out (rb_cons I2.out (rb_cons I3.out (rb_cons I4.out (rb_cons I5.out (rb_cons I6.out (dead_rb HZ.out _))))))),.inr ⟨HZ.out,rfl,HP.out⟩⟩
 have H6:=hid h6
 clear h6 i6 z6
 go_wp2_with fail
 refine (key_ib H6.out (by omega) (by kernel_rfl)).mono ?_
 rintro e w7 ⟨d7,i7,o7⟩
 have I7:=hid i7
 rcases o7 with ⟨z7,rfl,h7⟩|⟨z7,rfl,h7⟩
 rotate_left
 ·have HP:=hid h7
  have HZ:=hid z7
  clear h7 i7 z7
  go_wp2_with fail
  exact ⟨rfl,_,(rb_cons I1.out (rb_cons I2.out (rb_cons I3.out (rb_cons I4.out (rb_cons I5.out (rb_cons I6.out (rb_cons I7.out (dead_rb HZ.out _)))))))),.inr ⟨HZ.out,rfl,HP.out⟩⟩
 have H7:=hid h7
 clear h7 i7 z7
 go_wp2_with fail
 refine ((hkindA (ms (tks X.l) d7) (by have m0:=HM.out;have m1:=tok_lt ne_wd I1.out H0.out.e0 H1.out.e0;have m2:=tok_lt ne_wd I2.out H1.out.e0 H2.out.e0;have m3:=ms_ib I3.out;have m4:=tok_lt ne_wd I4.out H3.out.e0 H4.out.e0;have m5:=ms_ib I5.out;have m6:=tok_lt ne_wd I6.out H5.out.e0 H6.out.e0;have m7:=tok_lt ne_wd I7.out H6.out.e0 H7.out.e0;omega)) X _ _ _ H7.out).mono ?_
 rintro e w8 ⟨u8,v8,rfl,p8,hb8⟩
 have P8:=hid p8
 have H8:=show Hid _ from H7.out.below hb8
 clear p8 hb8
 go_wp2_with fail
 refine (one_pick H8.out (by omega) (Nat.le_refl _) P8.out).mono ?_
 rintro e w9 ⟨d9,i9,o9⟩
 have I9:=hid i9
 rcases o9 with ⟨z9,rfl,h9⟩|⟨z9,rfl,h9⟩
 rotate_left
 ·have HP:=hid h9
  have HZ:=hid z9
  clear h9 i9 z9
  go_wp2_with fail
  exact ⟨rfl,_,(rb_cons I1.out (rb_cons I2.out (rb_cons I3.out (rb_cons I4.out (rb_cons I5.out (rb_cons I6.out (rb_cons I7.out (rb_cons I9.out (dead_rb HZ.out _))))))))),.inr ⟨HZ.out,rfl,HP.out⟩⟩
 have H9:=hid h9
 clear h9 i9 z9
 go_wp2_with fail
 go_end0
 exact ⟨_,(rb_cons I1.out (rb_cons I2.out (rb_cons I3.out (rb_cons I4.out (rb_cons I5.out (rb_cons I6.out (rb_cons I7.out (rb_cons I9.out rb_nil)))))))),.inl ⟨H9.out.e0,rfl,H9.out⟩⟩
set_option maxHeartbeats 2000000 in
theorem record_rc (n:Nat) (htypedA:∀k,k<n→RwC 160 gr_typed 90 k):RwC 185 gr_record 90 n:=by
 intro X r d W h hr hm
 have H0:Hid (SD X r d W):=h
 have HM:Hid (ms (tks X.l) d≤n):=hm
 have hmf:∀(fn:Fn) (first cap:Array Value) (w:World),(Instr.makeFunc fn first cap).run Tryz.prog w=.ok (.func fn first cap) w:=fun _ _ _ _=>rfl
 clear h hm
 go_enter Tryz.func185,Tryz.ntmps185
 go_wp2_with fail
 refine (key_ib H0.out (by omega) (by kernel_rfl)).mono ?_
 rintro e w1 ⟨d1,i1,o1⟩
 have I1:=hid i1
 rcases o1 with ⟨z1,rfl,h1⟩|⟨z1,rfl,h1⟩
 rotate_left
 ·have HP:=hid h1
  have HZ:=hid z1
  clear h1 i1 z1
  go_wp2_with fail
  exact ⟨rfl,_,(rb_cons I1.out (dead_rb HZ.out _)),.inr ⟨HZ.out,rfl,HP.out⟩⟩
 have H1:=hid h1
 clear h1 i1 z1
 go_wp2_with fail
 refine (node_ib H1.out (by omega) (by omega) (Nat.le_refl _) (rw_typed (htypedA (ms (tks X.l) d1) (by have m0:=HM.out;have m1:=tok_lt ne_wd I1.out H0.out.e0 H1.out.e0;omega))) en_typed rfl (fun d' hh=>ib_op (m:=.member) rfl hh)).mono ?_
 rintro e w2 ⟨d2,i2,o2⟩
 have I2:=hid i2
 rcases o2 with ⟨z2,rfl,h2⟩|⟨z2,rfl,h2⟩
 rotate_left
 ·have HP:=hid h2
  have HZ:=hid z2
  clear h2 i2 z2
  go_wp2_with fail
  exact ⟨rfl,_,(rb_cons I1.out (rb_cons I2.out (dead_rb HZ.out _))),.inr ⟨HZ.out,rfl,HP.out⟩⟩
 have H2:=hid h2
 clear h2 i2 z2
 go_wp2_with fail
 go_loopw [] (fun wr=>∃dk,Hid (SD X 0 dk wr)∧Hid (Lp (tks X.l) (.row [.wd 6 [⟨#[59]⟩],.mt .member]) d2 dk)) (fun wr=>mW X wr)
 case atStart=>exact ⟨_,H2.out,.refl⟩
 case round=>
  obtain ⟨e3,HJ3,HP3⟩:=hrel
  go_wp2_with fail
  refine (maybeSign_ib HJ3.out (by omega) [⟨#[59]⟩] (by simp) (by kernel_rfl) rfl rfl).mono ?_
  rintro e w4 (⟨q4,rfl,h4⟩|⟨q4,d4,i4,o4⟩)
  rotate_left
  ·have Q4:=hid q4
   clear q4
   have I4:=hid i4
   rcases o4 with ⟨z4,rfl,h4⟩|⟨z4,rfl,h4⟩
   rotate_left
   ·have HP:=hid h4
    have HZ:=hid z4
    clear h4 i4 z4
    go_wp2_with fail
    exact ⟨rfl,_,(rb_cons I1.out (rb_cons I2.out (rb_cons (HP3.out.go _ (ib_again1 (pick_row1 Q4.out) (ib_all (rb_cons I4.out (dead_rb HZ.out _))) (dead_again HZ.out))) (dead_rb HZ.out _)))),.inr ⟨HZ.out,rfl,HP.out⟩⟩
   have H4:=hid h4
   clear h4 i4 z4
   go_wp2_with fail
   refine (node_ib H4.out (by omega) (by omega) (Nat.le_refl _) (rw_typed (htypedA (ms (tks X.l) d4) (by have m0:=HM.out;have m1:=tok_lt ne_wd I1.out H0.out.e0 H1.out.e0;have m2:=ms_ib I2.out;have ml3:=HP3.out.le;have m4:=tok_lt ne_wd I4.out HJ3.out.e0 H4.out.e0;omega))) en_typed rfl (fun d' hh=>ib_op (m:=.member) rfl hh)).mono ?_
   rintro e w5 ⟨d5,i5,o5⟩
   have I5:=hid i5
   rcases o5 with ⟨z5,rfl,h5⟩|⟨z5,rfl,h5⟩
   rotate_left
   ·have HP:=hid h5
    have HZ:=hid z5
    clear h5 i5 z5
    go_wp2_with fail
    exact ⟨rfl,_,(rb_cons I1.out (rb_cons I2.out (rb_cons (HP3.out.go _ (ib_again1 (pick_row1 Q4.out) (ib_all (rb_cons I4.out (rb_cons I5.out (dead_rb HZ.out _)))) (dead_again HZ.out))) (dead_rb HZ.out _)))),.inr ⟨HZ.out,rfl,HP.out⟩⟩
   have H5:=hid h5
   clear h5 i5 z5
   go_wp2_with fail
   exact ⟨⟨_,H5.out,HP3.out.step (pick_row1 Q4.out) (ib_all (rb_cons I4.out (rb_cons I5.out rb_nil)))⟩,mw_lt HJ3.out H5.out (by have m0:=HM.out;have m1:=tok_lt ne_wd I1.out H0.out.e0 H1.out.e0;have m2:=ms_ib I2.out;have ml3:=HP3.out.le;have m4:=tok_lt ne_wd I4.out HJ3.out.e0 H4.out.e0;have m5:=ms_ib I5.out;omega)⟩
  have Q4:=hid q4
  have H4:=hid h4
  clear q4 h4
  go_wp2_with fail
  refine (key_ib H4.out (by omega) (by kernel_rfl)).mono ?_
  rintro e w26 ⟨d26,i26,o26⟩
  have I26:=hid i26
  rcases o26 with ⟨z26,rfl,h26⟩|⟨z26,rfl,h26⟩
  rotate_left
  ·have HP:=hid h26
   have HZ:=hid z26
   clear h26 i26 z26
   go_wp2_with fail
   exact ⟨rfl,_,(rb_cons I1.out (rb_cons I2.out (rb_cons (HP3.out.fin (pick_row0 Q4.out)) (rb_cons I26.out (dead_rb HZ.out _))))),.inr ⟨HZ.out,rfl,HP.out⟩⟩
  have H26:=hid h26
  clear h26 i26 z26
  go_wp2_with fail
  go_end0
  exact ⟨_,(rb_cons I1.out (rb_cons I2.out (rb_cons (HP3.out.fin (pick_row0 Q4.out)) (rb_cons I26.out rb_nil)))),.inl ⟨H26.out.e0,rfl,H26.out⟩⟩
set_option maxHeartbeats 2000000 in
theorem body_rc (n:Nat) (hstatement:PC .statement 138 n) (hstatementA:∀k,k<n→PC .statement 138 k):RwC 115 gr_body 45 n:=by
 intro X r d W h hr hm
 have H0:Hid (SD X r d W):=h
 have HM:Hid (ms (tks X.l) d≤n):=hm
 have hmf:∀(fn:Fn) (first cap:Array Value) (w:World),(Instr.makeFunc fn first cap).run Tryz.prog w=.ok (.func fn first cap) w:=fun _ _ _ _=>rfl
 clear h hm
 go_enter Tryz.func115,Tryz.ntmps115
 go_wp2_with fail
 refine (hstatement X _ _ _ H0.out).mono ?_
 rintro e w1 ⟨u1,v1,rfl,p1,hb1⟩
 have P1:=hid p1
 have H1:=show Hid _ from H0.out.below hb1
 clear p1 hb1
 go_wp2_with fail
 refine (one_pick H1.out (by omega) (by have m0:=HM.out;omega) P1.out).mono ?_
 rintro e w2 ⟨d2,i2,o2⟩
 have I2:=hid i2
 rcases o2 with ⟨z2,rfl,h2⟩|⟨z2,rfl,h2⟩
 rotate_left
 ·have HP:=hid h2
  have HZ:=hid z2
  clear h2 i2 z2
  go_wp2_with fail
  exact ⟨rfl,_,(rb_cons I2.out (dead_rb HZ.out _)),.inr ⟨HZ.out,rfl,HP.out⟩⟩
 have H2:=hid h2
 clear h2 i2 z2
 go_wp2_with fail
 go_loopw [] (fun wr=>∃dk,Hid (SD X 0 dk wr)∧Hid (Lp (tks X.l) (.row [.wd 6 [⟨#[59]⟩],.mt .statement]) d2 dk)) (fun wr=>mW X wr)
 case atStart=>exact ⟨_,H2.out,.refl⟩
 case round=>
  obtain ⟨e3,HJ3,HP3⟩:=hrel
  go_wp2_with fail
  refine (maybeSign_ib HJ3.out (by omega) [⟨#[59]⟩] (by simp) (by kernel_rfl) rfl rfl).mono ?_
  rintro e w4 (⟨q4,rfl,h4⟩|⟨q4,d4,i4,o4⟩)
  rotate_left
  ·have Q4:=hid q4
   clear q4
   have I4:=hid i4
   rcases o4 with ⟨z4,rfl,h4⟩|⟨z4,rfl,h4⟩
   rotate_left
   ·have HP:=hid h4
    have HZ:=hid z4
    clear h4 i4 z4
    go_wp2_with fail
    exact ⟨rfl,_,(rb_cons I2.out (rb_cons (HP3.out.go _ (ib_again1 (pick_row1 Q4.out) (ib_all (rb_cons I4.out (dead_rb HZ.out _))) (dead_again HZ.out))) (dead_rb HZ.out _))),.inr ⟨HZ.out,rfl,HP.out⟩⟩
   have H4:=hid h4
   clear h4 i4 z4
   go_wp2_with fail
   refine ((hstatementA (ms (tks X.l) d4) (by have m0:=HM.out;have m2:=ms_ib I2.out;have ml3:=HP3.out.le;have m4:=tok_lt ne_wd I4.out HJ3.out.e0 H4.out.e0;omega)) X _ _ _ H4.out).mono ?_
   rintro e w5 ⟨u5,v5,rfl,p5,hb5⟩
   have P5:=hid p5
   have H5:=show Hid _ from H4.out.below hb5
   clear p5 hb5
   go_wp2_with fail
   refine (one_pick H5.out (by omega) (Nat.le_refl _) P5.out).mono ?_
   rintro e w6 ⟨d6,i6,o6⟩
   have I6:=hid i6
   rcases o6 with ⟨z6,rfl,h6⟩|⟨z6,rfl,h6⟩
   rotate_left
   ·have HP:=hid h6
    have HZ:=hid z6
    clear h6 i6 z6
    go_wp2_with fail
    exact ⟨rfl,_,(rb_cons I2.out (rb_cons (HP3.out.go _ (ib_again1 (pick_row1 Q4.out) (ib_all (rb_cons I4.out (rb_cons I6.out (dead_rb HZ.out _)))) (dead_again HZ.out))) (dead_rb HZ.out _))),.inr ⟨HZ.out,rfl,HP.out⟩⟩
   have H6:=hid h6
   clear h6 i6 z6
   go_wp2_with fail
   exact ⟨⟨_,H6.out,HP3.out.step (pick_row1 Q4.out) (ib_all (rb_cons I4.out (rb_cons I6.out rb_nil)))⟩,mw_lt HJ3.out H6.out (by have m0:=HM.out;have m2:=ms_ib I2.out;have ml3:=HP3.out.le;have m4:=tok_lt ne_wd I4.out HJ3.out.e0 H4.out.e0;have m6:=ms_ib I6.out;omega)⟩
  have Q4:=hid q4
  have H4:=hid h4
  clear q4 h4
  go_wp2_with fail
  go_end0
  exact ⟨_,(rb_cons I2.out (rb_cons (HP3.out.fin (pick_row0 Q4.out)) rb_nil)),.inl ⟨H4.out.e0,rfl,H4.out⟩⟩
set_option maxHeartbeats 2000000 in
theorem skip_rc (n:Nat):RwC 165 gr_skip 90 n:=by
 intro X r d W h hr hm
 have H0:Hid (SD X r d W):=h
 have HM:Hid (ms (tks X.l) d≤n):=hm
 have hmf:∀(fn:Fn) (first cap:Array Value) (w:World),(Instr.makeFunc fn first cap).run Tryz.prog w=.ok (.func fn first cap) w:=fun _ _ _ _=>rfl
 clear h hm
 go_enter Tryz.func165,Tryz.ntmps165
 go_wp2_with fail
 refine (key_ib H0.out (by omega) (by kernel_rfl)).mono ?_
 rintro e w1 ⟨d1,i1,o1⟩
 have I1:=hid i1
 rcases o1 with ⟨z1,rfl,h1⟩|⟨z1,rfl,h1⟩
 rotate_left
 ·have HP:=hid h1
  have HZ:=hid z1
  clear h1 i1 z1
  go_wp2_with fail
  exact ⟨rfl,_,(rb_cons I1.out (dead_rb HZ.out _)),.inr ⟨HZ.out,rfl,HP.out⟩⟩
 have H1:=hid h1
 clear h1 i1 z1
 go_wp2_with fail
 go_end0
 exact ⟨_,(rb_cons I1.out rb_nil),.inl ⟨H1.out.e0,rfl,H1.out⟩⟩
set_option maxHeartbeats 2000000 in
theorem act_rc (n:Nat) (hobject:RwC 186 gr_object 95 n) (hexprA:∀k,k<n→RwC 161 gr_expr 50 k):RwC 164 gr_act 90 n:=by
 intro X r d W h hr hm
 have H0:Hid (SD X r d W):=h
 have HM:Hid (ms (tks X.l) d≤n):=hm
 have hmf:∀(fn:Fn) (first cap:Array Value) (w:World),(Instr.makeFunc fn first cap).run Tryz.prog w=.ok (.func fn first cap) w:=fun _ _ _ _=>rfl
 clear h hm
 go_enter Tryz.func164,Tryz.ntmps164
 go_wp2_with fail
 refine (node_ib H0.out (by omega) (by omega) (by have m0:=HM.out;omega) hobject en_object rfl (fun d' hh=>ib_op (m:=.object) rfl hh)).mono ?_
 rintro e w1 ⟨d1,i1,o1⟩
 have I1:=hid i1
 rcases o1 with ⟨z1,rfl,h1⟩|⟨z1,rfl,h1⟩
 rotate_left
 ·have HP:=hid h1
  have HZ:=hid z1
  clear h1 i1 z1
  go_wp2_with fail
  exact ⟨rfl,_,(rb_cons I1.out (dead_rb HZ.out _)),.inr ⟨HZ.out,rfl,HP.out⟩⟩
 have H1:=hid h1
 clear h1 i1 z1
 go_wp2_with fail
 refine (maybeSign_ib H1.out (by omega) [⟨#[58,61]⟩] (by simp) (by kernel_rfl) rfl rfl).mono ?_
 rintro e w2 (⟨q2,rfl,h2⟩|⟨q2,d2,i2,o2⟩)
 rotate_left
 ·have Q2:=hid q2
  clear q2
  have I2:=hid i2
  rcases o2 with ⟨z2,rfl,h2⟩|⟨z2,rfl,h2⟩
  rotate_left
  ·have HP:=hid h2
   have HZ:=hid z2
   clear h2 i2 z2
   go_wp2_with fail
   exact ⟨rfl,_,(rb_cons I1.out (rb_cons (ib_once1 (pick_row1 Q2.out) (ib_all (rb_cons I2.out (dead_rb HZ.out _)))) (dead_rb HZ.out _))),.inr ⟨HZ.out,rfl,HP.out⟩⟩
  have H2:=hid h2
  clear h2 i2 z2
  go_wp2_with fail
  refine (node_ib H2.out (by omega) (by omega) (Nat.le_refl _) (hexprA (ms (tks X.l) d2) (by have m0:=HM.out;have m1:=ms_ib I1.out;have m2:=tok_lt ne_wd I2.out H1.out.e0 H2.out.e0;omega)) en_expr rfl (fun d' hh=>ib_op (m:=.expr) rfl hh)).mono ?_
  rintro e w3 ⟨d3,i3,o3⟩
  have I3:=hid i3
  rcases o3 with ⟨z3,rfl,h3⟩|⟨z3,rfl,h3⟩
  rotate_left
  ·have HP:=hid h3
   have HZ:=hid z3
   clear h3 i3 z3
   go_wp2_with fail
   exact ⟨rfl,_,(rb_cons I1.out (rb_cons (ib_once1 (pick_row1 Q2.out) (ib_all (rb_cons I2.out (rb_cons I3.out (dead_rb HZ.out _))))) (dead_rb HZ.out _))),.inr ⟨HZ.out,rfl,HP.out⟩⟩
  have H3:=hid h3
  clear h3 i3 z3
  go_wp2_with fail
  go_end0
  exact ⟨_,(rb_cons I1.out (rb_cons (ib_once1 (pick_row1 Q2.out) (ib_all (rb_cons I2.out (rb_cons I3.out rb_nil)))) rb_nil)),.inl ⟨H3.out.e0,rfl,H3.out⟩⟩
 have Q2:=hid q2
 have H2:=hid h2
 clear q2 h2
 go_wp2_with fail
 go_end0
 exact ⟨_,(rb_cons I1.out (rb_cons (ib_once0 (pick_row0 Q2.out)) rb_nil)),.inl ⟨H2.out.e0,rfl,H2.out⟩⟩
set_option maxHeartbeats 2000000 in
theorem branch_rc (n:Nat) (hexpr:RwC 161 gr_expr 50 n) (hbodyA:∀k,k<n→RwC 115 gr_body 45 k):RwC 187 gr_branch 45 n:=by
 intro X r d W h hr hm
 have H0:Hid (SD X r d W):=h
 have HM:Hid (ms (tks X.l) d≤n):=hm
 have hmf:∀(fn:Fn) (first cap:Array Value) (w:World),(Instr.makeFunc fn first cap).run Tryz.prog w=.ok (.func fn first cap) w:=fun _ _ _ _=>rfl
 clear h hm
 go_enter Tryz.func187,Tryz.ntmps187
 go_wp2_with fail
 refine (node_ib H0.out (by omega) (by omega) (by have m0:=HM.out;omega) hexpr en_expr rfl (fun d' hh=>ib_op (m:=.expr) rfl hh)).mono ?_
 rintro e w1 ⟨d1,i1,o1⟩
 have I1:=hid i1
 rcases o1 with ⟨z1,rfl,h1⟩|⟨z1,rfl,h1⟩
 rotate_left
 ·have HP:=hid h1
  have HZ:=hid z1
  clear h1 i1 z1
  go_wp2_with fail
  exact ⟨rfl,_,(rb_cons I1.out (dead_rb HZ.out _)),.inr ⟨HZ.out,rfl,HP.out⟩⟩
 have H1:=hid h1
 clear h1 i1 z1
 go_wp2_with fail
 refine (key_ib H1.out (by omega) (by kernel_rfl)).mono ?_
 rintro e w2 ⟨d2,i2,o2⟩
 have I2:=hid i2
 rcases o2 with ⟨z2,rfl,h2⟩|⟨z2,rfl,h2⟩
 rotate_left
 ·have HP:=hid h2
  have HZ:=hid z2
  clear h2 i2 z2
  go_wp2_with fail
  exact ⟨rfl,_,(rb_cons I1.out (rb_cons I2.out (dead_rb HZ.out _))),.inr ⟨HZ.out,rfl,HP.out⟩⟩
 have H2:=hid h2
 clear h2 i2 z2
 go_wp2_with fail
 refine (node_ib H2.out (by omega) (by omega) (Nat.le_refl _) (hbodyA (ms (tks X.l) d2) (by have m0:=HM.out;have m1:=ms_ib I1.out;have m2:=tok_lt ne_wd I2.out H1.out.e0 H2.out.e0;omega)) en_body rfl (fun d' hh=>ib_op (m:=.body) rfl hh)).mono ?_
 rintro e w3 ⟨d3,i3,o3⟩
 have I3:=hid i3
 rcases o3 with ⟨z3,rfl,h3⟩|⟨z3,rfl,h3⟩
 rotate_left
 ·have HP:=hid h3
  have HZ:=hid z3
  clear h3 i3 z3
  go_wp2_with fail
  exact ⟨rfl,_,(rb_cons I1.out (rb_cons I2.out (rb_cons I3.out (dead_rb HZ.out _)))),.inr ⟨HZ.out,rfl,HP.out⟩⟩
 have H3:=hid h3
 clear h3 i3 z3
 go_wp2_with fail
 go_end0
 exact ⟨_,(rb_cons I1.out (rb_cons I2.out (rb_cons I3.out rb_nil))),.inl ⟨H3.out.e0,rfl,H3.out⟩⟩
set_option maxHeartbeats 2000000 in
theorem done_rc (n:Nat) (hbodyA:∀k,k<n→RwC 115 gr_body 45 k):RwC 188 gr_done 90 n:=by
 intro X r d W h hr hm
 have H0:Hid (SD X r d W):=h
 have HM:Hid (ms (tks X.l) d≤n):=hm
 have hmf:∀(fn:Fn) (first cap:Array Value) (w:World),(Instr.makeFunc fn first cap).run Tryz.prog w=.ok (.func fn first cap) w:=fun _ _ _ _=>rfl
 clear h hm
 go_enter Tryz.func188,Tryz.ntmps188
 go_wp2_with fail
 refine (key_ib H0.out (by omega) (by kernel_rfl)).mono ?_
 rintro e w1 ⟨d1,i1,o1⟩
 have I1:=hid i1
 rcases o1 with ⟨z1,rfl,h1⟩|⟨z1,rfl,h1⟩
 rotate_left
 ·have HP:=hid h1
  have HZ:=hid z1
  clear h1 i1 z1
  go_wp2_with fail
  exact ⟨rfl,_,(rb_cons I1.out (dead_rb HZ.out _)),.inr ⟨HZ.out,rfl,HP.out⟩⟩
 have H1:=hid h1
 clear h1 i1 z1
 go_wp2_with fail
 refine (node_ib H1.out (by omega) (by omega) (Nat.le_refl _) (hbodyA (ms (tks X.l) d1) (by have m0:=HM.out;have m1:=tok_lt ne_wd I1.out H0.out.e0 H1.out.e0;omega)) en_body rfl (fun d' hh=>ib_op (m:=.body) rfl hh)).mono ?_
 rintro e w2 ⟨d2,i2,o2⟩
 have I2:=hid i2
 rcases o2 with ⟨z2,rfl,h2⟩|⟨z2,rfl,h2⟩
 rotate_left
 ·have HP:=hid h2
  have HZ:=hid z2
  clear h2 i2 z2
  go_wp2_with fail
  exact ⟨rfl,_,(rb_cons I1.out (rb_cons I2.out (dead_rb HZ.out _))),.inr ⟨HZ.out,rfl,HP.out⟩⟩
 have H2:=hid h2
 clear h2 i2 z2
 go_wp2_with fail
 refine (key_ib H2.out (by omega) (by kernel_rfl)).mono ?_
 rintro e w3 ⟨d3,i3,o3⟩
 have I3:=hid i3
 rcases o3 with ⟨z3,rfl,h3⟩|⟨z3,rfl,h3⟩
 rotate_left
 ·have HP:=hid h3
  have HZ:=hid z3
  clear h3 i3 z3
  go_wp2_with fail
  exact ⟨rfl,_,(rb_cons I1.out (rb_cons I2.out (rb_cons I3.out (dead_rb HZ.out _)))),.inr ⟨HZ.out,rfl,HP.out⟩⟩
 have H3:=hid h3
 clear h3 i3 z3
 go_wp2_with fail
 go_end0
 exact ⟨_,(rb_cons I1.out (rb_cons I2.out (rb_cons I3.out rb_nil))),.inl ⟨H3.out.e0,rfl,H3.out⟩⟩
set_option maxHeartbeats 2000000 in
theorem branches_rc (n:Nat) (hbranchA:∀k,k<n→RwC 187 gr_branch 45 k) (hbodyA:∀k,k<n→RwC 115 gr_body 45 k):RwC 166 gr_branches 90 n:=by
 intro X r d W h hr hm
 have H0:Hid (SD X r d W):=h
 have HM:Hid (ms (tks X.l) d≤n):=hm
 have hmf:∀(fn:Fn) (first cap:Array Value) (w:World),(Instr.makeFunc fn first cap).run Tryz.prog w=.ok (.func fn first cap) w:=fun _ _ _ _=>rfl
 clear h hm
 go_enter Tryz.func166,Tryz.ntmps166
 go_wp2_with fail
 refine (key_ib H0.out (by omega) (by kernel_rfl)).mono ?_
 rintro e w1 ⟨d1,i1,o1⟩
 have I1:=hid i1
 rcases o1 with ⟨z1,rfl,h1⟩|⟨z1,rfl,h1⟩
 rotate_left
 ·have HP:=hid h1
  have HZ:=hid z1
  clear h1 i1 z1
  go_wp2_with fail
  exact ⟨rfl,_,(rb_cons I1.out (dead_rb HZ.out _)),.inr ⟨HZ.out,rfl,HP.out⟩⟩
 have H1:=hid h1
 clear h1 i1 z1
 go_wp2_with fail
 refine ((hbranchA (ms (tks X.l) d1) (by have m0:=HM.out;have m1:=tok_lt ne_wd I1.out H0.out.e0 H1.out.e0;omega)) X _ _ _ H1.out (by omega) (Nat.le_refl _)).mono ?_
 rintro e w2 ⟨d2,i2,o2⟩
 have I2:=hid i2
 rcases o2 with ⟨z2,rfl,h2⟩|⟨z2,rfl,h2⟩
 rotate_left
 ·have HP:=hid h2
  have HZ:=hid z2
  clear h2 i2 z2
  go_wp2_with fail
  exact ⟨rfl,_,(rb_cons I1.out (rb_app I2.out (dead_rb HZ.out _))),.inr ⟨HZ.out,rfl,HP.out⟩⟩
 have H2:=hid h2
 clear h2 i2 z2
 go_wp2_with fail
 go_loopw [] (fun wr=>∃dk,Hid (SD X 0 dk wr)∧Hid (Lp (tks X.l) (.row [.wd 2 [⟨#[101,108,105,102]⟩],.mt .expr,.wd 2 [⟨#[116,104,101,110]⟩],.mt .body]) d2 dk)) (fun wr=>mW X wr)
 case atStart=>exact ⟨_,H2.out,.refl⟩
 case round=>
  obtain ⟨e3,HJ3,HP3⟩:=hrel
  go_wp2_with fail
  refine (maybeKey_ib HJ3.out (by omega) [⟨#[101,108,105,102]⟩] (by simp) (by kernel_rfl) rfl rfl).mono ?_
  rintro e w4 (⟨q4,rfl,h4⟩|⟨q4,d4,i4,o4⟩)
  rotate_left
  ·have Q4:=hid q4
   clear q4
   have I4:=hid i4
   rcases o4 with ⟨z4,rfl,h4⟩|⟨z4,rfl,h4⟩
   rotate_left
   ·have HP:=hid h4
    have HZ:=hid z4
    clear h4 i4 z4
    go_wp2_with fail
    exact ⟨rfl,_,(rb_cons I1.out (rb_app I2.out (rb_cons (HP3.out.go _ (ib_again1 (pick_row1 Q4.out) (ib_all (rb_cons I4.out (dead_rb HZ.out _))) (dead_again HZ.out))) (dead_rb HZ.out _)))),.inr ⟨HZ.out,rfl,HP.out⟩⟩
   have H4:=hid h4
   clear h4 i4 z4
   go_wp2_with fail
   refine ((hbranchA (ms (tks X.l) d4) (by have m0:=HM.out;have m1:=tok_lt ne_wd I1.out H0.out.e0 H1.out.e0;have m2:=rch_ms (I2.out []);have ml3:=HP3.out.le;have m4:=tok_lt ne_wd I4.out HJ3.out.e0 H4.out.e0;omega)) X _ _ _ H4.out (by omega) (Nat.le_refl _)).mono ?_
   rintro e w5 ⟨d5,i5,o5⟩
   have I5:=hid i5
   rcases o5 with ⟨z5,rfl,h5⟩|⟨z5,rfl,h5⟩
   rotate_left
   ·have HP:=hid h5
    have HZ:=hid z5
    clear h5 i5 z5
    go_wp2_with fail
    exact ⟨rfl,_,(rb_cons I1.out (rb_app I2.out (rb_cons (HP3.out.go _ (ib_again1 (pick_row1 Q4.out) (ib_all (rb_cons I4.out (rb_app I5.out (dead_rb HZ.out _)))) (dead_again HZ.out))) (dead_rb HZ.out _)))),.inr ⟨HZ.out,rfl,HP.out⟩⟩
   have H5:=hid h5
   clear h5 i5 z5
   go_wp2_with fail
   exact ⟨⟨_,H5.out,HP3.out.step (pick_row1 Q4.out) (ib_all (rb_cons I4.out (rb_app I5.out rb_nil)))⟩,mw_lt HJ3.out H5.out (by have m0:=HM.out;have m1:=tok_lt ne_wd I1.out H0.out.e0 H1.out.e0;have m2:=rch_ms (I2.out []);have ml3:=HP3.out.le;have m4:=tok_lt ne_wd I4.out HJ3.out.e0 H4.out.e0;have m5:=rch_ms (I5.out []);omega)⟩
  have Q4:=hid q4
  have H4:=hid h4
  clear q4 h4
  go_wp2_with fail
  refine (maybeKey_ib H4.out (by omega) [⟨#[101,108,115,101]⟩] (by simp) (by kernel_rfl) rfl rfl).mono ?_
  rintro e w26 (⟨q26,rfl,h26⟩|⟨q26,d26,i26,o26⟩)
  rotate_left
  ·have Q26:=hid q26
   clear q26
   have I26:=hid i26
   rcases o26 with ⟨z26,rfl,h26⟩|⟨z26,rfl,h26⟩
   rotate_left
   ·have HP:=hid h26
    have HZ:=hid z26
    clear h26 i26 z26
    go_wp2_with fail
    exact ⟨rfl,_,(rb_cons I1.out (rb_app I2.out (rb_cons (HP3.out.fin (pick_row0 Q4.out)) (rb_cons (ib_once1 (pick_row1 Q26.out) (ib_all (rb_cons I26.out (dead_rb HZ.out _)))) (dead_rb HZ.out _))))),.inr ⟨HZ.out,rfl,HP.out⟩⟩
   have H26:=hid h26
   clear h26 i26 z26
   go_wp2_with fail
   refine (node_ib H26.out (by omega) (by omega) (Nat.le_refl _) (hbodyA (ms (tks X.l) d26) (by have m0:=HM.out;have m1:=tok_lt ne_wd I1.out H0.out.e0 H1.out.e0;have m2:=rch_ms (I2.out []);have ml3:=HP3.out.le;have m26:=tok_lt ne_wd I26.out H4.out.e0 H26.out.e0;omega)) en_body rfl (fun d' hh=>ib_op (m:=.body) rfl hh)).mono ?_
   rintro e w27 ⟨d27,i27,o27⟩
   have I27:=hid i27
   rcases o27 with ⟨z27,rfl,h27⟩|⟨z27,rfl,h27⟩
   rotate_left
   ·have HP:=hid h27
    have HZ:=hid z27
    clear h27 i27 z27
    go_wp2_with fail
    exact ⟨rfl,_,(rb_cons I1.out (rb_app I2.out (rb_cons (HP3.out.fin (pick_row0 Q4.out)) (rb_cons (ib_once1 (pick_row1 Q26.out) (ib_all (rb_cons I26.out (rb_cons I27.out (dead_rb HZ.out _))))) (dead_rb HZ.out _))))),.inr ⟨HZ.out,rfl,HP.out⟩⟩
   have H27:=hid h27
   clear h27 i27 z27
   go_wp2_with fail
   refine (key_ib H27.out (by omega) (by kernel_rfl)).mono ?_
   rintro e w28 ⟨d28,i28,o28⟩
   have I28:=hid i28
   rcases o28 with ⟨z28,rfl,h28⟩|⟨z28,rfl,h28⟩
   rotate_left
   ·have HP:=hid h28
    have HZ:=hid z28
    clear h28 i28 z28
    go_wp2_with fail
    exact ⟨rfl,_,(rb_cons I1.out (rb_app I2.out (rb_cons (HP3.out.fin (pick_row0 Q4.out)) (rb_cons (ib_once1 (pick_row1 Q26.out) (ib_all (rb_cons I26.out (rb_cons I27.out rb_nil)))) (rb_cons I28.out (dead_rb HZ.out _)))))),.inr ⟨HZ.out,rfl,HP.out⟩⟩
   have H28:=hid h28
   clear h28 i28 z28
   go_wp2_with fail
   go_end0
   exact ⟨_,(rb_cons I1.out (rb_app I2.out (rb_cons (HP3.out.fin (pick_row0 Q4.out)) (rb_cons (ib_once1 (pick_row1 Q26.out) (ib_all (rb_cons I26.out (rb_cons I27.out rb_nil)))) (rb_cons I28.out rb_nil))))),.inl ⟨H28.out.e0,rfl,H28.out⟩⟩
  have Q26:=hid q26
  have H26:=hid h26
  clear q26 h26
  go_wp2_with fail
  refine (key_ib H26.out (by omega) (by kernel_rfl)).mono ?_
  rintro e w49 ⟨d49,i49,o49⟩
  have I49:=hid i49
  rcases o49 with ⟨z49,rfl,h49⟩|⟨z49,rfl,h49⟩
  rotate_left
  ·have HP:=hid h49
   have HZ:=hid z49
   clear h49 i49 z49
   go_wp2_with fail
   exact ⟨rfl,_,(rb_cons I1.out (rb_app I2.out (rb_cons (HP3.out.fin (pick_row0 Q4.out)) (rb_cons (ib_once0 (pick_row0 Q26.out)) (rb_cons I49.out (dead_rb HZ.out _)))))),.inr ⟨HZ.out,rfl,HP.out⟩⟩
  have H49:=hid h49
  clear h49 i49 z49
  go_wp2_with fail
  go_end0
  exact ⟨_,(rb_cons I1.out (rb_app I2.out (rb_cons (HP3.out.fin (pick_row0 Q4.out)) (rb_cons (ib_once0 (pick_row0 Q26.out)) (rb_cons I49.out rb_nil))))),.inl ⟨H49.out.e0,rfl,H49.out⟩⟩
set_option maxHeartbeats 2000000 in
theorem while_rc (n:Nat) (hexprA:∀k,k<n→RwC 161 gr_expr 50 k) (hdoneA:∀k,k<n→RwC 188 gr_done 90 k):RwC 167 gr_while 90 n:=by
 intro X r d W h hr hm
 have H0:Hid (SD X r d W):=h
 have HM:Hid (ms (tks X.l) d≤n):=hm
 have hmf:∀(fn:Fn) (first cap:Array Value) (w:World),(Instr.makeFunc fn first cap).run Tryz.prog w=.ok (.func fn first cap) w:=fun _ _ _ _=>rfl
 clear h hm
 go_enter Tryz.func167,Tryz.ntmps167
 go_wp2_with fail
 refine (key_ib H0.out (by omega) (by kernel_rfl)).mono ?_
 rintro e w1 ⟨d1,i1,o1⟩
 have I1:=hid i1
 rcases o1 with ⟨z1,rfl,h1⟩|⟨z1,rfl,h1⟩
 rotate_left
 ·have HP:=hid h1
  have HZ:=hid z1
  clear h1 i1 z1
  go_wp2_with fail
  exact ⟨rfl,_,(rb_cons I1.out (dead_rb HZ.out _)),.inr ⟨HZ.out,rfl,HP.out⟩⟩
 have H1:=hid h1
 clear h1 i1 z1
 go_wp2_with fail
 refine (node_ib H1.out (by omega) (by omega) (Nat.le_refl _) (hexprA (ms (tks X.l) d1) (by have m0:=HM.out;have m1:=tok_lt ne_wd I1.out H0.out.e0 H1.out.e0;omega)) en_expr rfl (fun d' hh=>ib_op (m:=.expr) rfl hh)).mono ?_
 rintro e w2 ⟨d2,i2,o2⟩
 have I2:=hid i2
 rcases o2 with ⟨z2,rfl,h2⟩|⟨z2,rfl,h2⟩
 rotate_left
 ·have HP:=hid h2
  have HZ:=hid z2
  clear h2 i2 z2
  go_wp2_with fail
  exact ⟨rfl,_,(rb_cons I1.out (rb_cons I2.out (dead_rb HZ.out _))),.inr ⟨HZ.out,rfl,HP.out⟩⟩
 have H2:=hid h2
 clear h2 i2 z2
 go_wp2_with fail
 refine ((hdoneA (ms (tks X.l) d2) (by have m0:=HM.out;have m1:=tok_lt ne_wd I1.out H0.out.e0 H1.out.e0;have m2:=ms_ib I2.out;omega)) X _ _ _ H2.out (by omega) (Nat.le_refl _)).mono ?_
 rintro e w3 ⟨d3,i3,o3⟩
 have I3:=hid i3
 rcases o3 with ⟨z3,rfl,h3⟩|⟨z3,rfl,h3⟩
 rotate_left
 ·have HP:=hid h3
  have HZ:=hid z3
  clear h3 i3 z3
  go_wp2_with fail
  exact ⟨rfl,_,(rb_cons I1.out (rb_cons I2.out (rb_app I3.out (dead_rb HZ.out _)))),.inr ⟨HZ.out,rfl,HP.out⟩⟩
 have H3:=hid h3
 clear h3 i3 z3
 go_wp2_with fail
 go_end0
 exact ⟨_,(rb_cons I1.out (rb_cons I2.out (rb_app I3.out rb_nil))),.inl ⟨H3.out.e0,rfl,H3.out⟩⟩
set_option maxHeartbeats 2000000 in
theorem count_rc (n:Nat) (hexprA:∀k,k<n→RwC 161 gr_expr 50 k) (hdoneA:∀k,k<n→RwC 188 gr_done 90 k):RwC 168 gr_count 90 n:=by
 intro X r d W h hr hm
 have H0:Hid (SD X r d W):=h
 have HM:Hid (ms (tks X.l) d≤n):=hm
 have hmf:∀(fn:Fn) (first cap:Array Value) (w:World),(Instr.makeFunc fn first cap).run Tryz.prog w=.ok (.func fn first cap) w:=fun _ _ _ _=>rfl
 clear h hm
 go_enter Tryz.func168,Tryz.ntmps168
 go_wp2_with fail
 refine (key_ib H0.out (by omega) (by kernel_rfl)).mono ?_
 rintro e w1 ⟨d1,i1,o1⟩
 have I1:=hid i1
 rcases o1 with ⟨z1,rfl,h1⟩|⟨z1,rfl,h1⟩
 rotate_left
 ·have HP:=hid h1
  have HZ:=hid z1
  clear h1 i1 z1
  go_wp2_with fail
  exact ⟨rfl,_,(rb_cons I1.out (dead_rb HZ.out _)),.inr ⟨HZ.out,rfl,HP.out⟩⟩
 have H1:=hid h1
 clear h1 i1 z1
 go_wp2_with fail
 refine (name_ib H1.out (by omega)).mono ?_
 rintro e w2 ⟨d2,i2,o2⟩
 have I2:=hid i2
 rcases o2 with ⟨z2,rfl,h2⟩|⟨z2,rfl,h2⟩
 rotate_left
 ·have HP:=hid h2
  have HZ:=hid z2
  clear h2 i2 z2
  go_wp2_with fail
  exact ⟨rfl,_,(rb_cons I1.out (rb_cons I2.out (dead_rb HZ.out _))),.inr ⟨HZ.out,rfl,HP.out⟩⟩
 have H2:=hid h2
 clear h2 i2 z2
 go_wp2_with fail
 refine (sign_ib H2.out (by omega) (by kernel_rfl)).mono ?_
 rintro e w3 ⟨d3,i3,o3⟩
 have I3:=hid i3
 rcases o3 with ⟨z3,rfl,h3⟩|⟨z3,rfl,h3⟩
 rotate_left
 ·have HP:=hid h3
  have HZ:=hid z3
  clear h3 i3 z3
  go_wp2_with fail
  exact ⟨rfl,_,(rb_cons I1.out (rb_cons I2.out (rb_cons I3.out (dead_rb HZ.out _)))),.inr ⟨HZ.out,rfl,HP.out⟩⟩
 have H3:=hid h3
 clear h3 i3 z3
 go_wp2_with fail
 refine (node_ib H3.out (by omega) (by omega) (Nat.le_refl _) (hexprA (ms (tks X.l) d3) (by have m0:=HM.out;have m1:=tok_lt ne_wd I1.out H0.out.e0 H1.out.e0;have m2:=tok_lt ne_nm I2.out H1.out.e0 H2.out.e0;have m3:=tok_lt ne_wd I3.out H2.out.e0 H3.out.e0;omega)) en_expr rfl (fun d' hh=>ib_op (m:=.expr) rfl hh)).mono ?_
 rintro e w4 ⟨d4,i4,o4⟩
 have I4:=hid i4
 rcases o4 with ⟨z4,rfl,h4⟩|⟨z4,rfl,h4⟩
 rotate_left
 ·have HP:=hid h4
  have HZ:=hid z4
  clear h4 i4 z4
  go_wp2_with fail
  exact ⟨rfl,_,(rb_cons I1.out (rb_cons I2.out (rb_cons I3.out (rb_cons I4.out (dead_rb HZ.out _))))),.inr ⟨HZ.out,rfl,HP.out⟩⟩
 have H4:=hid h4
 clear h4 i4 z4
 go_wp2_with fail
 refine (key_ib H4.out (by omega) (by kernel_rfl)).mono ?_
 rintro e w5 ⟨d5,i5,o5⟩
 have I5:=hid i5
 rcases o5 with ⟨z5,rfl,h5⟩|⟨z5,rfl,h5⟩
 rotate_left
 ·have HP:=hid h5
  have HZ:=hid z5
  clear h5 i5 z5
  go_wp2_with fail
  exact ⟨rfl,_,(rb_cons I1.out (rb_cons I2.out (rb_cons I3.out (rb_cons I4.out (rb_cons I5.out (dead_rb HZ.out _)))))),.inr ⟨HZ.out,rfl,HP.out⟩⟩
 have H5:=hid h5
 clear h5 i5 z5
 go_wp2_with fail
 refine (node_ib H5.out (by omega) (by omega) (Nat.le_refl _) (hexprA (ms (tks X.l) d5) (by have m0:=HM.out;have m1:=tok_lt ne_wd I1.out H0.out.e0 H1.out.e0;have m2:=tok_lt ne_nm I2.out H1.out.e0 H2.out.e0;have m3:=tok_lt ne_wd I3.out H2.out.e0 H3.out.e0;have m4:=ms_ib I4.out;have m5:=tok_lt ne_wd I5.out H4.out.e0 H5.out.e0;omega)) en_expr rfl (fun d' hh=>ib_op (m:=.expr) rfl hh)).mono ?_
 rintro e w6 ⟨d6,i6,o6⟩
 have I6:=hid i6
 rcases o6 with ⟨z6,rfl,h6⟩|⟨z6,rfl,h6⟩
 rotate_left
 ·have HP:=hid h6
  have HZ:=hid z6
  clear h6 i6 z6
  go_wp2_with fail
  exact ⟨rfl,_,(rb_cons I1.out (rb_cons I2.out (rb_cons I3.out (rb_cons I4.out (rb_cons I5.out (rb_cons I6.out (dead_rb HZ.out _))))))),.inr ⟨HZ.out,rfl,HP.out⟩⟩
 have H6:=hid h6
 clear h6 i6 z6
 go_wp2_with fail
 refine ((hdoneA (ms (tks X.l) d6) (by have m0:=HM.out;have m1:=tok_lt ne_wd I1.out H0.out.e0 H1.out.e0;have m2:=tok_lt ne_nm I2.out H1.out.e0 H2.out.e0;have m3:=tok_lt ne_wd I3.out H2.out.e0 H3.out.e0;have m4:=ms_ib I4.out;have m5:=tok_lt ne_wd I5.out H4.out.e0 H5.out.e0;have m6:=ms_ib I6.out;omega)) X _ _ _ H6.out (by omega) (Nat.le_refl _)).mono ?_
 rintro e w7 ⟨d7,i7,o7⟩
 have I7:=hid i7
 rcases o7 with ⟨z7,rfl,h7⟩|⟨z7,rfl,h7⟩
 rotate_left
 ·have HP:=hid h7
  have HZ:=hid z7
  clear h7 i7 z7
  go_wp2_with fail
  exact ⟨rfl,_,(rb_cons I1.out (rb_cons I2.out (rb_cons I3.out (rb_cons I4.out (rb_cons I5.out (rb_cons I6.out (rb_app I7.out (dead_rb HZ.out _)))))))),.inr ⟨HZ.out,rfl,HP.out⟩⟩
 have H7:=hid h7
 clear h7 i7 z7
 go_wp2_with fail
 go_end0
 exact ⟨_,(rb_cons I1.out (rb_cons I2.out (rb_cons I3.out (rb_cons I4.out (rb_cons I5.out (rb_cons I6.out (rb_app I7.out rb_nil))))))),.inl ⟨H7.out.e0,rfl,H7.out⟩⟩
set_option maxHeartbeats 2000000 in
theorem repeat_rc (n:Nat) (hbodyA:∀k,k<n→RwC 115 gr_body 45 k) (hexprA:∀k,k<n→RwC 161 gr_expr 50 k):RwC 169 gr_repeat 90 n:=by
 intro X r d W h hr hm
 have H0:Hid (SD X r d W):=h
 have HM:Hid (ms (tks X.l) d≤n):=hm
 have hmf:∀(fn:Fn) (first cap:Array Value) (w:World),(Instr.makeFunc fn first cap).run Tryz.prog w=.ok (.func fn first cap) w:=fun _ _ _ _=>rfl
 clear h hm
 go_enter Tryz.func169,Tryz.ntmps169
 go_wp2_with fail
 refine (key_ib H0.out (by omega) (by kernel_rfl)).mono ?_
 rintro e w1 ⟨d1,i1,o1⟩
 have I1:=hid i1
 rcases o1 with ⟨z1,rfl,h1⟩|⟨z1,rfl,h1⟩
 rotate_left
 ·have HP:=hid h1
  have HZ:=hid z1
  clear h1 i1 z1
  go_wp2_with fail
  exact ⟨rfl,_,(rb_cons I1.out (dead_rb HZ.out _)),.inr ⟨HZ.out,rfl,HP.out⟩⟩
 have H1:=hid h1
 clear h1 i1 z1
 go_wp2_with fail
 refine (node_ib H1.out (by omega) (by omega) (Nat.le_refl _) (hbodyA (ms (tks X.l) d1) (by have m0:=HM.out;have m1:=tok_lt ne_wd I1.out H0.out.e0 H1.out.e0;omega)) en_body rfl (fun d' hh=>ib_op (m:=.body) rfl hh)).mono ?_
 rintro e w2 ⟨d2,i2,o2⟩
 have I2:=hid i2
 rcases o2 with ⟨z2,rfl,h2⟩|⟨z2,rfl,h2⟩
 rotate_left
 ·have HP:=hid h2
  have HZ:=hid z2
  clear h2 i2 z2
  go_wp2_with fail
  exact ⟨rfl,_,(rb_cons I1.out (rb_cons I2.out (dead_rb HZ.out _))),.inr ⟨HZ.out,rfl,HP.out⟩⟩
 have H2:=hid h2
 clear h2 i2 z2
 go_wp2_with fail
 refine (key_ib H2.out (by omega) (by kernel_rfl)).mono ?_
 rintro e w3 ⟨d3,i3,o3⟩
 have I3:=hid i3
 rcases o3 with ⟨z3,rfl,h3⟩|⟨z3,rfl,h3⟩
 rotate_left
 ·have HP:=hid h3
  have HZ:=hid z3
  clear h3 i3 z3
  go_wp2_with fail
  exact ⟨rfl,_,(rb_cons I1.out (rb_cons I2.out (rb_cons I3.out (dead_rb HZ.out _)))),.inr ⟨HZ.out,rfl,HP.out⟩⟩
 have H3:=hid h3
 clear h3 i3 z3
 go_wp2_with fail
 refine (node_ib H3.out (by omega) (by omega) (Nat.le_refl _) (hexprA (ms (tks X.l) d3) (by have m0:=HM.out;have m1:=tok_lt ne_wd I1.out H0.out.e0 H1.out.e0;have m2:=ms_ib I2.out;have m3:=tok_lt ne_wd I3.out H2.out.e0 H3.out.e0;omega)) en_expr rfl (fun d' hh=>ib_op (m:=.expr) rfl hh)).mono ?_
 rintro e w4 ⟨d4,i4,o4⟩
 have I4:=hid i4
 rcases o4 with ⟨z4,rfl,h4⟩|⟨z4,rfl,h4⟩
 rotate_left
 ·have HP:=hid h4
  have HZ:=hid z4
  clear h4 i4 z4
  go_wp2_with fail
  exact ⟨rfl,_,(rb_cons I1.out (rb_cons I2.out (rb_cons I3.out (rb_cons I4.out (dead_rb HZ.out _))))),.inr ⟨HZ.out,rfl,HP.out⟩⟩
 have H4:=hid h4
 clear h4 i4 z4
 go_wp2_with fail
 go_end0
 exact ⟨_,(rb_cons I1.out (rb_cons I2.out (rb_cons I3.out (rb_cons I4.out rb_nil)))),.inl ⟨H4.out.e0,rfl,H4.out⟩⟩
set_option maxHeartbeats 2000000 in
theorem answer_rc (n:Nat) (hexprA:∀k,k<n→RwC 161 gr_expr 50 k):RwC 170 gr_answer 90 n:=by
 intro X r d W h hr hm
 have H0:Hid (SD X r d W):=h
 have HM:Hid (ms (tks X.l) d≤n):=hm
 have hmf:∀(fn:Fn) (first cap:Array Value) (w:World),(Instr.makeFunc fn first cap).run Tryz.prog w=.ok (.func fn first cap) w:=fun _ _ _ _=>rfl
 clear h hm
 go_enter Tryz.func170,Tryz.ntmps170
 go_wp2_with fail
 refine (key_ib H0.out (by omega) (by kernel_rfl)).mono ?_
 rintro e w1 ⟨d1,i1,o1⟩
 have I1:=hid i1
 rcases o1 with ⟨z1,rfl,h1⟩|⟨z1,rfl,h1⟩
 rotate_left
 ·have HP:=hid h1
  have HZ:=hid z1
  clear h1 i1 z1
  go_wp2_with fail
  exact ⟨rfl,_,(rb_cons I1.out (dead_rb HZ.out _)),.inr ⟨HZ.out,rfl,HP.out⟩⟩
 have H1:=hid h1
 clear h1 i1 z1
 go_wp2_with fail
 refine (isExpr_any H1.out).mono ?_
 rintro e w2 ⟨b2,rfl,hbe2,hb2⟩
 have H2:=show Hid _ from H1.out.below hb2
 have PB2:=show Hid _ from hbe2 .expr
 clear hb2 hbe2
 cases b2 with
 |true=>
  go_wp2_with fail
  refine (node_ib H2.out (by omega) (by omega) (Nat.le_refl _) (hexprA (ms (tks X.l) d1) (by have m0:=HM.out;have m1:=tok_lt ne_wd I1.out H0.out.e0 H1.out.e0;omega)) en_expr rfl (fun d' hh=>ib_once1 PB2.out (ib_op (m:=.expr) rfl hh))).mono ?_
  rintro e w3 ⟨d3,i3,o3⟩
  have I3:=hid i3
  rcases o3 with ⟨z3,rfl,h3⟩|⟨z3,rfl,h3⟩
  rotate_left
  ·have HP:=hid h3
   have HZ:=hid z3
   clear h3 i3 z3
   go_wp2_with fail
   exact ⟨rfl,_,(rb_cons I1.out (rb_cons I3.out (dead_rb HZ.out _))),.inr ⟨HZ.out,rfl,HP.out⟩⟩
  have H3:=hid h3
  clear h3 i3 z3
  go_wp2_with fail
  go_end0
  exact ⟨_,(rb_cons I1.out (rb_cons I3.out rb_nil)),.inl ⟨H3.out.e0,rfl,H3.out⟩⟩
 |false=>
  go_wp2_with fail
  go_end0
  exact ⟨_,(rb_cons I1.out (rb_cons (ib_once0 PB2.out) rb_nil)),.inl ⟨H2.out.e0,rfl,H2.out⟩⟩
set_option maxHeartbeats 2000000 in
theorem compound_rc (n:Nat) (hbodyA:∀k,k<n→RwC 115 gr_body 45 k):RwC 171 gr_compound 90 n:=by
 intro X r d W h hr hm
 have H0:Hid (SD X r d W):=h
 have HM:Hid (ms (tks X.l) d≤n):=hm
 have hmf:∀(fn:Fn) (first cap:Array Value) (w:World),(Instr.makeFunc fn first cap).run Tryz.prog w=.ok (.func fn first cap) w:=fun _ _ _ _=>rfl
 clear h hm
 go_enter Tryz.func171,Tryz.ntmps171
 go_wp2_with fail
 refine (key_ib H0.out (by omega) (by kernel_rfl)).mono ?_
 rintro e w1 ⟨d1,i1,o1⟩
 have I1:=hid i1
 rcases o1 with ⟨z1,rfl,h1⟩|⟨z1,rfl,h1⟩
 rotate_left
 ·have HP:=hid h1
  have HZ:=hid z1
  clear h1 i1 z1
  go_wp2_with fail
  exact ⟨rfl,_,(rb_cons I1.out (dead_rb HZ.out _)),.inr ⟨HZ.out,rfl,HP.out⟩⟩
 have H1:=hid h1
 clear h1 i1 z1
 go_wp2_with fail
 refine (node_ib H1.out (by omega) (by omega) (Nat.le_refl _) (hbodyA (ms (tks X.l) d1) (by have m0:=HM.out;have m1:=tok_lt ne_wd I1.out H0.out.e0 H1.out.e0;omega)) en_body rfl (fun d' hh=>ib_op (m:=.body) rfl hh)).mono ?_
 rintro e w2 ⟨d2,i2,o2⟩
 have I2:=hid i2
 rcases o2 with ⟨z2,rfl,h2⟩|⟨z2,rfl,h2⟩
 rotate_left
 ·have HP:=hid h2
  have HZ:=hid z2
  clear h2 i2 z2
  go_wp2_with fail
  exact ⟨rfl,_,(rb_cons I1.out (rb_cons I2.out (dead_rb HZ.out _))),.inr ⟨HZ.out,rfl,HP.out⟩⟩
 have H2:=hid h2
 clear h2 i2 z2
 go_wp2_with fail
 refine (key_ib H2.out (by omega) (by kernel_rfl)).mono ?_
 rintro e w3 ⟨d3,i3,o3⟩
 have I3:=hid i3
 rcases o3 with ⟨z3,rfl,h3⟩|⟨z3,rfl,h3⟩
 rotate_left
 ·have HP:=hid h3
  have HZ:=hid z3
  clear h3 i3 z3
  go_wp2_with fail
  exact ⟨rfl,_,(rb_cons I1.out (rb_cons I2.out (rb_cons I3.out (dead_rb HZ.out _)))),.inr ⟨HZ.out,rfl,HP.out⟩⟩
 have H3:=hid h3
 clear h3 i3 z3
 go_wp2_with fail
 go_end0
 exact ⟨_,(rb_cons I1.out (rb_cons I2.out (rb_cons I3.out rb_nil))),.inl ⟨H3.out.e0,rfl,H3.out⟩⟩
end Go.Proofs.YtkigadnkclkopaaGreatDoor
