import Derived.Test.YtkigadnkclkopaaGreatDoorM30
set_option linter.unusedVariables false
set_option linter.unusedSimpArgs false
namespace Go.Proofs.YtkigadnkclkopaaGreatDoor
open Go.RowKit
set_option maxHeartbeats 2000000 in
theorem expr_rc (n:Nat) (hrel:RwC 183 gr_rel 55 n) (hrelA:∀k,k<n→RwC 183 gr_rel 55 k):RwC 161 gr_expr 50 n:=by
 intro X r d W h hr hm
 have H0:Hid (SD X r d W):=h
 have HM:Hid (ms (tks X.l) d≤n):=hm
 have hmf:∀(fn:Fn) (first cap:Array Value) (w:World),(Instr.makeFunc fn first cap).run Tryz.prog w=.ok (.func fn first cap) w:=fun _ _ _ _=>rfl
 clear h hm
 go_enter Tryz.func161,Tryz.ntmps161
 go_wp2_with fail
 refine (node_ib H0.out (by omega) (by omega) (by have m0:=HM.out;omega) hrel en_rel rfl (fun d' hh=>ib_op (m:=.rel) rfl hh)).mono ?_
 rintro e w1 ⟨d1,i1,o1⟩
 have I1:=hid i1
 rcases o1 with ⟨z1,rfl,h1⟩|⟨z1,rfl,h1⟩
 rotate_left
 ·have HP:=hid h1
  have HZ:=hid z1
  clear h1 i1 z1
  go_wp2_with fail
  exact ⟨rfl,_,(rb_cons I1.out (dead_rb HZ.out _)),.inr ⟨HZ.out,rfl,HP.out⟩⟩
 have H1:=hid h1
 clear h1 i1 z1
 go_wp2_with fail
 go_loopw [] (fun wr=>∃dk,Hid (SD X 0 dk wr)∧Hid (Lp (tks X.l) (.row [.wd 2 [⟨#[97,110,100]⟩,⟨#[111,114]⟩],.mt .rel]) d1 dk)) (fun wr=>mW X wr)
 case atStart=>exact ⟨_,H1.out,.refl⟩
 case round=>
  obtain ⟨e2,HJ2,HP2⟩:=hrel
  go_wp2_with fail
  refine (maybeKey_ib HJ2.out (by omega) [⟨#[97,110,100]⟩,⟨#[111,114]⟩] (by simp) (by kernel_rfl) rfl rfl).mono ?_
  rintro e w3 (⟨q3,rfl,h3⟩|⟨q3,d3,i3,o3⟩)
  rotate_left
  ·have Q3:=hid q3
   clear q3
   have I3:=hid i3
   rcases o3 with ⟨z3,rfl,h3⟩|⟨z3,rfl,h3⟩
   rotate_left
   ·have HP:=hid h3
    have HZ:=hid z3
    clear h3 i3 z3
    go_wp2_with fail
    exact ⟨rfl,_,(rb_cons I1.out (rb_cons (HP2.out.go _ (ib_again1 (pick_row1 Q3.out) (ib_all (rb_cons I3.out (dead_rb HZ.out _))) (dead_again HZ.out))) (dead_rb HZ.out _))),.inr ⟨HZ.out,rfl,HP.out⟩⟩
   have H3:=hid h3
   clear h3 i3 z3
   go_wp2_with fail
   refine (node_ib H3.out (by omega) (by omega) (Nat.le_refl _) (hrelA (ms (tks X.l) d3) (by have m0:=HM.out;have m1:=ms_ib I1.out;have ml2:=HP2.out.le;have m3:=tok_lt ne_wd I3.out HJ2.out.e0 H3.out.e0;omega)) en_rel rfl (fun d' hh=>ib_op (m:=.rel) rfl hh)).mono ?_
   rintro e w4 ⟨d4,i4,o4⟩
   have I4:=hid i4
   rcases o4 with ⟨z4,rfl,h4⟩|⟨z4,rfl,h4⟩
   rotate_left
   ·have HP:=hid h4
    have HZ:=hid z4
    clear h4 i4 z4
    go_wp2_with fail
    exact ⟨rfl,_,(rb_cons I1.out (rb_cons (HP2.out.go _ (ib_again1 (pick_row1 Q3.out) (ib_all (rb_cons I3.out (rb_cons I4.out (dead_rb HZ.out _)))) (dead_again HZ.out))) (dead_rb HZ.out _))),.inr ⟨HZ.out,rfl,HP.out⟩⟩
   have H4:=hid h4
   clear h4 i4 z4
   go_wp2_with fail
   exact ⟨⟨_,H4.out,HP2.out.step (pick_row1 Q3.out) (ib_all (rb_cons I3.out (rb_cons I4.out rb_nil)))⟩,mw_lt HJ2.out H4.out (by have m0:=HM.out;have m1:=ms_ib I1.out;have ml2:=HP2.out.le;have m3:=tok_lt ne_wd I3.out HJ2.out.e0 H3.out.e0;have m4:=ms_ib I4.out;omega)⟩
  have Q3:=hid q3
  have H3:=hid h3
  clear q3 h3
  go_wp2_with fail
  go_end0
  exact ⟨_,(rb_cons I1.out (rb_cons (HP2.out.fin (pick_row0 Q3.out)) rb_nil)),.inl ⟨H3.out.e0,rfl,H3.out⟩⟩
set_option maxHeartbeats 2000000 in
theorem rel_rc (n:Nat) (hsum:RwC 200 gr_sum 60 n) (hsumA:∀k,k<n→RwC 200 gr_sum 60 k):RwC 183 gr_rel 55 n:=by
 intro X r d W h hr hm
 have H0:Hid (SD X r d W):=h
 have HM:Hid (ms (tks X.l) d≤n):=hm
 have hmf:∀(fn:Fn) (first cap:Array Value) (w:World),(Instr.makeFunc fn first cap).run Tryz.prog w=.ok (.func fn first cap) w:=fun _ _ _ _=>rfl
 clear h hm
 go_enter Tryz.func183,Tryz.ntmps183
 go_wp2_with fail
 refine (node_ib H0.out (by omega) (by omega) (by have m0:=HM.out;omega) hsum en_sum rfl (fun d' hh=>ib_op (m:=.sum) rfl hh)).mono ?_
 rintro e w1 ⟨d1,i1,o1⟩
 have I1:=hid i1
 rcases o1 with ⟨z1,rfl,h1⟩|⟨z1,rfl,h1⟩
 rotate_left
 ·have HP:=hid h1
  have HZ:=hid z1
  clear h1 i1 z1
  go_wp2_with fail
  exact ⟨rfl,_,(rb_cons I1.out (dead_rb HZ.out _)),.inr ⟨HZ.out,rfl,HP.out⟩⟩
 have H1:=hid h1
 clear h1 i1 z1
 go_wp2_with fail
 refine (maybeSign_ib H1.out (by omega) [⟨#[61]⟩,⟨#[35]⟩,⟨#[60]⟩,⟨#[60,61]⟩,⟨#[62]⟩,⟨#[62,61]⟩] (by simp) (by kernel_rfl) rfl rfl).mono ?_
 rintro e w2 (⟨q2,rfl,h2⟩|⟨q2,d2,i2,o2⟩)
 rotate_left
 ·have Q2:=hid q2
  clear q2
  have I2:=hid i2
  rcases o2 with ⟨z2,rfl,h2⟩|⟨z2,rfl,h2⟩
  rotate_left
  ·have HP:=hid h2
   have HZ:=hid z2
   clear h2 i2 z2
   go_wp2_with fail
   exact ⟨rfl,_,(rb_cons I1.out (rb_cons (ib_once1 (pick_row1 Q2.out) (ib_all (rb_cons I2.out (dead_rb HZ.out _)))) (dead_rb HZ.out _))),.inr ⟨HZ.out,rfl,HP.out⟩⟩
  have H2:=hid h2
  clear h2 i2 z2
  go_wp2_with fail
  refine (node_ib H2.out (by omega) (by omega) (Nat.le_refl _) (hsumA (ms (tks X.l) d2) (by have m0:=HM.out;have m1:=ms_ib I1.out;have m2:=tok_lt ne_wd I2.out H1.out.e0 H2.out.e0;omega)) en_sum rfl (fun d' hh=>ib_op (m:=.sum) rfl hh)).mono ?_
  rintro e w3 ⟨d3,i3,o3⟩
  have I3:=hid i3
  rcases o3 with ⟨z3,rfl,h3⟩|⟨z3,rfl,h3⟩
  rotate_left
  ·have HP:=hid h3
   have HZ:=hid z3
   clear h3 i3 z3
   go_wp2_with fail
   exact ⟨rfl,_,(rb_cons I1.out (rb_cons (ib_once1 (pick_row1 Q2.out) (ib_all (rb_cons I2.out (rb_cons I3.out (dead_rb HZ.out _))))) (dead_rb HZ.out _))),.inr ⟨HZ.out,rfl,HP.out⟩⟩
  have H3:=hid h3
  clear h3 i3 z3
  go_wp2_with fail
  go_end0
  exact ⟨_,(rb_cons I1.out (rb_cons (ib_once1 (pick_row1 Q2.out) (ib_all (rb_cons I2.out (rb_cons I3.out rb_nil)))) rb_nil)),.inl ⟨H3.out.e0,rfl,H3.out⟩⟩
 have Q2:=hid q2
 have H2:=hid h2
 clear q2 h2
 go_wp2_with fail
 go_end0
 exact ⟨_,(rb_cons I1.out (rb_cons (ib_once0 (pick_row0 Q2.out)) rb_nil)),.inl ⟨H2.out.e0,rfl,H2.out⟩⟩
set_option maxHeartbeats 2000000 in
theorem sum_rc (n:Nat) (hterm:RwC 207 gr_term 65 n) (htermA:∀k,k<n→RwC 207 gr_term 65 k):RwC 200 gr_sum 60 n:=by
 intro X r d W h hr hm
 have H0:Hid (SD X r d W):=h
 have HM:Hid (ms (tks X.l) d≤n):=hm
 have hmf:∀(fn:Fn) (first cap:Array Value) (w:World),(Instr.makeFunc fn first cap).run Tryz.prog w=.ok (.func fn first cap) w:=fun _ _ _ _=>rfl
 clear h hm
 go_enter Tryz.func200,Tryz.ntmps200
 go_wp2_with fail
 refine (node_ib H0.out (by omega) (by omega) (by have m0:=HM.out;omega) hterm en_term rfl (fun d' hh=>ib_op (m:=.term) rfl hh)).mono ?_
 rintro e w1 ⟨d1,i1,o1⟩
 have I1:=hid i1
 rcases o1 with ⟨z1,rfl,h1⟩|⟨z1,rfl,h1⟩
 rotate_left
 ·have HP:=hid h1
  have HZ:=hid z1
  clear h1 i1 z1
  go_wp2_with fail
  exact ⟨rfl,_,(rb_cons I1.out (dead_rb HZ.out _)),.inr ⟨HZ.out,rfl,HP.out⟩⟩
 have H1:=hid h1
 clear h1 i1 z1
 go_wp2_with fail
 go_loopw [] (fun wr=>∃dk,Hid (SD X 0 dk wr)∧Hid (Lp (tks X.l) (.row [.wd 6 [⟨#[43]⟩,⟨#[45]⟩],.mt .term]) d1 dk)) (fun wr=>mW X wr)
 case atStart=>exact ⟨_,H1.out,.refl⟩
 case round=>
  obtain ⟨e2,HJ2,HP2⟩:=hrel
  go_wp2_with fail
  refine (maybeSign_ib HJ2.out (by omega) [⟨#[43]⟩,⟨#[45]⟩] (by simp) (by kernel_rfl) rfl rfl).mono ?_
  rintro e w3 (⟨q3,rfl,h3⟩|⟨q3,d3,i3,o3⟩)
  rotate_left
  ·have Q3:=hid q3
   clear q3
   have I3:=hid i3
   rcases o3 with ⟨z3,rfl,h3⟩|⟨z3,rfl,h3⟩
   rotate_left
   ·have HP:=hid h3
    have HZ:=hid z3
    clear h3 i3 z3
    go_wp2_with fail
    exact ⟨rfl,_,(rb_cons I1.out (rb_cons (HP2.out.go _ (ib_again1 (pick_row1 Q3.out) (ib_all (rb_cons I3.out (dead_rb HZ.out _))) (dead_again HZ.out))) (dead_rb HZ.out _))),.inr ⟨HZ.out,rfl,HP.out⟩⟩
   have H3:=hid h3
   clear h3 i3 z3
   go_wp2_with fail
   refine (node_ib H3.out (by omega) (by omega) (Nat.le_refl _) (htermA (ms (tks X.l) d3) (by have m0:=HM.out;have m1:=ms_ib I1.out;have ml2:=HP2.out.le;have m3:=tok_lt ne_wd I3.out HJ2.out.e0 H3.out.e0;omega)) en_term rfl (fun d' hh=>ib_op (m:=.term) rfl hh)).mono ?_
   rintro e w4 ⟨d4,i4,o4⟩
   have I4:=hid i4
   rcases o4 with ⟨z4,rfl,h4⟩|⟨z4,rfl,h4⟩
   rotate_left
   ·have HP:=hid h4
    have HZ:=hid z4
    clear h4 i4 z4
    go_wp2_with fail
    exact ⟨rfl,_,(rb_cons I1.out (rb_cons (HP2.out.go _ (ib_again1 (pick_row1 Q3.out) (ib_all (rb_cons I3.out (rb_cons I4.out (dead_rb HZ.out _)))) (dead_again HZ.out))) (dead_rb HZ.out _))),.inr ⟨HZ.out,rfl,HP.out⟩⟩
   have H4:=hid h4
   clear h4 i4 z4
   go_wp2_with fail
   exact ⟨⟨_,H4.out,HP2.out.step (pick_row1 Q3.out) (ib_all (rb_cons I3.out (rb_cons I4.out rb_nil)))⟩,mw_lt HJ2.out H4.out (by have m0:=HM.out;have m1:=ms_ib I1.out;have ml2:=HP2.out.le;have m3:=tok_lt ne_wd I3.out HJ2.out.e0 H3.out.e0;have m4:=ms_ib I4.out;omega)⟩
  have Q3:=hid q3
  have H3:=hid h3
  clear q3 h3
  go_wp2_with fail
  go_end0
  exact ⟨_,(rb_cons I1.out (rb_cons (HP2.out.fin (pick_row0 Q3.out)) rb_nil)),.inl ⟨H3.out.e0,rfl,H3.out⟩⟩
set_option maxHeartbeats 2000000 in
theorem term_rc (n:Nat) (hfactor:PC .factor 202 n) (hfactorA:∀k,k<n→PC .factor 202 k):RwC 207 gr_term 65 n:=by
 intro X r d W h hr hm
 have H0:Hid (SD X r d W):=h
 have HM:Hid (ms (tks X.l) d≤n):=hm
 have hmf:∀(fn:Fn) (first cap:Array Value) (w:World),(Instr.makeFunc fn first cap).run Tryz.prog w=.ok (.func fn first cap) w:=fun _ _ _ _=>rfl
 clear h hm
 go_enter Tryz.func207,Tryz.ntmps207
 go_wp2_with fail
 refine (hfactor X _ _ _ H0.out).mono ?_
 rintro e w1 ⟨u1,v1,rfl,p1,hb1⟩
 have P1:=hid p1
 have H1:=show Hid _ from H0.out.below hb1
 clear p1 hb1
 go_wp2_with fail
 refine (one_pick H1.out (by omega) (by have m0:=HM.out;omega) P1.out).mono ?_
 rintro e w2 ⟨d2,i2,o2⟩
 have I2:=hid i2
 rcases o2 with ⟨z2,rfl,h2⟩|⟨z2,rfl,h2⟩
 rotate_left
 ·have HP:=hid h2
  have HZ:=hid z2
  clear h2 i2 z2
  go_wp2_with fail
  exact ⟨rfl,_,(rb_cons I2.out (dead_rb HZ.out _)),.inr ⟨HZ.out,rfl,HP.out⟩⟩
 have H2:=hid h2
 clear h2 i2 z2
 go_wp2_with fail
 go_loopw [] (fun wr=>∃dk,Hid (SD X 0 dk wr)∧Hid (Lp (tks X.l) (.row [.wd 6 [⟨#[42]⟩,⟨#[47]⟩,⟨#[37]⟩],.mt .factor]) d2 dk)) (fun wr=>mW X wr)
 case atStart=>exact ⟨_,H2.out,.refl⟩
 case round=>
  obtain ⟨e3,HJ3,HP3⟩:=hrel
  go_wp2_with fail
  refine (maybeSign_ib HJ3.out (by omega) [⟨#[42]⟩,⟨#[47]⟩,⟨#[37]⟩] (by simp) (by kernel_rfl) rfl rfl).mono ?_
  rintro e w4 (⟨q4,rfl,h4⟩|⟨q4,d4,i4,o4⟩)
  rotate_left
  ·have Q4:=hid q4
   clear q4
   have I4:=hid i4
   rcases o4 with ⟨z4,rfl,h4⟩|⟨z4,rfl,h4⟩
   rotate_left
   ·have HP:=hid h4
    have HZ:=hid z4
    clear h4 i4 z4
    go_wp2_with fail
    exact ⟨rfl,_,(rb_cons I2.out (rb_cons (HP3.out.go _ (ib_again1 (pick_row1 Q4.out) (ib_all (rb_cons I4.out (dead_rb HZ.out _))) (dead_again HZ.out))) (dead_rb HZ.out _))),.inr ⟨HZ.out,rfl,HP.out⟩⟩
   have H4:=hid h4
   clear h4 i4 z4
   go_wp2_with fail
   refine ((hfactorA (ms (tks X.l) d4) (by have m0:=HM.out;have m2:=ms_ib I2.out;have ml3:=HP3.out.le;have m4:=tok_lt ne_wd I4.out HJ3.out.e0 H4.out.e0;omega)) X _ _ _ H4.out).mono ?_
   rintro e w5 ⟨u5,v5,rfl,p5,hb5⟩
   have P5:=hid p5
   have H5:=show Hid _ from H4.out.below hb5
   clear p5 hb5
   go_wp2_with fail
   refine (one_pick H5.out (by omega) (Nat.le_refl _) P5.out).mono ?_
   rintro e w6 ⟨d6,i6,o6⟩
   have I6:=hid i6
   rcases o6 with ⟨z6,rfl,h6⟩|⟨z6,rfl,h6⟩
   rotate_left
   ·have HP:=hid h6
    have HZ:=hid z6
    clear h6 i6 z6
    go_wp2_with fail
    exact ⟨rfl,_,(rb_cons I2.out (rb_cons (HP3.out.go _ (ib_again1 (pick_row1 Q4.out) (ib_all (rb_cons I4.out (rb_cons I6.out (dead_rb HZ.out _)))) (dead_again HZ.out))) (dead_rb HZ.out _))),.inr ⟨HZ.out,rfl,HP.out⟩⟩
   have H6:=hid h6
   clear h6 i6 z6
   go_wp2_with fail
   exact ⟨⟨_,H6.out,HP3.out.step (pick_row1 Q4.out) (ib_all (rb_cons I4.out (rb_cons I6.out rb_nil)))⟩,mw_lt HJ3.out H6.out (by have m0:=HM.out;have m2:=ms_ib I2.out;have ml3:=HP3.out.le;have m4:=tok_lt ne_wd I4.out HJ3.out.e0 H4.out.e0;have m6:=ms_ib I6.out;omega)⟩
  have Q4:=hid q4
  have H4:=hid h4
  clear q4 h4
  go_wp2_with fail
  go_end0
  exact ⟨_,(rb_cons I2.out (rb_cons (HP3.out.fin (pick_row0 Q4.out)) rb_nil)),.inl ⟨H4.out.e0,rfl,H4.out⟩⟩
set_option maxHeartbeats 2000000 in
theorem minus_rc (n:Nat) (hfactorA:∀k,k<n→PC .factor 202 k):RwC 212 gr_minus 90 n:=by
 intro X r d W h hr hm
 have H0:Hid (SD X r d W):=h
 have HM:Hid (ms (tks X.l) d≤n):=hm
 have hmf:∀(fn:Fn) (first cap:Array Value) (w:World),(Instr.makeFunc fn first cap).run Tryz.prog w=.ok (.func fn first cap) w:=fun _ _ _ _=>rfl
 clear h hm
 go_enter Tryz.func212,Tryz.ntmps212
 go_wp2_with fail
 refine (sign_ib H0.out (by omega) (by kernel_rfl)).mono ?_
 rintro e w1 ⟨d1,i1,o1⟩
 have I1:=hid i1
 rcases o1 with ⟨z1,rfl,h1⟩|⟨z1,rfl,h1⟩
 rotate_left
 ·have HP:=hid h1
  have HZ:=hid z1
  clear h1 i1 z1
  go_wp2_with fail
  exact ⟨rfl,_,(rb_cons I1.out (dead_rb HZ.out _)),.inr ⟨HZ.out,rfl,HP.out⟩⟩
 have H1:=hid h1
 clear h1 i1 z1
 go_wp2_with fail
 refine ((hfactorA (ms (tks X.l) d1) (by have m0:=HM.out;have m1:=tok_lt ne_wd I1.out H0.out.e0 H1.out.e0;omega)) X _ _ _ H1.out).mono ?_
 rintro e w2 ⟨u2,v2,rfl,p2,hb2⟩
 have P2:=hid p2
 have H2:=show Hid _ from H1.out.below hb2
 clear p2 hb2
 go_wp2_with fail
 refine (one_pick H2.out (by omega) (Nat.le_refl _) P2.out).mono ?_
 rintro e w3 ⟨d3,i3,o3⟩
 have I3:=hid i3
 rcases o3 with ⟨z3,rfl,h3⟩|⟨z3,rfl,h3⟩
 rotate_left
 ·have HP:=hid h3
  have HZ:=hid z3
  clear h3 i3 z3
  go_wp2_with fail
  exact ⟨rfl,_,(rb_cons I1.out (rb_cons I3.out (dead_rb HZ.out _))),.inr ⟨HZ.out,rfl,HP.out⟩⟩
 have H3:=hid h3
 clear h3 i3 z3
 go_wp2_with fail
 go_end0
 exact ⟨_,(rb_cons I1.out (rb_cons I3.out rb_nil)),.inl ⟨H3.out.e0,rfl,H3.out⟩⟩
set_option maxHeartbeats 2000000 in
theorem not_rc (n:Nat) (hfactorA:∀k,k<n→PC .factor 202 k):RwC 211 gr_not 90 n:=by
 intro X r d W h hr hm
 have H0:Hid (SD X r d W):=h
 have HM:Hid (ms (tks X.l) d≤n):=hm
 have hmf:∀(fn:Fn) (first cap:Array Value) (w:World),(Instr.makeFunc fn first cap).run Tryz.prog w=.ok (.func fn first cap) w:=fun _ _ _ _=>rfl
 clear h hm
 go_enter Tryz.func211,Tryz.ntmps211
 go_wp2_with fail
 refine (key_ib H0.out (by omega) (by kernel_rfl)).mono ?_
 rintro e w1 ⟨d1,i1,o1⟩
 have I1:=hid i1
 rcases o1 with ⟨z1,rfl,h1⟩|⟨z1,rfl,h1⟩
 rotate_left
 ·have HP:=hid h1
  have HZ:=hid z1
  clear h1 i1 z1
  go_wp2_with fail
  exact ⟨rfl,_,(rb_cons I1.out (dead_rb HZ.out _)),.inr ⟨HZ.out,rfl,HP.out⟩⟩
 have H1:=hid h1
 clear h1 i1 z1
 go_wp2_with fail
 refine ((hfactorA (ms (tks X.l) d1) (by have m0:=HM.out;have m1:=tok_lt ne_wd I1.out H0.out.e0 H1.out.e0;omega)) X _ _ _ H1.out).mono ?_
 rintro e w2 ⟨u2,v2,rfl,p2,hb2⟩
 have P2:=hid p2
 have H2:=show Hid _ from H1.out.below hb2
 clear p2 hb2
 go_wp2_with fail
 refine (one_pick H2.out (by omega) (Nat.le_refl _) P2.out).mono ?_
 rintro e w3 ⟨d3,i3,o3⟩
 have I3:=hid i3
 rcases o3 with ⟨z3,rfl,h3⟩|⟨z3,rfl,h3⟩
 rotate_left
 ·have HP:=hid h3
  have HZ:=hid z3
  clear h3 i3 z3
  go_wp2_with fail
  exact ⟨rfl,_,(rb_cons I1.out (rb_cons I3.out (dead_rb HZ.out _))),.inr ⟨HZ.out,rfl,HP.out⟩⟩
 have H3:=hid h3
 clear h3 i3 z3
 go_wp2_with fail
 go_end0
 exact ⟨_,(rb_cons I1.out (rb_cons I3.out rb_nil)),.inl ⟨H3.out.e0,rfl,H3.out⟩⟩
set_option maxHeartbeats 2000000 in
theorem group_rc (n:Nat) (hexprA:∀k,k<n→RwC 161 gr_expr 50 k):RwC 213 gr_group 90 n:=by
 intro X r d W h hr hm
 have H0:Hid (SD X r d W):=h
 have HM:Hid (ms (tks X.l) d≤n):=hm
 have hmf:∀(fn:Fn) (first cap:Array Value) (w:World),(Instr.makeFunc fn first cap).run Tryz.prog w=.ok (.func fn first cap) w:=fun _ _ _ _=>rfl
 clear h hm
 go_enter Tryz.func213,Tryz.ntmps213
 go_wp2_with fail
 refine (sign_ib H0.out (by omega) (by kernel_rfl)).mono ?_
 rintro e w1 ⟨d1,i1,o1⟩
 have I1:=hid i1
 rcases o1 with ⟨z1,rfl,h1⟩|⟨z1,rfl,h1⟩
 rotate_left
 ·have HP:=hid h1
  have HZ:=hid z1
  clear h1 i1 z1
  go_wp2_with fail
  exact ⟨rfl,_,(rb_cons I1.out (dead_rb HZ.out _)),.inr ⟨HZ.out,rfl,HP.out⟩⟩
 have H1:=hid h1
 clear h1 i1 z1
 go_wp2_with fail
 refine (node_ib H1.out (by omega) (by omega) (Nat.le_refl _) (hexprA (ms (tks X.l) d1) (by have m0:=HM.out;have m1:=tok_lt ne_wd I1.out H0.out.e0 H1.out.e0;omega)) en_expr rfl (fun d' hh=>ib_op (m:=.expr) rfl hh)).mono ?_
 rintro e w2 ⟨d2,i2,o2⟩
 have I2:=hid i2
 rcases o2 with ⟨z2,rfl,h2⟩|⟨z2,rfl,h2⟩
 rotate_left
 ·have HP:=hid h2
  have HZ:=hid z2
  clear h2 i2 z2
  go_wp2_with fail
  exact ⟨rfl,_,(rb_cons I1.out (rb_cons I2.out (dead_rb HZ.out _))),.inr ⟨HZ.out,rfl,HP.out⟩⟩
 have H2:=hid h2
 clear h2 i2 z2
 go_wp2_with fail
 refine (sign_ib H2.out (by omega) (by kernel_rfl)).mono ?_
 rintro e w3 ⟨d3,i3,o3⟩
 have I3:=hid i3
 rcases o3 with ⟨z3,rfl,h3⟩|⟨z3,rfl,h3⟩
 rotate_left
 ·have HP:=hid h3
  have HZ:=hid z3
  clear h3 i3 z3
  go_wp2_with fail
  exact ⟨rfl,_,(rb_cons I1.out (rb_cons I2.out (rb_cons I3.out (dead_rb HZ.out _)))),.inr ⟨HZ.out,rfl,HP.out⟩⟩
 have H3:=hid h3
 clear h3 i3 z3
 go_wp2_with fail
 go_end0
 exact ⟨_,(rb_cons I1.out (rb_cons I2.out (rb_cons I3.out rb_nil))),.inl ⟨H3.out.e0,rfl,H3.out⟩⟩
set_option maxHeartbeats 2000000 in
theorem object_rc (n:Nat) (hdetailA:∀k,k<n→PD .detail 201 k):RwC 186 gr_object 95 n:=by
 intro X r d W h hr hm
 have H0:Hid (SD X r d W):=h
 have HM:Hid (ms (tks X.l) d≤n):=hm
 have hmf:∀(fn:Fn) (first cap:Array Value) (w:World),(Instr.makeFunc fn first cap).run Tryz.prog w=.ok (.func fn first cap) w:=fun _ _ _ _=>rfl
 clear h hm
 go_enter Tryz.func186,Tryz.ntmps186
 go_wp2_with fail
 refine (name_ib H0.out (by omega)).mono ?_
 rintro e w1 ⟨d1,i1,o1⟩
 have I1:=hid i1
 rcases o1 with ⟨z1,rfl,h1⟩|⟨z1,rfl,h1⟩
 rotate_left
 ·have HP:=hid h1
  have HZ:=hid z1
  clear h1 i1 z1
  go_wp2_with fail
  exact ⟨rfl,_,(rb_cons I1.out (dead_rb HZ.out _)),.inr ⟨HZ.out,rfl,HP.out⟩⟩
 have H1:=hid h1
 clear h1 i1 z1
 have HD2:Hid (PD .detail 201 (ms (tks X.l) d1)):=hdetailA (ms (tks X.l) d1) (by have m0:=HM.out;have m1:=tok_lt ne_nm I1.out H0.out.e0 H1.out.e0;omega)
 go_wp2_with fail
 refine (HD2.out X _ _ _ H1.out).mono ?_
 rintro e w2 ⟨u2,v2,rfl,p2,hb2⟩
 have P2:=hid p2
 have H2:=show Hid _ from H1.out.below hb2
 clear p2 hb2
 go_wp2_with fail
 go_loopw [2,3] (fun u v wr=>∃dk,Hid (SD X 0 dk wr)∧Hid (Lp (tks X.l) (.fn .detail) d1 dk)∧Hid (PickD X .detail (ms (tks X.l) d1) dk u v)) (fun _ _ wr=>mW X wr)
 case atStart=>exact ⟨_,H2.out,.refl,P2.out⟩
 case round=>
  obtain ⟨e2,HJ2,HP2,HK2⟩:=hrel
  clear P2
  rcases HK2.out with ⟨nd,ff,rw0,it0,rfl,rfl,hent,hlv,hrc,hpk,hop⟩|⟨rfl,rfl,hpk⟩
  ·have hne:=fneq_fn ff X.g
   have HPK:=hid hpk
   have HN:Hid (Calls Tryz.prog 32 #[pg X.g,.int .u8 nd,fv ff X.g] wr fun e w'=>∃d',Ib (tks X.l) it0 e2 d'∧Out X (.tuple #[]) d' e w'):=node_ib HJ2.out (by omega) (by omega) (by have m0:=HM.out;have m1:=tok_lt ne_nm I1.out H0.out.e0 H1.out.e0;have ml2:=HP2.out.le;omega) hrc hent hlv hop
   have HLT:Hid (∀d',Ib (tks X.l) it0 e2 d'→d'.e=0→ms (tks X.l) d' < ms (tks X.l) e2):=fun d' h1 h2=>pick_lt HPK.out h1 HJ2.out.e0 h2
   clear hrc hop hent hpk hlv HK2
   go_wp2_with fail
   refine HN.out.mono ?_
   rintro e w3 ⟨d3,i3,o3⟩
   have I3:=hid i3
   rcases o3 with ⟨z3,rfl,h3⟩|⟨z3,rfl,h3⟩
   rotate_left
   ·have HP:=hid h3
    have HZ:=hid z3
    clear h3 i3 z3
    go_wp2_with fail
    exact ⟨rfl,_,(rb_cons I1.out (rb_cons (HP2.out.go _ (ib_again1 HPK.out I3.out (dead_again HZ.out))) (dead_rb HZ.out _))),.inr ⟨HZ.out,rfl,HP.out⟩⟩
   have H3:=hid h3
   clear h3 i3 z3
   go_wp2_with fail
   refine (HD2.out X _ _ _ H3.out).mono ?_
   rintro e w4 ⟨u4,v4,rfl,p4,hb4⟩
   have P4:=hid p4
   have H4:=show Hid _ from H3.out.below hb4
   clear p4 hb4
   go_wp2_with fail
   exact ⟨⟨_,H4.out,HP2.out.step HPK.out I3.out,P4.out⟩,mw_lt HJ2.out H4.out (by have m0:=HM.out;have m1:=tok_lt ne_nm I1.out H0.out.e0 H1.out.e0;have ml2:=HP2.out.le;have m3:=ms_ib I3.out;have mx:=HLT.out _ I3.out H3.out.e0;omega)⟩
  ·have hne:=fneq_nil
   have HPK:=hid hpk
   clear hpk HK2
   go_wp2_with fail
   go_end0
   exact ⟨_,(rb_cons I1.out (rb_cons (HP2.out.fin HPK.out) rb_nil)),.inl ⟨HJ2.out.e0,rfl,HJ2.out⟩⟩
set_option maxHeartbeats 2000000 in
theorem list_rc (n:Nat) (hexpr:RwC 161 gr_expr 50 n) (hexprA:∀k,k<n→RwC 161 gr_expr 50 k):RwC 216 gr_list 45 n:=by
 intro X r d W h hr hm
 have H0:Hid (SD X r d W):=h
 have HM:Hid (ms (tks X.l) d≤n):=hm
 have hmf:∀(fn:Fn) (first cap:Array Value) (w:World),(Instr.makeFunc fn first cap).run Tryz.prog w=.ok (.func fn first cap) w:=fun _ _ _ _=>rfl
 clear h hm
 go_enter Tryz.func216,Tryz.ntmps216
 go_wp2_with fail
 refine (node_ib H0.out (by omega) (by omega) (by have m0:=HM.out;omega) hexpr en_expr rfl (fun d' hh=>ib_op (m:=.expr) rfl hh)).mono ?_
 rintro e w1 ⟨d1,i1,o1⟩
 have I1:=hid i1
 rcases o1 with ⟨z1,rfl,h1⟩|⟨z1,rfl,h1⟩
 rotate_left
 ·have HP:=hid h1
  have HZ:=hid z1
  clear h1 i1 z1
  go_wp2_with fail
  exact ⟨rfl,_,(rb_cons I1.out (dead_rb HZ.out _)),.inr ⟨HZ.out,rfl,HP.out⟩⟩
 have H1:=hid h1
 clear h1 i1 z1
 go_wp2_with fail
 go_loopw [] (fun wr=>∃dk,Hid (SD X 0 dk wr)∧Hid (Lp (tks X.l) (.row [.wd 6 [⟨#[44]⟩],.mt .expr]) d1 dk)) (fun wr=>mW X wr)
 case atStart=>exact ⟨_,H1.out,.refl⟩
 case round=>
  obtain ⟨e2,HJ2,HP2⟩:=hrel
  go_wp2_with fail
  refine (maybeSign_ib HJ2.out (by omega) [⟨#[44]⟩] (by simp) (by kernel_rfl) rfl rfl).mono ?_
  rintro e w3 (⟨q3,rfl,h3⟩|⟨q3,d3,i3,o3⟩)
  rotate_left
  ·have Q3:=hid q3
   clear q3
   have I3:=hid i3
   rcases o3 with ⟨z3,rfl,h3⟩|⟨z3,rfl,h3⟩
   rotate_left
   ·have HP:=hid h3
    have HZ:=hid z3
    clear h3 i3 z3
    go_wp2_with fail
    exact ⟨rfl,_,(rb_cons I1.out (rb_cons (HP2.out.go _ (ib_again1 (pick_row1 Q3.out) (ib_all (rb_cons I3.out (dead_rb HZ.out _))) (dead_again HZ.out))) (dead_rb HZ.out _))),.inr ⟨HZ.out,rfl,HP.out⟩⟩
   have H3:=hid h3
   clear h3 i3 z3
   go_wp2_with fail
   refine (node_ib H3.out (by omega) (by omega) (Nat.le_refl _) (hexprA (ms (tks X.l) d3) (by have m0:=HM.out;have m1:=ms_ib I1.out;have ml2:=HP2.out.le;have m3:=tok_lt ne_wd I3.out HJ2.out.e0 H3.out.e0;omega)) en_expr rfl (fun d' hh=>ib_op (m:=.expr) rfl hh)).mono ?_
   rintro e w4 ⟨d4,i4,o4⟩
   have I4:=hid i4
   rcases o4 with ⟨z4,rfl,h4⟩|⟨z4,rfl,h4⟩
   rotate_left
   ·have HP:=hid h4
    have HZ:=hid z4
    clear h4 i4 z4
    go_wp2_with fail
    exact ⟨rfl,_,(rb_cons I1.out (rb_cons (HP2.out.go _ (ib_again1 (pick_row1 Q3.out) (ib_all (rb_cons I3.out (rb_cons I4.out (dead_rb HZ.out _)))) (dead_again HZ.out))) (dead_rb HZ.out _))),.inr ⟨HZ.out,rfl,HP.out⟩⟩
   have H4:=hid h4
   clear h4 i4 z4
   go_wp2_with fail
   exact ⟨⟨_,H4.out,HP2.out.step (pick_row1 Q3.out) (ib_all (rb_cons I3.out (rb_cons I4.out rb_nil)))⟩,mw_lt HJ2.out H4.out (by have m0:=HM.out;have m1:=ms_ib I1.out;have ml2:=HP2.out.le;have m3:=tok_lt ne_wd I3.out HJ2.out.e0 H3.out.e0;have m4:=ms_ib I4.out;omega)⟩
  have Q3:=hid q3
  have H3:=hid h3
  clear q3 h3
  go_wp2_with fail
  go_end0
  exact ⟨_,(rb_cons I1.out (rb_cons (HP2.out.fin (pick_row0 Q3.out)) rb_nil)),.inl ⟨H3.out.e0,rfl,H3.out⟩⟩
set_option maxHeartbeats 2000000 in
theorem index_rc (n:Nat) (hlistA:∀k,k<n→RwC 216 gr_list 45 k):RwC 208 gr_index 90 n:=by
 intro X r d W h hr hm
 have H0:Hid (SD X r d W):=h
 have HM:Hid (ms (tks X.l) d≤n):=hm
 have hmf:∀(fn:Fn) (first cap:Array Value) (w:World),(Instr.makeFunc fn first cap).run Tryz.prog w=.ok (.func fn first cap) w:=fun _ _ _ _=>rfl
 clear h hm
 go_enter Tryz.func208,Tryz.ntmps208
 go_wp2_with fail
 refine (sign_ib H0.out (by omega) (by kernel_rfl)).mono ?_
 rintro e w1 ⟨d1,i1,o1⟩
 have I1:=hid i1
 rcases o1 with ⟨z1,rfl,h1⟩|⟨z1,rfl,h1⟩
 rotate_left
 ·have HP:=hid h1
  have HZ:=hid z1
  clear h1 i1 z1
  go_wp2_with fail
  exact ⟨rfl,_,(rb_cons I1.out (dead_rb HZ.out _)),.inr ⟨HZ.out,rfl,HP.out⟩⟩
 have H1:=hid h1
 clear h1 i1 z1
 go_wp2_with fail
 refine ((hlistA (ms (tks X.l) d1) (by have m0:=HM.out;have m1:=tok_lt ne_wd I1.out H0.out.e0 H1.out.e0;omega)) X _ _ _ H1.out (by omega) (Nat.le_refl _)).mono ?_
 rintro e w2 ⟨d2,i2,o2⟩
 replace i2:=show Ib (tks X.l) (.fl (.mt .list)) d1 d2 from ib_ex rfl i2
 have I2:=hid i2
 rcases o2 with ⟨z2,rfl,h2⟩|⟨z2,rfl,h2⟩
 rotate_left
 ·have HP:=hid h2
  have HZ:=hid z2
  clear h2 i2 z2
  go_wp2_with fail
  exact ⟨rfl,_,(rb_cons I1.out (rb_cons I2.out (dead_rb HZ.out _))),.inr ⟨HZ.out,rfl,HP.out⟩⟩
 have H2:=hid h2
 clear h2 i2 z2
 go_wp2_with fail
 refine (sign_ib H2.out (by omega) (by kernel_rfl)).mono ?_
 rintro e w3 ⟨d3,i3,o3⟩
 have I3:=hid i3
 rcases o3 with ⟨z3,rfl,h3⟩|⟨z3,rfl,h3⟩
 rotate_left
 ·have HP:=hid h3
  have HZ:=hid z3
  clear h3 i3 z3
  go_wp2_with fail
  exact ⟨rfl,_,(rb_cons I1.out (rb_cons I2.out (rb_cons I3.out (dead_rb HZ.out _)))),.inr ⟨HZ.out,rfl,HP.out⟩⟩
 have H3:=hid h3
 clear h3 i3 z3
 go_wp2_with fail
 go_end0
 exact ⟨_,(rb_cons I1.out (rb_cons I2.out (rb_cons I3.out rb_nil))),.inl ⟨H3.out.e0,rfl,H3.out⟩⟩
set_option maxHeartbeats 2000000 in
theorem selection_rc (n:Nat):RwC 209 gr_selection 90 n:=by
 intro X r d W h hr hm
 have H0:Hid (SD X r d W):=h
 have HM:Hid (ms (tks X.l) d≤n):=hm
 have hmf:∀(fn:Fn) (first cap:Array Value) (w:World),(Instr.makeFunc fn first cap).run Tryz.prog w=.ok (.func fn first cap) w:=fun _ _ _ _=>rfl
 clear h hm
 go_enter Tryz.func209,Tryz.ntmps209
 go_wp2_with fail
 refine (sign_ib H0.out (by omega) (by kernel_rfl)).mono ?_
 rintro e w1 ⟨d1,i1,o1⟩
 have I1:=hid i1
 rcases o1 with ⟨z1,rfl,h1⟩|⟨z1,rfl,h1⟩
 rotate_left
 ·have HP:=hid h1
  have HZ:=hid z1
  clear h1 i1 z1
  go_wp2_with fail
  exact ⟨rfl,_,(rb_cons I1.out (dead_rb HZ.out _)),.inr ⟨HZ.out,rfl,HP.out⟩⟩
 have H1:=hid h1
 clear h1 i1 z1
 go_wp2_with fail
 refine (name_ib H1.out (by omega)).mono ?_
 rintro e w2 ⟨d2,i2,o2⟩
 have I2:=hid i2
 rcases o2 with ⟨z2,rfl,h2⟩|⟨z2,rfl,h2⟩
 rotate_left
 ·have HP:=hid h2
  have HZ:=hid z2
  clear h2 i2 z2
  go_wp2_with fail
  exact ⟨rfl,_,(rb_cons I1.out (rb_cons I2.out (dead_rb HZ.out _))),.inr ⟨HZ.out,rfl,HP.out⟩⟩
 have H2:=hid h2
 clear h2 i2 z2
 go_wp2_with fail
 go_end0
 exact ⟨_,(rb_cons I1.out (rb_cons I2.out rb_nil)),.inl ⟨H2.out.e0,rfl,H2.out⟩⟩
set_option maxHeartbeats 2000000 in
theorem args_rc (n:Nat) (hlistA:∀k,k<n→RwC 216 gr_list 45 k):RwC 210 gr_args 90 n:=by
 intro X r d W h hr hm
 have H0:Hid (SD X r d W):=h
 have HM:Hid (ms (tks X.l) d≤n):=hm
 have hmf:∀(fn:Fn) (first cap:Array Value) (w:World),(Instr.makeFunc fn first cap).run Tryz.prog w=.ok (.func fn first cap) w:=fun _ _ _ _=>rfl
 clear h hm
 go_enter Tryz.func210,Tryz.ntmps210
 go_wp2_with fail
 refine (sign_ib H0.out (by omega) (by kernel_rfl)).mono ?_
 rintro e w1 ⟨d1,i1,o1⟩
 have I1:=hid i1
 rcases o1 with ⟨z1,rfl,h1⟩|⟨z1,rfl,h1⟩
 rotate_left
 ·have HP:=hid h1
  have HZ:=hid z1
  clear h1 i1 z1
  go_wp2_with fail
  exact ⟨rfl,_,(rb_cons I1.out (dead_rb HZ.out _)),.inr ⟨HZ.out,rfl,HP.out⟩⟩
 have H1:=hid h1
 clear h1 i1 z1
 go_wp2_with fail
 refine (isExpr_any H1.out).mono ?_
 rintro e w2 ⟨b2,rfl,hbe2,hb2⟩
 have H2:=show Hid _ from H1.out.below hb2
 have PB2:=show Hid _ from hbe2 .list
 clear hb2 hbe2
 cases b2 with
 |true=>
  go_wp2_with fail
  refine ((hlistA (ms (tks X.l) d1) (by have m0:=HM.out;have m1:=tok_lt ne_wd I1.out H0.out.e0 H1.out.e0;omega) X _ _ _ H2.out (by omega) (Nat.le_refl _)).mono (fun e w' ⟨d',h1,h2⟩=>(⟨d',ib_once1 PB2.out (ib_ex rfl h1),h2⟩:∃d',Ib (tks X.l) (.once (.ex .list)) _ d'∧Out X (.tuple #[]) d' e w'))).mono ?_
  rintro e w3 ⟨d3,i3,o3⟩
  have I3:=hid i3
  rcases o3 with ⟨z3,rfl,h3⟩|⟨z3,rfl,h3⟩
  rotate_left
  ·have HP:=hid h3
   have HZ:=hid z3
   clear h3 i3 z3
   go_wp2_with fail
   exact ⟨rfl,_,(rb_cons I1.out (rb_cons I3.out (dead_rb HZ.out _))),.inr ⟨HZ.out,rfl,HP.out⟩⟩
  have H3:=hid h3
  clear h3 i3 z3
  go_wp2_with fail
  refine (sign_ib H3.out (by omega) (by kernel_rfl)).mono ?_
  rintro e w4 ⟨d4,i4,o4⟩
  have I4:=hid i4
  rcases o4 with ⟨z4,rfl,h4⟩|⟨z4,rfl,h4⟩
  rotate_left
  ·have HP:=hid h4
   have HZ:=hid z4
   clear h4 i4 z4
   go_wp2_with fail
   exact ⟨rfl,_,(rb_cons I1.out (rb_cons I3.out (rb_cons I4.out (dead_rb HZ.out _)))),.inr ⟨HZ.out,rfl,HP.out⟩⟩
  have H4:=hid h4
  clear h4 i4 z4
  go_wp2_with fail
  go_end0
  exact ⟨_,(rb_cons I1.out (rb_cons I3.out (rb_cons I4.out rb_nil))),.inl ⟨H4.out.e0,rfl,H4.out⟩⟩
 |false=>
  go_wp2_with fail
  refine (sign_ib H2.out (by omega) (by kernel_rfl)).mono ?_
  rintro e w25 ⟨d25,i25,o25⟩
  have I25:=hid i25
  rcases o25 with ⟨z25,rfl,h25⟩|⟨z25,rfl,h25⟩
  rotate_left
  ·have HP:=hid h25
   have HZ:=hid z25
   clear h25 i25 z25
   go_wp2_with fail
   exact ⟨rfl,_,(rb_cons I1.out (rb_cons (ib_once0 PB2.out) (rb_cons I25.out (dead_rb HZ.out _)))),.inr ⟨HZ.out,rfl,HP.out⟩⟩
  have H25:=hid h25
  clear h25 i25 z25
  go_wp2_with fail
  go_end0
  exact ⟨_,(rb_cons I1.out (rb_cons (ib_once0 PB2.out) (rb_cons I25.out rb_nil))),.inl ⟨H25.out.e0,rfl,H25.out⟩⟩
end Go.Proofs.YtkigadnkclkopaaGreatDoor
