import Derived.Test.YtkigadnkclkopaaGreatU1
set_option linter.unusedVariables false
set_option linter.unusedSimpArgs false
namespace Go.Proofs.YtkigadnkclkopaaGreat
open Go.RowKit

set_option maxHeartbeats 4194304 in
theorem variables_ct (n : Nat) (C1 : CB .typed 109 60 n) : CT .variables 81 40 n := by
  intro X r d W h hr hm
  have H0 : Hid (RD X r d W) := h
  have HM : Hid (ms X.L d ≤ n) := hm
  clear h hm
  go_enter Tryz.func81, Tryz.ntmps81
  go_wp2_with fail
  refine (opens_any H0.out (by omega) 3).mono ?_
  rintro e w1 ⟨rfl, h1⟩
  have H1 := show Hid _ from h1
  clear h1
  go_wp2_with fail
  refine (rtakeWord_any H1.out (by omega) ⟨#[118, 97, 114]⟩).mono ?_
  rintro e w2 ⟨rfl, h2⟩
  have H2 := show Hid _ from h2
  clear h2
  go_wp2_with fail
  refine (C1 (ms X.L (tkI X.L (.wd 2 [⟨#[118, 97, 114]⟩]) (opD 3 d))) (by have m0 := HM.out; have m1 : ms X.L (opD 3 d) = ms X.L d := ms_op; have m2 := ms_tkI (L := X.L) (x := .wd 2 [⟨#[118, 97, 114]⟩]) (d := (opD 3 d)); omega) X _ _ _ H2.out (by omega) (Nat.le_refl _)).mono ?_
  rintro e w3 ⟨rfl, d3, h3, i3⟩
  have H3 := show Hid _ from h3
  have I3 := show Hid _ from i3
  clear h3 i3
  go_wp2_with fail
  refine (rtakeSign_any H3.out (by omega) ⟨#[59]⟩).mono ?_
  rintro e w4 ⟨rfl, h4⟩
  have H4 := show Hid _ from h4
  clear h4
  go_wp2_with fail
  refine (closes_any 3 H4.out (pn_tk (pn_ib (pn_tk pn_op) rfl I3.out))).mono ?_
  rintro e w5 ⟨rfl, h5⟩
  have H5 := show Hid _ from h5
  clear h5
  go_wp2_with fail
  go_end0
  exact ⟨rfl, _, H5.out, ib_op rfl (rb_cons ib_w (rb_cons I3.out (rb_cons ib_w (rb_cons ib_lv rb_nil))))⟩
set_option maxHeartbeats 4194304 in
theorem constants_ct (n : Nat) (C1 : CB .expr 110 50 n) : CT .constants 82 40 n := by
  intro X r d W h hr hm
  have H0 : Hid (RD X r d W) := h
  have HM : Hid (ms X.L d ≤ n) := hm
  clear h hm
  go_enter Tryz.func82, Tryz.ntmps82
  go_wp2_with fail
  refine (opens_any H0.out (by omega) 4).mono ?_
  rintro e w1 ⟨rfl, h1⟩
  have H1 := show Hid _ from h1
  clear h1
  go_wp2_with fail
  refine (rtakeWord_any H1.out (by omega) ⟨#[99, 111, 110, 115, 116]⟩).mono ?_
  rintro e w2 ⟨rfl, h2⟩
  have H2 := show Hid _ from h2
  clear h2
  go_wp2_with fail
  refine (rtakeName_any H2.out (by omega)).mono ?_
  rintro e w3 ⟨rfl, h3⟩
  have H3 := show Hid _ from h3
  clear h3
  go_wp2_with fail
  refine (rtakeSign_any H3.out (by omega) ⟨#[61]⟩).mono ?_
  rintro e w4 ⟨rfl, h4⟩
  have H4 := show Hid _ from h4
  clear h4
  go_wp2_with fail
  refine (C1 (ms X.L (tkI X.L (.wd 6 [⟨#[61]⟩]) (tkI X.L (.nm) (tkI X.L (.wd 2 [⟨#[99, 111, 110, 115, 116]⟩]) (opD 4 d))))) (by have m0 := HM.out; have m1 : ms X.L (opD 4 d) = ms X.L d := ms_op; have m2 := ms_tkI (L := X.L) (x := .wd 2 [⟨#[99, 111, 110, 115, 116]⟩]) (d := (opD 4 d)); have m3 := ms_tkI (L := X.L) (x := .nm) (d := (tkI X.L (.wd 2 [⟨#[99, 111, 110, 115, 116]⟩]) (opD 4 d))); have m4 := ms_tkI (L := X.L) (x := .wd 6 [⟨#[61]⟩]) (d := (tkI X.L (.nm) (tkI X.L (.wd 2 [⟨#[99, 111, 110, 115, 116]⟩]) (opD 4 d)))); omega) X _ _ _ H4.out (by omega) (Nat.le_refl _)).mono ?_
  rintro e w5 ⟨rfl, d5, h5, i5⟩
  have H5 := show Hid _ from h5
  have I5 := show Hid _ from i5
  clear h5 i5
  go_wp2_with fail
  refine (rtakeSign_any H5.out (by omega) ⟨#[59]⟩).mono ?_
  rintro e w6 ⟨rfl, h6⟩
  have H6 := show Hid _ from h6
  clear h6
  go_wp2_with fail
  refine (closes_any 4 H6.out (pn_tk (pn_ib (pn_tk (pn_tk (pn_tk pn_op))) rfl I5.out))).mono ?_
  rintro e w7 ⟨rfl, h7⟩
  have H7 := show Hid _ from h7
  clear h7
  go_wp2_with fail
  go_end0
  exact ⟨rfl, _, H7.out, ib_op rfl (rb_cons ib_w (rb_cons ib_n (rb_cons ib_w (rb_cons I5.out (rb_cons ib_w (rb_cons ib_lv rb_nil))))))⟩
set_option maxHeartbeats 4194304 in
theorem typed_ct (n : Nat) (C1 : CB .kind 112 60 n) : CT .typed 109 60 n := by
  intro X r d W h hr hm
  have H0 : Hid (RD X r d W) := h
  have HM : Hid (ms X.L d ≤ n) := hm
  clear h hm
  go_enter Tryz.func109, Tryz.ntmps109
  go_wp2_with fail
  refine (rtakeName_any H0.out (by omega)).mono ?_
  rintro e w1 ⟨rfl, h1⟩
  have H1 := show Hid _ from h1
  clear h1
  go_wp2_with fail
  go_loopw [2] (fun _ wr => ∃ dk, Hid (RD X 0 dk wr ∧ Lp X.L (.row [.wd 6 [⟨#[44]⟩], .nm]) (tkI X.L (.nm) d) dk)) (fun _ wr => ymW X wr)
  case atStart => exact ⟨_, H1.out, .refl⟩
  case round =>
    obtain ⟨dk, HJ⟩ := hrel
    obtain ⟨b2, e2⟩ : ∃ b, qn X.L dk (wk 6 ⟨#[44]⟩) = b := ⟨_, rfl⟩
    have HL2 : Hid (∀ V, Below wr.heap.size wr V → Calls Tryz.prog 80 #[pt X.g, .string ⟨#[44]⟩] V fun e w' => e = .returned (.bool b2) ∧ Below V.heap.size V w') := fun V hb => by rw [← e2]; exact rsign_any (HJ.out.1.below hb) _
    have E2 : Hid (qn X.L dk (wk 6 ⟨#[44]⟩) = b2) := e2
    clear e2
    cases b2 with
    | true =>
      go_wp2_with fail
      refine (HL2.out _ (Below.refl _ _)).mono ?_
      rintro e w2 ⟨rfl, hb2⟩
      have HB2 : Hid (Below wr.heap.size wr w2) := hb2
      clear hb2
      have H3 := show Hid _ from HJ.out.1.below HB2.out
      go_wp2_with fail
      refine (rtakeSign_any H3.out (by omega) ⟨#[44]⟩).mono ?_
      rintro e w4 ⟨rfl, h4⟩
      have H4 := show Hid _ from h4
      clear h4
      go_wp2_with fail
      refine (rtakeName_any H4.out (by omega)).mono ?_
      rintro e w5 ⟨rfl, h5⟩
      have H5 := show Hid _ from h5
      clear h5
      go_wp2_with fail
      exact ⟨⟨_, H5.out, HJ.out.2.step (pick_row1 (qn_wd E2.out)) (ib_all (rb_cons ib_w (rb_cons ib_n rb_nil)))⟩, by rw [ymW_is H5.out, ymW_is HJ.out.1]; have m0 := HM.out; have m1 := ms_tkI (L := X.L) (x := .nm) (d := d); have ml := HJ.out.2.le; have mv := ms_live E2.out; have m4 := ms_tkI (L := X.L) (x := .wd 6 [⟨#[44]⟩]) (d := dk); have m5 := ms_tkI (L := X.L) (x := .nm) (d := (tkI X.L (.wd 6 [⟨#[44]⟩]) dk)); omega⟩
    | false =>
      go_wp2_with fail
      refine (HL2.out _ (Below.refl _ _)).mono ?_
      rintro e w2 ⟨rfl, hb2⟩
      have HB2 : Hid (Below wr.heap.size wr w2) := hb2
      clear hb2
      have H6 := show Hid _ from HJ.out.1.below HB2.out
      go_wp2_with fail
      refine (rtakeSign_any H6.out (by omega) ⟨#[58]⟩).mono ?_
      rintro e w7 ⟨rfl, h7⟩
      have H7 := show Hid _ from h7
      clear h7
      go_wp2_with fail
      refine (C1 (ms X.L (tkI X.L (.wd 6 [⟨#[58]⟩]) dk)) (by have m0 := HM.out; have m1 := ms_tkI (L := X.L) (x := .nm) (d := d); have ml := HJ.out.2.le; have m7 := ms_tkI (L := X.L) (x := .wd 6 [⟨#[58]⟩]) (d := dk); omega) X _ _ _ H7.out (by omega) (Nat.le_refl _)).mono ?_
      rintro e w8 ⟨rfl, d8, h8, i8⟩
      have H8 := show Hid _ from h8
      have I8 := show Hid _ from i8
      clear h8 i8
      go_wp2_with fail
      go_end0
      exact ⟨rfl, _, H8.out, ib_ex rfl (rb_cons ib_n (rb_cons (HJ.out.2.fin (pick_row0 (qn_wd E2.out))) (rb_cons ib_w (rb_cons I8.out rb_nil))))⟩
set_option maxHeartbeats 4194304 in
theorem expr_ct (n : Nat) (C1 : CT .rel 131 55 n) (C2 : CA .rel 131 55 n) : CT .expr 110 50 n := by
  intro X r d W h hr hm
  have H0 : Hid (RD X r d W) := h
  have HM : Hid (ms X.L d ≤ n) := hm
  clear h hm
  go_enter Tryz.func110, Tryz.ntmps110
  go_wp2_with fail
  refine (opens_any H0.out (by omega) 21).mono ?_
  rintro e w1 ⟨rfl, h1⟩
  have H1 := show Hid _ from h1
  clear h1
  go_wp2_with fail
  refine (C1 X _ _ _ H1.out (by omega) (by have m0 := HM.out; have m1 : ms X.L (opD 21 d) = ms X.L d := ms_op; omega)).mono ?_
  rintro e w2 ⟨rfl, d2, h2, i2⟩
  have H2 := show Hid _ from h2
  have I2 := show Hid _ from i2
  clear h2 i2
  go_wp2_with fail
  go_loopw [2, 3] (fun _ _ wr => ∃ dk, Hid (RD X 0 dk wr ∧ Lp X.L (.row [.wd 2 [⟨#[97, 110, 100]⟩, ⟨#[111, 114]⟩], .mt .rel]) d2 dk)) (fun _ _ wr => ymW X wr)
  case atStart => exact ⟨_, H2.out, .refl⟩
  case round =>
    obtain ⟨dk, HJ⟩ := hrel
    obtain ⟨b3, e3⟩ : ∃ b, qn X.L dk (wk 2 ⟨#[97, 110, 100]⟩) = b := ⟨_, rfl⟩
    have HL3 : Hid (∀ V, Below wr.heap.size wr V → Calls Tryz.prog 77 #[pt X.g, .string ⟨#[97, 110, 100]⟩] V fun e w' => e = .returned (.bool b3) ∧ Below V.heap.size V w') := fun V hb => by rw [← e3]; exact rword_any (HJ.out.1.below hb) _
    have E3 : Hid (qn X.L dk (wk 2 ⟨#[97, 110, 100]⟩) = b3) := e3
    clear e3
    obtain ⟨b4, e4⟩ : ∃ b, qn X.L dk (wk 2 ⟨#[111, 114]⟩) = b := ⟨_, rfl⟩
    have HL4 : Hid (∀ V, Below wr.heap.size wr V → Calls Tryz.prog 77 #[pt X.g, .string ⟨#[111, 114]⟩] V fun e w' => e = .returned (.bool b4) ∧ Below V.heap.size V w') := fun V hb => by rw [← e4]; exact rword_any (HJ.out.1.below hb) _
    have E4 : Hid (qn X.L dk (wk 2 ⟨#[111, 114]⟩) = b4) := e4
    clear e4
    cases b3 with
    | true =>
      go_wp2_with fail
      refine (HL3.out _ (Below.refl _ _)).mono ?_
      rintro e w3 ⟨rfl, hb3⟩
      have HB3 : Hid (Below wr.heap.size wr w3) := hb3
      clear hb3
      go_wp2_with fail
      refine (HL4.out _ HB3.out).mono ?_
      rintro e w4 ⟨rfl, hb4⟩
      have HB4 : Hid (Below wr.heap.size wr w4) := HB3.out.trans (hb4.mono HB3.out.size)
      clear hb4
      have H5 := show Hid _ from HJ.out.1.below HB4.out
      go_wp2_with fail
      refine (take_true H5.out (by omega) (x := .wd 2 [⟨#[97, 110, 100]⟩, ⟨#[111, 114]⟩]) ((qn_wd2 E3.out E4.out).trans rfl)).mono ?_
      rintro e w6 ⟨rfl, h6⟩
      have H6 := show Hid _ from h6
      clear h6
      go_wp2_with fail
      refine (C2 (ms X.L (tkI X.L (.wd 2 [⟨#[97, 110, 100]⟩, ⟨#[111, 114]⟩]) dk)) (by have m0 := HM.out; have m1 : ms X.L (opD 21 d) = ms X.L d := ms_op; have m2 := ms_ib I2.out; have ml := HJ.out.2.le; have mv := ms_live E3.out; have m6 := ms_tkI (L := X.L) (x := .wd 2 [⟨#[97, 110, 100]⟩, ⟨#[111, 114]⟩]) (d := dk); omega) X _ _ _ H6.out (by omega) (Nat.le_refl _)).mono ?_
      rintro e w7 ⟨rfl, d7, h7, i7⟩
      have H7 := show Hid _ from h7
      have I7 := show Hid _ from i7
      clear h7 i7
      go_wp2_with fail
      exact ⟨⟨_, H7.out, HJ.out.2.step (pick_row1 ((qn_wd2 E3.out E4.out).trans rfl)) (ib_all (rb_cons ib_w (rb_cons I7.out rb_nil)))⟩, by rw [ymW_is H7.out, ymW_is HJ.out.1]; have m0 := HM.out; have m1 : ms X.L (opD 21 d) = ms X.L d := ms_op; have m2 := ms_ib I2.out; have ml := HJ.out.2.le; have mv := ms_live E3.out; have m6 := ms_tkI (L := X.L) (x := .wd 2 [⟨#[97, 110, 100]⟩, ⟨#[111, 114]⟩]) (d := dk); have m7 := ms_ib I7.out; omega⟩
    | false =>
      cases b4 with
      | true =>
        go_wp2_with fail
        refine (HL3.out _ (Below.refl _ _)).mono ?_
        rintro e w3 ⟨rfl, hb3⟩
        have HB3 : Hid (Below wr.heap.size wr w3) := hb3
        clear hb3
        go_wp2_with fail
        refine (HL4.out _ HB3.out).mono ?_
        rintro e w4 ⟨rfl, hb4⟩
        have HB4 : Hid (Below wr.heap.size wr w4) := HB3.out.trans (hb4.mono HB3.out.size)
        clear hb4
        have H8 := show Hid _ from HJ.out.1.below HB4.out
        go_wp2_with fail
        refine (take_true H8.out (by omega) (x := .wd 2 [⟨#[97, 110, 100]⟩, ⟨#[111, 114]⟩]) ((qn_wd2 E3.out E4.out).trans rfl)).mono ?_
        rintro e w9 ⟨rfl, h9⟩
        have H9 := show Hid _ from h9
        clear h9
        go_wp2_with fail
        refine (C2 (ms X.L (tkI X.L (.wd 2 [⟨#[97, 110, 100]⟩, ⟨#[111, 114]⟩]) dk)) (by have m0 := HM.out; have m1 : ms X.L (opD 21 d) = ms X.L d := ms_op; have m2 := ms_ib I2.out; have ml := HJ.out.2.le; have mv := ms_live E4.out; have m9 := ms_tkI (L := X.L) (x := .wd 2 [⟨#[97, 110, 100]⟩, ⟨#[111, 114]⟩]) (d := dk); omega) X _ _ _ H9.out (by omega) (Nat.le_refl _)).mono ?_
        rintro e w10 ⟨rfl, d10, h10, i10⟩
        have H10 := show Hid _ from h10
        have I10 := show Hid _ from i10
        clear h10 i10
        go_wp2_with fail
        exact ⟨⟨_, H10.out, HJ.out.2.step (pick_row1 ((qn_wd2 E3.out E4.out).trans rfl)) (ib_all (rb_cons ib_w (rb_cons I10.out rb_nil)))⟩, by rw [ymW_is H10.out, ymW_is HJ.out.1]; have m0 := HM.out; have m1 : ms X.L (opD 21 d) = ms X.L d := ms_op; have m2 := ms_ib I2.out; have ml := HJ.out.2.le; have mv := ms_live E4.out; have m9 := ms_tkI (L := X.L) (x := .wd 2 [⟨#[97, 110, 100]⟩, ⟨#[111, 114]⟩]) (d := dk); have m10 := ms_ib I10.out; omega⟩
      | false =>
        go_wp2_with fail
        refine (HL3.out _ (Below.refl _ _)).mono ?_
        rintro e w3 ⟨rfl, hb3⟩
        have HB3 : Hid (Below wr.heap.size wr w3) := hb3
        clear hb3
        go_wp2_with fail
        refine (HL4.out _ HB3.out).mono ?_
        rintro e w4 ⟨rfl, hb4⟩
        have HB4 : Hid (Below wr.heap.size wr w4) := HB3.out.trans (hb4.mono HB3.out.size)
        clear hb4
        have H11 := show Hid _ from HJ.out.1.below HB4.out
        go_wp2_with fail
        refine (closes_any 21 H11.out (HJ.out.2.pn (pn_ib pn_op rfl I2.out))).mono ?_
        rintro e w12 ⟨rfl, h12⟩
        have H12 := show Hid _ from h12
        clear h12
        go_wp2_with fail
        go_end0
        exact ⟨rfl, _, H12.out, ib_op rfl (rb_cons I2.out (rb_cons (HJ.out.2.fin (pick_row0 ((qn_wd2 E3.out E4.out).trans rfl))) (rb_cons ib_lv rb_nil)))⟩
set_option maxHeartbeats 4194304 in
theorem sum_ct (n : Nat) (C1 : CT .term 162 65 n) (C2 : CA .term 162 65 n) : CT .sum 145 60 n := by
  intro X r d W h hr hm
  have H0 : Hid (RD X r d W) := h
  have HM : Hid (ms X.L d ≤ n) := hm
  clear h hm
  go_enter Tryz.func145, Tryz.ntmps145
  go_wp2_with fail
  refine (opens_any H0.out (by omega) 23).mono ?_
  rintro e w1 ⟨rfl, h1⟩
  have H1 := show Hid _ from h1
  clear h1
  go_wp2_with fail
  refine (C1 X _ _ _ H1.out (by omega) (by have m0 := HM.out; have m1 : ms X.L (opD 23 d) = ms X.L d := ms_op; omega)).mono ?_
  rintro e w2 ⟨rfl, d2, h2, i2⟩
  have H2 := show Hid _ from h2
  have I2 := show Hid _ from i2
  clear h2 i2
  go_wp2_with fail
  go_loopw [2, 3] (fun _ _ wr => ∃ dk, Hid (RD X 0 dk wr ∧ Lp X.L (.row [.wd 6 [⟨#[43]⟩, ⟨#[45]⟩], .mt .term]) d2 dk)) (fun _ _ wr => ymW X wr)
  case atStart => exact ⟨_, H2.out, .refl⟩
  case round =>
    obtain ⟨dk, HJ⟩ := hrel
    obtain ⟨b3, e3⟩ : ∃ b, qn X.L dk (wk 6 ⟨#[43]⟩) = b := ⟨_, rfl⟩
    have HL3 : Hid (∀ V, Below wr.heap.size wr V → Calls Tryz.prog 80 #[pt X.g, .string ⟨#[43]⟩] V fun e w' => e = .returned (.bool b3) ∧ Below V.heap.size V w') := fun V hb => by rw [← e3]; exact rsign_any (HJ.out.1.below hb) _
    have E3 : Hid (qn X.L dk (wk 6 ⟨#[43]⟩) = b3) := e3
    clear e3
    obtain ⟨b4, e4⟩ : ∃ b, qn X.L dk (wk 6 ⟨#[45]⟩) = b := ⟨_, rfl⟩
    have HL4 : Hid (∀ V, Below wr.heap.size wr V → Calls Tryz.prog 80 #[pt X.g, .string ⟨#[45]⟩] V fun e w' => e = .returned (.bool b4) ∧ Below V.heap.size V w') := fun V hb => by rw [← e4]; exact rsign_any (HJ.out.1.below hb) _
    have E4 : Hid (qn X.L dk (wk 6 ⟨#[45]⟩) = b4) := e4
    clear e4
    cases b3 with
    | true =>
      go_wp2_with fail
      refine (HL3.out _ (Below.refl _ _)).mono ?_
      rintro e w3 ⟨rfl, hb3⟩
      have HB3 : Hid (Below wr.heap.size wr w3) := hb3
      clear hb3
      go_wp2_with fail
      refine (HL4.out _ HB3.out).mono ?_
      rintro e w4 ⟨rfl, hb4⟩
      have HB4 : Hid (Below wr.heap.size wr w4) := HB3.out.trans (hb4.mono HB3.out.size)
      clear hb4
      have H5 := show Hid _ from HJ.out.1.below HB4.out
      go_wp2_with fail
      refine (take_true H5.out (by omega) (x := .wd 6 [⟨#[43]⟩, ⟨#[45]⟩]) ((qn_wd2 E3.out E4.out).trans rfl)).mono ?_
      rintro e w6 ⟨rfl, h6⟩
      have H6 := show Hid _ from h6
      clear h6
      go_wp2_with fail
      refine (C2 (ms X.L (tkI X.L (.wd 6 [⟨#[43]⟩, ⟨#[45]⟩]) dk)) (by have m0 := HM.out; have m1 : ms X.L (opD 23 d) = ms X.L d := ms_op; have m2 := ms_ib I2.out; have ml := HJ.out.2.le; have mv := ms_live E3.out; have m6 := ms_tkI (L := X.L) (x := .wd 6 [⟨#[43]⟩, ⟨#[45]⟩]) (d := dk); omega) X _ _ _ H6.out (by omega) (Nat.le_refl _)).mono ?_
      rintro e w7 ⟨rfl, d7, h7, i7⟩
      have H7 := show Hid _ from h7
      have I7 := show Hid _ from i7
      clear h7 i7
      go_wp2_with fail
      exact ⟨⟨_, H7.out, HJ.out.2.step (pick_row1 ((qn_wd2 E3.out E4.out).trans rfl)) (ib_all (rb_cons ib_w (rb_cons I7.out rb_nil)))⟩, by rw [ymW_is H7.out, ymW_is HJ.out.1]; have m0 := HM.out; have m1 : ms X.L (opD 23 d) = ms X.L d := ms_op; have m2 := ms_ib I2.out; have ml := HJ.out.2.le; have mv := ms_live E3.out; have m6 := ms_tkI (L := X.L) (x := .wd 6 [⟨#[43]⟩, ⟨#[45]⟩]) (d := dk); have m7 := ms_ib I7.out; omega⟩
    | false =>
      cases b4 with
      | true =>
        go_wp2_with fail
        refine (HL3.out _ (Below.refl _ _)).mono ?_
        rintro e w3 ⟨rfl, hb3⟩
        have HB3 : Hid (Below wr.heap.size wr w3) := hb3
        clear hb3
        go_wp2_with fail
        refine (HL4.out _ HB3.out).mono ?_
        rintro e w4 ⟨rfl, hb4⟩
        have HB4 : Hid (Below wr.heap.size wr w4) := HB3.out.trans (hb4.mono HB3.out.size)
        clear hb4
        have H8 := show Hid _ from HJ.out.1.below HB4.out
        go_wp2_with fail
        refine (take_true H8.out (by omega) (x := .wd 6 [⟨#[43]⟩, ⟨#[45]⟩]) ((qn_wd2 E3.out E4.out).trans rfl)).mono ?_
        rintro e w9 ⟨rfl, h9⟩
        have H9 := show Hid _ from h9
        clear h9
        go_wp2_with fail
        refine (C2 (ms X.L (tkI X.L (.wd 6 [⟨#[43]⟩, ⟨#[45]⟩]) dk)) (by have m0 := HM.out; have m1 : ms X.L (opD 23 d) = ms X.L d := ms_op; have m2 := ms_ib I2.out; have ml := HJ.out.2.le; have mv := ms_live E4.out; have m9 := ms_tkI (L := X.L) (x := .wd 6 [⟨#[43]⟩, ⟨#[45]⟩]) (d := dk); omega) X _ _ _ H9.out (by omega) (Nat.le_refl _)).mono ?_
        rintro e w10 ⟨rfl, d10, h10, i10⟩
        have H10 := show Hid _ from h10
        have I10 := show Hid _ from i10
        clear h10 i10
        go_wp2_with fail
        exact ⟨⟨_, H10.out, HJ.out.2.step (pick_row1 ((qn_wd2 E3.out E4.out).trans rfl)) (ib_all (rb_cons ib_w (rb_cons I10.out rb_nil)))⟩, by rw [ymW_is H10.out, ymW_is HJ.out.1]; have m0 := HM.out; have m1 : ms X.L (opD 23 d) = ms X.L d := ms_op; have m2 := ms_ib I2.out; have ml := HJ.out.2.le; have mv := ms_live E4.out; have m9 := ms_tkI (L := X.L) (x := .wd 6 [⟨#[43]⟩, ⟨#[45]⟩]) (d := dk); have m10 := ms_ib I10.out; omega⟩
      | false =>
        go_wp2_with fail
        refine (HL3.out _ (Below.refl _ _)).mono ?_
        rintro e w3 ⟨rfl, hb3⟩
        have HB3 : Hid (Below wr.heap.size wr w3) := hb3
        clear hb3
        go_wp2_with fail
        refine (HL4.out _ HB3.out).mono ?_
        rintro e w4 ⟨rfl, hb4⟩
        have HB4 : Hid (Below wr.heap.size wr w4) := HB3.out.trans (hb4.mono HB3.out.size)
        clear hb4
        have H11 := show Hid _ from HJ.out.1.below HB4.out
        go_wp2_with fail
        refine (closes_any 23 H11.out (HJ.out.2.pn (pn_ib pn_op rfl I2.out))).mono ?_
        rintro e w12 ⟨rfl, h12⟩
        have H12 := show Hid _ from h12
        clear h12
        go_wp2_with fail
        go_end0
        exact ⟨rfl, _, H12.out, ib_op rfl (rb_cons I2.out (rb_cons (HJ.out.2.fin (pick_row0 ((qn_wd2 E3.out E4.out).trans rfl))) (rb_cons ib_lv rb_nil)))⟩
set_option maxHeartbeats 4194304 in
theorem term_ct (n : Nat) (C1 : CT .factor 167 70 n) (C2 : CA .factor 167 70 n) : CT .term 162 65 n := by
  intro X r d W h hr hm
  have H0 : Hid (RD X r d W) := h
  have HM : Hid (ms X.L d ≤ n) := hm
  clear h hm
  go_enter Tryz.func162, Tryz.ntmps162
  go_wp2_with fail
  refine (opens_any H0.out (by omega) 24).mono ?_
  rintro e w1 ⟨rfl, h1⟩
  have H1 := show Hid _ from h1
  clear h1
  go_wp2_with fail
  refine (C1 X _ _ _ H1.out (by omega) (by have m0 := HM.out; have m1 : ms X.L (opD 24 d) = ms X.L d := ms_op; omega)).mono ?_
  rintro e w2 ⟨rfl, d2, h2, i2⟩
  have H2 := show Hid _ from h2
  have I2 := show Hid _ from i2
  clear h2 i2
  go_wp2_with fail
  go_loopw [2, 3, 4] (fun _ _ _ wr => ∃ dk, Hid (RD X 0 dk wr ∧ Lp X.L (.row [.wd 6 [⟨#[42]⟩, ⟨#[47]⟩, ⟨#[37]⟩], .mt .factor]) d2 dk)) (fun _ _ _ wr => ymW X wr)
  case atStart => exact ⟨_, H2.out, .refl⟩
  case round =>
    obtain ⟨dk, HJ⟩ := hrel
    obtain ⟨b3, e3⟩ : ∃ b, qn X.L dk (wk 6 ⟨#[42]⟩) = b := ⟨_, rfl⟩
    have HL3 : Hid (∀ V, Below wr.heap.size wr V → Calls Tryz.prog 80 #[pt X.g, .string ⟨#[42]⟩] V fun e w' => e = .returned (.bool b3) ∧ Below V.heap.size V w') := fun V hb => by rw [← e3]; exact rsign_any (HJ.out.1.below hb) _
    have E3 : Hid (qn X.L dk (wk 6 ⟨#[42]⟩) = b3) := e3
    clear e3
    obtain ⟨b4, e4⟩ : ∃ b, qn X.L dk (wk 6 ⟨#[47]⟩) = b := ⟨_, rfl⟩
    have HL4 : Hid (∀ V, Below wr.heap.size wr V → Calls Tryz.prog 80 #[pt X.g, .string ⟨#[47]⟩] V fun e w' => e = .returned (.bool b4) ∧ Below V.heap.size V w') := fun V hb => by rw [← e4]; exact rsign_any (HJ.out.1.below hb) _
    have E4 : Hid (qn X.L dk (wk 6 ⟨#[47]⟩) = b4) := e4
    clear e4
    obtain ⟨b5, e5⟩ : ∃ b, qn X.L dk (wk 6 ⟨#[37]⟩) = b := ⟨_, rfl⟩
    have HL5 : Hid (∀ V, Below wr.heap.size wr V → Calls Tryz.prog 80 #[pt X.g, .string ⟨#[37]⟩] V fun e w' => e = .returned (.bool b5) ∧ Below V.heap.size V w') := fun V hb => by rw [← e5]; exact rsign_any (HJ.out.1.below hb) _
    have E5 : Hid (qn X.L dk (wk 6 ⟨#[37]⟩) = b5) := e5
    clear e5
    cases b3 with
    | true =>
      go_wp2_with fail
      refine (HL3.out _ (Below.refl _ _)).mono ?_
      rintro e w3 ⟨rfl, hb3⟩
      have HB3 : Hid (Below wr.heap.size wr w3) := hb3
      clear hb3
      go_wp2_with fail
      refine (HL4.out _ HB3.out).mono ?_
      rintro e w4 ⟨rfl, hb4⟩
      have HB4 : Hid (Below wr.heap.size wr w4) := HB3.out.trans (hb4.mono HB3.out.size)
      clear hb4
      go_wp2_with fail
      refine (HL5.out _ HB4.out).mono ?_
      rintro e w5 ⟨rfl, hb5⟩
      have HB5 : Hid (Below wr.heap.size wr w5) := HB4.out.trans (hb5.mono HB4.out.size)
      clear hb5
      have H6 := show Hid _ from HJ.out.1.below HB5.out
      go_wp2_with fail
      refine (take_true H6.out (by omega) (x := .wd 6 [⟨#[42]⟩, ⟨#[47]⟩, ⟨#[37]⟩]) ((qn_wd3 E3.out E4.out E5.out).trans rfl)).mono ?_
      rintro e w7 ⟨rfl, h7⟩
      have H7 := show Hid _ from h7
      clear h7
      go_wp2_with fail
      refine (C2 (ms X.L (tkI X.L (.wd 6 [⟨#[42]⟩, ⟨#[47]⟩, ⟨#[37]⟩]) dk)) (by have m0 := HM.out; have m1 : ms X.L (opD 24 d) = ms X.L d := ms_op; have m2 := ms_ib I2.out; have ml := HJ.out.2.le; have mv := ms_live E3.out; have m7 := ms_tkI (L := X.L) (x := .wd 6 [⟨#[42]⟩, ⟨#[47]⟩, ⟨#[37]⟩]) (d := dk); omega) X _ _ _ H7.out (by omega) (Nat.le_refl _)).mono ?_
      rintro e w8 ⟨rfl, d8, h8, i8⟩
      have H8 := show Hid _ from h8
      have I8 := show Hid _ from i8
      clear h8 i8
      go_wp2_with fail
      exact ⟨⟨_, H8.out, HJ.out.2.step (pick_row1 ((qn_wd3 E3.out E4.out E5.out).trans rfl)) (ib_all (rb_cons ib_w (rb_cons I8.out rb_nil)))⟩, by rw [ymW_is H8.out, ymW_is HJ.out.1]; have m0 := HM.out; have m1 : ms X.L (opD 24 d) = ms X.L d := ms_op; have m2 := ms_ib I2.out; have ml := HJ.out.2.le; have mv := ms_live E3.out; have m7 := ms_tkI (L := X.L) (x := .wd 6 [⟨#[42]⟩, ⟨#[47]⟩, ⟨#[37]⟩]) (d := dk); have m8 := ms_ib I8.out; omega⟩
    | false =>
      cases b4 with
      | true =>
        go_wp2_with fail
        refine (HL3.out _ (Below.refl _ _)).mono ?_
        rintro e w3 ⟨rfl, hb3⟩
        have HB3 : Hid (Below wr.heap.size wr w3) := hb3
        clear hb3
        go_wp2_with fail
        refine (HL4.out _ HB3.out).mono ?_
        rintro e w4 ⟨rfl, hb4⟩
        have HB4 : Hid (Below wr.heap.size wr w4) := HB3.out.trans (hb4.mono HB3.out.size)
        clear hb4
        go_wp2_with fail
        refine (HL5.out _ HB4.out).mono ?_
        rintro e w5 ⟨rfl, hb5⟩
        have HB5 : Hid (Below wr.heap.size wr w5) := HB4.out.trans (hb5.mono HB4.out.size)
        clear hb5
        have H9 := show Hid _ from HJ.out.1.below HB5.out
        go_wp2_with fail
        refine (take_true H9.out (by omega) (x := .wd 6 [⟨#[42]⟩, ⟨#[47]⟩, ⟨#[37]⟩]) ((qn_wd3 E3.out E4.out E5.out).trans rfl)).mono ?_
        rintro e w10 ⟨rfl, h10⟩
        have H10 := show Hid _ from h10
        clear h10
        go_wp2_with fail
        refine (C2 (ms X.L (tkI X.L (.wd 6 [⟨#[42]⟩, ⟨#[47]⟩, ⟨#[37]⟩]) dk)) (by have m0 := HM.out; have m1 : ms X.L (opD 24 d) = ms X.L d := ms_op; have m2 := ms_ib I2.out; have ml := HJ.out.2.le; have mv := ms_live E4.out; have m10 := ms_tkI (L := X.L) (x := .wd 6 [⟨#[42]⟩, ⟨#[47]⟩, ⟨#[37]⟩]) (d := dk); omega) X _ _ _ H10.out (by omega) (Nat.le_refl _)).mono ?_
        rintro e w11 ⟨rfl, d11, h11, i11⟩
        have H11 := show Hid _ from h11
        have I11 := show Hid _ from i11
        clear h11 i11
        go_wp2_with fail
        exact ⟨⟨_, H11.out, HJ.out.2.step (pick_row1 ((qn_wd3 E3.out E4.out E5.out).trans rfl)) (ib_all (rb_cons ib_w (rb_cons I11.out rb_nil)))⟩, by rw [ymW_is H11.out, ymW_is HJ.out.1]; have m0 := HM.out; have m1 : ms X.L (opD 24 d) = ms X.L d := ms_op; have m2 := ms_ib I2.out; have ml := HJ.out.2.le; have mv := ms_live E4.out; have m10 := ms_tkI (L := X.L) (x := .wd 6 [⟨#[42]⟩, ⟨#[47]⟩, ⟨#[37]⟩]) (d := dk); have m11 := ms_ib I11.out; omega⟩
      | false =>
        cases b5 with
        | true =>
          go_wp2_with fail
          refine (HL3.out _ (Below.refl _ _)).mono ?_
          rintro e w3 ⟨rfl, hb3⟩
          have HB3 : Hid (Below wr.heap.size wr w3) := hb3
          clear hb3
          go_wp2_with fail
          refine (HL4.out _ HB3.out).mono ?_
          rintro e w4 ⟨rfl, hb4⟩
          have HB4 : Hid (Below wr.heap.size wr w4) := HB3.out.trans (hb4.mono HB3.out.size)
          clear hb4
          go_wp2_with fail
          refine (HL5.out _ HB4.out).mono ?_
          rintro e w5 ⟨rfl, hb5⟩
          have HB5 : Hid (Below wr.heap.size wr w5) := HB4.out.trans (hb5.mono HB4.out.size)
          clear hb5
          have H12 := show Hid _ from HJ.out.1.below HB5.out
          go_wp2_with fail
          refine (take_true H12.out (by omega) (x := .wd 6 [⟨#[42]⟩, ⟨#[47]⟩, ⟨#[37]⟩]) ((qn_wd3 E3.out E4.out E5.out).trans rfl)).mono ?_
          rintro e w13 ⟨rfl, h13⟩
          have H13 := show Hid _ from h13
          clear h13
          go_wp2_with fail
          refine (C2 (ms X.L (tkI X.L (.wd 6 [⟨#[42]⟩, ⟨#[47]⟩, ⟨#[37]⟩]) dk)) (by have m0 := HM.out; have m1 : ms X.L (opD 24 d) = ms X.L d := ms_op; have m2 := ms_ib I2.out; have ml := HJ.out.2.le; have mv := ms_live E5.out; have m13 := ms_tkI (L := X.L) (x := .wd 6 [⟨#[42]⟩, ⟨#[47]⟩, ⟨#[37]⟩]) (d := dk); omega) X _ _ _ H13.out (by omega) (Nat.le_refl _)).mono ?_
          rintro e w14 ⟨rfl, d14, h14, i14⟩
          have H14 := show Hid _ from h14
          have I14 := show Hid _ from i14
          clear h14 i14
          go_wp2_with fail
          exact ⟨⟨_, H14.out, HJ.out.2.step (pick_row1 ((qn_wd3 E3.out E4.out E5.out).trans rfl)) (ib_all (rb_cons ib_w (rb_cons I14.out rb_nil)))⟩, by rw [ymW_is H14.out, ymW_is HJ.out.1]; have m0 := HM.out; have m1 : ms X.L (opD 24 d) = ms X.L d := ms_op; have m2 := ms_ib I2.out; have ml := HJ.out.2.le; have mv := ms_live E5.out; have m13 := ms_tkI (L := X.L) (x := .wd 6 [⟨#[42]⟩, ⟨#[47]⟩, ⟨#[37]⟩]) (d := dk); have m14 := ms_ib I14.out; omega⟩
        | false =>
          go_wp2_with fail
          refine (HL3.out _ (Below.refl _ _)).mono ?_
          rintro e w3 ⟨rfl, hb3⟩
          have HB3 : Hid (Below wr.heap.size wr w3) := hb3
          clear hb3
          go_wp2_with fail
          refine (HL4.out _ HB3.out).mono ?_
          rintro e w4 ⟨rfl, hb4⟩
          have HB4 : Hid (Below wr.heap.size wr w4) := HB3.out.trans (hb4.mono HB3.out.size)
          clear hb4
          go_wp2_with fail
          refine (HL5.out _ HB4.out).mono ?_
          rintro e w5 ⟨rfl, hb5⟩
          have HB5 : Hid (Below wr.heap.size wr w5) := HB4.out.trans (hb5.mono HB4.out.size)
          clear hb5
          have H15 := show Hid _ from HJ.out.1.below HB5.out
          go_wp2_with fail
          refine (closes_any 24 H15.out (HJ.out.2.pn (pn_ib pn_op rfl I2.out))).mono ?_
          rintro e w16 ⟨rfl, h16⟩
          have H16 := show Hid _ from h16
          clear h16
          go_wp2_with fail
          go_end0
          exact ⟨rfl, _, H16.out, ib_op rfl (rb_cons I2.out (rb_cons (HJ.out.2.fin (pick_row0 ((qn_wd3 E3.out E4.out E5.out).trans rfl))) (rb_cons ib_lv rb_nil)))⟩
set_option maxHeartbeats 4194304 in
theorem body_ct (n : Nat) (C1 : CT .statement 113 65 n) (C2 : CA .statement 113 65 n) : CT .body 84 60 n := by
  intro X r d W h hr hm
  have H0 : Hid (RD X r d W) := h
  have HM : Hid (ms X.L d ≤ n) := hm
  clear h hm
  go_enter Tryz.func84, Tryz.ntmps84
  go_wp2_with fail
  refine (opens_any H0.out (by omega) 12).mono ?_
  rintro e w1 ⟨rfl, h1⟩
  have H1 := show Hid _ from h1
  clear h1
  go_wp2_with fail
  refine (C1 X _ _ _ H1.out (by omega) (by have m0 := HM.out; have m1 : ms X.L (opD 12 d) = ms X.L d := ms_op; omega)).mono ?_
  rintro e w2 ⟨rfl, d2, h2, i2⟩
  have H2 := show Hid _ from h2
  have I2 := show Hid _ from i2
  clear h2 i2
  go_wp2_with fail
  go_loopw [2] (fun _ wr => ∃ dk, Hid (RD X 0 dk wr ∧ Lp X.L (.row [.wd 6 [⟨#[59]⟩], .mt .statement]) d2 dk)) (fun _ wr => ymW X wr)
  case atStart => exact ⟨_, H2.out, .refl⟩
  case round =>
    obtain ⟨dk, HJ⟩ := hrel
    obtain ⟨b3, e3⟩ : ∃ b, qn X.L dk (wk 6 ⟨#[59]⟩) = b := ⟨_, rfl⟩
    have HL3 : Hid (∀ V, Below wr.heap.size wr V → Calls Tryz.prog 80 #[pt X.g, .string ⟨#[59]⟩] V fun e w' => e = .returned (.bool b3) ∧ Below V.heap.size V w') := fun V hb => by rw [← e3]; exact rsign_any (HJ.out.1.below hb) _
    have E3 : Hid (qn X.L dk (wk 6 ⟨#[59]⟩) = b3) := e3
    clear e3
    cases b3 with
    | true =>
      go_wp2_with fail
      refine (HL3.out _ (Below.refl _ _)).mono ?_
      rintro e w3 ⟨rfl, hb3⟩
      have HB3 : Hid (Below wr.heap.size wr w3) := hb3
      clear hb3
      have H4 := show Hid _ from HJ.out.1.below HB3.out
      go_wp2_with fail
      refine (rtakeSign_any H4.out (by omega) ⟨#[59]⟩).mono ?_
      rintro e w5 ⟨rfl, h5⟩
      have H5 := show Hid _ from h5
      clear h5
      go_wp2_with fail
      refine (C2 (ms X.L (tkI X.L (.wd 6 [⟨#[59]⟩]) dk)) (by have m0 := HM.out; have m1 : ms X.L (opD 12 d) = ms X.L d := ms_op; have m2 := ms_ib I2.out; have ml := HJ.out.2.le; have mv := ms_live E3.out; have m5 := ms_tkI (L := X.L) (x := .wd 6 [⟨#[59]⟩]) (d := dk); omega) X _ _ _ H5.out (by omega) (Nat.le_refl _)).mono ?_
      rintro e w6 ⟨rfl, d6, h6, i6⟩
      have H6 := show Hid _ from h6
      have I6 := show Hid _ from i6
      clear h6 i6
      go_wp2_with fail
      exact ⟨⟨_, H6.out, HJ.out.2.step (pick_row1 (qn_wd E3.out)) (ib_all (rb_cons ib_w (rb_cons I6.out rb_nil)))⟩, by rw [ymW_is H6.out, ymW_is HJ.out.1]; have m0 := HM.out; have m1 : ms X.L (opD 12 d) = ms X.L d := ms_op; have m2 := ms_ib I2.out; have ml := HJ.out.2.le; have mv := ms_live E3.out; have m5 := ms_tkI (L := X.L) (x := .wd 6 [⟨#[59]⟩]) (d := dk); have m6 := ms_ib I6.out; omega⟩
    | false =>
      go_wp2_with fail
      refine (HL3.out _ (Below.refl _ _)).mono ?_
      rintro e w3 ⟨rfl, hb3⟩
      have HB3 : Hid (Below wr.heap.size wr w3) := hb3
      clear hb3
      have H7 := show Hid _ from HJ.out.1.below HB3.out
      go_wp2_with fail
      refine (closes_any 12 H7.out (HJ.out.2.pn (pn_ib pn_op rfl I2.out))).mono ?_
      rintro e w8 ⟨rfl, h8⟩
      have H8 := show Hid _ from h8
      clear h8
      go_wp2_with fail
      go_end0
      exact ⟨rfl, _, H8.out, ib_op rfl (rb_cons I2.out (rb_cons (HJ.out.2.fin (pick_row0 (qn_wd E3.out))) (rb_cons ib_lv rb_nil)))⟩
end Go.Proofs.YtkigadnkclkopaaGreat
