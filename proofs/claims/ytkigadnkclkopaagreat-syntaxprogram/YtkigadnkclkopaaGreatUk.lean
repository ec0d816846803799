import Derived.Test.YtkigadnkclkopaaGreatU1
set_option linter.unusedVariables false
set_option linter.unusedSimpArgs false
namespace Go.Proofs.YtkigadnkclkopaaGreat
open Go.RowKit

set_option maxHeartbeats 4194304 in
theorem factor_ct (n : Nat) (C1 : CA .factor 167 70 n) (C2 : CA .expr 110 50 n) (C3 : CT .object 132 80 n) : CT .factor 167 70 n := by
  intro X r d W h hr hm
  have H0 : Hid (RD X r d W) := h
  have HM : Hid (ms X.L d ≤ n) := hm
  clear h hm
  go_enter Tryz.func167, Tryz.ntmps167
  obtain ⟨b1, e1⟩ : ∃ b, qn X.L d (wk 6 ⟨#[45]⟩) = b := ⟨_, rfl⟩
  have HL1 : Hid (∀ V, Below W.heap.size W V → Calls Tryz.prog 80 #[pt X.g, .string ⟨#[45]⟩] V fun e w' => e = .returned (.bool b1) ∧ Below V.heap.size V w') := fun V hb => by rw [← e1]; exact rsign_any (H0.out.below hb) _
  have E1 : Hid (qn X.L d (wk 6 ⟨#[45]⟩) = b1) := e1
  clear e1
  obtain ⟨b2, e2⟩ : ∃ b, qn X.L d (wk 2 ⟨#[110, 111, 116]⟩) = b := ⟨_, rfl⟩
  have HL2 : Hid (∀ V, Below W.heap.size W V → Calls Tryz.prog 77 #[pt X.g, .string ⟨#[110, 111, 116]⟩] V fun e w' => e = .returned (.bool b2) ∧ Below V.heap.size V w') := fun V hb => by rw [← e2]; exact rword_any (H0.out.below hb) _
  have E2 : Hid (qn X.L d (wk 2 ⟨#[110, 111, 116]⟩) = b2) := e2
  clear e2
  obtain ⟨b3, e3⟩ : ∃ b, qn X.L d (wk 6 ⟨#[40]⟩) = b := ⟨_, rfl⟩
  have HL3 : Hid (∀ V, Below W.heap.size W V → Calls Tryz.prog 80 #[pt X.g, .string ⟨#[40]⟩] V fun e w' => e = .returned (.bool b3) ∧ Below V.heap.size V w') := fun V hb => by rw [← e3]; exact rsign_any (H0.out.below hb) _
  have E3 : Hid (qn X.L d (wk 6 ⟨#[40]⟩) = b3) := e3
  clear e3
  obtain ⟨b4, e4⟩ : ∃ b, qn X.L d (fun t => Fl.takes t .cs) = b := ⟨_, rfl⟩
  have HL4 : Hid (∀ V, Below W.heap.size W V → Calls Tryz.prog 147 #[pt X.g] V fun e w' => e = .returned (.bool b4) ∧ Below V.heap.size V w') := fun V hb => by rw [← e4]; exact rvalue_any (H0.out.below hb)
  have E4 : Hid (qn X.L d (fun t => Fl.takes t .cs) = b4) := e4
  clear e4
  obtain ⟨b5, e5⟩ : ∃ b, qn X.L d (kd 1) = b := ⟨_, rfl⟩
  have HL5 : Hid (∀ V, Below W.heap.size W V → Calls Tryz.prog 79 #[pt X.g, .int .u8 1] V fun e w' => e = .returned (.bool b5) ∧ Below V.heap.size V w') := fun V hb => by rw [← e5]; exact rkind_any (H0.out.below hb) 1
  have E5 : Hid (qn X.L d (kd 1) = b5) := e5
  clear e5
  cases b1 with
  | true =>
    go_wp2_with fail
    refine (HL1.out _ (Below.refl _ _)).mono ?_
    rintro e w1 ⟨rfl, hb1⟩
    have HB1 : Hid (Below W.heap.size W w1) := hb1
    clear hb1
    go_wp2_with fail
    refine (HL2.out _ HB1.out).mono ?_
    rintro e w2 ⟨rfl, hb2⟩
    have HB2 : Hid (Below W.heap.size W w2) := HB1.out.trans (hb2.mono HB1.out.size)
    clear hb2
    go_wp2_with fail
    refine (HL3.out _ HB2.out).mono ?_
    rintro e w3 ⟨rfl, hb3⟩
    have HB3 : Hid (Below W.heap.size W w3) := HB2.out.trans (hb3.mono HB2.out.size)
    clear hb3
    go_wp2_with fail
    refine (HL4.out _ HB3.out).mono ?_
    rintro e w4 ⟨rfl, hb4⟩
    have HB4 : Hid (Below W.heap.size W w4) := HB3.out.trans (hb4.mono HB3.out.size)
    clear hb4
    go_wp2_with fail
    refine (HL5.out _ HB4.out).mono ?_
    rintro e w5 ⟨rfl, hb5⟩
    have HB5 : Hid (Below W.heap.size W w5) := HB4.out.trans (hb5.mono HB4.out.size)
    clear hb5
    have H6 := show Hid _ from H0.out.below HB5.out
    go_wp2_with fail
    refine (opens_any H6.out (by omega) 25).mono ?_
    rintro e w7 ⟨rfl, h7⟩
    have H7 := show Hid _ from h7
    clear h7
    go_wp2_with fail
    refine (take_true H7.out (by omega) (x := .wd 6 [⟨#[45]⟩]) (qn_wd (qn_op.trans E1.out))).mono ?_
    rintro e w8 ⟨rfl, h8⟩
    have H8 := show Hid _ from h8
    clear h8
    go_wp2_with fail
    refine (C1 (ms X.L (tkI X.L (.wd 6 [⟨#[45]⟩]) (opD 25 d))) (by have m0 := HM.out; have mv := ms_live E1.out; have m7 : ms X.L (opD 25 d) = ms X.L d := ms_op; have m8 := ms_tkI (L := X.L) (x := .wd 6 [⟨#[45]⟩]) (d := (opD 25 d)); omega) X _ _ _ H8.out (by omega) (Nat.le_refl _)).mono ?_
    rintro e w9 ⟨rfl, d9, h9, i9⟩
    have H9 := show Hid _ from h9
    have I9 := show Hid _ from i9
    clear h9 i9
    go_wp2_with fail
    refine (closes_any 25 H9.out (pn_ib (pn_tk pn_op) rfl I9.out)).mono ?_
    rintro e w10 ⟨rfl, h10⟩
    have H10 := show Hid _ from h10
    clear h10
    go_wp2_with fail
    go_end0
    exact ⟨rfl, _, H10.out, ib_op (drow_fac E1.out E2.out E3.out E4.out E5.out) (rb_cons ib_w (rb_cons I9.out (rb_cons ib_lv rb_nil)))⟩
  | false =>
    cases b2 with
    | true =>
      go_wp2_with fail
      refine (HL1.out _ (Below.refl _ _)).mono ?_
      rintro e w1 ⟨rfl, hb1⟩
      have HB1 : Hid (Below W.heap.size W w1) := hb1
      clear hb1
      go_wp2_with fail
      refine (HL2.out _ HB1.out).mono ?_
      rintro e w2 ⟨rfl, hb2⟩
      have HB2 : Hid (Below W.heap.size W w2) := HB1.out.trans (hb2.mono HB1.out.size)
      clear hb2
      go_wp2_with fail
      refine (HL3.out _ HB2.out).mono ?_
      rintro e w3 ⟨rfl, hb3⟩
      have HB3 : Hid (Below W.heap.size W w3) := HB2.out.trans (hb3.mono HB2.out.size)
      clear hb3
      go_wp2_with fail
      refine (HL4.out _ HB3.out).mono ?_
      rintro e w4 ⟨rfl, hb4⟩
      have HB4 : Hid (Below W.heap.size W w4) := HB3.out.trans (hb4.mono HB3.out.size)
      clear hb4
      go_wp2_with fail
      refine (HL5.out _ HB4.out).mono ?_
      rintro e w5 ⟨rfl, hb5⟩
      have HB5 : Hid (Below W.heap.size W w5) := HB4.out.trans (hb5.mono HB4.out.size)
      clear hb5
      have H11 := show Hid _ from H0.out.below HB5.out
      go_wp2_with fail
      refine (opens_any H11.out (by omega) 26).mono ?_
      rintro e w12 ⟨rfl, h12⟩
      have H12 := show Hid _ from h12
      clear h12
      go_wp2_with fail
      refine (take_true H12.out (by omega) (x := .wd 2 [⟨#[110, 111, 116]⟩]) (qn_wd (qn_op.trans E2.out))).mono ?_
      rintro e w13 ⟨rfl, h13⟩
      have H13 := show Hid _ from h13
      clear h13
      go_wp2_with fail
      refine (C1 (ms X.L (tkI X.L (.wd 2 [⟨#[110, 111, 116]⟩]) (opD 26 d))) (by have m0 := HM.out; have mv := ms_live E2.out; have m12 : ms X.L (opD 26 d) = ms X.L d := ms_op; have m13 := ms_tkI (L := X.L) (x := .wd 2 [⟨#[110, 111, 116]⟩]) (d := (opD 26 d)); omega) X _ _ _ H13.out (by omega) (Nat.le_refl _)).mono ?_
      rintro e w14 ⟨rfl, d14, h14, i14⟩
      have H14 := show Hid _ from h14
      have I14 := show Hid _ from i14
      clear h14 i14
      go_wp2_with fail
      refine (closes_any 26 H14.out (pn_ib (pn_tk pn_op) rfl I14.out)).mono ?_
      rintro e w15 ⟨rfl, h15⟩
      have H15 := show Hid _ from h15
      clear h15
      go_wp2_with fail
      go_end0
      exact ⟨rfl, _, H15.out, ib_op (drow_fac E1.out E2.out E3.out E4.out E5.out) (rb_cons ib_w (rb_cons I14.out (rb_cons ib_lv rb_nil)))⟩
    | false =>
      cases b3 with
      | true =>
        go_wp2_with fail
        refine (HL1.out _ (Below.refl _ _)).mono ?_
        rintro e w1 ⟨rfl, hb1⟩
        have HB1 : Hid (Below W.heap.size W w1) := hb1
        clear hb1
        go_wp2_with fail
        refine (HL2.out _ HB1.out).mono ?_
        rintro e w2 ⟨rfl, hb2⟩
        have HB2 : Hid (Below W.heap.size W w2) := HB1.out.trans (hb2.mono HB1.out.size)
        clear hb2
        go_wp2_with fail
        refine (HL3.out _ HB2.out).mono ?_
        rintro e w3 ⟨rfl, hb3⟩
        have HB3 : Hid (Below W.heap.size W w3) := HB2.out.trans (hb3.mono HB2.out.size)
        clear hb3
        go_wp2_with fail
        refine (HL4.out _ HB3.out).mono ?_
        rintro e w4 ⟨rfl, hb4⟩
        have HB4 : Hid (Below W.heap.size W w4) := HB3.out.trans (hb4.mono HB3.out.size)
        clear hb4
        go_wp2_with fail
        refine (HL5.out _ HB4.out).mono ?_
        rintro e w5 ⟨rfl, hb5⟩
        have HB5 : Hid (Below W.heap.size W w5) := HB4.out.trans (hb5.mono HB4.out.size)
        clear hb5
        have H16 := show Hid _ from H0.out.below HB5.out
        go_wp2_with fail
        refine (opens_any H16.out (by omega) 27).mono ?_
        rintro e w17 ⟨rfl, h17⟩
        have H17 := show Hid _ from h17
        clear h17
        go_wp2_with fail
        refine (take_true H17.out (by omega) (x := .wd 6 [⟨#[40]⟩]) (qn_wd (qn_op.trans E3.out))).mono ?_
        rintro e w18 ⟨rfl, h18⟩
        have H18 := show Hid _ from h18
        clear h18
        go_wp2_with fail
        refine (C2 (ms X.L (tkI X.L (.wd 6 [⟨#[40]⟩]) (opD 27 d))) (by have m0 := HM.out; have mv := ms_live E3.out; have m17 : ms X.L (opD 27 d) = ms X.L d := ms_op; have m18 := ms_tkI (L := X.L) (x := .wd 6 [⟨#[40]⟩]) (d := (opD 27 d)); omega) X _ _ _ H18.out (by omega) (Nat.le_refl _)).mono ?_
        rintro e w19 ⟨rfl, d19, h19, i19⟩
        have H19 := show Hid _ from h19
        have I19 := show Hid _ from i19
        clear h19 i19
        go_wp2_with fail
        refine (rtakeSign_any H19.out (by omega) ⟨#[41]⟩).mono ?_
        rintro e w20 ⟨rfl, h20⟩
        have H20 := show Hid _ from h20
        clear h20
        go_wp2_with fail
        refine (closes_any 27 H20.out (pn_tk (pn_ib (pn_tk pn_op) rfl I19.out))).mono ?_
        rintro e w21 ⟨rfl, h21⟩
        have H21 := show Hid _ from h21
        clear h21
        go_wp2_with fail
        go_end0
        exact ⟨rfl, _, H21.out, ib_op (drow_fac E1.out E2.out E3.out E4.out E5.out) (rb_cons ib_w (rb_cons I19.out (rb_cons ib_w (rb_cons ib_lv rb_nil))))⟩
      | false =>
        cases b4 with
        | true =>
          go_wp2_with fail
          refine (HL1.out _ (Below.refl _ _)).mono ?_
          rintro e w1 ⟨rfl, hb1⟩
          have HB1 : Hid (Below W.heap.size W w1) := hb1
          clear hb1
          go_wp2_with fail
          refine (HL2.out _ HB1.out).mono ?_
          rintro e w2 ⟨rfl, hb2⟩
          have HB2 : Hid (Below W.heap.size W w2) := HB1.out.trans (hb2.mono HB1.out.size)
          clear hb2
          go_wp2_with fail
          refine (HL3.out _ HB2.out).mono ?_
          rintro e w3 ⟨rfl, hb3⟩
          have HB3 : Hid (Below W.heap.size W w3) := HB2.out.trans (hb3.mono HB2.out.size)
          clear hb3
          go_wp2_with fail
          refine (HL4.out _ HB3.out).mono ?_
          rintro e w4 ⟨rfl, hb4⟩
          have HB4 : Hid (Below W.heap.size W w4) := HB3.out.trans (hb4.mono HB3.out.size)
          clear hb4
          go_wp2_with fail
          refine (HL5.out _ HB4.out).mono ?_
          rintro e w5 ⟨rfl, hb5⟩
          have HB5 : Hid (Below W.heap.size W w5) := HB4.out.trans (hb5.mono HB4.out.size)
          clear hb5
          have H22 := show Hid _ from H0.out.below HB5.out
          go_wp2_with fail
          refine (opens_any H22.out (by omega) 32).mono ?_
          rintro e w23 ⟨rfl, h23⟩
          have H23 := show Hid _ from h23
          clear h23
          go_wp2_with fail
          refine (take_true H23.out (by omega) (x := .cs) (qn_op.trans E4.out)).mono ?_
          rintro e w24 ⟨rfl, h24⟩
          have H24 := show Hid _ from h24
          clear h24
          go_wp2_with fail
          refine (closes_any 32 H24.out (pn_tk pn_op)).mono ?_
          rintro e w25 ⟨rfl, h25⟩
          have H25 := show Hid _ from h25
          clear h25
          go_wp2_with fail
          go_end0
          exact ⟨rfl, _, H25.out, ib_op (drow_fac E1.out E2.out E3.out E4.out E5.out) (rb_cons ib_c (rb_cons ib_lv rb_nil))⟩
        | false =>
          cases b5 with
          | true =>
            go_wp2_with fail
            refine (HL1.out _ (Below.refl _ _)).mono ?_
            rintro e w1 ⟨rfl, hb1⟩
            have HB1 : Hid (Below W.heap.size W w1) := hb1
            clear hb1
            go_wp2_with fail
            refine (HL2.out _ HB1.out).mono ?_
            rintro e w2 ⟨rfl, hb2⟩
            have HB2 : Hid (Below W.heap.size W w2) := HB1.out.trans (hb2.mono HB1.out.size)
            clear hb2
            go_wp2_with fail
            refine (HL3.out _ HB2.out).mono ?_
            rintro e w3 ⟨rfl, hb3⟩
            have HB3 : Hid (Below W.heap.size W w3) := HB2.out.trans (hb3.mono HB2.out.size)
            clear hb3
            go_wp2_with fail
            refine (HL4.out _ HB3.out).mono ?_
            rintro e w4 ⟨rfl, hb4⟩
            have HB4 : Hid (Below W.heap.size W w4) := HB3.out.trans (hb4.mono HB3.out.size)
            clear hb4
            go_wp2_with fail
            refine (HL5.out _ HB4.out).mono ?_
            rintro e w5 ⟨rfl, hb5⟩
            have HB5 : Hid (Below W.heap.size W w5) := HB4.out.trans (hb5.mono HB4.out.size)
            clear hb5
            have H26 := show Hid _ from H0.out.below HB5.out
            go_wp2_with fail
            refine (C3 X _ _ _ H26.out (by omega) (by have m0 := HM.out; have mv := ms_live E5.out; omega)).mono ?_
            rintro e w27 ⟨rfl, d27, h27, i27⟩
            have H27 := show Hid _ from h27
            have I27 := show Hid _ from i27
            clear h27 i27
            go_wp2_with fail
            go_end0
            exact ⟨rfl, _, H27.out, ib_ex (drow_fac E1.out E2.out E3.out E4.out E5.out) (rb_cons I27.out rb_nil)⟩
          | false =>
            go_wp2_with fail
            refine (HL1.out _ (Below.refl _ _)).mono ?_
            rintro e w1 ⟨rfl, hb1⟩
            have HB1 : Hid (Below W.heap.size W w1) := hb1
            clear hb1
            go_wp2_with fail
            refine (HL2.out _ HB1.out).mono ?_
            rintro e w2 ⟨rfl, hb2⟩
            have HB2 : Hid (Below W.heap.size W w2) := HB1.out.trans (hb2.mono HB1.out.size)
            clear hb2
            go_wp2_with fail
            refine (HL3.out _ HB2.out).mono ?_
            rintro e w3 ⟨rfl, hb3⟩
            have HB3 : Hid (Below W.heap.size W w3) := HB2.out.trans (hb3.mono HB2.out.size)
            clear hb3
            go_wp2_with fail
            refine (HL4.out _ HB3.out).mono ?_
            rintro e w4 ⟨rfl, hb4⟩
            have HB4 : Hid (Below W.heap.size W w4) := HB3.out.trans (hb4.mono HB3.out.size)
            clear hb4
            go_wp2_with fail
            refine (HL5.out _ HB4.out).mono ?_
            rintro e w5 ⟨rfl, hb5⟩
            have HB5 : Hid (Below W.heap.size W w5) := HB4.out.trans (hb5.mono HB4.out.size)
            clear hb5
            have H28 := show Hid _ from H0.out.below HB5.out
            go_wp2_with fail
            refine (wrong_any H28.out).mono ?_
            rintro e w29 ⟨rfl, h29⟩
            have H29 := show Hid _ from h29
            clear h29
            go_wp2_with fail
            go_end0
            exact ⟨rfl, _, H29.out, ib_ref (drow_fac E1.out E2.out E3.out E4.out E5.out)⟩
set_option maxHeartbeats 4194304 in
theorem object_ct (n : Nat) (C1 : ∀ k, k < n → ∀ (X : Rx) (r : Nat) (d : D) (W : World), RD X r d W → r ≤ 80 → ms X.L d ≤ k → Calls Tryz.prog 146 #[pt X.g, .int .u8 29, .string ⟨#[91]⟩, .string ⟨#[93]⟩] W fun e w' => e = .returned (.tuple #[]) ∧ ∃ d', RD X 0 d' w' ∧ Ib X.L (.fl (.mt .index)) d d') (C2 : ∀ k, k < n → ∀ (X : Rx) (r : Nat) (d : D) (W : World), RD X r d W → r ≤ 80 → ms X.L d ≤ k → Calls Tryz.prog 146 #[pt X.g, .int .u8 31, .string ⟨#[40]⟩, .string ⟨#[41]⟩] W fun e w' => e = .returned (.tuple #[]) ∧ ∃ d', RD X 0 d' w' ∧ Ib X.L (.fl (.mt .args)) d d') : CT .object 132 80 n := by
  intro X r d W h hr hm
  have H0 : Hid (RD X r d W) := h
  have HM : Hid (ms X.L d ≤ n) := hm
  clear h hm
  go_enter Tryz.func132, Tryz.ntmps132
  go_wp2_with fail
  refine (opens_any H0.out (by omega) 28).mono ?_
  rintro e w1 ⟨rfl, h1⟩
  have H1 := show Hid _ from h1
  clear h1
  go_wp2_with fail
  refine (rtakeName_any H1.out (by omega)).mono ?_
  rintro e w2 ⟨rfl, h2⟩
  have H2 := show Hid _ from h2
  clear h2
  go_wp2_with fail
  go_loopw [2, 3, 4] (fun _ _ _ wr => ∃ dk, Hid (RD X 0 dk wr ∧ Lp X.L (.fn .detail) (tkI X.L (.nm) (opD 28 d)) dk)) (fun _ _ _ wr => ymW X wr)
  case atStart => exact ⟨_, H2.out, .refl⟩
  case round =>
    obtain ⟨dk, HJ⟩ := hrel
    obtain ⟨b3, e3⟩ : ∃ b, qn X.L dk (wk 6 ⟨#[91]⟩) = b := ⟨_, rfl⟩
    have HL3 : Hid (∀ V, Below wr.heap.size wr V → Calls Tryz.prog 80 #[pt X.g, .string ⟨#[91]⟩] V fun e w' => e = .returned (.bool b3) ∧ Below V.heap.size V w') := fun V hb => by rw [← e3]; exact rsign_any (HJ.out.1.below hb) _
    have E3 : Hid (qn X.L dk (wk 6 ⟨#[91]⟩) = b3) := e3
    clear e3
    obtain ⟨b4, e4⟩ : ∃ b, qn X.L dk (wk 6 ⟨#[46]⟩) = b := ⟨_, rfl⟩
    have HL4 : Hid (∀ V, Below wr.heap.size wr V → Calls Tryz.prog 80 #[pt X.g, .string ⟨#[46]⟩] V fun e w' => e = .returned (.bool b4) ∧ Below V.heap.size V w') := fun V hb => by rw [← e4]; exact rsign_any (HJ.out.1.below hb) _
    have E4 : Hid (qn X.L dk (wk 6 ⟨#[46]⟩) = b4) := e4
    clear e4
    obtain ⟨b5, e5⟩ : ∃ b, qn X.L dk (wk 6 ⟨#[40]⟩) = b := ⟨_, rfl⟩
    have HL5 : Hid (∀ V, Below wr.heap.size wr V → Calls Tryz.prog 80 #[pt X.g, .string ⟨#[40]⟩] V fun e w' => e = .returned (.bool b5) ∧ Below V.heap.size V w') := fun V hb => by rw [← e5]; exact rsign_any (HJ.out.1.below hb) _
    have E5 : Hid (qn X.L dk (wk 6 ⟨#[40]⟩) = b5) := e5
    clear e5
    cases b3 with
    | true =>
      go_wp2_with fail
      refine (HL3.out _ (Below.refl _ _)).mono ?_
      rintro e w3 ⟨rfl, hb3⟩
      have HB3 : Hid (Below wr.heap.size wr w3) := hb3
      clear hb3
      go_wp2_with fail
      refine (HL4.out _ HB3.out).mono ?_
      rintro e w4 ⟨rfl, hb4⟩
      have HB4 : Hid (Below wr.heap.size wr w4) := HB3.out.trans (hb4.mono HB3.out.size)
      clear hb4
      go_wp2_with fail
      refine (HL5.out _ HB4.out).mono ?_
      rintro e w5 ⟨rfl, hb5⟩
      have HB5 : Hid (Below wr.heap.size wr w5) := HB4.out.trans (hb5.mono HB4.out.size)
      clear hb5
      have H6 := show Hid _ from HJ.out.1.below HB5.out
      go_wp2_with fail
      refine (C1 (ms X.L dk) (by have m0 := HM.out; have m1 : ms X.L (opD 28 d) = ms X.L d := ms_op; have m2 := ms_tkI (L := X.L) (x := .nm) (d := (opD 28 d)); have ml := HJ.out.2.le; have mv := ms_live E3.out; omega) X _ _ _ H6.out (by omega) (Nat.le_refl _)).mono ?_
      rintro e w7 ⟨rfl, d7, h7, i7⟩
      have H7 := show Hid _ from h7
      have I7 := show Hid _ from i7
      clear h7 i7
      go_wp2_with fail
      exact ⟨⟨_, H7.out, HJ.out.2.step ((pick_det E3.out E4.out E5.out).trans rfl) I7.out⟩, by rw [ymW_is H7.out, ymW_is HJ.out.1]; have m0 := HM.out; have m1 : ms X.L (opD 28 d) = ms X.L d := ms_op; have m2 := ms_tkI (L := X.L) (x := .nm) (d := (opD 28 d)); have ml := HJ.out.2.le; have mv := ms_live E3.out; have m7 := ms_ib I7.out; have mx := ib_less (m := .index) rfl ne_wd I7.out mv; omega⟩
    | false =>
      cases b4 with
      | true =>
        go_wp2_with fail
        refine (HL3.out _ (Below.refl _ _)).mono ?_
        rintro e w3 ⟨rfl, hb3⟩
        have HB3 : Hid (Below wr.heap.size wr w3) := hb3
        clear hb3
        go_wp2_with fail
        refine (HL4.out _ HB3.out).mono ?_
        rintro e w4 ⟨rfl, hb4⟩
        have HB4 : Hid (Below wr.heap.size wr w4) := HB3.out.trans (hb4.mono HB3.out.size)
        clear hb4
        go_wp2_with fail
        refine (HL5.out _ HB4.out).mono ?_
        rintro e w5 ⟨rfl, hb5⟩
        have HB5 : Hid (Below wr.heap.size wr w5) := HB4.out.trans (hb5.mono HB4.out.size)
        clear hb5
        have H8 := show Hid _ from HJ.out.1.below HB5.out
        go_wp2_with fail
        refine (opens_any H8.out (by omega) 30).mono ?_
        rintro e w9 ⟨rfl, h9⟩
        have H9 := show Hid _ from h9
        clear h9
        go_wp2_with fail
        refine (rtakeSign_any H9.out (by omega) ⟨#[46]⟩).mono ?_
        rintro e w10 ⟨rfl, h10⟩
        have H10 := show Hid _ from h10
        clear h10
        go_wp2_with fail
        refine (rtakeName_any H10.out (by omega)).mono ?_
        rintro e w11 ⟨rfl, h11⟩
        have H11 := show Hid _ from h11
        clear h11
        go_wp2_with fail
        refine (closes_any 30 H11.out (pn_tk (pn_tk pn_op))).mono ?_
        rintro e w12 ⟨rfl, h12⟩
        have H12 := show Hid _ from h12
        clear h12
        go_wp2_with fail
        exact ⟨⟨_, H12.out, HJ.out.2.step ((pick_det E3.out E4.out E5.out).trans rfl) (ib_op rfl (rb_cons ib_w (rb_cons ib_n (rb_cons ib_lv rb_nil))))⟩, by rw [ymW_is H12.out, ymW_is HJ.out.1]; have m0 := HM.out; have m1 : ms X.L (opD 28 d) = ms X.L d := ms_op; have m2 := ms_tkI (L := X.L) (x := .nm) (d := (opD 28 d)); have ml := HJ.out.2.le; have mv := ms_live E4.out; have m9 : ms X.L (opD 30 dk) = ms X.L dk := ms_op; have m10 := ms_tkI (L := X.L) (x := .wd 6 [⟨#[46]⟩]) (d := (opD 30 dk)); have m11 := ms_tkI (L := X.L) (x := .nm) (d := (tkI X.L (.wd 6 [⟨#[46]⟩]) (opD 30 dk))); have m12 : ms X.L (clD 30 (tkI X.L (.nm) (tkI X.L (.wd 6 [⟨#[46]⟩]) (opD 30 dk)))) = ms X.L (tkI X.L (.nm) (tkI X.L (.wd 6 [⟨#[46]⟩]) (opD 30 dk))) := ms_cl; omega⟩
      | false =>
        cases b5 with
        | true =>
          go_wp2_with fail
          refine (HL3.out _ (Below.refl _ _)).mono ?_
          rintro e w3 ⟨rfl, hb3⟩
          have HB3 : Hid (Below wr.heap.size wr w3) := hb3
          clear hb3
          go_wp2_with fail
          refine (HL4.out _ HB3.out).mono ?_
          rintro e w4 ⟨rfl, hb4⟩
          have HB4 : Hid (Below wr.heap.size wr w4) := HB3.out.trans (hb4.mono HB3.out.size)
          clear hb4
          go_wp2_with fail
          refine (HL5.out _ HB4.out).mono ?_
          rintro e w5 ⟨rfl, hb5⟩
          have HB5 : Hid (Below wr.heap.size wr w5) := HB4.out.trans (hb5.mono HB4.out.size)
          clear hb5
          have H13 := show Hid _ from HJ.out.1.below HB5.out
          go_wp2_with fail
          refine (C2 (ms X.L dk) (by have m0 := HM.out; have m1 : ms X.L (opD 28 d) = ms X.L d := ms_op; have m2 := ms_tkI (L := X.L) (x := .nm) (d := (opD 28 d)); have ml := HJ.out.2.le; have mv := ms_live E5.out; omega) X _ _ _ H13.out (by omega) (Nat.le_refl _)).mono ?_
          rintro e w14 ⟨rfl, d14, h14, i14⟩
          have H14 := show Hid _ from h14
          have I14 := show Hid _ from i14
          clear h14 i14
          go_wp2_with fail
          exact ⟨⟨_, H14.out, HJ.out.2.step ((pick_det E3.out E4.out E5.out).trans rfl) I14.out⟩, by rw [ymW_is H14.out, ymW_is HJ.out.1]; have m0 := HM.out; have m1 : ms X.L (opD 28 d) = ms X.L d := ms_op; have m2 := ms_tkI (L := X.L) (x := .nm) (d := (opD 28 d)); have ml := HJ.out.2.le; have mv := ms_live E5.out; have m14 := ms_ib I14.out; have mx := ib_less (m := .args) rfl ne_wd I14.out mv; omega⟩
        | false =>
          go_wp2_with fail
          refine (HL3.out _ (Below.refl _ _)).mono ?_
          rintro e w3 ⟨rfl, hb3⟩
          have HB3 : Hid (Below wr.heap.size wr w3) := hb3
          clear hb3
          go_wp2_with fail
          refine (HL4.out _ HB3.out).mono ?_
          rintro e w4 ⟨rfl, hb4⟩
          have HB4 : Hid (Below wr.heap.size wr w4) := HB3.out.trans (hb4.mono HB3.out.size)
          clear hb4
          go_wp2_with fail
          refine (HL5.out _ HB4.out).mono ?_
          rintro e w5 ⟨rfl, hb5⟩
          have HB5 : Hid (Below wr.heap.size wr w5) := HB4.out.trans (hb5.mono HB4.out.size)
          clear hb5
          have H15 := show Hid _ from HJ.out.1.below HB5.out
          go_wp2_with fail
          refine (closes_any 28 H15.out (HJ.out.2.pn (pn_tk pn_op))).mono ?_
          rintro e w16 ⟨rfl, h16⟩
          have H16 := show Hid _ from h16
          clear h16
          go_wp2_with fail
          go_end0
          exact ⟨rfl, _, H16.out, ib_op rfl (rb_cons ib_n (rb_cons (HJ.out.2.fin ((pick_det E3.out E4.out E5.out).trans rfl)) (rb_cons ib_lv rb_nil)))⟩
set_option maxHeartbeats 4194304 in
theorem index_ct (n : Nat) (C1 : CB .expr 110 50 n) : ∀ (X : Rx) (r : Nat) (d : D) (W : World), RD X r d W → r ≤ 80 → ms X.L d ≤ n → Calls Tryz.prog 146 #[pt X.g, .int .u8 29, .string ⟨#[91]⟩, .string ⟨#[93]⟩] W fun e w' => e = .returned (.tuple #[]) ∧ ∃ d', RD X 0 d' w' ∧ Ib X.L (.fl (.mt .index)) d d' := by
  intro X r d W h hr hm
  have H0 : Hid (RD X r d W) := h
  have HM : Hid (ms X.L d ≤ n) := hm
  clear h hm
  go_enter Tryz.func146, Tryz.ntmps146
  go_wp2_with fail
  refine (opens_any H0.out (by omega) 29).mono ?_
  rintro e w1 ⟨rfl, h1⟩
  have H1 := show Hid _ from h1
  clear h1
  go_wp2_with fail
  refine (rtakeSign_any H1.out (by omega) ⟨#[91]⟩).mono ?_
  rintro e w2 ⟨rfl, h2⟩
  have H2 := show Hid _ from h2
  clear h2
  obtain ⟨b3, e3⟩ : ∃ b, qn X.L (tkI X.L (.wd 6 [⟨#[91]⟩]) (opD 29 d)) tBeg = b := ⟨_, rfl⟩
  have HL3 : Hid (∀ V, Below w2.heap.size w2 V → Calls Tryz.prog 134 #[pt X.g] V fun e w' => e = .returned (.bool b3) ∧ Below V.heap.size V w') := fun V hb => by rw [← e3]; exact rbegins_any (H2.out.below hb)
  have E3 : Hid (qn X.L (tkI X.L (.wd 6 [⟨#[91]⟩]) (opD 29 d)) tBeg = b3) := e3
  clear e3
  cases b3 with
  | true =>
    go_wp2_with fail
    refine (HL3.out _ (Below.refl _ _)).mono ?_
    rintro e w3 ⟨rfl, hb3⟩
    have HB3 : Hid (Below w2.heap.size w2 w3) := hb3
    clear hb3
    have H4 := show Hid _ from H2.out.below HB3.out
    go_wp2_with fail
    refine (C1 (ms X.L (tkI X.L (.wd 6 [⟨#[91]⟩]) (opD 29 d))) (by have m0 := HM.out; have m1 : ms X.L (opD 29 d) = ms X.L d := ms_op; have m2 := ms_tkI (L := X.L) (x := .wd 6 [⟨#[91]⟩]) (d := (opD 29 d)); have mv := ms_live E3.out; omega) X _ _ _ H4.out (by omega) (Nat.le_refl _)).mono ?_
    rintro e w5 ⟨rfl, d5, h5, i5⟩
    have H5 := show Hid _ from h5
    have I5 := show Hid _ from i5
    clear h5 i5
    go_wp2_with fail
    go_loopw [9] (fun _ wr => ∃ dk, Hid (RD X 0 dk wr ∧ Lp X.L (.row [.wd 6 [⟨#[44]⟩], .mt .expr]) d5 dk)) (fun _ wr => ymW X wr)
    case atStart => exact ⟨_, H5.out, .refl⟩
    case round =>
      obtain ⟨dk, HJ⟩ := hrel
      obtain ⟨b6, e6⟩ : ∃ b, qn X.L dk (wk 6 ⟨#[44]⟩) = b := ⟨_, rfl⟩
      have HL6 : Hid (∀ V, Below wr.heap.size wr V → Calls Tryz.prog 80 #[pt X.g, .string ⟨#[44]⟩] V fun e w' => e = .returned (.bool b6) ∧ Below V.heap.size V w') := fun V hb => by rw [← e6]; exact rsign_any (HJ.out.1.below hb) _
      have E6 : Hid (qn X.L dk (wk 6 ⟨#[44]⟩) = b6) := e6
      clear e6
      cases b6 with
      | true =>
        go_wp2_with fail
        refine (HL6.out _ (Below.refl _ _)).mono ?_
        rintro e w6 ⟨rfl, hb6⟩
        have HB6 : Hid (Below wr.heap.size wr w6) := hb6
        clear hb6
        have H7 := show Hid _ from HJ.out.1.below HB6.out
        go_wp2_with fail
        refine (rtakeSign_any H7.out (by omega) ⟨#[44]⟩).mono ?_
        rintro e w8 ⟨rfl, h8⟩
        have H8 := show Hid _ from h8
        clear h8
        go_wp2_with fail
        refine (C1 (ms X.L (tkI X.L (.wd 6 [⟨#[44]⟩]) dk)) (by have m0 := HM.out; have m1 : ms X.L (opD 29 d) = ms X.L d := ms_op; have m2 := ms_tkI (L := X.L) (x := .wd 6 [⟨#[91]⟩]) (d := (opD 29 d)); have mv := ms_live E3.out; have m5 := ms_ib I5.out; have ml := HJ.out.2.le; have mv := ms_live E6.out; have m8 := ms_tkI (L := X.L) (x := .wd 6 [⟨#[44]⟩]) (d := dk); omega) X _ _ _ H8.out (by omega) (Nat.le_refl _)).mono ?_
        rintro e w9 ⟨rfl, d9, h9, i9⟩
        have H9 := show Hid _ from h9
        have I9 := show Hid _ from i9
        clear h9 i9
        go_wp2_with fail
        exact ⟨⟨_, H9.out, HJ.out.2.step (pick_row1 (qn_wd E6.out)) (ib_all (rb_cons ib_w (rb_cons I9.out rb_nil)))⟩, by rw [ymW_is H9.out, ymW_is HJ.out.1]; have m0 := HM.out; have m1 : ms X.L (opD 29 d) = ms X.L d := ms_op; have m2 := ms_tkI (L := X.L) (x := .wd 6 [⟨#[91]⟩]) (d := (opD 29 d)); have mv := ms_live E3.out; have m5 := ms_ib I5.out; have ml := HJ.out.2.le; have mv := ms_live E6.out; have m8 := ms_tkI (L := X.L) (x := .wd 6 [⟨#[44]⟩]) (d := dk); have m9 := ms_ib I9.out; omega⟩
      | false =>
        go_wp2_with fail
        refine (HL6.out _ (Below.refl _ _)).mono ?_
        rintro e w6 ⟨rfl, hb6⟩
        have HB6 : Hid (Below wr.heap.size wr w6) := hb6
        clear hb6
        have H10 := show Hid _ from HJ.out.1.below HB6.out
        go_wp2_with fail
        refine (rtakeSign_any H10.out (by omega) ⟨#[93]⟩).mono ?_
        rintro e w11 ⟨rfl, h11⟩
        have H11 := show Hid _ from h11
        clear h11
        go_wp2_with fail
        refine (closes_any 29 H11.out (pn_tk (HJ.out.2.pn (pn_ib (pn_tk pn_op) rfl I5.out)))).mono ?_
        rintro e w12 ⟨rfl, h12⟩
        have H12 := show Hid _ from h12
        clear h12
        go_wp2_with fail
        go_end0
        exact ⟨rfl, _, H12.out, ib_op rfl (rb_cons ib_w (rb_cons (ib_ex rfl (rb_cons I5.out (rb_cons (HJ.out.2.fin (pick_row0 (qn_wd E6.out))) rb_nil))) (rb_cons ib_w (rb_cons ib_lv rb_nil))))⟩
  | false =>
    go_wp2_with fail
    refine (HL3.out _ (Below.refl _ _)).mono ?_
    rintro e w3 ⟨rfl, hb3⟩
    have HB3 : Hid (Below w2.heap.size w2 w3) := hb3
    clear hb3
    have H13 := show Hid _ from H2.out.below HB3.out
    go_wp2_with fail
    refine (C1 (ms X.L (tkI X.L (.wd 6 [⟨#[91]⟩]) (opD 29 d))) (by have m0 := HM.out; have m1 : ms X.L (opD 29 d) = ms X.L d := ms_op; have m2 := ms_tkI (L := X.L) (x := .wd 6 [⟨#[91]⟩]) (d := (opD 29 d)); omega) X _ _ _ H13.out (by omega) (Nat.le_refl _)).mono ?_
    rintro e w14 ⟨rfl, d14, h14, i14⟩
    have H14 := show Hid _ from h14
    have I14 := show Hid _ from i14
    clear h14 i14
    go_wp2_with fail
    go_loopw [9] (fun _ wr => ∃ dk, Hid (RD X 0 dk wr ∧ Lp X.L (.row [.wd 6 [⟨#[44]⟩], .mt .expr]) d14 dk)) (fun _ wr => ymW X wr)
    case atStart => exact ⟨_, H14.out, .refl⟩
    case round =>
      obtain ⟨dk, HJ⟩ := hrel
      obtain ⟨b15, e15⟩ : ∃ b, qn X.L dk (wk 6 ⟨#[44]⟩) = b := ⟨_, rfl⟩
      have HL15 : Hid (∀ V, Below wr.heap.size wr V → Calls Tryz.prog 80 #[pt X.g, .string ⟨#[44]⟩] V fun e w' => e = .returned (.bool b15) ∧ Below V.heap.size V w') := fun V hb => by rw [← e15]; exact rsign_any (HJ.out.1.below hb) _
      have E15 : Hid (qn X.L dk (wk 6 ⟨#[44]⟩) = b15) := e15
      clear e15
      cases b15 with
      | true =>
        go_wp2_with fail
        refine (HL15.out _ (Below.refl _ _)).mono ?_
        rintro e w15 ⟨rfl, hb15⟩
        have HB15 : Hid (Below wr.heap.size wr w15) := hb15
        clear hb15
        have H16 := show Hid _ from HJ.out.1.below HB15.out
        go_wp2_with fail
        refine (rtakeSign_any H16.out (by omega) ⟨#[44]⟩).mono ?_
        rintro e w17 ⟨rfl, h17⟩
        have H17 := show Hid _ from h17
        clear h17
        go_wp2_with fail
        refine (C1 (ms X.L (tkI X.L (.wd 6 [⟨#[44]⟩]) dk)) (by have m0 := HM.out; have m1 : ms X.L (opD 29 d) = ms X.L d := ms_op; have m2 := ms_tkI (L := X.L) (x := .wd 6 [⟨#[91]⟩]) (d := (opD 29 d)); have m14 := ms_ib I14.out; have ml := HJ.out.2.le; have mv := ms_live E15.out; have m17 := ms_tkI (L := X.L) (x := .wd 6 [⟨#[44]⟩]) (d := dk); omega) X _ _ _ H17.out (by omega) (Nat.le_refl _)).mono ?_
        rintro e w18 ⟨rfl, d18, h18, i18⟩
        have H18 := show Hid _ from h18
        have I18 := show Hid _ from i18
        clear h18 i18
        go_wp2_with fail
        exact ⟨⟨_, H18.out, HJ.out.2.step (pick_row1 (qn_wd E15.out)) (ib_all (rb_cons ib_w (rb_cons I18.out rb_nil)))⟩, by rw [ymW_is H18.out, ymW_is HJ.out.1]; have m0 := HM.out; have m1 : ms X.L (opD 29 d) = ms X.L d := ms_op; have m2 := ms_tkI (L := X.L) (x := .wd 6 [⟨#[91]⟩]) (d := (opD 29 d)); have m14 := ms_ib I14.out; have ml := HJ.out.2.le; have mv := ms_live E15.out; have m17 := ms_tkI (L := X.L) (x := .wd 6 [⟨#[44]⟩]) (d := dk); have m18 := ms_ib I18.out; omega⟩
      | false =>
        go_wp2_with fail
        refine (HL15.out _ (Below.refl _ _)).mono ?_
        rintro e w15 ⟨rfl, hb15⟩
        have HB15 : Hid (Below wr.heap.size wr w15) := hb15
        clear hb15
        have H19 := show Hid _ from HJ.out.1.below HB15.out
        go_wp2_with fail
        refine (rtakeSign_any H19.out (by omega) ⟨#[93]⟩).mono ?_
        rintro e w20 ⟨rfl, h20⟩
        have H20 := show Hid _ from h20
        clear h20
        go_wp2_with fail
        refine (closes_any 29 H20.out (pn_tk (HJ.out.2.pn (pn_ib (pn_tk pn_op) rfl I14.out)))).mono ?_
        rintro e w21 ⟨rfl, h21⟩
        have H21 := show Hid _ from h21
        clear h21
        go_wp2_with fail
        go_end0
        exact ⟨rfl, _, H21.out, ib_op rfl (rb_cons ib_w (rb_cons (ib_ex rfl (rb_cons I14.out (rb_cons (HJ.out.2.fin (pick_row0 (qn_wd E15.out))) rb_nil))) (rb_cons ib_w (rb_cons ib_lv rb_nil))))⟩
set_option maxHeartbeats 4194304 in
theorem args_ct (n : Nat) (C1 : CB .expr 110 50 n) : ∀ (X : Rx) (r : Nat) (d : D) (W : World), RD X r d W → r ≤ 80 → ms X.L d ≤ n → Calls Tryz.prog 146 #[pt X.g, .int .u8 31, .string ⟨#[40]⟩, .string ⟨#[41]⟩] W fun e w' => e = .returned (.tuple #[]) ∧ ∃ d', RD X 0 d' w' ∧ Ib X.L (.fl (.mt .args)) d d' := by
  intro X r d W h hr hm
  have H0 : Hid (RD X r d W) := h
  have HM : Hid (ms X.L d ≤ n) := hm
  clear h hm
  go_enter Tryz.func146, Tryz.ntmps146
  go_wp2_with fail
  refine (opens_any H0.out (by omega) 31).mono ?_
  rintro e w1 ⟨rfl, h1⟩
  have H1 := show Hid _ from h1
  clear h1
  go_wp2_with fail
  refine (rtakeSign_any H1.out (by omega) ⟨#[40]⟩).mono ?_
  rintro e w2 ⟨rfl, h2⟩
  have H2 := show Hid _ from h2
  clear h2
  obtain ⟨b3, e3⟩ : ∃ b, qn X.L (tkI X.L (.wd 6 [⟨#[40]⟩]) (opD 31 d)) tBeg = b := ⟨_, rfl⟩
  have HL3 : Hid (∀ V, Below w2.heap.size w2 V → Calls Tryz.prog 134 #[pt X.g] V fun e w' => e = .returned (.bool b3) ∧ Below V.heap.size V w') := fun V hb => by rw [← e3]; exact rbegins_any (H2.out.below hb)
  have E3 : Hid (qn X.L (tkI X.L (.wd 6 [⟨#[40]⟩]) (opD 31 d)) tBeg = b3) := e3
  clear e3
  cases b3 with
  | true =>
    go_wp2_with fail
    refine (HL3.out _ (Below.refl _ _)).mono ?_
    rintro e w3 ⟨rfl, hb3⟩
    have HB3 : Hid (Below w2.heap.size w2 w3) := hb3
    clear hb3
    have H4 := show Hid _ from H2.out.below HB3.out
    go_wp2_with fail
    refine (C1 (ms X.L (tkI X.L (.wd 6 [⟨#[40]⟩]) (opD 31 d))) (by have m0 := HM.out; have m1 : ms X.L (opD 31 d) = ms X.L d := ms_op; have m2 := ms_tkI (L := X.L) (x := .wd 6 [⟨#[40]⟩]) (d := (opD 31 d)); have mv := ms_live E3.out; omega) X _ _ _ H4.out (by omega) (Nat.le_refl _)).mono ?_
    rintro e w5 ⟨rfl, d5, h5, i5⟩
    have H5 := show Hid _ from h5
    have I5 := show Hid _ from i5
    clear h5 i5
    go_wp2_with fail
    go_loopw [9] (fun _ wr => ∃ dk, Hid (RD X 0 dk wr ∧ Lp X.L (.row [.wd 6 [⟨#[44]⟩], .mt .expr]) d5 dk)) (fun _ wr => ymW X wr)
    case atStart => exact ⟨_, H5.out, .refl⟩
    case round =>
      obtain ⟨dk, HJ⟩ := hrel
      obtain ⟨b6, e6⟩ : ∃ b, qn X.L dk (wk 6 ⟨#[44]⟩) = b := ⟨_, rfl⟩
      have HL6 : Hid (∀ V, Below wr.heap.size wr V → Calls Tryz.prog 80 #[pt X.g, .string ⟨#[44]⟩] V fun e w' => e = .returned (.bool b6) ∧ Below V.heap.size V w') := fun V hb => by rw [← e6]; exact rsign_any (HJ.out.1.below hb) _
      have E6 : Hid (qn X.L dk (wk 6 ⟨#[44]⟩) = b6) := e6
      clear e6
      cases b6 with
      | true =>
        go_wp2_with fail
        refine (HL6.out _ (Below.refl _ _)).mono ?_
        rintro e w6 ⟨rfl, hb6⟩
        have HB6 : Hid (Below wr.heap.size wr w6) := hb6
        clear hb6
        have H7 := show Hid _ from HJ.out.1.below HB6.out
        go_wp2_with fail
        refine (rtakeSign_any H7.out (by omega) ⟨#[44]⟩).mono ?_
        rintro e w8 ⟨rfl, h8⟩
        have H8 := show Hid _ from h8
        clear h8
        go_wp2_with fail
        refine (C1 (ms X.L (tkI X.L (.wd 6 [⟨#[44]⟩]) dk)) (by have m0 := HM.out; have m1 : ms X.L (opD 31 d) = ms X.L d := ms_op; have m2 := ms_tkI (L := X.L) (x := .wd 6 [⟨#[40]⟩]) (d := (opD 31 d)); have mv := ms_live E3.out; have m5 := ms_ib I5.out; have ml := HJ.out.2.le; have mv := ms_live E6.out; have m8 := ms_tkI (L := X.L) (x := .wd 6 [⟨#[44]⟩]) (d := dk); omega) X _ _ _ H8.out (by omega) (Nat.le_refl _)).mono ?_
        rintro e w9 ⟨rfl, d9, h9, i9⟩
        have H9 := show Hid _ from h9
        have I9 := show Hid _ from i9
        clear h9 i9
        go_wp2_with fail
        exact ⟨⟨_, H9.out, HJ.out.2.step (pick_row1 (qn_wd E6.out)) (ib_all (rb_cons ib_w (rb_cons I9.out rb_nil)))⟩, by rw [ymW_is H9.out, ymW_is HJ.out.1]; have m0 := HM.out; have m1 : ms X.L (opD 31 d) = ms X.L d := ms_op; have m2 := ms_tkI (L := X.L) (x := .wd 6 [⟨#[40]⟩]) (d := (opD 31 d)); have mv := ms_live E3.out; have m5 := ms_ib I5.out; have ml := HJ.out.2.le; have mv := ms_live E6.out; have m8 := ms_tkI (L := X.L) (x := .wd 6 [⟨#[44]⟩]) (d := dk); have m9 := ms_ib I9.out; omega⟩
      | false =>
        go_wp2_with fail
        refine (HL6.out _ (Below.refl _ _)).mono ?_
        rintro e w6 ⟨rfl, hb6⟩
        have HB6 : Hid (Below wr.heap.size wr w6) := hb6
        clear hb6
        have H10 := show Hid _ from HJ.out.1.below HB6.out
        go_wp2_with fail
        refine (rtakeSign_any H10.out (by omega) ⟨#[41]⟩).mono ?_
        rintro e w11 ⟨rfl, h11⟩
        have H11 := show Hid _ from h11
        clear h11
        go_wp2_with fail
        refine (closes_any 31 H11.out (pn_tk (HJ.out.2.pn (pn_ib (pn_tk pn_op) rfl I5.out)))).mono ?_
        rintro e w12 ⟨rfl, h12⟩
        have H12 := show Hid _ from h12
        clear h12
        go_wp2_with fail
        go_end0
        exact ⟨rfl, _, H12.out, ib_op rfl (rb_cons ib_w (rb_cons (ib_once1 (pick_beg E3.out) (ib_ex rfl (rb_cons I5.out (rb_cons (HJ.out.2.fin (pick_row0 (qn_wd E6.out))) rb_nil)))) (rb_cons ib_w (rb_cons ib_lv rb_nil))))⟩
  | false =>
    go_wp2_with fail
    refine (HL3.out _ (Below.refl _ _)).mono ?_
    rintro e w3 ⟨rfl, hb3⟩
    have HB3 : Hid (Below w2.heap.size w2 w3) := hb3
    clear hb3
    have H13 := show Hid _ from H2.out.below HB3.out
    go_wp2_with fail
    refine (rtakeSign_any H13.out (by omega) ⟨#[41]⟩).mono ?_
    rintro e w14 ⟨rfl, h14⟩
    have H14 := show Hid _ from h14
    clear h14
    go_wp2_with fail
    refine (closes_any 31 H14.out (pn_tk (pn_tk pn_op))).mono ?_
    rintro e w15 ⟨rfl, h15⟩
    have H15 := show Hid _ from h15
    clear h15
    go_wp2_with fail
    go_end0
    exact ⟨rfl, _, H15.out, ib_op rfl (rb_cons ib_w (rb_cons (ib_once0 (pick_beg E3.out)) (rb_cons ib_w (rb_cons ib_lv rb_nil))))⟩
end Go.Proofs.YtkigadnkclkopaaGreat
