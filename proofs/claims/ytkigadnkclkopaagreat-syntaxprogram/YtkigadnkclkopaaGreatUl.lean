import Derived.Test.YtkigadnkclkopaaGreatU1
set_option linter.unusedVariables false
set_option linter.unusedSimpArgs false
namespace Go.Proofs.YtkigadnkclkopaaGreat
open Go.RowKit

set_option maxHeartbeats 4194304 in
theorem params_ct (n : Nat) (C1 : CB .typed 109 60 n) : ∀ (X : Rx) (r : Nat) (d : D) (W : World), RD X r d W → r ≤ 80 → ms X.L d ≤ n → Calls Tryz.prog 111 #[pt X.g, .int .u8 6, .int .u8 7, .string ⟨#[41]⟩] W fun e w' => e = .returned (.tuple #[]) ∧ ∃ d', RD X 0 d' w' ∧ Ib X.L (.fl (.mt .params)) d d' := by
  intro X r d W h hr hm
  have H0 : Hid (RD X r d W) := h
  have HM : Hid (ms X.L d ≤ n) := hm
  clear h hm
  go_enter Tryz.func111, Tryz.ntmps111
  go_wp2_with fail
  refine (opens_any H0.out (by omega) 6).mono ?_
  rintro e w1 ⟨rfl, h1⟩
  have H1 := show Hid _ from h1
  clear h1
  go_wp2_with fail
  refine (rtakeSign_any H1.out (by omega) ⟨#[40]⟩).mono ?_
  rintro e w2 ⟨rfl, h2⟩
  have H2 := show Hid _ from h2
  clear h2
  go_wp2_with fail
  go_loopw [8] (fun _ wr => ∃ dk, Hid (RD X 0 dk wr ∧ Lq X.L (.fl (.mt .param)) (.row [.wd 6 [⟨#[59]⟩], .mt .param]) (tkI X.L (.wd 6 [⟨#[40]⟩]) (opD 6 d)) dk)) (fun _ wr => ymW X wr)
  case atStart => exact ⟨_, H2.out, .refl⟩
  case round =>
    obtain ⟨dk, HJ0⟩ := hrel
    have HJ := show Hid _ from HJ0.out.1
    go_wp2_with fail
    refine (opens_any HJ.out (by omega) 7).mono ?_
    rintro e w3 ⟨rfl, h3⟩
    have H3 := show Hid _ from h3
    clear h3
    go_wp2_with fail
    refine (C1 (ms X.L (opD 7 dk)) (by have m0 := HM.out; have m1 : ms X.L (opD 6 d) = ms X.L d := ms_op; have m2 := ms_tkI (L := X.L) (x := .wd 6 [⟨#[40]⟩]) (d := (opD 6 d)); have ml := HJ0.out.2.le; have m3 : ms X.L (opD 7 dk) = ms X.L dk := ms_op; omega) X _ _ _ H3.out (by omega) (Nat.le_refl _)).mono ?_
    rintro e w4 ⟨rfl, d4, h4, i4⟩
    have H4 := show Hid _ from h4
    have I4 := show Hid _ from i4
    clear h4 i4
    go_wp2_with fail
    refine (closes_any 7 H4.out (pn_ib pn_op rfl I4.out)).mono ?_
    rintro e w5 ⟨rfl, h5⟩
    have H5 := show Hid _ from h5
    clear h5
    have IM := show Hid _ from ((ib_op rfl (rb_cons I4.out (rb_cons ib_lv rb_nil))) : Ib X.L (.fl (.mt .param)) dk (clD 7 d4))
    obtain ⟨b6, e6⟩ : ∃ b, qn X.L (clD 7 d4) (wk 6 ⟨#[59]⟩) = b := ⟨_, rfl⟩
    have HL6 : Hid (∀ V, Below w5.heap.size w5 V → Calls Tryz.prog 80 #[pt X.g, .string ⟨#[59]⟩] V fun e w' => e = .returned (.bool b6) ∧ Below V.heap.size V w') := fun V hb => by rw [← e6]; exact rsign_any (H5.out.below hb) _
    have E6 : Hid (qn X.L (clD 7 d4) (wk 6 ⟨#[59]⟩) = b6) := e6
    clear e6
    cases b6 with
    | true =>
      go_wp2_with fail
      refine (HL6.out _ (Below.refl _ _)).mono ?_
      rintro e w6 ⟨rfl, hb6⟩
      have HB6 : Hid (Below w5.heap.size w5 w6) := hb6
      clear hb6
      have H7 := show Hid _ from H5.out.below HB6.out
      go_wp2_with fail
      refine (rtakeSign_any H7.out (by omega) ⟨#[59]⟩).mono ?_
      rintro e w8 ⟨rfl, h8⟩
      have H8 := show Hid _ from h8
      clear h8
      go_wp2_with fail
      exact ⟨⟨_, H8.out, HJ0.out.2.step IM.out (pick_row1 (qn_wd E6.out))⟩, by rw [ymW_is H8.out, ymW_is HJ0.out.1]; have m0 := HM.out; have m1 : ms X.L (opD 6 d) = ms X.L d := ms_op; have m2 := ms_tkI (L := X.L) (x := .wd 6 [⟨#[40]⟩]) (d := (opD 6 d)); have ml := HJ0.out.2.le; have m3 : ms X.L (opD 7 dk) = ms X.L dk := ms_op; have m4 := ms_ib I4.out; have m5 : ms X.L (clD 7 d4) = ms X.L d4 := ms_cl; have mv := ms_live E6.out; have m8 := ms_tkI (L := X.L) (x := .wd 6 [⟨#[59]⟩]) (d := (clD 7 d4)); omega⟩
    | false =>
      go_wp2_with fail
      refine (HL6.out _ (Below.refl _ _)).mono ?_
      rintro e w6 ⟨rfl, hb6⟩
      have HB6 : Hid (Below w5.heap.size w5 w6) := hb6
      clear hb6
      have H9 := show Hid _ from H5.out.below HB6.out
      go_wp2_with fail
      refine (rtakeSign_any H9.out (by omega) ⟨#[41]⟩).mono ?_
      rintro e w10 ⟨rfl, h10⟩
      have H10 := show Hid _ from h10
      clear h10
      go_wp2_with fail
      refine (closes_any 6 H10.out (pn_tk (pn_ib (HJ0.out.2.pn (pn_tk pn_op)) rfl IM.out))).mono ?_
      rintro e w11 ⟨rfl, h11⟩
      have H11 := show Hid _ from h11
      clear h11
      go_wp2_with fail
      go_end0
      exact ⟨rfl, _, H11.out, ib_op rfl (rb_cons ib_w (yrb_app (a := [_, _]) (HJ0.out.2.fin IM.out (pick_row0 (qn_wd E6.out))) (rb_cons ib_w (rb_cons ib_lv rb_nil))))⟩
set_option maxHeartbeats 4194304 in
theorem record_ct (n : Nat) (C1 : CB .typed 109 60 n) : ∀ (X : Rx) (r : Nat) (d : D) (W : World), RD X r d W → r ≤ 80 → ms X.L d ≤ n → qn X.L d (wk 2 ⟨#[114, 101, 99, 111, 114, 100]⟩) = true → Calls Tryz.prog 111 #[pt X.g, .int .u8 10, .int .u8 11, .string ⟨#[101, 110, 100]⟩] W fun e w' => e = .returned (.tuple #[]) ∧ ∃ d', RD X 0 d' w' ∧ Ib X.L (.fl (.mt .kind)) d d' := by
  intro X r d W h hr hm hq
  have H0 : Hid (RD X r d W) := h
  have HM : Hid (ms X.L d ≤ n) := hm
  have HQ : Hid (qn X.L d (wk 2 ⟨#[114, 101, 99, 111, 114, 100]⟩) = true) := hq
  clear h hm hq
  go_enter Tryz.func111, Tryz.ntmps111
  go_wp2_with fail
  refine (opens_any H0.out (by omega) 10).mono ?_
  rintro e w1 ⟨rfl, h1⟩
  have H1 := show Hid _ from h1
  clear h1
  go_wp2_with fail
  refine (rtakeWord_any H1.out (by omega) ⟨#[114, 101, 99, 111, 114, 100]⟩).mono ?_
  rintro e w2 ⟨rfl, h2⟩
  have H2 := show Hid _ from h2
  clear h2
  go_wp2_with fail
  go_loopw [8] (fun _ wr => ∃ dk, Hid (RD X 0 dk wr ∧ Lq X.L (.fl (.mt .member)) (.row [.wd 6 [⟨#[59]⟩], .mt .member]) (tkI X.L (.wd 2 [⟨#[114, 101, 99, 111, 114, 100]⟩]) (opD 10 d)) dk)) (fun _ wr => ymW X wr)
  case atStart => exact ⟨_, H2.out, .refl⟩
  case round =>
    obtain ⟨dk, HJ0⟩ := hrel
    have HJ := show Hid _ from HJ0.out.1
    go_wp2_with fail
    refine (opens_any HJ.out (by omega) 11).mono ?_
    rintro e w3 ⟨rfl, h3⟩
    have H3 := show Hid _ from h3
    clear h3
    go_wp2_with fail
    refine (C1 (ms X.L (opD 11 dk)) (by have m0 := HM.out; have m1 : ms X.L (opD 10 d) = ms X.L d := ms_op; have m2 := ms_tkI (L := X.L) (x := .wd 2 [⟨#[114, 101, 99, 111, 114, 100]⟩]) (d := (opD 10 d)); have ml := HJ0.out.2.le; have m3 : ms X.L (opD 11 dk) = ms X.L dk := ms_op; omega) X _ _ _ H3.out (by omega) (Nat.le_refl _)).mono ?_
    rintro e w4 ⟨rfl, d4, h4, i4⟩
    have H4 := show Hid _ from h4
    have I4 := show Hid _ from i4
    clear h4 i4
    go_wp2_with fail
    refine (closes_any 11 H4.out (pn_ib pn_op rfl I4.out)).mono ?_
    rintro e w5 ⟨rfl, h5⟩
    have H5 := show Hid _ from h5
    clear h5
    have IM := show Hid _ from ((ib_op rfl (rb_cons I4.out (rb_cons ib_lv rb_nil))) : Ib X.L (.fl (.mt .member)) dk (clD 11 d4))
    obtain ⟨b6, e6⟩ : ∃ b, qn X.L (clD 11 d4) (wk 6 ⟨#[59]⟩) = b := ⟨_, rfl⟩
    have HL6 : Hid (∀ V, Below w5.heap.size w5 V → Calls Tryz.prog 80 #[pt X.g, .string ⟨#[59]⟩] V fun e w' => e = .returned (.bool b6) ∧ Below V.heap.size V w') := fun V hb => by rw [← e6]; exact rsign_any (H5.out.below hb) _
    have E6 : Hid (qn X.L (clD 11 d4) (wk 6 ⟨#[59]⟩) = b6) := e6
    clear e6
    cases b6 with
    | true =>
      go_wp2_with fail
      refine (HL6.out _ (Below.refl _ _)).mono ?_
      rintro e w6 ⟨rfl, hb6⟩
      have HB6 : Hid (Below w5.heap.size w5 w6) := hb6
      clear hb6
      have H7 := show Hid _ from H5.out.below HB6.out
      go_wp2_with fail
      refine (rtakeSign_any H7.out (by omega) ⟨#[59]⟩).mono ?_
      rintro e w8 ⟨rfl, h8⟩
      have H8 := show Hid _ from h8
      clear h8
      go_wp2_with fail
      exact ⟨⟨_, H8.out, HJ0.out.2.step IM.out (pick_row1 (qn_wd E6.out))⟩, by rw [ymW_is H8.out, ymW_is HJ0.out.1]; have m0 := HM.out; have m1 : ms X.L (opD 10 d) = ms X.L d := ms_op; have m2 := ms_tkI (L := X.L) (x := .wd 2 [⟨#[114, 101, 99, 111, 114, 100]⟩]) (d := (opD 10 d)); have ml := HJ0.out.2.le; have m3 : ms X.L (opD 11 dk) = ms X.L dk := ms_op; have m4 := ms_ib I4.out; have m5 : ms X.L (clD 11 d4) = ms X.L d4 := ms_cl; have mv := ms_live E6.out; have m8 := ms_tkI (L := X.L) (x := .wd 6 [⟨#[59]⟩]) (d := (clD 11 d4)); omega⟩
    | false =>
      go_wp2_with fail
      refine (HL6.out _ (Below.refl _ _)).mono ?_
      rintro e w6 ⟨rfl, hb6⟩
      have HB6 : Hid (Below w5.heap.size w5 w6) := hb6
      clear hb6
      have H9 := show Hid _ from H5.out.below HB6.out
      go_wp2_with fail
      refine (rtakeWord_any H9.out (by omega) ⟨#[101, 110, 100]⟩).mono ?_
      rintro e w10 ⟨rfl, h10⟩
      have H10 := show Hid _ from h10
      clear h10
      go_wp2_with fail
      refine (closes_any 10 H10.out (pn_tk (pn_ib (HJ0.out.2.pn (pn_tk pn_op)) rfl IM.out))).mono ?_
      rintro e w11 ⟨rfl, h11⟩
      have H11 := show Hid _ from h11
      clear h11
      go_wp2_with fail
      go_end0
      exact ⟨rfl, _, H11.out, ib_op ((drow_kind (array_no HQ.out) HQ.out).trans rfl) (rb_cons ib_w (yrb_app (a := [_, _]) (HJ0.out.2.fin IM.out (pick_row0 (qn_wd E6.out))) (rb_cons ib_w (rb_cons ib_lv rb_nil))))⟩
set_option maxHeartbeats 4194304 in
theorem kind_ct (n : Nat) (C1 : CA .expr 110 50 n) (C2 : CA .kind 112 60 n) (C3 : ∀ (X : Rx) (r : Nat) (d : D) (W : World), RD X r d W → r ≤ 80 → ms X.L d ≤ n → qn X.L d (wk 2 ⟨#[114, 101, 99, 111, 114, 100]⟩) = true → Calls Tryz.prog 111 #[pt X.g, .int .u8 10, .int .u8 11, .string ⟨#[101, 110, 100]⟩] W fun e w' => e = .returned (.tuple #[]) ∧ ∃ d', RD X 0 d' w' ∧ Ib X.L (.fl (.mt .kind)) d d') : CT .kind 112 60 n := by
  intro X r d W h hr hm
  have H0 : Hid (RD X r d W) := h
  have HM : Hid (ms X.L d ≤ n) := hm
  clear h hm
  go_enter Tryz.func112, Tryz.ntmps112
  obtain ⟨b1, e1⟩ : ∃ b, qn X.L d (wk 2 ⟨#[97, 114, 114, 97, 121]⟩) = b := ⟨_, rfl⟩
  have HL1 : Hid (∀ V, Below W.heap.size W V → Calls Tryz.prog 77 #[pt X.g, .string ⟨#[97, 114, 114, 97, 121]⟩] V fun e w' => e = .returned (.bool b1) ∧ Below V.heap.size V w') := fun V hb => by rw [← e1]; exact rword_any (H0.out.below hb) _
  have E1 : Hid (qn X.L d (wk 2 ⟨#[97, 114, 114, 97, 121]⟩) = b1) := e1
  clear e1
  obtain ⟨b2, e2⟩ : ∃ b, qn X.L d (wk 2 ⟨#[114, 101, 99, 111, 114, 100]⟩) = b := ⟨_, rfl⟩
  have HL2 : Hid (∀ V, Below W.heap.size W V → Calls Tryz.prog 77 #[pt X.g, .string ⟨#[114, 101, 99, 111, 114, 100]⟩] V fun e w' => e = .returned (.bool b2) ∧ Below V.heap.size V w') := fun V hb => by rw [← e2]; exact rword_any (H0.out.below hb) _
  have E2 : Hid (qn X.L d (wk 2 ⟨#[114, 101, 99, 111, 114, 100]⟩) = b2) := e2
  clear e2
  cases b1 with
  | true =>
    go_wp2_with fail
    refine (HL1.out _ (Below.refl _ _)).mono ?_
    rintro e w1 ⟨rfl, hb1⟩
    have HB1 : Hid (Below W.heap.size W w1) := hb1
    clear hb1
    go_wp2_with fail
    refine (HL2.out _ HB1.out).mono ?_
    rintro e w2 ⟨rfl, hb2⟩
    have HB2 : Hid (Below W.heap.size W w2) := HB1.out.trans (hb2.mono HB1.out.size)
    clear hb2
    have H3 := show Hid _ from H0.out.below HB2.out
    go_wp2_with fail
    refine (opens_any H3.out (by omega) 9).mono ?_
    rintro e w4 ⟨rfl, h4⟩
    have H4 := show Hid _ from h4
    clear h4
    go_wp2_with fail
    refine (rtakeWord_any H4.out (by omega) ⟨#[97, 114, 114, 97, 121]⟩).mono ?_
    rintro e w5 ⟨rfl, h5⟩
    have H5 := show Hid _ from h5
    clear h5
    go_wp2_with fail
    refine (rtakeSign_any H5.out (by omega) ⟨#[91]⟩).mono ?_
    rintro e w6 ⟨rfl, h6⟩
    have H6 := show Hid _ from h6
    clear h6
    go_wp2_with fail
    refine (C1 (ms X.L (tkI X.L (.wd 6 [⟨#[91]⟩]) (tkI X.L (.wd 2 [⟨#[97, 114, 114, 97, 121]⟩]) (opD 9 d)))) (by have m0 := HM.out; have mv := ms_live E1.out; have m4 : ms X.L (opD 9 d) = ms X.L d := ms_op; have m5 := ms_tkI (L := X.L) (x := .wd 2 [⟨#[97, 114, 114, 97, 121]⟩]) (d := (opD 9 d)); have m6 := ms_tkI (L := X.L) (x := .wd 6 [⟨#[91]⟩]) (d := (tkI X.L (.wd 2 [⟨#[97, 114, 114, 97, 121]⟩]) (opD 9 d))); omega) X _ _ _ H6.out (by omega) (Nat.le_refl _)).mono ?_
    rintro e w7 ⟨rfl, d7, h7, i7⟩
    have H7 := show Hid _ from h7
    have I7 := show Hid _ from i7
    clear h7 i7
    go_wp2_with fail
    refine (rtakeSign_any H7.out (by omega) ⟨#[46, 46]⟩).mono ?_
    rintro e w8 ⟨rfl, h8⟩
    have H8 := show Hid _ from h8
    clear h8
    go_wp2_with fail
    refine (C1 (ms X.L (tkI X.L (.wd 6 [⟨#[46, 46]⟩]) d7)) (by have m0 := HM.out; have mv := ms_live E1.out; have m4 : ms X.L (opD 9 d) = ms X.L d := ms_op; have m5 := ms_tkI (L := X.L) (x := .wd 2 [⟨#[97, 114, 114, 97, 121]⟩]) (d := (opD 9 d)); have m6 := ms_tkI (L := X.L) (x := .wd 6 [⟨#[91]⟩]) (d := (tkI X.L (.wd 2 [⟨#[97, 114, 114, 97, 121]⟩]) (opD 9 d))); have m7 := ms_ib I7.out; have m8 := ms_tkI (L := X.L) (x := .wd 6 [⟨#[46, 46]⟩]) (d := d7); omega) X _ _ _ H8.out (by omega) (Nat.le_refl _)).mono ?_
    rintro e w9 ⟨rfl, d9, h9, i9⟩
    have H9 := show Hid _ from h9
    have I9 := show Hid _ from i9
    clear h9 i9
    go_wp2_with fail
    refine (rtakeSign_any H9.out (by omega) ⟨#[93]⟩).mono ?_
    rintro e w10 ⟨rfl, h10⟩
    have H10 := show Hid _ from h10
    clear h10
    go_wp2_with fail
    refine (rtakeWord_any H10.out (by omega) ⟨#[111, 102]⟩).mono ?_
    rintro e w11 ⟨rfl, h11⟩
    have H11 := show Hid _ from h11
    clear h11
    go_wp2_with fail
    refine (C2 (ms X.L (tkI X.L (.wd 2 [⟨#[111, 102]⟩]) (tkI X.L (.wd 6 [⟨#[93]⟩]) d9))) (by have m0 := HM.out; have mv := ms_live E1.out; have m4 : ms X.L (opD 9 d) = ms X.L d := ms_op; have m5 := ms_tkI (L := X.L) (x := .wd 2 [⟨#[97, 114, 114, 97, 121]⟩]) (d := (opD 9 d)); have m6 := ms_tkI (L := X.L) (x := .wd 6 [⟨#[91]⟩]) (d := (tkI X.L (.wd 2 [⟨#[97, 114, 114, 97, 121]⟩]) (opD 9 d))); have m7 := ms_ib I7.out; have m8 := ms_tkI (L := X.L) (x := .wd 6 [⟨#[46, 46]⟩]) (d := d7); have m9 := ms_ib I9.out; have m10 := ms_tkI (L := X.L) (x := .wd 6 [⟨#[93]⟩]) (d := d9); have m11 := ms_tkI (L := X.L) (x := .wd 2 [⟨#[111, 102]⟩]) (d := (tkI X.L (.wd 6 [⟨#[93]⟩]) d9)); omega) X _ _ _ H11.out (by omega) (Nat.le_refl _)).mono ?_
    rintro e w12 ⟨rfl, d12, h12, i12⟩
    have H12 := show Hid _ from h12
    have I12 := show Hid _ from i12
    clear h12 i12
    go_wp2_with fail
    refine (closes_any 9 H12.out (pn_ib (pn_tk (pn_tk (pn_ib (pn_tk (pn_ib (pn_tk (pn_tk pn_op)) rfl I7.out)) rfl I9.out))) rfl I12.out)).mono ?_
    rintro e w13 ⟨rfl, h13⟩
    have H13 := show Hid _ from h13
    clear h13
    go_wp2_with fail
    refine bodyPost_ret (v := .tuple #[]) (by first | rfl | simp [results, Tryz.f112, go_sem]) rfl ?_
    exact ⟨rfl, _, H13.out, ib_op ((drow_kind E1.out E2.out).trans rfl) (rb_cons ib_w (rb_cons ib_w (rb_cons I7.out (rb_cons ib_w (rb_cons I9.out (rb_cons ib_w (rb_cons ib_w (rb_cons I12.out (rb_cons ib_lv rb_nil)))))))))⟩
  | false =>
    cases b2 with
    | true =>
      go_wp2_with fail
      refine (HL1.out _ (Below.refl _ _)).mono ?_
      rintro e w1 ⟨rfl, hb1⟩
      have HB1 : Hid (Below W.heap.size W w1) := hb1
      clear hb1
      go_wp2_with fail
      refine (HL2.out _ HB1.out).mono ?_
      rintro e w2 ⟨rfl, hb2⟩
      have HB2 : Hid (Below W.heap.size W w2) := HB1.out.trans (hb2.mono HB1.out.size)
      clear hb2
      have H14 := show Hid _ from H0.out.below HB2.out
      go_wp2_with fail
      refine (C3 X _ _ _ H14.out (by omega) (by have m0 := HM.out; omega) E2.out).mono ?_
      rintro e w15 ⟨rfl, d15, h15, i15⟩
      have H15 := show Hid _ from h15
      have I15 := show Hid _ from i15
      clear h15 i15
      go_wp2_with fail
      refine bodyPost_ret (v := .tuple #[]) (by first | rfl | simp [results, Tryz.f112, go_sem]) rfl ?_
      exact ⟨rfl, _, H15.out, I15.out⟩
    | false =>
      go_wp2_with fail
      refine (HL1.out _ (Below.refl _ _)).mono ?_
      rintro e w1 ⟨rfl, hb1⟩
      have HB1 : Hid (Below W.heap.size W w1) := hb1
      clear hb1
      go_wp2_with fail
      refine (HL2.out _ HB1.out).mono ?_
      rintro e w2 ⟨rfl, hb2⟩
      have HB2 : Hid (Below W.heap.size W w2) := HB1.out.trans (hb2.mono HB1.out.size)
      clear hb2
      have H16 := show Hid _ from H0.out.below HB2.out
      go_wp2_with fail
      refine (opens_any H16.out (by omega) 8).mono ?_
      rintro e w17 ⟨rfl, h17⟩
      have H17 := show Hid _ from h17
      clear h17
      go_wp2_with fail
      refine (rtakeName_any H17.out (by omega)).mono ?_
      rintro e w18 ⟨rfl, h18⟩
      have H18 := show Hid _ from h18
      clear h18
      go_wp2_with fail
      refine (closes_any 8 H18.out (pn_tk pn_op)).mono ?_
      rintro e w19 ⟨rfl, h19⟩
      have H19 := show Hid _ from h19
      clear h19
      go_wp2_with fail
      go_end0
      exact ⟨rfl, _, H19.out, ib_op ((drow_kind E1.out E2.out).trans rfl) (rb_cons ib_n (rb_cons ib_lv rb_nil))⟩
set_option maxHeartbeats 4194304 in
theorem block_ct (n : Nat) (C1 : 0 < n → CT .variables 81 40 n) (C2 : 0 < n → CT .constants 82 40 n) (C3 : 0 < n → CT .procedure 83 40 n) (C4 : CB .body 84 60 n) : CT .block 59 30 n := by
  intro X r d W h hr hm
  have H0 : Hid (RD X r d W) := h
  have HM : Hid (ms X.L d ≤ n) := hm
  clear h hm
  go_enter Tryz.func59, Tryz.ntmps59
  go_wp2_with fail
  refine (opens_any H0.out (by omega) 2).mono ?_
  rintro e w1 ⟨rfl, h1⟩
  have H1 := show Hid _ from h1
  clear h1
  go_wp2_with fail
  go_loopw [2, 3, 4] (fun _ _ _ wr => ∃ dk, Hid (RD X 31 dk wr ∧ Lp X.L (.fn .declaration) (opD 2 d) dk)) (fun _ _ _ wr => ymW X wr)
  case atStart => exact ⟨_, H1.out.up (by omega), .refl⟩
  case round =>
    obtain ⟨dk, HJ⟩ := hrel
    obtain ⟨b2, e2⟩ : ∃ b, qn X.L dk (wk 2 ⟨#[118, 97, 114]⟩) = b := ⟨_, rfl⟩
    have HL2 : Hid (∀ V, Below wr.heap.size wr V → Calls Tryz.prog 77 #[pt X.g, .string ⟨#[118, 97, 114]⟩] V fun e w' => e = .returned (.bool b2) ∧ Below V.heap.size V w') := fun V hb => by rw [← e2]; exact rword_any (HJ.out.1.below hb) _
    have E2 : Hid (qn X.L dk (wk 2 ⟨#[118, 97, 114]⟩) = b2) := e2
    clear e2
    obtain ⟨b3, e3⟩ : ∃ b, qn X.L dk (wk 2 ⟨#[99, 111, 110, 115, 116]⟩) = b := ⟨_, rfl⟩
    have HL3 : Hid (∀ V, Below wr.heap.size wr V → Calls Tryz.prog 77 #[pt X.g, .string ⟨#[99, 111, 110, 115, 116]⟩] V fun e w' => e = .returned (.bool b3) ∧ Below V.heap.size V w') := fun V hb => by rw [← e3]; exact rword_any (HJ.out.1.below hb) _
    have E3 : Hid (qn X.L dk (wk 2 ⟨#[99, 111, 110, 115, 116]⟩) = b3) := e3
    clear e3
    obtain ⟨b4, e4⟩ : ∃ b, qn X.L dk (wk 2 ⟨#[112, 114, 111, 99]⟩) = b := ⟨_, rfl⟩
    have HL4 : Hid (∀ V, Below wr.heap.size wr V → Calls Tryz.prog 77 #[pt X.g, .string ⟨#[112, 114, 111, 99]⟩] V fun e w' => e = .returned (.bool b4) ∧ Below V.heap.size V w') := fun V hb => by rw [← e4]; exact rword_any (HJ.out.1.below hb) _
    have E4 : Hid (qn X.L dk (wk 2 ⟨#[112, 114, 111, 99]⟩) = b4) := e4
    clear e4
    cases b2 with
    | true =>
      go_wp2_with fail
      refine (HL2.out _ (Below.refl _ _)).mono ?_
      rintro e w2 ⟨rfl, hb2⟩
      have HB2 : Hid (Below wr.heap.size wr w2) := hb2
      clear hb2
      go_wp2_with fail
      refine (HL3.out _ HB2.out).mono ?_
      rintro e w3 ⟨rfl, hb3⟩
      have HB3 : Hid (Below wr.heap.size wr w3) := HB2.out.trans (hb3.mono HB2.out.size)
      clear hb3
      go_wp2_with fail
      refine (HL4.out _ HB3.out).mono ?_
      rintro e w4 ⟨rfl, hb4⟩
      have HB4 : Hid (Below wr.heap.size wr w4) := HB3.out.trans (hb4.mono HB3.out.size)
      clear hb4
      have H5 := show Hid _ from HJ.out.1.below HB4.out
      go_wp2_with fail
      refine ((C1 (by have m0 := HM.out; have m1 : ms X.L (opD 2 d) = ms X.L d := ms_op; have ml := HJ.out.2.le; have mv := ms_live E2.out; omega)) X _ _ _ H5.out (by omega) (by have m0 := HM.out; have m1 : ms X.L (opD 2 d) = ms X.L d := ms_op; have ml := HJ.out.2.le; have mv := ms_live E2.out; omega)).mono ?_
      rintro e w6 ⟨rfl, d6, h6, i6⟩
      have H6 := show Hid _ from h6
      have I6 := show Hid _ from i6
      clear h6 i6
      go_wp2_with fail
      exact ⟨⟨_, H6.out.up (by omega), HJ.out.2.step ((pick_decl E2.out E3.out E4.out).trans rfl) I6.out⟩, by rw [ymW_is H6.out, ymW_is HJ.out.1]; have m0 := HM.out; have m1 : ms X.L (opD 2 d) = ms X.L d := ms_op; have ml := HJ.out.2.le; have mv := ms_live E2.out; have m6 := ms_ib I6.out; have mx := ib_less (m := .variables) rfl ne_wd I6.out mv; omega⟩
    | false =>
      cases b3 with
      | true =>
        go_wp2_with fail
        refine (HL2.out _ (Below.refl _ _)).mono ?_
        rintro e w2 ⟨rfl, hb2⟩
        have HB2 : Hid (Below wr.heap.size wr w2) := hb2
        clear hb2
        go_wp2_with fail
        refine (HL3.out _ HB2.out).mono ?_
        rintro e w3 ⟨rfl, hb3⟩
        have HB3 : Hid (Below wr.heap.size wr w3) := HB2.out.trans (hb3.mono HB2.out.size)
        clear hb3
        go_wp2_with fail
        refine (HL4.out _ HB3.out).mono ?_
        rintro e w4 ⟨rfl, hb4⟩
        have HB4 : Hid (Below wr.heap.size wr w4) := HB3.out.trans (hb4.mono HB3.out.size)
        clear hb4
        have H7 := show Hid _ from HJ.out.1.below HB4.out
        go_wp2_with fail
        refine ((C2 (by have m0 := HM.out; have m1 : ms X.L (opD 2 d) = ms X.L d := ms_op; have ml := HJ.out.2.le; have mv := ms_live E3.out; omega)) X _ _ _ H7.out (by omega) (by have m0 := HM.out; have m1 : ms X.L (opD 2 d) = ms X.L d := ms_op; have ml := HJ.out.2.le; have mv := ms_live E3.out; omega)).mono ?_
        rintro e w8 ⟨rfl, d8, h8, i8⟩
        have H8 := show Hid _ from h8
        have I8 := show Hid _ from i8
        clear h8 i8
        go_wp2_with fail
        exact ⟨⟨_, H8.out.up (by omega), HJ.out.2.step ((pick_decl E2.out E3.out E4.out).trans rfl) I8.out⟩, by rw [ymW_is H8.out, ymW_is HJ.out.1]; have m0 := HM.out; have m1 : ms X.L (opD 2 d) = ms X.L d := ms_op; have ml := HJ.out.2.le; have mv := ms_live E3.out; have m8 := ms_ib I8.out; have mx := ib_less (m := .constants) rfl ne_wd I8.out mv; omega⟩
      | false =>
        cases b4 with
        | true =>
          go_wp2_with fail
          refine (HL2.out _ (Below.refl _ _)).mono ?_
          rintro e w2 ⟨rfl, hb2⟩
          have HB2 : Hid (Below wr.heap.size wr w2) := hb2
          clear hb2
          go_wp2_with fail
          refine (HL3.out _ HB2.out).mono ?_
          rintro e w3 ⟨rfl, hb3⟩
          have HB3 : Hid (Below wr.heap.size wr w3) := HB2.out.trans (hb3.mono HB2.out.size)
          clear hb3
          go_wp2_with fail
          refine (HL4.out _ HB3.out).mono ?_
          rintro e w4 ⟨rfl, hb4⟩
          have HB4 : Hid (Below wr.heap.size wr w4) := HB3.out.trans (hb4.mono HB3.out.size)
          clear hb4
          have H9 := show Hid _ from HJ.out.1.below HB4.out
          go_wp2_with fail
          refine ((C3 (by have m0 := HM.out; have m1 : ms X.L (opD 2 d) = ms X.L d := ms_op; have ml := HJ.out.2.le; have mv := ms_live E4.out; omega)) X _ _ _ H9.out (by omega) (by have m0 := HM.out; have m1 : ms X.L (opD 2 d) = ms X.L d := ms_op; have ml := HJ.out.2.le; have mv := ms_live E4.out; omega)).mono ?_
          rintro e w10 ⟨rfl, d10, h10, i10⟩
          have H10 := show Hid _ from h10
          have I10 := show Hid _ from i10
          clear h10 i10
          go_wp2_with fail
          exact ⟨⟨_, H10.out.up (by omega), HJ.out.2.step ((pick_decl E2.out E3.out E4.out).trans rfl) I10.out⟩, by rw [ymW_is H10.out, ymW_is HJ.out.1]; have m0 := HM.out; have m1 : ms X.L (opD 2 d) = ms X.L d := ms_op; have ml := HJ.out.2.le; have mv := ms_live E4.out; have m10 := ms_ib I10.out; have mx := ib_less (m := .procedure) rfl ne_wd I10.out mv; omega⟩
        | false =>
          go_wp2_with fail
          refine (HL2.out _ (Below.refl _ _)).mono ?_
          rintro e w2 ⟨rfl, hb2⟩
          have HB2 : Hid (Below wr.heap.size wr w2) := hb2
          clear hb2
          go_wp2_with fail
          refine (HL3.out _ HB2.out).mono ?_
          rintro e w3 ⟨rfl, hb3⟩
          have HB3 : Hid (Below wr.heap.size wr w3) := HB2.out.trans (hb3.mono HB2.out.size)
          clear hb3
          go_wp2_with fail
          refine (HL4.out _ HB3.out).mono ?_
          rintro e w4 ⟨rfl, hb4⟩
          have HB4 : Hid (Below wr.heap.size wr w4) := HB3.out.trans (hb4.mono HB3.out.size)
          clear hb4
          have H11 := show Hid _ from HJ.out.1.below HB4.out
          go_wp2_with fail
          refine (rtakeWord_any H11.out (by omega) ⟨#[98, 101, 103, 105, 110]⟩).mono ?_
          rintro e w12 ⟨rfl, h12⟩
          have H12 := show Hid _ from h12
          clear h12
          go_wp2_with fail
          refine (C4 (ms X.L (tkI X.L (.wd 2 [⟨#[98, 101, 103, 105, 110]⟩]) dk)) (by have m0 := HM.out; have m1 : ms X.L (opD 2 d) = ms X.L d := ms_op; have ml := HJ.out.2.le; have m12 := ms_tkI (L := X.L) (x := .wd 2 [⟨#[98, 101, 103, 105, 110]⟩]) (d := dk); omega) X _ _ _ H12.out (by omega) (Nat.le_refl _)).mono ?_
          rintro e w13 ⟨rfl, d13, h13, i13⟩
          have H13 := show Hid _ from h13
          have I13 := show Hid _ from i13
          clear h13 i13
          go_wp2_with fail
          refine (rtakeWord_any H13.out (by omega) ⟨#[101, 110, 100]⟩).mono ?_
          rintro e w14 ⟨rfl, h14⟩
          have H14 := show Hid _ from h14
          clear h14
          go_wp2_with fail
          refine (closes_any 2 H14.out (pn_tk (pn_ib (pn_tk (HJ.out.2.pn pn_op)) rfl I13.out))).mono ?_
          rintro e w15 ⟨rfl, h15⟩
          have H15 := show Hid _ from h15
          clear h15
          go_wp2_with fail
          go_end0
          exact ⟨rfl, _, H15.out, ib_op rfl (rb_cons (HJ.out.2.fin ((pick_decl E2.out E3.out E4.out).trans rfl)) (rb_cons ib_w (rb_cons I13.out (rb_cons ib_w (rb_cons ib_lv rb_nil)))))⟩
set_option maxHeartbeats 4194304 in
theorem procedure_ct (n : Nat) (C1 : ∀ k, k < n → ∀ (X : Rx) (r : Nat) (d : D) (W : World), RD X r d W → r ≤ 80 → ms X.L d ≤ k → Calls Tryz.prog 111 #[pt X.g, .int .u8 6, .int .u8 7, .string ⟨#[41]⟩] W fun e w' => e = .returned (.tuple #[]) ∧ ∃ d', RD X 0 d' w' ∧ Ib X.L (.fl (.mt .params)) d d') (C2 : CA .kind 112 60 n) (C3 : CB .block 59 30 n) : CT .procedure 83 40 n := by
  intro X r d W h hr hm
  have H0 : Hid (RD X r d W) := h
  have HM : Hid (ms X.L d ≤ n) := hm
  clear h hm
  go_enter Tryz.func83, Tryz.ntmps83
  go_wp2_with fail
  refine (opens_any H0.out (by omega) 5).mono ?_
  rintro e w1 ⟨rfl, h1⟩
  have H1 := show Hid _ from h1
  clear h1
  go_wp2_with fail
  refine (rtakeWord_any H1.out (by omega) ⟨#[112, 114, 111, 99]⟩).mono ?_
  rintro e w2 ⟨rfl, h2⟩
  have H2 := show Hid _ from h2
  clear h2
  go_wp2_with fail
  refine (rtakeName_any H2.out (by omega)).mono ?_
  rintro e w3 ⟨rfl, h3⟩
  have H3 := show Hid _ from h3
  clear h3
  obtain ⟨b4, e4⟩ : ∃ b, qn X.L (tkI X.L (.nm) (tkI X.L (.wd 2 [⟨#[112, 114, 111, 99]⟩]) (opD 5 d))) (wk 6 ⟨#[40]⟩) = b := ⟨_, rfl⟩
  have HL4 : Hid (∀ V, Below w3.heap.size w3 V → Calls Tryz.prog 80 #[pt X.g, .string ⟨#[40]⟩] V fun e w' => e = .returned (.bool b4) ∧ Below V.heap.size V w') := fun V hb => by rw [← e4]; exact rsign_any (H3.out.below hb) _
  have E4 : Hid (qn X.L (tkI X.L (.nm) (tkI X.L (.wd 2 [⟨#[112, 114, 111, 99]⟩]) (opD 5 d))) (wk 6 ⟨#[40]⟩) = b4) := e4
  clear e4
  cases b4 with
  | true =>
    go_wp2_with fail
    refine (HL4.out _ (Below.refl _ _)).mono ?_
    rintro e w4 ⟨rfl, hb4⟩
    have HB4 : Hid (Below w3.heap.size w3 w4) := hb4
    clear hb4
    have H5 := show Hid _ from H3.out.below HB4.out
    go_wp2_with fail
    refine (C1 (ms X.L (tkI X.L (.nm) (tkI X.L (.wd 2 [⟨#[112, 114, 111, 99]⟩]) (opD 5 d)))) (by have m0 := HM.out; have m1 : ms X.L (opD 5 d) = ms X.L d := ms_op; have m2 := ms_tkI (L := X.L) (x := .wd 2 [⟨#[112, 114, 111, 99]⟩]) (d := (opD 5 d)); have m3 := ms_tkI (L := X.L) (x := .nm) (d := (tkI X.L (.wd 2 [⟨#[112, 114, 111, 99]⟩]) (opD 5 d))); have mv := ms_live E4.out; omega) X _ _ _ H5.out (by omega) (Nat.le_refl _)).mono ?_
    rintro e w6 ⟨rfl, d6, h6, i6⟩
    have H6 := show Hid _ from h6
    have I6 := show Hid _ from i6
    clear h6 i6
    obtain ⟨b7, e7⟩ : ∃ b, qn X.L d6 (wk 6 ⟨#[58]⟩) = b := ⟨_, rfl⟩
    have HL7 : Hid (∀ V, Below w6.heap.size w6 V → Calls Tryz.prog 80 #[pt X.g, .string ⟨#[58]⟩] V fun e w' => e = .returned (.bool b7) ∧ Below V.heap.size V w') := fun V hb => by rw [← e7]; exact rsign_any (H6.out.below hb) _
    have E7 : Hid (qn X.L d6 (wk 6 ⟨#[58]⟩) = b7) := e7
    clear e7
    cases b7 with
    | true =>
      go_wp2_with fail
      refine (HL7.out _ (Below.refl _ _)).mono ?_
      rintro e w7 ⟨rfl, hb7⟩
      have HB7 : Hid (Below w6.heap.size w6 w7) := hb7
      clear hb7
      have H8 := show Hid _ from H6.out.below HB7.out
      go_wp2_with fail
      refine (rtakeSign_any H8.out (by omega) ⟨#[58]⟩).mono ?_
      rintro e w9 ⟨rfl, h9⟩
      have H9 := show Hid _ from h9
      clear h9
      go_wp2_with fail
      refine (C2 (ms X.L (tkI X.L (.wd 6 [⟨#[58]⟩]) d6)) (by have m0 := HM.out; have m1 : ms X.L (opD 5 d) = ms X.L d := ms_op; have m2 := ms_tkI (L := X.L) (x := .wd 2 [⟨#[112, 114, 111, 99]⟩]) (d := (opD 5 d)); have m3 := ms_tkI (L := X.L) (x := .nm) (d := (tkI X.L (.wd 2 [⟨#[112, 114, 111, 99]⟩]) (opD 5 d))); have mv := ms_live E4.out; have m6 := ms_ib I6.out; have mv7 := ms_live E7.out; have m9 := ms_tkI (L := X.L) (x := .wd 6 [⟨#[58]⟩]) (d := d6); omega) X _ _ _ H9.out (by omega) (Nat.le_refl _)).mono ?_
      rintro e w10 ⟨rfl, d10, h10, i10⟩
      have H10 := show Hid _ from h10
      have I10 := show Hid _ from i10
      clear h10 i10
      go_wp2_with fail
      refine (rtakeSign_any H10.out (by omega) ⟨#[59]⟩).mono ?_
      rintro e w11 ⟨rfl, h11⟩
      have H11 := show Hid _ from h11
      clear h11
      go_wp2_with fail
      refine (C3 (ms X.L (tkI X.L (.wd 6 [⟨#[59]⟩]) d10)) (by have m0 := HM.out; have m1 : ms X.L (opD 5 d) = ms X.L d := ms_op; have m2 := ms_tkI (L := X.L) (x := .wd 2 [⟨#[112, 114, 111, 99]⟩]) (d := (opD 5 d)); have m3 := ms_tkI (L := X.L) (x := .nm) (d := (tkI X.L (.wd 2 [⟨#[112, 114, 111, 99]⟩]) (opD 5 d))); have mv := ms_live E4.out; have m6 := ms_ib I6.out; have mv7 := ms_live E7.out; have m9 := ms_tkI (L := X.L) (x := .wd 6 [⟨#[58]⟩]) (d := d6); have m10 := ms_ib I10.out; have m11 := ms_tkI (L := X.L) (x := .wd 6 [⟨#[59]⟩]) (d := d10); omega) X _ _ _ H11.out (by omega) (Nat.le_refl _)).mono ?_
      rintro e w12 ⟨rfl, d12, h12, i12⟩
      have H12 := show Hid _ from h12
      have I12 := show Hid _ from i12
      clear h12 i12
      go_wp2_with fail
      refine (rtakeSign_any H12.out (by omega) ⟨#[59]⟩).mono ?_
      rintro e w13 ⟨rfl, h13⟩
      have H13 := show Hid _ from h13
      clear h13
      go_wp2_with fail
      refine (closes_any 5 H13.out (pn_tk (pn_ib (pn_tk (pn_ib (pn_tk (pn_ib (pn_tk (pn_tk pn_op)) rfl I6.out)) rfl I10.out)) rfl I12.out))).mono ?_
      rintro e w14 ⟨rfl, h14⟩
      have H14 := show Hid _ from h14
      clear h14
      go_wp2_with fail
      go_end0
      exact ⟨rfl, _, H14.out, ib_op rfl (rb_cons ib_w (rb_cons ib_n (rb_cons (ib_once1 (pick_br E4.out) I6.out) (rb_cons (ib_once1 (pick_row1 (qn_wd E7.out)) (ib_all (rb_cons ib_w (rb_cons I10.out rb_nil)))) (rb_cons ib_w (rb_cons I12.out (rb_cons ib_w (rb_cons ib_lv rb_nil))))))))⟩
    | false =>
      go_wp2_with fail
      refine (HL7.out _ (Below.refl _ _)).mono ?_
      rintro e w7 ⟨rfl, hb7⟩
      have HB7 : Hid (Below w6.heap.size w6 w7) := hb7
      clear hb7
      have H15 := show Hid _ from H6.out.below HB7.out
      go_wp2_with fail
      refine (rtakeSign_any H15.out (by omega) ⟨#[59]⟩).mono ?_
      rintro e w16 ⟨rfl, h16⟩
      have H16 := show Hid _ from h16
      clear h16
      go_wp2_with fail
      refine (C3 (ms X.L (tkI X.L (.wd 6 [⟨#[59]⟩]) d6)) (by have m0 := HM.out; have m1 : ms X.L (opD 5 d) = ms X.L d := ms_op; have m2 := ms_tkI (L := X.L) (x := .wd 2 [⟨#[112, 114, 111, 99]⟩]) (d := (opD 5 d)); have m3 := ms_tkI (L := X.L) (x := .nm) (d := (tkI X.L (.wd 2 [⟨#[112, 114, 111, 99]⟩]) (opD 5 d))); have mv := ms_live E4.out; have m6 := ms_ib I6.out; have m16 := ms_tkI (L := X.L) (x := .wd 6 [⟨#[59]⟩]) (d := d6); omega) X _ _ _ H16.out (by omega) (Nat.le_refl _)).mono ?_
      rintro e w17 ⟨rfl, d17, h17, i17⟩
      have H17 := show Hid _ from h17
      have I17 := show Hid _ from i17
      clear h17 i17
      go_wp2_with fail
      refine (rtakeSign_any H17.out (by omega) ⟨#[59]⟩).mono ?_
      rintro e w18 ⟨rfl, h18⟩
      have H18 := show Hid _ from h18
      clear h18
      go_wp2_with fail
      refine (closes_any 5 H18.out (pn_tk (pn_ib (pn_tk (pn_ib (pn_tk (pn_tk pn_op)) rfl I6.out)) rfl I17.out))).mono ?_
      rintro e w19 ⟨rfl, h19⟩
      have H19 := show Hid _ from h19
      clear h19
      go_wp2_with fail
      go_end0
      exact ⟨rfl, _, H19.out, ib_op rfl (rb_cons ib_w (rb_cons ib_n (rb_cons (ib_once1 (pick_br E4.out) I6.out) (rb_cons (ib_once0 (pick_row0 (qn_wd E7.out))) (rb_cons ib_w (rb_cons I17.out (rb_cons ib_w (rb_cons ib_lv rb_nil))))))))⟩
  | false =>
    go_wp2_with fail
    refine (HL4.out _ (Below.refl _ _)).mono ?_
    rintro e w4 ⟨rfl, hb4⟩
    have HB4 : Hid (Below w3.heap.size w3 w4) := hb4
    clear hb4
    have H20 := show Hid _ from H3.out.below HB4.out
    obtain ⟨b21, e21⟩ : ∃ b, qn X.L (tkI X.L (.nm) (tkI X.L (.wd 2 [⟨#[112, 114, 111, 99]⟩]) (opD 5 d))) (wk 6 ⟨#[58]⟩) = b := ⟨_, rfl⟩
    have HL21 : Hid (∀ V, Below w4.heap.size w4 V → Calls Tryz.prog 80 #[pt X.g, .string ⟨#[58]⟩] V fun e w' => e = .returned (.bool b21) ∧ Below V.heap.size V w') := fun V hb => by rw [← e21]; exact rsign_any (H20.out.below hb) _
    have E21 : Hid (qn X.L (tkI X.L (.nm) (tkI X.L (.wd 2 [⟨#[112, 114, 111, 99]⟩]) (opD 5 d))) (wk 6 ⟨#[58]⟩) = b21) := e21
    clear e21
    cases b21 with
    | true =>
      go_wp2_with fail
      refine (HL21.out _ (Below.refl _ _)).mono ?_
      rintro e w21 ⟨rfl, hb21⟩
      have HB21 : Hid (Below w4.heap.size w4 w21) := hb21
      clear hb21
      have H22 := show Hid _ from H20.out.below HB21.out
      go_wp2_with fail
      refine (rtakeSign_any H22.out (by omega) ⟨#[58]⟩).mono ?_
      rintro e w23 ⟨rfl, h23⟩
      have H23 := show Hid _ from h23
      clear h23
      go_wp2_with fail
      refine (C2 (ms X.L (tkI X.L (.wd 6 [⟨#[58]⟩]) (tkI X.L (.nm) (tkI X.L (.wd 2 [⟨#[112, 114, 111, 99]⟩]) (opD 5 d))))) (by have m0 := HM.out; have m1 : ms X.L (opD 5 d) = ms X.L d := ms_op; have m2 := ms_tkI (L := X.L) (x := .wd 2 [⟨#[112, 114, 111, 99]⟩]) (d := (opD 5 d)); have m3 := ms_tkI (L := X.L) (x := .nm) (d := (tkI X.L (.wd 2 [⟨#[112, 114, 111, 99]⟩]) (opD 5 d))); have mv21 := ms_live E21.out; have m23 := ms_tkI (L := X.L) (x := .wd 6 [⟨#[58]⟩]) (d := (tkI X.L (.nm) (tkI X.L (.wd 2 [⟨#[112, 114, 111, 99]⟩]) (opD 5 d)))); omega) X _ _ _ H23.out (by omega) (Nat.le_refl _)).mono ?_
      rintro e w24 ⟨rfl, d24, h24, i24⟩
      have H24 := show Hid _ from h24
      have I24 := show Hid _ from i24
      clear h24 i24
      go_wp2_with fail
      refine (rtakeSign_any H24.out (by omega) ⟨#[59]⟩).mono ?_
      rintro e w25 ⟨rfl, h25⟩
      have H25 := show Hid _ from h25
      clear h25
      go_wp2_with fail
      refine (C3 (ms X.L (tkI X.L (.wd 6 [⟨#[59]⟩]) d24)) (by have m0 := HM.out; have m1 : ms X.L (opD 5 d) = ms X.L d := ms_op; have m2 := ms_tkI (L := X.L) (x := .wd 2 [⟨#[112, 114, 111, 99]⟩]) (d := (opD 5 d)); have m3 := ms_tkI (L := X.L) (x := .nm) (d := (tkI X.L (.wd 2 [⟨#[112, 114, 111, 99]⟩]) (opD 5 d))); have mv21 := ms_live E21.out; have m23 := ms_tkI (L := X.L) (x := .wd 6 [⟨#[58]⟩]) (d := (tkI X.L (.nm) (tkI X.L (.wd 2 [⟨#[112, 114, 111, 99]⟩]) (opD 5 d)))); have m24 := ms_ib I24.out; have m25 := ms_tkI (L := X.L) (x := .wd 6 [⟨#[59]⟩]) (d := d24); omega) X _ _ _ H25.out (by omega) (Nat.le_refl _)).mono ?_
      rintro e w26 ⟨rfl, d26, h26, i26⟩
      have H26 := show Hid _ from h26
      have I26 := show Hid _ from i26
      clear h26 i26
      go_wp2_with fail
      refine (rtakeSign_any H26.out (by omega) ⟨#[59]⟩).mono ?_
      rintro e w27 ⟨rfl, h27⟩
      have H27 := show Hid _ from h27
      clear h27
      go_wp2_with fail
      refine (closes_any 5 H27.out (pn_tk (pn_ib (pn_tk (pn_ib (pn_tk (pn_tk (pn_tk pn_op))) rfl I24.out)) rfl I26.out))).mono ?_
      rintro e w28 ⟨rfl, h28⟩
      have H28 := show Hid _ from h28
      clear h28
      go_wp2_with fail
      go_end0
      exact ⟨rfl, _, H28.out, ib_op rfl (rb_cons ib_w (rb_cons ib_n (rb_cons (ib_once0 (pick_br E4.out)) (rb_cons (ib_once1 (pick_row1 (qn_wd E21.out)) (ib_all (rb_cons ib_w (rb_cons I24.out rb_nil)))) (rb_cons ib_w (rb_cons I26.out (rb_cons ib_w (rb_cons ib_lv rb_nil))))))))⟩
    | false =>
      go_wp2_with fail
      refine (HL21.out _ (Below.refl _ _)).mono ?_
      rintro e w21 ⟨rfl, hb21⟩
      have HB21 : Hid (Below w4.heap.size w4 w21) := hb21
      clear hb21
      have H29 := show Hid _ from H20.out.below HB21.out
      go_wp2_with fail
      refine (rtakeSign_any H29.out (by omega) ⟨#[59]⟩).mono ?_
      rintro e w30 ⟨rfl, h30⟩
      have H30 := show Hid _ from h30
      clear h30
      go_wp2_with fail
      refine (C3 (ms X.L (tkI X.L (.wd 6 [⟨#[59]⟩]) (tkI X.L (.nm) (tkI X.L (.wd 2 [⟨#[112, 114, 111, 99]⟩]) (opD 5 d))))) (by have m0 := HM.out; have m1 : ms X.L (opD 5 d) = ms X.L d := ms_op; have m2 := ms_tkI (L := X.L) (x := .wd 2 [⟨#[112, 114, 111, 99]⟩]) (d := (opD 5 d)); have m3 := ms_tkI (L := X.L) (x := .nm) (d := (tkI X.L (.wd 2 [⟨#[112, 114, 111, 99]⟩]) (opD 5 d))); have m30 := ms_tkI (L := X.L) (x := .wd 6 [⟨#[59]⟩]) (d := (tkI X.L (.nm) (tkI X.L (.wd 2 [⟨#[112, 114, 111, 99]⟩]) (opD 5 d)))); omega) X _ _ _ H30.out (by omega) (Nat.le_refl _)).mono ?_
      rintro e w31 ⟨rfl, d31, h31, i31⟩
      have H31 := show Hid _ from h31
      have I31 := show Hid _ from i31
      clear h31 i31
      go_wp2_with fail
      refine (rtakeSign_any H31.out (by omega) ⟨#[59]⟩).mono ?_
      rintro e w32 ⟨rfl, h32⟩
      have H32 := show Hid _ from h32
      clear h32
      go_wp2_with fail
      refine (closes_any 5 H32.out (pn_tk (pn_ib (pn_tk (pn_tk (pn_tk pn_op))) rfl I31.out))).mono ?_
      rintro e w33 ⟨rfl, h33⟩
      have H33 := show Hid _ from h33
      clear h33
      go_wp2_with fail
      go_end0
      exact ⟨rfl, _, H33.out, ib_op rfl (rb_cons ib_w (rb_cons ib_n (rb_cons (ib_once0 (pick_br E4.out)) (rb_cons (ib_once0 (pick_row0 (qn_wd E21.out))) (rb_cons ib_w (rb_cons I31.out (rb_cons ib_w (rb_cons ib_lv rb_nil))))))))⟩
end Go.Proofs.YtkigadnkclkopaaGreat
