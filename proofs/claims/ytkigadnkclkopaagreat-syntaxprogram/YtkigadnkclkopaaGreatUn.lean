import Derived.Test.YtkigadnkclkopaaGreatU1
set_option linter.unusedVariables false
set_option linter.unusedSimpArgs false
namespace Go.Proofs.YtkigadnkclkopaaGreat
open Go.RowKit

set_option maxHeartbeats 4194304 in
theorem statement_ct (n : Nat) (C1 : CT .object 132 80 n) (C2 : CA .expr 110 50 n) (C3 : CA .body 84 60 n) (C4 : ∀ (X : Rx) (r : Nat) (d : D) (W : World), RD X r d W → r ≤ 70 → ms X.L d ≤ n → 0 < ms X.L d → drow (nxt X.L d) .statement = .op 15 [.fl (.wd 2 [⟨#[105, 102]⟩]), .fl (.mt .expr), .fl (.wd 2 [⟨#[116, 104, 101, 110]⟩]), .fl (.mt .body), .again (.row [.wd 2 [⟨#[101, 108, 105, 102]⟩], .mt .expr, .wd 2 [⟨#[116, 104, 101, 110]⟩], .mt .body]), .once (.row [.wd 2 [⟨#[101, 108, 115, 101]⟩], .mt .body]), .fl (.wd 2 [⟨#[101, 110, 100]⟩])] → Calls Tryz.prog 133 #[pt X.g] W fun e w' => e = .returned (.tuple #[]) ∧ ∃ d', RD X 0 d' w' ∧ Ib X.L (.fl (.mt .statement)) d d') : CT .statement 113 65 n := by
  intro X r d W h hr hm
  have H0 : Hid (RD X r d W) := h
  have HM : Hid (ms X.L d ≤ n) := hm
  clear h hm
  go_enter Tryz.func113, Tryz.ntmps113
  obtain ⟨b1, e1⟩ : ∃ b, qn X.L d (kd 1) = b := ⟨_, rfl⟩
  have HL1 : Hid (∀ V, Below W.heap.size W V → Calls Tryz.prog 79 #[pt X.g, .int .u8 1] V fun e w' => e = .returned (.bool b1) ∧ Below V.heap.size V w') := fun V hb => by rw [← e1]; exact rkind_any (H0.out.below hb) 1
  have E1 : Hid (qn X.L d (kd 1) = b1) := e1
  clear e1
  obtain ⟨b2, e2⟩ : ∃ b, qn X.L d (kd 2) = b := ⟨_, rfl⟩
  have HL2 : Hid (∀ V, Below W.heap.size W V → Calls Tryz.prog 79 #[pt X.g, .int .u8 2] V fun e w' => e = .returned (.bool b2) ∧ Below V.heap.size V w') := fun V hb => by rw [← e2]; exact rkind_any (H0.out.below hb) 2
  have E2 : Hid (qn X.L d (kd 2) = b2) := e2
  clear e2
  cases b1 with
  | true =>
    go_wp2_with fail
    refine (HL1.out _ (Below.refl _ _)).mono ?_
    rintro e w1 ⟨rfl, hb1⟩
    have HB1 : Hid (Below W.heap.size W w1) := hb1
    clear hb1
    have H3 := show Hid _ from H0.out.below HB1.out
    go_wp2_with fail
    refine (opens_any H3.out (by omega) 14).mono ?_
    rintro e w4 ⟨rfl, h4⟩
    have H4 := show Hid _ from h4
    clear h4
    go_wp2_with fail
    refine (C1 X _ _ _ H4.out (by omega) (by have m0 := HM.out; have mv := ms_live E1.out; have m4 : ms X.L (opD 14 d) = ms X.L d := ms_op; omega)).mono ?_
    rintro e w5 ⟨rfl, d5, h5, i5⟩
    have H5 := show Hid _ from h5
    have I5 := show Hid _ from i5
    clear h5 i5
    obtain ⟨b6, e6⟩ : ∃ b, qn X.L d5 (wk 6 ⟨#[58, 61]⟩) = b := ⟨_, rfl⟩
    have HL6 : Hid (∀ V, Below w5.heap.size w5 V → Calls Tryz.prog 80 #[pt X.g, .string ⟨#[58, 61]⟩] V fun e w' => e = .returned (.bool b6) ∧ Below V.heap.size V w') := fun V hb => by rw [← e6]; exact rsign_any (H5.out.below hb) _
    have E6 : Hid (qn X.L d5 (wk 6 ⟨#[58, 61]⟩) = b6) := e6
    clear e6
    cases b6 with
    | true =>
      go_wp2_with fail
      refine (HL6.out _ (Below.refl _ _)).mono ?_
      rintro e w6 ⟨rfl, hb6⟩
      have HB6 : Hid (Below w5.heap.size w5 w6) := hb6
      clear hb6
      have H7 := show Hid _ from H5.out.below HB6.out
      go_wp2_with fail
      refine (rtakeSign_any H7.out (by omega) ⟨#[58, 61]⟩).mono ?_
      rintro e w8 ⟨rfl, h8⟩
      have H8 := show Hid _ from h8
      clear h8
      go_wp2_with fail
      refine (C2 (ms X.L (tkI X.L (.wd 6 [⟨#[58, 61]⟩]) d5)) (by have m0 := HM.out; have mv := ms_live E1.out; have m4 : ms X.L (opD 14 d) = ms X.L d := ms_op; have m5 := ms_ib I5.out; have mw := ms_live E6.out; have m8 := ms_tkI (L := X.L) (x := .wd 6 [⟨#[58, 61]⟩]) (d := d5); omega) X _ _ _ H8.out (by omega) (Nat.le_refl _)).mono ?_
      rintro e w9 ⟨rfl, d9, h9, i9⟩
      have H9 := show Hid _ from h9
      have I9 := show Hid _ from i9
      clear h9 i9
      go_wp2_with fail
      refine (closes_any 14 H9.out (pn_ib (pn_tk (pn_ib pn_op rfl I5.out)) rfl I9.out)).mono ?_
      rintro e w10 ⟨rfl, h10⟩
      have H10 := show Hid _ from h10
      clear h10
      go_wp2_with fail
      refine bodyPost_ret (v := .tuple #[]) (by first | rfl | simp [results, Tryz.f113, go_sem]) rfl ?_
      exact ⟨rfl, _, H10.out, ib_op (drow_act E1.out) (rb_cons I5.out (rb_cons (ib_once1 (pick_row1 (qn_wd E6.out)) (ib_all (rb_cons ib_w (rb_cons I9.out rb_nil)))) (rb_cons ib_lv rb_nil)))⟩
    | false =>
      go_wp2_with fail
      refine (HL6.out _ (Below.refl _ _)).mono ?_
      rintro e w6 ⟨rfl, hb6⟩
      have HB6 : Hid (Below w5.heap.size w5 w6) := hb6
      clear hb6
      have H11 := show Hid _ from H5.out.below HB6.out
      go_wp2_with fail
      refine (closes_any 14 H11.out (pn_ib pn_op rfl I5.out)).mono ?_
      rintro e w12 ⟨rfl, h12⟩
      have H12 := show Hid _ from h12
      clear h12
      go_wp2_with fail
      refine bodyPost_ret (v := .tuple #[]) (by first | rfl | simp [results, Tryz.f113, go_sem]) rfl ?_
      exact ⟨rfl, _, H12.out, ib_op (drow_act E1.out) (rb_cons I5.out (rb_cons (ib_once0 (pick_row0 (qn_wd E6.out))) (rb_cons ib_lv rb_nil)))⟩
  | false =>
    cases b2 with
    | false =>
      go_wp2_with fail
      refine (HL1.out _ (Below.refl _ _)).mono ?_
      rintro e w1 ⟨rfl, hb1⟩
      have HB1 : Hid (Below W.heap.size W w1) := hb1
      clear hb1
      go_wp2_with fail
      refine (HL2.out _ HB1.out).mono ?_
      rintro e w2 ⟨rfl, hb2⟩
      have HB2 : Hid (Below W.heap.size W w2) := HB1.out.trans (hb2.mono HB1.out.size)
      clear hb2
      have H13 := show Hid _ from H0.out.below HB2.out
      go_wp2_with fail
      refine (wrong_any H13.out).mono ?_
      rintro e w14 ⟨rfl, h14⟩
      have H14 := show Hid _ from h14
      clear h14
      go_wp2_with fail
      refine bodyPost_ret (v := .tuple #[]) (by first | rfl | simp [results, Tryz.f113, go_sem]) rfl ?_
      exact ⟨rfl, _, H14.out, ib_ref (drow_key E1.out E2.out)⟩
    | true =>
      obtain ⟨he, hi⟩ := qn_live E2.out
      obtain ⟨t, ht⟩ : ∃ t, X.L[d.i]? = some t := ⟨_, List.getElem?_eq_getElem hi⟩
      have HN : Hid (nxt X.L d = some t) := (by unfold nxt; rw [if_pos he, ht] : nxt X.L d = some t)
      have HT : Hid (X.L[d.i]? = some t) := ht
      have q1 : (d.i : Int) < X.L.length := by omega
      have q2 : (0 : Int) ≤ d.i := by omega
      have hXL := H0.out.hL
      clear ht he
      go_wp2_with fail
      refine (HL1.out _ (Below.refl _ _)).mono ?_
      rintro e w1 ⟨rfl, hb1⟩
      have HB1 : Hid (Below W.heap.size W w1) := hb1
      clear hb1
      go_wp2_with fail
      refine (HL2.out _ HB1.out).mono ?_
      rintro e w2 ⟨rfl, hb2⟩
      have HB2 : Hid (Below W.heap.size W w2) := HB1.out.trans (hb2.mono HB1.out.size)
      clear hb2
      have H15 := show Hid _ from H0.out.below HB2.out
      obtain ⟨vp, vq, vl, v⟩ := H15.out.rv
      obtain ⟨c0, c1, c2, c3, c4, c5, c6, c7⟩ := v.rb.cells
      have hgl := v.rb.lt
      obtain ⟨bb, off, e0, x0, x1, xl⟩ := H15.out.tok HT.out
      rw [e0] at c0
      clear v c2 c3 c4 c5 c6 c7 e0 x0
      go_wp2_with fail
      go_quiet (fail)
      obtain ⟨wq, eq⟩ : ∃ wq, w2.drewN nq = wq := ⟨_, rfl⟩
      rw [eq]
      have HZ : Hid (RD X r d wq) := by rw [← eq]; exact H15.out.below (below_dn (Below.refl _ _) _)
      clear eq c0 c1 x1 xl hgl
      by_cases s_skip : (t.t.toList == [115, 107, 105, 112]) = true
      · have S_skip : Hid ((t.t.toList == [115, 107, 105, 112]) = true) := s_skip
        have HD : Hid (drow (nxt X.L d) .statement = .op 13 [.fl (.wd 2 [⟨#[115, 107, 105, 112]⟩])]) := ((drow_word HN.out E1.out E2.out).trans (by rw [btl_inj (a := t.t) (b := ⟨#[115, 107, 105, 112]⟩) (by rw [show (ByteArray.mk #[115, 107, 105, 112]).toList = [115, 107, 105, 112] by decide +kernel]; simpa using S_skip.out)]; kernel_rfl))
        go_wp2_with fail
        refine (opens_any HZ.out (by omega) 13).mono ?_
        rintro e w16 ⟨rfl, h16⟩
        have H16 := show Hid _ from h16
        clear h16
        go_wp2_with fail
        refine (rtakeWord_any H16.out (by omega) ⟨#[115, 107, 105, 112]⟩).mono ?_
        rintro e w17 ⟨rfl, h17⟩
        have H17 := show Hid _ from h17
        clear h17
        go_wp2_with fail
        refine (closes_any 13 H17.out (pn_tk pn_op)).mono ?_
        rintro e w18 ⟨rfl, h18⟩
        have H18 := show Hid _ from h18
        clear h18
        go_wp2_with fail
        go_end0
        exact ⟨rfl, _, H18.out, ib_op HD.out (rb_cons ib_w (rb_cons ib_lv rb_nil))⟩
      have n_skip : (t.t.toList == [115, 107, 105, 112]) = false := by simpa using s_skip
      clear s_skip
      by_cases s_if : (t.t.toList == [105, 102]) = true
      · have S_if : Hid ((t.t.toList == [105, 102]) = true) := s_if
        have HD : Hid (drow (nxt X.L d) .statement = .op 15 [.fl (.wd 2 [⟨#[105, 102]⟩]), .fl (.mt .expr), .fl (.wd 2 [⟨#[116, 104, 101, 110]⟩]), .fl (.mt .body), .again (.row [.wd 2 [⟨#[101, 108, 105, 102]⟩], .mt .expr, .wd 2 [⟨#[116, 104, 101, 110]⟩], .mt .body]), .once (.row [.wd 2 [⟨#[101, 108, 115, 101]⟩], .mt .body]), .fl (.wd 2 [⟨#[101, 110, 100]⟩])]) := ((drow_word HN.out E1.out E2.out).trans (by rw [btl_inj (a := t.t) (b := ⟨#[105, 102]⟩) (by rw [show (ByteArray.mk #[105, 102]).toList = [105, 102] by decide +kernel]; simpa using S_if.out)]; kernel_rfl))
        go_wp2_with fail
        refine (C4 X _ _ _ HZ.out (by omega) (by have m0 := HM.out; have mv := ms_live E2.out; omega) (by have m0 := HM.out; have mv := ms_live E2.out; omega) HD.out).mono ?_
        rintro e w19 ⟨rfl, d19, h19, i19⟩
        have H19 := show Hid _ from h19
        have I19 := show Hid _ from i19
        clear h19 i19
        go_wp2_with fail
        go_end0
        exact ⟨rfl, _, H19.out, I19.out⟩
      have n_if : (t.t.toList == [105, 102]) = false := by simpa using s_if
      clear s_if
      by_cases s_while : (t.t.toList == [119, 104, 105, 108, 101]) = true
      · have S_while : Hid ((t.t.toList == [119, 104, 105, 108, 101]) = true) := s_while
        have HD : Hid (drow (nxt X.L d) .statement = .op 16 [.fl (.wd 2 [⟨#[119, 104, 105, 108, 101]⟩]), .fl (.mt .expr), .fl (.wd 2 [⟨#[100, 111]⟩]), .fl (.mt .body), .fl (.wd 2 [⟨#[101, 110, 100]⟩])]) := ((drow_word HN.out E1.out E2.out).trans (by rw [btl_inj (a := t.t) (b := ⟨#[119, 104, 105, 108, 101]⟩) (by rw [show (ByteArray.mk #[119, 104, 105, 108, 101]).toList = [119, 104, 105, 108, 101] by decide +kernel]; simpa using S_while.out)]; kernel_rfl))
        go_wp2_with fail
        refine (opens_any HZ.out (by omega) 16).mono ?_
        rintro e w20 ⟨rfl, h20⟩
        have H20 := show Hid _ from h20
        clear h20
        go_wp2_with fail
        refine (rtakeWord_any H20.out (by omega) ⟨#[119, 104, 105, 108, 101]⟩).mono ?_
        rintro e w21 ⟨rfl, h21⟩
        have H21 := show Hid _ from h21
        clear h21
        go_wp2_with fail
        refine (C2 (ms X.L (tkI X.L (.wd 2 [⟨#[119, 104, 105, 108, 101]⟩]) (opD 16 d))) (by have m0 := HM.out; have mv := ms_live E2.out; have m20 : ms X.L (opD 16 d) = ms X.L d := ms_op; have m21 := ms_tkI (L := X.L) (x := .wd 2 [⟨#[119, 104, 105, 108, 101]⟩]) (d := (opD 16 d)); omega) X _ _ _ H21.out (by omega) (Nat.le_refl _)).mono ?_
        rintro e w22 ⟨rfl, d22, h22, i22⟩
        have H22 := show Hid _ from h22
        have I22 := show Hid _ from i22
        clear h22 i22
        go_wp2_with fail
        refine (rtakeWord_any H22.out (by omega) ⟨#[100, 111]⟩).mono ?_
        rintro e w23 ⟨rfl, h23⟩
        have H23 := show Hid _ from h23
        clear h23
        go_wp2_with fail
        refine (C3 (ms X.L (tkI X.L (.wd 2 [⟨#[100, 111]⟩]) d22)) (by have m0 := HM.out; have mv := ms_live E2.out; have m20 : ms X.L (opD 16 d) = ms X.L d := ms_op; have m21 := ms_tkI (L := X.L) (x := .wd 2 [⟨#[119, 104, 105, 108, 101]⟩]) (d := (opD 16 d)); have m22 := ms_ib I22.out; have m23 := ms_tkI (L := X.L) (x := .wd 2 [⟨#[100, 111]⟩]) (d := d22); omega) X _ _ _ H23.out (by omega) (Nat.le_refl _)).mono ?_
        rintro e w24 ⟨rfl, d24, h24, i24⟩
        have H24 := show Hid _ from h24
        have I24 := show Hid _ from i24
        clear h24 i24
        go_wp2_with fail
        refine (rtakeWord_any H24.out (by omega) ⟨#[101, 110, 100]⟩).mono ?_
        rintro e w25 ⟨rfl, h25⟩
        have H25 := show Hid _ from h25
        clear h25
        go_wp2_with fail
        refine (closes_any 16 H25.out (pn_tk (pn_ib (pn_tk (pn_ib (pn_tk pn_op) rfl I22.out)) rfl I24.out))).mono ?_
        rintro e w26 ⟨rfl, h26⟩
        have H26 := show Hid _ from h26
        clear h26
        go_wp2_with fail
        go_end0
        exact ⟨rfl, _, H26.out, ib_op HD.out (rb_cons ib_w (rb_cons I22.out (rb_cons ib_w (rb_cons I24.out (rb_cons ib_w (rb_cons ib_lv rb_nil))))))⟩
      have n_while : (t.t.toList == [119, 104, 105, 108, 101]) = false := by simpa using s_while
      clear s_while
      by_cases s_for : (t.t.toList == [102, 111, 114]) = true
      · have S_for : Hid ((t.t.toList == [102, 111, 114]) = true) := s_for
        have HD : Hid (drow (nxt X.L d) .statement = .op 17 [.fl (.wd 2 [⟨#[102, 111, 114]⟩]), .fl (.nm), .fl (.wd 6 [⟨#[58, 61]⟩]), .fl (.mt .expr), .fl (.wd 2 [⟨#[116, 111]⟩]), .fl (.mt .expr), .fl (.wd 2 [⟨#[100, 111]⟩]), .fl (.mt .body), .fl (.wd 2 [⟨#[101, 110, 100]⟩])]) := ((drow_word HN.out E1.out E2.out).trans (by rw [btl_inj (a := t.t) (b := ⟨#[102, 111, 114]⟩) (by rw [show (ByteArray.mk #[102, 111, 114]).toList = [102, 111, 114] by decide +kernel]; simpa using S_for.out)]; kernel_rfl))
        go_wp2_with fail
        refine (opens_any HZ.out (by omega) 17).mono ?_
        rintro e w27 ⟨rfl, h27⟩
        have H27 := show Hid _ from h27
        clear h27
        go_wp2_with fail
        refine (rtakeWord_any H27.out (by omega) ⟨#[102, 111, 114]⟩).mono ?_
        rintro e w28 ⟨rfl, h28⟩
        have H28 := show Hid _ from h28
        clear h28
        go_wp2_with fail
        refine (rtakeName_any H28.out (by omega)).mono ?_
        rintro e w29 ⟨rfl, h29⟩
        have H29 := show Hid _ from h29
        clear h29
        go_wp2_with fail
        refine (rtakeSign_any H29.out (by omega) ⟨#[58, 61]⟩).mono ?_
        rintro e w30 ⟨rfl, h30⟩
        have H30 := show Hid _ from h30
        clear h30
        go_wp2_with fail
        refine (C2 (ms X.L (tkI X.L (.wd 6 [⟨#[58, 61]⟩]) (tkI X.L (.nm) (tkI X.L (.wd 2 [⟨#[102, 111, 114]⟩]) (opD 17 d))))) (by have m0 := HM.out; have mv := ms_live E2.out; have m27 : ms X.L (opD 17 d) = ms X.L d := ms_op; have m28 := ms_tkI (L := X.L) (x := .wd 2 [⟨#[102, 111, 114]⟩]) (d := (opD 17 d)); have m29 := ms_tkI (L := X.L) (x := .nm) (d := (tkI X.L (.wd 2 [⟨#[102, 111, 114]⟩]) (opD 17 d))); have m30 := ms_tkI (L := X.L) (x := .wd 6 [⟨#[58, 61]⟩]) (d := (tkI X.L (.nm) (tkI X.L (.wd 2 [⟨#[102, 111, 114]⟩]) (opD 17 d)))); omega) X _ _ _ H30.out (by omega) (Nat.le_refl _)).mono ?_
        rintro e w31 ⟨rfl, d31, h31, i31⟩
        have H31 := show Hid _ from h31
        have I31 := show Hid _ from i31
        clear h31 i31
        go_wp2_with fail
        refine (rtakeWord_any H31.out (by omega) ⟨#[116, 111]⟩).mono ?_
        rintro e w32 ⟨rfl, h32⟩
        have H32 := show Hid _ from h32
        clear h32
        go_wp2_with fail
        refine (C2 (ms X.L (tkI X.L (.wd 2 [⟨#[116, 111]⟩]) d31)) (by have m0 := HM.out; have mv := ms_live E2.out; have m27 : ms X.L (opD 17 d) = ms X.L d := ms_op; have m28 := ms_tkI (L := X.L) (x := .wd 2 [⟨#[102, 111, 114]⟩]) (d := (opD 17 d)); have m29 := ms_tkI (L := X.L) (x := .nm) (d := (tkI X.L (.wd 2 [⟨#[102, 111, 114]⟩]) (opD 17 d))); have m30 := ms_tkI (L := X.L) (x := .wd 6 [⟨#[58, 61]⟩]) (d := (tkI X.L (.nm) (tkI X.L (.wd 2 [⟨#[102, 111, 114]⟩]) (opD 17 d)))); have m31 := ms_ib I31.out; have m32 := ms_tkI (L := X.L) (x := .wd 2 [⟨#[116, 111]⟩]) (d := d31); omega) X _ _ _ H32.out (by omega) (Nat.le_refl _)).mono ?_
        rintro e w33 ⟨rfl, d33, h33, i33⟩
        have H33 := show Hid _ from h33
        have I33 := show Hid _ from i33
        clear h33 i33
        go_wp2_with fail
        refine (rtakeWord_any H33.out (by omega) ⟨#[100, 111]⟩).mono ?_
        rintro e w34 ⟨rfl, h34⟩
        have H34 := show Hid _ from h34
        clear h34
        go_wp2_with fail
        refine (C3 (ms X.L (tkI X.L (.wd 2 [⟨#[100, 111]⟩]) d33)) (by have m0 := HM.out; have mv := ms_live E2.out; have m27 : ms X.L (opD 17 d) = ms X.L d := ms_op; have m28 := ms_tkI (L := X.L) (x := .wd 2 [⟨#[102, 111, 114]⟩]) (d := (opD 17 d)); have m29 := ms_tkI (L := X.L) (x := .nm) (d := (tkI X.L (.wd 2 [⟨#[102, 111, 114]⟩]) (opD 17 d))); have m30 := ms_tkI (L := X.L) (x := .wd 6 [⟨#[58, 61]⟩]) (d := (tkI X.L (.nm) (tkI X.L (.wd 2 [⟨#[102, 111, 114]⟩]) (opD 17 d)))); have m31 := ms_ib I31.out; have m32 := ms_tkI (L := X.L) (x := .wd 2 [⟨#[116, 111]⟩]) (d := d31); have m33 := ms_ib I33.out; have m34 := ms_tkI (L := X.L) (x := .wd 2 [⟨#[100, 111]⟩]) (d := d33); omega) X _ _ _ H34.out (by omega) (Nat.le_refl _)).mono ?_
        rintro e w35 ⟨rfl, d35, h35, i35⟩
        have H35 := show Hid _ from h35
        have I35 := show Hid _ from i35
        clear h35 i35
        go_wp2_with fail
        refine (rtakeWord_any H35.out (by omega) ⟨#[101, 110, 100]⟩).mono ?_
        rintro e w36 ⟨rfl, h36⟩
        have H36 := show Hid _ from h36
        clear h36
        go_wp2_with fail
        refine (closes_any 17 H36.out (pn_tk (pn_ib (pn_tk (pn_ib (pn_tk (pn_ib (pn_tk (pn_tk (pn_tk pn_op))) rfl I31.out)) rfl I33.out)) rfl I35.out))).mono ?_
        rintro e w37 ⟨rfl, h37⟩
        have H37 := show Hid _ from h37
        clear h37
        go_wp2_with fail
        go_end0
        exact ⟨rfl, _, H37.out, ib_op HD.out (rb_cons ib_w (rb_cons ib_n (rb_cons ib_w (rb_cons I31.out (rb_cons ib_w (rb_cons I33.out (rb_cons ib_w (rb_cons I35.out (rb_cons ib_w (rb_cons ib_lv rb_nil))))))))))⟩
      have n_for : (t.t.toList == [102, 111, 114]) = false := by simpa using s_for
      clear s_for
      by_cases s_repeat : (t.t.toList == [114, 101, 112, 101, 97, 116]) = true
      · have S_repeat : Hid ((t.t.toList == [114, 101, 112, 101, 97, 116]) = true) := s_repeat
        have HD : Hid (drow (nxt X.L d) .statement = .op 18 [.fl (.wd 2 [⟨#[114, 101, 112, 101, 97, 116]⟩]), .fl (.mt .body), .fl (.wd 2 [⟨#[117, 110, 116, 105, 108]⟩]), .fl (.mt .expr)]) := ((drow_word HN.out E1.out E2.out).trans (by rw [btl_inj (a := t.t) (b := ⟨#[114, 101, 112, 101, 97, 116]⟩) (by rw [show (ByteArray.mk #[114, 101, 112, 101, 97, 116]).toList = [114, 101, 112, 101, 97, 116] by decide +kernel]; simpa using S_repeat.out)]; kernel_rfl))
        go_wp2_with fail
        refine (opens_any HZ.out (by omega) 18).mono ?_
        rintro e w38 ⟨rfl, h38⟩
        have H38 := show Hid _ from h38
        clear h38
        go_wp2_with fail
        refine (rtakeWord_any H38.out (by omega) ⟨#[114, 101, 112, 101, 97, 116]⟩).mono ?_
        rintro e w39 ⟨rfl, h39⟩
        have H39 := show Hid _ from h39
        clear h39
        go_wp2_with fail
        refine (C3 (ms X.L (tkI X.L (.wd 2 [⟨#[114, 101, 112, 101, 97, 116]⟩]) (opD 18 d))) (by have m0 := HM.out; have mv := ms_live E2.out; have m38 : ms X.L (opD 18 d) = ms X.L d := ms_op; have m39 := ms_tkI (L := X.L) (x := .wd 2 [⟨#[114, 101, 112, 101, 97, 116]⟩]) (d := (opD 18 d)); omega) X _ _ _ H39.out (by omega) (Nat.le_refl _)).mono ?_
        rintro e w40 ⟨rfl, d40, h40, i40⟩
        have H40 := show Hid _ from h40
        have I40 := show Hid _ from i40
        clear h40 i40
        go_wp2_with fail
        refine (rtakeWord_any H40.out (by omega) ⟨#[117, 110, 116, 105, 108]⟩).mono ?_
        rintro e w41 ⟨rfl, h41⟩
        have H41 := show Hid _ from h41
        clear h41
        go_wp2_with fail
        refine (C2 (ms X.L (tkI X.L (.wd 2 [⟨#[117, 110, 116, 105, 108]⟩]) d40)) (by have m0 := HM.out; have mv := ms_live E2.out; have m38 : ms X.L (opD 18 d) = ms X.L d := ms_op; have m39 := ms_tkI (L := X.L) (x := .wd 2 [⟨#[114, 101, 112, 101, 97, 116]⟩]) (d := (opD 18 d)); have m40 := ms_ib I40.out; have m41 := ms_tkI (L := X.L) (x := .wd 2 [⟨#[117, 110, 116, 105, 108]⟩]) (d := d40); omega) X _ _ _ H41.out (by omega) (Nat.le_refl _)).mono ?_
        rintro e w42 ⟨rfl, d42, h42, i42⟩
        have H42 := show Hid _ from h42
        have I42 := show Hid _ from i42
        clear h42 i42
        go_wp2_with fail
        refine (closes_any 18 H42.out (pn_ib (pn_tk (pn_ib (pn_tk pn_op) rfl I40.out)) rfl I42.out)).mono ?_
        rintro e w43 ⟨rfl, h43⟩
        have H43 := show Hid _ from h43
        clear h43
        go_wp2_with fail
        go_end0
        exact ⟨rfl, _, H43.out, ib_op HD.out (rb_cons ib_w (rb_cons I40.out (rb_cons ib_w (rb_cons I42.out (rb_cons ib_lv rb_nil)))))⟩
      have n_repeat : (t.t.toList == [114, 101, 112, 101, 97, 116]) = false := by simpa using s_repeat
      clear s_repeat
      by_cases s_return : (t.t.toList == [114, 101, 116, 117, 114, 110]) = true
      · have S_return : Hid ((t.t.toList == [114, 101, 116, 117, 114, 110]) = true) := s_return
        have HD : Hid (drow (nxt X.L d) .statement = .op 19 [.fl (.wd 2 [⟨#[114, 101, 116, 117, 114, 110]⟩]), .once (.ex .expr)]) := ((drow_word HN.out E1.out E2.out).trans (by rw [btl_inj (a := t.t) (b := ⟨#[114, 101, 116, 117, 114, 110]⟩) (by rw [show (ByteArray.mk #[114, 101, 116, 117, 114, 110]).toList = [114, 101, 116, 117, 114, 110] by decide +kernel]; simpa using S_return.out)]; kernel_rfl))
        go_wp2_with fail
        refine (opens_any HZ.out (by omega) 19).mono ?_
        rintro e w44 ⟨rfl, h44⟩
        have H44 := show Hid _ from h44
        clear h44
        go_wp2_with fail
        refine (rtakeWord_any H44.out (by omega) ⟨#[114, 101, 116, 117, 114, 110]⟩).mono ?_
        rintro e w45 ⟨rfl, h45⟩
        have H45 := show Hid _ from h45
        clear h45
        obtain ⟨b46, e46⟩ : ∃ b, qn X.L (tkI X.L (.wd 2 [⟨#[114, 101, 116, 117, 114, 110]⟩]) (opD 19 d)) tBeg = b := ⟨_, rfl⟩
        have HL46 : Hid (∀ V, Below w45.heap.size w45 V → Calls Tryz.prog 134 #[pt X.g] V fun e w' => e = .returned (.bool b46) ∧ Below V.heap.size V w') := fun V hb => by rw [← e46]; exact rbegins_any (H45.out.below hb)
        have E46 : Hid (qn X.L (tkI X.L (.wd 2 [⟨#[114, 101, 116, 117, 114, 110]⟩]) (opD 19 d)) tBeg = b46) := e46
        clear e46
        cases b46 with
        | true =>
          go_wp2_with fail
          refine (HL46.out _ (Below.refl _ _)).mono ?_
          rintro e w46 ⟨rfl, hb46⟩
          have HB46 : Hid (Below w45.heap.size w45 w46) := hb46
          clear hb46
          have H47 := show Hid _ from H45.out.below HB46.out
          go_wp2_with fail
          refine (C2 (ms X.L (tkI X.L (.wd 2 [⟨#[114, 101, 116, 117, 114, 110]⟩]) (opD 19 d))) (by have m0 := HM.out; have mv := ms_live E2.out; have m44 : ms X.L (opD 19 d) = ms X.L d := ms_op; have m45 := ms_tkI (L := X.L) (x := .wd 2 [⟨#[114, 101, 116, 117, 114, 110]⟩]) (d := (opD 19 d)); omega) X _ _ _ H47.out (by omega) (Nat.le_refl _)).mono ?_
          rintro e w48 ⟨rfl, d48, h48, i48⟩
          have H48 := show Hid _ from h48
          have I48 := show Hid _ from i48
          clear h48 i48
          go_wp2_with fail
          refine (closes_any 19 H48.out (pn_ib (pn_tk pn_op) rfl I48.out)).mono ?_
          rintro e w49 ⟨rfl, h49⟩
          have H49 := show Hid _ from h49
          clear h49
          go_wp2_with fail
          go_end0
          exact ⟨rfl, _, H49.out, ib_op HD.out (rb_cons ib_w (rb_cons (ib_once1 (pick_beg E46.out) I48.out) (rb_cons ib_lv rb_nil)))⟩
        | false =>
          go_wp2_with fail
          refine (HL46.out _ (Below.refl _ _)).mono ?_
          rintro e w46 ⟨rfl, hb46⟩
          have HB46 : Hid (Below w45.heap.size w45 w46) := hb46
          clear hb46
          have H50 := show Hid _ from H45.out.below HB46.out
          go_wp2_with fail
          refine (closes_any 19 H50.out (pn_tk pn_op)).mono ?_
          rintro e w51 ⟨rfl, h51⟩
          have H51 := show Hid _ from h51
          clear h51
          go_wp2_with fail
          go_end0
          exact ⟨rfl, _, H51.out, ib_op HD.out (rb_cons ib_w (rb_cons (ib_once0 (pick_beg E46.out)) (rb_cons ib_lv rb_nil)))⟩
      have n_return : (t.t.toList == [114, 101, 116, 117, 114, 110]) = false := by simpa using s_return
      clear s_return
      by_cases s_begin : (t.t.toList == [98, 101, 103, 105, 110]) = true
      · have S_begin : Hid ((t.t.toList == [98, 101, 103, 105, 110]) = true) := s_begin
        have HD : Hid (drow (nxt X.L d) .statement = .op 20 [.fl (.wd 2 [⟨#[98, 101, 103, 105, 110]⟩]), .fl (.mt .body), .fl (.wd 2 [⟨#[101, 110, 100]⟩])]) := ((drow_word HN.out E1.out E2.out).trans (by rw [btl_inj (a := t.t) (b := ⟨#[98, 101, 103, 105, 110]⟩) (by rw [show (ByteArray.mk #[98, 101, 103, 105, 110]).toList = [98, 101, 103, 105, 110] by decide +kernel]; simpa using S_begin.out)]; kernel_rfl))
        go_wp2_with fail
        refine (opens_any HZ.out (by omega) 20).mono ?_
        rintro e w52 ⟨rfl, h52⟩
        have H52 := show Hid _ from h52
        clear h52
        go_wp2_with fail
        refine (rtakeWord_any H52.out (by omega) ⟨#[98, 101, 103, 105, 110]⟩).mono ?_
        rintro e w53 ⟨rfl, h53⟩
        have H53 := show Hid _ from h53
        clear h53
        go_wp2_with fail
        refine (C3 (ms X.L (tkI X.L (.wd 2 [⟨#[98, 101, 103, 105, 110]⟩]) (opD 20 d))) (by have m0 := HM.out; have mv := ms_live E2.out; have m52 : ms X.L (opD 20 d) = ms X.L d := ms_op; have m53 := ms_tkI (L := X.L) (x := .wd 2 [⟨#[98, 101, 103, 105, 110]⟩]) (d := (opD 20 d)); omega) X _ _ _ H53.out (by omega) (Nat.le_refl _)).mono ?_
        rintro e w54 ⟨rfl, d54, h54, i54⟩
        have H54 := show Hid _ from h54
        have I54 := show Hid _ from i54
        clear h54 i54
        go_wp2_with fail
        refine (rtakeWord_any H54.out (by omega) ⟨#[101, 110, 100]⟩).mono ?_
        rintro e w55 ⟨rfl, h55⟩
        have H55 := show Hid _ from h55
        clear h55
        go_wp2_with fail
        refine (closes_any 20 H55.out (pn_tk (pn_ib (pn_tk pn_op) rfl I54.out))).mono ?_
        rintro e w56 ⟨rfl, h56⟩
        have H56 := show Hid _ from h56
        clear h56
        go_wp2_with fail
        go_end0
        exact ⟨rfl, _, H56.out, ib_op HD.out (rb_cons ib_w (rb_cons I54.out (rb_cons ib_w (rb_cons ib_lv rb_nil))))⟩
      have n_begin : (t.t.toList == [98, 101, 103, 105, 110]) = false := by simpa using s_begin
      clear s_begin
      have HD : Hid (drow (nxt X.L d) .statement = .ref) := (drow_word HN.out E1.out E2.out).trans (by simp [wordedR, n_skip, n_if, n_while, n_for, n_repeat, n_return, n_begin])
      go_wp2_with fail
      refine (wrong_any HZ.out).mono ?_
      rintro e w57 ⟨rfl, h57⟩
      have H57 := show Hid _ from h57
      clear h57
      go_wp2_with fail
      go_end0
      exact ⟨rfl, _, H57.out, ib_ref HD.out⟩
end Go.Proofs.YtkigadnkclkopaaGreat
