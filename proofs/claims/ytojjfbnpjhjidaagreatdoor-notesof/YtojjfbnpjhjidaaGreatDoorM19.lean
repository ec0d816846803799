import Derived.Test.YtojjfbnpjhjidaaGreatDoorM18
set_option linter.unusedVariables false
set_option linter.unusedSimpArgs false
namespace Go.Proofs.YtojjfbnpjhjidaaGreatDoor.Lx
open Go.RowKit
set_option maxHeartbeats 2000000 in
theorem name_any {w0 W : World} {g : Nat} {s : ByteArray} {a f : Nat} {l : List Tv} (hK : Kab w0) (h : Rs w0 W g s a a f l) (hs : s.size ≤ 2147483647) (ha : a < s.size) (hb : bd s a) (hk : tkBgn s a = 1) (hl : l.length ≤ 2147483647) :
    Calls Tryz.prog 61 #[.pointer (some ⟨g, 0, none⟩)] W fun e w' => e = .returned (.int .i64 ((tkEnd s a 1).2 : Nat)) ∧ TP w0 w' g s 1 a f l := by
  have hd := bgn1 hk
  have hE : tkEnd s a 1 = run (gRow s a 1) s.size a 0 := by unfold tkEnd; simp
  obtain ⟨hw1, hw2, hw3⟩ := dw_facts s a ha
  have hd3 : (gd s a && pr' (dp s a)) = true := by
    rw [Bool.and_eq_true] at hd ⊢
    exact ⟨hd.1, pr_of_lt hd.2⟩
  have HJ : Hid (JN w0 W g s 1 a f l a) := ⟨Nat.le_refl _, ha, hb, h, 0, hE.symm, row_on ha (by rintro (⟨_, h⟩ | ⟨h, _⟩); rw [hd3] at h; cases h; cases h) (by omega)⟩
  have HT : Hid (∀ V x, JN w0 V g s 1 a f l x → Calls Tryz.prog 76 #[.pointer (some ⟨g, 0, none⟩)] V fun e w' => e = .returned (.tuple #[]) ∧ ∃ y, x < y ∧ a ≤ y ∧ y ≤ s.size ∧ bd s y ∧ Rs w0 w' g s y a f l ∧ ∃ m, run (gRow s a 1) s.size y m = tkEnd s a 1) := fun V x hx => by
    refine (take_any hx.rs hs (Nat.le_of_lt hx.xs)).mono ?_
    rintro e w' ⟨rfl, hr⟩
    exact ⟨rfl, hx.next hr⟩
  have HFl : Hid (∀ V y, Rs w0 V g s y a f l → a ≤ y → y ≤ s.size → Calls Tryz.prog 81 #[.pointer (some ⟨g, 0, none⟩)] V fun e w' => e = .returned (.bool (decide (65535 < y + rsz s y - a))) ∧ Rs w0 w' g s y a f l) := fun V y hr h1 h2 => by
    obtain ⟨h1', h2', v, h3, h4⟩ := hr
    refine (isFull_any h3 hs h1 h2 (by by_cases e : y < s.size; rw [rsz_in e]; exact (dw_facts s y e).2.1; rw [rsz_out (by omega)]; omega)).mono ?_
    rintro e w' ⟨rfl, hb⟩
    exact ⟨rfl, Rq.below ⟨h1', h2', v, h3, h4⟩ hb⟩
  have HC : Hid (∀ V y, Rs w0 V g s y a f l → V.cell? ⟨g, 2, none⟩ = some (.int .i32 (rpt s y))) := fun V y hr => by
    obtain ⟨h1', h2', v, h3, h4⟩ := hr
    exact (Rq.cells h3).2.2.1
  have c2 := HC.out _ _ h
  have hdg : (decide (48 ≤ rpt s a) && decide (rpt s a ≤ 57)) = false := by
    cases e : (decide (48 ≤ rpt s a) && decide (rpt s a ≤ 57)) with
    | false => rfl
    | true =>
      exfalso
      rw [rpt_in ha, Bool.and_eq_true, decide_eq_true_eq, decide_eq_true_eq] at e
      rw [Bool.and_eq_true] at hd
      have h2 := of_decide_eq_true hd.2
      unfold ltr at h2
      omega
  have HD0 : Hid (Calls Tryz.prog 60 #[.int .i32 (rpt s a)] W fun e w' => e = .returned (.bool false) ∧ w' = W) := by rw [← hdg]; exact isDigit_any _ _
  clear hd hE hw1 hw2 hw3 hd3 h hk hdg
  go_enter Tryz.func61, Tryz.ntmps61
  go_wp2_with fail
  refine wp_scope_jumps 1 (fun a' w' => ∃ (x : Nat) (u1 u2 u3 u4 u5 u6 u7 u8 u9 u10 u11 u12 u13 u14 u15 u16 u17 u18 u19 u20 u21 u22 u23 u24 u25 u26 u27 u28 u29 u30 u31 u32 u33 u34 u35 u36 u37 u38 : Value), Hid (JN w0 w' g s 1 a f l x) ∧ a' = { tmps := #[.pointer (some ⟨g, 0, none⟩), u1, u2, u3, u4, u5, u6, u7, u8, u9, u10, u11, u12, u13, u14, u15, u16, u17, u18, u19, u20, u21, u22, u23, u24, u25, u26, u27, u28, u29, u30, u31, u32, u33, u34, u35, u36, u37, u38], defers := [] }) (fun _ w' => s.size - cntAt w' g 1) rfl ?_ ?_
  rotate_left
  rintro a' w' ⟨x, u1, u2, u3, u4, u5, u6, u7, u8, u9, u10, u11, u12, u13, u14, u15, u16, u17, u18, u19, u20, u21, u22, u23, u24, u25, u26, u27, u28, u29, u30, u31, u32, u33, u34, u35, u36, u37, u38, HJ, rfl⟩
  have HX : Hid (cntAt w' g 1 = x ∧ x < s.size) := ⟨HJ.out.rs.at, HJ.out.xs⟩
  rotate_left
  go_wp2_with (first | (go_at_call 60; refine HD0.out.mono ?_; rintro e w1 ⟨rfl, hw⟩; replace hw := hw.symm; subst hw))
  go_step3
  clear c2
  all_goals (
    go_wp2_with fail
    refine (HT.out _ _ HJ.out).mono ?_
    rintro e w1 ⟨rfl, y, y1, y2, y3, y4, y5, m, y6⟩
    have z2 := HC.out _ _ y5
    have hfl := HFl.out _ _ y5 y2 y3
    have HY : Hid (Rs w0 w1 g s y a f l ∧ bd s y ∧ run (gRow s a 1) s.size y m = tkEnd s a 1) := ⟨y5, y4, y6⟩
    have rg := rpt_rng s y
    have hwr : IntKind.i64.wrap (rpt s y) = rpt s y := by rw [IntKind.wrap_i64]; omega
    have HPt : Hid (Calls Tryz.prog 78 #[.int .i64 (rpt s y)] w1 fun e w' => e = .returned (.bool (pr' (rpt s y))) ∧ w' = w1) := part_any _ _ (hK.below y5.bel).1
    have hpp := part_pt s y
    clear HJ y5 y4 y6
    by_cases hc : pr' (rpt s y) = true
    · rw [hc] at HPt
      rw [hc] at hpp
      obtain ⟨d1, d2⟩ : y < s.size ∧ (gd s y && pr' (dp s y)) = true := by rw [eq_comm, Bool.and_eq_true, decide_eq_true_eq] at hpp; exact hpp
      have HN : Hid (¬ (((1 : Nat) = 1 ∧ (gd s y && pr' (dp s y)) = false) ∨ (1 = 3 ∧ tkDg (by8 s y) = false))) := by
        show ¬ _
        rintro (⟨_, h⟩ | ⟨h, _⟩)
        · rw [d2] at h; cases h
        · cases h
      have HF2 : Hid (Calls Tryz.prog 81 #[.pointer (some ⟨g, 0, none⟩)] w1 fun e w' => e = .returned (.bool (decide (65535 < y + rsz s y - a))) ∧ Rs w0 w' g s y a f l) := hfl
      rw [rsz_in d1] at HF2
      clear hc hfl hpp d2
      by_cases hf : 65535 < y + dw s y - a
      · have HE : Hid (tkEnd s a 1 = (a, 103)) := row_full d1 HY.out.2.2 HN.out hf
        rw [decide_eq_true hf] at HF2
        clear hf
        go_wp2_with (first | (go_at_call 78; refine HPt.out.mono ?_; rintro e w2 ⟨rfl, hw⟩; replace hw := hw.symm; subst hw) | (go_at_call 81; refine HF2.out.mono ?_; rintro e w3 ⟨rfl, hr3⟩))
        simp only [Exit.jump]
        go_ret
        rw [HE.out]
        exact ⟨rfl, TP.bad HE.out (by decide) HY.out.2.1 y2 hr3 (by intro h; cases h)⟩
      · have HO : Hid (gRow s a 1 y m = .on (dw s y)) := row_on d1 HN.out hf
        rw [decide_eq_false hf] at HF2
        clear hf
        go_wp2_with (first | (go_at_call 78; refine HPt.out.mono ?_; rintro e w2 ⟨rfl, hw⟩; replace hw := hw.symm; subst hw) | (go_at_call 81; refine HF2.out.mono ?_; rintro e w3 ⟨rfl, hr3⟩))
        go_step3
        refine ⟨rfl, ?_⟩
        try refine ⟨?_, by rw [HX.out.1, hr3.at]; have := HX.out.2; omega⟩
        exact ⟨y, _, _, _, _, _, _, _, _, _, _, _, _, _, _, _, _, _, _, _, _, _, _, _, _, _, _, _, _, _, _, _, _, _, _, _, _, _, _, ⟨y2, d1, HY.out.2.1, hr3, m, HY.out.2.2, HO.out⟩, rfl⟩
    · have hc1 : pr' (rpt s y) = false := by simpa using hc
      rw [hc1] at HPt
      have HE : Hid (tkEnd s a 1 = (y, 0)) := by
        refine row_stop y3 HY.out.2.2 ?_
        rw [hc1] at hpp
        by_cases e : y < s.size
        · rw [decide_eq_true e, Bool.true_and] at hpp; exact .inr (.inl ⟨rfl, hpp.symm⟩)
        · exact .inl (by omega)
      have hKw := hK.below HY.out.1.bel
      obtain ⟨kd, hkd⟩ : ∃ kd : Nat, (if ky (s.extract a y) = true then 2 else 1) = kd := ⟨_, rfl⟩
      have HWk : Hid (Calls Tryz.prog 80 #[.pointer (some ⟨g, 0, none⟩)] w1 fun e w' => e = .returned (.int .u8 kd) ∧ Rs w0 w' g s y a f l) := by
        obtain ⟨h1', h2', v, h3, h4⟩ := HY.out.1
        refine (wordKind_any h3 hKw hs y2 y3).mono ?_
        rintro e w' ⟨rfl, hb⟩
        refine ⟨?_, Rq.below ⟨h1', h2', v, h3, h4⟩ hb⟩
        rw [← hkd]; split <;> rfl
      have HTl : Hid (∀ V, Rs w0 V g s y a f l → Calls Tryz.prog 79 #[.pointer (some ⟨g, 0, none⟩), .int .u8 kd] V fun e w' => e = .returned (.int .i64 0) ∧ Rs w0 w' g s y a 0 (l ++ [tv s (tkTok s 1 a y f)])) := fun V hV => by
        have := tell_any hV kd hs y2 y3 hl (by intro h; rw [← hkd] at h; split at h <;> cases h)
        have e7 : (if kd = 7 then tkTrim s y else y) = y := if_neg (by rw [← hkd]; split <;> decide)
        rw [e7] at this
        have e8 : tkTok s 1 a y f = ⟨kd, a, y, f⟩ := by
          unfold tkTok
          rw [← hkd]
          congr 1
          by_cases e : ky (s.extract a y) = true
          · rw [if_pos ⟨rfl, e⟩, if_pos e]
          · rw [if_neg (fun h => e h.2), if_neg e]
        rw [e8]
        exact this
      clear hc hc1 hfl hpp hKw hkd
      go_wp2_with (first | (go_at_call 78; refine HPt.out.mono ?_; rintro e w2 ⟨rfl, hw⟩; replace hw := hw.symm; subst hw) | (go_at_call 80; refine HWk.out.mono ?_; rintro e w4 ⟨rfl, hr4⟩) | (go_at_call 79; refine (HTl.out _ hr4).mono ?_; rintro e w3 ⟨rfl, hr3⟩))
      simp only [Exit.jump]
      go_ret
      rw [HE.out]
      exact ⟨rfl, TP.ok HE.out hr3⟩)
structure JQ (w0 W : World) (g : Nat) (s : ByteArray) (a f : Nat) (l : List Tv) (x : Nat) : Prop where
  ax : a ≤ x
  xs : x < s.size
  bx : bd s x
  rs : Rs w0 W g s x a f l
  on : ∃ m, run (gQuo s a 34 false) s.size (x + dw s x) m = tkEnd s a 4
theorem JQ.next {w0 W W' : World} {g : Nat} {s : ByteArray} {a f : Nat} {l : List Tv} {x : Nat} (h : JQ w0 W g s a f l x) (hr : Rs w0 W' g s (x + rsz s x) a f l) :
    ∃ y, x < y ∧ a ≤ y ∧ y ≤ s.size ∧ bd s y ∧ Rs w0 W' g s y a f l ∧ ∃ m, run (gQuo s a 34 false) s.size y m = tkEnd s a 4 := by
  obtain ⟨h1, h2, h3, h4, m, h5⟩ := h
  obtain ⟨d, _, d2⟩ := dw_facts s x h2
  rw [rsz_in h2] at hr
  exact ⟨x + dw s x, by omega, by omega, d2, bd_next h3 h2, hr, m, h5⟩
set_option maxRecDepth 100000 in
set_option maxHeartbeats 4000000 in
theorem text_tok {w0 W : World} {g : Nat} {s : ByteArray} {a f : Nat} {l : List Tv} (h : Rs w0 W g s a a f l) (hs : s.size ≤ 2147483647) (ha : a < s.size) (hb : bd s a) (hk : tkBgn s a = 4) (hl : l.length ≤ 2147483647) :
    Calls Tryz.prog 62 #[.pointer (some ⟨g, 0, none⟩)] W fun e w' => e = .returned (.int .i64 ((tkEnd s a 4).2 : Nat)) ∧ TP w0 w' g s 4 a f l := by
  have hd := bgn4 hk
  have hE : tkEnd s a 4 = run (gQuo s a 34 false) s.size (a + 1) 0 := by unfold tkEnd; simp
  have hw := (chr_asc s a (by omega)).1
  have HJ : Hid (JQ w0 W g s a f l a) := ⟨Nat.le_refl _, ha, hb, h, 0, by rw [hw]; exact hE.symm⟩
  have HT : Hid (∀ V x, JQ w0 V g s a f l x → Calls Tryz.prog 76 #[.pointer (some ⟨g, 0, none⟩)] V fun e w' => e = .returned (.tuple #[]) ∧ ∃ y, x < y ∧ a ≤ y ∧ y ≤ s.size ∧ bd s y ∧ Rs w0 w' g s y a f l ∧ ∃ m, run (gQuo s a 34 false) s.size y m = tkEnd s a 4) := fun V x hx => by
    refine (take_any hx.rs hs (Nat.le_of_lt hx.xs)).mono ?_
    rintro e w' ⟨rfl, hr⟩
    exact ⟨rfl, hx.next hr⟩
  have HFl : Hid (∀ V y, Rs w0 V g s y a f l → a ≤ y → y ≤ s.size → Calls Tryz.prog 81 #[.pointer (some ⟨g, 0, none⟩)] V fun e w' => e = .returned (.bool (decide (65535 < y + rsz s y - a))) ∧ Rs w0 w' g s y a f l) := fun V y hr h1 h2 => by
    obtain ⟨h1', h2', v, h3, h4⟩ := hr
    refine (isFull_any h3 hs h1 h2 (by by_cases e : y < s.size; rw [rsz_in e]; exact (dw_facts s y e).2.1; rw [rsz_out (by omega)]; omega)).mono ?_
    rintro e w' ⟨rfl, hb⟩
    exact ⟨rfl, Rq.below ⟨h1', h2', v, h3, h4⟩ hb⟩
  have HC : Hid (∀ V y, Rs w0 V g s y a f l → V.cell? ⟨g, 2, none⟩ = some (.int .i32 (rpt s y))) := fun V y hr => by
    obtain ⟨h1', h2', v, h3, h4⟩ := hr
    exact (Rq.cells h3).2.2.1
  have c2 := HC.out _ _ h
  rw [(is_pt s a 34 (by decide) ha).2 hd] at c2
  clear hd hE hw h hk
  go_enter Tryz.func62, Tryz.ntmps62
  go_wp2_with fail
  refine wp_scope_jumps 1 (fun a' w' => ∃ (x : Nat) (u1 u2 u3 u4 u5 u6 u7 u8 u9 u10 u11 u12 u13 u14 u15 u16 u17 u18 u19 u20 u21 u22 u23 u24 u25 u26 u27 u28 u29 u30 u31 u32 u33 u34 u35 u36 u37 u38 u39 u40 u41 u42 u43 u44 u45 u46 u47 u48 u49 u50 u51 u52 u53 u54 u55 u56 u57 u58 u59 u60 u61 u62 u63 u64 u65 u66 u67 u68 u69 u70 u71 u72 u73 : Value), Hid (JQ w0 w' g s a f l x) ∧ a' = { tmps := #[.pointer (some ⟨g, 0, none⟩), u1, u2, u3, u4, u5, u6, u7, u8, u9, u10, u11, u12, u13, u14, u15, u16, u17, u18, u19, u20, u21, u22, u23, u24, u25, u26, u27, u28, u29, u30, u31, u32, u33, u34, u35, u36, u37, u38, u39, u40, u41, u42, u43, u44, u45, u46, u47, u48, u49, u50, u51, u52, u53, u54, u55, u56, u57, u58, u59, u60, u61, u62, u63, u64, u65, u66, u67, u68, u69, u70, u71, u72, u73], defers := [] }) (fun _ w' => s.size - cntAt w' g 1) rfl ?_ ?_
  rotate_left
  rintro a' w' ⟨x, u1, u2, u3, u4, u5, u6, u7, u8, u9, u10, u11, u12, u13, u14, u15, u16, u17, u18, u19, u20, u21, u22, u23, u24, u25, u26, u27, u28, u29, u30, u31, u32, u33, u34, u35, u36, u37, u38, u39, u40, u41, u42, u43, u44, u45, u46, u47, u48, u49, u50, u51, u52, u53, u54, u55, u56, u57, u58, u59, u60, u61, u62, u63, u64, u65, u66, u67, u68, u69, u70, u71, u72, u73, HJ, rfl⟩
  have HX : Hid (cntAt w' g 1 = x ∧ x < s.size) := ⟨HJ.out.rs.at, HJ.out.xs⟩
  rotate_left
  go_wp2_with fail
  go_step3
  all_goals (
    clear c2
    go_wp2_with fail
    refine (HT.out _ _ HJ.out).mono ?_
    rintro e w1 ⟨rfl, y, y1, y2, y3, y4, y5, m, y6⟩
    have z2 := HC.out _ _ y5
    have hfl := HFl.out _ _ y5 y2 y3
    have HY : Hid (Rs w0 w1 g s y a f l ∧ bd s y ∧ run (gQuo s a 34 false) s.size y m = tkEnd s a 4) := ⟨y5, y4, y6⟩
    have hel := endsLine_any (rpt s y) w1
    clear HJ y5 y4 y6
    by_cases hc : s.size ≤ y ∨ by8 s y = 10
    · have e1 : (decide (rpt s y = 10) || decide (rpt s y = -1)) = true := by
        rw [Bool.or_eq_true, decide_eq_true_eq, decide_eq_true_eq]
        rcases hc with h | h
        · exact .inr ((none_pt s y).2 h)
        · by_cases e : y < s.size
          · exact .inl ((is_pt s y 10 (by decide) e).2 h)
          · exact .inr ((none_pt s y).2 (by omega))
      rw [e1] at hel
      have HEl : Hid (Calls Tryz.prog 82 #[.int .i32 (rpt s y)] w1 fun e w' => e = .returned (.bool true) ∧ w' = w1) := hel
      have HE : Hid (tkEnd s a 4 = (a, 101)) := quo_open y3 HY.out.2.2 hc
      clear hel e1 hc hfl
      go_wp2_with (first | (go_at_call 82; refine HEl.out.mono ?_; rintro e w2 ⟨rfl, hw⟩; replace hw := hw.symm; subst hw))
      simp only [Exit.jump]
      go_ret
      rw [HE.out]
      exact ⟨rfl, TP.bad HE.out (by decide) HY.out.2.1 y2 HY.out.1 (by intro h; cases h)⟩
    · obtain ⟨d1, d2⟩ : y < s.size ∧ by8 s y ≠ 10 := ⟨by omega, fun h => hc (.inr h)⟩
      have e1 : (decide (rpt s y = 10) || decide (rpt s y = -1)) = false := by
        rw [Bool.or_eq_false_iff, decide_eq_false_iff_not, decide_eq_false_iff_not]
        exact ⟨fun h => d2 ((is_pt s y 10 (by decide) d1).1 h), fun h => by have := (none_pt s y).1 h; omega⟩
      rw [e1] at hel
      have HEl : Hid (Calls Tryz.prog 82 #[.int .i32 (rpt s y)] w1 fun e w' => e = .returned (.bool false) ∧ w' = w1) := hel
      have HF2 : Hid (Calls Tryz.prog 81 #[.pointer (some ⟨g, 0, none⟩)] w1 fun e w' => e = .returned (.bool (decide (65535 < y + rsz s y - a))) ∧ Rs w0 w' g s y a f l) := hfl
      rw [rsz_in d1] at HF2
      clear hc hfl e1 hel
      by_cases hf : 65535 < y + dw s y - a
      · have HE : Hid (tkEnd s a 4 = (a, 103)) := quo_full d1 HY.out.2.2 d2 hf
        rw [decide_eq_true hf] at HF2
        clear hf
        go_wp2_with (first | (go_at_call 82; refine HEl.out.mono ?_; rintro e w2 ⟨rfl, hw⟩; replace hw := hw.symm; subst hw) | (go_at_call 81; refine HF2.out.mono ?_; rintro e w3 ⟨rfl, hr3⟩; have z3 := HC.out _ _ hr3))
        simp only [Exit.jump]
        go_ret
        rw [HE.out]
        exact ⟨rfl, TP.bad HE.out (by decide) HY.out.2.1 y2 hr3 (by intro h; cases h)⟩
      · rw [decide_eq_false hf] at HF2
        have hct := ctl_pt s y d1
        by_cases hb : tkCtl s y = true
        · have HCt : Hid (∀ V, Calls Tryz.prog 83 #[.int .i32 (rpt s y)] V fun e w' => e = .returned (.bool true) ∧ w' = V) := fun V => by
            rw [← hb, ← hct]; exact isControl_any _ _
          have HE : Hid (tkEnd s a 4 = (y, 102)) := by
            refine quo_wrong d1 HY.out.2.2 d2 hf ?_ (.inl hb)
            rintro ⟨h, _⟩
            unfold tkCtl at hb
            rw [(chr_asc s y (by omega)).2.1, h] at hb
            rw [Bool.and_eq_true] at hb
            exact absurd hb.2 (by decide)
          clear hf hb hct
          go_wp2_with (first | (go_at_call 82; refine HEl.out.mono ?_; rintro e w2 ⟨rfl, hw⟩; replace hw := hw.symm; subst hw) | (go_at_call 81; refine HF2.out.mono ?_; rintro e w3 ⟨rfl, hr3⟩; have z3 := HC.out _ _ hr3) | (go_at_call 83; refine (HCt.out _).mono ?_; rintro e w4 ⟨rfl, hw⟩; replace hw := hw.symm; subst hw))
          simp only [Exit.jump]
          go_ret
          rw [HE.out]
          exact ⟨rfl, TP.bad HE.out (by decide) HY.out.2.1 y2 hr3 (fun _ => rfl)⟩
        · have hb1 : tkCtl s y = false := by simpa using hb
          have HCt : Hid (∀ V, Calls Tryz.prog 83 #[.int .i32 (rpt s y)] V fun e w' => e = .returned (.bool false) ∧ w' = V) := fun V => by
            rw [← hb1, ← hct]; exact isControl_any _ _
          by_cases hq : by8 s y = 34
          · have HE : Hid (tkEnd s a 4 = (y + 1, 0)) := quo_fin d1 HY.out.2.2 d2 hf ⟨hq, .inl rfl⟩
            have q34 : rpt s y = 34 := (is_pt s y 34 (by decide) d1).2 hq
            have hw1 := (chr_asc s y (by omega)).1
            have HT2 : Hid (∀ V, Rs w0 V g s y a f l → Calls Tryz.prog 76 #[.pointer (some ⟨g, 0, none⟩)] V fun e w' => e = .returned (.tuple #[]) ∧ Rs w0 w' g s (y + 1) a f l) := fun V hV => by
              have := take_any hV hs y3
              rw [rsz_in d1, hw1] at this
              exact this
            have HTl : Hid (∀ V, Rs w0 V g s (y + 1) a f l → Calls Tryz.prog 79 #[.pointer (some ⟨g, 0, none⟩), .int .u8 4] V fun e w' => e = .returned (.int .i64 0) ∧ Rs w0 w' g s (y + 1) a 0 (l ++ [tv s (tkTok s 4 a (y + 1) f)])) := fun V hV => tell_any hV 4 hs (by omega) (by omega) hl (by intro h; cases h)
            rw [q34] at HCt HEl
            clear hf hb hb1 hct hq hw1
            go_wp2_with (first | (go_at_call 82; refine HEl.out.mono ?_; rintro e w2 ⟨rfl, hw⟩; replace hw := hw.symm; subst hw) | (go_at_call 81; refine HF2.out.mono ?_; rintro e w3 ⟨rfl, hr3⟩; have z3 := HC.out _ _ hr3; rw [q34] at z3) | (go_at_call 83; refine (HCt.out _).mono ?_; rintro e w4 ⟨rfl, hw⟩; replace hw := hw.symm; subst hw) | (go_at_call 76; refine (HT2.out _ hr3).mono ?_; rintro e w5 ⟨rfl, hr5⟩) | (go_at_call 79; refine (HTl.out _ hr5).mono ?_; rintro e w6 ⟨rfl, hr6⟩))
            simp only [Exit.jump]
            go_ret
            rw [HE.out]
            exact ⟨rfl, TP.ok HE.out hr6⟩
          · have q34 : (rpt s y != 34) = true := by
              rw [bne_iff_ne]
              exact fun h => hq ((is_pt s y 34 (by decide) d1).1 h)
            have HO : Hid (run (gQuo s a 34 false) s.size (y + dw s y) (m + 1) = tkEnd s a 4) := quo_more d1 HY.out.2.2 d2 hf (fun h => hq h.1) (by rintro (h | h); exact hb h; cases h.1)
            clear hf hb hb1 hct hq
            go_wp2_with (first | (go_at_call 82; refine HEl.out.mono ?_; rintro e w2 ⟨rfl, hw⟩; replace hw := hw.symm; subst hw) | (go_at_call 81; refine HF2.out.mono ?_; rintro e w3 ⟨rfl, hr3⟩; have z3 := HC.out _ _ hr3) | (go_at_call 83; refine (HCt.out _).mono ?_; rintro e w4 ⟨rfl, hw⟩; replace hw := hw.symm; subst hw))
            go_step3
            refine ⟨rfl, ?_⟩
            try refine ⟨?_, by rw [HX.out.1, hr3.at]; have := HX.out.2; omega⟩
            exact ⟨y, _, _, _, _, _, _, _, _, _, _, _, _, _, _, _, _, _, _, _, _, _, _, _, _, _, _, _, _, _, _, _, _, _, _, _, _, _, _, _, _, _, _, _, _, _, _, _, _, _, _, _, _, _, _, _, _, _, _, _, _, _, _, _, _, _, _, _, _, _, _, _, _, _, ⟨y2, d1, HY.out.2.1, hr3, m + 1, HO.out⟩, rfl⟩)
end Go.Proofs.YtojjfbnpjhjidaaGreatDoor.Lx
