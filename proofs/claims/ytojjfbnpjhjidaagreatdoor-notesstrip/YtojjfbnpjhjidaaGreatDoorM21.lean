import Derived.Test.YtojjfbnpjhjidaaGreatDoorM18
set_option linter.unusedVariables false
set_option linter.unusedSimpArgs false
namespace Go.Proofs.YtojjfbnpjhjidaaGreatDoor.Lx
open Go.RowKit
theorem el_true {s : ByteArray} {y : Nat} (hc : s.size ≤ y ∨ by8 s y = 10) : (decide (rpt s y = 10) || decide (rpt s y = -1)) = true := by
  rw [Bool.or_eq_true, decide_eq_true_eq, decide_eq_true_eq]
  rcases hc with h | h
  · exact .inr ((none_pt s y).2 h)
  · by_cases e : y < s.size
    · exact .inl ((is_pt s y 10 (by decide) e).2 h)
    · exact .inr ((none_pt s y).2 (by omega))
theorem el_false {s : ByteArray} {y : Nat} (d1 : y < s.size) (d2 : by8 s y ≠ 10) : (decide (rpt s y = 10) || decide (rpt s y = -1)) = false := by
  rw [Bool.or_eq_false_iff, decide_eq_false_iff_not, decide_eq_false_iff_not]
  exact ⟨fun h => d2 ((is_pt s y 10 (by decide) d1).1 h), fun h => by have := (none_pt s y).1 h; omega⟩
set_option maxRecDepth 100000 in
set_option maxHeartbeats 4000000 in
theorem char_tok {w0 W : World} {g : Nat} {s : ByteArray} {a f : Nat} {l : List Tv} (h : Rs w0 W g s a a f l) (hs : s.size ≤ 2147483647) (ha : a < s.size) (hb : bd s a) (hk : tkBgn s a = 5) (hl : l.length ≤ 2147483647) :
    Calls Tryz.prog 62 #[.pointer (some ⟨g, 0, none⟩)] W fun e w' => e = .returned (.int .i64 ((tkEnd s a 5).2 : Nat)) ∧ TP w0 w' g s 5 a f l := by
  have hd := bgn5 hk
  have hE : run (gQuo s a 39 true) s.size (a + 1) 0 = tkEnd s a 5 := by unfold tkEnd; simp
  have hw := (chr_asc s a (by omega)).1
  have hb1 : bd s (a + 1) := (bd_asc s a ha (by omega)).2
  have HT : Hid (∀ V y, Rs w0 V g s y a f l → y ≤ s.size → Calls Tryz.prog 76 #[.pointer (some ⟨g, 0, none⟩)] V fun e w' => e = .returned (.tuple #[]) ∧ Rs w0 w' g s (y + rsz s y) a f l) := fun V y hV hy => take_any hV hs hy
  have HC : Hid (∀ V y, Rs w0 V g s y a f l → V.cell? ⟨g, 2, none⟩ = some (.int .i32 (rpt s y))) := fun V y hr => by
    obtain ⟨h1', h2', v, h3, h4⟩ := hr
    exact (Rq.cells h3).2.2.1
  have c2 := HC.out _ _ h
  rw [(is_pt s a 39 (by decide) ha).2 hd] at c2
  have HR : Hid (Rs w0 W g s a a f l ∧ rsz s a = 1) := ⟨h, by rw [rsz_in ha]; exact hw⟩
  clear hd hw h hk
  go_enter Tryz.func62, Tryz.ntmps62
  go_wp2_with fail
  refine wp_scope_jumps 0 (fun a' w' => ∃ (u1 u2 u3 u4 u5 u6 u7 u8 u9 u10 u11 u12 u13 u14 u15 u16 u17 u18 u19 u20 u21 u22 u23 u24 u25 u26 u27 u28 u29 u30 u31 u32 u33 u34 u35 u36 u37 u38 u39 u40 u41 u42 u43 u44 u45 u46 u47 u48 u49 u50 u51 u52 u53 u54 u55 u56 u57 u58 u59 u60 u61 u62 u63 u64 u65 u66 u67 u68 u69 u70 u71 u72 u73 : Value), Hid (Rs w0 w' g s a a f l) ∧ a' = { tmps := #[.pointer (some ⟨g, 0, none⟩), u1, u2, u3, u4, u5, u6, u7, u8, u9, u10, u11, u12, u13, u14, u15, u16, u17, u18, u19, u20, u21, u22, u23, u24, u25, u26, u27, u28, u29, u30, u31, u32, u33, u34, u35, u36, u37, u38, u39, u40, u41, u42, u43, u44, u45, u46, u47, u48, u49, u50, u51, u52, u53, u54, u55, u56, u57, u58, u59, u60, u61, u62, u63, u64, u65, u66, u67, u68, u69, u70, u71, u72, u73], defers := [] }) (fun _ w' => 0) rfl ?_ ?_
  · go_wp2_with fail
    go_step3
    exact ⟨rfl, _, _, _, _, _, _, _, _, _, _, _, _, _, _, _, _, _, _, _, _, _, _, _, _, _, _, _, _, _, _, _, _, _, _, _, _, _, _, _, _, _, _, _, _, _, _, _, _, _, _, _, _, _, _, _, _, _, _, _, _, _, _, _, _, _, _, _, _, _, _, _, _, _, HR.out.1, rfl⟩
  · rintro a' w' ⟨u1, u2, u3, u4, u5, u6, u7, u8, u9, u10, u11, u12, u13, u14, u15, u16, u17, u18, u19, u20, u21, u22, u23, u24, u25, u26, u27, u28, u29, u30, u31, u32, u33, u34, u35, u36, u37, u38, u39, u40, u41, u42, u43, u44, u45, u46, u47, u48, u49, u50, u51, u52, u53, u54, u55, u56, u57, u58, u59, u60, u61, u62, u63, u64, u65, u66, u67, u68, u69, u70, u71, u72, u73, HJ, rfl⟩
    clear c2
    go_wp2_with fail
    refine (HT.out _ _ HJ.out (by omega)).mono ?_
    rintro e w1 ⟨rfl, y5⟩
    rw [HR.out.2] at y5
    have z2 := HC.out _ _ y5
    have HY : Hid (Rs w0 w1 g s (a + 1) a f l) := y5
    have hE2 : Hid (run (gQuo s a 39 true) s.size (a + 1) 0 = tkEnd s a 5) := hE
    obtain ⟨y, hy⟩ : ∃ y, a + 1 = y := ⟨_, rfl⟩
    rw [hy] at z2 HY hE2 hb1
    have y3 : y ≤ s.size := by omega
    have y2 : a ≤ y := by omega
    have ylo : y ≤ a + 1 := by omega
    clear HJ y5 hE hy
    by_cases hc : s.size ≤ y ∨ by8 s y = 10
    · have HEl : Hid (Calls Tryz.prog 82 #[.int .i32 (rpt s y)] w1 fun e w' => e = .returned (.bool true) ∧ w' = w1) := by rw [← el_true hc]; exact endsLine_any _ _
      have HE : Hid (tkEnd s a 5 = (a, 101)) := quo_open y3 hE2.out hc
      clear hc
      go_wp2_with (first | (go_at_call 82; refine HEl.out.mono ?_; rintro e w2 ⟨rfl, hw⟩; replace hw := hw.symm; subst hw))
      simp only [Exit.jump]
      go_ret
      rw [HE.out]
      exact ⟨rfl, TP.bad HE.out (by decide) hb1 y2 HY.out (by intro h; cases h)⟩
    · obtain ⟨d1, d2⟩ : y < s.size ∧ by8 s y ≠ 10 := ⟨by omega, fun h => hc (.inr h)⟩
      have HEl : Hid (Calls Tryz.prog 82 #[.int .i32 (rpt s y)] w1 fun e w' => e = .returned (.bool false) ∧ w' = w1) := by rw [← el_false d1 d2]; exact endsLine_any _ _
      have hct := ctl_pt s y d1
      obtain ⟨w1', w2', w3'⟩ := dw_facts s y d1
      clear hc
      by_cases hbb : tkCtl s y = true
      · have HCt : Hid (∀ V, Calls Tryz.prog 83 #[.int .i32 (rpt s y)] V fun e w' => e = .returned (.bool true) ∧ w' = V) := fun V => by
          rw [← hbb, ← hct]; exact isControl_any _ _
        have HE : Hid (tkEnd s a 5 = (y, 102)) := quo_wrong d1 hE2.out d2 (by omega) (by rintro ⟨_, h | h⟩ <;> cases h) (.inl hbb)
        clear hbb hct
        go_wp2_with (first | (go_at_call 82; refine HEl.out.mono ?_; rintro e w2 ⟨rfl, hw⟩; replace hw := hw.symm; subst hw) | (go_at_call 83; refine (HCt.out _).mono ?_; rintro e w4 ⟨rfl, hw⟩; replace hw := hw.symm; subst hw))
        simp only [Exit.jump]
        go_ret
        rw [HE.out]
        exact ⟨rfl, TP.bad HE.out (by decide) hb1 y2 HY.out (fun _ => rfl)⟩
      · have hbb1 : tkCtl s y = false := by simpa using hbb
        have HCt : Hid (∀ V, Calls Tryz.prog 83 #[.int .i32 (rpt s y)] V fun e w' => e = .returned (.bool false) ∧ w' = V) := fun V => by
          rw [← hbb1, ← hct]; exact isControl_any _ _
        by_cases hq : by8 s y = 39
        · have HE : Hid (tkEnd s a 5 = (y, 102)) := quo_wrong d1 hE2.out d2 (by omega) (by rintro ⟨_, h | h⟩ <;> cases h) (.inr ⟨rfl, .inr hq⟩)
          have q39 : rpt s y = 39 := (is_pt s y 39 (by decide) d1).2 hq
          rw [q39] at z2 HCt HEl
          clear hbb hbb1 hct hq
          go_wp2_with (first | (go_at_call 82; refine HEl.out.mono ?_; rintro e w2 ⟨rfl, hw⟩; replace hw := hw.symm; subst hw) | (go_at_call 83; refine (HCt.out _).mono ?_; rintro e w4 ⟨rfl, hw⟩; replace hw := hw.symm; subst hw))
          simp only [Exit.jump]
          go_ret
          rw [HE.out]
          exact ⟨rfl, TP.bad HE.out (by decide) hb1 y2 HY.out (fun _ => rfl)⟩
        · have q39 : (rpt s y == 39) = false := by
            rw [beq_eq_false_iff_ne]
            exact fun h => hq ((is_pt s y 39 (by decide) d1).1 h)
          have hE3 := quo_more d1 hE2.out d2 (by omega) (by rintro ⟨h, _⟩; exact hq h) (by rintro (h | ⟨_, h | h⟩); exact hbb h; cases h; exact hq h)
          have HT2 : Hid (∀ V, Rs w0 V g s y a f l → Calls Tryz.prog 76 #[.pointer (some ⟨g, 0, none⟩)] V fun e w' => e = .returned (.tuple #[]) ∧ Rs w0 w' g s (y + dw s y) a f l) := fun V hV => by
            have := take_any hV hs y3
            rw [rsz_in d1] at this
            exact this
          have hb2 : bd s (y + dw s y) := bd_next hb1 d1
          obtain ⟨z, hz⟩ : ∃ z, y + dw s y = z := ⟨_, rfl⟩
          rw [hz] at hE3 HT2 hb2 w3'
          have zlo : a ≤ z ∧ z ≤ a + 5 := by omega
          clear hbb hbb1 hct hq hz
          have HE3 : Hid (run (gQuo s a 39 true) s.size z (0 + 1) = tkEnd s a 5) := hE3
          clear hE3
          by_cases hc : s.size ≤ z ∨ by8 s z = 10
          · have HEl2 : Hid (∀ V, Calls Tryz.prog 82 #[.int .i32 (rpt s z)] V fun e w' => e = .returned (.bool true) ∧ w' = V) := fun V => by rw [← el_true hc]; exact endsLine_any _ _
            have HE : Hid (tkEnd s a 5 = (a, 101)) := quo_open w3' HE3.out hc
            clear hc
            go_wp2_with (first | (go_at_call 76; refine (HT2.out _ HY.out).mono ?_; rintro e w5 ⟨rfl, hr5⟩; have z5 := HC.out _ _ hr5) | (go_at_call 82; have hg := hr5; clear hg; refine (HEl2.out _).mono ?_; rintro e w6 ⟨rfl, hw⟩; replace hw := hw.symm; subst hw) | (go_at_call 82; refine HEl.out.mono ?_; rintro e w2 ⟨rfl, hw⟩; replace hw := hw.symm; subst hw) | (go_at_call 83; refine (HCt.out _).mono ?_; rintro e w4 ⟨rfl, hw⟩; replace hw := hw.symm; subst hw))
            simp only [Exit.jump]
            go_ret
            rw [HE.out]
            exact ⟨rfl, TP.bad HE.out (by decide) hb2 zlo.1 hr5 (by intro h; cases h)⟩
          · obtain ⟨e1, e2⟩ : z < s.size ∧ by8 s z ≠ 10 := ⟨by omega, fun h => hc (.inr h)⟩
            have HEl2 : Hid (∀ V, Calls Tryz.prog 82 #[.int .i32 (rpt s z)] V fun e w' => e = .returned (.bool false) ∧ w' = V) := fun V => by rw [← el_false e1 e2]; exact endsLine_any _ _
            have dz := dw_facts s z e1
            clear hc
            by_cases hq : by8 s z = 39
            · have HE : Hid (tkEnd s a 5 = (z + 1, 0)) := quo_fin e1 HE3.out e2 (by omega) ⟨hq, .inr rfl⟩
              have qz : rpt s z = 39 := (is_pt s z 39 (by decide) e1).2 hq
              have hwz := (chr_asc s z (by omega)).1
              have HT3 : Hid (∀ V, Rs w0 V g s z a f l → Calls Tryz.prog 76 #[.pointer (some ⟨g, 0, none⟩)] V fun e w' => e = .returned (.tuple #[]) ∧ Rs w0 w' g s (z + 1) a f l) := fun V hV => by
                have := take_any hV hs w3'
                rw [rsz_in e1, hwz] at this
                exact this
              have HTl : Hid (∀ V, Rs w0 V g s (z + 1) a f l → Calls Tryz.prog 79 #[.pointer (some ⟨g, 0, none⟩), .int .u8 5] V fun e w' => e = .returned (.int .i64 0) ∧ Rs w0 w' g s (z + 1) a 0 (l ++ [tv s (tkTok s 5 a (z + 1) f)])) := fun V hV => tell_any hV 5 hs (by omega) (by omega) hl (by intro h; cases h)
              rw [qz] at HEl2
              clear hq hwz dz
              go_wp2_with (first | (go_at_call 76; have hg := hr5; clear hg; refine (HT3.out _ hr5).mono ?_; rintro e w7 ⟨rfl, hr7⟩) | (go_at_call 76; refine (HT2.out _ HY.out).mono ?_; rintro e w5 ⟨rfl, hr5⟩; have z5 := HC.out _ _ hr5; rw [qz] at z5) | (go_at_call 82; have hg := hr5; clear hg; refine (HEl2.out _).mono ?_; rintro e w6 ⟨rfl, hw⟩; replace hw := hw.symm; subst hw) | (go_at_call 82; refine HEl.out.mono ?_; rintro e w2 ⟨rfl, hw⟩; replace hw := hw.symm; subst hw) | (go_at_call 83; refine (HCt.out _).mono ?_; rintro e w4 ⟨rfl, hw⟩; replace hw := hw.symm; subst hw) | (go_at_call 79; refine (HTl.out _ hr7).mono ?_; rintro e w8 ⟨rfl, hr8⟩))
              simp only [Exit.jump]
              go_ret
              rw [HE.out]
              exact ⟨rfl, TP.ok HE.out hr8⟩
            · have HE : Hid (tkEnd s a 5 = (z, 102)) := quo_wrong e1 HE3.out e2 (by omega) (by rintro ⟨h, _⟩; exact hq h) (.inr ⟨rfl, .inl rfl⟩)
              have qz : (rpt s z != 39) = true := by
                rw [bne_iff_ne]
                exact fun h => hq ((is_pt s z 39 (by decide) e1).1 h)
              clear hq dz
              go_wp2_with (first | (go_at_call 76; refine (HT2.out _ HY.out).mono ?_; rintro e w5 ⟨rfl, hr5⟩; have z5 := HC.out _ _ hr5) | (go_at_call 82; have hg := hr5; clear hg; refine (HEl2.out _).mono ?_; rintro e w6 ⟨rfl, hw⟩; replace hw := hw.symm; subst hw) | (go_at_call 82; refine HEl.out.mono ?_; rintro e w2 ⟨rfl, hw⟩; replace hw := hw.symm; subst hw) | (go_at_call 83; refine (HCt.out _).mono ?_; rintro e w4 ⟨rfl, hw⟩; replace hw := hw.symm; subst hw))
              simp only [Exit.jump]
              go_ret
              rw [HE.out]
              exact ⟨rfl, TP.bad HE.out (by decide) hb2 zlo.1 hr5 (fun _ => rfl)⟩
end Go.Proofs.YtojjfbnpjhjidaaGreatDoor.Lx
