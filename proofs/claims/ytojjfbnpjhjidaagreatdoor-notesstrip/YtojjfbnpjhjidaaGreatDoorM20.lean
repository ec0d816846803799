import Derived.Test.YtojjfbnpjhjidaaGreatDoorM18
set_option linter.unusedVariables false
set_option linter.unusedSimpArgs false
namespace Go.Proofs.YtojjfbnpjhjidaaGreatDoor.Lx
open Go.RowKit
structure JC (w0 W : World) (g : Nat) (s : ByteArray) (o : Bool) (k a f : Nat) (l : List Tv) (x : Nat) : Prop where
  ax : a ≤ x
  xs : x < s.size
  bx : bd s x
  rs : Rs w0 W g s x a f l
  h10 : o = false → by8 s x ≠ 10
  h125 : o = true → by8 s x ≠ 125
  ful : x + dw s x - a ≤ 65535
  on : ∃ m, run (gCom s a o) s.size x m = tkEnd s a k
theorem JC.next {w0 W W' : World} {g : Nat} {s : ByteArray} {o : Bool} {k a f : Nat} {l : List Tv} {x : Nat} (h : JC w0 W g s o k a f l x) (hr : Rs w0 W' g s (x + rsz s x) a f l) :
    ∃ y, x < y ∧ a < y ∧ y ≤ s.size ∧ y - a ≤ 65535 ∧ bd s y ∧ Rs w0 W' g s y a f l ∧ ∃ m, run (gCom s a o) s.size y m = tkEnd s a k := by
  obtain ⟨h1, h2, h3, h4, h5, h6, h7, m, h8⟩ := h
  obtain ⟨d, _, d2⟩ := dw_facts s x h2
  rw [rsz_in h2] at hr
  exact ⟨x + dw s x, by omega, by omega, d2, h7, bd_next h3 h2, hr, _, com_go m h2 h5 h6 h7 h8⟩
set_option maxRecDepth 100000 in
set_option maxHeartbeats 4000000 in
theorem line_tok {w0 W : World} {g : Nat} {s : ByteArray} {a f : Nat} {l : List Tv} (h : Rs w0 W g s a a f l) (hs : s.size ≤ 2147483647) (ha : a < s.size) (hb : bd s a) (hk : tkBgn s a = 7) (hl : l.length ≤ 2147483647) :
    Calls Tryz.prog 64 #[.pointer (some ⟨g, 0, none⟩)] W fun e w' => e = .returned (.int .i64 ((tkEnd s a 7).2 : Nat)) ∧ TP w0 w' g s 7 a f l := by
  have hd : by8 s a = 47 := (bgn7 hk).1
  have hE : tkEnd s a 7 = run (gCom s a false) s.size a 0 := by unfold tkEnd; simp
  have hw := (chr_asc s a (by omega)).1
  have hbl : tkBl (by8 s a) = false := by rw [hd]; decide
  have HJ : Hid (JC w0 W g s false 7 a f l a) := ⟨Nat.le_refl _, ha, hb, h, fun _ => by omega, fun _ => by omega, by omega, 0, hE.symm⟩
  have HT : Hid (∀ V x, JC w0 V g s false 7 a f l x → Calls Tryz.prog 76 #[.pointer (some ⟨g, 0, none⟩)] V fun e w' => e = .returned (.tuple #[]) ∧ ∃ y, x < y ∧ a < y ∧ y ≤ s.size ∧ y - a ≤ 65535 ∧ bd s y ∧ Rs w0 w' g s y a f l ∧ ∃ m, run (gCom s a false) s.size y m = tkEnd s a 7) := fun V x hx => by
    refine (take_any hx.rs hs (Nat.le_of_lt hx.xs)).mono ?_
    rintro e w' ⟨rfl, hr⟩
    exact ⟨rfl, hx.next hr⟩
  have HFl : Hid (∀ V y, Rs w0 V g s y a f l → a ≤ y → y ≤ s.size → Calls Tryz.prog 81 #[.pointer (some ⟨g, 0, none⟩)] V fun e w' => e = .returned (.bool (decide (65535 < y + rsz s y - a))) ∧ Rs w0 w' g s y a f l) := fun V y hr h1 h2 => by
    obtain ⟨h1', h2', v, h3, h4⟩ := hr
    refine (isFull_any h3 hs h1 h2 (by by_cases e : y < s.size; rw [rsz_in e]; exact (dw_facts s y e).2.1; rw [rsz_out (by omega)]; omega)).mono ?_
    rintro e w' ⟨rfl, hb⟩
    exact ⟨rfl, Rq.below ⟨h1', h2', v, h3, h4⟩ hb⟩
  have HC : Hid (∀ V y, Rs w0 V g s y a f l → V.cell? ⟨g, 2, none⟩ = some (.int .i32 (rpt s y))) := fun V y hr => by
    obtain ⟨h1', h2', v, h3, h4⟩ := hr
    exact (Rq.cells h3).2.2.1
  have c2 := HC.out _ _ h
  rw [(is_pt s a 47 (by decide) ha).2 hd] at c2
  clear hd hE hw h hk
  go_enter Tryz.func64, Tryz.ntmps64
  go_wp2_with fail
  refine wp_scope_jumps 1 (fun a' w' => ∃ (x : Nat) (u1 u2 u3 u4 u5 u6 u7 u8 u9 u10 u11 u12 u13 u14 u15 u16 u17 u18 u19 u20 u21 u22 u23 u24 u25 u26 u27 u28 u29 u30 u31 u32 u33 u34 u35 u36 u37 u38 u39 u40 u41 : Value), Hid (JC w0 w' g s false 7 a f l x) ∧ a' = { tmps := #[.pointer (some ⟨g, 0, none⟩), u1, u2, u3, u4, u5, u6, u7, u8, u9, u10, u11, u12, u13, u14, u15, u16, u17, u18, u19, u20, u21, u22, u23, u24, u25, u26, u27, u28, u29, u30, u31, u32, u33, u34, u35, u36, u37, u38, u39, u40, u41], defers := [] }) (fun _ w' => s.size - cntAt w' g 1) rfl ?_ ?_
  rotate_left
  rintro a' w' ⟨x, u1, u2, u3, u4, u5, u6, u7, u8, u9, u10, u11, u12, u13, u14, u15, u16, u17, u18, u19, u20, u21, u22, u23, u24, u25, u26, u27, u28, u29, u30, u31, u32, u33, u34, u35, u36, u37, u38, u39, u40, u41, HJ, rfl⟩
  have HX : Hid (cntAt w' g 1 = x ∧ x < s.size) := ⟨HJ.out.rs.at, HJ.out.xs⟩
  rotate_left
  go_wp2_with fail
  go_step3
  all_goals (
    clear c2
    go_wp2_with fail
    refine (HT.out _ _ HJ.out).mono ?_
    rintro e w1 ⟨rfl, y, y1, y2, y3, yb, y4, y5, m, y6⟩
    have z2 := HC.out _ _ y5
    have hfl := HFl.out _ _ y5 (Nat.le_of_lt y2) y3
    have HY : Hid (Rs w0 w1 g s y a f l ∧ bd s y ∧ run (gCom s a false) s.size y m = tkEnd s a 7) := ⟨y5, y4, y6⟩
    have hel := endsLine_any (rpt s y) w1
    clear HJ y5 y4 y6
    by_cases hc : s.size ≤ y ∨ by8 s y = 10
    · have e1 : (decide (rpt s y = 10) || decide (rpt s y = -1)) = true := by
        rw [Bool.or_eq_true, decide_eq_true_eq, decide_eq_true_eq]
        rcases hc with h | h
        · exact .inr ((none_pt s y).2 h)
        · by_cases e : y < s.size
          · exact .inl ((is_pt s y 10 (by decide) e).2 h)
          · exact .inr ((none_pt s y).2 (by omega))
      rw [e1] at hel
      have HEl : Hid (Calls Tryz.prog 82 #[.int .i32 (rpt s y)] w1 fun e w' => e = .returned (.bool true) ∧ w' = w1) := hel
      have HE : Hid (tkEnd s a 7 = (y, 0)) := com_line y3 HY.out.2.2 hc
      have HTl : Hid (Calls Tryz.prog 79 #[.pointer (some ⟨g, 0, none⟩), .int .u8 7] w1 fun e w' => e = .returned (.int .i64 0) ∧ Rs w0 w' g s y a 0 (l ++ [tv s (tkTok s 7 a y f)])) := tell_any HY.out.1 7 hs (Nat.le_of_lt y2) y3 hl (fun _ => ⟨y2, hbl⟩)
      clear hel e1 hc hfl
      go_wp2_with (first | (go_at_call 82; refine HEl.out.mono ?_; rintro e w2 ⟨rfl, hw⟩; replace hw := hw.symm; subst hw) | (go_at_call 79; refine HTl.out.mono ?_; rintro e w6 ⟨rfl, hr6⟩))
      simp only [Exit.jump]
      go_ret
      rw [HE.out]
      exact ⟨rfl, TP.ok HE.out hr6⟩
    · obtain ⟨d1, d2⟩ : y < s.size ∧ by8 s y ≠ 10 := ⟨by omega, fun h => hc (.inr h)⟩
      have e1 : (decide (rpt s y = 10) || decide (rpt s y = -1)) = false := by
        rw [Bool.or_eq_false_iff, decide_eq_false_iff_not, decide_eq_false_iff_not]
        exact ⟨fun h => d2 ((is_pt s y 10 (by decide) d1).1 h), fun h => by have := (none_pt s y).1 h; omega⟩
      rw [e1] at hel
      have HEl : Hid (Calls Tryz.prog 82 #[.int .i32 (rpt s y)] w1 fun e w' => e = .returned (.bool false) ∧ w' = w1) := hel
      have HF2 : Hid (Calls Tryz.prog 81 #[.pointer (some ⟨g, 0, none⟩)] w1 fun e w' => e = .returned (.bool (decide (65535 < y + rsz s y - a))) ∧ Rs w0 w' g s y a f l) := hfl
      rw [rsz_in d1] at HF2
      clear hc hfl e1 hel
      by_cases hf : 65535 < y + dw s y - a
      · have HE : Hid (tkEnd s a 7 = (a, 103)) := com_full m d1 (fun _ => d2) (Nat.le_of_lt y2) yb hf HY.out.2.2
        rw [decide_eq_true hf] at HF2
        clear hf
        go_wp2_with (first | (go_at_call 82; refine HEl.out.mono ?_; rintro e w2 ⟨rfl, hw⟩; replace hw := hw.symm; subst hw) | (go_at_call 81; refine HF2.out.mono ?_; rintro e w3 ⟨rfl, hr3⟩; have z3 := HC.out _ _ hr3))
        simp only [Exit.jump]
        go_ret
        rw [HE.out]
        exact ⟨rfl, TP.bad HE.out (by decide) HY.out.2.1 (Nat.le_of_lt y2) hr3 (by intro h; cases h)⟩
      · have HO : Hid (y + dw s y - a ≤ 65535) := by show _ ≤ _; omega
        rw [decide_eq_false hf] at HF2
        clear hf
        go_wp2_with (first | (go_at_call 82; refine HEl.out.mono ?_; rintro e w2 ⟨rfl, hw⟩; replace hw := hw.symm; subst hw) | (go_at_call 81; refine HF2.out.mono ?_; rintro e w3 ⟨rfl, hr3⟩; have z3 := HC.out _ _ hr3))
        go_step3
        refine ⟨rfl, ?_⟩
        try refine ⟨?_, by rw [HX.out.1, hr3.at]; have := HX.out.2; omega⟩
        exact ⟨y, _, _, _, _, _, _, _, _, _, _, _, _, _, _, _, _, _, _, _, _, _, _, _, _, _, _, _, _, _, _, _, _, _, _, _, _, _, _, _, _, _, ⟨Nat.le_of_lt y2, d1, HY.out.2.1, hr3, fun _ => d2, fun h => (by cases h), HO.out, m, HY.out.2.2⟩, rfl⟩)
set_option maxRecDepth 100000 in
set_option maxHeartbeats 4000000 in
theorem block_tok {w0 W : World} {g : Nat} {s : ByteArray} {a f : Nat} {l : List Tv} (h : Rs w0 W g s a a f l) (hs : s.size ≤ 2147483647) (ha : a < s.size) (hb : bd s a) (hk : tkBgn s a = 8) (hl : l.length ≤ 2147483647) :
    Calls Tryz.prog 64 #[.pointer (some ⟨g, 0, none⟩)] W fun e w' => e = .returned (.int .i64 ((tkEnd s a 8).2 : Nat)) ∧ TP w0 w' g s 8 a f l := by
  have hd : by8 s a = 123 := bgn8 hk
  have hE : tkEnd s a 8 = run (gCom s a true) s.size a 0 := by unfold tkEnd; simp
  have hw := (chr_asc s a (by omega)).1
  have hbl : tkBl (by8 s a) = false := by rw [hd]; decide
  have HJ : Hid (JC w0 W g s true 8 a f l a) := ⟨Nat.le_refl _, ha, hb, h, fun _ => by omega, fun _ => by omega, by omega, 0, hE.symm⟩
  have HT : Hid (∀ V x, JC w0 V g s true 8 a f l x → Calls Tryz.prog 76 #[.pointer (some ⟨g, 0, none⟩)] V fun e w' => e = .returned (.tuple #[]) ∧ ∃ y, x < y ∧ a < y ∧ y ≤ s.size ∧ y - a ≤ 65535 ∧ bd s y ∧ Rs w0 w' g s y a f l ∧ ∃ m, run (gCom s a true) s.size y m = tkEnd s a 8) := fun V x hx => by
    refine (take_any hx.rs hs (Nat.le_of_lt hx.xs)).mono ?_
    rintro e w' ⟨rfl, hr⟩
    exact ⟨rfl, hx.next hr⟩
  have HFl : Hid (∀ V y, Rs w0 V g s y a f l → a ≤ y → y ≤ s.size → Calls Tryz.prog 81 #[.pointer (some ⟨g, 0, none⟩)] V fun e w' => e = .returned (.bool (decide (65535 < y + rsz s y - a))) ∧ Rs w0 w' g s y a f l) := fun V y hr h1 h2 => by
    obtain ⟨h1', h2', v, h3, h4⟩ := hr
    refine (isFull_any h3 hs h1 h2 (by by_cases e : y < s.size; rw [rsz_in e]; exact (dw_facts s y e).2.1; rw [rsz_out (by omega)]; omega)).mono ?_
    rintro e w' ⟨rfl, hb⟩
    exact ⟨rfl, Rq.below ⟨h1', h2', v, h3, h4⟩ hb⟩
  have HC : Hid (∀ V y, Rs w0 V g s y a f l → V.cell? ⟨g, 2, none⟩ = some (.int .i32 (rpt s y))) := fun V y hr => by
    obtain ⟨h1', h2', v, h3, h4⟩ := hr
    exact (Rq.cells h3).2.2.1
  have c2 := HC.out _ _ h
  rw [(is_pt s a 123 (by decide) ha).2 hd] at c2
  clear hd hE hw h hk
  go_enter Tryz.func64, Tryz.ntmps64
  go_wp2_with fail
  refine wp_scope_jumps 0 (fun a' w' => ∃ (x : Nat) (u1 u2 u3 u4 u5 u6 u7 u8 u9 u10 u11 u12 u13 u14 u15 u16 u17 u18 u19 u20 u21 u22 u23 u24 u25 u26 u27 u28 u29 u30 u31 u32 u33 u34 u35 u36 u37 u38 u39 u40 u41 : Value), Hid (JC w0 w' g s true 8 a f l x) ∧ a' = { tmps := #[.pointer (some ⟨g, 0, none⟩), u1, u2, u3, u4, u5, u6, u7, u8, u9, u10, u11, u12, u13, u14, u15, u16, u17, u18, u19, u20, u21, u22, u23, u24, u25, u26, u27, u28, u29, u30, u31, u32, u33, u34, u35, u36, u37, u38, u39, u40, u41], defers := [] }) (fun _ w' => s.size - cntAt w' g 1) rfl ?_ ?_
  · go_wp2_with fail
    go_step3
    exact ⟨rfl, a, _, _, _, _, _, _, _, _, _, _, _, _, _, _, _, _, _, _, _, _, _, _, _, _, _, _, _, _, _, _, _, _, _, _, _, _, _, _, _, _, _, HJ, rfl⟩
  · rintro a' w' ⟨x, u1, u2, u3, u4, u5, u6, u7, u8, u9, u10, u11, u12, u13, u14, u15, u16, u17, u18, u19, u20, u21, u22, u23, u24, u25, u26, u27, u28, u29, u30, u31, u32, u33, u34, u35, u36, u37, u38, u39, u40, u41, HJ, rfl⟩
    have HX : Hid (cntAt w' g 1 = x ∧ x < s.size) := ⟨HJ.out.rs.at, HJ.out.xs⟩
    clear c2
    go_wp2_with fail
    refine (HT.out _ _ HJ.out).mono ?_
    rintro e w1 ⟨rfl, y, y1, y2, y3, yb, y4, y5, m, y6⟩
    have z2 := HC.out _ _ y5
    have hfl := HFl.out _ _ y5 (Nat.le_of_lt y2) y3
    have HY : Hid (Rs w0 w1 g s y a f l ∧ bd s y ∧ run (gCom s a true) s.size y m = tkEnd s a 8) := ⟨y5, y4, y6⟩
    clear HJ y5 y4 y6
    by_cases hc : s.size ≤ y
    · rw [(none_pt s y).2 hc] at z2
      have HE : Hid (tkEnd s a 8 = (a, 101)) := com_open y3 HY.out.2.2 hc
      clear hc hfl
      go_wp2_with fail
      simp only [Exit.jump]
      go_ret
      rw [HE.out]
      exact ⟨rfl, TP.bad HE.out (by decide) HY.out.2.1 (Nat.le_of_lt y2) HY.out.1 (by intro h; cases h)⟩
    · have d1 : y < s.size := by omega
      have e1 : (rpt s y == -1) = false := by rw [beq_eq_false_iff_ne]; exact fun h => hc ((none_pt s y).1 h)
      have HF2 : Hid (Calls Tryz.prog 81 #[.pointer (some ⟨g, 0, none⟩)] w1 fun e w' => e = .returned (.bool (decide (65535 < y + rsz s y - a))) ∧ Rs w0 w' g s y a f l) := hfl
      rw [rsz_in d1] at HF2
      clear hc hfl
      by_cases hf : 65535 < y + dw s y - a
      · have HE : Hid (tkEnd s a 8 = (a, 103)) := com_full m d1 (by intro h; cases h) (Nat.le_of_lt y2) yb hf HY.out.2.2
        rw [decide_eq_true hf] at HF2
        clear hf
        go_wp2_with (first | (go_at_call 81; refine HF2.out.mono ?_; rintro e w3 ⟨rfl, hr3⟩; have z3 := HC.out _ _ hr3))
        simp only [Exit.jump]
        go_ret
        rw [HE.out]
        exact ⟨rfl, TP.bad HE.out (by decide) HY.out.2.1 (Nat.le_of_lt y2) hr3 (by intro h; cases h)⟩
      · rw [decide_eq_false hf] at HF2
        by_cases hq : by8 s y = 125
        · have hw1 := (chr_asc s y (by omega)).1
          have HE : Hid (tkEnd s a 8 = (y + 1, 0)) := com_brace d1 HY.out.2.2 hq (by omega)
          have q34 : rpt s y = 125 := (is_pt s y 125 (by decide) d1).2 hq
          have HT2 : Hid (∀ V, Rs w0 V g s y a f l → Calls Tryz.prog 76 #[.pointer (some ⟨g, 0, none⟩)] V fun e w' => e = .returned (.tuple #[]) ∧ Rs w0 w' g s (y + 1) a f l) := fun V hV => by
            have := take_any hV hs y3
            rw [rsz_in d1, hw1] at this
            exact this
          have HTl : Hid (∀ V, Rs w0 V g s (y + 1) a f l → Calls Tryz.prog 79 #[.pointer (some ⟨g, 0, none⟩), .int .u8 8] V fun e w' => e = .returned (.int .i64 0) ∧ Rs w0 w' g s (y + 1) a 0 (l ++ [tv s (tkTok s 8 a (y + 1) f)])) := fun V hV => tell_any hV 8 hs (by omega) (by omega) hl (by intro h; cases h)
          rw [q34] at z2
          clear hf hq hw1 e1
          go_wp2_with (first | (go_at_call 81; refine HF2.out.mono ?_; rintro e w3 ⟨rfl, hr3⟩; have z3 := HC.out _ _ hr3; rw [q34] at z3) | (go_at_call 76; refine (HT2.out _ hr3).mono ?_; rintro e w5 ⟨rfl, hr5⟩) | (go_at_call 79; refine (HTl.out _ hr5).mono ?_; rintro e w6 ⟨rfl, hr6⟩))
          simp only [Exit.jump]
          go_ret
          rw [HE.out]
          exact ⟨rfl, TP.ok HE.out hr6⟩
        · have q34 : (rpt s y != 125) = true := by
            rw [bne_iff_ne]
            exact fun h => hq ((is_pt s y 125 (by decide) d1).1 h)
          have HO : Hid (y + dw s y - a ≤ 65535 ∧ by8 s y ≠ 125) := ⟨by omega, hq⟩
          clear hf hq
          go_wp2_with (first | (go_at_call 81; refine HF2.out.mono ?_; rintro e w3 ⟨rfl, hr3⟩; have z3 := HC.out _ _ hr3))
          go_step3
          refine ⟨rfl, ⟨y, _, _, _, _, _, _, _, _, _, _, _, _, _, _, _, _, _, _, _, _, _, _, _, _, _, _, _, _, _, _, _, _, _, _, _, _, _, _, _, _, _, ⟨Nat.le_of_lt y2, d1, HY.out.2.1, hr3, fun h => (by cases h), fun _ => HO.out.2, HO.out.1, m, HY.out.2.2⟩, rfl⟩, ?_⟩
          rw [HX.out.1, hr3.at]
          have this := HX.out.2
          omega
end Go.Proofs.YtojjfbnpjhjidaaGreatDoor.Lx
