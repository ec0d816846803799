import Derived.Test.YtkigadnkclkopaaGreatGk
import Derived.Test.YtkigadnkclkopaaGreatGl
set_option linter.unusedVariables false
set_option linter.unusedSimpArgs false
namespace Go.Proofs.YtkigadnkclkopaaGreat
open Go.RowKit

/-! The choices, by the rows. -/
theorem RwC.at {f : Nat} {row : List It} {b n : Nat} (h : RwC f row b n) (hb : 90 ≤ b) (X : Sx) (d : D) : RwA X f row n d := fun r W hs hr hm => h X r d W hs (Nat.le_trans hr hb) hm
theorem qn_opD {L : List Tv} {n : Int} {d : D} {f : Tv → Bool} : qn L (opD n d) f = qn L d f := by unfold qn nxt opD; by_cases h : d.e = 0 <;> simp [h]
theorem fac_cs {t : Tv} (h : facN t = 32) : Fl.takes t .cs = true := by
  unfold facN at h
  simp only [Fl.takes]
  repeat' (split at h)
  all_goals first | assumption | (cases h; done)
theorem factor_pc (n : Nat) (hminus : RwC 160 gr_minus 90 n) (hnot : RwC 159 gr_not 90 n) (hgroup : RwC 161 gr_group 90 n) (hobject : RwC 127 gr_object 95 n) : PC .factor 144 n := by
  intro X r d W h
  refine (factor_any h).mono ?_
  rintro e w' ⟨rfl, hb⟩
  refine ⟨_, _, rfl, ?_, hb⟩
  have hcs : qn (tks X.l) d (fun t => Fl.takes t .cs) = Fl.takes (nx X (ps X.l d.i)) .cs := h.hqn (by simp [Fl.takes, tv0])
  have hd : drow (nxt (tks X.l) d) .factor = M.row (nx X (ps X.l d.i)) .factor := by rw [h.hnx]; exact drow_factor _
  generalize nx X (ps X.l d.i) = t at *
  have hf : facN t = 25 ∨ facN t = 26 ∨ facN t = 27 ∨ facN t = 32 ∨ facN t = 28 ∨ facN t = 0 := by unfold facN; (repeat' split) <;> simp
  rcases hf with e | e | e | e | e | e
  · exact .inl ⟨25, _, gr_minus, by rw [e], by simp only [facW, e]; rfl, en_minus, rfl, hminus.at (by omega) X _, fun d' hh => ib_op (m := .factor) (by rw [hd]; simp only [M.row, e]; rfl) hh⟩
  · exact .inl ⟨26, _, gr_not, by rw [e], by simp only [facW, e]; rfl, en_not, rfl, hnot.at (by omega) X _, fun d' hh => ib_op (m := .factor) (by rw [hd]; simp only [M.row, e]; rfl) hh⟩
  · exact .inl ⟨27, _, gr_group, by rw [e], by simp only [facW, e]; rfl, en_group, rfl, hgroup.at (by omega) X _, fun d' hh => ib_op (m := .factor) (by rw [hd]; simp only [M.row, e]; rfl) hh⟩
  · refine .inl ⟨32, _, [.fl .cs], by rw [e], by simp only [facW, e]; rfl, en_take, rfl, fun r1 W1 h1 hr1 _ => rw_take (n := n) h1 hr1 ?_, fun d' hh => ib_op (m := .factor) (by rw [hd]; simp only [M.row, e]; rfl) hh⟩
    rw [qn_opD, hcs]
    exact fac_cs e
  · exact .inl ⟨28, _, gr_object, by rw [e], by simp only [facW, e]; rfl, en_object, rfl, hobject.at (by omega) X _, fun d' hh => ib_ex (m := .factor) (r := [.fl (.mt .object)]) (by rw [hd]; simp only [M.row, e]; rfl) (rb_one (ib_op (m := .object) rfl hh))⟩
  · exact .inr ⟨by rw [e], by simp only [facW, e]; rfl, _, ib_ref (m := .factor) (by rw [hd]; simp only [M.row, e]; rfl), rfl, by unfold tkD; simp only [Bool.false_eq_true, if_false]; (repeat' split) <;> rfl⟩
/-- A text that is a literal. -/
theorem is_lit {t : Tv} {l : List UInt8} {s : ByteArray} (h : t.is l = true) (hs : s.toList = l) : t.t = s := btl_inj (by unfold Tv.is at h; simpa [hs] using h)
theorem kind_pc (n : Nat) (harray : RwC 125 gr_array 90 n) (hrecord : RwC 126 gr_record 90 n) : PC .kind 99 n := by
  intro X r d W h
  refine (kind_any h).mono ?_
  rintro e w' ⟨rfl, hb⟩
  refine ⟨_, _, rfl, ?_, hb⟩
  have hn := h.hnx
  have hz := h.e0
  generalize nx X (ps X.l d.i) = t at *
  have ha : ∀ s, (nxt (tks X.l) d).elim false (wk 2 s) = wk 2 s t := fun s => by rw [hn]; cases nxt (tks X.l) d <;> rfl
  have wa : wk 2 ⟨#[97, 114, 114, 97, 121]⟩ t = (t.k == 2 && t.is [97, 114, 114, 97, 121]) := by rw [wk_is, show (ByteArray.mk #[97, 114, 114, 97, 121]).toList = [97, 114, 114, 97, 121] by decide +kernel]; rfl
  have wr : wk 2 ⟨#[114, 101, 99, 111, 114, 100]⟩ t = (t.k == 2 && t.is [114, 101, 99, 111, 114, 100]) := by rw [wk_is, show (ByteArray.mk #[114, 101, 99, 111, 114, 100]).toList = [114, 101, 99, 111, 114, 100] by decide +kernel]; rfl
  have hd : drow (nxt (tks X.l) d) .kind = if (t.k == 2 && t.is [97, 114, 114, 97, 121]) = true then .op 9 gr_array else if (t.k == 2 && t.is [114, 101, 99, 111, 114, 100]) = true then .op 10 gr_record else .op 8 [.fl .nm] := by
    simp only [drow, ha, wa, wr]
  cases h1 : (t.k == 1) with
  | true =>
    have h2 : (t.k == 2) = false := by have : t.k = 1 := by simpa using h1
                                       simp [this]
    refine .inl ⟨8, _, [.fl .nm], by simp only [kinVU, h1]; rfl, by simp only [kinVW, h1]; rfl, en_name, rfl, (rw_name n).at (by omega) X _, fun d' hh => ib_op (m := .kind) (by rw [hd, h2]; rfl) hh⟩
  | false =>
    cases h2 : (t.k == 2 && t.is [97, 114, 114, 97, 121]) with
    | true => exact .inl ⟨9, _, gr_array, by simp only [kinVU, h1, h2]; rfl, by simp only [kinVW, h1, h2]; rfl, en_array, rfl, harray.at (by omega) X _, fun d' hh => ib_op (m := .kind) (by rw [hd, h2]; rfl) hh⟩
    | false =>
      cases h3 : (t.k == 2 && t.is [114, 101, 99, 111, 114, 100]) with
      | true => exact .inl ⟨10, _, gr_record, by simp only [kinVU, h1, h2, h3]; rfl, by simp only [kinVW, h1, h2, h3]; rfl, en_record, rfl, hrecord.at (by omega) X _, fun d' hh => ib_op (m := .kind) (by rw [hd, h2, h3]; rfl) hh⟩
      | false =>
        have hq : qn (tks X.l) d (fun t => Fl.takes t .nm) = false := by
          rw [h.hqn (by simp [Fl.takes, tv0]), h.hnx, ← hn]
          exact h1
        have hq2 : qn (tks X.l) (opD 8 d) (fun t => Fl.takes t .nm) = false := by rw [qn_opD]; exact hq
        have ho : (opD 8 d).e = d.e ∧ (opD 8 d).i = d.i := by unfold opD; rw [if_pos hz]; exact ⟨rfl, rfl⟩
        have hee : (tkD (tks X.l) false (opD 8 d)).e = (tkD (tks X.l) false d).e ∧ (tkD (tks X.l) false (opD 8 d)).e ≠ 0 ∧ (tkD (tks X.l) false (opD 8 d)).i = d.i := by
          unfold tkD
          simp only [Bool.false_eq_true, if_false, ho.1, ho.2, if_pos hz]
          split
          · exact ⟨rfl, by show (120 : Int) ≠ 0; decide, by first | rfl | exact ho.2⟩
          · exact ⟨rfl, by show (121 : Int) ≠ 0; decide, by first | rfl | exact ho.2⟩
        have hi := ib_tk (L := tks X.l) (d := opD 8 d) ne_nm
        rw [hq2] at hi
        exact .inr ⟨by simp only [kinVU, h1, h2, h3]; rfl, by simp only [kinVW, h1, h2, h3]; rfl, _, ib_op (m := .kind) (by rw [hd, h2, h3]; rfl) (rb_cons hi (rb_one (dead_lv hee.2.1))), hee.1, hee.2.2⟩
theorem statement_pc (n : Nat) (hact : RwC 100 gr_act 90 n) (hskip : RwC 101 gr_skip 90 n) (hbranches : RwC 102 gr_branches 90 n) (hwhile : RwC 103 gr_while 90 n) (hcount : RwC 104 gr_count 90 n) (hrepeat : RwC 105 gr_repeat 90 n) (hanswer : RwC 106 gr_answer 90 n) (hcompound : RwC 107 gr_compound 90 n) : PC .statement 76 n := by
  intro X r d W h
  refine (statement_any h).mono ?_
  rintro e w' ⟨rfl, hb⟩
  refine ⟨_, _, rfl, ?_, hb⟩
  have hn := h.hnx
  have hz := h.e0
  generalize nx X (ps X.l d.i) = t at *
  have hd : drow (nxt (tks X.l) d) .statement = if t.k == 1 then .op 14 gr_act else if t.k == 2 then wordedR t.t else .ref := by
    rw [hn]
    cases nxt (tks X.l) d <;> rfl
  have hee : (tkD (tks X.l) false d).i = d.i := by unfold tkD; simp only [Bool.false_eq_true, if_false]; (repeat' split) <;> rfl
  cases h1 : (t.k == 1) with
  | true => exact .inl ⟨14, _, gr_act, by simp only [stmVU, h1]; rfl, by simp only [stmVW, h1]; rfl, en_act, rfl, hact.at (by omega) X _, fun d' hh => ib_op (m := .statement) (by rw [hd, h1]; rfl) hh⟩
  | false =>
    cases h2 : (t.k == 2) with
    | false => exact .inr ⟨by simp only [stmVU, h1, h2]; rfl, by simp only [stmVW, h1, h2]; rfl, _, ib_ref (m := .statement) (by rw [hd, h1, h2]; rfl), rfl, hee⟩
    | true =>
      cases g13 : t.is [115, 107, 105, 112] with
      | true =>
        have hs : t.t = ⟨#[115, 107, 105, 112]⟩ := is_lit g13 (by decide +kernel)
        exact .inl ⟨13, _, gr_skip, by simp only [stmVU, h1, h2, g13]; rfl, by simp only [stmVW, h1, h2, g13]; rfl, en_skip, rfl, hskip.at (by omega) X _, fun d' hh => ib_op (m := .statement) (by rw [hd, h1, h2, hs]; kernel_rfl) hh⟩
      | false =>
        cases g15 : t.is [105, 102] with
        | true =>
          have hs : t.t = ⟨#[105, 102]⟩ := is_lit g15 (by decide +kernel)
          exact .inl ⟨15, _, gr_branches, by simp only [stmVU, h1, h2, g13, g15]; rfl, by simp only [stmVW, h1, h2, g13, g15]; rfl, en_branches, rfl, hbranches.at (by omega) X _, fun d' hh => ib_op (m := .statement) (by rw [hd, h1, h2, hs]; kernel_rfl) hh⟩
        | false =>
          cases g16 : t.is [119, 104, 105, 108, 101] with
          | true =>
            have hs : t.t = ⟨#[119, 104, 105, 108, 101]⟩ := is_lit g16 (by decide +kernel)
            exact .inl ⟨16, _, gr_while, by simp only [stmVU, h1, h2, g13, g15, g16]; rfl, by simp only [stmVW, h1, h2, g13, g15, g16]; rfl, en_while, rfl, hwhile.at (by omega) X _, fun d' hh => ib_op (m := .statement) (by rw [hd, h1, h2, hs]; kernel_rfl) hh⟩
          | false =>
            cases g17 : t.is [102, 111, 114] with
            | true =>
              have hs : t.t = ⟨#[102, 111, 114]⟩ := is_lit g17 (by decide +kernel)
              exact .inl ⟨17, _, gr_count, by simp only [stmVU, h1, h2, g13, g15, g16, g17]; rfl, by simp only [stmVW, h1, h2, g13, g15, g16, g17]; rfl, en_count, rfl, hcount.at (by omega) X _, fun d' hh => ib_op (m := .statement) (by rw [hd, h1, h2, hs]; kernel_rfl) hh⟩
            | false =>
              cases g18 : t.is [114, 101, 112, 101, 97, 116] with
              | true =>
                have hs : t.t = ⟨#[114, 101, 112, 101, 97, 116]⟩ := is_lit g18 (by decide +kernel)
                exact .inl ⟨18, _, gr_repeat, by simp only [stmVU, h1, h2, g13, g15, g16, g17, g18]; rfl, by simp only [stmVW, h1, h2, g13, g15, g16, g17, g18]; rfl, en_repeat, rfl, hrepeat.at (by omega) X _, fun d' hh => ib_op (m := .statement) (by rw [hd, h1, h2, hs]; kernel_rfl) hh⟩
              | false =>
                cases g19 : t.is [114, 101, 116, 117, 114, 110] with
                | true =>
                  have hs : t.t = ⟨#[114, 101, 116, 117, 114, 110]⟩ := is_lit g19 (by decide +kernel)
                  exact .inl ⟨19, _, gr_answer, by simp only [stmVU, h1, h2, g13, g15, g16, g17, g18, g19]; rfl, by simp only [stmVW, h1, h2, g13, g15, g16, g17, g18, g19]; rfl, en_answer, rfl, hanswer.at (by omega) X _, fun d' hh => ib_op (m := .statement) (by rw [hd, h1, h2, hs]; kernel_rfl) hh⟩
                | false =>
                  cases g20 : t.is [98, 101, 103, 105, 110] with
                  | true =>
                    have hs : t.t = ⟨#[98, 101, 103, 105, 110]⟩ := is_lit g20 (by decide +kernel)
                    exact .inl ⟨20, _, gr_compound, by simp only [stmVU, h1, h2, g13, g15, g16, g17, g18, g19, g20]; rfl, by simp only [stmVW, h1, h2, g13, g15, g16, g17, g18, g19, g20]; rfl, en_compound, rfl, hcompound.at (by omega) X _, fun d' hh => ib_op (m := .statement) (by rw [hd, h1, h2, hs]; kernel_rfl) hh⟩
                  | false =>
                    have hw : wordedR t.t = .ref := by unfold Tv.is at g13 g15 g16 g17 g18 g19 g20; simp only [wordedR, g13, g15, g16, g17, g18, g19, g20]; rfl
                    exact .inr ⟨by simp only [stmVU, h1, h2, g13, g15, g16, g17, g18, g19, g20]; rfl, by simp only [stmVW, h1, h2, g13, g15, g16, g17, g18, g19, g20]; rfl, _, ib_ref (m := .statement) (by rw [hd, h1, h2, hw]; rfl), rfl, hee⟩
theorem declaration_pd (n : Nat) (hvariables : RwC 72 gr_variables 90 n) (hconstant : RwC 73 gr_constant 90 n) (hprocedure : RwC 74 gr_procedure 90 n) : PD .declaration 53 n := by
  intro X r d W h
  refine (declaration_any h).mono ?_
  rintro e w' ⟨rfl, hb⟩
  refine ⟨_, _, rfl, ?_, hb⟩
  have hp : dpick (nxt (tks X.l) d) (.fn .declaration) = if (nx X (ps X.l d.i)).k == 2 then ((Dk.declaration).pick (nx X (ps X.l d.i))).map (fun m => .fl (.mt m)) else none := by rw [h.hnx]; exact dpick_fn _ _
  generalize nx X (ps X.l d.i) = t at *
  cases h2 : (t.k == 2) with
  | false => exact .inr ⟨by simp only [decVU, h2]; rfl, by simp only [decVW, h2]; rfl, by rw [hp, h2]; rfl⟩
  | true =>
    cases g3 : t.is [118, 97, 114] with
    | true => exact .inl ⟨3, _, gr_variables, .fl (.mt .variables), by simp only [decVU, h2, g3]; rfl, by simp only [decVW, h2, g3]; rfl, en_variables, rfl, hvariables, by rw [hp, h2]; simp only [Dk.pick, g3]; rfl, fun d' hh => ib_op (m := .variables) rfl hh⟩
    | false =>
      cases g4 : t.is [99, 111, 110, 115, 116] with
      | true => exact .inl ⟨4, _, gr_constant, .fl (.mt .constants), by simp only [decVU, h2, g3, g4]; rfl, by simp only [decVW, h2, g3, g4]; rfl, en_constant, rfl, hconstant, by rw [hp, h2]; simp only [Dk.pick, g3, g4]; rfl, fun d' hh => ib_op (m := .constants) rfl hh⟩
      | false =>
        cases g5 : t.is [112, 114, 111, 99] with
        | true => exact .inl ⟨5, _, gr_procedure, .fl (.mt .procedure), by simp only [decVU, h2, g3, g4, g5]; rfl, by simp only [decVW, h2, g3, g4, g5]; rfl, en_procedure, rfl, hprocedure, by rw [hp, h2]; simp only [Dk.pick, g3, g4, g5]; rfl, fun d' hh => ib_op (m := .procedure) rfl hh⟩
        | false =>
          exact .inr ⟨by simp only [decVU, h2, g3, g4, g5]; rfl, by simp only [decVW, h2, g3, g4, g5]; rfl, by rw [hp, h2]; simp only [Dk.pick, g3, g4, g5]; rfl⟩
theorem detail_pd (n : Nat) (hindex : RwC 156 gr_index 90 n) (hselection : RwC 157 gr_selection 90 n) (hargs : RwC 158 gr_args 90 n) : PD .detail 143 n := by
  intro X r d W h
  refine (detail_any h).mono ?_
  rintro e w' ⟨rfl, hb⟩
  refine ⟨_, _, rfl, ?_, hb⟩
  have hp : dpick (nxt (tks X.l) d) (.fn .detail) = if (nx X (ps X.l d.i)).k == 6 then ((Dk.detail).pick (nx X (ps X.l d.i))).map (fun m => .fl (.mt m)) else none := by rw [h.hnx]; exact dpick_fn _ _
  generalize nx X (ps X.l d.i) = t at *
  cases h2 : (t.k == 6) with
  | false => exact .inr ⟨by simp only [detVU, h2]; rfl, by simp only [detVW, h2]; rfl, by rw [hp, h2]; rfl⟩
  | true =>
    cases g29 : t.is [91] with
    | true => exact .inl ⟨29, _, gr_index, .fl (.mt .index), by simp only [detVU, h2, g29]; rfl, by simp only [detVW, h2, g29]; rfl, en_index, rfl, hindex, by rw [hp, h2]; simp only [Dk.pick, g29]; rfl, fun d' hh => ib_op (m := .index) rfl hh⟩
    | false =>
      cases g30 : t.is [46] with
      | true => exact .inl ⟨30, _, gr_selection, .fl (.mt .selection), by simp only [detVU, h2, g29, g30]; rfl, by simp only [detVW, h2, g29, g30]; rfl, en_selection, rfl, hselection, by rw [hp, h2]; simp only [Dk.pick, g29, g30]; rfl, fun d' hh => ib_op (m := .selection) rfl hh⟩
      | false =>
        cases g31 : t.is [40] with
        | true => exact .inl ⟨31, _, gr_args, .fl (.mt .args), by simp only [detVU, h2, g29, g30, g31]; rfl, by simp only [detVW, h2, g29, g30, g31]; rfl, en_args, rfl, hargs, by rw [hp, h2]; simp only [Dk.pick, g29, g30, g31]; rfl, fun d' hh => ib_op (m := .args) rfl hh⟩
        | false =>
          exact .inr ⟨by simp only [detVU, h2, g29, g30, g31]; rfl, by simp only [detVW, h2, g29, g30, g31]; rfl, by rw [hp, h2]; simp only [Dk.pick, g29, g30, g31]; rfl⟩

end Go.Proofs.YtkigadnkclkopaaGreat
