import Derived.Test.YtkigadnkclkopaaXd
set_option linter.unusedVariables false
set_option linter.unusedSimpArgs false
namespace Go.Proofs.Ytkigadnkclkopaa
open Go.RowKit

theorem ru_ref_no {t : Tv} {i : It} (hs : It.step t i = .ref) {k : Nat} {K : List It} {n : Int} {E : List Ev} {R : Ro} (h : Ru t k (i :: K) n E R) : R = .no := by
  cases h with
  | ref _ => rfl
  | tk h => rw [hs] at h; cases h
  | go h _ => rw [hs] at h; cases h
theorem step_wd {t : Tv} {q : Int} {ts : List ByteArray} (h : Fl.takes t (.wd q ts) = false) : It.step t (.fl (.wd q ts)) = .ref := by
  simp [It.step, Fl.step, h]
theorem ru_op_no {t : Tv} {i : It} {q : Int} {ts : List ByteArray} {d : Int} {o : List Ev} {r : List It} (hs : It.step t i = .go d o (.fl (.wd q ts) :: r)) (hq : (t.k == q) = false) {k : Nat} {K : List It} {n : Int} {E : List Ev} {R : Ro} (h : Ru t k (i :: K) n E R) : R = .no := by
  cases h with
  | ref _ => rfl
  | tk h => rw [hs] at h; cases h
  | go h hr =>
    rw [hs] at h
    cases h
    exact ru_ref_no (step_wd (by simp [Fl.takes, hq])) hr
theorem ru_fn_no {t : Tv} {k : Dk} {m : M} (hm : k.pick t = some m) (hk : (t.k == k.kd) = false) {j : Nat} {K : List It} {n : Int} {E : List Ev} {R : Ro} (h : Ru t j (.fl (.mt m) :: K) n E R) : R = .no := by
  cases k <;> simp only [Dk.pick] at hm <;> simp only [Dk.kd] at hk
  all_goals (repeat' (split at hm))
  all_goals first
    | (cases hm; done)
    | (cases hm; exact ru_op_no rfl hk h)
theorem opD_put {n : Int} {d : D} (he : d.e = 0) : opD n d = putE d [⟨1, n, tv0⟩] := by
  unfold opD
  rw [if_pos he]
  rfl
theorem clD_put {n : Int} {d : D} (he : d.e = 0) : clD n d = putE d [⟨3, n, tv0⟩] := by
  unfold clD
  rw [if_pos he]
  rfl
theorem drow_any {t : Tv} {m : M} (h1 : m ≠ .kind) (h2 : m ≠ .statement) : drow (some t) m = M.row t m := by
  cases m <;> first | rfl | exact absurd rfl h1 | exact absurd rfl h2
theorem worded_form (s : ByteArray) : wordedR s = .ref ∨ ∃ nd r, wordedR s = .op nd (.fl (.wd 2 [s]) :: r) := by
  unfold wordedR
  repeat' split
  all_goals first
    | exact .inl rfl
    | exact .inr ⟨_, _, rfl⟩
theorem same_row {L : List Tv} {d : D} {t : Tv} (hn : nxt L d = some t) {m : M} {dn : Int} {o : List Ev} {r : List It} (hs : It.step t (.fl (.mt m)) = .go dn o r) (he : drow (some t) m = M.row t m) : dst L (.fl (.mt m)) d = (r, putE d o) := by
  have hz := (nxt_lt hn).1
  simp only [dst, hn, he]
  simp only [It.step, Fl.step] at hs
  cases hr : M.row t m with
  | ref => rw [hr] at hs; cases hs
  | ex r' => rw [hr] at hs; cases hs; simp only [putE_nil]
  | op nd r' => rw [hr] at hs; cases hs; simp only [opD_put hz]
theorem pick_same {t : Tv} {p : Pk} : dpick (some t) p = Pk.pick t p ∨ ∃ k m, p = .fn k ∧ k.pick t = some m ∧ (t.k == k.kd) = false ∧ dpick (some t) p = none := by
  cases p with
  | fn k =>
    simp only [dpick, Pk.pick]
    by_cases h : (t.k == k.kd) = true
    · exact .inl (if_pos h)
    · have h' : (t.k == k.kd) = false := by simpa using h
      rw [if_neg h]
      cases hp : k.pick t with
      | none => exact .inl rfl
      | some m => exact .inr ⟨k, m, rfl, hp, h', rfl⟩
  | row r => exact .inl rfl
  | ex m => exact .inl rfl
theorem bad_of {t : Tv} {k : Dk} {m : M} (hm : k.pick t = some m) (hk : (t.k == k.kd) = false) : bad k t := by
  refine ⟨hk, fun e => ?_⟩
  subst e
  simp only [Dk.pick] at hm
  cases h1 : t.is [91] with
  | true => rfl
  | false =>
    cases h2 : t.is [46] with
    | true => rfl
    | false =>
      cases h3 : t.is [40] with
      | true => rfl
      | false => rw [h1, h2, h3] at hm; cases hm
/-- A step of the code against the document's. -/
theorem step_sim {t : Tv} {L : List Tv} {d : D} (hn : nxt L d = some t) {i : It} {dn : Int} {o : List Ev} {r : List It} (hs : It.step t i = .go dn o r) :
    dst L i d = (r, putE d o) ∨ ((∀ k K n E R, Ru t k (r ++ K) n E R → R = .no) ∧ (∀ K, nw (i :: K) = true → Refd L (i :: K) d)) := by
  have hz := (nxt_lt hn).1
  cases i with
  | fl x =>
    cases x with
    | mt m =>
      by_cases h1 : m = .kind
      · subst h1
        by_cases k1 : (t.k == 1) = true
        · refine .inl (same_row hn hs ?_)
          have hk : t.k = 1 := by simpa using k1
          simp [drow, M.row, wk, hk]
        · have k1' : (t.k == 1) = false := by simpa using k1
          by_cases k2 : (t.k == 2) = true
          · have a1 : wk 2 ⟨#[97, 114, 114, 97, 121]⟩ t = t.is [97, 114, 114, 97, 121] := by rw [wk_is, k2, show (ByteArray.mk #[97, 114, 114, 97, 121]).toList = [97, 114, 114, 97, 121] by decide +kernel]; rfl
            have a2 : wk 2 ⟨#[114, 101, 99, 111, 114, 100]⟩ t = t.is [114, 101, 99, 111, 114, 100] := by rw [wk_is, k2, show (ByteArray.mk #[114, 101, 99, 111, 114, 100]).toList = [114, 101, 99, 111, 114, 100] by decide +kernel]; rfl
            by_cases b1 : t.is [97, 114, 114, 97, 121] = true
            · refine .inl (same_row hn hs ?_)
              simp [drow, M.row, a1, b1, k1']
            · by_cases b2 : t.is [114, 101, 99, 111, 114, 100] = true
              · refine .inl (same_row hn hs ?_)
                simp [drow, M.row, a1, a2, b1, b2, k1']
              · simp [It.step, Fl.step, M.row, k1', b1, b2, Gw.sr] at hs
          · have k2' : (t.k == 2) = false := by simpa using k2
            have a1 : wk 2 ⟨#[97, 114, 114, 97, 121]⟩ t = false := by simp only [wk, k2', Bool.false_and]
            have a2 : wk 2 ⟨#[114, 101, 99, 111, 114, 100]⟩ t = false := by simp only [wk, k2', Bool.false_and]
            refine .inr ⟨?_, fun K _ => ?_⟩
            · intro k K n E R hR
              by_cases b1 : t.is [97, 114, 114, 97, 121] = true
              · simp only [It.step, Fl.step, M.row, k1', b1, Bool.false_eq_true, if_false, if_true, Gw.sr] at hs
                cases hs
                exact ru_ref_no (step_wd (by simp [Fl.takes, k2'])) hR
              · by_cases b2 : t.is [114, 101, 99, 111, 114, 100] = true
                · simp only [It.step, Fl.step, M.row, k1', b1, b2, Bool.false_eq_true, if_false, if_true, Gw.sr] at hs
                  cases hs
                  exact ru_ref_no (step_wd (by simp [Fl.takes, k2'])) hR
                · simp [It.step, Fl.step, M.row, k1', b1, b2, Gw.sr] at hs
            · have e : dst L (.fl (.mt .kind)) d = ([.fl .nm, .lv 8], opD 8 d) := by
                simp only [dst, hn, drow, Option.elim, a1, a2, Bool.false_eq_true, if_false]
                rfl
              refine Refd.step ?_ ?_
              · rw [e]
                refine ref_tk (t := t) ?_ ne_nm (by simp [Fl.takes, k1'])
                rw [opD_put hz]
                exact hn
              · rw [e, opD_put hz]
                rfl
      · by_cases h2 : m = .statement
        · subst h2
          by_cases k1 : (t.k == 1) = true
          · refine .inl (same_row hn hs ?_)
            simp [drow, M.row, k1]
          · have k1' : (t.k == 1) = false := by simpa using k1
            by_cases k2 : (t.k == 2) = true
            · refine .inl (same_row hn hs ?_)
              simp [drow, M.row, k1', k2]
            · have k2' : (t.k == 2) = false := by simpa using k2
              refine .inr ⟨?_, fun K _ => ?_⟩
              · intro k K n E R hR
                simp only [It.step, Fl.step, M.row, k1', Bool.false_eq_true, if_false] at hs
                rcases worded_form t.t with e | ⟨nd, r', e⟩
                · rw [e] at hs; cases hs
                · rw [e] at hs
                  cases hs
                  exact ru_ref_no (step_wd (by simp [Fl.takes, k2'])) hR
              · have e : dst L (.fl (.mt .statement)) d = ([], tkD L false d) := by
                  simp only [dst, hn, drow, k1', k2', Bool.false_eq_true, if_false]
                refine ⟨K, tkD L false d, ?_, ?_, .inl ?_⟩
                · refine .step ?_
                  rw [e]
                  exact .refl
                · simp [tkD, hz, (nxt_lt hn).2.2]
                · simp [tkD, hz, (nxt_lt hn).2.2]
        · exact .inl (same_row hn hs (drow_any h1 h2))
    | _ =>
      simp only [It.step, Fl.step] at hs
      split at hs <;> cases hs
  | lv n =>
    cases hs
    exact .inl (by simp only [dst, clD_put (n := n) hz])
  | all r => cases hs; exact .inl (by rw [putE_nil]; rfl)
  | once p =>
    rcases pick_same (t := t) (p := p) with e | ⟨k, m, rfl, hm, hk, e⟩
    · cases hs
      refine .inl ?_
      simp only [dst, hn, e, putE_nil]
    · refine .inr ⟨?_, fun K hK => ?_⟩
      · intro j K n E R hR
        simp only [It.step, Pk.pick, hm, Option.map_some, Option.toList] at hs
        cases hs
        exact ru_fn_no hm hk hR
      · have hK' := nw_cons hK
        refine Refd.step ?_ rfl
        simp only [dst, hn, e]
        exact sgd_ref (bad_of hm hk) K d (hK'.2.2.2 k rfl) hn
  | again p =>
    rcases pick_same (t := t) (p := p) with e | ⟨k, m, rfl, hm, hk, e⟩
    · cases hs
      refine .inl ?_
      simp only [dst, hn, e, putE_nil]
    · refine .inr ⟨?_, fun K hK => ?_⟩
      · intro j K n E R hR
        simp only [It.step, Pk.pick, hm, Option.map_some, agR] at hs
        cases hs
        exact ru_fn_no hm hk hR
      · have hK' := nw_cons hK
        refine Refd.step ?_ rfl
        simp only [dst, hn, e]
        exact sgd_ref (bad_of hm hk) K d (hK'.2.2.2 k rfl) hn
/-- A token's way through both. -/
theorem sim {t : Tv} {L : List Tv} {k : Nat} {K : List It} {n : Int} {E : List Ev} {R : Ro} (h : Ru t k K n E R) : ∀ (d : D), nxt L d = some t → nw K = true →
    (∀ K2 m F, R = .yes K2 m F → nw K2 = true ∧ ∃ x o, F = E ++ o ∧ (∀ m, x ≠ Fl.mt m) ∧ x.takes t = true ∧ Rch L K d (.fl x :: K2) (putE d o)) ∧ (R = .no → Refd L K d) := by
  induction h with
  | nil =>
    intro d hn _
    exact ⟨(fun K2 m F e => by cases e), fun _ => ⟨[], d, .refl, rfl, .inr ⟨rfl, (nxt_lt hn).1⟩⟩⟩
  | ref hs =>
    rename_i i K n E
    intro d hn hw
    refine ⟨(fun K2 m F e => by cases e), fun _ => ?_⟩
    cases i with
    | fl x =>
      by_cases hx : ∃ m, x = .mt m
      · obtain ⟨m, rfl⟩ := hx
        have hz := (nxt_lt hn).1
        have fin : drow (some t) m = .ref → Refd L (.fl (.mt m) :: K) d := fun e => by
          refine ⟨K, tkD L false d, ?_, by simp [tkD, hz, (nxt_lt hn).2.2], .inl (by simp [tkD, hz, (nxt_lt hn).2.2])⟩
          refine .step ?_
          simp only [dst, hn, e]
          exact .refl
        by_cases h1 : m = .kind
        · subst h1
          simp only [It.step, Fl.step, M.row] at hs
          by_cases k1 : (t.k == 1) = true
          · rw [if_pos k1] at hs; cases hs
          rw [if_neg k1] at hs
          by_cases b1 : t.is [97, 114, 114, 97, 121] = true
          · rw [if_pos b1] at hs; cases hs
          rw [if_neg b1] at hs
          by_cases b2 : t.is [114, 101, 99, 111, 114, 100] = true
          · rw [if_pos b2] at hs; cases hs
          have a1 : wk 2 ⟨#[97, 114, 114, 97, 121]⟩ t = false := by
            rw [wk_is, show (ByteArray.mk #[97, 114, 114, 97, 121]).toList = [97, 114, 114, 97, 121] by decide +kernel]
            have : (t.t.toList == [97, 114, 114, 97, 121]) = false := by simpa [Tv.is] using b1
            rw [this, Bool.and_false]
          have a2 : wk 2 ⟨#[114, 101, 99, 111, 114, 100]⟩ t = false := by
            rw [wk_is, show (ByteArray.mk #[114, 101, 99, 111, 114, 100]).toList = [114, 101, 99, 111, 114, 100] by decide +kernel]
            have : (t.t.toList == [114, 101, 99, 111, 114, 100]) = false := by simpa [Tv.is] using b2
            rw [this, Bool.and_false]
          have e : dst L (.fl (.mt .kind)) d = ([.fl .nm, .lv 8], opD 8 d) := by
            simp only [dst, hn, drow, Option.elim, a1, a2, Bool.false_eq_true, if_false]
            rfl
          refine Refd.step ?_ ?_
          · rw [e]
            refine ref_tk (t := t) ?_ ne_nm (by simpa [Fl.takes] using k1)
            rw [opD_put hz]
            exact hn
          · rw [e, opD_put hz]
            rfl
        · by_cases h2 : m = .statement
          · subst h2
            refine fin ?_
            simp only [It.step, Fl.step, M.row] at hs
            by_cases k1 : (t.k == 1) = true
            · rw [if_pos k1] at hs; cases hs
            rw [if_neg k1] at hs
            simp only [drow, if_neg k1]
            split
            · rcases worded_form t.t with e | ⟨nd, r', e⟩
              · exact e
              · rw [e] at hs; cases hs
            · rfl
          · refine fin ?_
            rw [drow_any h1 h2]
            simp only [It.step, Fl.step] at hs
            cases hr : M.row t m with
            | ref => rfl
            | ex r => rw [hr] at hs; cases hs
            | op nd r => rw [hr] at hs; cases hs
      · refine ref_tk hn (fun m e => hx ⟨m, e⟩) ?_
        cases x with
        | mt m => exact absurd ⟨m, rfl⟩ hx
        | _ =>
          simp only [It.step, Fl.step] at hs
          split at hs
          · cases hs
          · rename_i h; simpa using h
    | _ => cases hs
  | tk hs =>
    rename_i i K n E
    intro d hn hw
    refine ⟨fun K2 m F e => ?_, (fun e => by cases e)⟩
    cases e
    refine ⟨(nw_cons hw).1, ?_⟩
    cases i with
    | fl x =>
      have hx : ∀ m, x ≠ .mt m := by
        intro m e
        subst e
        simp only [It.step, Fl.step] at hs
        cases hr : M.row t m <;> rw [hr] at hs <;> cases hs
      refine ⟨x, [], by simp, hx, ?_, by rw [putE_nil]; exact .refl⟩
      cases x with
      | mt m => exact absurd rfl (hx m)
      | _ =>
        simp only [It.step, Fl.step] at hs
        split at hs
        · rename_i h; exact h
        · cases hs
    | _ => cases hs
  | go hs hr ih =>
    rename_i k i K n dn E o r R
    intro d hn hw
    rcases step_sim hn hs with e | ⟨e1, e2⟩
    · have hw' := dst_nw (L := L) (d := d) hw
      have hn' : nxt L (putE d o) = some t := hn
      rw [e] at hw'
      obtain ⟨h1, h2⟩ := ih (putE d o) hn' hw'
      refine ⟨fun K2 m F eR => ?_, fun eR => ?_⟩
      · obtain ⟨a, x, o2, b, c, f, g⟩ := h1 K2 m F eR
        refine ⟨a, x, o ++ o2, by rw [b, List.append_assoc], c, f, .step ?_⟩
        rw [e, ← putE_app]
        exact g
      · refine Refd.step ?_ (by rw [e]; rfl)
        rw [e]
        exact h2 eR
    · have := e1 _ _ _ _ _ hr
      subst this
      exact ⟨(fun K2 m F e => by cases e), fun _ => e2 K hw⟩

end Go.Proofs.Ytkigadnkclkopaa
