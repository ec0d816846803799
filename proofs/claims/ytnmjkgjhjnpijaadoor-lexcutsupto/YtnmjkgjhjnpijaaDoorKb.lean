import Derived.Test.YtnmjkgjhjnpijaaDoorG1
import Derived.Test.YtnmjkgjhjnpijaaDoorRc
set_option linter.unusedVariables false
set_option linter.unusedSimpArgs false
namespace Go.Proofs.YtnmjkgjhjnpijaaDoor
open Go.RowKit

/-- Letters, and what may stand behind the first point alone. -/
def ltr (p : Int) : Prop := (65 ≤ p ∧ p ≤ 90) ∨ (97 ≤ p ∧ p ≤ 122) ∨ (192 ≤ p ∧ p ≤ 214) ∨ (216 ≤ p ∧ p ≤ 246) ∨ (248 ≤ p ∧ p ≤ 591) ∨ (913 ≤ p ∧ p ≤ 929) ∨ (931 ≤ p ∧ p ≤ 974) ∨ (1024 ≤ p ∧ p ≤ 1119) ∨ (1488 ≤ p ∧ p ≤ 1514) ∨ (1568 ≤ p ∧ p ≤ 1610) ∨ (2308 ≤ p ∧ p ≤ 2361) ∨ (12353 ≤ p ∧ p ≤ 12438) ∨ (12449 ≤ p ∧ p ≤ 12538) ∨ (19968 ≤ p ∧ p ≤ 40959) ∨ (44032 ≤ p ∧ p ≤ 55203) ∨ (66560 ≤ p ∧ p ≤ 66639) ∨ (131072 ≤ p ∧ p ≤ 196607)
def mrk (p : Int) : Prop := (48 ≤ p ∧ p ≤ 57) ∨ (95 ≤ p ∧ p ≤ 95) ∨ (768 ≤ p ∧ p ≤ 879)
instance (p : Int) : Decidable (ltr p) := by unfold ltr; infer_instance
instance (p : Int) : Decidable (mrk p) := by unfold mrk; infer_instance
def us (p : Int) : Int := if ltr p then 2 else if mrk p then 1 else 0
def lt' (p : Int) : Bool := decide (ltr p)
def pr' (p : Int) : Bool := lt' p || decide (mrk p)

theorem us_two {p : Int} (h : ltr p) : us p = 2 := by unfold us; rw [if_pos h]
theorem us_one {p : Int} (h : mrk p) : us p = 1 := by
  unfold us
  rw [if_neg (by unfold mrk at h; unfold ltr; omega), if_pos h]
theorem us_no {p : Int} (h : ¬ ltr p) (h2 : ¬ mrk p) : us p = 0 := by unfold us; rw [if_neg h, if_neg h2]
theorem us_lt (p : Int) : (us p == 2) = lt' p := by
  unfold us lt'
  by_cases h : ltr p
  · rw [if_pos h, decide_eq_true h]; rfl
  · rw [if_neg h, decide_eq_false h]; split <;> rfl
theorem us_pr (p : Int) : (us p != 0) = pr' p := by
  unfold us pr' lt'
  by_cases h : ltr p
  · rw [if_pos h, decide_eq_true h]; rfl
  · rw [if_neg h, decide_eq_false h]
    by_cases h2 : mrk p
    · rw [if_pos h2, decide_eq_true h2]; rfl
    · rw [if_neg h2, decide_eq_false h2]; rfl

theorem ctab_hit (i : Nat) (p : Int) (hi : i < 20) (h0 : clo i ≤ p) (h1 : p ≤ chi i) : cus i = us p := by
  rcases i with _|_|_|_|_|_|_|_|_|_|_|_|_|_|_|_|_|_|_|_|i
  all_goals simp [clo, chi, cus, ctabL, List.getD] at h0 h1 ⊢
  all_goals first | exact (us_two (by unfold ltr; omega)).symm | exact (us_one (by unfold mrk; omega)).symm | omega

theorem ctab_all (p : Int) (h : ∀ k, k < 20 → p < clo k ∨ chi k < p) : us p = 0 := by
  have a0 := h 0 (by omega); have a1 := h 1 (by omega); have a2 := h 2 (by omega); have a3 := h 3 (by omega); have a4 := h 4 (by omega); have a5 := h 5 (by omega); have a6 := h 6 (by omega); have a7 := h 7 (by omega); have a8 := h 8 (by omega); have a9 := h 9 (by omega); have a10 := h 10 (by omega); have a11 := h 11 (by omega); have a12 := h 12 (by omega); have a13 := h 13 (by omega); have a14 := h 14 (by omega); have a15 := h 15 (by omega); have a16 := h 16 (by omega); have a17 := h 17 (by omega); have a18 := h 18 (by omega); have a19 := h 19 (by omega)
  simp only [clo, chi, ctabL, List.getD, List.getElem?_cons_zero, List.getElem?_cons_succ, Option.getD_some] at a0 a1 a2 a3 a4 a5 a6 a7 a8 a9 a10 a11 a12 a13 a14 a15 a16 a17 a18 a19
  refine us_no ?_ ?_
  · unfold ltr; omega
  · unfold mrk; omega

theorem ctab_up (i k : Nat) (hk : k < 20) (h : i ≤ k) : clo i ≤ clo k := by
  have : ∀ k, k < 20 → ∀ i, i < 20 → i ≤ k → clo i ≤ clo k := by decide +kernel
  exact this k hk i (by omega) h

theorem ctab_miss (i : Nat) (p : Int) (h : ∀ k, k < i → chi k < p) (h2 : i < 20 → p < clo i) : us p = 0 := by
  refine ctab_all p fun k hk => ?_
  by_cases hki : k < i
  · exact .inr (h k hki)
  · have := h2 (by omega)
    have := ctab_up i k hk (by omega)
    omega

theorem kret_i64 {a b : Int} (h : a = b) : Ending.returned (.int .i64 a) = .returned (.int .i64 b) := by rw [h]
theorem kret_b {a b : Bool} (h : a = b) : Ending.returned (.bool a) = .returned (.bool b) := by rw [h]

set_option maxHeartbeats 400000 in
theorem use_any (p : Int) (w : World) (hT : CTab w) :
    Calls Tryd.prog 55 #[.int .i64 p] w fun e w' => e = .returned (.int .i64 (us p)) ∧ w' = w := by
  go_enter Tryd.func55, Tryd.ntmps55
  go_wp2_with fail
  go_loopw [4] (fun i wr => wr = w ∧ ∃ k : Nat, k ≤ 20 ∧ i = .int .i64 k ∧ ∀ j, j < k → chi j < p) (fun i _ => 20 - (intOf i).toNat)
  case atStart => exact ⟨rfl, 0, by omega, rfl, fun j hj => by omega⟩
  case round =>
    obtain ⟨rfl, k, hk, rfl, hall⟩ := hrel
    by_cases h16 : k < 20
    · obtain ⟨c0, c1, c2⟩ := hT k h16
      have HA : Hid (∀ j, j < k → chi j < p) := hall
      have HH : Hid (clo k ≤ p → p ≤ chi k → cus k = us p) := ctab_hit k p h16
      have HM : Hid (p < clo k → us p = 0) := fun h => ctab_miss k p hall (fun _ => h)
      have HN : Hid (chi k < p → ∀ j, j < k + 1 → chi j < p) := fun h j hj => by
        by_cases e : j = k
        · subst e; exact h
        · exact hall j (by omega)
      clear hall hT
      generalize clo k = l at *
      generalize cus k = c at *
      generalize chi k = u at *
      by_cases h1 : p < l
      · go_wp2_with fail
        go_ret
        exact ⟨kret_i64 (HM.out h1).symm, rfl⟩
      · by_cases h2 : p ≤ u
        · go_wp2_with fail
          go_ret
          exact ⟨kret_i64 (HH.out (by omega) h2), rfl⟩
        · go_wp2_with fail
          exact ⟨⟨trivial, k + 1, by omega, by go_num, HN.out (by omega)⟩, by simp [intOf]; omega⟩
    · have HM : Hid (us p = 0) := ctab_miss k p hall (fun h => absurd h h16)
      clear hall hT
      go_wp2_with fail
      go_ret
      exact ⟨kret_i64 HM.out.symm, rfl⟩

theorem letter_any (p : Int) (w : World) (hT : CTab w) :
    Calls Tryd.prog 40 #[.int .i64 p] w fun e w' => e = .returned (.bool (lt' p)) ∧ w' = w := by
  go_enter Tryd.func40, Tryd.ntmps40
  go_wp2_with fail
  refine (use_any p w hT).mono ?_
  rintro e w' ⟨rfl, rfl⟩
  have HU : Hid ((us p == 2) = lt' p) := us_lt p
  generalize us p = u at *
  go_wp2_with fail
  go_ret
  exact ⟨kret_b HU.out, rfl⟩

theorem part_any (p : Int) (w : World) (hT : CTab w) :
    Calls Tryd.prog 26 #[.int .i64 p] w fun e w' => e = .returned (.bool (pr' p)) ∧ w' = w := by
  go_enter Tryd.func26, Tryd.ntmps26
  go_wp2_with fail
  refine (use_any p w hT).mono ?_
  rintro e w' ⟨rfl, rfl⟩
  have HU : Hid ((us p != 0) = pr' p) := us_pr p
  generalize us p = u at *
  go_wp2_with fail
  go_ret
  exact ⟨kret_b HU.out, rfl⟩

/-- Is a number in one of the ranges of a list? -/
def inL (p : Int) : List Int → Bool
  | a :: b :: r => (decide (a ≤ p) && decide (p ≤ b)) || inL p r
  | _ => false

theorem inL_step (p : Int) (l : List Int) (i : Nat) (h : i + 1 < l.length) : inL p (l.drop i) = ((decide (l.getD i 0 ≤ p) && decide (p ≤ l.getD (i + 1) 0)) || inL p (l.drop (i + 2))) := by
  have e1 : l.drop i = l.getD i 0 :: l.getD (i + 1) 0 :: l.drop (i + 2) := by
    rw [List.drop_eq_getElem_cons (by omega), List.drop_eq_getElem_cons (by omega)]
    simp [List.getD, List.getElem?_eq_getElem (show i < l.length by omega), List.getElem?_eq_getElem (show i + 1 < l.length by omega)]
  rw [e1]
  rfl
theorem inL_end (p : Int) (l : List Int) (i : Nat) (h : l.length ≤ i + 1) : inL p (l.drop i) = false := by
  have : (l.drop i).length ≤ 1 := by rw [List.length_drop]; omega
  match l.drop i, this with
  | [], _ => rfl
  | [_], _ => rfl

def lL : List Int := [65, 90, 97, 122, 192, 214, 216, 246, 248, 591, 913, 929, 931, 974, 1024, 1119, 1488, 1514, 1568, 1610, 2308, 2361, 12353, 12438, 12449, 12538, 19968, 40959, 44032, 55203, 66560, 66639, 131072, 196607]
def mL : List Int := [48, 57, 95, 95, 768, 879]

theorem in_ltr (p : Int) : inL p lL = lt' p := by
  unfold lt'
  rw [Bool.eq_iff_iff, decide_eq_true_iff]
  simp [lL, inL, ltr]
theorem in_mrk (p : Int) : inL p mL = decide (mrk p) := by
  rw [Bool.eq_iff_iff, decide_eq_true_iff]
  simp [mL, inL, mrk]

end Go.Proofs.YtnmjkgjhjnpijaaDoor
