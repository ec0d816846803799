import Derived.Test.YtfkegaencoodbaaDoorTb
import Derived.Test.YtfkegaencoodbaaDoorRc
set_option linter.unusedVariables false
set_option linter.unusedSimpArgs false
namespace Go.Proofs.YtfkegaencoodbaaDoor
open Go.RowKit

/-- Is a number in one of the ranges of a list? -/
def inL (p : Int) : List Int → Bool
  | a :: b :: r => (decide (a ≤ p) && decide (p ≤ b)) || inL p r
  | _ => false

theorem inL_step (p : Int) (l : List Int) (i : Nat) (h : i + 1 < l.length) : inL p (l.drop i) = ((decide (l.getD i 0 ≤ p) && decide (p ≤ l.getD (i + 1) 0)) || inL p (l.drop (i + 2))) := by
  have e1 : l.drop i = l.getD i 0 :: l.getD (i + 1) 0 :: l.drop (i + 2) := by
    rw [List.drop_eq_getElem_cons (by omega), List.drop_eq_getElem_cons (by omega)]
    simp [List.getD, List.getElem?_eq_getElem (show i < l.length by omega), List.getElem?_eq_getElem (show i + 1 < l.length by omega)]
  rw [e1]
  rfl
theorem inL_end (p : Int) (l : List Int) (i : Nat) (h : l.length ≤ i + 1) : inL p (l.drop i) = false := by
  have : (l.drop i).length ≤ 1 := by rw [List.length_drop]; omega
  match l.drop i, this with
  | [], _ => rfl
  | [_], _ => rfl

set_option maxHeartbeats 400000 in
theorem in_any (p : Int) (b n c : Nat) (zs : List Int) (w : World) (hn : n ≤ 100) (hr : Row w (some ⟨b, 0, none⟩) n zs) :
    Calls Tryd.prog 60 #[.int .i64 p, .slice (some ⟨b, 0, none⟩) n c] w fun e w' => e = .returned (.bool (inL p zs)) ∧ w' = w := by
  have hl := hr.1
  go_enter Tryd.func60, Tryd.ntmps60
  go_wp2_with fail
  go_loopw [5] (fun i wr => wr = w ∧ ∃ k : Nat, k ≤ n + 1 ∧ i = .int .i64 k ∧ inL p (zs.drop k) = inL p zs) (fun i _ => n + 2 - (intOf i).toNat)
  case atStart => exact ⟨rfl, 0, by omega, rfl, rfl⟩
  case round =>
    obtain ⟨rfl, k, hk, rfl, hin⟩ := hrel
    by_cases hkn : k + 1 < n
    · have c0 := hr.at k (by omega)
      have c1 := hr.at (k + 1) hkn
      rw [inL_step p zs k (by omega)] at hin
      have HI : Hid (((decide (zs.getD k 0 ≤ p) && decide (p ≤ zs.getD (k + 1) 0)) || inL p (zs.drop (k + 2))) = inL p zs) := hin
      simp only [Nat.zero_add] at c0 c1
      clear hin hr hl
      generalize zs.getD k 0 = x at *
      generalize zs.getD (k + 1) 0 = y at *
      by_cases h1 : x ≤ p
      · have h1' : decide (p ≥ x) = true := by simpa using h1
        by_cases h2 : p ≤ y
        · have h2' : decide (p ≤ y) = true := by simpa using h2
          go_wp2_with fail
          go_ret
          exact ⟨by rw [← HI.out]; simp [h1, h2], rfl⟩
        · have h2' : decide (p ≤ y) = false := by simpa using h2
          go_wp2_with fail
          exact ⟨⟨trivial, k + 2, by omega, by go_num, by rw [← HI.out]; simp [h2]⟩, by simp [intOf]; omega⟩
      · have h1' : decide (p ≥ x) = false := by simpa using h1
        go_wp2_with fail
        exact ⟨⟨trivial, k + 2, by omega, by go_num, by rw [← HI.out]; simp [h1]⟩, by simp [intOf]; omega⟩
    · rw [inL_end p zs k (by omega)] at hin
      have HI : Hid (false = inL p zs) := hin
      have hk1 : decide ((k : Int) + 1 < (n : Int)) = false := by simp; omega
      have hk2 : ((k : Int) + 1 < (n : Int)) = False := by simp; omega
      clear hin hr hkn
      go_wp2_with fail
      go_ret
      exact ⟨ret_bool HI.out, rfl⟩

def l2 : List Int := [4352, 4447, 11904, 12350, 12353, 42191, 44032, 55203, 63744, 64255, 65072, 65135, 65280, 65376, 65504, 65510, 127744, 128591, 129280, 129535, 131072, 262141]
def l0 : List Int := [768, 879, 8203, 8207, 8400, 8447, 65024, 65039, 65056, 65071]

theorem in_two (p : Int) : inL p l2 = decide (two p) := by
  rw [Bool.eq_iff_iff, decide_eq_true_iff]
  simp [l2, inL, two]
theorem in_zro (p : Int) : inL p l0 = decide (zro p) := by
  rw [Bool.eq_iff_iff, decide_eq_true_iff]
  simp [l0, inL, zro]

set_option maxHeartbeats 400000 in
theorem rof_any (p : Int) (w : World) :
    Calls Tryd.prog 42 #[.int .i64 p] w fun e w' => e = .returned (.int .i64 (wd p)) ∧ Below w.heap.size w w' := by
  go_enter Tryd.func42, Tryd.ntmps42
  go_wp2_with fail
  have hr : Row (w.alloc (.cells (l2.map (Value.int .i64)).toArray 3)) (some ⟨w.heap.size, 0, none⟩) 22 l2 := row_new w l2 3
  refine (in_any p w.heap.size 22 22 l2 _ (by decide) hr).mono ?_
  rintro e w1 ⟨rfl, rfl⟩
  rw [in_two]
  clear hr
  generalize hb : (w.alloc (.cells (l2.map (Value.int .i64)).toArray 3)) = w1
  have hB : Below w.heap.size w w1 := by rw [← hb]; exact (Below.refl _ _).alloc (Nat.le_refl _) _
  clear hb
  go_wp2_with fail
  have hr : Row (w1.alloc (.cells (l0.map (Value.int .i64)).toArray 3)) (some ⟨w1.heap.size, 0, none⟩) 10 l0 := row_new w1 l0 3
  refine (in_any p w1.heap.size 10 10 l0 _ (by decide) hr).mono ?_
  rintro e w2 ⟨rfl, rfl⟩
  rw [in_zro]
  clear hr
  generalize hb : (w1.alloc (.cells (l0.map (Value.int .i64)).toArray 3)) = w2
  have hB2 : Below w.heap.size w w2 := by rw [← hb]; exact hB.alloc hB.size _
  clear hb hB
  by_cases h2 : two p
  · have HE : Hid (wd p = 2) := wd_two h2
    rw [decide_eq_true h2]
    generalize decide (zro p) = z
    clear h2
    go_wp2_with fail
    go_ret
    exact ⟨ret_i64 HE.out.symm, hB2⟩
  · by_cases h0 : zro p
    · have HE : Hid (wd p = 0) := wd_zro h0
      rw [decide_eq_false h2, decide_eq_true h0]
      clear h2 h0
      go_wp2_with fail
      go_ret
      exact ⟨ret_i64 HE.out.symm, hB2⟩
    · have HE : Hid (wd p = 1) := wd_one h2 h0
      rw [decide_eq_false h2, decide_eq_false h0]
      clear h2 h0
      go_wp2_with fail
      go_ret
      exact ⟨ret_i64 HE.out.symm, hB2⟩
end Go.Proofs.YtfkegaencoodbaaDoor
