import Derived.Test.YtojjfbnpjhjidaaGreatDoorM16
set_option linter.unusedVariables false
set_option linter.unusedSimpArgs false
namespace Go.Proofs.YtojjfbnpjhjidaaGreatDoor.Lx
open Go.RowKit
theorem arr2 {R : ByteArray} (h : R.size = 2) : ∃ x0 x1, R = ⟨#[x0, x1]⟩ := by
  obtain ⟨⟨l⟩⟩ := R
  match l, h with
  | [x0, x1], _ => exact ⟨x0, x1, rfl⟩
theorem arr3 {R : ByteArray} (h : R.size = 3) : ∃ x0 x1 x2, R = ⟨#[x0, x1, x2]⟩ := by
  obtain ⟨⟨l⟩⟩ := R
  match l, h with
  | [x0, x1, x2], _ => exact ⟨x0, x1, x2, rfl⟩
theorem arr4 {R : ByteArray} (h : R.size = 4) : ∃ x0 x1 x2 x3, R = ⟨#[x0, x1, x2, x3]⟩ := by
  obtain ⟨⟨l⟩⟩ := R
  match l, h with
  | [x0, x1, x2, x3], _ => exact ⟨x0, x1, x2, x3, rfl⟩
theorem far_any (p : Int) (w : World) (h0 : 128 ≤ p) :
    Calls Tryz.prog 89 #[.string ⟨#[32, 9, 13]⟩, .int .i32 p] w fun e w' => e = .returned (.int .i64 (-1)) ∧ Below w.heap.size w w' := by
  by_cases h2 : p = 65533
  · subst h2; exact far_err w
  · cases hv : Lib.validRune p with
    | false => exact far_bad p w h0 h2 hv
    | true =>
      obtain ⟨f1, f2, f3⟩ := encode_facts p (by rw [validRune_eq]; exact hv) h0
      have f4 := f3 (by omega)
      obtain ⟨R, hR⟩ : ∃ R, Utf8.encode p = R := ⟨_, rfl⟩
      simp only [hR] at f1 f2 f3 f4
      rcases (show R.size = 2 ∨ R.size = 3 ∨ R.size = 4 by omega) with h | h | h
      · obtain ⟨x0, x1, rfl⟩ := arr2 h
        exact far2 p x0 x1 w h0 h2 hv hR f4
      · obtain ⟨x0, x1, x2, rfl⟩ := arr3 h
        exact far3 p x0 x1 x2 w h0 h2 hv hR f4
      · obtain ⟨x0, x1, x2, x3, rfl⟩ := arr4 h
        exact far4 p x0 x1 x2 x3 w h0 h2 hv hR f4
theorem near_bl : ∀ n : Nat, n < 128 → decide ((0 : Int) ≤ Lib.indexByte [32, 9, 13] n.toUInt8) = decide (n = 32 ∨ n = 9 ∨ n = 13) := by decide
def ptBl (p : Int) : Bool := decide (p = 32 ∨ p = 9 ∨ p = 13)
theorem contains_any (p : Int) (w : World) (h0 : 0 ≤ p) :
    Calls Tryz.prog 75 #[.string ⟨#[32, 9, 13]⟩, .int .i32 p] w fun e w' => e = .returned (.bool (ptBl p)) ∧ Below w.heap.size w w' := by
  by_cases h : p < 128
  · refine (Tryz.strings_ContainsRune_ascii ⟨#[32, 9, 13]⟩ p w h0 h).mono ?_
    rintro e w' ⟨rfl, rfl⟩
    refine ⟨?_, Below.refl _ _⟩
    have e := near_bl p.toNat (by omega)
    have e2 : decide (p.toNat = 32 ∨ p.toNat = 9 ∨ p.toNat = 13) = ptBl p := by unfold ptBl; rw [decide_eq_decide]; omega
    rw [← e2, ← e]
  · have HF : Hid (Calls Tryz.prog 89 #[.string ⟨#[32, 9, 13]⟩, .int .i32 p] w fun e w' => e = .returned (.int .i64 (-1)) ∧ Below w.heap.size w w') := far_any p w (by omega)
    have e2 : ptBl p = false := by unfold ptBl; rw [decide_eq_false_iff_not]; omega
    rw [e2]
    clear e2
    go_enter Tryz.func75, Tryz.ntmps75
    go_wp2_with (go_at_call 89; refine HF.out.mono ?_; rintro e w1 ⟨rfl, hb⟩)
    go_ret
    exact ⟨rfl, hb⟩
theorem isBlank_any (p : Int) (w : World) (h0 : 0 ≤ p) :
    Calls Tryz.prog 56 #[.int .i32 p] w fun e w' => e = .returned (.bool (ptBl p)) ∧ Below w.heap.size w w' := by
  have HF : Hid (Calls Tryz.prog 75 #[.string ⟨#[32, 9, 13]⟩, .int .i32 p] w fun e w' => e = .returned (.bool (ptBl p)) ∧ Below w.heap.size w w') := contains_any p w h0
  generalize ptBl p = r at *
  go_enter Tryz.func56, Tryz.ntmps56
  go_wp2_with (go_at_call 75; refine HF.out.mono ?_; rintro e w1 ⟨rfl, hb⟩)
  go_ret
  exact ⟨rfl, hb⟩
theorem bl_con (b : UInt8) : [(32 : UInt8), 9, 13].contains b = tkBl b.toNat := by
  unfold tkBl
  simp only [List.contains_cons, List.contains_nil, Bool.or_false]
  rw [Bool.eq_iff_iff]
  simp only [Bool.or_eq_true, beq_iff_eq, ← UInt8.toNat_inj]
  constructor
  · rintro (h | h | h)
    · exact .inl (.inl h)
    · exact .inl (.inr h)
    · exact .inr h
  · rintro ((h | h) | h)
    · exact .inl h
    · exact .inr (.inl h)
    · exact .inr (.inr h)
theorem ext_get (s : ByteArray) (a p j : Nat) (b : UInt8) (hp : p ≤ s.size) (h : (s.extract a p).data.toList[j]? = some b) : j < p - a ∧ by8 s (a + j) = b.toNat := by
  have hz := size_ext s a p hp
  have hj : j < (s.extract a p).data.toList.length := (List.getElem?_eq_some_iff.1 h).1
  have hl : (s.extract a p).data.toList.length = (s.extract a p).size := by rw [Array.length_toList]; rfl
  refine ⟨by omega, ?_⟩
  have e := by8_ext' s a p j (by omega)
  rw [← e]
  unfold by8
  have h2 := (List.getElem?_eq_some_iff.1 h).2
  have : (s.extract a p).get! j = b := by
    show (s.extract a p).data[j]! = b
    rw [getElem!_pos (s.extract a p).data j (by rw [Array.length_toList] at hj; exact hj)]
    simpa using h2
  rw [this]
theorem trim_is (s : ByteArray) (a p : Nat) (hap : a < p) (hp : p ≤ s.size) (ha : tkBl (by8 s a) = false) : (⟨(Lib.trimRightS (s.extract a p).data.toList [32, 9, 13]).toArray⟩ : ByteArray) = s.extract a (tkTrim s p) := by
  have h1 := tkTrim_le s p
  have h2 := tkTrim_ge s a ha p hap
  have h3 := tkTrim_gap s p
  have hz := size_ext s a p hp
  have hl : (s.extract a p).data.toList.length = (s.extract a p).size := by rw [Array.length_toList]; rfl
  have e : Lib.trimRightS (s.extract a p).data.toList [32, 9, 13] = (s.extract a p).data.toList.take (tkTrim s p - a) := by
    refine Lib.trimRightS_take _ _ _ (by omega) (fun j b hj hb => ?_) (fun b h0 hb => ?_)
    · obtain ⟨e1, e2⟩ := ext_get s a p j b hp hb
      rw [bl_con, ← e2]
      exact h3 (a + j) (by omega) (by omega)
    · obtain ⟨e1, e2⟩ := ext_get s a p _ b hp hb
      rw [bl_con, ← e2]
      have h4 : a + (tkTrim s p - a - 1) = tkTrim s p - 1 := by omega
      rw [h4]
      have key : ∀ q, 0 < tkTrim s q → tkBl (by8 s (tkTrim s q - 1)) = false := by
        intro q
        induction q with
        | zero => intro h; exact absurd h (by simp [tkTrim])
        | succ q ih =>
          intro h
          unfold tkTrim at h ⊢
          by_cases e : tkBl (by8 s q) = true
          · rw [if_pos e] at h ⊢; exact ih h
          · rw [if_neg e] at h ⊢; simpa using e
      exact key p (by omega)
  rw [e]
  refine by8_ext _ _ ?_ (fun j hj => ?_)
  · rw [size_ext s a _ (by omega)]
    show ((s.extract a p).data.toList.take (tkTrim s p - a)).toArray.size = _
    simp
    omega
  · have hj2 : j < tkTrim s p - a := by
      have : (⟨((s.extract a p).data.toList.take (tkTrim s p - a)).toArray⟩ : ByteArray).size = ((s.extract a p).data.toList.take (tkTrim s p - a)).length := by show Array.size _ = _; simp
      rw [this, List.length_take] at hj
      omega
    rw [by8_ext' s a _ j (by omega)]
    rw [← by8_ext' s a p j (by omega)]
    unfold by8
    congr 1
    show ((s.extract a p).data.toList.take (tkTrim s p - a)).toArray[j]! = (s.extract a p).data[j]!
    rw [getElem!_pos _ j (by simp; omega), getElem!_pos _ j (by have : (s.extract a p).data.size = (s.extract a p).size := rfl; omega)]
    simp
def TP (w0 w' : World) (g : Nat) (s : ByteArray) (k a f : Nat) (l : List Tv) : Prop :=
  if (tkEnd s a k).2 = 0 then Rs w0 w' g s (tkEnd s a k).1 a 0 (l ++ [tv s (tkTok s k a (tkEnd s a k).1 f)])
  else ∃ a', bd s a' ∧ a ≤ a' ∧ Rs w0 w' g s a' a f l ∧ ((tkEnd s a k).2 = 102 → a' = (tkEnd s a k).1)
theorem TP.ok {w0 w' : World} {g : Nat} {s : ByteArray} {k a f y : Nat} {l : List Tv} (hE : tkEnd s a k = (y, 0)) (h : Rs w0 w' g s y a 0 (l ++ [tv s (tkTok s k a y f)])) : TP w0 w' g s k a f l := by
  unfold TP; rw [hE, if_pos rfl]; exact h
theorem TP.bad {w0 w' : World} {g : Nat} {s : ByteArray} {k a f y e a' : Nat} {l : List Tv} (hE : tkEnd s a k = (y, e)) (he : e ≠ 0) (hb : bd s a') (ha : a ≤ a') (h : Rs w0 w' g s a' a f l) (h2 : e = 102 → a' = y) : TP w0 w' g s k a f l := by
  unfold TP; rw [hE, if_neg he]; exact ⟨a', hb, ha, h, h2⟩
def cntAt (w : World) (g k : Nat) : Nat := match w.cell? ⟨g, k, none⟩ with
  | some (.int _ n) => n.toNat
  | _ => 0
theorem cntAt_of {w : World} {g k n : Nat} (h : w.cell? ⟨g, k, none⟩ = some (.int .i64 (n : Nat))) : cntAt w g k = n := by
  unfold cntAt; rw [h]; simp
theorem Rs.at {w0 W : World} {g : Nat} {s : ByteArray} {a b f : Nat} {l : List Tv} (h : Rs w0 W g s a b f l) : cntAt W g 1 = a := by
  obtain ⟨h1, h2, v, h3, h4⟩ := h
  exact cntAt_of (Rq.cells h3).2.1
theorem gd_dp (s : ByteArray) (y : Nat) (h : gd s y = false) : dp s y = 65533 := by unfold dp; rw [gd_not s y h]
theorem pr_neg : pr' (-1) = false := by decide
theorem pr_bad : pr' 65533 = false := by decide
theorem lt_bad : lt' 65533 = false := by decide
theorem part_pt (s : ByteArray) (y : Nat) : pr' (rpt s y) = (decide (y < s.size) && (gd s y && pr' (dp s y))) := by
  by_cases h : y < s.size
  · rw [rpt_in h, decide_eq_true h, Bool.true_and]
    cases e : gd s y with
    | true => rfl
    | false => rw [gd_dp s y e]; exact pr_bad
  · rw [rpt_out (by omega), decide_eq_false h, pr_neg]; rfl
theorem letter_pt (s : ByteArray) (y : Nat) (h : y < s.size) : lt' (rpt s y) = (gd s y && lt' (dp s y)) := by
  rw [rpt_in h]
  cases e : gd s y with
  | true => rfl
  | false => rw [gd_dp s y e]; exact lt_bad
theorem digit_pt (s : ByteArray) (y : Nat) : (decide (48 ≤ rpt s y) && decide (rpt s y ≤ 57)) = (decide (y < s.size) && tkDg (by8 s y)) := by
  by_cases h : y < s.size
  · rw [rpt_in h, decide_eq_true h, Bool.true_and]
    unfold tkDg
    rw [Bool.eq_iff_iff]
    simp only [Bool.and_eq_true, decide_eq_true_eq]
    constructor
    · rintro ⟨h1, h2⟩
      have := dp_asc s y (by omega)
      omega
    · rintro ⟨h1, h2⟩
      have := (chr_asc s y (by omega)).2.1
      omega
  · rw [rpt_out (by omega), decide_eq_false h]; rfl
theorem is_pt (s : ByteArray) (y c : Nat) (hc : c < 128) (h : y < s.size) : rpt s y = (c : Int) ↔ by8 s y = c := by
  rw [rpt_in h]
  constructor
  · intro e; exact (dp_eq s y c hc).1 (by omega)
  · intro e; have := (dp_eq s y c hc).2 e; omega
theorem none_pt (s : ByteArray) (y : Nat) : rpt s y = -1 ↔ s.size ≤ y := by
  by_cases h : y < s.size
  · rw [rpt_in h]; constructor <;> intro _ <;> omega
  · rw [rpt_out (by omega)]; constructor <;> intro _ <;> first | omega | rfl
theorem ctl_pt (s : ByteArray) (y : Nat) (h : y < s.size) : (decide (rpt s y < 32) || decide (rpt s y = 127)) = tkCtl s y := by
  rw [rpt_in h]
  unfold tkCtl
  cases e : gd s y with
  | true => grind
  | false => rw [gd_dp s y e]; rfl
theorem bl_pt (s : ByteArray) (y : Nat) (h : y < s.size) : ptBl (rpt s y) = tkBl (by8 s y) := by
  unfold ptBl tkBl
  rw [Bool.eq_iff_iff]
  simp only [Bool.or_eq_true, decide_eq_true_eq, beq_iff_eq]
  have e1 := is_pt s y 32 (by decide) h
  have e2 := is_pt s y 9 (by decide) h
  have e3 := is_pt s y 13 (by decide) h
  constructor
  · grind
  · grind
theorem row_go {s : ByteArray} {a k x m : Nat} {E : Nat × Nat} (hx : x < s.size) (h : run (gRow s a k) s.size x m = E) (hon : gRow s a k x m = .on (dw s x)) : x + dw s x ≤ s.size ∧ run (gRow s a k) s.size (x + dw s x) (m + 1) = E := by
  refine ⟨(dw_facts s x hx).2.2, ?_⟩
  rw [← run_on (gRow_on s a k) (by omega) hon]; exact h
theorem row_stop {s : ByteArray} {a k y m : Nat} {E : Nat × Nat} (hy : y ≤ s.size) (h : run (gRow s a k) s.size y m = E) (hc : s.size ≤ y ∨ (k = 1 ∧ (gd s y && pr' (dp s y)) = false) ∨ (k = 3 ∧ tkDg (by8 s y) = false)) : E = (y, 0) := by
  rw [← h]
  refine run_out hy ?_
  unfold gRow
  by_cases h1 : s.size ≤ y
  · rw [if_pos h1]
  · rw [if_neg h1, if_pos (hc.resolve_left h1)]
theorem row_full {s : ByteArray} {a k y m : Nat} {E : Nat × Nat} (hy : y < s.size) (h : run (gRow s a k) s.size y m = E) (hc : ¬ ((k = 1 ∧ (gd s y && pr' (dp s y)) = false) ∨ (k = 3 ∧ tkDg (by8 s y) = false))) (hf : 65535 < y + dw s y - a) : E = (a, 103) := by
  rw [← h]
  refine run_out (by omega) ?_
  unfold gRow
  rw [if_neg (by omega), if_neg hc, if_pos hf]
theorem row_on {s : ByteArray} {a k y m : Nat} (hy : y < s.size) (hc : ¬ ((k = 1 ∧ (gd s y && pr' (dp s y)) = false) ∨ (k = 3 ∧ tkDg (by8 s y) = false))) (hf : ¬ 65535 < y + dw s y - a) : gRow s a k y m = .on (dw s y) := by
  unfold gRow
  rw [if_neg (by omega), if_neg hc, if_neg hf]
theorem quo_open {s : ByteArray} {a q y m : Nat} {o : Bool} {E : Nat × Nat} (hy : y ≤ s.size) (h : run (gQuo s a q o) s.size y m = E) (hc : s.size ≤ y ∨ by8 s y = 10) : E = (a, 101) := by
  rw [← h]
  refine run_out hy ?_
  unfold gQuo
  rw [if_pos hc]
theorem quo_full {s : ByteArray} {a q y m : Nat} {o : Bool} {E : Nat × Nat} (hy : y < s.size) (h : run (gQuo s a q o) s.size y m = E) (hc : by8 s y ≠ 10) (hf : 65535 < y + dw s y - a) : E = (a, 103) := by
  rw [← h]
  refine run_out (by omega) ?_
  unfold gQuo
  rw [if_neg (by rintro (h | h); omega; exact hc h), if_pos hf]
theorem quo_fin {s : ByteArray} {a q y m : Nat} {o : Bool} {E : Nat × Nat} (hy : y < s.size) (h : run (gQuo s a q o) s.size y m = E) (hc : by8 s y ≠ 10) (hf : ¬ 65535 < y + dw s y - a) (hq : by8 s y = q ∧ (o = false ∨ m = 1)) : E = (y + 1, 0) := by
  rw [← h]
  refine run_out (by omega) ?_
  unfold gQuo
  rw [if_neg (by rintro (h | h); omega; exact hc h), if_neg hf, if_pos hq]
theorem quo_wrong {s : ByteArray} {a q y m : Nat} {o : Bool} {E : Nat × Nat} (hy : y < s.size) (h : run (gQuo s a q o) s.size y m = E) (hc : by8 s y ≠ 10) (hf : ¬ 65535 < y + dw s y - a) (hq : ¬ (by8 s y = q ∧ (o = false ∨ m = 1))) (hb : tkCtl s y = true ∨ (o = true ∧ (m = 1 ∨ by8 s y = q))) : E = (y, 102) := by
  rw [← h]
  refine run_out (by omega) ?_
  unfold gQuo
  rw [if_neg (by rintro (h | h); omega; exact hc h), if_neg hf, if_neg hq, if_pos hb]
theorem quo_more {s : ByteArray} {a q y m : Nat} {o : Bool} {E : Nat × Nat} (hy : y < s.size) (h : run (gQuo s a q o) s.size y m = E) (hc : by8 s y ≠ 10) (hf : ¬ 65535 < y + dw s y - a) (hq : ¬ (by8 s y = q ∧ (o = false ∨ m = 1))) (hb : ¬ (tkCtl s y = true ∨ (o = true ∧ (m = 1 ∨ by8 s y = q)))) : run (gQuo s a q o) s.size (y + dw s y) (m + 1) = E := by
  rw [← h]
  refine (run_on (gQuo_on s a q o) (by omega) ?_).symm
  unfold gQuo
  rw [if_neg (by rintro (h | h); omega; exact hc h), if_neg hf, if_neg hq, if_neg hb]
theorem com_on1 {s : ByteArray} {a y : Nat} {o : Bool} (m : Nat) (hy : y < s.size) (h10 : o = false → by8 s y ≠ 10) (h125 : o = true → by8 s y ≠ 125) (hf : y + 1 - a ≤ 65535) : run (gCom s a o) s.size y m = run (gCom s a o) s.size (y + 1) (m + 1) := by
  refine run_on (gCom_on s a o) (by omega) ?_
  unfold gCom
  rw [if_neg (by omega), if_neg (by rintro ⟨h1, h2⟩; exact h10 h1 h2), if_neg (by omega), if_neg (by rintro ⟨h1, h2⟩; exact h125 h1 h2)]
theorem com_ons {s : ByteArray} {a y : Nat} {o : Bool} : ∀ (i m : Nat), (∀ j, j < i → y + j < s.size ∧ (o = false → by8 s (y + j) ≠ 10) ∧ (o = true → by8 s (y + j) ≠ 125) ∧ y + j + 1 - a ≤ 65535) → run (gCom s a o) s.size y m = run (gCom s a o) s.size (y + i) (m + i)
  | 0, m, _ => rfl
  | i + 1, m, h => by
    rw [com_ons i m (fun j hj => h j (by omega))]
    obtain ⟨h1, h2, h3, h4⟩ := h i (by omega)
    exact com_on1 (m + i) h1 h2 h3 h4
theorem chr_in (s : ByteArray) (y j : Nat) (hy : y < s.size) (hj : j < dw s y) : y + j < s.size ∧ (j ≠ 0 → by8 s (y + j) ≠ 10 ∧ by8 s (y + j) ≠ 125) := by
  have := (dw_facts s y hy).2.2
  refine ⟨by omega, fun h => ?_⟩
  have := (dec_inner s y j (by omega) hj).2
  omega
theorem com_go {s : ByteArray} {a y : Nat} {o : Bool} {E : Nat × Nat} (m : Nat) (hy : y < s.size) (h10 : o = false → by8 s y ≠ 10) (h125 : o = true → by8 s y ≠ 125) (hf : y + dw s y - a ≤ 65535) (h : run (gCom s a o) s.size y m = E) : run (gCom s a o) s.size (y + dw s y) (m + dw s y) = E := by
  rw [← h]
  refine (com_ons (dw s y) m (fun j hj => ?_)).symm
  obtain ⟨h1, h2⟩ := chr_in s y j hy hj
  refine ⟨h1, fun ho => ?_, fun ho => ?_, by omega⟩
  · grind
  · grind
theorem com_full {s : ByteArray} {a y : Nat} {o : Bool} {E : Nat × Nat} (m : Nat) (hy : y < s.size) (h10 : o = false → by8 s y ≠ 10) (hay : a ≤ y) (hb : y - a ≤ 65535) (hf : 65535 < y + dw s y - a) (h : run (gCom s a o) s.size y m = E) : E = (a, 103) := by
  obtain ⟨i, hi⟩ : ∃ i, y + i = a + 65535 := ⟨a + 65535 - y, by omega⟩
  have hid : i < dw s y := by omega
  obtain ⟨d1, d2, d3⟩ := dw_facts s y hy
  have last : ∀ z m, z < s.size → (o = false → by8 s z ≠ 10) → 65535 < z + 1 - a → run (gCom s a o) s.size z m = (a, 103) := by
    intro z m hz h1 h2
    refine run_out (by omega) ?_
    unfold gCom
    rw [if_neg (by omega), if_neg (by rintro ⟨e1, e2⟩; exact h1 e1 e2), if_pos h2]
  by_cases h0 : i = 0
  · rw [← h]
    exact last y m hy h10 (by omega)
  · by_cases c : o = true ∧ by8 s y = 125
    · exfalso
      have := (chr_asc s y (by omega)).1
      omega
    · rw [← h, com_ons i m (fun j hj => ?_)]
      · have h2 := chr_in s y i hy hid
        exact last (y + i) _ h2.1 (fun _ => (h2.2 h0).1) (by omega)
      · obtain ⟨h1, h2⟩ := chr_in s y j hy (by omega)
        refine ⟨h1, fun ho => ?_, fun ho => ?_, by omega⟩
        · by_cases e : j = 0
          · subst e; exact h10 ho
          · exact (h2 e).1
        · by_cases e : j = 0
          · subst e; exact fun e2 => c ⟨ho, e2⟩
          · exact (h2 e).2
theorem com_line {s : ByteArray} {a y m : Nat} {E : Nat × Nat} (hy : y ≤ s.size) (h : run (gCom s a false) s.size y m = E) (hc : s.size ≤ y ∨ by8 s y = 10) : E = (y, 0) := by
  rw [← h]
  refine run_out hy ?_
  unfold gCom
  by_cases h1 : s.size ≤ y
  · rw [if_pos h1]; rfl
  · rw [if_neg h1, if_pos ⟨rfl, hc.resolve_left h1⟩]
theorem com_open {s : ByteArray} {a y m : Nat} {E : Nat × Nat} (hy : y ≤ s.size) (h : run (gCom s a true) s.size y m = E) (hc : s.size ≤ y) : E = (a, 101) := by
  rw [← h]
  refine run_out hy ?_
  unfold gCom
  rw [if_pos hc]; rfl
theorem com_brace {s : ByteArray} {a y m : Nat} {E : Nat × Nat} (hy : y < s.size) (h : run (gCom s a true) s.size y m = E) (hc : by8 s y = 125) (hf : y + 1 - a ≤ 65535) : E = (y + 1, 0) := by
  rw [← h]
  refine run_out (by omega) ?_
  unfold gCom
  rw [if_neg (by omega), if_neg (by rintro ⟨e1, e2⟩; cases e1), if_neg (by omega), if_pos ⟨rfl, hc⟩]
end Go.Proofs.YtojjfbnpjhjidaaGreatDoor.Lx
