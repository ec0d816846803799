import Derived.Test.YtojjfbnpjhjidaaGreatDoorM02
import Derived.Test.YtojjfbnpjhjidaaGreatDoorM06
set_option linter.unusedVariables false
set_option linter.unusedSimpArgs false
namespace Go.Proofs.YtojjfbnpjhjidaaGreatDoor.Lx
open Go.RowKit
theorem ivs_snoc (l : List Nat) (x : Nat) : ivs (l ++ [x]) = ivs l ++ [.int .i64 (x : Int)] := by simp [ivs]
theorem P_take (s : ByteArray) (k : Nat) (h : k < (P s).length) : (P s).take (k + 1) = (P s).take k ++ [st s k] := by
  have h1 := P_at s k h
  rw [List.take_succ_eq_append_getElem h]
  have := (List.getElem?_eq_some_iff.1 h1).2
  rw [this]
set_option maxRecDepth 100000 in
set_option maxHeartbeats 1000000 in
theorem rplaces_any (s : ByteArray) (w : World) (hs : s.size ≤ 2147483647) :
    Calls Tryz.prog 54 #[.string s] w fun e w' => ∃ v, e = .returned v ∧ w'.ownsRow w.heap.size 3 1 v (P s).length (ivs (P s)) ∧ Below w.heap.size w w' := by
  have hP := P_len s
  obtain ⟨i0, hi, hz0, hz1, hz2⟩ := info_parts Tryz.info3
  go_enter Tryz.func54, Tryz.ntmps54
  go_wp2_with fail
  go_loopw [3, 4] (fun v a wr => ∃ k : Nat, k ≤ (P s).length ∧ a = .int .i64 (st s k) ∧ wr.ownsRow w.heap.size 3 1 v k (ivs ((P s).take k)) ∧ Below w.heap.size w wr) (fun _ a _ => s.size - (intOf a).toNat)
  case atStart => exact ⟨0, Nat.zero_le _, rfl, World.ownsRow_nil _ _ _ _, Below.refl _ _⟩
  case round =>
    obtain ⟨k, hk, rfl, hown, hbel⟩ := hrel
    have hbz := hbel.size
    by_cases hlt : k < (P s).length
    · have hp := (st_lt s k).2 hlt
      have hw := dw_facts s _ hp
      have hd := dp_le s (st s k)
      have hn := fun w => rnext_in s (st s k) w hs (by omega) (by omega)
      rw [Int.toNat_natCast] at hn
      have HN : Hid _ := hn
      have HS : Hid (st s (k + 1) = st s k + dw s (st s k)) := st_succ s k hlt
      have HT : Hid ((ivs ((P s).take (k + 1))) = (ivs ((P s).take k)) ++ [.int .i64 ((st s k : Nat) : Int)]) := by
        show _ = _
        rw [P_take s k hlt, ivs_snoc]
      clear hn
      generalize hst : st s k = i at *
      generalize dp s i = p at *
      generalize dw s i = d at *
      generalize gd s i = g at *
      clear hst
      go_wp2_with (first | (at_builtin; refine wpList_append_own _ rfl _ _ 125 rfl w.heap.size 3 i0 (.int .i64 0) 1 8 Tryz.underlying125 hi hz0 hz1 hz2 rfl (by decide) _ _ _ rfl (hown.alloc _) ⟨_, 0, none⟩ 1 1 [.int .i64 (i : Nat)] rfl rfl ?c1 ?c2 ?c3 ?c4 ?c5 ?_))
      case c1 => exact one_new _ _ _ _ rfl
      case c2 => intro u hu; simp at hu; subst hu; rfl
      case c3 => unfold maxLen; omega
      case c4 => omega
      case c5 => simp; omega
      · intro v' w3 hown3 hgrow3 _
        have hbel3 : Below w.heap.size w w3 := (hbel.alloc hbz _).grown hgrow3 (by simp; omega) (fun j hj => (hown.lt j hj).1)
        have hbz3 := hbel3.size
        rw [← HT.out] at hown3
        clear hgrow3 hown hbel HT
        go_wp2_with fail
        refine (HN.out _).mono ?_
        rintro e w' ⟨rfl, rfl⟩
        go_wp2_with fail
        exact ⟨⟨k + 1, hlt, by rw [HS.out]; go_num, hown3, hbel3⟩, by simp [intOf]; omega⟩
    · have hke : k = (P s).length := by omega
      have he := st_end s k (by omega)
      rw [List.take_of_length_le (by omega)] at hown
      rw [he]
      have HK : Hid _ := hke
      clear hke he
      go_wp2_with fail
      go_ret
      rw [HK.out] at hown
      exact ⟨_, rfl, hown, hbel⟩
theorem own_shape {w : World} {base n : Nat} {v : Value} {zs : List Int} (h : w.ownsRow base 3 1 v n (zs.map (Value.int .i64))) : ∃ ao cap, v = .slice ao n cap ∧ Row w ao n zs := by
  rcases h.2 with ⟨rfl, rfl⟩ | ⟨g, cap, cur, rfl, _⟩
  · have hl : zs = [] := List.eq_nil_of_length_eq_zero (by have := h.1; simpa using this)
    subst hl
    exact ⟨none, 0, rfl, rfl, fun j hj => by omega⟩
  · exact ⟨_, cap, rfl, own_row h⟩
set_option maxHeartbeats 400000 in
theorem rcount_any (s : ByteArray) (w : World) (hs : s.size ≤ 2147483647) :
    Calls Tryz.prog 38 #[.string s] w fun e w' => e = .returned (.int .i64 (P s).length) ∧ Below w.heap.size w w' := by
  have HP : Hid _ := rplaces_any s
  go_enter Tryz.func38, Tryz.ntmps38
  go_wp2_with fail
  refine (HP.out _ hs).mono ?_
  rintro e w1 ⟨v, rfl, hown, hb⟩
  rw [ivs_eq] at hown
  obtain ⟨ao, cap, rfl, hr⟩ := own_shape hown
  clear hown hr
  go_wp2_with fail
  go_ret
  exact ⟨rfl, hb⟩
def ltr (p : Int) : Prop := (65 ≤ p ∧ p ≤ 90) ∨ (97 ≤ p ∧ p ≤ 122) ∨ (192 ≤ p ∧ p ≤ 214) ∨ (216 ≤ p ∧ p ≤ 246) ∨ (248 ≤ p ∧ p ≤ 591) ∨ (913 ≤ p ∧ p ≤ 929) ∨ (931 ≤ p ∧ p ≤ 974) ∨ (1024 ≤ p ∧ p ≤ 1119) ∨ (1488 ≤ p ∧ p ≤ 1514) ∨ (1568 ≤ p ∧ p ≤ 1610) ∨ (2308 ≤ p ∧ p ≤ 2361) ∨ (12353 ≤ p ∧ p ≤ 12438) ∨ (12449 ≤ p ∧ p ≤ 12538) ∨ (19968 ≤ p ∧ p ≤ 40959) ∨ (44032 ≤ p ∧ p ≤ 55203) ∨ (66560 ≤ p ∧ p ≤ 66639) ∨ (131072 ≤ p ∧ p ≤ 196607)
def mrk (p : Int) : Prop := (48 ≤ p ∧ p ≤ 57) ∨ (95 ≤ p ∧ p ≤ 95) ∨ (768 ≤ p ∧ p ≤ 879)
instance (p : Int) : Decidable (ltr p) := by unfold ltr; infer_instance
instance (p : Int) : Decidable (mrk p) := by unfold mrk; infer_instance
def us (p : Int) : Int := if ltr p then 2 else if mrk p then 1 else 0
def lt' (p : Int) : Bool := decide (ltr p)
def pr' (p : Int) : Bool := lt' p || decide (mrk p)
theorem us_two {p : Int} (h : ltr p) : us p = 2 := by unfold us; rw [if_pos h]
theorem us_one {p : Int} (h : mrk p) : us p = 1 := by
  unfold us
  rw [if_neg (by unfold mrk at h; unfold ltr; omega), if_pos h]
theorem us_no {p : Int} (h : ¬ ltr p) (h2 : ¬ mrk p) : us p = 0 := by unfold us; rw [if_neg h, if_neg h2]
theorem us_lt (p : Int) : (us p == 2) = lt' p := by
  unfold us lt'
  by_cases h : ltr p
  · rw [if_pos h, decide_eq_true h]; rfl
  · rw [if_neg h, decide_eq_false h]; split <;> rfl
theorem us_pr (p : Int) : (us p != 0) = pr' p := by
  unfold us pr' lt'
  by_cases h : ltr p
  · rw [if_pos h, decide_eq_true h]; rfl
  · rw [if_neg h, decide_eq_false h]
    by_cases h2 : mrk p
    · rw [if_pos h2, decide_eq_true h2]; rfl
    · rw [if_neg h2, decide_eq_false h2]; rfl
theorem ctab_hit (i : Nat) (p : Int) (hi : i < 20) (h0 : clo i ≤ p) (h1 : p ≤ chi i) : cus i = us p := by
  rcases i with _|_|_|_|_|_|_|_|_|_|_|_|_|_|_|_|_|_|_|_|i
  all_goals simp [clo, chi, cus, ctabL, List.getD] at h0 h1 ⊢
  all_goals first | exact (us_two (by unfold ltr; omega)).symm | exact (us_one (by unfold mrk; omega)).symm | omega
theorem ctab_all (p : Int) (h : ∀ k, k < 20 → p < clo k ∨ chi k < p) : us p = 0 := by
  have a0 := h 0 (by omega); have a1 := h 1 (by omega); have a2 := h 2 (by omega); have a3 := h 3 (by omega); have a4 := h 4 (by omega); have a5 := h 5 (by omega); have a6 := h 6 (by omega); have a7 := h 7 (by omega); have a8 := h 8 (by omega); have a9 := h 9 (by omega); have a10 := h 10 (by omega); have a11 := h 11 (by omega); have a12 := h 12 (by omega); have a13 := h 13 (by omega); have a14 := h 14 (by omega); have a15 := h 15 (by omega); have a16 := h 16 (by omega); have a17 := h 17 (by omega); have a18 := h 18 (by omega); have a19 := h 19 (by omega)
  simp only [clo, chi, ctabL, List.getD, List.getElem?_cons_zero, List.getElem?_cons_succ, Option.getD_some] at a0 a1 a2 a3 a4 a5 a6 a7 a8 a9 a10 a11 a12 a13 a14 a15 a16 a17 a18 a19
  refine us_no ?_ ?_
  · unfold ltr; omega
  · unfold mrk; omega
theorem ctab_up (i k : Nat) (hk : k < 20) (h : i ≤ k) : clo i ≤ clo k := by
  have : ∀ k, k < 20 → ∀ i, i < 20 → i ≤ k → clo i ≤ clo k := by decide +kernel
  exact this k hk i (by omega) h
theorem ctab_miss (i : Nat) (p : Int) (h : ∀ k, k < i → chi k < p) (h2 : i < 20 → p < clo i) : us p = 0 := by
  refine ctab_all p fun k hk => ?_
  by_cases hki : k < i
  · exact .inr (h k hki)
  · have := h2 (by omega)
    have := ctab_up i k hk (by omega)
    omega
theorem kret_i64 {a b : Int} (h : a = b) : Ending.returned (.int .i64 a) = .returned (.int .i64 b) := by rw [h]
theorem kret_b {a b : Bool} (h : a = b) : Ending.returned (.bool a) = .returned (.bool b) := by rw [h]
set_option maxHeartbeats 400000 in
theorem use_any (p : Int) (w : World) (hT : CTab w) :
    Calls Tryz.prog 77 #[.int .i64 p] w fun e w' => e = .returned (.int .i64 (us p)) ∧ w' = w := by
  go_enter Tryz.func77, Tryz.ntmps77
  go_wp2_with fail
  go_loopw [4] (fun i wr => wr = w ∧ ∃ k : Nat, k ≤ 20 ∧ i = .int .i64 k ∧ ∀ j, j < k → chi j < p) (fun i _ => 20 - (intOf i).toNat)
  case atStart => exact ⟨rfl, 0, by omega, rfl, fun j hj => by omega⟩
  case round =>
    obtain ⟨rfl, k, hk, rfl, hall⟩ := hrel
    by_cases h16 : k < 20
    · obtain ⟨c0, c1, c2⟩ := hT k h16
      have HA : Hid (∀ j, j < k → chi j < p) := hall
      have HH : Hid (clo k ≤ p → p ≤ chi k → cus k = us p) := ctab_hit k p h16
      have HM : Hid (p < clo k → us p = 0) := fun h => ctab_miss k p hall (fun _ => h)
      have HN : Hid (chi k < p → ∀ j, j < k + 1 → chi j < p) := fun h j hj => by
        by_cases e : j = k
        · subst e; exact h
        · exact hall j (by omega)
      clear hall hT
      generalize clo k = l at *
      generalize cus k = c at *
      generalize chi k = u at *
      by_cases h1 : p < l
      · go_wp2_with fail
        go_ret
        exact ⟨kret_i64 (HM.out h1).symm, rfl⟩
      · by_cases h2 : p ≤ u
        · go_wp2_with fail
          go_ret
          exact ⟨kret_i64 (HH.out (by omega) h2), rfl⟩
        · go_wp2_with fail
          exact ⟨⟨trivial, k + 1, by omega, by go_num, HN.out (by omega)⟩, by simp [intOf]; omega⟩
    · have HM : Hid (us p = 0) := ctab_miss k p hall (fun h => absurd h h16)
      clear hall hT
      go_wp2_with fail
      go_ret
      exact ⟨kret_i64 HM.out.symm, rfl⟩
theorem letter_any (p : Int) (w : World) (hT : CTab w) :
    Calls Tryz.prog 59 #[.int .i64 p] w fun e w' => e = .returned (.bool (lt' p)) ∧ w' = w := by
  go_enter Tryz.func59, Tryz.ntmps59
  go_wp2_with fail
  refine (use_any p w hT).mono ?_
  rintro e w' ⟨rfl, rfl⟩
  have HU : Hid ((us p == 2) = lt' p) := us_lt p
  generalize us p = u at *
  go_wp2_with fail
  go_ret
  exact ⟨kret_b HU.out, rfl⟩
theorem part_any (p : Int) (w : World) (hT : CTab w) :
    Calls Tryz.prog 78 #[.int .i64 p] w fun e w' => e = .returned (.bool (pr' p)) ∧ w' = w := by
  go_enter Tryz.func78, Tryz.ntmps78
  go_wp2_with fail
  refine (use_any p w hT).mono ?_
  rintro e w' ⟨rfl, rfl⟩
  have HU : Hid ((us p != 0) = pr' p) := us_pr p
  generalize us p = u at *
  go_wp2_with fail
  go_ret
  exact ⟨kret_b HU.out, rfl⟩
def inL (p : Int) : List Int → Bool
  | a :: b :: r => (decide (a ≤ p) && decide (p ≤ b)) || inL p r
  | _ => false
theorem inL_step (p : Int) (l : List Int) (i : Nat) (h : i + 1 < l.length) : inL p (l.drop i) = ((decide (l.getD i 0 ≤ p) && decide (p ≤ l.getD (i + 1) 0)) || inL p (l.drop (i + 2))) := by
  have e1 : l.drop i = l.getD i 0 :: l.getD (i + 1) 0 :: l.drop (i + 2) := by
    rw [List.drop_eq_getElem_cons (by omega), List.drop_eq_getElem_cons (by omega)]
    simp [List.getD, List.getElem?_eq_getElem (show i < l.length by omega), List.getElem?_eq_getElem (show i + 1 < l.length by omega)]
  rw [e1]
  rfl
theorem inL_end (p : Int) (l : List Int) (i : Nat) (h : l.length ≤ i + 1) : inL p (l.drop i) = false := by
  have : (l.drop i).length ≤ 1 := by rw [List.length_drop]; omega
  match l.drop i, this with
  | [], _ => rfl
  | [_], _ => rfl
set_option maxHeartbeats 400000 in
theorem in_any (p : Int) (b n c : Nat) (zs : List Int) (w : World) (hn : n ≤ 100) (hr : Row w (some ⟨b, 0, none⟩) n zs) :
    Calls Tryz.prog 69 #[.int .i64 p, .slice (some ⟨b, 0, none⟩) n c] w fun e w' => e = .returned (.bool (inL p zs)) ∧ w' = w := by
  have hl := hr.1
  go_enter Tryz.func69, Tryz.ntmps69
  go_wp2_with fail
  go_loopw [5] (fun i wr => wr = w ∧ ∃ k : Nat, k ≤ n + 1 ∧ i = .int .i64 k ∧ inL p (zs.drop k) = inL p zs) (fun i _ => n + 2 - (intOf i).toNat)
  case atStart => exact ⟨rfl, 0, by omega, rfl, rfl⟩
  case round =>
    obtain ⟨rfl, k, hk, rfl, hin⟩ := hrel
    by_cases hkn : k + 1 < n
    · have c0 := hr.at k (by omega)
      have c1 := hr.at (k + 1) hkn
      rw [inL_step p zs k (by omega)] at hin
      have HI : Hid (((decide (zs.getD k 0 ≤ p) && decide (p ≤ zs.getD (k + 1) 0)) || inL p (zs.drop (k + 2))) = inL p zs) := hin
      simp only [Nat.zero_add] at c0 c1
      clear hin hr hl
      generalize zs.getD k 0 = x at *
      generalize zs.getD (k + 1) 0 = y at *
      by_cases h1 : x ≤ p
      · have h1' : decide (p ≥ x) = true := by simpa using h1
        by_cases h2 : p ≤ y
        · have h2' : decide (p ≤ y) = true := by simpa using h2
          go_wp2_with fail
          go_ret
          exact ⟨by rw [← HI.out]; simp [h1, h2], rfl⟩
        · have h2' : decide (p ≤ y) = false := by simpa using h2
          go_wp2_with fail
          exact ⟨⟨trivial, k + 2, by omega, by go_num, by rw [← HI.out]; simp [h2]⟩, by simp [intOf]; omega⟩
      · have h1' : decide (p ≥ x) = false := by simpa using h1
        go_wp2_with fail
        exact ⟨⟨trivial, k + 2, by omega, by go_num, by rw [← HI.out]; simp [h1]⟩, by simp [intOf]; omega⟩
    · rw [inL_end p zs k (by omega)] at hin
      have HI : Hid (false = inL p zs) := hin
      have hk1 : decide ((k : Int) + 1 < (n : Int)) = false := by simp; omega
      have hk2 : ((k : Int) + 1 < (n : Int)) = False := by simp; omega
      clear hin hr hkn
      go_wp2_with fail
      go_ret
      exact ⟨ret_bool HI.out, rfl⟩
def lL : List Int := [65, 90, 97, 122, 192, 214, 216, 246, 248, 591, 913, 929, 931, 974, 1024, 1119, 1488, 1514, 1568, 1610, 2308, 2361, 12353, 12438, 12449, 12538, 19968, 40959, 44032, 55203, 66560, 66639, 131072, 196607]
def mL : List Int := [48, 57, 95, 95, 768, 879]
theorem in_ltr (p : Int) : inL p lL = lt' p := by
  unfold lt'
  rw [Bool.eq_iff_iff, decide_eq_true_iff]
  simp [lL, inL, ltr]
theorem in_mrk (p : Int) : inL p mL = decide (mrk p) := by
  rw [Bool.eq_iff_iff, decide_eq_true_iff]
  simp [mL, inL, mrk]
set_option maxHeartbeats 400000 in
theorem rletter_any (p : Int) (w : World) :
    Calls Tryz.prog 47 #[.int .i64 p] w fun e w' => e = .returned (.bool (lt' p)) ∧ Below w.heap.size w w' := by
  go_enter Tryz.func47, Tryz.ntmps47
  go_wp2_with fail
  have hr : Row (w.alloc (.cells (lL.map (Value.int .i64)).toArray 3)) (some ⟨w.heap.size, 0, none⟩) 34 lL := row_new w lL 3
  refine (in_any p w.heap.size 34 34 lL _ (by decide) hr).mono ?_
  rintro e w1 ⟨rfl, rfl⟩
  rw [in_ltr]
  clear hr
  generalize hb : (w.alloc (.cells (lL.map (Value.int .i64)).toArray 3)) = w1
  have hB : Below w.heap.size w w1 := by rw [← hb]; exact (Below.refl _ _).alloc (Nat.le_refl _) _
  clear hb
  generalize hb : lt' p = b
  have HB : Hid (lt' p = b) := hb
  clear hb
  go_wp2_with fail
  go_ret
  exact ⟨kret_b HB.out.symm, hB⟩
set_option maxHeartbeats 400000 in
theorem rpart_any (p : Int) (w : World) :
    Calls Tryz.prog 72 #[.int .i64 p] w fun e w' => e = .returned (.bool (pr' p)) ∧ Below w.heap.size w w' := by
  go_enter Tryz.func72, Tryz.ntmps72
  go_wp2_with fail
  refine (rletter_any p w).mono ?_
  rintro e w1 ⟨rfl, hb⟩
  have HP : Hid (pr' p = (lt' p || decide (mrk p))) := rfl
  cases hl : lt' p
  · rw [hl] at HP
    clear hl
    go_wp2_with fail
    have hr : Row (w1.alloc (.cells (mL.map (Value.int .i64)).toArray 3)) (some ⟨w1.heap.size, 0, none⟩) 6 mL := row_new w1 mL 3
    refine (in_any p w1.heap.size 6 6 mL _ (by decide) hr).mono ?_
    rintro e w2 ⟨rfl, rfl⟩
    rw [in_mrk]
    clear hr
    generalize hb2 : (w1.alloc (.cells (mL.map (Value.int .i64)).toArray 3)) = w2
    have hB2 : Below w.heap.size w w2 := by rw [← hb2]; exact hb.alloc hb.size _
    clear hb2 hb
    generalize decide (mrk p) = b at *
    go_wp2_with fail
    go_ret
    exact ⟨kret_b (by rw [HP.out]; rfl), hB2⟩
  · rw [hl] at HP
    clear hl
    go_wp2_with fail
    go_ret
    exact ⟨kret_b (by rw [HP.out]; rfl), hb⟩
end Go.Proofs.YtojjfbnpjhjidaaGreatDoor.Lx
