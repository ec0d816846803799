import Derived.Test.YtnmjkgjhjnpijaaGreatDoorKc
set_option linter.unusedVariables false
set_option linter.unusedSimpArgs false
namespace Go.Proofs.YtnmjkgjhjnpijaaGreatDoor
open Go.RowKit

/-! ### Names -/
def nmL : List Nat → Bool
  | [] => false
  | p :: r => lt' p && r.all fun q => pr' q
def nm (s : ByteArray) : Bool := nmL (pts s) && !ky s

theorem pr_of_lt {p : Int} (h : lt' p = true) : pr' p = true := by unfold pr'; rw [h]; rfl

theorem nmL_iff (l : List Nat) : nmL l = true ↔ l ≠ [] ∧ ∀ j, j < l.length → pr' (l.getD j 0) = true ∧ (j = 0 → lt' (l.getD j 0) = true) := by
  cases l with
  | nil => simp [nmL]
  | cons p r =>
    constructor
    · intro h
      have h1 : lt' p = true ∧ (r.all fun q => pr' q) = true := by simpa [nmL] using h
      refine ⟨by simp, fun j hj => ?_⟩
      cases j with
      | zero => exact ⟨pr_of_lt h1.1, fun _ => h1.1⟩
      | succ j =>
        refine ⟨?_, fun h => by omega⟩
        have hj' : j < r.length := by simpa using hj
        have := List.all_eq_true.1 h1.2 (r[j]'hj') (List.getElem_mem _)
        simpa [List.getD, List.getElem?_eq_getElem hj'] using this
    · rintro ⟨_, h⟩
      have h0 := (h 0 (by simp)).2 rfl
      have h1 : (r.all fun q => pr' q) = true := by
        rw [List.all_eq_true]
        intro x hx
        obtain ⟨j, hj, e⟩ := List.mem_iff_getElem.1 hx
        have := (h (j + 1) (by simpa using hj)).1
        simpa [List.getD, List.getElem?_eq_getElem hj, e] using this
      have h0' : lt' p = true := h0
      simp only [nmL, h0', h1, Bool.and_self]

theorem pts_getD (s : ByteArray) (k : Nat) (h : k < (P s).length) : (pts s).getD k 0 = dp s (st s k) := by
  unfold pts
  rw [List.getD, List.getElem?_map, P_at s k h]; rfl

theorem nm_hit (s : ByteArray) (h0 : 0 < s.size) (hk : ky s = false) (h : ∀ j, j < (P s).length → pr' (dp s (st s j)) = true ∧ (j = 0 → lt' (dp s (st s j)) = true)) : nm s = true := by
  unfold nm
  rw [hk, (nmL_iff _).2]
  · rfl
  · refine ⟨?_, fun j hj => ?_⟩
    · intro e
      have h1 := (st_lt s 0).1 h0
      have := pts_len s
      rw [e] at this
      simp at this; omega
    · rw [pts_len] at hj
      rw [pts_getD s j hj]; exact h j hj
theorem nm_miss (s : ByteArray) (j : Nat) (hj : j < (P s).length) (h : pr' (dp s (st s j)) = false ∨ (j = 0 ∧ lt' (dp s (st s j)) = false)) : nm s = false := by
  unfold nm
  have : nmL (pts s) = false := by
    rw [Bool.eq_false_iff]
    intro h2
    have h3 := ((nmL_iff _).1 h2).2 j (by rw [pts_len]; exact hj)
    rw [pts_getD s j hj] at h3
    rcases h with h | ⟨h, h4⟩
    · rw [h] at h3; exact absurd h3.1 (by simp)
    · rw [h4] at h3; exact absurd (h3.2 h) (by simp)
  rw [this]; rfl
theorem nm_zero (s : ByteArray) (h : s.size = 0) : nm s = false := by
  unfold nm
  have : pts s = [] := by
    apply List.eq_nil_of_length_eq_zero
    rw [pts_len]
    have := P_len s; omega
  rw [this]; rfl
theorem nm_key (s : ByteArray) (h : ky s = true) : nm s = false := by unfold nm; rw [h]; simp

theorem st_pos (s : ByteArray) (k : Nat) (h0 : 0 < k) (h : k ≤ (P s).length) : 0 < st s k := by
  obtain ⟨j, rfl⟩ : ∃ j, k = j + 1 := ⟨k - 1, by omega⟩
  rw [st_succ s j (by omega)]
  have := dw_facts s (st s j) ((st_lt s j).2 (by omega))
  omega

end Go.Proofs.YtnmjkgjhjnpijaaGreatDoor

set_option linter.unusedVariables false
set_option linter.unusedSimpArgs false
namespace Go.Proofs.YtnmjkgjhjnpijaaGreatDoor
open Go.RowKit Go.Deep

/-- The texts of a slice. -/
def SRow (w : World) (b : Nat) (n : Nat) (xs : List ByteArray) : Prop :=
  xs.length = n ∧ ∀ j, j < n → w.cell? ⟨b, j, none⟩ = some (.string (xs.getD j ByteArray.empty))
theorem SRow.below {w w' : World} {b n : Nat} {xs : List ByteArray} (h : SRow w b n xs) (hb : Below w.heap.size w w') : SRow w' b n xs := by
  refine ⟨h.1, fun j hj => ?_⟩
  have h2 := h.2 j hj
  exact (hb.cell (p := ⟨b, j, none⟩) (World.block_lt_of_cell? w _ h2)).trans h2
theorem srow_new (W : World) (xs : List ByteArray) (t : Nat) : SRow (W.alloc (.cells (xs.map Value.string).toArray t)) W.heap.size xs.length xs := by
  refine ⟨rfl, fun j hj => ?_⟩
  rw [World.cell?_alloc_new]
  simp [hj, List.getD]

theorem rkeys_any (w : World) :
    Calls Tryz.prog 76 #[] w fun e w' => e = .returned (.slice (some ⟨w.heap.size, 0, none⟩) 24 24) ∧ SRow w' w.heap.size 24 wordL ∧ Below w.heap.size w w' := by
  go_enter Tryz.func76, Tryz.ntmps76
  go_wp2_with fail
  go_ret
  exact ⟨rfl, srow_new w wordL 9, (Below.refl _ _).alloc (Nat.le_refl _) _⟩

theorem rsigns_any (w : World) :
    Calls Tryz.prog 87 #[] w fun e w' => e = .returned (.slice (some ⟨w.heap.size, 0, none⟩) 21 21) ∧ SRow w' w.heap.size 21 signL ∧ Below w.heap.size w w' := by
  go_enter Tryz.func87, Tryz.ntmps87
  go_wp2_with fail
  go_ret
  exact ⟨rfl, srow_new w signL 9, (Below.refl _ _).alloc (Nat.le_refl _) _⟩

set_option maxHeartbeats 400000 in
theorem risKey_any (s : ByteArray) (w : World) :
    Calls Tryz.prog 52 #[.string s] w fun e w' => e = .returned (.bool (ky s)) ∧ Below w.heap.size w w' := by
  go_enter Tryz.func52, Tryz.ntmps52
  go_wp2_with fail
  refine (rkeys_any w).mono ?_
  rintro e w1 ⟨rfl, hr, hb⟩
  generalize hbn : w.heap.size = b at *
  have HBN : Hid (w.heap.size = b) := hbn
  clear hbn
  go_wp2_with fail
  go_loopw [4] (fun i wr => wr = w1 ∧ ∃ k : Nat, k ≤ 24 ∧ i = .int .i64 k ∧ ∀ j, j < k → s ≠ wordL.getD j ByteArray.empty) (fun i _ => 24 - (intOf i).toNat)
  case atStart => exact ⟨rfl, 0, by omega, rfl, fun j hj => by omega⟩
  case round =>
    obtain ⟨rfl, k, hk, rfl, hall⟩ := hrel
    by_cases h24 : k < 24
    · have c0 := hr.2 k h24
      have HH : Hid (s = wordL.getD k ByteArray.empty → ky s = true) := ky_hit s k h24
      have HN : Hid (s ≠ wordL.getD k ByteArray.empty → ∀ j, j < k + 1 → s ≠ wordL.getD j ByteArray.empty) := fun h j hj => by
        by_cases e : j = k
        · subst e; exact h
        · exact hall j (by omega)
      clear hall hr
      generalize wordL.getD k ByteArray.empty = x at *
      by_cases e : s = x
      · have e1 := tl_true e.symm
        have HE : Hid (s = x) := e
        clear e
        go_wp2_with fail
        go_ret
        exact ⟨kret_b (HH.out HE.out).symm, by rw [HBN.out]; exact hb⟩
      · have e1 := tl_false (Ne.symm e)
        have HE : Hid (s ≠ x) := e
        clear e
        go_wp2_with fail
        exact ⟨⟨trivial, k + 1, by omega, by go_num, HN.out HE.out⟩, by simp [intOf]; omega⟩
    · have HM : Hid (ky s = false) := ky_miss s (fun j hj => hall j (by omega))
      clear hall hr
      go_wp2_with fail
      go_ret
      exact ⟨kret_b HM.out.symm, by rw [HBN.out]; exact hb⟩

theorem rsign_low (s : ByteArray) (at' : Int) (w : World) (h : at' < 0) :
    Calls Tryz.prog 70 #[.string s, .int .i64 at'] w fun e w' => e = .returned (.string ByteArray.empty) ∧ w' = w := by
  go_enter Tryz.func70, Tryz.ntmps70
  go_wp2_with fail
  go_ret
  exact ⟨rfl, rfl⟩

theorem rsign_high (s : ByteArray) (at' : Int) (w : World) (h : (s.size : Int) ≤ at') :
    Calls Tryz.prog 70 #[.string s, .int .i64 at'] w fun e w' => e = .returned (.string ByteArray.empty) ∧ w' = w := by
  have h1 : decide (at' < 0) = false := by simp; omega
  have h2 : decide (at' ≥ (s.size : Int)) = true := by simpa using h
  go_enter Tryz.func70, Tryz.ntmps70
  go_wp2_with fail
  go_ret
  exact ⟨rfl, rfl⟩

theorem pre_in {s t : ByteArray} {a : Nat} (h : a + t.size ≤ s.size) : pre s a t = decide (s.extract a (a + t.size) = t) := by
  unfold pre
  exact decide_eq_decide.2 ⟨fun h2 => h2.2, fun h2 => ⟨h, h2⟩⟩
theorem pre_out {s t : ByteArray} {a : Nat} (h : ¬ a + t.size ≤ s.size) : pre s a t = false := by
  unfold pre
  exact decide_eq_false fun h2 => h h2.1

set_option maxHeartbeats 1000000 in
theorem rsign_in (s : ByteArray) (a : Nat) (w : World) (hs : s.size ≤ 2147483647) (ha : a < s.size) :
    Calls Tryz.prog 70 #[.string s, .int .i64 a] w fun e w' => e = .returned (.string (sg s a)) ∧ Below w.heap.size w w' := by
  have h1 : decide ((a : Int) < 0) = false := by simp
  have h2 : decide ((a : Int) ≥ (s.size : Int)) = false := by simp; omega
  have h3 : (0 : Int) ≤ (a : Int) := by omega
  have h4 : (a : Int) ≤ (s.size : Int) := by omega
  go_enter Tryz.func70, Tryz.ntmps70
  go_wp2_with fail
  refine (rsigns_any w).mono ?_
  rintro e w1 ⟨rfl, hr, hb⟩
  have hbk : w.heap.size < w1.heap.size := World.block_lt_of_cell? w1 _ (hr.2 0 (by omega))
  generalize hbn : w.heap.size = b at *
  have HBN : Hid (w.heap.size = b) := hbn
  clear hbn
  go_wp2_with fail
  go_loopw [6] (fun i wr => ∃ k : Nat, k ≤ 21 ∧ i = .int .i64 k ∧ (∀ j, j < k → pre s a (signL.getD j ByteArray.empty) = false) ∧ Below w1.heap.size w1 wr) (fun i _ => 21 - (intOf i).toNat)
  case atStart => exact ⟨0, by omega, rfl, fun j hj => by omega, Below.refl _ _⟩
  case round =>
    obtain ⟨k, hk, rfl, hall, hb2⟩ := hrel
    by_cases h21 : k < 21
    · have c0 := (hr.below hb2).2 k h21
      have i1 : (0 : Int) ≤ (k : Int) := by omega
      have i2 : (k : Int) < 21 := by omega
      have HH : Hid (pre s a (signL.getD k ByteArray.empty) = true → sg s a = signL.getD k ByteArray.empty) := sg_hit s a k h21 hall
      have HN : Hid (pre s a (signL.getD k ByteArray.empty) = false → ∀ j, j < k + 1 → pre s a (signL.getD j ByteArray.empty) = false) := fun h j hj => by
        by_cases e : j = k
        · subst e; exact h
        · exact hall j (by omega)
      have hx3 : (signL.getD k ByteArray.empty).size ≤ 3 := by
        have : ∀ k, k < 21 → (signL.getD k ByteArray.empty).size ≤ 3 := by decide +kernel
        exact this k h21
      clear hall hr
      generalize signL.getD k ByteArray.empty = x at *
      by_cases hg : a + x.size ≤ s.size
      · have g1 : decide ((s.size : Int) - (a : Int) ≥ (x.size : Int)) = true := by simp; omega
        have g2 : (a : Int) ≤ (a : Int) + (x.size : Int) := by omega
        have g3 : (a : Int) + (x.size : Int) ≤ (s.size : Int) := by omega
        have g4 : (0 : Int) ≤ (a : Int) + (x.size : Int) := by omega
        have g5 : ((a : Int) + (x.size : Int)).toNat = a + x.size := by omega
        by_cases e : s.extract a (a + x.size) = x
        · have HP : Hid (pre s a x = true) := by
            show pre s a x = true
            rw [pre_in hg]; exact decide_eq_true e
          have e1 := tl_true e
          clear e hg HN
          go_wp2_with fail
          go_quiet (fail)
          go_wp2_with fail
          go_ret
          exact ⟨by rw [HH.out HP.out]; rfl, by rw [HBN.out]; exact below_dn (hb.trans (hb2.mono (by omega))) _⟩
        · have HP : Hid (pre s a x = false) := by
            show pre s a x = false
            rw [pre_in hg]; exact decide_eq_false e
          have e1 := tl_false e
          clear e hg HH
          go_wp2_with fail
          go_quiet (fail)
          go_wp2_with fail
          exact ⟨⟨k + 1, by omega, by go_num, HN.out HP.out, below_dn hb2 _⟩, by simp [intOf]; omega⟩
      · have g1 : decide ((s.size : Int) - (a : Int) ≥ (x.size : Int)) = false := by simp; omega
        have HP : Hid (pre s a x = false) := pre_out hg
        clear hg HH
        go_wp2_with fail
        go_quiet (fail)
        go_wp2_with fail
        exact ⟨⟨k + 1, by omega, by go_num, HN.out HP.out, below_dn hb2 _⟩, by simp [intOf]; omega⟩
    · have HM : Hid (sg s a = ByteArray.empty) := sg_miss s a (fun j hj => hall j (by omega))
      clear hall hr
      go_wp2_with fail
      go_ret
      exact ⟨by rw [HM.out]; rfl, by rw [HBN.out]; exact hb.trans (hb2.mono (by omega))⟩
end Go.Proofs.YtnmjkgjhjnpijaaGreatDoor

set_option linter.unusedVariables false
set_option linter.unusedSimpArgs false
namespace Go.Proofs.YtnmjkgjhjnpijaaGreatDoor
open Go.RowKit Go.Deep

/-! ### Sign, at any number -/
def sgI (s : ByteArray) (n : Int) : ByteArray := if 0 ≤ n ∧ n < (s.size : Int) then sg s n.toNat else ByteArray.empty
theorem sgI_in (s : ByteArray) (a : Nat) (h : a < s.size) : sgI s a = sg s a := by
  unfold sgI
  rw [if_pos ⟨by omega, by omega⟩, Int.toNat_natCast]
theorem sgI_out (s : ByteArray) (n : Int) (h : n < 0 ∨ (s.size : Int) ≤ n) : sgI s n = ByteArray.empty := by
  unfold sgI
  rw [if_neg (by omega)]

theorem sign_any (s : ByteArray) (n : Int) (w : World) (hT : Kab w) :
    Calls Tryz.prog 64 #[.string s, .int .i64 n] w fun e w' => e = .returned (.string (sgI s n)) ∧ Below w.heap.size w w' := by
  by_cases h1 : n < 0
  · rw [sgI_out s n (.inl h1)]
    exact (sign_low s n w h1).mono fun e w' ⟨he, hw⟩ => ⟨he, by rw [hw]; exact Below.refl _ _⟩
  · by_cases h2 : (s.size : Int) ≤ n
    · rw [sgI_out s n (.inr h2)]
      exact (sign_high s n w h2).mono fun e w' ⟨he, hw⟩ => ⟨he, by rw [hw]; exact Below.refl _ _⟩
    · obtain ⟨a, rfl⟩ : ∃ a : Nat, n = a := ⟨n.toNat, by omega⟩
      rw [sgI_in s a (by omega)]
      exact sign_in s a w hT.2.2 (by omega)
theorem rsign_any (s : ByteArray) (n : Int) (w : World) (hs : s.size ≤ 2147483647) :
    Calls Tryz.prog 70 #[.string s, .int .i64 n] w fun e w' => e = .returned (.string (sgI s n)) ∧ Below w.heap.size w w' := by
  by_cases h1 : n < 0
  · rw [sgI_out s n (.inl h1)]
    exact (rsign_low s n w h1).mono fun e w' ⟨he, hw⟩ => ⟨he, by rw [hw]; exact Below.refl _ _⟩
  · by_cases h2 : (s.size : Int) ≤ n
    · rw [sgI_out s n (.inr h2)]
      exact (rsign_high s n w h2).mono fun e w' ⟨he, hw⟩ => ⟨he, by rw [hw]; exact Below.refl _ _⟩
    · obtain ⟨a, rfl⟩ : ∃ a : Nat, n = a := ⟨n.toNat, by omega⟩
      rw [sgI_in s a (by omega)]
      exact rsign_in s a w hs (by omega)

/-! ### Names have good characters -/
theorem bad_part (s : ByteArray) (i : Nat) (h : gd s i = false) : pr' (dp s i) = false := by
  unfold dp
  rw [gd_not s i h]
  decide +kernel
theorem P_mem_st (s : ByteArray) (i : Nat) (h : i ∈ P s) : ∃ k, k < (P s).length ∧ i = st s k := by
  obtain ⟨k, hk, e⟩ := List.mem_iff_getElem.1 h
  refine ⟨k, hk, ?_⟩
  have := P_at s k hk
  rw [List.getElem?_eq_getElem hk] at this
  rw [← e]; exact Option.some.inj this
theorem vl_of_nmL (s : ByteArray) (h : nmL (pts s) = true) : vl s = true := by
  unfold vl
  rw [List.all_eq_true]
  intro i hi
  obtain ⟨k, hk, rfl⟩ := P_mem_st s i hi
  have h2 := (((nmL_iff _).1 h).2 k (by rw [pts_len]; exact hk)).1
  rw [pts_getD s k hk] at h2
  cases hg : gd s (st s k)
  · rw [bad_part s _ hg] at h2; cases h2
  · rfl
theorem nm_of_bad (s : ByteArray) (h : vl s = false) : nm s = false := by
  unfold nm
  cases hn : nmL (pts s)
  · rfl
  · rw [vl_of_nmL s hn] at h; cases h

theorem zs_getD (s : ByteArray) (k : Nat) (h : k < (P s).length) : ((pts s).map (fun i : Nat => (i : Int))).getD k 0 = ((dp s (st s k) : Nat) : Int) := by
  unfold pts
  rw [List.getD, List.getElem?_map, List.getElem?_map, P_at s k h]; rfl

end Go.Proofs.YtnmjkgjhjnpijaaGreatDoor
