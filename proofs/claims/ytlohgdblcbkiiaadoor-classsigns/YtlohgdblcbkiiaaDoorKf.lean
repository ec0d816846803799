import Derived.Test.YtlohgdblcbkiiaaDoorKd
set_option linter.unusedVariables false
set_option linter.unusedSimpArgs false
namespace Go.Proofs.YtlohgdblcbkiiaaDoor
open Go.RowKit Go.Deep

/-- The texts of a slice. -/
def SRow (w : World) (b : Nat) (n : Nat) (xs : List ByteArray) : Prop :=
  xs.length = n ∧ ∀ j, j < n → w.cell? ⟨b, j, none⟩ = some (.string (xs.getD j ByteArray.empty))
theorem SRow.below {w w' : World} {b n : Nat} {xs : List ByteArray} (h : SRow w b n xs) (hb : Below w.heap.size w w') : SRow w' b n xs := by
  refine ⟨h.1, fun j hj => ?_⟩
  have h2 := h.2 j hj
  exact (hb.cell (p := ⟨b, j, none⟩) (World.block_lt_of_cell? w _ h2)).trans h2
theorem srow_new (W : World) (xs : List ByteArray) (t : Nat) : SRow (W.alloc (.cells (xs.map Value.string).toArray t)) W.heap.size xs.length xs := by
  refine ⟨rfl, fun j hj => ?_⟩
  rw [World.cell?_alloc_new]
  simp [hj, List.getD]

theorem rkeys_any (w : World) :
    Calls Tryd.prog 10 #[] w fun e w' => e = .returned (.slice (some ⟨w.heap.size, 0, none⟩) 24 24) ∧ SRow w' w.heap.size 24 wordL ∧ Below w.heap.size w w' := by
  go_enter Tryd.func10, Tryd.ntmps10
  go_wp2_with fail
  go_ret
  exact ⟨rfl, srow_new w wordL 9, (Below.refl _ _).alloc (Nat.le_refl _) _⟩

theorem rsigns_any (w : World) :
    Calls Tryd.prog 33 #[] w fun e w' => e = .returned (.slice (some ⟨w.heap.size, 0, none⟩) 21 21) ∧ SRow w' w.heap.size 21 signL ∧ Below w.heap.size w w' := by
  go_enter Tryd.func33, Tryd.ntmps33
  go_wp2_with fail
  go_ret
  exact ⟨rfl, srow_new w signL 9, (Below.refl _ _).alloc (Nat.le_refl _) _⟩

set_option maxHeartbeats 400000 in
theorem risKey_any (s : ByteArray) (w : World) :
    Calls Tryd.prog 21 #[.string s] w fun e w' => e = .returned (.bool (ky s)) ∧ Below w.heap.size w w' := by
  go_enter Tryd.func21, Tryd.ntmps21
  go_wp2_with fail
  refine (rkeys_any w).mono ?_
  rintro e w1 ⟨rfl, hr, hb⟩
  generalize hbn : w.heap.size = b at *
  have HBN : Hid (w.heap.size = b) := hbn
  clear hbn
  go_wp2_with fail
  go_loopw [4] (fun i wr => wr = w1 ∧ ∃ k : Nat, k ≤ 24 ∧ i = .int .i64 k ∧ ∀ j, j < k → s ≠ wordL.getD j ByteArray.empty) (fun i _ => 24 - (intOf i).toNat)
  case atStart => exact ⟨rfl, 0, by omega, rfl, fun j hj => by omega⟩
  case round =>
    obtain ⟨rfl, k, hk, rfl, hall⟩ := hrel
    by_cases h24 : k < 24
    · have c0 := hr.2 k h24
      have HH : Hid (s = wordL.getD k ByteArray.empty → ky s = true) := ky_hit s k h24
      have HN : Hid (s ≠ wordL.getD k ByteArray.empty → ∀ j, j < k + 1 → s ≠ wordL.getD j ByteArray.empty) := fun h j hj => by
        by_cases e : j = k
        · subst e; exact h
        · exact hall j (by omega)
      clear hall hr
      generalize wordL.getD k ByteArray.empty = x at *
      by_cases e : s = x
      · have e1 := tl_true e.symm
        have HE : Hid (s = x) := e
        clear e
        go_wp2_with fail
        go_ret
        exact ⟨kret_b (HH.out HE.out).symm, by rw [HBN.out]; exact hb⟩
      · have e1 := tl_false (Ne.symm e)
        have HE : Hid (s ≠ x) := e
        clear e
        go_wp2_with fail
        exact ⟨⟨trivial, k + 1, by omega, by go_num, HN.out HE.out⟩, by simp [intOf]; omega⟩
    · have HM : Hid (ky s = false) := ky_miss s (fun j hj => hall j (by omega))
      clear hall hr
      go_wp2_with fail
      go_ret
      exact ⟨kret_b HM.out.symm, by rw [HBN.out]; exact hb⟩

theorem rsign_low (s : ByteArray) (at' : Int) (w : World) (h : at' < 0) :
    Calls Tryd.prog 23 #[.string s, .int .i64 at'] w fun e w' => e = .returned (.string ByteArray.empty) ∧ w' = w := by
  go_enter Tryd.func23, Tryd.ntmps23
  go_wp2_with fail
  go_ret
  exact ⟨rfl, rfl⟩

theorem rsign_high (s : ByteArray) (at' : Int) (w : World) (h : (s.size : Int) ≤ at') :
    Calls Tryd.prog 23 #[.string s, .int .i64 at'] w fun e w' => e = .returned (.string ByteArray.empty) ∧ w' = w := by
  have h1 : decide (at' < 0) = false := by simp; omega
  have h2 : decide (at' ≥ (s.size : Int)) = true := by simpa using h
  go_enter Tryd.func23, Tryd.ntmps23
  go_wp2_with fail
  go_ret
  exact ⟨rfl, rfl⟩

theorem pre_in {s t : ByteArray} {a : Nat} (h : a + t.size ≤ s.size) : pre s a t = decide (s.extract a (a + t.size) = t) := by
  unfold pre
  exact decide_eq_decide.2 ⟨fun h2 => h2.2, fun h2 => ⟨h, h2⟩⟩
theorem pre_out {s t : ByteArray} {a : Nat} (h : ¬ a + t.size ≤ s.size) : pre s a t = false := by
  unfold pre
  exact decide_eq_false fun h2 => h h2.1

set_option maxHeartbeats 1000000 in
theorem rsign_in (s : ByteArray) (a : Nat) (w : World) (hs : s.size ≤ 2147483647) (ha : a < s.size) :
    Calls Tryd.prog 23 #[.string s, .int .i64 a] w fun e w' => e = .returned (.string (sg s a)) ∧ Below w.heap.size w w' := by
  have h1 : decide ((a : Int) < 0) = false := by simp
  have h2 : decide ((a : Int) ≥ (s.size : Int)) = false := by simp; omega
  have h3 : (0 : Int) ≤ (a : Int) := by omega
  have h4 : (a : Int) ≤ (s.size : Int) := by omega
  go_enter Tryd.func23, Tryd.ntmps23
  go_wp2_with fail
  refine (rsigns_any w).mono ?_
  rintro e w1 ⟨rfl, hr, hb⟩
  have hbk : w.heap.size < w1.heap.size := World.block_lt_of_cell? w1 _ (hr.2 0 (by omega))
  generalize hbn : w.heap.size = b at *
  have HBN : Hid (w.heap.size = b) := hbn
  clear hbn
  go_wp2_with fail
  go_loopw [6] (fun i wr => ∃ k : Nat, k ≤ 21 ∧ i = .int .i64 k ∧ (∀ j, j < k → pre s a (signL.getD j ByteArray.empty) = false) ∧ Below w1.heap.size w1 wr) (fun i _ => 21 - (intOf i).toNat)
  case atStart => exact ⟨0, by omega, rfl, fun j hj => by omega, Below.refl _ _⟩
  case round =>
    obtain ⟨k, hk, rfl, hall, hb2⟩ := hrel
    by_cases h21 : k < 21
    · have c0 := (hr.below hb2).2 k h21
      have i1 : (0 : Int) ≤ (k : Int) := by omega
      have i2 : (k : Int) < 21 := by omega
      have HH : Hid (pre s a (signL.getD k ByteArray.empty) = true → sg s a = signL.getD k ByteArray.empty) := sg_hit s a k h21 hall
      have HN : Hid (pre s a (signL.getD k ByteArray.empty) = false → ∀ j, j < k + 1 → pre s a (signL.getD j ByteArray.empty) = false) := fun h j hj => by
        by_cases e : j = k
        · subst e; exact h
        · exact hall j (by omega)
      have hx3 : (signL.getD k ByteArray.empty).size ≤ 3 := by
        have : ∀ k, k < 21 → (signL.getD k ByteArray.empty).size ≤ 3 := by decide +kernel
        exact this k h21
      clear hall hr
      generalize signL.getD k ByteArray.empty = x at *
      by_cases hg : a + x.size ≤ s.size
      · have g1 : decide ((s.size : Int) - (a : Int) ≥ (x.size : Int)) = true := by simp; omega
        have g2 : (a : Int) ≤ (a : Int) + (x.size : Int) := by omega
        have g3 : (a : Int) + (x.size : Int) ≤ (s.size : Int) := by omega
        have g4 : (0 : Int) ≤ (a : Int) + (x.size : Int) := by omega
        have g5 : ((a : Int) + (x.size : Int)).toNat = a + x.size := by omega
        by_cases e : s.extract a (a + x.size) = x
        · have HP : Hid (pre s a x = true) := by
            show pre s a x = true
            rw [pre_in hg]; exact decide_eq_true e
          have e1 := tl_true e
          clear e hg HN
          go_wp2_with fail
          go_quiet (fail)
          go_wp2_with fail
          go_ret
          exact ⟨by rw [HH.out HP.out]; rfl, by rw [HBN.out]; exact below_dn (hb.trans (hb2.mono (by omega))) _⟩
        · have HP : Hid (pre s a x = false) := by
            show pre s a x = false
            rw [pre_in hg]; exact decide_eq_false e
          have e1 := tl_false e
          clear e hg HH
          go_wp2_with fail
          go_quiet (fail)
          go_wp2_with fail
          exact ⟨⟨k + 1, by omega, by go_num, HN.out HP.out, below_dn hb2 _⟩, by simp [intOf]; omega⟩
      · have g1 : decide ((s.size : Int) - (a : Int) ≥ (x.size : Int)) = false := by simp; omega
        have HP : Hid (pre s a x = false) := pre_out hg
        clear hg HH
        go_wp2_with fail
        go_quiet (fail)
        go_wp2_with fail
        exact ⟨⟨k + 1, by omega, by go_num, HN.out HP.out, below_dn hb2 _⟩, by simp [intOf]; omega⟩
    · have HM : Hid (sg s a = ByteArray.empty) := sg_miss s a (fun j hj => hall j (by omega))
      clear hall hr
      go_wp2_with fail
      go_ret
      exact ⟨by rw [HM.out]; rfl, by rw [HBN.out]; exact hb.trans (hb2.mono (by omega))⟩
end Go.Proofs.YtlohgdblcbkiiaaDoor
