import Derived.Deep.QuietTactic
import Derived.BigQuiet
import Derived.Test.YtojjfbnpjhjidaaGreatDoorM07
set_option linter.unusedVariables false
set_option linter.unusedSimpArgs false
namespace Go.Proofs.YtojjfbnpjhjidaaGreatDoor.Lx
open Go.RowKit Go.Deep
theorem below_dn {b : Nat} {w v : World} (h : Below b w v) : ∀ m, Below b w (v.drewN m)
  | 0 => h
  | m + 1 => (below_dn h m).drew
def ky (s : ByteArray) : Bool := wordL.any fun x => decide (s = x)
theorem ky_miss (s : ByteArray) (h : ∀ j, j < 24 → s ≠ wordL.getD j ByteArray.empty) : ky s = false := by
  unfold ky
  rw [List.any_eq_false]
  intro x hm hx
  obtain ⟨j, hj, e⟩ := List.mem_iff_getElem.1 hm
  have hj' : j < 24 := hj
  apply h j hj'
  rw [List.getD, List.getElem?_eq_getElem hj]
  exact (of_decide_eq_true hx).trans e.symm
theorem ky_hit (s : ByteArray) (j : Nat) (hj : j < 24) (h : s = wordL.getD j ByteArray.empty) : ky s = true := by
  unfold ky
  rw [List.any_eq_true]
  refine ⟨wordL[j]'hj, List.getElem_mem _, decide_eq_true ?_⟩
  rw [h, List.getD, List.getElem?_eq_getElem (show j < wordL.length from hj)]
  rfl
theorem tl_true {s x : ByteArray} (h : s = x) : (s.toList == x.toList) = true := by subst h; simp
theorem tl_data (s : ByteArray) : s.toList = s.data.toList := ByteArray.toList_eq s
theorem tl_false {s x : ByteArray} (h : s ≠ x) : (s.toList == x.toList) = false := by
  rw [beq_eq_false_iff_ne, tl_data, tl_data]
  intro e
  apply h
  have := Array.toList_inj.1 e
  cases s; cases x; simp_all
set_option maxHeartbeats 400000 in
theorem isKey_any (s : ByteArray) (w : World) (hT : WTab w) :
    Calls Tryz.prog 92 #[.string s] w fun e w' => e = .returned (.bool (ky s)) ∧ w' = w := by
  go_enter Tryz.func92, Tryz.ntmps92
  go_wp2_with fail
  go_loopw [4] (fun i wr => wr = w ∧ ∃ k : Nat, k ≤ 24 ∧ i = .int .i64 k ∧ ∀ j, j < k → s ≠ wordL.getD j ByteArray.empty) (fun i _ => 24 - (intOf i).toNat)
  case atStart => exact ⟨rfl, 0, by omega, rfl, fun j hj => by omega⟩
  case round =>
    obtain ⟨rfl, k, hk, rfl, hall⟩ := hrel
    by_cases h24 : k < 24
    · have c0 := hT k h24
      have HH : Hid (s = wordL.getD k ByteArray.empty → ky s = true) := ky_hit s k h24
      have HN : Hid (s ≠ wordL.getD k ByteArray.empty → ∀ j, j < k + 1 → s ≠ wordL.getD j ByteArray.empty) := fun h j hj => by
        by_cases e : j = k
        · subst e; exact h
        · exact hall j (by omega)
      clear hall hT
      generalize wordL.getD k ByteArray.empty = x at *
      by_cases e : s = x
      · have e1 := tl_true e
        have HE : Hid (s = x) := e
        clear e
        go_wp2_with fail
        go_ret
        exact ⟨kret_b (HH.out HE.out).symm, rfl⟩
      · have e1 := tl_false e
        have HE : Hid (s ≠ x) := e
        clear e
        go_wp2_with fail
        exact ⟨⟨trivial, k + 1, by omega, by go_num, HN.out HE.out⟩, by simp [intOf]; omega⟩
    · have HM : Hid (ky s = false) := ky_miss s (fun j hj => hall j (by omega))
      clear hall hT
      go_wp2_with fail
      go_ret
      exact ⟨kret_b HM.out.symm, rfl⟩
def pre (s : ByteArray) (a : Nat) (t : ByteArray) : Bool := decide (a + t.size ≤ s.size ∧ s.extract a (a + t.size) = t)
def sg (s : ByteArray) (a : Nat) : ByteArray := (signL.find? (pre s a)).getD ByteArray.empty
theorem find_hit (f : ByteArray → Bool) : ∀ (l : List ByteArray) (k : Nat), k < l.length → (∀ j, j < k → f (l.getD j ByteArray.empty) = false) → f (l.getD k ByteArray.empty) = true → l.find? f = some (l.getD k ByteArray.empty)
  | [], k, h, _, _ => by simp at h
  | x :: r, 0, _, _, h => by
    have h' : f x = true := h
    rw [List.find?_cons_of_pos h']; rfl
  | x :: r, k + 1, hk, hj, h => by
    have h0 : f x = false := hj 0 (by omega)
    rw [List.find?_cons_of_neg (by rw [h0]; simp)]
    exact find_hit f r k (by simpa using hk) (fun j hj' => hj (j + 1) (by omega)) h
theorem find_miss (f : ByteArray → Bool) (l : List ByteArray) (h : ∀ j, j < l.length → f (l.getD j ByteArray.empty) = false) : l.find? f = none := by
  rw [List.find?_eq_none]
  intro x hx
  obtain ⟨j, hj, e⟩ := List.mem_iff_getElem.1 hx
  have := h j hj
  rw [List.getD, List.getElem?_eq_getElem hj] at this
  subst e
  simpa using this
theorem sg_hit (s : ByteArray) (a k : Nat) (hk : k < 21) (h : ∀ j, j < k → pre s a (signL.getD j ByteArray.empty) = false) (h1 : pre s a (signL.getD k ByteArray.empty) = true) : sg s a = signL.getD k ByteArray.empty := by
  unfold sg
  rw [find_hit _ signL k hk h h1]; rfl
theorem sg_miss (s : ByteArray) (a : Nat) (h : ∀ j, j < 21 → pre s a (signL.getD j ByteArray.empty) = false) : sg s a = ByteArray.empty := by
  unfold sg
  rw [find_miss _ signL h]; rfl
theorem ext_tail (s : ByteArray) (a n : Nat) (h : a + n ≤ s.size) : (s.extract a s.size).extract 0 n = s.extract a (a + n) := by
  refine by8_ext _ _ ?_ ?_
  · rw [size_ext _ 0 n (by rw [size_ext s a _ (Nat.le_refl _)]; omega), size_ext s a _ h]; omega
  · intro i hi
    rw [size_ext _ 0 n (by rw [size_ext s a _ (Nat.le_refl _)]; omega)] at hi
    rw [by8_ext' _ 0 n i (by omega), by8_ext' s a _ _ (by omega), by8_ext' s a _ _ (by omega), Nat.zero_add]
set_option maxHeartbeats 400000 in
theorem hp_lite (s t : ByteArray) (w : World) :
    Calls Tryz.prog 84 #[.string s, .string t] w fun e w' => e = .returned (.bool (pre s 0 t)) ∧ w' = w := by
  by_cases h1 : t.size ≤ s.size
  · have h1' : decide ((s.size : Int) ≥ (t.size : Int)) = true := by simpa using h1
    have h2 : (0 : Int) ≤ (t.size : Int) := by omega
    have h3 : (t.size : Int) ≤ (s.size : Int) := by omega
    by_cases h4 : s.extract 0 t.size = t
    · have e1 := tl_true h4
      have HB : Hid (pre s 0 t = true) := by
        unfold pre
        exact decide_eq_true ⟨by omega, by rw [Nat.zero_add]; exact h4⟩
      clear h4
      go_enter Tryz.func84, Tryz.ntmps84
      go_wp2_with fail
      go_ret
      exact ⟨kret_b HB.out.symm, rfl⟩
    · have e1 := tl_false h4
      have HB : Hid (pre s 0 t = false) := by
        unfold pre
        refine decide_eq_false fun h => h4 ?_
        have := h.2
        rwa [Nat.zero_add] at this
      clear h4
      go_enter Tryz.func84, Tryz.ntmps84
      go_wp2_with fail
      go_ret
      exact ⟨kret_b HB.out.symm, rfl⟩
  · have h1' : decide ((s.size : Int) ≥ (t.size : Int)) = false := by simp; omega
    have HB : Hid (pre s 0 t = false) := by
      unfold pre
      exact decide_eq_false fun h => h1 (by have := h.1; omega)
    go_enter Tryz.func84, Tryz.ntmps84
    go_wp2_with fail
    go_ret
    exact ⟨kret_b HB.out.symm, rfl⟩
theorem hp_any (s t : ByteArray) (w : World) :
    Calls Tryz.prog 63 #[.string s, .string t] w fun e w' => e = .returned (.bool (pre s 0 t)) ∧ w' = w := by
  go_enter Tryz.func63, Tryz.ntmps63
  go_wp2_with fail
  refine (hp_lite s t w).mono ?_
  rintro e w' ⟨rfl, rfl⟩
  generalize hb : pre s 0 t = b
  have HB : Hid (pre s 0 t = b) := hb
  clear hb
  go_wp2_with fail
  go_ret
  exact ⟨kret_b HB.out.symm, rfl⟩
theorem pre_tail (s t : ByteArray) (a : Nat) (ha : a ≤ s.size) : pre (s.extract a s.size) 0 t = pre s a t := by
  unfold pre
  rw [size_ext s a _ (Nat.le_refl _)]
  by_cases h : a + t.size ≤ s.size
  · rw [Nat.zero_add, ext_tail s a t.size h]
    exact decide_eq_decide.2 ⟨fun ⟨_, h2⟩ => ⟨h, h2⟩, fun ⟨_, h2⟩ => ⟨by omega, h2⟩⟩
  · rw [decide_eq_false (fun h2 => h (by have := h2.1; omega)), decide_eq_false (fun h2 => h h2.1)]
set_option maxHeartbeats 1000000 in
theorem sign_in (s : ByteArray) (a : Nat) (w : World) (hT : STab w) (ha : a < s.size) :
    Calls Tryz.prog 85 #[.string s, .int .i64 a] w fun e w' => e = .returned (.string (sg s a)) ∧ Below w.heap.size w w' := by
  have h1 : decide ((a : Int) < 0) = false := by simp
  have h2 : decide ((a : Int) ≥ (s.size : Int)) = false := by simp; omega
  have h3 : (0 : Int) ≤ (a : Int) := by omega
  have h4 : (a : Int) ≤ (s.size : Int) := by omega
  go_enter Tryz.func85, Tryz.ntmps85
  go_wp2_with fail
  go_loopw [14] (fun i wr => ∃ k : Nat, k ≤ 21 ∧ i = .int .i64 k ∧ (∀ j, j < k → pre s a (signL.getD j ByteArray.empty) = false) ∧ Below w.heap.size w wr) (fun i _ => 21 - (intOf i).toNat)
  case atStart => exact ⟨0, by omega, rfl, fun j hj => by omega, Below.refl _ _⟩
  case round =>
    obtain ⟨k, hk, rfl, hall, hb⟩ := hrel
    by_cases h21 : k < 21
    · have c0 := (hT.below hb) k h21
      have i1 : (0 : Int) ≤ (k : Int) := by omega
      have i2 : (k : Int) < 21 := by omega
      have HH : Hid (pre s a (signL.getD k ByteArray.empty) = true → sg s a = signL.getD k ByteArray.empty) := sg_hit s a k h21 hall
      have HN : Hid (pre s a (signL.getD k ByteArray.empty) = false → ∀ j, j < k + 1 → pre s a (signL.getD j ByteArray.empty) = false) := fun h j hj => by
        by_cases e : j = k
        · subst e; exact h
        · exact hall j (by omega)
      clear hall hT
      generalize signL.getD k ByteArray.empty = x at *
      have HC : Hid (∀ W, Calls Tryz.prog 63 #[.string (s.extract a s.size), .string x] W fun e w' => e = .returned (.bool (pre s a x)) ∧ w' = W) := fun W => by
        rw [← pre_tail s x a (by omega)]; exact hp_any _ _ W
      cases hp : pre s a x
      · rw [hp] at HC
        have HP : Hid (pre s a x = false) := hp
        clear hp HH
        go_wp2_with fail
        go_quiet ((go_at_call 63; exact Calls.quiet_of_same (HC.out _)))
        go_wp2_with fail
        exact ⟨⟨k + 1, by omega, by go_num, HN.out HP.out, below_dn hb _⟩, by simp [intOf]; omega⟩
      · rw [hp] at HC
        have HP : Hid (pre s a x = true) := hp
        clear hp HN
        go_wp2_with fail
        go_quiet ((go_at_call 63; exact Calls.quiet_of_same (HC.out _)))
        go_wp2_with fail
        go_ret
        exact ⟨by rw [HH.out HP.out]; rfl, below_dn hb _⟩
    · have HM : Hid (sg s a = ByteArray.empty) := sg_miss s a (fun j hj => hall j (by omega))
      clear hall hT
      go_wp2_with fail
      go_ret
      exact ⟨by rw [HM.out]; rfl, hb⟩
end Go.Proofs.YtojjfbnpjhjidaaGreatDoor.Lx
namespace Go.Proofs.YtojjfbnpjhjidaaGreatDoor.Lx
open Go.RowKit
theorem pr_of_lt {p : Int} (h : lt' p = true) : pr' p = true := by unfold pr'; rw [h]; rfl
end Go.Proofs.YtojjfbnpjhjidaaGreatDoor.Lx
namespace Go.Proofs.YtojjfbnpjhjidaaGreatDoor.Lx
open Go.RowKit Go.Deep
def SRow (w : World) (b : Nat) (n : Nat) (xs : List ByteArray) : Prop :=
  xs.length = n ∧ ∀ j, j < n → w.cell? ⟨b, j, none⟩ = some (.string (xs.getD j ByteArray.empty))
theorem SRow.below {w w' : World} {b n : Nat} {xs : List ByteArray} (h : SRow w b n xs) (hb : Below w.heap.size w w') : SRow w' b n xs := by
  refine ⟨h.1, fun j hj => ?_⟩
  have h2 := h.2 j hj
  exact (hb.cell (p := ⟨b, j, none⟩) (World.block_lt_of_cell? w _ h2)).trans h2
theorem srow_new (W : World) (xs : List ByteArray) (t : Nat) : SRow (W.alloc (.cells (xs.map Value.string).toArray t)) W.heap.size xs.length xs := by
  refine ⟨rfl, fun j hj => ?_⟩
  rw [World.cell?_alloc_new]
  simp [hj, List.getD]
theorem rkeys_any (w : World) :
    Calls Tryz.prog 53 #[] w fun e w' => e = .returned (.slice (some ⟨w.heap.size, 0, none⟩) 24 24) ∧ SRow w' w.heap.size 24 wordL ∧ Below w.heap.size w w' := by
  go_enter Tryz.func53, Tryz.ntmps53
  go_wp2_with fail
  go_ret
  exact ⟨rfl, srow_new w wordL 9, (Below.refl _ _).alloc (Nat.le_refl _) _⟩
theorem rsigns_any (w : World) :
    Calls Tryz.prog 70 #[] w fun e w' => e = .returned (.slice (some ⟨w.heap.size, 0, none⟩) 21 21) ∧ SRow w' w.heap.size 21 signL ∧ Below w.heap.size w w' := by
  go_enter Tryz.func70, Tryz.ntmps70
  go_wp2_with fail
  go_ret
  exact ⟨rfl, srow_new w signL 9, (Below.refl _ _).alloc (Nat.le_refl _) _⟩
set_option maxHeartbeats 400000 in
theorem risKey_any (s : ByteArray) (w : World) :
    Calls Tryz.prog 37 #[.string s] w fun e w' => e = .returned (.bool (ky s)) ∧ Below w.heap.size w w' := by
  go_enter Tryz.func37, Tryz.ntmps37
  go_wp2_with fail
  refine (rkeys_any w).mono ?_
  rintro e w1 ⟨rfl, hr, hb⟩
  generalize hbn : w.heap.size = b at *
  have HBN : Hid (w.heap.size = b) := hbn
  clear hbn
  go_wp2_with fail
  go_loopw [4] (fun i wr => wr = w1 ∧ ∃ k : Nat, k ≤ 24 ∧ i = .int .i64 k ∧ ∀ j, j < k → s ≠ wordL.getD j ByteArray.empty) (fun i _ => 24 - (intOf i).toNat)
  case atStart => exact ⟨rfl, 0, by omega, rfl, fun j hj => by omega⟩
  case round =>
    obtain ⟨rfl, k, hk, rfl, hall⟩ := hrel
    by_cases h24 : k < 24
    · have c0 := hr.2 k h24
      have HH : Hid (s = wordL.getD k ByteArray.empty → ky s = true) := ky_hit s k h24
      have HN : Hid (s ≠ wordL.getD k ByteArray.empty → ∀ j, j < k + 1 → s ≠ wordL.getD j ByteArray.empty) := fun h j hj => by
        by_cases e : j = k
        · subst e; exact h
        · exact hall j (by omega)
      clear hall hr
      generalize wordL.getD k ByteArray.empty = x at *
      by_cases e : s = x
      · have e1 := tl_true e.symm
        have HE : Hid (s = x) := e
        clear e
        go_wp2_with fail
        go_ret
        exact ⟨kret_b (HH.out HE.out).symm, by rw [HBN.out]; exact hb⟩
      · have e1 := tl_false (Ne.symm e)
        have HE : Hid (s ≠ x) := e
        clear e
        go_wp2_with fail
        exact ⟨⟨trivial, k + 1, by omega, by go_num, HN.out HE.out⟩, by simp [intOf]; omega⟩
    · have HM : Hid (ky s = false) := ky_miss s (fun j hj => hall j (by omega))
      clear hall hr
      go_wp2_with fail
      go_ret
      exact ⟨kret_b HM.out.symm, by rw [HBN.out]; exact hb⟩
theorem pre_in {s t : ByteArray} {a : Nat} (h : a + t.size ≤ s.size) : pre s a t = decide (s.extract a (a + t.size) = t) := by
  unfold pre
  exact decide_eq_decide.2 ⟨fun h2 => h2.2, fun h2 => ⟨h, h2⟩⟩
theorem pre_out {s t : ByteArray} {a : Nat} (h : ¬ a + t.size ≤ s.size) : pre s a t = false := by
  unfold pre
  exact decide_eq_false fun h2 => h h2.1
set_option maxHeartbeats 1000000 in
theorem rsign_in (s : ByteArray) (a : Nat) (w : World) (hs : s.size ≤ 2147483647) (ha : a < s.size) :
    Calls Tryz.prog 48 #[.string s, .int .i64 a] w fun e w' => e = .returned (.string (sg s a)) ∧ Below w.heap.size w w' := by
  have h1 : decide ((a : Int) < 0) = false := by simp
  have h2 : decide ((a : Int) ≥ (s.size : Int)) = false := by simp; omega
  have h3 : (0 : Int) ≤ (a : Int) := by omega
  have h4 : (a : Int) ≤ (s.size : Int) := by omega
  go_enter Tryz.func48, Tryz.ntmps48
  go_wp2_with fail
  refine (rsigns_any w).mono ?_
  rintro e w1 ⟨rfl, hr, hb⟩
  have hbk : w.heap.size < w1.heap.size := World.block_lt_of_cell? w1 _ (hr.2 0 (by omega))
  generalize hbn : w.heap.size = b at *
  have HBN : Hid (w.heap.size = b) := hbn
  clear hbn
  go_wp2_with fail
  go_loopw [6] (fun i wr => ∃ k : Nat, k ≤ 21 ∧ i = .int .i64 k ∧ (∀ j, j < k → pre s a (signL.getD j ByteArray.empty) = false) ∧ Below w1.heap.size w1 wr) (fun i _ => 21 - (intOf i).toNat)
  case atStart => exact ⟨0, by omega, rfl, fun j hj => by omega, Below.refl _ _⟩
  case round =>
    obtain ⟨k, hk, rfl, hall, hb2⟩ := hrel
    by_cases h21 : k < 21
    · have c0 := (hr.below hb2).2 k h21
      have i1 : (0 : Int) ≤ (k : Int) := by omega
      have i2 : (k : Int) < 21 := by omega
      have HH : Hid (pre s a (signL.getD k ByteArray.empty) = true → sg s a = signL.getD k ByteArray.empty) := sg_hit s a k h21 hall
      have HN : Hid (pre s a (signL.getD k ByteArray.empty) = false → ∀ j, j < k + 1 → pre s a (signL.getD j ByteArray.empty) = false) := fun h j hj => by
        by_cases e : j = k
        · subst e; exact h
        · exact hall j (by omega)
      have hx3 : (signL.getD k ByteArray.empty).size ≤ 3 := by
        have : ∀ k, k < 21 → (signL.getD k ByteArray.empty).size ≤ 3 := by decide +kernel
        exact this k h21
      clear hall hr
      generalize signL.getD k ByteArray.empty = x at *
      by_cases hg : a + x.size ≤ s.size
      · have g1 : decide ((s.size : Int) - (a : Int) ≥ (x.size : Int)) = true := by simp; omega
        have g2 : (a : Int) ≤ (a : Int) + (x.size : Int) := by omega
        have g3 : (a : Int) + (x.size : Int) ≤ (s.size : Int) := by omega
        have g4 : (0 : Int) ≤ (a : Int) + (x.size : Int) := by omega
        have g5 : ((a : Int) + (x.size : Int)).toNat = a + x.size := by omega
        by_cases e : s.extract a (a + x.size) = x
        · have HP : Hid (pre s a x = true) := by
            show pre s a x = true
            rw [pre_in hg]; exact decide_eq_true e
          have e1 := tl_true e
          clear e hg HN
          go_wp2_with fail
          go_quiet (fail)
          go_wp2_with fail
          go_ret
          exact ⟨by rw [HH.out HP.out]; rfl, by rw [HBN.out]; exact below_dn (hb.trans (hb2.mono (by omega))) _⟩
        · have HP : Hid (pre s a x = false) := by
            show pre s a x = false
            rw [pre_in hg]; exact decide_eq_false e
          have e1 := tl_false e
          clear e hg HH
          go_wp2_with fail
          go_quiet (fail)
          go_wp2_with fail
          exact ⟨⟨k + 1, by omega, by go_num, HN.out HP.out, below_dn hb2 _⟩, by simp [intOf]; omega⟩
      · have g1 : decide ((s.size : Int) - (a : Int) ≥ (x.size : Int)) = false := by simp; omega
        have HP : Hid (pre s a x = false) := pre_out hg
        clear hg HH
        go_wp2_with fail
        go_quiet (fail)
        go_wp2_with fail
        exact ⟨⟨k + 1, by omega, by go_num, HN.out HP.out, below_dn hb2 _⟩, by simp [intOf]; omega⟩
    · have HM : Hid (sg s a = ByteArray.empty) := sg_miss s a (fun j hj => hall j (by omega))
      clear hall hr
      go_wp2_with fail
      go_ret
      exact ⟨by rw [HM.out]; rfl, by rw [HBN.out]; exact hb.trans (hb2.mono (by omega))⟩
end Go.Proofs.YtojjfbnpjhjidaaGreatDoor.Lx
