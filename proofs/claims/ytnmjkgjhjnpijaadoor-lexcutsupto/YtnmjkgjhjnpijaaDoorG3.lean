import Derived.Test.YtnmjkgjhjnpijaaDoorKc
set_option linter.unusedVariables false
set_option linter.unusedSimpArgs false
namespace Go.Proofs.YtnmjkgjhjnpijaaDoor
open Go.RowKit

/-! ### Names -/
def nmL : List Nat → Bool
  | [] => false
  | p :: r => lt' p && r.all fun q => pr' q
def nm (s : ByteArray) : Bool := nmL (pts s) && !ky s

theorem pr_of_lt {p : Int} (h : lt' p = true) : pr' p = true := by unfold pr'; rw [h]; rfl

theorem nmL_iff (l : List Nat) : nmL l = true ↔ l ≠ [] ∧ ∀ j, j < l.length → pr' (l.getD j 0) = true ∧ (j = 0 → lt' (l.getD j 0) = true) := by
  cases l with
  | nil => simp [nmL]
  | cons p r =>
    constructor
    · intro h
      have h1 : lt' p = true ∧ (r.all fun q => pr' q) = true := by simpa [nmL] using h
      refine ⟨by simp, fun j hj => ?_⟩
      cases j with
      | zero => exact ⟨pr_of_lt h1.1, fun _ => h1.1⟩
      | succ j =>
        refine ⟨?_, fun h => by omega⟩
        have hj' : j < r.length := by simpa using hj
        have := List.all_eq_true.1 h1.2 (r[j]'hj') (List.getElem_mem _)
        simpa [List.getD, List.getElem?_eq_getElem hj'] using this
    · rintro ⟨_, h⟩
      have h0 := (h 0 (by simp)).2 rfl
      have h1 : (r.all fun q => pr' q) = true := by
        rw [List.all_eq_true]
        intro x hx
        obtain ⟨j, hj, e⟩ := List.mem_iff_getElem.1 hx
        have := (h (j + 1) (by simpa using hj)).1
        simpa [List.getD, List.getElem?_eq_getElem hj, e] using this
      have h0' : lt' p = true := h0
      simp only [nmL, h0', h1, Bool.and_self]

theorem pts_getD (s : ByteArray) (k : Nat) (h : k < (P s).length) : (pts s).getD k 0 = dp s (st s k) := by
  unfold pts
  rw [List.getD, List.getElem?_map, P_at s k h]; rfl

theorem nm_hit (s : ByteArray) (h0 : 0 < s.size) (hk : ky s = false) (h : ∀ j, j < (P s).length → pr' (dp s (st s j)) = true ∧ (j = 0 → lt' (dp s (st s j)) = true)) : nm s = true := by
  unfold nm
  rw [hk, (nmL_iff _).2]
  · rfl
  · refine ⟨?_, fun j hj => ?_⟩
    · intro e
      have h1 := (st_lt s 0).1 h0
      have := pts_len s
      rw [e] at this
      simp at this; omega
    · rw [pts_len] at hj
      rw [pts_getD s j hj]; exact h j hj
theorem nm_miss (s : ByteArray) (j : Nat) (hj : j < (P s).length) (h : pr' (dp s (st s j)) = false ∨ (j = 0 ∧ lt' (dp s (st s j)) = false)) : nm s = false := by
  unfold nm
  have : nmL (pts s) = false := by
    rw [Bool.eq_false_iff]
    intro h2
    have h3 := ((nmL_iff _).1 h2).2 j (by rw [pts_len]; exact hj)
    rw [pts_getD s j hj] at h3
    rcases h with h | ⟨h, h4⟩
    · rw [h] at h3; exact absurd h3.1 (by simp)
    · rw [h4] at h3; exact absurd (h3.2 h) (by simp)
  rw [this]; rfl
theorem nm_zero (s : ByteArray) (h : s.size = 0) : nm s = false := by
  unfold nm
  have : pts s = [] := by
    apply List.eq_nil_of_length_eq_zero
    rw [pts_len]
    have := P_len s; omega
  rw [this]; rfl
theorem nm_key (s : ByteArray) (h : ky s = true) : nm s = false := by unfold nm; rw [h]; simp

theorem st_pos (s : ByteArray) (k : Nat) (h0 : 0 < k) (h : k ≤ (P s).length) : 0 < st s k := by
  obtain ⟨j, rfl⟩ : ∃ j, k = j + 1 := ⟨k - 1, by omega⟩
  rw [st_succ s j (by omega)]
  have := dw_facts s (st s j) ((st_lt s j).2 (by omega))
  omega

end Go.Proofs.YtnmjkgjhjnpijaaDoor

set_option linter.unusedVariables false
set_option linter.unusedSimpArgs false
namespace Go.Proofs.YtnmjkgjhjnpijaaDoor
open Go.RowKit Go.Deep

/-- The texts of a slice. -/
def SRow (w : World) (b : Nat) (n : Nat) (xs : List ByteArray) : Prop :=
  xs.length = n ∧ ∀ j, j < n → w.cell? ⟨b, j, none⟩ = some (.string (xs.getD j ByteArray.empty))
theorem SRow.below {w w' : World} {b n : Nat} {xs : List ByteArray} (h : SRow w b n xs) (hb : Below w.heap.size w w') : SRow w' b n xs := by
  refine ⟨h.1, fun j hj => ?_⟩
  have h2 := h.2 j hj
  exact (hb.cell (p := ⟨b, j, none⟩) (World.block_lt_of_cell? w _ h2)).trans h2
theorem srow_new (W : World) (xs : List ByteArray) (t : Nat) : SRow (W.alloc (.cells (xs.map Value.string).toArray t)) W.heap.size xs.length xs := by
  refine ⟨rfl, fun j hj => ?_⟩
  rw [World.cell?_alloc_new]
  simp [hj, List.getD]

theorem pre_in {s t : ByteArray} {a : Nat} (h : a + t.size ≤ s.size) : pre s a t = decide (s.extract a (a + t.size) = t) := by
  unfold pre
  exact decide_eq_decide.2 ⟨fun h2 => h2.2, fun h2 => ⟨h, h2⟩⟩
theorem pre_out {s t : ByteArray} {a : Nat} (h : ¬ a + t.size ≤ s.size) : pre s a t = false := by
  unfold pre
  exact decide_eq_false fun h2 => h h2.1

end Go.Proofs.YtnmjkgjhjnpijaaDoor

set_option linter.unusedVariables false
set_option linter.unusedSimpArgs false
namespace Go.Proofs.YtnmjkgjhjnpijaaDoor
open Go.RowKit Go.Deep

/-! ### Sign, at any number -/
def sgI (s : ByteArray) (n : Int) : ByteArray := if 0 ≤ n ∧ n < (s.size : Int) then sg s n.toNat else ByteArray.empty
theorem sgI_in (s : ByteArray) (a : Nat) (h : a < s.size) : sgI s a = sg s a := by
  unfold sgI
  rw [if_pos ⟨by omega, by omega⟩, Int.toNat_natCast]
theorem sgI_out (s : ByteArray) (n : Int) (h : n < 0 ∨ (s.size : Int) ≤ n) : sgI s n = ByteArray.empty := by
  unfold sgI
  rw [if_neg (by omega)]

theorem sign_any (s : ByteArray) (n : Int) (w : World) (hT : Kab w) :
    Calls Tryd.prog 59 #[.string s, .int .i64 n] w fun e w' => e = .returned (.string (sgI s n)) ∧ Below w.heap.size w w' := by
  by_cases h1 : n < 0
  · rw [sgI_out s n (.inl h1)]
    exact (sign_low s n w h1).mono fun e w' ⟨he, hw⟩ => ⟨he, by rw [hw]; exact Below.refl _ _⟩
  · by_cases h2 : (s.size : Int) ≤ n
    · rw [sgI_out s n (.inr h2)]
      exact (sign_high s n w h2).mono fun e w' ⟨he, hw⟩ => ⟨he, by rw [hw]; exact Below.refl _ _⟩
    · obtain ⟨a, rfl⟩ : ∃ a : Nat, n = a := ⟨n.toNat, by omega⟩
      rw [sgI_in s a (by omega)]
      exact sign_in s a w hT.2.2 (by omega)
/-! ### Names have good characters -/
theorem bad_part (s : ByteArray) (i : Nat) (h : gd s i = false) : pr' (dp s i) = false := by
  unfold dp
  rw [gd_not s i h]
  decide +kernel
theorem P_mem_st (s : ByteArray) (i : Nat) (h : i ∈ P s) : ∃ k, k < (P s).length ∧ i = st s k := by
  obtain ⟨k, hk, e⟩ := List.mem_iff_getElem.1 h
  refine ⟨k, hk, ?_⟩
  have := P_at s k hk
  rw [List.getElem?_eq_getElem hk] at this
  rw [← e]; exact Option.some.inj this
theorem vl_of_nmL (s : ByteArray) (h : nmL (pts s) = true) : vl s = true := by
  unfold vl
  rw [List.all_eq_true]
  intro i hi
  obtain ⟨k, hk, rfl⟩ := P_mem_st s i hi
  have h2 := (((nmL_iff _).1 h).2 k (by rw [pts_len]; exact hk)).1
  rw [pts_getD s k hk] at h2
  cases hg : gd s (st s k)
  · rw [bad_part s _ hg] at h2; cases h2
  · rfl
theorem nm_of_bad (s : ByteArray) (h : vl s = false) : nm s = false := by
  unfold nm
  cases hn : nmL (pts s)
  · rfl
  · rw [vl_of_nmL s hn] at h; cases h

theorem zs_getD (s : ByteArray) (k : Nat) (h : k < (P s).length) : ((pts s).map (fun i : Nat => (i : Int))).getD k 0 = ((dp s (st s k) : Nat) : Int) := by
  unfold pts
  rw [List.getD, List.getElem?_map, List.getElem?_map, P_at s k h]; rfl

end Go.Proofs.YtnmjkgjhjnpijaaDoor
