import Derived.Test.YtnmjkgjhjnpijaaDoorPf
set_option linter.unusedVariables false
set_option linter.unusedSimpArgs false
namespace Go.Proofs.YtnmjkgjhjnpijaaDoor
open Go.RowKit Go.Shelf

theorem line_at (s : ByteArray) (a : Nat) (n : Int) (ha : a ≤ s.size) (he : a = s.size ∨ by8 s a = 10) (hn : n = ((cn s a + 1 : Nat) : Int)) : lineS s n = s.extract (lf s a) a ∧ lineB s n = true := by
  have hc := cn_mono' s ha
  have h : 1 ≤ n ∧ n ≤ LN s := by unfold LN; omega
  refine ⟨?_, decide_eq_true h⟩
  unfold lineS
  rw [if_pos h, show (n - 1).toNat = cn s a by omega]
  unfold ln
  obtain ⟨f1, f2, _⟩ := lf_facts s a
  rw [bg_lf s a ha, nl_eq s (lf s a) a f1 ha f2 he]

theorem line_no (s : ByteArray) (n : Int) (h : ∀ j : Int, 1 ≤ j → j ≤ LN s → j ≠ n) : lineS s n = ⟨#[]⟩ ∧ lineB s n = false := by
  have h' : ¬ (1 ≤ n ∧ n ≤ LN s) := fun hh => h n hh.1 hh.2 rfl
  exact ⟨if_neg h', decide_eq_false h'⟩

end Go.Proofs.YtnmjkgjhjnpijaaDoor
