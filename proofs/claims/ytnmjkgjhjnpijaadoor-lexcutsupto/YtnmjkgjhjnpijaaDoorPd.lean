import Derived.Test.YtnmjkgjhjnpijaaDoorPc
set_option linter.unusedVariables false
set_option linter.unusedSimpArgs false
namespace Go.Proofs.YtnmjkgjhjnpijaaDoor
open Go.RowKit Go.Shelf
attribute [local go_sem] Oper.semAt_some

/-- A source's line, and whether there is one. -/
def lineS (s : ByteArray) (n : Int) : ByteArray := if 1 ≤ n ∧ n ≤ LN s then ln s (n - 1).toNat else ⟨#[]⟩
def lineB (s : ByteArray) (n : Int) : Bool := decide (1 ≤ n ∧ n ≤ LN s)

theorem upto_at (s : ByteArray) (k i : Nat) (h : i < k) : (((i + 1 : Nat) : Int), ln s i) ∈ upto s k := by
  unfold upto; exact List.mem_map.2 ⟨i, List.mem_range.2 h, rfl⟩

theorem line_none {s : ByteArray} {n : Int} {xs : List Ln} (hx : xs.map (·.1) = upto s (LN s)) (hn : ∀ y ∈ xs, y.1.1 ≠ n) : lineS s n = ⟨#[]⟩ ∧ lineB s n = false := by
  have h : ¬ (1 ≤ n ∧ n ≤ LN s) := by
    rintro ⟨h1, h2⟩
    have hm := upto_at s (LN s) (n - 1).toNat (by omega)
    rw [← hx] at hm
    obtain ⟨y, hy, he⟩ := List.mem_map.1 hm
    refine hn y hy ?_
    rw [he]
    show (((n - 1).toNat + 1 : Nat) : Int) = n
    omega
  exact ⟨if_neg h, decide_eq_false h⟩

theorem line_some {s : ByteArray} {n : Int} {k : Nat} {pre : List Ln} {y : Ln} (hk : k ≤ LN s) (hx : pre.map (·.1) = upto s k) (hl : pre.getLast? = some y) (hy : y.1.1 = n) : lineS s n = y.1.2 ∧ lineB s n = true := by
  have h1 : (pre.map (·.1)).getLast? = some y.1 := by rw [List.getLast?_map, hl]; rfl
  rw [hx] at h1
  cases k with
  | zero => simp [upto] at h1
  | succ j =>
    rw [upto_succ, List.getLast?_append] at h1
    simp at h1
    have e1 : y.1.1 = ((j : Int) + 1) := by rw [← h1]
    have e2 : y.1.2 = ln s j := by rw [← h1]
    have h : 1 ≤ n ∧ n ≤ LN s := by omega
    refine ⟨?_, decide_eq_true h⟩
    unfold lineS
    rw [if_pos h, e2, show (n - 1).toNat = j by omega]

theorem box_kept {W W' : World} {row : Option Nat} {B : Nat} {t : TypeId} {v : Value} (h : Boxed W B t v) (hg : W.grownBy W' row) (hr : ∀ r, row = some r → ∃ o : Obj, W.heap[r]? = some o ∧ o.isCells = false) : Boxed W' B t v :=
  h.kept hg (fun e => by
    obtain ⟨o, ho, hc⟩ := hr B e.symm
    rw [show W.heap[B]? = _ from h] at ho; cases ho; cases hc)
theorem box_put {W : World} {B : Nat} {t : TypeId} {v : Value} (h : Boxed W B t v) {D : Nat} {o o' : Obj} (hK : W.heap[D]? = some o) (ho : o.isCells = false) : Boxed (W.putObj D o') B t v :=
  box_kept h (grownBy_putObj' W D o') (fun r e => by cases e; exact ⟨o, hK, ho⟩)

end Go.Proofs.YtnmjkgjhjnpijaaDoor
