import Derived.Test.YtnmjkgjhjnpijaaDoorG2
import Derived.Test.YtnmjkgjhjnpijaaDoorRb
set_option linter.unusedVariables false
set_option linter.unusedSimpArgs false
namespace Go.Proofs.YtnmjkgjhjnpijaaDoor
open Go.RowKit

theorem ivs_snoc (l : List Nat) (x : Nat) : ivs (l ++ [x]) = ivs l ++ [.int .i64 (x : Int)] := by simp [ivs]
theorem ivs_len (l : List Nat) : (ivs l).length = l.length := by simp [ivs]

theorem P_take (s : ByteArray) (k : Nat) (h : k < (P s).length) : (P s).take (k + 1) = (P s).take k ++ [st s k] := by
  have h1 := P_at s k h
  rw [List.take_succ_eq_append_getElem h]
  have := (List.getElem?_eq_some_iff.1 h1).2
  rw [this]

def pts (s : ByteArray) : List Nat := (P s).map (dp s)
theorem pts_len (s : ByteArray) : (pts s).length = (P s).length := by unfold pts; simp
theorem pts_take (s : ByteArray) (k : Nat) (h : k < (P s).length) : (pts s).take (k + 1) = (pts s).take k ++ [dp s (st s k)] := by
  unfold pts
  rw [← List.map_take, P_take s k h, List.map_append, List.map_take]; rfl

theorem own_lt {w : World} {base e n : Nat} {v : Value} {xs : List Value} (h : w.ownsRow base e 1 v n xs) : ∀ j, v.ownBlock = some j → base ≤ j := fun j hj => (h.lt j hj).1

/-- What an owned row of numbers is, to a reader. -/
theorem own_shape {w : World} {base n : Nat} {v : Value} {zs : List Int} (h : w.ownsRow base 3 1 v n (zs.map (Value.int .i64))) : ∃ ao cap, v = .slice ao n cap ∧ Row w ao n zs := by
  rcases h.2 with ⟨rfl, rfl⟩ | ⟨g, cap, cur, rfl, _⟩
  · have hl : zs = [] := List.eq_nil_of_length_eq_zero (by have := h.1; simpa using this)
    subst hl
    exact ⟨none, 0, rfl, rfl, fun j hj => by omega⟩
  · exact ⟨_, cap, rfl, own_row h⟩

end Go.Proofs.YtnmjkgjhjnpijaaDoor
