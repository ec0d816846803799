import Derived.Test.YtfkegaencoodbaaDoorWb
set_option linter.unusedVariables false
set_option linter.unusedSimpArgs false
namespace Go.Proofs.YtfkegaencoodbaaDoor
open Go.RowKit

/-- The numbers of a slice. -/
def Row (w : World) (ao : Option Addr) (n : Nat) (zs : List Int) : Prop :=
  zs.length = n ∧ ∀ j, j < n → ∃ b off, ao = some ⟨b, off, none⟩ ∧ w.cell? ⟨b, off + j, none⟩ = some (.int .i64 (zs.getD j 0))

theorem Row.below {w w' : World} {ao : Option Addr} {n : Nat} {zs : List Int} (h : Row w ao n zs) (hb : Below w.heap.size w w') : Row w' ao n zs := by
  refine ⟨h.1, fun j hj => ?_⟩
  obtain ⟨b, off, h1, h2⟩ := h.2 j hj
  exact ⟨b, off, h1, (hb.cell (p := ⟨b, off + j, none⟩) (World.block_lt_of_cell? w _ h2)).trans h2⟩

theorem Row.at {w : World} {b off n : Nat} {zs : List Int} (h : Row w (some ⟨b, off, none⟩) n zs) (j : Nat) (hj : j < n) : w.cell? ⟨b, off + j, none⟩ = some (.int .i64 (zs.getD j 0)) := by
  obtain ⟨b', off', h1, h2⟩ := h.2 j hj
  cases h1
  exact h2

/-- What is owned stays owned where nothing old turns. -/
theorem own_below {w w' : World} {base e size n : Nat} {v : Value} {xs : List Value} (h : w.ownsRow base e size v n xs) (hb : Below w.heap.size w w') : w'.ownsRow base e size v n xs := by
  obtain ⟨h1, h2⟩ := h
  refine ⟨h1, ?_⟩
  rcases h2 with h2 | ⟨g, cap, cur, a, b, c, d⟩
  · exact .inl h2
  · exact .inr ⟨g, cap, cur, a, b, by rw [hb.block g (Array.getElem?_eq_some_iff.1 c).1]; exact c, d⟩

theorem own_row {w : World} {base n g cap : Nat} {zs : List Int} (h : w.ownsRow base 3 1 (.slice (some ⟨g, 0, none⟩) n cap) n (zs.map (Value.int .i64))) : Row w (some ⟨g, 0, none⟩) n zs := by
  have hl : zs.length = n := by have := h.1; simpa using this
  refine ⟨hl, fun j hj => ⟨g, 0, rfl, ?_⟩⟩
  have := h.cells (g := g) rfl j (.int .i64 (zs.getD j 0)) (by
    rw [List.getElem?_map, List.getElem?_eq_getElem (by omega)]; simp [List.getD, List.getElem?_eq_getElem (show j < zs.length by omega)])
  rw [Addr.add_lit] at this
  exact this

theorem ivs_eq (l : List Nat) : ivs l = (l.map (fun i : Nat => (i : Int))).map (Value.int .i64) := by simp [ivs]

theorem row_new (W : World) (zs : List Int) (t : Nat) : Row (W.alloc (.cells (zs.map (Value.int .i64)).toArray t)) (some ⟨W.heap.size, 0, none⟩) zs.length zs := by
  refine ⟨rfl, fun j hj => ⟨W.heap.size, 0, rfl, ?_⟩⟩
  rw [World.cell?_alloc_new]
  simp [hj, List.getD]

end Go.Proofs.YtfkegaencoodbaaDoor
