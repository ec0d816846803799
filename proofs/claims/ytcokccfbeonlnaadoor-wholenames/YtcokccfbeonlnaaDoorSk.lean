import Derived.Test.YtcokccfbeonlnaaDoorSj
set_option linter.unusedVariables false
set_option linter.unusedSimpArgs false
namespace Go.Proofs.YtcokccfbeonlnaaDoor
open Go.RowKit
open Go.Lib (strCells strCells_length)

theorem add0 (g j : Nat) : (⟨g, 0, none⟩ : Addr).add j = ⟨g, j, none⟩ := by
  unfold Addr.add
  split <;> simp_all

theorem gap_cells {w : World} {gv : Value} {gs : List (Nat × Nat)} (h : w.ownsRow 0 89 2 gv gs.length (flat eg gs)) (k : Nat) (x : Nat × Nat) (hk : gs[k]? = some x) : ∃ tb cap, gv = .slice (some ⟨tb, 0, none⟩) gs.length cap ∧ gs.length ≤ cap ∧ w.cell? ⟨tb, k * 2, none⟩ = some (.int .i64 x.1) ∧ w.cell? ⟨tb, k * 2 + 1, none⟩ = some (.int .i64 x.2) := by
  have hkl := (List.getElem?_eq_some_iff.1 hk).1
  rcases h.2 with ⟨_, h0⟩ | ⟨tb, cap, cur, rfl, _, _, hc, _⟩
  · omega
  · have hcs := h.cells (g := tb) rfl
    refine ⟨tb, cap, rfl, hc, ?_, ?_⟩
    · have := hcs (k * 2 + 0) (.int .i64 x.1) (flat_at eg 2 eg_len gs k 0 x _ hk rfl)
      rw [add0] at this; exact this
    · have := hcs (k * 2 + 1) (.int .i64 x.2) (flat_at eg 2 eg_len gs k 1 x _ hk rfl)
      rw [add0] at this; exact this

theorem sums_take (gs : List (Nat × Nat)) (k : Nat) (x : Nat × Nat) (hk : gs[k]? = some x) : sums (gs.take (k + 1)) = sums (gs.take k) + x.2 := by
  induction gs generalizing k with
  | nil => simp at hk
  | cons y r ih =>
    obtain ⟨a, n⟩ := y
    cases k with
    | zero => simp at hk; subst hk; simp [sums]
    | succ k => simp only [List.take_succ_cons, sums]; rw [ih k (by simpa using hk)]; omega
theorem sums_le (gs : List (Nat × Nat)) (k : Nat) : sums (gs.take k) ≤ sums gs := by
  induction gs generalizing k with
  | nil => simp
  | cons y r ih =>
    obtain ⟨a, n⟩ := y
    cases k with
    | zero => simp [sums]
    | succ k => simp only [List.take_succ_cons, sums]; have := ih k; omega

set_option maxHeartbeats 1000000 in
theorem size_any (g : Nat) (b : Bool) (col wait : Int) (tv gv : Value) (n : Nat) (xs : List Value) (gs : List (Nat × Nat)) (w : World) (hg : w.heap[g]? = some (.cells (sk b col wait tv gv) 78 (0, 0))) (ht : w.ownsRow 0 5 1 tv n xs) (hr : w.ownsRow 0 89 2 gv gs.length (flat eg gs)) (hn : n ≤ 1073741824) (hs : sums gs ≤ 1073741824) (hl : gs.length ≤ 1073741824) :
    Calls Tryd.prog 42 #[.pointer (some ⟨g, 0, none⟩)] w fun e w' => e = .returned (.int .i64 (n + sums gs : Nat)) ∧ Below w.heap.size w w' := by
  have g3 : w.cell? ⟨g, 3, none⟩ = some tv := blk_cell hg rfl
  have g4 : w.cell? ⟨g, 4, none⟩ = some gv := blk_cell hg rfl
  obtain ⟨p1, c1, rfl, _, _⟩ := row_shape ht
  obtain ⟨p2, c2, rfl, _, _⟩ := row_shape hr
  have HR : Hid (w.ownsRow 0 89 2 (.slice p2 gs.length c2) gs.length (flat eg gs)) := hr
  clear ht hr hg
  go_enter Tryd.func42, Tryd.ntmps42
  go_wp2_with fail
  go_loopw [3, 16] (fun m i wr => ∃ k : Nat, k ≤ gs.length ∧ m = .int .i64 (n + sums (gs.take k) : Nat) ∧ i = .int .i64 k ∧ Below w.heap.size w wr) (fun _ i _ => gs.length - (intOf i).toNat)
  case atStart => exact ⟨0, by omega, by simp [sums], rfl, Below.refl _ _⟩
  case round =>
    obtain ⟨k, hk, rfl, rfl, hb⟩ := hrel
    have hsl := sums_le gs k
    by_cases hlt : k < gs.length
    · obtain ⟨x, hx⟩ : ∃ x, gs[k]? = some x := ⟨gs[k], List.getElem?_eq_getElem hlt⟩
      obtain ⟨tb, cap, he, hc, x1, x2⟩ := gap_cells HR.out k x hx
      injection he with e1 e2 e3
      subst e1
      have y1 := (hb.cell (p := ⟨tb, k * 2, none⟩) (World.block_lt_of_cell? _ _ x1)).trans x1
      have y2 := (hb.cell (p := ⟨tb, k * 2 + 1, none⟩) (World.block_lt_of_cell? _ _ x2)).trans x2
      have hst := sums_take gs k x hx
      have hsl2 := sums_le gs (k + 1)
      obtain ⟨a, z⟩ := x
      simp only at y1 y2 hst
      have q1 : (k : Int) < gs.length := by omega
      have HS : Hid (sums (gs.take (k + 1)) = sums (gs.take k) + z) := hst
      have hz : sums (gs.take k) + z ≤ 1073741824 := by omega
      clear x1 x2 hx hst hsl2 e3
      obtain ⟨S, hS⟩ : ∃ S, sums (gs.take k) = S := ⟨_, rfl⟩
      rw [hS] at hsl hz HS ⊢
      clear hS
      go_wp2_with fail
      exact ⟨⟨k + 1, hlt, by rw [HS.out]; go_num, by go_num, hb.alloc hb.size _⟩, by simp [intOf]; omega⟩
    · obtain rfl : k = gs.length := by omega
      have HS : Hid (sums (gs.take gs.length) = sums gs) := by rw [List.take_length]; rfl
      have q1 : ¬ ((gs.length : Int) < gs.length) := by omega
      obtain ⟨S, hS⟩ : ∃ S, sums (gs.take gs.length) = S := ⟨_, rfl⟩
      rw [hS] at hsl HS ⊢
      clear hS
      have HF : Hid ((n : Int) + (S : Int) = (n : Int) + (sums gs : Nat)) := by rw [HS.out]; rfl
      clear HS
      go_wp2_with fail
      go_ret
      exact ⟨congrArg (fun z => Ending.returned (.int .i64 z)) HF.out, hb⟩
end Go.Proofs.YtcokccfbeonlnaaDoor
