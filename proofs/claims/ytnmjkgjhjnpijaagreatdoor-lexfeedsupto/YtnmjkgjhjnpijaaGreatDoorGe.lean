import Derived.Test.YtnmjkgjhjnpijaaGreatDoorGd
set_option linter.unusedVariables false
set_option linter.unusedSimpArgs false
namespace Go.Proofs.YtnmjkgjhjnpijaaGreatDoor
open Go.RowKit

/-- Feed, behind an error, and behind Close. -/
theorem rfeed_bad {W : World} {g : Nat} {S : ByteArray} {n E : Nat} {X Y Z : Int} (h : LB W g S n E X Y Z false) (hE : E ≠ 0) (x : ByteArray) :
    Calls Tryz.prog 14 #[.pointer (some ⟨g, 0, none⟩), .string x] W fun e w' => e = .returned (.tuple #[.slice none 0 0, .int .i64 E, .agg #[.int .i64 X, .int .i64 Y, .int .i64 Z]]) ∧ Below W.heap.size W w' := by
  obtain ⟨c0, c1, c2, c3, c4, c5, c6⟩ := h.cells
  have hlt := blk_lt h
  have qE : ((E : Int) != 0) = true := by rw [bne_iff_ne]; omega
  clear h
  go_enter Tryz.func14, Tryz.ntmps14
  go_wp2_with fail
  have b0 := (Box3.new W X Y Z).drew
  skip
  have m0 := b0.cell0
  have m1 := b0.cell1
  have m2 := b0.cell2
  go_region_law (fail)
  all_goals (
    go_wp2_with fail
    refine bodyPost_ret (v := .tuple #[.slice none 0 0, .int .i64 E, .agg #[.int .i64 X, .int .i64 Y, .int .i64 Z]]) (by simp [results, Tryz.f14, go_sem, m0, m1, m2]) rfl ?_
    exact ⟨rfl, ((Below.refl _ _).alloc (Nat.le_refl _) _).drew⟩)
theorem rfeed_done {W : World} {g : Nat} {S : ByteArray} {n E : Nat} {X Y Z : Int} (h : LB W g S n E X Y Z true) (x : ByteArray) :
    Calls Tryz.prog 14 #[.pointer (some ⟨g, 0, none⟩), .string x] W fun e w' => e = .returned (.tuple #[.slice none 0 0, .int .i64 4, .agg #[.int .i64 0, .int .i64 0, .int .i64 0]]) ∧ Below W.heap.size W w' := by
  obtain ⟨c0, c1, c2, c3, c4, c5, c6⟩ := h.cells
  have hlt := blk_lt h
  clear h
  go_enter Tryz.func14, Tryz.ntmps14
  go_wp2_with fail
  have b0 := Box3.new W 0 0 0
  have m0 := b0.cell0
  have m1 := b0.cell1
  have m2 := b0.cell2
  refine bodyPost_ret (v := .tuple #[.slice none 0 0, .int .i64 4, .agg #[.int .i64 0, .int .i64 0, .int .i64 0]]) (by simp [results, Tryz.f14, go_sem, m0, m1, m2]) rfl ?_
  exact ⟨rfl, (Below.refl _ _).alloc (Nat.le_refl _) _⟩
theorem rclose_bad {W : World} {g : Nat} {S : ByteArray} {n E : Nat} {X Y Z : Int} (h : LB W g S n E X Y Z false) (hE : E ≠ 0) :
    Calls Tryz.prog 18 #[.pointer (some ⟨g, 0, none⟩)] W fun e w' => e = .returned (.tuple #[.slice none 0 0, .int .i64 E, .agg #[.int .i64 X, .int .i64 Y, .int .i64 Z]]) ∧ LB w' g S n E X Y Z true ∧ Kp (fun q => q = g) W w' := by
  obtain ⟨c0, c1, c2, c3, c4, c5, c6⟩ := h.cells
  have hlt := blk_lt h
  have z6 := h.frozen 6
  have qE : ((E : Int) != 0) = true := by rw [bne_iff_ne]; omega
  have HL : Hid (LB W g S n E X Y Z false) := h
  clear h
  go_enter Tryz.func18, Tryz.ntmps18
  go_wp2_with fail
  have b0 := (Box3.new (W.setCell ⟨g, 6, none⟩ (.bool true)) X Y Z).drew
  rw [World.size_setCell] at b0
  have m0 := b0.cell0
  have m1 := b0.cell1
  have m2 := b0.cell2
  go_region_law (fail)
  all_goals (
    go_wp2_with fail
    refine bodyPost_ret (v := .tuple #[.slice none 0 0, .int .i64 E, .agg #[.int .i64 X, .int .i64 Y, .int .i64 Z]]) (by simp [results, Tryz.f18, go_sem, m0, m1, m2]) rfl ?_
    exact ⟨rfl, blk_below (blk_set HL.out 6 (.bool true)) ((Below.refl _ _).alloc (Nat.le_refl _) _).drew, (Kp.set W g 6 (.bool true)).trans (Kp.of_below ((Below.refl _ _).alloc (Nat.le_refl _) _).drew)⟩)
theorem rclose_done {W : World} {g : Nat} {S : ByteArray} {n E : Nat} {X Y Z : Int} (h : LB W g S n E X Y Z true) :
    Calls Tryz.prog 18 #[.pointer (some ⟨g, 0, none⟩)] W fun e w' => e = .returned (.tuple #[.slice none 0 0, .int .i64 4, .agg #[.int .i64 0, .int .i64 0, .int .i64 0]]) ∧ Below W.heap.size W w' := by
  obtain ⟨c0, c1, c2, c3, c4, c5, c6⟩ := h.cells
  have hlt := blk_lt h
  clear h
  go_enter Tryz.func18, Tryz.ntmps18
  go_wp2_with fail
  have b0 := Box3.new W 0 0 0
  have m0 := b0.cell0
  have m1 := b0.cell1
  have m2 := b0.cell2
  refine bodyPost_ret (v := .tuple #[.slice none 0 0, .int .i64 4, .agg #[.int .i64 0, .int .i64 0, .int .i64 0]]) (by simp [results, Tryz.f18, go_sem, m0, m1, m2]) rfl ?_
  exact ⟨rfl, (Below.refl _ _).alloc (Nat.le_refl _) _⟩
/-- Held, behind an error or Close. -/
theorem rheld_zero {W : World} {g : Nat} {S : ByteArray} {n E : Nat} {X Y Z : Int} {cl : Bool} (h : LB W g S n E X Y Z cl) (hE : cl = true ∨ E ≠ 0) :
    Calls Tryz.prog 17 #[.pointer (some ⟨g, 0, none⟩)] W fun e w' => e = .returned (.int .i64 0) ∧ Below W.heap.size W w' := by
  obtain ⟨c0, c1, c2, c3, c4, c5, c6⟩ := h.cells
  have hlt := blk_lt h
  clear h
  cases cl
  · have qE : ((E : Int) != 0) = true := by rw [bne_iff_ne]; rcases hE with h | h; cases h; omega
    clear hE
    go_enter Tryz.func17, Tryz.ntmps17
    go_wp2_with fail
    go_ret
    exact ⟨rfl, Below.refl _ _⟩
  · clear hE
    go_enter Tryz.func17, Tryz.ntmps17
    go_wp2_with fail
    go_ret
    exact ⟨rfl, Below.refl _ _⟩

end Go.Proofs.YtnmjkgjhjnpijaaGreatDoor
