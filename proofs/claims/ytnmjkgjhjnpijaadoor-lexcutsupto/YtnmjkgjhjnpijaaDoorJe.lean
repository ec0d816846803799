import Derived.Test.YtnmjkgjhjnpijaaDoorJd
set_option linter.unusedVariables false
set_option linter.unusedSimpArgs false
namespace Go.Proofs.YtnmjkgjhjnpijaaDoor
open Go.RowKit

/-- refusal, of a lexer. -/
theorem lrefuse_any {W : World} {g : Nat} {cl : Bool} {e x y z : Int} {k : Nat} {b L C f : Int} {vt vo vs : Value} (h : LxB W g cl e x y z k b L C f vt vo vs) :
    Calls Tryd.prog 13 #[.pointer (some ⟨g, 0, none⟩)] W fun e' w' => e' = .returned (if cl = true then .agg #[.int .i64 4, .int .i64 0, .int .i64 0, .int .i64 0] else .agg #[.int .i64 e, .int .i64 x, .int .i64 y, .int .i64 z]) ∧ Below W.heap.size W w' := by
  obtain ⟨c0, c1, c2, c3, c4, c5, c6, c7, c8, c9, c10, c11, c12⟩ := h.cells
  have hlt := blk_lt h
  clear h
  cases cl
  · go_enter Tryd.func13, Tryd.ntmps13
    go_wp2_with fail
    have hn : (W.alloc (.cells #[.int .i64 e, .int .i64 x, .int .i64 y, .int .i64 z] 42)).heap[W.heap.size]? = some (.cells #[.int .i64 e, .int .i64 x, .int .i64 y, .int .i64 z] 42 (0, 0)) := World.alloc_heap_new W _
    have m0 : (W.alloc (.cells #[.int .i64 e, .int .i64 x, .int .i64 y, .int .i64 z] 42)).cell? ⟨W.heap.size, 0, none⟩ = some (.int .i64 e) := blk_cell hn rfl
    have m1 : (W.alloc (.cells #[.int .i64 e, .int .i64 x, .int .i64 y, .int .i64 z] 42)).cell? ⟨W.heap.size, 1, none⟩ = some (.int .i64 x) := blk_cell hn rfl
    have m2 : (W.alloc (.cells #[.int .i64 e, .int .i64 x, .int .i64 y, .int .i64 z] 42)).cell? ⟨W.heap.size, 2, none⟩ = some (.int .i64 y) := blk_cell hn rfl
    have m3 : (W.alloc (.cells #[.int .i64 e, .int .i64 x, .int .i64 y, .int .i64 z] 42)).cell? ⟨W.heap.size, 3, none⟩ = some (.int .i64 z) := blk_cell hn rfl
    refine bodyPost_ret (v := .agg #[.int .i64 e, .int .i64 x, .int .i64 y, .int .i64 z]) (by simp [results, Tryd.f13, go_sem, m0, m1, m2, m3]) rfl ?_
    exact ⟨rfl, (Below.refl _ _).alloc (Nat.le_refl _) _⟩
  · go_enter Tryd.func13, Tryd.ntmps13
    go_wp2_with fail
    have hn : (W.alloc (.cells #[.int .i64 4, .int .i64 0, .int .i64 0, .int .i64 0] 42)).heap[W.heap.size]? = some (.cells #[.int .i64 4, .int .i64 0, .int .i64 0, .int .i64 0] 42 (0, 0)) := World.alloc_heap_new W _
    have m0 : (W.alloc (.cells #[.int .i64 4, .int .i64 0, .int .i64 0, .int .i64 0] 42)).cell? ⟨W.heap.size, 0, none⟩ = some (.int .i64 4) := blk_cell hn rfl
    have m1 : (W.alloc (.cells #[.int .i64 4, .int .i64 0, .int .i64 0, .int .i64 0] 42)).cell? ⟨W.heap.size, 1, none⟩ = some (.int .i64 0) := blk_cell hn rfl
    have m2 : (W.alloc (.cells #[.int .i64 4, .int .i64 0, .int .i64 0, .int .i64 0] 42)).cell? ⟨W.heap.size, 2, none⟩ = some (.int .i64 0) := blk_cell hn rfl
    have m3 : (W.alloc (.cells #[.int .i64 4, .int .i64 0, .int .i64 0, .int .i64 0] 42)).cell? ⟨W.heap.size, 3, none⟩ = some (.int .i64 0) := blk_cell hn rfl
    refine bodyPost_ret (v := .agg #[.int .i64 4, .int .i64 0, .int .i64 0, .int .i64 0]) (by simp [results, Tryd.f13, go_sem, m0, m1, m2, m3]) rfl ?_
    exact ⟨rfl, (Below.refl _ _).alloc (Nat.le_refl _) _⟩
theorem lrefuse_nil (W : World) :
    Calls Tryd.prog 13 #[.pointer none] W fun e' w' => e' = .returned (.agg #[.int .i64 3, .int .i64 0, .int .i64 0, .int .i64 0]) ∧ Below W.heap.size W w' := by
  go_enter Tryd.func13, Tryd.ntmps13
  go_wp2_with fail
  have hn : (W.alloc (.cells #[.int .i64 3, .int .i64 0, .int .i64 0, .int .i64 0] 42)).heap[W.heap.size]? = some (.cells #[.int .i64 3, .int .i64 0, .int .i64 0, .int .i64 0] 42 (0, 0)) := World.alloc_heap_new W _
  have m0 : (W.alloc (.cells #[.int .i64 3, .int .i64 0, .int .i64 0, .int .i64 0] 42)).cell? ⟨W.heap.size, 0, none⟩ = some (.int .i64 3) := blk_cell hn rfl
  have m1 : (W.alloc (.cells #[.int .i64 3, .int .i64 0, .int .i64 0, .int .i64 0] 42)).cell? ⟨W.heap.size, 1, none⟩ = some (.int .i64 0) := blk_cell hn rfl
  have m2 : (W.alloc (.cells #[.int .i64 3, .int .i64 0, .int .i64 0, .int .i64 0] 42)).cell? ⟨W.heap.size, 2, none⟩ = some (.int .i64 0) := blk_cell hn rfl
  have m3 : (W.alloc (.cells #[.int .i64 3, .int .i64 0, .int .i64 0, .int .i64 0] 42)).cell? ⟨W.heap.size, 3, none⟩ = some (.int .i64 0) := blk_cell hn rfl
  refine bodyPost_ret (v := .agg #[.int .i64 3, .int .i64 0, .int .i64 0, .int .i64 0]) (by simp [results, Tryd.f13, go_sem, m0, m1, m2, m3]) rfl ?_
  exact ⟨rfl, (Below.refl _ _).alloc (Nat.le_refl _) _⟩

/-- All cells of a lexer's block are written. -/
theorem lx_all {W : World} {g : Nat} {cl : Bool} {e x y z : Int} {k : Nat} {b L C f : Int} {vt vo vs : Value} (h : LxB W g cl e x y z k b L C f vt vo vs) (a0 a1 a2 a3 a4 a5 a6 a7 a8 a9 a10 a11 a12 : Value) :
    (((((((((((((W.setCell ⟨g, 0, none⟩ a0).setCell ⟨g, 1, none⟩ a1).setCell ⟨g, 2, none⟩ a2).setCell ⟨g, 3, none⟩ a3).setCell ⟨g, 4, none⟩ a4).setCell ⟨g, 5, none⟩ a5).setCell ⟨g, 6, none⟩ a6).setCell ⟨g, 7, none⟩ a7).setCell ⟨g, 8, none⟩ a8).setCell ⟨g, 9, none⟩ a9).setCell ⟨g, 10, none⟩ a10).setCell ⟨g, 11, none⟩ a11).setCell ⟨g, 12, none⟩ a12).heap[g]? = some (.cells #[a0, a1, a2, a3, a4, a5, a6, a7, a8, a9, a10, a11, a12] 46 (0, 0)) ∧ Kp (fun k => k = g) W (((((((((((((W.setCell ⟨g, 0, none⟩ a0).setCell ⟨g, 1, none⟩ a1).setCell ⟨g, 2, none⟩ a2).setCell ⟨g, 3, none⟩ a3).setCell ⟨g, 4, none⟩ a4).setCell ⟨g, 5, none⟩ a5).setCell ⟨g, 6, none⟩ a6).setCell ⟨g, 7, none⟩ a7).setCell ⟨g, 8, none⟩ a8).setCell ⟨g, 9, none⟩ a9).setCell ⟨g, 10, none⟩ a10).setCell ⟨g, 11, none⟩ a11).setCell ⟨g, 12, none⟩ a12) := by
  have x1 : (W.setCell ⟨g, 0, none⟩ a0).heap[g]? = some (.cells #[a0, .int .i64 e, .int .i64 x, .int .i64 y, .int .i64 z, .int .i64 k, .int .i64 b, .int .i64 L, .int .i64 C, .int .i64 f, vt, vo, vs] 46 (0, 0)) := blk_set h 0 a0
  have x2 : ((W.setCell ⟨g, 0, none⟩ a0).setCell ⟨g, 1, none⟩ a1).heap[g]? = some (.cells #[a0, a1, .int .i64 x, .int .i64 y, .int .i64 z, .int .i64 k, .int .i64 b, .int .i64 L, .int .i64 C, .int .i64 f, vt, vo, vs] 46 (0, 0)) := blk_set x1 1 a1
  have x3 : (((W.setCell ⟨g, 0, none⟩ a0).setCell ⟨g, 1, none⟩ a1).setCell ⟨g, 2, none⟩ a2).heap[g]? = some (.cells #[a0, a1, a2, .int .i64 y, .int .i64 z, .int .i64 k, .int .i64 b, .int .i64 L, .int .i64 C, .int .i64 f, vt, vo, vs] 46 (0, 0)) := blk_set x2 2 a2
  have x4 : ((((W.setCell ⟨g, 0, none⟩ a0).setCell ⟨g, 1, none⟩ a1).setCell ⟨g, 2, none⟩ a2).setCell ⟨g, 3, none⟩ a3).heap[g]? = some (.cells #[a0, a1, a2, a3, .int .i64 z, .int .i64 k, .int .i64 b, .int .i64 L, .int .i64 C, .int .i64 f, vt, vo, vs] 46 (0, 0)) := blk_set x3 3 a3
  have x5 : (((((W.setCell ⟨g, 0, none⟩ a0).setCell ⟨g, 1, none⟩ a1).setCell ⟨g, 2, none⟩ a2).setCell ⟨g, 3, none⟩ a3).setCell ⟨g, 4, none⟩ a4).heap[g]? = some (.cells #[a0, a1, a2, a3, a4, .int .i64 k, .int .i64 b, .int .i64 L, .int .i64 C, .int .i64 f, vt, vo, vs] 46 (0, 0)) := blk_set x4 4 a4
  have x6 : ((((((W.setCell ⟨g, 0, none⟩ a0).setCell ⟨g, 1, none⟩ a1).setCell ⟨g, 2, none⟩ a2).setCell ⟨g, 3, none⟩ a3).setCell ⟨g, 4, none⟩ a4).setCell ⟨g, 5, none⟩ a5).heap[g]? = some (.cells #[a0, a1, a2, a3, a4, a5, .int .i64 b, .int .i64 L, .int .i64 C, .int .i64 f, vt, vo, vs] 46 (0, 0)) := blk_set x5 5 a5
  have x7 : (((((((W.setCell ⟨g, 0, none⟩ a0).setCell ⟨g, 1, none⟩ a1).setCell ⟨g, 2, none⟩ a2).setCell ⟨g, 3, none⟩ a3).setCell ⟨g, 4, none⟩ a4).setCell ⟨g, 5, none⟩ a5).setCell ⟨g, 6, none⟩ a6).heap[g]? = some (.cells #[a0, a1, a2, a3, a4, a5, a6, .int .i64 L, .int .i64 C, .int .i64 f, vt, vo, vs] 46 (0, 0)) := blk_set x6 6 a6
  have x8 : ((((((((W.setCell ⟨g, 0, none⟩ a0).setCell ⟨g, 1, none⟩ a1).setCell ⟨g, 2, none⟩ a2).setCell ⟨g, 3, none⟩ a3).setCell ⟨g, 4, none⟩ a4).setCell ⟨g, 5, none⟩ a5).setCell ⟨g, 6, none⟩ a6).setCell ⟨g, 7, none⟩ a7).heap[g]? = some (.cells #[a0, a1, a2, a3, a4, a5, a6, a7, .int .i64 C, .int .i64 f, vt, vo, vs] 46 (0, 0)) := blk_set x7 7 a7
  have x9 : (((((((((W.setCell ⟨g, 0, none⟩ a0).setCell ⟨g, 1, none⟩ a1).setCell ⟨g, 2, none⟩ a2).setCell ⟨g, 3, none⟩ a3).setCell ⟨g, 4, none⟩ a4).setCell ⟨g, 5, none⟩ a5).setCell ⟨g, 6, none⟩ a6).setCell ⟨g, 7, none⟩ a7).setCell ⟨g, 8, none⟩ a8).heap[g]? = some (.cells #[a0, a1, a2, a3, a4, a5, a6, a7, a8, .int .i64 f, vt, vo, vs] 46 (0, 0)) := blk_set x8 8 a8
  have x10 : ((((((((((W.setCell ⟨g, 0, none⟩ a0).setCell ⟨g, 1, none⟩ a1).setCell ⟨g, 2, none⟩ a2).setCell ⟨g, 3, none⟩ a3).setCell ⟨g, 4, none⟩ a4).setCell ⟨g, 5, none⟩ a5).setCell ⟨g, 6, none⟩ a6).setCell ⟨g, 7, none⟩ a7).setCell ⟨g, 8, none⟩ a8).setCell ⟨g, 9, none⟩ a9).heap[g]? = some (.cells #[a0, a1, a2, a3, a4, a5, a6, a7, a8, a9, vt, vo, vs] 46 (0, 0)) := blk_set x9 9 a9
  have x11 : (((((((((((W.setCell ⟨g, 0, none⟩ a0).setCell ⟨g, 1, none⟩ a1).setCell ⟨g, 2, none⟩ a2).setCell ⟨g, 3, none⟩ a3).setCell ⟨g, 4, none⟩ a4).setCell ⟨g, 5, none⟩ a5).setCell ⟨g, 6, none⟩ a6).setCell ⟨g, 7, none⟩ a7).setCell ⟨g, 8, none⟩ a8).setCell ⟨g, 9, none⟩ a9).setCell ⟨g, 10, none⟩ a10).heap[g]? = some (.cells #[a0, a1, a2, a3, a4, a5, a6, a7, a8, a9, a10, vo, vs] 46 (0, 0)) := blk_set x10 10 a10
  have x12 : ((((((((((((W.setCell ⟨g, 0, none⟩ a0).setCell ⟨g, 1, none⟩ a1).setCell ⟨g, 2, none⟩ a2).setCell ⟨g, 3, none⟩ a3).setCell ⟨g, 4, none⟩ a4).setCell ⟨g, 5, none⟩ a5).setCell ⟨g, 6, none⟩ a6).setCell ⟨g, 7, none⟩ a7).setCell ⟨g, 8, none⟩ a8).setCell ⟨g, 9, none⟩ a9).setCell ⟨g, 10, none⟩ a10).setCell ⟨g, 11, none⟩ a11).heap[g]? = some (.cells #[a0, a1, a2, a3, a4, a5, a6, a7, a8, a9, a10, a11, vs] 46 (0, 0)) := blk_set x11 11 a11
  have x13 : (((((((((((((W.setCell ⟨g, 0, none⟩ a0).setCell ⟨g, 1, none⟩ a1).setCell ⟨g, 2, none⟩ a2).setCell ⟨g, 3, none⟩ a3).setCell ⟨g, 4, none⟩ a4).setCell ⟨g, 5, none⟩ a5).setCell ⟨g, 6, none⟩ a6).setCell ⟨g, 7, none⟩ a7).setCell ⟨g, 8, none⟩ a8).setCell ⟨g, 9, none⟩ a9).setCell ⟨g, 10, none⟩ a10).setCell ⟨g, 11, none⟩ a11).setCell ⟨g, 12, none⟩ a12).heap[g]? = some (.cells #[a0, a1, a2, a3, a4, a5, a6, a7, a8, a9, a10, a11, a12] 46 (0, 0)) := blk_set x12 12 a12
  have k1 : Kp (fun k => k = g) W (W.setCell ⟨g, 0, none⟩ a0) := Kp.set W g 0 a0
  have k2 : Kp (fun k => k = g) W ((W.setCell ⟨g, 0, none⟩ a0).setCell ⟨g, 1, none⟩ a1) := k1.trans (Kp.set _ g 1 a1)
  have k3 : Kp (fun k => k = g) W (((W.setCell ⟨g, 0, none⟩ a0).setCell ⟨g, 1, none⟩ a1).setCell ⟨g, 2, none⟩ a2) := k2.trans (Kp.set _ g 2 a2)
  have k4 : Kp (fun k => k = g) W ((((W.setCell ⟨g, 0, none⟩ a0).setCell ⟨g, 1, none⟩ a1).setCell ⟨g, 2, none⟩ a2).setCell ⟨g, 3, none⟩ a3) := k3.trans (Kp.set _ g 3 a3)
  have k5 : Kp (fun k => k = g) W (((((W.setCell ⟨g, 0, none⟩ a0).setCell ⟨g, 1, none⟩ a1).setCell ⟨g, 2, none⟩ a2).setCell ⟨g, 3, none⟩ a3).setCell ⟨g, 4, none⟩ a4) := k4.trans (Kp.set _ g 4 a4)
  have k6 : Kp (fun k => k = g) W ((((((W.setCell ⟨g, 0, none⟩ a0).setCell ⟨g, 1, none⟩ a1).setCell ⟨g, 2, none⟩ a2).setCell ⟨g, 3, none⟩ a3).setCell ⟨g, 4, none⟩ a4).setCell ⟨g, 5, none⟩ a5) := k5.trans (Kp.set _ g 5 a5)
  have k7 : Kp (fun k => k = g) W (((((((W.setCell ⟨g, 0, none⟩ a0).setCell ⟨g, 1, none⟩ a1).setCell ⟨g, 2, none⟩ a2).setCell ⟨g, 3, none⟩ a3).setCell ⟨g, 4, none⟩ a4).setCell ⟨g, 5, none⟩ a5).setCell ⟨g, 6, none⟩ a6) := k6.trans (Kp.set _ g 6 a6)
  have k8 : Kp (fun k => k = g) W ((((((((W.setCell ⟨g, 0, none⟩ a0).setCell ⟨g, 1, none⟩ a1).setCell ⟨g, 2, none⟩ a2).setCell ⟨g, 3, none⟩ a3).setCell ⟨g, 4, none⟩ a4).setCell ⟨g, 5, none⟩ a5).setCell ⟨g, 6, none⟩ a6).setCell ⟨g, 7, none⟩ a7) := k7.trans (Kp.set _ g 7 a7)
  have k9 : Kp (fun k => k = g) W (((((((((W.setCell ⟨g, 0, none⟩ a0).setCell ⟨g, 1, none⟩ a1).setCell ⟨g, 2, none⟩ a2).setCell ⟨g, 3, none⟩ a3).setCell ⟨g, 4, none⟩ a4).setCell ⟨g, 5, none⟩ a5).setCell ⟨g, 6, none⟩ a6).setCell ⟨g, 7, none⟩ a7).setCell ⟨g, 8, none⟩ a8) := k8.trans (Kp.set _ g 8 a8)
  have k10 : Kp (fun k => k = g) W ((((((((((W.setCell ⟨g, 0, none⟩ a0).setCell ⟨g, 1, none⟩ a1).setCell ⟨g, 2, none⟩ a2).setCell ⟨g, 3, none⟩ a3).setCell ⟨g, 4, none⟩ a4).setCell ⟨g, 5, none⟩ a5).setCell ⟨g, 6, none⟩ a6).setCell ⟨g, 7, none⟩ a7).setCell ⟨g, 8, none⟩ a8).setCell ⟨g, 9, none⟩ a9) := k9.trans (Kp.set _ g 9 a9)
  have k11 : Kp (fun k => k = g) W (((((((((((W.setCell ⟨g, 0, none⟩ a0).setCell ⟨g, 1, none⟩ a1).setCell ⟨g, 2, none⟩ a2).setCell ⟨g, 3, none⟩ a3).setCell ⟨g, 4, none⟩ a4).setCell ⟨g, 5, none⟩ a5).setCell ⟨g, 6, none⟩ a6).setCell ⟨g, 7, none⟩ a7).setCell ⟨g, 8, none⟩ a8).setCell ⟨g, 9, none⟩ a9).setCell ⟨g, 10, none⟩ a10) := k10.trans (Kp.set _ g 10 a10)
  have k12 : Kp (fun k => k = g) W ((((((((((((W.setCell ⟨g, 0, none⟩ a0).setCell ⟨g, 1, none⟩ a1).setCell ⟨g, 2, none⟩ a2).setCell ⟨g, 3, none⟩ a3).setCell ⟨g, 4, none⟩ a4).setCell ⟨g, 5, none⟩ a5).setCell ⟨g, 6, none⟩ a6).setCell ⟨g, 7, none⟩ a7).setCell ⟨g, 8, none⟩ a8).setCell ⟨g, 9, none⟩ a9).setCell ⟨g, 10, none⟩ a10).setCell ⟨g, 11, none⟩ a11) := k11.trans (Kp.set _ g 11 a11)
  have k13 : Kp (fun k => k = g) W (((((((((((((W.setCell ⟨g, 0, none⟩ a0).setCell ⟨g, 1, none⟩ a1).setCell ⟨g, 2, none⟩ a2).setCell ⟨g, 3, none⟩ a3).setCell ⟨g, 4, none⟩ a4).setCell ⟨g, 5, none⟩ a5).setCell ⟨g, 6, none⟩ a6).setCell ⟨g, 7, none⟩ a7).setCell ⟨g, 8, none⟩ a8).setCell ⟨g, 9, none⟩ a9).setCell ⟨g, 10, none⟩ a10).setCell ⟨g, 11, none⟩ a11).setCell ⟨g, 12, none⟩ a12) := k12.trans (Kp.set _ g 12 a12)
  exact ⟨x13, k13⟩

set_option maxRecDepth 100000 in
set_option maxHeartbeats 2000000 in
theorem lshut_any {W : World} {g : Nat} {cl : Bool} {e x y z : Int} {k : Nat} {b L C f : Int} {vt vo vs : Value} (h : LxB W g cl e x y z k b L C f vt vo vs) :
    Calls Tryd.prog 17 #[.pointer (some ⟨g, 0, none⟩)] W fun e' w' => e' = .returned (.tuple #[]) ∧ LxB w' g true 0 0 0 0 0 0 0 0 0 (.slice none 0 0) (.slice none 0 0) (.slice none 0 0) ∧ Kp (fun k => k = g) W w' := by
  obtain ⟨c0, c1, c2, c3, c4, c5, c6, c7, c8, c9, c10, c11, c12⟩ := h.cells
  have hlt := blk_lt h
  have z0 := h.frozen 0
  have z1 := h.frozen 1
  have z2 := h.frozen 2
  have z3 := h.frozen 3
  have z4 := h.frozen 4
  have z5 := h.frozen 5
  have z6 := h.frozen 6
  have z7 := h.frozen 7
  have z8 := h.frozen 8
  have z9 := h.frozen 9
  have z10 := h.frozen 10
  have z11 := h.frozen 11
  have z12 := h.frozen 12
  have HL : Hid (LxB W g cl e x y z k b L C f vt vo vs) := h
  clear h
  go_enter Tryd.func17, Tryd.ntmps17
  go_wp2_with fail
  go_end0
  obtain ⟨y1, y2⟩ := lx_all HL.out (.bool true) (.int .i64 0) (.int .i64 0) (.int .i64 0) (.int .i64 0) (.int .i64 0) (.int .i64 0) (.int .i64 0) (.int .i64 0) (.int .i64 0) (.slice none 0 0) (.slice none 0 0) (.slice none 0 0)
  exact ⟨rfl, y1, y2⟩
theorem lshut_nil (W : World) :
    Calls Tryd.prog 17 #[.pointer none] W fun e' w' => e' = .returned (.tuple #[]) ∧ w' = W := by
  go_enter Tryd.func17, Tryd.ntmps17
  go_wp2_with fail
  go_end0
  exact ⟨rfl, rfl⟩

/-- Held. -/
theorem lheld_any {W : World} {g : Nat} {cl : Bool} {e x y z : Int} {k : Nat} {b L C f : Int} {vt vo vs : Value} (h : LxB W g cl e x y z k b L C f vt vo vs) (p1 p2 : Option Addr) (n1 n2 c1 c2 : Nat) (e1 : vt = .slice p1 n1 c1) (e2 : vo = .slice p2 n2 c2) (h1 : n1 ≤ 2147483647) (h2 : n2 ≤ 2147483647) :
    Calls Tryd.prog 8 #[.pointer (some ⟨g, 0, none⟩)] W fun e' w' => e' = .returned (.int .i64 ((n1 + n2 : Nat) : Int)) ∧ Below W.heap.size W w' := by
  subst e1 e2
  obtain ⟨c0, c1, c2, c3, c4, c5, c6, c7, c8, c9, c10, c11, c12⟩ := h.cells
  have hlt := blk_lt h
  have hwr : IntKind.i64.wrap ((n1 : Int) + (n2 : Int)) = ((n1 + n2 : Nat) : Int) := by rw [IntKind.wrap_i64]; omega
  clear h
  go_enter Tryd.func8, Tryd.ntmps8
  go_wp2_with fail
  go_quiet (fail)
  go_wp2_with fail
  go_ret
  exact ⟨rfl, lbel_dn _ _⟩
theorem lheld_nil (W : World) :
    Calls Tryd.prog 8 #[.pointer none] W fun e' w' => e' = .returned (.int .i64 0) ∧ w' = W := by
  go_enter Tryd.func8, Tryd.ntmps8
  go_wp2_with fail
  go_ret
  exact ⟨rfl, rfl⟩

set_option maxRecDepth 100000 in
set_option maxHeartbeats 2000000 in
/-- answer, with no error. -/
theorem lans_ok {S : Nat → Prop} {w0 W : World} {g k b : Nat} {L C : Int} {f : Nat} {t o : ByteArray} {l : List Tv} (h : Lq S w0 W g k b L C f t o l) :
    Calls Tryd.prog 15 #[.pointer (some ⟨g, 0, none⟩), .int .i64 0] W fun e' w' => ∃ v, e' = .returned (.tuple #[v, .int .i64 0, .agg #[.int .i64 0, .int .i64 0, .int .i64 0]]) ∧ Rt w0.heap.size w' v l ∧ ∃ vt vo, LxB w' g false 0 0 0 0 k b L C f vt vo (.slice none 0 0) ∧ Lz S w0 w' g vt vo (.slice none 0 0) t o [] := by
  obtain ⟨vt, vo, vs, h1, h2⟩ := h
  obtain ⟨c0, c1, c2, c3, c4, c5, c6, c7, c8, c9, c10, c11, c12⟩ := h1.cells
  have hlt := blk_lt h1
  have z12 := h1.frozen 12
  obtain ⟨sp, sc, e2, _⟩ := h2.rs.shape
  have hsz : (W.setCell ⟨g, 12, none⟩ (.slice none 0 0)).heap.size = W.heap.size := World.size_setCell _ _ _
  obtain ⟨W1, hW1⟩ : ∃ W1, W.setCell ⟨g, 12, none⟩ (.slice none 0 0) = W1 := ⟨_, rfl⟩
  have HW : Hid (W.setCell ⟨g, 12, none⟩ (.slice none 0 0) = W1) := hW1
  have y3 : Lz S w0 W1 g vt vo vs t o l := by rw [← hW1]; exact h2.set h1 12 _
  have y1 : LxB W1 g false 0 0 0 0 k b L C f vt vo (.slice none 0 0) := by rw [← hW1]; exact blk_set h1 12 _
  have hn := World.alloc_heap_new W1 (.cells #[.int .i64 0, .int .i64 0, .int .i64 0] 30)
  rw [hW1] at hsz
  rw [hsz] at hn
  have hB0 : Below W1.heap.size W1 (W1.alloc (.cells #[.int .i64 0, .int .i64 0, .int .i64 0] 30)).drew := ((Below.refl _ _).alloc (Nat.le_refl _) _).drew
  have HF : Hid (Rt w0.heap.size (W1.alloc (.cells #[.int .i64 0, .int .i64 0, .int .i64 0] 30)).drew vs l ∧ ∃ vt vo, LxB (W1.alloc (.cells #[.int .i64 0, .int .i64 0, .int .i64 0] 30)).drew g false 0 0 0 0 k b L C f vt vo (.slice none 0 0) ∧ Lz S w0 (W1.alloc (.cells #[.int .i64 0, .int .i64 0, .int .i64 0] 30)).drew g vt vo (.slice none 0 0) t o []) := by
    have y4 := y3.below hB0
    exact ⟨y4.rs, vt, vo, blk_below y1 hB0, y4.kp, y4.sg, y4.nw, y4.rt, y4.ro, y4.ap, rt_nil _ _⟩
  have m0 : (W1.alloc (.cells #[.int .i64 0, .int .i64 0, .int .i64 0] 30)).drew.cell? ⟨W.heap.size, 0, none⟩ = some (.int .i64 0) := blk_cell (W := (W1.alloc (.cells #[.int .i64 0, .int .i64 0, .int .i64 0] 30)).drew) hn rfl
  have m1 : (W1.alloc (.cells #[.int .i64 0, .int .i64 0, .int .i64 0] 30)).drew.cell? ⟨W.heap.size, 1, none⟩ = some (.int .i64 0) := blk_cell (W := (W1.alloc (.cells #[.int .i64 0, .int .i64 0, .int .i64 0] 30)).drew) hn rfl
  have m2 : (W1.alloc (.cells #[.int .i64 0, .int .i64 0, .int .i64 0] 30)).drew.cell? ⟨W.heap.size, 2, none⟩ = some (.int .i64 0) := blk_cell (W := (W1.alloc (.cells #[.int .i64 0, .int .i64 0, .int .i64 0] 30)).drew) hn rfl
  subst e2
  clear h1 h2 y1 y3 hW1 hn hB0
  go_enter Tryd.func15, Tryd.ntmps15
  go_wp2_with fail
  go_region_law (fail)
  all_goals (
    go_wp2_with fail
    rw [HW.out]
    refine bodyPost_ret (v := .tuple #[.slice sp l.length sc, .int .i64 0, .agg #[.int .i64 0, .int .i64 0, .int .i64 0]]) (by simp [results, Tryd.f15, go_sem, m0, m1, m2]) rfl ?_
    exact ⟨_, rfl, HF.out⟩)

/-- The lexer behind an error: nothing but it. -/
def LxE (W : World) (g : Nat) (E : Nat) (A : Nat) (L C : Int) : Prop := LxB W g false E A L C 0 0 0 0 0 (.slice none 0 0) (.slice none 0 0) (.slice none 0 0)
set_option maxRecDepth 100000 in
set_option maxHeartbeats 4000000 in
/-- answer, with an error. -/
theorem lans_bad {S : Nat → Prop} {w0 W : World} {g k b : Nat} {f : Nat} {s o : ByteArray} {l : List Tv} {p : Nat} (h : Lq S w0 W g k b (pL s b) (pC s b) f (s.extract b p) o l) (hs : s.size ≤ 2147483647) (hbp : b ≤ p) (hb : bd s b) (hp : bd s p) (E A : Nat) (hE : E ≠ 0) (hA : A = if E = 102 then p else b) :
    Calls Tryd.prog 15 #[.pointer (some ⟨g, 0, none⟩), .int .i64 E] W fun e' w' => ∃ v, e' = .returned (.tuple #[v, .int .i64 E, .agg #[.int .i64 A, .int .i64 (pL s A), .int .i64 (pC s A)]]) ∧ Rt w0.heap.size w' v l ∧ LxE w' g E A (pL s A) (pC s A) ∧ Kp S w0 w' := by
  obtain ⟨vt, vo, vs, h1, h2⟩ := h
  obtain ⟨sp, sc, e2, _⟩ := h2.rs.shape
  have hlt := blk_lt h1
  have hne : g ≠ W.heap.size := by omega
  have z12 := h1.frozen 12
  have qE : ((E : Int) != 0) = true := by rw [bne_iff_ne]; omega
  have hsz : (W.setCell ⟨g, 12, none⟩ (.slice none 0 0)).heap.size = W.heap.size := World.size_setCell _ _ _
  have c12 : W.cell? ⟨g, 12, none⟩ = some vs := blk_cell h1 rfl
  obtain ⟨XL, hXL⟩ : ∃ x, pL s A = x := ⟨_, rfl⟩
  obtain ⟨XC, hXC⟩ : ∃ x, pC s A = x := ⟨_, rfl⟩
  have HFa : Hid (Calls Tryd.prog 23 #[.pointer (some ⟨g, 0, none⟩), .int .i64 E] ((W.setCell ⟨g, 12, none⟩ (.slice none 0 0)).alloc (.cells #[.int .i64 0, .int .i64 0, .int .i64 0] 30)) fun e w' => e = .returned (.agg #[.int .i64 A, .int .i64 XL, .int .i64 XC]) ∧ Below ((W.setCell ⟨g, 12, none⟩ (.slice none 0 0)).alloc (.cells #[.int .i64 0, .int .i64 0, .int .i64 0] 30)).heap.size ((W.setCell ⟨g, 12, none⟩ (.slice none 0 0)).alloc (.cells #[.int .i64 0, .int .i64 0, .int .i64 0] 30)) w') := by
    have y3 := (h2.set h1 12 (.slice none 0 0)).below ((Below.refl _ _).alloc (Nat.le_refl _) (.cells #[.int .i64 0, .int .i64 0, .int .i64 0] 30))
    have y1 : LxB ((W.setCell ⟨g, 12, none⟩ (.slice none 0 0)).alloc (.cells #[.int .i64 0, .int .i64 0, .int .i64 0] 30)) g false 0 0 0 0 k b (pL s b) (pC s b) f vt vo (.slice none 0 0) := blk_below (blk_set h1 12 (.slice none 0 0)) ((Below.refl _ _).alloc (Nat.le_refl _) _)
    have := lfault_any (S := S) (w0 := w0) (l := []) ⟨vt, vo, (.slice none 0 0), y1, y3.kp, y3.sg, y3.nw, y3.rt, y3.ro, y3.ap, rt_nil _ _⟩ hs hbp hb hp E A hA
    rw [hXL, hXC] at this
    exact this
  have HK : Hid (∀ V, Below ((W.setCell ⟨g, 12, none⟩ (.slice none 0 0)).alloc (.cells #[.int .i64 0, .int .i64 0, .int .i64 0] 30)).heap.size ((W.setCell ⟨g, 12, none⟩ (.slice none 0 0)).alloc (.cells #[.int .i64 0, .int .i64 0, .int .i64 0] 30)) V → LxB V g false 0 0 0 0 k b (pL s b) (pC s b) f vt vo (.slice none 0 0) ∧ Lz S w0 V g vt vo vs (s.extract b p) o l ∧ Box3 V W.heap.size 0 0 0) := fun V hV => by
    have hba : Below (W.setCell ⟨g, 12, none⟩ (.slice none 0 0)).heap.size (W.setCell ⟨g, 12, none⟩ (.slice none 0 0)) V := ((Below.refl _ _).alloc (Nat.le_refl _) (.cells #[.int .i64 0, .int .i64 0, .int .i64 0] 30)).trans (hV.mono (by rw [World.size_alloc]; omega))
    refine ⟨blk_below (blk_set h1 12 (.slice none 0 0)) hba, (h2.set h1 12 (.slice none 0 0)).below hba, ?_⟩
    have hn := World.alloc_heap_new (W.setCell ⟨g, 12, none⟩ (.slice none 0 0)) (.cells #[.int .i64 0, .int .i64 0, .int .i64 0] 30)
    rw [hsz] at hn
    exact blk_below hn hV
  have HSZ : Hid (w0.heap.size ≤ W.heap.size) := h2.kp.size
  rw [hXL, hXC]
  clear hXL hXC
  subst e2
  clear h1 h2 hE hA hb hp
  go_enter Tryd.func15, Tryd.ntmps15
  go_wp2_with (first | (go_at_call 23; refine HFa.out.mono ?_; rintro e w2 ⟨rfl, hb2⟩; obtain ⟨u1, u2, u3⟩ := HK.out _ hb2; obtain ⟨c0, c1, c2, c3, c4, c5, c6, c7, c8, c9, c10, c11, c12⟩ := u1.cells; have z0 := u1.frozen 0; have z1 := u1.frozen 1; have z2 := u1.frozen 2; have z3 := u1.frozen 3; have z4 := u1.frozen 4; have z5 := u1.frozen 5; have z6 := u1.frozen 6; have z7 := u1.frozen 7; have z8 := u1.frozen 8; have z9 := u1.frozen 9; have z10 := u1.frozen 10; have z11 := u1.frozen 11; have z12 := u1.frozen 12; have hl2 := blk_lt u1; obtain ⟨t1, t2⟩ := lx_all u1 (.bool false) (.int .i64 E) (.int .i64 A) (.int .i64 XL) (.int .i64 XC) (.int .i64 0) (.int .i64 0) (.int .i64 0) (.int .i64 0) (.int .i64 0) (.slice none 0 0) (.slice none 0 0) (.slice none 0 0); have t3 := t2.blk u3 (fun e => hne e.symm)))
  obtain ⟨W3, hW3⟩ : ∃ W3, (((((((((((((w2.setCell ⟨g, 0, none⟩ (.bool false)).setCell ⟨g, 1, none⟩ (.int .i64 E)).setCell ⟨g, 2, none⟩ (.int .i64 A)).setCell ⟨g, 3, none⟩ (.int .i64 XL)).setCell ⟨g, 4, none⟩ (.int .i64 XC)).setCell ⟨g, 5, none⟩ (.int .i64 0)).setCell ⟨g, 6, none⟩ (.int .i64 0)).setCell ⟨g, 7, none⟩ (.int .i64 0)).setCell ⟨g, 8, none⟩ (.int .i64 0)).setCell ⟨g, 9, none⟩ (.int .i64 0)).setCell ⟨g, 10, none⟩ (.slice none 0 0)).setCell ⟨g, 11, none⟩ (.slice none 0 0)).setCell ⟨g, 12, none⟩ (.slice none 0 0)) = W3 := ⟨_, rfl⟩
  rw [hW3] at t1 t2 t3 ⊢
  clear hW3 c0 c1 c2 c3 c4 c5 c6 c7 c8 c9 c10 c11 c12 z0 z1 z2 z3 z4 z5 z6 z7 z8 z9 z10 z11 z12
  have e1 : LxE W3 g E A XL XC := t1
  have t4 : Box3 W3 W.heap.size 0 0 0 := t3
  obtain ⟨c0, c1, c2, c3, c4, c5, c6, c7, c8, c9, c10, c11, c12⟩ := LxB.cells e1
  have b0 := t4.cell0
  have b1 := t4.cell1
  have b2 := t4.cell2
  have k0 := t4.frozen 0
  have k1 := t4.frozen 1
  have k2 := t4.frozen 2
  have hl3 := t4.lt
  have hl4 := blk_lt e1
  have t5 := ((t4.set0 A).set1 XL).set2 XC
  have hk5 : Kp (fun k => k = W.heap.size) W3 (((W3.setCell ⟨W.heap.size, 0, none⟩ (.int .i64 A)).setCell ⟨W.heap.size, 1, none⟩ (.int .i64 XL)).setCell ⟨W.heap.size, 2, none⟩ (.int .i64 XC)) := ((Kp.set _ _ _ _).trans (Kp.set _ _ _ _)).trans (Kp.set _ _ _ _)
  have HF : Hid (Rt w0.heap.size (((W3.setCell ⟨W.heap.size, 0, none⟩ (.int .i64 A)).setCell ⟨W.heap.size, 1, none⟩ (.int .i64 XL)).setCell ⟨W.heap.size, 2, none⟩ (.int .i64 XC)).drew (.slice sp l.length sc) l ∧ LxE (((W3.setCell ⟨W.heap.size, 0, none⟩ (.int .i64 A)).setCell ⟨W.heap.size, 1, none⟩ (.int .i64 XL)).setCell ⟨W.heap.size, 2, none⟩ (.int .i64 XC)).drew g E A XL XC ∧ Kp S w0 (((W3.setCell ⟨W.heap.size, 0, none⟩ (.int .i64 A)).setCell ⟨W.heap.size, 1, none⟩ (.int .i64 XL)).setCell ⟨W.heap.size, 2, none⟩ (.int .i64 XC)).drew) := by
    have r3 : Rt w0.heap.size W3 (.slice sp l.length sc) l := u2.rs.kp t2 (u2.rs.ne u1 (by decide))
    have r5 := r3.kp hk5 (r3.ne t4 (by decide))
    have l5 := hk5.blk e1 hne
    have k5 := (u2.kp.step t2 (fun j _ e => by rw [e]; exact u2.sg)).step hk5 (fun j hj e => by have := HSZ.out; omega)
    exact ⟨r5.below (Below.refl _ _).drew, blk_below l5 (Below.refl _ _).drew, k5.then (Below.refl _ _).drew⟩
  have m0 : ((((W3.setCell ⟨W.heap.size, 0, none⟩ (.int .i64 A)).setCell ⟨W.heap.size, 1, none⟩ (.int .i64 XL)).setCell ⟨W.heap.size, 2, none⟩ (.int .i64 XC)).drew).cell? ⟨W.heap.size, 0, none⟩ = some (.int .i64 A) := t5.drew.cell0
  have m1 : ((((W3.setCell ⟨W.heap.size, 0, none⟩ (.int .i64 A)).setCell ⟨W.heap.size, 1, none⟩ (.int .i64 XL)).setCell ⟨W.heap.size, 2, none⟩ (.int .i64 XC)).drew).cell? ⟨W.heap.size, 1, none⟩ = some (.int .i64 XL) := t5.drew.cell1
  have m2 : ((((W3.setCell ⟨W.heap.size, 0, none⟩ (.int .i64 A)).setCell ⟨W.heap.size, 1, none⟩ (.int .i64 XL)).setCell ⟨W.heap.size, 2, none⟩ (.int .i64 XC)).drew).cell? ⟨W.heap.size, 2, none⟩ = some (.int .i64 XC) := t5.drew.cell2
  clear t1 t2 t3 t4 t5 hk5 e1 u1 u2 u3 HK hb2
  go_wp2_with fail
  go_region_law (fail)
  all_goals (
    go_wp2_with fail
    refine bodyPost_ret (v := .tuple #[.slice sp l.length sc, .int .i64 E, .agg #[.int .i64 A, .int .i64 XL, .int .i64 XC]]) (by simp [results, Tryd.f15, go_sem, m0, m1, m2]) rfl ?_
    exact ⟨_, rfl, HF.out⟩)

end Go.Proofs.YtnmjkgjhjnpijaaDoor
