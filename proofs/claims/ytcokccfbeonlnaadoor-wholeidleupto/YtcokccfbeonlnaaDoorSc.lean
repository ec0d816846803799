import Derived.Test.YtcokccfbeonlnaaDoorSb
import Derived.Defers
set_option linter.unusedVariables false
set_option linter.unusedSimpArgs false
namespace Go.Proofs.YtcokccfbeonlnaaDoor
open Go.RowKit
open Go.Lib (strCells strCells_length)

/-- The sink's block. -/
def sk (b : Bool) (col wait : Int) (tv gv : Value) : Array Value := #[.bool b, .int .i64 col, .int .i64 wait, tv, gv]

theorem alloc_at (w : World) (o : Obj) (g : Nat) (x : Obj) (h : w.heap[g]? = some x) : (w.alloc o).heap[g]? = some x := (((Below.refl _ w).alloc (Nat.le_refl _) o).block g (blk_lt h)).trans h
theorem cell_a1 {w : World} {a : Addr} {v : Value} (h : w.cell? a = some v) : ∀ o, (w.alloc o).cell? a = some v := fun o => (((Below.refl _ w).alloc (Nat.le_refl _) o).cell (World.block_lt_of_cell? w a h)).trans h
theorem cell_a2 {w : World} {a : Addr} {v : Value} (h : w.cell? a = some v) : ∀ o p, ((w.alloc o).alloc p).cell? a = some v := fun o p => cell_a1 (cell_a1 h o) p
theorem cell_a3 {w : World} {a : Addr} {v : Value} (h : w.cell? a = some v) : ∀ o p q, (((w.alloc o).alloc p).alloc q).cell? a = some v := fun o p q => cell_a1 (cell_a2 h o p) q

set_option maxHeartbeats 1000000 in
theorem cl_end (u : FrameMode) (b b' : Bool) (col wait col' wait' : Int) (c d h g : Nat) (tv gv tv' gv' : Value) (w : World)
    (hg : w.heap[g]? = some (.cells (sk b col wait tv gv) 78 (0, 0))) (hc : w.heap[c]? = some (.cells #[tv'] 32 (0, 0))) (hd : w.heap[d]? = some (.cells #[gv'] 76 (0, 0))) (hh : w.heap[h]? = some (.cells #[.pointer (some ⟨g, 0, none⟩)] 49 (0, 0)))
    (htv : ∃ p n cap, tv = .slice p n cap) (hgv : ∃ p n cap, gv = .slice p n cap) (htv' : ∃ p n cap, tv' = .slice p n cap) (hgv' : ∃ p n cap, gv' = .slice p n cap) :
    CallsD Tryd.prog 78 #[.agg #[.bool b', .int .i64 col', .int .i64 wait'], .pointer (some ⟨c, 0, none⟩), .pointer (some ⟨d, 0, none⟩), .pointer (some ⟨h, 0, none⟩)] u w fun e u' w' => u' = u ∧ (e = .returned (.tuple #[]) ∧ w'.heap[g]? = some (.cells (sk b' col' wait' tv' gv') 78 (0, 0)) ∧ Kp (fun k => k = g) w w') := by
  have gl := blk_lt hg
  have cl := blk_lt hc
  have dl := blk_lt hd
  have hl := blk_lt hh
  have g0 : w.cell? ⟨g, 0, none⟩ = some (.bool b) := blk_cell hg rfl
  have g1 : w.cell? ⟨g, 1, none⟩ = some (.int .i64 col) := blk_cell hg rfl
  have g2 : w.cell? ⟨g, 2, none⟩ = some (.int .i64 wait) := blk_cell hg rfl
  have g3 : w.cell? ⟨g, 3, none⟩ = some tv := blk_cell hg rfl
  have g4 : w.cell? ⟨g, 4, none⟩ = some gv := blk_cell hg rfl
  have f0 : w.frozen? ⟨g, 0, none⟩ = false := blk_frozen hg
  have f1 : w.frozen? ⟨g, 1, none⟩ = false := blk_frozen hg
  have f2 : w.frozen? ⟨g, 2, none⟩ = false := blk_frozen hg
  have f3 : w.frozen? ⟨g, 3, none⟩ = false := blk_frozen hg
  have f4 : w.frozen? ⟨g, 4, none⟩ = false := blk_frozen hg
  have c0 : w.cell? ⟨c, 0, none⟩ = some tv' := blk_cell hc rfl
  have d0 : w.cell? ⟨d, 0, none⟩ = some gv' := blk_cell hd rfl
  have h0 : w.cell? ⟨h, 0, none⟩ = some (.pointer (some ⟨g, 0, none⟩)) := blk_cell hh rfl
  obtain ⟨p1, n1, k1, rfl⟩ := htv
  obtain ⟨p2, n2, k2, rfl⟩ := hgv
  obtain ⟨p3, n3, k3, rfl⟩ := htv'
  obtain ⟨p4, n4, k4, rfl⟩ := hgv'
  go_enter_d Tryd.func78, Tryd.ntmps78
  go_wp2_with fail
  go_region
  go_wp2_with fail
  go_end0
  refine ⟨rfl, ?_, ?_⟩
  · refine (alloc_at _ _ _ _ ?_)
    exact blk_set (blk_set (blk_set (blk_set (blk_set hg 3 _) 4 _) 0 _) 1 _) 2 _
  · refine Kp.same (W := (((((w.setCell ⟨g, 3, none⟩ (.slice p3 n3 k3)).setCell ⟨g, 4, none⟩ (.slice p4 n4 k4)).setCell ⟨g, 0, none⟩ (.bool b')).setCell ⟨g, 1, none⟩ (.int .i64 col')).setCell ⟨g, 2, none⟩ (.int .i64 wait')).alloc (.cells #[.bool b', .int .i64 col', .int .i64 wait'] 75)) ?_ rfl rfl rfl rfl
    refine Kp.alloc ?_ _
    exact (((((Kp.refl _ w).trans (Kp.set _ _ _ _)).trans (Kp.set _ _ _ _)).trans (Kp.set _ _ _ _)).trans (Kp.set _ _ _ _)).trans (Kp.set _ _ _ _)

end Go.Proofs.YtcokccfbeonlnaaDoor
