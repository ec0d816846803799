import Derived.Test.YtcokccfbeonlnaaDoorSc
import Derived.Test.YtcokccfbeonlnaaDoorSd
import Derived.OwnWalk
set_option linter.unusedVariables false
set_option linter.unusedSimpArgs false
namespace Go.Proofs.YtcokccfbeonlnaaDoor
open Go.RowKit
open Go.Lib (strCells strCells_length)

theorem new_at (w : World) (o : Obj) : (w.alloc o).heap[w.heap.size]? = some o := by show (w.heap.push o)[w.heap.size]? = _; simp
theorem three (w : World) (A C D : Obj) : (((w.alloc A).alloc C).alloc D).heap[w.heap.size]? = some A ∧ (((w.alloc A).alloc C).alloc D).heap[w.heap.size + 1]? = some C ∧ (((w.alloc A).alloc C).alloc D).heap[w.heap.size + 1 + 1]? = some D ∧ Below w.heap.size w (((w.alloc A).alloc C).alloc D) := by
  have s1 : (w.alloc A).heap.size = w.heap.size + 1 := World.size_alloc w A
  have s2 : ((w.alloc A).alloc C).heap.size = w.heap.size + 1 + 1 := by rw [World.size_alloc, s1]
  refine ⟨alloc_at _ _ _ _ (alloc_at _ _ _ _ (new_at _ _)), alloc_at _ _ _ _ ?_, ?_, (((Below.refl _ w).alloc (Nat.le_refl _) A).alloc (by omega) C).alloc (by omega) D⟩
  · rw [← s1]; exact new_at _ _
  · rw [← s2]; exact new_at _ _

set_option maxHeartbeats 1000000 in
/-- What a call writes with. -/
theorem gather_any (g : Nat) (b : Bool) (col wait : Int) (tv gv : Value) (w : World) (hg : w.heap[g]? = some (.cells (sk b col wait tv gv) 78 (0, 0))) (htv : ∃ p n cap, tv = .slice p n cap) (hgv : ∃ p n cap, gv = .slice p n cap) :
    Calls Tryd.prog 61 #[.pointer (some ⟨g, 0, none⟩)] w fun e w' => ∃ c d h, e = .returned (.tuple #[.func (.func 76) #[] #[.pointer (some ⟨d, 0, none⟩), .pointer (some ⟨c, 0, none⟩)], .func (.func 77) #[] #[.pointer (some ⟨c, 0, none⟩)], .func (.func 78) #[] #[.pointer (some ⟨c, 0, none⟩), .pointer (some ⟨d, 0, none⟩), .pointer (some ⟨h, 0, none⟩)]]) ∧
      (w'.heap[c]? = some (.cells #[tv] 32 (0, 0)) ∧ w'.heap[d]? = some (.cells #[gv] 76 (0, 0)) ∧ w'.heap[h]? = some (.cells #[.pointer (some ⟨g, 0, none⟩)] 49 (0, 0)) ∧ w.heap.size ≤ c ∧ w.heap.size ≤ d ∧ w.heap.size ≤ h) ∧ Below w.heap.size w w' := by
  have gl := blk_lt hg
  have g3 : w.cell? ⟨g, 3, none⟩ = some tv := blk_cell hg rfl
  have g4 : w.cell? ⟨g, 4, none⟩ = some gv := blk_cell hg rfl
  obtain ⟨p1, n1, k1, rfl⟩ := htv
  obtain ⟨p2, n2, k2, rfl⟩ := hgv
  have a1 := cell_a1 g3
  have a2 := cell_a2 g3
  have a3 := cell_a3 g3
  have b1 := cell_a1 g4
  have b2 := cell_a2 g4
  have b3 := cell_a3 g4
  have hmf : ∀ (fn : Fn) (first cap : Array Value) (w : World), (Instr.makeFunc fn first cap).run Tryd.prog w = .ok (.func fn first cap) w := fun _ _ _ _ => rfl
  go_enter Tryd.func61, Tryd.ntmps61
  go_wp2_with fail
  go_region
  all_goals go_wp2_with fail
  · go_ret3
    obtain ⟨e0, e1, e2, hb⟩ := three w (.cells #[.pointer (some ⟨g, 0, none⟩)] 49) (.cells #[.slice p1 n1 k1] 32) (.cells #[.slice p2 n2 k2] 76)
    exact ⟨w.heap.size + 1, w.heap.size + 1 + 1, w.heap.size, rfl, ⟨e1, e2, e0, by omega, by omega, by omega⟩, hb.drew⟩
  · go_ret3
    obtain ⟨e0, e1, e2, hb⟩ := three w (.cells #[.pointer (some ⟨g, 0, none⟩)] 49) (.cells #[.slice p2 n2 k2] 76) (.cells #[.slice p1 n1 k1] 32)
    exact ⟨w.heap.size + 1 + 1, w.heap.size + 1, w.heap.size, rfl, ⟨e2, e1, e0, by omega, by omega, by omega⟩, hb.drew⟩

/-! The last line feed of a text, and what stands behind it. -/
def lf (t : ByteArray) : Int := Lib.lastIndexByte t 10
theorem lf_bd (t : ByteArray) : -1 ≤ lf t ∧ lf t < t.size := by
  have := Lib.lastIdx_spec t 10 t.size
  unfold lf Lib.lastIndexByte
  rcases this with ⟨h, _⟩ | ⟨i, hi, h, _⟩
  · rw [h]; omega
  · rw [h]; omega
def aft (t : ByteArray) : ByteArray := t.extract (lf t + 1).toNat t.size
def ncol (col wait : Int) (t : ByteArray) : Int := if lf t < 0 then col + wait + tw t else tw (aft t)
theorem lastix10 (s : ByteArray) (hs : s.size < 4611686018427387904) (w : World) :
    Calls Tryd.prog 79 #[.string s, .string ⟨#[10]⟩] w fun e w' => e = .returned (.int .i64 (lf s)) ∧ w' = w := lastix s ⟨#[10]⟩ rfl hs w

theorem new_any (w : World) : Calls Tryd.prog 22 #[] w fun e w' => e = .returned (.pointer (some ⟨w.heap.size, 0, none⟩)) ∧ w' = w.alloc (.cells (sk false 0 0 (.slice none 0 0) (.slice none 0 0)) 78) := by
  go_enter Tryd.func22, Tryd.ntmps22
  go_wp2_with fail
  go_ret
  exact ⟨rfl, rfl⟩
theorem column_nil (w : World) : Calls Tryd.prog 67 #[.pointer none] w fun e w' => e = .returned (.int .i64 0) ∧ w' = w := by
  go_enter Tryd.func67, Tryd.ntmps67
  go_wp2_with fail
  go_ret
  exact ⟨rfl, rfl⟩
theorem fresh_nil (w : World) : Calls Tryd.prog 63 #[.pointer none] w fun e w' => e = .returned (.bool false) ∧ w' = w := by
  go_enter Tryd.func63, Tryd.ntmps63
  go_wp2_with fail
  go_ret
  exact ⟨rfl, rfl⟩
theorem blanks_nil (n : Int) (w : World) : Calls Tryd.prog 64 #[.pointer none, .int .i64 n] w fun e w' => e = .returned (.int .i64 3) ∧ w' = w := by
  go_enter Tryd.func64, Tryd.ntmps64
  go_wp2_with fail
  go_ret
  exact ⟨rfl, rfl⟩
theorem feed_nil (n : Int) (w : World) : Calls Tryd.prog 65 #[.pointer none, .int .i64 n] w fun e w' => e = .returned (.int .i64 3) ∧ w' = w := by
  go_enter Tryd.func65, Tryd.ntmps65
  go_wp2_with fail
  go_ret
  exact ⟨rfl, rfl⟩
theorem empty_nil (w : World) : Calls Tryd.prog 38 #[.pointer none] w fun e w' => e = .returned (.int .i64 3) ∧ w' = w := by
  go_enter Tryd.func38, Tryd.ntmps38
  go_wp2_with fail
  go_ret
  exact ⟨rfl, rfl⟩

theorem column_any (g : Nat) (b : Bool) (col wait : Int) (tv gv : Value) (w : World) (hg : w.heap[g]? = some (.cells (sk b col wait tv gv) 78 (0, 0))) (h0 : 0 ≤ col) (h1 : col ≤ 1152921504606846976) (h2 : 0 ≤ wait) (h3 : wait ≤ 1152921504606846976) :
    Calls Tryd.prog 67 #[.pointer (some ⟨g, 0, none⟩)] w fun e w' => e = .returned (.int .i64 (col + wait)) ∧ Below w.heap.size w w' := by
  have g1 : w.cell? ⟨g, 1, none⟩ = some (.int .i64 col) := blk_cell hg rfl
  have g2 : w.cell? ⟨g, 2, none⟩ = some (.int .i64 wait) := blk_cell hg rfl
  go_enter Tryd.func67, Tryd.ntmps67
  go_wp2_with fail
  go_quiet (fail)
  go_wp2_with fail
  go_ret
  exact ⟨rfl, below_drewN (Below.refl _ w) nq⟩
theorem fresh_any (g : Nat) (b : Bool) (col wait : Int) (tv gv : Value) (w : World) (hg : w.heap[g]? = some (.cells (sk b col wait tv gv) 78 (0, 0))) :
    Calls Tryd.prog 63 #[.pointer (some ⟨g, 0, none⟩)] w fun e w' => e = .returned (.bool (!b)) ∧ w' = w := by
  have g0 : w.cell? ⟨g, 0, none⟩ = some (.bool b) := blk_cell hg rfl
  go_enter Tryd.func63, Tryd.ntmps63
  go_wp2_with fail
  go_ret
  exact ⟨rfl, rfl⟩
theorem blanks_bad (g : Nat) (n : Int) (w : World) (hn : n < 0 ∨ 1048576 < n) : Calls Tryd.prog 64 #[.pointer (some ⟨g, 0, none⟩), .int .i64 n] w fun e w' => e = .returned (.int .i64 1) ∧ w' = w := by
  by_cases h0 : n < 0
  · have q1 : decide (n < 0) = true := by simp; omega
    clear hn
    go_enter Tryd.func64, Tryd.ntmps64
    go_wp2_with fail
    go_ret
    exact ⟨rfl, rfl⟩
  · have q1 : decide (n < 0) = false := by simp; omega
    have q2 : decide (1048576 < n) = true := by simp; omega
    have q3 : 1048576 < n := by omega
    clear hn
    go_enter Tryd.func64, Tryd.ntmps64
    go_wp2_with fail
    go_ret
    exact ⟨rfl, rfl⟩
theorem blanks_any (g : Nat) (b : Bool) (col wait n : Int) (tv gv : Value) (w : World) (hg : w.heap[g]? = some (.cells (sk b col wait tv gv) 78 (0, 0))) (h0 : 0 ≤ n) (h1 : n ≤ 1048576) (h2 : 0 ≤ wait) (h3 : wait ≤ 1152921504606846976) :
    Calls Tryd.prog 64 #[.pointer (some ⟨g, 0, none⟩), .int .i64 n] w fun e w' => e = .returned (.int .i64 0) ∧ w' = w.setCell ⟨g, 2, none⟩ (.int .i64 (wait + n)) := by
  have q1 : decide (n < 0) = false := by simp; omega
  have q2 : decide (1048576 < n) = false := by simp; omega
  have q3 : ¬ (1048576 < n) := by omega
  have q4 : ¬ (n < 0) := by omega
  have g2 : w.cell? ⟨g, 2, none⟩ = some (.int .i64 wait) := blk_cell hg rfl
  have f2 : w.frozen? ⟨g, 2, none⟩ = false := blk_frozen hg
  go_enter Tryd.func64, Tryd.ntmps64
  go_wp2_with fail
  go_ret
  exact ⟨rfl, rfl⟩
end Go.Proofs.YtcokccfbeonlnaaDoor
