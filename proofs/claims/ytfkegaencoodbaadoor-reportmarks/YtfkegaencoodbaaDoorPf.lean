import Derived.Test.YtfkegaencoodbaaDoorPe
import Derived.Test.YtfkegaencoodbaaDoorRc
import Derived.Deep.RegionWith
set_option linter.unusedVariables false
set_option linter.unusedSimpArgs false
namespace Go.Proofs.YtfkegaencoodbaaDoor
open Go.RowKit Go.Shelf

set_option maxHeartbeats 1000000 in
theorem start_any (w : World) :
    Calls Tryd.prog 23 #[] w fun e w' => e = .returned (.agg #[.int .i64 0, .int .i64 1, .int .i64 1]) ∧ Below w.heap.size w w' := by
  go_enter Tryd.func23, Tryd.ntmps23
  go_wp2
  have hb0 := Box3.new w 0 1 1
  have g0 := hb0.cell0
  have g1 := hb0.cell1
  have g2 := hb0.cell2
  refine bodyPost_ret (v := .agg #[.int .i64 0, .int .i64 1, .int .i64 1]) (by simp [results, Tryd.f23, go_sem, g0, g1, g2]) rfl ?_
  exact ⟨rfl, (Below.refl _ _).alloc (Nat.le_refl _) _⟩

theorem adv_lit (a0 l0 c0 : Int) (s : ByteArray) (w : World) (hs : s.size ≤ 2147483647) (hl0 : -9223372036854775808 ≤ l0 ∧ l0 ≤ 9223372036854775807) :
    Calls Tryd.prog 22 #[.agg #[.int .i64 a0, .int .i64 l0, .int .i64 c0], .string s] w fun e w' => e = .returned (.agg #[.int .i64 (aAt a0 s), .int .i64 (aLine l0 s), .int .i64 (aCol c0 s)]) ∧ Below w.heap.size w w' :=
  adv_any a0 l0 c0 s w hs hl0

set_option maxRecDepth 100000 in
set_option maxHeartbeats 1000000 in
theorem of_in (s : ByteArray) (n : Nat) (w : World) (hs : s.size ≤ 2147483647) (hn : n ≤ s.size) :
    Calls Tryd.prog 11 #[.string s, .int .i64 n] w fun e w' => e = .returned (.tuple #[.agg #[.int .i64 (aAt 0 (s.extract 0 n)), .int .i64 (aLine 1 (s.extract 0 n)), .int .i64 (aCol 1 (s.extract 0 n))], .int .i64 0]) ∧ Below w.heap.size w w' := by
  have hz := size_ext s 0 n hn
  have hadv : ∀ w, Calls Tryd.prog 22 #[.agg #[.int .i64 0, .int .i64 1, .int .i64 1], .string (s.extract 0 n)] w fun e w' => e = .returned (.agg #[.int .i64 (aAt 0 (s.extract 0 n)), .int .i64 (aLine 1 (s.extract 0 n)), .int .i64 (aCol 1 (s.extract 0 n))]) ∧ Below w.heap.size w w' := fun w => adv_lit 0 1 1 _ w (by omega) (by omega)
  obtain ⟨a, ha⟩ : ∃ a, aAt 0 (s.extract 0 n) = a := ⟨_, rfl⟩
  obtain ⟨l, hl⟩ : ∃ a, aLine 1 (s.extract 0 n) = a := ⟨_, rfl⟩
  obtain ⟨c, hc⟩ : ∃ a, aCol 1 (s.extract 0 n) = a := ⟨_, rfl⟩
  simp only [ha, hl, hc] at hadv ⊢
  clear ha hl hc hz
  have h1 : ¬ ((n : Int) < 0) := by omega
  have h2 : ¬ ((s.size : Int) < (n : Int)) := by omega
  have hb0 := Box3.new w 0 0 0
  go_enter Tryd.func11, Tryd.ntmps11
  go_wp2
  go_region_with (first | (go_at_call 23; refine (start_any _).mono ?_; rintro e w1 ⟨rfl, hb1⟩; have hb3 := hb0.drew.below hb1) | (go_at_call 22; refine (hadv _).mono ?_; rintro e w2 ⟨rfl, hb2⟩; have hb4 := hb3.below hb2; have g0 := hb4.cell0; have g1 := hb4.cell1; have g2 := hb4.cell2; have f0 := hb4.frozen 0; have f1 := hb4.frozen 1; have f2 := hb4.frozen 2))
  all_goals go_wp2
  all_goals
    have hb5 := ((hb4.set0 a).set1 l).set2 c
    have m0 := hb5.cell0
    have m1 := hb5.cell1
    have m2 := hb5.cell2
    refine bodyPost_ret (v := .tuple #[.agg #[.int .i64 a, .int .i64 l, .int .i64 c], .int .i64 0]) (by simp [results, Tryd.f11, go_sem, m0, m1, m2]) rfl ?_
    refine ⟨rfl, ?_⟩
    have h0 : Below w.heap.size w (w.alloc (Obj.cells #[.int .i64 0, .int .i64 0, .int .i64 0] 24)) := (Below.refl _ _).alloc (Nat.le_refl _) _
    have h3 := (h0.drew.trans (hb1.mono h0.size)).trans (hb2.mono (Nat.le_trans h0.size hb1.size))
    exact ((h3.setCell (p := ⟨w.heap.size, 0, none⟩) (Nat.le_refl _) _).setCell (p := ⟨w.heap.size, 1, none⟩) (Nat.le_refl _) _).setCell (p := ⟨w.heap.size, 2, none⟩) (Nat.le_refl _) _

end Go.Proofs.YtfkegaencoodbaaDoor
