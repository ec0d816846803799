import Derived.Test.YtcokccfbeonlnaaDoorVi
set_option linter.unusedVariables false
set_option linter.unusedSimpArgs false
namespace Go.Proofs.YtcokccfbeonlnaaDoor
open Go.RowKit

theorem dr1 {B g N : Nat} {W V : World} {p : Pr} (h : Pg B V g N p ∧ Below B W V) : Pg B V.drew g N p ∧ Below B W V.drew := ⟨h.1.below (Below.refl _ _).drew, h.2.drew⟩
set_option maxHeartbeats 1000000 in
theorem prn_end {B g N : Nat} {W : World} {p : Pr} (h : Pg B W g N p) (hB : B ≤ W.heap.size) (b : Bk) (r : List Bk) (har : p.ar = b :: r) (hl : p.ar.length ≤ 100000000) (wide : Int) (need : Nat) :
    Calls Tryd.prog 28 #[.pointer (some ⟨g, 0, none⟩), .agg #[.int .u8 7, .string bE, .int .i64 0, .int .i64 0, .bool false], .int .i64 wide] W fun e w' => e = .returned (.tuple #[]) ∧ Pg B w' g N (put N ⟨7, bE, 0, 0, false⟩ need p) ∧ Below B W w' := by
  have e : put N ⟨7, bE, 0, 0, false⟩ need p = { p with bl := b, ar := r } := by simp [put, har]
  rw [e]
  obtain ⟨vo, vb, sm, em, h⟩ := h
  obtain ⟨q, c, rfl, h1, h2, _⟩ := rtop h.pbs
  obtain ⟨Lr, hL⟩ : ∃ Lr, r.length + 1 = Lr := ⟨_, rfl⟩
  have hLL : p.ar.length + 1 = Lr + 1 := by rw [har, List.length_cons, hL]
  have hrow : W.ownsRow B 98 3 (.slice (some ⟨q, 0, none⟩) (Lr + 1) c) (Lr + 1) (pbs (r.reverse ++ [b]) ++ pbs [p.bl]) := by
    have := h.pbs
    rw [hLL, har, List.reverse_cons, bks_app] at this
    exact this
  have hpop : W.ownsRow B 98 3 (.slice (some ⟨q, 0, none⟩) Lr c) Lr (pbs (r.reverse ++ [b])) := ownsRow_pop (by rw [bks_len, ← hL]; simp) hrow
  have hb1 : ∀ o, Below W.heap.size W (W.alloc o) := fun o => (Below.refl _ _).alloc (Nat.le_refl _) _
  rw [hLL] at h1
  have h7 : ∀ o, (W.alloc o).cell? ⟨g, 7, none⟩ = some (.slice (some ⟨q, 0, none⟩) (Lr + 1) c) := fun o => by
    have := (h.below (hb1 o)).cells.2.2.2.2.2.2.2
    rw [hLL] at this; exact this
  have f7 : ∀ o, (W.alloc o).frozen? ⟨g, 7, none⟩ = false := fun o => blk_frozen (h.below (hb1 o)).blk
  have d7 := h7 (.cells #[.int .u8 7, .string bE, .int .i64 0, .int .i64 0, .bool false] 26)
  have u7 := f7 (.cells #[.int .u8 7, .string bE, .int .i64 0, .int .i64 0, .bool false] 26)
  have HFIN : Hid (∀ o V, Below (W.alloc o).heap.size (W.alloc o) V → Pg B (V.setCell ⟨g, 7, none⟩ (.slice (some ⟨q, 0, none⟩) Lr c)) g N { p with bl := b, ar := r } ∧ Below B W (V.setCell ⟨g, 7, none⟩ (.slice (some ⟨q, 0, none⟩) Lr c))) := by
    intro o V hV
    have hbV : Below W.heap.size W V := (hb1 o).trans (hV.mono (hb1 o).size)
    have hv := h.below hbV
    have hk := Kp.set V g 7 (.slice (some ⟨q, 0, none⟩) Lr c)
    have hsB : B ≤ V.heap.size := Nat.le_trans hB hbV.size
    refine ⟨⟨vo, .slice (some ⟨q, 0, none⟩) Lr c, sm, em, blk_set hv.blk 7 _, row_kp hv.out hk hv.blk (by decide), ?_, h.en, h.som, h.wt, h.gB⟩, (hbV.mono hB).trans (kp_below hk h.gB hsB)⟩
    show World.ownsRow _ B 98 3 _ (r.length + 1) (pbs (r.reverse ++ [b]))
    rw [hL]
    exact row_kp (row_kept hpop hbV) hk hv.blk (by decide)
  have hLb : Lr ≤ 100000001 := by rw [har, List.length_cons] at hl; omega
  have q3 : (Lr : Int) ≤ c := by omega
  have q4 : (0 : Int) ≤ Lr := by omega
  have w1 : IntKind.i64.wrap ((Lr : Int) + 1 - 1) = Lr := by rw [IntKind.wrap_i64]; omega
  have w2 : IntKind.i64.wrap (Lr : Int) = Lr := by rw [IntKind.wrap_i64]; omega
  have q5 : Lr ≤ c := by omega
  have q6 : (c : Int) ≤ 9223372036854775807 := by omega
  have q7 : ¬ (c : Int) < Lr := by omega
  have q8 : ¬ c < Lr := by omega
  clear h e hb1 h7 f7 hrow hpop hLL hL har hl
  go_enter Tryd.func28, Tryd.ntmps28
  go_wp2_with fail
  go_region_with (fail)
  all_goals
    go_wp2_with fail
    go_end0
    refine ⟨rfl, ?_⟩
    first
      | exact HFIN.out _ _ (by first | exact (Below.refl _ _).drew | exact Below.refl _ _ | exact (Below.refl _ _).drew.drew | exact (Below.refl _ _).drew.drew.drew)
      | exact dr1 (HFIN.out _ _ (by first | exact (Below.refl _ _).drew | exact Below.refl _ _ | exact (Below.refl _ _).drew.drew | exact (Below.refl _ _).drew.drew.drew))
      | exact dr1 (dr1 (HFIN.out _ _ (by first | exact (Below.refl _ _).drew | exact Below.refl _ _ | exact (Below.refl _ _).drew.drew | exact (Below.refl _ _).drew.drew.drew)))
end Go.Proofs.YtcokccfbeonlnaaDoor
