import Derived.Test.YtpobcbailpjaeaaPh
import Derived.Deep.RegionHeld3
set_option linter.unusedVariables false
set_option linter.unusedSimpArgs false
namespace Go.Proofs.Ytpobcbailpjaeaa
open Go.RowKit Go.Shelf

theorem cell_up {W w1 : World} {p : Addr} {v : Value} (h : W.cell? p = some v) (hb : Below W.heap.size W w1) : w1.cell? p = some v :=
  (hb.cell (p := p) (World.block_lt_of_cell? W _ h)).trans h

theorem keep9 {w W w1 : World} {x y z : Nat} {a1 a2 a3 b1 b2 b3 c1 c2 c3 : Value}
    (h : W.cell? ⟨x, 0, none⟩ = some a1 ∧ W.cell? ⟨x, 1, none⟩ = some a2 ∧ W.cell? ⟨x, 2, none⟩ = some a3 ∧ W.cell? ⟨y, 0, none⟩ = some b1 ∧ W.cell? ⟨y, 1, none⟩ = some b2 ∧ W.cell? ⟨y, 2, none⟩ = some b3 ∧ W.cell? ⟨z, 0, none⟩ = some c1 ∧ W.cell? ⟨z, 1, none⟩ = some c2 ∧ W.cell? ⟨z, 2, none⟩ = some c3 ∧ Below w.heap.size w W)
    (hb : Below W.heap.size W w1) :
    w1.cell? ⟨x, 0, none⟩ = some a1 ∧ w1.cell? ⟨x, 1, none⟩ = some a2 ∧ w1.cell? ⟨x, 2, none⟩ = some a3 ∧ w1.cell? ⟨y, 0, none⟩ = some b1 ∧ w1.cell? ⟨y, 1, none⟩ = some b2 ∧ w1.cell? ⟨y, 2, none⟩ = some b3 ∧ w1.cell? ⟨z, 0, none⟩ = some c1 ∧ w1.cell? ⟨z, 1, none⟩ = some c2 ∧ w1.cell? ⟨z, 2, none⟩ = some c3 ∧ Below w.heap.size w w1 := by
  obtain ⟨h1, h2, h3, h4, h5, h6, h7, h8, h9, h10⟩ := h
  exact ⟨cell_up h1 hb, cell_up h2 hb, cell_up h3 hb, cell_up h4 hb, cell_up h5 hb, cell_up h6 hb, cell_up h7 hb, cell_up h8 hb, cell_up h9 hb, h10.trans (hb.mono h10.size)⟩

set_option maxRecDepth 100000 in
set_option maxHeartbeats 2000000 in
theorem exact_core (pa pl pc : Int) (s LS : ByteArray) (at' n A L C a l c e : Int) (LB : Bool) (w : World) (hs : s.size ≤ 2147483647)
    (k1 : ∀ w, Calls Try.prog 7 #[.string s, .int .i64 at'] w fun x w' => x = .returned (.tuple #[.agg #[.int .i64 a, .int .i64 l, .int .i64 c], .int .i64 e]) ∧ Below w.heap.size w w')
    (k2 : ∀ w, Calls Try.prog 8 #[.string s, .int .i64 at'] w fun x w' => x = .returned (.tuple #[.agg #[.int .i64 a, .int .i64 l, .int .i64 c], .int .i64 e]) ∧ Below w.heap.size w w')
    (k3 : ∀ w, Calls Try.prog 9 #[.string s, .int .i64 n] w fun x w' => x = .returned (.tuple #[.string LS, .bool LB]) ∧ Below w.heap.size w w')
    (k4 : ∀ w, Calls Try.prog 10 #[.string s, .int .i64 n] w fun x w' => x = .returned (.tuple #[.string LS, .bool LB]) ∧ Below w.heap.size w w')
    (k5 : ∀ w, Calls Try.prog 11 #[.agg #[.int .i64 pa, .int .i64 pl, .int .i64 pc], .string s] w fun x w' => x = .returned (.agg #[.int .i64 A, .int .i64 L, .int .i64 C]) ∧ Below w.heap.size w w')
    (k6 : ∀ w, Calls Try.prog 12 #[.agg #[.int .i64 pa, .int .i64 pl, .int .i64 pc], .string s] w fun x w' => x = .returned (.agg #[.int .i64 A, .int .i64 L, .int .i64 C]) ∧ Below w.heap.size w w') :
    Calls Try.prog 3 #[.agg #[.int .i64 pa, .int .i64 pl, .int .i64 pc], .string s, .int .i64 at', .int .i64 n] w fun x w' => x = .returned (.bool true) ∧ Below w.heap.size w w' := by
  have K1 : Hid _ := k1
  have K2 : Hid _ := k2
  have K3 : Hid _ := k3
  have K4 : Hid _ := k4
  have K5 : Hid _ := k5
  have K6 : Hid _ := k6
  clear k1 k2 k3 k4 k5 k6
  have h1 : ¬ ((2147483647 : Int) < (s.size : Int)) := by omega
  have b0 := Box3.new w pa pl pc
  have h0 : Below w.heap.size w (w.alloc (.cells #[.int .i64 pa, .int .i64 pl, .int .i64 pc] 23)) := (Below.refl _ _).alloc (Nat.le_refl _) _
  go_enter Try.func3, Try.ntmps3
  go_wp2_with fail
  refine (K1.out _).mono ?_
  rintro x w1 ⟨rfl, hb1⟩
  have b1 := b0.below hb1
  have h1' := h0.trans (hb1.mono h0.size)
  clear b0 hb1 h0
  have b2 := b1.alloc (.cells #[.int .i64 a, .int .i64 l, .int .i64 c] 23)
  have c2 := Box3.new w1 a l c
  have h2 := h1'.alloc h1'.size (.cells #[.int .i64 a, .int .i64 l, .int .i64 c] 23)
  go_wp2_with fail
  refine (K2.out _).mono ?_
  rintro x w2 ⟨rfl, hb2⟩
  have b3 := b2.below hb2
  have c3 := c2.below hb2
  have h3 := h2.trans (hb2.mono h2.size)
  clear b1 b2 c2 hb2 h2 h1'
  have b4 := b3.alloc (.cells #[.int .i64 a, .int .i64 l, .int .i64 c] 23)
  have c4 := c3.alloc (.cells #[.int .i64 a, .int .i64 l, .int .i64 c] 23)
  have d4 := Box3.new w2 a l c
  have h4 := h3.alloc h3.size (.cells #[.int .i64 a, .int .i64 l, .int .i64 c] 23)
  clear b3 c3 h3
  go_wp2_with fail
  refine (K3.out _).mono ?_
  rintro x w3 ⟨rfl, hb3⟩
  have b5 := b4.below hb3
  have c5 := c4.below hb3
  have d5 := d4.below hb3
  have h5 := h4.trans (hb3.mono h4.size)
  clear b4 c4 d4 h4 hb3
  go_wp2_with fail
  refine (K4.out _).mono ?_
  rintro x w4 ⟨rfl, hb4⟩
  have b6 := b5.below hb4
  have c6 := c5.below hb4
  have d6 := d5.below hb4
  have h6 := h5.trans (hb4.mono h5.size)
  clear b5 c5 d5 h5 hb4
  obtain ⟨y, hy⟩ : ∃ y, w1.heap.size = y := ⟨_, rfl⟩
  obtain ⟨z, hz⟩ : ∃ z, w2.heap.size = z := ⟨_, rfl⟩
  rw [hy] at c6
  rw [hz] at d6
  rw [hy, hz]
  clear hy hz
  have HS : Hid (w4.cell? ⟨w.heap.size, 0, none⟩ = some (.int .i64 pa) ∧ w4.cell? ⟨w.heap.size, 1, none⟩ = some (.int .i64 pl) ∧ w4.cell? ⟨w.heap.size, 2, none⟩ = some (.int .i64 pc) ∧ w4.cell? ⟨y, 0, none⟩ = some (.int .i64 a) ∧ w4.cell? ⟨y, 1, none⟩ = some (.int .i64 l) ∧ w4.cell? ⟨y, 2, none⟩ = some (.int .i64 c) ∧ w4.cell? ⟨z, 0, none⟩ = some (.int .i64 a) ∧ w4.cell? ⟨z, 1, none⟩ = some (.int .i64 l) ∧ w4.cell? ⟨z, 2, none⟩ = some (.int .i64 c) ∧ Below w.heap.size w w4.drew) :=
    ⟨b6.cell0, b6.cell1, b6.cell2, c6.cell0, c6.cell1, c6.cell2, d6.cell0, d6.cell1, d6.cell2, h6.drew⟩
  clear b6 c6 d6 h6
  have e1 : (A == A) = true := by simp
  have e2 : (L == L) = true := by simp
  have e3 : (C == C) = true := by simp
  have e4 : (a == a) = true := by simp
  have e5 : (l == l) = true := by simp
  have e6 : (c == c) = true := by simp
  have e7 : (e == e) = true := by simp
  have e8 : (LB == LB) = true := by simp
  go_wp2_with fail
  go_region_held3 (fun w' => w'.cell? ⟨w.heap.size, 0, none⟩ = some (.int .i64 pa) ∧ w'.cell? ⟨w.heap.size, 1, none⟩ = some (.int .i64 pl) ∧ w'.cell? ⟨w.heap.size, 2, none⟩ = some (.int .i64 pc) ∧ w'.cell? ⟨y, 0, none⟩ = some (.int .i64 a) ∧ w'.cell? ⟨y, 1, none⟩ = some (.int .i64 l) ∧ w'.cell? ⟨y, 2, none⟩ = some (.int .i64 c) ∧ w'.cell? ⟨z, 0, none⟩ = some (.int .i64 a) ∧ w'.cell? ⟨z, 1, none⟩ = some (.int .i64 l) ∧ w'.cell? ⟨z, 2, none⟩ = some (.int .i64 c) ∧ Below w.heap.size w w')
    (first | (exact keep9 (by assumption) (by assumption)) | (exact HS.out) | go_keep)
    (first | (go_at_call 11; refine (K5.out _).mono ?_; rintro e w5 ⟨rfl, hb5⟩) | (go_at_call 12; refine (K6.out _).mono ?_; rintro e w5 ⟨rfl, hb5⟩) | (go_at_call 13; refine (awake_any _).mono ?_; rintro e w5 ⟨rfl, hb5⟩))
  all_goals
    rename_i hheld
    have hfin := hheld.2.2.2.2.2.2.2.2.2
    go_wp2_with fail
    go_ret
    exact ⟨rfl, hfin⟩

set_option maxHeartbeats 1000000 in
theorem exact_big (pa pl pc : Int) (s : ByteArray) (at' n : Int) (w : World) (hs : 2147483647 < s.size) (hm : s.size ≤ maxLen) :
    Calls Try.prog 3 #[.agg #[.int .i64 pa, .int .i64 pl, .int .i64 pc], .string s, .int .i64 at', .int .i64 n] w fun x w' => x = .returned (.bool true) ∧ Below w.heap.size w w' := by
  unfold maxLen at hm
  have h1 : ((2147483647 : Int) < (s.size : Int)) := by omega
  go_enter Try.func3, Try.ntmps3
  go_wp2_with fail
  go_ret
  exact ⟨rfl, (Below.refl _ _).alloc (Nat.le_refl _) _⟩

theorem exact_any (pa pl pc : Int) (s : ByteArray) (at' n : Int) (w : World) (hm : s.size ≤ maxLen) (hl : -9223372036854775808 ≤ pl ∧ pl ≤ 9223372036854775807) :
    Calls Try.prog 3 #[.agg #[.int .i64 pa, .int .i64 pl, .int .i64 pc], .string s, .int .i64 at', .int .i64 n] w fun x w' => x = .returned (.bool true) ∧ Below w.heap.size w w' := by
  by_cases hs : 2147483647 < s.size
  · exact exact_big pa pl pc s at' n w hs hm
  · have hs' : s.size ≤ 2147483647 := by omega
    have kl : ∀ w, Calls Try.prog 10 #[.string s, .int .i64 n] w fun x w' => x = .returned (.tuple #[.string (lineS s n), .bool (lineB s n)]) ∧ Below w.heap.size w w' := fun w => (rline_any s n w hs').mono (fun e w' h => ⟨h.1, by rw [h.2]; exact Below.refl _ _⟩)
    by_cases hat : at' < 0 ∨ (s.size : Int) < at'
    · exact exact_core pa pl pc s _ at' n _ _ _ _ _ _ _ _ w hs' (fun w => of_out s at' w hat) (fun w => rof_out s at' w hat) (fun w => line_any s n w hs') kl (fun w => adv_lit pa pl pc s w hs' hl) (fun w => radv_any pa pl pc s w hs' hl)
    · obtain ⟨k, rfl⟩ := Int.eq_ofNat_of_zero_le (show 0 ≤ at' by omega)
      exact exact_core pa pl pc s _ k n _ _ _ _ _ _ _ _ w hs' (fun w => of_in s k w hs' (by omega)) (fun w => rof_in s k w hs' (by omega)) (fun w => line_any s n w hs') kl (fun w => adv_lit pa pl pc s w hs' hl) (fun w => radv_any pa pl pc s w hs' hl)

end Go.Proofs.Ytpobcbailpjaeaa
