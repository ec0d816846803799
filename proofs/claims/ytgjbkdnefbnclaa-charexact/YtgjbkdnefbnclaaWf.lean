import Derived.Test.YtgjbkdnefbnclaaWd
import Derived.Test.YtgjbkdnefbnclaaWe
import Derived.Deep.QuietTactic
import Derived.BigQuiet
set_option linter.unusedVariables false
set_option linter.unusedSimpArgs false
namespace Go.Proofs.Ytgjbkdnefbnclaa
open Go.RowKit

/-- The numbers of a slice. -/
def Row (w : World) (ao : Option Addr) (n : Nat) (zs : List Int) : Prop :=
  zs.length = n ∧ ∀ j, j < n → ∃ b off, ao = some ⟨b, off, none⟩ ∧ w.cell? ⟨b, off + j, none⟩ = some (.int .i64 (zs.getD j 0))

theorem Row.below {w w' : World} {ao : Option Addr} {n : Nat} {zs : List Int} (h : Row w ao n zs) (hb : Below w.heap.size w w') : Row w' ao n zs := by
  refine ⟨h.1, fun j hj => ?_⟩
  obtain ⟨b, off, h1, h2⟩ := h.2 j hj
  exact ⟨b, off, h1, (hb.cell (p := ⟨b, off + j, none⟩) (World.block_lt_of_cell? w _ h2)).trans h2⟩

theorem Row.at {w : World} {b off n : Nat} {zs : List Int} (h : Row w (some ⟨b, off, none⟩) n zs) (j : Nat) (hj : j < n) : w.cell? ⟨b, off + j, none⟩ = some (.int .i64 (zs.getD j 0)) := by
  obtain ⟨b', off', h1, h2⟩ := h.2 j hj
  cases h1
  exact h2

theorem take_eq_step (xs ys : List Int) (k : Nat) (hx : k < xs.length) (hy : k < ys.length) (h : xs.take k = ys.take k) (e : xs.getD k 0 = ys.getD k 0) : xs.take (k + 1) = ys.take (k + 1) := by
  rw [take_getD xs k hx, take_getD ys k hy, h, e]

set_option maxHeartbeats 400000 in
theorem same_len (ao bo : Option Addr) (n m c d : Nat) (w : World) (hn : n ≤ 2147483647) (hm : m ≤ 2147483647) (hne : n ≠ m) :
    Calls Try.prog 10 #[.slice ao n c, .slice bo m d] w fun e w' => e = .returned (.bool false) ∧ Below w.heap.size w w' := by
  have h1 : ((n : Int) != (m : Int)) = true := by simp; omega
  go_enter Try.func10, Try.ntmps10
  go_wp2
  go_ret
  exact ⟨rfl, Below.refl _ _⟩

set_option maxHeartbeats 400000 in
theorem same_zero (ao bo : Option Addr) (c d : Nat) (w : World) :
    Calls Try.prog 10 #[.slice ao 0 c, .slice bo 0 d] w fun e w' => e = .returned (.bool true) ∧ Below w.heap.size w w' := by
  go_enter Try.func10, Try.ntmps10
  go_wp2
  refine wp_loop_rounds 1 ?_
  rw [rounds_succ]
  go_wp2
  go_ret
  exact ⟨rfl, Below.refl _ _⟩

set_option maxHeartbeats 400000 in
theorem same_some (b off b2 off2 n c d : Nat) (xs ys : List Int) (w : World) (hn : n ≤ 2147483647) (h0 : 0 < n) (hx : Row w (some ⟨b, off, none⟩) n xs) (hy : Row w (some ⟨b2, off2, none⟩) n ys) :
    Calls Try.prog 10 #[.slice (some ⟨b, off, none⟩) n c, .slice (some ⟨b2, off2, none⟩) n d] w fun e w' => e = .returned (.bool (decide (xs = ys))) ∧ Below w.heap.size w w' := by
  have h1 : ((n : Int) != (n : Int)) = false := by simp
  have HX := hx
  have HY := hy
  go_enter Try.func10, Try.ntmps10
  go_wp2
  go_loopw [5] (fun i wr => ∃ k : Nat, k ≤ n ∧ i = .int .i64 k ∧ xs.take k = ys.take k ∧ Below w.heap.size w wr) (fun i _ => n - (intOf i).toNat)
  case atStart => exact ⟨0, Nat.zero_le _, rfl, rfl, Below.refl _ _⟩
  case round =>
    obtain ⟨k, hk, rfl, ht, hbel⟩ := hrel
    have HT : Hid (xs.take k = ys.take k) := ht
    clear ht
    by_cases hlt : k < n
    · have g1 := (hx.below hbel).at k hlt
      have g2 := (hy.below hbel).at k hlt
      have i1 : (0 : Int) ≤ (k : Int) := by omega
      have i2 : (k : Int) < (n : Int) := by omega
      generalize hz1 : xs.getD k 0 = x at g1
      generalize hz2 : ys.getD k 0 = y at g2
      have HZ1 : Hid (xs.getD k 0 = x) := hz1
      have HZ2 : Hid (ys.getD k 0 = y) := hz2
      clear hz1 hz2
      by_cases he : x = y
      · have he2 : (x != y) = false := by simp [he]
        have HE : Hid (x = y) := he
        clear he
        go_wp2
        go_quiet (fail)
        go_wp2
        go_roundw
        case rel => exact ⟨k + 1, hlt, by go_num, take_eq_step xs ys k (by rw [HX.1]; exact hlt) (by rw [HY.1]; exact hlt) HT.out (by rw [HZ1.out, HZ2.out, HE.out]), below_drewN hbel _⟩
        case measure => simp [intOf]; omega
      · have he2 : (x != y) = true := by simp [he]
        have HE : Hid (x ≠ y) := he
        clear he
        go_wp2
        go_quiet (fail)
        go_wp2
        go_ret
        have hf : decide (xs = ys) = false := by
          rw [decide_eq_false_iff_not]
          intro h
          apply HE.out
          rw [← HZ1.out, ← HZ2.out, h]
        exact ⟨by rw [hf]; rfl, below_drewN hbel _⟩
    · go_wp2
      go_ret
      have hf : decide (xs = ys) = true := by
        rw [decide_eq_true_iff]
        have h := HT.out
        rw [List.take_of_length_le (by rw [HX.1]; omega), List.take_of_length_le (by rw [HY.1]; omega)] at h
        exact h
      exact ⟨by rw [hf]; rfl, hbel⟩

theorem same_any (ao bo : Option Addr) (n m c d : Nat) (xs ys : List Int) (w : World) (hn : n ≤ 2147483647) (hm : m ≤ 2147483647) (hx : Row w ao n xs) (hy : Row w bo m ys) :
    Calls Try.prog 10 #[.slice ao n c, .slice bo m d] w fun e w' => e = .returned (.bool (decide (xs = ys))) ∧ Below w.heap.size w w' := by
  by_cases hne : n = m
  · subst hne
    by_cases h0 : n = 0
    · subst h0
      have e : decide (xs = ys) = true := by
        rw [decide_eq_true_iff, List.eq_nil_of_length_eq_zero hx.1, List.eq_nil_of_length_eq_zero hy.1]
      rw [e]
      exact same_zero ao bo c d w
    · obtain ⟨b, off, rfl, _⟩ := hx.2 0 (by omega)
      obtain ⟨b2, off2, rfl, _⟩ := hy.2 0 (by omega)
      exact same_some b off b2 off2 n c d xs ys w hn (by omega) hx hy
  · have e : decide (xs = ys) = false := by
      rw [decide_eq_false_iff_not]
      intro h
      apply hne
      rw [← hx.1, ← hy.1, h]
    rw [e]
    exact same_len ao bo n m c d w hn hm hne

/-- What is owned stays owned where nothing old turns. -/
theorem own_below {w w' : World} {base e size n : Nat} {v : Value} {xs : List Value} (h : w.ownsRow base e size v n xs) (hb : Below w.heap.size w w') : w'.ownsRow base e size v n xs := by
  obtain ⟨h1, h2⟩ := h
  refine ⟨h1, ?_⟩
  rcases h2 with h2 | ⟨g, cap, cur, a, b, c, d⟩
  · exact .inl h2
  · exact .inr ⟨g, cap, cur, a, b, by rw [hb.block g (Array.getElem?_eq_some_iff.1 c).1]; exact c, d⟩

theorem own_row {w : World} {base n g cap : Nat} {zs : List Int} (h : w.ownsRow base 3 1 (.slice (some ⟨g, 0, none⟩) n cap) n (zs.map (Value.int .i64))) : Row w (some ⟨g, 0, none⟩) n zs := by
  have hl : zs.length = n := by have := h.1; simpa using this
  refine ⟨hl, fun j hj => ⟨g, 0, rfl, ?_⟩⟩
  have := h.cells (g := g) rfl j (.int .i64 (zs.getD j 0)) (by
    rw [List.getElem?_map, List.getElem?_eq_getElem (by omega)]; simp [List.getD, List.getElem?_eq_getElem (show j < zs.length by omega)])
  rw [Addr.add_lit] at this
  exact this

theorem ivs_eq (l : List Nat) : ivs l = (l.map (fun i : Nat => (i : Int))).map (Value.int .i64) := by simp [ivs]

end Go.Proofs.Ytgjbkdnefbnclaa
