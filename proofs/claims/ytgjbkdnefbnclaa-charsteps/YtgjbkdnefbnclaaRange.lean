import Derived.Test.YtgjbkdnefbnclaaWg
set_option linter.unusedVariables false
set_option linter.unusedSimpArgs false
namespace Go.Proofs.Ytgjbkdnefbnclaa
open Go.RowKit

theorem own_at {w : World} {base n g cap : Nat} {l : List Nat} (h : w.ownsRow base 3 1 (.slice (some ⟨g, 0, none⟩) n cap) n (ivs l)) (k x : Nat) (hk : l[k]? = some x) : w.cell? ⟨g, k, none⟩ = some (.int .i64 x) := by
  have := h.cells (g := g) rfl k (.int .i64 x) (by simp [ivs, hk])
  rw [Addr.add_lit] at this
  simpa using this

/-- What a place's neighbour is. -/
theorem pl_next (s : ByteArray) (pos : Nat) (h : pos < s.size) : (pos + dw s pos < s.size ∧ (pl s (pos + dw s pos))[0]? = some (pos + dw s pos)) ∨ (pos + dw s pos = s.size ∧ pl s (pos + dw s pos) = []) := by
  have hw := dw_facts s pos h
  by_cases hq : pos + dw s pos < s.size
  · exact .inl ⟨hq, by rw [pl_lt s _ hq]; rfl⟩
  · exact .inr ⟨by omega, pl_ge s _ (by omega)⟩

theorem gd_cases (s : ByteArray) (i : Nat) : (dp s i ≠ 65533 ∧ gd s i = true) ∨ (dp s i = 65533 ∧ dw s i ≤ 1 ∧ gd s i = false) ∨ (dp s i = 65533 ∧ 1 < dw s i ∧ gd s i = true) := by
  by_cases h : dp s i = 65533
  · by_cases h2 : 1 < dw s i
    · exact .inr (.inr ⟨h, h2, by unfold gd gdb; simp; omega⟩)
    · exact .inr (.inl ⟨h, by omega, by unfold gd gdb; simp [h]; omega⟩)
  · exact .inl ⟨h, by unfold gd gdb; simp; omega⟩

set_option maxHeartbeats 400000 in
theorem range_big (s : ByteArray) (w : World) (hs : s.size ≤ maxLen) (h : 2147483647 < s.size) :
    Calls Try.prog 4 #[.string s] w fun e w' => e = .returned (.bool true) ∧ Below w.heap.size w w' := by
  unfold maxLen at hs
  go_enter Try.func4, Try.ntmps4
  go_wp2_with fail
  go_ret
  exact ⟨rfl, Below.refl _ _⟩

set_option maxRecDepth 100000 in
set_option maxHeartbeats 1000000 in
theorem range_any (s : ByteArray) (w : World) (hs : s.size ≤ 2147483647) :
    Calls Try.prog 4 #[.string s] w fun e w' => e = .returned (.bool true) ∧ Below w.heap.size w w' := by
  have hP := P_len s
  have hd0 : decide (2147483647 < (s.size : Int)) = false := by simp; omega
  go_enter Try.func4, Try.ntmps4
  go_wp2_with fail
  refine (places_any s _ hs).mono ?_
  rintro e w1 ⟨rfl, ho1, hb1⟩
  go_wp2_with fail
  refine (points_any s _ hs).mono ?_
  rintro e w2 ⟨rfl, ho2, hb2⟩
  have ho1' := own_below ho1 hb2
  have hz1 := hb1.size
  have hz2 := hb2.size
  have hbel : Below w.heap.size w w2 := hb1.trans (hb2.mono hz1)
  clear ho1 hb1 hb2
  generalize w.heap.size + 1 = g1 at *
  generalize w1.heap.size + 1 = g2 at *
  go_wp2_with fail
  go_loopw [5] (fun i wr => ∃ (pos : Nat) (pre : List Nat), i = .int .i64 pre.length ∧ wr.heap[w2.heap.size]? = some (.stringIter s pos) ∧ pre ++ pl s pos = P s ∧ Below w2.heap.size w2 wr)
    (fun _ wr => s.size - wr.iterPos w2.heap.size)
  case atStart => exact ⟨0, [], rfl, World.iter_heap _ _ _, rfl, below_iter _ _ _⟩
  case round =>
    obtain ⟨pos, pre, rfl, hit, hpre, hb⟩ := hrel
    by_cases hp : pos < s.size
    · have hw := dw_facts s pos hp
      have hd := dp_le s pos
      have hk : (P s)[pre.length]? = some pos := by rw [← hpre, pl_lt s pos hp]; simp
      have hlen : pre.length + 1 + (pl s (pos + dw s pos)).length = (P s).length := by rw [← hpre, pl_lt s pos hp]; simp; omega
      have HI : Hid (wr.heap[w2.heap.size]? = some (.stringIter s pos)) := hit
      have hb2 := Lib.below_iterAt hb (Nat.le_refl _) s (pos + dw s pos)
      have HI2 : Hid _ := Lib.iterAt_heap wr w2.heap.size s pos (pos + dw s pos) hit
      have hsz := Lib.iterAt_size wr w2.heap.size s (pos + dw s pos)
      have hnx : ∀ ty, (Instr.next (.pointer (some ⟨w2.heap.size, 0, none⟩)) true ty).run Try.prog wr = .ok (.tuple #[.bool true, .int .i64 pos, .int .i32 (dp s pos)]) (wr.iterAt w2.heap.size s (pos + dw s pos)) := fun ty => Lib.run_next_any_at wr w2.heap.size s pos ty hit hp
      have c1 := own_at (own_below ho1' hb2) _ _ hk
      have c2 := own_at (own_below ho2 hb2) pre.length (dp s pos) (by rw [List.getElem?_map, hk]; rfl)
      have hnext := fun w => next_in s pos w (by unfold maxLen; omega) (by omega) (by omega)
      rw [Int.toNat_natCast] at hnext
      have HN : Hid _ := hnext
      have HP : Hid ((pre ++ [pos]) ++ pl s (pos + dw s pos) = P s) := by show _ = _; rw [← hpre, pl_lt s pos hp]; simp
      have c3 : pos + dw s pos < s.size → (P s)[pre.length + 1]? = some (pos + dw s pos) := by
        intro hq
        rw [← HP.out, pl_lt s _ hq]; simp
      have hl2 : (pos + dw s pos < s.size ∧ pre.length + 1 < (P s).length) ∨ (pos + dw s pos = s.size ∧ pre.length + 1 = (P s).length) := by
        rcases pl_next s pos hp with ⟨h1, h2⟩ | ⟨h1, h2⟩
        · refine .inl ⟨h1, ?_⟩
          have h3 := pl_lt s _ h1
          rw [h3] at hlen
          simp at hlen; omega
        · rw [h2] at hlen
          exact .inr ⟨h1, by simpa using hlen⟩
      have hg := gd_cases s pos
      have O1 : Hid _ := ho1'
      clear hit hnext hk ho1' ho2 hpre hlen hbel
      generalize dp s pos = p at *
      generalize hd' : dw s pos = d at *
      generalize gd s pos = g at *
      have HD : Hid (dw s pos = d) := hd'
      clear hd'
      have e1 : ((pos : Int) != (pos : Int)) = false := by simp
      have e2 : ((p : Int) != (p : Int)) = false := by simp
      go_wp2_with fail
      refine (HN.out _).mono ?_
      rintro e w4 ⟨rfl, hb4⟩
      have hw24 : w2.heap.size ≤ (wr.iterAt w2.heap.size s (pos + d)).heap.size := Nat.le_trans hb.size (Nat.le_of_eq hsz.symm)
      have hb5 : Below w2.heap.size w2 w4 := hb2.trans (hb4.mono hw24)
      have HI4 : Hid (w4.heap[w2.heap.size]? = some (.stringIter s (pos + d))) := by
        show _ = _
        rw [hb4.block w2.heap.size (Nat.lt_of_lt_of_le (Array.getElem?_eq_some_iff.1 HI.out).1 (Nat.le_of_eq hsz.symm))]
        exact HI2.out
      have c4 : pos + d < s.size → w4.cell? ⟨g1, pre.length + 1, none⟩ = some (.int .i64 ((pos + d : Nat) : Int)) := fun hq => own_at (own_below O1.out hb5) _ _ (c3 hq)
      have e3 : ((d : Int) != (pos : Int) + d - pos) = false := by simp; omega
      have e4 : ((d : Int) != (s.size : Int) - pos) = (decide (pos + d ≠ s.size)) := by by_cases hq : pos + d = s.size <;> simp [hq] <;> omega
      clear hb4 hb2 c1 c2 hsz hw24 hnx c3 HN HI2 O1
      have R : (∃ pos_1 pre_1, Value.int IntKind.i64 (↑pre.length + 1) = Value.int IntKind.i64 ↑pre_1.length ∧ w4.heap[w2.heap.size]? = some (Obj.stringIter s pos_1) ∧ pre_1 ++ pl s pos_1 = P s ∧ Below w2.heap.size w2 w4) ∧
          s.size - w4.iterPos w2.heap.size < s.size - wr.iterPos w2.heap.size := by
        refine ⟨⟨pos + d, pre ++ [pos], by simp, HI4.out, HP.out, hb5⟩, ?_⟩
        rw [iterPos_of HI.out, iterPos_of HI4.out]; omega
      have RR : Hid _ := R
      clear R HI HI4 HP hb5
      rcases hl2 with ⟨q1, q2⟩ | ⟨q1, q2⟩
      · have c5 := c4 q1
        clear c4 e4
        rcases hg with ⟨g1, rfl⟩ | ⟨rfl, g1, rfl⟩ | ⟨rfl, g1, rfl⟩
        · have f1 : ((p : Int) == 65533) = false := by simp; omega
          go_wp2_with fail
          exact RR.out
        · have f1 : ((d : Int) == 1) = true := by simp; omega
          go_wp2_with fail
          exact RR.out
        · have f1 : ((d : Int) == 1) = false := by simp; omega
          go_wp2_with fail
          exact RR.out
      · rw [decide_eq_false (by omega)] at e4
        have q2' : ((pre.length : Int) + 1 < ((P s).length : Int)) = False := by simp; omega
        clear c4 e3
        rcases hg with ⟨g1, rfl⟩ | ⟨rfl, g1, rfl⟩ | ⟨rfl, g1, rfl⟩
        · have f1 : ((p : Int) == 65533) = false := by simp; omega
          clear q1 q2
          go_wp2_with fail
          exact RR.out
        · have f1 : ((d : Int) == 1) = true := by simp; omega
          clear q1 q2
          go_wp2_with fail
          exact RR.out
        · have f1 : ((d : Int) == 1) = false := by simp; omega
          clear q1 q2
          go_wp2_with fail
          exact RR.out
    · have hnx := fun ty => Lib.run_next_end_at (P := Try.prog) wr w2.heap.size s pos ty hit hp
      rw [pl_ge s pos (by omega), List.append_nil] at hpre
      have e1 : ((pre.length : Int) == ((P s).length : Int)) = true := by rw [hpre]; simp
      have e2 : (((P s).length : Int) == (pre.length : Int)) = true := by rw [hpre]; simp
      clear hpre ho1' ho2
      go_wp2_with fail
      refine (count_any s _ (by unfold maxLen; omega)).mono ?_
      rintro e w4 ⟨rfl, p4, rfl⟩
      go_wp2_with fail
      refine (awake_any _).mono ?_
      rintro e w5 ⟨rfl, hb5⟩
      have hz5 := hb5.size
      have hB : Below w.heap.size w w5 := ((hbel.trans (hb.mono hbel.size)).trans ((below_iter wr s p4).mono (Nat.le_trans hbel.size hb.size))).trans (hb5.mono (by have := hb.size; have := hbel.size; show _ ≤ (wr.heap.push _).size; simp; omega))
      go_wp2_with fail
      go_ret
      exact ⟨rfl, hB⟩
end Go.Proofs.Ytgjbkdnefbnclaa
