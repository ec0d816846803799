import Derived.Test.YtkgemlalbhhakaaDoorTe
set_option linter.unusedVariables false
set_option linter.unusedSimpArgs false
namespace Go.Proofs.YtkgemlalbhhakaaDoor
open Go.RowKit

set_option maxHeartbeats 400000 in
theorem rtext_any (s : ByteArray) (w : World) (hs : s.size ≤ 2147483647) :
    Calls Tryd.prog 13 #[.string s] w fun e w' => e = .returned (.int .i64 (tw s)) ∧ Below w.heap.size w w' := by
  have hP := P_len s
  go_enter Tryd.func13, Tryd.ntmps13
  go_wp2_with fail
  refine (rpoints_any s w hs).mono ?_
  rintro e w1 ⟨v, rfl, hown, hb1⟩
  rw [ivs_eq] at hown
  obtain ⟨ao, cap, rfl, hrow⟩ := own_shape hown
  clear hown
  go_wp2_with fail
  go_loopw [3, 5] (fun n i wr => ∃ k : Nat, k ≤ (P s).length ∧ n = .int .i64 (cw s k) ∧ i = .int .i64 k ∧ Below w1.heap.size w1 wr) (fun _ i _ => (P s).length - (intOf i).toNat)
  case atStart => exact ⟨0, by omega, rfl, rfl, Below.refl _ _⟩
  case round =>
    obtain ⟨k, hk, rfl, rfl, hb⟩ := hrel
    by_cases hlt : k < (P s).length
    · have hr := hrow.below hb
      obtain ⟨b, off, rfl, c0⟩ := hr.2 k hlt
      have e0 : ((pts s).map (fun i : Nat => (i : Int))).getD k 0 = ((dp s (st s k) : Nat) : Int) := by
        rw [List.getD, List.getElem?_map, pts_at s k hlt]; rfl
      rw [e0] at c0
      have hc := cw_bd s k
      have hwd := wd_bd (dp s (st s k))
      have HC : Hid (cw s (k + 1) = cw s k + wd (dp s (st s k))) := cw_succ s k hlt
      clear hr e0 hrow
      generalize dp s (st s k) = x at *
      generalize cw s k = c at *
      go_wp2_with fail
      refine (rof_any x _).mono ?_
      rintro e w2 ⟨rfl, hb2⟩
      have hb3 := hb.trans (hb2.mono hb.size)
      clear hb2 hb
      generalize wd (x : Int) = y at *
      go_wp2_with fail
      exact ⟨⟨k + 1, hlt, congrArg (Value.int .i64) HC.out.symm, by go_num, hb3⟩, by simp [intOf]; omega⟩
    · have HC : Hid (cw s k = tw s) := cw_end s k (by omega)
      go_wp2_with fail
      go_ret
      exact ⟨ret_i64 HC.out, hb1.trans (hb.mono hb1.size)⟩

set_option maxHeartbeats 400000 in
theorem rcut_neg (s : ByteArray) (m : Int) (w : World) (hm : m < 0) :
    Calls Tryd.prog 11 #[.string s, .int .i64 m] w fun e w' => e = .returned (.tuple #[.string ⟨#[]⟩, .int .i64 0]) ∧ Below w.heap.size w w' := by
  go_enter Tryd.func11, Tryd.ntmps11
  go_wp2_with fail
  go_ret2
  exact ⟨rfl, Below.refl _ _⟩

set_option maxHeartbeats 400000 in
theorem rcut_pos (s : ByteArray) (m : Int) (k : Nat) (w : World) (hs : s.size ≤ 2147483647) (hk : IsCut s m k) (hm : 0 ≤ m) :
    Calls Tryd.prog 11 #[.string s, .int .i64 m] w fun e w' => e = .returned (.tuple #[.string (hd s k), .int .i64 (cw s k)]) ∧ Below w.heap.size w w' := by
  have hP := P_len s
  go_enter Tryd.func11, Tryd.ntmps11
  go_wp2_with fail
  go_loopw [6, 7] (fun a n wr => ∃ j : Nat, j ≤ k ∧ a = .int .i64 (st s j) ∧ n = .int .i64 (cw s j) ∧ Below w.heap.size w wr) (fun a _ _ => s.size - (intOf a).toNat)
  case atStart => exact ⟨0, by omega, rfl, rfl, Below.refl _ _⟩
  case round =>
    obtain ⟨j, hj, rfl, rfl, hb⟩ := hrel
    by_cases hlt : j < (P s).length
    · have hp := (st_lt s j).2 hlt
      have hw := dw_facts s (st s j) hp
      have hc := cw_bd s j
      have hwd := wd_bd (dp s (st s j))
      have hn := fun w => rnext_in s (st s j) w hs (by omega) (by omega)
      rw [Int.toNat_natCast] at hn
      have HN : Hid _ := hn
      have HS : Hid (st s (j + 1) = st s j + dw s (st s j)) := st_succ s j hlt
      have HC : Hid (cw s (j + 1) = cw s j + wd (dp s (st s j))) := cw_succ s j hlt
      have HD : Hid (hd s j = s.extract 0 (st s j)) := rfl
      have hcase : (j = k ∧ m < cw s j + wd (dp s (st s j))) ∨ (j < k ∧ ¬ m < cw s j + wd (dp s (st s j))) := by
        by_cases e : j = k
        · refine .inl ⟨e, ?_⟩
          rw [← HC.out, e]
          exact hk.stop (by omega)
        · refine .inr ⟨by omega, ?_⟩
          rw [← HC.out]
          have := hk.fit (j + 1) (by omega) (by omega)
          omega
      clear hk hn
      generalize st s j = i at *
      generalize dp s i = x at *
      generalize dw s i = d at *
      generalize gd s i = g at *
      rcases hcase with ⟨rfl, hcase⟩ | ⟨hjk, hcase⟩
      · generalize hcc : cw s j = c at *
        have HCC : Hid (cw s j = c) := hcc
        clear hcc
        go_wp2_with fail
        refine (HN.out _).mono ?_
        rintro e w1 ⟨rfl, rfl⟩
        go_wp2_with fail
        refine (rof_any x _).mono ?_
        rintro e w2 ⟨rfl, hb2⟩
        have hb3 := hb.trans (hb2.mono hb.size)
        clear hb2 hb
        generalize wd (x : Int) = y at *
        go_wp2_with fail
        go_ret2
        exact ⟨by rw [HD.out, HCC.out]; rfl, hb3⟩
      · generalize hcc : cw s j = c at *
        clear hcc
        go_wp2_with fail
        refine (HN.out _).mono ?_
        rintro e w1 ⟨rfl, rfl⟩
        go_wp2_with fail
        refine (rof_any x _).mono ?_
        rintro e w2 ⟨rfl, hb2⟩
        have hb3 := hb.trans (hb2.mono hb.size)
        clear hb2 hb
        generalize wd (x : Int) = y at *
        go_wp2_with fail
        exact ⟨⟨j + 1, hjk, by rw [HS.out]; go_num, congrArg (Value.int .i64) HC.out.symm, hb3⟩, by simp [intOf]; omega⟩
    · have hle := hk.le
      have hjk : j = k := by omega
      subst hjk
      have he : st s j = s.size := st_end s j (by omega)
      have HD : Hid (hd s j = s) := hd_all s j (by omega)
      rw [he]
      clear hk he
      go_wp2_with fail
      go_ret2
      exact ⟨by rw [HD.out]; rfl, hb⟩

theorem rcut_any (s : ByteArray) (m : Int) (k : Nat) (w : World) (hs : s.size ≤ 2147483647) (hk : IsCut s m k) :
    Calls Tryd.prog 11 #[.string s, .int .i64 m] w fun e w' => e = .returned (.tuple #[.string (hd s k), .int .i64 (cw s k)]) ∧ Below w.heap.size w w' := by
  by_cases hm : m < 0
  · have h0 := cut_neg hk hm
    subst h0
    rw [hd_zero, cw_zero]
    exact rcut_neg s m w hm
  · exact rcut_pos s m k w hs hk (by omega)
end Go.Proofs.YtkgemlalbhhakaaDoor
