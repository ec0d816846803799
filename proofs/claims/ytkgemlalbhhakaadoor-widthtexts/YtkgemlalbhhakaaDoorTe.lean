import Derived.Test.YtkgemlalbhhakaaDoorTd
set_option linter.unusedVariables false
set_option linter.unusedSimpArgs false
namespace Go.Proofs.YtkgemlalbhhakaaDoor
open Go.RowKit

set_option maxHeartbeats 400000 in
theorem text_any (s : ByteArray) (w : World) (hT : Tab w) (hs : s.size ≤ 2147483647) :
    Calls Tryd.prog 12 #[.string s] w fun e w' => e = .returned (.int .i64 (tw s)) ∧ Below w.heap.size w w' := by
  have hP := P_len s
  go_enter Tryd.func12, Tryd.ntmps12
  go_wp2_with fail
  go_loopw [3] (fun n w' => ∃ k : Nat, k ≤ (P s).length ∧ w' = w.iter s (st s k) ∧ n = .int .i64 (cw s k)) (fun _ w' => s.size - w'.iterPos w.heap.size)
  case atStart => exact ⟨0, by omega, rfl, rfl⟩
  case round =>
    obtain ⟨k, hk, rfl, rfl⟩ := hrel
    by_cases hlt : k < (P s).length
    · have hp := (st_lt s k).2 hlt
      have hw := dw_facts s (st s k) hp
      have hdp := dp_le s (st s k)
      have hc := cw_bd s k
      have hwd := wd_bd (dp s (st s k))
      have HT : Hid (∀ pos, Tab (w.iter s pos)) := fun pos => hT.below (below_iter w s pos)
      have HS : Hid (st s (k + 1) = st s k + dw s (st s k)) := st_succ s k hlt
      have HC : Hid (cw s (k + 1) = cw s k + wd (dp s (st s k))) := cw_succ s k hlt
      have hnx : ∀ ty, (Instr.next (.pointer (some ⟨w.heap.size, 0, none⟩)) true ty).run Tryd.prog (w.iter s (st s k)) = .ok (.tuple #[.bool true, .int .i64 (st s k), .int .i32 (dp s (st s k))]) (w.iter s (st s k + dw s (st s k))) := fun ty => run_next_any w s (st s k) ty hp
      clear hT
      generalize st s k = i at *
      generalize dw s i = d at *
      generalize hx : dp s i = x at *
      generalize cw s k = c at *
      clear hx
      go_wp2_with fail
      refine (of_any x _ (HT.out _)).mono ?_
      rintro e w' ⟨rfl, rfl⟩
      generalize wd (x : Int) = y at *
      go_wp2_with fail
      exact ⟨⟨k + 1, hlt, by rw [HS.out], congrArg (Value.int .i64) HC.out.symm⟩, by simp; omega⟩
    · have hp : ¬ st s k < s.size := by rw [st_lt]; exact hlt
      have hnx : ∀ ty, (Instr.next (.pointer (some ⟨w.heap.size, 0, none⟩)) true ty).run Tryd.prog (w.iter s (st s k)) = _ := fun ty => run_next_end w s (st s k) ty hp
      have HC : Hid (cw s k = tw s) := cw_end s k (by omega)
      go_wp2_with fail
      go_ret
      exact ⟨ret_i64 HC.out, below_iter _ _ _⟩

set_option maxHeartbeats 400000 in
theorem cut_any (s : ByteArray) (m : Int) (k : Nat) (w : World) (hT : Tab w) (hs : s.size ≤ 2147483647) (hk : IsCut s m k) :
    Calls Tryd.prog 10 #[.string s, .int .i64 m] w fun e w' => e = .returned (.tuple #[.string (hd s k), .int .i64 (cw s k)]) ∧ Below w.heap.size w w' := by
  have hP := P_len s
  go_enter Tryd.func10, Tryd.ntmps10
  go_wp2_with fail
  go_loopw [6] (fun n w' => ∃ j : Nat, j ≤ k ∧ w' = w.iter s (st s j) ∧ n = .int .i64 (cw s j)) (fun _ w' => s.size - w'.iterPos w.heap.size)
  case atStart => exact ⟨0, by omega, rfl, rfl⟩
  case round =>
    obtain ⟨j, hj, rfl, rfl⟩ := hrel
    by_cases hlt : j < (P s).length
    · have hp := (st_lt s j).2 hlt
      have hw := dw_facts s (st s j) hp
      have hdp := dp_le s (st s j)
      have hc := cw_bd s j
      have hwd := wd_bd (dp s (st s j))
      have HT : Hid (∀ pos, Tab (w.iter s pos)) := fun pos => hT.below (below_iter w s pos)
      have HS : Hid (st s (j + 1) = st s j + dw s (st s j)) := st_succ s j hlt
      have HC : Hid (cw s (j + 1) = cw s j + wd (dp s (st s j))) := cw_succ s j hlt
      have HD : Hid (hd s j = s.extract 0 (st s j)) := rfl
      have hnx : ∀ ty, (Instr.next (.pointer (some ⟨w.heap.size, 0, none⟩)) true ty).run Tryd.prog (w.iter s (st s j)) = .ok (.tuple #[.bool true, .int .i64 (st s j), .int .i32 (dp s (st s j))]) (w.iter s (st s j + dw s (st s j))) := fun ty => run_next_any w s (st s j) ty hp
      have hcase : (j = k ∧ m < cw s j + wd (dp s (st s j))) ∨ (j < k ∧ ¬ m < cw s j + wd (dp s (st s j))) := by
        by_cases e : j = k
        · refine .inl ⟨e, ?_⟩
          rw [← HC.out, e]
          exact hk.stop (by omega)
        · refine .inr ⟨by omega, ?_⟩
          rw [← HC.out]
          have := hk.fit (j + 1) (by omega) (by omega)
          omega
      clear hT hk
      generalize st s j = i at *
      generalize dw s i = d at *
      generalize hx : dp s i = x at *
      clear hx
      rcases hcase with ⟨rfl, hcase⟩ | ⟨hjk, hcase⟩
      · generalize hcc : cw s j = c at *
        have HCC : Hid (cw s j = c) := hcc
        clear hcc
        go_wp2_with fail
        refine (of_any x _ (HT.out _)).mono ?_
        rintro e w' ⟨rfl, rfl⟩
        generalize wd (x : Int) = y at *
        go_wp2_with fail
        go_ret2
        exact ⟨by rw [HD.out, HCC.out]; rfl, below_iter _ _ _⟩
      · generalize hcc : cw s j = c at *
        clear hcc
        go_wp2_with fail
        refine (of_any x _ (HT.out _)).mono ?_
        rintro e w' ⟨rfl, rfl⟩
        generalize wd (x : Int) = y at *
        go_wp2_with fail
        exact ⟨⟨j + 1, hjk, by rw [HS.out], congrArg (Value.int .i64) HC.out.symm⟩, by simp; omega⟩
    · have hp : ¬ st s j < s.size := by rw [st_lt]; exact hlt
      have hnx : ∀ ty, (Instr.next (.pointer (some ⟨w.heap.size, 0, none⟩)) true ty).run Tryd.prog (w.iter s (st s j)) = _ := fun ty => run_next_end w s (st s j) ty hp
      have hle := hk.le
      have hjk : j = k := by omega
      subst hjk
      have HD : Hid (hd s j = s) := hd_all s j (by omega)
      clear hk
      go_wp2_with fail
      go_ret2
      exact ⟨by rw [HD.out]; rfl, below_iter _ _ _⟩
end Go.Proofs.YtkgemlalbhhakaaDoor
