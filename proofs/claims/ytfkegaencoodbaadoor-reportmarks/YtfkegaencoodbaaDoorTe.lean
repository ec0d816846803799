import Derived.Test.YtfkegaencoodbaaDoorTd
set_option linter.unusedVariables false
set_option linter.unusedSimpArgs false
namespace Go.Proofs.YtfkegaencoodbaaDoor
open Go.RowKit

set_option maxHeartbeats 400000 in
theorem wtext_any (s : ByteArray) (w : World) (hT : Tab w) (hs : s.size ≤ 2147483647) :
    Calls Tryd.prog 35 #[.string s] w fun e w' => e = .returned (.int .i64 (tw s)) ∧ Below w.heap.size w w' := by
  have hP := P_len s
  go_enter Tryd.func35, Tryd.ntmps35
  go_wp2_with fail
  go_loopw [3] (fun n w' => ∃ k : Nat, k ≤ (P s).length ∧ w' = w.iter s (st s k) ∧ n = .int .i64 (cw s k)) (fun _ w' => s.size - w'.iterPos w.heap.size)
  case atStart => exact ⟨0, by omega, rfl, rfl⟩
  case round =>
    obtain ⟨k, hk, rfl, rfl⟩ := hrel
    by_cases hlt : k < (P s).length
    · have hp := (st_lt s k).2 hlt
      have hw := dw_facts s (st s k) hp
      have hdp := dp_le s (st s k)
      have hc := cw_bd s k
      have hwd := wd_bd (dp s (st s k))
      have HT : Hid (∀ pos, Tab (w.iter s pos)) := fun pos => hT.below (below_iter w s pos)
      have HS : Hid (st s (k + 1) = st s k + dw s (st s k)) := st_succ s k hlt
      have HC : Hid (cw s (k + 1) = cw s k + wd (dp s (st s k))) := cw_succ s k hlt
      have hnx : ∀ ty, (Instr.next (.pointer (some ⟨w.heap.size, 0, none⟩)) true ty).run Tryd.prog (w.iter s (st s k)) = .ok (.tuple #[.bool true, .int .i64 (st s k), .int .i32 (dp s (st s k))]) (w.iter s (st s k + dw s (st s k))) := fun ty => run_next_any w s (st s k) ty hp
      clear hT
      generalize st s k = i at *
      generalize dw s i = d at *
      generalize hx : dp s i = x at *
      generalize cw s k = c at *
      clear hx
      go_wp2_with fail
      refine (of_any x _ (HT.out _)).mono ?_
      rintro e w' ⟨rfl, rfl⟩
      generalize wd (x : Int) = y at *
      go_wp2_with fail
      exact ⟨⟨k + 1, hlt, by rw [HS.out], congrArg (Value.int .i64) HC.out.symm⟩, by simp; omega⟩
    · have hp : ¬ st s k < s.size := by rw [st_lt]; exact hlt
      have hnx : ∀ ty, (Instr.next (.pointer (some ⟨w.heap.size, 0, none⟩)) true ty).run Tryd.prog (w.iter s (st s k)) = _ := fun ty => run_next_end w s (st s k) ty hp
      have HC : Hid (cw s k = tw s) := cw_end s k (by omega)
      go_wp2_with fail
      go_ret
      exact ⟨ret_i64 HC.out, below_iter _ _ _⟩

end Go.Proofs.YtfkegaencoodbaaDoor
