import Derived.Test.YtfkegaencoodbaaDoorTe
import Derived.Test.YtfkegaencoodbaaDoorTc
set_option linter.unusedVariables false
set_option linter.unusedSimpArgs false
namespace Go.Proofs.YtfkegaencoodbaaDoor
open Go.RowKit

set_option maxHeartbeats 400000 in
theorem rtext_any (s : ByteArray) (w : World) (hs : s.size ≤ 2147483647) :
    Calls Tryd.prog 27 #[.string s] w fun e w' => e = .returned (.int .i64 (tw s)) ∧ Below w.heap.size w w' := by
  have hP := P_len s
  go_enter Tryd.func27, Tryd.ntmps27
  go_wp2_with fail
  refine (rpoints_any s w hs).mono ?_
  rintro e w1 ⟨v, rfl, hown, hb1⟩
  rw [ivs_eq] at hown
  obtain ⟨ao, cap, rfl, hrow⟩ := own_shape hown
  clear hown
  go_wp2_with fail
  go_loopw [3, 5] (fun n i wr => ∃ k : Nat, k ≤ (P s).length ∧ n = .int .i64 (cw s k) ∧ i = .int .i64 k ∧ Below w1.heap.size w1 wr) (fun _ i _ => (P s).length - (intOf i).toNat)
  case atStart => exact ⟨0, by omega, rfl, rfl, Below.refl _ _⟩
  case round =>
    obtain ⟨k, hk, rfl, rfl, hb⟩ := hrel
    by_cases hlt : k < (P s).length
    · have hr := hrow.below hb
      obtain ⟨b, off, rfl, c0⟩ := hr.2 k hlt
      have e0 : ((pts s).map (fun i : Nat => (i : Int))).getD k 0 = ((dp s (st s k) : Nat) : Int) := by
        rw [List.getD, List.getElem?_map, pts_at s k hlt]; rfl
      rw [e0] at c0
      have hc := cw_bd s k
      have hwd := wd_bd (dp s (st s k))
      have HC : Hid (cw s (k + 1) = cw s k + wd (dp s (st s k))) := cw_succ s k hlt
      clear hr e0 hrow
      generalize dp s (st s k) = x at *
      generalize cw s k = c at *
      go_wp2_with fail
      refine (rof_any x _).mono ?_
      rintro e w2 ⟨rfl, hb2⟩
      have hb3 := hb.trans (hb2.mono hb.size)
      clear hb2 hb
      generalize wd (x : Int) = y at *
      go_wp2_with fail
      exact ⟨⟨k + 1, hlt, congrArg (Value.int .i64) HC.out.symm, by go_num, hb3⟩, by simp [intOf]; omega⟩
    · have HC : Hid (cw s k = tw s) := cw_end s k (by omega)
      go_wp2_with fail
      go_ret
      exact ⟨ret_i64 HC.out, hb1.trans (hb.mono hb1.size)⟩

end Go.Proofs.YtfkegaencoodbaaDoor
