import Derived.Test.YtcokccfbeonlnaaDoorDe
import Derived.BigQuiet
import Derived.Lib.ItoaWalk
set_option linter.unusedVariables false
set_option linter.unusedSimpArgs false
namespace Go.Proofs.YtcokccfbeonlnaaDoor
open Go.RowKit

theorem edge_any (c : UInt8) (w : World) : Calls Tryd.prog 94 #[.int .u8 (c.toNat : Int)] w fun e w' => e = .returned (.bool (edg c)) ∧ w' = w := by
  have h1 : ((c.toNat : Int) == 32) = (c == 32) := by revert c; exact all8 (by decide +kernel)
  have h2 : ((c.toNat : Int) == 10) = (c == 10) := by revert c; exact all8 (by decide +kernel)
  have e : edg c = ((c.toNat : Int) == 32 || (c.toNat : Int) == 10) := by rw [h1, h2]; rfl
  rw [e]
  clear e h1 h2
  generalize (c.toNat : Int) = z
  go_enter Tryd.func94, Tryd.ntmps94
  go_wp2_with fail
  all_goals (go_ret; simp_all)

theorem rnum_any (n : Int) (w : World) : Calls Tryd.prog 88 #[.int .i64 n] w fun e w' => e = .returned (.bool (rtN n)) ∧ w' = w := by
  have e : rtN n = (decide (0 ≤ n) && decide (n ≤ 1000)) := rfl
  rw [e]
  clear e
  go_enter Tryd.func88, Tryd.ntmps88
  go_wp2_with fail
  all_goals (go_ret; simp_all)
  all_goals omega

theorem dtext_any (t : ByteArray) (ht : t.size ≤ 9223372036854775807) (w : World) : Calls Tryd.prog 87 #[.string t] w fun e w' => e = .returned (.bool (rtT t)) ∧ w' = w := by
  by_cases h0 : t.size = 0
  · have e0 : t = ⟨#[]⟩ := by
      apply ls_inj
      exact List.eq_nil_of_length_eq_zero (by rw [ls_len]; exact h0)
    subst e0
    go_enter Tryd.func87, Tryd.ntmps87
    go_wp2_with fail
    go_ret
    exact ⟨rfl, rfl⟩
  · have hne : ¬ t.toList = [] := by
      rw [Lib.toList_data]
      intro hl
      exact absurd (by have := ls_len t; rw [lsb, hl] at this; simpa using this.symm) h0
    by_cases h1 : t.size ≤ 65535
    · have hlt : 0 < t.size := by omega
      have hlt2 : t.size - 1 < t.size := by omega
      have HE : Hid (rtT t = (!edg t[0] && !edg (t[t.size - 1]))) := by
        show _ = _
        unfold rtT
        have a0 : (lsb t).getD 0 0 = t[0] := (Lib.getD_at t 0 hlt).symm
        have a1 : (lsb t).getD (t.size - 1) 0 = t[t.size - 1] := (Lib.getD_at t (t.size - 1) hlt2).symm
        rw [a0, a1]
        simp [h1, show 1 ≤ t.size by omega]
      go_enter Tryd.func87, Tryd.ntmps87
      go_wp2_with (go_at_call 94; refine (edge_any _ _).mono ?_; rintro e w1 ⟨rfl, rfl⟩)
      all_goals (go_ret; rw [HE.out]; clear HE; refine ⟨?_, rfl⟩; simp_all)
    · go_enter Tryd.func87, Tryd.ntmps87
      go_wp2_with fail
      go_ret
      refine ⟨?_, rfl⟩
      simp [rtT, h1]
end Go.Proofs.YtcokccfbeonlnaaDoor
