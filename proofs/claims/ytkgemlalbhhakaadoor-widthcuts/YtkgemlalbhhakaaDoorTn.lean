import Derived.Test.YtkgemlalbhhakaaDoorTj
import Derived.Test.YtkgemlalbhhakaaDoorTk
import Derived.Test.YtkgemlalbhhakaaDoorTl
import Derived.Test.YtkgemlalbhhakaaDoorTm
set_option linter.unusedVariables false
set_option linter.unusedSimpArgs false
namespace Go.Proofs.YtkgemlalbhhakaaDoor
open Go.RowKit

theorem tmod_bd (C : Int) (h : 2147483647 < C) : 0 ≤ C.tmod 2147483648 ∧ C.tmod 2147483648 ≤ 2147483647 := by
  rw [Int.tmod_eq_emod_of_nonneg (by omega)]; omega

theorem cuts_are (s : ByteArray) (c more : Int) (k1 k2 : Nat) (hs : s.size ≤ 268435455) (hm : 0 ≤ more) (h1 : IsCut s c k1) (h2 : IsCut s (c + more) k2) :
    CutsAre s (hd s k1) (hd s k2) c more (cw s k1) (cw s k2) (tw s) := by
  have hk := cut_mono h1 h2 (by omega)
  have z1 := hd_size s k1
  have z2 := hd_size s k2
  have m1 := st_mono s k1 k2 hk
  have l1 := st_le s k1
  have l2 := st_le s k2
  have b1 := cw_bd s k1
  obtain ⟨k3, h3⟩ := cut_ex s (tw s)
  have e3 := cut_all h3
  refine ⟨by omega, by omega, by omega, by rw [z1]; rfl, by rw [z1]; exact hd_hd s k1 k2 hk, cw_mono s k1 k2 hk, b1.1, by omega,
    fun w hT => cut_any s c k1 w hT (by omega) h1, fun w hT => cut_any s _ k2 w hT (by omega) h2, fun w hT => ?_, fun w hT => text_any s w hT (by omega), fun w hT => ?_⟩
  · have h := cut_any s (tw s) k3 w hT (by omega) h3
    rw [hd_all s k3 (by omega), cw_end s k3 (by omega)] at h
    exact h
  · have h := text_any (hd s k1) w hT (by omega)
    rw [tw_hd s k1 h1.le] at h
    exact h

theorem whole_sum (s t : ByteArray) : (((wh s : Nat) : Int) == (s.size : Int)) = true ∧ tw (s ++ t) = tw s + tw t ∨ (((wh s : Nat) : Int) == (s.size : Int)) = false := by
  by_cases h : wh s = s.size
  · exact .inl ⟨by rw [h]; simp, tw_app s t h⟩
  · exact .inr (by simp; omega)

theorem next_good (s : ByteArray) (i : Nat) : gd s i = true ∨ (gd s i = false ∧ ((dp s i : Nat) : Int) = 65533 ∧ ((dw s i : Nat) : Int) = 1) := by
  cases h : gd s i with
  | true => exact .inl rfl
  | false =>
    have e := gd_not s i h
    refine .inr ⟨rfl, ?_, ?_⟩
    · unfold dp; rw [e]; rfl
    · unfold dw; rw [e]; rfl

theorem widthCuts_walk (s t : ByteArray) (C more : Int) (w : World) (hT : Tab w) (hs : s.size ≤ maxLen) (ht : t.size ≤ maxLen) (hC : -9223372036854775808 ≤ C ∧ C ≤ 9223372036854775807) (hm : 0 ≤ more ∧ more ≤ 255) :
    Calls Tryd.prog 6 #[.string s, .string t, .int .i64 C, .int .u8 more] w fun e w' => e = .returned (.bool true) ∧ Below w.heap.size w w' := by
  by_cases h : 268435455 < s.size ∨ 268435455 < t.size
  · exact cuts_big s t C more w hs ht h
  have hs' : s.size ≤ 268435455 := by omega
  have ht' : t.size ≤ 268435455 := by omega
  have bs := tw_bd s
  have bt := tw_bd t
  have hz : (s ++ t).size = s.size + t.size := size_app s t
  have Kw : ∀ w, Calls Tryd.prog 14 #[.string s] w fun e w' => e = .returned (.int .i64 (wh s)) ∧ Below w.heap.size w w' := fun w => whole_any s w (by omega)
  have Kt : ∀ w, Tab w → Calls Tryd.prog 12 #[.string t] w fun e w' => e = .returned (.int .i64 (tw t)) ∧ Below w.heap.size w w' := fun w hT => text_any t w hT (by omega)
  have Kb : ∀ w, Tab w → Calls Tryd.prog 12 #[.string (s ++ t)] w fun e w' => e = .returned (.int .i64 (tw (s ++ t))) ∧ Below w.heap.size w w' := fun w hT => text_any (s ++ t) w hT (by omega)
  have Ks := whole_sum s t
  obtain ⟨c, hc⟩ : ∃ c, (C ≤ 2147483647 ∧ c = C) ∨ (2147483647 < C ∧ C.tmod 2147483648 = c) := by
    by_cases h1 : C ≤ 2147483647
    · exact ⟨C, .inl ⟨h1, rfl⟩⟩
    · exact ⟨_, .inr ⟨by omega, rfl⟩⟩
  obtain ⟨k1, h1⟩ := cut_ex s c
  obtain ⟨k2, h2⟩ := cut_ex s (c + more)
  have K := cuts_are s c more k1 k2 hs' hm.1 h1 h2
  have z1 := hd_size s k1
  have bs2 : 0 ≤ tw s ∧ tw s ≤ 1073741824 := by omega
  have bt2 : 0 ≤ tw t ∧ tw t ≤ 1073741824 := by omega
  by_cases hneg : c < 0
  · rcases hc with ⟨hc1, hc2⟩ | ⟨hc1, hc2⟩
    · have e0 := cut_neg h1 hneg
      exact cuts_neg s t _ _ C c more _ _ _ _ _ _ w hT hs' ht' hm.1 hm.2 hC.1 K bs2 bt2 Kw Kt Kb Ks hc1 hc2 hneg (by rw [e0, hd_zero]) (by rw [e0, cw_zero])
    · have := tmod_bd C hc1; omega
  · have hc0 : 0 ≤ c := by omega
    have hle := cut_le h1 hc0
    by_cases hk : k1 < (P s).length
    · have hp := (st_lt s k1).2 hk
      have hst := h1.stop hk
      rw [cw_succ s k1 hk] at hst
      have Kn : ∀ w, Calls Tryd.prog 15 #[.string s, .int .i64 (hd s k1).size] w fun e w' => e = .returned (.tuple #[.int .i64 (dp s (st s k1)), .int .i64 (dw s (st s k1)), .bool (gd s (st s k1))]) ∧ Below w.heap.size w w' := by
        intro w
        have hn := next_in s (st s k1) w hs (by omega) (by omega)
        rw [Int.toNat_natCast] at hn
        rw [z1]
        exact hn
      rcases hc with ⟨hc1, hc2⟩ | ⟨hc1, hc2⟩
      · exact cuts_next s t _ _ C c more _ _ _ _ _ _ _ _ _ w hT hs' ht' hm.1 hm.2 hC.1 K bs2 bt2 Kw Kt Kb Ks hc1 hc2 hc0 hle (by omega) Kn (next_good s _) hst
      · exact cuts_nextBig s t _ _ C c more _ _ _ _ _ _ _ _ _ w hT hs' ht' hm.1 hm.2 hC.1 K bs2 bt2 Kw Kt Kb Ks hc1 hC.2 hc2 (by have := tmod_bd C hc1; omega) hc0 hle (by omega) Kn (next_good s _) hst
    · have he : st s k1 = s.size := st_end s k1 (by omega)
      rcases hc with ⟨hc1, hc2⟩ | ⟨hc1, hc2⟩
      · exact cuts_all s t _ _ C c more _ _ _ _ _ _ w hT hs' ht' hm.1 hm.2 hC.1 K bs2 bt2 Kw Kt Kb Ks hc1 hc2 hc0 hle (by omega)
      · exact cuts_allBig s t _ _ C c more _ _ _ _ _ _ w hT hs' ht' hm.1 hm.2 hC.1 K bs2 bt2 Kw Kt Kb Ks hc1 hC.2 hc2 (by have := tmod_bd C hc1; omega) hc0 hle (by omega)
end Go.Proofs.YtkgemlalbhhakaaDoor
