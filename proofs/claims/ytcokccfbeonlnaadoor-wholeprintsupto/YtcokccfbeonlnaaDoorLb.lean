import Derived.Test.YtcokccfbeonlnaaDoorLa
import Derived.Test.YtcokccfbeonlnaaDoorGb1
import Derived.Lib.ItoaWalk
set_option linter.unusedVariables false
set_option linter.unusedSimpArgs false
namespace Go.Proofs.YtcokccfbeonlnaaDoor
open Go.RowKit

theorem at_ls (s : ByteArray) (k : Nat) (h : k < s.size) : (lsb s).getD k 0 = s[k] := (Lib.getD_at s k h).symm
theorem at_ls' (s : ByteArray) (k : Nat) (h : k < s.size) : (lsb s)[k]? = some s[k] := by
  have := at_ls s k h
  rw [List.getD_eq_getElem?_getD, List.getElem?_eq_getElem (by rw [ls_len]; exact h)] at this
  rw [List.getElem?_eq_getElem (by rw [ls_len]; exact h), ← this]; rfl
theorem u8_ne (c d : UInt8) (h : c ≠ d) : ((c.toNat : Int) == (d.toNat : Int)) = false := by
  rw [beq_eq_false_iff_ne]
  intro e
  exact h (UInt8.toNat_inj.1 (by omega))
theorem brf_succ {s : ByteArray} {k : Nat} (h : k < s.size) : brf ((lsb s).take (k + 1)) = brf ((lsb s).take k) ++ (if s[k] = 32 ∨ s[k] = 10 then [] else [s[k]]) := by
  rw [List.take_add_one, at_ls' s k h, brf_app]
  congr 1
  unfold brf
  by_cases h1 : s[k] = 32 ∨ s[k] = 10
  · rw [if_pos h1]
    rcases h1 with h1 | h1 <;> simp [h1]
  · rw [if_neg h1]
    simp only [not_or] at h1
    simp [h1.1, h1.2]
theorem brf_le (x : List UInt8) : (brf x).length ≤ x.length := List.length_filter_le ..

set_option maxHeartbeats 2000000 in
set_option maxRecDepth 100000 in
theorem bare_any (s : ByteArray) (hs : s.size ≤ 1000000000) (w : World) : Calls Tryd.prog 13 #[.string s] w fun e w' => e = .returned (.string ⟨(brf (lsb s)).toArray⟩) ∧ Below w.heap.size w w' := by
  go_enter Tryd.func13, Tryd.ntmps13
  go_wp2_with fail
  go_loopw [3, 4] (fun v i wr => ∃ k : Nat, k ≤ s.size ∧ i = .int .i64 k ∧ Hid (Br w.heap.size wr v (brf ((lsb s).take k)) ∧ Below w.heap.size w wr)) (fun _ i _ => s.size - (intOf i).toNat)
  case atStart => exact ⟨0, Nat.zero_le _, rfl, br_nil _ _, Below.refl _ _⟩
  case round =>
    obtain ⟨k, hk, rfl, HI⟩ := hrel
    obtain ⟨hr, hb⟩ := HI.out
    obtain ⟨p, cp, rfl, hc1, hc2⟩ := hr.shape
    by_cases hlt : k < s.size
    · have q1 : (k : Int) < s.size := by omega
      have q2 : (0 : Int) ≤ k := by omega
      have hsc := brf_succ hlt
      have hln : (brf ((lsb s).take k)).length ≤ 1000000000 := by have := brf_le ((lsb s).take k); rw [List.length_take] at this; omega
      obtain ⟨c, hc⟩ : ∃ c, s[k] = c := ⟨_, rfl⟩
      rw [hc] at hsc
      have HV : Hid (∀ o, Br w.heap.size (wr.alloc o) (.slice p (brf ((lsb s).take k)).length cp) (brf ((lsb s).take k)) ∧ w.heap.size ≤ (wr.alloc o).heap.size ∧ Below w.heap.size w (wr.alloc o)) := fun o => ⟨hr.below ((Below.refl _ _).alloc (Nat.le_refl _) _), by rw [World.size_alloc]; have := hb.size; omega, hb.alloc hb.size _⟩
      by_cases h32 : c = 32
      · subst h32
        have HE : Hid (Br w.heap.size wr (.slice p (brf ((lsb s).take k)).length cp) (brf ((lsb s).take (k + 1))) ∧ Below w.heap.size w wr) := by
          rw [hsc, if_pos (.inl rfl), List.append_nil]; exact ⟨hr, hb⟩
        clear HI hr hb hsc
        go_wp2_with fail
        exact ⟨⟨k + 1, hlt, by go_num, HE.out⟩, by simp [intOf]; omega⟩
      by_cases h10 : c = 10
      · subst h10
        have HE : Hid (Br w.heap.size wr (.slice p (brf ((lsb s).take k)).length cp) (brf ((lsb s).take (k + 1))) ∧ Below w.heap.size w wr) := by
          rw [hsc, if_pos (.inr rfl), List.append_nil]; exact ⟨hr, hb⟩
        clear HI hr hb hsc
        go_wp2_with fail
        exact ⟨⟨k + 1, hlt, by go_num, HE.out⟩, by simp [intOf]; omega⟩
      · have n1 := u8_ne c 32 h32
        have n2 := u8_ne c 10 h10
        have n1' : ((c.toNat : Int) != 32) = true := by simp only [bne]; rw [show ((c.toNat : Int) == 32) = false from n1]; rfl
        have n2' : ((c.toNat : Int) != 10) = true := by simp only [bne]; rw [show ((c.toNat : Int) == 10) = false from n2]; rfl
        rw [if_neg (by simp [h32, h10])] at hsc
        have HSC : Hid (brf ((lsb s).take (k + 1)) = brf ((lsb s).take k) ++ [c]) := hsc
        clear HI hr hb hsc
        go_wp2_with (first | (at_builtin; refine app_bytes rfl _ _ rfl w.heap.size _ (brf ((lsb s).take k)) [c] rfl (HV.out _).1 wr.heap.size 1 1 rfl rfl (new_at _ _) (by simp; omega) (HV.out _).2.1 ?_; intro v' w' hr' hb'; have hbw' : Below w.heap.size w w' := (HV.out _).2.2.trans hb'.bel; obtain ⟨p', cp', e', _, _⟩ := hr'.shape; simp only [List.length_append, List.length_cons, List.length_nil, Nat.zero_add] at e'; subst e'))
        exact ⟨⟨k + 1, hlt, by go_num, by rw [HSC.out]; exact hr', hbw'⟩, by simp [intOf]; omega⟩
    · obtain rfl : k = s.size := by omega
      have q1 : ¬ ((s.size : Int) < s.size) := by omega
      rw [List.take_of_length_le (by rw [ls_len]; exact Nat.le_refl _)] at hr
      rw [List.take_of_length_le (by rw [ls_len]; exact Nat.le_refl _)]
      have hcv := conv_bytes wr w.heap.size _ _ hr
      have HB : Hid (Below w.heap.size w wr) := hb
      clear HI hr hb
      go_wp2_with fail
      go_ret
      exact ⟨rfl, HB.out⟩
end Go.Proofs.YtcokccfbeonlnaaDoor
