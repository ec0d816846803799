import Derived.Test.YthbgipmkdcffnaaTf
set_option linter.unusedVariables false
set_option linter.unusedSimpArgs false
namespace Go.Proofs.Ythbgipmkdcffnaa
open Go.RowKit

/-! The law's weight. -/
mutual
def wgt : Nd → Nat → Nat → Nat
  | .mk k d c, n, dp => if 3000 < dp then 16777217 else wgtL c (n + 1) (dp + 1)
def wgtL : List Nd → Nat → Nat → Nat
  | [], n, _ => n
  | x :: r, n, dp => if n ≤ 16777216 then wgtL r (wgt x n dp) dp else n
end
mutual
theorem wgt_le : ∀ (x : Nd) (n dp : Nat), n ≤ 16777216 → wgt x n dp ≤ 16777217
  | .mk k d c, n, dp, h => by
    simp only [wgt]
    split
    · exact Nat.le_refl _
    · exact wgtL_le c (n + 1) (dp + 1) (by omega)
theorem wgtL_le : ∀ (c : List Nd) (n dp : Nat), n ≤ 16777217 → wgtL c n dp ≤ 16777217
  | [], n, dp, h => by simpa [wgtL] using h
  | x :: r, n, dp, h => by
    simp only [wgtL]
    split
    · rename_i h1
      exact wgtL_le r _ dp (wgt_le x n dp h1)
    · exact h
end
theorem wgtL_far {c : List Nd} {n dp : Nat} (h : 16777216 < n) : wgtL c n dp = n := by
  cases c with
  | nil => simp [wgtL]
  | cons x r =>
    simp only [wgtL]
    rw [if_neg (by omega)]
mutual
/-- What is weighed is small. -/
theorem wgt_ok : ∀ (x : Nd) (n dp : Nat), wgt x n dp ≤ 16777216 → wgt x n dp = n + nsz x ∧ dpt x + dp ≤ 3001
  | .mk k d c, n, dp, h => by
    simp only [wgt] at h ⊢
    split at h
    · omega
    · rename_i hd
      rw [if_neg hd]
      obtain ⟨a, b⟩ := wgtL_ok c (n + 1) (dp + 1) h
      refine ⟨by rw [a]; simp only [nsz]; omega, ?_⟩
      simp only [dpt]
      split
      · omega
      · omega
theorem wgtL_ok : ∀ (c : List Nd) (n dp : Nat), wgtL c n dp ≤ 16777216 → wgtL c n dp = n + nszL c ∧ (dptL c = 0 ∨ dptL c + dp ≤ 3001)
  | [], n, dp, h => by simp [wgtL, nszL, dptL]
  | x :: r, n, dp, h => by
    simp only [wgtL] at h ⊢
    split at h
    · rename_i h1
      rw [if_pos h1]
      obtain ⟨a, b⟩ := wgtL_ok r (wgt x n dp) dp h
      have hw : wgt x n dp ≤ 16777216 := by omega
      obtain ⟨a2, b2⟩ := wgt_ok x n dp hw
      refine ⟨by rw [a, a2]; simp only [nszL]; omega, ?_⟩
      simp only [dptL]
      omega
    · omega
end
theorem wgtL_drop {c : List Nd} {j n dp : Nat} {m : Nd} (hm : c[j]? = some m) (hn : n ≤ 16777216) : wgtL (c.drop j) n dp = wgtL (c.drop (j + 1)) (wgt m n dp) dp := by
  obtain ⟨a1, a2⟩ := List.getElem?_eq_some_iff.1 hm
  rw [List.drop_eq_getElem_cons a1, a2]
  simp only [wgtL, if_pos hn]
def WtC (x : Nd) : Prop := ∀ v W n dp, Nv W v x → n ≤ 16777216 → dp ≤ 3001 → Calls Try.prog 14 #[v, .int .i64 (n : Nat), .int .i64 (dp : Nat)] W fun r w' => r = .returned (.int .i64 (wgt x n dp : Nat)) ∧ Below W.heap.size W w'
set_option maxRecDepth 100000 in
set_option maxHeartbeats 800000 in
theorem weight_step (x : Nd) (IH : ∀ m, m ∈ x.c → WtC m) : WtC x := by
  intro v W n dp h hn hdp
  obtain ⟨ao, cap, rfl, q1, q2, q3, q4⟩ := h
  obtain ⟨k, d, c⟩ := x
  dsimp only [Nd.k, Nd.d, Nd.c] at *
  have HQ : Hid ((ao = none → c = []) ∧ ∀ a, ao = some a → c = [] ∨ ∃ b o, a = ⟨b, o, none⟩ ∧ HL W b o c) := ⟨q3, q4⟩
  have HIH : Hid (∀ m, m ∈ c → WtC m) := IH
  have hcl : (c.length : Int) ≤ 9223372036854775807 := by have : maxLen = 9223372036854775807 := rfl; omega
  obtain ⟨W1, eW⟩ : ∃ W1, W1 = W.alloc (NdB k d (.slice ao c.length cap)) := ⟨_, rfl⟩
  have HB1 : Hid (Below W.heap.size W W1 ∧ W1.heap[W.heap.size]? = some (NdB k d (.slice ao c.length cap))) := by rw [eW]; exact ⟨below_new _ _, new_at _ _⟩
  clear q3 q4 IH
  by_cases hd : 3000 < dp
  · have e : wgt (.mk k d c) n dp = 16777217 := by simp only [wgt, if_pos hd]
    rw [e]
    have z1 : (dp : Int) > 3000 := by omega
    clear HQ HIH
    go_enter Try.func14, Try.ntmps14
    go_wp2_with fail
    try rw [← eW]
    go_ret
    exact ⟨rfl, HB1.out.1⟩
  · have e : wgt (.mk k d c) n dp = wgtL c (n + 1) (dp + 1) := by simp only [wgt, if_neg hd]
    have z1 : ¬ ((dp : Int) > 3000) := by omega
    obtain ⟨tot, htot⟩ : ∃ tot, wgtL c (n + 1) (dp + 1) = tot := ⟨_, rfl⟩
    rw [e, htot]
    have HT : Hid (wgtL c (n + 1) (dp + 1) = tot) := htot
    have hnI : (n : Int) ≤ 16777216 := by omega
    have hdI : (dp : Int) ≤ 3000 := by omega
    clear e htot
    go_enter Try.func14, Try.ntmps14
    go_wp2_with fail
    try rw [← eW]
    clear eW
    go_loopw [1, 7] (fun nv iv wr => ∃ j a : Nat, j ≤ c.length ∧ a ≤ 16777217 ∧ iv = .int .i64 j ∧ nv = .int .i64 a ∧ Hid (wgtL (c.drop j) a (dp + 1) = tot ∧ Below W1.heap.size W1 wr)) (fun _ iv _ => c.length - (intOf iv).toNat)
    case atStart => exact ⟨0, n + 1, Nat.zero_le _, by omega, rfl, by go_num, HT.out, Below.refl _ _⟩
    case round =>
      obtain ⟨j, a, hj, ha, rfl, rfl, HJ⟩ := hrel
      have x7 : wr.cell? ⟨W.heap.size, 7, none⟩ = some (.slice ao c.length cap) := blk_cell (blk_below HB1.out.2 HJ.out.2) rfl
      have xl : W.heap.size < wr.heap.size := blk_lt (blk_below HB1.out.2 HJ.out.2)
      have hbr : Below W.heap.size W wr := HB1.out.1.trans (HJ.out.2.mono HB1.out.1.size)
      by_cases hlt : j < c.length
      · have y1 : (j : Int) < c.length := by omega
        have y2 : (0 : Int) ≤ j := by omega
        by_cases hm1 : a ≤ 16777216
        · have y3 : (a : Int) ≤ 16777216 := by omega
          obtain ⟨m, hm⟩ : ∃ m, c[j]? = some m := ⟨_, List.getElem?_eq_getElem hlt⟩
          have hmm : m ∈ c := List.mem_of_getElem? hm
          obtain ⟨b, o, rfl, hbl, ao2, cap2, ⟨v0, v1, v2, v3, v4, v5, v6, v7⟩, hv⟩ := Nv.kid HQ.out hbr hm
          have hwl := wgt_le m a (dp + 1) hm1
          have HC : Hid (∀ V, Below wr.heap.size wr V → Calls Try.prog 14 #[.agg #[.int .u8 m.k, .int .u8 m.d.k, .string m.d.t, .int .i64 m.d.a, .int .i64 m.d.l, .int .i64 m.d.c, .int .i64 m.d.f, .slice ao2 m.c.length cap2], .int .i64 (a : Nat), .int .i64 ((dp : Int) + 1)] V fun r w' => r = .returned (.int .i64 (wgt m a (dp + 1) : Nat)) ∧ Below V.heap.size V w') := fun V hb => HIH.out m hmm _ V a (dp + 1) (hv.below hb) hm1 (by omega)
          have HN : Hid (wgtL (c.drop (j + 1)) (wgt m a (dp + 1)) (dp + 1) = tot) := by rw [← wgtL_drop hm hm1]; exact HJ.out.1
          clear hm hmm hv hbr
          go_wp2_with fail
          refine (HC.out _ (Below.refl _ _)).mono ?_
          rintro r w2 ⟨rfl, hb2⟩
          go_wp2_with fail
          exact ⟨⟨j + 1, _, hlt, hwl, by go_num, rfl, HN.out, HJ.out.2.trans (hb2.mono HJ.out.2.size)⟩, by simp [intOf]; omega⟩
        · have y3 : ¬ ((a : Int) ≤ 16777216) := by omega
          have hf : wgtL (c.drop j) a (dp + 1) = a := wgtL_far (by omega)
          have HE : Hid (a = tot ∧ Below W.heap.size W wr) := ⟨hf.symm.trans HJ.out.1, hbr⟩
          clear hf hbr
          go_wp2_with fail
          go_ret
          exact ⟨by first | rfl | (rw [HE.out.1]; done) | (have := HE.out.1; subst this; simp) | (simp [HE.out.1]), HE.out.2⟩
      · obtain rfl : j = c.length := by omega
        have y1 : ¬ ((c.length : Int) < c.length) := by omega
        have hf : wgtL (c.drop c.length) a (dp + 1) = a := by rw [List.drop_length]; simp [wgtL]
        have HE : Hid (a = tot ∧ Below W.heap.size W wr) := ⟨hf.symm.trans HJ.out.1, hbr⟩
        clear hf hbr
        go_wp2_with fail
        go_ret
        exact ⟨by first | rfl | (rw [HE.out.1]; done) | (have := HE.out.1; subst this; simp) | (simp [HE.out.1]), HE.out.2⟩
theorem weight_any (n : Nd) : WtC n := by
  obtain ⟨s, hs⟩ : ∃ s, nsz n = s := ⟨_, rfl⟩
  induction s using Nat.strongRecOn generalizing n with
  | ind s ih => exact weight_step n (fun m hm => ih (nsz m) (by rw [← hs]; exact nsz_kid hm) m rfl)

end Go.Proofs.Ythbgipmkdcffnaa
