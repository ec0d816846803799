import Derived.Test.YtkigadnkclkopaaPb
import Derived.Test.YtkigadnkclkopaaG9
set_option linter.unusedVariables false
set_option linter.unusedSimpArgs false
namespace Go.Proofs.Ytkigadnkclkopaa
open Go.RowKit

/-! Each node has kids. -/
theorem fulL_mem : ∀ (c : List Nd) (m : Nd), FulL c → m ∈ c → Ful m
  | [], m, _, h => by cases h
  | n :: r, m, h, hm => by
    simp only [FulL] at h
    rcases List.mem_cons.1 hm with rfl | hm
    · exact h.1
    · exact fulL_mem r m h.2 hm
theorem tneq0 (w : World) : (binOp .neq 29 (.agg #[.int .u8 0, .string ⟨#[]⟩, .int .i64 0, .int .i64 0, .int .i64 0, .int .i64 0]) (.agg #[.int .u8 0, .string ⟨#[]⟩, .int .i64 0, .int .i64 0, .int .i64 0, .int .i64 0])).run Try.prog w = .ok (.bool false) w := by kernel_rfl
def FuC (x : Nd) : Prop := ∀ v W, Nv W v x → Ful x → Calls Try.prog 8 #[v] W fun r w' => r = .returned (.bool true) ∧ Below W.heap.size W w'
set_option maxRecDepth 100000 in
set_option maxHeartbeats 1000000 in
theorem full_step (x : Nd) (IH : ∀ m, m ∈ x.c → FuC m) : FuC x := by
  intro v W h hful
  obtain ⟨ao, cap, rfl, q1, q2, q3, q4⟩ := h
  obtain ⟨k, d, c⟩ := x
  dsimp only [Nd.k, Nd.d, Nd.c] at *
  have HQ : Hid ((ao = none → c = []) ∧ ∀ a, ao = some a → c = [] ∨ ∃ b o, a = ⟨b, o, none⟩ ∧ HL W b o c) := ⟨q3, q4⟩
  have HIH : Hid (∀ m, m ∈ c → FuC m) := IH
  have hcl : (c.length : Int) ≤ 9223372036854775807 := by have : maxLen = 9223372036854775807 := rfl; omega
  obtain ⟨W1, eW⟩ : ∃ W1, W.alloc (NdB k d (.slice ao c.length cap)) = W1 := ⟨_, rfl⟩
  have HB1 : Hid (Below W.heap.size W W1 ∧ W1.heap[W.heap.size]? = some (NdB k d (.slice ao c.length cap))) := by rw [← eW]; exact ⟨(Below.refl _ _).alloc (Nat.le_refl _) _, new_at _ _⟩
  obtain ⟨⟨n0, n1, n2, n3, n4, n5, n6, n7⟩, nl⟩ := nd_cells HB1.out.2
  dsimp only [NdB] at eW
  clear q3 q4 IH
  rw [Ful] at hful
  by_cases hk : k = 0
  · subst hk
    rw [if_pos rfl] at hful
    subst hful
    dsimp only [List.length_nil] at eW n7
    clear HQ HIH
    go_enter Try.func8, Try.ntmps8
    go_wp2_with fail
    go_ret
    exact ⟨by simp, HB1.out.1⟩
  · rw [if_neg hk] at hful
    obtain ⟨hne, rfl, hfl⟩ := hful
    have HFL : Hid (FulL c) := hfl
    have hc1 : 1 ≤ c.length := by cases c with | nil => exact absurd rfl hne | cons a r => simp
    have z1 : (k == 0) = false := by simpa using hk
    have z2 : ((c.length : Int) == 0) = false := by simp; omega
    have htq := tneq0
    clear hne hk hfl
    dsimp only [tv0] at n1 n2 n3 n4 n5 n6 eW ⊢
    go_enter Try.func8, Try.ntmps8
    go_wp2_with fail
    clear eW n0 n1 n2 n3 n4 n5 n6 n7 nl
    go_loopw [3] (fun iv wr => ∃ j : Nat, j ≤ c.length ∧ iv = .int .i64 j ∧ Hid (Below W1.heap.size W1 wr)) (fun iv _ => c.length - (intOf iv).toNat)
    case atStart => exact ⟨0, Nat.zero_le _, rfl, Below.refl _ _⟩
    case round =>
      obtain ⟨j, hj, rfl, HJ⟩ := hrel
      have x7 : wr.cell? ⟨W.heap.size, 7, none⟩ = some (.slice ao c.length cap) := blk_cell (blk_below HB1.out.2 HJ.out) rfl
      have xl : W.heap.size < wr.heap.size := blk_lt (blk_below HB1.out.2 HJ.out)
      have hbr : Below W.heap.size W wr := HB1.out.1.trans (HJ.out.mono HB1.out.1.size)
      by_cases hlt : j < c.length
      · have y1 : (j : Int) < c.length := by omega
        have y2 : (0 : Int) ≤ j := by omega
        obtain ⟨m, hm⟩ : ∃ m, c[j]? = some m := ⟨_, List.getElem?_eq_getElem hlt⟩
        have hmm : m ∈ c := List.mem_of_getElem? hm
        obtain ⟨b, o, rfl, hbl, ao2, cap2, ⟨v0, v1, v2, v3, v4, v5, v6, v7⟩, hv⟩ := Nv.kid HQ.out hbr hm
        have HC : Hid (Calls Try.prog 8 #[.agg #[.int .u8 m.k, .int .u8 m.d.k, .string m.d.t, .int .i64 m.d.a, .int .i64 m.d.l, .int .i64 m.d.c, .int .i64 m.d.f, .slice ao2 m.c.length cap2]] wr fun r w' => r = .returned (.bool true) ∧ Below wr.heap.size wr w') := HIH.out m hmm _ wr hv (fulL_mem c m HFL.out hmm)
        clear hm hmm hv hbr
        go_wp2_with fail
        refine HC.out.mono ?_
        rintro r w2 ⟨rfl, hb2⟩
        go_wp2_with fail
        exact ⟨⟨j + 1, hlt, by go_num, HJ.out.trans (hb2.mono HJ.out.size)⟩, by simp [intOf]; omega⟩
      · obtain rfl : j = c.length := by omega
        have y1 : ¬ ((c.length : Int) < c.length) := by omega
        have HE : Hid (Below W.heap.size W wr) := hbr
        clear hbr
        go_wp2_with fail
        go_ret
        exact ⟨rfl, HE.out⟩
theorem full_any (n : Nd) : FuC n := by
  obtain ⟨s, hs⟩ : ∃ s, nsz n = s := ⟨_, rfl⟩
  induction s using Nat.strongRecOn generalizing n with
  | ind s ih => exact full_step n (fun m hm => ih (nsz m) (by rw [← hs]; exact nsz_kid hm) m rfl)

end Go.Proofs.Ytkigadnkclkopaa
