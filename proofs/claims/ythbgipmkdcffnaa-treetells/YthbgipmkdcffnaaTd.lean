import Derived.Test.YthbgipmkdcffnaaTr
set_option linter.unusedVariables false
set_option linter.unusedSimpArgs false
namespace Go.Proofs.Ythbgipmkdcffnaa
open Go.RowKit

/-! What only reads trees. -/
theorem below_new (W : World) (o : Obj) : Below W.heap.size W (W.alloc o) := (Below.refl _ _).alloc (Nat.le_refl _) _
theorem below_dn {b : Nat} {w v : World} (h : Below b w v) : ∀ m, Below b w (v.drewN m)
  | 0 => h
  | m + 1 => (below_dn h m).drew
/-- A kid's cells, and the value that they make. -/
theorem hn_cells {W : World} {b o : Nat} {n : Nd} (h : HN W b o n) : b < W.heap.size ∧ ∃ ao cap, (W.cell? ⟨b, o, none⟩ = some (.int .u8 n.k) ∧ W.cell? ⟨b, o + 1, none⟩ = some (.int .u8 n.d.k) ∧ W.cell? ⟨b, o + 2, none⟩ = some (.string n.d.t) ∧ W.cell? ⟨b, o + 3, none⟩ = some (.int .i64 n.d.a) ∧ W.cell? ⟨b, o + 4, none⟩ = some (.int .i64 n.d.l) ∧ W.cell? ⟨b, o + 5, none⟩ = some (.int .i64 n.d.c) ∧ W.cell? ⟨b, o + 6, none⟩ = some (.int .i64 n.d.f) ∧ W.cell? ⟨b, o + 7, none⟩ = some (.slice ao n.c.length cap)) ∧ n.c.length ≤ cap ∧ cap ≤ maxLen ∧ (ao = none → n.c = []) ∧ (∀ a, ao = some a → n.c = [] ∨ ∃ b' o', a = ⟨b', o', none⟩ ∧ HL W b' o' n.c) := by
  obtain ⟨k, d, c⟩ := n
  rw [HN] at h
  obtain ⟨⟨h0, h1, h2, h3, h4, h5, h6⟩, ao, cap, h7, h8, h9, h10, h11⟩ := h
  exact ⟨World.block_lt_of_cell? _ _ h0, ao, cap, ⟨h0, h1, h2, h3, h4, h5, h6, h7⟩, h8, h9, h10, h11⟩
theorem dptL_take {c : List Nd} {j : Nat} {m : Nd} (h : c[j]? = some m) : dptL (c.take (j + 1)) = max (dptL (c.take j)) (dpt m) := by
  induction c generalizing j with
  | nil => simp at h
  | cons x r ih =>
    cases j with
    | zero =>
      simp at h
      subst h
      simp [dptL]
    | succ j =>
      simp at h
      simp only [List.take_succ_cons, dptL, ih h]
      omega
theorem dptL_le {c : List Nd} {j : Nat} : dptL (c.take j) ≤ dptL c := by
  induction c generalizing j with
  | nil => simp
  | cons x r ih =>
    cases j with
    | zero => simp [dptL]
    | succ j =>
      have := ih (j := j)
      simp only [List.take_succ_cons, dptL]
      omega
set_option maxHeartbeats 1000000 in
theorem ddepth_step (n : Nd) (IH : ∀ m, m ∈ n.c → ∀ v V, Nv V v m → dpt m ≤ 100000 → Calls Try.prog 21 #[v] V fun e w' => e = .returned (.int .i64 (dpt m : Int)) ∧ Below V.heap.size V w') (v : Value) (W : World) (h : Nv W v n) (hd : dpt n ≤ 100000) :
    Calls Try.prog 21 #[v] W fun e w' => e = .returned (.int .i64 (dpt n : Int)) ∧ Below W.heap.size W w' := by
  have HIH : Hid (∀ m, m ∈ n.c → ∀ v V, Nv V v m → dpt m ≤ 100000 → Calls Try.prog 21 #[v] V fun e w' => e = .returned (.int .i64 (dpt m : Int)) ∧ Below V.heap.size V w') := IH
  have HV : Hid (Nv W v n) := h
  obtain ⟨ao, cap, rfl, q1, q2, q3, q4⟩ := h
  clear IH
  obtain ⟨k, d, c⟩ := n
  dsimp only [Nd.k, Nd.d, Nd.c] at *
  by_cases hk : k = 0
  · subst hk
    have e : dpt (.mk 0 d c) = 0 := by simp [dpt]
    rw [e]
    clear HIH HV q3 q4
    go_enter Try.func21, Try.ntmps21
    go_wp2_with fail
    go_ret
    exact ⟨rfl, below_new _ _⟩
  · have e : dpt (.mk k d c) = dptL c + 1 := by simp [dpt, hk]
    rw [e] at hd ⊢
    have q5 : (k == 0) = false := by simpa using hk
    have hcl : (c.length : Int) ≤ 9223372036854775807 := by have : maxLen = 9223372036854775807 := rfl; omega
    have HQ : Hid ((ao = none → c = []) ∧ ∀ a, ao = some a → c = [] ∨ ∃ b o, a = ⟨b, o, none⟩ ∧ HL W b o c) := ⟨q3, q4⟩
    have HDL : Hid (∀ m, m ∈ c → dpt m ≤ dptL c) := fun m hm => by
      obtain ⟨j, hj, e⟩ := List.getElem_of_mem hm
      have h1 := dptL_take (c := c) (j := j) (m := m) (by rw [← e]; exact List.getElem?_eq_getElem hj)
      have h2 := dptL_le (c := c) (j := j + 1)
      omega
    clear q3 q4 HV
    go_enter Try.func21, Try.ntmps21
    go_wp2_with fail
    obtain ⟨W1, e1⟩ : ∃ W1, W.alloc (.cells #[.int .u8 k, .int .u8 d.k, .string d.t, .int .i64 d.a, .int .i64 d.l, .int .i64 d.c, .int .i64 d.f, .slice ao c.length cap] 35) = W1 := ⟨_, rfl⟩
    have HB1 : Hid (Below W.heap.size W W1 ∧ W1.heap[W.heap.size]? = some (.cells #[.int .u8 k, .int .u8 d.k, .string d.t, .int .i64 d.a, .int .i64 d.l, .int .i64 d.c, .int .i64 d.f, .slice ao c.length cap] 35)) := by rw [← e1]; exact ⟨below_new _ _, new_at _ _⟩
    rw [e1]
    clear e1
    go_loopw [3, 4, 5] (fun mv iv _ wr => ∃ j : Nat, j ≤ c.length ∧ iv = .int .i64 j ∧ mv = .int .i64 (dptL (c.take j) : Int) ∧ Hid (Below W1.heap.size W1 wr)) (fun _ iv _ _ => c.length - (intOf iv).toNat)
    case atStart => exact ⟨0, Nat.zero_le _, rfl, by simp [dptL], Below.refl _ _⟩
    case round =>
      obtain ⟨j, hj, rfl, rfl, HJ⟩ := hrel
      have x7 : wr.cell? ⟨W.heap.size, 7, none⟩ = some (.slice ao c.length cap) := blk_cell (blk_below HB1.out.2 HJ.out) rfl
      have hdj := dptL_le (c := c) (j := j)
      by_cases hlt : j < c.length
      · have z1 : (j : Int) < c.length := by omega
        have z2 : (0 : Int) ≤ j := by omega
        obtain ⟨m, hm⟩ : ∃ m, c[j]? = some m := ⟨_, List.getElem?_eq_getElem hlt⟩
        have hmm : m ∈ c := List.mem_of_getElem? hm
        cases ao with
        | none => have := HQ.out.1 rfl; subst this; simp at hlt
        | some a =>
          obtain ⟨b, o, rfl, hl⟩ := (HQ.out.2 a rfl).resolve_left (fun e => by subst e; simp at hlt)
          have hbr : Below W.heap.size W wr := HB1.out.1.trans (HJ.out.mono HB1.out.1.size)
          have hn := HL.at (HL.below hbr c b o hl) hm
          obtain ⟨hbl, ao2, cap2, ⟨y0, y1, y2, y3, y4, y5, y6, y7⟩, p1, p2, p3, p4⟩ := hn_cells hn
          have HC : Hid (Calls Try.prog 21 #[.agg #[.int .u8 m.k, .int .u8 m.d.k, .string m.d.t, .int .i64 m.d.a, .int .i64 m.d.l, .int .i64 m.d.c, .int .i64 m.d.f, .slice ao2 m.c.length cap2]] wr fun e w' => e = .returned (.int .i64 (dpt m : Int)) ∧ Below wr.heap.size wr w') := HIH.out m hmm _ wr ⟨ao2, cap2, rfl, p1, p2, p3, p4⟩ (by have := HDL.out m hmm; omega)
          have hdm := HDL.out m hmm
          have ht := dptL_take hm
          clear hm hmm hn p3 p4 hl
          go_wp2_with fail
          refine HC.out.mono ?_
          rintro e w2 ⟨rfl, hb2⟩
          have H2 : Hid (Below W1.heap.size W1 w2) := HJ.out.trans (hb2.mono HJ.out.size)
          clear hb2
          by_cases hgt : (dpt m : Int) > (dptL (c.take j) : Int)
          · go_wp2_with fail
            exact ⟨⟨j + 1, hlt, by go_num, by rw [ht]; congr 1; omega, H2⟩, by simp [intOf]; omega⟩
          · go_wp2_with fail
            exact ⟨⟨j + 1, hlt, by go_num, by rw [ht]; congr 1; omega, H2⟩, by simp [intOf]; omega⟩
      · obtain rfl : j = c.length := by omega
        have z1 : ¬ ((c.length : Int) < c.length) := by omega
        rw [List.take_length] at *
        go_wp2_with fail
        go_ret
        exact ⟨by simp, HB1.out.1.trans (HJ.out.mono HB1.out.1.size)⟩
theorem ddepth_any (n : Nd) : ∀ v W, Nv W v n → dpt n ≤ 100000 → Calls Try.prog 21 #[v] W fun e w' => e = .returned (.int .i64 (dpt n : Int)) ∧ Below W.heap.size W w' := by
  obtain ⟨s, hs⟩ : ∃ s, nsz n = s := ⟨_, rfl⟩
  induction s using Nat.strongRecOn generalizing n with
  | ind s ih => exact ddepth_step n (fun m hm => ih (nsz m) (by rw [← hs]; exact nsz_kid hm) m rfl)

end Go.Proofs.Ythbgipmkdcffnaa
