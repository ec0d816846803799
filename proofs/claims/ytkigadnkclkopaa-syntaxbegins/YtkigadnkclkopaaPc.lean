import Derived.Test.YtkigadnkclkopaaPb
set_option linter.unusedVariables false
set_option linter.unusedSimpArgs false
namespace Go.Proofs.Ytkigadnkclkopaa
open Go.RowKit

/-! SyntaxBegins. -/
/-- How far the last token that is no comment was met. -/
structure Lst (l : List Tv) (i m : Nat) : Prop where
  le : m ≤ i
  il : i ≤ l.length
  cm : ∀ j t, m ≤ j → j < i → l[j]? = some t → cmm t = true
  nc : 0 < m → ∃ t, l[m - 1]? = some t ∧ cmm t = false
theorem lst_zero (l : List Tv) : Lst l 0 0 := ⟨Nat.le_refl _, Nat.zero_le _, fun j t h1 h2 => by omega, fun h => by omega⟩
theorem Lst.com {l : List Tv} {i m : Nat} {t : Tv} (h : Lst l i m) (ht : l[i]? = some t) (hc : cmm t = true) : Lst l (i + 1) m := by
  refine ⟨by have := h.le; omega, (List.getElem?_eq_some_iff.1 ht).1, fun j u h1 h2 hu => ?_, h.nc⟩
  by_cases hj : j = i
  · subst hj; rw [ht] at hu; cases hu; exact hc
  · exact h.cm j u h1 (by omega) hu
theorem Lst.tok {l : List Tv} {i m : Nat} {t : Tv} (h : Lst l i m) (ht : l[i]? = some t) (hc : cmm t = false) : Lst l (i + 1) (i + 1) :=
  ⟨Nat.le_refl _, (List.getElem?_eq_some_iff.1 ht).1, fun j u h1 h2 => by omega, fun _ => ⟨t, ht, hc⟩⟩
theorem Lst.fin {l : List Tv} {m k : Nat} (h : Lst l l.length m) : (m ≤ k ↔ ∀ t ∈ l.drop k, cmm t = true) := by
  constructor
  · intro hk t ht
    obtain ⟨j, hj⟩ := List.mem_iff_getElem?.1 ht
    rw [List.getElem?_drop] at hj
    exact h.cm (k + j) t (by omega) (List.getElem?_eq_some_iff.1 hj).1 hj
  · intro ha
    by_cases hk : m ≤ k
    · exact hk
    · exfalso
      obtain ⟨t, ht, hc⟩ := h.nc (by omega)
      have hm : t ∈ l.drop k := List.mem_iff_getElem?.2 ⟨m - 1 - k, by rw [List.getElem?_drop, show k + (m - 1 - k) = m - 1 by omega]; exact ht⟩
      rw [ha t hm] at hc
      cases hc
theorem lt_tok {W : World} {ao : Option Addr} {l : List Tv} (h : Lt W ao l) {j : Nat} {t : Tv} (ht : l[j]? = some t) : ∃ b off, ao = some ⟨b, off, none⟩ ∧ W.cell? ⟨b, off + j * 6, none⟩ = some (.int .u8 t.k) ∧ b < W.heap.size := by
  obtain ⟨b, off, e, c0, _⟩ := h j t ht
  exact ⟨b, off, e, c0, World.block_lt_of_cell? _ _ c0⟩
set_option maxHeartbeats 4000000 in
set_option maxRecDepth 100000 in
theorem begins_walk (W : World) (ao : Option Addr) (l : List Tv) (cap : Nat) (cut : Int) (h : Lt W ao l) (h1 : l.length ≤ cap) (h2 : cap ≤ maxLen) (hc1 : -9223372036854775808 ≤ cut) (hc2 : cut ≤ 9223372036854775807) :
    Calls Try.prog 4 #[.slice ao l.length cap, .int .i64 cut] W fun r w' => r = .returned (.bool true) ∧ Below W.heap.size W w' := by
  have HU : Hid (Calls Try.prog 5 #[] W fun r w' => r = .returned (.bool true) ∧ Below W.heap.size W w') := sawake_any W
  by_cases hm : 4194304 < l.length
  · have q1 : (l.length : Int) > 4194304 := by omega
    clear h
    go_enter Try.func4, Try.ntmps4
    go_wp2_with fail
    refine HU.out.mono ?_
    rintro r w1 ⟨rfl, hb1⟩
    have H1 := show Hid _ from hb1
    clear hb1
    go_wp2_with fail
    go_ret
    exact ⟨rfl, H1.out⟩
  · have q1 : ¬ ((l.length : Int) > 4194304) := by omega
    have key : ∀ k : Nat, k ≤ l.length → ∃ (code f : Int) (a b : Nat), (∀ V, Below W.heap.size W V → Calls Try.prog 6 #[.slice ao l.length cap] V fun e w' => Below W.heap.size W w' ∧ ∃ kk d p m cv, e = .returned (.tuple #[ndv kk d (.slice p m cv), .int .i64 code, .int .i64 (a : Int)])) ∧ (∀ V, Below W.heap.size W V → Calls Try.prog 6 #[.slice ao k cap] V fun e w' => Below W.heap.size W w' ∧ ∃ kk d p m cv, e = .returned (.tuple #[ndv kk d (.slice p m cv), .int .i64 f, .int .i64 (b : Int)])) ∧
        ((code ≠ 0 ∧ a < k ∧ f = code ∧ b = a) ∨ (code = 0 ∧ (∀ t ∈ l.drop k, cmm t = true) ∧ f = 0 ∧ b = 0) ∨ (f = 0 ∧ code = 120 ∧ k ≤ a) ∨ (f = 121 ∧ b = k ∧ code = 0 ∧ ¬ ∀ t ∈ l.drop k, cmm t = true) ∨ (f = 121 ∧ b = k ∧ code ≠ 0 ∧ k ≤ a)) := by
      intro k hk
      obtain ⟨E, code, a, E', f, b, m1, m2, m3⟩ := begins_math l k hk
      have hlen : (l.take k).length = k := by rw [List.length_take]; omega
      refine ⟨code, f, if code = 0 then 0 else a, if f = 0 then 0 else b, fun V hb => (prg_any (h.below hb) (by omega) m1).mono ?_, fun V hb => ?_, ?_⟩
      · rintro e w' ⟨hbl, n, p, cv, he, -, -, -⟩
        exact ⟨hb.trans (hbl.mono hb.size), _, _, _, _, _, he⟩
      · have := prg_any (cap := cap) ((h.below hb).take k) (by omega) m2
        rw [hlen] at this
        refine this.mono ?_
        rintro e w' ⟨hbl, n, p, cv, he, -, -, -⟩
        exact ⟨hb.trans (hbl.mono hb.size), _, _, _, _, _, he⟩
      · rcases m3 with ⟨x1, x2, rfl, rfl⟩ | ⟨x1, x2⟩
        · exact .inl ⟨x1, by rw [if_neg x1]; exact x2, rfl, by rw [if_neg x1]⟩
        · rcases x2 with ⟨rfl, x3, rfl⟩ | ⟨x3, x4⟩
          · exact .inr (.inl ⟨rfl, x3, rfl, by rw [if_pos rfl]⟩)
          · rcases x4 with ⟨rfl, rfl, x5⟩ | ⟨rfl, rfl⟩
            · exact .inr (.inr (.inl ⟨rfl, rfl, by rw [if_neg (by decide)]; exact x5⟩))
            · by_cases hc : code = 0
              · exact .inr (.inr (.inr (.inl ⟨rfl, by rw [if_neg (by decide)], hc, fun hx => x3 ⟨hc, hx⟩⟩)))
              · exact .inr (.inr (.inr (.inr ⟨rfl, by rw [if_neg (by decide)], hc, by rw [if_neg hc]; have := fun hx => x1 ⟨hc, hx⟩; exact Nat.le_of_not_lt this⟩)))
    have HT : Hid (∀ V, Below W.heap.size W V → Lt V ao l) := fun V hb => h.below hb
    clear h
    by_cases hneg : cut < 0
    · obtain ⟨k, hk⟩ : ∃ k : Nat, (-(cut + 1)).tmod ((l.length : Int) + 1) = (k : Int) := ⟨((-(cut + 1)).tmod ((l.length : Int) + 1)).toNat, by
        have := Int.tmod_nonneg (a := (-(cut + 1))) ((l.length : Int) + 1) (by omega)
        omega⟩
      have hkl : k ≤ l.length := by
        have := Int.tmod_lt_of_pos (-(cut + 1)) (b := (l.length : Int) + 1) (by omega)
        omega
      obtain ⟨code, f, a, b, p1, p2, p3⟩ := key k hkl
      have HP := show Hid _ from p1
      have HQ := show Hid _ from p2
      have HA : Hid (∀ V o, Below W.heap.size W V → Below W.heap.size W (V.alloc o)) := fun V o hb => hb.alloc hb.size _
      clear p1 p2 key
      rcases p3 with ⟨c1, c2, c3, c4⟩ | ⟨c1, c2, c3, c4⟩ | ⟨c1, c2, c3⟩ | ⟨c1, c2, c3, c4⟩ | ⟨c1, c2, c3, c4⟩
      · go_enter Try.func4, Try.ntmps4
        go_wp2_with fail
        refine HU.out.mono ?_
        rintro r w1 ⟨rfl, hb1⟩
        have H1 := show Hid _ from hb1
        clear hb1
        go_wp2_with fail
        refine (HP.out _ H1.out).mono ?_
        rintro e w2 ⟨hb2, kk, d, p, m, cv, rfl⟩
        have H2 := show Hid _ from HA.out _ (NdB kk d (.slice p m cv)) hb2
        clear hb2
        go_wp2_with fail
        refine (HQ.out _ H2.out).mono ?_
        rintro e w3 ⟨hb3, kk2, d2, p2, m2, cv2, rfl⟩
        obtain ⟨V4, e4⟩ : ∃ V4, w3.alloc (NdB kk2 d2 (.slice p2 m2 cv2)) = V4 := ⟨_, rfl⟩
        have H4 : Hid (Below W.heap.size W V4) := by rw [← e4]; exact HA.out _ _ hb3
        have H5 : Hid (Lt V4 ao l) := HT.out _ H4.out
        clear hb3 H1 H2 HP HQ HU HT HA
        dsimp only [NdB] at e4
        have y1 : (code != 0) = true := by simpa using c1
        have y2 : (a : Int) < k := by omega
        subst c3 c4
        go_wp2_with fail
        go_ret
        exact ⟨by simp, H4.out⟩
      · have C2 := show Hid _ from c2
        clear c2
        go_enter Try.func4, Try.ntmps4
        go_wp2_with fail
        refine HU.out.mono ?_
        rintro r w1 ⟨rfl, hb1⟩
        have H1 := show Hid _ from hb1
        clear hb1
        go_wp2_with fail
        refine (HP.out _ H1.out).mono ?_
        rintro e w2 ⟨hb2, kk, d, p, m, cv, rfl⟩
        have H2 := show Hid _ from HA.out _ (NdB kk d (.slice p m cv)) hb2
        clear hb2
        go_wp2_with fail
        refine (HQ.out _ H2.out).mono ?_
        rintro e w3 ⟨hb3, kk2, d2, p2, m2, cv2, rfl⟩
        obtain ⟨V4, e4⟩ : ∃ V4, w3.alloc (NdB kk2 d2 (.slice p2 m2 cv2)) = V4 := ⟨_, rfl⟩
        have H4 : Hid (Below W.heap.size W V4) := by rw [← e4]; exact HA.out _ _ hb3
        have H5 : Hid (Lt V4 ao l) := HT.out _ H4.out
        clear hb3 H1 H2 HP HQ HU HT HA
        dsimp only [NdB] at e4
        subst c1 c3 c4
        go_wp2_with fail
        go_loopw [13, 14] (fun z i wr => ∃ (j m : Nat), i = .int .i64 j ∧ z = .int .i64 m ∧ Hid (Lst l j m) ∧ wr = V4) (fun _ i _ => l.length - (intOf i).toNat)
        case atStart => exact ⟨0, 0, rfl, rfl, lst_zero l, rfl⟩
        case round =>
          obtain ⟨j, m, rfl, rfl, HJ, rfl⟩ := hrel
          have hj1 := HJ.out.il
          have hj2 := HJ.out.le
          by_cases hjl : j < l.length
          · obtain ⟨t, ht⟩ : ∃ t, l[j]? = some t := ⟨_, List.getElem?_eq_getElem hjl⟩
            obtain ⟨bb, off, rfl, x0, xl⟩ := lt_tok H5.out ht
            have z1 : (j : Int) < l.length := by omega
            have z2 : (0 : Int) ≤ j := by omega
            have HC : Hid (cmm t = true → Lst l (j + 1) m) := fun hc => HJ.out.com ht hc
            have HN : Hid (cmm t = false → Lst l (j + 1) (j + 1)) := fun hc => HJ.out.tok ht hc
            clear ht
            cases h7 : (t.k == 7) with
            | true =>
              have h7n : (t.k != 7) = false := by simp [bne, h7]
              go_wp2_with fail
              exact ⟨⟨j + 1, m, by go_num, rfl, HC.out (by rw [cmm_is, h7]; rfl), (by first | rfl | trivial)⟩, by simp [intOf]; omega⟩
            | false =>
              have h7n : (t.k != 7) = true := by simp [bne, h7]
              cases h8 : (t.k == 8) with
              | true =>
                have h8n : (t.k != 8) = false := by simp [bne, h8]
                go_wp2_with fail
                exact ⟨⟨j + 1, m, by go_num, rfl, HC.out (by rw [cmm_is, h7, h8]; rfl), (by first | rfl | trivial)⟩, by simp [intOf]; omega⟩
              | false =>
                have h8n : (t.k != 8) = true := by simp [bne, h8]
                go_wp2_with fail
                exact ⟨⟨j + 1, j + 1, by go_num, by go_num, HN.out (by rw [cmm_is, h7, h8]; rfl), (by first | rfl | trivial)⟩, by simp [intOf]; omega⟩
          · obtain rfl : j = l.length := by omega
            have z1 : ¬ ((l.length : Int) < l.length) := by omega
            have hf := HJ.out.fin (k := k)
            have z3 : (k : Int) ≥ m := by have := hf.2 C2.out; omega
            clear hf
            go_wp2_with fail
            go_ret
            exact ⟨by simp, H4.out⟩
      · go_enter Try.func4, Try.ntmps4
        go_wp2_with fail
        refine HU.out.mono ?_
        rintro r w1 ⟨rfl, hb1⟩
        have H1 := show Hid _ from hb1
        clear hb1
        go_wp2_with fail
        refine (HP.out _ H1.out).mono ?_
        rintro e w2 ⟨hb2, kk, d, p, m, cv, rfl⟩
        have H2 := show Hid _ from HA.out _ (NdB kk d (.slice p m cv)) hb2
        clear hb2
        go_wp2_with fail
        refine (HQ.out _ H2.out).mono ?_
        rintro e w3 ⟨hb3, kk2, d2, p2, m2, cv2, rfl⟩
        obtain ⟨V4, e4⟩ : ∃ V4, w3.alloc (NdB kk2 d2 (.slice p2 m2 cv2)) = V4 := ⟨_, rfl⟩
        have H4 : Hid (Below W.heap.size W V4) := by rw [← e4]; exact HA.out _ _ hb3
        have H5 : Hid (Lt V4 ao l) := HT.out _ H4.out
        clear hb3 H1 H2 HP HQ HU HT HA
        dsimp only [NdB] at e4
        subst c1 c2
        have y2 : ¬ ((a : Int) < k) := by omega
        have y3 : (a : Int) ≥ k := by omega
        go_wp2_with fail
        go_loopw [13, 14] (fun z i wr => ∃ (j m : Nat), i = .int .i64 j ∧ z = .int .i64 m ∧ Hid (Lst l j m) ∧ wr = V4) (fun _ i _ => l.length - (intOf i).toNat)
        case atStart => exact ⟨0, 0, rfl, rfl, lst_zero l, rfl⟩
        case round =>
          obtain ⟨j, m, rfl, rfl, HJ, rfl⟩ := hrel
          have hj1 := HJ.out.il
          have hj2 := HJ.out.le
          by_cases hjl : j < l.length
          · obtain ⟨t, ht⟩ : ∃ t, l[j]? = some t := ⟨_, List.getElem?_eq_getElem hjl⟩
            obtain ⟨bb, off, rfl, x0, xl⟩ := lt_tok H5.out ht
            have z1 : (j : Int) < l.length := by omega
            have z2 : (0 : Int) ≤ j := by omega
            have HC : Hid (cmm t = true → Lst l (j + 1) m) := fun hc => HJ.out.com ht hc
            have HN : Hid (cmm t = false → Lst l (j + 1) (j + 1)) := fun hc => HJ.out.tok ht hc
            clear ht
            cases h7 : (t.k == 7) with
            | true =>
              have h7n : (t.k != 7) = false := by simp [bne, h7]
              go_wp2_with fail
              exact ⟨⟨j + 1, m, by go_num, rfl, HC.out (by rw [cmm_is, h7]; rfl), (by first | rfl | trivial)⟩, by simp [intOf]; omega⟩
            | false =>
              have h7n : (t.k != 7) = true := by simp [bne, h7]
              cases h8 : (t.k == 8) with
              | true =>
                have h8n : (t.k != 8) = false := by simp [bne, h8]
                go_wp2_with fail
                exact ⟨⟨j + 1, m, by go_num, rfl, HC.out (by rw [cmm_is, h7, h8]; rfl), (by first | rfl | trivial)⟩, by simp [intOf]; omega⟩
              | false =>
                have h8n : (t.k != 8) = true := by simp [bne, h8]
                go_wp2_with fail
                exact ⟨⟨j + 1, j + 1, by go_num, by go_num, HN.out (by rw [cmm_is, h7, h8]; rfl), (by first | rfl | trivial)⟩, by simp [intOf]; omega⟩
          · obtain rfl : j = l.length := by omega
            have z1 : ¬ ((l.length : Int) < l.length) := by omega
            have hf := HJ.out.fin (k := k)
            clear hf
            go_wp2_with fail
            go_ret
            exact ⟨by simp, H4.out⟩
      · have C4 := show Hid _ from c4
        clear c4
        go_enter Try.func4, Try.ntmps4
        go_wp2_with fail
        refine HU.out.mono ?_
        rintro r w1 ⟨rfl, hb1⟩
        have H1 := show Hid _ from hb1
        clear hb1
        go_wp2_with fail
        refine (HP.out _ H1.out).mono ?_
        rintro e w2 ⟨hb2, kk, d, p, m, cv, rfl⟩
        have H2 := show Hid _ from HA.out _ (NdB kk d (.slice p m cv)) hb2
        clear hb2
        go_wp2_with fail
        refine (HQ.out _ H2.out).mono ?_
        rintro e w3 ⟨hb3, kk2, d2, p2, m2, cv2, rfl⟩
        obtain ⟨V4, e4⟩ : ∃ V4, w3.alloc (NdB kk2 d2 (.slice p2 m2 cv2)) = V4 := ⟨_, rfl⟩
        have H4 : Hid (Below W.heap.size W V4) := by rw [← e4]; exact HA.out _ _ hb3
        have H5 : Hid (Lt V4 ao l) := HT.out _ H4.out
        clear hb3 H1 H2 HP HQ HU HT HA
        dsimp only [NdB] at e4
        subst c1 c2 c3
        go_wp2_with fail
        go_loopw [13, 14] (fun z i wr => ∃ (j m : Nat), i = .int .i64 j ∧ z = .int .i64 m ∧ Hid (Lst l j m) ∧ wr = V4) (fun _ i _ => l.length - (intOf i).toNat)
        case atStart => exact ⟨0, 0, rfl, rfl, lst_zero l, rfl⟩
        case round =>
          obtain ⟨j, m, rfl, rfl, HJ, rfl⟩ := hrel
          have hj1 := HJ.out.il
          have hj2 := HJ.out.le
          by_cases hjl : j < l.length
          · obtain ⟨t, ht⟩ : ∃ t, l[j]? = some t := ⟨_, List.getElem?_eq_getElem hjl⟩
            obtain ⟨bb, off, rfl, x0, xl⟩ := lt_tok H5.out ht
            have z1 : (j : Int) < l.length := by omega
            have z2 : (0 : Int) ≤ j := by omega
            have HC : Hid (cmm t = true → Lst l (j + 1) m) := fun hc => HJ.out.com ht hc
            have HN : Hid (cmm t = false → Lst l (j + 1) (j + 1)) := fun hc => HJ.out.tok ht hc
            clear ht
            cases h7 : (t.k == 7) with
            | true =>
              have h7n : (t.k != 7) = false := by simp [bne, h7]
              go_wp2_with fail
              exact ⟨⟨j + 1, m, by go_num, rfl, HC.out (by rw [cmm_is, h7]; rfl), (by first | rfl | trivial)⟩, by simp [intOf]; omega⟩
            | false =>
              have h7n : (t.k != 7) = true := by simp [bne, h7]
              cases h8 : (t.k == 8) with
              | true =>
                have h8n : (t.k != 8) = false := by simp [bne, h8]
                go_wp2_with fail
                exact ⟨⟨j + 1, m, by go_num, rfl, HC.out (by rw [cmm_is, h7, h8]; rfl), (by first | rfl | trivial)⟩, by simp [intOf]; omega⟩
              | false =>
                have h8n : (t.k != 8) = true := by simp [bne, h8]
                go_wp2_with fail
                exact ⟨⟨j + 1, j + 1, by go_num, by go_num, HN.out (by rw [cmm_is, h7, h8]; rfl), (by first | rfl | trivial)⟩, by simp [intOf]; omega⟩
          · obtain rfl : j = l.length := by omega
            have z1 : ¬ ((l.length : Int) < l.length) := by omega
            have hf := HJ.out.fin (k := b)
            have z3 : ¬ ((b : Int) ≥ m) := by intro hh; exact C4.out (hf.1 (by omega))
            clear hf
            go_wp2_with fail
            go_ret
            exact ⟨by simp, H4.out⟩
      · go_enter Try.func4, Try.ntmps4
        go_wp2_with fail
        refine HU.out.mono ?_
        rintro r w1 ⟨rfl, hb1⟩
        have H1 := show Hid _ from hb1
        clear hb1
        go_wp2_with fail
        refine (HP.out _ H1.out).mono ?_
        rintro e w2 ⟨hb2, kk, d, p, m, cv, rfl⟩
        have H2 := show Hid _ from HA.out _ (NdB kk d (.slice p m cv)) hb2
        clear hb2
        go_wp2_with fail
        refine (HQ.out _ H2.out).mono ?_
        rintro e w3 ⟨hb3, kk2, d2, p2, m2, cv2, rfl⟩
        obtain ⟨V4, e4⟩ : ∃ V4, w3.alloc (NdB kk2 d2 (.slice p2 m2 cv2)) = V4 := ⟨_, rfl⟩
        have H4 : Hid (Below W.heap.size W V4) := by rw [← e4]; exact HA.out _ _ hb3
        have H5 : Hid (Lt V4 ao l) := HT.out _ H4.out
        clear hb3 H1 H2 HP HQ HU HT HA
        dsimp only [NdB] at e4
        subst c1 c2
        have y1 : (code != 0) = true := by simpa using c3
        have y1b : (code == 0) = false := by simpa using c3
        have y2 : ¬ ((a : Int) < b) := by omega
        go_wp2_with fail
        go_loopw [13, 14] (fun z i wr => ∃ (j m : Nat), i = .int .i64 j ∧ z = .int .i64 m ∧ Hid (Lst l j m) ∧ wr = V4) (fun _ i _ => l.length - (intOf i).toNat)
        case atStart => exact ⟨0, 0, rfl, rfl, lst_zero l, rfl⟩
        case round =>
          obtain ⟨j, m, rfl, rfl, HJ, rfl⟩ := hrel
          have hj1 := HJ.out.il
          have hj2 := HJ.out.le
          by_cases hjl : j < l.length
          · obtain ⟨t, ht⟩ : ∃ t, l[j]? = some t := ⟨_, List.getElem?_eq_getElem hjl⟩
            obtain ⟨bb, off, rfl, x0, xl⟩ := lt_tok H5.out ht
            have z1 : (j : Int) < l.length := by omega
            have z2 : (0 : Int) ≤ j := by omega
            have HC : Hid (cmm t = true → Lst l (j + 1) m) := fun hc => HJ.out.com ht hc
            have HN : Hid (cmm t = false → Lst l (j + 1) (j + 1)) := fun hc => HJ.out.tok ht hc
            clear ht
            cases h7 : (t.k == 7) with
            | true =>
              have h7n : (t.k != 7) = false := by simp [bne, h7]
              go_wp2_with fail
              exact ⟨⟨j + 1, m, by go_num, rfl, HC.out (by rw [cmm_is, h7]; rfl), (by first | rfl | trivial)⟩, by simp [intOf]; omega⟩
            | false =>
              have h7n : (t.k != 7) = true := by simp [bne, h7]
              cases h8 : (t.k == 8) with
              | true =>
                have h8n : (t.k != 8) = false := by simp [bne, h8]
                go_wp2_with fail
                exact ⟨⟨j + 1, m, by go_num, rfl, HC.out (by rw [cmm_is, h7, h8]; rfl), (by first | rfl | trivial)⟩, by simp [intOf]; omega⟩
              | false =>
                have h8n : (t.k != 8) = true := by simp [bne, h8]
                go_wp2_with fail
                exact ⟨⟨j + 1, j + 1, by go_num, by go_num, HN.out (by rw [cmm_is, h7, h8]; rfl), (by first | rfl | trivial)⟩, by simp [intOf]; omega⟩
          · obtain rfl : j = l.length := by omega
            have z1 : ¬ ((l.length : Int) < l.length) := by omega
            have hf := HJ.out.fin (k := b)
            clear hf
            go_wp2_with fail
            go_ret
            exact ⟨by simp, H4.out⟩
    · obtain ⟨k, hk⟩ : ∃ k : Nat, cut.tmod ((l.length : Int) + 1) = (k : Int) := ⟨(cut.tmod ((l.length : Int) + 1)).toNat, by
        have := Int.tmod_nonneg (a := cut) ((l.length : Int) + 1) (by omega)
        omega⟩
      have hkl : k ≤ l.length := by
        have := Int.tmod_lt_of_pos cut (b := (l.length : Int) + 1) (by omega)
        omega
      obtain ⟨code, f, a, b, p1, p2, p3⟩ := key k hkl
      have HP := show Hid _ from p1
      have HQ := show Hid _ from p2
      have HA : Hid (∀ V o, Below W.heap.size W V → Below W.heap.size W (V.alloc o)) := fun V o hb => hb.alloc hb.size _
      clear p1 p2 key
      rcases p3 with ⟨c1, c2, c3, c4⟩ | ⟨c1, c2, c3, c4⟩ | ⟨c1, c2, c3⟩ | ⟨c1, c2, c3, c4⟩ | ⟨c1, c2, c3, c4⟩
      · go_enter Try.func4, Try.ntmps4
        go_wp2_with fail
        refine HU.out.mono ?_
        rintro r w1 ⟨rfl, hb1⟩
        have H1 := show Hid _ from hb1
        clear hb1
        go_wp2_with fail
        refine (HP.out _ H1.out).mono ?_
        rintro e w2 ⟨hb2, kk, d, p, m, cv, rfl⟩
        have H2 := show Hid _ from HA.out _ (NdB kk d (.slice p m cv)) hb2
        clear hb2
        go_wp2_with fail
        refine (HQ.out _ H2.out).mono ?_
        rintro e w3 ⟨hb3, kk2, d2, p2, m2, cv2, rfl⟩
        obtain ⟨V4, e4⟩ : ∃ V4, w3.alloc (NdB kk2 d2 (.slice p2 m2 cv2)) = V4 := ⟨_, rfl⟩
        have H4 : Hid (Below W.heap.size W V4) := by rw [← e4]; exact HA.out _ _ hb3
        have H5 : Hid (Lt V4 ao l) := HT.out _ H4.out
        clear hb3 H1 H2 HP HQ HU HT HA
        dsimp only [NdB] at e4
        have y1 : (code != 0) = true := by simpa using c1
        have y2 : (a : Int) < k := by omega
        subst c3 c4
        go_wp2_with fail
        go_ret
        exact ⟨by simp, H4.out⟩
      · have C2 := show Hid _ from c2
        clear c2
        go_enter Try.func4, Try.ntmps4
        go_wp2_with fail
        refine HU.out.mono ?_
        rintro r w1 ⟨rfl, hb1⟩
        have H1 := show Hid _ from hb1
        clear hb1
        go_wp2_with fail
        refine (HP.out _ H1.out).mono ?_
        rintro e w2 ⟨hb2, kk, d, p, m, cv, rfl⟩
        have H2 := show Hid _ from HA.out _ (NdB kk d (.slice p m cv)) hb2
        clear hb2
        go_wp2_with fail
        refine (HQ.out _ H2.out).mono ?_
        rintro e w3 ⟨hb3, kk2, d2, p2, m2, cv2, rfl⟩
        obtain ⟨V4, e4⟩ : ∃ V4, w3.alloc (NdB kk2 d2 (.slice p2 m2 cv2)) = V4 := ⟨_, rfl⟩
        have H4 : Hid (Below W.heap.size W V4) := by rw [← e4]; exact HA.out _ _ hb3
        have H5 : Hid (Lt V4 ao l) := HT.out _ H4.out
        clear hb3 H1 H2 HP HQ HU HT HA
        dsimp only [NdB] at e4
        subst c1 c3 c4
        go_wp2_with fail
        go_loopw [13, 14] (fun z i wr => ∃ (j m : Nat), i = .int .i64 j ∧ z = .int .i64 m ∧ Hid (Lst l j m) ∧ wr = V4) (fun _ i _ => l.length - (intOf i).toNat)
        case atStart => exact ⟨0, 0, rfl, rfl, lst_zero l, rfl⟩
        case round =>
          obtain ⟨j, m, rfl, rfl, HJ, rfl⟩ := hrel
          have hj1 := HJ.out.il
          have hj2 := HJ.out.le
          by_cases hjl : j < l.length
          · obtain ⟨t, ht⟩ : ∃ t, l[j]? = some t := ⟨_, List.getElem?_eq_getElem hjl⟩
            obtain ⟨bb, off, rfl, x0, xl⟩ := lt_tok H5.out ht
            have z1 : (j : Int) < l.length := by omega
            have z2 : (0 : Int) ≤ j := by omega
            have HC : Hid (cmm t = true → Lst l (j + 1) m) := fun hc => HJ.out.com ht hc
            have HN : Hid (cmm t = false → Lst l (j + 1) (j + 1)) := fun hc => HJ.out.tok ht hc
            clear ht
            cases h7 : (t.k == 7) with
            | true =>
              have h7n : (t.k != 7) = false := by simp [bne, h7]
              go_wp2_with fail
              exact ⟨⟨j + 1, m, by go_num, rfl, HC.out (by rw [cmm_is, h7]; rfl), (by first | rfl | trivial)⟩, by simp [intOf]; omega⟩
            | false =>
              have h7n : (t.k != 7) = true := by simp [bne, h7]
              cases h8 : (t.k == 8) with
              | true =>
                have h8n : (t.k != 8) = false := by simp [bne, h8]
                go_wp2_with fail
                exact ⟨⟨j + 1, m, by go_num, rfl, HC.out (by rw [cmm_is, h7, h8]; rfl), (by first | rfl | trivial)⟩, by simp [intOf]; omega⟩
              | false =>
                have h8n : (t.k != 8) = true := by simp [bne, h8]
                go_wp2_with fail
                exact ⟨⟨j + 1, j + 1, by go_num, by go_num, HN.out (by rw [cmm_is, h7, h8]; rfl), (by first | rfl | trivial)⟩, by simp [intOf]; omega⟩
          · obtain rfl : j = l.length := by omega
            have z1 : ¬ ((l.length : Int) < l.length) := by omega
            have hf := HJ.out.fin (k := k)
            have z3 : (k : Int) ≥ m := by have := hf.2 C2.out; omega
            clear hf
            go_wp2_with fail
            go_ret
            exact ⟨by simp, H4.out⟩
      · go_enter Try.func4, Try.ntmps4
        go_wp2_with fail
        refine HU.out.mono ?_
        rintro r w1 ⟨rfl, hb1⟩
        have H1 := show Hid _ from hb1
        clear hb1
        go_wp2_with fail
        refine (HP.out _ H1.out).mono ?_
        rintro e w2 ⟨hb2, kk, d, p, m, cv, rfl⟩
        have H2 := show Hid _ from HA.out _ (NdB kk d (.slice p m cv)) hb2
        clear hb2
        go_wp2_with fail
        refine (HQ.out _ H2.out).mono ?_
        rintro e w3 ⟨hb3, kk2, d2, p2, m2, cv2, rfl⟩
        obtain ⟨V4, e4⟩ : ∃ V4, w3.alloc (NdB kk2 d2 (.slice p2 m2 cv2)) = V4 := ⟨_, rfl⟩
        have H4 : Hid (Below W.heap.size W V4) := by rw [← e4]; exact HA.out _ _ hb3
        have H5 : Hid (Lt V4 ao l) := HT.out _ H4.out
        clear hb3 H1 H2 HP HQ HU HT HA
        dsimp only [NdB] at e4
        subst c1 c2
        have y2 : ¬ ((a : Int) < k) := by omega
        have y3 : (a : Int) ≥ k := by omega
        go_wp2_with fail
        go_loopw [13, 14] (fun z i wr => ∃ (j m : Nat), i = .int .i64 j ∧ z = .int .i64 m ∧ Hid (Lst l j m) ∧ wr = V4) (fun _ i _ => l.length - (intOf i).toNat)
        case atStart => exact ⟨0, 0, rfl, rfl, lst_zero l, rfl⟩
        case round =>
          obtain ⟨j, m, rfl, rfl, HJ, rfl⟩ := hrel
          have hj1 := HJ.out.il
          have hj2 := HJ.out.le
          by_cases hjl : j < l.length
          · obtain ⟨t, ht⟩ : ∃ t, l[j]? = some t := ⟨_, List.getElem?_eq_getElem hjl⟩
            obtain ⟨bb, off, rfl, x0, xl⟩ := lt_tok H5.out ht
            have z1 : (j : Int) < l.length := by omega
            have z2 : (0 : Int) ≤ j := by omega
            have HC : Hid (cmm t = true → Lst l (j + 1) m) := fun hc => HJ.out.com ht hc
            have HN : Hid (cmm t = false → Lst l (j + 1) (j + 1)) := fun hc => HJ.out.tok ht hc
            clear ht
            cases h7 : (t.k == 7) with
            | true =>
              have h7n : (t.k != 7) = false := by simp [bne, h7]
              go_wp2_with fail
              exact ⟨⟨j + 1, m, by go_num, rfl, HC.out (by rw [cmm_is, h7]; rfl), (by first | rfl | trivial)⟩, by simp [intOf]; omega⟩
            | false =>
              have h7n : (t.k != 7) = true := by simp [bne, h7]
              cases h8 : (t.k == 8) with
              | true =>
                have h8n : (t.k != 8) = false := by simp [bne, h8]
                go_wp2_with fail
                exact ⟨⟨j + 1, m, by go_num, rfl, HC.out (by rw [cmm_is, h7, h8]; rfl), (by first | rfl | trivial)⟩, by simp [intOf]; omega⟩
              | false =>
                have h8n : (t.k != 8) = true := by simp [bne, h8]
                go_wp2_with fail
                exact ⟨⟨j + 1, j + 1, by go_num, by go_num, HN.out (by rw [cmm_is, h7, h8]; rfl), (by first | rfl | trivial)⟩, by simp [intOf]; omega⟩
          · obtain rfl : j = l.length := by omega
            have z1 : ¬ ((l.length : Int) < l.length) := by omega
            have hf := HJ.out.fin (k := k)
            clear hf
            go_wp2_with fail
            go_ret
            exact ⟨by simp, H4.out⟩
      · have C4 := show Hid _ from c4
        clear c4
        go_enter Try.func4, Try.ntmps4
        go_wp2_with fail
        refine HU.out.mono ?_
        rintro r w1 ⟨rfl, hb1⟩
        have H1 := show Hid _ from hb1
        clear hb1
        go_wp2_with fail
        refine (HP.out _ H1.out).mono ?_
        rintro e w2 ⟨hb2, kk, d, p, m, cv, rfl⟩
        have H2 := show Hid _ from HA.out _ (NdB kk d (.slice p m cv)) hb2
        clear hb2
        go_wp2_with fail
        refine (HQ.out _ H2.out).mono ?_
        rintro e w3 ⟨hb3, kk2, d2, p2, m2, cv2, rfl⟩
        obtain ⟨V4, e4⟩ : ∃ V4, w3.alloc (NdB kk2 d2 (.slice p2 m2 cv2)) = V4 := ⟨_, rfl⟩
        have H4 : Hid (Below W.heap.size W V4) := by rw [← e4]; exact HA.out _ _ hb3
        have H5 : Hid (Lt V4 ao l) := HT.out _ H4.out
        clear hb3 H1 H2 HP HQ HU HT HA
        dsimp only [NdB] at e4
        subst c1 c2 c3
        go_wp2_with fail
        go_loopw [13, 14] (fun z i wr => ∃ (j m : Nat), i = .int .i64 j ∧ z = .int .i64 m ∧ Hid (Lst l j m) ∧ wr = V4) (fun _ i _ => l.length - (intOf i).toNat)
        case atStart => exact ⟨0, 0, rfl, rfl, lst_zero l, rfl⟩
        case round =>
          obtain ⟨j, m, rfl, rfl, HJ, rfl⟩ := hrel
          have hj1 := HJ.out.il
          have hj2 := HJ.out.le
          by_cases hjl : j < l.length
          · obtain ⟨t, ht⟩ : ∃ t, l[j]? = some t := ⟨_, List.getElem?_eq_getElem hjl⟩
            obtain ⟨bb, off, rfl, x0, xl⟩ := lt_tok H5.out ht
            have z1 : (j : Int) < l.length := by omega
            have z2 : (0 : Int) ≤ j := by omega
            have HC : Hid (cmm t = true → Lst l (j + 1) m) := fun hc => HJ.out.com ht hc
            have HN : Hid (cmm t = false → Lst l (j + 1) (j + 1)) := fun hc => HJ.out.tok ht hc
            clear ht
            cases h7 : (t.k == 7) with
            | true =>
              have h7n : (t.k != 7) = false := by simp [bne, h7]
              go_wp2_with fail
              exact ⟨⟨j + 1, m, by go_num, rfl, HC.out (by rw [cmm_is, h7]; rfl), (by first | rfl | trivial)⟩, by simp [intOf]; omega⟩
            | false =>
              have h7n : (t.k != 7) = true := by simp [bne, h7]
              cases h8 : (t.k == 8) with
              | true =>
                have h8n : (t.k != 8) = false := by simp [bne, h8]
                go_wp2_with fail
                exact ⟨⟨j + 1, m, by go_num, rfl, HC.out (by rw [cmm_is, h7, h8]; rfl), (by first | rfl | trivial)⟩, by simp [intOf]; omega⟩
              | false =>
                have h8n : (t.k != 8) = true := by simp [bne, h8]
                go_wp2_with fail
                exact ⟨⟨j + 1, j + 1, by go_num, by go_num, HN.out (by rw [cmm_is, h7, h8]; rfl), (by first | rfl | trivial)⟩, by simp [intOf]; omega⟩
          · obtain rfl : j = l.length := by omega
            have z1 : ¬ ((l.length : Int) < l.length) := by omega
            have hf := HJ.out.fin (k := b)
            have z3 : ¬ ((b : Int) ≥ m) := by intro hh; exact C4.out (hf.1 (by omega))
            clear hf
            go_wp2_with fail
            go_ret
            exact ⟨by simp, H4.out⟩
      · go_enter Try.func4, Try.ntmps4
        go_wp2_with fail
        refine HU.out.mono ?_
        rintro r w1 ⟨rfl, hb1⟩
        have H1 := show Hid _ from hb1
        clear hb1
        go_wp2_with fail
        refine (HP.out _ H1.out).mono ?_
        rintro e w2 ⟨hb2, kk, d, p, m, cv, rfl⟩
        have H2 := show Hid _ from HA.out _ (NdB kk d (.slice p m cv)) hb2
        clear hb2
        go_wp2_with fail
        refine (HQ.out _ H2.out).mono ?_
        rintro e w3 ⟨hb3, kk2, d2, p2, m2, cv2, rfl⟩
        obtain ⟨V4, e4⟩ : ∃ V4, w3.alloc (NdB kk2 d2 (.slice p2 m2 cv2)) = V4 := ⟨_, rfl⟩
        have H4 : Hid (Below W.heap.size W V4) := by rw [← e4]; exact HA.out _ _ hb3
        have H5 : Hid (Lt V4 ao l) := HT.out _ H4.out
        clear hb3 H1 H2 HP HQ HU HT HA
        dsimp only [NdB] at e4
        subst c1 c2
        have y1 : (code != 0) = true := by simpa using c3
        have y1b : (code == 0) = false := by simpa using c3
        have y2 : ¬ ((a : Int) < b) := by omega
        go_wp2_with fail
        go_loopw [13, 14] (fun z i wr => ∃ (j m : Nat), i = .int .i64 j ∧ z = .int .i64 m ∧ Hid (Lst l j m) ∧ wr = V4) (fun _ i _ => l.length - (intOf i).toNat)
        case atStart => exact ⟨0, 0, rfl, rfl, lst_zero l, rfl⟩
        case round =>
          obtain ⟨j, m, rfl, rfl, HJ, rfl⟩ := hrel
          have hj1 := HJ.out.il
          have hj2 := HJ.out.le
          by_cases hjl : j < l.length
          · obtain ⟨t, ht⟩ : ∃ t, l[j]? = some t := ⟨_, List.getElem?_eq_getElem hjl⟩
            obtain ⟨bb, off, rfl, x0, xl⟩ := lt_tok H5.out ht
            have z1 : (j : Int) < l.length := by omega
            have z2 : (0 : Int) ≤ j := by omega
            have HC : Hid (cmm t = true → Lst l (j + 1) m) := fun hc => HJ.out.com ht hc
            have HN : Hid (cmm t = false → Lst l (j + 1) (j + 1)) := fun hc => HJ.out.tok ht hc
            clear ht
            cases h7 : (t.k == 7) with
            | true =>
              have h7n : (t.k != 7) = false := by simp [bne, h7]
              go_wp2_with fail
              exact ⟨⟨j + 1, m, by go_num, rfl, HC.out (by rw [cmm_is, h7]; rfl), (by first | rfl | trivial)⟩, by simp [intOf]; omega⟩
            | false =>
              have h7n : (t.k != 7) = true := by simp [bne, h7]
              cases h8 : (t.k == 8) with
              | true =>
                have h8n : (t.k != 8) = false := by simp [bne, h8]
                go_wp2_with fail
                exact ⟨⟨j + 1, m, by go_num, rfl, HC.out (by rw [cmm_is, h7, h8]; rfl), (by first | rfl | trivial)⟩, by simp [intOf]; omega⟩
              | false =>
                have h8n : (t.k != 8) = true := by simp [bne, h8]
                go_wp2_with fail
                exact ⟨⟨j + 1, j + 1, by go_num, by go_num, HN.out (by rw [cmm_is, h7, h8]; rfl), (by first | rfl | trivial)⟩, by simp [intOf]; omega⟩
          · obtain rfl : j = l.length := by omega
            have z1 : ¬ ((l.length : Int) < l.length) := by omega
            have hf := HJ.out.fin (k := b)
            clear hf
            go_wp2_with fail
            go_ret
            exact ⟨by simp, H4.out⟩

end Go.Proofs.Ytkigadnkclkopaa
