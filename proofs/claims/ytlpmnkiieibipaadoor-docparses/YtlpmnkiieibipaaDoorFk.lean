import Derived.Test.YtlpmnkiieibipaaDoorFh
import Derived.Test.YtlpmnkiieibipaaDoorFi
import Derived.Test.YtlpmnkiieibipaaDoorFj
set_option linter.unusedVariables false
set_option linter.unusedSimpArgs false
namespace Go.Proofs.YtlpmnkiieibipaaDoor
open Go.RowKit

theorem piece_any (s : ByteArray) (hs : s.size ≤ 100000000) (w : World) : Calls Tryd.prog 24 #[.string s] w fun e w' => e = .returned (.tuple #[((rd (ls s)).getD z0).v, .bool (rd (ls s)).isSome]) ∧ Below w.heap.size w w' := by
  have HF : Hid ((cands (ls s)).find? (fit (ls s)) = rd (ls s)) := find_rd (ls s)
  by_cases h5 : 5 < s.size
  · by_cases h6 : 6 < s.size
    · exact piece_c s hs h6 w _ HF
    · exact piece_b s hs h5 h6 w _ HF
  · exact piece_a s hs h5 w _ HF

/-! The document's Parse. -/
theorem no10_of {L : List UInt8} {f k : Nat} (hno : ∀ j, f ≤ j → j < k → L.getD j 0 ≠ 10) : (10 : UInt8) ∉ (L.take k).drop f := by
  intro hm
  obtain ⟨i, hi⟩ := List.mem_iff_getElem?.1 hm
  rw [List.getElem?_drop] at hi
  have h1 := (List.getElem?_eq_some_iff.1 hi).1
  rw [List.length_take] at h1
  rw [List.getElem?_take_of_lt (by omega)] at hi
  exact hno (f + i) (by omega) (by omega) (by simp [List.getD, hi])
theorem ln_at {L : List UInt8} {f k : Nat} (hf : f ≤ k) (hk : k < L.length) (h10 : L.getD k 0 = 10) (hno : ∀ j, f ≤ j → j < k → L.getD j 0 ≠ 10) :
    (10 : UInt8) ∈ L.drop f ∧ ln1 (L.drop f) = (L.take k).drop f ∧ ln2 (L.drop f) = L.drop (k + 1) := by
  have hk' : L[k] = 10 := by simpa [List.getD, hk] using h10
  have e : L.drop f = (L.take k).drop f ++ 10 :: L.drop (k + 1) := by
    conv => lhs; rw [← List.take_append_drop k L]
    rw [List.drop_append_of_le_length (by rw [List.length_take]; omega), List.drop_eq_getElem_cons hk, hk']
  obtain ⟨a, b⟩ := ln_of ((L.take k).drop f) (L.drop (k + 1)) (no10_of hno)
  rw [e]
  exact ⟨by simp, a, b⟩
theorem ls_cut (s : ByteArray) (f k : Nat) (hk : k ≤ s.size) : ls (s.extract f k) = ((ls s).take k).drop f := ls_extract s f k hk

set_option maxHeartbeats 2000000 in
set_option maxRecDepth 100000 in
theorem rparse_any (s : ByteArray) (hs : s.size ≤ 9223372036854775807) (w : World) : Calls Tryd.prog 16 #[.string s] w fun e w' => PV w s e w' := by
  have hz : (ls s).length = s.size := ls_len s
  by_cases hbig : 4194304 < s.size
  · have q0 : (4194304 : Int) < s.size := by omega
    have HP : Hid (prs (ls s) = ([], 2, 0)) := by show _ = _; unfold prs; rw [if_pos (by omega)]
    clear hz
    go_enter Tryd.func16, Tryd.ntmps16
    go_wp2_with fail
    go_ret3
    unfold PV
    rw [HP.out]
    exact ⟨⟨_, rfl, rp_nil _ _⟩, Below.refl _ _⟩
  have q0 : ¬ (4194304 : Int) < s.size := by omega
  have HP : Hid (prs (ls s) = if (prs1 (ls s) []).2 = false then (([] : List Dc), (71 : Int), (((prs1 (ls s) []).1.length + 1 : Nat) : Int)) else if (chk (prs1 (ls s) []).1).1 ≠ 0 then ([], (chk (prs1 (ls s) []).1).1, (chk (prs1 (ls s) []).1).2 + 1) else ((prs1 (ls s) []).1, 0, 0)) := by
    show _ = _; conv => lhs; unfold prs
    rw [if_neg (by omega)]
  go_enter Tryd.func16, Tryd.ntmps16
  go_wp2_with fail
  go_loopw [5, 6, 7] (fun b x i wr => ∃ (f k : Nat) (acc : List Dc), f ≤ k ∧ k ≤ s.size ∧ acc.length ≤ f ∧ x = .int .i64 f ∧ i = .int .i64 k ∧ Hid (prs1 ((ls s).drop f) acc = prs1 (ls s) [] ∧ (∀ j, f ≤ j → j < k → (ls s).getD j 0 ≠ 10) ∧ (∀ d ∈ acc, rt d = true) ∧ Rp w.heap.size wr b acc ∧ Below w.heap.size w wr)) (fun _ _ i _ => s.size - (intOf i).toNat)
  case atStart => exact ⟨0, 0, [], by omega, by omega, by simp, rfl, rfl, rfl, fun j _ h => by omega, by simp, rp_nil _ _, Below.refl _ _⟩
  case round =>
    obtain ⟨f, k, acc, hfk, hk, hal, rfl, rfl, HI⟩ := hrel
    obtain ⟨e1, hno, hrt, hr, hw⟩ := HI.out
    by_cases hlt : k < s.size
    · have q1 : (k : Int) < s.size := by omega
      have q2 : (0 : Int) ≤ k := by omega
      obtain ⟨c, hc⟩ : ∃ c, s[k] = c := ⟨_, rfl⟩
      have hg := at_ls s k hlt
      rw [hc] at hg
      obtain ⟨p, cap, rfl, hc1, hc2⟩ := hr.shape
      by_cases h10 : c = 10
      · subst h10
        obtain ⟨a1, a2, a3⟩ := ln_at hfk (by omega) hg hno
        obtain ⟨x, hx⟩ : ∃ x, s.extract f k = x := ⟨_, rfl⟩
        have hlx : ls x = ln1 ((ls s).drop f) := by rw [← hx, ls_cut s f k (by omega), a2]
        have hxs : x.size ≤ s.size := by rw [← ls_len, ← hx, ls_cut s f k (by omega), List.length_drop, List.length_take]; omega
        obtain ⟨o, ho⟩ : ∃ o, rd (ls x) = o := ⟨_, rfl⟩
        have HL : Hid (∀ W, Calls Tryd.prog 24 #[.string x] W fun e w' => e = .returned (.tuple #[(o.getD z0).v, .bool o.isSome]) ∧ Below W.heap.size W w') := fun W => by
          have := piece_any x (by omega) W
          rw [ho] at this
          exact this
        rw [hlx] at ho
        have HR : Hid (Rp w.heap.size wr (.slice p acc.length cap) acc ∧ Below w.heap.size w wr) := ⟨hr, hw⟩
        have q3 : (f : Int) ≤ k := by omega
        have q4 : (k : Int) ≤ s.size := by omega
        have q5 : (0 : Int) ≤ f := by omega
        cases o with
        | none =>
          have HQ : Hid (prs (ls s) = ([], 71, ((acc.length + 1 : Nat) : Int))) := by
            show _ = _; rw [HP.out, ← e1, prs1_bad acc a1 ho]; rfl
          simp only [Option.getD_none, Option.isSome_none, z0, Dc.v] at HL
          clear HI e1 hr hw hrt hno a1 a2 a3 ho HP hlx hg hz
          go_wp2_with (go_at_call 24; (try rw [hx]); refine (HL.out _).mono ?_; rintro e w1 ⟨rfl, hb1⟩; have HB1 : Hid (Below w.heap.size w w1) := HR.out.2.trans (hb1.mono HR.out.2.size); clear hb1)
          go_ret3
          unfold PV
          rw [HQ.out]
          exact ⟨⟨_, rfl, rp_nil _ _⟩, HB1.out.alloc HB1.out.size _⟩
        | some d =>
          obtain ⟨hd1, hd2⟩ := rd_of ho
          have HE : Hid (prs1 ((ls s).drop (k + 1)) (acc ++ [d]) = prs1 (ls s) [] ∧ (∀ z ∈ acc ++ [d], rt z = true)) := by
            refine ⟨?_, ?_⟩
            · rw [← a3, ← e1, prs1_good acc a1 ho]
            · intro z hz
              rcases List.mem_append.1 hz with h | h
              · exact hrt z h
              · simp at h; subst h; exact hd1
          simp only [Option.getD_some, Option.isSome_some, Dc.v] at HL
          have hal2 : acc.length ≤ 1000000000 := by omega
          clear HI e1 hr hw hrt hno a1 a2 a3 ho HP hlx hg hz hd1 hd2
          go_wp2_with (first | (go_at_call 24; (try rw [hx]); refine (HL.out _).mono ?_; rintro e w2 ⟨rfl, hb2⟩; have HB2 : Hid (Rp w.heap.size w2 (.slice p acc.length cap) acc ∧ Below w.heap.size w w2) := ⟨HR.out.1.below hb2, HR.out.2.trans (hb2.mono HR.out.2.size)⟩; clear hb2) | (at_builtin; refine app_piece rfl _ _ rfl w.heap.size (.slice p acc.length cap) acc d rfl ((HB2.out.1.below ((Below.refl _ _).alloc (Nat.le_refl _) _)).below ((Below.refl _ _).alloc (Nat.le_refl _) _)) _ _ rfl (heap_new2 _ _ _) hal2 (by rw [World.size_alloc, World.size_alloc]; have := HB2.out.2.size; omega) ?_))
          intro v3 w3 hr3 hb3 _ _
          obtain ⟨p3, cp3, rfl, _, _⟩ := hr3.shape
          have HR3 : Hid (Rp w.heap.size w3 (.slice p3 (acc ++ [d]).length cp3) (acc ++ [d]) ∧ Below w.heap.size w w3) := ⟨hr3, ((HB2.out.2.alloc HB2.out.2.size _).alloc (by rw [World.size_alloc]; have := HB2.out.2.size; omega) _).trans hb3⟩
          have HN : Hid ((acc ++ [d]).length = acc.length + 1) := by show _ = _; simp
          obtain ⟨nn, hnn⟩ : ∃ nn, (acc ++ [d]).length = nn := ⟨_, rfl⟩
          rw [hnn] at HR3 ⊢
          clear hr3 hb3 hnn
          go_wp2_with fail
          exact ⟨⟨k + 1, k + 1, acc ++ [d], Nat.le_refl _, hlt, by rw [HN.out]; omega, by go_num, by go_num, HE.out.1, (fun j h1 h2 => by omega), HE.out.2, HR3.out⟩, by simp [intOf]; omega⟩
      · have hne : ((c.toNat : Int) == 10) = false := u8_ne c 10 h10
        have hne2 : ((c.toNat : Int) != 10) = true := by rw [bne, hne]; rfl
        have HZ : Hid (prs1 ((ls s).drop f) acc = prs1 (ls s) [] ∧ (∀ j, f ≤ j → j < k + 1 → (ls s).getD j 0 ≠ 10) ∧ (∀ d ∈ acc, rt d = true) ∧ Rp w.heap.size wr (.slice p acc.length cap) acc ∧ Below w.heap.size w wr) := by
          refine ⟨e1, fun j h1 h2 => ?_, hrt, hr, hw⟩
          by_cases hj : j = k
          · subst hj; rw [hg]; exact h10
          · exact hno j h1 (by omega)
        clear HI e1 hno hrt hr hw hg
        go_wp2_with fail
        exact ⟨⟨f, k + 1, acc, by omega, hlt, hal, rfl, by go_num, HZ⟩, by simp [intOf]; omega⟩
    · obtain rfl : k = s.size := by omega
      have q1 : ¬ ((s.size : Int) < s.size) := by omega
      by_cases hfs : f < s.size
      · have q3 : (f : Int) < s.size := by omega
        have h10 : (10 : UInt8) ∉ (ls s).drop f := by
          have := no10_of hno
          rwa [← hz, List.take_length] at this
        have hne : (ls s).drop f ≠ [] := by intro h; have := congrArg List.length h; rw [List.length_drop] at this; simp at this; omega
        have HQ : Hid (prs (ls s) = ([], 71, ((acc.length + 1 : Nat) : Int))) := by
          show _ = _; rw [HP.out, ← e1, prs1_no acc hne h10]; rfl
        obtain ⟨p, cap, rfl, hc1, hc2⟩ := hr.shape
        have HW : Hid (Below w.heap.size w wr) := hw
        clear HI e1 hr hw hrt hno h10 hne HP hz
        go_wp2_with fail
        go_ret3
        unfold PV
        rw [HQ.out]
        exact ⟨⟨_, rfl, rp_nil _ _⟩, HW.out⟩
      · have q3 : ¬ (f : Int) < s.size := by omega
        rw [List.drop_eq_nil_of_le (by omega), prs1_nil] at e1
        have HQ : Hid (prs (ls s) = if (chk acc).1 ≠ 0 then ([], (chk acc).1, (chk acc).2 + 1) else (acc, 0, 0)) := by
          show _ = _; rw [HP.out, ← e1]; simp
        obtain ⟨ao, cap, rfl, hn, hL, hao, hcap, hcm⟩ := Lay.row hr (fun d hd => rt_size (hrt d hd))
        have HC : Hid (Calls Tryd.prog 11 #[.slice ao acc.length cap] wr fun e w' => e = .returned (.tuple #[.int .i64 (chk acc).1, .int .i64 (chk acc).2]) ∧ Below wr.heap.size wr w') := rcheck_any ao acc cap wr hL (by omega)
        have HR : Hid (Rp w.heap.size wr (.slice ao acc.length cap) acc ∧ Below w.heap.size w wr) := ⟨hr, hw⟩
        obtain ⟨b0, b1, b2, b3⟩ := chk_bd acc
        clear HI e1 hr hw hL hao hn HP hrt hno hz
        generalize (chk acc).1 = k1 at *
        generalize (chk acc).2 = k2 at *
        by_cases hk0 : k1 = 0
        · subst hk0
          go_wp2_with (go_at_call 11; refine HC.out.mono ?_; rintro e w1 ⟨rfl, hb1⟩)
          go_ret3
          unfold PV
          rw [HQ.out]
          exact ⟨⟨_, rfl, HR.out.1.below hb1⟩, HR.out.2.trans (hb1.mono HR.out.2.size)⟩
        · go_wp2_with (go_at_call 11; refine HC.out.mono ?_; rintro e w1 ⟨rfl, hb1⟩)
          go_ret3
          unfold PV
          rw [HQ.out, if_pos hk0]
          exact ⟨⟨_, rfl, rp_nil _ _⟩, HR.out.2.trans (hb1.mono HR.out.2.size)⟩
end Go.Proofs.YtlpmnkiieibipaaDoor
