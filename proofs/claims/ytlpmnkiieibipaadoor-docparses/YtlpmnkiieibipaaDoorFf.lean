import Derived.Test.YtlpmnkiieibipaaDoorFe
import Derived.Test.YtlpmnkiieibipaaDoorDm
set_option linter.unusedVariables false
set_option linter.unusedSimpArgs false
namespace Go.Proofs.YtlpmnkiieibipaaDoor
open Go.RowKit

/-! The document's plain. -/
theorem getD_drop (L : List UInt8) (k i : Nat) : (L.drop k).getD i 0 = L.getD (k + i) 0 := by simp [List.getD]
theorem pln_at (L : List UInt8) (k : Nat) (h : k < L.length) : pln (L.drop k) = (ps (L.drop k)).1 :: pln (L.drop (k + (ps (L.drop k)).2)) := by
  rw [pln_step (by intro e; have := congrArg List.length e; rw [List.length_drop] at this; simp at this; omega), List.drop_drop]
theorem pln_A (L : List UInt8) (k : Nat) (h : k + 3 < L.length) (h0 : L.getD k 0 = 92) (h1 : L.getD (k + 1) 0 = 120) (h2 : dgt (L.getD (k + 2) 0) < 16) (h3 : dgt (L.getD (k + 3) 0) < 16) :
    pln (L.drop k) = UInt8.ofNat (16 * dgt (L.getD (k + 2) 0) + dgt (L.getD (k + 3) 0)) :: pln (L.drop (k + 4)) := by
  have e : ps (L.drop k) = (UInt8.ofNat (16 * dgt (L.getD (k + 2) 0) + dgt (L.getD (k + 3) 0)), 4) := by
    unfold ps
    rw [getD_drop, getD_drop, getD_drop, getD_drop, List.length_drop, if_pos ⟨h0, by omega, h1, h2, h3⟩]
  rw [pln_at L k (by omega), e]
theorem pln_B (L : List UInt8) (k : Nat) (h : k + 1 < L.length) (h0 : L.getD k 0 = 92) (hn : ¬ (k + 3 < L.length ∧ L.getD (k + 1) 0 = 120 ∧ dgt (L.getD (k + 2) 0) < 16 ∧ dgt (L.getD (k + 3) 0) < 16)) :
    pln (L.drop k) = L.getD (k + 1) 0 :: pln (L.drop (k + 2)) := by
  have e : ps (L.drop k) = (L.getD (k + 1) 0, 2) := by
    unfold ps
    rw [getD_drop, getD_drop, getD_drop, getD_drop, List.length_drop, if_neg (by rintro ⟨_, a, b⟩; exact hn ⟨by omega, b⟩), if_pos ⟨h0, by omega⟩]
  rw [pln_at L k (by omega), e]
theorem pln_C (L : List UInt8) (k : Nat) (h : k < L.length) (hn : ¬ (L.getD k 0 = 92 ∧ k + 1 < L.length)) : pln (L.drop k) = L.getD k 0 :: pln (L.drop (k + 1)) := by
  have e : ps (L.drop k) = (L.getD k 0, 1) := by
    unfold ps
    rw [getD_drop, getD_drop, getD_drop, getD_drop, List.length_drop, if_neg (by rintro ⟨a, b, _⟩; exact hn ⟨a, by omega⟩), if_neg (by rintro ⟨a, b⟩; exact hn ⟨a, by omega⟩), Nat.add_zero]
  rw [pln_at L k (by omega), e]

set_option maxHeartbeats 4000000 in
set_option maxRecDepth 100000 in
theorem plain_any (s : ByteArray) (hs : s.size ≤ 100000000) (w : World) : Calls Tryd.prog 37 #[.string s] w fun e w' => e = .returned (.string ⟨(pln (ls s)).toArray⟩) ∧ Below w.heap.size w w' := by
  obtain ⟨R, hR⟩ : ∃ R, pln (ls s) = R := ⟨_, rfl⟩
  have HR : Hid (pln (ls s) = R) := hR
  rw [hR]
  clear hR
  have HD : Hid (∀ (c : UInt8) W, Calls Tryd.prog 47 #[.int .u8 (c.toNat : Int)] W fun e w' => e = .returned (.int .i64 (dgt c : Nat)) ∧ w' = W) := fun c W => digit_any c W
  go_enter Tryd.func37, Tryd.ntmps37
  go_wp2_with fail
  go_loopw [3, 4] (fun b j wr => ∃ (k : Nat) (l : List UInt8), k ≤ s.size ∧ l.length ≤ k ∧ j = .int .i64 k ∧ Hid (l ++ pln ((ls s).drop k) = R ∧ Br w.heap.size wr b l ∧ Bk w.heap.size w wr)) (fun _ j _ => s.size - (intOf j).toNat)
  case atStart => exact ⟨0, [], by omega, by simp, rfl, by simpa using HR.out, br_nil _ _, Bk.refl _ _⟩
  case round =>
    obtain ⟨k, l, hk, hlk, rfl, HI⟩ := hrel
    obtain ⟨hi, hb, hw⟩ := HI.out
    obtain ⟨p, cap, rfl, hc1, hc2⟩ := hb.shape
    by_cases hlt : k < s.size
    · have q1 : (k : Int) < s.size := by omega
      have q0 : (0 : Int) ≤ k := by omega
      have HW : Hid (Bk w.heap.size w wr ∧ w.heap.size ≤ wr.heap.size ∧ Br w.heap.size wr (.slice p l.length cap) l) := ⟨hw, hw.bel.size, hb⟩
      have hL : (ls s).length = s.size := ls_len s
      have g0 := at_ls s k hlt
      obtain ⟨c, hc⟩ : ∃ c, s[k] = c := ⟨_, rfl⟩
      rw [hc] at g0
      have hll : l.length + 1 ≤ 1073741824 := by omega
      clear HI hb hw
      by_cases h92 : c = 92
      · subst h92
        by_cases hk1 : k + 1 < s.size
        · have p1 : (k : Int) + 1 < s.size := by omega
          have p0 : (0 : Int) ≤ (k : Int) + 1 := by omega
          have t1 : ((k : Int) + 1).toNat = k + 1 := by omega
          have g1 := at_ls s (k + 1) hk1
          obtain ⟨c1, hcc1⟩ : ∃ c, s[k + 1] = c := ⟨_, rfl⟩
          rw [hcc1] at g1
          by_cases hk3 : k + 3 < s.size
          · have p3 : (k : Int) + 3 < s.size := by omega
            have p30 : (0 : Int) ≤ (k : Int) + 3 := by omega
            have p2 : (k : Int) + 2 < s.size := by omega
            have p20 : (0 : Int) ≤ (k : Int) + 2 := by omega
            have t2 : ((k : Int) + 2).toNat = k + 2 := by omega
            have t3 : ((k : Int) + 3).toNat = k + 3 := by omega
            have l2 : k + 2 < s.size := by omega
            have g2 := at_ls s (k + 2) l2
            obtain ⟨c2, hcc2⟩ : ∃ c, s[k + 2] = c := ⟨_, rfl⟩
            rw [hcc2] at g2
            have g3 := at_ls s (k + 3) hk3
            obtain ⟨c3, hcc3⟩ : ∃ c, s[k + 3] = c := ⟨_, rfl⟩
            rw [hcc3] at g3
            by_cases h120 : c1 = 120
            · by_cases hd2 : dgt c2 < 16
              · have i2 : (dgt c2 : Int) < 16 := by omega
                by_cases hd3 : dgt c3 < 16
                · have i3 : (dgt c3 : Int) < 16 := by omega
                  subst h120
                  have HE : Hid ((l ++ [UInt8.ofNat (16 * dgt c2 + dgt c3)]) ++ pln ((ls s).drop (k + 4)) = R) := by
                    show _ = _
                    rw [← hi, pln_A (ls s) k (by omega) g0 g1 (by rw [g2]; exact hd2) (by rw [g3]; exact hd3), g2, g3]
                    simp
                  obtain ⟨X, hX⟩ : ∃ X, UInt8.ofNat (16 * dgt c2 + dgt c3) = X := ⟨_, rfl⟩
                  have hXn : (X.toNat : Int) = 16 * (dgt c2 : Int) + (dgt c3 : Int) := by
                    have : ∀ a b : Fin 16, ((UInt8.ofNat (16 * a.val + b.val)).toNat : Int) = 16 * (a.val : Int) + (b.val : Int) := by decide +kernel
                    rw [← hX]; exact this ⟨_, hd2⟩ ⟨_, hd3⟩
                  rw [hX] at HE
                  clear hi g0 g1 g2 g3 HR hX
                  have hXl := X.toNat_lt
                  have hwX : IntKind.u8.wrap (16 * (dgt c2 : Int) + (dgt c3 : Int)) = 16 * (dgt c2 : Int) + (dgt c3 : Int) := by
                    have : ∀ a b : Fin 16, IntKind.u8.wrap (16 * (a.val : Int) + (b.val : Int)) = 16 * (a.val : Int) + (b.val : Int) := by decide +kernel
                    exact this ⟨_, hd2⟩ ⟨_, hd3⟩
                  go_wp2_with (first | (go_at_call 47; have hg := M2; clear hg; refine (HD.out c3 _).mono ?_; rintro e wq ⟨rfl, hq⟩; have hq' := hq.symm; subst hq') | (go_at_call 47; refine (HD.out c2 _).mono ?_; rintro e wq ⟨rfl, hq⟩; have hq' := hq.symm; subst hq'; have M2 : Hid True := trivial))
                  have wk2 : IntKind.i64.wrap ((k : Int) + 2) = (k : Int) + 2 := by rw [IntKind.wrap_i64]; omega
                  have wk3 : IntKind.i64.wrap ((k : Int) + 3) = (k : Int) + 3 := by rw [IntKind.wrap_i64]; omega
                  have wd1 : IntKind.i64.wrap (16 * (dgt c2 : Int)) = 16 * (dgt c2 : Int) := by rw [IntKind.wrap_i64]; omega
                  have wd2 : IntKind.i64.wrap (16 * (dgt c2 : Int) + (dgt c3 : Int)) = 16 * (dgt c2 : Int) + (dgt c3 : Int) := by rw [IntKind.wrap_i64]; omega
                  have b2 : 0 ≤ (k : Int) + 2 ∧ (k : Int) + 2 < s.size := by omega
                  have b3 : 0 ≤ (k : Int) + 3 ∧ (k : Int) + 3 < s.size := by omega
                  go_region_law (first | (refine step_bytes rfl _ _ rfl w.heap.size (.slice p l.length cap) l [X] rfl (HW.out.2.2.below ((Below.refl _ _).drew.alloc (Nat.le_refl _) _)) wr.heap.size _ _ rfl rfl (by simp) (by show _ = some (Obj.cells #[Value.int .u8 (X.toNat : Int)] 5 (0, 0)); rw [hXn]; exact heap_alloc_new _ _) (by simp only [List.length_cons, List.length_nil]; omega) (by show w.heap.size ≤ (World.alloc wr _).heap.size; rw [World.size_alloc]; exact Nat.le_succ_of_le HW.out.2.1) ?_; intro g2 cap2 w2 hr2 hb2; have HZ : Hid (Br w.heap.size w2 (.slice (some ⟨g2, 0, none⟩) (l.length + 1) cap2) (l ++ [X]) ∧ Bk w.heap.size w w2) := ⟨hr2, (HW.out.1.alloc (Nat.le_refl _) _).drew.trans hb2⟩; clear hr2 hb2) | (go_simp; go_at_call 47; refine (HD.out _ _).mono ?_; rintro e wq ⟨rfl, hq⟩; have hq' := hq.symm; subst hq'))
                  all_goals
                    go_wp2_with fail
                    exact ⟨⟨k + 4, l ++ [X], by omega, by simp; omega, by go_num, HE.out, HZ.out.1, HZ.out.2⟩, by simp [intOf]; omega⟩
                · have i3 : ¬ (dgt c3 : Int) < 16 := by omega
                  subst h120
                  have HE : Hid ((l ++ [120]) ++ pln ((ls s).drop (k + 2)) = R) := by
                    show _ = _
                    rw [← hi, pln_B (ls s) k (by omega) g0 (by rintro ⟨_, _, _, h⟩; rw [g3] at h; exact hd3 h), g1]
                    simp
                  clear hi g0 g1 HR g2 g3
                  go_wp2_with (first | (first | (go_at_call 47; have hg := M2; clear hg; refine (HD.out c3 _).mono ?_; rintro e wq ⟨rfl, hq⟩; have hq' := hq.symm; subst hq') | (go_at_call 47; refine (HD.out c2 _).mono ?_; rintro e wq ⟨rfl, hq⟩; have hq' := hq.symm; subst hq'; have M2 : Hid True := trivial)) | (at_builtin; refine app_bytes rfl _ _ rfl w.heap.size (.slice p l.length cap) l [120] rfl (HW.out.2.2.below ((Below.refl _ _).alloc (Nat.le_refl _) _)) wr.heap.size _ _ rfl rfl (heap_new _ _) (by simp only [List.length_cons, List.length_nil]; omega) (by rw [World.size_alloc]; exact Nat.le_succ_of_le HW.out.2.1) ?_))
                  intro v2 w2 hr2 hb2
                  obtain ⟨p2, cap2, rfl, _, _⟩ := hr2.shape
                  have HZ : Hid (Br w.heap.size w2 (.slice p2 (l ++ [120]).length cap2) (l ++ [120]) ∧ Bk w.heap.size w w2) := ⟨hr2, (HW.out.1.alloc (Nat.le_refl _) _).trans hb2⟩
                  have HN : Hid ((l ++ [120]).length = l.length + 1) := by show _ = _; simp
                  clear hr2 hb2
                  generalize (l ++ [120]).length = nn at *
                  go_wp2_with fail
                  exact ⟨⟨k + 2, l ++ [120], by omega, by simp; omega, by go_num, HE.out, HZ.out.1, HZ.out.2⟩, by simp [intOf]; omega⟩
              · have i2 : ¬ (dgt c2 : Int) < 16 := by omega
                subst h120
                have HE : Hid ((l ++ [120]) ++ pln ((ls s).drop (k + 2)) = R) := by
                  show _ = _
                  rw [← hi, pln_B (ls s) k (by omega) g0 (by rintro ⟨_, _, h, _⟩; rw [g2] at h; exact hd2 h), g1]
                  simp
                clear hi g0 g1 HR g2 g3
                go_wp2_with (first | (go_at_call 47; (try rw [hcc2]); refine (HD.out c2 _).mono ?_; rintro e wq ⟨rfl, hq⟩; have hq' := hq.symm; subst hq') | (at_builtin; refine app_bytes rfl _ _ rfl w.heap.size (.slice p l.length cap) l [120] rfl (HW.out.2.2.below ((Below.refl _ _).alloc (Nat.le_refl _) _)) wr.heap.size _ _ rfl rfl (heap_new _ _) (by simp only [List.length_cons, List.length_nil]; omega) (by rw [World.size_alloc]; exact Nat.le_succ_of_le HW.out.2.1) ?_))
                intro v2 w2 hr2 hb2
                obtain ⟨p2, cap2, rfl, _, _⟩ := hr2.shape
                have HZ : Hid (Br w.heap.size w2 (.slice p2 (l ++ [120]).length cap2) (l ++ [120]) ∧ Bk w.heap.size w w2) := ⟨hr2, (HW.out.1.alloc (Nat.le_refl _) _).trans hb2⟩
                have HN : Hid ((l ++ [120]).length = l.length + 1) := by show _ = _; simp
                clear hr2 hb2
                generalize (l ++ [120]).length = nn at *
                go_wp2_with fail
                exact ⟨⟨k + 2, l ++ [120], by omega, by simp; omega, by go_num, HE.out, HZ.out.1, HZ.out.2⟩, by simp [intOf]; omega⟩
            · have hne1 : ((c1.toNat : Int) == 120) = false := u8_ne c1 120 h120
              have HE : Hid ((l ++ [c1]) ++ pln ((ls s).drop (k + 2)) = R) := by
                show _ = _
                rw [← hi, pln_B (ls s) k (by omega) g0 (by rintro ⟨_, h, _⟩; rw [g1] at h; exact h120 h), g1]
                simp
              clear hi g0 g1 HR g2 g3
              go_wp2_with (first | fail | (at_builtin; refine app_bytes rfl _ _ rfl w.heap.size (.slice p l.length cap) l [c1] rfl (HW.out.2.2.below ((Below.refl _ _).alloc (Nat.le_refl _) _)) wr.heap.size _ _ rfl rfl (heap_new _ _) (by simp only [List.length_cons, List.length_nil]; omega) (by rw [World.size_alloc]; exact Nat.le_succ_of_le HW.out.2.1) ?_))
              intro v2 w2 hr2 hb2
              obtain ⟨p2, cap2, rfl, _, _⟩ := hr2.shape
              have HZ : Hid (Br w.heap.size w2 (.slice p2 (l ++ [c1]).length cap2) (l ++ [c1]) ∧ Bk w.heap.size w w2) := ⟨hr2, (HW.out.1.alloc (Nat.le_refl _) _).trans hb2⟩
              have HN : Hid ((l ++ [c1]).length = l.length + 1) := by show _ = _; simp
              clear hr2 hb2
              generalize (l ++ [c1]).length = nn at *
              go_wp2_with fail
              exact ⟨⟨k + 2, l ++ [c1], by omega, by simp; omega, by go_num, HE.out, HZ.out.1, HZ.out.2⟩, by simp [intOf]; omega⟩
          · have p3 : ¬ (k : Int) + 3 < s.size := by omega
            have HE : Hid ((l ++ [c1]) ++ pln ((ls s).drop (k + 2)) = R) := by
              show _ = _
              rw [← hi, pln_B (ls s) k (by omega) g0 (by rintro ⟨h, _⟩; omega), g1]
              simp
            clear hi g0 g1 HR 
            go_wp2_with (first | fail | (at_builtin; refine app_bytes rfl _ _ rfl w.heap.size (.slice p l.length cap) l [c1] rfl (HW.out.2.2.below ((Below.refl _ _).alloc (Nat.le_refl _) _)) wr.heap.size _ _ rfl rfl (heap_new _ _) (by simp only [List.length_cons, List.length_nil]; omega) (by rw [World.size_alloc]; exact Nat.le_succ_of_le HW.out.2.1) ?_))
            intro v2 w2 hr2 hb2
            obtain ⟨p2, cap2, rfl, _, _⟩ := hr2.shape
            have HZ : Hid (Br w.heap.size w2 (.slice p2 (l ++ [c1]).length cap2) (l ++ [c1]) ∧ Bk w.heap.size w w2) := ⟨hr2, (HW.out.1.alloc (Nat.le_refl _) _).trans hb2⟩
            have HN : Hid ((l ++ [c1]).length = l.length + 1) := by show _ = _; simp
            clear hr2 hb2
            generalize (l ++ [c1]).length = nn at *
            go_wp2_with fail
            exact ⟨⟨k + 2, l ++ [c1], by omega, by simp; omega, by go_num, HE.out, HZ.out.1, HZ.out.2⟩, by simp [intOf]; omega⟩
        · have p1 : ¬ (k : Int) + 1 < s.size := by omega
          have p3 : ¬ (k : Int) + 3 < s.size := by omega
          have HE : Hid ((l ++ [92]) ++ pln ((ls s).drop (k + 1)) = R) := by
            show _ = _
            rw [← hi, pln_C (ls s) k (by omega) (by rintro ⟨_, h⟩; omega), g0]
            simp
          clear hi g0 HR
          go_wp2_with (first | fail | (at_builtin; refine app_bytes rfl _ _ rfl w.heap.size (.slice p l.length cap) l [92] rfl (HW.out.2.2.below ((Below.refl _ _).alloc (Nat.le_refl _) _)) wr.heap.size _ _ rfl rfl (heap_new _ _) (by simp only [List.length_cons, List.length_nil]; omega) (by rw [World.size_alloc]; exact Nat.le_succ_of_le HW.out.2.1) ?_))
          intro v2 w2 hr2 hb2
          obtain ⟨p2, cap2, rfl, _, _⟩ := hr2.shape
          have HZ : Hid (Br w.heap.size w2 (.slice p2 (l ++ [92]).length cap2) (l ++ [92]) ∧ Bk w.heap.size w w2) := ⟨hr2, (HW.out.1.alloc (Nat.le_refl _) _).trans hb2⟩
          have HN : Hid ((l ++ [92]).length = l.length + 1) := by show _ = _; simp
          clear hr2 hb2
          generalize (l ++ [92]).length = nn at *
          go_wp2_with fail
          exact ⟨⟨k + 1, l ++ [92], by omega, by simp; omega, by go_num, HE.out, HZ.out.1, HZ.out.2⟩, by simp [intOf]; omega⟩
      · have hne : ((c.toNat : Int) == 92) = false := u8_ne c 92 h92
        have HE : Hid ((l ++ [c]) ++ pln ((ls s).drop (k + 1)) = R) := by
          show _ = _
          rw [← hi, pln_C (ls s) k (by omega) (by rintro ⟨h, _⟩; rw [g0] at h; exact h92 h), g0]
          simp
        clear hi g0 HR
        go_wp2_with (first | fail | (at_builtin; refine app_bytes rfl _ _ rfl w.heap.size (.slice p l.length cap) l [c] rfl (HW.out.2.2.below ((Below.refl _ _).alloc (Nat.le_refl _) _)) wr.heap.size _ _ rfl rfl (heap_new _ _) (by simp only [List.length_cons, List.length_nil]; omega) (by rw [World.size_alloc]; exact Nat.le_succ_of_le HW.out.2.1) ?_))
        intro v2 w2 hr2 hb2
        obtain ⟨p2, cap2, rfl, _, _⟩ := hr2.shape
        have HZ : Hid (Br w.heap.size w2 (.slice p2 (l ++ [c]).length cap2) (l ++ [c]) ∧ Bk w.heap.size w w2) := ⟨hr2, (HW.out.1.alloc (Nat.le_refl _) _).trans hb2⟩
        have HN : Hid ((l ++ [c]).length = l.length + 1) := by show _ = _; simp
        clear hr2 hb2
        generalize (l ++ [c]).length = nn at *
        go_wp2_with fail
        exact ⟨⟨k + 1, l ++ [c], by omega, by simp; omega, by go_num, HE.out, HZ.out.1, HZ.out.2⟩, by simp [intOf]; omega⟩
    · obtain rfl : k = s.size := by omega
      have q1 : ¬ ((s.size : Int) < s.size) := by omega
      rw [List.drop_eq_nil_of_le (by rw [ls_len]; omega), pln_nil, List.append_nil] at hi
      have hcv := conv_bytes wr _ _ _ hb
      have HE : Hid (l = R) := hi
      have HZ : Hid (Below w.heap.size w wr) := hw.bel
      clear HI hb hw hi
      go_wp2_with fail
      go_ret
      exact ⟨by rw [← HE.out]; rfl, HZ.out⟩
end Go.Proofs.YtlpmnkiieibipaaDoor
