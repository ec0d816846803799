import Derived.Test.YtnmjkgjhjnpijaaGreatDoorPf
set_option linter.unusedVariables false
set_option linter.unusedSimpArgs false
namespace Go.Proofs.YtnmjkgjhjnpijaaGreatDoor
open Go.RowKit Go.Shelf

theorem line_at (s : ByteArray) (a : Nat) (n : Int) (ha : a ≤ s.size) (he : a = s.size ∨ by8 s a = 10) (hn : n = ((cn s a + 1 : Nat) : Int)) : lineS s n = s.extract (lf s a) a ∧ lineB s n = true := by
  have hc := cn_mono' s ha
  have h : 1 ≤ n ∧ n ≤ LN s := by unfold LN; omega
  refine ⟨?_, decide_eq_true h⟩
  unfold lineS
  rw [if_pos h, show (n - 1).toNat = cn s a by omega]
  unfold ln
  obtain ⟨f1, f2, _⟩ := lf_facts s a
  rw [bg_lf s a ha, nl_eq s (lf s a) a f1 ha f2 he]

theorem line_no (s : ByteArray) (n : Int) (h : ∀ j : Int, 1 ≤ j → j ≤ LN s → j ≠ n) : lineS s n = ⟨#[]⟩ ∧ lineB s n = false := by
  have h' : ¬ (1 ≤ n ∧ n ≤ LN s) := fun hh => h n hh.1 hh.2 rfl
  exact ⟨if_neg h', decide_eq_false h'⟩

set_option maxRecDepth 100000 in
set_option maxHeartbeats 1000000 in
theorem radv_any (a0 l0 c0 : Int) (s : ByteArray) (w : World) (hs : s.size ≤ 2147483647) (hl0 : -9223372036854775808 ≤ l0 ∧ l0 ≤ 9223372036854775807) :
    Calls Tryz.prog 51 #[.agg #[.int .i64 a0, .int .i64 l0, .int .i64 c0], .string s] w fun e w' => e = .returned (.agg #[.int .i64 (aAt a0 s), .int .i64 (aLine l0 s), .int .i64 (aCol c0 s)]) ∧ Below w.heap.size w w' := by
  go_enter Tryz.func51, Tryz.ntmps51
  go_wp2
  obtain ⟨a1, ha1⟩ : ∃ a1, wrap64 (a0 + (s.size : Int)) = a1 := ⟨_, rfl⟩
  rw [ha1]
  have HA : Hid (aAt a0 s = a1) := ha1
  clear ha1
  go_loopw [5, 6] (fun f i wr => ∃ (a b : Nat) (L C : Int), f = .int .i64 b ∧ i = .int .i64 a ∧ Hid (b = lf s a) ∧ a ≤ s.size ∧ Hid (L = wrap64 (l0 + cn s a)) ∧ Hid (C = if cn s a = 0 then c0 else 1) ∧ Box3 wr w.heap.size a1 L C ∧ Box3 wr (w.heap.size + 1) 0 0 0 ∧ Below w.heap.size w wr)
    (fun _ i _ => s.size - (RowKit.intOf i).toNat)
  case atStart =>
    refine ⟨0, 0, l0, c0, rfl, rfl, rfl, Nat.zero_le _, ?_, rfl, (Box3.new w _ _ _).alloc _, ?_, ((Below.refl _ w).alloc (Nat.le_refl _) _).alloc (by simp) _⟩
    · show l0 = wrap64 (l0 + ((0 : Nat) : Int)); rw [wrap_ok _ (by simp; exact hl0)]; simp
    · have := Box3.new (w.alloc (.cells #[.int .i64 a1, .int .i64 l0, .int .i64 c0] 36)) 0 0 0; rw [World.size_alloc] at this; exact this
  case round =>
    obtain ⟨a, b, L, C, rfl, rfl, HB, ha, HL, HC, k0, k1, hbw⟩ := hrel
    have g1 := k0.cell1
    have g2 := k0.cell2
    have f1 := k0.frozen 1
    have f2 := k0.frozen 2
    have hlf := (lf_facts s a).1
    rw [← HB.out] at hlf
    by_cases h1 : a < s.size
    · have hcn := cn_step s a
      have hls := lf_step s a
      by_cases h2 : by8 s a = 10
      · have h3 : (((s[a]'h1).toNat : Int) == 10) = true := by rw [by8_get s a h1, h2]; rfl
        rw [if_pos h2] at hls
        have HCN : Hid (cn s (a + 1) = cn s a + 1) := by rcases hcn with ⟨_, h⟩ | ⟨h, _⟩; exact h; exact absurd h2 h
        have HS : Hid (lf s (a + 1) = a + 1) := hls
        clear hcn hls h2
        go_wp2
        go_roundw
        case rel =>
          refine ⟨a + 1, a + 1, wrap64 (L + 1), 1, by go_num, by go_num, HS.out.symm, h1, ?_, ?_, (k0.set1 _).set2 _, (k1.kept (grown_set _ _ _) (by simp)).kept (grown_set _ _ _) (by simp), (hbw.setCell (p := ⟨w.heap.size, 1, none⟩) (Nat.le_refl _) _).setCell (p := ⟨w.heap.size, 2, none⟩) (Nat.le_refl _) _⟩
          · show _ = _; rw [HL.out, HCN.out, wrap_add]; congr 1; omega
          · show _ = _; rw [HCN.out, if_neg (by omega)]
        case measure => simp [RowKit.intOf]; omega
      · have h3 : (((s[a]'h1).toNat : Int) == 10) = false := by rw [by8_get s a h1]; simp; omega
        rw [if_neg h2] at hls
        have HCN : Hid (cn s (a + 1) = cn s a) := by rcases hcn with ⟨h, _⟩ | ⟨_, h⟩; exact absurd h h2; exact h
        have HS : Hid (lf s (a + 1) = lf s a) := hls
        clear hcn hls h2
        go_wp2
        go_roundw
        case rel => exact ⟨a + 1, b, L, C, rfl, by go_num, by show _ = _; rw [HS.out, HB.out], h1, by show _ = _; rw [HCN.out, HL.out], by show _ = _; rw [HCN.out, HC.out], k0, k1, hbw⟩
        case measure => simp [RowKit.intOf]; omega
    · obtain rfl : a = s.size := by omega
      have hz := size_ext s b s.size (Nat.le_refl _)
      have HL2 : Hid (aLine l0 s = L) := by show _ = _; unfold aLine; exact HL.out.symm
      have HC2 : Hid (aCol c0 s = wrap64 (C + (P (s.extract b s.size)).length)) := by show _ = _; unfold aCol; rw [HC.out, HB.out]
      have hcount : ∀ w, Calls Tryz.prog 75 #[.string (s.extract b s.size)] w fun e w' => e = .returned (.int .i64 (P (s.extract b s.size)).length) ∧ Below w.heap.size w w' := fun w => rcount_any _ w (by omega)
      obtain ⟨pn, hpn⟩ : ∃ pn : Nat, (P (s.extract b s.size)).length = pn := ⟨_, rfl⟩
      rw [hpn] at HC2
      simp only [hpn] at hcount
      clear hpn HB HL HC
      go_wp2
      go_region_with (go_at_call 75; refine (hcount _).mono ?_; rintro e w1 ⟨rfl, hb1⟩; have k2 := k0.drew.below hb1; have k3 := k1.drew.below hb1; have p0 := k2.cell0; have p1 := k2.cell1; have p2 := k2.cell2; have q0 := k3.cell0; have q1 := k3.cell1; have q2 := k3.cell2; have r2 := k2.frozen 2; have t0 := k3.frozen 0; have t1 := k3.frozen 1; have t2 := k3.frozen 2)
      all_goals go_wp2
      all_goals
        have k4 := k2.set2 (wrap64 (C + (pn : Int)))
        have k5 := (((k3.kept (grown_set w1 ⟨w.heap.size, 2, none⟩ (.int .i64 (wrap64 (C + (pn : Int))))) (by simp)).set0 a1).set1 L).set2 (wrap64 (C + (pn : Int)))
        have m0 := k5.cell0
        have m1 := k5.cell1
        have m2 := k5.cell2
        refine bodyPost_ret (v := .agg #[.int .i64 a1, .int .i64 L, .int .i64 (wrap64 (C + (pn : Int)))]) (by simp [results, Tryz.f51, go_sem, m0, m1, m2]) rfl ?_
        refine ⟨by rw [HA.out, HL2.out, HC2.out], ?_⟩
        have h3 := hbw.drew.trans (hb1.mono hbw.size)
        exact (((h3.setCell (p := ⟨w.heap.size, 2, none⟩) (Nat.le_refl _) _).setCell (p := ⟨w.heap.size + 1, 0, none⟩) (by simp) _).setCell (p := ⟨w.heap.size + 1, 1, none⟩) (by simp) _).setCell (p := ⟨w.heap.size + 1, 2, none⟩) (by simp) _

end Go.Proofs.YtnmjkgjhjnpijaaGreatDoor
