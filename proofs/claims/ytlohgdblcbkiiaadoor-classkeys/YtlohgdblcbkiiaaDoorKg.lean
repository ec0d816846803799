import Derived.Test.YtlohgdblcbkiiaaDoorKf
set_option linter.unusedVariables false
set_option linter.unusedSimpArgs false
namespace Go.Proofs.YtlohgdblcbkiiaaDoor
open Go.RowKit Go.Deep

/-! ### Sign, at any number -/
def sgI (s : ByteArray) (n : Int) : ByteArray := if 0 ≤ n ∧ n < (s.size : Int) then sg s n.toNat else ByteArray.empty
theorem sgI_in (s : ByteArray) (a : Nat) (h : a < s.size) : sgI s a = sg s a := by
  unfold sgI
  rw [if_pos ⟨by omega, by omega⟩, Int.toNat_natCast]
theorem sgI_out (s : ByteArray) (n : Int) (h : n < 0 ∨ (s.size : Int) ≤ n) : sgI s n = ByteArray.empty := by
  unfold sgI
  rw [if_neg (by omega)]

theorem sign_any (s : ByteArray) (n : Int) (w : World) (hT : Kab w) :
    Calls Tryd.prog 22 #[.string s, .int .i64 n] w fun e w' => e = .returned (.string (sgI s n)) ∧ Below w.heap.size w w' := by
  by_cases h1 : n < 0
  · rw [sgI_out s n (.inl h1)]
    exact (sign_low s n w h1).mono fun e w' ⟨he, hw⟩ => ⟨he, by rw [hw]; exact Below.refl _ _⟩
  · by_cases h2 : (s.size : Int) ≤ n
    · rw [sgI_out s n (.inr h2)]
      exact (sign_high s n w h2).mono fun e w' ⟨he, hw⟩ => ⟨he, by rw [hw]; exact Below.refl _ _⟩
    · obtain ⟨a, rfl⟩ : ∃ a : Nat, n = a := ⟨n.toNat, by omega⟩
      rw [sgI_in s a (by omega)]
      exact sign_in s a w hT.2.2 (by omega)
theorem rsign_any (s : ByteArray) (n : Int) (w : World) (hs : s.size ≤ 2147483647) :
    Calls Tryd.prog 23 #[.string s, .int .i64 n] w fun e w' => e = .returned (.string (sgI s n)) ∧ Below w.heap.size w w' := by
  by_cases h1 : n < 0
  · rw [sgI_out s n (.inl h1)]
    exact (rsign_low s n w h1).mono fun e w' ⟨he, hw⟩ => ⟨he, by rw [hw]; exact Below.refl _ _⟩
  · by_cases h2 : (s.size : Int) ≤ n
    · rw [sgI_out s n (.inr h2)]
      exact (rsign_high s n w h2).mono fun e w' ⟨he, hw⟩ => ⟨he, by rw [hw]; exact Below.refl _ _⟩
    · obtain ⟨a, rfl⟩ : ∃ a : Nat, n = a := ⟨n.toNat, by omega⟩
      rw [sgI_in s a (by omega)]
      exact rsign_in s a w hs (by omega)

/-! ### Names have good characters -/
theorem bad_part (s : ByteArray) (i : Nat) (h : gd s i = false) : pr' (dp s i) = false := by
  unfold dp
  rw [gd_not s i h]
  decide +kernel
theorem P_mem_st (s : ByteArray) (i : Nat) (h : i ∈ P s) : ∃ k, k < (P s).length ∧ i = st s k := by
  obtain ⟨k, hk, e⟩ := List.mem_iff_getElem.1 h
  refine ⟨k, hk, ?_⟩
  have := P_at s k hk
  rw [List.getElem?_eq_getElem hk] at this
  rw [← e]; exact Option.some.inj this
theorem vl_of_nmL (s : ByteArray) (h : nmL (pts s) = true) : vl s = true := by
  unfold vl
  rw [List.all_eq_true]
  intro i hi
  obtain ⟨k, hk, rfl⟩ := P_mem_st s i hi
  have h2 := (((nmL_iff _).1 h).2 k (by rw [pts_len]; exact hk)).1
  rw [pts_getD s k hk] at h2
  cases hg : gd s (st s k)
  · rw [bad_part s _ hg] at h2; cases h2
  · rfl
theorem nm_of_bad (s : ByteArray) (h : vl s = false) : nm s = false := by
  unfold nm
  cases hn : nmL (pts s)
  · rfl
  · rw [vl_of_nmL s hn] at h; cases h

theorem zs_getD (s : ByteArray) (k : Nat) (h : k < (P s).length) : ((pts s).map (fun i : Nat => (i : Int))).getD k 0 = ((dp s (st s k) : Nat) : Int) := by
  unfold pts
  rw [List.getD, List.getElem?_map, List.getElem?_map, P_at s k h]; rfl

set_option maxHeartbeats 1000000 in
theorem risName_any (s : ByteArray) (w : World) (hs : s.size ≤ 2147483647) :
    Calls Tryd.prog 20 #[.string s] w fun e w' => e = .returned (.bool (nm s)) ∧ Below w.heap.size w w' := by
  have hP := P_len s
  go_enter Tryd.func20, Tryd.ntmps20
  go_wp2_with fail
  refine (rpoints_any s w hs).mono ?_
  rintro e w1 ⟨v, rfl, hown, hb⟩
  rw [ivs_eq] at hown
  obtain ⟨ao, cap, rfl, hrow⟩ := own_shape hown
  clear hown
  go_wp2_with fail
  refine (rvalid_any s w1 hs).mono ?_
  rintro e w2 ⟨rfl, rfl⟩
  cases hv : vl s
  · have HN : Hid (nm s = false) := nm_of_bad s hv
    clear hv
    go_wp2_with fail
    refine (risKey_any s _).mono ?_
    rintro e w3 ⟨rfl, hb3⟩
    have hB := hb.trans (hb3.mono hb.size)
    generalize ky s = y at *
    go_wp2_with fail
    go_ret
    exact ⟨kret_b HN.out.symm, hB⟩
  · clear hv
    go_wp2_with fail
    refine (risKey_any s _).mono ?_
    rintro e w3 ⟨rfl, hb3⟩
    have hB := hb.trans (hb3.mono hb.size)
    have hrow3 := hrow.below hb3
    clear hb3 hb hrow
    cases hk : ky s
    · have HK : Hid (ky s = false) := hk
      clear hk
      by_cases h0 : (P s).length = 0
      · have HN : Hid (nm s = false) := by
          apply nm_zero
          cases hz : s.size with
          | zero => rfl
          | succ n => have := (st_lt s 0).1 (by show 0 < s.size; omega); omega
        have g0 : (((P s).length : Int) == 0) = true := beq_iff_eq.2 (by omega)
        go_wp2_with fail
        go_ret
        exact ⟨kret_b HN.out.symm, hB⟩
      · obtain ⟨b, off, rfl, _⟩ := hrow3.2 0 (by omega)
        have c0 := hrow3.at 0 (by omega)
        rw [zs_getD s 0 (by omega), Nat.add_zero] at c0
        have g0 : (((P s).length : Int) == 0) = false := beq_eq_false_iff_ne.2 (by omega)
        have g1 : (0 : Int) < ((P s).length : Int) := by omega
        have HN : Hid (pr' (dp s (st s 0)) = false ∨ (0 = 0 ∧ lt' (dp s (st s 0)) = false) → nm s = false) := nm_miss s 0 (by omega)
        have hd0 := dp_le s (st s 0)
        generalize hx : dp s (st s 0) = x at *
        go_wp2_with fail
        refine (rletter_any x _).mono ?_
        rintro e w4 ⟨rfl, hb4⟩
        have hrow4 := hrow3.below hb4
        have hB4 := hB.trans (hb4.mono hB.size)
        clear hB hb4 hrow3 c0
        cases hl : lt' (x : Int)
        · have HF : Hid (nm s = false) := HN.out (.inr ⟨trivial, hl⟩)
          clear hl HN
          go_wp2_with fail
          go_ret
          exact ⟨kret_b HF.out.symm, hB4⟩
        · have H0 : Hid (lt' (dp s (st s 0)) = true) := by
            show lt' (dp s (st s 0)) = true
            rw [hx]; exact hl
          clear hl HN hx
          go_wp2_with fail
          go_loopw [6] (fun i wr => ∃ k : Nat, 1 ≤ k ∧ k ≤ (P s).length ∧ i = .int .i64 k ∧ (∀ j, j < k → pr' (dp s (st s j)) = true ∧ (j = 0 → lt' (dp s (st s j)) = true)) ∧ Below w4.heap.size w4 wr) (fun i _ => (P s).length - (intOf i).toNat)
          case atStart =>
            refine ⟨1, by omega, by omega, rfl, fun j hj => ?_, Below.refl _ _⟩
            obtain rfl : j = 0 := by omega
            exact ⟨pr_of_lt H0.out, fun _ => H0.out⟩
          case round =>
            obtain ⟨k, hk1, hk, rfl, hall, hb5⟩ := hrel
            by_cases hlt : k < (P s).length
            · have c1 := (hrow4.below hb5).at k hlt
              rw [zs_getD s k hlt] at c1
              have HN : Hid (pr' (dp s (st s k)) = false ∨ (k = 0 ∧ lt' (dp s (st s k)) = false) → nm s = false) := nm_miss s k hlt
              have HG : Hid (pr' (dp s (st s k)) = true ∧ (k = 0 → lt' (dp s (st s k)) = true) → ∀ j, j < k + 1 → pr' (dp s (st s j)) = true ∧ (j = 0 → lt' (dp s (st s j)) = true)) := fun h j hj => by
                by_cases e : j = k
                · subst e; exact h
                · exact hall j (by omega)
              clear hall hrow4 H0
              generalize dp s (st s k) = y at *
              go_wp2_with fail
              refine (rpart_any y _).mono ?_
              rintro e w5 ⟨rfl, hb6⟩
              have hb7 := hb5.trans (hb6.mono hb5.size)
              clear hb5 hb6 c1
              cases hp : pr' (y : Int)
              · have HF : Hid (nm s = false) := HN.out (.inl hp)
                clear hp HN HG
                go_wp2_with fail
                go_ret
                exact ⟨kret_b HF.out.symm, hB4.trans (hb7.mono hB4.size)⟩
              · have HF := HG.out ⟨hp, fun h => by omega⟩
                have HF2 : Hid _ := HF
                clear hp HN HG HF
                go_wp2_with fail
                exact ⟨⟨k + 1, by omega, by omega, by go_num, HF2.out, hb7⟩, by simp [intOf]; omega⟩
            · have HC : Hid (nm s = true) := nm_hit s (by have := (st_lt s 0).2 (by omega); have : st s 0 = 0 := rfl; omega) HK.out (fun j hj => hall j (by omega))
              clear hall hrow4 H0
              go_wp2_with fail
              go_ret
              exact ⟨kret_b HC.out.symm, hB4.trans (hb5.mono hB4.size)⟩
    · have HN : Hid (nm s = false) := nm_key s hk
      clear hk
      go_wp2_with fail
      go_ret
      exact ⟨kret_b HN.out.symm, hB⟩

set_option maxHeartbeats 1000000 in
theorem classTexts_walk (s : ByteArray) (n : Int) (w : World) (hT : Kab w) (hm : s.size ≤ maxLen) :
    Calls Tryd.prog 6 #[.string s, .int .i64 n] w fun e w' => e = .returned (.bool true) ∧ Below w.heap.size w w' := by
  have HT : Hid (Kab w) := hT
  clear hT
  by_cases hs : s.size ≤ 2147483647
  · have g0 : decide ((s.size : Int) > 2147483647) = false := by simp; omega
    go_enter Tryd.func6, Tryd.ntmps6
    go_wp2_with fail
    refine (isName_any s _ HT.out hs).mono ?_
    rintro e w1 ⟨rfl, hb1⟩
    go_wp2_with fail
    refine (risName_any s _ hs).mono ?_
    rintro e w2 ⟨rfl, hb2⟩
    have hB := hb1.trans (hb2.mono hb1.size)
    clear hb1 hb2
    have HT2 : Hid (Kab w2) := HT.out.below hB
    have e1 : (nm s == nm s) = true := by simp
    generalize nm s = a at *
    go_wp2_with fail
    refine (isKey_any s _ HT2.out.2.1).mono ?_
    rintro e w3 ⟨rfl, rfl⟩
    go_wp2_with fail
    refine (risKey_any s _).mono ?_
    rintro e w4 ⟨rfl, hb4⟩
    have hB4 := hB.trans (hb4.mono hB.size)
    have HT4 : Hid (Kab w4) := HT.out.below hB4
    clear hb4 hB HT2
    have e2 : (ky s == ky s) = true := by simp
    generalize ky s = k at *
    go_wp2_with fail
    refine (sign_any s n _ HT4.out).mono ?_
    rintro e w5 ⟨rfl, hb5⟩
    go_wp2_with fail
    refine (rsign_any s n _ hs).mono ?_
    rintro e w6 ⟨rfl, hb6⟩
    have hB5 := hB4.trans (hb5.mono hB4.size)
    have hB6 := hB5.trans (hb6.mono hB5.size)
    have HT6 : Hid (Kab w6) := HT.out.below hB6
    clear hb5 hb6 hB5 hB4 HT4
    have e3 : ((sgI s n).toList == (sgI s n).toList) = true := by simp
    generalize sgI s n = t at *
    go_wp2_with fail
    refine (awake_any _ HT6.out).mono ?_
    rintro e w7 ⟨rfl, hb7⟩
    have hB7 := hB6.trans (hb7.mono hB6.size)
    go_wp2_with fail
    go_ret
    exact ⟨rfl, hB7⟩
  · have g0 : decide ((s.size : Int) > 2147483647) = true := by simp; omega
    go_enter Tryd.func6, Tryd.ntmps6
    go_wp2_with fail
    go_ret
    exact ⟨rfl, Below.refl _ _⟩
end Go.Proofs.YtlohgdblcbkiiaaDoor
