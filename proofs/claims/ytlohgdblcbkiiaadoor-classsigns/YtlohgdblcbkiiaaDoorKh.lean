import Derived.Test.YtlohgdblcbkiiaaDoorKg
set_option linter.unusedVariables false
set_option linter.unusedSimpArgs false
namespace Go.Proofs.YtlohgdblcbkiiaaDoor
open Go.RowKit Go.Deep

theorem pre_iff (s : ByteArray) (a : Nat) (t : ByteArray) : pre s a t = true ↔ a + t.size ≤ s.size ∧ ∀ i, i < t.size → by8 s (a + i) = by8 t i := by
  unfold pre
  rw [decide_eq_true_iff]
  constructor
  · rintro ⟨h1, h2⟩
    refine ⟨h1, fun i hi => ?_⟩
    rw [← by8_ext' s a (a + t.size) i (by omega), h2]
  · rintro ⟨h1, h2⟩
    refine ⟨h1, by8_ext _ _ (by rw [size_ext s a _ h1]; omega) fun i hi => ?_⟩
    rw [size_ext s a _ h1] at hi
    rw [by8_ext' s a _ i (by omega)]; exact h2 i (by omega)

theorem signs_small : ∀ x ∈ signL, 1 ≤ x.size ∧ x.size ≤ 2 := by
  have h : (signL.all fun x => decide (1 ≤ x.size ∧ x.size ≤ 2)) = true := by decide +kernel
  exact fun x hx => of_decide_eq_true (List.all_eq_true.1 h x hx)
theorem signs_part : ∀ x ∈ signL, pr' (by8 x 0 : Nat) = false := by
  have h : (signL.all fun x => !pr' (by8 x 0 : Nat)) = true := by decide +kernel
  exact fun x hx => by simpa using List.all_eq_true.1 h x hx
theorem signs_name : ∀ x ∈ signL, nm x = false := by
  have h : (signL.all fun x => !nm x) = true := by decide +kernel
  exact fun x hx => by simpa using List.all_eq_true.1 h x hx

theorem sg_like {s u t : ByteArray} {a b : Nat} (h : signL.find? (pre s a) = some t) (h1 : ∀ x, pre u b x = true → pre s a x = true) (h2 : pre u b t = true) : sg u b = t := by
  unfold sg
  rw [find_sub (pre s a) (pre u b) t h1 h2 signL h]; rfl

theorem pre_ext {s x : ByteArray} {a c : Nat} (hc : c ≤ s.size) (ha : a ≤ c) : pre (s.extract a c) 0 x = true ↔ (a + x.size ≤ c ∧ pre s a x = true) := by
  rw [pre_iff, pre_iff, size_ext s a c hc]
  constructor
  · rintro ⟨h1, h2⟩
    refine ⟨by omega, by omega, fun i hi => ?_⟩
    rw [← h2 i hi, Nat.zero_add, by8_ext' s a c i (by omega)]
  · rintro ⟨h0, h1, h2⟩
    refine ⟨by omega, fun i hi => ?_⟩
    rw [← h2 i hi, Nat.zero_add, by8_ext' s a c i (by omega)]

theorem sg_ext {s t : ByteArray} {a c : Nat} (h : signL.find? (pre s a) = some t) (hc : c ≤ s.size) (ha : a + t.size ≤ c) : sg (s.extract a c) 0 = t := by
  have ht := List.find?_some h
  exact sg_like h (fun x hx => ((pre_ext hc (by omega)).1 hx).2) ((pre_ext hc (by omega)).2 ⟨ha, ht⟩)
theorem sg_self {s t : ByteArray} {a : Nat} (h : signL.find? (pre s a) = some t) : sg t 0 = t := by
  have ht := List.find?_some h
  have h2 : a + t.size ≤ s.size ∧ s.extract a (a + t.size) = t := of_decide_eq_true ht
  have := sg_ext h h2.1 (Nat.le_refl _)
  rwa [h2.2] at this
theorem sg_app {s t : ByteArray} {a : Nat} (h : signL.find? (pre s a) = some t) (ha : a ≤ s.size) : sg (s.extract 0 a ++ t) a = t := by
  have ht := List.find?_some h
  rw [pre_iff] at ht
  have hz : (s.extract 0 a).size = a := by rw [size_ext s 0 a ha]; omega
  have hb : ∀ i, by8 (s.extract 0 a ++ t) (a + i) = by8 t i := fun i => by
    rw [by8_app, hz, if_neg (by omega), Nat.add_sub_cancel_left]
  refine sg_like h (fun x hx => ?_) ?_
  · rw [pre_iff, size_app, hz] at hx
    rw [pre_iff]
    refine ⟨by omega, fun i hi => ?_⟩
    rw [ht.2 i (by omega), ← hb i]; exact hx.2 i hi
  · rw [pre_iff, size_app, hz]
    exact ⟨Nat.le_refl _, fun i _ => hb i⟩
theorem sg_one {s : ByteArray} {a : Nat} (h : signL.find? (pre s a) = none) (ha : a < s.size) : sg (s.extract a (a + 1)) 0 = ByteArray.empty := by
  unfold sg
  rw [List.find?_eq_none.2]
  · rfl
  · intro x hx hp
    exact List.find?_eq_none.1 h x hx ((pre_ext (by omega) (by omega)).1 hp).2

/-- All that the law asks of a sign. -/
theorem sg_ways (s : ByteArray) (a : Nat) (ha : a < s.size) :
    (sg s a = ByteArray.empty ∧ sg (s.extract a (a + 1)) 0 = ByteArray.empty) ∨
    (∃ t, sg s a = t ∧ t ∈ signL ∧ 1 ≤ t.size ∧ t.size ≤ 2 ∧ a + t.size ≤ s.size ∧ s.extract a (a + t.size) = t ∧ sg t 0 = t ∧ sg (s.extract 0 a ++ t) a = t ∧ (a + t.size < s.size → sg (s.extract a (a + t.size + 1)) 0 = t) ∧ pr' (by8 t 0 : Nat) = false ∧ nm t = false) := by
  cases h : signL.find? (pre s a) with
  | none =>
    left
    refine ⟨?_, sg_one h ha⟩
    unfold sg
    rw [h]; rfl
  | some t =>
    right
    have hf := List.find?_some h
    have ht : a + t.size ≤ s.size ∧ s.extract a (a + t.size) = t := of_decide_eq_true hf
    have hm := List.mem_of_find?_eq_some h
    refine ⟨t, ?_, hm, (signs_small t hm).1, (signs_small t hm).2, ht.1, ht.2, sg_self h, sg_app h (by omega), fun h2 => sg_ext h (by omega) (by omega), signs_part t hm, signs_name t hm⟩
    unfold sg
    rw [h]; rfl

theorem emp_list : ByteArray.empty.toList.isEmpty = true := by rw [tl_data]; rfl
theorem ne_list {t : ByteArray} (h : 1 ≤ t.size) : t.toList.isEmpty = false := by
  rw [tl_data]
  cases hd : t.data.toList with
  | nil =>
    have : t.data.toList.length = t.size := rfl
    rw [hd] at this; simp at this; omega
  | cons => rfl

set_option maxRecDepth 100000 in
set_option maxHeartbeats 2000000 in
theorem classSigns_walk (s : ByteArray) (n : Int) (w : World) (hT : Kab w) (hm : s.size ≤ maxLen) :
    Calls Tryd.prog 8 #[.string s, .int .i64 n] w fun e w' => e = .returned (.bool true) ∧ Below w.heap.size w w' := by
  have HT : Hid (Kab w) := hT
  clear hT
  by_cases hs : s.size ≤ 268435455
  · have g0 : decide ((s.size : Int) > 268435455) = false := by simp; omega
    go_enter Tryd.func8, Tryd.ntmps8
    go_wp2_with fail
    refine (sign_any s n _ HT.out).mono ?_
    rintro e w1 ⟨rfl, hb1⟩
    have HT1 : Hid (Kab w1) := HT.out.below hb1
    by_cases h1 : n < 0
    · rw [sgI_out s n (.inl h1)]
      have e0 := emp_list
      go_wp2_with fail
      refine (awake_any _ HT1.out).mono ?_
      rintro e w2 ⟨rfl, hb2⟩
      have hB := hb1.trans (hb2.mono hb1.size)
      go_wp2_with fail
      go_ret
      exact ⟨rfl, hB⟩
    · have g1 : decide (n < 0) = false := by simp; omega
      by_cases h2 : (s.size : Int) ≤ n
      · rw [sgI_out s n (.inr h2)]
        have e0 := emp_list
        have g2 : decide (n ≥ (s.size : Int)) = true := by simpa using h2
        go_wp2_with fail
        refine (awake_any _ HT1.out).mono ?_
        rintro e w2 ⟨rfl, hb2⟩
        have hB := hb1.trans (hb2.mono hb1.size)
        go_wp2_with fail
        go_ret
        exact ⟨rfl, hB⟩
      · obtain ⟨a, rfl⟩ : ∃ a : Nat, n = a := ⟨n.toNat, by omega⟩
        have g2 : decide ((a : Int) ≥ (s.size : Int)) = false := by simp; omega
        have ha : a < s.size := by omega
        rw [sgI_in s a ha]
        rcases sg_ways s a ha with ⟨hz, hz1⟩ | ⟨t, ht, hmem, ht1, ht2, ht3, ht4, ht5, ht6, ht7, ht8, ht9⟩
        · rw [hz]
          have e0 := emp_list
          have i1 : (0 : Int) ≤ (a : Int) := by omega
          have i2 : (a : Int) ≤ (a : Int) + 1 := by omega
          have i3 : (a : Int) + 1 ≤ (s.size : Int) := by omega
          have i4 : ((a : Int) + 1).toNat = a + 1 := by omega
          have HS : Hid (sgI (s.extract a (a + 1)) 0 = ByteArray.empty) := by
            show sgI (s.extract a (a + 1)) 0 = ByteArray.empty
            rw [← hz1]
            exact sgI_in _ 0 (by rw [size_ext s a _ (by omega)]; omega)
          clear hz hz1
          go_wp2_with fail
          refine (sign_any (s.extract a (a + 1)) 0 _ HT1.out).mono ?_
          rintro e w2 ⟨rfl, hb2⟩
          rw [HS.out]
          have hB := hb1.trans (hb2.mono hb1.size)
          have HT2 : Hid (Kab w2) := HT.out.below hB
          clear HT1 hb1 hb2
          go_wp2_with fail
          refine (awake_any _ HT2.out).mono ?_
          rintro e w3 ⟨rfl, hb3⟩
          have hB3 := hB.trans (hb3.mono hB.size)
          go_wp2_with fail
          go_ret
          exact ⟨rfl, hB3⟩
        · rw [ht]
          have e0 := ne_list ht1
          have i1 : (0 : Int) ≤ (a : Int) := by omega
          have i2 : (a : Int) ≤ (a : Int) + (t.size : Int) := by omega
          have i3 : (a : Int) + (t.size : Int) ≤ (s.size : Int) := by omega
          have i4 : ((a : Int) + (t.size : Int)).toNat = a + t.size := by omega
          have i5 : (a : Int) ≤ (s.size : Int) := by omega
          have g3 : decide ((t.size : Int) > (s.size : Int) - (a : Int)) = false := by simp; omega
          have e1 : (s.extract a (a + t.size)).toList = t.toList := by rw [ht4]
          have e2 : (t.toList != t.toList) = false := by simp
          have i6 : 0 < t.size := by omega
          have zA : (s.extract 0 a ++ t).size ≤ 268435460 := by rw [size_app, size_ext s 0 a (by omega)]; omega
          have HS1 : Hid (sgI t 0 = t) := by
            show sgI t 0 = t
            exact (sgI_in t 0 (by omega)).trans ht5
          have HS2 : Hid (sgI (s.extract 0 a ++ t) a = t) := by
            show sgI (s.extract 0 a ++ t) a = t
            exact (sgI_in _ a (by rw [size_app, size_ext s 0 a (by omega)]; omega)).trans ht6
          have HQ1 : Hid (pr' (by8 t 0 : Nat) = false) := ht8
          have HQ2 : Hid (nm t = false) := ht9
          have HS3 : Hid (a + t.size < s.size → sg (s.extract a (a + t.size + 1)) 0 = t) := ht7
          clear ht ht4 ht5 ht6 ht7 ht8 ht9 hmem
          go_wp2_with fail
          refine (sign_any t 0 _ HT1.out).mono ?_
          rintro e w2 ⟨rfl, hb2⟩
          rw [HS1.out]
          have hB := hb1.trans (hb2.mono hb1.size)
          have HT2 : Hid (Kab w2) := HT.out.below hB
          clear HT1 hb1 hb2
          go_wp2_with fail
          refine (sign_any (s.extract 0 a ++ t) a _ HT2.out).mono ?_
          rintro e w3 ⟨rfl, hb3⟩
          rw [HS2.out]
          have hB3 := hB.trans (hb3.mono hB.size)
          have HT3 : Hid (Kab w3) := HT.out.below hB3
          clear HT2 hB hb3
          by_cases hmore : a + t.size < s.size
          · have g4 : decide ((s.size : Int) - (a : Int) > (t.size : Int)) = true := by simp; omega
            have j2 : (a : Int) ≤ (a : Int) + (t.size : Int) + 1 := by omega
            have j3 : (a : Int) + (t.size : Int) + 1 ≤ (s.size : Int) := by omega
            have j4 : ((a : Int) + (t.size : Int) + 1).toNat = a + t.size + 1 := by omega
            have HS4 : Hid (sgI (s.extract a (a + t.size + 1)) 0 = t) := by
              show sgI (s.extract a (a + t.size + 1)) 0 = t
              exact (sgI_in _ 0 (by rw [size_ext s a _ (by omega)]; omega)).trans (HS3.out hmore)
            go_wp2_with fail
            refine (sign_any (s.extract a (a + t.size + 1)) 0 _ HT3.out).mono ?_
            rintro e w4 ⟨rfl, hb4⟩
            rw [HS4.out]
            have hB4 := hB3.trans (hb4.mono hB3.size)
            clear HT3 hB3 hb4
            have HT5 : Hid (Kab w4) := HT.out.below hB4
            go_wp2_with fail
            rw [by8_get t 0 (by omega), w64 _ (by have := by8_lt t 0; omega)]
            refine (part_any (by8 t 0 : Nat) _ HT5.out.1).mono ?_
            rintro e w6 ⟨rfl, rfl⟩
            rw [HQ1.out]
            go_wp2_with fail
            refine (isName_any t _ HT5.out (by omega)).mono ?_
            rintro e w7 ⟨rfl, hb7⟩
            rw [HQ2.out]
            have hB7 := hB4.trans (hb7.mono hB4.size)
            have HT7 : Hid (Kab w7) := HT.out.below hB7
            clear hb7 hB4 HT5
            go_wp2_with fail
            refine (awake_any _ HT7.out).mono ?_
            rintro e w8 ⟨rfl, hb8⟩
            have hB8 := hB7.trans (hb8.mono hB7.size)
            go_wp2_with fail
            go_ret
            exact ⟨rfl, hB8⟩
          · have g4 : decide ((s.size : Int) - (a : Int) > (t.size : Int)) = false := by simp; omega
            have HT5 : Hid (Kab w3) := HT.out.below hB3
            go_wp2_with fail
            rw [by8_get t 0 (by omega), w64 _ (by have := by8_lt t 0; omega)]
            refine (part_any (by8 t 0 : Nat) _ HT5.out.1).mono ?_
            rintro e w6 ⟨rfl, rfl⟩
            rw [HQ1.out]
            go_wp2_with fail
            refine (isName_any t _ HT5.out (by omega)).mono ?_
            rintro e w7 ⟨rfl, hb7⟩
            rw [HQ2.out]
            have hB7 := hB3.trans (hb7.mono hB3.size)
            have HT7 : Hid (Kab w7) := HT.out.below hB7
            clear hb7 hB3 HT5
            go_wp2_with fail
            refine (awake_any _ HT7.out).mono ?_
            rintro e w8 ⟨rfl, hb8⟩
            have hB8 := hB7.trans (hb8.mono hB7.size)
            go_wp2_with fail
            go_ret
            exact ⟨rfl, hB8⟩
  · have g0 : decide ((s.size : Int) > 268435455) = true := by simp; omega
    go_enter Tryd.func8, Tryd.ntmps8
    go_wp2_with fail
    go_ret
    exact ⟨rfl, Below.refl _ _⟩
end Go.Proofs.YtlohgdblcbkiiaaDoor
