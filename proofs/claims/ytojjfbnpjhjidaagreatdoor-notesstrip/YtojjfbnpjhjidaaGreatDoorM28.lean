import Derived.Test.YtojjfbnpjhjidaaGreatDoorM27
set_option linter.unusedVariables false
set_option linter.unusedSimpArgs false
namespace Go.Proofs.YtojjfbnpjhjidaaGreatDoor.Lx
open Go.ChangeShapes Go.WideShapes Go.ChangeAt Go.RowKit
theorem kret_u8 {a b : Nat} (h : a = b) : Ending.returned (.int .u8 (a : Int)) = .returned (.int .u8 (b : Int)) := by rw [h]
theorem ba_nil {x : ByteArray} (h : x.size = 0) : x = ByteArray.empty := by8_ext x _ (by rw [h]; rfl) (fun i hi => by omega)
theorem tl_full {x : ByteArray} (h : x.size ≠ 0) : x.toList.isEmpty = false := by
  rw [tl_data, List.isEmpty_eq_false_iff]
  intro e
  have h2 := congrArg List.length e
  rw [Array.length_toList] at h2
  exact h h2
set_option maxHeartbeats 4000000 in
theorem rbegins_any (s : ByteArray) (a : Nat) (w : World) (hs : s.size ≤ 2147483647) (h1 : a < s.size) :
    Calls Tryz.prog 35 #[.string s, .int .i64 a] w fun e w' => e = .returned (.int .u8 (tkBgn s a)) ∧ Below w.heap.size w w' := by
  have hn := rnext_nat s a hs h1
  have hl := rletter_any (dp s a)
  have hd := fun w => rdigit_any (by8 s a) w (by8_lt s a)
  have hg := fun w => rsign_in s a w hs h1
  have g8 := by8_get s a h1
  obtain ⟨T, hT⟩ : ∃ T, T = tkBgn s a := ⟨_, rfl⟩
  rw [← hT]
  unfold tkBgn at hT
  have HL : Hid ((gd s a && lt' (dp s a)) = true → T = 1) := fun h => by rw [hT, if_pos h]
  have HM : Hid ((gd s a && lt' (dp s a)) = false → (tkDg (by8 s a) = false → T = if by8 s a = 34 then 4 else if by8 s a = 39 then 5 else if by8 s a = 47 ∧ a + 1 < s.size ∧ by8 s (a + 1) = 47 then 7 else if by8 s a = 123 then 8 else if (sg s a).size ≠ 0 then 6 else 0) ∧ (tkDg (by8 s a) = true → T = 3)) :=
    fun h => ⟨fun h2 => by rw [hT, if_neg (by rw [h]; decide), if_neg (by rw [h2]; decide)], fun h2 => by rw [hT, if_neg (by rw [h]; decide), if_pos h2]⟩
  clear hT
  generalize tkDg (by8 s a) = dgt0 at *
  rw [← g8] at hd
  generalize sg s a = x at *
  generalize ((dp s a : Nat) : Int) = pi at *
  generalize dw s a = n at *
  generalize gd s a = g at *
  have HG : Hid (∀ w : World, Calls Tryz.prog 48 #[.string s, .int .i64 a] w fun e w' => e = .returned (.string x) ∧ Below w.heap.size w w') := hg
  clear hg
  have G8 : Hid ((s[a]'h1).toNat = by8 s a) := g8
  clear g8
  go_enter Tryz.func35, Tryz.ntmps35
  cases g
  · have HX : Hid _ := HM.out rfl
    clear hl HL HM
    go_wp2_with fail
    refine (hn _).mono ?_
    rintro e w2 ⟨rfl, rfl⟩
    clear hn
    go_wp2_with fail
    refine (HG.out _).mono ?_
    rintro e w3 ⟨rfl, hb⟩
    clear HG
    have HD : Hid (∀ w : World, Calls Tryz.prog 49 #[.int .u8 ((s[a]'h1).toNat : Int)] w fun e w' => e = .returned (.bool dgt0) ∧ w' = w) := hd
    clear hd
    go_wp2_with fail
    refine (HD.out _).mono ?_
    rintro e w4 ⟨rfl, rfl⟩
    clear HD
    cases dgt0
    · by_cases c3 : by8 s a = 34
      · have HT : Hid (T = 4) := by show T = _; rw [HX.out.1 rfl, if_pos c3]
        have e3 : (((s[a]'h1).toNat : Int) == 34) = true := by rw [G8.out, c3]; rfl
        clear HX G8 c3
        go_wp2_with fail
        go_ret
        exact ⟨kret_u8 HT.out.symm, hb⟩
      · have e3 : (((s[a]'h1).toNat : Int) == 34) = false := by rw [G8.out]; simp; omega
        by_cases c4 : by8 s a = 39
        · have HT : Hid (T = 5) := by show T = _; rw [HX.out.1 rfl, if_neg c3, if_pos c4]
          have e4 : (((s[a]'h1).toNat : Int) == 39) = true := by rw [G8.out, c4]; rfl
          clear HX G8 c3 c4
          go_wp2_with fail
          go_ret
          exact ⟨kret_u8 HT.out.symm, hb⟩
        · have e4 : (((s[a]'h1).toNat : Int) == 39) = false := by rw [G8.out]; simp; omega
          by_cases c5 : by8 s a = 47 ∧ a + 1 < s.size ∧ by8 s (a + 1) = 47
          · have HT : Hid (T = 7) := by show T = _; rw [HX.out.1 rfl, if_neg c3, if_neg c4, if_pos c5]
            have e5 : (((s[a]'h1).toNat : Int) == 47) = true := by rw [G8.out, c5.1]; rfl
            have h2 : a + 1 < s.size := c5.2.1
            have e6 : (((s[a + 1]'h2).toNat : Int) == 47) = true := by rw [by8_get s (a + 1) h2, c5.2.2]; rfl
            clear HX G8 c3 c4 c5
            go_wp2_with fail
            go_ret
            exact ⟨kret_u8 HT.out.symm, hb⟩
          · have HX2 : Hid (T = if by8 s a = 123 then 8 else if x.size ≠ 0 then 6 else 0) := by show T = _; rw [HX.out.1 rfl, if_neg c3, if_neg c4, if_neg c5]
            rcases (show ((((s[a]'h1).toNat : Int) == 47) = false) ∨ ((((s[a]'h1).toNat : Int) == 47) = true ∧ ¬ a + 1 < s.size) ∨ ((((s[a]'h1).toNat : Int) == 47) = true ∧ ∃ h2 : a + 1 < s.size, (((s[a + 1]'h2).toNat : Int) == 47) = false) by
                by_cases d1 : by8 s a = 47
                · right
                  by_cases d2 : a + 1 < s.size
                  · exact .inr ⟨by rw [G8.out, d1]; rfl, d2, by rw [by8_get s (a + 1) d2]; have := fun h => c5 ⟨d1, d2, h⟩; simp; omega⟩
                  · exact .inl ⟨by rw [G8.out, d1]; rfl, d2⟩
                · exact .inl (by rw [G8.out]; simp; omega)) with e5 | ⟨e5, h2⟩ | ⟨e5, h2, e6⟩
            all_goals
              by_cases c6 : by8 s a = 123
              · have HT : Hid (T = 8) := by show T = _; rw [HX2.out, if_pos c6]
                have e7 : (((s[a]'h1).toNat : Int) == 123) = true := by rw [G8.out, c6]; rfl
                clear HX HX2 G8 c3 c4 c5 c6
                go_wp2_with fail
                go_ret
                exact ⟨kret_u8 HT.out.symm, hb⟩
              · have e7 : (((s[a]'h1).toNat : Int) == 123) = false := by rw [G8.out]; simp; omega
                by_cases c7 : x.size ≠ 0
                · have HT : Hid (T = 6) := by show T = _; rw [HX2.out, if_neg c6, if_pos c7]
                  have e8 := tl_full c7
                  clear HX HX2 G8 c3 c4 c5 c6 c7
                  go_wp2_with fail
                  go_ret
                  exact ⟨kret_u8 HT.out.symm, hb⟩
                · have HT : Hid (T = 0) := by show T = _; rw [HX2.out, if_neg c6, if_neg c7]
                  obtain rfl : x = ByteArray.empty := ba_nil (by omega)
                  clear HX HX2 G8 c3 c4 c5 c6 c7
                  go_wp2_with fail
                  go_ret
                  exact ⟨kret_u8 HT.out.symm, hb⟩
    · have HT : Hid (T = 3) := by show T = _; exact HX.out.2 rfl
      clear HX G8
      go_wp2_with fail
      go_ret
      exact ⟨kret_u8 HT.out.symm, hb⟩
  · generalize lt' pi = l at *
    have HQ : Hid (∀ w : World, Calls Tryz.prog 47 #[.int .i64 pi] w fun e w' => e = .returned (.bool l) ∧ Below w.heap.size w w') := hl
    clear hl
    go_wp2_with fail
    refine (hn _).mono ?_
    rintro e w2 ⟨rfl, rfl⟩
    clear hn
    go_wp2_with fail
    refine (HQ.out _).mono ?_
    rintro e w3 ⟨rfl, hb1⟩
    clear HQ
    go_wp2_with fail
    refine (HG.out _).mono ?_
    rintro e w4 ⟨rfl, hb2⟩
    clear HG
    have hb := hb1.trans (hb2.mono hb1.size)
    clear hb1 hb2
    cases l
    · have HX : Hid _ := HM.out rfl
      clear HL HM
      have HD : Hid (∀ w : World, Calls Tryz.prog 49 #[.int .u8 ((s[a]'h1).toNat : Int)] w fun e w' => e = .returned (.bool dgt0) ∧ w' = w) := hd
      clear hd
      go_wp2_with fail
      refine (HD.out _).mono ?_
      rintro e w4 ⟨rfl, rfl⟩
      clear HD
      cases dgt0
      · by_cases c3 : by8 s a = 34
        · have HT : Hid (T = 4) := by show T = _; rw [HX.out.1 rfl, if_pos c3]
          have e3 : (((s[a]'h1).toNat : Int) == 34) = true := by rw [G8.out, c3]; rfl
          clear HX G8 c3
          go_wp2_with fail
          go_ret
          exact ⟨kret_u8 HT.out.symm, hb⟩
        · have e3 : (((s[a]'h1).toNat : Int) == 34) = false := by rw [G8.out]; simp; omega
          by_cases c4 : by8 s a = 39
          · have HT : Hid (T = 5) := by show T = _; rw [HX.out.1 rfl, if_neg c3, if_pos c4]
            have e4 : (((s[a]'h1).toNat : Int) == 39) = true := by rw [G8.out, c4]; rfl
            clear HX G8 c3 c4
            go_wp2_with fail
            go_ret
            exact ⟨kret_u8 HT.out.symm, hb⟩
          · have e4 : (((s[a]'h1).toNat : Int) == 39) = false := by rw [G8.out]; simp; omega
            by_cases c5 : by8 s a = 47 ∧ a + 1 < s.size ∧ by8 s (a + 1) = 47
            · have HT : Hid (T = 7) := by show T = _; rw [HX.out.1 rfl, if_neg c3, if_neg c4, if_pos c5]
              have e5 : (((s[a]'h1).toNat : Int) == 47) = true := by rw [G8.out, c5.1]; rfl
              have h2 : a + 1 < s.size := c5.2.1
              have e6 : (((s[a + 1]'h2).toNat : Int) == 47) = true := by rw [by8_get s (a + 1) h2, c5.2.2]; rfl
              clear HX G8 c3 c4 c5
              go_wp2_with fail
              go_ret
              exact ⟨kret_u8 HT.out.symm, hb⟩
            · have HX2 : Hid (T = if by8 s a = 123 then 8 else if x.size ≠ 0 then 6 else 0) := by show T = _; rw [HX.out.1 rfl, if_neg c3, if_neg c4, if_neg c5]
              rcases (show ((((s[a]'h1).toNat : Int) == 47) = false) ∨ ((((s[a]'h1).toNat : Int) == 47) = true ∧ ¬ a + 1 < s.size) ∨ ((((s[a]'h1).toNat : Int) == 47) = true ∧ ∃ h2 : a + 1 < s.size, (((s[a + 1]'h2).toNat : Int) == 47) = false) by
                  by_cases d1 : by8 s a = 47
                  · right
                    by_cases d2 : a + 1 < s.size
                    · exact .inr ⟨by rw [G8.out, d1]; rfl, d2, by rw [by8_get s (a + 1) d2]; have := fun h => c5 ⟨d1, d2, h⟩; simp; omega⟩
                    · exact .inl ⟨by rw [G8.out, d1]; rfl, d2⟩
                  · exact .inl (by rw [G8.out]; simp; omega)) with e5 | ⟨e5, h2⟩ | ⟨e5, h2, e6⟩
              all_goals
                by_cases c6 : by8 s a = 123
                · have HT : Hid (T = 8) := by show T = _; rw [HX2.out, if_pos c6]
                  have e7 : (((s[a]'h1).toNat : Int) == 123) = true := by rw [G8.out, c6]; rfl
                  clear HX HX2 G8 c3 c4 c5 c6
                  go_wp2_with fail
                  go_ret
                  exact ⟨kret_u8 HT.out.symm, hb⟩
                · have e7 : (((s[a]'h1).toNat : Int) == 123) = false := by rw [G8.out]; simp; omega
                  by_cases c7 : x.size ≠ 0
                  · have HT : Hid (T = 6) := by show T = _; rw [HX2.out, if_neg c6, if_pos c7]
                    have e8 := tl_full c7
                    clear HX HX2 G8 c3 c4 c5 c6 c7
                    go_wp2_with fail
                    go_ret
                    exact ⟨kret_u8 HT.out.symm, hb⟩
                  · have HT : Hid (T = 0) := by show T = _; rw [HX2.out, if_neg c6, if_neg c7]
                    obtain rfl : x = ByteArray.empty := ba_nil (by omega)
                    clear HX HX2 G8 c3 c4 c5 c6 c7
                    go_wp2_with fail
                    go_ret
                    exact ⟨kret_u8 HT.out.symm, hb⟩
      · have HT : Hid (T = 3) := by show T = _; exact HX.out.2 rfl
        clear HX G8
        go_wp2_with fail
        go_ret
        exact ⟨kret_u8 HT.out.symm, hb⟩
    · have HT : Hid (T = 1) := HL.out rfl
      clear HL HM hd
      go_wp2_with fail
      go_ret
      exact ⟨kret_u8 HT.out.symm, hb⟩
end Go.Proofs.YtojjfbnpjhjidaaGreatDoor.Lx
