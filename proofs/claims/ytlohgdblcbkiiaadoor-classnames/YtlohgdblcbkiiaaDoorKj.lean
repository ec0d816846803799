import Derived.Test.YtlohgdblcbkiiaaDoorKi
set_option linter.unusedVariables false
set_option linter.unusedSimpArgs false
namespace Go.Proofs.YtlohgdblcbkiiaaDoor
open Go.RowKit Go.Deep

/-- The numbers that are no points, and those that are, with what 'Text' makes of them. -/
theorem rn_ways (n : Int) : (n < 0 ∧ rn n = 65533) ∨ (decide (n < 0) = false ∧ decide (n > 1114111) = true ∧ rn n = 65533) ∨
    (decide (n < 0) = false ∧ decide (n > 1114111) = false ∧ decide (n ≥ 55296) = true ∧ decide (n ≤ 57343) = true ∧ rn n = 65533) ∨
    (decide (n < 0) = false ∧ decide (n > 1114111) = false ∧ decide (n ≥ 55296) = false ∧ rn n = n) ∨
    (decide (n < 0) = false ∧ decide (n > 1114111) = false ∧ decide (n ≥ 55296) = true ∧ decide (n ≤ 57343) = false ∧ rn n = n) := by
  unfold rn
  by_cases h1 : n < 0
  · left; exact ⟨h1, if_pos (.inl h1)⟩
  · right
    by_cases h2 : n > 1114111
    · left; exact ⟨decide_eq_false h1, decide_eq_true h2, if_pos (by omega)⟩
    · right
      by_cases h3 : n ≥ 55296
      · by_cases h4 : n ≤ 57343
        · left; exact ⟨decide_eq_false h1, decide_eq_false h2, decide_eq_true h3, decide_eq_true h4, if_pos (by omega)⟩
        · right; right; exact ⟨decide_eq_false h1, decide_eq_false h2, decide_eq_true h3, decide_eq_false h4, if_neg (by omega)⟩
      · right; left; exact ⟨decide_eq_false h1, decide_eq_false h2, decide_eq_false h3, if_neg (by omega)⟩

set_option maxRecDepth 100000 in
set_option maxHeartbeats 4000000 in
theorem classNames_walk (s : ByteArray) (n : Int) (w : World) (hT : Kab w) (hW : Tab w) (hm : s.size ≤ maxLen) :
    Calls Tryd.prog 7 #[.string s, .int .i64 n] w fun e w' => e = .returned (.bool true) ∧ Below w.heap.size w w' := by
  have HT : Hid (Kab w) := hT
  have HW : Hid (Tab w) := hW
  clear hT hW
  have hP := P_len s
  by_cases hs : s.size ≤ 268435455
  · have g0 : decide ((s.size : Int) > 268435455) = false := by simp; omega
    cases hL : nmL (pts s)
    · have hn : nm s = false := by unfold nm; rw [hL]; rfl
      have hk : ky s = false := by
        cases h : ky s
        · rfl
        · rw [ky_nmL s h] at hL; cases hL
      go_enter Tryd.func7, Tryd.ntmps7
      go_wp2_with fail
      refine (isName_any s _ HT.out (by omega)).mono ?_
      rintro e w1 ⟨rfl, hb1⟩
      have HT1 : Hid (Kab w1) := HT.out.below hb1
      rw [hn]
      go_wp2_with fail
      refine (isKey_any s _ HT1.out.2.1).mono ?_
      rintro e w2 ⟨rfl, rfl⟩
      rw [hk]
      go_wp2_with fail
      refine (awake_any _ HT1.out).mono ?_
      rintro e w3 ⟨rfl, hb3⟩
      have hB := hb1.trans (hb3.mono hb1.size)
      go_wp2_with fail
      go_ret
      exact ⟨rfl, hB⟩
    · obtain ⟨hv, htw, h0, hl0, hpa, zr, heq, hff⟩ := names_core s n hL
      have HV : Hid (vl s = true) := hv
      have htw2 : decide (tw s < 1) = false := by simp; omega
      have HL0 : Hid (lt' (dp s (st s 0)) = true) := hl0
      have HPA : Hid (∀ k, k < (P s).length → pr' (dp s (st s k)) = true) := hpa
      have HEQ : Hid ((nm (s ++ runesBytes [rn n]) || ky (s ++ runesBytes [rn n])) = pr' (rn n)) := heq
      have zF : (s ++ (⟨#[255]⟩ : ByteArray)).size ≤ 2147483647 := by
        rw [size_app]
        have : (⟨#[255]⟩ : ByteArray).size = 1 := rfl
        omega
      have HFF : Hid (∀ (F : ByteArray) (W : World), F = ⟨#[255]⟩ → Kab W → Calls Tryd.prog 13 #[.string (s ++ F)] W fun e w' => e = .returned (.bool false) ∧ Below W.heap.size W w') := fun F W hF hK => by
        subst hF
        have h := isName_any (s ++ ⟨#[255]⟩) W hK zF
        rwa [hff] at h
      have l0 : (((P s).length : Int) == 0) = false := beq_eq_false_iff_ne.2 (by omega)
      have l1 : (0 : Int) < ((P s).length : Int) := by omega
      have hcase := rn_ways n
      have hnk : ky s = !nm s := by
        have h := nm_or_ky s
        rw [hL] at h
        cases hn : nm s
        · rw [hn] at h; simpa using h
        · cases hk : ky s
          · rfl
          · rw [nm_key s hk] at hn; cases hn
      clear hv hl0 hpa heq hff htw hL
      go_enter Tryd.func7, Tryd.ntmps7
      go_wp2_with fail
      refine (isName_any s _ HT.out (by omega)).mono ?_
      rintro e w1 ⟨rfl, hB⟩
      have HT1 : Hid (Kab w1) := HT.out.below hB
      go_wp2_with fail
      refine (isKey_any s _ HT1.out.2.1).mono ?_
      rintro e w2 ⟨rfl, rfl⟩
      rw [hnk]
      generalize nm s = b
      clear hnk HT1
      cases b
      · simp only [Bool.not_false]
        go_wp2_with fail
        refine (valid_any s _ (by omega)).mono ?_
        rintro e w3 ⟨rfl, hb3⟩
        rw [HV.out]
        have hB3 := hB.trans (hb3.mono hB.size)
        have HW3 : Hid (Tab w3) := HW.out.below hB3
        clear hb3 hB
        go_wp2_with fail
        refine (wtext_any s _ HW3.out (by omega)).mono ?_
        rintro e w4 ⟨rfl, hb4⟩
        have hB4 := hB3.trans (hb4.mono hB3.size)
        clear hb4 hB3 HW3
        generalize tw s = tws at *
        go_wp2_with fail
        refine (points_any s _ (by omega)).mono ?_
        rintro e w5 ⟨rfl, hown, hb5⟩
        rw [ivs_eq] at hown
        have hrow := own_row hown
        have hB5 := hB4.trans (hb5.mono hB4.size)
        clear hown hb5 hB4
        generalize w4.heap.size + 1 = g at *
        have HT5 : Hid (Kab w5) := HT.out.below hB5
        have c0 := hrow.at 0 (by omega)
        rw [show (P s).map (dp s) = pts s from rfl, zs_getD s 0 (by omega)] at c0
        generalize hx0 : dp s (st s 0) = x0 at *
        have HX0 : Hid (dp s (st s 0) = x0) := hx0
        clear hx0
        go_wp2_with fail
        refine (letter_any x0 _ HT5.out.1).mono ?_
        rintro e w6 ⟨rfl, rfl⟩
        rw [HL0.out]
        clear c0 HX0 HT5
        go_wp2_with fail
        go_loopw [8] (fun i wr => wr = w6 ∧ ∃ k : Nat, k ≤ (P s).length ∧ i = .int .i64 k) (fun i _ => (P s).length - (intOf i).toNat)
        case atStart => exact ⟨rfl, 0, by omega, rfl⟩
        case round =>
          obtain ⟨rfl, k, hk, rfl⟩ := hrel
          by_cases hlt : k < (P s).length
          · have c1 := hrow.at k hlt
            rw [show (P s).map (dp s) = pts s from rfl, zs_getD s k hlt] at c1
            simp only [Nat.zero_add] at c1
            have HPk : Hid (pr' (dp s (st s k)) = true) := HPA.out k hlt
            have HT5 : Hid (Kab wr) := HT.out.below hB5
            clear HPA hrow HEQ HFF
            generalize dp s (st s k) = y at *
            go_wp2_with fail
            refine (part_any y _ HT5.out.1).mono ?_
            rintro e w7 ⟨rfl, rfl⟩
            rw [HPk.out]
            go_wp2_with fail
            exact ⟨⟨trivial, k + 1, by omega, by go_num⟩, by simp [intOf]; omega⟩
          · clear hrow HPA
            obtain ⟨w5, e5⟩ : ∃ w5, w5 = wr := ⟨wr, rfl⟩
            subst e5
            go_wp2_with fail
            refine (text_any w5.heap.size 0 1 1 [n] _ (by omega) rfl (fun j hj => ?_)).mono ?_
            · obtain rfl : j = 0 := by omega
              rw [World.cell?_alloc_new]; rfl
            rintro e w6 ⟨rfl, hb6⟩
            rw [show [n].map rn = [rn n] from rfl]
            have hB6 : Below w.heap.size w w6 := (hB5.alloc hB5.size _).trans (hb6.mono (by have := hB5.size; simp; omega))
            clear hb6 hB5
            have zE : (s ++ runesBytes [rn n]).size ≤ 2147483647 := by rw [size_app]; omega
            have zE2 : (runesBytes [rn n]).size ≤ 4 := zr
            have zE3 : s.size + (runesBytes [rn n]).size ≤ 9223372036854775807 := by omega
            have HT6 : Hid (Kab w6) := HT.out.below hB6
            generalize runesBytes [rn n] = E at *
            go_wp2_with fail
            refine (isName_any (s ++ E) _ HT6.out (by omega)).mono ?_
            rintro e w7 ⟨rfl, hb7⟩
            have hBe := hB6.trans (hb7.mono hB6.size)
            have HTB : Hid (Kab w7) := HT.out.below hBe
            clear hb7 hB6 HT6
            cases hnt : nm (s ++ E)
            · rw [hnt] at HEQ
              clear hnt
              go_wp2_with fail
              refine (isKey_any (s ++ E) _ HTB.out.2.1).mono ?_
              rintro e w8 ⟨rfl, rfl⟩
              cases hkt : ky (s ++ E)
              · rw [hkt] at HEQ
                clear hkt
                have HIS : Hid (false = pr' (rn n)) := HEQ.out
                clear HEQ
                rcases hcase with ⟨p1, HR⟩ | ⟨p1, p2, HR⟩ | ⟨p1, p2, p3, p4, HR⟩ | ⟨p1, p2, p3, HR⟩ | ⟨p1, p2, p3, p4, HR⟩
                · have HPR : Hid (pr' 65533 = false) := by
                    show pr' 65533 = false
                    rw [← HR]; exact HIS.out.symm
                  clear HIS HR
                  go_wp2_with fail
                  refine (part_any 65533 _ HTB.out.1).mono ?_
                  rintro e wp ⟨rfl, rfl⟩
                  rw [HPR.out]
                  go_wp2_with fail
                  refine (HFF.out _ _ rfl HTB.out).mono ?_
                  rintro e wx ⟨rfl, hbx⟩
                  have hBx := hBe.trans (hbx.mono hBe.size)
                  have HTx : Hid (Kab wx) := HT.out.below hBx
                  clear hbx hBe HTB
                  go_wp2_with fail
                  refine (awake_any _ HTx.out).mono ?_
                  rintro e wy ⟨rfl, hby⟩
                  have hBy := hBx.trans (hby.mono hBx.size)
                  go_wp2_with fail
                  go_ret
                  exact ⟨rfl, hBy⟩
                · have HPR : Hid (pr' 65533 = false) := by
                    show pr' 65533 = false
                    rw [← HR]; exact HIS.out.symm
                  clear HIS HR
                  go_wp2_with fail
                  refine (part_any 65533 _ HTB.out.1).mono ?_
                  rintro e wp ⟨rfl, rfl⟩
                  rw [HPR.out]
                  go_wp2_with fail
                  refine (HFF.out _ _ rfl HTB.out).mono ?_
                  rintro e wx ⟨rfl, hbx⟩
                  have hBx := hBe.trans (hbx.mono hBe.size)
                  have HTx : Hid (Kab wx) := HT.out.below hBx
                  clear hbx hBe HTB
                  go_wp2_with fail
                  refine (awake_any _ HTx.out).mono ?_
                  rintro e wy ⟨rfl, hby⟩
                  have hBy := hBx.trans (hby.mono hBx.size)
                  go_wp2_with fail
                  go_ret
                  exact ⟨rfl, hBy⟩
                · have HPR : Hid (pr' 65533 = false) := by
                    show pr' 65533 = false
                    rw [← HR]; exact HIS.out.symm
                  clear HIS HR
                  go_wp2_with fail
                  refine (part_any 65533 _ HTB.out.1).mono ?_
                  rintro e wp ⟨rfl, rfl⟩
                  rw [HPR.out]
                  go_wp2_with fail
                  refine (HFF.out _ _ rfl HTB.out).mono ?_
                  rintro e wx ⟨rfl, hbx⟩
                  have hBx := hBe.trans (hbx.mono hBe.size)
                  have HTx : Hid (Kab wx) := HT.out.below hBx
                  clear hbx hBe HTB
                  go_wp2_with fail
                  refine (awake_any _ HTx.out).mono ?_
                  rintro e wy ⟨rfl, hby⟩
                  have hBy := hBx.trans (hby.mono hBx.size)
                  go_wp2_with fail
                  go_ret
                  exact ⟨rfl, hBy⟩
                · have HPR : Hid (pr' n = false) := by
                    show pr' n = false
                    rw [← HR]; exact HIS.out.symm
                  clear HIS HR
                  go_wp2_with fail
                  refine (part_any n _ HTB.out.1).mono ?_
                  rintro e wp ⟨rfl, rfl⟩
                  rw [HPR.out]
                  go_wp2_with fail
                  refine (HFF.out _ _ rfl HTB.out).mono ?_
                  rintro e wx ⟨rfl, hbx⟩
                  have hBx := hBe.trans (hbx.mono hBe.size)
                  have HTx : Hid (Kab wx) := HT.out.below hBx
                  clear hbx hBe HTB
                  go_wp2_with fail
                  refine (awake_any _ HTx.out).mono ?_
                  rintro e wy ⟨rfl, hby⟩
                  have hBy := hBx.trans (hby.mono hBx.size)
                  go_wp2_with fail
                  go_ret
                  exact ⟨rfl, hBy⟩
                · have HPR : Hid (pr' n = false) := by
                    show pr' n = false
                    rw [← HR]; exact HIS.out.symm
                  clear HIS HR
                  go_wp2_with fail
                  refine (part_any n _ HTB.out.1).mono ?_
                  rintro e wp ⟨rfl, rfl⟩
                  rw [HPR.out]
                  go_wp2_with fail
                  refine (HFF.out _ _ rfl HTB.out).mono ?_
                  rintro e wx ⟨rfl, hbx⟩
                  have hBx := hBe.trans (hbx.mono hBe.size)
                  have HTx : Hid (Kab wx) := HT.out.below hBx
                  clear hbx hBe HTB
                  go_wp2_with fail
                  refine (awake_any _ HTx.out).mono ?_
                  rintro e wy ⟨rfl, hby⟩
                  have hBy := hBx.trans (hby.mono hBx.size)
                  go_wp2_with fail
                  go_ret
                  exact ⟨rfl, hBy⟩
              · rw [hkt] at HEQ
                clear hkt
                have HIS : Hid (true = pr' (rn n)) := HEQ.out
                clear HEQ
                rcases hcase with ⟨p1, HR⟩ | ⟨p1, p2, HR⟩ | ⟨p1, p2, p3, p4, HR⟩ | ⟨p1, p2, p3, HR⟩ | ⟨p1, p2, p3, p4, HR⟩
                · have HPR : Hid (pr' 65533 = true) := by
                    show pr' 65533 = true
                    rw [← HR]; exact HIS.out.symm
                  clear HIS HR
                  go_wp2_with fail
                  refine (part_any 65533 _ HTB.out.1).mono ?_
                  rintro e wp ⟨rfl, rfl⟩
                  rw [HPR.out]
                  go_wp2_with fail
                  refine (HFF.out _ _ rfl HTB.out).mono ?_
                  rintro e wx ⟨rfl, hbx⟩
                  have hBx := hBe.trans (hbx.mono hBe.size)
                  have HTx : Hid (Kab wx) := HT.out.below hBx
                  clear hbx hBe HTB
                  go_wp2_with fail
                  refine (awake_any _ HTx.out).mono ?_
                  rintro e wy ⟨rfl, hby⟩
                  have hBy := hBx.trans (hby.mono hBx.size)
                  go_wp2_with fail
                  go_ret
                  exact ⟨rfl, hBy⟩
                · have HPR : Hid (pr' 65533 = true) := by
                    show pr' 65533 = true
                    rw [← HR]; exact HIS.out.symm
                  clear HIS HR
                  go_wp2_with fail
                  refine (part_any 65533 _ HTB.out.1).mono ?_
                  rintro e wp ⟨rfl, rfl⟩
                  rw [HPR.out]
                  go_wp2_with fail
                  refine (HFF.out _ _ rfl HTB.out).mono ?_
                  rintro e wx ⟨rfl, hbx⟩
                  have hBx := hBe.trans (hbx.mono hBe.size)
                  have HTx : Hid (Kab wx) := HT.out.below hBx
                  clear hbx hBe HTB
                  go_wp2_with fail
                  refine (awake_any _ HTx.out).mono ?_
                  rintro e wy ⟨rfl, hby⟩
                  have hBy := hBx.trans (hby.mono hBx.size)
                  go_wp2_with fail
                  go_ret
                  exact ⟨rfl, hBy⟩
                · have HPR : Hid (pr' 65533 = true) := by
                    show pr' 65533 = true
                    rw [← HR]; exact HIS.out.symm
                  clear HIS HR
                  go_wp2_with fail
                  refine (part_any 65533 _ HTB.out.1).mono ?_
                  rintro e wp ⟨rfl, rfl⟩
                  rw [HPR.out]
                  go_wp2_with fail
                  refine (HFF.out _ _ rfl HTB.out).mono ?_
                  rintro e wx ⟨rfl, hbx⟩
                  have hBx := hBe.trans (hbx.mono hBe.size)
                  have HTx : Hid (Kab wx) := HT.out.below hBx
                  clear hbx hBe HTB
                  go_wp2_with fail
                  refine (awake_any _ HTx.out).mono ?_
                  rintro e wy ⟨rfl, hby⟩
                  have hBy := hBx.trans (hby.mono hBx.size)
                  go_wp2_with fail
                  go_ret
                  exact ⟨rfl, hBy⟩
                · have HPR : Hid (pr' n = true) := by
                    show pr' n = true
                    rw [← HR]; exact HIS.out.symm
                  clear HIS HR
                  go_wp2_with fail
                  refine (part_any n _ HTB.out.1).mono ?_
                  rintro e wp ⟨rfl, rfl⟩
                  rw [HPR.out]
                  go_wp2_with fail
                  refine (HFF.out _ _ rfl HTB.out).mono ?_
                  rintro e wx ⟨rfl, hbx⟩
                  have hBx := hBe.trans (hbx.mono hBe.size)
                  have HTx : Hid (Kab wx) := HT.out.below hBx
                  clear hbx hBe HTB
                  go_wp2_with fail
                  refine (awake_any _ HTx.out).mono ?_
                  rintro e wy ⟨rfl, hby⟩
                  have hBy := hBx.trans (hby.mono hBx.size)
                  go_wp2_with fail
                  go_ret
                  exact ⟨rfl, hBy⟩
                · have HPR : Hid (pr' n = true) := by
                    show pr' n = true
                    rw [← HR]; exact HIS.out.symm
                  clear HIS HR
                  go_wp2_with fail
                  refine (part_any n _ HTB.out.1).mono ?_
                  rintro e wp ⟨rfl, rfl⟩
                  rw [HPR.out]
                  go_wp2_with fail
                  refine (HFF.out _ _ rfl HTB.out).mono ?_
                  rintro e wx ⟨rfl, hbx⟩
                  have hBx := hBe.trans (hbx.mono hBe.size)
                  have HTx : Hid (Kab wx) := HT.out.below hBx
                  clear hbx hBe HTB
                  go_wp2_with fail
                  refine (awake_any _ HTx.out).mono ?_
                  rintro e wy ⟨rfl, hby⟩
                  have hBy := hBx.trans (hby.mono hBx.size)
                  go_wp2_with fail
                  go_ret
                  exact ⟨rfl, hBy⟩
            · rw [hnt] at HEQ
              clear hnt
              have HIS : Hid (true = pr' (rn n)) := HEQ.out
              clear HEQ
              rcases hcase with ⟨p1, HR⟩ | ⟨p1, p2, HR⟩ | ⟨p1, p2, p3, p4, HR⟩ | ⟨p1, p2, p3, HR⟩ | ⟨p1, p2, p3, p4, HR⟩
              · have HPR : Hid (pr' 65533 = true) := by
                  show pr' 65533 = true
                  rw [← HR]; exact HIS.out.symm
                clear HIS HR
                go_wp2_with fail
                refine (part_any 65533 _ HTB.out.1).mono ?_
                rintro e wp ⟨rfl, rfl⟩
                rw [HPR.out]
                go_wp2_with fail
                refine (HFF.out _ _ rfl HTB.out).mono ?_
                rintro e wx ⟨rfl, hbx⟩
                have hBx := hBe.trans (hbx.mono hBe.size)
                have HTx : Hid (Kab wx) := HT.out.below hBx
                clear hbx hBe HTB
                go_wp2_with fail
                refine (awake_any _ HTx.out).mono ?_
                rintro e wy ⟨rfl, hby⟩
                have hBy := hBx.trans (hby.mono hBx.size)
                go_wp2_with fail
                go_ret
                exact ⟨rfl, hBy⟩
              · have HPR : Hid (pr' 65533 = true) := by
                  show pr' 65533 = true
                  rw [← HR]; exact HIS.out.symm
                clear HIS HR
                go_wp2_with fail
                refine (part_any 65533 _ HTB.out.1).mono ?_
                rintro e wp ⟨rfl, rfl⟩
                rw [HPR.out]
                go_wp2_with fail
                refine (HFF.out _ _ rfl HTB.out).mono ?_
                rintro e wx ⟨rfl, hbx⟩
                have hBx := hBe.trans (hbx.mono hBe.size)
                have HTx : Hid (Kab wx) := HT.out.below hBx
                clear hbx hBe HTB
                go_wp2_with fail
                refine (awake_any _ HTx.out).mono ?_
                rintro e wy ⟨rfl, hby⟩
                have hBy := hBx.trans (hby.mono hBx.size)
                go_wp2_with fail
                go_ret
                exact ⟨rfl, hBy⟩
              · have HPR : Hid (pr' 65533 = true) := by
                  show pr' 65533 = true
                  rw [← HR]; exact HIS.out.symm
                clear HIS HR
                go_wp2_with fail
                refine (part_any 65533 _ HTB.out.1).mono ?_
                rintro e wp ⟨rfl, rfl⟩
                rw [HPR.out]
                go_wp2_with fail
                refine (HFF.out _ _ rfl HTB.out).mono ?_
                rintro e wx ⟨rfl, hbx⟩
                have hBx := hBe.trans (hbx.mono hBe.size)
                have HTx : Hid (Kab wx) := HT.out.below hBx
                clear hbx hBe HTB
                go_wp2_with fail
                refine (awake_any _ HTx.out).mono ?_
                rintro e wy ⟨rfl, hby⟩
                have hBy := hBx.trans (hby.mono hBx.size)
                go_wp2_with fail
                go_ret
                exact ⟨rfl, hBy⟩
              · have HPR : Hid (pr' n = true) := by
                  show pr' n = true
                  rw [← HR]; exact HIS.out.symm
                clear HIS HR
                go_wp2_with fail
                refine (part_any n _ HTB.out.1).mono ?_
                rintro e wp ⟨rfl, rfl⟩
                rw [HPR.out]
                go_wp2_with fail
                refine (HFF.out _ _ rfl HTB.out).mono ?_
                rintro e wx ⟨rfl, hbx⟩
                have hBx := hBe.trans (hbx.mono hBe.size)
                have HTx : Hid (Kab wx) := HT.out.below hBx
                clear hbx hBe HTB
                go_wp2_with fail
                refine (awake_any _ HTx.out).mono ?_
                rintro e wy ⟨rfl, hby⟩
                have hBy := hBx.trans (hby.mono hBx.size)
                go_wp2_with fail
                go_ret
                exact ⟨rfl, hBy⟩
              · have HPR : Hid (pr' n = true) := by
                  show pr' n = true
                  rw [← HR]; exact HIS.out.symm
                clear HIS HR
                go_wp2_with fail
                refine (part_any n _ HTB.out.1).mono ?_
                rintro e wp ⟨rfl, rfl⟩
                rw [HPR.out]
                go_wp2_with fail
                refine (HFF.out _ _ rfl HTB.out).mono ?_
                rintro e wx ⟨rfl, hbx⟩
                have hBx := hBe.trans (hbx.mono hBe.size)
                have HTx : Hid (Kab wx) := HT.out.below hBx
                clear hbx hBe HTB
                go_wp2_with fail
                refine (awake_any _ HTx.out).mono ?_
                rintro e wy ⟨rfl, hby⟩
                have hBy := hBx.trans (hby.mono hBx.size)
                go_wp2_with fail
                go_ret
                exact ⟨rfl, hBy⟩
      · simp only [Bool.not_true]
        go_wp2_with fail
        refine (valid_any s _ (by omega)).mono ?_
        rintro e w3 ⟨rfl, hb3⟩
        rw [HV.out]
        have hB3 := hB.trans (hb3.mono hB.size)
        have HW3 : Hid (Tab w3) := HW.out.below hB3
        clear hb3 hB
        go_wp2_with fail
        refine (wtext_any s _ HW3.out (by omega)).mono ?_
        rintro e w4 ⟨rfl, hb4⟩
        have hB4 := hB3.trans (hb4.mono hB3.size)
        clear hb4 hB3 HW3
        generalize tw s = tws at *
        go_wp2_with fail
        refine (points_any s _ (by omega)).mono ?_
        rintro e w5 ⟨rfl, hown, hb5⟩
        rw [ivs_eq] at hown
        have hrow := own_row hown
        have hB5 := hB4.trans (hb5.mono hB4.size)
        clear hown hb5 hB4
        generalize w4.heap.size + 1 = g at *
        have HT5 : Hid (Kab w5) := HT.out.below hB5
        have c0 := hrow.at 0 (by omega)
        rw [show (P s).map (dp s) = pts s from rfl, zs_getD s 0 (by omega)] at c0
        generalize hx0 : dp s (st s 0) = x0 at *
        have HX0 : Hid (dp s (st s 0) = x0) := hx0
        clear hx0
        go_wp2_with fail
        refine (letter_any x0 _ HT5.out.1).mono ?_
        rintro e w6 ⟨rfl, rfl⟩
        rw [HL0.out]
        clear c0 HX0 HT5
        go_wp2_with fail
        go_loopw [8] (fun i wr => wr = w6 ∧ ∃ k : Nat, k ≤ (P s).length ∧ i = .int .i64 k) (fun i _ => (P s).length - (intOf i).toNat)
        case atStart => exact ⟨rfl, 0, by omega, rfl⟩
        case round =>
          obtain ⟨rfl, k, hk, rfl⟩ := hrel
          by_cases hlt : k < (P s).length
          · have c1 := hrow.at k hlt
            rw [show (P s).map (dp s) = pts s from rfl, zs_getD s k hlt] at c1
            simp only [Nat.zero_add] at c1
            have HPk : Hid (pr' (dp s (st s k)) = true) := HPA.out k hlt
            have HT5 : Hid (Kab wr) := HT.out.below hB5
            clear HPA hrow HEQ HFF
            generalize dp s (st s k) = y at *
            go_wp2_with fail
            refine (part_any y _ HT5.out.1).mono ?_
            rintro e w7 ⟨rfl, rfl⟩
            rw [HPk.out]
            go_wp2_with fail
            exact ⟨⟨trivial, k + 1, by omega, by go_num⟩, by simp [intOf]; omega⟩
          · clear hrow HPA
            obtain ⟨w5, e5⟩ : ∃ w5, w5 = wr := ⟨wr, rfl⟩
            subst e5
            go_wp2_with fail
            refine (text_any w5.heap.size 0 1 1 [n] _ (by omega) rfl (fun j hj => ?_)).mono ?_
            · obtain rfl : j = 0 := by omega
              rw [World.cell?_alloc_new]; rfl
            rintro e w6 ⟨rfl, hb6⟩
            rw [show [n].map rn = [rn n] from rfl]
            have hB6 : Below w.heap.size w w6 := (hB5.alloc hB5.size _).trans (hb6.mono (by have := hB5.size; simp; omega))
            clear hb6 hB5
            have zE : (s ++ runesBytes [rn n]).size ≤ 2147483647 := by rw [size_app]; omega
            have zE2 : (runesBytes [rn n]).size ≤ 4 := zr
            have zE3 : s.size + (runesBytes [rn n]).size ≤ 9223372036854775807 := by omega
            have HT6 : Hid (Kab w6) := HT.out.below hB6
            generalize runesBytes [rn n] = E at *
            go_wp2_with fail
            refine (isName_any (s ++ E) _ HT6.out (by omega)).mono ?_
            rintro e w7 ⟨rfl, hb7⟩
            have hBe := hB6.trans (hb7.mono hB6.size)
            have HTB : Hid (Kab w7) := HT.out.below hBe
            clear hb7 hB6 HT6
            cases hnt : nm (s ++ E)
            · rw [hnt] at HEQ
              clear hnt
              go_wp2_with fail
              refine (isKey_any (s ++ E) _ HTB.out.2.1).mono ?_
              rintro e w8 ⟨rfl, rfl⟩
              cases hkt : ky (s ++ E)
              · rw [hkt] at HEQ
                clear hkt
                have HIS : Hid (false = pr' (rn n)) := HEQ.out
                clear HEQ
                rcases hcase with ⟨p1, HR⟩ | ⟨p1, p2, HR⟩ | ⟨p1, p2, p3, p4, HR⟩ | ⟨p1, p2, p3, HR⟩ | ⟨p1, p2, p3, p4, HR⟩
                · have HPR : Hid (pr' 65533 = false) := by
                    show pr' 65533 = false
                    rw [← HR]; exact HIS.out.symm
                  clear HIS HR
                  go_wp2_with fail
                  refine (part_any 65533 _ HTB.out.1).mono ?_
                  rintro e wp ⟨rfl, rfl⟩
                  rw [HPR.out]
                  go_wp2_with fail
                  refine (HFF.out _ _ rfl HTB.out).mono ?_
                  rintro e wx ⟨rfl, hbx⟩
                  have hBx := hBe.trans (hbx.mono hBe.size)
                  have HTx : Hid (Kab wx) := HT.out.below hBx
                  clear hbx hBe HTB
                  go_wp2_with fail
                  refine (awake_any _ HTx.out).mono ?_
                  rintro e wy ⟨rfl, hby⟩
                  have hBy := hBx.trans (hby.mono hBx.size)
                  go_wp2_with fail
                  go_ret
                  exact ⟨rfl, hBy⟩
                · have HPR : Hid (pr' 65533 = false) := by
                    show pr' 65533 = false
                    rw [← HR]; exact HIS.out.symm
                  clear HIS HR
                  go_wp2_with fail
                  refine (part_any 65533 _ HTB.out.1).mono ?_
                  rintro e wp ⟨rfl, rfl⟩
                  rw [HPR.out]
                  go_wp2_with fail
                  refine (HFF.out _ _ rfl HTB.out).mono ?_
                  rintro e wx ⟨rfl, hbx⟩
                  have hBx := hBe.trans (hbx.mono hBe.size)
                  have HTx : Hid (Kab wx) := HT.out.below hBx
                  clear hbx hBe HTB
                  go_wp2_with fail
                  refine (awake_any _ HTx.out).mono ?_
                  rintro e wy ⟨rfl, hby⟩
                  have hBy := hBx.trans (hby.mono hBx.size)
                  go_wp2_with fail
                  go_ret
                  exact ⟨rfl, hBy⟩
                · have HPR : Hid (pr' 65533 = false) := by
                    show pr' 65533 = false
                    rw [← HR]; exact HIS.out.symm
                  clear HIS HR
                  go_wp2_with fail
                  refine (part_any 65533 _ HTB.out.1).mono ?_
                  rintro e wp ⟨rfl, rfl⟩
                  rw [HPR.out]
                  go_wp2_with fail
                  refine (HFF.out _ _ rfl HTB.out).mono ?_
                  rintro e wx ⟨rfl, hbx⟩
                  have hBx := hBe.trans (hbx.mono hBe.size)
                  have HTx : Hid (Kab wx) := HT.out.below hBx
                  clear hbx hBe HTB
                  go_wp2_with fail
                  refine (awake_any _ HTx.out).mono ?_
                  rintro e wy ⟨rfl, hby⟩
                  have hBy := hBx.trans (hby.mono hBx.size)
                  go_wp2_with fail
                  go_ret
                  exact ⟨rfl, hBy⟩
                · have HPR : Hid (pr' n = false) := by
                    show pr' n = false
                    rw [← HR]; exact HIS.out.symm
                  clear HIS HR
                  go_wp2_with fail
                  refine (part_any n _ HTB.out.1).mono ?_
                  rintro e wp ⟨rfl, rfl⟩
                  rw [HPR.out]
                  go_wp2_with fail
                  refine (HFF.out _ _ rfl HTB.out).mono ?_
                  rintro e wx ⟨rfl, hbx⟩
                  have hBx := hBe.trans (hbx.mono hBe.size)
                  have HTx : Hid (Kab wx) := HT.out.below hBx
                  clear hbx hBe HTB
                  go_wp2_with fail
                  refine (awake_any _ HTx.out).mono ?_
                  rintro e wy ⟨rfl, hby⟩
                  have hBy := hBx.trans (hby.mono hBx.size)
                  go_wp2_with fail
                  go_ret
                  exact ⟨rfl, hBy⟩
                · have HPR : Hid (pr' n = false) := by
                    show pr' n = false
                    rw [← HR]; exact HIS.out.symm
                  clear HIS HR
                  go_wp2_with fail
                  refine (part_any n _ HTB.out.1).mono ?_
                  rintro e wp ⟨rfl, rfl⟩
                  rw [HPR.out]
                  go_wp2_with fail
                  refine (HFF.out _ _ rfl HTB.out).mono ?_
                  rintro e wx ⟨rfl, hbx⟩
                  have hBx := hBe.trans (hbx.mono hBe.size)
                  have HTx : Hid (Kab wx) := HT.out.below hBx
                  clear hbx hBe HTB
                  go_wp2_with fail
                  refine (awake_any _ HTx.out).mono ?_
                  rintro e wy ⟨rfl, hby⟩
                  have hBy := hBx.trans (hby.mono hBx.size)
                  go_wp2_with fail
                  go_ret
                  exact ⟨rfl, hBy⟩
              · rw [hkt] at HEQ
                clear hkt
                have HIS : Hid (true = pr' (rn n)) := HEQ.out
                clear HEQ
                rcases hcase with ⟨p1, HR⟩ | ⟨p1, p2, HR⟩ | ⟨p1, p2, p3, p4, HR⟩ | ⟨p1, p2, p3, HR⟩ | ⟨p1, p2, p3, p4, HR⟩
                · have HPR : Hid (pr' 65533 = true) := by
                    show pr' 65533 = true
                    rw [← HR]; exact HIS.out.symm
                  clear HIS HR
                  go_wp2_with fail
                  refine (part_any 65533 _ HTB.out.1).mono ?_
                  rintro e wp ⟨rfl, rfl⟩
                  rw [HPR.out]
                  go_wp2_with fail
                  refine (HFF.out _ _ rfl HTB.out).mono ?_
                  rintro e wx ⟨rfl, hbx⟩
                  have hBx := hBe.trans (hbx.mono hBe.size)
                  have HTx : Hid (Kab wx) := HT.out.below hBx
                  clear hbx hBe HTB
                  go_wp2_with fail
                  refine (awake_any _ HTx.out).mono ?_
                  rintro e wy ⟨rfl, hby⟩
                  have hBy := hBx.trans (hby.mono hBx.size)
                  go_wp2_with fail
                  go_ret
                  exact ⟨rfl, hBy⟩
                · have HPR : Hid (pr' 65533 = true) := by
                    show pr' 65533 = true
                    rw [← HR]; exact HIS.out.symm
                  clear HIS HR
                  go_wp2_with fail
                  refine (part_any 65533 _ HTB.out.1).mono ?_
                  rintro e wp ⟨rfl, rfl⟩
                  rw [HPR.out]
                  go_wp2_with fail
                  refine (HFF.out _ _ rfl HTB.out).mono ?_
                  rintro e wx ⟨rfl, hbx⟩
                  have hBx := hBe.trans (hbx.mono hBe.size)
                  have HTx : Hid (Kab wx) := HT.out.below hBx
                  clear hbx hBe HTB
                  go_wp2_with fail
                  refine (awake_any _ HTx.out).mono ?_
                  rintro e wy ⟨rfl, hby⟩
                  have hBy := hBx.trans (hby.mono hBx.size)
                  go_wp2_with fail
                  go_ret
                  exact ⟨rfl, hBy⟩
                · have HPR : Hid (pr' 65533 = true) := by
                    show pr' 65533 = true
                    rw [← HR]; exact HIS.out.symm
                  clear HIS HR
                  go_wp2_with fail
                  refine (part_any 65533 _ HTB.out.1).mono ?_
                  rintro e wp ⟨rfl, rfl⟩
                  rw [HPR.out]
                  go_wp2_with fail
                  refine (HFF.out _ _ rfl HTB.out).mono ?_
                  rintro e wx ⟨rfl, hbx⟩
                  have hBx := hBe.trans (hbx.mono hBe.size)
                  have HTx : Hid (Kab wx) := HT.out.below hBx
                  clear hbx hBe HTB
                  go_wp2_with fail
                  refine (awake_any _ HTx.out).mono ?_
                  rintro e wy ⟨rfl, hby⟩
                  have hBy := hBx.trans (hby.mono hBx.size)
                  go_wp2_with fail
                  go_ret
                  exact ⟨rfl, hBy⟩
                · have HPR : Hid (pr' n = true) := by
                    show pr' n = true
                    rw [← HR]; exact HIS.out.symm
                  clear HIS HR
                  go_wp2_with fail
                  refine (part_any n _ HTB.out.1).mono ?_
                  rintro e wp ⟨rfl, rfl⟩
                  rw [HPR.out]
                  go_wp2_with fail
                  refine (HFF.out _ _ rfl HTB.out).mono ?_
                  rintro e wx ⟨rfl, hbx⟩
                  have hBx := hBe.trans (hbx.mono hBe.size)
                  have HTx : Hid (Kab wx) := HT.out.below hBx
                  clear hbx hBe HTB
                  go_wp2_with fail
                  refine (awake_any _ HTx.out).mono ?_
                  rintro e wy ⟨rfl, hby⟩
                  have hBy := hBx.trans (hby.mono hBx.size)
                  go_wp2_with fail
                  go_ret
                  exact ⟨rfl, hBy⟩
                · have HPR : Hid (pr' n = true) := by
                    show pr' n = true
                    rw [← HR]; exact HIS.out.symm
                  clear HIS HR
                  go_wp2_with fail
                  refine (part_any n _ HTB.out.1).mono ?_
                  rintro e wp ⟨rfl, rfl⟩
                  rw [HPR.out]
                  go_wp2_with fail
                  refine (HFF.out _ _ rfl HTB.out).mono ?_
                  rintro e wx ⟨rfl, hbx⟩
                  have hBx := hBe.trans (hbx.mono hBe.size)
                  have HTx : Hid (Kab wx) := HT.out.below hBx
                  clear hbx hBe HTB
                  go_wp2_with fail
                  refine (awake_any _ HTx.out).mono ?_
                  rintro e wy ⟨rfl, hby⟩
                  have hBy := hBx.trans (hby.mono hBx.size)
                  go_wp2_with fail
                  go_ret
                  exact ⟨rfl, hBy⟩
            · rw [hnt] at HEQ
              clear hnt
              have HIS : Hid (true = pr' (rn n)) := HEQ.out
              clear HEQ
              rcases hcase with ⟨p1, HR⟩ | ⟨p1, p2, HR⟩ | ⟨p1, p2, p3, p4, HR⟩ | ⟨p1, p2, p3, HR⟩ | ⟨p1, p2, p3, p4, HR⟩
              · have HPR : Hid (pr' 65533 = true) := by
                  show pr' 65533 = true
                  rw [← HR]; exact HIS.out.symm
                clear HIS HR
                go_wp2_with fail
                refine (part_any 65533 _ HTB.out.1).mono ?_
                rintro e wp ⟨rfl, rfl⟩
                rw [HPR.out]
                go_wp2_with fail
                refine (HFF.out _ _ rfl HTB.out).mono ?_
                rintro e wx ⟨rfl, hbx⟩
                have hBx := hBe.trans (hbx.mono hBe.size)
                have HTx : Hid (Kab wx) := HT.out.below hBx
                clear hbx hBe HTB
                go_wp2_with fail
                refine (awake_any _ HTx.out).mono ?_
                rintro e wy ⟨rfl, hby⟩
                have hBy := hBx.trans (hby.mono hBx.size)
                go_wp2_with fail
                go_ret
                exact ⟨rfl, hBy⟩
              · have HPR : Hid (pr' 65533 = true) := by
                  show pr' 65533 = true
                  rw [← HR]; exact HIS.out.symm
                clear HIS HR
                go_wp2_with fail
                refine (part_any 65533 _ HTB.out.1).mono ?_
                rintro e wp ⟨rfl, rfl⟩
                rw [HPR.out]
                go_wp2_with fail
                refine (HFF.out _ _ rfl HTB.out).mono ?_
                rintro e wx ⟨rfl, hbx⟩
                have hBx := hBe.trans (hbx.mono hBe.size)
                have HTx : Hid (Kab wx) := HT.out.below hBx
                clear hbx hBe HTB
                go_wp2_with fail
                refine (awake_any _ HTx.out).mono ?_
                rintro e wy ⟨rfl, hby⟩
                have hBy := hBx.trans (hby.mono hBx.size)
                go_wp2_with fail
                go_ret
                exact ⟨rfl, hBy⟩
              · have HPR : Hid (pr' 65533 = true) := by
                  show pr' 65533 = true
                  rw [← HR]; exact HIS.out.symm
                clear HIS HR
                go_wp2_with fail
                refine (part_any 65533 _ HTB.out.1).mono ?_
                rintro e wp ⟨rfl, rfl⟩
                rw [HPR.out]
                go_wp2_with fail
                refine (HFF.out _ _ rfl HTB.out).mono ?_
                rintro e wx ⟨rfl, hbx⟩
                have hBx := hBe.trans (hbx.mono hBe.size)
                have HTx : Hid (Kab wx) := HT.out.below hBx
                clear hbx hBe HTB
                go_wp2_with fail
                refine (awake_any _ HTx.out).mono ?_
                rintro e wy ⟨rfl, hby⟩
                have hBy := hBx.trans (hby.mono hBx.size)
                go_wp2_with fail
                go_ret
                exact ⟨rfl, hBy⟩
              · have HPR : Hid (pr' n = true) := by
                  show pr' n = true
                  rw [← HR]; exact HIS.out.symm
                clear HIS HR
                go_wp2_with fail
                refine (part_any n _ HTB.out.1).mono ?_
                rintro e wp ⟨rfl, rfl⟩
                rw [HPR.out]
                go_wp2_with fail
                refine (HFF.out _ _ rfl HTB.out).mono ?_
                rintro e wx ⟨rfl, hbx⟩
                have hBx := hBe.trans (hbx.mono hBe.size)
                have HTx : Hid (Kab wx) := HT.out.below hBx
                clear hbx hBe HTB
                go_wp2_with fail
                refine (awake_any _ HTx.out).mono ?_
                rintro e wy ⟨rfl, hby⟩
                have hBy := hBx.trans (hby.mono hBx.size)
                go_wp2_with fail
                go_ret
                exact ⟨rfl, hBy⟩
              · have HPR : Hid (pr' n = true) := by
                  show pr' n = true
                  rw [← HR]; exact HIS.out.symm
                clear HIS HR
                go_wp2_with fail
                refine (part_any n _ HTB.out.1).mono ?_
                rintro e wp ⟨rfl, rfl⟩
                rw [HPR.out]
                go_wp2_with fail
                refine (HFF.out _ _ rfl HTB.out).mono ?_
                rintro e wx ⟨rfl, hbx⟩
                have hBx := hBe.trans (hbx.mono hBe.size)
                have HTx : Hid (Kab wx) := HT.out.below hBx
                clear hbx hBe HTB
                go_wp2_with fail
                refine (awake_any _ HTx.out).mono ?_
                rintro e wy ⟨rfl, hby⟩
                have hBy := hBx.trans (hby.mono hBx.size)
                go_wp2_with fail
                go_ret
                exact ⟨rfl, hBy⟩
  · have g0 : decide ((s.size : Int) > 268435455) = true := by simp; omega
    go_enter Tryd.func7, Tryd.ntmps7
    go_wp2_with fail
    go_ret
    exact ⟨rfl, Below.refl _ _⟩
end Go.Proofs.YtlohgdblcbkiiaaDoor
