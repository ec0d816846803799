import Derived.Test.YtkgemlalbhhakaaDoorTi
set_option linter.unusedVariables false
set_option linter.unusedSimpArgs false
namespace Go.Proofs.YtkgemlalbhhakaaDoor
open Go.RowKit

set_option maxRecDepth 100000 in
set_option maxHeartbeats 4000000 in
theorem cuts_all (s t a b : ByteArray) (C c more n m tws g tt both : Int) (w : World) (hT : Tab w) (hs : s.size ≤ 268435455) (ht : t.size ≤ 268435455) (hm0 : 0 ≤ more) (hm1 : more ≤ 255) (hC : -9223372036854775808 ≤ C)
    (hcut : CutsAre s a b c more n m tws) (htws : 0 ≤ tws ∧ tws ≤ 1073741824) (htt : 0 ≤ tt ∧ tt ≤ 1073741824)
    (hwh : ∀ w, Calls Tryd.prog 14 #[.string s] w fun e w' => e = .returned (.int .i64 g) ∧ Below w.heap.size w w')
    (htext : ∀ w, Tab w → Calls Tryd.prog 12 #[.string t] w fun e w' => e = .returned (.int .i64 tt) ∧ Below w.heap.size w w')
    (hboth : ∀ w, Tab w → Calls Tryd.prog 12 #[.string (s ++ t)] w fun e w' => e = .returned (.int .i64 both) ∧ Below w.heap.size w w')
    (hg : ((g == (s.size : Int)) = true ∧ both = tws + tt) ∨ (g == (s.size : Int)) = false) (hc1 : C ≤ 2147483647) (hcc : c = C) (he : 0 ≤ c) (he1 : n ≤ c) (he2 : a.size = s.size) :
    Calls Tryd.prog 6 #[.string s, .string t, .int .i64 C, .int .u8 more] w fun e w' => e = .returned (.bool true) ∧ Below w.heap.size w w' := by
  subst hcc
  have q5 : ((a.size : Int) == (s.size : Int)) = true := by simp; omega
  have HE2 : Hid (a.size = s.size) := he2
  clear he2
  obtain ⟨ha, hab, hbs, hsa, hba, hnm, hn0, hn1, cut1, cut2, cut3, text, texta⟩ := hcut
  have HT : Hid (Tab w) := hT
  have H1 : Hid _ := cut1
  have H2 : Hid _ := cut2
  have H3 : Hid _ := cut3
  have H4 : Hid _ := text
  have H5 : Hid _ := texta
  have H6 : Hid _ := hwh
  have H7 : Hid _ := htext
  have H8 : Hid _ := hboth
  have hd1 : decide (268435455 < (s.size : Int)) = false := by simp; omega
  have hd2 : decide (268435455 < (t.size : Int)) = false := by simp; omega
  have hadd : ¬ (9223372036854775807 < s.size + t.size) := by omega
  have q1 : (tws != tws) = false := by simp
  have q2 : (n != n) = false := by simp
  clear hT cut1 cut2 cut3 text texta hwh htext hboth
  go_enter Tryd.func6, Tryd.ntmps6
  go_wp2_with fail
  refine (H6.out _).mono ?_
  rintro e w1 ⟨rfl, b1⟩
  have T1 : Hid (Tab w1) := HT.out.below b1
  rcases hg with ⟨hg, rfl⟩ | hg
  · have q3 : (tws + tt != tws + tt) = false := by simp
    go_wp2_with fail
    refine (H8.out _ T1.out).mono ?_
    rintro e w2 ⟨rfl, b2⟩
    have B2 := b1.trans (b2.mono b1.size)
    have T2 : Hid (Tab w2) := HT.out.below B2
    clear b1 b2 T1
    go_wp2_with fail
    refine (H4.out _ T2.out).mono ?_
    rintro e w3 ⟨rfl, b3⟩
    have B3 := B2.trans (b3.mono B2.size)
    have T3 : Hid (Tab w3) := HT.out.below B3
    clear b3 B2 T2
    go_wp2_with fail
    refine (H7.out _ T3.out).mono ?_
    rintro e w4 ⟨rfl, b4⟩
    have B4 := B3.trans (b4.mono B3.size)
    have T4 : Hid (Tab w4) := HT.out.below B4
    clear b4 B3 T3
    go_wp2_with fail
    refine (H1.out _ T4.out).mono ?_
    rintro e w5 ⟨rfl, b5⟩
    have B5 := B4.trans (b5.mono B4.size)
    have T5 : Hid (Tab w5) := HT.out.below B5
    clear b5 B4 T4
    go_wp2_with fail
    refine (H2.out _ T5.out).mono ?_
    rintro e w6 ⟨rfl, b6⟩
    have B6 := B5.trans (b6.mono B5.size)
    have T6 : Hid (Tab w6) := HT.out.below B6
    clear b6 B5 T5
    go_wp2_with fail
    refine (H4.out _ T6.out).mono ?_
    rintro e w7 ⟨rfl, b7⟩
    have B7 := B6.trans (b7.mono B6.size)
    have T7 : Hid (Tab w7) := HT.out.below B7
    clear b7 B6 T6
    go_wp2_with fail
    refine (H3.out _ T7.out).mono ?_
    rintro e w8 ⟨rfl, b8⟩
    have B8 := B7.trans (b8.mono B7.size)
    have T8 : Hid (Tab w8) := HT.out.below B8
    clear b8 B7 T7
    go_wp2_with fail
    refine (H4.out _ T8.out).mono ?_
    rintro e w9 ⟨rfl, b9⟩
    have B9 := B8.trans (b9.mono B8.size)
    have T9 : Hid (Tab w9) := HT.out.below B9
    clear b9 B8 T8
    go_wp2_with fail
    refine (H5.out _ T9.out).mono ?_
    rintro e w10 ⟨rfl, b10⟩
    have B10 := B9.trans (b10.mono B9.size)
    have T10 : Hid (Tab w10) := HT.out.below B10
    clear b10 B9 T9
    go_wp2_with fail
    refine (awake_any _ T10.out).mono ?_
    rintro e w11 ⟨rfl, b11⟩
    have B11 := B10.trans (b11.mono B10.size)
    go_wp2_with fail
    go_ret
    exact ⟨rfl, B11⟩
  · have B4 := b1
    have T4 : Hid (Tab w1) := T1
    clear b1 T1
    go_wp2_with fail
    refine (H1.out _ T4.out).mono ?_
    rintro e w5 ⟨rfl, b5⟩
    have B5 := B4.trans (b5.mono B4.size)
    have T5 : Hid (Tab w5) := HT.out.below B5
    clear b5 B4 T4
    go_wp2_with fail
    refine (H2.out _ T5.out).mono ?_
    rintro e w6 ⟨rfl, b6⟩
    have B6 := B5.trans (b6.mono B5.size)
    have T6 : Hid (Tab w6) := HT.out.below B6
    clear b6 B5 T5
    go_wp2_with fail
    refine (H4.out _ T6.out).mono ?_
    rintro e w7 ⟨rfl, b7⟩
    have B7 := B6.trans (b7.mono B6.size)
    have T7 : Hid (Tab w7) := HT.out.below B7
    clear b7 B6 T6
    go_wp2_with fail
    refine (H3.out _ T7.out).mono ?_
    rintro e w8 ⟨rfl, b8⟩
    have B8 := B7.trans (b8.mono B7.size)
    have T8 : Hid (Tab w8) := HT.out.below B8
    clear b8 B7 T7
    go_wp2_with fail
    refine (H4.out _ T8.out).mono ?_
    rintro e w9 ⟨rfl, b9⟩
    have B9 := B8.trans (b9.mono B8.size)
    have T9 : Hid (Tab w9) := HT.out.below B9
    clear b9 B8 T8
    go_wp2_with fail
    refine (H5.out _ T9.out).mono ?_
    rintro e w10 ⟨rfl, b10⟩
    have B10 := B9.trans (b10.mono B9.size)
    have T10 : Hid (Tab w10) := HT.out.below B10
    clear b10 B9 T9
    go_wp2_with fail
    refine (awake_any _ T10.out).mono ?_
    rintro e w11 ⟨rfl, b11⟩
    have B11 := B10.trans (b11.mono B10.size)
    go_wp2_with fail
    go_ret
    exact ⟨rfl, B11⟩

end Go.Proofs.YtkgemlalbhhakaaDoor
