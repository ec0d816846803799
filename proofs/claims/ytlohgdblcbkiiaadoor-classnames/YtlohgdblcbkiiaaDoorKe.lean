import Derived.Test.YtlohgdblcbkiiaaDoorKd
import Derived.Test.YtlohgdblcbkiiaaDoorTb
set_option linter.unusedVariables false
set_option linter.unusedSimpArgs false
namespace Go.Proofs.YtlohgdblcbkiiaaDoor
open Go.RowKit

theorem lt_wd (p : Int) (h : lt' p = true) : 1 ≤ wd p := by
  have h' : ltr p := of_decide_eq_true h
  have hz : ¬ zro p := by unfold ltr at h'; unfold zro; omega
  unfold wd
  split
  · omega
  · first | omega | (rw [if_neg hz]; omega)

set_option maxHeartbeats 400000 in
theorem classPoint_walk (p : Int) (w : World) (hT : Kab w) : Calls Tryd.prog 4 #[.int .i64 p] w fun e w' => e = .returned (.bool true) ∧ Below w.heap.size w w' := by
  have HT : Hid (Kab w) := hT
  clear hT
  go_enter Tryd.func4, Tryd.ntmps4
  go_wp2_with fail
  refine (letter_any p _ HT.out.1).mono ?_
  rintro e w1 ⟨rfl, rfl⟩
  go_wp2_with fail
  refine (rletter_any p _).mono ?_
  rintro e w2 ⟨rfl, hb⟩
  have hT2 : Hid (Kab w2) := HT.out.below hb
  have e1 : (lt' p == lt' p) = true := by simp
  generalize lt' p = y at *
  go_wp2_with fail
  refine (part_any p _ hT2.out.1).mono ?_
  rintro e w3 ⟨rfl, rfl⟩
  go_wp2_with fail
  refine (rpart_any p _).mono ?_
  rintro e w4 ⟨rfl, hb4⟩
  have hT4 : Hid (Kab w4) := hT2.out.below hb4
  have hB := hb.trans (hb4.mono hb.size)
  have e2 : (pr' p == pr' p) = true := by simp
  generalize pr' p = z at *
  clear hb hb4 HT hT2
  go_wp2_with fail
  refine (awake_any _ hT4.out).mono ?_
  rintro e w5 ⟨rfl, hb5⟩
  have hB2 := hB.trans (hb5.mono hB.size)
  go_wp2_with fail
  go_ret
  exact ⟨rfl, hB2⟩

set_option maxHeartbeats 1000000 in
theorem classTable_walk (a : Int) (w : World) (hT : Kab w) (hW : Tab w) (h0 : 0 ≤ a) (h1 : a ≤ 255) : Calls Tryd.prog 5 #[.int .u8 a] w fun e w' => e = .returned (.bool true) ∧ Below w.heap.size w w' := by
  have HT : Hid (Kab w) := hT
  have HW : Hid (Tab w) := hW
  clear hT hW
  go_enter Tryd.func5, Tryd.ntmps5
  go_wp2_with fail
  go_loopw [3] (fun i wr => ∃ p : Int, -256 ≤ p ∧ p ≤ 1115000 ∧ i = .int .i64 p ∧ Below w.heap.size w wr) (fun i _ => (1115300 - intOf i).toNat)
  case atStart => exact ⟨a - 256, by omega, by omega, by go_num, Below.refl _ _⟩
  case round =>
    obtain ⟨p, hp0, hp1, rfl, hb⟩ := hrel
    by_cases hlt : p < 1114624
    · have HT2 : Hid (Kab wr) := HT.out.below hb
      go_wp2_with fail
      refine (letter_any p _ HT2.out.1).mono ?_
      rintro e w1 ⟨rfl, rfl⟩
      go_wp2_with fail
      refine (part_any p _ HT2.out.1).mono ?_
      rintro e w1 ⟨rfl, rfl⟩
      go_wp2_with fail
      refine (rletter_any p _).mono ?_
      rintro e w2 ⟨rfl, hb2⟩
      have hb3 := hb.trans (hb2.mono hb.size)
      have HLW : Hid (lt' p = true → 1 ≤ wd p) := lt_wd p
      have HLP : Hid (lt' p = true → pr' p = true) := pr_of_lt
      have e1 : (lt' p != lt' p) = false := by simp
      clear hb hb2 HT2
      generalize lt' p = l at *
      go_wp2_with fail
      refine (rpart_any p _).mono ?_
      rintro e w3 ⟨rfl, hb4⟩
      have hb5 := hb3.trans (hb4.mono hb3.size)
      have e2 : (pr' p != pr' p) = false := by simp
      clear hb3 hb4
      have HW2 : Hid (Tab w3) := HW.out.below hb5
      generalize pr' p = k at *
      cases l
      · go_wp2_with fail
        exact ⟨⟨p + 256, by omega, by omega, by go_num, hb5⟩, by simp [intOf]; omega⟩
      · obtain rfl : k = true := HLP.out rfl
        go_wp2_with fail
        refine (of_any p _ HW2.out).mono ?_
        rintro e w4 ⟨rfl, rfl⟩
        have hwd := HLW.out trivial
        generalize wd p = y at *
        have hwd2 : decide (y < 1) = false := by simp; omega
        go_wp2_with fail
        exact ⟨⟨p + 256, by omega, by omega, by go_num, hb5⟩, by simp [intOf]; omega⟩
    · have HT2 : Hid (Kab wr) := HT.out.below hb
      go_wp2_with fail
      refine (awake_any _ HT2.out).mono ?_
      rintro e w3 ⟨rfl, hb3⟩
      have hB := hb.trans (hb3.mono hb.size)
      go_wp2_with fail
      go_ret
      exact ⟨rfl, hB⟩
end Go.Proofs.YtlohgdblcbkiiaaDoor
