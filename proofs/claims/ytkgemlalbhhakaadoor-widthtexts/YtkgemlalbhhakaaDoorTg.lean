import Derived.Test.YtkgemlalbhhakaaDoorTf
import Derived.Deep.QuietTactic
import Derived.BigQuiet
set_option linter.unusedVariables false
set_option linter.unusedSimpArgs false
namespace Go.Proofs.YtkgemlalbhhakaaDoor
open Go.RowKit

def awS : ByteArray := ⟨#[97, 228, 184, 128, 98]⟩
theorem aw_P : P awS = [0, 1, 4] := by decide +kernel
theorem aw_pts : pts awS = [97, 19968, 98] := by decide +kernel
theorem aw_cut : IsCut awS 2 1 := by
  refine ⟨by rw [aw_P]; decide, fun j h1 h2 => ?_, fun _ => ?_⟩
  · obtain rfl : j = 1 := by omega
    unfold cw; rw [aw_pts]; decide
  · unfold cw; rw [aw_pts]; decide
theorem aw_hd : hd awS 1 = ⟨#[97]⟩ := by decide +kernel
theorem aw_cw : cw awS 1 = 1 := by unfold cw; rw [aw_pts]; decide
theorem aw_tw : tw ⟨#[97, 255, 255]⟩ = 3 := by decide +kernel

theorem aw1 (w : World) (hT : Tab w) : Calls Tryd.prog 10 #[.string ⟨#[97, 228, 184, 128, 98]⟩, .int .i64 2] w fun e w' => e = .returned (.tuple #[.string ⟨#[97]⟩, .int .i64 1]) ∧ Below w.heap.size w w' := by
  have h := cut_any awS 2 1 w hT (by decide) aw_cut
  rw [aw_hd, aw_cw] at h
  exact h
theorem aw2 (p c : Int) (w : World) (hT : Tab w) (h : wd p = c) : Calls Tryd.prog 7 #[.int .i64 p] w fun e w' => e = .returned (.int .i64 c) ∧ w' = w := by
  rw [← h]; exact of_any p w hT
theorem aw3 (w : World) (hT : Tab w) : Calls Tryd.prog 12 #[.string ⟨#[97, 255, 255]⟩] w fun e w' => e = .returned (.int .i64 3) ∧ Below w.heap.size w w' := by
  have h := text_any ⟨#[97, 255, 255]⟩ w hT (by decide)
  rw [aw_tw] at h
  exact h

set_option maxHeartbeats 400000 in
theorem awake_any (w : World) (hT : Tab w) : Calls Tryd.prog 9 #[] w fun e w' => e = .returned (.bool true) ∧ Below w.heap.size w w' := by
  go_enter Tryd.func9, Tryd.ntmps9
  go_wp2_with fail
  refine (aw1 _ hT).mono ?_
  rintro e w1 ⟨rfl, hb1⟩
  have hT1 := hT.below hb1
  have HT : Hid (Tab w1) := hT1
  clear hT hT1
  go_wp2_with fail
  refine (aw2 97 1 _ HT.out (by decide)).mono ?_
  rintro e w2 ⟨rfl, rfl⟩
  go_wp2_with fail
  refine (aw2 19968 2 _ HT.out (by decide)).mono ?_
  rintro e w2 ⟨rfl, rfl⟩
  go_wp2_with fail
  refine (aw2 769 0 _ HT.out (by decide)).mono ?_
  rintro e w2 ⟨rfl, rfl⟩
  go_wp2_with fail
  refine (aw3 _ HT.out).mono ?_
  rintro e w2 ⟨rfl, hb2⟩
  have hB := hb1.trans (hb2.mono hb1.size)
  go_wp2_with fail
  go_ret
  exact ⟨rfl, hB⟩

set_option maxHeartbeats 400000 in
theorem widthOf_walk (p : Int) (w : World) (hT : Tab w) : Calls Tryd.prog 3 #[.int .i64 p] w fun e w' => e = .returned (.bool true) ∧ Below w.heap.size w w' := by
  have HT : Hid (Tab w) := hT
  clear hT
  go_enter Tryd.func3, Tryd.ntmps3
  go_wp2_with fail
  refine (of_any p _ HT.out).mono ?_
  rintro e w1 ⟨rfl, rfl⟩
  go_wp2_with fail
  refine (rof_any p _).mono ?_
  rintro e w2 ⟨rfl, hb⟩
  have hT2 : Hid (Tab w2) := HT.out.below hb
  have e1 : (wd p == wd p) = true := by simp
  generalize wd p = y at *
  go_wp2_with fail
  refine (awake_any _ hT2.out).mono ?_
  rintro e w3 ⟨rfl, hb3⟩
  have hB := hb.trans (hb3.mono hb.size)
  go_wp2_with fail
  go_ret
  exact ⟨rfl, hB⟩

set_option maxHeartbeats 400000 in
theorem widthTable_walk (a : Int) (w : World) (hT : Tab w) (h0 : 0 ≤ a) (h1 : a ≤ 255) : Calls Tryd.prog 4 #[.int .u8 a] w fun e w' => e = .returned (.bool true) ∧ Below w.heap.size w w' := by
  have HT : Hid (Tab w) := hT
  clear hT
  go_enter Tryd.func4, Tryd.ntmps4
  go_wp2_with fail
  go_loopw [3] (fun i wr => ∃ p : Int, -256 ≤ p ∧ p ≤ 1115000 ∧ i = .int .i64 p ∧ Below w.heap.size w wr) (fun i _ => (1115300 - intOf i).toNat)
  case atStart => exact ⟨a - 256, by omega, by omega, by go_num, Below.refl _ _⟩
  case round =>
    obtain ⟨p, hp0, hp1, rfl, hb⟩ := hrel
    by_cases hlt : p < 1114624
    · have HT2 : Hid (Tab wr) := HT.out.below hb
      go_wp2_with fail
      refine (of_any p _ HT2.out).mono ?_
      rintro e w1 ⟨rfl, rfl⟩
      go_wp2_with fail
      refine (rof_any p _).mono ?_
      rintro e w2 ⟨rfl, hb2⟩
      have hb3 := hb.trans (hb2.mono hb.size)
      have e1 : (wd p != wd p) = false := by simp
      generalize wd p = y at *
      clear hb hb2 HT2
      go_wp2_with fail
      exact ⟨⟨p + 256, by omega, by omega, by go_num, hb3⟩, by simp [intOf]; omega⟩
    · have HT2 : Hid (Tab wr) := HT.out.below hb
      go_wp2_with fail
      refine (awake_any _ HT2.out).mono ?_
      rintro e w3 ⟨rfl, hb3⟩
      have hB := hb.trans (hb3.mono hb.size)
      go_wp2_with fail
      go_ret
      exact ⟨rfl, hB⟩
end Go.Proofs.YtkgemlalbhhakaaDoor
