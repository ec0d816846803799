import Derived.Test.YtgjbkdnefbnclaaWf
set_option linter.unusedVariables false
set_option linter.unusedSimpArgs false
namespace Go.Proofs.Ytgjbkdnefbnclaa
open Go.RowKit

theorem row_new (W : World) (zs : List Int) (t : Nat) : Row (W.alloc (.cells (zs.map (Value.int .i64)).toArray t)) (some ⟨W.heap.size, 0, none⟩) zs.length zs := by
  refine ⟨rfl, fun j hj => ⟨W.heap.size, 0, rfl, ?_⟩⟩
  rw [World.cell?_alloc_new]
  simp [hj, List.getD]

theorem aw1 (w : World) : Calls Try.prog 15 #[.string ⟨#[195, 169]⟩, .int .i64 0] w fun e w' => e = .returned (.tuple #[.int .i64 233, .int .i64 2, .bool true]) ∧ Below w.heap.size w w' := by
  have h := next_in ⟨#[195, 169]⟩ 0 w (by decide) (by decide) (by decide)
  rw [show dp ⟨#[195, 169]⟩ (Int.toNat 0) = 233 by decide, show dw ⟨#[195, 169]⟩ (Int.toNat 0) = 2 by decide, show gd ⟨#[195, 169]⟩ (Int.toNat 0) = true by decide] at h
  exact h
theorem aw2 (w : World) : Calls Try.prog 15 #[.string ⟨#[195, 169]⟩, .int .i64 1] w fun e w' => e = .returned (.tuple #[.int .i64 65533, .int .i64 1, .bool false]) ∧ Below w.heap.size w w' := by
  have h := next_in ⟨#[195, 169]⟩ 1 w (by decide) (by decide) (by decide)
  rw [show dp ⟨#[195, 169]⟩ (Int.toNat 1) = 65533 by decide, show dw ⟨#[195, 169]⟩ (Int.toNat 1) = 1 by decide, show gd ⟨#[195, 169]⟩ (Int.toNat 1) = false by decide] at h
  exact h
theorem aw3 (w : World) : Calls Try.prog 14 #[.string ⟨#[97, 226, 130, 240, 159, 152, 128]⟩] w fun e w' => e = .returned (.slice (some ⟨w.heap.size + 1, 0, none⟩) 4 4) ∧
    Row w' (some ⟨w.heap.size + 1, 0, none⟩) 4 [97, 65533, 65533, 128512] ∧ Below w.heap.size w w' := by
  have h := points_any ⟨#[97, 226, 130, 240, 159, 152, 128]⟩ w (by decide)
  rw [show P ⟨#[97, 226, 130, 240, 159, 152, 128]⟩ = [0, 1, 2, 3] by decide +kernel] at h
  refine h.mono ?_
  rintro e w' ⟨rfl, hown, hb⟩
  refine ⟨rfl, own_row (base := w.heap.size + 1) (cap := 4) ?_, hb⟩
  rw [ivs_eq] at hown
  rw [show [0, 1, 2, 3].map (dp ⟨#[97, 226, 130, 240, 159, 152, 128]⟩) = [97, 65533, 65533, 128512] by decide +kernel] at hown
  exact hown
theorem aw5 (w : World) : Calls Try.prog 20 #[.string ⟨#[97, 195]⟩] w fun e w' => e = .returned (.int .i64 1) ∧ Below w.heap.size w w' := by
  have h := whole_any ⟨#[97, 195]⟩ w (by decide)
  rw [show wh ⟨#[97, 195]⟩ = 1 by decide +kernel] at h
  exact h
theorem aw6 (w : World) : Calls Try.prog 20 #[.string ⟨#[97, 128]⟩] w fun e w' => e = .returned (.int .i64 2) ∧ Below w.heap.size w w' := by
  have h := whole_any ⟨#[97, 128]⟩ w (by decide)
  rw [show wh ⟨#[97, 128]⟩ = 2 by decide +kernel] at h
  exact h
theorem aw4 (b : Nat) (w : World) (h0 : w.cell? ⟨b, 0, none⟩ = some (.int .i64 97)) (h1 : w.cell? ⟨b, 1, none⟩ = some (.int .i64 55296)) :
    Calls Try.prog 19 #[.slice (some ⟨b, 0, none⟩) 2 2] w fun e w' => e = .returned (.string ⟨#[97, 239, 191, 189]⟩) ∧ Below w.heap.size w w' := by
  have h := text_any b 0 2 2 [97, 55296] w (by decide) rfl (fun j hj => by
    match j, hj with
    | 0, _ => exact h0
    | 1, _ => exact h1)
  rw [show runesBytes ([97, 55296].map rn) = ⟨#[97, 239, 191, 189]⟩ by decide +kernel] at h
  exact h

set_option maxHeartbeats 400000 in
theorem awake_any (w : World) : Calls Try.prog 12 #[] w fun e w' => e = .returned (.bool true) ∧ Below w.heap.size w w' := by
  go_enter Try.func12, Try.ntmps12
  go_wp2_with fail
  refine (aw1 _).mono ?_
  rintro e w1 ⟨rfl, hb1⟩
  go_wp2_with fail
  refine (aw2 _).mono ?_
  rintro e w2 ⟨rfl, hb2⟩
  go_wp2_with fail
  refine (aw3 _).mono ?_
  rintro e w3 ⟨rfl, hrow, hb3⟩
  have hz2 := hb1.size
  have hz3 := hb2.size
  have hz4 := hb3.size
  have hB : Below w.heap.size w w3 := (hb1.trans (hb2.mono hz2)).trans (hb3.mono (by omega))
  clear hb1 hb2 hb3
  go_wp2_with fail
  have hr1 := hrow.below ((Below.refl w3.heap.size w3).alloc (Nat.le_refl _) (.cells #[.int .i64 97, .int .i64 65533, .int .i64 65533, .int .i64 128512] 3))
  have hr2 : Row (w3.alloc (.cells #[.int .i64 97, .int .i64 65533, .int .i64 65533, .int .i64 128512] 3)) (some ⟨w3.heap.size, 0, none⟩) 4 [97, 65533, 65533, 128512] := row_new w3 [97, 65533, 65533, 128512] 3
  refine (same_any _ _ 4 4 4 4 _ _ _ (by decide) (by decide) hr1 hr2).mono ?_
  rintro e w4 ⟨rfl, hb4⟩
  rw [decide_eq_true (rfl : ([97, 65533, 65533, 128512] : List Int) = [97, 65533, 65533, 128512])]
  have hz5 := hb4.size
  simp only [World.size_alloc] at hz5
  have hB4 : Below w.heap.size w w4 := (hB.alloc (by omega) _).trans (hb4.mono (by simp; omega))
  clear hb4 hr1 hr2 hrow hB
  go_wp2_with fail
  refine (aw4 _ _ (by simp) (by simp)).mono ?_
  rintro e w5 ⟨rfl, hb5⟩
  have hz6 := hb5.size
  simp only [World.size_alloc] at hz6
  have hB5 : Below w.heap.size w w5 := (hB4.alloc (by omega) _).trans (hb5.mono (by simp; omega))
  clear hb5 hB4
  go_wp2_with fail
  refine (aw5 _).mono ?_
  rintro e w6 ⟨rfl, hb6⟩
  have hz7 := hb6.size
  have hB6 : Below w.heap.size w w6 := hB5.trans (hb6.mono (by omega))
  clear hb6 hB5
  go_wp2_with fail
  refine (aw6 _).mono ?_
  rintro e w7 ⟨rfl, hb7⟩
  have hB7 : Below w.heap.size w w7 := hB6.trans (hb7.mono (by omega))
  clear hb7 hB6
  go_wp2_with fail
  go_ret
  exact ⟨rfl, hB7⟩
end Go.Proofs.Ytgjbkdnefbnclaa
