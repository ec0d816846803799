import Derived.Test.YtpobcbailpjaeaaPg
set_option linter.unusedVariables false
set_option linter.unusedSimpArgs false
namespace Go.Proofs.Ytpobcbailpjaeaa
open Go.RowKit Go.Shelf

theorem aw1 (w : World) : Calls Try.prog 9 #[.string ⟨#[97, 10, 98]⟩, .int .i64 2] w fun e w' => e = .returned (.tuple #[.string ⟨#[98]⟩, .bool true]) ∧ Below w.heap.size w w' := by
  have h := line_any ⟨#[97, 10, 98]⟩ 2 w (by decide)
  rw [show lineS ⟨#[97, 10, 98]⟩ 2 = ⟨#[98]⟩ by decide +kernel, show lineB ⟨#[97, 10, 98]⟩ 2 = true by decide +kernel] at h
  exact h
theorem aw2 (w : World) : Calls Try.prog 7 #[.string ⟨#[195, 169, 97]⟩, .int .i64 2] w fun e w' => e = .returned (.tuple #[.agg #[.int .i64 2, .int .i64 1, .int .i64 2], .int .i64 0]) ∧ Below w.heap.size w w' := by
  have h := of_in ⟨#[195, 169, 97]⟩ 2 w (by decide) (by decide)
  rw [show aAt 0 ((⟨#[195, 169, 97]⟩ : ByteArray).extract 0 2) = 2 by decide +kernel, show aLine 1 ((⟨#[195, 169, 97]⟩ : ByteArray).extract 0 2) = 1 by decide +kernel, show aCol 1 ((⟨#[195, 169, 97]⟩ : ByteArray).extract 0 2) = 2 by decide +kernel] at h
  exact h
theorem aw3 (w : World) : Calls Try.prog 11 #[.agg #[.int .i64 0, .int .i64 1, .int .i64 1], .string ⟨#[97, 10, 195, 169, 98]⟩] w fun e w' => e = .returned (.agg #[.int .i64 5, .int .i64 2, .int .i64 3]) ∧ Below w.heap.size w w' := by
  have h := adv_lit 0 1 1 ⟨#[97, 10, 195, 169, 98]⟩ w (by decide) (by decide)
  rw [show aAt 0 ⟨#[97, 10, 195, 169, 98]⟩ = 5 by decide +kernel, show aLine 1 ⟨#[97, 10, 195, 169, 98]⟩ = 2 by decide +kernel, show aCol 1 ⟨#[97, 10, 195, 169, 98]⟩ = 3 by decide +kernel] at h
  exact h

set_option maxHeartbeats 1000000 in
theorem awake_any (w : World) : Calls Try.prog 13 #[] w fun e w' => e = .returned (.bool true) ∧ Below w.heap.size w w' := by
  go_enter Try.func13, Try.ntmps13
  go_wp2_with fail
  refine (aw1 _).mono ?_
  rintro e w1 ⟨rfl, hb1⟩
  go_wp2_with fail
  refine (aw2 _).mono ?_
  rintro e w2 ⟨rfl, hb2⟩
  have h2 : Below w.heap.size w w2 := hb1.trans (hb2.mono hb1.size)
  have k0 := Box3.new w2 2 1 2
  have h3 : Below w.heap.size w (w2.alloc (.cells #[.int .i64 2, .int .i64 1, .int .i64 2] 23)) := h2.alloc h2.size _
  clear hb1 hb2
  go_wp2_with fail
  refine (start_any _).mono ?_
  rintro e w3 ⟨rfl, hb3⟩
  have k1 := k0.below hb3
  have h4 := h3.trans (hb3.mono h3.size)
  clear hb3 h3 k0 h2
  go_wp2_with fail
  refine (start_any _).mono ?_
  rintro e w4 ⟨rfl, hb4⟩
  have k2 := k1.below hb4
  have h5 := h4.trans (hb4.mono h4.size)
  clear hb4 h4 k1
  go_wp2_with fail
  refine (aw3 _).mono ?_
  rintro e w5 ⟨rfl, hb5⟩
  have k3 := k2.below hb5
  have h6 := h5.trans (hb5.mono h5.size)
  clear hb5 h5 k2
  have g0 := k3.cell0
  have g1 := k3.cell1
  have g2 := k3.cell2
  go_wp2_with fail
  go_ret
  exact ⟨rfl, h6⟩

end Go.Proofs.Ytpobcbailpjaeaa
