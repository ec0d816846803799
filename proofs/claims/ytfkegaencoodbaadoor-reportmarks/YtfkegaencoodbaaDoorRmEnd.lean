import Derived.Test.YtfkegaencoodbaaDoorUw
import Derived.Test.YtfkegaencoodbaaDoorUh
import Derived.Test.YtfkegaencoodbaaDoorTie
import Derived.Test.YtfkegaencoodbaaDoorCards
import Derived.SevenTiedAt
import Derived.Stop.Joined
set_option linter.unusedVariables false
set_option linter.unusedSimpArgs false
namespace Go.Proofs.YtfkegaencoodbaaDoor
open Go.ChangeShapes Go.WideShapes Go.ChangeAt Go.RowKit
open Go.ChangeMaps (open_string shut_string)

theorem reportMarks_1 : (Rows.reportMarksRow.inPlace == Tryd.checked.prog.inPlace 5) = true := by kernel_rfl
theorem reportMarks_2 : (Rows.reportMarksRow.unfollowed == Tryd.checked.prog.unfollowed 5) = true := by kernel_rfl
theorem reportMarks_3 : (Rows.reportMarksRow.recurses == Tryd.checked.prog.recurses 5) = true := by kernel_rfl
theorem reportMarks_4 : (Rows.reportMarksRow.named == Tryd.checked.prog.varsNamed 5) = true := by kernel_rfl
theorem reportMarks_join : joinedFacts Tryd.checked.prog 5 Tryd.f5 Rows.reportMarksSpec Rows.reportMarksRow = true := by
  unfold joinedFacts
  rw [reportMarks_1, reportMarks_2, reportMarks_3, reportMarks_4]
  kernel_rfl
theorem reportMarks_own : ownKnob Tryd.prog.godebug = none := by kernel_rfl
theorem reportMarks_laidOut : laidOutB Tryd.prog = true := by kernel_rfl

set_option maxRecDepth 100000 in
theorem reportMarks_lifted (os : Os) (started : os.Started) (H : Type) (enc : TypeId × Value → H) :
    ReturnsInHanded {} Tryd.checked os 5 .any (fun w args => (Rows.reportMarksSpec.pre enc Tryd.prog Tryd.f5 Rows.reportMarksRow.domain false w args ∧ laidMetH Tryd.prog lds w) ∧ sizedMet enc Tryd.prog Tryd.f5 (OpenSpec.ofChange Rows.reportMarksSpec) false w args)
      (Rows.reportMarksSpec.post enc Tryd.prog Tryd.f5 false true false false) := by
  refine returnsInHanded_of_change_and (C := Tryd.checked) (X := fun w _ => laidMetH Tryd.prog lds w) (fun _ _ _ hh h => h.of_heap hh) reportMarks_own started (by kernel_rfl) Tryd.func5
    (ChangeSpec.witness_shaped (enc := enc) (C := Tryd.checked) (os := os) (X := fun w _ => laidMetH Tryd.prog lds w) false (((World.holding Tryd.prog os ⟨#[], #[], []⟩).setCell ⟨0, 0, none⟩ (.iface 107 (.agg #[hdl 32]))).layVars Tryd.prog ldp) #[.string ByteArray.empty, .int .i64 0] 8 (World.layVars_os _ _ _)
      (World.shaped_of_ZipB (by kernel_rfl) (by kernel_rfl)) (by kernel_rfl) (by kernel_rfl) (by kernel_rfl)
      (laidMetH_of_parts (laidMet_over _ (by kernel_rfl) (by kernel_rfl)) (by kernel_rfl))) ?_
  intro W base args ds gs before hval0 hW hc hsz hL _
  have hval : ∀ (j : Nat) t v, Tryd.f5.params[j]? = some t → args[j]? = some v → Value.okWide Tryd.prog W .any base t v := hval0
  have hW' := hW
  obtain ⟨p, q, hA0, hV, rfl, _, _⟩ := hW
  have hA : DataW.TrodAll enc Tryd.prog W 0 (fun _ => true) true Tryd.f5.params.toList args.toList ds p := hA0
  rw [Tryd.params5] at hA hval
  obtain ⟨v0, v1, d0, d1, p0, p1, rfl, rfl, rfl, h0, h1⟩ := trodAll_two hA
  obtain ⟨rfl, rfl⟩ := trodVars_none hV
  obtain ⟨a0, rfl, rfl, rfl, w0⟩ := open_string Tryd.underlying9 (hval 0 9 v0 rfl rfl) h0
  obtain ⟨a1, rfl, rfl, rfl, w1⟩ := open_int Tryd.underlying3 (hval 1 3 v1 rfl rfl) h1
  clear hA0 hval0
  refine (rmarks_walk w0 (bounds_i64 w1) (rsp_laid hL).1).mono fun e W' ⟨he, bel⟩ => ?_
  subst he
  exact ⟨_, rfl, _, _, _, [], _, [], hW', trodAll_mk1 (shut_bool Tryd.underlying4 _), (trodAll_mk2 (shut_string Tryd.underlying9 w0) (shut_int Tryd.underlying3 w1)), rfl, bel.frame _, fun h => by cases h⟩

theorem reportMarks_holds : Rows.ReportMarksSaid :=
  OpenClaim.holds_of_wide 5 Tryd.f5 rfl rfl rfl rfl rfl rfl rfl ⟨rfl, rfl, rfl, rfl, rfl⟩ rfl rfl rfl rfl rfl (by kernel_rfl) Tryd.func5 reportMarks_join
    (of_decide_eq_true (by kernel_rfl)) (by unfold Func.isWrapper; first | (rw [if_pos (by decide +kernel)]; kernel_rfl) | (rw [if_neg (by decide +kernel)]; exact ⟨rfl, rfl⟩))
    (fun os started H enc _ => reportMarks_lifted os started H enc)
theorem reportMarks_5 : OpenClaim.wfByText (OpenSpec.ofChange Rows.reportMarksSpec) Rows.reportMarksRow = true := by kernel_rfl
theorem reportMarks_6 : Tryd.checked.prog.mainIs = some (true, "c43b89668eaa0eacead65349b92991bb0702e5c9d9e6b7d285a99138f930ac59".toList) := by kernel_rfl
theorem reportMarks_7 : true = Tryd.checked.prog.looks [] := by kernel_rfl
theorem reportMarks_8 : false = Rows.reportMarksRow.goesBy Tryd.checked.prog := by kernel_rfl
theorem reportMarks_card : Rows.ReportMarksCardSaid :=
  Claim7.holds_tied_plain_at .later [] [.data, .data, .data, .data, .handle] true (true, "c43b89668eaa0eacead65349b92991bb0702e5c9d9e6b7d285a99138f930ac59") true
    reportMarks_holds (fun _ h => by cases h) reportMarks_5 (fun _ h => by cases h) reportMarks_row_tie rfl ⟨rfl, rfl⟩ reportMarks_6 rfl
    (fun f fn hf hfn => by
      obtain rfl : f = 5 := Option.some.inj ((show Tryd.prog.funcNamed "colophon/colophonlaw20.ReportMarks" = some 5 by kernel_rfl).symm.trans hf) |>.symm
      obtain rfl : fn = Tryd.f5 := (Option.some.inj (Tryd.func5.symm.trans hfn)).symm
      exact ⟨reportMarks_7, fun j t ht => by
        rw [Tryd.params5] at ht
        have hm : t ∈ [9, 3] := by simpa using Array.mem_of_getElem? ht
        have hall : ([9, 3].all fun u => !Tryd.prog.wantsStandIn u) = true := by kernel_rfl
        exact (show Tryd.prog.wantsStandIn t = false by simpa using List.all_eq_true.1 hall t hm)⟩)
    reportMarks_8
#print axioms reportMarks_card
end Go.Proofs.YtfkegaencoodbaaDoor
