import Derived.Test.YtfkegaencoodbaaDoorUw
import Derived.Test.YtfkegaencoodbaaDoorUf
import Derived.Test.YtfkegaencoodbaaDoorTie
import Derived.Test.YtfkegaencoodbaaDoorCards
import Derived.SevenTiedAt
import Derived.Stop.Joined
set_option linter.unusedVariables false
set_option linter.unusedSimpArgs false
namespace Go.Proofs.YtfkegaencoodbaaDoor
open Go.ChangeShapes Go.WideShapes Go.ChangeAt Go.RowKit
open Go.ChangeMaps (open_string shut_string)

theorem reportWords_1 : (Rows.reportWordsRow.inPlace == Tryd.checked.prog.inPlace 4) = true := by kernel_rfl
theorem reportWords_2 : (Rows.reportWordsRow.unfollowed == Tryd.checked.prog.unfollowed 4) = true := by kernel_rfl
theorem reportWords_3 : (Rows.reportWordsRow.recurses == Tryd.checked.prog.recurses 4) = true := by kernel_rfl
theorem reportWords_4 : (Rows.reportWordsRow.named == Tryd.checked.prog.varsNamed 4) = true := by kernel_rfl
theorem reportWords_join : joinedFacts Tryd.checked.prog 4 Tryd.f4 Rows.reportWordsSpec Rows.reportWordsRow = true := by
  unfold joinedFacts
  rw [reportWords_1, reportWords_2, reportWords_3, reportWords_4]
  kernel_rfl
theorem reportWords_own : ownKnob Tryd.prog.godebug = none := by kernel_rfl
theorem reportWords_laidOut : laidOutB Tryd.prog = true := by kernel_rfl

set_option maxRecDepth 100000 in
theorem reportWords_lifted (os : Os) (started : os.Started) (H : Type) (enc : TypeId × Value → H) :
    ReturnsInHanded {} Tryd.checked os 4 .any (fun w args => (Rows.reportWordsSpec.pre enc Tryd.prog Tryd.f4 Rows.reportWordsRow.domain false w args ∧ laidMetH Tryd.prog lds w) ∧ sizedMet enc Tryd.prog Tryd.f4 (OpenSpec.ofChange Rows.reportWordsSpec) false w args)
      (Rows.reportWordsSpec.post enc Tryd.prog Tryd.f4 false true false false) := by
  refine returnsInHanded_of_change_and (C := Tryd.checked) (X := fun w _ => laidMetH Tryd.prog lds w) (fun _ _ _ hh h => h.of_heap hh) reportWords_own started (by kernel_rfl) Tryd.func4
    (ChangeSpec.witness_shaped (enc := enc) (C := Tryd.checked) (os := os) (X := fun w _ => laidMetH Tryd.prog lds w) false (((World.holding Tryd.prog os ⟨#[], #[], []⟩).setCell ⟨0, 0, none⟩ (.iface 107 (.agg #[hdl 32]))).layVars Tryd.prog ldp) #[.string ByteArray.empty, .string ByteArray.empty, .string ByteArray.empty] 8 (World.layVars_os _ _ _)
      (World.shaped_of_ZipB (by kernel_rfl) (by kernel_rfl)) (by kernel_rfl) (by kernel_rfl) (by kernel_rfl)
      (laidMetH_of_parts (laidMet_over _ (by kernel_rfl) (by kernel_rfl)) (by kernel_rfl))) ?_
  intro W base args ds gs before hval0 hW hc hsz hL _
  have hval : ∀ (j : Nat) t v, Tryd.f4.params[j]? = some t → args[j]? = some v → Value.okWide Tryd.prog W .any base t v := hval0
  have hW' := hW
  obtain ⟨p, q, hA0, hV, rfl, _, _⟩ := hW
  have hA : DataW.TrodAll enc Tryd.prog W 0 (fun _ => true) true Tryd.f4.params.toList args.toList ds p := hA0
  rw [Tryd.params4] at hA hval
  obtain ⟨v0, vs0, d0, ds0, p0, q0, hargs, rfl, rfl, h0, r0⟩ := trodAll_cons hA
  obtain ⟨v1, vs1, d1, ds1, p1, q1, rfl, rfl, rfl, h1, r1⟩ := trodAll_cons r0
  obtain ⟨v2, vs2, d2, ds2, p2, q2, rfl, rfl, rfl, h2, r2⟩ := trodAll_cons r1
  obtain ⟨rfl, rfl, rfl⟩ := trodAll_nil r2
  obtain rfl : args = #[v0, v1, v2] := by cases args; simp_all
  obtain ⟨rfl, rfl⟩ := trodVars_none hV
  obtain ⟨a0, rfl, rfl, rfl, w0⟩ := open_string Tryd.underlying9 (hval 0 9 v0 rfl rfl) h0
  obtain ⟨a1, rfl, rfl, rfl, w1⟩ := open_string Tryd.underlying9 (hval 1 9 v1 rfl rfl) h1
  obtain ⟨a2, rfl, rfl, rfl, w2⟩ := open_string Tryd.underlying9 (hval 2 9 v2 rfl rfl) h2
  have z0 : a0.size ≤ 140737488351232 := by
    have := sized_string hsz (j := 0) (t := 9) (by rw [Tryd.params4]; rfl) rfl
    rw [Array.length_toList] at this
    exact this
  have z1 : a1.size ≤ 140737488351232 := by
    have := sized_string hsz (j := 1) (t := 9) (by rw [Tryd.params4]; rfl) rfl
    rw [Array.length_toList] at this
    exact this
  have z2 : a2.size ≤ 140737488351232 := by
    have := sized_string hsz (j := 2) (t := 9) (by rw [Tryd.params4]; rfl) rfl
    rw [Array.length_toList] at this
    exact this
  clear hA0 hval0
  refine (rwords_walk (by omega) (rsp_laid hL).1).mono fun e W' ⟨he, bel⟩ => ?_
  subst he
  exact ⟨_, rfl, _, _, _, [], _, [], hW', trodAll_mk1 (shut_bool Tryd.underlying4 _), (trodAll_mk3 (shut_string Tryd.underlying9 w0) (shut_string Tryd.underlying9 w1) (shut_string Tryd.underlying9 w2)), rfl, bel.frame _, fun h => by cases h⟩

theorem reportWords_holds : Rows.ReportWordsSaid :=
  OpenClaim.holds_of_wide 4 Tryd.f4 rfl rfl rfl rfl rfl rfl rfl ⟨rfl, rfl, rfl, rfl, rfl⟩ rfl rfl rfl rfl rfl (by kernel_rfl) Tryd.func4 reportWords_join
    (of_decide_eq_true (by kernel_rfl)) (by unfold Func.isWrapper; first | (rw [if_pos (by decide +kernel)]; kernel_rfl) | (rw [if_neg (by decide +kernel)]; exact ⟨rfl, rfl⟩))
    (fun os started H enc _ => reportWords_lifted os started H enc)
theorem reportWords_5 : OpenClaim.wfByText (OpenSpec.ofChange Rows.reportWordsSpec) Rows.reportWordsRow = true := by kernel_rfl
theorem reportWords_6 : Tryd.checked.prog.mainIs = some (true, "c43b89668eaa0eacead65349b92991bb0702e5c9d9e6b7d285a99138f930ac59".toList) := by kernel_rfl
theorem reportWords_7 : true = Tryd.checked.prog.looks [] := by kernel_rfl
theorem reportWords_8 : false = Rows.reportWordsRow.goesBy Tryd.checked.prog := by kernel_rfl
theorem reportWords_card : Rows.ReportWordsCardSaid :=
  Claim7.holds_tied_plain_at .later [] [.data, .data, .data, .data, .handle] true (true, "c43b89668eaa0eacead65349b92991bb0702e5c9d9e6b7d285a99138f930ac59") true
    reportWords_holds (fun _ h => by cases h) reportWords_5 (fun _ h => by cases h) reportWords_row_tie rfl ⟨rfl, rfl⟩ reportWords_6 rfl
    (fun f fn hf hfn => by
      obtain rfl : f = 4 := Option.some.inj ((show Tryd.prog.funcNamed "colophon/colophonlaw20.ReportWords" = some 4 by kernel_rfl).symm.trans hf) |>.symm
      obtain rfl : fn = Tryd.f4 := (Option.some.inj (Tryd.func4.symm.trans hfn)).symm
      exact ⟨reportWords_7, fun j t ht => by
        rw [Tryd.params4] at ht
        have hm : t ∈ [9, 9, 9] := by simpa using Array.mem_of_getElem? ht
        have hall : ([9, 9, 9].all fun u => !Tryd.prog.wantsStandIn u) = true := by kernel_rfl
        exact (show Tryd.prog.wantsStandIn t = false by simpa using List.all_eq_true.1 hall t hm)⟩)
    reportWords_8
#print axioms reportWords_card
end Go.Proofs.YtfkegaencoodbaaDoor
