import Derived.Test.YtmjhfabdbajchaaGreatDoorHb4
import Derived.Test.YtmjhfabdbajchaaGreatDoorCw
import Derived.Test.YtmjhfabdbajchaaGreatDoorHb5
import Derived.Test.YtmjhfabdbajchaaGreatDoorTie
import Derived.Test.YtmjhfabdbajchaaGreatDoorCards
import Derived.ProofKit
import Derived.OpenShut
import Derived.ShutString
import Derived.ChangeOld
import Derived.Lay
import Derived.SevenTiedAt
import Derived.Stop.Joined
import Derived.Deep.DeepHandedRow
set_option linter.unusedVariables false
set_option linter.unusedSimpArgs false
namespace Go.Proofs.YtmjhfabdbajchaaGreatDoor
open Go.ChangeShapes Go.WideShapes Go.ChangeAt Go.RowKit
open Go.ChangeMaps (open_string shut_string)

theorem streamWhole_own : ownKnob Tryz.prog.godebug = none := by kernel_rfl

set_option maxRecDepth 100000 in
theorem streamWhole_contract (H : Type) (enc : TypeId × Value → H) (W : World) (base : Nat) (args : Array Value) (ds gs : List (DataW H)) (before : List MemPlace)
    (hval0 : ∀ (j : Nat) t v, Tryz.f5.params[j]? = some t → args[j]? = some v → Value.okWide Tryz.prog W .any base t v)
    (hW : DataW.Whole enc Tryz.prog Tryz.f5.params.toList Rows.streamWholeSpec.vars false W args.toList ds gs before) (hk : Rows.uptoSmall H (ds ++ gs) = true) (hL : laidMetH Tryz.prog [("colophon/width.spans", Rows.laid_colophon_width_spans)] W) :
    Calls Tryz.prog 5 args W fun e W' => ∃ v, e = .returned v ∧ Rows.streamWholeSpec.post enc Tryz.prog Tryz.f5 false true false false W args v W' := by
  have hval : ∀ (j : Nat) t v, Tryz.f5.params[j]? = some t → args[j]? = some v → Value.okWide Tryz.prog W .any base t v := hval0
  have hW' := hW
  obtain ⟨p, q, hA0, hV, rfl, _, _⟩ := hW
  have hA : DataW.TrodAll enc Tryz.prog W 0 (fun _ => true) true Tryz.f5.params.toList args.toList ds p := hA0
  rw [Tryz.params5] at hA hval
  obtain ⟨v0, v1, d0, d1, p0, p1, rfl, rfl, rfl, h0, h1⟩ := trodAll_two hA
  obtain ⟨rfl, rfl⟩ := trodVars_none hV
  obtain ⟨n, rfl, rfl, rfl, wn⟩ := open_int Tryz.underlying3 (hval 0 3 v0 rfl rfl) h0
  obtain ⟨ao, len1, cap, rfl⟩ := okWide_slice Tryz.underlying42 (hval 1 42 v1 rfl rfl)
  have h1k := h1
  obtain ⟨fuel1, hf1⟩ := h1
  obtain ⟨l, hal1, hsc1, hnil1, hri1, hbk1⟩ := lay_bulk hf1
  have hbq1 : lsum l + 1 ≤ Rows.uptoBulk d1 := hbk1
  subst hal1
  have hlt1 : ∀ x ∈ p1, x.block < W.heap.size := fun x hx => hA.lt x (by simp [hx])
  have hbd : Rows.uptoBulkAll _ ≤ 1048576 := of_decide_eq_true hk
  simp only [Rows.uptoBulkAll, List.cons_append, List.nil_append] at hbd
  have hln := len_lsum l
  clear hA0 hval0
  refine (whole9_any ctr9 n ao l cap W hsc1 hnil1 (tab_of_laid (by kernel_rfl) (by exact .head _) hL) (by omega) (by omega)).mono fun e W' ⟨he, bel⟩ => ?_
  subst he
  exact ⟨_, rfl, _, _, _, [], _, [], hW', trodAll_mk1 (shut_bool Tryz.underlying4 _), (trodAll_mk2 (shut_int Tryz.underlying3 wn) (Below.trod all_laidOut (by kernel_rfl) (of_decide_eq_true (by kernel_rfl)) h1k bel hlt1)), rfl, bel.frame _, fun h => by cases h⟩

theorem streamWhole_laid (os : Os) : laidMet Tryz.prog Rows.streamWholeUptoRow.laid ((World.laidAll Tryz.prog os [("colophon/width.spans", Rows.laid_colophon_width_spans)]).forCall (fun _ _ => 0) ⟨#[], #[.int .i64 1, .slice none 0 0], []⟩).memory :=
  laidMet_of_run' 8 (by kernel_rfl) (by kernel_rfl)
theorem streamWhole_reads (os : Os) {H : Type} (enc : TypeId × Value → H) : ∃ places, DataW.whole enc Tryz.prog ((World.laidAll Tryz.prog os [("colophon/width.spans", Rows.laid_colophon_width_spans)]).forCall (fun _ _ => 0) ⟨#[], #[.int .i64 1, .slice none 0 0], []⟩).memory Tryz.f5.params.toList Rows.streamWholeSpec.vars false (#[.int .i64 1, .slice none 0 0] : Array Value).toList 8 = some ([.lit (.int .i64 1), .nil], [], places) :=
  ⟨[], by kernel_rfl⟩

set_option maxRecDepth 100000 in
theorem streamWhole_lifted (os : Os) (started : os.Started) (H : Type) (enc : TypeId × Value → H) (F : Stop.Interp) :
    ReturnsInHanded {} Tryz.checked os 5 .any ((Rows.OpenSpec.upto Rows.streamWholeSpec).preRow enc Tryz.prog Tryz.f5 Rows.streamWholeUptoRow.domain false Rows.streamWholeUptoRow.laid) (((Rows.OpenSpec.upto Rows.streamWholeSpec).at F).post enc Tryz.prog Tryz.f5 false true false false) := by
  obtain ⟨places, hx⟩ := streamWhole_reads os enc
  refine returnsInHanded_of_row (C := Tryz.checked) (s := Rows.OpenSpec.upto Rows.streamWholeSpec) streamWhole_own started (by kernel_rfl) Tryz.func5
    (witness_row_at (enc := enc) (C := Tryz.checked) false (World.laidAll Tryz.prog os [("colophon/width.spans", Rows.laid_colophon_width_spans)]) #[.int .i64 1, .slice none 0 0] (World.laidAll_os _ _ _) (by kernel_rfl) (by kernel_rfl) (by kernel_rfl)
      (OpenSpec.preRow_of_cond 8 hx (by kernel_rfl) (fun k hk => by cases hk; kernel_rfl) (by kernel_rfl) (streamWhole_laid os))) ?_
  intro W base args ds gs before hval hW _ hcond _ hL _ _
  exact streamWhole_contract H enc W base args ds gs before hval hW (hcond _ rfl) hL

theorem streamWhole_holds : Rows.StreamWholeUptoSaid :=
  OpenClaim.holds_of_cond 5 Tryz.f5 rfl rfl rfl rfl rfl rfl rfl ⟨rfl, rfl, rfl, rfl, rfl⟩ rfl rfl rfl rfl rfl (by kernel_rfl) Tryz.func5 (by kernel_rfl)
    (of_decide_eq_true (by kernel_rfl)) (by unfold Func.isWrapper; first | (rw [if_pos (by decide +kernel)]; kernel_rfl) | (rw [if_neg (by decide +kernel)]; exact ⟨rfl, rfl⟩))
    (fun os started H enc _ F => by rw [OpenClaim.pre_eq_preRow]; exact streamWhole_lifted os started H enc F)

theorem streamWhole_card : Rows.StreamWholeUptoCardSaid :=
  Claim7.holds_tied_plain_at .later [] [.data] true (true, "6c27a8b8bd2f70b567cece08497fe3c70b89db4b5a1a1ae9cea308aa52d23871") false
    streamWhole_holds (fun _ h => by cases h) (by kernel_rfl) (fun _ h => by cases h) streamWholeUpto_row_tie rfl ⟨rfl, rfl⟩ (by kernel_rfl) rfl
    (fun f fn hf hfn => by
      obtain rfl : f = 5 := Option.some.inj ((show Tryz.prog.funcNamed "colophon/colophonlaw09.StreamWhole" = some 5 by kernel_rfl).symm.trans hf) |>.symm
      obtain rfl : fn = Tryz.f5 := (Option.some.inj (Tryz.func5.symm.trans hfn)).symm
      exact ⟨by kernel_rfl, fun j t ht => by
        rw [Tryz.params5] at ht
        have hm : t ∈ [3, 42] := by simpa using Array.mem_of_getElem? ht
        have hall : ([3, 42].all fun u => !Tryz.prog.wantsStandIn u) = true := by kernel_rfl
        exact (show Tryz.prog.wantsStandIn t = false by simpa using List.all_eq_true.1 hall t hm)⟩)
    (by kernel_rfl)
#print axioms streamWhole_card
end Go.Proofs.YtmjhfabdbajchaaGreatDoor
