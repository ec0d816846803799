import Derived.Test.YtcokccfbeonlnaaDoorVn
import Derived.Test.YtcokccfbeonlnaaDoorGb2
import Derived.Test.YtcokccfbeonlnaaDoorTie
import Derived.Test.YtcokccfbeonlnaaDoorCards
import Derived.ProofKit
import Derived.OpenShut
import Derived.ShutString
import Derived.ChangeOld
import Derived.Lay
import Derived.SevenTiedAt
import Derived.Stop.Joined
import Derived.Deep.DeepHandedRow
set_option linter.unusedVariables false
set_option linter.unusedSimpArgs false
namespace Go.Proofs.YtcokccfbeonlnaaDoor
open Go.ChangeShapes Go.WideShapes Go.ChangeAt Go.RowKit
open Go.ChangeMaps (open_string shut_string)

theorem wholePrints_own : ownKnob Tryd.prog.godebug = none := by kernel_rfl

set_option maxRecDepth 100000 in
theorem wholePrints_contract (H : Type) (enc : TypeId × Value → H) (W : World) (base : Nat) (args : Array Value) (ds gs : List (DataW H)) (before : List MemPlace)
    (hval0 : ∀ (j : Nat) t v, Tryd.f4.params[j]? = some t → args[j]? = some v → Value.okWide Tryd.prog W .any base t v)
    (hW : DataW.Whole enc Tryd.prog Tryd.f4.params.toList Rows.wholePrintsSpec.vars false W args.toList ds gs before) (hk : Rows.uptoSmall H (ds ++ gs) = true) (hL : laidMetH Tryd.prog [("colophon/width.spans", Rows.laid_colophon_width_spans)] W) :
    Calls Tryd.prog 4 args W fun e W' => ∃ v, e = .returned v ∧ Rows.wholePrintsSpec.post enc Tryd.prog Tryd.f4 false true false false W args v W' := by
  have hval : ∀ (j : Nat) t v, Tryd.f4.params[j]? = some t → args[j]? = some v → Value.okWide Tryd.prog W .any base t v := hval0
  have hW' := hW
  obtain ⟨p, q, hA0, hV, rfl, _, _⟩ := hW
  have hA : DataW.TrodAll enc Tryd.prog W 0 (fun _ => true) true Tryd.f4.params.toList args.toList ds p := hA0
  rw [Tryd.params4] at hA hval
  obtain ⟨v0, v1, d0, d1, p0, p1, rfl, rfl, rfl, h0, h1⟩ := trodAll_two hA
  obtain ⟨rfl, rfl⟩ := trodVars_none hV
  obtain ⟨n, rfl, rfl, rfl, wn⟩ := open_int Tryd.underlying3 (hval 0 3 v0 rfl rfl) h0
  obtain ⟨ao, len1, cap, rfl⟩ := okWide_slice Tryd.underlying23 (hval 1 23 v1 rfl rfl)
  have h1k := h1
  obtain ⟨fuel1, hf1⟩ := h1
  obtain ⟨l, hal1, hsc1, hnil1, hri1, hbk1⟩ := lay_bulk hf1
  have hbq1 : lsum l + 1 ≤ Rows.uptoBulk d1 := hbk1
  subst hal1
  have hlt1 : ∀ x ∈ p1, x.block < W.heap.size := fun x hx => hA.lt x (by simp [hx])
  have hbd : Rows.uptoBulkAll _ ≤ 1048576 := of_decide_eq_true hk
  simp only [Rows.uptoBulkAll, List.cons_append, List.nil_append] at hbd
  have hln := len_lsum l
  clear hA0 hval0
  refine (prints_any n ao l cap W hsc1 hnil1 (tab_of_laid (by kernel_rfl) (by exact .head _) hL) (by omega) (by omega)).mono fun e W' ⟨he, bel⟩ => ?_
  subst he
  exact ⟨_, rfl, _, _, _, [], _, [], hW', trodAll_mk1 (shut_bool Tryd.underlying4 _), (trodAll_mk2 (shut_int Tryd.underlying3 wn) (Below.trod all_laidOut (by kernel_rfl) (of_decide_eq_true (by kernel_rfl)) h1k bel hlt1)), rfl, bel.frame _, fun h => by cases h⟩

theorem wholePrints_laid (os : Os) : laidMet Tryd.prog Rows.wholePrintsUptoRow.laid ((World.laidAll Tryd.prog os [("colophon/width.spans", Rows.laid_colophon_width_spans)]).forCall (fun _ _ => 0) ⟨#[], #[.int .i64 1, .slice none 0 0], []⟩).memory :=
  laidMet_of_run' 8 (by kernel_rfl) (by kernel_rfl)
theorem wholePrints_reads (os : Os) {H : Type} (enc : TypeId × Value → H) : ∃ places, DataW.whole enc Tryd.prog ((World.laidAll Tryd.prog os [("colophon/width.spans", Rows.laid_colophon_width_spans)]).forCall (fun _ _ => 0) ⟨#[], #[.int .i64 1, .slice none 0 0], []⟩).memory Tryd.f4.params.toList Rows.wholePrintsSpec.vars false (#[.int .i64 1, .slice none 0 0] : Array Value).toList 8 = some ([.lit (.int .i64 1), .nil], [], places) :=
  ⟨[], by kernel_rfl⟩

set_option maxRecDepth 100000 in
theorem wholePrints_lifted (os : Os) (started : os.Started) (H : Type) (enc : TypeId × Value → H) (F : Stop.Interp) :
    ReturnsInHanded {} Tryd.checked os 4 .any ((Rows.OpenSpec.upto Rows.wholePrintsSpec).preRow enc Tryd.prog Tryd.f4 Rows.wholePrintsUptoRow.domain false Rows.wholePrintsUptoRow.laid) (((Rows.OpenSpec.upto Rows.wholePrintsSpec).at F).post enc Tryd.prog Tryd.f4 false true false false) := by
  obtain ⟨places, hx⟩ := wholePrints_reads os enc
  refine returnsInHanded_of_row (C := Tryd.checked) (s := Rows.OpenSpec.upto Rows.wholePrintsSpec) wholePrints_own started (by kernel_rfl) Tryd.func4
    (witness_row_at (enc := enc) (C := Tryd.checked) false (World.laidAll Tryd.prog os [("colophon/width.spans", Rows.laid_colophon_width_spans)]) #[.int .i64 1, .slice none 0 0] (World.laidAll_os _ _ _) (by kernel_rfl) (by kernel_rfl) (by kernel_rfl)
      (OpenSpec.preRow_of_cond 8 hx (by kernel_rfl) (fun k hk => by cases hk; kernel_rfl) (by kernel_rfl) (wholePrints_laid os))) ?_
  intro W base args ds gs before hval hW _ hcond _ hL _ _
  exact wholePrints_contract H enc W base args ds gs before hval hW (hcond _ rfl) hL

theorem wholePrints_holds : Rows.WholePrintsUptoSaid :=
  OpenClaim.holds_of_cond 4 Tryd.f4 rfl rfl rfl rfl rfl rfl rfl ⟨rfl, rfl, rfl, rfl, rfl⟩ rfl rfl rfl rfl rfl (by kernel_rfl) Tryd.func4 (by kernel_rfl)
    (of_decide_eq_true (by kernel_rfl)) (by unfold Func.isWrapper; first | (rw [if_pos (by decide +kernel)]; kernel_rfl) | (rw [if_neg (by decide +kernel)]; exact ⟨rfl, rfl⟩))
    (fun os started H enc _ F => by rw [OpenClaim.pre_eq_preRow]; exact wholePrints_lifted os started H enc F)

theorem wholePrints_card : Rows.WholePrintsUptoCardSaid :=
  Claim7.holds_tied_plain_at .later [] [.data] true (true, "6d657e15e205b91631655e621b51a6e70325521e09a4028d8aeecd4020eba32b") false
    wholePrints_holds (fun _ h => by cases h) (by kernel_rfl) (fun _ h => by cases h) wholePrintsUpto_row_tie rfl ⟨rfl, rfl⟩ (by kernel_rfl) rfl
    (fun f fn hf hfn => by
      obtain rfl : f = 4 := Option.some.inj ((show Tryd.prog.funcNamed "colophon/colophonlaw08.WholePrints" = some 4 by kernel_rfl).symm.trans hf) |>.symm
      obtain rfl : fn = Tryd.f4 := (Option.some.inj (Tryd.func4.symm.trans hfn)).symm
      exact ⟨by kernel_rfl, fun j t ht => by
        rw [Tryd.params4] at ht
        have hm : t ∈ [3, 23] := by simpa using Array.mem_of_getElem? ht
        have hall : ([3, 23].all fun u => !Tryd.prog.wantsStandIn u) = true := by kernel_rfl
        exact (show Tryd.prog.wantsStandIn t = false by simpa using List.all_eq_true.1 hall t hm)⟩)
    (by kernel_rfl)
#print axioms wholePrints_card
end Go.Proofs.YtcokccfbeonlnaaDoor
