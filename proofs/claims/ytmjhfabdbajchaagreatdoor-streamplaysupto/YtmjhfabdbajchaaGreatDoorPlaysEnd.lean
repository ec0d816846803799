import Derived.Test.YtmjhfabdbajchaaGreatDoorHb4
import Derived.Test.YtmjhfabdbajchaaGreatDoorCn
import Derived.Test.YtmjhfabdbajchaaGreatDoorCo
import Derived.Test.YtmjhfabdbajchaaGreatDoorHb5
import Derived.Test.YtmjhfabdbajchaaGreatDoorTie
import Derived.Test.YtmjhfabdbajchaaGreatDoorCards
import Derived.ProofKit
import Derived.OpenShut
import Derived.ShutString
import Derived.ChangeOld
import Derived.Lay
import Derived.SevenTiedAt
import Derived.Stop.Joined
import Derived.Deep.DeepHandedRow
set_option linter.unusedVariables false
set_option linter.unusedSimpArgs false
namespace Go.Proofs.YtmjhfabdbajchaaGreatDoor
open Go.ChangeShapes Go.WideShapes Go.ChangeAt Go.RowKit
open Go.ChangeMaps (open_string shut_string)

theorem streamPlays_own : ownKnob Tryz.prog.godebug = none := by kernel_rfl

set_option maxRecDepth 100000 in
theorem streamPlays_contract (H : Type) (enc : TypeId × Value → H) (W : World) (base : Nat) (args : Array Value) (ds gs : List (DataW H)) (before : List MemPlace)
    (hval0 : ∀ (j : Nat) t v, Tryz.f4.params[j]? = some t → args[j]? = some v → Value.okWide Tryz.prog W .any base t v)
    (hW : DataW.Whole enc Tryz.prog Tryz.f4.params.toList Rows.streamPlaysSpec.vars false W args.toList ds gs before) (hk : Rows.uptoSmall H (ds ++ gs) = true) (hL : laidMetH Tryz.prog [("colophon/width.spans", Rows.laid_colophon_width_spans)] W) :
    Calls Tryz.prog 4 args W fun e W' => ∃ v, e = .returned v ∧ Rows.streamPlaysSpec.post enc Tryz.prog Tryz.f4 false true false false W args v W' := by
  have hval : ∀ (j : Nat) t v, Tryz.f4.params[j]? = some t → args[j]? = some v → Value.okWide Tryz.prog W .any base t v := hval0
  have hW' := hW
  obtain ⟨p, q, hA0, hV, rfl, _, _⟩ := hW
  have hA : DataW.TrodAll enc Tryz.prog W 0 (fun _ => true) true Tryz.f4.params.toList args.toList ds p := hA0
  rw [Tryz.params4] at hA hval
  obtain ⟨v0, v1, v2, d0, d1, d2, p0, p1, p2, rfl, rfl, rfl, h0, h1, h2⟩ := trodAll_three hA
  obtain ⟨rfl, rfl⟩ := trodVars_none hV
  obtain ⟨n, rfl, rfl, rfl, wn⟩ := open_int Tryz.underlying3 (hval 0 3 v0 rfl rfl) h0
  have rn := wn
  simp [Lit.wf, IntKind.min, IntKind.max, IntKind.signed, IntKind.bits] at rn
  obtain ⟨i, rfl, rfl, rfl, wi⟩ := open_int Tryz.underlying3 (hval 1 3 v1 rfl rfl) h1
  have ri := wi
  simp [Lit.wf, IntKind.min, IntKind.max, IntKind.signed, IntKind.bits] at ri
  obtain ⟨ao, len2, cap, rfl⟩ := okWide_slice Tryz.underlying23 (hval 2 23 v2 rfl rfl)
  have h2k := h2
  obtain ⟨fuel2, hf2⟩ := h2
  obtain ⟨l, hal2, hsc2, hnil2, hbk2⟩ := layO_bulk hf2
  have hbq2 : lsumO l + 1 ≤ Rows.uptoBulk d2 := hbk2
  subst hal2
  have hlt2 : ∀ x ∈ p2, x.block < W.heap.size := fun x hx => hA.lt x (by simp [hx])
  have hbd : Rows.uptoBulkAll _ ≤ 1048576 := of_decide_eq_true hk
  simp only [Rows.uptoBulkAll, List.cons_append, List.nil_append] at hbd
  have hln := len_lsumO l
  have hud := udo_lsumO l
  clear hA0 hval0
  refine (plays9_any ctr9 n i ao l cap W hsc2 (tab_of_laid (by kernel_rfl) (by exact .head _) hL) (by omega) (by omega)).mono fun e W' ⟨he, bel⟩ => ?_
  subst he
  exact ⟨_, rfl, _, _, _, [], _, [], hW', trodAll_mk1 (shut_bool Tryz.underlying4 _), (trodAll_mk3 (shut_int Tryz.underlying3 wn) (shut_int Tryz.underlying3 wi) (Below.trod all_laidOut (by kernel_rfl) (of_decide_eq_true (by kernel_rfl)) h2k bel hlt2)), rfl, bel.frame _, fun h => by cases h⟩

theorem streamPlays_laid (os : Os) : laidMet Tryz.prog Rows.streamPlaysUptoRow.laid ((World.laidAll Tryz.prog os [("colophon/width.spans", Rows.laid_colophon_width_spans)]).forCall (fun _ _ => 0) ⟨#[], #[.int .i64 1, .int .i64 1, .slice none 0 0], []⟩).memory :=
  laidMet_of_run' 8 (by kernel_rfl) (by kernel_rfl)
theorem streamPlays_reads (os : Os) {H : Type} (enc : TypeId × Value → H) : ∃ places, DataW.whole enc Tryz.prog ((World.laidAll Tryz.prog os [("colophon/width.spans", Rows.laid_colophon_width_spans)]).forCall (fun _ _ => 0) ⟨#[], #[.int .i64 1, .int .i64 1, .slice none 0 0], []⟩).memory Tryz.f4.params.toList Rows.streamPlaysSpec.vars false (#[.int .i64 1, .int .i64 1, .slice none 0 0] : Array Value).toList 8 = some ([.lit (.int .i64 1), .lit (.int .i64 1), .nil], [], places) :=
  ⟨[], by kernel_rfl⟩

set_option maxRecDepth 100000 in
theorem streamPlays_lifted (os : Os) (started : os.Started) (H : Type) (enc : TypeId × Value → H) (F : Stop.Interp) :
    ReturnsInHanded {} Tryz.checked os 4 .any ((Rows.OpenSpec.upto Rows.streamPlaysSpec).preRow enc Tryz.prog Tryz.f4 Rows.streamPlaysUptoRow.domain false Rows.streamPlaysUptoRow.laid) (((Rows.OpenSpec.upto Rows.streamPlaysSpec).at F).post enc Tryz.prog Tryz.f4 false true false false) := by
  obtain ⟨places, hx⟩ := streamPlays_reads os enc
  refine returnsInHanded_of_row (C := Tryz.checked) (s := Rows.OpenSpec.upto Rows.streamPlaysSpec) streamPlays_own started (by kernel_rfl) Tryz.func4
    (witness_row_at (enc := enc) (C := Tryz.checked) false (World.laidAll Tryz.prog os [("colophon/width.spans", Rows.laid_colophon_width_spans)]) #[.int .i64 1, .int .i64 1, .slice none 0 0] (World.laidAll_os _ _ _) (by kernel_rfl) (by kernel_rfl) (by kernel_rfl)
      (OpenSpec.preRow_of_cond 8 hx (by kernel_rfl) (fun k hk => by cases hk; kernel_rfl) (by kernel_rfl) (streamPlays_laid os))) ?_
  intro W base args ds gs before hval hW _ hcond _ hL _ _
  exact streamPlays_contract H enc W base args ds gs before hval hW (hcond _ rfl) hL

theorem streamPlays_holds : Rows.StreamPlaysUptoSaid :=
  OpenClaim.holds_of_cond 4 Tryz.f4 rfl rfl rfl rfl rfl rfl rfl ⟨rfl, rfl, rfl, rfl, rfl⟩ rfl rfl rfl rfl rfl (by kernel_rfl) Tryz.func4 (by kernel_rfl)
    (of_decide_eq_true (by kernel_rfl)) (by unfold Func.isWrapper; first | (rw [if_pos (by decide +kernel)]; kernel_rfl) | (rw [if_neg (by decide +kernel)]; exact ⟨rfl, rfl⟩))
    (fun os started H enc _ F => by rw [OpenClaim.pre_eq_preRow]; exact streamPlays_lifted os started H enc F)

theorem streamPlays_card : Rows.StreamPlaysUptoCardSaid :=
  Claim7.holds_tied_plain_at .later [] [.data] true (true, "6c27a8b8bd2f70b567cece08497fe3c70b89db4b5a1a1ae9cea308aa52d23871") false
    streamPlays_holds (fun _ h => by cases h) (by kernel_rfl) (fun _ h => by cases h) streamPlaysUpto_row_tie rfl ⟨rfl, rfl⟩ (by kernel_rfl) rfl
    (fun f fn hf hfn => by
      obtain rfl : f = 4 := Option.some.inj ((show Tryz.prog.funcNamed "colophon/colophonlaw09.StreamPlays" = some 4 by kernel_rfl).symm.trans hf) |>.symm
      obtain rfl : fn = Tryz.f4 := (Option.some.inj (Tryz.func4.symm.trans hfn)).symm
      exact ⟨by kernel_rfl, fun j t ht => by
        rw [Tryz.params4] at ht
        have hm : t ∈ [3, 3, 23] := by simpa using Array.mem_of_getElem? ht
        have hall : ([3, 3, 23].all fun u => !Tryz.prog.wantsStandIn u) = true := by kernel_rfl
        exact (show Tryz.prog.wantsStandIn t = false by simpa using List.all_eq_true.1 hall t hm)⟩)
    (by kernel_rfl)
#print axioms streamPlays_card
end Go.Proofs.YtmjhfabdbajchaaGreatDoor
