import Derived.Test.YtkglkhijngpgiaaGreatUe
import Derived.Test.YtkglkhijngpgiaaGreatOpt
import Derived.SizedLaws
set_option linter.unusedVariables false
set_option linter.unusedSimpArgs false
namespace Go.Proofs.YtkglkhijngpgiaaGreat
open Go.ChangeShapes Go.WideShapes Go.ChangeAt Go.RowKit

theorem parsePuts_own : ownKnob Tryz.prog.godebug = none := by kernel_rfl
set_option maxRecDepth 100000 in
theorem parsePuts_lifted (os : Os) (started : os.Started) (H : Type) (enc : TypeId × Value → H) :
    ReturnsInHanded {} Tryz.checked os 3 .any (Rows.parsePutsSpec.pre6 enc Tryz.prog Tryz.f3 Rows.parsePutsRow.domain false) (Rows.parsePutsSpec.post enc Tryz.prog Tryz.f3 false true false false) := by
  refine returnsInHanded_of_change_sized (C := Tryz.checked) parsePuts_own started (by kernel_rfl) Tryz.func3
    (ChangeSpec.witness6 (enc := enc) (C := Tryz.checked) false ⟨#[], #[.slice none 0 0, .slice none 0 0, .int .i64 0], []⟩ 8 (by kernel_rfl) (by kernel_rfl) (by kernel_rfl) (by kernel_rfl)) ?_
  intro W base args ds gs before hval0 hW hc hsz _
  have hval : ∀ (j : Nat) t v, Tryz.f3.params[j]? = some t → args[j]? = some v → Value.okWide Tryz.prog W .any base t v := hval0
  have hW' := hW
  obtain ⟨p, q, hA0, hV, rfl, _, _⟩ := hW
  have hA : DataW.TrodAll enc Tryz.prog W 0 (fun _ => true) true Tryz.f3.params.toList args.toList ds p := hA0
  rw [Tryz.params3] at hA hval
  obtain ⟨v0, v1, v2, d0, d1, d2, p0, p1, p2, rfl, rfl, rfl, h0, h1, h2⟩ := trodAll_three hA
  obtain ⟨rfl, rfl⟩ := trodVars_none hV
  obtain ⟨ao, n, cap, rfl⟩ := okWide_slice Tryz.underlying22 (hval 0 22 v0 rfl rfl)
  have h0k := h0
  obtain ⟨fuel0, hf0⟩ := h0
  obtain ⟨l, rfl, hln, hL⟩ := lt_of hf0
  have hlt0 : ∀ x ∈ p0, x.block < W.heap.size := fun x hx => hA.lt x (by simp [hx])
  obtain ⟨bo, m, bcap, rfl⟩ := okWide_slice Tryz.underlying22 (hval 1 22 v1 rfl rfl)
  have h1k := h1
  obtain ⟨fuel1, hf1⟩ := h1
  obtain ⟨m, rfl, hmn, hM⟩ := lt_of hf1
  have hlt1 : ∀ x ∈ p1, x.block < W.heap.size := fun x hx => hA.lt x (by simp [hx])
  obtain ⟨a2, rfl, rfl, rfl, w2⟩ := open_int Tryz.underlying3 (hval 2 3 v2 rfl rfl) h2
  have hs0 : l.length * 56 ≤ 140737488355328 := by
    rcases Go.Deep.open_slice Tryz.underlying22 hf0 with ⟨hcs, _⟩ | ⟨a, len, cap', m', k, D, Pl, hcs, _, _, _, _, hx, _⟩
    · simp [Value.cells] at hcs
      have : l.length = 0 := by simp [hcs]
      omega
    · simp [Value.cells] at hcs
      obtain ⟨rfl, hlen, rfl⟩ := hcs
      simp only [Prod.mk.injEq] at hx
      have := sized_slice hsz (j := 0) (t := 22) (e := 35) (by rw [Tryz.params3]; rfl) (by rw [hx.1]; rfl) Tryz.underlying22
      have hb36 : Tryz.checked.prog.bytesOf 35 = 56 := by kernel_rfl
      rw [hb36] at this
      simp only [List.length_map, List.length_range, reachBytes] at this
      omega
  have hs1 : m.length * 56 ≤ 140737488355328 := by
    rcases Go.Deep.open_slice Tryz.underlying22 hf1 with ⟨hcs, _⟩ | ⟨a, len, cap', m', k, D, Pl, hcs, _, _, _, _, hx, _⟩
    · simp [Value.cells] at hcs
      have : m.length = 0 := by simp [hcs]
      omega
    · simp [Value.cells] at hcs
      obtain ⟨rfl, hlen, rfl⟩ := hcs
      simp only [Prod.mk.injEq] at hx
      have := sized_slice hsz (j := 1) (t := 22) (e := 35) (by rw [Tryz.params3]; rfl) (by rw [hx.1]; rfl) Tryz.underlying22
      have hb36 : Tryz.checked.prog.bytesOf 35 = 56 := by kernel_rfl
      rw [hb36] at this
      simp only [List.length_map, List.length_range, reachBytes] at this
      omega
  clear hA0 hval0
  refine (puts_all ao bo l m cap bcap a2 W hL hM hs0 hs1).mono fun e W' ⟨he, bel⟩ => ?_
  subst he
  exact ⟨_, rfl, _, _, _, [], _, [], hW', trodAll_mk1 (shut_bool Tryz.underlying4 _), (trodAll_mk3 (Below.trod all_laidOut (by kernel_rfl) (of_decide_eq_true (by kernel_rfl)) h0k bel hlt0) (Below.trod all_laidOut (by kernel_rfl) (of_decide_eq_true (by kernel_rfl)) h1k bel hlt1) (shut_int Tryz.underlying3 w2)), rfl, bel.frame _, fun h => by cases h⟩

theorem parsePuts_holds : Rows.ParsePutsSaid :=
  OpenClaim.holds_of_wide 3 Tryz.f3 rfl rfl rfl rfl rfl rfl rfl ⟨rfl, rfl, rfl, rfl, rfl⟩ rfl rfl rfl rfl rfl (by kernel_rfl) Tryz.func3 (by kernel_rfl)
    (of_decide_eq_true (by kernel_rfl)) (by unfold Func.isWrapper; first | (rw [if_pos (by decide +kernel)]; kernel_rfl) | (rw [if_neg (by decide +kernel)]; exact ⟨rfl, rfl⟩))
    (fun os started H enc _ => parsePuts_lifted os started H enc)

#print axioms parsePuts_holds
end Go.Proofs.YtkglkhijngpgiaaGreat
