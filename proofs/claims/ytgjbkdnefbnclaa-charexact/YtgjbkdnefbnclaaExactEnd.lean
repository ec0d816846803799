import Derived.Test.YtgjbkdnefbnclaaXf
import Derived.ProofKit
import Derived.OpenShut
import Derived.ShutString
import Derived.ChangeOld
import Derived.Deep.Slices
import Derived.Lib.SmallJoins
set_option linter.unusedVariables false
set_option linter.unusedSimpArgs false
namespace Go.Proofs.Ytgjbkdnefbnclaa
open Go.ChangeShapes Go.WideShapes Go.ChangeAt Go.RowKit
open Go.ChangeMaps (open_string shut_string)
open Go.Joins

theorem charExact_own : ownKnob Try.prog.godebug = none := by kernel_rfl
theorem charExact_laidOut : laidOutB Try.prog = true := by kernel_rfl
theorem Try.cells26 : Try.prog.cellsOf 26 = 4 := by kernel_rfl
theorem Try.cells3 : Try.prog.cellsOf 3 = 1 := by kernel_rfl
theorem Try.cells9 : Try.prog.cellsOf 9 = 1 := by kernel_rfl
theorem Try.cells24 : Try.prog.cellsOf 24 = 1 := by kernel_rfl

/-- A slice of numbers that is read, as a row. -/
theorem ints_row {H : Type} {enc : TypeId × Value → H} {w : World} {base fuel : Nat} {spare : Nat → Bool} {held : Bool} {cs : List Value} {x : DataW H × List MemPlace} (h : DataW.trod enc Try.prog w base spare held fuel 24 cs = some x) :
    ∃ ao n cap zs, cs = [.slice ao n cap] ∧ n ≤ maxLen ∧ Row w ao n zs := by
  rcases open_ints Try.underlying24 Try.underlying3 Try.cells3 h with ⟨rfl, _⟩ | ⟨a, len, cap, zs, rfl, _, hl, hm, hz, _, hcell, _⟩
  · exact ⟨none, 0, 0, [], rfl, Nat.zero_le _, rfl, fun j hj => by omega⟩
  · refine ⟨some a, len, cap, zs.take len, rfl, by omega, ?_, fun j hj => ?_⟩
    · rw [List.length_take, hz]; split <;> omega
    · have hj2 : j < zs.length := by rw [hz]; split <;> omega
      obtain ⟨b, off, rfl, hc⟩ := ints_at hcell (by omega)
      refine ⟨b, off, rfl, ?_⟩
      rw [hc j hj2]
      simp [List.getD, hj]

/-- A call of the script that is read. -/
theorem op_read {H : Type} {enc : TypeId × Value → H} {w : World} {base n : Nat} {spare : Nat → Bool} {held : Bool} {a : Addr} {cs : List Value} {x : DataW H × List MemPlace} (hc : w.cells? base a 4 = some cs) (h : DataW.trod enc Try.prog w base spare held n 26 cs = some x) :
    ∃ o : OpV, a.spot = none ∧ OpAt w a.block a.off o := by
  obtain ⟨y0, y1, y2, y3, m, _, _, h0, h1, h2, h3⟩ := trod_struct4 Try.underlying26 h
  obtain ⟨_, hl, hcell⟩ := World.cells?_some hc
  match cs, hl with
  | [v0, v1, v2, v3], _ =>
    dsimp only at h0 h1 h2 h3
    rw [Try.cells3] at h0 h2
    rw [Try.cells9] at h1
    rw [Try.cells24] at h3
    obtain ⟨k, e0, _, _⟩ := DataW.trod_int Try.underlying3 h0
    obtain ⟨s, e1, _, hs⟩ := DataW.trod_string Try.underlying9 h1
    obtain ⟨p, e2, _, _⟩ := DataW.trod_int Try.underlying3 h2
    obtain ⟨ao, n, cap, zs, e3, hn, hr⟩ := ints_row h3
    simp at e0 e1 e2 e3
    subst e0 e1 e2 e3
    obtain ⟨b, off, spot⟩ := a
    have c0 := hcell 0 (by omega)
    have c1 := hcell 1 (by omega)
    have c2 := hcell 2 (by omega)
    have c3 := hcell 3 (by omega)
    have hspot : spot = none := by simpa [Addr.add] using World.cell?_spot c0
    subst hspot
    rw [Addr.add_lit] at c0 c1 c2 c3
    exact ⟨⟨k, s, p, ao, n, cap, zs⟩, rfl, ⟨by simpa using c0, by simpa using c1, by simpa using c2, by simpa using c3, hr, hs, hn⟩⟩

theorem ops_list {w : World} {b off N : Nat} (h : ∀ i, i < N → ∃ o : OpV, OpAt w b (off + i * 4) o) : ∃ ops : List OpV, ops.length = N ∧ ∀ (i : Nat) (o : OpV), ops[i]? = some o → OpAt w b (off + i * 4) o := by
  induction N with
  | zero => exact ⟨[], rfl, fun i o ho => by simp at ho⟩
  | succ N ih =>
    obtain ⟨ops, hl, ho⟩ := ih (fun i hi => h i (by omega))
    obtain ⟨o, hN⟩ := h N (by omega)
    refine ⟨ops ++ [o], by rw [List.length_append, hl]; rfl, fun i o' hi => ?_⟩
    by_cases hlt : i < ops.length
    · rw [List.getElem?_append_left hlt] at hi
      exact ho i o' hi
    · rw [List.getElem?_append_right (by omega)] at hi
      cases hk : i - ops.length with
      | zero =>
        rw [hk] at hi
        have e : o = o' := by simpa using hi
        have e2 : i = N := by omega
        subst e e2
        exact hN
      | succ k => rw [hk] at hi; simp at hi

set_option maxRecDepth 100000 in
theorem charExact_lifted (os : Os) (started : os.Started) (H : Type) (enc : TypeId × Value → H) :
    ReturnsInHanded {} Try.checked os 3 .any (Rows.charExactSpec.pre6 enc Try.prog Try.f3 Rows.charExactRow.domain false) (Rows.charExactSpec.post enc Try.prog Try.f3 false true false false) := by
  refine returnsInHanded_of_change (C := Try.checked) charExact_own started (by kernel_rfl) Try.func3
    (ChangeSpec.witness6 (enc := enc) (C := Try.checked) false ⟨#[], #[.slice none 0 0], []⟩ 8 (by kernel_rfl) (by kernel_rfl) (by kernel_rfl) (by kernel_rfl)) ?_
  intro W base args ds gs before hval0 hW _ _
  have hval : ∀ (j : Nat) t v, Try.f3.params[j]? = some t → args[j]? = some v → Value.okWide Try.prog W .any base t v := hval0
  have hW' := hW
  obtain ⟨p, q, hA0, hV, rfl, _, _⟩ := hW
  have hA : DataW.TrodAll enc Try.prog W 0 (fun _ => true) true Try.f3.params.toList args.toList ds p := hA0
  rw [Try.params3] at hA hval
  obtain ⟨v0, d0, rfl, rfl, h0⟩ := trodAll_one hA
  obtain ⟨rfl, rfl⟩ := trodVars_none hV
  obtain ⟨a0, len0, cap0, rfl⟩ := okWide_slice Try.underlying22 (hval 0 22 v0 rfl rfl)
  have k0 := h0
  have lt0 : ∀ x ∈ p, x.block < W.heap.size := by obtain ⟨m, hm⟩ := k0; exact DataW.trod_lt m _ _ _ hm
  have hwalk : Calls Try.prog 3 #[.slice a0 len0 cap0] W fun e w' => e = .returned (.bool true) ∧ Below W.heap.size W w' := by
    obtain ⟨fuel, hf⟩ := h0
    rcases Go.Deep.open_slice Try.underlying22 hf with ⟨hcs, _⟩ | ⟨a, len, cap, m, n, D, Pl, hcs, _, hl, hm, hmm, _, hx⟩
    · simp [Value.cells] at hcs
      obtain ⟨rfl, rfl, rfl⟩ := hcs
      exact exact_nil _ _ _
    · simp [Value.cells] at hcs
      obtain ⟨rfl, rfl, rfl⟩ := hcs
      by_cases hz : len0 = 0
      · subst hz
        exact exact_nil _ _ _
      · rw [Try.cells26] at hx
        have hm2 : m = cap0 := by simpa using hmm
        have hb : ∃ b off, a = ⟨b, off, none⟩ := by
          obtain ⟨cs', h1, h2⟩ := hx 0 (by omega)
          obtain ⟨o, hsp, _⟩ := op_read h1 h2
          obtain ⟨b, off, spot⟩ := a
          have : spot = none := by simpa [Addr.add] using hsp
          exact ⟨b, off, by rw [this]⟩
        obtain ⟨b, off, rfl⟩ := hb
        obtain ⟨ops, hlen, hops⟩ := ops_list (w := W) (b := b) (off := off) (N := len0) (fun i hi => by
          obtain ⟨cs', h1, h2⟩ := hx i (by omega)
          obtain ⟨o, _, ho⟩ := op_read h1 h2
          rw [Addr.add_lit] at ho
          exact ⟨o, ho⟩)
        exact exact_some b off len0 cap0 ops W (by omega) (by omega) hlen hops
  clear hA0 hval0
  refine hwalk.mono fun e W' ⟨he, bel⟩ => ?_
  subst he
  exact ⟨_, rfl, _, _, _, [], _, [], hW', trodAll_mk1 (shut_bool Try.underlying4 _), trodAll_mk1 (Below.trod charExact_laidOut (by kernel_rfl) (of_decide_eq_true (by kernel_rfl)) k0 bel lt0), rfl, bel.frame _, fun h => by cases h⟩

theorem charExact_holds : Rows.CharExactSaid :=
  OpenClaim.holds_of_wide 3 Try.f3 rfl rfl rfl rfl rfl rfl rfl ⟨rfl, rfl, rfl, rfl, rfl⟩ rfl rfl rfl rfl rfl (by kernel_rfl) Try.func3 (by kernel_rfl)
    (of_decide_eq_true (by kernel_rfl)) (by unfold Func.isWrapper; first | (rw [if_pos (by decide +kernel)]; kernel_rfl) | (rw [if_neg (by decide +kernel)]; exact ⟨rfl, rfl⟩))
    (fun os started H enc _ => charExact_lifted os started H enc)

#print axioms charExact_holds
end Go.Proofs.Ytgjbkdnefbnclaa
