import Derived.Test.YtjibpdncginkdaaNz
import Derived.ProofKit
import Derived.OpenShut
import Derived.ShutString
import Derived.ChangeOld
import Derived.Lib.SmallJoins
import Derived.Carry
import Derived.Deep.Slices
set_option linter.unusedVariables false
set_option linter.unusedSimpArgs false
namespace Go.Proofs.Ytjibpdncginkdaa
open Go.ChangeShapes Go.WideShapes Go.ChangeAt Go.RowKit

theorem ringPlays_own : ownKnob Try.prog.godebug = none := by kernel_rfl
theorem ringPlays_laidOut : laidOutB Try.prog = true := by kernel_rfl
theorem script_of {H : Type} {enc : TypeId × Value → H} {W : World} {spare : Nat → Bool} {held : Bool} {fuel n cap : Nat} {ao : Option Addr} {x : DataW H × List MemPlace}
    (h : DataW.trod enc Try.prog W 0 spare held fuel 35 (Value.slice ao n cap).cells.toList = some x) : Script W ao n := by
  have hce : Try.prog.cellsOf 45 = 4 := by kernel_rfl
  rcases Go.Deep.open_slice Try.underlying35 h with ⟨hcs, _⟩ | ⟨a, len, cap', m, k, D, Pl, hcs, _, hl, _, hm, _, hx⟩
  · simp [Value.cells] at hcs
    obtain ⟨rfl, rfl, rfl⟩ := hcs
    intro j hj; omega
  · simp [Value.cells] at hcs
    obtain ⟨rfl, rfl, rfl⟩ := hcs
    have hnm : n ≤ m := by rw [hm]; split <;> omega
    have each : ∀ j, j < n → ∃ (k : Int) (o : Bool) (I X : Int), W.cell? ((a.add (j * 4)).add 0) = some (.int .i64 k) ∧ W.cell? ((a.add (j * 4)).add 1) = some (.bool o) ∧ W.cell? ((a.add (j * 4)).add 2) = some (.int .i64 I) ∧ W.cell? ((a.add (j * 4)).add 3) = some (.int .i64 X) := by
      intro j hj
      obtain ⟨cs', h1, h2⟩ := hx j (by omega)
      rw [hce] at h1
      obtain ⟨_, hlen, hcell⟩ := World.cells?_some h1
      obtain ⟨y0, y1, y2, y3, n', _, _, t0, t1, t2, t3⟩ := Go.Joins.trod_struct4 Try.underlying45 h2
      match cs', hlen with
      | [c0, c1, c2, c3], _ =>
        have ci : Try.prog.cellsOf 3 = 1 := by kernel_rfl
        have cb : Try.prog.cellsOf 4 = 1 := by kernel_rfl
        simp [ci, cb] at t0 t1 t2 t3
        obtain ⟨b0, e0, _, _⟩ := DataW.trod_int Try.underlying3 t0
        obtain ⟨b1, e1, _⟩ := DataW.trod_bool Try.underlying4 t1
        obtain ⟨b2, e2, _, _⟩ := DataW.trod_int Try.underlying3 t2
        obtain ⟨b3, e3, _, _⟩ := DataW.trod_int Try.underlying3 t3
        simp at e0 e1 e2 e3
        subst e0 e1 e2 e3
        exact ⟨b0, b1, b2, b3, hcell 0 (by omega), hcell 1 (by omega), hcell 2 (by omega), hcell 3 (by omega)⟩
    intro j hj
    obtain ⟨_, _, _, _, c0, _⟩ := each 0 (by omega)
    have hsp : a.spot = none := by simpa [Addr.add] using World.cell?_spot c0
    obtain ⟨b, off, sp⟩ := a
    simp only at hsp
    subst hsp
    obtain ⟨k, o, I, X, e0, e1, e2, e3⟩ := each j hj
    rw [Addr.add_lit, Addr.add_lit] at e0 e1 e2 e3
    exact ⟨b, off, k, o, I, X, rfl, e0, e1, e2, e3⟩

set_option maxRecDepth 100000 in
theorem ringPlays_lifted (os : Os) (started : os.Started) (H : Type) (enc : TypeId × Value → H) :
    ReturnsInHanded {} Try.checked os 4 .any (Rows.ringPlaysSpec.pre6 enc Try.prog Try.f4 Rows.ringPlaysRow.domain false) (Rows.ringPlaysSpec.post enc Try.prog Try.f4 false true false false) := by
  refine returnsInHanded_of_change (C := Try.checked) ringPlays_own started (by kernel_rfl) Try.func4
    (ChangeSpec.witness6 (enc := enc) (C := Try.checked) false ⟨#[], #[.int .i64 0, .int .i64 0, .slice none 0 0], []⟩ 8 (by kernel_rfl) (by kernel_rfl) (by kernel_rfl) (by kernel_rfl)) ?_
  intro W base args ds gs before hval0 hW _ _
  have hval : ∀ (j : Nat) t v, Try.f4.params[j]? = some t → args[j]? = some v → Value.okWide Try.prog W .any base t v := hval0
  have hW' := hW
  obtain ⟨p, q, hA0, hV, rfl, _, _⟩ := hW
  have hA : DataW.TrodAll enc Try.prog W 0 (fun _ => true) true Try.f4.params.toList args.toList ds p := hA0
  rw [Try.params4] at hA hval
  obtain ⟨v0, v1, v2, d0, d1, d2, p0, p1, p2, rfl, rfl, rfl, h0, h1, h2⟩ := trodAll_three hA
  obtain ⟨rfl, rfl⟩ := trodVars_none hV
  obtain ⟨a0, rfl, rfl, rfl, w0⟩ := open_int Try.underlying3 (hval 0 3 v0 rfl rfl) h0
  obtain ⟨a1, rfl, rfl, rfl, w1⟩ := open_int Try.underlying3 (hval 1 3 v1 rfl rfl) h1
  obtain ⟨ao, n, cap, rfl⟩ := okWide_slice Try.underlying35 (hval 2 35 v2 rfl rfl)
  have h2k := h2
  obtain ⟨fuel, hf⟩ := h2
  have hsc : Script W ao n := script_of hf
  have hlt : ∀ x ∈ p2, x.block < W.heap.size := fun x hx => hA.lt x (by simp [hx])
  clear hA0 hval0
  refine (ringPlays_any a0 a1 ao n cap W hsc).mono fun e W' ⟨he, bel⟩ => ?_
  subst he
  exact ⟨_, rfl, _, _, _, [], _, [], hW', trodAll_mk1 (shut_bool Try.underlying4 _), (trodAll_mk3 (shut_int Try.underlying3 w0) (shut_int Try.underlying3 w1) (Below.trod ringPlays_laidOut (by kernel_rfl) (of_decide_eq_true (by kernel_rfl)) h2k bel hlt)), rfl, bel.frame _, fun h => by cases h⟩

theorem ringPlays_holds : Rows.RingPlaysSaid :=
  OpenClaim.holds_of_wide 4 Try.f4 rfl rfl rfl rfl rfl rfl rfl ⟨rfl, rfl, rfl, rfl, rfl⟩ rfl rfl rfl rfl rfl (by kernel_rfl) Try.func4 (by kernel_rfl)
    (of_decide_eq_true (by kernel_rfl)) (by unfold Func.isWrapper; first | (rw [if_pos (by decide +kernel)]; kernel_rfl) | (rw [if_neg (by decide +kernel)]; exact ⟨rfl, rfl⟩))
    (fun os started H enc _ => ringPlays_lifted os started H enc)

#print axioms ringPlays_holds
end Go.Proofs.Ytjibpdncginkdaa
