import Derived.Test.YtcokccfbeonlnaaDoorGb2
import Derived.Test.YtcokccfbeonlnaaDoorYc
set_option linter.unusedVariables false
set_option linter.unusedSimpArgs false
namespace Go.Proofs.YtcokccfbeonlnaaDoor
open Go.ChangeShapes Go.WideShapes Go.ChangeAt Go.RowKit

theorem trod_struct2 {H : Type} {enc : TypeId × Value → H} {P : Program} {w : World} {base : Nat} {spare : Nat → Bool} {held : Bool} {t : TypeId} {f0 f1 : Field} {fuel : Nat} {cs : List Value} {x : DataW H × List MemPlace} (ht : P.underlying t = some (.struct #[f0, f1])) (h : DataW.trod enc P w base spare held fuel t cs = some x) :
    ∃ y0 y1 n, cs.length = P.cellsOf t ∧ DataW.trod enc P w base spare held n f0.type ((cs.drop f0.offset).take (P.cellsOf f0.type)) = some y0 ∧
      DataW.trod enc P w base spare held n f1.type ((cs.drop f1.offset).take (P.cellsOf f1.type)) = some y1 := by
  obtain ⟨xs, n, _, rfl, hl, hlen, hf⟩ := DataW.trod_struct ht h
  match xs, hlen with
  | [y0, y1], _ => exact ⟨y0, y1, n, hl, by simpa using hf 0 f0 rfl, by simpa using hf 1 f1 rfl⟩
set_option maxRecDepth 100000 in
theorem layW_of {H : Type} {enc : TypeId × Value → H} {W : World} {spare : Nat → Bool} {held : Bool} {fuel n cap : Nat} {ao : Option Addr} {x : DataW H × List MemPlace}
    (h : DataW.trod enc Tryd.prog W 0 spare held fuel 36 (Value.slice ao n cap).cells.toList = some x) : ∃ l : List (Int × Int), l.length = n ∧ n ≤ 9223372036854775807 ∧ LayW W ao l := by
  have hce : Tryd.prog.cellsOf 67 = 2 := by kernel_rfl
  rcases Go.Deep.open_slice Tryd.underlying36 h with ⟨hcs, _⟩ | ⟨a, len, cap', m, k, D, Pl, hcs, _, hl, hmx, hm, _, hx⟩
  · simp [Value.cells] at hcs
    obtain ⟨rfl, rfl, rfl⟩ := hcs
    exact ⟨[], rfl, Nat.zero_le _, (fun j a h => by simp at h)⟩
  · simp [Value.cells] at hcs
    obtain ⟨rfl, rfl, rfl⟩ := hcs
    have hnm : n ≤ m := by rw [hm]; split <;> omega
    have each : ∀ j, j < n → ∃ y : Int × Int, ((-9223372036854775808 ≤ y.1 ∧ y.1 ≤ 9223372036854775807) ∧ (-9223372036854775808 ≤ y.2 ∧ y.2 ≤ 9223372036854775807)) ∧ W.cell? ((a.add (j * 2)).add 0) = some (.int .i64 y.1) ∧ W.cell? ((a.add (j * 2)).add 1) = some (.int .i64 y.2) := by
      intro j hj
      obtain ⟨cs', h1, h2⟩ := hx j (by omega)
      rw [hce] at h1
      obtain ⟨_, hlen, hcell⟩ := World.cells?_some h1
      obtain ⟨y0, y1, n', _, t0, t1⟩ := trod_struct2 Tryd.underlying67 h2
      match cs', hlen with
      | [c0, c1], _ =>
        have ci : Tryd.prog.cellsOf 3 = 1 := by kernel_rfl
        simp [ci] at t0 t1
        obtain ⟨b0, e0, _, hw0⟩ := DataW.trod_int Tryd.underlying3 t0
        obtain ⟨b1, e1, _, hw1⟩ := DataW.trod_int Tryd.underlying3 t1
        simp at e0 e1
        subst e0 e1
        refine ⟨⟨b0, b1⟩, ⟨?_, ?_⟩, hcell 0 (by omega), hcell 1 (by omega)⟩
        · simp [Lit.wf, IntKind.min, IntKind.max, IntKind.signed, IntKind.bits] at hw0
          exact hw0
        · simp [Lit.wf, IntKind.min, IntKind.max, IntKind.signed, IntKind.bits] at hw1
          exact hw1
    obtain ⟨l, hal, hap⟩ := pick _ n each
    refine ⟨l, hal, by have : maxLen = 9223372036854775807 := rfl; omega, ?_⟩
    intro j y hy
    have hjl := (List.getElem?_eq_some_iff.1 hy).1
    obtain ⟨h0, e0, e1⟩ := hap j y hy
    obtain ⟨_, _, f0, _⟩ := each 0 (by omega)
    have hsp : a.spot = none := by simpa [Addr.add] using World.cell?_spot f0
    obtain ⟨b, off, sp⟩ := a
    simp only at hsp
    subst hsp
    rw [Addr.add_lit, Addr.add_lit] at e0 e1
    exact ⟨h0, b, off, rfl, e0, e1⟩
end Go.Proofs.YtcokccfbeonlnaaDoor
