import Derived.Test.YtkigadnkclkopaaGreatG1
import Derived.ProofKit
import Derived.OpenShut
import Derived.ShutString
import Derived.ChangeOld
import Derived.Lib.SmallJoins
import Derived.Carry
import Derived.Deep.Slices
set_option linter.unusedVariables false
set_option linter.unusedSimpArgs false
namespace Go.Proofs.YtkigadnkclkopaaGreat
open Go.ChangeShapes Go.WideShapes Go.ChangeAt Go.RowKit
open Go.ChangeMaps (open_string shut_string)

theorem pickT {α : Type} (P : Nat → α → Prop) : ∀ n, (∀ j, j < n → ∃ a, P j a) → ∃ l : List α, l.length = n ∧ ∀ j a, l[j]? = some a → P j a
  | 0, _ => ⟨[], rfl, fun j a h => by simp at h⟩
  | n + 1, h => by
    obtain ⟨l, hl, hp⟩ := pickT P n (fun j hj => h j (by omega))
    obtain ⟨a, ha⟩ := h n (by omega)
    refine ⟨l ++ [a], by simp [hl], fun j b hb => ?_⟩
    by_cases hj : j < l.length
    · rw [List.getElem?_append_left hj] at hb; exact hp j b hb
    · rw [List.getElem?_append_right (by omega)] at hb
      have h0 := (List.getElem?_eq_some_iff.1 hb).1
      simp at h0
      have : j = n := by omega
      subst this
      rw [show j - l.length = 0 by omega] at hb
      simp at hb
      subst hb; exact ha

theorem trod_struct3t {H : Type} {enc : TypeId × Value → H} {P : Program} {w : World} {base : Nat} {spare : Nat → Bool} {held : Bool} {t : TypeId} {f0 f1 f2 : Field} {fuel : Nat} {cs : List Value} {x : DataW H × List MemPlace} (ht : P.underlying t = some (.struct #[f0, f1, f2])) (h : DataW.trod enc P w base spare held fuel t cs = some x) :
    ∃ y0 y1 y2 n, cs.length = P.cellsOf t ∧ DataW.trod enc P w base spare held n f0.type ((cs.drop f0.offset).take (P.cellsOf f0.type)) = some y0 ∧
      DataW.trod enc P w base spare held n f1.type ((cs.drop f1.offset).take (P.cellsOf f1.type)) = some y1 ∧ DataW.trod enc P w base spare held n f2.type ((cs.drop f2.offset).take (P.cellsOf f2.type)) = some y2 := by
  obtain ⟨xs, n, _, rfl, hl, hlen, hf⟩ := DataW.trod_struct ht h
  match xs, hlen with
  | [y0, y1, y2], _ => exact ⟨y0, y1, y2, n, hl, by simpa using hf 0 f0 rfl, by simpa using hf 1 f1 rfl, by simpa using hf 2 f2 rfl⟩
theorem syn_laidOut : laidOutB Tryz.prog = true := by kernel_rfl
set_option maxRecDepth 100000 in
theorem lt_of {H : Type} {enc : TypeId × Value → H} {W : World} {spare : Nat → Bool} {held : Bool} {fuel n cap : Nat} {ao : Option Addr} {x : DataW H × List MemPlace}
    (h : DataW.trod enc Tryz.prog W 0 spare held fuel 22 (Value.slice ao n cap).cells.toList = some x) : ∃ l : List Tv, l.length = n ∧ n ≤ cap ∧ cap ≤ maxLen ∧ Lt W ao l := by
  have hce : Tryz.prog.cellsOf 28 = 6 := by kernel_rfl
  rcases Go.Deep.open_slice Tryz.underlying22 h with ⟨hcs, _⟩ | ⟨a, len, cap', m, k, D, Pl, hcs, _, hl, hmx, hm, _, hx⟩
  · simp [Value.cells] at hcs
    obtain ⟨rfl, rfl, rfl⟩ := hcs
    exact ⟨[], rfl, Nat.zero_le _, Nat.zero_le _, (fun j a h => by simp at h)⟩
  · simp [Value.cells] at hcs
    obtain ⟨rfl, rfl, rfl⟩ := hcs
    have hnm : n ≤ m := by rw [hm]; split <;> omega
    have each : ∀ j, j < n → ∃ y : Tv, W.cell? ((a.add (j * 6)).add 0) = some (.int .u8 y.k) ∧ W.cell? ((a.add (j * 6)).add 1) = some (.string y.t) ∧ W.cell? ((a.add (j * 6)).add 2) = some (.int .i64 y.a) ∧ W.cell? ((a.add (j * 6)).add 3) = some (.int .i64 y.l) ∧ W.cell? ((a.add (j * 6)).add 4) = some (.int .i64 y.c) ∧ W.cell? ((a.add (j * 6)).add 5) = some (.int .i64 y.f) := by
      intro j hj
      obtain ⟨cs', h1, h2⟩ := hx j (by omega)
      rw [hce] at h1
      obtain ⟨_, hlen, hcell⟩ := World.cells?_some h1
      obtain ⟨y0, y1, y2, y3, n', _, _, t0, t1, t2, t3⟩ := Go.Joins.trod_struct4 Tryz.underlying28 h2
      match cs', hlen with
      | [c0, c1, c2, c3, c4, c5], _ =>
        have ci : Tryz.prog.cellsOf 3 = 1 := by kernel_rfl
        have cs : Tryz.prog.cellsOf 9 = 1 := by kernel_rfl
        have ck : Tryz.prog.cellsOf 24 = 1 := by kernel_rfl
        have cp : Tryz.prog.cellsOf 26 = 3 := by kernel_rfl
        simp [ci, cs, ck, cp] at t0 t1 t2 t3
        obtain ⟨b0, e0, _, _⟩ := DataW.trod_int Tryz.underlying24 t0
        obtain ⟨b1, e1, _, hb1⟩ := DataW.trod_string Tryz.underlying9 t1
        obtain ⟨z0, z1, z2, n2, _, r0, r1, r2⟩ := trod_struct3t Tryz.underlying26 t2
        simp [ci] at r0 r1 r2
        obtain ⟨b2, e2, _, _⟩ := DataW.trod_int Tryz.underlying3 r0
        obtain ⟨b3, e3, _, _⟩ := DataW.trod_int Tryz.underlying3 r1
        obtain ⟨b4, e4, _, _⟩ := DataW.trod_int Tryz.underlying3 r2
        obtain ⟨b5, e5, _, _⟩ := DataW.trod_int Tryz.underlying3 t3
        simp at e0 e1 e2 e3 e4 e5
        subst e0 e1 e2 e3 e4 e5
        exact ⟨⟨b0, b1, b2, b3, b4, b5⟩, hcell 0 (by omega), hcell 1 (by omega), hcell 2 (by omega), hcell 3 (by omega), hcell 4 (by omega), hcell 5 (by omega)⟩
    obtain ⟨l, hal, hap⟩ := pickT _ n each
    refine ⟨l, hal, hl, hmx, ?_⟩
    intro j y hy
    have hjl := (List.getElem?_eq_some_iff.1 hy).1
    obtain ⟨e0, e1, e2, e3, e4, e5⟩ := hap j y hy
    obtain ⟨_, f0, _⟩ := each 0 (by omega)
    have hsp : a.spot = none := by simpa [Addr.add] using World.cell?_spot f0
    obtain ⟨b, off, sp⟩ := a
    simp only at hsp
    subst hsp
    rw [Addr.add_lit, Addr.add_lit] at e0 e1 e2 e3 e4 e5
    exact ⟨b, off, rfl, e0, e1, e2, e3, e4, e5⟩
end Go.Proofs.YtkigadnkclkopaaGreat
