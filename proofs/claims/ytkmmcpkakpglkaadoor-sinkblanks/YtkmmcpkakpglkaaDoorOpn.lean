import Derived.Test.YtkmmcpkakpglkaaDoorSy
import Derived.ProofKit
import Derived.OpenShut
import Derived.ShutString
import Derived.ChangeOld
import Derived.Lib.SmallJoins
import Derived.Carry
import Derived.Deep.Slices
set_option linter.unusedVariables false
set_option linter.unusedSimpArgs false
namespace Go.Proofs.YtkmmcpkakpglkaaDoor
open Go.ChangeShapes Go.WideShapes Go.ChangeAt Go.RowKit
open Go.ChangeMaps (open_string shut_string)

theorem pick {α : Type} (P : Nat → α → Prop) : ∀ n, (∀ j, j < n → ∃ a, P j a) → ∃ l : List α, l.length = n ∧ ∀ j a, l[j]? = some a → P j a
  | 0, _ => ⟨[], rfl, fun j a h => by simp at h⟩
  | n + 1, h => by
    obtain ⟨l, hl, hp⟩ := pick P n (fun j hj => h j (by omega))
    obtain ⟨a, ha⟩ := h n (by omega)
    refine ⟨l ++ [a], by simp [hl], fun j b hb => ?_⟩
    by_cases hj : j < l.length
    · rw [List.getElem?_append_left hj] at hb; exact hp j b hb
    · rw [List.getElem?_append_right (by omega)] at hb
      have h0 := (List.getElem?_eq_some_iff.1 hb).1
      simp at h0
      have : j = n := by omega
      subst this
      rw [show j - l.length = 0 by omega] at hb
      simp at hb
      subst hb; exact ha

theorem all_laidOut : laidOutB Tryd.prog = true := by kernel_rfl
theorem scr_of {H : Type} {enc : TypeId × Value → H} {W : World} {spare : Nat → Bool} {held : Bool} {fuel n cap : Nat} {ao : Option Addr} {x : DataW H × List MemPlace}
    (h : DataW.trod enc Tryd.prog W 0 spare held fuel 30 (Value.slice ao n cap).cells.toList = some x) : ∃ acts : List Act6, acts.length = n ∧ n ≤ 9223372036854775807 ∧ Scr W ao acts := by
  have hce : Tryd.prog.cellsOf 37 = 4 := by kernel_rfl
  rcases Go.Deep.open_slice Tryd.underlying30 h with ⟨hcs, _⟩ | ⟨a, len, cap', m, k, D, Pl, hcs, _, hl, hmx, hm, _, hx⟩
  · simp [Value.cells] at hcs
    obtain ⟨rfl, rfl, rfl⟩ := hcs
    exact ⟨[], rfl, Nat.zero_le _, fun j a h => by simp at h⟩
  · simp [Value.cells] at hcs
    obtain ⟨rfl, rfl, rfl⟩ := hcs
    have hnm : n ≤ m := by rw [hm]; split <;> omega
    have each : ∀ j, j < n → ∃ y : Act6, y.t.size ≤ 9223372036854775807 ∧ W.cell? ((a.add (j * 4)).add 0) = some (.int .i64 y.kind) ∧ W.cell? ((a.add (j * 4)).add 1) = some (.bool y.other) ∧ W.cell? ((a.add (j * 4)).add 2) = some (.string y.t) ∧ W.cell? ((a.add (j * 4)).add 3) = some (.int .i64 y.n) := by
      intro j hj
      obtain ⟨cs', h1, h2⟩ := hx j (by omega)
      rw [hce] at h1
      obtain ⟨_, hlen, hcell⟩ := World.cells?_some h1
      obtain ⟨y0, y1, y2, y3, n', _, _, t0, t1, t2, t3⟩ := Go.Joins.trod_struct4 Tryd.underlying37 h2
      match cs', hlen with
      | [c0, c1, c2, c3], _ =>
        have ci : Tryd.prog.cellsOf 3 = 1 := by kernel_rfl
        have cb : Tryd.prog.cellsOf 4 = 1 := by kernel_rfl
        have cs : Tryd.prog.cellsOf 9 = 1 := by kernel_rfl
        simp [ci, cb, cs] at t0 t1 t2 t3
        obtain ⟨b0, e0, _, _⟩ := DataW.trod_int Tryd.underlying3 t0
        obtain ⟨b1, e1, _⟩ := DataW.trod_bool Tryd.underlying4 t1
        obtain ⟨b2, e2, _, hb2⟩ := DataW.trod_string Tryd.underlying9 t2
        obtain ⟨b3, e3, _, _⟩ := DataW.trod_int Tryd.underlying3 t3
        simp at e0 e1 e2 e3
        subst e0 e1 e2 e3
        exact ⟨⟨b0, b1, b2, b3⟩, by simpa [maxLen] using hb2, hcell 0 (by omega), hcell 1 (by omega), hcell 2 (by omega), hcell 3 (by omega)⟩
    obtain ⟨acts, hal, hap⟩ := pick _ n each
    refine ⟨acts, hal, by have : maxLen = 9223372036854775807 := rfl; omega, ?_⟩
    intro j y hy
    have hjl := (List.getElem?_eq_some_iff.1 hy).1
    obtain ⟨h0, e0, e1, e2, e3⟩ := hap j y hy
    obtain ⟨_, _, f0, _⟩ := each 0 (by omega)
    have hsp : a.spot = none := by simpa [Addr.add] using World.cell?_spot f0
    obtain ⟨b, off, sp⟩ := a
    simp only at hsp
    subst hsp
    rw [Addr.add_lit, Addr.add_lit] at e0 e1 e2 e3
    exact ⟨h0, b, off, rfl, e0, e1, e2, e3⟩
theorem whn_of {H : Type} {enc : TypeId × Value → H} {W : World} {spare : Nat → Bool} {held : Bool} {fuel n cap : Nat} {ao : Option Addr} {x : DataW H × List MemPlace}
    (h : DataW.trod enc Tryd.prog W 0 spare held fuel 38 (Value.slice ao n cap).cells.toList = some x) : ∃ bs : List Bool, bs.length = n ∧ n ≤ 9223372036854775807 ∧ Whn W ao bs := by
  have hce : Tryd.prog.cellsOf 4 = 1 := by kernel_rfl
  rcases Go.Deep.open_slice1 Tryd.underlying38 hce h with ⟨hcs, _⟩ | ⟨a, len, cap', m, k, V, D, Pl, hcs, _, hl, hmx, hm, _, hx⟩
  · simp [Value.cells] at hcs
    obtain ⟨rfl, rfl, rfl⟩ := hcs
    exact ⟨[], rfl, Nat.zero_le _, fun j a h => by simp at h⟩
  · simp [Value.cells] at hcs
    obtain ⟨rfl, rfl, rfl⟩ := hcs
    have hnm : n ≤ m := by rw [hm]; split <;> omega
    have each : ∀ j, j < n → ∃ y : Bool, W.cell? (a.add j) = some (.bool y) := by
      intro j hj
      obtain ⟨h1, h2⟩ := hx j (by omega)
      obtain ⟨b1, e1, _⟩ := DataW.trod_bool Tryd.underlying4 h2
      simp at e1
      exact ⟨b1, by rw [h1, e1]⟩
    obtain ⟨bs, hbl, hbp⟩ := pick _ n each
    refine ⟨bs, hbl, by have : maxLen = 9223372036854775807 := rfl; omega, ?_⟩
    intro j y hy
    have e0 := hbp j y hy
    have hjl := (List.getElem?_eq_some_iff.1 hy).1
    obtain ⟨_, f0⟩ := each 0 (by omega)
    have hsp : a.spot = none := by simpa [Addr.add] using World.cell?_spot f0
    obtain ⟨b, off, sp⟩ := a
    simp only at hsp
    subst hsp
    rw [Addr.add_lit] at e0
    exact ⟨b, off, rfl, e0⟩
end Go.Proofs.YtkmmcpkakpglkaaDoor
