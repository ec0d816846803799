import Derived.Test.YtmjhfabdbajchaaGreatDoorG7
import Derived.ProofKit
import Derived.OpenShut
import Derived.ShutString
import Derived.ChangeOld
import Derived.Lib.SmallJoins
import Derived.Carry
import Derived.Deep.Slices
import Derived.Test.YtmjhfabdbajchaaGreatDoorG8
set_option linter.unusedVariables false
set_option linter.unusedSimpArgs false
namespace Go.Proofs.YtmjhfabdbajchaaGreatDoor
open Go.ChangeShapes Go.WideShapes Go.ChangeAt Go.RowKit
open Go.ChangeMaps (open_string shut_string)

theorem pick {α : Type} (P : Nat → α → Prop) : ∀ n, (∀ j, j < n → ∃ a, P j a) → ∃ l : List α, l.length = n ∧ ∀ j a, l[j]? = some a → P j a
  | 0, _ => ⟨[], rfl, fun j a h => by simp at h⟩
  | n + 1, h => by
    obtain ⟨l, hl, hp⟩ := pick P n (fun j hj => h j (by omega))
    obtain ⟨a, ha⟩ := h n (by omega)
    refine ⟨l ++ [a], by simp [hl], fun j b hb => ?_⟩
    by_cases hj : j < l.length
    · rw [List.getElem?_append_left hj] at hb; exact hp j b hb
    · rw [List.getElem?_append_right (by omega)] at hb
      have h0 := (List.getElem?_eq_some_iff.1 hb).1
      simp at h0
      have : j = n := by omega
      subst this
      rw [show j - l.length = 0 by omega] at hb
      simp at hb
      subst hb; exact ha

theorem all_laidOut : laidOutB Tryz.prog = true := by kernel_rfl
theorem trod_struct5 {H : Type} {enc : TypeId × Value → H} {P : Program} {w : World} {base : Nat} {spare : Nat → Bool} {held : Bool} {t : TypeId} {f0 f1 f2 f3 f4 : Field} {fuel : Nat} {cs : List Value} {x : DataW H × List MemPlace} (ht : P.underlying t = some (.struct #[f0, f1, f2, f3, f4])) (h : DataW.trod enc P w base spare held fuel t cs = some x) :
    ∃ y0 y1 y2 y3 y4 n, cs.length = P.cellsOf t ∧ DataW.trod enc P w base spare held n f0.type ((cs.drop f0.offset).take (P.cellsOf f0.type)) = some y0 ∧
      DataW.trod enc P w base spare held n f1.type ((cs.drop f1.offset).take (P.cellsOf f1.type)) = some y1 ∧ DataW.trod enc P w base spare held n f2.type ((cs.drop f2.offset).take (P.cellsOf f2.type)) = some y2 ∧
      DataW.trod enc P w base spare held n f3.type ((cs.drop f3.offset).take (P.cellsOf f3.type)) = some y3 ∧ DataW.trod enc P w base spare held n f4.type ((cs.drop f4.offset).take (P.cellsOf f4.type)) = some y4 := by
  obtain ⟨xs, n, _, rfl, hl, hlen, hf⟩ := DataW.trod_struct ht h
  match xs, hlen with
  | [y0, y1, y2, y3, y4], _ => exact ⟨y0, y1, y2, y3, y4, n, hl, by simpa using hf 0 f0 rfl, by simpa using hf 1 f1 rfl, by simpa using hf 2 f2 rfl, by simpa using hf 3 f3 rfl, by simpa using hf 4 f4 rfl⟩
set_option maxRecDepth 100000 in
theorem lay_of {H : Type} {enc : TypeId × Value → H} {W : World} {spare : Nat → Bool} {held : Bool} {fuel n cap : Nat} {ao : Option Addr} {x : DataW H × List MemPlace}
    (h : DataW.trod enc Tryz.prog W 0 spare held fuel 42 (Value.slice ao n cap).cells.toList = some x) : ∃ l : List Dc, l.length = n ∧ n ≤ 9223372036854775807 ∧ Lay W ao l ∧ (ao = none → n = 0) := by
  have hce : Tryz.prog.cellsOf 37 = 5 := by kernel_rfl
  rcases Go.Deep.open_slice Tryz.underlying42 h with ⟨hcs, _⟩ | ⟨a, len, cap', m, k, D, Pl, hcs, _, hl, hmx, hm, _, hx⟩
  · simp [Value.cells] at hcs
    obtain ⟨rfl, rfl, rfl⟩ := hcs
    exact ⟨[], rfl, Nat.zero_le _, (fun j a h => by simp at h), fun _ => rfl⟩
  · simp [Value.cells] at hcs
    obtain ⟨rfl, rfl, rfl⟩ := hcs
    have hnm : n ≤ m := by rw [hm]; split <;> omega
    have each : ∀ j, j < n → ∃ y : Dc, y.t.size ≤ 9223372036854775807 ∧ W.cell? ((a.add (j * 5)).add 0) = some (.int .u8 y.k) ∧ W.cell? ((a.add (j * 5)).add 1) = some (.string y.t) ∧ W.cell? ((a.add (j * 5)).add 2) = some (.int .i64 y.b) ∧ W.cell? ((a.add (j * 5)).add 3) = some (.int .i64 y.i) ∧ W.cell? ((a.add (j * 5)).add 4) = some (.bool y.e) := by
      intro j hj
      obtain ⟨cs', h1, h2⟩ := hx j (by omega)
      rw [hce] at h1
      obtain ⟨_, hlen, hcell⟩ := World.cells?_some h1
      obtain ⟨y0, y1, y2, y3, y4, n', _, t0, t1, t2, t3, t4⟩ := trod_struct5 Tryz.underlying37 h2
      match cs', hlen with
      | [c0, c1, c2, c3, c4], _ =>
        have ci : Tryz.prog.cellsOf 3 = 1 := by kernel_rfl
        have cb : Tryz.prog.cellsOf 4 = 1 := by kernel_rfl
        have cs : Tryz.prog.cellsOf 9 = 1 := by kernel_rfl
        have ck : Tryz.prog.cellsOf 35 = 1 := by kernel_rfl
        simp [ci, cb, cs, ck] at t0 t1 t2 t3 t4
        obtain ⟨b0, e0, _, _⟩ := DataW.trod_int Tryz.underlying35 t0
        obtain ⟨b1, e1, _, hb1⟩ := DataW.trod_string Tryz.underlying9 t1
        obtain ⟨b2, e2, _, _⟩ := DataW.trod_int Tryz.underlying3 t2
        obtain ⟨b3, e3, _, _⟩ := DataW.trod_int Tryz.underlying3 t3
        obtain ⟨b4, e4, _⟩ := DataW.trod_bool Tryz.underlying4 t4
        simp at e0 e1 e2 e3 e4
        subst e0 e1 e2 e3 e4
        exact ⟨⟨b0, b1, b2, b3, b4⟩, by simpa [maxLen] using hb1, hcell 0 (by omega), hcell 1 (by omega), hcell 2 (by omega), hcell 3 (by omega), hcell 4 (by omega)⟩
    obtain ⟨l, hal, hap⟩ := pick _ n each
    refine ⟨l, hal, by have : maxLen = 9223372036854775807 := rfl; omega, ?_, fun h => by cases h⟩
    intro j y hy
    have hjl := (List.getElem?_eq_some_iff.1 hy).1
    obtain ⟨h0, e0, e1, e2, e3, e4⟩ := hap j y hy
    obtain ⟨_, _, f0, _⟩ := each 0 (by omega)
    have hsp : a.spot = none := by simpa [Addr.add] using World.cell?_spot f0
    obtain ⟨b, off, sp⟩ := a
    simp only at hsp
    subst hsp
    rw [Addr.add_lit, Addr.add_lit] at e0 e1 e2 e3 e4
    exact ⟨h0, b, off, rfl, e0, e1, e2, e3, e4⟩
end Go.Proofs.YtmjhfabdbajchaaGreatDoor
set_option linter.unusedVariables false
set_option linter.unusedSimpArgs false
namespace Go.Proofs.YtmjhfabdbajchaaGreatDoor
open Go.ChangeShapes Go.WideShapes Go.ChangeAt Go.RowKit

/-! What the bound on what is read gives. -/
def lsum (l : List Dc) : Nat := (l.map fun d => d.t.size + 6).sum
theorem lsum_cons (d : Dc) (l : List Dc) : lsum (d :: l) = d.t.size + 6 + lsum l := by simp [lsum]
theorem uds_cons (d : Dc) (l : List Dc) : uds (d :: l) = ud d + uds l := by simp [uds]
theorem uds_lsum : ∀ l, uds l ≤ 167 * lsum l
  | [] => by simp [uds, lsum]
  | d :: l => by
    have := uds_lsum l
    rw [uds_cons, lsum_cons]
    have : ud d ≤ 2 * d.t.size + 1001 := by unfold ud; split <;> omega
    omega
theorem len_lsum : ∀ l : List Dc, l.length * 6 ≤ lsum l
  | [] => by simp [lsum]
  | d :: l => by
    have := len_lsum l
    rw [lsum_cons, List.length_cons]
    omega
theorem bulkAll_sum {H : Type} : ∀ l : List (DataW H), Rows.uptoBulkAll l = (l.map Rows.uptoBulk).sum
  | [] => by simp [Rows.uptoBulkAll]
  | d :: l => by simp [Rows.uptoBulkAll, bulkAll_sum l]
theorem bulk_rows {H : Type} (D : Nat → DataW H) (l : List Dc) (h : ∀ j a, l[j]? = some a → Rows.uptoBulk (D j) = a.t.size + 6) : Rows.uptoBulkAll ((List.range l.length).map D) = lsum l := by
  rw [bulkAll_sum]
  unfold lsum
  congr 1
  apply List.ext_getElem
  · simp
  · intro j h1 h2
    simp at h1 h2 ⊢
    exact h j l[j] (List.getElem?_eq_getElem h2)

set_option maxRecDepth 100000 in
theorem lay_bulk {H : Type} {enc : TypeId × Value → H} {W : World} {spare : Nat → Bool} {held : Bool} {fuel n cap : Nat} {ao : Option Addr} {x : DataW H × List MemPlace}
    (h : DataW.trod enc Tryz.prog W 0 spare held fuel 42 (Value.slice ao n cap).cells.toList = some x) : ∃ l : List Dc, l.length = n ∧ Lay W ao l ∧ (ao = none → n = 0) ∧ (∀ d ∈ l, -9223372036854775808 ≤ d.i ∧ d.i ≤ 9223372036854775807) ∧ lsum l + 1 ≤ Rows.uptoBulk x.1 := by
  have hce : Tryz.prog.cellsOf 37 = 5 := by kernel_rfl
  rcases Go.Deep.open_slice Tryz.underlying42 h with ⟨hcs, hx⟩ | ⟨a, len, cap', m, k, D, Pl, hcs, _, hl, hmx, hm, hxe, hx⟩
  · simp [Value.cells] at hcs
    obtain ⟨rfl, rfl, rfl⟩ := hcs
    exact ⟨[], rfl, (fun j a h => by simp at h), fun _ => rfl, by simp, by rw [hx]; simp [lsum, Rows.uptoBulk]⟩
  · simp [Value.cells] at hcs
    obtain ⟨rfl, rfl, rfl⟩ := hcs
    have hnm : n ≤ m := by rw [hm]; split <;> omega
    have each : ∀ j, j < n → ∃ y : Dc, (y.t.size ≤ 9223372036854775807 ∧ W.cell? ((a.add (j * 5)).add 0) = some (.int .u8 y.k) ∧ W.cell? ((a.add (j * 5)).add 1) = some (.string y.t) ∧ W.cell? ((a.add (j * 5)).add 2) = some (.int .i64 y.b) ∧ W.cell? ((a.add (j * 5)).add 3) = some (.int .i64 y.i) ∧ W.cell? ((a.add (j * 5)).add 4) = some (.bool y.e)) ∧ Rows.uptoBulk (D j) = y.t.size + 6 ∧ (-9223372036854775808 ≤ y.i ∧ y.i ≤ 9223372036854775807) := by
      intro j hj
      obtain ⟨cs', h1, h2⟩ := hx j (by omega)
      rw [hce] at h1
      obtain ⟨_, hlen, hcell⟩ := World.cells?_some h1
      obtain ⟨xs, n', _, hD, _, hxl, hf⟩ := DataW.trod_struct Tryz.underlying37 h2
      match xs, hxl with
      | [y0, y1, y2, y3, y4], _ =>
      match cs', hlen with
      | [c0, c1, c2, c3, c4], _ =>
        have ci : Tryz.prog.cellsOf 3 = 1 := by kernel_rfl
        have cb : Tryz.prog.cellsOf 4 = 1 := by kernel_rfl
        have cs : Tryz.prog.cellsOf 9 = 1 := by kernel_rfl
        have ck : Tryz.prog.cellsOf 35 = 1 := by kernel_rfl
        have t0 := hf 0 _ rfl
        have t1 := hf 1 _ rfl
        have t2 := hf 2 _ rfl
        have t3 := hf 3 _ rfl
        have t4 := hf 4 _ rfl
        simp [ci, cb, cs, ck] at t0 t1 t2 t3 t4
        obtain ⟨b0, e0, g0, _⟩ := DataW.trod_int Tryz.underlying35 t0
        obtain ⟨b1, e1, g1, hb1⟩ := DataW.trod_string Tryz.underlying9 t1
        obtain ⟨b2, e2, g2, _⟩ := DataW.trod_int Tryz.underlying3 t2
        obtain ⟨b3, e3, g3, hw3⟩ := DataW.trod_int Tryz.underlying3 t3
        obtain ⟨b4, e4, g4⟩ := DataW.trod_bool Tryz.underlying4 t4
        simp at e0 e1 e2 e3 e4
        subst e0 e1 e2 e3 e4
        refine ⟨⟨b0, b1, b2, b3, b4⟩, ⟨by simpa [maxLen] using hb1, hcell 0 (by omega), hcell 1 (by omega), hcell 2 (by omega), hcell 3 (by omega), hcell 4 (by omega)⟩, ?_, ?_⟩
        rotate_left
        · simp [Lit.wf, IntKind.min, IntKind.max, IntKind.signed, IntKind.bits] at hw3
          exact hw3
        have hD1 : D j = .agg [y0.1, y1.1, y2.1, y3.1, y4.1] := by
          have := congrArg Prod.fst hD
          simpa using this
        rw [hD1, g0, g1, g2, g3, g4]
        simp [Rows.uptoBulk, Rows.uptoBulkAll]
        omega
    obtain ⟨l, hal, hap⟩ := pick _ n each
    refine ⟨l, hal, ?_, (fun h => by cases h), (fun d hd => by obtain ⟨j, hj⟩ := List.getElem?_of_mem hd; exact (hap j d hj).2.2), ?_⟩
    · intro j y hy
      have hjl := (List.getElem?_eq_some_iff.1 hy).1
      obtain ⟨⟨h0, e0, e1, e2, e3, e4⟩, _⟩ := hap j y hy
      obtain ⟨_, ⟨_, f0, _⟩, _⟩ := each 0 (by omega)
      have hsp : a.spot = none := by simpa [Addr.add] using World.cell?_spot f0
      obtain ⟨b, off, sp⟩ := a
      simp only at hsp
      subst hsp
      rw [Addr.add_lit, Addr.add_lit] at e0 e1 e2 e3 e4
      exact ⟨h0, b, off, rfl, e0, e1, e2, e3, e4⟩
    · have hb := bulk_rows D l (fun j a ha => (hap j a ha).2.1)
      rw [hal] at hb
      rw [hxe]
      show lsum l + 1 ≤ Rows.uptoBulkAll ((List.range n).map D) + Rows.uptoBulkAll _ + 1
      omega
end Go.Proofs.YtmjhfabdbajchaaGreatDoor
