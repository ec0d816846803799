import Derived.Test.YtmjhfabdbajchaaGreatDoorHb5
import Derived.Test.YtmjhfabdbajchaaGreatDoorCn
set_option linter.unusedVariables false
set_option linter.unusedSimpArgs false
namespace Go.Proofs.YtmjhfabdbajchaaGreatDoor
open Go.ChangeShapes Go.WideShapes Go.ChangeAt Go.RowKit

/-! A script as an argument. -/
def lsumO (l : List Stp) : Nat := (l.map fun o => o.d.t.size + 6).sum
theorem udo_lsumO : ∀ l, udo l ≤ 167 * lsumO l
  | [] => by simp [udo, lsumO]
  | o :: l => by
    have := udo_lsumO l
    have e1 : udo (o :: l) = ud o.d + udo l := by simp [udo]
    have e2 : lsumO (o :: l) = o.d.t.size + 6 + lsumO l := by simp [lsumO]
    have : ud o.d ≤ 2 * o.d.t.size + 1001 := by unfold ud; split <;> omega
    rw [e1, e2]; omega
theorem len_lsumO : ∀ l : List Stp, l.length * 6 ≤ lsumO l
  | [] => by simp [lsumO]
  | o :: l => by
    have := len_lsumO l
    have e2 : lsumO (o :: l) = o.d.t.size + 6 + lsumO l := by simp [lsumO]
    rw [e2, List.length_cons]; omega
theorem bulk_rowsO {H : Type} (D : Nat → DataW H) (l : List Stp) (h : ∀ j a, l[j]? = some a → a.d.t.size + 6 ≤ Rows.uptoBulk (D j)) : lsumO l ≤ Rows.uptoBulkAll ((List.range l.length).map D) := by
  rw [bulkAll_sum, List.map_map]
  have key : ∀ (n : Nat) (l : List Stp) (D : Nat → DataW H), l.length = n → (∀ j a, l[j]? = some a → a.d.t.size + 6 ≤ Rows.uptoBulk (D j)) → lsumO l ≤ ((List.range n).map (Rows.uptoBulk ∘ D)).sum := by
    intro n
    induction n with
    | zero => intro l D hl _; rw [List.eq_nil_of_length_eq_zero hl]; exact Nat.le_refl _
    | succ n ih =>
      intro l D hl h
      match l, hl with
      | a :: r, hl =>
        rw [List.range_succ_eq_map, List.map_cons, List.sum_cons, List.map_map]
        have h0 := h 0 a rfl
        have hr := ih r (fun j => D (j + 1)) (by simpa using hl) (fun j x hx => h (j + 1) x (by simpa using hx))
        have e : lsumO (a :: r) = a.d.t.size + 6 + lsumO r := by simp [lsumO]
        rw [e]
        have e2 : ((Rows.uptoBulk ∘ D) ∘ Nat.succ) = (Rows.uptoBulk ∘ fun j => D (j + 1)) := rfl
        rw [e2]
        show _ ≤ Rows.uptoBulk (D 0) + _
        omega
  exact key l.length l D rfl h

set_option maxRecDepth 100000 in
theorem layO_bulk {H : Type} {enc : TypeId × Value → H} {W : World} {spare : Nat → Bool} {held : Bool} {fuel n cap : Nat} {ao : Option Addr} {x : DataW H × List MemPlace}
    (h : DataW.trod enc Tryz.prog W 0 spare held fuel 23 (Value.slice ao n cap).cells.toList = some x) : ∃ l : List Stp, l.length = n ∧ LayO W ao l ∧ (ao = none → n = 0) ∧ lsumO l + 1 ≤ Rows.uptoBulk x.1 := by
  have hce : Tryz.prog.cellsOf 39 = 7 := by kernel_rfl
  rcases Go.Deep.open_slice Tryz.underlying23 h with ⟨hcs, hx⟩ | ⟨a, len, cap', m, k, D, Pl, hcs, _, hl, hmx, hm, hxe, hx⟩
  · simp [Value.cells] at hcs
    obtain ⟨rfl, rfl, rfl⟩ := hcs
    exact ⟨[], rfl, (fun j a h => by simp at h), fun _ => rfl, by rw [hx]; simp [lsumO, Rows.uptoBulk]⟩
  · simp [Value.cells] at hcs
    obtain ⟨rfl, rfl, rfl⟩ := hcs
    have hnm : n ≤ m := by rw [hm]; split <;> omega
    have each : ∀ j, j < n → ∃ y : Stp, (y.d.t.size ≤ 9223372036854775807 ∧ W.cell? ((a.add (j * 7)).add 0) = some (.int .u8 y.d.k) ∧ W.cell? ((a.add (j * 7)).add 1) = some (.string y.d.t) ∧ W.cell? ((a.add (j * 7)).add 2) = some (.int .i64 y.d.b) ∧ W.cell? ((a.add (j * 7)).add 3) = some (.int .i64 y.d.i) ∧ W.cell? ((a.add (j * 7)).add 4) = some (.bool y.d.e) ∧ W.cell? ((a.add (j * 7)).add 5) = some (.int .i64 y.on) ∧ W.cell? ((a.add (j * 7)).add 6) = some (.bool y.en)) ∧ y.d.t.size + 6 ≤ Rows.uptoBulk (D j) := by
      intro j hj
      obtain ⟨cs', h1, h2⟩ := hx j (by omega)
      rw [hce] at h1
      obtain ⟨_, hlen, hcell⟩ := World.cells?_some h1
      obtain ⟨xs, n', _, hD, _, hxl, hf⟩ := DataW.trod_struct Tryz.underlying39 h2
      match xs, hxl with
      | [z0, z1, z2], _ =>
      match cs', hlen with
      | [c0, c1, c2, c3, c4, c5, c6], _ =>
        have ci : Tryz.prog.cellsOf 3 = 1 := by kernel_rfl
        have cb : Tryz.prog.cellsOf 4 = 1 := by kernel_rfl
        have cs : Tryz.prog.cellsOf 9 = 1 := by kernel_rfl
        have ck : Tryz.prog.cellsOf 35 = 1 := by kernel_rfl
        have cd : Tryz.prog.cellsOf 37 = 5 := by kernel_rfl
        have u0 := hf 0 _ rfl
        have u1 := hf 1 _ rfl
        have u2 := hf 2 _ rfl
        simp [ci, cb, cd] at u0 u1 u2
        obtain ⟨ys, n2, _, hD2, _, hyl, hf2⟩ := DataW.trod_struct Tryz.underlying37 u0
        match ys, hyl with
        | [y0, y1, y2, y3, y4], _ =>
          have t0 := hf2 0 _ rfl
          have t1 := hf2 1 _ rfl
          have t2 := hf2 2 _ rfl
          have t3 := hf2 3 _ rfl
          have t4 := hf2 4 _ rfl
          simp [ci, cb, cs, ck] at t0 t1 t2 t3 t4
          obtain ⟨b0, e0, g0, _⟩ := DataW.trod_int Tryz.underlying35 t0
          obtain ⟨b1, e1, g1, hb1⟩ := DataW.trod_string Tryz.underlying9 t1
          obtain ⟨b2, e2, g2, _⟩ := DataW.trod_int Tryz.underlying3 t2
          obtain ⟨b3, e3, g3, _⟩ := DataW.trod_int Tryz.underlying3 t3
          obtain ⟨b4, e4, g4⟩ := DataW.trod_bool Tryz.underlying4 t4
          obtain ⟨b5, e5, g5, _⟩ := DataW.trod_int Tryz.underlying3 u1
          obtain ⟨b6, e6, g6⟩ := DataW.trod_bool Tryz.underlying4 u2
          simp at e0 e1 e2 e3 e4 e5 e6
          subst e0 e1 e2 e3 e4 e5 e6
          refine ⟨⟨⟨b0, b1, b2, b3, b4⟩, b5, b6⟩, ⟨by simpa [maxLen] using hb1, hcell 0 (by omega), hcell 1 (by omega), hcell 2 (by omega), hcell 3 (by omega), hcell 4 (by omega), hcell 5 (by omega), hcell 6 (by omega)⟩, ?_⟩
          have hD1 : D j = .agg [z0.1, z1.1, z2.1] := by
            have := congrArg Prod.fst hD
            simpa using this
          have hZ0 : z0.1 = .agg [y0.1, y1.1, y2.1, y3.1, y4.1] := by
            have := congrArg Prod.fst hD2
            simpa using this
          rw [hD1, hZ0, g0, g1, g2, g3, g4]
          simp [Rows.uptoBulk, Rows.uptoBulkAll]
          omega
    obtain ⟨l, hal, hap⟩ := pick _ n each
    refine ⟨l, hal, ?_, (fun h => by cases h), ?_⟩
    · intro j y hy
      have hjl := (List.getElem?_eq_some_iff.1 hy).1
      obtain ⟨⟨h0, e0, e1, e2, e3, e4, e5, e6⟩, _⟩ := hap j y hy
      obtain ⟨_, ⟨_, f0, _⟩, _⟩ := each 0 (by omega)
      have hsp : a.spot = none := by simpa [Addr.add] using World.cell?_spot f0
      obtain ⟨b, off, sp⟩ := a
      simp only at hsp
      subst hsp
      rw [Addr.add_lit, Addr.add_lit] at e0 e1 e2 e3 e4 e5 e6
      exact ⟨h0, b, off, rfl, e0, e1, e2, e3, e4, e5, e6⟩
    · have hb := bulk_rowsO D l (fun j a ha => (hap j a ha).2)
      rw [hal] at hb
      rw [hxe]
      show lsumO l + 1 ≤ Rows.uptoBulkAll ((List.range n).map D) + Rows.uptoBulkAll _ + 1
      omega
end Go.Proofs.YtmjhfabdbajchaaGreatDoor
