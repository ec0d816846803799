import Derived.Test.YtfkegaencoodbaaDoorRows
import Derived.ProofKit
import Derived.OpenShut
import Derived.Lay
import Derived.Deep.Strs
import Derived.Stop.Joined
import Derived.MakeChecks
import Derived.WalkKit
import Derived.WalkSpells
import Derived.WalkLawsBesides
import Derived.WalkSmall
set_option linter.unusedVariables false
set_option linter.unusedSimpArgs false
namespace Go.Proofs.YtfkegaencoodbaaDoor
open Go.ChangeShapes Go.WideShapes Go.ChangeAt Go.RowKit

/-- The table of spans, by rows: low, high, columns. -/
def tabL : List (Int × Int × Int) := [(768, 879, 0), (4352, 4447, 2), (8203, 8207, 0), (8400, 8447, 0), (11904, 12350, 2), (12353, 42191, 2), (44032, 55203, 2), (63744, 64255, 2), (65024, 65039, 0), (65056, 65071, 0), (65072, 65135, 2), (65280, 65376, 2), (65504, 65510, 2), (127744, 128591, 2), (129280, 129535, 2), (131072, 262141, 2)]
def tlo (i : Nat) : Int := (tabL.getD i (0, 0, 0)).1
def thi (i : Nat) : Int := (tabL.getD i (0, 0, 0)).2.1
def tco (i : Nat) : Int := (tabL.getD i (0, 0, 0)).2.2

/-- What the walks want of the world: the table's cells. -/
def Tab (w : World) : Prop := ∀ i, i < 16 → w.cell? ⟨1, i * 3, none⟩ = some (.int .i64 (tlo i)) ∧ w.cell? ⟨1, i * 3 + 1, none⟩ = some (.int .i64 (thi i)) ∧ w.cell? ⟨1, i * 3 + 2, none⟩ = some (.int .i64 (tco i))

theorem Tab.below {w w' : World} (h : Tab w) (hb : Below w.heap.size w w') : Tab w' := by
  intro i hi
  obtain ⟨h0, h1, h2⟩ := h i hi
  have hz := World.block_lt_of_cell? w _ h0
  exact ⟨(hb.cell (p := ⟨1, i * 3, none⟩) hz).trans h0, (hb.cell (p := ⟨1, i * 3 + 1, none⟩) hz).trans h1, (hb.cell (p := ⟨1, i * 3 + 2, none⟩) hz).trans h2⟩

theorem laid_rows : (Rows.laid_colophon_width_spans : DataW Unit) = .agg (tabL.map fun x => .agg [.lit (.int .i64 x.1), .lit (.int .i64 x.2.1), .lit (.int .i64 x.2.2)]) := by kernel_rfl

/-- One of the listed variables. -/
theorem laid_mem {P : Program} {w : World} : ∀ (laid : List (String × DataW Unit)) (ps : List MemPlace), DataW.LaidVars P w laid ps → ∀ n d, (n, d) ∈ laid →
    ∃ g t cs fuel p, P.globalNamed n = some g ∧ (P.globals[g]?).map (·.type) = some t ∧ w.var? P n = some cs ∧ DataW.trod (fun _ => ()) P w 0 (fun _ => true) false fuel t cs.toList = some (d, p)
  | [], _, _, n, d, h => by cases h
  | (m, e) :: r, ps, ⟨g, t, cs, fuel, p, q, h1, h2, h3, h4, h5, _⟩, n, d, h => by
    rcases List.mem_cons.1 h with h | h
    · cases h; exact ⟨g, t, cs, fuel, p, h1, h2, h3, h4⟩
    · exact laid_mem r q h5 n d h

theorem tab_of_laid {W : World} {L : List (String × DataW Unit)} (hpl : (L.all fun x => x.2.handleName?.isNone) = true) (hm : ("colophon/width.spans", Rows.laid_colophon_width_spans) ∈ L) (h : laidMetH Tryd.prog L W) : Tab W := by
  rw [MakeChecks.laidMetH_plain _ _ _ hpl] at h
  obtain ⟨ps, hps, _, _⟩ := h
  obtain ⟨g, t, cs, fuel, p, hg, ht, hv, hd⟩ := laid_mem L ps hps _ _ hm
  obtain rfl := Option.some.inj ((show Tryd.prog.globalNamed "colophon/width.spans" = some 1 by kernel_rfl).symm.trans hg)
  obtain rfl := Option.some.inj ((show (Tryd.prog.globals[1]?).map (·.type) = some 122 by kernel_rfl).symm.trans ht)
  rw [laid_rows] at hd
  obtain ⟨xs, m, _, ex, _, hl, hel⟩ := DataW.trod_array Tryd.underlying122 hd
  have c3 : Tryd.prog.cellsOf 3 = 1 := by kernel_rfl
  have c34 : Tryd.prog.cellsOf 121 = 3 := by kernel_rfl
  intro i hi
  have hE := hel i hi
  rw [c34, List.getElem?_eq_getElem (by omega)] at hE
  obtain ⟨y0, y1, y2, n, ey, _, g0, g1, g2⟩ := Deep.trod_struct3 Tryd.underlying121 hE
  simp only [c3] at g0 g1 g2
  obtain ⟨z0, a0, b0, _⟩ := DataW.trod_int Tryd.underlying3 g0
  obtain ⟨z1, a1, b1, _⟩ := DataW.trod_int Tryd.underlying3 g1
  obtain ⟨z2, a2, b2, _⟩ := DataW.trod_int Tryd.underlying3 g2
  have hlen : tabL.length = 16 := rfl
  have e3 : (xs.map (·.1)) = tabL.map fun x => (.agg [.lit (.int .i64 x.1), .lit (.int .i64 x.2.1), .lit (.int .i64 x.2.2)] : DataW Unit) := (DataW.agg.inj (Prod.mk.inj ex).1).symm
  have e4 : (xs.map (·.1))[i]? = (tabL.map fun x => (.agg [.lit (.int .i64 x.1), .lit (.int .i64 x.2.1), .lit (.int .i64 x.2.2)] : DataW Unit))[i]? := by rw [e3]
  rw [List.getElem?_map, List.getElem?_map, List.getElem?_eq_getElem (by omega : i < xs.length), List.getElem?_eq_getElem (by omega : i < tabL.length), ey, b0, b1, b2] at e4
  simp only [Option.map_some, Option.some.injEq, DataW.agg.injEq, List.cons.injEq, DataW.lit.injEq, Lit.int.injEq, true_and, and_true] at e4
  obtain ⟨f0, f1, f2⟩ := e4
  have hT : tabL.getD i (0, 0, 0) = tabL[i] := by rw [List.getD, List.getElem?_eq_getElem (show i < tabL.length by omega)]; rfl
  have key : ∀ (o : Nat) (z : Int), o < 3 → (((cs.toList.drop (i * 3)).take 3).drop o).take 1 = [.int .i64 z] → W.cell? ⟨1, i * 3 + o, none⟩ = some (.int .i64 z) := by
    intro o z ho hz
    rw [World.var?_cell hg hv (i * 3 + o)]
    have h0 : ((((cs.toList.drop (i * 3)).take 3).drop o).take 1)[0]? = some (.int .i64 z) := by rw [hz]; rfl
    rw [List.getElem?_take, if_pos (by omega), List.getElem?_drop, List.getElem?_take, if_pos (by omega), List.getElem?_drop] at h0
    simpa using h0
  refine ⟨?_, ?_, ?_⟩
  · have := key 0 z0 (by omega) (by simpa using a0)
    rw [Nat.add_zero] at this
    rw [this, tlo, hT, f0]; rfl
  · have := key 1 z1 (by omega) (by simpa using a1)
    rw [this, thi, hT, f1]; rfl
  · have := key 2 z2 (by omega) (by simpa using a2)
    rw [this, tco, hT, f2]; rfl
end Go.Proofs.YtfkegaencoodbaaDoor
