import Derived.Test.YtlpmnkiieibipaaDoorDf
import Derived.LaidLaws
import Derived.ProofKit
import Derived.OpenShut
import Derived.Lay
import Derived.Deep.Strs
import Derived.Stop.Joined
import Derived.MakeChecks
import Derived.WalkKit
import Derived.WalkSpells
import Derived.WalkLawsBesides
import Derived.WalkSmall
import Derived.Stop.LaidErr
import Derived.ChangeSame
import Derived.Deep.Fields
set_option linter.unusedVariables false
set_option linter.unusedSimpArgs false
namespace Go.Proofs.YtlpmnkiieibipaaDoor
open Go.ChangeShapes Go.WideShapes Go.ChangeAt Go.RowKit

theorem laid_mem {P : Program} {w : World} : ∀ (laid : List (String × DataW Unit)) (ps : List MemPlace), DataW.LaidVars P w laid ps → ∀ n d, (n, d) ∈ laid →
    ∃ g t cs fuel p, P.globalNamed n = some g ∧ (P.globals[g]?).map (·.type) = some t ∧ w.var? P n = some cs ∧ DataW.trod (fun _ => ()) P w 0 (fun _ => true) false fuel t cs.toList = some (d, p)
  | [], _, _, n, d, h => by cases h
  | (m, e) :: r, ps, ⟨g, t, cs, fuel, p, q, h1, h2, h3, h4, h5, _⟩, n, d, h => by
    rcases List.mem_cons.1 h with h | h
    · cases h; exact ⟨g, t, cs, fuel, p, h1, h2, h3, h4⟩
    · exact laid_mem r q h5 n d h


theorem flaid_rows : (Rows.laid_colophon_doc_forms : DataW Unit) = .agg (frmL.map fun x => .agg [.lit (.int .u8 x.1), .lit (.int .u8 x.2)]) := by kernel_rfl
theorem wlaid_rows : (Rows.laid_colophon_doc_words : DataW Unit) = .agg (wordL.map fun x => .lit (.string x.data.toList)) := by kernel_rfl
theorem plaid_rows : (Rows.laid_internal_strconv_uint64pow10 : DataW Unit) = Lib.tabData .u64 Lib.pow10Tab := by kernel_rfl

theorem ftab_of_laid {W : World} {L : List (String × DataW Unit)} (hpl : (L.all fun x => x.2.handleName?.isNone) = true) (hm : ("colophon/doc.forms", Rows.laid_colophon_doc_forms) ∈ L) (h : laidMetH Tryd.prog L W) : FTab W := by
  rw [MakeChecks.laidMetH_plain _ _ _ hpl] at h
  obtain ⟨ps, hps, _, _⟩ := h
  obtain ⟨g, t, cs, fuel, p, hg, ht, hv, hd⟩ := laid_mem L ps hps _ _ hm
  obtain rfl := Option.some.inj ((show Tryd.prog.globalNamed "colophon/doc.forms" = some 1 by kernel_rfl).symm.trans hg)
  obtain rfl := Option.some.inj ((show (Tryd.prog.globals[1]?).map (·.type) = some 73 by kernel_rfl).symm.trans ht)
  rw [flaid_rows] at hd
  obtain ⟨xs, m, _, ex, _, hl, hel⟩ := DataW.trod_array Tryd.underlying73 hd
  have c5 : Tryd.prog.cellsOf 5 = 1 := by kernel_rfl
  have cS : Tryd.prog.cellsOf 72 = 2 := by kernel_rfl
  intro i hi
  have hE := hel i hi
  rw [cS, List.getElem?_eq_getElem (by omega)] at hE
  obtain ⟨y0, y1, n, ey, _, g0, g1⟩ := trod_struct2 Tryd.underlying72 hE
  simp only [c5] at g0 g1
  obtain ⟨z0, a0, b0, _⟩ := DataW.trod_int Tryd.underlying5 g0
  obtain ⟨z1, a1, b1, _⟩ := DataW.trod_int Tryd.underlying5 g1
  have hlen : frmL.length = 5 := rfl
  have e3 : (xs.map (·.1)) = frmL.map fun x => (.agg [.lit (.int .u8 x.1), .lit (.int .u8 x.2)] : DataW Unit) := (DataW.agg.inj (Prod.mk.inj ex).1).symm
  have e4 : (xs.map (·.1))[i]? = (frmL.map fun x => (.agg [.lit (.int .u8 x.1), .lit (.int .u8 x.2)] : DataW Unit))[i]? := by rw [e3]
  rw [List.getElem?_map, List.getElem?_map, List.getElem?_eq_getElem (by omega : i < xs.length), List.getElem?_eq_getElem (by omega : i < frmL.length), ey, b0, b1] at e4
  simp only [Option.map_some, Option.some.injEq, DataW.agg.injEq, List.cons.injEq, DataW.lit.injEq, Lit.int.injEq, true_and, and_true] at e4
  obtain ⟨f0, f1⟩ := e4
  have hT : frmL.getD i (0, 0) = frmL[i] := by rw [List.getD, List.getElem?_eq_getElem (show i < frmL.length by omega)]; rfl
  have key : ∀ (o : Nat) (z : Int), o < 2 → (((cs.toList.drop (i * 2)).take 2).drop o).take 1 = [.int .u8 z] → W.cell? ⟨1, i * 2 + o, none⟩ = some (.int .u8 z) := by
    intro o z ho hz
    rw [World.var?_cell hg hv (i * 2 + o)]
    have h0 : ((((cs.toList.drop (i * 2)).take 2).drop o).take 1)[0]? = some (.int .u8 z) := by rw [hz]; rfl
    rw [List.getElem?_take, if_pos (by omega), List.getElem?_drop, List.getElem?_take, if_pos (by omega), List.getElem?_drop] at h0
    simpa using h0
  refine ⟨?_, ?_⟩
  · have := key 0 z0 (by omega) (by simpa using a0)
    rw [Nat.add_zero] at this
    rw [this, hT, f0]; rfl
  · have := key 1 z1 (by omega) (by simpa using a1)
    rw [this, hT, f1]; rfl

theorem wtab_of_laid {W : World} {L : List (String × DataW Unit)} (hpl : (L.all fun x => x.2.handleName?.isNone) = true) (hm : ("colophon/doc.words", Rows.laid_colophon_doc_words) ∈ L) (h : laidMetH Tryd.prog L W) : WTab W := by
  rw [MakeChecks.laidMetH_plain _ _ _ hpl] at h
  obtain ⟨ps, hps, _, _⟩ := h
  obtain ⟨g, t, cs, fuel, p, hg, ht, hv, hd⟩ := laid_mem L ps hps _ _ hm
  obtain rfl := Option.some.inj ((show Tryd.prog.globalNamed "colophon/doc.words" = some 0 by kernel_rfl).symm.trans hg)
  obtain rfl := Option.some.inj ((show (Tryd.prog.globals[0]?).map (·.type) = some 48 by kernel_rfl).symm.trans ht)
  rw [wlaid_rows] at hd
  obtain ⟨xs, m, _, ex, _, hl, hel⟩ := DataW.trod_array Tryd.underlying48 hd
  have c9 : Tryd.prog.cellsOf 9 = 1 := by kernel_rfl
  intro i hi
  have hE := hel i hi
  rw [c9, List.getElem?_eq_getElem (by omega)] at hE
  obtain ⟨s, a0, b0, _⟩ := DataW.trod_string Tryd.underlying9 hE
  have hlen : wordL.length = 8 := rfl
  have e3 : (xs.map (·.1)) = wordL.map fun x => (.lit (.string x.data.toList) : DataW Unit) := (DataW.agg.inj (Prod.mk.inj ex).1).symm
  have e4 : (xs.map (·.1))[i]? = (wordL.map fun x => (.lit (.string x.data.toList) : DataW Unit))[i]? := by rw [e3]
  rw [List.getElem?_map, List.getElem?_map, List.getElem?_eq_getElem (by omega : i < xs.length), List.getElem?_eq_getElem (by omega : i < wordL.length), b0] at e4
  simp only [Option.map_some, Option.some.injEq, DataW.lit.injEq, Lit.string.injEq] at e4
  have hT : wordL.getD i ByteArray.empty = wordL[i] := by rw [List.getD, List.getElem?_eq_getElem (show i < wordL.length by omega)]; rfl
  have hs : s = wordL[i] := by
    have := Array.toList_inj.1 e4
    cases hs : s; cases hx : wordL[i]; simp_all
  rw [World.var?_cell hg hv i, hT, ← hs]
  have h0 : (((cs.toList.drop (i * 1)).take 1))[0]? = some (.string s) := by rw [a0]; rfl
  rw [List.getElem?_take, if_pos (by omega), List.getElem?_drop] at h0
  simpa using h0

theorem pow_of_laid {W : World} {L : List (String × DataW Unit)} (hpl : (L.all fun x => x.2.handleName?.isNone) = true) (hm : ("internal/strconv.uint64pow10", Rows.laid_internal_strconv_uint64pow10) ∈ L) (h : laidMetH Tryd.prog L W) : Lib.TabIs Tryd.prog W "internal/strconv.uint64pow10" .u64 Lib.pow10Tab := by
  rw [MakeChecks.laidMetH_plain _ _ _ hpl] at h
  obtain ⟨ps, hps, _, _⟩ := h
  obtain ⟨g, t, cs, fuel, p, hg, ht, hv, hd⟩ := laid_mem L ps hps _ _ hm
  obtain rfl := Option.some.inj ((show Tryd.prog.globalNamed "internal/strconv.uint64pow10" = some 5 by kernel_rfl).symm.trans hg)
  obtain rfl := Option.some.inj ((show (Tryd.prog.globals[5]?).map (·.type) = some 101 by kernel_rfl).symm.trans ht)
  rw [plaid_rows] at hd
  unfold Lib.TabIs
  rw [hv, ← Lib.cells_of_tab Tryd.underlying101 Tryd.underlying78 (by kernel_rfl) (by kernel_rfl) hd]

theorem err_of_laid {W : World} {L : List (String × DataW Unit)} (hpl : (L.all fun x => x.2.handleName?.isNone) = true) (n nm : String) (d : DataW Unit) (g0 : Nat) (hm : (n, .iface nm d) ∈ L) (hg0 : Tryd.prog.globalNamed n = some g0) (ht0 : (Tryd.prog.globals[g0]?).map (·.type) = some 68) (h : laidMetH Tryd.prog L W) : ∃ tp p, W.cell? ⟨g0, 0, none⟩ = some (.iface tp p) := by
  rw [MakeChecks.laidMetH_plain _ _ _ hpl] at h
  obtain ⟨ps, hps, _, _⟩ := h
  obtain ⟨g, t, cs, fuel, p, hg, ht, hv, hd⟩ := laid_mem L ps hps _ _ hm
  obtain rfl := Option.some.inj (hg0.symm.trans hg)
  obtain rfl := Option.some.inj (ht0.symm.trans ht)
  obtain ⟨f1, u, v, hcs, hn, h1⟩ := iface_of_trod Tryd.underlying68 hd
  refine ⟨u, v, ?_⟩
  rw [World.var?_cell hg hv 0]
  have : cs.toList[0]? = some (.iface u v) := by rw [hcs]; rfl
  simpa using this

theorem gl_of_laid {W : World} {L : List (String × DataW Unit)} (hpl : (L.all fun x => x.2.handleName?.isNone) = true) (h1 : ("colophon/doc.forms", Rows.laid_colophon_doc_forms) ∈ L) (h2 : ("colophon/doc.words", Rows.laid_colophon_doc_words) ∈ L)
    (h3 : ("internal/strconv.uint64pow10", Rows.laid_internal_strconv_uint64pow10) ∈ L) (h4 : ("strconv.ErrSyntax", Rows.laid_strconv_ErrSyntax) ∈ L) (h5 : ("strconv.ErrRange", Rows.laid_strconv_ErrRange) ∈ L) (h : laidMetH Tryd.prog L W) : Gl W :=
  ⟨ftab_of_laid hpl h1 h, wtab_of_laid hpl h2 h, pow_of_laid hpl h3 h, err_of_laid hpl _ _ _ 3 h4 (by kernel_rfl) (by kernel_rfl) h, err_of_laid hpl _ _ _ 4 h5 (by kernel_rfl) (by kernel_rfl) h⟩
end Go.Proofs.YtlpmnkiieibipaaDoor
