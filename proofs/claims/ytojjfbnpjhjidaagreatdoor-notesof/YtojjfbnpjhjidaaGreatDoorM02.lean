import Derived.Test.YtojjfbnpjhjidaaGreatDoorM01
set_option linter.unusedVariables false
set_option linter.unusedSimpArgs false
namespace Go.Proofs.YtojjfbnpjhjidaaGreatDoor.Lx
open Go.ChangeShapes Go.WideShapes Go.ChangeAt Go.RowKit
def ctabL : List (Int × Int × Int) := [(48, 57, 1), (65, 90, 2), (95, 95, 1), (97, 122, 2), (192, 214, 2), (216, 246, 2), (248, 591, 2), (768, 879, 1), (913, 929, 2), (931, 974, 2), (1024, 1119, 2), (1488, 1514, 2), (1568, 1610, 2), (2308, 2361, 2), (12353, 12438, 2), (12449, 12538, 2), (19968, 40959, 2), (44032, 55203, 2), (66560, 66639, 2), (131072, 196607, 2)]
def clo (i : Nat) : Int := (ctabL.getD i (0, 0, 0)).1
def chi (i : Nat) : Int := (ctabL.getD i (0, 0, 0)).2.1
def cus (i : Nat) : Int := (ctabL.getD i (0, 0, 0)).2.2
def CTab (w : World) : Prop := ∀ i, i < 20 → w.cell? ⟨1, i * 3, none⟩ = some (.int .i64 (clo i)) ∧ w.cell? ⟨1, i * 3 + 1, none⟩ = some (.int .i64 (chi i)) ∧ w.cell? ⟨1, i * 3 + 2, none⟩ = some (.int .i64 (cus i))
theorem CTab.below {w w' : World} (h : CTab w) (hb : Below w.heap.size w w') : CTab w' := by
  intro i hi
  obtain ⟨h0, h1, h2⟩ := h i hi
  have hz := World.block_lt_of_cell? w _ h0
  exact ⟨(hb.cell (p := ⟨1, i * 3, none⟩) hz).trans h0, (hb.cell (p := ⟨1, i * 3 + 1, none⟩) hz).trans h1, (hb.cell (p := ⟨1, i * 3 + 2, none⟩) hz).trans h2⟩
theorem claid_rows : (Rows.laid_colophon_class_spans : DataW Unit) = .agg (ctabL.map fun x => .agg [.lit (.int .i64 x.1), .lit (.int .i64 x.2.1), .lit (.int .i64 x.2.2)]) := by kernel_rfl
theorem ctab_of_laid {W : World} {L : List (String × DataW Unit)} (hpl : (L.all fun x => x.2.handleName?.isNone) = true) (hm : ("colophon/class.spans", Rows.laid_colophon_class_spans) ∈ L) (h : laidMetH Tryz.prog L W) : CTab W := by
  rw [MakeChecks.laidMetH_plain _ _ _ hpl] at h
  obtain ⟨ps, hps, _, _⟩ := h
  obtain ⟨g, t, cs, fuel, p, hg, ht, hv, hd⟩ := laid_mem L ps hps _ _ hm
  obtain rfl := Option.some.inj ((show Tryz.prog.globalNamed "colophon/class.spans" = some 1 by kernel_rfl).symm.trans hg)
  obtain rfl := Option.some.inj ((show (Tryz.prog.globals[1]?).map (·.type) = some 146 by kernel_rfl).symm.trans ht)
  rw [claid_rows] at hd
  obtain ⟨xs, m, _, ex, _, hl, hel⟩ := DataW.trod_array Tryz.underlying146 hd
  have c3 : Tryz.prog.cellsOf 3 = 1 := by kernel_rfl
  have c37 : Tryz.prog.cellsOf 138 = 1 := by kernel_rfl
  have cS : Tryz.prog.cellsOf 145 = 3 := by kernel_rfl
  intro i hi
  have hE := hel i hi
  rw [cS, List.getElem?_eq_getElem (by omega)] at hE
  obtain ⟨y0, y1, y2, n, ey, _, g0, g1, g2⟩ := Deep.trod_struct3 Tryz.underlying145 hE
  simp only [c3, c37] at g0 g1 g2
  obtain ⟨z0, a0, b0, _⟩ := DataW.trod_int Tryz.underlying3 g0
  obtain ⟨z1, a1, b1, _⟩ := DataW.trod_int Tryz.underlying3 g1
  obtain ⟨z2, a2, b2, _⟩ := DataW.trod_int Tryz.underlying138 g2
  have hlen : ctabL.length = 20 := rfl
  have e3 : (xs.map (·.1)) = ctabL.map fun x => (.agg [.lit (.int .i64 x.1), .lit (.int .i64 x.2.1), .lit (.int .i64 x.2.2)] : DataW Unit) := (DataW.agg.inj (Prod.mk.inj ex).1).symm
  have e4 : (xs.map (·.1))[i]? = (ctabL.map fun x => (.agg [.lit (.int .i64 x.1), .lit (.int .i64 x.2.1), .lit (.int .i64 x.2.2)] : DataW Unit))[i]? := by rw [e3]
  rw [List.getElem?_map, List.getElem?_map, List.getElem?_eq_getElem (by omega : i < xs.length), List.getElem?_eq_getElem (by omega : i < ctabL.length), ey, b0, b1, b2] at e4
  simp only [Option.map_some, Option.some.injEq, DataW.agg.injEq, List.cons.injEq, DataW.lit.injEq, Lit.int.injEq, true_and, and_true] at e4
  obtain ⟨f0, f1, f2⟩ := e4
  have hT : ctabL.getD i (0, 0, 0) = ctabL[i] := by rw [List.getD, List.getElem?_eq_getElem (show i < ctabL.length by omega)]; rfl
  have key : ∀ (o : Nat) (z : Int), o < 3 → (((cs.toList.drop (i * 3)).take 3).drop o).take 1 = [.int .i64 z] → W.cell? ⟨1, i * 3 + o, none⟩ = some (.int .i64 z) := by
    intro o z ho hz
    rw [World.var?_cell hg hv (i * 3 + o)]
    have h0 : ((((cs.toList.drop (i * 3)).take 3).drop o).take 1)[0]? = some (.int .i64 z) := by rw [hz]; rfl
    rw [List.getElem?_take, if_pos (by omega), List.getElem?_drop, List.getElem?_take, if_pos (by omega), List.getElem?_drop] at h0
    simpa using h0
  refine ⟨?_, ?_, ?_⟩
  · have := key 0 z0 (by omega) (by simpa using a0)
    rw [Nat.add_zero] at this
    rw [this, clo, hT, f0]; rfl
  · have := key 1 z1 (by omega) (by simpa using a1)
    rw [this, chi, hT, f1]; rfl
  · have := key 2 z2 (by omega) (by simpa using a2)
    rw [this, cus, hT, f2]; rfl
def wordL : List ByteArray := [⟨#[97, 110, 100]⟩, ⟨#[97, 114, 114, 97, 121]⟩, ⟨#[98, 101, 103, 105, 110]⟩, ⟨#[99, 111, 110, 115, 116]⟩, ⟨#[100, 111]⟩, ⟨#[101, 108, 105, 102]⟩, ⟨#[101, 108, 115, 101]⟩, ⟨#[101, 110, 100]⟩, ⟨#[102, 111, 114]⟩, ⟨#[105, 102]⟩, ⟨#[110, 111, 116]⟩, ⟨#[111, 102]⟩, ⟨#[111, 114]⟩, ⟨#[112, 114, 111, 99]⟩, ⟨#[112, 114, 111, 103, 114, 97, 109]⟩, ⟨#[114, 101, 99, 111, 114, 100]⟩, ⟨#[114, 101, 112, 101, 97, 116]⟩, ⟨#[114, 101, 116, 117, 114, 110]⟩, ⟨#[115, 107, 105, 112]⟩, ⟨#[116, 104, 101, 110]⟩, ⟨#[116, 111]⟩, ⟨#[117, 110, 116, 105, 108]⟩, ⟨#[118, 97, 114]⟩, ⟨#[119, 104, 105, 108, 101]⟩]
def WTab (w : World) : Prop := ∀ i, i < 24 → w.cell? ⟨3, i, none⟩ = some (.string (wordL.getD i ByteArray.empty))
theorem WTab.below {w w' : World} (h : WTab w) (hb : Below w.heap.size w w') : WTab w' := by
  intro i hi
  have h0 := h i hi
  exact (hb.cell (p := ⟨3, i, none⟩) (World.block_lt_of_cell? w _ h0)).trans h0
theorem wlaid_rows : (Rows.laid_colophon_class_words : DataW Unit) = .agg (wordL.map fun x => .lit (.string x.data.toList)) := by kernel_rfl
theorem wtab_of_laid {W : World} {L : List (String × DataW Unit)} (hpl : (L.all fun x => x.2.handleName?.isNone) = true) (hm : ("colophon/class.words", Rows.laid_colophon_class_words) ∈ L) (h : laidMetH Tryz.prog L W) : WTab W := by
  rw [MakeChecks.laidMetH_plain _ _ _ hpl] at h
  obtain ⟨ps, hps, _, _⟩ := h
  obtain ⟨g, t, cs, fuel, p, hg, ht, hv, hd⟩ := laid_mem L ps hps _ _ hm
  obtain rfl := Option.some.inj ((show Tryz.prog.globalNamed "colophon/class.words" = some 3 by kernel_rfl).symm.trans hg)
  obtain rfl := Option.some.inj ((show (Tryz.prog.globals[3]?).map (·.type) = some 163 by kernel_rfl).symm.trans ht)
  rw [wlaid_rows] at hd
  obtain ⟨xs, m, _, ex, _, hl, hel⟩ := DataW.trod_array Tryz.underlying163 hd
  have c9 : Tryz.prog.cellsOf 9 = 1 := by kernel_rfl
  intro i hi
  have hE := hel i hi
  rw [c9, List.getElem?_eq_getElem (by omega)] at hE
  obtain ⟨s, a0, b0, _⟩ := DataW.trod_string Tryz.underlying9 hE
  have hlen : wordL.length = 24 := rfl
  have e3 : (xs.map (·.1)) = wordL.map fun x => (.lit (.string x.data.toList) : DataW Unit) := (DataW.agg.inj (Prod.mk.inj ex).1).symm
  have e4 : (xs.map (·.1))[i]? = (wordL.map fun x => (.lit (.string x.data.toList) : DataW Unit))[i]? := by rw [e3]
  rw [List.getElem?_map, List.getElem?_map, List.getElem?_eq_getElem (by omega : i < xs.length), List.getElem?_eq_getElem (by omega : i < wordL.length), b0] at e4
  simp only [Option.map_some, Option.some.injEq, DataW.lit.injEq, Lit.string.injEq] at e4
  have hT : wordL.getD i ByteArray.empty = wordL[i] := by rw [List.getD, List.getElem?_eq_getElem (show i < wordL.length by omega)]; rfl
  have hs : s = wordL[i] := by
    have := Array.toList_inj.1 e4
    cases hs : s; cases hx : wordL[i]; simp_all
  rw [World.var?_cell hg hv i, hT, ← hs]
  have h0 : (((cs.toList.drop (i * 1)).take 1))[0]? = some (.string s) := by rw [a0]; rfl
  rw [List.getElem?_take, if_pos (by omega), List.getElem?_drop] at h0
  simpa using h0
def signL : List ByteArray := [⟨#[58, 61]⟩, ⟨#[46, 46]⟩, ⟨#[60, 61]⟩, ⟨#[62, 61]⟩, ⟨#[59]⟩, ⟨#[46]⟩, ⟨#[44]⟩, ⟨#[58]⟩, ⟨#[61]⟩, ⟨#[35]⟩, ⟨#[60]⟩, ⟨#[62]⟩, ⟨#[40]⟩, ⟨#[41]⟩, ⟨#[91]⟩, ⟨#[93]⟩, ⟨#[43]⟩, ⟨#[45]⟩, ⟨#[42]⟩, ⟨#[47]⟩, ⟨#[37]⟩]
def STab (w : World) : Prop := ∀ i, i < 21 → w.cell? ⟨2, i, none⟩ = some (.string (signL.getD i ByteArray.empty))
theorem STab.below {w w' : World} (h : STab w) (hb : Below w.heap.size w w') : STab w' := by
  intro i hi
  have h0 := h i hi
  exact (hb.cell (p := ⟨2, i, none⟩) (World.block_lt_of_cell? w _ h0)).trans h0
theorem slaid_rows : (Rows.laid_colophon_class_signs : DataW Unit) = .agg (signL.map fun x => .lit (.string x.data.toList)) := by kernel_rfl
theorem stab_of_laid {W : World} {L : List (String × DataW Unit)} (hpl : (L.all fun x => x.2.handleName?.isNone) = true) (hm : ("colophon/class.signs", Rows.laid_colophon_class_signs) ∈ L) (h : laidMetH Tryz.prog L W) : STab W := by
  rw [MakeChecks.laidMetH_plain _ _ _ hpl] at h
  obtain ⟨ps, hps, _, _⟩ := h
  obtain ⟨g, t, cs, fuel, p, hg, ht, hv, hd⟩ := laid_mem L ps hps _ _ hm
  obtain rfl := Option.some.inj ((show Tryz.prog.globalNamed "colophon/class.signs" = some 2 by kernel_rfl).symm.trans hg)
  obtain rfl := Option.some.inj ((show (Tryz.prog.globals[2]?).map (·.type) = some 149 by kernel_rfl).symm.trans ht)
  rw [slaid_rows] at hd
  obtain ⟨xs, m, _, ex, _, hl, hel⟩ := DataW.trod_array Tryz.underlying149 hd
  have c9 : Tryz.prog.cellsOf 9 = 1 := by kernel_rfl
  intro i hi
  have hE := hel i hi
  rw [c9, List.getElem?_eq_getElem (by omega)] at hE
  obtain ⟨s, a0, b0, _⟩ := DataW.trod_string Tryz.underlying9 hE
  have hlen : signL.length = 21 := rfl
  have e3 : (xs.map (·.1)) = signL.map fun x => (.lit (.string x.data.toList) : DataW Unit) := (DataW.agg.inj (Prod.mk.inj ex).1).symm
  have e4 : (xs.map (·.1))[i]? = (signL.map fun x => (.lit (.string x.data.toList) : DataW Unit))[i]? := by rw [e3]
  rw [List.getElem?_map, List.getElem?_map, List.getElem?_eq_getElem (by omega : i < xs.length), List.getElem?_eq_getElem (by omega : i < signL.length), b0] at e4
  simp only [Option.map_some, Option.some.injEq, DataW.lit.injEq, Lit.string.injEq] at e4
  have hT : signL.getD i ByteArray.empty = signL[i] := by rw [List.getD, List.getElem?_eq_getElem (show i < signL.length by omega)]; rfl
  have hs : s = signL[i] := by
    have := Array.toList_inj.1 e4
    cases hs : s; cases hx : signL[i]; simp_all
  rw [World.var?_cell hg hv i, hT, ← hs]
  have h0 : (((cs.toList.drop (i * 1)).take 1))[0]? = some (.string s) := by rw [a0]; rfl
  rw [List.getElem?_take, if_pos (by omega), List.getElem?_drop] at h0
  simpa using h0
def Kab (w : World) : Prop := CTab w ∧ WTab w ∧ STab w
theorem Kab.below {w w' : World} (h : Kab w) (hb : Below w.heap.size w w') : Kab w' := ⟨h.1.below hb, h.2.1.below hb, h.2.2.below hb⟩
theorem kab_of_laid {W : World} {L : List (String × DataW Unit)} (hpl : (L.all fun x => x.2.handleName?.isNone) = true) (h1 : ("colophon/class.spans", Rows.laid_colophon_class_spans) ∈ L)
    (h2 : ("colophon/class.words", Rows.laid_colophon_class_words) ∈ L) (h3 : ("colophon/class.signs", Rows.laid_colophon_class_signs) ∈ L) (h : laidMetH Tryz.prog L W) : Kab W :=
  ⟨ctab_of_laid hpl h1 h, wtab_of_laid hpl h2 h, stab_of_laid hpl h3 h⟩
end Go.Proofs.YtojjfbnpjhjidaaGreatDoor.Lx
