import Derived.Test.YtnmjkgjhjnpijaaDoorRows
import Derived.ProofKit
import Derived.OpenShut
import Derived.Lay
import Derived.Deep.Strs
import Derived.Stop.Joined
import Derived.MakeChecks
import Derived.WalkKit
import Derived.WalkSpells
import Derived.WalkLawsBesides
import Derived.WalkSmall
import Derived.Laws.CopyOwn
import Derived.Deep.RegionLaw
import Derived.Maps.AppendAt
import Derived.Lib.AppendStr
set_option linter.unusedVariables false
set_option linter.unusedSimpArgs false
namespace Go.Proofs.YtnmjkgjhjnpijaaDoor
open Go.ChangeShapes Go.WideShapes Go.ChangeAt Go.RowKit



/-- One of the listed variables. -/
theorem laid_mem {P : Program} {w : World} : ∀ (laid : List (String × DataW Unit)) (ps : List MemPlace), DataW.LaidVars P w laid ps → ∀ n d, (n, d) ∈ laid →
    ∃ g t cs fuel p, P.globalNamed n = some g ∧ (P.globals[g]?).map (·.type) = some t ∧ w.var? P n = some cs ∧ DataW.trod (fun _ => ()) P w 0 (fun _ => true) false fuel t cs.toList = some (d, p)
  | [], _, _, n, d, h => by cases h
  | (m, e) :: r, ps, ⟨g, t, cs, fuel, p, q, h1, h2, h3, h4, h5, _⟩, n, d, h => by
    rcases List.mem_cons.1 h with h | h
    · cases h; exact ⟨g, t, cs, fuel, p, h1, h2, h3, h4⟩
    · exact laid_mem r q h5 n d h

end Go.Proofs.YtnmjkgjhjnpijaaDoor

set_option linter.unusedVariables false
set_option linter.unusedSimpArgs false
namespace Go.Proofs.YtnmjkgjhjnpijaaDoor
open Go.ChangeShapes Go.WideShapes Go.ChangeAt Go.RowKit

/-- The table of class's spans, by rows: low, high, use. -/
def ctabL : List (Int × Int × Int) := [(48, 57, 1), (65, 90, 2), (95, 95, 1), (97, 122, 2), (192, 214, 2), (216, 246, 2), (248, 591, 2), (768, 879, 1), (913, 929, 2), (931, 974, 2), (1024, 1119, 2), (1488, 1514, 2), (1568, 1610, 2), (2308, 2361, 2), (12353, 12438, 2), (12449, 12538, 2), (19968, 40959, 2), (44032, 55203, 2), (66560, 66639, 2), (131072, 196607, 2)]
def clo (i : Nat) : Int := (ctabL.getD i (0, 0, 0)).1
def chi (i : Nat) : Int := (ctabL.getD i (0, 0, 0)).2.1
def cus (i : Nat) : Int := (ctabL.getD i (0, 0, 0)).2.2
def CTab (w : World) : Prop := ∀ i, i < 20 → w.cell? ⟨0, i * 3, none⟩ = some (.int .i64 (clo i)) ∧ w.cell? ⟨0, i * 3 + 1, none⟩ = some (.int .i64 (chi i)) ∧ w.cell? ⟨0, i * 3 + 2, none⟩ = some (.int .i64 (cus i))

theorem CTab.below {w w' : World} (h : CTab w) (hb : Below w.heap.size w w') : CTab w' := by
  intro i hi
  obtain ⟨h0, h1, h2⟩ := h i hi
  have hz := World.block_lt_of_cell? w _ h0
  exact ⟨(hb.cell (p := ⟨0, i * 3, none⟩) hz).trans h0, (hb.cell (p := ⟨0, i * 3 + 1, none⟩) hz).trans h1, (hb.cell (p := ⟨0, i * 3 + 2, none⟩) hz).trans h2⟩

theorem claid_rows : (Rows.laid_colophon_class_spans : DataW Unit) = .agg (ctabL.map fun x => .agg [.lit (.int .i64 x.1), .lit (.int .i64 x.2.1), .lit (.int .i64 x.2.2)]) := by kernel_rfl

theorem ctab_of_laid {W : World} {L : List (String × DataW Unit)} (hpl : (L.all fun x => x.2.handleName?.isNone) = true) (hm : ("colophon/class.spans", Rows.laid_colophon_class_spans) ∈ L) (h : laidMetH Tryd.prog L W) : CTab W := by
  rw [MakeChecks.laidMetH_plain _ _ _ hpl] at h
  obtain ⟨ps, hps, _, _⟩ := h
  obtain ⟨g, t, cs, fuel, p, hg, ht, hv, hd⟩ := laid_mem L ps hps _ _ hm
  obtain rfl := Option.some.inj ((show Tryd.prog.globalNamed "colophon/class.spans" = some 0 by kernel_rfl).symm.trans hg)
  obtain rfl := Option.some.inj ((show (Tryd.prog.globals[0]?).map (·.type) = some 84 by kernel_rfl).symm.trans ht)
  rw [claid_rows] at hd
  obtain ⟨xs, m, _, ex, _, hl, hel⟩ := DataW.trod_array Tryd.underlying84 hd
  have c3 : Tryd.prog.cellsOf 3 = 1 := by kernel_rfl
  have c37 : Tryd.prog.cellsOf 71 = 1 := by kernel_rfl
  have cS : Tryd.prog.cellsOf 83 = 3 := by kernel_rfl
  intro i hi
  have hE := hel i hi
  rw [cS, List.getElem?_eq_getElem (by omega)] at hE
  obtain ⟨y0, y1, y2, n, ey, _, g0, g1, g2⟩ := Deep.trod_struct3 Tryd.underlying83 hE
  simp only [c3, c37] at g0 g1 g2
  obtain ⟨z0, a0, b0, _⟩ := DataW.trod_int Tryd.underlying3 g0
  obtain ⟨z1, a1, b1, _⟩ := DataW.trod_int Tryd.underlying3 g1
  obtain ⟨z2, a2, b2, _⟩ := DataW.trod_int Tryd.underlying71 g2
  have hlen : ctabL.length = 20 := rfl
  have e3 : (xs.map (·.1)) = ctabL.map fun x => (.agg [.lit (.int .i64 x.1), .lit (.int .i64 x.2.1), .lit (.int .i64 x.2.2)] : DataW Unit) := (DataW.agg.inj (Prod.mk.inj ex).1).symm
  have e4 : (xs.map (·.1))[i]? = (ctabL.map fun x => (.agg [.lit (.int .i64 x.1), .lit (.int .i64 x.2.1), .lit (.int .i64 x.2.2)] : DataW Unit))[i]? := by rw [e3]
  rw [List.getElem?_map, List.getElem?_map, List.getElem?_eq_getElem (by omega : i < xs.length), List.getElem?_eq_getElem (by omega : i < ctabL.length), ey, b0, b1, b2] at e4
  simp only [Option.map_some, Option.some.injEq, DataW.agg.injEq, List.cons.injEq, DataW.lit.injEq, Lit.int.injEq, true_and, and_true] at e4
  obtain ⟨f0, f1, f2⟩ := e4
  have hT : ctabL.getD i (0, 0, 0) = ctabL[i] := by rw [List.getD, List.getElem?_eq_getElem (show i < ctabL.length by omega)]; rfl
  have key : ∀ (o : Nat) (z : Int), o < 3 → (((cs.toList.drop (i * 3)).take 3).drop o).take 1 = [.int .i64 z] → W.cell? ⟨0, i * 3 + o, none⟩ = some (.int .i64 z) := by
    intro o z ho hz
    rw [World.var?_cell hg hv (i * 3 + o)]
    have h0 : ((((cs.toList.drop (i * 3)).take 3).drop o).take 1)[0]? = some (.int .i64 z) := by rw [hz]; rfl
    rw [List.getElem?_take, if_pos (by omega), List.getElem?_drop, List.getElem?_take, if_pos (by omega), List.getElem?_drop] at h0
    simpa using h0
  refine ⟨?_, ?_, ?_⟩
  · have := key 0 z0 (by omega) (by simpa using a0)
    rw [Nat.add_zero] at this
    rw [this, clo, hT, f0]; rfl
  · have := key 1 z1 (by omega) (by simpa using a1)
    rw [this, chi, hT, f1]; rfl
  · have := key 2 z2 (by omega) (by simpa using a2)
    rw [this, cus, hT, f2]; rfl

def wordL : List ByteArray := [⟨#[97, 110, 100]⟩, ⟨#[97, 114, 114, 97, 121]⟩, ⟨#[98, 101, 103, 105, 110]⟩, ⟨#[99, 111, 110, 115, 116]⟩, ⟨#[100, 111]⟩, ⟨#[101, 108, 105, 102]⟩, ⟨#[101, 108, 115, 101]⟩, ⟨#[101, 110, 100]⟩, ⟨#[102, 111, 114]⟩, ⟨#[105, 102]⟩, ⟨#[110, 111, 116]⟩, ⟨#[111, 102]⟩, ⟨#[111, 114]⟩, ⟨#[112, 114, 111, 99]⟩, ⟨#[112, 114, 111, 103, 114, 97, 109]⟩, ⟨#[114, 101, 99, 111, 114, 100]⟩, ⟨#[114, 101, 112, 101, 97, 116]⟩, ⟨#[114, 101, 116, 117, 114, 110]⟩, ⟨#[115, 107, 105, 112]⟩, ⟨#[116, 104, 101, 110]⟩, ⟨#[116, 111]⟩, ⟨#[117, 110, 116, 105, 108]⟩, ⟨#[118, 97, 114]⟩, ⟨#[119, 104, 105, 108, 101]⟩]
/-- The cells of 'colophon/class.words'. -/
def WTab (w : World) : Prop := ∀ i, i < 24 → w.cell? ⟨1, i, none⟩ = some (.string (wordL.getD i ByteArray.empty))

theorem WTab.below {w w' : World} (h : WTab w) (hb : Below w.heap.size w w') : WTab w' := by
  intro i hi
  have h0 := h i hi
  exact (hb.cell (p := ⟨1, i, none⟩) (World.block_lt_of_cell? w _ h0)).trans h0

theorem wlaid_rows : (Rows.laid_colophon_class_words : DataW Unit) = .agg (wordL.map fun x => .lit (.string x.data.toList)) := by kernel_rfl

theorem wtab_of_laid {W : World} {L : List (String × DataW Unit)} (hpl : (L.all fun x => x.2.handleName?.isNone) = true) (hm : ("colophon/class.words", Rows.laid_colophon_class_words) ∈ L) (h : laidMetH Tryd.prog L W) : WTab W := by
  rw [MakeChecks.laidMetH_plain _ _ _ hpl] at h
  obtain ⟨ps, hps, _, _⟩ := h
  obtain ⟨g, t, cs, fuel, p, hg, ht, hv, hd⟩ := laid_mem L ps hps _ _ hm
  obtain rfl := Option.some.inj ((show Tryd.prog.globalNamed "colophon/class.words" = some 1 by kernel_rfl).symm.trans hg)
  obtain rfl := Option.some.inj ((show (Tryd.prog.globals[1]?).map (·.type) = some 92 by kernel_rfl).symm.trans ht)
  rw [wlaid_rows] at hd
  obtain ⟨xs, m, _, ex, _, hl, hel⟩ := DataW.trod_array Tryd.underlying92 hd
  have c9 : Tryd.prog.cellsOf 9 = 1 := by kernel_rfl
  intro i hi
  have hE := hel i hi
  rw [c9, List.getElem?_eq_getElem (by omega)] at hE
  obtain ⟨s, a0, b0, _⟩ := DataW.trod_string Tryd.underlying9 hE
  have hlen : wordL.length = 24 := rfl
  have e3 : (xs.map (·.1)) = wordL.map fun x => (.lit (.string x.data.toList) : DataW Unit) := (DataW.agg.inj (Prod.mk.inj ex).1).symm
  have e4 : (xs.map (·.1))[i]? = (wordL.map fun x => (.lit (.string x.data.toList) : DataW Unit))[i]? := by rw [e3]
  rw [List.getElem?_map, List.getElem?_map, List.getElem?_eq_getElem (by omega : i < xs.length), List.getElem?_eq_getElem (by omega : i < wordL.length), b0] at e4
  simp only [Option.map_some, Option.some.injEq, DataW.lit.injEq, Lit.string.injEq] at e4
  have hT : wordL.getD i ByteArray.empty = wordL[i] := by rw [List.getD, List.getElem?_eq_getElem (show i < wordL.length by omega)]; rfl
  have hs : s = wordL[i] := by
    have := Array.toList_inj.1 e4
    cases hs : s; cases hx : wordL[i]; simp_all
  rw [World.var?_cell hg hv i, hT, ← hs]
  have h0 : (((cs.toList.drop (i * 1)).take 1))[0]? = some (.string s) := by rw [a0]; rfl
  rw [List.getElem?_take, if_pos (by omega), List.getElem?_drop] at h0
  simpa using h0

def signL : List ByteArray := [⟨#[58, 61]⟩, ⟨#[46, 46]⟩, ⟨#[60, 61]⟩, ⟨#[62, 61]⟩, ⟨#[59]⟩, ⟨#[46]⟩, ⟨#[44]⟩, ⟨#[58]⟩, ⟨#[61]⟩, ⟨#[35]⟩, ⟨#[60]⟩, ⟨#[62]⟩, ⟨#[40]⟩, ⟨#[41]⟩, ⟨#[91]⟩, ⟨#[93]⟩, ⟨#[43]⟩, ⟨#[45]⟩, ⟨#[42]⟩, ⟨#[47]⟩, ⟨#[37]⟩]
/-- The cells of 'colophon/class.signs'. -/
def STab (w : World) : Prop := ∀ i, i < 21 → w.cell? ⟨2, i, none⟩ = some (.string (signL.getD i ByteArray.empty))

theorem STab.below {w w' : World} (h : STab w) (hb : Below w.heap.size w w') : STab w' := by
  intro i hi
  have h0 := h i hi
  exact (hb.cell (p := ⟨2, i, none⟩) (World.block_lt_of_cell? w _ h0)).trans h0

theorem slaid_rows : (Rows.laid_colophon_class_signs : DataW Unit) = .agg (signL.map fun x => .lit (.string x.data.toList)) := by kernel_rfl

theorem stab_of_laid {W : World} {L : List (String × DataW Unit)} (hpl : (L.all fun x => x.2.handleName?.isNone) = true) (hm : ("colophon/class.signs", Rows.laid_colophon_class_signs) ∈ L) (h : laidMetH Tryd.prog L W) : STab W := by
  rw [MakeChecks.laidMetH_plain _ _ _ hpl] at h
  obtain ⟨ps, hps, _, _⟩ := h
  obtain ⟨g, t, cs, fuel, p, hg, ht, hv, hd⟩ := laid_mem L ps hps _ _ hm
  obtain rfl := Option.some.inj ((show Tryd.prog.globalNamed "colophon/class.signs" = some 2 by kernel_rfl).symm.trans hg)
  obtain rfl := Option.some.inj ((show (Tryd.prog.globals[2]?).map (·.type) = some 93 by kernel_rfl).symm.trans ht)
  rw [slaid_rows] at hd
  obtain ⟨xs, m, _, ex, _, hl, hel⟩ := DataW.trod_array Tryd.underlying93 hd
  have c9 : Tryd.prog.cellsOf 9 = 1 := by kernel_rfl
  intro i hi
  have hE := hel i hi
  rw [c9, List.getElem?_eq_getElem (by omega)] at hE
  obtain ⟨s, a0, b0, _⟩ := DataW.trod_string Tryd.underlying9 hE
  have hlen : signL.length = 21 := rfl
  have e3 : (xs.map (·.1)) = signL.map fun x => (.lit (.string x.data.toList) : DataW Unit) := (DataW.agg.inj (Prod.mk.inj ex).1).symm
  have e4 : (xs.map (·.1))[i]? = (signL.map fun x => (.lit (.string x.data.toList) : DataW Unit))[i]? := by rw [e3]
  rw [List.getElem?_map, List.getElem?_map, List.getElem?_eq_getElem (by omega : i < xs.length), List.getElem?_eq_getElem (by omega : i < signL.length), b0] at e4
  simp only [Option.map_some, Option.some.injEq, DataW.lit.injEq, Lit.string.injEq] at e4
  have hT : signL.getD i ByteArray.empty = signL[i] := by rw [List.getD, List.getElem?_eq_getElem (show i < signL.length by omega)]; rfl
  have hs : s = signL[i] := by
    have := Array.toList_inj.1 e4
    cases hs : s; cases hx : signL[i]; simp_all
  rw [World.var?_cell hg hv i, hT, ← hs]
  have h0 : (((cs.toList.drop (i * 1)).take 1))[0]? = some (.string s) := by rw [a0]; rfl
  rw [List.getElem?_take, if_pos (by omega), List.getElem?_drop] at h0
  simpa using h0

/-- All of class's tables. -/
def Kab (w : World) : Prop := CTab w ∧ WTab w ∧ STab w
theorem Kab.below {w w' : World} (h : Kab w) (hb : Below w.heap.size w w') : Kab w' := ⟨h.1.below hb, h.2.1.below hb, h.2.2.below hb⟩

theorem kab_of_laid {W : World} {L : List (String × DataW Unit)} (hpl : (L.all fun x => x.2.handleName?.isNone) = true) (h1 : ("colophon/class.spans", Rows.laid_colophon_class_spans) ∈ L)
    (h2 : ("colophon/class.words", Rows.laid_colophon_class_words) ∈ L) (h3 : ("colophon/class.signs", Rows.laid_colophon_class_signs) ∈ L) (h : laidMetH Tryd.prog L W) : Kab W :=
  ⟨ctab_of_laid hpl h1 h, wtab_of_laid hpl h2 h, stab_of_laid hpl h3 h⟩
end Go.Proofs.YtnmjkgjhjnpijaaDoor

set_option linter.unusedVariables false
set_option linter.unusedSimpArgs false
namespace Go.Proofs.YtnmjkgjhjnpijaaDoor
open Go.RowKit

/-! Labels: which block belongs to which ring (0: to none). -/

/-- What a call on the ring of label i leaves alone. -/
structure Fr (i : Nat) (own own' : Nat → Nat) (w w' : World) : Prop where
  os : w'.os = w.os
  tape : w'.tape = w.tape
  output : w'.output = w.output
  size : w.heap.size ≤ w'.heap.size
  block : ∀ k, k < w.heap.size → own k ≠ i → w'.heap[k]? = w.heap[k]?
  old : ∀ k, k < w.heap.size → own' k = own k

/-- Blocks that are not there yet belong to none. -/
def Nf (own : Nat → Nat) (w : World) : Prop := ∀ k, w.heap.size ≤ k → own k = 0

theorem Fr.refl (i : Nat) (own : Nat → Nat) (w : World) : Fr i own own w w := ⟨rfl, rfl, rfl, Nat.le_refl _, fun _ _ _ => rfl, fun _ _ => rfl⟩
theorem Fr.trans {i : Nat} {o0 o1 o2 : Nat → Nat} {a b c : World} (h : Fr i o0 o1 a b) (k : Fr i o1 o2 b c) : Fr i o0 o2 a c :=
  ⟨k.os.trans h.os, k.tape.trans h.tape, k.output.trans h.output, Nat.le_trans h.size k.size,
   fun j hj hi => (k.block j (Nat.lt_of_lt_of_le hj h.size) (by rw [h.old j hj]; exact hi)).trans (h.block j hj hi),
   fun j hj => (k.old j (Nat.lt_of_lt_of_le hj h.size)).trans (h.old j hj)⟩
theorem Fr.of_below {i : Nat} {own : Nat → Nat} {w w' : World} (h : Below w.heap.size w w') : Fr i own own w w' :=
  ⟨h.os, h.tape, h.output, h.size, fun k hk _ => h.block k hk, fun _ _ => rfl⟩
theorem Fr.below {i B : Nat} {own own' : Nat → Nat} {w w' : World} (h : Fr i own own' w w') (hB : B ≤ w.heap.size) (ho : ∀ k, k < B → own k = 0) (hi : i ≠ 0) : Below B w w' :=
  ⟨h.os, h.tape, h.output, h.size, fun k hk => h.block k (by omega) (by rw [ho k hk]; omega)⟩
theorem Fr.cell {i : Nat} {own own' : Nat → Nat} {w w' : World} (h : Fr i own own' w w') {a : Addr} {v : Value} (hc : w.cell? a = some v) (hi : own a.block ≠ i) : w'.cell? a = some v :=
  (World.cell?_of_block (h.block a.block (World.block_lt_of_cell? w a hc) hi)).trans hc
theorem Nf.below {own : Nat → Nat} {w w' : World} (h : Nf own w) (hb : w.heap.size ≤ w'.heap.size) : Nf own w' := fun k hk => h k (by omega)

/-! Blocks. -/
theorem blk_cell {W : World} {g k : Nat} {cs : Array Value} {T : TypeId} {v : Value} (h : W.heap[g]? = some (.cells cs T (0, 0))) (hk : cs[k]? = some v) : W.cell? ⟨g, k, none⟩ = some v := by simp [World.cell?, h, hk]
theorem blk_frozen {W : World} {g k : Nat} {cs : Array Value} {T : TypeId} (h : W.heap[g]? = some (.cells cs T (0, 0))) : W.frozen? ⟨g, k, none⟩ = false := by simp [World.frozen?, h]
theorem blk_set {W : World} {g : Nat} {cs : Array Value} {T : TypeId} (h : W.heap[g]? = some (.cells cs T (0, 0))) (k : Nat) (v : Value) : (W.setCell ⟨g, k, none⟩ v).heap[g]? = some (.cells (cs.setIfInBounds k v) T (0, 0)) := by
  obtain ⟨hlt, hk⟩ := Array.getElem?_eq_some_iff.1 h
  show (W.heap.modify g _)[g]? = _
  rw [Array.getElem?_eq_getElem (by rw [Array.size_modify]; exact hlt), Array.getElem_modify_self, hk]
  rfl
theorem blk_other {W : World} {g b k : Nat} {o : Obj} (h : W.heap[g]? = some o) (hne : g ≠ b) (v : Value) : (W.setCell ⟨b, k, none⟩ v).heap[g]? = some o :=
  (Below.heap_setCell W ⟨b, k, none⟩ v g hne).trans h
theorem blk_lt {W : World} {g : Nat} {o : Obj} (h : W.heap[g]? = some o) : g < W.heap.size := (Array.getElem?_eq_some_iff.1 h).1
theorem blk_below {W W' : World} {g : Nat} {o : Obj} (h : W.heap[g]? = some o) (hb : Below W.heap.size W W') : W'.heap[g]? = some o := (hb.block g (blk_lt h)).trans h

/-- A store into a block of the ring's own. -/
theorem Fr.set {i : Nat} {own own' : Nat → Nat} {w W : World} (h : Fr i own own' w W) {g : Nat} (hg : own' g = i) (k : Nat) (v : Value) (hN : ∀ j, j < w.heap.size → own j ≠ i → j ≠ g) : Fr i own own' w (W.setCell ⟨g, k, none⟩ v) :=
  ⟨h.os, h.tape, h.output, by show _ ≤ (W.heap.modify g _).size; rw [Array.size_modify]; exact h.size,
   fun j hj hi => (Below.heap_setCell W ⟨g, k, none⟩ v j (hN j hj hi)).trans (h.block j hj hi), h.old⟩
theorem Fr.set' {i : Nat} {own : Nat → Nat} {w W : World} (h : Fr i own own w W) {g : Nat} (hg : own g = i) (k : Nat) (v : Value) : Fr i own own w (W.setCell ⟨g, k, none⟩ v) :=
  h.set hg k v (fun j _ hj e => hj (by rw [e]; exact hg))
theorem Fr.drewN {i : Nat} {own own' : Nat → Nat} {w W : World} (h : Fr i own own' w W) (m : Nat) : Fr i own own' w (W.drewN m) := by
  exact ⟨by rw [World.drewN]; exact h.os, by rw [World.drewN]; exact h.tape, by rw [World.drewN]; exact h.output, by rw [World.drewN]; exact h.size, by rw [World.drewN]; exact h.block, h.old⟩
theorem Fr.then {i : Nat} {own own' : Nat → Nat} {w W W' : World} (h : Fr i own own' w W) (hb : Below W.heap.size W W') : Fr i own own' w W' :=
  ⟨hb.os.trans h.os, hb.tape.trans h.tape, hb.output.trans h.output, Nat.le_trans h.size hb.size, fun j hj hi => (hb.block j (Nat.lt_of_lt_of_le hj h.size)).trans (h.block j hj hi), h.old⟩

/-! Rows of things, each laid into cells. -/
section
variable {β : Type} (enc : β → List Value) (sz : Nat)

def flat (zs : List β) : List Value := zs.flatMap enc

theorem flat_nil : flat enc [] = [] := rfl
theorem flat_cons (x : β) (zs : List β) : flat enc (x :: zs) = enc x ++ flat enc zs := rfl
theorem flat_append (xs zs : List β) : flat enc (xs ++ zs) = flat enc xs ++ flat enc zs := by unfold flat; exact List.flatMap_append
variable (hsz : ∀ x, (enc x).length = sz)
include hsz
theorem flat_len (zs : List β) : (flat enc zs).length = zs.length * sz := by
  induction zs with
  | nil => simp [flat]
  | cons x r ih => rw [flat_cons, List.length_append, ih, hsz, List.length_cons, Nat.succ_mul]; omega
theorem flat_drop : ∀ (k : Nat) (zs : List β), (flat enc zs).drop (k * sz) = flat enc (zs.drop k)
  | 0, zs => by simp
  | k + 1, [] => by simp [flat]
  | k + 1, x :: r => by
    rw [flat_cons, List.drop_append, hsz, List.drop_succ_cons, ← flat_drop k r, List.drop_eq_nil_of_le (by rw [hsz, Nat.succ_mul]; omega), List.nil_append]
    congr 1; rw [Nat.succ_mul]; omega
theorem flat_take : ∀ (k : Nat) (zs : List β), (flat enc zs).take (k * sz) = flat enc (zs.take k)
  | 0, zs => by simp [flat]
  | k + 1, [] => by simp [flat]
  | k + 1, x :: r => by
    rw [flat_cons, List.take_append, hsz, List.take_succ_cons, flat_cons, ← flat_take k r, List.take_of_length_le (by rw [hsz, Nat.succ_mul]; omega)]
    congr 2; rw [Nat.succ_mul]; omega
theorem flat_at (zs : List β) (k j : Nat) (x : β) (v : Value) (hk : zs[k]? = some x) (hv : (enc x)[j]? = some v) : (flat enc zs)[k * sz + j]? = some v := by
  have h1 : (flat enc zs)[k * sz + j]? = ((flat enc zs).drop (k * sz))[j]? := by rw [List.getElem?_drop]
  rw [h1, flat_drop enc sz hsz]
  obtain ⟨hl, he⟩ := List.getElem?_eq_some_iff.1 hk
  rw [List.drop_eq_getElem_cons hl, he, flat_cons]
  rw [List.getElem?_append_left (List.getElem?_eq_some_iff.1 hv).1]
  exact hv
omit hsz in
/-- Two copies into a row of zeros. -/
theorem splice_two {α : Type} (Z A B : List α) (k : Nat) (hk : A.length = k) (h : A.length + B.length ≤ Z.length) : splice (splice Z 0 A) k B = A ++ (B ++ Z.drop (k + B.length)) := by
  subst hk
  unfold splice
  rw [List.take_zero, List.nil_append, Nat.zero_add]
  rw [List.take_left', List.drop_append]
  · rw [List.drop_eq_nil_of_le (by omega), List.nil_append, List.drop_drop]
    congr 3; omega
  · rfl
end

/-! What a ring holds. -/
/-- l is what lies in zs from front on, round and round. -/
def Holds {β : Type} (zs : List β) (front : Nat) (l : List β) : Prop := l.length ≤ zs.length ∧ ∀ i, i < l.length → l[i]? = zs[(front + i) % zs.length]?

theorem Holds.widen {β : Type} {zs l Z : List β} {front : Nat} (h : Holds zs front l) (hf : front ≤ zs.length) (hfull : l.length = zs.length) : Holds (zs.drop front ++ zs.take front ++ Z) 0 l := by
  have hlen : (zs.drop front ++ zs.take front).length = zs.length := by simp; omega
  refine ⟨by rw [List.length_append, hlen]; omega, fun i hi => ?_⟩
  rw [h.2 i hi, Nat.zero_add, Nat.mod_eq_of_lt (a := i) (by rw [List.length_append, hlen]; omega), List.getElem?_append_left (l₁ := zs.drop front ++ zs.take front) (by omega)]
  by_cases hc : front + i < zs.length
  · rw [Nat.mod_eq_of_lt hc, List.getElem?_append_left (by simp; omega), List.getElem?_drop]
  · rw [List.getElem?_append_right (by simp; omega), List.getElem?_take, if_pos (by simp; omega)]
    congr 1
    rw [Nat.mod_eq_sub_mod (by omega), Nat.mod_eq_of_lt (by omega)]; simp; omega

theorem mod_ne {f n i j : Nat} (hi : i < n) (hj : j < n) (h : i ≠ j) : (f + i) % n ≠ (f + j) % n := by
  intro e
  have hn : 0 < n := by omega
  have h1 := Nat.div_add_mod (f + i) n
  have h2 := Nat.div_add_mod (f + j) n
  rw [e] at h1
  have h3 : n * ((f + i) / n) + j = n * ((f + j) / n) + i := by omega
  rcases Nat.lt_trichotomy ((f + i) / n) ((f + j) / n) with hlt | heq | hgt
  · have := Nat.mul_le_mul_left n hlt; rw [Nat.mul_succ] at this; omega
  · rw [heq] at h3; omega
  · have := Nat.mul_le_mul_left n hgt; rw [Nat.mul_succ] at this; omega

theorem Holds.push {β : Type} {zs l : List β} {front : Nat} (x : β) (h : Holds zs front l) (hlt : l.length < zs.length) : Holds (zs.set ((front + l.length) % zs.length) x) front (l ++ [x]) := by
  have hm : (front + l.length) % zs.length < zs.length := Nat.mod_lt _ (by omega)
  refine ⟨by simp; omega, fun i hi => ?_⟩
  simp at hi
  rw [List.length_set]
  by_cases hc : i < l.length
  · rw [List.getElem?_append_left hc, List.getElem?_set_ne (mod_ne (by omega) (by omega) (by omega)), h.2 i hc]
  · obtain rfl : i = l.length := by omega
    rw [List.getElem?_append_right (by omega), List.getElem?_set_self hm]; simp

theorem Holds.set {β : Type} {zs l : List β} {front i : Nat} (x : β) (h : Holds zs front l) (hi : i < l.length) : Holds (zs.set ((front + i) % zs.length) x) front (l.set i x) := by
  have hl := h.1
  have hm : (front + i) % zs.length < zs.length := Nat.mod_lt _ (by omega)
  refine ⟨by simp; omega, fun j hj => ?_⟩
  simp at hj
  rw [List.length_set]
  by_cases hc : i = j
  · subst hc; rw [List.getElem?_set_self hj, List.getElem?_set_self hm]
  · rw [List.getElem?_set_ne hc, List.getElem?_set_ne (mod_ne (by omega) (by omega) hc), h.2 j hj]

/-- The last one goes, its cell is cleared. -/
theorem Holds.popBack {β : Type} {zs l : List β} {front : Nat} (z : β) (h : Holds zs front l) (hp : 0 < l.length) : Holds (zs.set ((front + (l.length - 1)) % zs.length) z) front l.dropLast := by
  have hl := h.1
  refine ⟨by simp; omega, fun j hj => ?_⟩
  simp at hj
  rw [List.length_set, List.getElem?_set_ne (mod_ne (by omega) (by omega) (by omega)), ← h.2 j (by omega), List.getElem?_dropLast, if_pos (by omega)]

theorem Holds.popFront {β : Type} {zs l : List β} {front : Nat} (z : β) (h : Holds zs front l) (hp : 0 < l.length) : Holds (zs.set ((front + 0) % zs.length) z) ((front + 1) % zs.length) l.tail := by
  have hl := h.1
  refine ⟨by simp; omega, fun j hj => ?_⟩
  simp at hj
  rw [List.length_set, Nat.mod_add_mod, List.getElem?_tail, Nat.add_assoc, Nat.add_comm 1 j, List.getElem?_set_ne (mod_ne (by omega) (by omega) (by omega))]
  exact h.2 (j + 1) (by omega)

/-! The sized copy. -/
theorem run_copy_sized {P : Program} (w : World) (dT sT ty elem : TypeId) (sz g o dLen dCap : Nat) (a : Addr) (sLen sCap : Nat) (cur : Array Value) (t : TypeId) (cs : List Value)
    (hu : P.underlying dT = some (.slice elem)) (hs : (P.info? elem).map (·.size) = some sz)
    (hg : w.heap[g]? = some (.cells cur t (0, 0))) (hn : cs.length = Nat.min sLen dLen * sz)
    (hsrc : ∀ j v, cs[j]? = some v → w.cell? (a.add j) = some v) (hfit : o + cs.length ≤ cur.size) (h1 : ∀ v ∈ cs, v.oneCell' = true) :
    (Builtin.copy_ #[dT, sT] ty #[.slice (some ⟨g, o, none⟩) dLen dCap, .slice (some a) sLen sCap]).run P w =
      .ok (goInt (Nat.min sLen dLen)) (w.setRow g (cur.toList.take o ++ cs ++ cur.toList.drop (o + cs.length)).toArray) := by
  have hl := run_loadCells_list (P := P) w a cs hsrc
  have hst := run_storeCells_at P g o t cs 0 cur w hg (by simpa using hfit) h1
  cases hq : P.info? elem with
  | none => simp [hq] at hs
  | some i =>
    have hi : i.size = sz := by simpa [hq] using hs
    simp [Builtin.copy_, run_underlying hu, Builtin.lenOf, Builtin.firstCells, sizeOf, typeInfo, hq, hi, ← hn, hl, hst]

theorem run_copy_none_sized {P : Program} (w : World) (dT sT ty elem : TypeId) (sz : Nat) (d a : Option Addr) (dLen dCap sLen sCap : Nat) (hu : P.underlying dT = some (.slice elem)) (hs : (P.info? elem).map (·.size) = some sz) (hn : Nat.min sLen dLen = 0) :
    (Builtin.copy_ #[dT, sT] ty #[.slice d dLen dCap, .slice a sLen sCap]).run P w = .ok (goInt 0) w := by
  cases hq : P.info? elem with
  | none => simp [hq] at hs
  | some i =>
    have hl : ∀ (x : Addr), (loadCells x 0).run P w = .ok #[] w := fun x => by simpa using run_loadCells_list (P := P) w x [] (by simp)
    cases d <;> cases a <;> simp [Builtin.copy_, run_underlying hu, Builtin.lenOf, Builtin.firstCells, sizeOf, typeInfo, hq, hn, storeCells, hl]

/-- copy as a step of a region that draws its order, things of sz cells. -/
theorem step_copy_sized {P : Program} {ops : Array Oper} {o : Oper} {a : Act} {w : World} {K : Act → World → Prop} {Q : Exit → Act → World → Prop} {E : Prop} (hgd : o.guard = none) (d s : Operand) (dT sT : TypeId)
    (ho : o.op = .call { callee := .builtin .copy, args := #[d, s], argTypes := #[dT, sT] }) (elem : TypeId) (sz : Nat) (hu : P.underlying dT = some (.slice elem)) (hsz : (P.info? elem).map (·.size) = some sz)
    (dp sp : Option Addr) (dLen dCap sLen sCap : Nat) (hd : a.eval d = .slice dp dLen dCap) (hs : a.eval s = .slice sp sLen sCap)
    (g off : Nat) (cur : List Value) (t : TypeId) (hg : w.heap[g]? = some (.cells cur.toArray t (0, 0))) (cs : List Value) (m : Nat) (hm : m = Nat.min sLen dLen) (hn : cs.length = m * sz)
    (hpos : 0 < m → dp = some ⟨g, off, none⟩ ∧ ∃ ad, sp = some ad ∧ ∀ j v, cs[j]? = some v → w.cell? (ad.add j) = some v)
    (hfit : off + cs.length ≤ cur.length) (h1 : ∀ v ∈ cs, v.oneCell' = true) (B : Nat) (w0 : World) (hb : RowKit.Below B w0 w) (hBg : B ≤ g)
    (h : ∀ w', RowKit.Hid (w'.heap[g]? = some (.cells (splice cur off cs).toArray t (0, 0))) → RowKit.Below B w0 w' → K (a.put o.dst (goInt m)) w') :
    if Region.wanted o (yielded ops a.tmps) = true then Oper.wp P o a w K Q else E := by
  have hw : Region.wanted o (yielded ops a.tmps) = true := by simp [Region.wanted, hgd]
  rw [if_pos hw]
  by_cases h0 : m = 0
  · subst h0
    obtain rfl : cs = [] := List.eq_nil_of_length_eq_zero (by simpa using hn)
    have hrun := run_copy_none_sized (P := P) w dT sT o.type elem sz dp sp dLen dCap sLen sCap hu hsz hm.symm
    unfold Oper.wp
    simp [execOp, ho, resolve, invoke, builtin, hd, hs, hrun, Result.andThen]
    exact h w (show _ = _ by simpa [splice] using hg) hb
  · obtain ⟨rfl, ad, rfl, hsrc⟩ := hpos (by omega)
    have hrun := run_copy_sized (P := P) w dT sT o.type elem sz g off dLen dCap ad sLen sCap cur.toArray t cs hu hsz hg (by rw [hn, hm]) hsrc (by simpa using hfit) h1
    rw [← hm] at hrun
    unfold Oper.wp
    simp [execOp, ho, resolve, invoke, builtin, hd, hs, hrun, Result.andThen]
    exact h _ (show _ = _ by simpa [splice] using setRow_heap w g _ _ t _ hg) (below_setRow hb hBg _)

end Go.Proofs.YtnmjkgjhjnpijaaDoor

set_option linter.unusedVariables false
set_option linter.unusedSimpArgs false
namespace Go.Proofs.YtnmjkgjhjnpijaaDoor
open Go.RowKit
open Go.Lib (strCells strCells_length)

/-! Bytes as cells. -/
def bc (l : List UInt8) : List Value := l.map fun b => Value.int .u8 b.toNat
theorem bc_len (l : List UInt8) : (bc l).length = l.length := by simp [bc]
theorem bc_app (a b : List UInt8) : bc (a ++ b) = bc a ++ bc b := by simp [bc]
theorem bc_str (s : ByteArray) : strCells s = bc s.data.toList := rfl
theorem bc_get (l : List UInt8) (j : Nat) (x : UInt8) (h : l[j]? = some x) : (bc l)[j]? = some (.int .u8 x.toNat) := by simp [bc, h]
theorem bc_one (l : List UInt8) : ∀ u ∈ bc l, u.oneCell' = true := by
  intro u hu
  simp only [bc, List.mem_map] at hu
  obtain ⟨x, _, rfl⟩ := hu
  rfl
theorem bc_drop (l : List UInt8) (k : Nat) : (bc l).drop k = bc (l.drop k) := by simp [bc]
theorem bc_take (l : List UInt8) (k : Nat) : (bc l).take k = bc (l.take k) := by simp [bc]

/-! Where an append of a text puts the new row. -/
theorem run_append_string_at {P : Program} (w : World) (base : Nat) (t u ty e : TypeId) (i : TypeInfo) (ht : P.underlying t = some (.slice e)) (hu : P.underlying u = some .string) (hi : P.info? e = some i) (hz : i.zero = some (.int .u8 0))
    (hsize : i.size = 1) (hby : i.bytes = 1) (v : Value) (n : Nat) (xs : List Value) (hown : w.ownsRow base e 1 v n xs) (s : ByteArray)
    (h63 : n + s.size ≤ maxLen) (hbytes : n + s.size ≤ 140737488355328) (hbase : base ≤ w.heap.size) :
    ∃ v' w', (Builtin.append_ #[t, u] ty #[v, .string s]).run P w = .ok v' w' ∧ w'.ownsRow base e 1 v' (n + s.size) (xs ++ strCells s) ∧ w.grownBy w' v.ownBlock ∧ (v'.ownBlock = v.ownBlock ∨ v'.ownBlock = some w.heap.size) := by
  obtain ⟨v', w', hr, h1, h2, h3⟩ := Lib.run_append_own_string (P := P) w base t u ty e i ht hu hi hz hsize hby v n xs hown s h63 hbytes hbase
  refine ⟨v', w', hr, h1, h2, ?_⟩
  have hsmall : n + s.size ≤ 9223372036854775807 := by simp only [maxLen] at h63; omega
  have hxl : xs.length = n := by simpa using hown.1
  rcases hown.2 with ⟨rfl, rfl⟩ | ⟨g, cap, cur, rfl, hbg, hg, hnc, hcm, hcs, htake⟩
  · by_cases hm : s.size = 0
    · left; rw [h3.2 ⟨rfl, hm⟩]
    · have hr2 := run_append_nil_string (P := P) w t u ty e i (.int .u8 0) ht hu hi hz s (by omega) (by omega) (by rw [hby]; omega)
      rw [hr2] at hr
      injection hr with e1 e2
      right; rw [← e1]; rfl
  · by_cases hroom : n + s.size ≤ cap
    · have hcs' : cur.size = cap := by simpa using hcs
      have hr2 := Lib.run_append_room_string (P := P) w t u ty e i ht hu hi hsize g n cap cur hg s hroom (by omega)
      rw [hr2] at hr
      injection hr with e1 e2
      left; rw [← e1]; rfl
    · have holds : ∀ j u, xs[j]? = some u → w.cell? ((⟨g, 0, none⟩ : Addr).add j) = some u := hown.cells (g := g) rfl
      have hr2 := Lib.run_append_grow_string (P := P) w t u ty e i (.int .u8 0) ht hu hi hz ⟨g, 0, none⟩ n cap xs (by rw [hsize]; simpa using hxl) holds s (by omega) (by omega) (by rw [hby]; exact growslice_fits (by omega) (by omega))
      rw [hr2] at hr
      injection hr with e1 e2
      right; rw [← e1]; rfl

theorem wpList_append_string_at {P : Program} {w : World} {ops : Array Oper} {rest : List Oper} {o : Oper} {a : Act} {Q : Exit → Act → World → Prop} (hgd : o.guard = none) (sl x : Operand) (t u : TypeId)
    (ho : o.op = .call { callee := .builtin .append, args := #[sl, x], argTypes := #[t, u] })
    (base : Nat) (e : TypeId) (i : TypeInfo) (ht : P.underlying t = some (.slice e)) (hu : P.underlying u = some .string) (hi : P.info? e = some i) (hz : i.zero = some (.int .u8 0))
    (hsize : i.size = 1) (hby : i.bytes = 1)
    (v : Value) (n : Nat) (xs : List Value) (hs : a.eval sl = v) (hown : w.ownsRow base e 1 v n xs) (s : ByteArray) (hx : a.eval x = .string s)
    (h63 : n + s.size ≤ maxLen) (hbytes : n + s.size ≤ 140737488355328) (hbase : base ≤ w.heap.size)
    (h : ∀ v' w', w'.ownsRow base e 1 v' (n + s.size) (xs ++ strCells s) → w.grownBy w' v.ownBlock → (v'.ownBlock = v.ownBlock ∨ v'.ownBlock = some w.heap.size) → wpList P ops Q rest (a.put o.dst v') w') : wpList P ops Q (o :: rest) a w := by
  refine wpList_plain hgd fun K hK => ?_
  obtain ⟨v', w', hr, h2, h3, h4⟩ := run_append_string_at (P := P) w base t u o.type e i ht hu hi hz hsize hby v n xs hown s h63 hbytes hbase
  unfold Oper.wp execOp
  simp only [ho, resolve, invoke, builtin, Sem.run_bind, Sem.run_pure, Result.andThen_ok, List.map_toArray, List.map_cons, List.map_nil, hs, hx, hr]
  exact hK _ _ (h v' w' h2 h3 h4)

/-! What stands but for some blocks. -/
structure Kp (S : Nat → Prop) (w w' : World) : Prop where
  os : w'.os = w.os
  tape : w'.tape = w.tape
  output : w'.output = w.output
  size : w.heap.size ≤ w'.heap.size
  block : ∀ k, k < w.heap.size → ¬ S k → w'.heap[k]? = w.heap[k]?

theorem Kp.refl (S : Nat → Prop) (w : World) : Kp S w w := ⟨rfl, rfl, rfl, Nat.le_refl _, fun _ _ _ => rfl⟩
theorem Kp.trans {S : Nat → Prop} {a b c : World} (h : Kp S a b) (k : Kp S b c) : Kp S a c :=
  ⟨k.os.trans h.os, k.tape.trans h.tape, k.output.trans h.output, Nat.le_trans h.size k.size, fun j hj hS => (k.block j (Nat.lt_of_lt_of_le hj h.size) hS).trans (h.block j hj hS)⟩
/-- One step behind others: what the step turns is among S, or was not there at first. -/
theorem Kp.step {S T : Nat → Prop} {a b c : World} (h : Kp S a b) (k : Kp T b c) (hT : ∀ j, j < a.heap.size → T j → S j) : Kp S a c :=
  ⟨k.os.trans h.os, k.tape.trans h.tape, k.output.trans h.output, Nat.le_trans h.size k.size, fun j hj hS => (k.block j (Nat.lt_of_lt_of_le hj h.size) (fun ht => hS (hT j hj ht))).trans (h.block j hj hS)⟩
theorem Kp.of_below {S : Nat → Prop} {w w' : World} (h : Below w.heap.size w w') : Kp S w w' := ⟨h.os, h.tape, h.output, h.size, fun k hk _ => h.block k hk⟩
theorem Kp.of_grown {w w' : World} {row : Option Nat} (h : w.grownBy w' row) : Kp (fun k => some k = row) w w' := ⟨h.os, h.tape, h.output, h.size, fun k hk hS => h.block k hk hS⟩
theorem Kp.set (w : World) (g k : Nat) (v : Value) : Kp (fun j => j = g) w (w.setCell ⟨g, k, none⟩ v) :=
  ⟨rfl, rfl, rfl, by show _ ≤ (w.heap.modify g _).size; rw [Array.size_modify]; exact Nat.le_refl _, fun j hj hS => Below.heap_setCell w ⟨g, k, none⟩ v j hS⟩
theorem Kp.alloc {S : Nat → Prop} {a b : World} (h : Kp S a b) (o : Obj) : Kp S a (b.alloc o) := h.step (T := S) (Kp.of_below ((Below.refl _ _).alloc (Nat.le_refl _) _)) (fun _ _ h => h)
theorem Kp.same {S : Nat → Prop} {w W W' : World} (h : Kp S w W) (h1 : W'.heap = W.heap) (h2 : W'.os = W.os) (h3 : W'.tape = W.tape) (h4 : W'.output = W.output) : Kp S w W' :=
  ⟨h2.trans h.os, h3.trans h.tape, h4.trans h.output, by rw [h1]; exact h.size, by rw [h1]; exact h.block⟩
theorem Kp.fr {S : Nat → Prop} {i : Nat} {own own' : Nat → Nat} {w w' : World} (h : Kp S w w') (hS : ∀ k, k < w.heap.size → S k → own k = i) (ho : ∀ k, k < w.heap.size → own' k = own k) : Fr i own own' w w' :=
  ⟨h.os, h.tape, h.output, h.size, fun k hk hi => h.block k hk (fun hs => hi (hS k hk hs)), ho⟩
theorem Kp.blk {S : Nat → Prop} {w w' : World} (h : Kp S w w') {g : Nat} {o : Obj} (hg : w.heap[g]? = some o) (hS : ¬ S g) : w'.heap[g]? = some o := (h.block g (blk_lt hg) hS).trans hg
theorem Kp.row {S : Nat → Prop} {w w' : World} (h : Kp S w w') {e sz n : Nat} {v : Value} {xs : List Value} (hr : w.ownsRow 0 e sz v n xs) (hS : ∀ k, v.ownBlock = some k → ¬ S k) : w'.ownsRow 0 e sz v n xs := by
  refine ⟨hr.1, ?_⟩
  rcases hr.2 with h1 | ⟨g, cap, cur, rfl, h2, h3, h4⟩
  · exact .inl h1
  · exact .inr ⟨g, cap, cur, rfl, h2, h.blk h3 (hS g rfl), h4⟩
/-- A row's block is no block of another type. -/
theorem row_ne {w : World} {e sz n g : Nat} {v : Value} {xs : List Value} {cs : Array Value} {T : TypeId} {f : Nat × Nat} (hr : w.ownsRow 0 e sz v n xs) (hg : w.heap[g]? = some (.cells cs T f)) (hT : T ≠ e) : v.ownBlock ≠ some g := by
  intro h
  rcases hr.2 with ⟨rfl, _⟩ | ⟨b, cap, cur, rfl, _, h3, _⟩
  · cases h
  · simp only [Value.ownBlock, Option.some.injEq] at h
    subst h
    rw [hg] at h3
    injection h3 with h4
    injection h4 with _ h5
    exact hT h5
theorem row_shape {w : World} {e sz n : Nat} {v : Value} {xs : List Value} (hr : w.ownsRow 0 e sz v n xs) : ∃ p cap, v = .slice p n cap ∧ n ≤ cap ∧ cap ≤ maxLen := by
  rcases hr.2 with ⟨rfl, rfl⟩ | ⟨b, cap, cur, rfl, _, h3, h4, h5, _⟩
  · exact ⟨none, 0, rfl, Nat.le_refl _, Nat.zero_le _⟩
  · exact ⟨_, cap, rfl, h4, h5⟩
theorem row_below {w w' : World} {e sz n : Nat} {v : Value} {xs : List Value} (hr : w.ownsRow 0 e sz v n xs) (hb : Below w.heap.size w w') : w'.ownsRow 0 e sz v n xs :=
  (Kp.of_below (S := fun _ => False) hb).row hr (fun _ _ h => h)

/-! What was written: a text, and the blanks that stand ahead of its bytes. -/
def weave : Nat → List (Nat × Nat) → List UInt8 → List UInt8
  | f, [], t => t.drop f
  | f, (a, n) :: r, t => (t.drop f).take (a - f) ++ (List.replicate n 32 ++ weave a r t)
def Ups : Nat → List (Nat × Nat) → Nat → Prop
  | f, [], m => f ≤ m
  | f, (a, _) :: r, m => f ≤ a ∧ Ups a r m
def sums : List (Nat × Nat) → Nat
  | [] => 0
  | (_, n) :: r => n + sums r

theorem Ups.le {f : Nat} {gs : List (Nat × Nat)} {m : Nat} (h : Ups f gs m) : f ≤ m := by
  induction gs generalizing f with
  | nil => exact h
  | cons x r ih => obtain ⟨a, n⟩ := x; exact Nat.le_trans h.1 (ih h.2)
theorem Ups.more {f : Nat} {gs : List (Nat × Nat)} {m m' : Nat} (h : Ups f gs m) (hm : m ≤ m') : Ups f gs m' := by
  induction gs generalizing f with
  | nil => exact Nat.le_trans h hm
  | cons x r ih => obtain ⟨a, n⟩ := x; exact ⟨h.1, ih h.2⟩
theorem Ups.snoc {f : Nat} {gs : List (Nat × Nat)} {m : Nat} (n : Nat) (h : Ups f gs m) : Ups f (gs ++ [(m, n)]) m := by
  induction gs generalizing f with
  | nil => exact ⟨h, Nat.le_refl _⟩
  | cons x r ih => obtain ⟨a, n⟩ := x; exact ⟨h.1, ih h.2⟩
theorem weave_app {f : Nat} {gs : List (Nat × Nat)} {t : List UInt8} (s : List UInt8) (h : Ups f gs t.length) : weave f gs (t ++ s) = weave f gs t ++ s := by
  induction gs generalizing f with
  | nil => simp only [weave]; exact List.drop_append_of_le_length h
  | cons x r ih =>
    obtain ⟨a, n⟩ := x
    have ha := h.2.le
    simp only [weave]
    rw [ih h.2, List.drop_append_of_le_length (Nat.le_trans h.1 ha), List.take_append_of_le_length (by rw [List.length_drop]; have := h.1; omega)]
    simp [List.append_assoc]
theorem weave_gap {f : Nat} {gs : List (Nat × Nat)} {t : List UInt8} (n : Nat) (h : Ups f gs t.length) : weave f (gs ++ [(t.length, n)]) t = weave f gs t ++ List.replicate n 32 := by
  induction gs generalizing f with
  | nil => simp only [weave, List.nil_append]; rw [List.take_of_length_le (by simp), List.drop_length]; simp
  | cons x r ih =>
    obtain ⟨a, k⟩ := x
    simp only [weave, List.cons_append]
    rw [ih h.2]
    simp [List.append_assoc]
theorem weave_len {f : Nat} {gs : List (Nat × Nat)} {t : List UInt8} (h : Ups f gs t.length) : (weave f gs t).length = t.length - f + sums gs := by
  induction gs generalizing f with
  | nil => simp [weave, sums]
  | cons x r ih =>
    obtain ⟨a, k⟩ := x
    have ha := h.2.le
    have h1 := h.1
    simp only [weave, sums, List.length_append, List.length_replicate, List.length_take, List.length_drop, ih h.2]
    omega
theorem sums_app (a : List (Nat × Nat)) (x n : Nat) : sums (a ++ [(x, n)]) = sums a + n := by
  induction a with
  | nil => simp [sums]
  | cons y r ih => obtain ⟨b, k⟩ := y; simp only [List.cons_append, sums, ih]; omega
end Go.Proofs.YtnmjkgjhjnpijaaDoor
