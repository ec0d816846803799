import Derived.Test.YtpobcbailpjaeaaPh
import Derived.Test.YtpobcbailpjaeaaRw
import Derived.Laws.BytesString
import Derived.Lib.AppendStr
set_option linter.unusedVariables false
set_option linter.unusedSimpArgs false
namespace Go.Proofs.Ytpobcbailpjaeaa
open Go.RowKit Go.Shelf

theorem Try.info5 : (Try.prog.info? 5).map (fun i => (i.zero, i.size, i.bytes)) = some (some (.int .u8 0), 1, 1) := by kernel_rfl

/-- Where the first so many lines end. -/
def oe (s : ByteArray) : Nat → Nat
  | 0 => 0
  | j + 1 => nl s (bg s j)

theorem oe_le (s : ByteArray) (j : Nat) (h : j ≤ LN s) : oe s j ≤ s.size := by
  unfold LN at h
  cases j with
  | zero => exact Nat.zero_le _
  | succ j => exact (nl_bg s j (by omega)).2.1

theorem oe_end (s : ByteArray) : s.extract 0 (oe s (LN s)) = s := by
  have h := nl_bg s (cn s s.size) (Nat.le_refl _)
  show s.extract 0 (nl s (bg s (cn s s.size))) = s
  rw [show nl s (bg s (cn s s.size)) = s.size by omega, extract_all]

open Go.Lib (strCells strCells_length)

theorem strCells_get (t : ByteArray) (k : Nat) (h : k < t.size) : (strCells t)[k]? = some (.int .u8 (by8 t k)) := by
  unfold strCells
  have hz : k < t.data.size := h
  rw [List.getElem?_map, Array.getElem?_toList, Array.getElem?_eq_getElem hz]
  show some (Value.int .u8 ((t.data[k]).toNat : Int)) = _
  congr 2
  unfold by8
  show ((t.data[k].toNat : Nat) : Int) = ((t.data[k]!).toNat : Nat)
  rw [getElem!_pos t.data k hz]

theorem strCells_ext (l : List Value) (t : ByteArray) (hz : l.length = t.size) (h : ∀ k, k < t.size → l[k]? = some (.int .u8 (by8 t k))) : l = strCells t := by
  apply List.ext_getElem?
  intro k
  by_cases hk : k < t.size
  · rw [h k hk, strCells_get t k hk]
  · rw [List.getElem?_eq_none (by omega), List.getElem?_eq_none (by rw [strCells_length]; omega)]

theorem strCells_snoc (s : ByteArray) (e : Nat) (he : e < s.size) (h : by8 s e = 10) : strCells (s.extract 0 e) ++ [.int .u8 10] = strCells (s.extract 0 (e + 1)) := by
  have z1 := size_ext s 0 e (by omega)
  have z2 := size_ext s 0 (e + 1) he
  refine strCells_ext _ _ (by rw [List.length_append, strCells_length]; simp; omega) fun k hk => ?_
  rw [by8_head s _ k (by omega)]
  by_cases h1 : k < e
  · rw [List.getElem?_append_left (by rw [strCells_length]; omega), strCells_get _ _ (by omega), by8_head s _ k h1]
  · have : k = e := by omega
    subst this
    rw [List.getElem?_append_right (by rw [strCells_length]; omega), strCells_length, show k - (s.extract 0 k).size = 0 by omega, h]
    rfl

theorem strCells_app (s : ByteArray) (a b : Nat) (hab : a ≤ b) (hb : b ≤ s.size) : strCells (s.extract 0 a) ++ strCells (s.extract a b) = strCells (s.extract 0 b) := by
  have z1 := size_ext s 0 a (by omega)
  have z2 := size_ext s a b hb
  have z3 := size_ext s 0 b hb
  refine strCells_ext _ _ (by rw [List.length_append, strCells_length, strCells_length]; omega) fun k hk => ?_
  rw [by8_head s _ k (by omega)]
  by_cases h1 : k < a
  · rw [List.getElem?_append_left (by rw [strCells_length]; omega), strCells_get _ _ (by omega), by8_head s _ k h1]
  · rw [List.getElem?_append_right (by rw [strCells_length]; omega), strCells_length, strCells_get _ _ (by omega), by8_ext' s a b _ (by omega), show a + (k - (s.extract 0 a).size) = k by omega]

/-- What the lines add to what has come. -/
theorem oe_first (s : ByteArray) : strCells (s.extract 0 (oe s 0)) ++ strCells (ln s 0) = strCells (s.extract 0 (oe s 1)) := by
  have h := nl_bg s 0 (Nat.zero_le _)
  exact strCells_app s 0 (nl s (bg s 0)) (Nat.zero_le _) h.2.1

theorem oe_next (s : ByteArray) (j : Nat) (h : j + 1 < LN s) : (strCells (s.extract 0 (oe s (j + 1))) ++ [.int .u8 10]) ++ strCells (ln s (j + 1)) = strCells (s.extract 0 (oe s (j + 2))) := by
  unfold LN at h
  have h1 := nl_bg s j (by omega)
  have h2 := nl_bg s (j + 1) (by omega)
  have h3 : nl s (bg s j) < s.size := h1.2.2.2 (by omega)
  have h4 := (nl_facts s (bg s j) (bg_facts s j (by omega)).1).2.2.2 h3
  show (strCells (s.extract 0 (nl s (bg s j))) ++ _) ++ strCells (s.extract (nl s (bg s j) + 1) (nl s (bg s (j + 1)))) = _
  have h5 : nl s (bg s j) + 1 ≤ nl s (bg s (j + 1)) := h2.1
  rw [strCells_snoc s _ h3 h4, strCells_app s _ _ h5 h2.2.1]
  rfl

theorem push_bytes (l : List UInt8) : ∀ s : ByteArray, (l.map (fun b : UInt8 => (b.toNat : Int))).foldl (fun r n => r.push (UInt8.ofNat n.toNat)) s = ⟨(s.data.toList ++ l).toArray⟩ := by
  induction l with
  | nil => intro s; simp
  | cons b l ih =>
    intro s
    rw [List.map_cons, List.foldl_cons, ih]
    simp

theorem conv_str (wr : World) (B : Nat) (v : Value) (t : ByteArray) (n : Nat) (hn : n = t.size) (hv : wr.ownsRow B 5 1 v n (strCells t)) : (convert 40 9 v).run Try.prog wr = .ok (.string t) wr := by
  subst hn
  rcases hv.2 with ⟨rfl, h0⟩ | ⟨g, cp, cur, rfl, h2⟩
  · have e : t = ⟨#[]⟩ := ba_ext _ _ (by rw [h0]; rfl) (fun i hi => by omega)
    rw [run_convert_bytes_string (P := Try.prog) wr 40 9 5 _ _ _ Try.underlying40 Try.underlying5 Try.underlying9, e]
    rfl
  · rw [run_convert_bytes_string (P := Try.prog) wr 40 9 5 _ _ _ Try.underlying40 Try.underlying5 Try.underlying9]
    have hcell : ∀ j, j < t.size → wr.cell? ((⟨g, 0, none⟩ : Addr).add j) = some (.int .u8 (by8 t j)) := fun j hj => hv.cells rfl j _ (strCells_get t j hj)
    have hload := run_loadCells (P := Try.prog) wr ⟨g, 0, none⟩ t.size (fun j => .int .u8 (by8 t j)) hcell
    rw [run_bytesToString (P := Try.prog) wr ⟨g, 0, none⟩ t.size cp (t.data.toList.map (fun b : UInt8 => (b.toNat : Int))) (by
      rw [hload]
      congr 2
      apply List.ext_getElem?
      intro i
      by_cases hi : i < t.size
      · have := strCells_get t i hi
        unfold strCells at this
        rw [List.map_map]
        rw [List.getElem?_map, List.getElem?_range hi]
        exact this.symm
      · rw [List.getElem?_eq_none (by simp; omega), List.getElem?_eq_none (by simp; exact Nat.le_of_not_lt hi)]), push_bytes]
    rfl

end Go.Proofs.Ytpobcbailpjaeaa
