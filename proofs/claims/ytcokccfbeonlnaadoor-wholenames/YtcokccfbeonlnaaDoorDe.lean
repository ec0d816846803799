import Derived.Test.YtcokccfbeonlnaaDoorRows
import Derived.Test.YtcokccfbeonlnaaDoorSe
import Derived.Test.YtcokccfbeonlnaaDoorDb
import Derived.WalkKit
import Derived.WalkSpells
import Derived.WalkLawsBesides
import Derived.WalkSmall
import Derived.Deep.RegionLaw
import Derived.Deep.AppendLies
import Derived.Maps.AppendAt
import Derived.Lib.AppendStr
import Derived.Lib.LaidTab
set_option linter.unusedVariables false
set_option linter.unusedSimpArgs false
namespace Go.Proofs.YtcokccfbeonlnaaDoor
open Go.RowKit
open Go.Lib (strCells strCells_length)

/-! Blocks. -/
/-! Rows of things, each laid into cells. -/
section
variable {β : Type} (enc : β → List Value) (sz : Nat)

variable (hsz : ∀ x, (enc x).length = sz)
include hsz
end

/-! Bytes as cells. -/
/-! Where an append of a text puts the new row. -/
/-! What stands but for some blocks. -/
theorem heap_new (w : World) (o : Obj) : (w.alloc o).heap[w.heap.size]? = some o := new_at w o
theorem tl_true {s x : ByteArray} (h : s = x) : (s.toList == x.toList) = true := by subst h; simp
theorem tl_false {s x : ByteArray} (h : s ≠ x) : (s.toList == x.toList) = false := by
  rw [beq_eq_false_iff_ne, Lib.toList_data, Lib.toList_data]
  intro e
  exact h (ls_inj e)
/-! Pieces as values. -/
def Dc.v (d : Dc) : Value := .agg #[.int .u8 d.k, .string d.t, .int .i64 d.b, .int .i64 d.i, .bool d.e]
def Dc.cs (d : Dc) : List Value := [.int .u8 d.k, .string d.t, .int .i64 d.b, .int .i64 d.i, .bool d.e]
theorem Dc.cs_len (d : Dc) : d.cs.length = 5 := rfl
theorem Dc.cs_one (d : Dc) : ∀ u ∈ d.cs, u.oneCell' = true := by
  intro u hu
  simp only [Dc.cs, List.mem_cons, List.not_mem_nil, or_false] at hu
  rcases hu with rfl | rfl | rfl | rfl | rfl <;> rfl
def dcs (l : List Dc) : List Value := flat Dc.cs l
theorem dcs_len (l : List Dc) : (dcs l).length = l.length * 5 := flat_len Dc.cs 5 Dc.cs_len l
theorem dcs_one (l : List Dc) : ∀ u ∈ dcs l, u.oneCell' = true := by
  intro u hu
  obtain ⟨d, _, h⟩ := List.mem_flatMap.1 hu
  exact d.cs_one u h

/-- The pieces that a slice holds. -/
def Lay (w : World) (ao : Option Addr) (l : List Dc) : Prop := ∀ j d, l[j]? = some d → d.t.size ≤ 9223372036854775807 ∧ ∃ b off, ao = some ⟨b, off, none⟩ ∧
  w.cell? ⟨b, off + j * 5, none⟩ = some (.int .u8 d.k) ∧ w.cell? ⟨b, off + j * 5 + 1, none⟩ = some (.string d.t) ∧ w.cell? ⟨b, off + j * 5 + 2, none⟩ = some (.int .i64 d.b) ∧ w.cell? ⟨b, off + j * 5 + 3, none⟩ = some (.int .i64 d.i) ∧ w.cell? ⟨b, off + j * 5 + 4, none⟩ = some (.bool d.e)
theorem Lay.kp {S : Nat → Prop} {w w' : World} {ao : Option Addr} {l : List Dc} (h : Lay w ao l) (hb : Kp S w w') (hS : ∀ a, ao = some a → ¬ S a.block) : Lay w' ao l := by
  intro j a ha
  obtain ⟨h0, b, off, h1, c0, c1, c2, c3, c4⟩ := h j a ha
  have hlt := World.block_lt_of_cell? _ _ c0
  have e : w'.heap[b]? = w.heap[b]? := hb.block b hlt (hS _ h1)
  exact ⟨h0, b, off, h1, (World.cell?_of_block (a := ⟨b, _, none⟩) e).trans c0, (World.cell?_of_block (a := ⟨b, _, none⟩) e).trans c1, (World.cell?_of_block (a := ⟨b, _, none⟩) e).trans c2, (World.cell?_of_block (a := ⟨b, _, none⟩) e).trans c3, (World.cell?_of_block (a := ⟨b, _, none⟩) e).trans c4⟩
theorem Lay.below {w w' : World} {ao : Option Addr} {l : List Dc} (h : Lay w ao l) (hb : Below w.heap.size w w') : Lay w' ao l := h.kp (Kp.of_below (S := fun _ => False) hb) (fun _ _ h => h)
theorem Lay.row {w : World} {B : Nat} {v : Value} {n : Nat} {l : List Dc} (h : w.ownsRow B 26 5 v n (dcs l)) (ht : ∀ d ∈ l, d.t.size ≤ 9223372036854775807) : ∃ ao cap, v = .slice ao l.length cap ∧ n = l.length ∧ Lay w ao l ∧ (ao = none ∨ ∃ g, ao = some ⟨g, 0, none⟩ ∧ B ≤ g ∧ g < w.heap.size) ∧ l.length ≤ cap ∧ cap ≤ maxLen := by
  have hn : n = l.length := by have := h.1; rw [dcs_len] at this; omega
  subst hn
  rcases h.2 with ⟨rfl, h0⟩ | ⟨g, cap, cur, rfl, hb, hg, h3, h4, h5, h6⟩
  · have : l = [] := List.eq_nil_of_length_eq_zero h0
    subst this
    exact ⟨none, 0, rfl, rfl, fun j d h => by simp at h, .inl rfl, Nat.zero_le _, Nat.zero_le _⟩
  · refine ⟨some ⟨g, 0, none⟩, cap, rfl, rfl, ?_, .inr ⟨g, rfl, hb, blk_lt hg⟩, h3, h4⟩
    intro j d hj
    have hc : ∀ (k : Nat) (u : Value), (dcs l)[k]? = some u → w.cell? ⟨g, k, none⟩ = some u := fun k u hu => by
      have := h.cells (g := g) rfl k u hu
      rw [Addr.add_lit, Nat.zero_add] at this
      exact this
    refine ⟨ht d (List.mem_of_getElem? hj), g, 0, rfl, ?_, ?_, ?_, ?_, ?_⟩
    · rw [Nat.zero_add]; exact hc _ _ (flat_at Dc.cs 5 Dc.cs_len l j 0 d _ hj rfl)
    · rw [Nat.zero_add]; exact hc _ _ (flat_at Dc.cs 5 Dc.cs_len l j 1 d _ hj rfl)
    · rw [Nat.zero_add]; exact hc _ _ (flat_at Dc.cs 5 Dc.cs_len l j 2 d _ hj rfl)
    · rw [Nat.zero_add]; exact hc _ _ (flat_at Dc.cs 5 Dc.cs_len l j 3 d _ hj rfl)
    · rw [Nat.zero_add]; exact hc _ _ (flat_at Dc.cs 5 Dc.cs_len l j 4 d _ hj rfl)
/-- The cells behind one another. -/
theorem Lay.cells {w : World} {a : Addr} {l : List Dc} (h : Lay w (some a) l) : ∀ j u, (dcs l)[j]? = some u → w.cell? (a.add j) = some u := by
  intro j u hu
  have hj := (List.getElem?_eq_some_iff.1 hu).1
  rw [dcs_len] at hj
  have hk : j / 5 < l.length := by omega
  have hd : l[j / 5]? = some l[j / 5] := List.getElem?_eq_getElem hk
  obtain ⟨_, b, off, e, c0, c1, c2, c3, c4⟩ := h _ _ hd
  cases e
  have hu2 : (dcs l)[j / 5 * 5 + j % 5]? = some u := by rw [show j / 5 * 5 + j % 5 = j by omega]; exact hu
  have hA : (⟨b, off, none⟩ : Addr).add j = ⟨b, off + j, none⟩ := Addr.add_lit _ _ _
  rw [hA, show off + j = off + j / 5 * 5 + j % 5 by omega]
  have hm : j % 5 < 5 := Nat.mod_lt _ (by omega)
  generalize j % 5 = m at *
  match m, hm with
  | 0, _ => rw [show (dcs l)[j / 5 * 5 + 0]? = _ from flat_at Dc.cs 5 Dc.cs_len l _ 0 _ _ hd rfl] at hu2; cases hu2; exact c0
  | 1, _ => rw [show (dcs l)[j / 5 * 5 + 1]? = _ from flat_at Dc.cs 5 Dc.cs_len l _ 1 _ _ hd rfl] at hu2; cases hu2; exact c1
  | 2, _ => rw [show (dcs l)[j / 5 * 5 + 2]? = _ from flat_at Dc.cs 5 Dc.cs_len l _ 2 _ _ hd rfl] at hu2; cases hu2; exact c2
  | 3, _ => rw [show (dcs l)[j / 5 * 5 + 3]? = _ from flat_at Dc.cs 5 Dc.cs_len l _ 3 _ _ hd rfl] at hu2; cases hu2; exact c3
  | 4, _ => rw [show (dcs l)[j / 5 * 5 + 4]? = _ from flat_at Dc.cs 5 Dc.cs_len l _ 4 _ _ hd rfl] at hu2; cases hu2; exact c4

end Go.Proofs.YtcokccfbeonlnaaDoor
