import Derived.Test.YtcokccfbeonlnaaDoorSk
import Derived.Lib.RepeatB
set_option linter.unusedVariables false
set_option linter.unusedSimpArgs false
namespace Go.Proofs.YtcokccfbeonlnaaDoor
open Go.RowKit
open Go.Lib (strCells strCells_length)

theorem rep_list (n : Nat) : Lib.repeatL [32] n = List.replicate n 32 := by
  induction n with
  | zero => rfl
  | succ n ih => show [32] ++ Lib.repeatL [32] n = _; rw [ih]; rfl
def blanksB (n : Nat) : ByteArray := ⟨(List.replicate n 32).toArray⟩
theorem blanksB_list (n : Nat) : (blanksB n).data.toList = List.replicate n 32 := rfl
theorem blanksB_size (n : Nat) : (blanksB n).size = n := by show (List.replicate n (32 : UInt8)).toArray.size = n; simp
theorem rep_any (n : Nat) (w : World) (hn : n ≤ 1073741824) : Calls Tryd.prog 45 #[.string ⟨#[32]⟩, .int .i64 n] w fun e w' => e = .returned (.string (blanksB n)) ∧ Below w.heap.size w w' := by
  refine (repeat_any ⟨#[32]⟩ n w (by omega) (by show 1 * n ≤ _; omega)).mono ?_
  rintro e w' ⟨rfl, hb⟩
  refine ⟨?_, hb⟩
  show Ending.returned (.string ⟨(Lib.repeatL [32] n).toArray⟩) = _
  rw [rep_list]; rfl

/-- Take's world. -/
structure Tk (w0 : World) (g b : Nat) (bs : List UInt8) (W : World) : Prop where
  lo : Below w0.heap.size w0 W
  hb : W.heap[w0.heap.size]? = some (.cells #[.pointer (some ⟨g, 0, none⟩)] 49 (0, 0))
  bd : ∃ v, Bd b v bs W ∧ ∀ k, v.ownBlock = some k → w0.heap.size ≤ k
  bl : w0.heap.size ≤ b

/-- Blocks of other types than the builder's stand. -/
def Kt (W W' : World) : Prop := ∀ (k : Nat) (cs : Array Value) (T : TypeId) (f : Nat × Nat), W.heap[k]? = some (.cells cs T f) → T ≠ 86 → T ≠ 5 → W'.heap[k]? = some (.cells cs T f)

theorem Tk.below {w0 : World} {g b : Nat} {bs : List UInt8} {W W' : World} (h : Tk w0 g b bs W) (hb : Below W.heap.size W W') : Tk w0 g b bs W' := by
  obtain ⟨v, ⟨h1, h2⟩, h3⟩ := h.bd
  exact ⟨h.lo.trans (hb.mono h.lo.size), blk_below h.hb hb, ⟨v, ⟨blk_below h1 hb, row_below h2 hb⟩, h3⟩, h.bl⟩

theorem Tk.wrote {w0 : World} {g b : Nat} {bs bs' : List UInt8} {W W' : World} {v : Value} (h : Tk w0 g b bs W) (hbd : Bd b v bs W) (hv : ∀ k, v.ownBlock = some k → w0.heap.size ≤ k) (hw : Bw b v bs' W W') : Tk w0 g b bs' W' ∧ Kt W W' := by
  obtain ⟨v', h1, h2, h3⟩ := hw
  have hne : ∀ {x : Array Value} {k : Nat} {T : TypeId} {f : Nat × Nat}, W.heap[k]? = some (.cells x T f) → T ≠ 86 → T ≠ 5 → ¬ (k = b ∨ some k = v.ownBlock) := by
    intro x k T f hk t1 t2 hh
    rcases hh with hh | hh
    · exact ne_of_blk hk hbd.blk t1 hh
    · exact row_ne hbd.row hk t2 hh.symm
  refine ⟨⟨?_, h3.blk h.hb (hne h.hb (by decide) (by decide)), ⟨v', h1, ?_⟩, h.bl⟩, fun k cs T f hk t1 t2 => h3.blk hk (hne hk t1 t2)⟩
  · refine ⟨h3.os.trans h.lo.os, h3.tape.trans h.lo.tape, h3.output.trans h.lo.output, Nat.le_trans h.lo.size h3.size, fun k hk => (h3.block k (Nat.lt_of_lt_of_le hk h.lo.size) ?_).trans (h.lo.block k hk)⟩
    rintro (e | e)
    · have := h.bl; omega
    · have := hv k e.symm; omega
  · intro k hk
    rcases h2 with h2 | h2
    · exact hv k (by rw [← h2]; exact hk)
    · rw [h2] at hk; injection hk with hk; subst hk; exact h.lo.size

theorem Tk.write {w0 : World} {g b : Nat} {bs : List UInt8} {W : World} (h : Tk w0 g b bs W) (l : List UInt8) (ad : Addr) (m c : Nat) (hl : l.length = m) (hsrc : ∀ j u, (bc l)[j]? = some u → W.cell? (ad.add j) = some u) (hn : bs.length + m ≤ 70368744177664) :
    Calls Tryd.prog 43 #[.pointer (some ⟨b, 0, none⟩), .slice (some ad) m c] W fun e w' => e = .returned (.tuple #[.int .i64 m, .nilIface]) ∧ Tk w0 g b (bs ++ l) w' ∧ Kt W w' := by
  obtain ⟨v, h1, h2⟩ := h.bd
  refine (bwrite b v bs l ad m c W h1 hl hsrc hn).mono ?_
  rintro e w' ⟨rfl, hw⟩
  exact ⟨rfl, h.wrote h1 h2 hw⟩
theorem Tk.write_none {w0 : World} {g b : Nat} {bs : List UInt8} {W : World} (h : Tk w0 g b bs W) :
    Calls Tryd.prog 43 #[.pointer (some ⟨b, 0, none⟩), .slice none 0 0] W fun e w' => e = .returned (.tuple #[.int .i64 0, .nilIface]) ∧ Tk w0 g b (bs ++ []) w' ∧ Kt W w' := by
  obtain ⟨v, h1, h2⟩ := h.bd
  refine (bwrite_none b v bs W h1).mono ?_
  rintro e w' ⟨rfl, hw⟩
  exact ⟨rfl, h.wrote h1 h2 hw⟩
theorem Tk.wstr {w0 : World} {g b : Nat} {bs : List UInt8} {W : World} (h : Tk w0 g b bs W) (t : ByteArray) (hn : bs.length + t.size ≤ 70368744177664) :
    Calls Tryd.prog 44 #[.pointer (some ⟨b, 0, none⟩), .string t] W fun e w' => e = .returned (.tuple #[.int .i64 t.size, .nilIface]) ∧ Tk w0 g b (bs ++ t.data.toList) w' ∧ Kt W w' := by
  obtain ⟨v, h1, h2⟩ := h.bd
  refine (bwstr b v bs t W h1 hn).mono ?_
  rintro e w' ⟨rfl, hw⟩
  exact ⟨rfl, h.wrote h1 h2 hw⟩
/-- The bytes of a text's row, from a place on. -/
theorem text_src {w0 W : World} {tv : Value} {text : List UInt8} {tb cap : Nat} (hr : w0.ownsRow 0 5 1 tv text.length (bc text)) (he : tv = .slice (some ⟨tb, 0, none⟩) text.length cap) (hb : Below w0.heap.size w0 W) (f m : Nat) : ∀ j u, (bc ((text.drop f).take m))[j]? = some u → W.cell? ((⟨tb, f, none⟩ : Addr).add j) = some u := by
  intro j u hj
  have h1 : (bc text)[f + j]? = some u := by
    have : (bc ((text.drop f).take m))[j]? = ((bc text).drop f |>.take m)[j]? := by rw [bc_drop, bc_take]
    rw [this] at hj
    have hjm : j < m := by
      have := (List.getElem?_eq_some_iff.1 hj).1
      rw [List.length_take] at this; omega
    rw [List.getElem?_take, if_pos hjm, List.getElem?_drop] at hj
    exact hj
  have h2 := hr.cells (g := tb) (by rw [he]; rfl) (f + j) u h1
  rw [add0] at h2
  have h3 := (hb.cell (p := ⟨tb, f + j, none⟩) (World.block_lt_of_cell? _ _ h2)).trans h2
  have h4 : (⟨tb, f, none⟩ : Addr).add j = ⟨tb, f + j, none⟩ := by
    unfold Addr.add
    split <;> simp_all
  rw [h4]; exact h3
end Go.Proofs.YtcokccfbeonlnaaDoor
