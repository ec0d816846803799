import Derived.Test.YtcokccfbeonlnaaDoorSo
set_option linter.unusedVariables false
set_option linter.unusedSimpArgs false
namespace Go.Proofs.YtcokccfbeonlnaaDoor
open Go.RowKit
open Go.Lib (strCells strCells_length)

/-- What the walks of the laws want of the world and its labels. -/
structure En (own : Nat → Nat) (w : World) : Prop where
  nf : Nf own w
  tab : Tab w
  z : own 0 = 0
theorem Tab.pos {w : World} (h : Tab w) : 0 < w.heap.size := World.block_lt_of_cell? w _ (h 0 (by omega)).1
theorem En.fr {own own' : Nat → Nat} {w w' : World} {i : Nat} (h : En own w) (hi : i ≠ 0) (hn : Nf own' w') (hf : Fr i own own' w w') : En own' w' :=
  ⟨hn, hf.tab h.tab (by rw [h.z]; exact fun e => hi e.symm), (hf.old 0 h.tab.pos).trans h.z⟩
theorem En.below {own : Nat → Nat} {w w' : World} (h : En own w) (hb : Below w.heap.size w w') : En own w' := ⟨h.nf.below hb.size, h.tab.below hb, h.z⟩

/-- Behind a call on the code's sink. -/
def Ae (own : Nat → Nat) (i : Nat) (w w' : World) (g : Nat) (s : St6) : Prop := ∃ own', En own' w' ∧ Fr i own own' w w' ∧ SK own' i w' g s
theorem Af.ae {own : Nat → Nat} {i : Nat} {w w' : World} {g : Nat} {s : St6} (h : Af own i w w' g s) (hE : En own w) (hi : i ≠ 0) : Ae own i w w' g s := by
  obtain ⟨own', h1, h2, h3⟩ := h
  exact ⟨own', hE.fr hi h1 h2, h2, h3⟩

def st0 : St6 := ⟨true, 0, 0, []⟩

theorem new_st (own : Nat → Nat) (i : Nat) (w : World) (hE : En own w) (hi : i ≠ 0) : Calls Tryd.prog 22 #[] w fun e w' => e = .returned (.pointer (some ⟨w.heap.size, 0, none⟩)) ∧ Ae own i w w' w.heap.size st0 := by
  refine (new_any w).mono ?_
  rintro e w' ⟨rfl, rfl⟩
  have hb : Below w.heap.size w (w.alloc (.cells (sk false 0 0 (.slice none 0 0) (.slice none 0 0)) 78)) := (Below.refl _ _).alloc (Nat.le_refl _) _
  have hs : (w.alloc (.cells (sk false 0 0 (.slice none 0 0) (.slice none 0 0)) 78)).heap.size = w.heap.size + 1 := World.size_alloc _ _
  have hf : Fr i own (fun k => if k = w.heap.size then i else own k) w (w.alloc (.cells (sk false 0 0 (.slice none 0 0) (.slice none 0 0)) 78)) := ⟨hb.os, hb.tape, hb.output, hb.size, fun k hk _ => hb.block k hk, fun k hk => if_neg (by omega)⟩
  refine ⟨rfl, _, hE.fr hi ?_ hf, hf, if_pos rfl, .slice none 0 0, .slice none 0 0, [], [], new_at _ _, ⟨World.ownsRow_nil _ _ _ _, fun k h => by cases h⟩, ⟨World.ownsRow_nil _ _ _ _, fun k h => by cases h⟩, Nat.zero_le _, rfl, Nat.le_refl _, fun x h => by cases h⟩
  intro k hk
  rw [hs] at hk
  show (if k = w.heap.size then i else own k) = 0
  rw [if_neg (by omega)]; exact hE.nf k (by omega)

section
variable {own : Nat → Nat} {i : Nat} {g : Nat} {s : St6} {w : World}
theorem text_st (h : SK own i w g s) (hE : En own w) (hi : i ≠ 0) (t : ByteArray) (hb : s.out.length + s.col + s.wait + t.size ≤ 1073741824) :
    Calls Tryd.prog 34 #[.pointer (some ⟨g, 0, none⟩), .string t] w fun e w' => e = .returned (.int .i64 0) ∧ Ae own i w w' g (s.text t) :=
  (text_any own i g s t w h hE.nf hE.tab hb).mono fun e w' ⟨h1, h2⟩ => ⟨h1, h2.ae hE hi⟩
theorem feed_st (h : SK own i w g s) (hE : En own w) (hi : i ≠ 0) (c : Nat) (hc : c ≤ 1048576) (hb : s.out.length ≤ 1073741824) :
    Calls Tryd.prog 65 #[.pointer (some ⟨g, 0, none⟩), .int .i64 c] w fun e w' => e = .returned (.int .i64 0) ∧ Ae own i w w' g (s.feed c) :=
  (feed_any own i g s c w h hE.nf hc hb).mono fun e w' ⟨h1, h2⟩ => ⟨h1, h2.ae hE hi⟩
theorem empty_st (h : SK own i w g s) (hE : En own w) (hi : i ≠ 0) (hb : s.out.length ≤ 1073741824) :
    Calls Tryd.prog 38 #[.pointer (some ⟨g, 0, none⟩)] w fun e w' => e = .returned (.int .i64 0) ∧ Ae own i w w' g s.empty :=
  (empty_any own i g s w h hE.nf hb).mono fun e w' ⟨h1, h2⟩ => ⟨h1, h2.ae hE hi⟩
theorem take_st (h : SK own i w g s) (hE : En own w) (hi : i ≠ 0) (hb : s.out.length ≤ 1073741824) :
    Calls Tryd.prog 24 #[.pointer (some ⟨g, 0, none⟩)] w fun e w' => e = .returned (.string ⟨s.out.toArray⟩) ∧ Ae own i w w' g s.take :=
  (take_any own i g s w h hE.nf hb).mono fun e w' ⟨h1, h2⟩ => ⟨h1, h2.ae hE hi⟩
theorem blanks_st (h : SK own i w g s) (hE : En own w) (hi : i ≠ 0) (n : Nat) (hn : n ≤ 1048576) (hb : s.wait ≤ 1073741824) :
    Calls Tryd.prog 64 #[.pointer (some ⟨g, 0, none⟩), .int .i64 n] w fun e w' => e = .returned (.int .i64 0) ∧ Ae own i w w' g (s.blanks n) := by
  obtain ⟨tv, gv, text, gs, h1, h2, h3, h4⟩ := h.ex
  refine (blanks_any g (!s.fresh) s.col s.wait n tv gv w h1 (by omega) (by omega) (by omega) (by omega)).mono ?_
  rintro e w' ⟨rfl, rfl⟩
  have hk := Kp.set w g 2 (.int .i64 ((s.wait : Int) + n))
  have hf : Fr i own own w (w.setCell ⟨g, 2, none⟩ (.int .i64 ((s.wait : Int) + n))) := hk.fr (fun k _ e => by subst e; exact h.lab) (fun _ _ => rfl)
  have r1 := row_ne h2.1 h1 (by decide)
  have r2 := row_ne h3.1 h1 (by decide)
  refine ⟨rfl, own, hE.fr hi (hE.nf.below hk.size) hf, hf, h.lab, tv, gv, text, gs, ?_, ⟨hk.row h2.1 (fun k e1 e2 => r1 (by rw [e1, e2])), h2.2⟩, ⟨hk.row h3.1 (fun k e1 e2 => r2 (by rw [e1, e2])), h3.2⟩, h4⟩
  exact blk_set h1 2 _
theorem column_st (h : SK own i w g s) (h1 : s.col ≤ 1073741824) (h2 : s.wait ≤ 1073741824) :
    Calls Tryd.prog 67 #[.pointer (some ⟨g, 0, none⟩)] w fun e w' => e = .returned (.int .i64 ((s.col : Int) + s.wait)) ∧ Below w.heap.size w w' := by
  obtain ⟨tv, gv, text, gs, a1, _⟩ := h.ex
  exact column_any g (!s.fresh) s.col s.wait tv gv w a1 (by omega) (by omega) (by omega) (by omega)
theorem fresh_st (h : SK own i w g s) :
    Calls Tryd.prog 63 #[.pointer (some ⟨g, 0, none⟩)] w fun e w' => e = .returned (.bool s.fresh) ∧ w' = w := by
  obtain ⟨tv, gv, text, gs, a1, _⟩ := h.ex
  have := fresh_any g (!s.fresh) s.col s.wait tv gv w a1
  simpa using this
end

theorem aw_a : St6.text st0 ⟨#[97]⟩ = ⟨false, 1, 0, [97]⟩ := by
  have h : ncol ((0 : Nat) : Int) ((0 : Nat) : Int) ⟨#[97]⟩ = 1 := by decide +kernel
  show (⟨false, (ncol ((0 : Nat) : Int) ((0 : Nat) : Int) ⟨#[97]⟩).toNat, 0, [97]⟩ : St6) = _
  rw [h]; rfl
theorem aw_b : St6.text ⟨true, 3, 0, [97, 10]⟩ ⟨#[98]⟩ = ⟨false, 4, 0, [97, 10, 32, 32, 32, 98]⟩ := by
  have h : ncol ((3 : Nat) : Int) ((0 : Nat) : Int) ⟨#[98]⟩ = 4 := by decide +kernel
  show (⟨false, (ncol ((3 : Nat) : Int) ((0 : Nat) : Int) ⟨#[98]⟩).toNat, 0, [97, 10, 32, 32, 32, 98]⟩ : St6) = _
  rw [h]; rfl

end Go.Proofs.YtcokccfbeonlnaaDoor
