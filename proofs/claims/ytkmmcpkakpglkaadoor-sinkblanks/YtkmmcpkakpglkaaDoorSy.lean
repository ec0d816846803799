import Derived.Test.YtkmmcpkakpglkaaDoorSw
set_option linter.unusedVariables false
set_option linter.unusedSimpArgs false
namespace Go.Proofs.YtkmmcpkakpglkaaDoor
open Go.RowKit
open Go.Lib (strCells strCells_length)

/-- Two sinks side by side, and a row of bytes. -/
def Jx (w : World) (g1 g2 : Nat) (v : Value) (W : World) (p q : St6) (l : List UInt8) : Prop := ∃ own, En own W ∧ FrS (fun x => x ≠ 0) (fun _ => 0) own w W ∧ SK own 1 W g1 p ∧ SK own 2 W g2 q ∧ (W.ownsRow 0 5 1 v l.length (bc l) ∧ ∀ k, v.ownBlock = some k → own k = 3)
section
variable {w W : World} {g1 g2 : Nat} {v : Value} {p q : St6} {l : List UInt8}
theorem Jx.bel (h : Jx w g1 g2 v W p q l) : Below w.heap.size w W := by
  obtain ⟨own, _, f, _⟩ := h
  exact f.fr w.heap.size (Nat.le_refl _) (fun k _ => by simp)
theorem Jx.tab (h : Jx w g1 g2 v W p q l) : Tab W := by
  obtain ⟨own, e, _⟩ := h
  exact e.tab
theorem Jx.row (h : Jx w g1 g2 v W p q l) : W.ownsRow 0 5 1 v l.length (bc l) := by
  obtain ⟨own, _, _, _, _, a, _⟩ := h
  exact a
theorem Jx.below {W' : World} (h : Jx w g1 g2 v W p q l) (hb : Below W.heap.size W W') : Jx w g1 g2 v W' p q l := by
  obtain ⟨own, e, f, a, b, c⟩ := h
  exact ⟨own, e.below hb, f.trans (FrS.of_below hb), a.below hb, b.below hb, row_below c.1 hb, c.2⟩
theorem Jx.on1 {W' : World} {p' : St6} (own : Nat → Nat) (e : En own W) (f : FrS (fun x => x ≠ 0) (fun _ => 0) own w W) (b : SK own 2 W g2 q) (c : W.ownsRow 0 5 1 v l.length (bc l) ∧ ∀ k, v.ownBlock = some k → own k = 3) (hA : Ae own 1 W W' g1 p') : Jx w g1 g2 v W' p' q l := by
  obtain ⟨o2, e2, f2, s2⟩ := hA
  exact ⟨o2, e2, f.trans (FrS.of f2 (by omega)), s2, b.kept f2 (by omega), fr_row f2 (by omega) c⟩
theorem Jx.on2 {W' : World} {q' : St6} (own : Nat → Nat) (e : En own W) (f : FrS (fun x => x ≠ 0) (fun _ => 0) own w W) (a : SK own 1 W g1 p) (c : W.ownsRow 0 5 1 v l.length (bc l) ∧ ∀ k, v.ownBlock = some k → own k = 3) (hA : Ae own 2 W W' g2 q') : Jx w g1 g2 v W' p q' l := by
  obtain ⟨o2, e2, f2, s2⟩ := hA
  exact ⟨o2, e2, f.trans (FrS.of f2 (by omega)), a.kept f2 (by omega), s2, fr_row f2 (by omega) c⟩
theorem Jx.does1 (h : Jx w g1 g2 v W p q l) (k : Int) (o : Bool) (t : ByteArray) (n : Int) (hb : p.out.length + p.col + p.wait + t.size ≤ 1073741824) : Calls Tryd.prog 20 #[.pointer (some ⟨g1, 0, none⟩), .agg #[.int .i64 k, .bool o, .string t, .int .i64 n]] W fun e W' => e = .returned (.tuple #[]) ∧ Jx w g1 g2 v W' (p.step k t n) q l := by
  obtain ⟨own, e, f, a, b, c⟩ := h
  exact (does_any own 1 g1 p W k o t n a e (by omega) hb).mono fun _ _ ⟨h1, h2⟩ => ⟨h1, Jx.on1 own e f b c h2⟩
theorem Jx.does2 (h : Jx w g1 g2 v W p q l) (k : Int) (o : Bool) (t : ByteArray) (n : Int) (hb : q.out.length + q.col + q.wait + t.size ≤ 1073741824) : Calls Tryd.prog 20 #[.pointer (some ⟨g2, 0, none⟩), .agg #[.int .i64 k, .bool o, .string t, .int .i64 n]] W fun e W' => e = .returned (.tuple #[]) ∧ Jx w g1 g2 v W' p (q.step k t n) l := by
  obtain ⟨own, e, f, a, b, c⟩ := h
  exact (does_any own 2 g2 q W k o t n b e (by omega) hb).mono fun _ _ ⟨h1, h2⟩ => ⟨h1, Jx.on2 own e f a c h2⟩
theorem Jx.take1 (h : Jx w g1 g2 v W p q l) (hb : p.out.length ≤ 1073741824) : Calls Tryd.prog 13 #[.pointer (some ⟨g1, 0, none⟩)] W fun e W' => e = .returned (.string ⟨p.out.toArray⟩) ∧ Jx w g1 g2 v W' p.take q l := by
  obtain ⟨own, e, f, a, b, c⟩ := h
  exact (take_st a e (by omega) hb).mono fun _ _ ⟨h1, h2⟩ => ⟨h1, Jx.on1 own e f b c h2⟩
theorem Jx.take2 (h : Jx w g1 g2 v W p q l) (hb : q.out.length ≤ 1073741824) : Calls Tryd.prog 13 #[.pointer (some ⟨g2, 0, none⟩)] W fun e W' => e = .returned (.string ⟨q.out.toArray⟩) ∧ Jx w g1 g2 v W' p q.take l := by
  obtain ⟨own, e, f, a, b, c⟩ := h
  exact (take_st b e (by omega) hb).mono fun _ _ ⟨h1, h2⟩ => ⟨h1, Jx.on2 own e f a c h2⟩
theorem Jx.col1 (h : Jx w g1 g2 v W p q l) (h1 : p.col ≤ 1073741824) (h2 : p.wait ≤ 1073741824) : Calls Tryd.prog 11 #[.pointer (some ⟨g1, 0, none⟩)] W fun e W' => e = .returned (.int .i64 ((p.col : Int) + p.wait)) ∧ Jx w g1 g2 v W' p q l := by
  have h' := h
  obtain ⟨own, e, f, a, b, c⟩ := h
  exact (column_st a h1 h2).mono fun _ _ ⟨x, y⟩ => ⟨x, h'.below y⟩
theorem Jx.col2 (h : Jx w g1 g2 v W p q l) (h1 : q.col ≤ 1073741824) (h2 : q.wait ≤ 1073741824) : Calls Tryd.prog 11 #[.pointer (some ⟨g2, 0, none⟩)] W fun e W' => e = .returned (.int .i64 ((q.col : Int) + q.wait)) ∧ Jx w g1 g2 v W' p q l := by
  have h' := h
  obtain ⟨own, e, f, a, b, c⟩ := h
  exact (column_st b h1 h2).mono fun _ _ ⟨x, y⟩ => ⟨x, h'.below y⟩
theorem Jx.fr1 (h : Jx w g1 g2 v W p q l) : Calls Tryd.prog 12 #[.pointer (some ⟨g1, 0, none⟩)] W fun e W' => e = .returned (.bool p.fresh) ∧ W = W' := by
  obtain ⟨own, e, f, a, b, c⟩ := h
  exact (fresh_st a).mono fun _ _ ⟨x, y⟩ => ⟨x, y.symm⟩
theorem Jx.fr2 (h : Jx w g1 g2 v W p q l) : Calls Tryd.prog 12 #[.pointer (some ⟨g2, 0, none⟩)] W fun e W' => e = .returned (.bool q.fresh) ∧ W = W' := by
  obtain ⟨own, e, f, a, b, c⟩ := h
  exact (fresh_st b).mono fun _ _ ⟨x, y⟩ => ⟨x, y.symm⟩
/-- Behind an append to the row. -/
theorem Jx.app {W' : World} {v' : Value} {m : List UInt8} (h : Jx w g1 g2 v W p q l) (hg : W.grownBy W' v.ownBlock) (ho : W'.ownsRow 0 5 1 v' (l.length + m.length) (bc l ++ bc m)) (hat : v'.ownBlock = v.ownBlock ∨ v'.ownBlock = some W.heap.size) : Jx w g1 g2 v' W' p q (l ++ m) := by
  obtain ⟨own, e, f, a, b, c⟩ := h
  have hf : Fr 3 own (fun k => if k = W.heap.size ∧ v'.ownBlock = some W.heap.size then 3 else own k) W W' := ⟨hg.os, hg.tape, hg.output, hg.size, fun k hk hi => hg.block k hk (fun e => hi (c.2 k e.symm)), fun k hk => if_neg (by omega)⟩
  refine ⟨_, e.fr (by omega) ?_ hf, f.trans (FrS.of hf (by omega)), a.kept hf (by omega), b.kept hf (by omega), by rw [List.length_append, bc_app]; exact ho, ?_⟩
  · intro k hk
    show (if k = W.heap.size ∧ v'.ownBlock = some W.heap.size then 3 else own k) = 0
    rw [if_neg]
    · exact e.nf k (by have := hg.size; omega)
    · rintro ⟨rfl, h2⟩
      have := (ho.lt _ h2).2
      omega
  · intro k hk
    show (if k = W.heap.size ∧ v'.ownBlock = some W.heap.size then 3 else own k) = 3
    rcases hat with h1 | h1
    · have h2 : v.ownBlock = some k := by rw [← h1]; exact hk
      have h3 := (c.1.lt k h2).2
      rw [if_neg (by omega)]; exact c.2 k h2
    · rw [h1] at hk; injection hk with hk; subst hk
      rw [if_pos ⟨rfl, h1⟩]
end

/-- An act adds to what was written, and what it adds hangs on the line alone. -/
theorem step_out (f : Bool) (c wt : Nat) (k : Int) (t : ByteArray) (n : Int) : ∃ f' c' wt' d, ∀ o, (⟨f, c, wt, o⟩ : St6).step k t n = ⟨f', c', wt', o ++ d⟩ := by
  unfold St6.step
  by_cases k1 : k = 1
  · by_cases ht : t.size = 0
    · exact ⟨f, c, wt, [], fun o => by rw [if_pos k1]; unfold St6.text; rw [if_pos ht]; simp⟩
    · exact ⟨false, (ncol c wt t).toNat, 0, ((if f then List.replicate c 32 else []) ++ (List.replicate wt 32 ++ t.data.toList)), fun o => by rw [if_pos k1]; unfold St6.text; rw [if_neg ht]⟩
  by_cases k2 : k = 2
  · by_cases hn : 0 ≤ n ∧ n ≤ 1048576
    · exact ⟨f, c, wt + n.toNat, [], fun o => by rw [if_neg k1, if_pos k2, if_pos hn]; simp [St6.blanks]⟩
    · exact ⟨f, c, wt, [], fun o => by rw [if_neg k1, if_pos k2, if_neg hn]; simp⟩
  by_cases k3 : k = 3
  · by_cases hn : 0 ≤ n ∧ n ≤ 1048576
    · exact ⟨true, n.toNat, 0, [10], fun o => by rw [if_neg k1, if_neg k2, if_pos k3, if_pos hn]; rfl⟩
    · exact ⟨f, c, wt, [], fun o => by rw [if_neg k1, if_neg k2, if_pos k3, if_neg hn]; simp⟩
  by_cases k4 : k = 4
  · cases f
    · exact ⟨false, c, wt, [], fun o => by rw [if_neg k1, if_neg k2, if_neg k3, if_pos k4]; simp [St6.empty]⟩
    · exact ⟨true, c, 0, [10], fun o => by rw [if_neg k1, if_neg k2, if_neg k3, if_pos k4]; rfl⟩
  · exact ⟨f, c, wt, [], fun o => by rw [if_neg k1, if_neg k2, if_neg k3, if_neg k4]; simp⟩

/-- The bools that a slice holds. -/
def Whn (w : World) (ao : Option Addr) (bs : List Bool) : Prop := ∀ j x, bs[j]? = some x → ∃ b off, ao = some ⟨b, off, none⟩ ∧ w.cell? ⟨b, off + j, none⟩ = some (.bool x)
theorem Whn.below {w w' : World} {ao : Option Addr} {bs : List Bool} (h : Whn w ao bs) (hb : Below w.heap.size w w') : Whn w' ao bs := by
  intro j x hx
  obtain ⟨b, off, h1, c0⟩ := h j x hx
  exact ⟨b, off, h1, (hb.cell (p := ⟨b, off + j, none⟩) (World.block_lt_of_cell? _ _ c0)).trans c0⟩

theorem Fit.okD {s : St6} {acts : List Act6} {k : Nat} {a : Act6} (h : Fit s (Vk acts k) (dsum acts k)) (ha : acts[k]? = some a) (hv : vsum acts acts.length ≤ 16777216) (hd : dsum acts acts.length ≤ 16777216) : s.out.length + s.col + s.wait + a.t.size ≤ 1073741824 ∧ Fit (s.step a.kind a.t a.n) (Vk acts (k + 1)) (dsum acts (k + 1)) := by
  have hk := (List.getElem?_eq_some_iff.1 ha).1
  have h1 := Vk_le (show k + 1 ≤ acts.length by omega)
  have h2 := dsum_mono acts (k + 1) _ (show k + 1 ≤ acts.length by omega)
  have h3 := Vk_succ ha
  have h4 := dk_succ ha
  have hF := h.step a.kind a.t a.n (by omega : Vk acts k + 1 + a.t.size + np a.n ≤ Vk acts (k + 1)) h4
  have ho := h.o
  have hc := h.c
  exact ⟨by omega, hF⟩
theorem Fit.small {s : St6} {acts : List Act6} {k : Nat} (h : Fit s (Vk acts k) (dsum acts k)) (hk : k ≤ acts.length) (hv : vsum acts acts.length ≤ 16777216) (hd : dsum acts acts.length ≤ 16777216) : s.out.length ≤ 1073741824 ∧ s.col ≤ 1073741824 ∧ s.wait ≤ 1073741824 := by
  have h1 := Vk_le hk
  have h2 := dsum_mono acts k _ hk
  have ho := h.o
  have hc := h.c
  omega
end Go.Proofs.YtkmmcpkakpglkaaDoor
