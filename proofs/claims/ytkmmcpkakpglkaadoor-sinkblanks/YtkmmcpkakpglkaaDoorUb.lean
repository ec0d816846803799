import Derived.Test.YtkmmcpkakpglkaaDoorUa
set_option linter.unusedVariables false
set_option linter.unusedSimpArgs false
namespace Go.Proofs.YtkmmcpkakpglkaaDoor
open Go.RowKit
open Go.Lib (strCells strCells_length)

/-- A row of bytes, made since w. -/
def Rx (w : World) (v : Value) (W : World) (l : List UInt8) : Prop := ∃ own, En own W ∧ FrS (fun x => x ≠ 0) (fun _ => 0) own w W ∧ (W.ownsRow 0 5 1 v l.length (bc l) ∧ ∀ k, v.ownBlock = some k → own k = 3)
/-- .. and a sink. -/
def Kx (w : World) (g : Nat) (v : Value) (W : World) (p : St6) (l : List UInt8) : Prop := ∃ own, En own W ∧ FrS (fun x => x ≠ 0) (fun _ => 0) own w W ∧ SK own 1 W g p ∧ (W.ownsRow 0 5 1 v l.length (bc l) ∧ ∀ k, v.ownBlock = some k → own k = 3)
section
variable {w W : World} {g : Nat} {v : Value} {p : St6} {l : List UInt8}
theorem Rx.row (h : Rx w v W l) : W.ownsRow 0 5 1 v l.length (bc l) := by
  obtain ⟨own, _, _, a, _⟩ := h
  exact a
theorem Rx.below {W' : World} (h : Rx w v W l) (hb : Below W.heap.size W W') : Rx w v W' l := by
  obtain ⟨own, e, f, c⟩ := h
  exact ⟨own, e.below hb, f.trans (FrS.of_below hb), row_below c.1 hb, c.2⟩
theorem Rx.bel (h : Rx w v W l) : Below w.heap.size w W := by
  obtain ⟨own, _, f, _⟩ := h
  exact f.fr w.heap.size (Nat.le_refl _) (fun k _ => by simp)
theorem Rx.app {W' : World} {v' : Value} {m : List UInt8} (h : Rx w v W l) (hg : W.grownBy W' v.ownBlock) (ho : W'.ownsRow 0 5 1 v' (l.length + m.length) (bc l ++ bc m)) (hat : v'.ownBlock = v.ownBlock ∨ v'.ownBlock = some W.heap.size) : Rx w v' W' (l ++ m) := by
  obtain ⟨own, e, f, c⟩ := h
  have hf : Fr 3 own (fun k => if k = W.heap.size ∧ v'.ownBlock = some W.heap.size then 3 else own k) W W' := ⟨hg.os, hg.tape, hg.output, hg.size, fun k hk hi => hg.block k hk (fun e => hi (c.2 k e.symm)), fun k hk => if_neg (by omega)⟩
  refine ⟨_, e.fr (by omega) ?_ hf, f.trans (FrS.of hf (by omega)), by rw [List.length_append, bc_app]; exact ho, ?_⟩
  · intro k hk
    show (if k = W.heap.size ∧ v'.ownBlock = some W.heap.size then 3 else own k) = 0
    rw [if_neg]
    · exact e.nf k (by have := hg.size; omega)
    · rintro ⟨rfl, h2⟩
      have := (ho.lt _ h2).2
      omega
  · intro k hk
    show (if k = W.heap.size ∧ v'.ownBlock = some W.heap.size then 3 else own k) = 3
    rcases hat with h1 | h1
    · have h2 : v.ownBlock = some k := by rw [← h1]; exact hk
      have h3 := (c.1.lt k h2).2
      rw [if_neg (by omega)]; exact c.2 k h2
    · rw [h1] at hk; injection hk with hk; subst hk
      rw [if_pos ⟨rfl, h1⟩]
theorem Rx.new (h : Rx w v W l) : Calls Tryd.prog 17 #[] W fun e W' => e = .returned (.pointer (some ⟨W.heap.size, 0, none⟩)) ∧ Kx w W.heap.size v W' st0 l := by
  obtain ⟨own, e, f, c⟩ := h
  refine (new_st own 1 W e (by omega)).mono ?_
  rintro x W' ⟨rfl, o2, e2, f2, s2⟩
  exact ⟨rfl, o2, e2, f.trans (FrS.of f2 (by omega)), s2, fr_row f2 (by omega) c⟩
theorem Kx.bel (h : Kx w g v W p l) : Below w.heap.size w W := by
  obtain ⟨own, _, f, _⟩ := h
  exact f.fr w.heap.size (Nat.le_refl _) (fun k _ => by simp)
theorem Kx.tab (h : Kx w g v W p l) : Tab W := by
  obtain ⟨own, e, _⟩ := h
  exact e.tab
theorem Kx.row (h : Kx w g v W p l) : W.ownsRow 0 5 1 v l.length (bc l) := by
  obtain ⟨own, _, _, _, a, _⟩ := h
  exact a
theorem Kx.below {W' : World} (h : Kx w g v W p l) (hb : Below W.heap.size W W') : Kx w g v W' p l := by
  obtain ⟨own, e, f, a, c⟩ := h
  exact ⟨own, e.below hb, f.trans (FrS.of_below hb), a.below hb, row_below c.1 hb, c.2⟩
theorem Kx.on {W' : World} {p' : St6} (own : Nat → Nat) (e : En own W) (f : FrS (fun x => x ≠ 0) (fun _ => 0) own w W) (c : W.ownsRow 0 5 1 v l.length (bc l) ∧ ∀ k, v.ownBlock = some k → own k = 3) (hA : Ae own 1 W W' g p') : Kx w g v W' p' l := by
  obtain ⟨o2, e2, f2, s2⟩ := hA
  exact ⟨o2, e2, f.trans (FrS.of f2 (by omega)), s2, fr_row f2 (by omega) c⟩
theorem Kx.does (h : Kx w g v W p l) (k : Int) (o : Bool) (t : ByteArray) (n : Int) (hb : p.out.length + p.col + p.wait + t.size ≤ 1073741824) : Calls Tryd.prog 20 #[.pointer (some ⟨g, 0, none⟩), .agg #[.int .i64 k, .bool o, .string t, .int .i64 n]] W fun e W' => e = .returned (.tuple #[]) ∧ Kx w g v W' (p.step k t n) l := by
  obtain ⟨own, e, f, a, c⟩ := h
  exact (does_any own 1 g p W k o t n a e (by omega) hb).mono fun _ _ ⟨h1, h2⟩ => ⟨h1, Kx.on own e f c h2⟩
theorem Kx.take (h : Kx w g v W p l) (hb : p.out.length ≤ 1073741824) : Calls Tryd.prog 13 #[.pointer (some ⟨g, 0, none⟩)] W fun e W' => e = .returned (.string ⟨p.out.toArray⟩) ∧ Kx w g v W' p.take l := by
  obtain ⟨own, e, f, a, c⟩ := h
  exact (take_st a e (by omega) hb).mono fun _ _ ⟨h1, h2⟩ => ⟨h1, Kx.on own e f c h2⟩
theorem Kx.col (h : Kx w g v W p l) (h1 : p.col ≤ 1073741824) (h2 : p.wait ≤ 1073741824) : Calls Tryd.prog 11 #[.pointer (some ⟨g, 0, none⟩)] W fun e W' => e = .returned (.int .i64 ((p.col : Int) + p.wait)) ∧ Kx w g v W' p l := by
  have h' := h
  obtain ⟨own, e, f, a, c⟩ := h
  exact (column_st a h1 h2).mono fun _ _ ⟨x, y⟩ => ⟨x, h'.below y⟩
theorem Kx.fresh (h : Kx w g v W p l) : Calls Tryd.prog 12 #[.pointer (some ⟨g, 0, none⟩)] W fun e W' => e = .returned (.bool p.fresh) ∧ W = W' := by
  obtain ⟨own, e, f, a, c⟩ := h
  exact (fresh_st a).mono fun _ _ ⟨x, y⟩ => ⟨x, y.symm⟩
end

/-- The bounds, act by act, each text of at most a thousand bytes. -/
def VB (acts : List Act6) (k : Nat) : Nat := Vk acts k + 1000 * k
theorem Fit.okB {s : St6} {acts : List Act6} {k : Nat} {a : Act6} (h : Fit s (VB acts k) (dsum acts k)) (ha : acts[k]? = some a) (t : ByteArray) (ht : t.size ≤ a.t.size + 1000) (hk : k < 3000) (hv : vsum acts acts.length ≤ 16777216) (hd : dsum acts acts.length ≤ 16777216) : s.out.length + s.col + s.wait + t.size ≤ 1073741824 ∧ Fit (s.step a.kind t a.n) (VB acts (k + 1)) (dsum acts (k + 1)) := by
  have hkl := (List.getElem?_eq_some_iff.1 ha).1
  have h1 := Vk_le (show k + 1 ≤ acts.length by omega)
  have h2 := dsum_mono acts (k + 1) _ (show k + 1 ≤ acts.length by omega)
  have h3 := Vk_succ ha
  have h4 := dk_succ ha
  have hF := h.step a.kind t a.n (by unfold VB; omega : VB acts k + 1 + t.size + np a.n ≤ VB acts (k + 1)) h4
  have ho := h.o
  have hc := h.c
  have e1 : VB acts k = Vk acts k + 1000 * k := rfl
  exact ⟨by omega, hF⟩
theorem Fit.smallB {s : St6} {acts : List Act6} {k : Nat} (h : Fit s (VB acts k) (dsum acts k)) (hk : k ≤ acts.length) (h3 : k ≤ 3000) (hv : vsum acts acts.length ≤ 16777216) (hd : dsum acts acts.length ≤ 16777216) : s.out.length ≤ 268435456 ∧ s.col ≤ 268435456 ∧ s.wait ≤ 268435456 := by
  have h1 := Vk_le hk
  have h2 := dsum_mono acts k _ hk
  have ho := h.o
  have hc := h.c
  have e1 : VB acts k = Vk acts k + 1000 * k := rfl
  omega

/-- The loop over the script. -/
def Bx (w : World) (g : Nat) (v : Value) (l : List UInt8) (acts : List Act6) (k wt : Nat) (W : World) : Prop := ∃ s : St6, s.wait = wt ∧ Kx w g v W s l ∧ Bl s ∧ Fit s (VB acts k) (dsum acts k)

theorem step_wait (s : St6) (k : Int) (t : ByteArray) (n : Int) : (s.step k t n).wait = if k = 1 then (if t.size = 0 then s.wait else 0) else if k = 2 then (if 0 ≤ n ∧ n ≤ 1048576 then s.wait + n.toNat else s.wait) else if k = 3 then (if 0 ≤ n ∧ n ≤ 1048576 then 0 else s.wait) else if k = 4 then (if s.fresh then 0 else s.wait) else s.wait := by
  unfold St6.step
  split
  · unfold St6.text; split <;> rfl
  split
  · split <;> rfl
  split
  · split <;> rfl
  split
  · unfold St6.empty; split <;> rfl
  · rfl

theorem seg_take (l : List UInt8) (i : Nat) (h : i < l.length) : seg (l.take (i + 1)) = if l[i] = 10 then [] else seg (l.take i) ++ [l[i]] := by
  rw [List.take_succ_eq_append_getElem h, seg_snoc]
theorem text_byte (l : List UInt8) (i : Nat) (h : i < (⟨l.toArray⟩ : ByteArray).size) (h2 : i < l.length) : (⟨l.toArray⟩ : ByteArray)[i]'h = l[i] := by
  show l.toArray[i] = l[i]
  simp
theorem text_size (l : List UInt8) : (⟨l.toArray⟩ : ByteArray).size = l.length := by show l.toArray.size = _; simp
theorem text_cut (l : List UInt8) (i : Nat) : (⟨l.toArray⟩ : ByteArray).extract i (⟨l.toArray⟩ : ByteArray).size = ⟨(l.drop i).toArray⟩ := by
  apply ByteArray.ext
  rw [ByteArray.data_extract, text_size]
  show l.toArray.extract i l.length = (l.drop i).toArray
  apply Array.ext'
  simp
  exact List.take_of_length_le (by rw [List.length_drop]; omega)
end Go.Proofs.YtkmmcpkakpglkaaDoor
