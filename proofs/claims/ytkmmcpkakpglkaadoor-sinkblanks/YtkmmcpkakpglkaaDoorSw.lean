import Derived.Test.YtkmmcpkakpglkaaDoorSv
set_option linter.unusedVariables false
set_option linter.unusedSimpArgs false
namespace Go.Proofs.YtkmmcpkakpglkaaDoor
open Go.RowKit
open Go.Lib (strCells strCells_length)

theorem one_any (own : Nat → Nat) (a b g h : Nat) (s : St6) (w : World) (k : Int) (o : Bool) (t : ByteArray) (n : Int) (ha : a ≠ 0) (hb : b ≠ 0) (hab : a ≠ b) (hE : En own w) (hs : SK own a w g s) (hr : RSK own b w h s) (hbd : s.out.length + s.col + s.wait + t.size ≤ 1073741824) (hfr : s.fresh = true → s.col ≤ 1048576) (hbd2 : (s.stepT k t n).col ≤ 1073741824 ∧ (s.stepT k t n).wait ≤ 1073741824) :
    Calls Tryd.prog 19 #[.pointer (some ⟨g, 0, none⟩), .pointer (some ⟨h, 0, none⟩), .agg #[.int .i64 k, .bool o, .string t, .int .i64 n]] w fun e w' => e = .returned (.bool true) ∧ Po own a b w w' g h (s.stepT k t n) := by
  by_cases k1 : k = 1
  · subst k1; exact does1 own a b g h s w o t n ha hb hab hE hs hr hbd hfr hbd2
  by_cases k2 : k = 2
  · subst k2
    by_cases hn : n < 0 ∨ 1048576 < n
    · exact does2b own a b g h s w o t n ha hb hab hE hs hr hbd hfr hbd2 hn
    · obtain ⟨m, rfl⟩ : ∃ m : Nat, n = m := ⟨n.toNat, by omega⟩
      exact does2 own a b g h s w o t m ha hb hab hE hs hr hbd hfr hbd2 (by omega)
  by_cases k3 : k = 3
  · subst k3
    by_cases hn : n < 0 ∨ 1048576 < n
    · exact does3b own a b g h s w o t n ha hb hab hE hs hr hbd hfr hbd2 hn
    · obtain ⟨m, rfl⟩ : ∃ m : Nat, n = m := ⟨n.toNat, by omega⟩
      exact does3 own a b g h s w o t m ha hb hab hE hs hr hbd hfr hbd2 (by omega)
  by_cases k4 : k = 4
  · subst k4; exact one4 own a b g h s w o t n ha hb hab hE hs hr hbd hfr hbd2
  by_cases k5 : k = 5
  · subst k5; exact one5 own a b g h s w o t n ha hb hab hE hs hr hbd hfr hbd2
  · exact one0 own a b g h s w k o t n ha hb hab hE hs hr hbd hfr hbd2 k1 k2 k3 k4 k5

theorem rnew_st (own : Nat → Nat) (i : Nat) (w : World) (hE : En own w) (hi : i ≠ 0) : Calls Tryd.prog 18 #[] w fun e w' => e = .returned (.pointer (some ⟨w.heap.size, 0, none⟩)) ∧ AeR own i w w' w.heap.size st0 := by
  refine (rnew_any w).mono ?_
  rintro e w' ⟨rfl, rfl⟩
  have hb : Below w.heap.size w (w.alloc (.cells (rk (.slice none 0 0) true 0 0 0) 68)) := (Below.refl _ _).alloc (Nat.le_refl _) _
  have hs : (w.alloc (.cells (rk (.slice none 0 0) true 0 0 0) 68)).heap.size = w.heap.size + 1 := World.size_alloc _ _
  have hf : Fr i own (fun k => if k = w.heap.size then i else own k) w (w.alloc (.cells (rk (.slice none 0 0) true 0 0 0) 68)) := ⟨hb.os, hb.tape, hb.output, hb.size, fun k hk _ => hb.block k hk, fun k hk => if_neg (by omega)⟩
  refine ⟨rfl, _, hE.fr hi ?_ hf, hf, if_pos rfl, .slice none 0 0, 0, 0, new_at _ _, rfl, World.ownsRow_nil _ _ _ _, fun k h => by cases h⟩
  intro k hk
  rw [hs] at hk
  show (if k = w.heap.size then i else own k) = 0
  rw [if_neg (by omega)]; exact hE.nf k (by omega)

/-- The four sinks of a script, made since w. -/
def Iv (w : World) (g1 h1 g2 h2 : Nat) (W : World) (p q : St6) : Prop := ∃ own, En own W ∧ FrS (fun x => x ≠ 0) (fun _ => 0) own w W ∧ SK own 1 W g1 p ∧ RSK own 3 W h1 p ∧ SK own 2 W g2 q ∧ RSK own 4 W h2 q
section
variable {w W : World} {g1 h1 g2 h2 : Nat} {p q : St6}
theorem Iv.bel (h : Iv w g1 h1 g2 h2 W p q) : Below w.heap.size w W := by
  obtain ⟨own, _, f, _⟩ := h
  exact f.fr w.heap.size (Nat.le_refl _) (fun k _ => by simp)
theorem Iv.tab (h : Iv w g1 h1 g2 h2 W p q) : Tab W := by
  obtain ⟨own, e, _⟩ := h
  exact e.tab
/-- What an act asks of the numbers. -/
def Ok6 (s : St6) (k : Int) (t : ByteArray) (n : Int) : Prop := s.out.length + s.col + s.wait + t.size ≤ 1073741824 ∧ (s.fresh = true → s.col ≤ 1048576) ∧ (s.stepT k t n).col ≤ 1073741824 ∧ (s.stepT k t n).wait ≤ 1073741824
theorem Iv.one (h : Iv w g1 h1 g2 h2 W p q) (k : Int) (o : Bool) (t : ByteArray) (n : Int) (hk : Ok6 p k t n) : Calls Tryd.prog 19 #[.pointer (some ⟨g1, 0, none⟩), .pointer (some ⟨h1, 0, none⟩), .agg #[.int .i64 k, .bool o, .string t, .int .i64 n]] W fun e W' => e = .returned (.bool true) ∧ Iv w g1 h1 g2 h2 W' (p.stepT k t n) q := by
  obtain ⟨own, e, f, a1, a2, a3, a4⟩ := h
  refine (one_any own 1 3 g1 h1 p W k o t n (by omega) (by omega) (by omega) e a1 a2 hk.1 hk.2.1 hk.2.2).mono ?_
  rintro e W' ⟨rfl, own', e', f', b1, b2⟩
  exact ⟨rfl, own', e', f.trans (f'.mono (fun x hx => by show x ≠ 0; omega)), b1, b2, a3.keptS f' (by omega), a4.keptS f' (by omega)⟩
theorem Iv.two (h : Iv w g1 h1 g2 h2 W p q) (k : Int) (o : Bool) (t : ByteArray) (n : Int) (hk : Ok6 q k t n) : Calls Tryd.prog 19 #[.pointer (some ⟨g2, 0, none⟩), .pointer (some ⟨h2, 0, none⟩), .agg #[.int .i64 k, .bool o, .string t, .int .i64 n]] W fun e W' => e = .returned (.bool true) ∧ Iv w g1 h1 g2 h2 W' p (q.stepT k t n) := by
  obtain ⟨own, e, f, a1, a2, a3, a4⟩ := h
  refine (one_any own 2 4 g2 h2 q W k o t n (by omega) (by omega) (by omega) e a3 a4 hk.1 hk.2.1 hk.2.2).mono ?_
  rintro e W' ⟨rfl, own', e', f', b1, b2⟩
  exact ⟨rfl, own', e', f.trans (f'.mono (fun x hx => by show x ≠ 0; omega)), a1.keptS f' (by omega), a2.keptS f' (by omega), b1, b2⟩
end

/-- What was counted, act by act. -/
def Vk (acts : List Act6) (k : Nat) : Nat := vsum acts k + k - acts.length
theorem vsum_ge (acts : List Act6) (k : Nat) : acts.length ≤ vsum acts k := vsum_mono acts 0 k (Nat.zero_le _)
theorem Vk_succ {acts : List Act6} {k : Nat} {a : Act6} (h : acts[k]? = some a) : Vk acts (k + 1) = Vk acts k + 1 + a.t.size + np a.n := by
  have := vsum_ge acts k
  unfold Vk; rw [vsum_succ h]; unfold cost; omega
theorem Vk_le {acts : List Act6} {k : Nat} (h : k ≤ acts.length) : Vk acts k ≤ vsum acts acts.length := by
  have := vsum_mono acts k _ h
  unfold Vk; omega
theorem dk_succ {acts : List Act6} {k : Nat} {a : Act6} (h : acts[k]? = some a) : dsum acts k + (if a.kind = 3 ∧ 0 < a.n ∧ a.n ≤ 1048576 then a.n.toNat else 0) ≤ dsum acts (k + 1) := by
  rw [dsum_succ, atk_succ h]
  split <;> omega
theorem Fit.ok {s : St6} {acts : List Act6} {k : Nat} {a : Act6} (h : Fit s (Vk acts k) (dsum acts k)) (ha : acts[k]? = some a) (hv : vsum acts acts.length ≤ 16777216) (hd : dsum acts acts.length ≤ 16777216) : Ok6 s a.kind a.t a.n ∧ Fit (s.stepT a.kind a.t a.n) (Vk acts (k + 1)) (dsum acts (k + 1)) := by
  have hk := (List.getElem?_eq_some_iff.1 ha).1
  have h1 := Vk_le (show k + 1 ≤ acts.length by omega)
  have h2 := dsum_mono acts (k + 1) _ (show k + 1 ≤ acts.length by omega)
  have h3 := Vk_succ ha
  have h4 := dk_succ ha
  have hF := h.stepT a.kind a.t a.n (by omega : Vk acts k + 1 + a.t.size + np a.n ≤ Vk acts (k + 1)) h4
  have ho := h.o
  have hc := h.c
  have hc2 := hF.c
  exact ⟨⟨by omega, h.f, by omega, by omega⟩, hF⟩
theorem Fit.ok5 {s : St6} {acts : List Act6} (h : Fit s (Vk acts acts.length) (dsum acts acts.length)) (hv : vsum acts acts.length ≤ 16777216) (hd : dsum acts acts.length ≤ 16777216) (t : ByteArray) (ht : t.size = 0) (k n : Int) (hk : k = 5 ∨ k = 0) : Ok6 s k t n := by
  have h1 := Vk_le (Nat.le_refl acts.length)
  have ho := h.o
  have hc := h.c
  refine ⟨by omega, h.f, ?_⟩
  rcases hk with rfl | rfl
  · exact ⟨by show s.col ≤ _; omega, by show s.wait ≤ _; omega⟩
  · have : s.stepT 0 t n = s := rfl
    rw [this]; omega
end Go.Proofs.YtkmmcpkakpglkaaDoor
