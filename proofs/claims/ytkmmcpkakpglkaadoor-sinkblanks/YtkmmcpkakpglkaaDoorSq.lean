import Derived.Test.YtkmmcpkakpglkaaDoorSp
set_option linter.unusedVariables false
set_option linter.unusedSimpArgs false
namespace Go.Proofs.YtkmmcpkakpglkaaDoor
open Go.RowKit
open Go.Lib (strCells strCells_length)

/-- What the walks of the laws want of the world and its labels. -/
structure En (own : Nat → Nat) (w : World) : Prop where
  nf : Nf own w
  tab : Tab w
  z : own 0 = 0
theorem Tab.pos {w : World} (h : Tab w) : 0 < w.heap.size := World.block_lt_of_cell? w _ (h 0 (by omega)).1
theorem En.fr {own own' : Nat → Nat} {w w' : World} {i : Nat} (h : En own w) (hi : i ≠ 0) (hn : Nf own' w') (hf : Fr i own own' w w') : En own' w' :=
  ⟨hn, hf.tab h.tab (by rw [h.z]; exact fun e => hi e.symm), (hf.old 0 h.tab.pos).trans h.z⟩
theorem En.below {own : Nat → Nat} {w w' : World} (h : En own w) (hb : Below w.heap.size w w') : En own w' := ⟨h.nf.below hb.size, h.tab.below hb, h.z⟩

/-- Behind a call on the code's sink. -/
def Ae (own : Nat → Nat) (i : Nat) (w w' : World) (g : Nat) (s : St6) : Prop := ∃ own', En own' w' ∧ Fr i own own' w w' ∧ SK own' i w' g s
theorem Af.ae {own : Nat → Nat} {i : Nat} {w w' : World} {g : Nat} {s : St6} (h : Af own i w w' g s) (hE : En own w) (hi : i ≠ 0) : Ae own i w w' g s := by
  obtain ⟨own', h1, h2, h3⟩ := h
  exact ⟨own', hE.fr hi h1 h2, h2, h3⟩

def st0 : St6 := ⟨true, 0, 0, []⟩

theorem new_st (own : Nat → Nat) (i : Nat) (w : World) (hE : En own w) (hi : i ≠ 0) : Calls Tryd.prog 17 #[] w fun e w' => e = .returned (.pointer (some ⟨w.heap.size, 0, none⟩)) ∧ Ae own i w w' w.heap.size st0 := by
  refine (new_any w).mono ?_
  rintro e w' ⟨rfl, rfl⟩
  have hb : Below w.heap.size w (w.alloc (.cells (sk false 0 0 (.slice none 0 0) (.slice none 0 0)) 53)) := (Below.refl _ _).alloc (Nat.le_refl _) _
  have hs : (w.alloc (.cells (sk false 0 0 (.slice none 0 0) (.slice none 0 0)) 53)).heap.size = w.heap.size + 1 := World.size_alloc _ _
  have hf : Fr i own (fun k => if k = w.heap.size then i else own k) w (w.alloc (.cells (sk false 0 0 (.slice none 0 0) (.slice none 0 0)) 53)) := ⟨hb.os, hb.tape, hb.output, hb.size, fun k hk _ => hb.block k hk, fun k hk => if_neg (by omega)⟩
  refine ⟨rfl, _, hE.fr hi ?_ hf, hf, if_pos rfl, .slice none 0 0, .slice none 0 0, [], [], new_at _ _, ⟨World.ownsRow_nil _ _ _ _, fun k h => by cases h⟩, ⟨World.ownsRow_nil _ _ _ _, fun k h => by cases h⟩, Nat.zero_le _, rfl, Nat.le_refl _, fun x h => by cases h⟩
  intro k hk
  rw [hs] at hk
  show (if k = w.heap.size then i else own k) = 0
  rw [if_neg (by omega)]; exact hE.nf k (by omega)

section
variable {own : Nat → Nat} {i : Nat} {g : Nat} {s : St6} {w : World}
theorem text_st (h : SK own i w g s) (hE : En own w) (hi : i ≠ 0) (t : ByteArray) (hb : s.out.length + s.col + s.wait + t.size ≤ 1073741824) :
    Calls Tryd.prog 7 #[.pointer (some ⟨g, 0, none⟩), .string t] w fun e w' => e = .returned (.int .i64 0) ∧ Ae own i w w' g (s.text t) :=
  (text_any own i g s t w h hE.nf hE.tab hb).mono fun e w' ⟨h1, h2⟩ => ⟨h1, h2.ae hE hi⟩
theorem feed_st (h : SK own i w g s) (hE : En own w) (hi : i ≠ 0) (c : Nat) (hc : c ≤ 1048576) (hb : s.out.length ≤ 1073741824) :
    Calls Tryd.prog 9 #[.pointer (some ⟨g, 0, none⟩), .int .i64 c] w fun e w' => e = .returned (.int .i64 0) ∧ Ae own i w w' g (s.feed c) :=
  (feed_any own i g s c w h hE.nf hc hb).mono fun e w' ⟨h1, h2⟩ => ⟨h1, h2.ae hE hi⟩
theorem empty_st (h : SK own i w g s) (hE : En own w) (hi : i ≠ 0) (hb : s.out.length ≤ 1073741824) :
    Calls Tryd.prog 10 #[.pointer (some ⟨g, 0, none⟩)] w fun e w' => e = .returned (.int .i64 0) ∧ Ae own i w w' g s.empty :=
  (empty_any own i g s w h hE.nf hb).mono fun e w' ⟨h1, h2⟩ => ⟨h1, h2.ae hE hi⟩
theorem take_st (h : SK own i w g s) (hE : En own w) (hi : i ≠ 0) (hb : s.out.length ≤ 1073741824) :
    Calls Tryd.prog 13 #[.pointer (some ⟨g, 0, none⟩)] w fun e w' => e = .returned (.string ⟨s.out.toArray⟩) ∧ Ae own i w w' g s.take :=
  (take_any own i g s w h hE.nf hb).mono fun e w' ⟨h1, h2⟩ => ⟨h1, h2.ae hE hi⟩
theorem blanks_st (h : SK own i w g s) (hE : En own w) (hi : i ≠ 0) (n : Nat) (hn : n ≤ 1048576) (hb : s.wait ≤ 1073741824) :
    Calls Tryd.prog 8 #[.pointer (some ⟨g, 0, none⟩), .int .i64 n] w fun e w' => e = .returned (.int .i64 0) ∧ Ae own i w w' g (s.blanks n) := by
  obtain ⟨tv, gv, text, gs, h1, h2, h3, h4⟩ := h.ex
  refine (blanks_any g (!s.fresh) s.col s.wait n tv gv w h1 (by omega) (by omega) (by omega) (by omega)).mono ?_
  rintro e w' ⟨rfl, rfl⟩
  have hk := Kp.set w g 2 (.int .i64 ((s.wait : Int) + n))
  have hf : Fr i own own w (w.setCell ⟨g, 2, none⟩ (.int .i64 ((s.wait : Int) + n))) := hk.fr (fun k _ e => by subst e; exact h.lab) (fun _ _ => rfl)
  have r1 := row_ne h2.1 h1 (by decide)
  have r2 := row_ne h3.1 h1 (by decide)
  refine ⟨rfl, own, hE.fr hi (hE.nf.below hk.size) hf, hf, h.lab, tv, gv, text, gs, ?_, ⟨hk.row h2.1 (fun k e1 e2 => r1 (by rw [e1, e2])), h2.2⟩, ⟨hk.row h3.1 (fun k e1 e2 => r2 (by rw [e1, e2])), h3.2⟩, h4⟩
  exact blk_set h1 2 _
theorem column_st (h : SK own i w g s) (h1 : s.col ≤ 1073741824) (h2 : s.wait ≤ 1073741824) :
    Calls Tryd.prog 11 #[.pointer (some ⟨g, 0, none⟩)] w fun e w' => e = .returned (.int .i64 ((s.col : Int) + s.wait)) ∧ Below w.heap.size w w' := by
  obtain ⟨tv, gv, text, gs, a1, _⟩ := h.ex
  exact column_any g (!s.fresh) s.col s.wait tv gv w a1 (by omega) (by omega) (by omega) (by omega)
theorem fresh_st (h : SK own i w g s) :
    Calls Tryd.prog 12 #[.pointer (some ⟨g, 0, none⟩)] w fun e w' => e = .returned (.bool s.fresh) ∧ w' = w := by
  obtain ⟨tv, gv, text, gs, a1, _⟩ := h.ex
  have := fresh_any g (!s.fresh) s.col s.wait tv gv w a1
  simpa using this
end

theorem aw_a : St6.text st0 ⟨#[97]⟩ = ⟨false, 1, 0, [97]⟩ := by
  have h : ncol ((0 : Nat) : Int) ((0 : Nat) : Int) ⟨#[97]⟩ = 1 := by decide +kernel
  show (⟨false, (ncol ((0 : Nat) : Int) ((0 : Nat) : Int) ⟨#[97]⟩).toNat, 0, [97]⟩ : St6) = _
  rw [h]; rfl
theorem aw_b : St6.text ⟨true, 3, 0, [97, 10]⟩ ⟨#[98]⟩ = ⟨false, 4, 0, [97, 10, 32, 32, 32, 98]⟩ := by
  have h : ncol ((3 : Nat) : Int) ((0 : Nat) : Int) ⟨#[98]⟩ = 4 := by decide +kernel
  show (⟨false, (ncol ((3 : Nat) : Int) ((0 : Nat) : Int) ⟨#[98]⟩).toNat, 0, [97, 10, 32, 32, 32, 98]⟩ : St6) = _
  rw [h]; rfl

set_option maxHeartbeats 1000000 in
theorem awake_any (w : World) (hT : Tab w) : Calls Tryd.prog 14 #[] w fun e w' => e = .returned (.bool true) ∧ Below w.heap.size w w' := by
  have HE0 : Hid (En (fun _ => 0) w) := ⟨fun _ _ => rfl, hT, rfl⟩
  clear hT
  go_enter Tryd.func14, Tryd.ntmps14
  go_wp2_with fail
  refine (new_st _ 1 w HE0.out (by omega)).mono ?_
  rintro e w1 ⟨rfl, o1, E1, F1, S1⟩
  have H1 : Hid (En o1 w1 ∧ Fr 1 (fun _ => 0) o1 w w1 ∧ SK o1 1 w1 w.heap.size st0) := ⟨E1, F1, S1⟩
  clear E1 F1 S1
  go_wp2_with fail
  refine (text_st H1.out.2.2 H1.out.1 (by omega) ⟨#[97]⟩ (by decide)).mono ?_
  rintro e w2 ⟨rfl, o2, E2, F2, S2⟩
  rw [aw_a] at S2
  have H2 : Hid (En o2 w2 ∧ Fr 1 (fun _ => 0) o2 w w2 ∧ SK o2 1 w2 w.heap.size ⟨false, 1, 0, [97]⟩) := ⟨E2, H1.out.2.1.trans F2, S2⟩
  clear H1 E2 F2 S2
  go_wp2_with fail
  refine (blanks_st H2.out.2.2 H2.out.1 (by omega) 2 (by omega) (by decide)).mono ?_
  rintro e w3 ⟨rfl, o3, E3, F3, S3⟩
  have H3 : Hid (En o3 w3 ∧ Fr 1 (fun _ => 0) o3 w w3 ∧ SK o3 1 w3 w.heap.size ⟨false, 1, 2, [97]⟩) := ⟨E3, H2.out.2.1.trans F3, S3⟩
  clear H2 E3 F3 S3
  go_wp2_with fail
  refine (column_st H3.out.2.2 (by decide) (by decide)).mono ?_
  rintro e w4 ⟨rfl, hb4⟩
  have H4 : Hid (En o3 w4 ∧ Fr 1 (fun _ => 0) o3 w w4 ∧ SK o3 1 w4 w.heap.size ⟨false, 1, 2, [97]⟩) := ⟨H3.out.1.below hb4, H3.out.2.1.then hb4, H3.out.2.2.below hb4⟩
  clear H3 hb4
  go_wp2_with fail
  refine (feed_st H4.out.2.2 H4.out.1 (by omega) 3 (by omega) (by decide)).mono ?_
  rintro e w5 ⟨rfl, o5, E5, F5, S5⟩
  have H5 : Hid (En o5 w5 ∧ Fr 1 (fun _ => 0) o5 w w5 ∧ SK o5 1 w5 w.heap.size ⟨true, 3, 0, [97, 10]⟩) := ⟨E5, H4.out.2.1.trans F5, S5⟩
  clear H4 E5 F5 S5
  go_wp2_with fail
  refine (fresh_st H5.out.2.2).mono ?_
  rintro e w6 ⟨rfl, hw6⟩
  have hw6' := hw6.symm
  subst hw6'
  clear hw6
  go_wp2_with fail
  refine (text_st H5.out.2.2 H5.out.1 (by omega) ⟨#[98]⟩ (by decide)).mono ?_
  rintro e w7 ⟨rfl, o7, E7, F7, S7⟩
  rw [aw_b] at S7
  have H7 : Hid (En o7 w7 ∧ Fr 1 (fun _ => 0) o7 w w7 ∧ SK o7 1 w7 w.heap.size ⟨false, 4, 0, [97, 10, 32, 32, 32, 98]⟩) := ⟨E7, H5.out.2.1.trans F7, S7⟩
  clear H5 E7 F7 S7
  go_wp2_with fail
  refine (take_st H7.out.2.2 H7.out.1 (by omega) (by decide)).mono ?_
  rintro e w8 ⟨rfl, o8, E8, F8, S8⟩
  have H8 : Hid (En o8 w8 ∧ Fr 1 (fun _ => 0) o8 w w8 ∧ SK o8 1 w8 w.heap.size ⟨false, 4, 0, []⟩) := ⟨E8, H7.out.2.1.trans F8, S8⟩
  clear H7 E8 F8 S8
  go_wp2_with fail
  refine (column_st H8.out.2.2 (by decide) (by decide)).mono ?_
  rintro e w9 ⟨rfl, hb9⟩
  have HF : Hid (Below w.heap.size w w9) := (H8.out.2.1.then hb9).below (Nat.le_refl _) (fun _ _ => rfl) (by omega)
  clear H8 hb9
  go_wp2_with fail
  go_ret
  exact ⟨rfl, HF.out⟩

set_option maxHeartbeats 1000000 in
theorem names_any (w : World) (hT : Tab w) : Calls Tryd.prog 3 #[] w fun e w' => e = .returned (.bool true) ∧ Below w.heap.size w w' := by
  have HT : Hid (Tab w) := hT
  clear hT
  go_enter Tryd.func3, Tryd.ntmps3
  go_wp2_with (first | (go_at_call 7; refine (text_nil _ _).mono ?_; rintro e w1 ⟨rfl, rfl⟩) | (go_at_call 8; refine (blanks_nil _ _).mono ?_; rintro e w1 ⟨rfl, rfl⟩) | (go_at_call 9; refine (feed_nil _ _).mono ?_; rintro e w1 ⟨rfl, rfl⟩) | (go_at_call 10; refine (empty_nil _).mono ?_; rintro e w1 ⟨rfl, rfl⟩) | (go_at_call 11; refine (column_nil _).mono ?_; rintro e w1 ⟨rfl, rfl⟩) | (go_at_call 12; refine (fresh_nil _).mono ?_; rintro e w1 ⟨rfl, rfl⟩))
  refine (take_nil _).mono ?_
  rintro e w2 ⟨rfl, hb2⟩
  go_wp2_with fail
  refine (awake_any w2 (HT.out.below hb2)).mono ?_
  rintro e w3 ⟨rfl, hb3⟩
  go_wp2_with fail
  go_ret
  exact ⟨rfl, hb2.trans (hb3.mono hb2.size)⟩
end Go.Proofs.YtkmmcpkakpglkaaDoor
