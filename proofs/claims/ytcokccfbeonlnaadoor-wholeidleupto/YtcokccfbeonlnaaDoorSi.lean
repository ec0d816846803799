import Derived.Test.YtcokccfbeonlnaaDoorSh
set_option linter.unusedVariables false
set_option linter.unusedSimpArgs false
namespace Go.Proofs.YtcokccfbeonlnaaDoor
open Go.RowKit
open Go.Lib (strCells strCells_length)

def St6.text (s : St6) (t : ByteArray) : St6 := if t.size = 0 then s else ⟨false, (ncol s.col s.wait t).toNat, 0, s.out ++ ((if s.fresh then List.replicate s.col 32 else []) ++ (List.replicate s.wait 32 ++ t.data.toList))⟩

theorem ne_list {t : ByteArray} (h : t.size ≠ 0) : t.toList.isEmpty = false := by
  rw [ByteArray.toList_eq]
  cases hd : t.data.toList with
  | nil => exfalso; apply h; show t.data.size = 0; rw [← Array.length_toList, hd]; rfl
  | cons a r => rfl

theorem ncol_bd (col wait : Nat) (t : ByteArray) : 0 ≤ ncol col wait t ∧ ncol col wait t ≤ col + wait + 2 * t.size := by
  have h1 := tw_bd t
  have h2 := tw_bd (aft t)
  have h3 := aft_size t
  unfold ncol
  split <;> omega

theorem text_nil (t : ByteArray) (w : World) : Calls Tryd.prog 34 #[.pointer none, .string t] w fun e w' => e = .returned (.int .i64 3) ∧ w' = w := by
  go_enter_defers Tryd.func34, Tryd.ntmps34
  go_wp2_with fail
  exact ⟨_, results_tmp rfl _ _ _, rfl, rfl⟩

theorem text_none (g : Nat) (t : ByteArray) (w : World) (ht : t.size = 0) : Calls Tryd.prog 34 #[.pointer (some ⟨g, 0, none⟩), .string t] w fun e w' => e = .returned (.int .i64 0) ∧ w' = w := by
  obtain rfl : t = ⟨#[]⟩ := by
    have : t = ByteArray.empty := ByteArray.size_eq_zero_iff.1 ht
    exact this
  go_enter_defers Tryd.func34, Tryd.ntmps34
  go_wp2_with fail
  exact ⟨_, results_tmp rfl _ _ _, rfl, rfl⟩

set_option maxHeartbeats 1000000 in
theorem text_some (own : Nat → Nat) (i g : Nat) (s : St6) (t : ByteArray) (w : World) (h : SK own i w g s) (hn : Nf own w) (hT : Tab w) (ht : t.size ≠ 0) (hb : s.out.length + s.col + s.wait + t.size ≤ 1073741824) :
    Calls Tryd.prog 34 #[.pointer (some ⟨g, 0, none⟩), .string t] w fun e w' => e = .returned (.int .i64 0) ∧ Af own i w w' g (s.text t) := by
  have hlt := h.len
  have hlab := h.lab
  obtain ⟨tv, gv, text, gs, h1, h2, h3, h4, h5, h6⟩ := h.ex
  obtain ⟨p1, c1, e1, _, _⟩ := row_shape h2.1
  obtain ⟨p2, c2, e2, _, _⟩ := row_shape h3.1
  have hwl := weave_len h4
  rw [← h5] at hwl
  obtain ⟨fr, col, wait, out⟩ := s
  simp only at *
  have HGH : Hid (Calls Tryd.prog 61 #[.pointer (some ⟨g, 0, none⟩)] w fun e w' => ∃ c d h, e = .returned (.tuple #[.func (.func 76) #[] #[.pointer (some ⟨d, 0, none⟩), .pointer (some ⟨c, 0, none⟩)], .func (.func 77) #[] #[.pointer (some ⟨c, 0, none⟩)], .func (.func 78) #[] #[.pointer (some ⟨c, 0, none⟩), .pointer (some ⟨d, 0, none⟩), .pointer (some ⟨h, 0, none⟩)]]) ∧ Hid (Ga own i w g c d h (sk (!fr) col wait tv gv) w' text gs ∧ Tab w') ∧ w'.cell? ⟨g, 0, none⟩ = some (.bool (!fr)) ∧ w'.cell? ⟨g, 1, none⟩ = some (.int .i64 col) ∧ w'.cell? ⟨g, 2, none⟩ = some (.int .i64 wait)) := by
    refine (gather_any g (!fr) col wait tv gv w h1 ⟨_, _, _, e1⟩ ⟨_, _, _, e2⟩).mono ?_
    rintro e w' ⟨c, d, h, rfl, hB⟩
    have hG : Ga own i w g c d h (sk (!fr) col wait tv gv) w' text gs := ga_start h1 h2 h3 hB
    exact ⟨c, d, h, rfl, ⟨hG, hT.below hB.2⟩, blk_cell hG.hg rfl, blk_cell hG.hg rfl, blk_cell hG.hg rfl⟩
  have hnb := ncol_bd col wait t
  obtain ⟨nc, hnc⟩ : ∃ nc : Nat, ncol col wait t = nc := ⟨(ncol col wait t).toNat, by omega⟩
  have HBH : Hid (∀ V, Tab V → Calls Tryd.prog 62 #[.agg #[.bool (!fr), .int .i64 col, .int .i64 wait], .string t] V fun e w' => e = .returned (.agg #[.bool true, .int .i64 nc, .int .i64 0]) ∧ Below V.heap.size V w') := by
    intro V hV
    have := behind_any (!fr) col wait t V hV (by omega) (by omega) (by omega) (by omega) (by omega)
    rw [hnc] at this
    exact this
  have HE : Hid (∀ (w' : World) (cb d h : Nat) (u : FrameMode), Ga own i w g cb d h (sk (!fr) col wait tv gv) w' (text ++ t.data.toList) (addg (addg gs text.length (if fr then col else 0)) text.length wait) → CallsD Tryd.prog 78 #[.agg #[.bool true, .int .i64 nc, .int .i64 0], .pointer (some ⟨cb, 0, none⟩), .pointer (some ⟨d, 0, none⟩), .pointer (some ⟨h, 0, none⟩)] u w' fun e u' w' => u' = u ∧ (e = .returned (.tuple #[]) ∧ Af own i w w' g (St6.text ⟨fr, col, wait, out⟩ t))) := by
    intro w' cb d h u H
    have hst : St6.text ⟨fr, col, wait, out⟩ t = ⟨false, nc, 0, out ++ ((if fr then List.replicate col 32 else []) ++ (List.replicate wait 32 ++ t.data.toList))⟩ := by
      unfold St6.text; rw [if_neg ht]; simp only [hnc]; rfl
    rw [hst]
    have hlt2 : text.length < (text ++ t.data.toList).length := by
      have : t.data.toList.length = t.size := by rw [Array.length_toList]; rfl
      rw [List.length_append, this]; omega
    have hu2 : Ups 0 (addg (addg gs text.length (if fr then col else 0)) text.length wait) text.length := ups_addg wait (ups_addg _ h4)
    refine ga_end H ⟨_, _, _, e1⟩ ⟨_, _, _, e2⟩ hn hlab hlt u ⟨false, nc, 0, _⟩ (hu2.more (by simp)) ?_ ⟨len_addg _ _ _ (len_addg _ _ _ h6.1), lt_addg _ _ _ _ (lt_addg _ _ _ _ (fun x hx => by have := h6.2 x hx; simp; omega) hlt2) hlt2⟩
    show out ++ _ = _
    rw [weave_app _ hu2, weave_addg _ (ups_addg _ h4), weave_addg _ h4, ← h5]
    cases fr
    · simp
    · simp only [if_true, List.append_assoc]
  have HL : Hid (gs.length ≤ 1073741824 ∧ (addg gs text.length (if fr then col else 0)).length ≤ 1073741824 ∧ text.length + t.size ≤ 70368744177664 ∧ col ≤ 1073741824 ∧ wait ≤ 1073741824 ∧ text.length ≤ 1073741824) := by
    have := len_addg gs text.length (if fr then col else 0) h6.1
    rw [sums_addg] at this
    have h61 := h6.1
    refine ⟨by omega, ?_, by omega, by omega, by omega, by omega⟩
    cases fr <;> simp at this ⊢ <;> omega
  have hte : t.toList.isEmpty = false := ne_list ht
  clear hn hlab hlt h h1 h2 h3 h4 h5 h6 hwl e1 e2 hb hT ht hnb hnc
  cases fr
  · go_enter_defers Tryd.func34, Tryd.ntmps34
    go_wp2_with (go_at_call 61; refine HGH.out.mono ?_; rintro e w1 ⟨cb, d, h, rfl, HG, g0, g1, g2⟩)
    refine (HBH.out w1 HG.out.2).mono ?_
    rintro e w2 ⟨rfl, hb2⟩
    have HG2 : Hid (Ga own i w g cb d h (sk true col wait tv gv) w2 text gs) := HG.out.1.below hb2
    have g0' : w2.cell? ⟨g, 0, none⟩ = some (.bool true) := blk_cell HG2.out.hg rfl
    have g2' : w2.cell? ⟨g, 2, none⟩ = some (.int .i64 wait) := blk_cell HG2.out.hg rfl
    clear HG g0 g1 g2 hb2
    go_wp2_with fail
    refine (HG2.out.blanks wait HL.out.1 (by have := HL.out; omega) (by have := HL.out; omega)).mono ?_
    rintro e w3 ⟨rfl, H3⟩
    have HG3 : Hid (Ga own i w g cb d h (sk true col wait tv gv) w3 text (addg gs text.length wait)) := H3
    clear HG2 H3 g0' g2'
    go_wp2_with fail
    refine (HG3.out.text t HL.out.2.2.1).mono ?_
    rintro e w4 ⟨rfl, H4⟩
    have HG4 : Hid (Ga own i w g cb d h (sk true col wait tv gv) w4 (text ++ t.data.toList) (addg gs text.length wait)) := H4
    clear HG3 H4
    go_wp2_with fail
    refine leaves_cons (f := 78) (args := #[.agg #[.bool true, .int .i64 nc, .int .i64 0], .pointer (some ⟨cb, 0, none⟩), .pointer (some ⟨d, 0, none⟩), .pointer (some ⟨h, 0, none⟩)]) (by simp) (by simp [go_sem]) ?_
    refine (HE.out _ _ _ _ .returning HG4.out).mono ?_
    rintro e u' w'' ⟨rfl, rfl, hA⟩
    exact ⟨_, results_tmp rfl _ _ _, rfl, hA⟩
  · go_enter_defers Tryd.func34, Tryd.ntmps34
    go_wp2_with (go_at_call 61; refine HGH.out.mono ?_; rintro e w1 ⟨cb, d, h, rfl, HG, g0, g1, g2⟩)
    refine (HBH.out w1 HG.out.2).mono ?_
    rintro e w2 ⟨rfl, hb2⟩
    have HG2 : Hid (Ga own i w g cb d h (sk false col wait tv gv) w2 text gs) := HG.out.1.below hb2
    have g0' : w2.cell? ⟨g, 0, none⟩ = some (.bool false) := blk_cell HG2.out.hg rfl
    have g1' : w2.cell? ⟨g, 1, none⟩ = some (.int .i64 col) := blk_cell HG2.out.hg rfl
    clear HG g0 g1 g2 hb2
    go_wp2_with fail
    refine (HG2.out.blanks col HL.out.1 (by have := HL.out; omega) (by have := HL.out; omega)).mono ?_
    rintro e w3 ⟨rfl, H3⟩
    have HG3 : Hid (Ga own i w g cb d h (sk false col wait tv gv) w3 text (addg gs text.length col)) := H3
    have g2' : w3.cell? ⟨g, 2, none⟩ = some (.int .i64 wait) := blk_cell HG3.out.hg rfl
    clear HG2 H3 g0' g1'
    go_wp2_with fail
    refine (HG3.out.blanks wait HL.out.2.1 (by have := HL.out; omega) (by have := HL.out; omega)).mono ?_
    rintro e w5 ⟨rfl, H5⟩
    have HG5 : Hid (Ga own i w g cb d h (sk false col wait tv gv) w5 text (addg (addg gs text.length col) text.length wait)) := H5
    clear HG3 H5 g2'
    go_wp2_with fail
    refine (HG5.out.text t HL.out.2.2.1).mono ?_
    rintro e w4 ⟨rfl, H4⟩
    have HG4 : Hid (Ga own i w g cb d h (sk false col wait tv gv) w4 (text ++ t.data.toList) (addg (addg gs text.length col) text.length wait)) := H4
    clear HG5 H4
    go_wp2_with fail
    refine leaves_cons (f := 78) (args := #[.agg #[.bool true, .int .i64 nc, .int .i64 0], .pointer (some ⟨cb, 0, none⟩), .pointer (some ⟨d, 0, none⟩), .pointer (some ⟨h, 0, none⟩)]) (by simp) (by simp [go_sem]) ?_
    refine (HE.out _ _ _ _ .returning HG4.out).mono ?_
    rintro e u' w'' ⟨rfl, rfl, hA⟩
    exact ⟨_, results_tmp rfl _ _ _, rfl, hA⟩

theorem text_any (own : Nat → Nat) (i g : Nat) (s : St6) (t : ByteArray) (w : World) (h : SK own i w g s) (hn : Nf own w) (hT : Tab w) (hb : s.out.length + s.col + s.wait + t.size ≤ 1073741824) :
    Calls Tryd.prog 34 #[.pointer (some ⟨g, 0, none⟩), .string t] w fun e w' => e = .returned (.int .i64 0) ∧ Af own i w w' g (s.text t) := by
  by_cases ht : t.size = 0
  · refine (text_none g t w ht).mono ?_
    rintro e w' ⟨rfl, rfl⟩
    have : s.text t = s := if_pos ht
    rw [this]
    exact ⟨rfl, Af.here h hn (Below.refl _ _)⟩
  · exact text_some own i g s t w h hn hT ht hb

theorem feed_bad (g : Nat) (n : Int) (w : World) (hn : n < 0 ∨ 1048576 < n) : Calls Tryd.prog 65 #[.pointer (some ⟨g, 0, none⟩), .int .i64 n] w fun e w' => e = .returned (.int .i64 1) ∧ w' = w := by
  by_cases h0 : n < 0
  · have q1 : decide (n < 0) = true := by simp; omega
    clear hn
    go_enter Tryd.func65, Tryd.ntmps65
    go_wp2_with fail
    go_ret
    exact ⟨rfl, rfl⟩
  · have q1 : decide (n < 0) = false := by simp; omega
    have q2 : decide (1048576 < n) = true := by simp; omega
    have q3 : 1048576 < n := by omega
    clear hn
    go_enter Tryd.func65, Tryd.ntmps65
    go_wp2_with fail
    go_ret
    exact ⟨rfl, rfl⟩
theorem feed_any (own : Nat → Nat) (i g : Nat) (s : St6) (c : Nat) (w : World) (h : SK own i w g s) (hn : Nf own w) (hc : c ≤ 1048576) (hb : s.out.length ≤ 1073741824) :
    Calls Tryd.prog 65 #[.pointer (some ⟨g, 0, none⟩), .int .i64 c] w fun e w' => e = .returned (.int .i64 0) ∧ Af own i w w' g (s.feed c) := by
  have q1 : decide ((c : Int) < 0) = false := by simp
  have q2 : decide (1048576 < (c : Int)) = false := by simp; omega
  have q3 : ¬ (1048576 < (c : Int)) := by omega
  have q4 : ¬ (1048576 < c) := by omega
  have HN := next_any own i g s c w h hn hb
  clear h hn hb
  go_enter Tryd.func65, Tryd.ntmps65
  go_wp2_with (go_at_call 66; refine HN.mono ?_; rintro e w1 ⟨rfl, hA⟩)
  go_ret
  exact ⟨rfl, hA⟩
def St6.empty (s : St6) : St6 := if s.fresh then s.feed s.col else s
theorem empty_any (own : Nat → Nat) (i g : Nat) (s : St6) (w : World) (h : SK own i w g s) (hn : Nf own w) (hb : s.out.length ≤ 1073741824) :
    Calls Tryd.prog 38 #[.pointer (some ⟨g, 0, none⟩)] w fun e w' => e = .returned (.int .i64 0) ∧ Af own i w w' g s.empty := by
  obtain ⟨tv, gv, text, gs, h1, _⟩ := h.ex
  have HN := next_any own i g s s.col w h hn hb
  obtain ⟨fr, col, wait, out⟩ := s
  simp only at *
  have g0 : w.cell? ⟨g, 0, none⟩ = some (.bool (!fr)) := blk_cell h1 rfl
  have g1 : w.cell? ⟨g, 1, none⟩ = some (.int .i64 col) := blk_cell h1 rfl
  cases fr
  · have HE : Hid (Af own i w w g (St6.empty ⟨false, col, wait, out⟩)) := Af.here h hn (Below.refl _ _)
    clear h hn hb h1 HN
    go_enter Tryd.func38, Tryd.ntmps38
    go_wp2_with fail
    go_ret
    exact ⟨rfl, HE.out⟩
  · clear h hn hb h1
    go_enter Tryd.func38, Tryd.ntmps38
    go_wp2_with (go_at_call 66; refine HN.mono ?_; rintro e w1 ⟨rfl, hA⟩)
    go_ret
    exact ⟨rfl, hA⟩
end Go.Proofs.YtcokccfbeonlnaaDoor
