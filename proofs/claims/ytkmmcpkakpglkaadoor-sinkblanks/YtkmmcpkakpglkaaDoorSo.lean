import Derived.Test.YtkmmcpkakpglkaaDoorSn
set_option linter.unusedVariables false
set_option linter.unusedSimpArgs false
namespace Go.Proofs.YtkmmcpkakpglkaaDoor
open Go.RowKit
open Go.Lib (strCells strCells_length)

theorem push_bytes (l : List UInt8) : ∀ s : ByteArray, (l.map (fun b : UInt8 => (b.toNat : Int))).foldl (fun r n => r.push (UInt8.ofNat n.toNat)) s = ⟨(s.data.toList ++ l).toArray⟩ := by
  induction l with
  | nil => intro s; simp
  | cons b l ih =>
    intro s
    rw [List.map_cons, List.foldl_cons, ih]
    simp
theorem conv_bytes (w : World) (B : Nat) (v : Value) (l : List UInt8) (hv : w.ownsRow B 5 1 v l.length (bc l)) : (convert 39 9 v).run Tryd.prog w = .ok (.string ⟨l.toArray⟩) w := by
  have hv0 := row_zero hv
  rcases hv.2 with ⟨rfl, h0⟩ | ⟨g, cp, cur, rfl, h2⟩
  · have e : l = [] := List.eq_nil_of_length_eq_zero h0
    rw [run_convert_bytes_string (P := Tryd.prog) w 39 9 5 _ _ _ Tryd.underlying39 Tryd.underlying5 Tryd.underlying9, e]
    rfl
  · rw [run_convert_bytes_string (P := Tryd.prog) w 39 9 5 _ _ _ Tryd.underlying39 Tryd.underlying5 Tryd.underlying9]
    have hload := run_loadCells_list (P := Tryd.prog) w ⟨g, 0, none⟩ (bc l) (hv.cells rfl)
    rw [bc_len] at hload
    rw [run_bytesToString (P := Tryd.prog) w ⟨g, 0, none⟩ l.length cp (l.map (fun b : UInt8 => (b.toNat : Int))) (by rw [hload]; simp [bc, List.map_map, Function.comp_def]), push_bytes]
    rfl

theorem rcolumn_any (own : Nat → Nat) (i g : Nat) (s : St6) (w : World) (h : RSK own i w g s) (h1 : s.col ≤ 1073741824) (h2 : s.wait ≤ 1073741824) :
    Calls Tryd.prog 38 #[.pointer (some ⟨g, 0, none⟩)] w fun e w' => e = .returned (.int .i64 ((s.col : Int) + s.wait)) ∧ Below w.heap.size w w' := by
  obtain ⟨ov, ind, col, hB, hc⟩ := h.open
  obtain ⟨fr, cl, wt, out⟩ := s
  simp only at *
  have c1 := hB.c1
  have c2 := hB.c2
  have c3 := hB.c3
  have c4 := hB.c4
  clear hB h
  cases fr
  · simp at hc
    subst hc
    go_enter Tryd.func38, Tryd.ntmps38
    go_wp2_with fail
    go_quiet (fail)
    go_wp2_with fail
    go_ret
    exact ⟨rfl, below_drewN (Below.refl _ w) nq⟩
  · simp at hc
    subst hc
    go_enter Tryd.func38, Tryd.ntmps38
    go_wp2_with fail
    go_quiet (fail)
    go_wp2_with fail
    go_ret
    exact ⟨rfl, below_drewN (Below.refl _ w) nq⟩
theorem rfresh_any (own : Nat → Nat) (i g : Nat) (s : St6) (w : World) (h : RSK own i w g s) :
    Calls Tryd.prog 39 #[.pointer (some ⟨g, 0, none⟩)] w fun e w' => e = .returned (.bool s.fresh) ∧ w' = w := by
  obtain ⟨ov, ind, col, hB, hc⟩ := h.open
  have c1 := hB.c1
  clear hB h
  go_enter Tryd.func39, Tryd.ntmps39
  go_wp2_with fail
  go_ret
  exact ⟨rfl, rfl⟩
theorem rblanks_bad (g : Nat) (n : Int) (w : World) (hn : n < 0 ∨ 1048576 < n) : Calls Tryd.prog 34 #[.pointer (some ⟨g, 0, none⟩), .int .i64 n] w fun e w' => e = .returned (.int .i64 1) ∧ w' = w := by
  by_cases h0 : n < 0
  · have q1 : decide (n < 0) = true := by simp; omega
    clear hn
    go_enter Tryd.func34, Tryd.ntmps34
    go_wp2_with fail
    go_ret
    exact ⟨rfl, rfl⟩
  · have q1 : decide (n < 0) = false := by simp; omega
    have q2 : decide (1048576 < n) = true := by simp; omega
    have q3 : 1048576 < n := by omega
    clear hn
    go_enter Tryd.func34, Tryd.ntmps34
    go_wp2_with fail
    go_ret
    exact ⟨rfl, rfl⟩
def St6.blanks (s : St6) (n : Nat) : St6 := ⟨s.fresh, s.col, s.wait + n, s.out⟩
theorem rblanks_any (own : Nat → Nat) (i g : Nat) (s : St6) (n : Nat) (w : World) (h : RSK own i w g s) (hn : Nf own w) (h1 : n ≤ 1048576) (h3 : s.wait ≤ 1073741824) :
    Calls Tryd.prog 34 #[.pointer (some ⟨g, 0, none⟩), .int .i64 n] w fun e w' => e = .returned (.int .i64 0) ∧ AfR own i w w' g (s.blanks n) := by
  have hlt := h.len
  obtain ⟨ov, ind, col, hB, hc⟩ := h.open
  have q1 : decide ((n : Int) < 0) = false := by simp
  have q2 : decide (1048576 < (n : Int)) = false := by simp; omega
  have q3 : ¬ (1048576 < (n : Int)) := by omega
  have q4 : ¬ (1048576 < n) := by omega
  have c4 := hB.c4
  have f4 := hB.fz 4
  have HE : Hid (AfR own i w (w.setCell ⟨g, 4, none⟩ (.int .i64 ((s.wait : Int) + n))) g (s.blanks n)) := by
    have := hB.set4 ((s.wait + n : Nat) : Int)
    exact RB.fin this hn hlt (s.blanks n) rfl hc rfl rfl
  clear hB h hn hlt hc
  go_enter Tryd.func34, Tryd.ntmps34
  go_wp2_with fail
  go_ret
  exact ⟨rfl, HE.out⟩
theorem rfeed_bad (g : Nat) (n : Int) (w : World) (hn : n < 0 ∨ 1048576 < n) : Calls Tryd.prog 35 #[.pointer (some ⟨g, 0, none⟩), .int .i64 n] w fun e w' => e = .returned (.int .i64 1) ∧ w' = w := by
  by_cases h0 : n < 0
  · have q1 : decide (n < 0) = true := by simp; omega
    clear hn
    go_enter Tryd.func35, Tryd.ntmps35
    go_wp2_with fail
    go_ret
    exact ⟨rfl, rfl⟩
  · have q1 : decide (n < 0) = false := by simp; omega
    have q2 : decide (1048576 < n) = true := by simp; omega
    have q3 : 1048576 < n := by omega
    clear hn
    go_enter Tryd.func35, Tryd.ntmps35
    go_wp2_with fail
    go_ret
    exact ⟨rfl, rfl⟩

set_option maxHeartbeats 1000000 in
theorem rfeed_any (own : Nat → Nat) (i g : Nat) (s : St6) (n : Nat) (w : World) (h : RSK own i w g s) (hn : Nf own w) (h1 : n ≤ 1048576) (hb : s.out.length ≤ 1073741824) :
    Calls Tryd.prog 35 #[.pointer (some ⟨g, 0, none⟩), .int .i64 n] w fun e w' => e = .returned (.int .i64 0) ∧ AfR own i w w' g (s.feed n) := by
  obtain ⟨i0, hi, hz0, hz1, hz2⟩ := info_parts Tryd.info5
  have hlt := h.len
  obtain ⟨ov, ind, col, hB, hc⟩ := h.open
  have q1 : decide ((n : Int) < 0) = false := by simp
  have q2 : decide (1048576 < (n : Int)) = false := by simp; omega
  have q3 : ¬ (1048576 < (n : Int)) := by omega
  have q4 : ¬ (1048576 < n) := by omega
  have c0 := hB.c0
  obtain ⟨p, cap, rfl, _, _⟩ := row_shape hB.row
  have HB : Hid (RB own i w g (w.alloc (.cells #[.int .u8 10] 5)) (.slice p s.out.length cap) s.fresh ind col s.wait s.out) := hB.below ((Below.refl _ _).alloc (Nat.le_refl _) _)
  have HN : Hid (Nf own w) := hn
  clear hB h hn hc
  go_enter Tryd.func35, Tryd.ntmps35
  go_wp2_with (first | (at_builtin; refine wpList_append_own_at (P := Tryd.prog) (w := w.alloc (.cells #[.int .u8 10] 5)) rfl _ _ 39 rfl 0 5 i0 (.int .u8 0) 1 1 Tryd.underlying39 hi hz0 hz1 hz2 rfl (by decide) _ _ _ rfl HB.out.row ⟨w.heap.size, 0, none⟩ 1 1 [.int .u8 10] rfl rfl ?c1 ?c2 ?c3 ?c4 ?c5 ?_))
  case c2 => first | rfl | (intro u hu; simp at hu; subst hu; rfl)
  case c3 => unfold maxLen; omega
  case c4 => omega
  intro v2 w2 ho2 hg2 _ hat
  have hE := HB.out.put (l := [10]) hg2 ho2 (by rw [World.size_alloc]; exact hat)
  have HE : Hid (AfR own i w ((((w2.setCell ⟨g, 0, none⟩ v2).setCell ⟨g, 1, none⟩ (.bool true)).setCell ⟨g, 2, none⟩ (.int .i64 n)).setCell ⟨g, 4, none⟩ (.int .i64 0)) g (s.feed n)) := by
    have := ((hE.set1 true).set2 (n : Nat)).set4 (0 : Nat)
    exact RB.fin this HN.out hlt (s.feed n) rfl rfl rfl rfl
  have hb2 := HB.out.mid hg2
  have d0 : w2.cell? ⟨g, 0, none⟩ = some (.slice p s.out.length cap) := blk_cell hb2 rfl
  have d1 : w2.cell? ⟨g, 1, none⟩ = some (.bool s.fresh) := blk_cell hb2 rfl
  have d2 : w2.cell? ⟨g, 2, none⟩ = some (.int .i64 ind) := blk_cell hb2 rfl
  have d4 : w2.cell? ⟨g, 4, none⟩ = some (.int .i64 s.wait) := blk_cell hb2 rfl
  have f0 : w2.frozen? ⟨g, 0, none⟩ = false := blk_frozen hb2
  have f1 : w2.frozen? ⟨g, 1, none⟩ = false := blk_frozen hb2
  have f2 : w2.frozen? ⟨g, 2, none⟩ = false := blk_frozen hb2
  have f4 : w2.frozen? ⟨g, 4, none⟩ = false := blk_frozen hb2
  obtain ⟨p2, cap2, rfl, _, _⟩ := row_shape ho2
  clear ho2 hg2 hat hb2 HB hE HN
  go_wp2_with fail
  go_ret
  exact ⟨rfl, HE.out⟩

theorem rempty_any (own : Nat → Nat) (i g : Nat) (s : St6) (w : World) (h : RSK own i w g s) (hn : Nf own w) (hc : s.col ≤ 1048576 ∨ s.fresh = false) (hb : s.out.length ≤ 1073741824) :
    Calls Tryd.prog 36 #[.pointer (some ⟨g, 0, none⟩)] w fun e w' => e = .returned (.int .i64 0) ∧ AfR own i w w' g s.empty := by
  obtain ⟨ov, ind, col, hB, hcc⟩ := h.open
  obtain ⟨fr, cl, wt, out⟩ := s
  simp only at *
  have c1 := hB.c1
  have c2 := hB.c2
  cases fr
  · have HE : Hid (AfR own i w w g (St6.empty ⟨false, cl, wt, out⟩)) := AfR.here h hn (Below.refl _ _)
    clear h hn hb hB hcc hc
    go_enter Tryd.func36, Tryd.ntmps36
    go_wp2_with fail
    go_ret
    exact ⟨rfl, HE.out⟩
  · simp at hcc
    subst hcc
    have HN := rfeed_any own i g ⟨true, cl, wt, out⟩ cl w h hn (by simpa using hc) hb
    clear h hn hb hB hc
    go_enter Tryd.func36, Tryd.ntmps36
    go_wp2_with (go_at_call 35; refine HN.mono ?_; rintro e w1 ⟨rfl, hA⟩)
    go_ret
    exact ⟨rfl, hA⟩

theorem rtake_any (own : Nat → Nat) (i g : Nat) (s : St6) (w : World) (h : RSK own i w g s) (hn : Nf own w) :
    Calls Tryd.prog 37 #[.pointer (some ⟨g, 0, none⟩)] w fun e w' => e = .returned (.string ⟨s.out.toArray⟩) ∧ AfR own i w w' g s.take := by
  have hlt := h.len
  obtain ⟨ov, ind, col, hB, hc⟩ := h.open
  have hcv := conv_bytes w 0 ov s.out hB.row
  have c0 := hB.c0
  have f0 := hB.fz 0
  have HE : Hid (AfR own i w (w.setCell ⟨g, 0, none⟩ (.slice none 0 0)) g s.take) := RB.fin hB.clear hn hlt s.take rfl hc rfl rfl
  obtain ⟨p, cap, rfl, _, _⟩ := row_shape hB.row
  clear hB h hn hlt hc
  go_enter Tryd.func37, Tryd.ntmps37
  go_wp2_with fail
  go_ret
  exact ⟨rfl, HE.out⟩
end Go.Proofs.YtkmmcpkakpglkaaDoor
