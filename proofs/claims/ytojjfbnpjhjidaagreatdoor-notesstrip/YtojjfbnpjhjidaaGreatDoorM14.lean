import Derived.Deep.RegionHeld3
import Derived.WalkMore
import Derived.ScopeJumps
import Derived.Test.YtojjfbnpjhjidaaGreatDoorM11
import Derived.Test.YtojjfbnpjhjidaaGreatDoorM13
set_option linter.unusedVariables false
set_option linter.unusedSimpArgs false
namespace Go.Proofs.YtojjfbnpjhjidaaGreatDoor.Lx
open Go.RowKit Go.Shelf
set_option maxRecDepth 100000 in
set_option maxHeartbeats 1000000 in
theorem radv_any (a0 l0 c0 : Int) (s : ByteArray) (w : World) (hs : s.size ≤ 2147483647) (hl0 : -9223372036854775808 ≤ l0 ∧ l0 ≤ 9223372036854775807) :
    Calls Tryz.prog 23 #[.agg #[.int .i64 a0, .int .i64 l0, .int .i64 c0], .string s] w fun e w' => e = .returned (.agg #[.int .i64 (aAt a0 s), .int .i64 (aLine l0 s), .int .i64 (aCol c0 s)]) ∧ Below w.heap.size w w' := by
  go_enter Tryz.func23, Tryz.ntmps23
  go_wp2
  obtain ⟨a1, ha1⟩ : ∃ a1, wrap64 (a0 + (s.size : Int)) = a1 := ⟨_, rfl⟩
  rw [ha1]
  have HA : Hid (aAt a0 s = a1) := ha1
  clear ha1
  go_loopw [5, 6] (fun f i wr => ∃ (a b : Nat) (L C : Int), f = .int .i64 b ∧ i = .int .i64 a ∧ Hid (b = lf s a) ∧ a ≤ s.size ∧ Hid (L = wrap64 (l0 + cn s a)) ∧ Hid (C = if cn s a = 0 then c0 else 1) ∧ Box3 wr w.heap.size a1 L C ∧ Box3 wr (w.heap.size + 1) 0 0 0 ∧ Below w.heap.size w wr)
    (fun _ i _ => s.size - (RowKit.intOf i).toNat)
  case atStart =>
    refine ⟨0, 0, l0, c0, rfl, rfl, rfl, Nat.zero_le _, ?_, rfl, (Box3.new w _ _ _).alloc _, ?_, ((Below.refl _ w).alloc (Nat.le_refl _) _).alloc (by simp) _⟩
    · show l0 = wrap64 (l0 + ((0 : Nat) : Int)); rw [wrap_ok _ (by simp; exact hl0)]; simp
    · have := Box3.new (w.alloc (.cells #[.int .i64 a1, .int .i64 l0, .int .i64 c0] 26)) 0 0 0; rw [World.size_alloc] at this; exact this
  case round =>
    obtain ⟨a, b, L, C, rfl, rfl, HB, ha, HL, HC, k0, k1, hbw⟩ := hrel
    have g1 := k0.cell1
    have g2 := k0.cell2
    have f1 := k0.frozen 1
    have f2 := k0.frozen 2
    have hlf := (lf_facts s a).1
    rw [← HB.out] at hlf
    by_cases h1 : a < s.size
    · have hcn := cn_step s a
      have hls := lf_step s a
      by_cases h2 : by8 s a = 10
      · have h3 : (((s[a]'h1).toNat : Int) == 10) = true := by rw [by8_get s a h1, h2]; rfl
        rw [if_pos h2] at hls
        have HCN : Hid (cn s (a + 1) = cn s a + 1) := by rcases hcn with ⟨_, h⟩ | ⟨h, _⟩; exact h; exact absurd h2 h
        have HS : Hid (lf s (a + 1) = a + 1) := hls
        clear hcn hls h2
        go_wp2
        go_roundw
        case rel =>
          refine ⟨a + 1, a + 1, wrap64 (L + 1), 1, by go_num, by go_num, HS.out.symm, h1, ?_, ?_, (k0.set1 _).set2 _, (k1.kept (grown_set _ _ _) (by simp)).kept (grown_set _ _ _) (by simp), (hbw.setCell (p := ⟨w.heap.size, 1, none⟩) (Nat.le_refl _) _).setCell (p := ⟨w.heap.size, 2, none⟩) (Nat.le_refl _) _⟩
          · show _ = _; rw [HL.out, HCN.out, wrap_add]; congr 1; omega
          · show _ = _; rw [HCN.out, if_neg (by omega)]
        case measure => simp [RowKit.intOf]; omega
      · have h3 : (((s[a]'h1).toNat : Int) == 10) = false := by rw [by8_get s a h1]; simp; omega
        rw [if_neg h2] at hls
        have HCN : Hid (cn s (a + 1) = cn s a) := by rcases hcn with ⟨h, _⟩ | ⟨_, h⟩; exact absurd h h2; exact h
        have HS : Hid (lf s (a + 1) = lf s a) := hls
        clear hcn hls h2
        go_wp2
        go_roundw
        case rel => exact ⟨a + 1, b, L, C, rfl, by go_num, by show _ = _; rw [HS.out, HB.out], h1, by show _ = _; rw [HCN.out, HL.out], by show _ = _; rw [HCN.out, HC.out], k0, k1, hbw⟩
        case measure => simp [RowKit.intOf]; omega
    · obtain rfl : a = s.size := by omega
      have hz := size_ext s b s.size (Nat.le_refl _)
      have HL2 : Hid (aLine l0 s = L) := by show _ = _; unfold aLine; exact HL.out.symm
      have HC2 : Hid (aCol c0 s = wrap64 (C + (P (s.extract b s.size)).length)) := by show _ = _; unfold aCol; rw [HC.out, HB.out]
      have hcount : ∀ w, Calls Tryz.prog 38 #[.string (s.extract b s.size)] w fun e w' => e = .returned (.int .i64 (P (s.extract b s.size)).length) ∧ Below w.heap.size w w' := fun w => rcount_any _ w (by omega)
      obtain ⟨pn, hpn⟩ : ∃ pn : Nat, (P (s.extract b s.size)).length = pn := ⟨_, rfl⟩
      rw [hpn] at HC2
      simp only [hpn] at hcount
      clear hpn HB HL HC
      go_wp2
      go_region_with (go_at_call 38; refine (hcount _).mono ?_; rintro e w1 ⟨rfl, hb1⟩; have k2 := k0.drew.below hb1; have k3 := k1.drew.below hb1; have p0 := k2.cell0; have p1 := k2.cell1; have p2 := k2.cell2; have q0 := k3.cell0; have q1 := k3.cell1; have q2 := k3.cell2; have r2 := k2.frozen 2; have t0 := k3.frozen 0; have t1 := k3.frozen 1; have t2 := k3.frozen 2)
      all_goals go_wp2
      all_goals
        have k4 := k2.set2 (wrap64 (C + (pn : Int)))
        have k5 := (((k3.kept (grown_set w1 ⟨w.heap.size, 2, none⟩ (.int .i64 (wrap64 (C + (pn : Int))))) (by simp)).set0 a1).set1 L).set2 (wrap64 (C + (pn : Int)))
        have m0 := k5.cell0
        have m1 := k5.cell1
        have m2 := k5.cell2
        refine bodyPost_ret (v := .agg #[.int .i64 a1, .int .i64 L, .int .i64 (wrap64 (C + (pn : Int)))]) (by simp [results, Tryz.f23, go_sem, m0, m1, m2]) rfl ?_
        refine ⟨by rw [HA.out, HL2.out, HC2.out], ?_⟩
        have h3 := hbw.drew.trans (hb1.mono hbw.size)
        exact (((h3.setCell (p := ⟨w.heap.size, 2, none⟩) (Nat.le_refl _) _).setCell (p := ⟨w.heap.size + 1, 0, none⟩) (by simp) _).setCell (p := ⟨w.heap.size + 1, 1, none⟩) (by simp) _).setCell (p := ⟨w.heap.size + 1, 2, none⟩) (by simp) _
end Go.Proofs.YtojjfbnpjhjidaaGreatDoor.Lx
namespace Go.Proofs.YtojjfbnpjhjidaaGreatDoor.Lx
open Go.RowKit
def rpt (s : ByteArray) (a : Nat) : Int := if a < s.size then (dp s a : Int) else -1
def rsz (s : ByteArray) (a : Nat) : Nat := if a < s.size then dw s a else 0
theorem rpt_in {s : ByteArray} {a : Nat} (h : a < s.size) : rpt s a = dp s a := by unfold rpt; rw [if_pos h]
theorem rpt_out {s : ByteArray} {a : Nat} (h : s.size ≤ a) : rpt s a = -1 := by unfold rpt; rw [if_neg (by omega)]
theorem rsz_in {s : ByteArray} {a : Nat} (h : a < s.size) : rsz s a = dw s a := by unfold rsz; rw [if_pos h]
theorem rsz_out {s : ByteArray} {a : Nat} (h : s.size ≤ a) : rsz s a = 0 := by unfold rsz; rw [if_neg (by omega)]
theorem rsz_le (s : ByteArray) (a : Nat) (h : a ≤ s.size) : a + rsz s a ≤ s.size := by
  by_cases e : a < s.size
  · rw [rsz_in e]; exact (dw_facts s a e).2.2
  · rw [rsz_out (by omega)]; exact h
theorem rpt_rng (s : ByteArray) (a : Nat) : -1 ≤ rpt s a ∧ rpt s a ≤ 1114111 := by
  unfold rpt
  have := dp_le s a
  split <;> omega
def RB (W : World) (g : Nat) (s : ByteArray) (a : Nat) (p n : Int) (b : Nat) (f : Nat) (v : Value) : Prop :=
  W.heap[g]? = some (.cells #[.string s, .int .i64 a, .int .i32 p, .int .i64 n, .int .i64 b, .int .i64 (pL s b), .int .i64 (pC s b), .int .i64 f, v] 97 (0, 0))
structure Rq (w0 W : World) (g : Nat) (s : ByteArray) (a : Nat) (p n : Int) (b f : Nat) (l : List Tv) : Prop where
  bel : Below w0.heap.size w0 W
  g0 : w0.heap.size ≤ g
  blk : ∃ v, RB W g s a p n b f v ∧ Rt w0.heap.size W v l
def Rs (w0 W : World) (g : Nat) (s : ByteArray) (a b f : Nat) (l : List Tv) : Prop := Rq w0 W g s a (rpt s a) (rsz s a) b f l
theorem Rq.below {w0 W W' : World} {g : Nat} {s : ByteArray} {a : Nat} {p n : Int} {b f : Nat} {l : List Tv} (h : Rq w0 W g s a p n b f l) (hb : Below W.heap.size W W') : Rq w0 W' g s a p n b f l := by
  obtain ⟨h1, h2, v, h3, h4⟩ := h
  exact ⟨h1.trans (hb.mono h1.size), h2, v, blk_below h3 hb, h4.below hb⟩
theorem Rq.set {w0 W : World} {g : Nat} {s : ByteArray} {a : Nat} {p n : Int} {b f : Nat} {l : List Tv} {v : Value} (h1 : Below w0.heap.size w0 W) (h2 : w0.heap.size ≤ g) (h3 : RB W g s a p n b f v) (h4 : Rt w0.heap.size W v l) (k : Nat) (u : Value)
    {s' : ByteArray} {a' : Nat} {p' n' : Int} {b' f' : Nat} {v' : Value} (he : #[.string s, .int .i64 a, .int .i32 p, .int .i64 n, .int .i64 b, .int .i64 (pL s b), .int .i64 (pC s b), .int .i64 f, v].setIfInBounds k u = #[.string s', .int .i64 a', .int .i32 p', .int .i64 n', .int .i64 b', .int .i64 (pL s' b'), .int .i64 (pC s' b'), .int .i64 f', v']) (hv : v' = v) :
    Below w0.heap.size w0 (W.setCell ⟨g, k, none⟩ u) ∧ RB (W.setCell ⟨g, k, none⟩ u) g s' a' p' n' b' f' v' ∧ Rt w0.heap.size (W.setCell ⟨g, k, none⟩ u) v' l := by
  refine ⟨h1.setCell (p := ⟨g, k, none⟩) h2 u, ?_, ?_⟩
  · have := blk_set h3 k u
    rw [he] at this
    exact this
  · rw [hv]
    exact h4.kp (Kp.set W g k u) (h4.ne h3 (by decide))
theorem Rq.cells {W : World} {g : Nat} {s : ByteArray} {a : Nat} {p n : Int} {b f : Nat} {v : Value} (h : RB W g s a p n b f v) :
    W.cell? ⟨g, 0, none⟩ = some (.string s) ∧ W.cell? ⟨g, 1, none⟩ = some (.int .i64 a) ∧ W.cell? ⟨g, 2, none⟩ = some (.int .i32 p) ∧ W.cell? ⟨g, 3, none⟩ = some (.int .i64 n) ∧ W.cell? ⟨g, 4, none⟩ = some (.int .i64 b) ∧
    W.cell? ⟨g, 5, none⟩ = some (.int .i64 (pL s b)) ∧ W.cell? ⟨g, 6, none⟩ = some (.int .i64 (pC s b)) ∧ W.cell? ⟨g, 7, none⟩ = some (.int .i64 f) ∧ W.cell? ⟨g, 8, none⟩ = some v :=
  ⟨blk_cell h rfl, blk_cell h rfl, blk_cell h rfl, blk_cell h rfl, blk_cell h rfl, blk_cell h rfl, blk_cell h rfl, blk_cell h rfl, blk_cell h rfl⟩
theorem RB.frozen {W : World} {g : Nat} {s : ByteArray} {a : Nat} {p n : Int} {b f : Nat} {v : Value} (h : RB W g s a p n b f v) (k : Nat) : W.frozen? ⟨g, k, none⟩ = false := blk_frozen h
theorem beqd (p q : Int) : (false || decide (p = q)) = (p == q) := by rw [Bool.eq_iff_iff]; simp
theorem isDigit_any (p : Int) (w : World) :
    Calls Tryz.prog 60 #[.int .i32 p] w fun e w' => e = .returned (.bool (decide (48 ≤ p) && decide (p ≤ 57))) ∧ w' = w := by
  by_cases h : 48 ≤ p
  · have e : (decide (48 ≤ p) && decide (p ≤ 57)) = decide (p ≤ 57) := by rw [decide_eq_true h]; rfl
    rw [e]
    clear e
    go_enter Tryz.func60, Tryz.ntmps60
    go_wp2_with fail
    go_ret
    exact ⟨rfl, rfl⟩
  · have e : (decide (48 ≤ p) && decide (p ≤ 57)) = false := by rw [decide_eq_false h]; rfl
    rw [e]
    clear e
    go_enter Tryz.func60, Tryz.ntmps60
    go_wp2_with fail
    go_ret
    exact ⟨rfl, rfl⟩
theorem isControl_any (p : Int) (w : World) :
    Calls Tryz.prog 83 #[.int .i32 p] w fun e w' => e = .returned (.bool (decide (p < 32) || decide (p = 127))) ∧ w' = w := by
  by_cases h : p < 32
  · have e : (decide (p < 32) || decide (p = 127)) = true := by rw [decide_eq_true h]; rfl
    rw [e]
    clear e
    go_enter Tryz.func83, Tryz.ntmps83
    go_wp2_with fail
    go_ret
    exact ⟨rfl, rfl⟩
  · have e : (decide (p < 32) || decide (p = 127)) = (p == 127) := by rw [decide_eq_false h]; exact beqd _ _
    rw [e]
    clear e
    go_enter Tryz.func83, Tryz.ntmps83
    go_wp2_with fail
    go_ret
    exact ⟨rfl, rfl⟩
theorem endsLine_any (p : Int) (w : World) :
    Calls Tryz.prog 82 #[.int .i32 p] w fun e w' => e = .returned (.bool (decide (p = 10) || decide (p = -1))) ∧ w' = w := by
  by_cases h : p = 10
  · subst h
    go_enter Tryz.func82, Tryz.ntmps82
    go_wp2_with fail
    go_ret
    exact ⟨rfl, rfl⟩
  · have e : (decide (p = 10) || decide (p = -1)) = (p == -1) := by rw [decide_eq_false h]; exact beqd _ _
    have h1 : (p == 10) = false := by simpa using h
    rw [e]
    clear e h
    go_enter Tryz.func82, Tryz.ntmps82
    go_wp2_with fail
    go_ret
    exact ⟨rfl, rfl⟩
theorem look_any {w0 W : World} {g : Nat} {s : ByteArray} {a : Nat} {p n : Int} {b f : Nat} {l : List Tv} (h : Rq w0 W g s a p n b f l) (hs : s.size ≤ 2147483647) (ha : a ≤ s.size) :
    Calls Tryz.prog 40 #[.pointer (some ⟨g, 0, none⟩)] W fun e w' => e = .returned (.tuple #[]) ∧ Rs w0 w' g s a b f l := by
  obtain ⟨h1, h2, v, h3, h4⟩ := h
  obtain ⟨c0, c1, c2, c3, c4, c5, c6, c7, c8⟩ := Rq.cells h3
  by_cases hlt : a < s.size
  · have hd := dp_le s a
    obtain ⟨hw1, hw2, hw3⟩ := dw_facts s a hlt
    have HN : Hid (∀ w, Calls Tryz.prog 55 #[.string s, .int .i64 a] w fun e w' => e = .returned (.tuple #[.int .i64 (dp s a), .int .i64 (dw s a), .bool (gd s a)]) ∧ Below w.heap.size w w') := fun w => by
      have := next_in s a w (by unfold maxLen; omega) (by omega) (by omega)
      rw [Int.toNat_natCast] at this
      exact this
    have HR : Hid (∀ w', Below W.heap.size W w' → Below w0.heap.size w0 w' ∧ RB w' g s a p n b f v ∧ Rt w0.heap.size w' v l) := fun w' hb => ⟨h1.trans (hb.mono h1.size), blk_below h3 hb, h4.below hb⟩
    have HK : Hid (∀ V, Below W.heap.size W V → V.cell? ⟨g, 0, none⟩ = some (.string s) ∧ V.cell? ⟨g, 1, none⟩ = some (.int .i64 a) ∧ Below W.heap.size W V) := fun V hV => ⟨blk_cell (blk_below h3 hV) rfl, blk_cell (blk_below h3 hV) rfl, hV⟩
    have e1 := rpt_in hlt
    have e2 := rsz_in hlt
    have HE : Hid (rpt s a = dp s a ∧ rsz s a = dw s a) := ⟨e1, e2⟩
    generalize dp s a = x at *
    generalize dw s a = y at *
    generalize gd s a = z at *
    clear e1 e2 h1 h3 h4 c0 c1 c2 c3 c4 c5 c6 c7 c8
    go_enter Tryz.func40, Tryz.ntmps40
    go_wp2_with fail
    go_region_held3 (fun w' => w'.cell? ⟨g, 0, none⟩ = some (.string s) ∧ w'.cell? ⟨g, 1, none⟩ = some (.int .i64 a) ∧ Below W.heap.size W w') (first | (exact HK.out _ (by assumption)) | (exact HK.out _ (Below.refl _ _).drew) | go_keep) (first | (go_at_call 55; refine (HN.out _).mono ?_; rintro e w1 ⟨rfl, hb1⟩; have hbW := (by first | exact (Below.refl W.heap.size W).drew.trans (hb1.mono (Nat.le_refl _)) | exact (by assumption : Below W.heap.size W _).trans (hb1.mono (Below.size (by assumption))) : Below W.heap.size W w1)))
    all_goals (
      obtain ⟨k1, k3, k4⟩ := HR.out _ hbW
      have z2 := k3.frozen 2
      have z3 := k3.frozen 3
      obtain ⟨_, _, c2, c3, _⟩ := Rq.cells k3
      obtain ⟨m1, m3, m4⟩ := Rq.set k1 h2 k3 k4 2 (.int .i32 x) (p' := x) rfl rfl
      obtain ⟨n1, n3, n4⟩ := Rq.set m1 h2 m3 m4 3 (.int .i64 y) (n' := y) rfl rfl
      have HF : Hid (Rs w0 ((w1.setCell ⟨g, 2, none⟩ (.int .i32 x)).setCell ⟨g, 3, none⟩ (.int .i64 y)) g s a b f l) := ⟨n1, h2, v, by rw [HE.out.1, HE.out.2]; exact n3, n4⟩
      clear k1 k3 k4 m1 m3 m4 n1 n3 n4
      go_wp2_with fail
      go_end0
      exact ⟨rfl, HF.out⟩)
  · have HN : Hid (∀ w, Calls Tryz.prog 55 #[.string s, .int .i64 a] w fun e w' => e = .returned (.tuple #[.int .i64 0, .int .i64 0, .bool false]) ∧ Below w.heap.size w w') := fun w => next_out s a w (by unfold maxLen; omega) (.inr (by omega))
    have HR : Hid (∀ w', Below W.heap.size W w' → Below w0.heap.size w0 w' ∧ RB w' g s a p n b f v ∧ Rt w0.heap.size w' v l) := fun w' hb => ⟨h1.trans (hb.mono h1.size), blk_below h3 hb, h4.below hb⟩
    have HK : Hid (∀ V, Below W.heap.size W V → V.cell? ⟨g, 0, none⟩ = some (.string s) ∧ V.cell? ⟨g, 1, none⟩ = some (.int .i64 a) ∧ Below W.heap.size W V) := fun V hV => ⟨blk_cell (blk_below h3 hV) rfl, blk_cell (blk_below h3 hV) rfl, hV⟩
    have HE : Hid (rpt s a = -1 ∧ rsz s a = 0) := ⟨rpt_out (by omega), rsz_out (by omega)⟩
    clear h1 h3 h4 c0 c1 c2 c3 c4 c5 c6 c7 c8
    go_enter Tryz.func40, Tryz.ntmps40
    go_wp2_with fail
    go_region_held3 (fun w' => w'.cell? ⟨g, 0, none⟩ = some (.string s) ∧ w'.cell? ⟨g, 1, none⟩ = some (.int .i64 a) ∧ Below W.heap.size W w') (first | (exact HK.out _ (by assumption)) | (exact HK.out _ (Below.refl _ _).drew) | go_keep) (first | (go_at_call 55; refine (HN.out _).mono ?_; rintro e w1 ⟨rfl, hb1⟩; have hbW := (by first | exact (Below.refl W.heap.size W).drew.trans (hb1.mono (Nat.le_refl _)) | exact (by assumption : Below W.heap.size W _).trans (hb1.mono (Below.size (by assumption))) : Below W.heap.size W w1)))
    all_goals (
      obtain ⟨k1, k3, k4⟩ := HR.out _ hbW
      have z2 := k3.frozen 2
      have z3 := k3.frozen 3
      obtain ⟨_, _, c2, c3, _⟩ := Rq.cells k3
      obtain ⟨m1, m3, m4⟩ := Rq.set k1 h2 k3 k4 2 (.int .i32 0) (p' := 0) rfl rfl
      obtain ⟨n1, n3, n4⟩ := Rq.set m1 h2 m3 m4 3 (.int .i64 0) (n' := 0) rfl rfl
      obtain ⟨o1, o3, o4⟩ := Rq.set n1 h2 n3 n4 2 (.int .i32 (-1)) (p' := -1) rfl rfl
      have HF : Hid (Rs w0 (((w1.setCell ⟨g, 2, none⟩ (.int .i32 0)).setCell ⟨g, 3, none⟩ (.int .i64 0)).setCell ⟨g, 2, none⟩ (.int .i32 (-1))) g s a b f l) := ⟨o1, h2, v, by rw [HE.out.1, HE.out.2]; exact o3, o4⟩
      clear k1 k3 k4 m1 m3 m4 n1 n3 n4 o1 o3 o4
      go_wp2_with fail
      go_end0
      exact ⟨rfl, HF.out⟩)
theorem bel_dn (W : World) (m : Nat) : Below W.heap.size W (W.drewN m) := below_dn (Below.refl _ _) m
theorem bytes_any {W : World} {g : Nat} {s : ByteArray} {a : Nat} {p n : Int} {b f : Nat} {v : Value} (h : RB W g s a p n b f v) (hs : s.size ≤ 2147483647) (hba : b ≤ a) (ha : a ≤ s.size) :
    Calls Tryz.prog 87 #[.pointer (some ⟨g, 0, none⟩)] W fun e w' => e = .returned (.string (s.extract b a)) ∧ ∃ m, w' = W.drewN m := by
  obtain ⟨c0, c1, c2, c3, c4, c5, c6, c7, c8⟩ := Rq.cells h
  have q1 : (b : Int) ≤ a := by omega
  have q2 : (a : Int) ≤ s.size := by omega
  clear h
  go_enter Tryz.func87, Tryz.ntmps87
  go_wp2_with fail
  go_quiet (fail)
  go_wp2_with fail
  go_ret
  exact ⟨rfl, _, rfl⟩
theorem take_any {w0 W : World} {g : Nat} {s : ByteArray} {a b f : Nat} {l : List Tv} (h : Rs w0 W g s a b f l) (hs : s.size ≤ 2147483647) (ha : a ≤ s.size) :
    Calls Tryz.prog 76 #[.pointer (some ⟨g, 0, none⟩)] W fun e w' => e = .returned (.tuple #[]) ∧ Rs w0 w' g s (a + rsz s a) b f l := by
  have hle := rsz_le s a ha
  obtain ⟨h1, h2, v, h3, h4⟩ := h
  obtain ⟨c0, c1, c2, c3, c4, c5, c6, c7, c8⟩ := Rq.cells h3
  have z1 := h3.frozen 1
  obtain ⟨m1, m3, m4⟩ := Rq.set h1 h2 h3 h4 1 (.int .i64 ((a + rsz s a : Nat) : Int)) (a' := a + rsz s a) rfl rfl
  have hwr : IntKind.i64.wrap ((a : Int) + (rsz s a : Int)) = (a : Int) + (rsz s a : Int) := by rw [IntKind.wrap_i64]; omega
  have HL : Hid (∀ V, Below (W.setCell ⟨g, 1, none⟩ (.int .i64 ((a : Int) + (rsz s a : Int)))).heap.size (W.setCell ⟨g, 1, none⟩ (.int .i64 ((a : Int) + (rsz s a : Int)))) V → Calls Tryz.prog 40 #[.pointer (some ⟨g, 0, none⟩)] V fun e w' => e = .returned (.tuple #[]) ∧ Rs w0 w' g s (a + rsz s a) b f l) := by
    intro V hV
    rw [Int.natCast_add] at m1 m3 m4
    exact look_any (Rq.below ⟨m1, h2, v, m3, m4⟩ hV) hs hle
  generalize rsz s a = y at *
  clear h1 h3 h4 m1 m3 m4
  go_enter Tryz.func76, Tryz.ntmps76
  go_wp2_with fail
  go_region_law (fail)
  all_goals (
    go_wp2_with (go_at_call 40; refine (HL.out _ (Below.refl _ _).drew).mono ?_; rintro e w1 ⟨rfl, h5⟩)
    go_end0
    exact ⟨rfl, h5⟩)
end Go.Proofs.YtojjfbnpjhjidaaGreatDoor.Lx
