import Derived.Test.YtnmjkgjhjnpijaaDoorG5
import Derived.Test.YtnmjkgjhjnpijaaDoorPg
import Derived.Test.YtnmjkgjhjnpijaaDoorG3
import Derived.Deep.RegionHeld3
import Derived.Deep.RegionWith
import Derived.Deep.RegionLaw
import Derived.WalkMore
import Derived.ScopeJumps
set_option linter.unusedVariables false
set_option linter.unusedSimpArgs false
namespace Go.Proofs.YtnmjkgjhjnpijaaDoor
open Go.RowKit

/-! The reader: its block, and what it says of a source. -/
def rpt (s : ByteArray) (a : Nat) : Int := if a < s.size then (dp s a : Int) else -1
def rsz (s : ByteArray) (a : Nat) : Nat := if a < s.size then dw s a else 0
theorem rpt_in {s : ByteArray} {a : Nat} (h : a < s.size) : rpt s a = dp s a := by unfold rpt; rw [if_pos h]
theorem rpt_out {s : ByteArray} {a : Nat} (h : s.size ≤ a) : rpt s a = -1 := by unfold rpt; rw [if_neg (by omega)]
theorem rsz_in {s : ByteArray} {a : Nat} (h : a < s.size) : rsz s a = dw s a := by unfold rsz; rw [if_pos h]
theorem rsz_out {s : ByteArray} {a : Nat} (h : s.size ≤ a) : rsz s a = 0 := by unfold rsz; rw [if_neg (by omega)]
theorem rsz_le (s : ByteArray) (a : Nat) (h : a ≤ s.size) : a + rsz s a ≤ s.size := by
  by_cases e : a < s.size
  · rw [rsz_in e]; exact (dw_facts s a e).2.2
  · rw [rsz_out (by omega)]; exact h
theorem rpt_rng (s : ByteArray) (a : Nat) : -1 ≤ rpt s a ∧ rpt s a ≤ 1114111 := by
  unfold rpt
  have := dp_le s a
  split <;> omega

/-- The reader's block: at a place, with a point and a size, the last token's beginning, the line ends behind it, what was told. -/
def RB (W : World) (g : Nat) (s : ByteArray) (a : Nat) (p n : Int) (b : Nat) (f : Nat) (v : Value) : Prop :=
  W.heap[g]? = some (.cells #[.string s, .int .i64 a, .int .i32 p, .int .i64 n, .int .i64 b, .int .i64 (pL s b), .int .i64 (pC s b), .int .i64 f, v] 53 (0, 0))
/-- The reader, and what else was there. -/
structure Rq (w0 W : World) (g : Nat) (s : ByteArray) (a : Nat) (p n : Int) (b f : Nat) (l : List Tv) : Prop where
  bel : Below w0.heap.size w0 W
  g0 : w0.heap.size ≤ g
  blk : ∃ v, RB W g s a p n b f v ∧ Rt w0.heap.size W v l
def Rs (w0 W : World) (g : Nat) (s : ByteArray) (a b f : Nat) (l : List Tv) : Prop := Rq w0 W g s a (rpt s a) (rsz s a) b f l

theorem Rq.below {w0 W W' : World} {g : Nat} {s : ByteArray} {a : Nat} {p n : Int} {b f : Nat} {l : List Tv} (h : Rq w0 W g s a p n b f l) (hb : Below W.heap.size W W') : Rq w0 W' g s a p n b f l := by
  obtain ⟨h1, h2, v, h3, h4⟩ := h
  exact ⟨h1.trans (hb.mono h1.size), h2, v, blk_below h3 hb, h4.below hb⟩
/-- A store into the reader's block. -/
theorem Rq.set {w0 W : World} {g : Nat} {s : ByteArray} {a : Nat} {p n : Int} {b f : Nat} {l : List Tv} {v : Value} (h1 : Below w0.heap.size w0 W) (h2 : w0.heap.size ≤ g) (h3 : RB W g s a p n b f v) (h4 : Rt w0.heap.size W v l) (k : Nat) (u : Value)
    {s' : ByteArray} {a' : Nat} {p' n' : Int} {b' f' : Nat} {v' : Value} (he : #[.string s, .int .i64 a, .int .i32 p, .int .i64 n, .int .i64 b, .int .i64 (pL s b), .int .i64 (pC s b), .int .i64 f, v].setIfInBounds k u = #[.string s', .int .i64 a', .int .i32 p', .int .i64 n', .int .i64 b', .int .i64 (pL s' b'), .int .i64 (pC s' b'), .int .i64 f', v']) (hv : v' = v) :
    Below w0.heap.size w0 (W.setCell ⟨g, k, none⟩ u) ∧ RB (W.setCell ⟨g, k, none⟩ u) g s' a' p' n' b' f' v' ∧ Rt w0.heap.size (W.setCell ⟨g, k, none⟩ u) v' l := by
  refine ⟨h1.setCell (p := ⟨g, k, none⟩) h2 u, ?_, ?_⟩
  · have := blk_set h3 k u
    rw [he] at this
    exact this
  · rw [hv]
    exact h4.kp (Kp.set W g k u) (h4.ne h3 (by decide))
theorem Rq.cells {W : World} {g : Nat} {s : ByteArray} {a : Nat} {p n : Int} {b f : Nat} {v : Value} (h : RB W g s a p n b f v) :
    W.cell? ⟨g, 0, none⟩ = some (.string s) ∧ W.cell? ⟨g, 1, none⟩ = some (.int .i64 a) ∧ W.cell? ⟨g, 2, none⟩ = some (.int .i32 p) ∧ W.cell? ⟨g, 3, none⟩ = some (.int .i64 n) ∧ W.cell? ⟨g, 4, none⟩ = some (.int .i64 b) ∧
    W.cell? ⟨g, 5, none⟩ = some (.int .i64 (pL s b)) ∧ W.cell? ⟨g, 6, none⟩ = some (.int .i64 (pC s b)) ∧ W.cell? ⟨g, 7, none⟩ = some (.int .i64 f) ∧ W.cell? ⟨g, 8, none⟩ = some v :=
  ⟨blk_cell h rfl, blk_cell h rfl, blk_cell h rfl, blk_cell h rfl, blk_cell h rfl, blk_cell h rfl, blk_cell h rfl, blk_cell h rfl, blk_cell h rfl⟩
theorem RB.frozen {W : World} {g : Nat} {s : ByteArray} {a : Nat} {p n : Int} {b f : Nat} {v : Value} (h : RB W g s a p n b f v) (k : Nat) : W.frozen? ⟨g, k, none⟩ = false := blk_frozen h

theorem beqd (p q : Int) : (false || decide (p = q)) = (p == q) := by rw [Bool.eq_iff_iff]; simp
theorem isDigit_any (p : Int) (w : World) :
    Calls Tryd.prog 41 #[.int .i32 p] w fun e w' => e = .returned (.bool (decide (48 ≤ p) && decide (p ≤ 57))) ∧ w' = w := by
  by_cases h : 48 ≤ p
  · have e : (decide (48 ≤ p) && decide (p ≤ 57)) = decide (p ≤ 57) := by rw [decide_eq_true h]; rfl
    rw [e]
    clear e
    go_enter Tryd.func41, Tryd.ntmps41
    go_wp2_with fail
    go_ret
    exact ⟨rfl, rfl⟩
  · have e : (decide (48 ≤ p) && decide (p ≤ 57)) = false := by rw [decide_eq_false h]; rfl
    rw [e]
    clear e
    go_enter Tryd.func41, Tryd.ntmps41
    go_wp2_with fail
    go_ret
    exact ⟨rfl, rfl⟩
theorem isControl_any (p : Int) (w : World) :
    Calls Tryd.prog 66 #[.int .i32 p] w fun e w' => e = .returned (.bool (decide (p < 32) || decide (p = 127))) ∧ w' = w := by
  by_cases h : p < 32
  · have e : (decide (p < 32) || decide (p = 127)) = true := by rw [decide_eq_true h]; rfl
    rw [e]
    clear e
    go_enter Tryd.func66, Tryd.ntmps66
    go_wp2_with fail
    go_ret
    exact ⟨rfl, rfl⟩
  · have e : (decide (p < 32) || decide (p = 127)) = (p == 127) := by rw [decide_eq_false h]; exact beqd _ _
    rw [e]
    clear e
    go_enter Tryd.func66, Tryd.ntmps66
    go_wp2_with fail
    go_ret
    exact ⟨rfl, rfl⟩
theorem endsLine_any (p : Int) (w : World) :
    Calls Tryd.prog 65 #[.int .i32 p] w fun e w' => e = .returned (.bool (decide (p = 10) || decide (p = -1))) ∧ w' = w := by
  by_cases h : p = 10
  · subst h
    go_enter Tryd.func65, Tryd.ntmps65
    go_wp2_with fail
    go_ret
    exact ⟨rfl, rfl⟩
  · have e : (decide (p = 10) || decide (p = -1)) = (p == -1) := by rw [decide_eq_false h]; exact beqd _ _
    have h1 : (p == 10) = false := by simpa using h
    rw [e]
    clear e h
    go_enter Tryd.func65, Tryd.ntmps65
    go_wp2_with fail
    go_ret
    exact ⟨rfl, rfl⟩

/-- look finds the character that begins here. -/
theorem look_any {w0 W : World} {g : Nat} {s : ByteArray} {a : Nat} {p n : Int} {b f : Nat} {l : List Tv} (h : Rq w0 W g s a p n b f l) (hs : s.size ≤ 2147483647) (ha : a ≤ s.size) :
    Calls Tryd.prog 19 #[.pointer (some ⟨g, 0, none⟩)] W fun e w' => e = .returned (.tuple #[]) ∧ Rs w0 w' g s a b f l := by
  obtain ⟨h1, h2, v, h3, h4⟩ := h
  obtain ⟨c0, c1, c2, c3, c4, c5, c6, c7, c8⟩ := Rq.cells h3
  by_cases hlt : a < s.size
  · have hd := dp_le s a
    obtain ⟨hw1, hw2, hw3⟩ := dw_facts s a hlt
    have HN : Hid (∀ w, Calls Tryd.prog 24 #[.string s, .int .i64 a] w fun e w' => e = .returned (.tuple #[.int .i64 (dp s a), .int .i64 (dw s a), .bool (gd s a)]) ∧ Below w.heap.size w w') := fun w => by
      have := next_in s a w (by unfold maxLen; omega) (by omega) (by omega)
      rw [Int.toNat_natCast] at this
      exact this
    have HR : Hid (∀ w', Below W.heap.size W w' → Below w0.heap.size w0 w' ∧ RB w' g s a p n b f v ∧ Rt w0.heap.size w' v l) := fun w' hb => ⟨h1.trans (hb.mono h1.size), blk_below h3 hb, h4.below hb⟩
    have HK : Hid (∀ V, Below W.heap.size W V → V.cell? ⟨g, 0, none⟩ = some (.string s) ∧ V.cell? ⟨g, 1, none⟩ = some (.int .i64 a) ∧ Below W.heap.size W V) := fun V hV => ⟨blk_cell (blk_below h3 hV) rfl, blk_cell (blk_below h3 hV) rfl, hV⟩
    have e1 := rpt_in hlt
    have e2 := rsz_in hlt
    have HE : Hid (rpt s a = dp s a ∧ rsz s a = dw s a) := ⟨e1, e2⟩
    generalize dp s a = x at *
    generalize dw s a = y at *
    generalize gd s a = z at *
    clear e1 e2 h1 h3 h4 c0 c1 c2 c3 c4 c5 c6 c7 c8
    go_enter Tryd.func19, Tryd.ntmps19
    go_wp2_with fail
    go_region_held3 (fun w' => w'.cell? ⟨g, 0, none⟩ = some (.string s) ∧ w'.cell? ⟨g, 1, none⟩ = some (.int .i64 a) ∧ Below W.heap.size W w') (first | (exact HK.out _ (by assumption)) | (exact HK.out _ (Below.refl _ _).drew) | go_keep) (first | (go_at_call 24; refine (HN.out _).mono ?_; rintro e w1 ⟨rfl, hb1⟩; have hbW := (by first | exact (Below.refl W.heap.size W).drew.trans (hb1.mono (Nat.le_refl _)) | exact (by assumption : Below W.heap.size W _).trans (hb1.mono (Below.size (by assumption))) : Below W.heap.size W w1)))
    all_goals (
      obtain ⟨k1, k3, k4⟩ := HR.out _ hbW
      have z2 := k3.frozen 2
      have z3 := k3.frozen 3
      obtain ⟨_, _, c2, c3, _⟩ := Rq.cells k3
      obtain ⟨m1, m3, m4⟩ := Rq.set k1 h2 k3 k4 2 (.int .i32 x) (p' := x) rfl rfl
      obtain ⟨n1, n3, n4⟩ := Rq.set m1 h2 m3 m4 3 (.int .i64 y) (n' := y) rfl rfl
      have HF : Hid (Rs w0 ((w1.setCell ⟨g, 2, none⟩ (.int .i32 x)).setCell ⟨g, 3, none⟩ (.int .i64 y)) g s a b f l) := ⟨n1, h2, v, by rw [HE.out.1, HE.out.2]; exact n3, n4⟩
      clear k1 k3 k4 m1 m3 m4 n1 n3 n4
      go_wp2_with fail
      go_end0
      exact ⟨rfl, HF.out⟩)
  · have HN : Hid (∀ w, Calls Tryd.prog 24 #[.string s, .int .i64 a] w fun e w' => e = .returned (.tuple #[.int .i64 0, .int .i64 0, .bool false]) ∧ Below w.heap.size w w') := fun w => next_out s a w (by unfold maxLen; omega) (.inr (by omega))
    have HR : Hid (∀ w', Below W.heap.size W w' → Below w0.heap.size w0 w' ∧ RB w' g s a p n b f v ∧ Rt w0.heap.size w' v l) := fun w' hb => ⟨h1.trans (hb.mono h1.size), blk_below h3 hb, h4.below hb⟩
    have HK : Hid (∀ V, Below W.heap.size W V → V.cell? ⟨g, 0, none⟩ = some (.string s) ∧ V.cell? ⟨g, 1, none⟩ = some (.int .i64 a) ∧ Below W.heap.size W V) := fun V hV => ⟨blk_cell (blk_below h3 hV) rfl, blk_cell (blk_below h3 hV) rfl, hV⟩
    have HE : Hid (rpt s a = -1 ∧ rsz s a = 0) := ⟨rpt_out (by omega), rsz_out (by omega)⟩
    clear h1 h3 h4 c0 c1 c2 c3 c4 c5 c6 c7 c8
    go_enter Tryd.func19, Tryd.ntmps19
    go_wp2_with fail
    go_region_held3 (fun w' => w'.cell? ⟨g, 0, none⟩ = some (.string s) ∧ w'.cell? ⟨g, 1, none⟩ = some (.int .i64 a) ∧ Below W.heap.size W w') (first | (exact HK.out _ (by assumption)) | (exact HK.out _ (Below.refl _ _).drew) | go_keep) (first | (go_at_call 24; refine (HN.out _).mono ?_; rintro e w1 ⟨rfl, hb1⟩; have hbW := (by first | exact (Below.refl W.heap.size W).drew.trans (hb1.mono (Nat.le_refl _)) | exact (by assumption : Below W.heap.size W _).trans (hb1.mono (Below.size (by assumption))) : Below W.heap.size W w1)))
    all_goals (
      obtain ⟨k1, k3, k4⟩ := HR.out _ hbW
      have z2 := k3.frozen 2
      have z3 := k3.frozen 3
      obtain ⟨_, _, c2, c3, _⟩ := Rq.cells k3
      obtain ⟨m1, m3, m4⟩ := Rq.set k1 h2 k3 k4 2 (.int .i32 0) (p' := 0) rfl rfl
      obtain ⟨n1, n3, n4⟩ := Rq.set m1 h2 m3 m4 3 (.int .i64 0) (n' := 0) rfl rfl
      obtain ⟨o1, o3, o4⟩ := Rq.set n1 h2 n3 n4 2 (.int .i32 (-1)) (p' := -1) rfl rfl
      have HF : Hid (Rs w0 (((w1.setCell ⟨g, 2, none⟩ (.int .i32 0)).setCell ⟨g, 3, none⟩ (.int .i64 0)).setCell ⟨g, 2, none⟩ (.int .i32 (-1))) g s a b f l) := ⟨o1, h2, v, by rw [HE.out.1, HE.out.2]; exact o3, o4⟩
      clear k1 k3 k4 m1 m3 m4 n1 n3 n4 o1 o3 o4
      go_wp2_with fail
      go_end0
      exact ⟨rfl, HF.out⟩)

end Go.Proofs.YtnmjkgjhjnpijaaDoor

set_option linter.unusedVariables false
set_option linter.unusedSimpArgs false
namespace Go.Proofs.YtnmjkgjhjnpijaaDoor
open Go.RowKit

theorem bel_dn (W : World) (m : Nat) : Below W.heap.size W (W.drewN m) := below_dn (Below.refl _ _) m

/-- The bytes from the token's first one up to here. -/
theorem bytes_any {W : World} {g : Nat} {s : ByteArray} {a : Nat} {p n : Int} {b f : Nat} {v : Value} (h : RB W g s a p n b f v) (hs : s.size ≤ 2147483647) (hba : b ≤ a) (ha : a ≤ s.size) :
    Calls Tryd.prog 68 #[.pointer (some ⟨g, 0, none⟩)] W fun e w' => e = .returned (.string (s.extract b a)) ∧ ∃ m, w' = W.drewN m := by
  obtain ⟨c0, c1, c2, c3, c4, c5, c6, c7, c8⟩ := Rq.cells h
  have q1 : (b : Int) ≤ a := by omega
  have q2 : (a : Int) ≤ s.size := by omega
  clear h
  go_enter Tryd.func68, Tryd.ntmps68
  go_wp2_with fail
  go_quiet (fail)
  go_wp2_with fail
  go_ret
  exact ⟨rfl, _, rfl⟩

/-- take goes behind the character. -/
theorem take_any {w0 W : World} {g : Nat} {s : ByteArray} {a b f : Nat} {l : List Tv} (h : Rs w0 W g s a b f l) (hs : s.size ≤ 2147483647) (ha : a ≤ s.size) :
    Calls Tryd.prog 61 #[.pointer (some ⟨g, 0, none⟩)] W fun e w' => e = .returned (.tuple #[]) ∧ Rs w0 w' g s (a + rsz s a) b f l := by
  have hle := rsz_le s a ha
  obtain ⟨h1, h2, v, h3, h4⟩ := h
  obtain ⟨c0, c1, c2, c3, c4, c5, c6, c7, c8⟩ := Rq.cells h3
  have z1 := h3.frozen 1
  obtain ⟨m1, m3, m4⟩ := Rq.set h1 h2 h3 h4 1 (.int .i64 ((a + rsz s a : Nat) : Int)) (a' := a + rsz s a) rfl rfl
  have hwr : IntKind.i64.wrap ((a : Int) + (rsz s a : Int)) = (a : Int) + (rsz s a : Int) := by rw [IntKind.wrap_i64]; omega
  have HL : Hid (∀ V, Below (W.setCell ⟨g, 1, none⟩ (.int .i64 ((a : Int) + (rsz s a : Int)))).heap.size (W.setCell ⟨g, 1, none⟩ (.int .i64 ((a : Int) + (rsz s a : Int)))) V → Calls Tryd.prog 19 #[.pointer (some ⟨g, 0, none⟩)] V fun e w' => e = .returned (.tuple #[]) ∧ Rs w0 w' g s (a + rsz s a) b f l) := by
    intro V hV
    rw [Int.natCast_add] at m1 m3 m4
    exact look_any (Rq.below ⟨m1, h2, v, m3, m4⟩ hV) hs hle
  generalize rsz s a = y at *
  clear h1 h3 h4 m1 m3 m4
  go_enter Tryd.func61, Tryd.ntmps61
  go_wp2_with fail
  go_region_law (fail)
  all_goals (
    go_wp2_with (go_at_call 19; refine (HL.out _ (Below.refl _ _).drew).mono ?_; rintro e w1 ⟨rfl, h5⟩)
    go_end0
    exact ⟨rfl, h5⟩)

end Go.Proofs.YtnmjkgjhjnpijaaDoor
