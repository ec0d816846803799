import Derived.Test.YtmjhfabdbajchaaGreatDoorRows
import Derived.ProofKit
import Derived.OpenShut
import Derived.Lay
import Derived.Deep.Strs
import Derived.Stop.Joined
import Derived.MakeChecks
import Derived.WalkKit
import Derived.WalkSpells
import Derived.WalkLawsBesides
import Derived.WalkSmall
import Derived.Test.YtmjhfabdbajchaaGreatDoorG1
set_option linter.unusedVariables false
set_option linter.unusedSimpArgs false
namespace Go.Proofs.YtmjhfabdbajchaaGreatDoor
open Go.ChangeShapes Go.WideShapes Go.ChangeAt Go.RowKit

/-- The table of spans, by rows: low, high, columns. -/
def tabL : List (Int × Int × Int) := [(768, 879, 0), (4352, 4447, 2), (8203, 8207, 0), (8400, 8447, 0), (11904, 12350, 2), (12353, 42191, 2), (44032, 55203, 2), (63744, 64255, 2), (65024, 65039, 0), (65056, 65071, 0), (65072, 65135, 2), (65280, 65376, 2), (65504, 65510, 2), (127744, 128591, 2), (129280, 129535, 2), (131072, 262141, 2)]
def tlo (i : Nat) : Int := (tabL.getD i (0, 0, 0)).1
def thi (i : Nat) : Int := (tabL.getD i (0, 0, 0)).2.1
def tco (i : Nat) : Int := (tabL.getD i (0, 0, 0)).2.2

/-- What the walks want of the world: the table's cells. -/
def Tab (w : World) : Prop := ∀ i, i < 16 → w.cell? ⟨1, i * 3, none⟩ = some (.int .i64 (tlo i)) ∧ w.cell? ⟨1, i * 3 + 1, none⟩ = some (.int .i64 (thi i)) ∧ w.cell? ⟨1, i * 3 + 2, none⟩ = some (.int .i64 (tco i))

theorem Tab.below {w w' : World} (h : Tab w) (hb : Below w.heap.size w w') : Tab w' := by
  intro i hi
  obtain ⟨h0, h1, h2⟩ := h i hi
  have hz := World.block_lt_of_cell? w _ h0
  exact ⟨(hb.cell (p := ⟨1, i * 3, none⟩) hz).trans h0, (hb.cell (p := ⟨1, i * 3 + 1, none⟩) hz).trans h1, (hb.cell (p := ⟨1, i * 3 + 2, none⟩) hz).trans h2⟩

theorem laid_rows : (Rows.laid_colophon_width_spans : DataW Unit) = .agg (tabL.map fun x => .agg [.lit (.int .i64 x.1), .lit (.int .i64 x.2.1), .lit (.int .i64 x.2.2)]) := by kernel_rfl

/-- One of the listed variables. -/
theorem laid_mem {P : Program} {w : World} : ∀ (laid : List (String × DataW Unit)) (ps : List MemPlace), DataW.LaidVars P w laid ps → ∀ n d, (n, d) ∈ laid →
    ∃ g t cs fuel p, P.globalNamed n = some g ∧ (P.globals[g]?).map (·.type) = some t ∧ w.var? P n = some cs ∧ DataW.trod (fun _ => ()) P w 0 (fun _ => true) false fuel t cs.toList = some (d, p)
  | [], _, _, n, d, h => by cases h
  | (m, e) :: r, ps, ⟨g, t, cs, fuel, p, q, h1, h2, h3, h4, h5, _⟩, n, d, h => by
    rcases List.mem_cons.1 h with h | h
    · cases h; exact ⟨g, t, cs, fuel, p, h1, h2, h3, h4⟩
    · exact laid_mem r q h5 n d h

theorem tab_of_laid {W : World} {L : List (String × DataW Unit)} (hpl : (L.all fun x => x.2.handleName?.isNone) = true) (hm : ("colophon/width.spans", Rows.laid_colophon_width_spans) ∈ L) (h : laidMetH Tryz.prog L W) : Tab W := by
  rw [MakeChecks.laidMetH_plain _ _ _ hpl] at h
  obtain ⟨ps, hps, _, _⟩ := h
  obtain ⟨g, t, cs, fuel, p, hg, ht, hv, hd⟩ := laid_mem L ps hps _ _ hm
  obtain rfl := Option.some.inj ((show Tryz.prog.globalNamed "colophon/width.spans" = some 1 by kernel_rfl).symm.trans hg)
  obtain rfl := Option.some.inj ((show (Tryz.prog.globals[1]?).map (·.type) = some 185 by kernel_rfl).symm.trans ht)
  rw [laid_rows] at hd
  obtain ⟨xs, m, _, ex, _, hl, hel⟩ := DataW.trod_array Tryz.underlying185 hd
  have c3 : Tryz.prog.cellsOf 3 = 1 := by kernel_rfl
  have c34 : Tryz.prog.cellsOf 184 = 3 := by kernel_rfl
  intro i hi
  have hE := hel i hi
  rw [c34, List.getElem?_eq_getElem (by omega)] at hE
  obtain ⟨y0, y1, y2, n, ey, _, g0, g1, g2⟩ := Deep.trod_struct3 Tryz.underlying184 hE
  simp only [c3] at g0 g1 g2
  obtain ⟨z0, a0, b0, _⟩ := DataW.trod_int Tryz.underlying3 g0
  obtain ⟨z1, a1, b1, _⟩ := DataW.trod_int Tryz.underlying3 g1
  obtain ⟨z2, a2, b2, _⟩ := DataW.trod_int Tryz.underlying3 g2
  have hlen : tabL.length = 16 := rfl
  have e3 : (xs.map (·.1)) = tabL.map fun x => (.agg [.lit (.int .i64 x.1), .lit (.int .i64 x.2.1), .lit (.int .i64 x.2.2)] : DataW Unit) := (DataW.agg.inj (Prod.mk.inj ex).1).symm
  have e4 : (xs.map (·.1))[i]? = (tabL.map fun x => (.agg [.lit (.int .i64 x.1), .lit (.int .i64 x.2.1), .lit (.int .i64 x.2.2)] : DataW Unit))[i]? := by rw [e3]
  rw [List.getElem?_map, List.getElem?_map, List.getElem?_eq_getElem (by omega : i < xs.length), List.getElem?_eq_getElem (by omega : i < tabL.length), ey, b0, b1, b2] at e4
  simp only [Option.map_some, Option.some.injEq, DataW.agg.injEq, List.cons.injEq, DataW.lit.injEq, Lit.int.injEq, true_and, and_true] at e4
  obtain ⟨f0, f1, f2⟩ := e4
  have hT : tabL.getD i (0, 0, 0) = tabL[i] := by rw [List.getD, List.getElem?_eq_getElem (show i < tabL.length by omega)]; rfl
  have key : ∀ (o : Nat) (z : Int), o < 3 → (((cs.toList.drop (i * 3)).take 3).drop o).take 1 = [.int .i64 z] → W.cell? ⟨1, i * 3 + o, none⟩ = some (.int .i64 z) := by
    intro o z ho hz
    rw [World.var?_cell hg hv (i * 3 + o)]
    have h0 : ((((cs.toList.drop (i * 3)).take 3).drop o).take 1)[0]? = some (.int .i64 z) := by rw [hz]; rfl
    rw [List.getElem?_take, if_pos (by omega), List.getElem?_drop, List.getElem?_take, if_pos (by omega), List.getElem?_drop] at h0
    simpa using h0
  refine ⟨?_, ?_, ?_⟩
  · have := key 0 z0 (by omega) (by simpa using a0)
    rw [Nat.add_zero] at this
    rw [this, tlo, hT, f0]; rfl
  · have := key 1 z1 (by omega) (by simpa using a1)
    rw [this, thi, hT, f1]; rfl
  · have := key 2 z2 (by omega) (by simpa using a2)
    rw [this, tco, hT, f2]; rfl
end Go.Proofs.YtmjhfabdbajchaaGreatDoor
set_option linter.unusedVariables false
set_option linter.unusedSimpArgs false
namespace Go.Proofs.YtmjhfabdbajchaaGreatDoor
open Go.RowKit

def two (p : Int) : Prop := (4352 ≤ p ∧ p ≤ 4447) ∨ (11904 ≤ p ∧ p ≤ 12350) ∨ (12353 ≤ p ∧ p ≤ 42191) ∨ (44032 ≤ p ∧ p ≤ 55203) ∨ (63744 ≤ p ∧ p ≤ 64255) ∨ (65072 ≤ p ∧ p ≤ 65135) ∨ (65280 ≤ p ∧ p ≤ 65376) ∨ (65504 ≤ p ∧ p ≤ 65510) ∨ (127744 ≤ p ∧ p ≤ 128591) ∨ (129280 ≤ p ∧ p ≤ 129535) ∨ (131072 ≤ p ∧ p ≤ 262141)
def zro (p : Int) : Prop := (768 ≤ p ∧ p ≤ 879) ∨ (8203 ≤ p ∧ p ≤ 8207) ∨ (8400 ≤ p ∧ p ≤ 8447) ∨ (65024 ≤ p ∧ p ≤ 65039) ∨ (65056 ≤ p ∧ p ≤ 65071)
instance (p : Int) : Decidable (two p) := by unfold two; infer_instance
instance (p : Int) : Decidable (zro p) := by unfold zro; infer_instance

/-- How many columns a number has. -/
def wd (p : Int) : Int := if two p then 2 else if zro p then 0 else 1

theorem wd_bd (p : Int) : 0 ≤ wd p ∧ wd p ≤ 2 := by unfold wd; split <;> (try split) <;> omega
theorem wd_two {p : Int} (h : two p) : wd p = 2 := by unfold wd; rw [if_pos h]
theorem wd_zro {p : Int} (h : zro p) : wd p = 0 := by
  unfold wd
  rw [if_neg (by unfold zro at h; unfold two; omega), if_pos h]
theorem wd_one {p : Int} (h : ¬ two p) (h2 : ¬ zro p) : wd p = 1 := by unfold wd; rw [if_neg h, if_neg h2]

theorem tab_hit (i : Nat) (p : Int) (hi : i < 16) (h0 : tlo i ≤ p) (h1 : p ≤ thi i) : tco i = wd p := by
  rcases i with _|_|_|_|_|_|_|_|_|_|_|_|_|_|_|_|i
  all_goals simp [tlo, thi, tco, tabL, List.getD] at h0 h1 ⊢
  all_goals first | exact (wd_two (by unfold two; omega)).symm | exact (wd_zro (by unfold zro; omega)).symm | omega

theorem tab_all (p : Int) (h : ∀ k, k < 16 → p < tlo k ∨ thi k < p) : wd p = 1 := by
  have a0 := h 0 (by omega); have a1 := h 1 (by omega); have a2 := h 2 (by omega); have a3 := h 3 (by omega)
  have a4 := h 4 (by omega); have a5 := h 5 (by omega); have a6 := h 6 (by omega); have a7 := h 7 (by omega)
  have a8 := h 8 (by omega); have a9 := h 9 (by omega); have a10 := h 10 (by omega); have a11 := h 11 (by omega)
  have a12 := h 12 (by omega); have a13 := h 13 (by omega); have a14 := h 14 (by omega); have a15 := h 15 (by omega)
  simp only [tlo, thi, tabL, List.getD, List.getElem?_cons_zero, List.getElem?_cons_succ, Option.getD_some] at a0 a1 a2 a3 a4 a5 a6 a7 a8 a9 a10 a11 a12 a13 a14 a15
  refine wd_one ?_ ?_
  · unfold two; omega
  · unfold zro; omega

theorem tab_up (i k : Nat) (hk : k < 16) (h : i ≤ k) : tlo i ≤ tlo k := by
  have : ∀ k, k < 16 → ∀ i, i < 16 → i ≤ k → tlo i ≤ tlo k := by decide +kernel
  exact this k hk i (by omega) h

theorem tab_miss (i : Nat) (p : Int) (h : ∀ k, k < i → thi k < p) (h2 : i < 16 → p < tlo i) : wd p = 1 := by
  refine tab_all p fun k hk => ?_
  by_cases hki : k < i
  · exact .inr (h k hki)
  · have := h2 (by omega)
    have := tab_up i k hk (by omega)
    omega

theorem ret_i64 {a b : Int} (h : a = b) : Ending.returned (.int .i64 a) = .returned (.int .i64 b) := by rw [h]

set_option maxHeartbeats 400000 in
theorem of_any (p : Int) (w : World) (hT : Tab w) :
    Calls Tryz.prog 126 #[.int .i64 p] w fun e w' => e = .returned (.int .i64 (wd p)) ∧ w' = w := by
  go_enter Tryz.func126, Tryz.ntmps126
  go_wp2_with fail
  go_loopw [4] (fun i wr => wr = w ∧ ∃ k : Nat, k ≤ 16 ∧ i = .int .i64 k ∧ ∀ j, j < k → thi j < p) (fun i _ => 16 - (intOf i).toNat)
  case atStart => exact ⟨rfl, 0, by omega, rfl, fun j hj => by omega⟩
  case round =>
    obtain ⟨rfl, k, hk, rfl, hall⟩ := hrel
    by_cases h16 : k < 16
    · obtain ⟨c0, c1, c2⟩ := hT k h16
      have HA : Hid (∀ j, j < k → thi j < p) := hall
      have HH : Hid (tlo k ≤ p → p ≤ thi k → tco k = wd p) := tab_hit k p h16
      have HM : Hid (p < tlo k → wd p = 1) := fun h => tab_miss k p hall (fun _ => h)
      have HN : Hid (thi k < p → ∀ j, j < k + 1 → thi j < p) := fun h j hj => by
        by_cases e : j = k
        · subst e; exact h
        · exact hall j (by omega)
      clear hall hT
      generalize tlo k = l at *
      generalize tco k = c at *
      generalize thi k = u at *
      by_cases h1 : p < l
      · go_wp2_with fail
        go_ret
        exact ⟨ret_i64 (HM.out h1).symm, rfl⟩
      · by_cases h2 : p ≤ u
        · go_wp2_with fail
          go_ret
          exact ⟨ret_i64 (HH.out (by omega) h2), rfl⟩
        · go_wp2_with fail
          exact ⟨⟨trivial, k + 1, by omega, by go_num, HN.out (by omega)⟩, by simp [intOf]; omega⟩
    · have HM : Hid (wd p = 1) := tab_miss k p hall (fun h => absurd h h16)
      clear hall hT
      go_wp2_with fail
      go_ret
      exact ⟨ret_i64 HM.out.symm, rfl⟩
end Go.Proofs.YtmjhfabdbajchaaGreatDoor
set_option linter.unusedVariables false
set_option linter.unusedSimpArgs false
namespace Go.Proofs.YtmjhfabdbajchaaGreatDoor
open Go.RowKit

/-- Is a number in one of the ranges of a list? -/
def inL (p : Int) : List Int → Bool
  | a :: b :: r => (decide (a ≤ p) && decide (p ≤ b)) || inL p r
  | _ => false

theorem inL_step (p : Int) (l : List Int) (i : Nat) (h : i + 1 < l.length) : inL p (l.drop i) = ((decide (l.getD i 0 ≤ p) && decide (p ≤ l.getD (i + 1) 0)) || inL p (l.drop (i + 2))) := by
  have e1 : l.drop i = l.getD i 0 :: l.getD (i + 1) 0 :: l.drop (i + 2) := by
    rw [List.drop_eq_getElem_cons (by omega), List.drop_eq_getElem_cons (by omega)]
    simp [List.getD, List.getElem?_eq_getElem (show i < l.length by omega), List.getElem?_eq_getElem (show i + 1 < l.length by omega)]
  rw [e1]
  rfl
theorem inL_end (p : Int) (l : List Int) (i : Nat) (h : l.length ≤ i + 1) : inL p (l.drop i) = false := by
  have : (l.drop i).length ≤ 1 := by rw [List.length_drop]; omega
  match l.drop i, this with
  | [], _ => rfl
  | [_], _ => rfl

set_option maxHeartbeats 400000 in
theorem in_any (p : Int) (b n c : Nat) (zs : List Int) (w : World) (hn : n ≤ 100) (hr : Row w (some ⟨b, 0, none⟩) n zs) :
    Calls Tryz.prog 154 #[.int .i64 p, .slice (some ⟨b, 0, none⟩) n c] w fun e w' => e = .returned (.bool (inL p zs)) ∧ w' = w := by
  have hl := hr.1
  go_enter Tryz.func154, Tryz.ntmps154
  go_wp2_with fail
  go_loopw [5] (fun i wr => wr = w ∧ ∃ k : Nat, k ≤ n + 1 ∧ i = .int .i64 k ∧ inL p (zs.drop k) = inL p zs) (fun i _ => n + 2 - (intOf i).toNat)
  case atStart => exact ⟨rfl, 0, by omega, rfl, rfl⟩
  case round =>
    obtain ⟨rfl, k, hk, rfl, hin⟩ := hrel
    by_cases hkn : k + 1 < n
    · have c0 := hr.at k (by omega)
      have c1 := hr.at (k + 1) hkn
      rw [inL_step p zs k (by omega)] at hin
      have HI : Hid (((decide (zs.getD k 0 ≤ p) && decide (p ≤ zs.getD (k + 1) 0)) || inL p (zs.drop (k + 2))) = inL p zs) := hin
      simp only [Nat.zero_add] at c0 c1
      clear hin hr hl
      generalize zs.getD k 0 = x at *
      generalize zs.getD (k + 1) 0 = y at *
      by_cases h1 : x ≤ p
      · have h1' : decide (p ≥ x) = true := by simpa using h1
        by_cases h2 : p ≤ y
        · have h2' : decide (p ≤ y) = true := by simpa using h2
          go_wp2_with fail
          go_ret
          exact ⟨by rw [← HI.out]; simp [h1, h2], rfl⟩
        · have h2' : decide (p ≤ y) = false := by simpa using h2
          go_wp2_with fail
          exact ⟨⟨trivial, k + 2, by omega, by go_num, by rw [← HI.out]; simp [h2]⟩, by simp [intOf]; omega⟩
      · have h1' : decide (p ≥ x) = false := by simpa using h1
        go_wp2_with fail
        exact ⟨⟨trivial, k + 2, by omega, by go_num, by rw [← HI.out]; simp [h1]⟩, by simp [intOf]; omega⟩
    · rw [inL_end p zs k (by omega)] at hin
      have HI : Hid (false = inL p zs) := hin
      have hk1 : decide ((k : Int) + 1 < (n : Int)) = false := by simp; omega
      have hk2 : ((k : Int) + 1 < (n : Int)) = False := by simp; omega
      clear hin hr hkn
      go_wp2_with fail
      go_ret
      exact ⟨ret_bool HI.out, rfl⟩

def l2 : List Int := [4352, 4447, 11904, 12350, 12353, 42191, 44032, 55203, 63744, 64255, 65072, 65135, 65280, 65376, 65504, 65510, 127744, 128591, 129280, 129535, 131072, 262141]
def l0 : List Int := [768, 879, 8203, 8207, 8400, 8447, 65024, 65039, 65056, 65071]

theorem in_two (p : Int) : inL p l2 = decide (two p) := by
  rw [Bool.eq_iff_iff, decide_eq_true_iff]
  simp [l2, inL, two]
theorem in_zro (p : Int) : inL p l0 = decide (zro p) := by
  rw [Bool.eq_iff_iff, decide_eq_true_iff]
  simp [l0, inL, zro]

set_option maxHeartbeats 400000 in
theorem rof_any (p : Int) (w : World) :
    Calls Tryz.prog 147 #[.int .i64 p] w fun e w' => e = .returned (.int .i64 (wd p)) ∧ Below w.heap.size w w' := by
  go_enter Tryz.func147, Tryz.ntmps147
  go_wp2_with fail
  have hr : Row (w.alloc (.cells (l2.map (Value.int .i64)).toArray 3)) (some ⟨w.heap.size, 0, none⟩) 22 l2 := row_new w l2 3
  refine (in_any p w.heap.size 22 22 l2 _ (by decide) hr).mono ?_
  rintro e w1 ⟨rfl, rfl⟩
  rw [in_two]
  clear hr
  generalize hb : (w.alloc (.cells (l2.map (Value.int .i64)).toArray 3)) = w1
  have hB : Below w.heap.size w w1 := by rw [← hb]; exact (Below.refl _ _).alloc (Nat.le_refl _) _
  clear hb
  go_wp2_with fail
  have hr : Row (w1.alloc (.cells (l0.map (Value.int .i64)).toArray 3)) (some ⟨w1.heap.size, 0, none⟩) 10 l0 := row_new w1 l0 3
  refine (in_any p w1.heap.size 10 10 l0 _ (by decide) hr).mono ?_
  rintro e w2 ⟨rfl, rfl⟩
  rw [in_zro]
  clear hr
  generalize hb : (w1.alloc (.cells (l0.map (Value.int .i64)).toArray 3)) = w2
  have hB2 : Below w.heap.size w w2 := by rw [← hb]; exact hB.alloc hB.size _
  clear hb hB
  by_cases h2 : two p
  · have HE : Hid (wd p = 2) := wd_two h2
    rw [decide_eq_true h2]
    generalize decide (zro p) = z
    clear h2
    go_wp2_with fail
    go_ret
    exact ⟨ret_i64 HE.out.symm, hB2⟩
  · by_cases h0 : zro p
    · have HE : Hid (wd p = 0) := wd_zro h0
      rw [decide_eq_false h2, decide_eq_true h0]
      clear h2 h0
      go_wp2_with fail
      go_ret
      exact ⟨ret_i64 HE.out.symm, hB2⟩
    · have HE : Hid (wd p = 1) := wd_one h2 h0
      rw [decide_eq_false h2, decide_eq_false h0]
      clear h2 h0
      go_wp2_with fail
      go_ret
      exact ⟨ret_i64 HE.out.symm, hB2⟩
end Go.Proofs.YtmjhfabdbajchaaGreatDoor
set_option linter.unusedVariables false
set_option linter.unusedSimpArgs false
namespace Go.Proofs.YtmjhfabdbajchaaGreatDoor

/-! ### Columns of texts -/

def cl : List Nat → Int
  | [] => 0
  | p :: r => wd (p : Int) + cl r

theorem cl_app (a b : List Nat) : cl (a ++ b) = cl a + cl b := by
  induction a with
  | nil => simp [cl]
  | cons x r ih => simp only [List.cons_append, cl, ih]; omega

theorem cl_bd (l : List Nat) : 0 ≤ cl l ∧ cl l ≤ 2 * l.length := by
  induction l with
  | nil => simp [cl]
  | cons x r ih =>
    have := wd_bd (x : Int)
    simp only [cl, List.length_cons]; omega

/-- Columns of the first characters, and of all. -/
def cw (s : ByteArray) (k : Nat) : Int := cl ((pts s).take k)
def tw (s : ByteArray) : Int := cl (pts s)

theorem cw_zero (s : ByteArray) : cw s 0 = 0 := rfl
theorem cw_succ (s : ByteArray) (k : Nat) (h : k < (P s).length) : cw s (k + 1) = cw s k + wd (dp s (st s k)) := by
  unfold cw
  rw [pts_take s k h, cl_app]; simp [cl]
theorem cw_end (s : ByteArray) (k : Nat) (h : (P s).length ≤ k) : cw s k = tw s := by
  unfold cw tw
  rw [List.take_of_length_le (by rw [pts_len]; omega)]
theorem cw_bd (s : ByteArray) (k : Nat) : 0 ≤ cw s k ∧ cw s k ≤ 2 * s.size := by
  have h := cl_bd ((pts s).take k)
  have h2 := P_len s
  have h3 : ((pts s).take k).length ≤ (P s).length := by rw [List.length_take, pts_len]; omega
  unfold cw; omega
theorem tw_bd (s : ByteArray) : 0 ≤ tw s ∧ tw s ≤ 2 * s.size := by
  rw [← cw_end s _ (Nat.le_refl _)]; exact cw_bd s _
theorem cw_step (s : ByteArray) (k : Nat) : cw s k ≤ cw s (k + 1) := by
  by_cases h : k < (P s).length
  · have := cw_succ s k h
    have := wd_bd (dp s (st s k))
    omega
  · rw [cw_end s k (by omega), cw_end s (k + 1) (by omega)]; omega
theorem cw_mono (s : ByteArray) (i j : Nat) (h : i ≤ j) : cw s i ≤ cw s j := by
  obtain ⟨d, rfl⟩ : ∃ d, j = i + d := ⟨j - i, by omega⟩
  clear h
  induction d with
  | zero => exact Int.le_refl _
  | succ d ih => have := cw_step s (i + d); rw [← Nat.add_assoc]; omega

theorem st_step (s : ByteArray) (k : Nat) : st s k ≤ st s (k + 1) := by
  by_cases h : k < (P s).length
  · have := st_succ s k h; omega
  · rw [st_end s k (by omega), st_end s (k + 1) (by omega)]; omega
theorem st_mono (s : ByteArray) (i j : Nat) (h : i ≤ j) : st s i ≤ st s j := by
  obtain ⟨d, rfl⟩ : ∃ d, j = i + d := ⟨j - i, by omega⟩
  clear h
  induction d with
  | zero => exact Nat.le_refl _
  | succ d ih => have := st_step s (i + d); rw [← Nat.add_assoc]; omega

/-- Where a text is cut: after so many characters. -/
structure IsCut (s : ByteArray) (m : Int) (k : Nat) : Prop where
  le : k ≤ (P s).length
  fit : ∀ j, 1 ≤ j → j ≤ k → cw s j ≤ m
  stop : k < (P s).length → m < cw s (k + 1)

theorem cut_from (s : ByteArray) (m : Int) : ∀ f k, k + f = (P s).length → (∀ j, 1 ≤ j → j ≤ k → cw s j ≤ m) → ∃ k', IsCut s m k'
  | 0, k, h, hf => ⟨k, by omega, hf, fun h' => by omega⟩
  | f + 1, k, h, hf => by
    by_cases hc : cw s (k + 1) ≤ m
    · refine cut_from s m f (k + 1) (by omega) fun j h1 h2 => ?_
      by_cases e : j = k + 1
      · rw [e]; exact hc
      · exact hf j h1 (by omega)
    · exact ⟨k, by omega, hf, fun _ => by omega⟩
theorem cut_ex (s : ByteArray) (m : Int) : ∃ k, IsCut s m k := cut_from s m _ 0 (Nat.zero_add _) (fun j h1 h2 => by omega)

theorem cut_mono {s : ByteArray} {m m' : Int} {k k' : Nat} (h : IsCut s m k) (h' : IsCut s m' k') (hm : m ≤ m') : k ≤ k' := by
  apply Classical.byContradiction
  intro hn
  have h1 := h.le
  have h2 := h.fit (k' + 1) (by omega) (by omega)
  have h3 := h'.stop (by omega)
  omega
theorem cut_all {s : ByteArray} {k : Nat} (h : IsCut s (tw s) k) : k = (P s).length := by
  have h1 := h.le
  apply Classical.byContradiction
  intro hn
  have h3 := h.stop (by omega)
  have h4 := cw_mono s (k + 1) (P s).length (by omega)
  rw [cw_end s _ (Nat.le_refl _)] at h4
  omega
theorem cut_neg {s : ByteArray} {m : Int} {k : Nat} (h : IsCut s m k) (hm : m < 0) : k = 0 := by
  apply Classical.byContradiction
  intro hn
  have h2 := h.fit 1 (by omega) (by omega)
  have := (cw_bd s 1).1
  omega
theorem cut_le {s : ByteArray} {m : Int} {k : Nat} (h : IsCut s m k) (hm : 0 ≤ m) : cw s k ≤ m := by
  by_cases hk : k = 0
  · rw [hk, cw_zero]; exact hm
  · exact h.fit k (by omega) (by omega)

/-- The beginning of so many characters. -/
def hd (s : ByteArray) (k : Nat) : ByteArray := s.extract 0 (st s k)
theorem hd_size (s : ByteArray) (k : Nat) : (hd s k).size = st s k := by
  unfold hd; rw [size_ext s 0 _ (st_le s k)]; omega
theorem hd_all (s : ByteArray) (k : Nat) (h : (P s).length ≤ k) : hd s k = s := by
  unfold hd; rw [st_end s k h, extract_all]
theorem hd_zero (s : ByteArray) : hd s 0 = ⟨#[]⟩ := by
  have : (hd s 0).size = 0 := by rw [hd_size]; rfl
  exact ba_ext _ _ (by rw [this]; rfl) (fun i hi => by omega)
theorem hd_hd (s : ByteArray) (i j : Nat) (h : i ≤ j) : (hd s j).extract 0 (st s i) = hd s i := by
  have hz := st_mono s i j h
  have h1 := hd_size s j
  have h2 := hd_size s i
  have h3 : ((hd s j).extract 0 (st s i)).size = st s i := by rw [size_ext _ 0 _ (by omega)]; omega
  refine ba_ext _ _ (by omega) fun k hk => ?_
  rw [get_ext, if_pos (by omega)]
  unfold hd
  rw [get_ext, if_pos (by omega), get_ext, if_pos (by omega)]
  simp

theorem st_hd (s : ByteArray) (k : Nat) (hk : k ≤ (P s).length) : ∀ j, j ≤ k → st (hd s k) j = st s j
  | 0, _ => rfl
  | j + 1, h => by
    have ih := st_hd s k hk j (by omega)
    have e := st_succ s j (by omega)
    have hw := dw_facts s (st s j) ((st_lt s j).2 (by omega))
    have hm := st_mono s (j + 1) k h
    have hd' : Utf8.decode (hd s k) (st s j) = Utf8.decode s (st s j) := dec_head s (st s k) (st s j) (st_le s k) (by omega) (by omega)
    have hl : j < (P (hd s k)).length := (st_lt _ j).1 (by rw [ih, hd_size]; omega)
    rw [st_succ _ j hl, ih, e]
    unfold dw
    rw [hd']

theorem P_hd (s : ByteArray) (k : Nat) (hk : k ≤ (P s).length) : (P (hd s k)).length = k := by
  have h1 : ¬ k < (P (hd s k)).length := by
    rw [← st_lt, st_hd s k hk k (Nat.le_refl _), hd_size]; omega
  by_cases h0 : k = 0
  · omega
  · have e := st_succ s (k - 1) (by omega)
    have hw := dw_facts s (st s (k - 1)) ((st_lt s _).2 (by omega))
    rw [show k - 1 + 1 = k by omega] at e
    have h2 : k - 1 < (P (hd s k)).length := by
      rw [← st_lt, st_hd s k hk _ (by omega), hd_size]; omega
    omega

theorem pts_at (s : ByteArray) (k : Nat) (h : k < (P s).length) : (pts s)[k]? = some (dp s (st s k)) := by
  unfold pts
  rw [List.getElem?_map, P_at s k h]; rfl

theorem pts_hd (s : ByteArray) (k : Nat) (hk : k ≤ (P s).length) : pts (hd s k) = (pts s).take k := by
  apply List.ext_getElem?
  intro j
  have hl := P_hd s k hk
  by_cases hj : j < k
  · rw [pts_at _ j (by omega), List.getElem?_take, if_pos hj, pts_at s j (by omega), st_hd s k hk j (by omega)]
    have e := st_succ s j (by omega)
    have hw := dw_facts s (st s j) ((st_lt s j).2 (by omega))
    have hm := st_mono s (j + 1) k (by omega)
    have hd' : Utf8.decode (hd s k) (st s j) = Utf8.decode s (st s j) := dec_head s (st s k) (st s j) (st_le s k) (by omega) (by omega)
    unfold dp
    rw [hd']
  · rw [List.getElem?_eq_none (by rw [pts_len]; omega), List.getElem?_eq_none (by rw [List.length_take]; omega)]

theorem tw_hd (s : ByteArray) (k : Nat) (hk : k ≤ (P s).length) : tw (hd s k) = cw s k := by
  unfold tw cw; rw [pts_hd s k hk]

theorem tw_app (a b : ByteArray) (h : wh a = a.size) : tw (a ++ b) = tw a + tw b := by
  have he : a.extract 0 (wh a) = a := by rw [h]; exact extract_all a
  obtain ⟨m, hm, hm2, h1⟩ := points_whole a b
  rw [he] at hm h1
  obtain ⟨h2, h3⟩ := points_second a b h he
  have : pts (a ++ b) = pts a ++ pts b := by
    rw [← List.take_append_drop m (pts (a ++ b))]
    unfold pts
    rw [h1, hm, h3]
  unfold tw
  rw [this, cl_app]
end Go.Proofs.YtmjhfabdbajchaaGreatDoor
set_option linter.unusedVariables false
set_option linter.unusedSimpArgs false
namespace Go.Proofs.YtmjhfabdbajchaaGreatDoor
open Go.RowKit

set_option maxHeartbeats 400000 in
theorem wtext_any (s : ByteArray) (w : World) (hT : Tab w) (hs : s.size ≤ 2147483647) :
    Calls Tryz.prog 90 #[.string s] w fun e w' => e = .returned (.int .i64 (tw s)) ∧ Below w.heap.size w w' := by
  have hP := P_len s
  go_enter Tryz.func90, Tryz.ntmps90
  go_wp2_with fail
  go_loopw [3] (fun n w' => ∃ k : Nat, k ≤ (P s).length ∧ w' = w.iter s (st s k) ∧ n = .int .i64 (cw s k)) (fun _ w' => s.size - w'.iterPos w.heap.size)
  case atStart => exact ⟨0, by omega, rfl, rfl⟩
  case round =>
    obtain ⟨k, hk, rfl, rfl⟩ := hrel
    by_cases hlt : k < (P s).length
    · have hp := (st_lt s k).2 hlt
      have hw := dw_facts s (st s k) hp
      have hdp := dp_le s (st s k)
      have hc := cw_bd s k
      have hwd := wd_bd (dp s (st s k))
      have HT : Hid (∀ pos, Tab (w.iter s pos)) := fun pos => hT.below (below_iter w s pos)
      have HS : Hid (st s (k + 1) = st s k + dw s (st s k)) := st_succ s k hlt
      have HC : Hid (cw s (k + 1) = cw s k + wd (dp s (st s k))) := cw_succ s k hlt
      have hnx : ∀ ty, (Instr.next (.pointer (some ⟨w.heap.size, 0, none⟩)) true ty).run Tryz.prog (w.iter s (st s k)) = .ok (.tuple #[.bool true, .int .i64 (st s k), .int .i32 (dp s (st s k))]) (w.iter s (st s k + dw s (st s k))) := fun ty => run_next_any w s (st s k) ty hp
      clear hT
      generalize st s k = i at *
      generalize dw s i = d at *
      generalize hx : dp s i = x at *
      generalize cw s k = c at *
      clear hx
      go_wp2_with fail
      refine (of_any x _ (HT.out _)).mono ?_
      rintro e w' ⟨rfl, rfl⟩
      generalize wd (x : Int) = y at *
      go_wp2_with fail
      exact ⟨⟨k + 1, hlt, by rw [HS.out], congrArg (Value.int .i64) HC.out.symm⟩, by simp; omega⟩
    · have hp : ¬ st s k < s.size := by rw [st_lt]; exact hlt
      have hnx : ∀ ty, (Instr.next (.pointer (some ⟨w.heap.size, 0, none⟩)) true ty).run Tryz.prog (w.iter s (st s k)) = _ := fun ty => run_next_end w s (st s k) ty hp
      have HC : Hid (cw s k = tw s) := cw_end s k (by omega)
      go_wp2_with fail
      go_ret
      exact ⟨ret_i64 HC.out, below_iter _ _ _⟩

end Go.Proofs.YtmjhfabdbajchaaGreatDoor
set_option linter.unusedVariables false
set_option linter.unusedSimpArgs false
namespace Go.Proofs.YtmjhfabdbajchaaGreatDoor
open Go.RowKit

set_option maxHeartbeats 400000 in
theorem rtext_any (s : ByteArray) (w : World) (hs : s.size ≤ 2147483647) :
    Calls Tryz.prog 140 #[.string s] w fun e w' => e = .returned (.int .i64 (tw s)) ∧ Below w.heap.size w w' := by
  have hP := P_len s
  go_enter Tryz.func140, Tryz.ntmps140
  go_wp2_with fail
  refine (rpoints_any s w hs).mono ?_
  rintro e w1 ⟨v, rfl, hown, hb1⟩
  rw [ivs_eq] at hown
  obtain ⟨ao, cap, rfl, hrow⟩ := own_shape hown
  clear hown
  go_wp2_with fail
  go_loopw [3, 5] (fun n i wr => ∃ k : Nat, k ≤ (P s).length ∧ n = .int .i64 (cw s k) ∧ i = .int .i64 k ∧ Below w1.heap.size w1 wr) (fun _ i _ => (P s).length - (intOf i).toNat)
  case atStart => exact ⟨0, by omega, rfl, rfl, Below.refl _ _⟩
  case round =>
    obtain ⟨k, hk, rfl, rfl, hb⟩ := hrel
    by_cases hlt : k < (P s).length
    · have hr := hrow.below hb
      obtain ⟨b, off, rfl, c0⟩ := hr.2 k hlt
      have e0 : ((pts s).map (fun i : Nat => (i : Int))).getD k 0 = ((dp s (st s k) : Nat) : Int) := by
        rw [List.getD, List.getElem?_map, pts_at s k hlt]; rfl
      rw [e0] at c0
      have hc := cw_bd s k
      have hwd := wd_bd (dp s (st s k))
      have HC : Hid (cw s (k + 1) = cw s k + wd (dp s (st s k))) := cw_succ s k hlt
      clear hr e0 hrow
      generalize dp s (st s k) = x at *
      generalize cw s k = c at *
      go_wp2_with fail
      refine (rof_any x _).mono ?_
      rintro e w2 ⟨rfl, hb2⟩
      have hb3 := hb.trans (hb2.mono hb.size)
      clear hb2 hb
      generalize wd (x : Int) = y at *
      go_wp2_with fail
      exact ⟨⟨k + 1, hlt, congrArg (Value.int .i64) HC.out.symm, by go_num, hb3⟩, by simp [intOf]; omega⟩
    · have HC : Hid (cw s k = tw s) := cw_end s k (by omega)
      go_wp2_with fail
      go_ret
      exact ⟨ret_i64 HC.out, hb1.trans (hb.mono hb1.size)⟩

end Go.Proofs.YtmjhfabdbajchaaGreatDoor
