import Derived.Test.YtcokccfbeonlnaaDoorRows
import Derived.ProofKit
import Derived.OpenShut
import Derived.Lay
import Derived.Deep.Strs
import Derived.Stop.Joined
import Derived.MakeChecks
import Derived.WalkKit
import Derived.WalkSpells
import Derived.WalkLawsBesides
import Derived.WalkSmall
import Derived.Test.YtcokccfbeonlnaaDoorGa1
import Derived.Laws.CopyOwn
import Derived.Deep.RegionLaw
import Derived.Maps.AppendAt
import Derived.Lib.AppendStr
import Derived.BigQuiet
import Derived.Defers
set_option linter.unusedVariables false
set_option linter.unusedSimpArgs false
namespace Go.Proofs.YtcokccfbeonlnaaDoor
open Go.ChangeShapes Go.WideShapes Go.ChangeAt Go.RowKit

/-- The table of spans, by rows: low, high, columns. -/
def tabL : List (Int × Int × Int) := [(768, 879, 0), (4352, 4447, 2), (8203, 8207, 0), (8400, 8447, 0), (11904, 12350, 2), (12353, 42191, 2), (44032, 55203, 2), (63744, 64255, 2), (65024, 65039, 0), (65056, 65071, 0), (65072, 65135, 2), (65280, 65376, 2), (65504, 65510, 2), (127744, 128591, 2), (129280, 129535, 2), (131072, 262141, 2)]
def tlo (i : Nat) : Int := (tabL.getD i (0, 0, 0)).1
def thi (i : Nat) : Int := (tabL.getD i (0, 0, 0)).2.1
def tco (i : Nat) : Int := (tabL.getD i (0, 0, 0)).2.2

/-- What the walks want of the world: the table's cells. -/
def Tab (w : World) : Prop := ∀ i, i < 16 → w.cell? ⟨0, i * 3, none⟩ = some (.int .i64 (tlo i)) ∧ w.cell? ⟨0, i * 3 + 1, none⟩ = some (.int .i64 (thi i)) ∧ w.cell? ⟨0, i * 3 + 2, none⟩ = some (.int .i64 (tco i))

theorem Tab.below {w w' : World} (h : Tab w) (hb : Below w.heap.size w w') : Tab w' := by
  intro i hi
  obtain ⟨h0, h1, h2⟩ := h i hi
  have hz := World.block_lt_of_cell? w _ h0
  exact ⟨(hb.cell (p := ⟨0, i * 3, none⟩) hz).trans h0, (hb.cell (p := ⟨0, i * 3 + 1, none⟩) hz).trans h1, (hb.cell (p := ⟨0, i * 3 + 2, none⟩) hz).trans h2⟩

theorem laid_rows : (Rows.laid_colophon_width_spans : DataW Unit) = .agg (tabL.map fun x => .agg [.lit (.int .i64 x.1), .lit (.int .i64 x.2.1), .lit (.int .i64 x.2.2)]) := by kernel_rfl

/-- One of the listed variables. -/
theorem laid_mem {P : Program} {w : World} : ∀ (laid : List (String × DataW Unit)) (ps : List MemPlace), DataW.LaidVars P w laid ps → ∀ n d, (n, d) ∈ laid →
    ∃ g t cs fuel p, P.globalNamed n = some g ∧ (P.globals[g]?).map (·.type) = some t ∧ w.var? P n = some cs ∧ DataW.trod (fun _ => ()) P w 0 (fun _ => true) false fuel t cs.toList = some (d, p)
  | [], _, _, n, d, h => by cases h
  | (m, e) :: r, ps, ⟨g, t, cs, fuel, p, q, h1, h2, h3, h4, h5, _⟩, n, d, h => by
    rcases List.mem_cons.1 h with h | h
    · cases h; exact ⟨g, t, cs, fuel, p, h1, h2, h3, h4⟩
    · exact laid_mem r q h5 n d h

theorem tab_of_laid {W : World} {L : List (String × DataW Unit)} (hpl : (L.all fun x => x.2.handleName?.isNone) = true) (hm : ("colophon/width.spans", Rows.laid_colophon_width_spans) ∈ L) (h : laidMetH Tryd.prog L W) : Tab W := by
  rw [MakeChecks.laidMetH_plain _ _ _ hpl] at h
  obtain ⟨ps, hps, _, _⟩ := h
  obtain ⟨g, t, cs, fuel, p, hg, ht, hv, hd⟩ := laid_mem L ps hps _ _ hm
  obtain rfl := Option.some.inj ((show Tryd.prog.globalNamed "colophon/width.spans" = some 0 by kernel_rfl).symm.trans hg)
  obtain rfl := Option.some.inj ((show (Tryd.prog.globals[0]?).map (·.type) = some 120 by kernel_rfl).symm.trans ht)
  rw [laid_rows] at hd
  obtain ⟨xs, m, _, ex, _, hl, hel⟩ := DataW.trod_array Tryd.underlying120 hd
  have c3 : Tryd.prog.cellsOf 3 = 1 := by kernel_rfl
  have c34 : Tryd.prog.cellsOf 119 = 3 := by kernel_rfl
  intro i hi
  have hE := hel i hi
  rw [c34, List.getElem?_eq_getElem (by omega)] at hE
  obtain ⟨y0, y1, y2, n, ey, _, g0, g1, g2⟩ := Deep.trod_struct3 Tryd.underlying119 hE
  simp only [c3] at g0 g1 g2
  obtain ⟨z0, a0, b0, _⟩ := DataW.trod_int Tryd.underlying3 g0
  obtain ⟨z1, a1, b1, _⟩ := DataW.trod_int Tryd.underlying3 g1
  obtain ⟨z2, a2, b2, _⟩ := DataW.trod_int Tryd.underlying3 g2
  have hlen : tabL.length = 16 := rfl
  have e3 : (xs.map (·.1)) = tabL.map fun x => (.agg [.lit (.int .i64 x.1), .lit (.int .i64 x.2.1), .lit (.int .i64 x.2.2)] : DataW Unit) := (DataW.agg.inj (Prod.mk.inj ex).1).symm
  have e4 : (xs.map (·.1))[i]? = (tabL.map fun x => (.agg [.lit (.int .i64 x.1), .lit (.int .i64 x.2.1), .lit (.int .i64 x.2.2)] : DataW Unit))[i]? := by rw [e3]
  rw [List.getElem?_map, List.getElem?_map, List.getElem?_eq_getElem (by omega : i < xs.length), List.getElem?_eq_getElem (by omega : i < tabL.length), ey, b0, b1, b2] at e4
  simp only [Option.map_some, Option.some.injEq, DataW.agg.injEq, List.cons.injEq, DataW.lit.injEq, Lit.int.injEq, true_and, and_true] at e4
  obtain ⟨f0, f1, f2⟩ := e4
  have hT : tabL.getD i (0, 0, 0) = tabL[i] := by rw [List.getD, List.getElem?_eq_getElem (show i < tabL.length by omega)]; rfl
  have key : ∀ (o : Nat) (z : Int), o < 3 → (((cs.toList.drop (i * 3)).take 3).drop o).take 1 = [.int .i64 z] → W.cell? ⟨0, i * 3 + o, none⟩ = some (.int .i64 z) := by
    intro o z ho hz
    rw [World.var?_cell hg hv (i * 3 + o)]
    have h0 : ((((cs.toList.drop (i * 3)).take 3).drop o).take 1)[0]? = some (.int .i64 z) := by rw [hz]; rfl
    rw [List.getElem?_take, if_pos (by omega), List.getElem?_drop, List.getElem?_take, if_pos (by omega), List.getElem?_drop] at h0
    simpa using h0
  refine ⟨?_, ?_, ?_⟩
  · have := key 0 z0 (by omega) (by simpa using a0)
    rw [Nat.add_zero] at this
    rw [this, tlo, hT, f0]; rfl
  · have := key 1 z1 (by omega) (by simpa using a1)
    rw [this, thi, hT, f1]; rfl
  · have := key 2 z2 (by omega) (by simpa using a2)
    rw [this, tco, hT, f2]; rfl
end Go.Proofs.YtcokccfbeonlnaaDoor
set_option linter.unusedVariables false
set_option linter.unusedSimpArgs false
namespace Go.Proofs.YtcokccfbeonlnaaDoor
open Go.RowKit

def two (p : Int) : Prop := (4352 ≤ p ∧ p ≤ 4447) ∨ (11904 ≤ p ∧ p ≤ 12350) ∨ (12353 ≤ p ∧ p ≤ 42191) ∨ (44032 ≤ p ∧ p ≤ 55203) ∨ (63744 ≤ p ∧ p ≤ 64255) ∨ (65072 ≤ p ∧ p ≤ 65135) ∨ (65280 ≤ p ∧ p ≤ 65376) ∨ (65504 ≤ p ∧ p ≤ 65510) ∨ (127744 ≤ p ∧ p ≤ 128591) ∨ (129280 ≤ p ∧ p ≤ 129535) ∨ (131072 ≤ p ∧ p ≤ 262141)
def zro (p : Int) : Prop := (768 ≤ p ∧ p ≤ 879) ∨ (8203 ≤ p ∧ p ≤ 8207) ∨ (8400 ≤ p ∧ p ≤ 8447) ∨ (65024 ≤ p ∧ p ≤ 65039) ∨ (65056 ≤ p ∧ p ≤ 65071)
instance (p : Int) : Decidable (two p) := by unfold two; infer_instance
instance (p : Int) : Decidable (zro p) := by unfold zro; infer_instance

/-- How many columns a number has. -/
def wd (p : Int) : Int := if two p then 2 else if zro p then 0 else 1

theorem wd_bd (p : Int) : 0 ≤ wd p ∧ wd p ≤ 2 := by unfold wd; split <;> (try split) <;> omega
theorem wd_two {p : Int} (h : two p) : wd p = 2 := by unfold wd; rw [if_pos h]
theorem wd_zro {p : Int} (h : zro p) : wd p = 0 := by
  unfold wd
  rw [if_neg (by unfold zro at h; unfold two; omega), if_pos h]
theorem wd_one {p : Int} (h : ¬ two p) (h2 : ¬ zro p) : wd p = 1 := by unfold wd; rw [if_neg h, if_neg h2]

theorem tab_hit (i : Nat) (p : Int) (hi : i < 16) (h0 : tlo i ≤ p) (h1 : p ≤ thi i) : tco i = wd p := by
  rcases i with _|_|_|_|_|_|_|_|_|_|_|_|_|_|_|_|i
  all_goals simp [tlo, thi, tco, tabL, List.getD] at h0 h1 ⊢
  all_goals first | exact (wd_two (by unfold two; omega)).symm | exact (wd_zro (by unfold zro; omega)).symm | omega

theorem tab_all (p : Int) (h : ∀ k, k < 16 → p < tlo k ∨ thi k < p) : wd p = 1 := by
  have a0 := h 0 (by omega); have a1 := h 1 (by omega); have a2 := h 2 (by omega); have a3 := h 3 (by omega)
  have a4 := h 4 (by omega); have a5 := h 5 (by omega); have a6 := h 6 (by omega); have a7 := h 7 (by omega)
  have a8 := h 8 (by omega); have a9 := h 9 (by omega); have a10 := h 10 (by omega); have a11 := h 11 (by omega)
  have a12 := h 12 (by omega); have a13 := h 13 (by omega); have a14 := h 14 (by omega); have a15 := h 15 (by omega)
  simp only [tlo, thi, tabL, List.getD, List.getElem?_cons_zero, List.getElem?_cons_succ, Option.getD_some] at a0 a1 a2 a3 a4 a5 a6 a7 a8 a9 a10 a11 a12 a13 a14 a15
  refine wd_one ?_ ?_
  · unfold two; omega
  · unfold zro; omega

theorem tab_up (i k : Nat) (hk : k < 16) (h : i ≤ k) : tlo i ≤ tlo k := by
  have : ∀ k, k < 16 → ∀ i, i < 16 → i ≤ k → tlo i ≤ tlo k := by decide +kernel
  exact this k hk i (by omega) h

theorem tab_miss (i : Nat) (p : Int) (h : ∀ k, k < i → thi k < p) (h2 : i < 16 → p < tlo i) : wd p = 1 := by
  refine tab_all p fun k hk => ?_
  by_cases hki : k < i
  · exact .inr (h k hki)
  · have := h2 (by omega)
    have := tab_up i k hk (by omega)
    omega

theorem ret_i64 {a b : Int} (h : a = b) : Ending.returned (.int .i64 a) = .returned (.int .i64 b) := by rw [h]

set_option maxHeartbeats 400000 in
theorem of_any (p : Int) (w : World) (hT : Tab w) :
    Calls Tryd.prog 55 #[.int .i64 p] w fun e w' => e = .returned (.int .i64 (wd p)) ∧ w' = w := by
  go_enter Tryd.func55, Tryd.ntmps55
  go_wp2_with fail
  go_loopw [4] (fun i wr => wr = w ∧ ∃ k : Nat, k ≤ 16 ∧ i = .int .i64 k ∧ ∀ j, j < k → thi j < p) (fun i _ => 16 - (intOf i).toNat)
  case atStart => exact ⟨rfl, 0, by omega, rfl, fun j hj => by omega⟩
  case round =>
    obtain ⟨rfl, k, hk, rfl, hall⟩ := hrel
    by_cases h16 : k < 16
    · obtain ⟨c0, c1, c2⟩ := hT k h16
      have HA : Hid (∀ j, j < k → thi j < p) := hall
      have HH : Hid (tlo k ≤ p → p ≤ thi k → tco k = wd p) := tab_hit k p h16
      have HM : Hid (p < tlo k → wd p = 1) := fun h => tab_miss k p hall (fun _ => h)
      have HN : Hid (thi k < p → ∀ j, j < k + 1 → thi j < p) := fun h j hj => by
        by_cases e : j = k
        · subst e; exact h
        · exact hall j (by omega)
      clear hall hT
      generalize tlo k = l at *
      generalize tco k = c at *
      generalize thi k = u at *
      by_cases h1 : p < l
      · go_wp2_with fail
        go_ret
        exact ⟨ret_i64 (HM.out h1).symm, rfl⟩
      · by_cases h2 : p ≤ u
        · go_wp2_with fail
          go_ret
          exact ⟨ret_i64 (HH.out (by omega) h2), rfl⟩
        · go_wp2_with fail
          exact ⟨⟨trivial, k + 1, by omega, by go_num, HN.out (by omega)⟩, by simp [intOf]; omega⟩
    · have HM : Hid (wd p = 1) := tab_miss k p hall (fun h => absurd h h16)
      clear hall hT
      go_wp2_with fail
      go_ret
      exact ⟨ret_i64 HM.out.symm, rfl⟩
end Go.Proofs.YtcokccfbeonlnaaDoor
set_option linter.unusedVariables false
set_option linter.unusedSimpArgs false
namespace Go.Proofs.YtcokccfbeonlnaaDoor
open Go.RowKit

/-- Is a number in one of the ranges of a list? -/
def inL (p : Int) : List Int → Bool
  | a :: b :: r => (decide (a ≤ p) && decide (p ≤ b)) || inL p r
  | _ => false

theorem inL_step (p : Int) (l : List Int) (i : Nat) (h : i + 1 < l.length) : inL p (l.drop i) = ((decide (l.getD i 0 ≤ p) && decide (p ≤ l.getD (i + 1) 0)) || inL p (l.drop (i + 2))) := by
  have e1 : l.drop i = l.getD i 0 :: l.getD (i + 1) 0 :: l.drop (i + 2) := by
    rw [List.drop_eq_getElem_cons (by omega), List.drop_eq_getElem_cons (by omega)]
    simp [List.getD, List.getElem?_eq_getElem (show i < l.length by omega), List.getElem?_eq_getElem (show i + 1 < l.length by omega)]
  rw [e1]
  rfl
theorem inL_end (p : Int) (l : List Int) (i : Nat) (h : l.length ≤ i + 1) : inL p (l.drop i) = false := by
  have : (l.drop i).length ≤ 1 := by rw [List.length_drop]; omega
  match l.drop i, this with
  | [], _ => rfl
  | [_], _ => rfl

set_option maxHeartbeats 400000 in
theorem in_any (p : Int) (b n c : Nat) (zs : List Int) (w : World) (hn : n ≤ 100) (hr : Row w (some ⟨b, 0, none⟩) n zs) :
    Calls Tryd.prog 93 #[.int .i64 p, .slice (some ⟨b, 0, none⟩) n c] w fun e w' => e = .returned (.bool (inL p zs)) ∧ w' = w := by
  have hl := hr.1
  go_enter Tryd.func93, Tryd.ntmps93
  go_wp2_with fail
  go_loopw [5] (fun i wr => wr = w ∧ ∃ k : Nat, k ≤ n + 1 ∧ i = .int .i64 k ∧ inL p (zs.drop k) = inL p zs) (fun i _ => n + 2 - (intOf i).toNat)
  case atStart => exact ⟨rfl, 0, by omega, rfl, rfl⟩
  case round =>
    obtain ⟨rfl, k, hk, rfl, hin⟩ := hrel
    by_cases hkn : k + 1 < n
    · have c0 := hr.at k (by omega)
      have c1 := hr.at (k + 1) hkn
      rw [inL_step p zs k (by omega)] at hin
      have HI : Hid (((decide (zs.getD k 0 ≤ p) && decide (p ≤ zs.getD (k + 1) 0)) || inL p (zs.drop (k + 2))) = inL p zs) := hin
      simp only [Nat.zero_add] at c0 c1
      clear hin hr hl
      generalize zs.getD k 0 = x at *
      generalize zs.getD (k + 1) 0 = y at *
      by_cases h1 : x ≤ p
      · have h1' : decide (p ≥ x) = true := by simpa using h1
        by_cases h2 : p ≤ y
        · have h2' : decide (p ≤ y) = true := by simpa using h2
          go_wp2_with fail
          go_ret
          exact ⟨by rw [← HI.out]; simp [h1, h2], rfl⟩
        · have h2' : decide (p ≤ y) = false := by simpa using h2
          go_wp2_with fail
          exact ⟨⟨trivial, k + 2, by omega, by go_num, by rw [← HI.out]; simp [h2]⟩, by simp [intOf]; omega⟩
      · have h1' : decide (p ≥ x) = false := by simpa using h1
        go_wp2_with fail
        exact ⟨⟨trivial, k + 2, by omega, by go_num, by rw [← HI.out]; simp [h1]⟩, by simp [intOf]; omega⟩
    · rw [inL_end p zs k (by omega)] at hin
      have HI : Hid (false = inL p zs) := hin
      have hk1 : decide ((k : Int) + 1 < (n : Int)) = false := by simp; omega
      have hk2 : ((k : Int) + 1 < (n : Int)) = False := by simp; omega
      clear hin hr hkn
      go_wp2_with fail
      go_ret
      exact ⟨ret_bool HI.out, rfl⟩

def l2 : List Int := [4352, 4447, 11904, 12350, 12353, 42191, 44032, 55203, 63744, 64255, 65072, 65135, 65280, 65376, 65504, 65510, 127744, 128591, 129280, 129535, 131072, 262141]
def l0 : List Int := [768, 879, 8203, 8207, 8400, 8447, 65024, 65039, 65056, 65071]

theorem in_two (p : Int) : inL p l2 = decide (two p) := by
  rw [Bool.eq_iff_iff, decide_eq_true_iff]
  simp [l2, inL, two]
theorem in_zro (p : Int) : inL p l0 = decide (zro p) := by
  rw [Bool.eq_iff_iff, decide_eq_true_iff]
  simp [l0, inL, zro]

set_option maxHeartbeats 400000 in
theorem rof_any (p : Int) (w : World) :
    Calls Tryd.prog 86 #[.int .i64 p] w fun e w' => e = .returned (.int .i64 (wd p)) ∧ Below w.heap.size w w' := by
  go_enter Tryd.func86, Tryd.ntmps86
  go_wp2_with fail
  have hr : Row (w.alloc (.cells (l2.map (Value.int .i64)).toArray 3)) (some ⟨w.heap.size, 0, none⟩) 22 l2 := row_new w l2 3
  refine (in_any p w.heap.size 22 22 l2 _ (by decide) hr).mono ?_
  rintro e w1 ⟨rfl, rfl⟩
  rw [in_two]
  clear hr
  generalize hb : (w.alloc (.cells (l2.map (Value.int .i64)).toArray 3)) = w1
  have hB : Below w.heap.size w w1 := by rw [← hb]; exact (Below.refl _ _).alloc (Nat.le_refl _) _
  clear hb
  go_wp2_with fail
  have hr : Row (w1.alloc (.cells (l0.map (Value.int .i64)).toArray 3)) (some ⟨w1.heap.size, 0, none⟩) 10 l0 := row_new w1 l0 3
  refine (in_any p w1.heap.size 10 10 l0 _ (by decide) hr).mono ?_
  rintro e w2 ⟨rfl, rfl⟩
  rw [in_zro]
  clear hr
  generalize hb : (w1.alloc (.cells (l0.map (Value.int .i64)).toArray 3)) = w2
  have hB2 : Below w.heap.size w w2 := by rw [← hb]; exact hB.alloc hB.size _
  clear hb hB
  by_cases h2 : two p
  · have HE : Hid (wd p = 2) := wd_two h2
    rw [decide_eq_true h2]
    generalize decide (zro p) = z
    clear h2
    go_wp2_with fail
    go_ret
    exact ⟨ret_i64 HE.out.symm, hB2⟩
  · by_cases h0 : zro p
    · have HE : Hid (wd p = 0) := wd_zro h0
      rw [decide_eq_false h2, decide_eq_true h0]
      clear h2 h0
      go_wp2_with fail
      go_ret
      exact ⟨ret_i64 HE.out.symm, hB2⟩
    · have HE : Hid (wd p = 1) := wd_one h2 h0
      rw [decide_eq_false h2, decide_eq_false h0]
      clear h2 h0
      go_wp2_with fail
      go_ret
      exact ⟨ret_i64 HE.out.symm, hB2⟩
end Go.Proofs.YtcokccfbeonlnaaDoor
set_option linter.unusedVariables false
set_option linter.unusedSimpArgs false
namespace Go.Proofs.YtcokccfbeonlnaaDoor

/-! ### Columns of texts -/

def cl : List Nat → Int
  | [] => 0
  | p :: r => wd (p : Int) + cl r

theorem cl_app (a b : List Nat) : cl (a ++ b) = cl a + cl b := by
  induction a with
  | nil => simp [cl]
  | cons x r ih => simp only [List.cons_append, cl, ih]; omega

theorem cl_bd (l : List Nat) : 0 ≤ cl l ∧ cl l ≤ 2 * l.length := by
  induction l with
  | nil => simp [cl]
  | cons x r ih =>
    have := wd_bd (x : Int)
    simp only [cl, List.length_cons]; omega

/-- Columns of the first characters, and of all. -/
def cw (s : ByteArray) (k : Nat) : Int := cl ((pts s).take k)
def tw (s : ByteArray) : Int := cl (pts s)

theorem cw_zero (s : ByteArray) : cw s 0 = 0 := rfl
theorem cw_succ (s : ByteArray) (k : Nat) (h : k < (P s).length) : cw s (k + 1) = cw s k + wd (dp s (st s k)) := by
  unfold cw
  rw [pts_take s k h, cl_app]; simp [cl]
theorem cw_end (s : ByteArray) (k : Nat) (h : (P s).length ≤ k) : cw s k = tw s := by
  unfold cw tw
  rw [List.take_of_length_le (by rw [pts_len]; omega)]
theorem cw_bd (s : ByteArray) (k : Nat) : 0 ≤ cw s k ∧ cw s k ≤ 2 * s.size := by
  have h := cl_bd ((pts s).take k)
  have h2 := P_len s
  have h3 : ((pts s).take k).length ≤ (P s).length := by rw [List.length_take, pts_len]; omega
  unfold cw; omega
theorem tw_bd (s : ByteArray) : 0 ≤ tw s ∧ tw s ≤ 2 * s.size := by
  rw [← cw_end s _ (Nat.le_refl _)]; exact cw_bd s _
theorem cw_step (s : ByteArray) (k : Nat) : cw s k ≤ cw s (k + 1) := by
  by_cases h : k < (P s).length
  · have := cw_succ s k h
    have := wd_bd (dp s (st s k))
    omega
  · rw [cw_end s k (by omega), cw_end s (k + 1) (by omega)]; omega
theorem cw_mono (s : ByteArray) (i j : Nat) (h : i ≤ j) : cw s i ≤ cw s j := by
  obtain ⟨d, rfl⟩ : ∃ d, j = i + d := ⟨j - i, by omega⟩
  clear h
  induction d with
  | zero => exact Int.le_refl _
  | succ d ih => have := cw_step s (i + d); rw [← Nat.add_assoc]; omega

theorem st_step (s : ByteArray) (k : Nat) : st s k ≤ st s (k + 1) := by
  by_cases h : k < (P s).length
  · have := st_succ s k h; omega
  · rw [st_end s k (by omega), st_end s (k + 1) (by omega)]; omega
theorem st_mono (s : ByteArray) (i j : Nat) (h : i ≤ j) : st s i ≤ st s j := by
  obtain ⟨d, rfl⟩ : ∃ d, j = i + d := ⟨j - i, by omega⟩
  clear h
  induction d with
  | zero => exact Nat.le_refl _
  | succ d ih => have := st_step s (i + d); rw [← Nat.add_assoc]; omega

/-- Where a text is cut: after so many characters. -/
structure IsCut (s : ByteArray) (m : Int) (k : Nat) : Prop where
  le : k ≤ (P s).length
  fit : ∀ j, 1 ≤ j → j ≤ k → cw s j ≤ m
  stop : k < (P s).length → m < cw s (k + 1)

theorem cut_from (s : ByteArray) (m : Int) : ∀ f k, k + f = (P s).length → (∀ j, 1 ≤ j → j ≤ k → cw s j ≤ m) → ∃ k', IsCut s m k'
  | 0, k, h, hf => ⟨k, by omega, hf, fun h' => by omega⟩
  | f + 1, k, h, hf => by
    by_cases hc : cw s (k + 1) ≤ m
    · refine cut_from s m f (k + 1) (by omega) fun j h1 h2 => ?_
      by_cases e : j = k + 1
      · rw [e]; exact hc
      · exact hf j h1 (by omega)
    · exact ⟨k, by omega, hf, fun _ => by omega⟩
theorem cut_ex (s : ByteArray) (m : Int) : ∃ k, IsCut s m k := cut_from s m _ 0 (Nat.zero_add _) (fun j h1 h2 => by omega)

theorem cut_mono {s : ByteArray} {m m' : Int} {k k' : Nat} (h : IsCut s m k) (h' : IsCut s m' k') (hm : m ≤ m') : k ≤ k' := by
  apply Classical.byContradiction
  intro hn
  have h1 := h.le
  have h2 := h.fit (k' + 1) (by omega) (by omega)
  have h3 := h'.stop (by omega)
  omega
theorem cut_all {s : ByteArray} {k : Nat} (h : IsCut s (tw s) k) : k = (P s).length := by
  have h1 := h.le
  apply Classical.byContradiction
  intro hn
  have h3 := h.stop (by omega)
  have h4 := cw_mono s (k + 1) (P s).length (by omega)
  rw [cw_end s _ (Nat.le_refl _)] at h4
  omega
theorem cut_neg {s : ByteArray} {m : Int} {k : Nat} (h : IsCut s m k) (hm : m < 0) : k = 0 := by
  apply Classical.byContradiction
  intro hn
  have h2 := h.fit 1 (by omega) (by omega)
  have := (cw_bd s 1).1
  omega
theorem cut_le {s : ByteArray} {m : Int} {k : Nat} (h : IsCut s m k) (hm : 0 ≤ m) : cw s k ≤ m := by
  by_cases hk : k = 0
  · rw [hk, cw_zero]; exact hm
  · exact h.fit k (by omega) (by omega)

/-- The beginning of so many characters. -/
def hd (s : ByteArray) (k : Nat) : ByteArray := s.extract 0 (st s k)
theorem hd_size (s : ByteArray) (k : Nat) : (hd s k).size = st s k := by
  unfold hd; rw [size_ext s 0 _ (st_le s k)]; omega
theorem hd_all (s : ByteArray) (k : Nat) (h : (P s).length ≤ k) : hd s k = s := by
  unfold hd; rw [st_end s k h, extract_all]
theorem hd_zero (s : ByteArray) : hd s 0 = ⟨#[]⟩ := by
  have : (hd s 0).size = 0 := by rw [hd_size]; rfl
  exact ba_ext _ _ (by rw [this]; rfl) (fun i hi => by omega)
theorem hd_hd (s : ByteArray) (i j : Nat) (h : i ≤ j) : (hd s j).extract 0 (st s i) = hd s i := by
  have hz := st_mono s i j h
  have h1 := hd_size s j
  have h2 := hd_size s i
  have h3 : ((hd s j).extract 0 (st s i)).size = st s i := by rw [size_ext _ 0 _ (by omega)]; omega
  refine ba_ext _ _ (by omega) fun k hk => ?_
  rw [get_ext, if_pos (by omega)]
  unfold hd
  rw [get_ext, if_pos (by omega), get_ext, if_pos (by omega)]
  simp

theorem st_hd (s : ByteArray) (k : Nat) (hk : k ≤ (P s).length) : ∀ j, j ≤ k → st (hd s k) j = st s j
  | 0, _ => rfl
  | j + 1, h => by
    have ih := st_hd s k hk j (by omega)
    have e := st_succ s j (by omega)
    have hw := dw_facts s (st s j) ((st_lt s j).2 (by omega))
    have hm := st_mono s (j + 1) k h
    have hd' : Utf8.decode (hd s k) (st s j) = Utf8.decode s (st s j) := dec_head s (st s k) (st s j) (st_le s k) (by omega) (by omega)
    have hl : j < (P (hd s k)).length := (st_lt _ j).1 (by rw [ih, hd_size]; omega)
    rw [st_succ _ j hl, ih, e]
    unfold dw
    rw [hd']

theorem P_hd (s : ByteArray) (k : Nat) (hk : k ≤ (P s).length) : (P (hd s k)).length = k := by
  have h1 : ¬ k < (P (hd s k)).length := by
    rw [← st_lt, st_hd s k hk k (Nat.le_refl _), hd_size]; omega
  by_cases h0 : k = 0
  · omega
  · have e := st_succ s (k - 1) (by omega)
    have hw := dw_facts s (st s (k - 1)) ((st_lt s _).2 (by omega))
    rw [show k - 1 + 1 = k by omega] at e
    have h2 : k - 1 < (P (hd s k)).length := by
      rw [← st_lt, st_hd s k hk _ (by omega), hd_size]; omega
    omega

theorem pts_at (s : ByteArray) (k : Nat) (h : k < (P s).length) : (pts s)[k]? = some (dp s (st s k)) := by
  unfold pts
  rw [List.getElem?_map, P_at s k h]; rfl

theorem pts_hd (s : ByteArray) (k : Nat) (hk : k ≤ (P s).length) : pts (hd s k) = (pts s).take k := by
  apply List.ext_getElem?
  intro j
  have hl := P_hd s k hk
  by_cases hj : j < k
  · rw [pts_at _ j (by omega), List.getElem?_take, if_pos hj, pts_at s j (by omega), st_hd s k hk j (by omega)]
    have e := st_succ s j (by omega)
    have hw := dw_facts s (st s j) ((st_lt s j).2 (by omega))
    have hm := st_mono s (j + 1) k (by omega)
    have hd' : Utf8.decode (hd s k) (st s j) = Utf8.decode s (st s j) := dec_head s (st s k) (st s j) (st_le s k) (by omega) (by omega)
    unfold dp
    rw [hd']
  · rw [List.getElem?_eq_none (by rw [pts_len]; omega), List.getElem?_eq_none (by rw [List.length_take]; omega)]

theorem tw_hd (s : ByteArray) (k : Nat) (hk : k ≤ (P s).length) : tw (hd s k) = cw s k := by
  unfold tw cw; rw [pts_hd s k hk]

theorem tw_app (a b : ByteArray) (h : wh a = a.size) : tw (a ++ b) = tw a + tw b := by
  have he : a.extract 0 (wh a) = a := by rw [h]; exact extract_all a
  obtain ⟨m, hm, hm2, h1⟩ := points_whole a b
  rw [he] at hm h1
  obtain ⟨h2, h3⟩ := points_second a b h he
  have : pts (a ++ b) = pts a ++ pts b := by
    rw [← List.take_append_drop m (pts (a ++ b))]
    unfold pts
    rw [h1, hm, h3]
  unfold tw
  rw [this, cl_app]
end Go.Proofs.YtcokccfbeonlnaaDoor
set_option linter.unusedVariables false
set_option linter.unusedSimpArgs false
namespace Go.Proofs.YtcokccfbeonlnaaDoor
open Go.RowKit

set_option maxHeartbeats 400000 in
theorem wtext_any (s : ByteArray) (w : World) (hT : Tab w) (hs : s.size ≤ 2147483647) :
    Calls Tryd.prog 29 #[.string s] w fun e w' => e = .returned (.int .i64 (tw s)) ∧ Below w.heap.size w w' := by
  have hP := P_len s
  go_enter Tryd.func29, Tryd.ntmps29
  go_wp2_with fail
  go_loopw [3] (fun n w' => ∃ k : Nat, k ≤ (P s).length ∧ w' = w.iter s (st s k) ∧ n = .int .i64 (cw s k)) (fun _ w' => s.size - w'.iterPos w.heap.size)
  case atStart => exact ⟨0, by omega, rfl, rfl⟩
  case round =>
    obtain ⟨k, hk, rfl, rfl⟩ := hrel
    by_cases hlt : k < (P s).length
    · have hp := (st_lt s k).2 hlt
      have hw := dw_facts s (st s k) hp
      have hdp := dp_le s (st s k)
      have hc := cw_bd s k
      have hwd := wd_bd (dp s (st s k))
      have HT : Hid (∀ pos, Tab (w.iter s pos)) := fun pos => hT.below (below_iter w s pos)
      have HS : Hid (st s (k + 1) = st s k + dw s (st s k)) := st_succ s k hlt
      have HC : Hid (cw s (k + 1) = cw s k + wd (dp s (st s k))) := cw_succ s k hlt
      have hnx : ∀ ty, (Instr.next (.pointer (some ⟨w.heap.size, 0, none⟩)) true ty).run Tryd.prog (w.iter s (st s k)) = .ok (.tuple #[.bool true, .int .i64 (st s k), .int .i32 (dp s (st s k))]) (w.iter s (st s k + dw s (st s k))) := fun ty => run_next_any w s (st s k) ty hp
      clear hT
      generalize st s k = i at *
      generalize dw s i = d at *
      generalize hx : dp s i = x at *
      generalize cw s k = c at *
      clear hx
      go_wp2_with fail
      refine (of_any x _ (HT.out _)).mono ?_
      rintro e w' ⟨rfl, rfl⟩
      generalize wd (x : Int) = y at *
      go_wp2_with fail
      exact ⟨⟨k + 1, hlt, by rw [HS.out], congrArg (Value.int .i64) HC.out.symm⟩, by simp; omega⟩
    · have hp : ¬ st s k < s.size := by rw [st_lt]; exact hlt
      have hnx : ∀ ty, (Instr.next (.pointer (some ⟨w.heap.size, 0, none⟩)) true ty).run Tryd.prog (w.iter s (st s k)) = _ := fun ty => run_next_end w s (st s k) ty hp
      have HC : Hid (cw s k = tw s) := cw_end s k (by omega)
      go_wp2_with fail
      go_ret
      exact ⟨ret_i64 HC.out, below_iter _ _ _⟩

end Go.Proofs.YtcokccfbeonlnaaDoor
set_option linter.unusedVariables false
set_option linter.unusedSimpArgs false
namespace Go.Proofs.YtcokccfbeonlnaaDoor
open Go.RowKit

set_option maxHeartbeats 400000 in
theorem rtext_any (s : ByteArray) (w : World) (hs : s.size ≤ 2147483647) :
    Calls Tryd.prog 73 #[.string s] w fun e w' => e = .returned (.int .i64 (tw s)) ∧ Below w.heap.size w w' := by
  have hP := P_len s
  go_enter Tryd.func73, Tryd.ntmps73
  go_wp2_with fail
  refine (rpoints_any s w hs).mono ?_
  rintro e w1 ⟨v, rfl, hown, hb1⟩
  rw [ivs_eq] at hown
  obtain ⟨ao, cap, rfl, hrow⟩ := own_shape hown
  clear hown
  go_wp2_with fail
  go_loopw [3, 5] (fun n i wr => ∃ k : Nat, k ≤ (P s).length ∧ n = .int .i64 (cw s k) ∧ i = .int .i64 k ∧ Below w1.heap.size w1 wr) (fun _ i _ => (P s).length - (intOf i).toNat)
  case atStart => exact ⟨0, by omega, rfl, rfl, Below.refl _ _⟩
  case round =>
    obtain ⟨k, hk, rfl, rfl, hb⟩ := hrel
    by_cases hlt : k < (P s).length
    · have hr := hrow.below hb
      obtain ⟨b, off, rfl, c0⟩ := hr.2 k hlt
      have e0 : ((pts s).map (fun i : Nat => (i : Int))).getD k 0 = ((dp s (st s k) : Nat) : Int) := by
        rw [List.getD, List.getElem?_map, pts_at s k hlt]; rfl
      rw [e0] at c0
      have hc := cw_bd s k
      have hwd := wd_bd (dp s (st s k))
      have HC : Hid (cw s (k + 1) = cw s k + wd (dp s (st s k))) := cw_succ s k hlt
      clear hr e0 hrow
      generalize dp s (st s k) = x at *
      generalize cw s k = c at *
      go_wp2_with fail
      refine (rof_any x _).mono ?_
      rintro e w2 ⟨rfl, hb2⟩
      have hb3 := hb.trans (hb2.mono hb.size)
      clear hb2 hb
      generalize wd (x : Int) = y at *
      go_wp2_with fail
      exact ⟨⟨k + 1, hlt, congrArg (Value.int .i64) HC.out.symm, by go_num, hb3⟩, by simp [intOf]; omega⟩
    · have HC : Hid (cw s k = tw s) := cw_end s k (by omega)
      go_wp2_with fail
      go_ret
      exact ⟨ret_i64 HC.out, hb1.trans (hb.mono hb1.size)⟩

end Go.Proofs.YtcokccfbeonlnaaDoor
set_option linter.unusedVariables false
set_option linter.unusedSimpArgs false
namespace Go.Proofs.YtcokccfbeonlnaaDoor
open Go.RowKit

/-! Labels: which block belongs to which ring (0: to none). -/

/-- What a call on the ring of label i leaves alone. -/
structure Fr (i : Nat) (own own' : Nat → Nat) (w w' : World) : Prop where
  os : w'.os = w.os
  tape : w'.tape = w.tape
  output : w'.output = w.output
  size : w.heap.size ≤ w'.heap.size
  block : ∀ k, k < w.heap.size → own k ≠ i → w'.heap[k]? = w.heap[k]?
  old : ∀ k, k < w.heap.size → own' k = own k

/-- Blocks that are not there yet belong to none. -/
def Nf (own : Nat → Nat) (w : World) : Prop := ∀ k, w.heap.size ≤ k → own k = 0

theorem Fr.refl (i : Nat) (own : Nat → Nat) (w : World) : Fr i own own w w := ⟨rfl, rfl, rfl, Nat.le_refl _, fun _ _ _ => rfl, fun _ _ => rfl⟩
theorem Fr.trans {i : Nat} {o0 o1 o2 : Nat → Nat} {a b c : World} (h : Fr i o0 o1 a b) (k : Fr i o1 o2 b c) : Fr i o0 o2 a c :=
  ⟨k.os.trans h.os, k.tape.trans h.tape, k.output.trans h.output, Nat.le_trans h.size k.size,
   fun j hj hi => (k.block j (Nat.lt_of_lt_of_le hj h.size) (by rw [h.old j hj]; exact hi)).trans (h.block j hj hi),
   fun j hj => (k.old j (Nat.lt_of_lt_of_le hj h.size)).trans (h.old j hj)⟩
theorem Fr.of_below {i : Nat} {own : Nat → Nat} {w w' : World} (h : Below w.heap.size w w') : Fr i own own w w' :=
  ⟨h.os, h.tape, h.output, h.size, fun k hk _ => h.block k hk, fun _ _ => rfl⟩
theorem Fr.below {i B : Nat} {own own' : Nat → Nat} {w w' : World} (h : Fr i own own' w w') (hB : B ≤ w.heap.size) (ho : ∀ k, k < B → own k = 0) (hi : i ≠ 0) : Below B w w' :=
  ⟨h.os, h.tape, h.output, h.size, fun k hk => h.block k (by omega) (by rw [ho k hk]; omega)⟩
theorem Fr.cell {i : Nat} {own own' : Nat → Nat} {w w' : World} (h : Fr i own own' w w') {a : Addr} {v : Value} (hc : w.cell? a = some v) (hi : own a.block ≠ i) : w'.cell? a = some v :=
  (World.cell?_of_block (h.block a.block (World.block_lt_of_cell? w a hc) hi)).trans hc
theorem Nf.below {own : Nat → Nat} {w w' : World} (h : Nf own w) (hb : w.heap.size ≤ w'.heap.size) : Nf own w' := fun k hk => h k (by omega)

/-! Blocks. -/
theorem blk_cell {W : World} {g k : Nat} {cs : Array Value} {T : TypeId} {v : Value} (h : W.heap[g]? = some (.cells cs T (0, 0))) (hk : cs[k]? = some v) : W.cell? ⟨g, k, none⟩ = some v := by simp [World.cell?, h, hk]
theorem blk_frozen {W : World} {g k : Nat} {cs : Array Value} {T : TypeId} (h : W.heap[g]? = some (.cells cs T (0, 0))) : W.frozen? ⟨g, k, none⟩ = false := by simp [World.frozen?, h]
theorem blk_set {W : World} {g : Nat} {cs : Array Value} {T : TypeId} (h : W.heap[g]? = some (.cells cs T (0, 0))) (k : Nat) (v : Value) : (W.setCell ⟨g, k, none⟩ v).heap[g]? = some (.cells (cs.setIfInBounds k v) T (0, 0)) := by
  obtain ⟨hlt, hk⟩ := Array.getElem?_eq_some_iff.1 h
  show (W.heap.modify g _)[g]? = _
  rw [Array.getElem?_eq_getElem (by rw [Array.size_modify]; exact hlt), Array.getElem_modify_self, hk]
  rfl
theorem blk_other {W : World} {g b k : Nat} {o : Obj} (h : W.heap[g]? = some o) (hne : g ≠ b) (v : Value) : (W.setCell ⟨b, k, none⟩ v).heap[g]? = some o :=
  (Below.heap_setCell W ⟨b, k, none⟩ v g hne).trans h
theorem blk_lt {W : World} {g : Nat} {o : Obj} (h : W.heap[g]? = some o) : g < W.heap.size := (Array.getElem?_eq_some_iff.1 h).1
theorem blk_below {W W' : World} {g : Nat} {o : Obj} (h : W.heap[g]? = some o) (hb : Below W.heap.size W W') : W'.heap[g]? = some o := (hb.block g (blk_lt h)).trans h

/-- A store into a block of the ring's own. -/
theorem Fr.set {i : Nat} {own own' : Nat → Nat} {w W : World} (h : Fr i own own' w W) {g : Nat} (hg : own' g = i) (k : Nat) (v : Value) (hN : ∀ j, j < w.heap.size → own j ≠ i → j ≠ g) : Fr i own own' w (W.setCell ⟨g, k, none⟩ v) :=
  ⟨h.os, h.tape, h.output, by show _ ≤ (W.heap.modify g _).size; rw [Array.size_modify]; exact h.size,
   fun j hj hi => (Below.heap_setCell W ⟨g, k, none⟩ v j (hN j hj hi)).trans (h.block j hj hi), h.old⟩
theorem Fr.set' {i : Nat} {own : Nat → Nat} {w W : World} (h : Fr i own own w W) {g : Nat} (hg : own g = i) (k : Nat) (v : Value) : Fr i own own w (W.setCell ⟨g, k, none⟩ v) :=
  h.set hg k v (fun j _ hj e => hj (by rw [e]; exact hg))
theorem Fr.drewN {i : Nat} {own own' : Nat → Nat} {w W : World} (h : Fr i own own' w W) (m : Nat) : Fr i own own' w (W.drewN m) := by
  exact ⟨by rw [World.drewN]; exact h.os, by rw [World.drewN]; exact h.tape, by rw [World.drewN]; exact h.output, by rw [World.drewN]; exact h.size, by rw [World.drewN]; exact h.block, h.old⟩
theorem Fr.then {i : Nat} {own own' : Nat → Nat} {w W W' : World} (h : Fr i own own' w W) (hb : Below W.heap.size W W') : Fr i own own' w W' :=
  ⟨hb.os.trans h.os, hb.tape.trans h.tape, hb.output.trans h.output, Nat.le_trans h.size hb.size, fun j hj hi => (hb.block j (Nat.lt_of_lt_of_le hj h.size)).trans (h.block j hj hi), h.old⟩

/-! Rows of things, each laid into cells. -/
section
variable {β : Type} (enc : β → List Value) (sz : Nat)

def flat (zs : List β) : List Value := zs.flatMap enc

theorem flat_nil : flat enc [] = [] := rfl
theorem flat_cons (x : β) (zs : List β) : flat enc (x :: zs) = enc x ++ flat enc zs := rfl
theorem flat_append (xs zs : List β) : flat enc (xs ++ zs) = flat enc xs ++ flat enc zs := by unfold flat; exact List.flatMap_append
variable (hsz : ∀ x, (enc x).length = sz)
include hsz
theorem flat_len (zs : List β) : (flat enc zs).length = zs.length * sz := by
  induction zs with
  | nil => simp [flat]
  | cons x r ih => rw [flat_cons, List.length_append, ih, hsz, List.length_cons, Nat.succ_mul]; omega
theorem flat_drop : ∀ (k : Nat) (zs : List β), (flat enc zs).drop (k * sz) = flat enc (zs.drop k)
  | 0, zs => by simp
  | k + 1, [] => by simp [flat]
  | k + 1, x :: r => by
    rw [flat_cons, List.drop_append, hsz, List.drop_succ_cons, ← flat_drop k r, List.drop_eq_nil_of_le (by rw [hsz, Nat.succ_mul]; omega), List.nil_append]
    congr 1; rw [Nat.succ_mul]; omega
theorem flat_take : ∀ (k : Nat) (zs : List β), (flat enc zs).take (k * sz) = flat enc (zs.take k)
  | 0, zs => by simp [flat]
  | k + 1, [] => by simp [flat]
  | k + 1, x :: r => by
    rw [flat_cons, List.take_append, hsz, List.take_succ_cons, flat_cons, ← flat_take k r, List.take_of_length_le (by rw [hsz, Nat.succ_mul]; omega)]
    congr 2; rw [Nat.succ_mul]; omega
theorem flat_at (zs : List β) (k j : Nat) (x : β) (v : Value) (hk : zs[k]? = some x) (hv : (enc x)[j]? = some v) : (flat enc zs)[k * sz + j]? = some v := by
  have h1 : (flat enc zs)[k * sz + j]? = ((flat enc zs).drop (k * sz))[j]? := by rw [List.getElem?_drop]
  rw [h1, flat_drop enc sz hsz]
  obtain ⟨hl, he⟩ := List.getElem?_eq_some_iff.1 hk
  rw [List.drop_eq_getElem_cons hl, he, flat_cons]
  rw [List.getElem?_append_left (List.getElem?_eq_some_iff.1 hv).1]
  exact hv
omit hsz in
/-- Two copies into a row of zeros. -/
theorem splice_two {α : Type} (Z A B : List α) (k : Nat) (hk : A.length = k) (h : A.length + B.length ≤ Z.length) : splice (splice Z 0 A) k B = A ++ (B ++ Z.drop (k + B.length)) := by
  subst hk
  unfold splice
  rw [List.take_zero, List.nil_append, Nat.zero_add]
  rw [List.take_left', List.drop_append]
  · rw [List.drop_eq_nil_of_le (by omega), List.nil_append, List.drop_drop]
    congr 3; omega
  · rfl
end

/-! What a ring holds. -/
/-- l is what lies in zs from front on, round and round. -/
def Holds {β : Type} (zs : List β) (front : Nat) (l : List β) : Prop := l.length ≤ zs.length ∧ ∀ i, i < l.length → l[i]? = zs[(front + i) % zs.length]?

theorem Holds.widen {β : Type} {zs l Z : List β} {front : Nat} (h : Holds zs front l) (hf : front ≤ zs.length) (hfull : l.length = zs.length) : Holds (zs.drop front ++ zs.take front ++ Z) 0 l := by
  have hlen : (zs.drop front ++ zs.take front).length = zs.length := by simp; omega
  refine ⟨by rw [List.length_append, hlen]; omega, fun i hi => ?_⟩
  rw [h.2 i hi, Nat.zero_add, Nat.mod_eq_of_lt (a := i) (by rw [List.length_append, hlen]; omega), List.getElem?_append_left (l₁ := zs.drop front ++ zs.take front) (by omega)]
  by_cases hc : front + i < zs.length
  · rw [Nat.mod_eq_of_lt hc, List.getElem?_append_left (by simp; omega), List.getElem?_drop]
  · rw [List.getElem?_append_right (by simp; omega), List.getElem?_take, if_pos (by simp; omega)]
    congr 1
    rw [Nat.mod_eq_sub_mod (by omega), Nat.mod_eq_of_lt (by omega)]; simp; omega

theorem mod_ne {f n i j : Nat} (hi : i < n) (hj : j < n) (h : i ≠ j) : (f + i) % n ≠ (f + j) % n := by
  intro e
  have hn : 0 < n := by omega
  have h1 := Nat.div_add_mod (f + i) n
  have h2 := Nat.div_add_mod (f + j) n
  rw [e] at h1
  have h3 : n * ((f + i) / n) + j = n * ((f + j) / n) + i := by omega
  rcases Nat.lt_trichotomy ((f + i) / n) ((f + j) / n) with hlt | heq | hgt
  · have := Nat.mul_le_mul_left n hlt; rw [Nat.mul_succ] at this; omega
  · rw [heq] at h3; omega
  · have := Nat.mul_le_mul_left n hgt; rw [Nat.mul_succ] at this; omega

theorem Holds.push {β : Type} {zs l : List β} {front : Nat} (x : β) (h : Holds zs front l) (hlt : l.length < zs.length) : Holds (zs.set ((front + l.length) % zs.length) x) front (l ++ [x]) := by
  have hm : (front + l.length) % zs.length < zs.length := Nat.mod_lt _ (by omega)
  refine ⟨by simp; omega, fun i hi => ?_⟩
  simp at hi
  rw [List.length_set]
  by_cases hc : i < l.length
  · rw [List.getElem?_append_left hc, List.getElem?_set_ne (mod_ne (by omega) (by omega) (by omega)), h.2 i hc]
  · obtain rfl : i = l.length := by omega
    rw [List.getElem?_append_right (by omega), List.getElem?_set_self hm]; simp

theorem Holds.set {β : Type} {zs l : List β} {front i : Nat} (x : β) (h : Holds zs front l) (hi : i < l.length) : Holds (zs.set ((front + i) % zs.length) x) front (l.set i x) := by
  have hl := h.1
  have hm : (front + i) % zs.length < zs.length := Nat.mod_lt _ (by omega)
  refine ⟨by simp; omega, fun j hj => ?_⟩
  simp at hj
  rw [List.length_set]
  by_cases hc : i = j
  · subst hc; rw [List.getElem?_set_self hj, List.getElem?_set_self hm]
  · rw [List.getElem?_set_ne hc, List.getElem?_set_ne (mod_ne (by omega) (by omega) hc), h.2 j hj]

/-- The last one goes, its cell is cleared. -/
theorem Holds.popBack {β : Type} {zs l : List β} {front : Nat} (z : β) (h : Holds zs front l) (hp : 0 < l.length) : Holds (zs.set ((front + (l.length - 1)) % zs.length) z) front l.dropLast := by
  have hl := h.1
  refine ⟨by simp; omega, fun j hj => ?_⟩
  simp at hj
  rw [List.length_set, List.getElem?_set_ne (mod_ne (by omega) (by omega) (by omega)), ← h.2 j (by omega), List.getElem?_dropLast, if_pos (by omega)]

theorem Holds.popFront {β : Type} {zs l : List β} {front : Nat} (z : β) (h : Holds zs front l) (hp : 0 < l.length) : Holds (zs.set ((front + 0) % zs.length) z) ((front + 1) % zs.length) l.tail := by
  have hl := h.1
  refine ⟨by simp; omega, fun j hj => ?_⟩
  simp at hj
  rw [List.length_set, Nat.mod_add_mod, List.getElem?_tail, Nat.add_assoc, Nat.add_comm 1 j, List.getElem?_set_ne (mod_ne (by omega) (by omega) (by omega))]
  exact h.2 (j + 1) (by omega)

/-! The sized copy. -/
theorem run_copy_sized {P : Program} (w : World) (dT sT ty elem : TypeId) (sz g o dLen dCap : Nat) (a : Addr) (sLen sCap : Nat) (cur : Array Value) (t : TypeId) (cs : List Value)
    (hu : P.underlying dT = some (.slice elem)) (hs : (P.info? elem).map (·.size) = some sz)
    (hg : w.heap[g]? = some (.cells cur t (0, 0))) (hn : cs.length = Nat.min sLen dLen * sz)
    (hsrc : ∀ j v, cs[j]? = some v → w.cell? (a.add j) = some v) (hfit : o + cs.length ≤ cur.size) (h1 : ∀ v ∈ cs, v.oneCell' = true) :
    (Builtin.copy_ #[dT, sT] ty #[.slice (some ⟨g, o, none⟩) dLen dCap, .slice (some a) sLen sCap]).run P w =
      .ok (goInt (Nat.min sLen dLen)) (w.setRow g (cur.toList.take o ++ cs ++ cur.toList.drop (o + cs.length)).toArray) := by
  have hl := run_loadCells_list (P := P) w a cs hsrc
  have hst := run_storeCells_at P g o t cs 0 cur w hg (by simpa using hfit) h1
  cases hq : P.info? elem with
  | none => simp [hq] at hs
  | some i =>
    have hi : i.size = sz := by simpa [hq] using hs
    simp [Builtin.copy_, run_underlying hu, Builtin.lenOf, Builtin.firstCells, sizeOf, typeInfo, hq, hi, ← hn, hl, hst]

theorem run_copy_none_sized {P : Program} (w : World) (dT sT ty elem : TypeId) (sz : Nat) (d a : Option Addr) (dLen dCap sLen sCap : Nat) (hu : P.underlying dT = some (.slice elem)) (hs : (P.info? elem).map (·.size) = some sz) (hn : Nat.min sLen dLen = 0) :
    (Builtin.copy_ #[dT, sT] ty #[.slice d dLen dCap, .slice a sLen sCap]).run P w = .ok (goInt 0) w := by
  cases hq : P.info? elem with
  | none => simp [hq] at hs
  | some i =>
    have hl : ∀ (x : Addr), (loadCells x 0).run P w = .ok #[] w := fun x => by simpa using run_loadCells_list (P := P) w x [] (by simp)
    cases d <;> cases a <;> simp [Builtin.copy_, run_underlying hu, Builtin.lenOf, Builtin.firstCells, sizeOf, typeInfo, hq, hn, storeCells, hl]

/-- copy as a step of a region that draws its order, things of sz cells. -/
theorem step_copy_sized {P : Program} {ops : Array Oper} {o : Oper} {a : Act} {w : World} {K : Act → World → Prop} {Q : Exit → Act → World → Prop} {E : Prop} (hgd : o.guard = none) (d s : Operand) (dT sT : TypeId)
    (ho : o.op = .call { callee := .builtin .copy, args := #[d, s], argTypes := #[dT, sT] }) (elem : TypeId) (sz : Nat) (hu : P.underlying dT = some (.slice elem)) (hsz : (P.info? elem).map (·.size) = some sz)
    (dp sp : Option Addr) (dLen dCap sLen sCap : Nat) (hd : a.eval d = .slice dp dLen dCap) (hs : a.eval s = .slice sp sLen sCap)
    (g off : Nat) (cur : List Value) (t : TypeId) (hg : w.heap[g]? = some (.cells cur.toArray t (0, 0))) (cs : List Value) (m : Nat) (hm : m = Nat.min sLen dLen) (hn : cs.length = m * sz)
    (hpos : 0 < m → dp = some ⟨g, off, none⟩ ∧ ∃ ad, sp = some ad ∧ ∀ j v, cs[j]? = some v → w.cell? (ad.add j) = some v)
    (hfit : off + cs.length ≤ cur.length) (h1 : ∀ v ∈ cs, v.oneCell' = true) (B : Nat) (w0 : World) (hb : RowKit.Below B w0 w) (hBg : B ≤ g)
    (h : ∀ w', RowKit.Hid (w'.heap[g]? = some (.cells (splice cur off cs).toArray t (0, 0))) → RowKit.Below B w0 w' → K (a.put o.dst (goInt m)) w') :
    if Region.wanted o (yielded ops a.tmps) = true then Oper.wp P o a w K Q else E := by
  have hw : Region.wanted o (yielded ops a.tmps) = true := by simp [Region.wanted, hgd]
  rw [if_pos hw]
  by_cases h0 : m = 0
  · subst h0
    obtain rfl : cs = [] := List.eq_nil_of_length_eq_zero (by simpa using hn)
    have hrun := run_copy_none_sized (P := P) w dT sT o.type elem sz dp sp dLen dCap sLen sCap hu hsz hm.symm
    unfold Oper.wp
    simp [execOp, ho, resolve, invoke, builtin, hd, hs, hrun, Result.andThen]
    exact h w (show _ = _ by simpa [splice] using hg) hb
  · obtain ⟨rfl, ad, rfl, hsrc⟩ := hpos (by omega)
    have hrun := run_copy_sized (P := P) w dT sT o.type elem sz g off dLen dCap ad sLen sCap cur.toArray t cs hu hsz hg (by rw [hn, hm]) hsrc (by simpa using hfit) h1
    rw [← hm] at hrun
    unfold Oper.wp
    simp [execOp, ho, resolve, invoke, builtin, hd, hs, hrun, Result.andThen]
    exact h _ (show _ = _ by simpa [splice] using setRow_heap w g _ _ t _ hg) (below_setRow hb hBg _)

end Go.Proofs.YtcokccfbeonlnaaDoor
set_option linter.unusedVariables false
set_option linter.unusedSimpArgs false
namespace Go.Proofs.YtcokccfbeonlnaaDoor
open Go.RowKit
open Go.Lib (strCells strCells_length)

/-! Bytes as cells. -/
def bc (l : List UInt8) : List Value := l.map fun b => Value.int .u8 b.toNat
theorem bc_len (l : List UInt8) : (bc l).length = l.length := by simp [bc]
theorem bc_app (a b : List UInt8) : bc (a ++ b) = bc a ++ bc b := by simp [bc]
theorem bc_str (s : ByteArray) : strCells s = bc s.data.toList := rfl
theorem bc_get (l : List UInt8) (j : Nat) (x : UInt8) (h : l[j]? = some x) : (bc l)[j]? = some (.int .u8 x.toNat) := by simp [bc, h]
theorem bc_one (l : List UInt8) : ∀ u ∈ bc l, u.oneCell' = true := by
  intro u hu
  simp only [bc, List.mem_map] at hu
  obtain ⟨x, _, rfl⟩ := hu
  rfl
theorem bc_drop (l : List UInt8) (k : Nat) : (bc l).drop k = bc (l.drop k) := by simp [bc]
theorem bc_take (l : List UInt8) (k : Nat) : (bc l).take k = bc (l.take k) := by simp [bc]

/-! Where an append of a text puts the new row. -/
theorem run_append_string_at {P : Program} (w : World) (base : Nat) (t u ty e : TypeId) (i : TypeInfo) (ht : P.underlying t = some (.slice e)) (hu : P.underlying u = some .string) (hi : P.info? e = some i) (hz : i.zero = some (.int .u8 0))
    (hsize : i.size = 1) (hby : i.bytes = 1) (v : Value) (n : Nat) (xs : List Value) (hown : w.ownsRow base e 1 v n xs) (s : ByteArray)
    (h63 : n + s.size ≤ maxLen) (hbytes : n + s.size ≤ 140737488355328) (hbase : base ≤ w.heap.size) :
    ∃ v' w', (Builtin.append_ #[t, u] ty #[v, .string s]).run P w = .ok v' w' ∧ w'.ownsRow base e 1 v' (n + s.size) (xs ++ strCells s) ∧ w.grownBy w' v.ownBlock ∧ (v'.ownBlock = v.ownBlock ∨ v'.ownBlock = some w.heap.size) := by
  obtain ⟨v', w', hr, h1, h2, h3⟩ := Lib.run_append_own_string (P := P) w base t u ty e i ht hu hi hz hsize hby v n xs hown s h63 hbytes hbase
  refine ⟨v', w', hr, h1, h2, ?_⟩
  have hsmall : n + s.size ≤ 9223372036854775807 := by simp only [maxLen] at h63; omega
  have hxl : xs.length = n := by simpa using hown.1
  rcases hown.2 with ⟨rfl, rfl⟩ | ⟨g, cap, cur, rfl, hbg, hg, hnc, hcm, hcs, htake⟩
  · by_cases hm : s.size = 0
    · left; rw [h3.2 ⟨rfl, hm⟩]
    · have hr2 := run_append_nil_string (P := P) w t u ty e i (.int .u8 0) ht hu hi hz s (by omega) (by omega) (by rw [hby]; omega)
      rw [hr2] at hr
      injection hr with e1 e2
      right; rw [← e1]; rfl
  · by_cases hroom : n + s.size ≤ cap
    · have hcs' : cur.size = cap := by simpa using hcs
      have hr2 := Lib.run_append_room_string (P := P) w t u ty e i ht hu hi hsize g n cap cur hg s hroom (by omega)
      rw [hr2] at hr
      injection hr with e1 e2
      left; rw [← e1]; rfl
    · have holds : ∀ j u, xs[j]? = some u → w.cell? ((⟨g, 0, none⟩ : Addr).add j) = some u := hown.cells (g := g) rfl
      have hr2 := Lib.run_append_grow_string (P := P) w t u ty e i (.int .u8 0) ht hu hi hz ⟨g, 0, none⟩ n cap xs (by rw [hsize]; simpa using hxl) holds s (by omega) (by omega) (by rw [hby]; exact growslice_fits (by omega) (by omega))
      rw [hr2] at hr
      injection hr with e1 e2
      right; rw [← e1]; rfl

theorem wpList_append_string_at {P : Program} {w : World} {ops : Array Oper} {rest : List Oper} {o : Oper} {a : Act} {Q : Exit → Act → World → Prop} (hgd : o.guard = none) (sl x : Operand) (t u : TypeId)
    (ho : o.op = .call { callee := .builtin .append, args := #[sl, x], argTypes := #[t, u] })
    (base : Nat) (e : TypeId) (i : TypeInfo) (ht : P.underlying t = some (.slice e)) (hu : P.underlying u = some .string) (hi : P.info? e = some i) (hz : i.zero = some (.int .u8 0))
    (hsize : i.size = 1) (hby : i.bytes = 1)
    (v : Value) (n : Nat) (xs : List Value) (hs : a.eval sl = v) (hown : w.ownsRow base e 1 v n xs) (s : ByteArray) (hx : a.eval x = .string s)
    (h63 : n + s.size ≤ maxLen) (hbytes : n + s.size ≤ 140737488355328) (hbase : base ≤ w.heap.size)
    (h : ∀ v' w', w'.ownsRow base e 1 v' (n + s.size) (xs ++ strCells s) → w.grownBy w' v.ownBlock → (v'.ownBlock = v.ownBlock ∨ v'.ownBlock = some w.heap.size) → wpList P ops Q rest (a.put o.dst v') w') : wpList P ops Q (o :: rest) a w := by
  refine wpList_plain hgd fun K hK => ?_
  obtain ⟨v', w', hr, h2, h3, h4⟩ := run_append_string_at (P := P) w base t u o.type e i ht hu hi hz hsize hby v n xs hown s h63 hbytes hbase
  unfold Oper.wp execOp
  simp only [ho, resolve, invoke, builtin, Sem.run_bind, Sem.run_pure, Result.andThen_ok, List.map_toArray, List.map_cons, List.map_nil, hs, hx, hr]
  exact hK _ _ (h v' w' h2 h3 h4)

/-! What stands but for some blocks. -/
structure Kp (S : Nat → Prop) (w w' : World) : Prop where
  os : w'.os = w.os
  tape : w'.tape = w.tape
  output : w'.output = w.output
  size : w.heap.size ≤ w'.heap.size
  block : ∀ k, k < w.heap.size → ¬ S k → w'.heap[k]? = w.heap[k]?

theorem Kp.refl (S : Nat → Prop) (w : World) : Kp S w w := ⟨rfl, rfl, rfl, Nat.le_refl _, fun _ _ _ => rfl⟩
theorem Kp.trans {S : Nat → Prop} {a b c : World} (h : Kp S a b) (k : Kp S b c) : Kp S a c :=
  ⟨k.os.trans h.os, k.tape.trans h.tape, k.output.trans h.output, Nat.le_trans h.size k.size, fun j hj hS => (k.block j (Nat.lt_of_lt_of_le hj h.size) hS).trans (h.block j hj hS)⟩
/-- One step behind others: what the step turns is among S, or was not there at first. -/
theorem Kp.step {S T : Nat → Prop} {a b c : World} (h : Kp S a b) (k : Kp T b c) (hT : ∀ j, j < a.heap.size → T j → S j) : Kp S a c :=
  ⟨k.os.trans h.os, k.tape.trans h.tape, k.output.trans h.output, Nat.le_trans h.size k.size, fun j hj hS => (k.block j (Nat.lt_of_lt_of_le hj h.size) (fun ht => hS (hT j hj ht))).trans (h.block j hj hS)⟩
theorem Kp.of_below {S : Nat → Prop} {w w' : World} (h : Below w.heap.size w w') : Kp S w w' := ⟨h.os, h.tape, h.output, h.size, fun k hk _ => h.block k hk⟩
theorem Kp.of_grown {w w' : World} {row : Option Nat} (h : w.grownBy w' row) : Kp (fun k => some k = row) w w' := ⟨h.os, h.tape, h.output, h.size, fun k hk hS => h.block k hk hS⟩
theorem Kp.set (w : World) (g k : Nat) (v : Value) : Kp (fun j => j = g) w (w.setCell ⟨g, k, none⟩ v) :=
  ⟨rfl, rfl, rfl, by show _ ≤ (w.heap.modify g _).size; rw [Array.size_modify]; exact Nat.le_refl _, fun j hj hS => Below.heap_setCell w ⟨g, k, none⟩ v j hS⟩
theorem Kp.alloc {S : Nat → Prop} {a b : World} (h : Kp S a b) (o : Obj) : Kp S a (b.alloc o) := h.step (T := S) (Kp.of_below ((Below.refl _ _).alloc (Nat.le_refl _) _)) (fun _ _ h => h)
theorem Kp.same {S : Nat → Prop} {w W W' : World} (h : Kp S w W) (h1 : W'.heap = W.heap) (h2 : W'.os = W.os) (h3 : W'.tape = W.tape) (h4 : W'.output = W.output) : Kp S w W' :=
  ⟨h2.trans h.os, h3.trans h.tape, h4.trans h.output, by rw [h1]; exact h.size, by rw [h1]; exact h.block⟩
theorem Kp.fr {S : Nat → Prop} {i : Nat} {own own' : Nat → Nat} {w w' : World} (h : Kp S w w') (hS : ∀ k, k < w.heap.size → S k → own k = i) (ho : ∀ k, k < w.heap.size → own' k = own k) : Fr i own own' w w' :=
  ⟨h.os, h.tape, h.output, h.size, fun k hk hi => h.block k hk (fun hs => hi (hS k hk hs)), ho⟩
theorem Kp.blk {S : Nat → Prop} {w w' : World} (h : Kp S w w') {g : Nat} {o : Obj} (hg : w.heap[g]? = some o) (hS : ¬ S g) : w'.heap[g]? = some o := (h.block g (blk_lt hg) hS).trans hg
theorem Kp.row {S : Nat → Prop} {w w' : World} (h : Kp S w w') {e sz n : Nat} {v : Value} {xs : List Value} (hr : w.ownsRow 0 e sz v n xs) (hS : ∀ k, v.ownBlock = some k → ¬ S k) : w'.ownsRow 0 e sz v n xs := by
  refine ⟨hr.1, ?_⟩
  rcases hr.2 with h1 | ⟨g, cap, cur, rfl, h2, h3, h4⟩
  · exact .inl h1
  · exact .inr ⟨g, cap, cur, rfl, h2, h.blk h3 (hS g rfl), h4⟩
theorem Kp.tab {S : Nat → Prop} {w w' : World} (h : Kp S w w') (hT : Tab w) (hS : ¬ S 0) : Tab w' := by
  intro i hi
  obtain ⟨h0, h1, h2⟩ := hT i hi
  have hz := World.block_lt_of_cell? w _ h0
  have hb := h.block 0 hz hS
  exact ⟨(World.cell?_of_block hb).trans h0, (World.cell?_of_block hb).trans h1, (World.cell?_of_block hb).trans h2⟩
theorem Fr.tab {i : Nat} {own own' : Nat → Nat} {w w' : World} (h : Fr i own own' w w') (hT : Tab w) (h0 : own 0 ≠ i) : Tab w' := by
  intro j hj
  obtain ⟨a0, a1, a2⟩ := hT j hj
  exact ⟨h.cell a0 h0, h.cell a1 h0, h.cell a2 h0⟩
/-- A row's block is no block of another type. -/
theorem row_ne {w : World} {e sz n g : Nat} {v : Value} {xs : List Value} {cs : Array Value} {T : TypeId} {f : Nat × Nat} (hr : w.ownsRow 0 e sz v n xs) (hg : w.heap[g]? = some (.cells cs T f)) (hT : T ≠ e) : v.ownBlock ≠ some g := by
  intro h
  rcases hr.2 with ⟨rfl, _⟩ | ⟨b, cap, cur, rfl, _, h3, _⟩
  · cases h
  · simp only [Value.ownBlock, Option.some.injEq] at h
    subst h
    rw [hg] at h3
    injection h3 with h4
    injection h4 with _ h5
    exact hT h5
theorem row_shape {w : World} {e sz n : Nat} {v : Value} {xs : List Value} (hr : w.ownsRow 0 e sz v n xs) : ∃ p cap, v = .slice p n cap ∧ n ≤ cap ∧ cap ≤ maxLen := by
  rcases hr.2 with ⟨rfl, rfl⟩ | ⟨b, cap, cur, rfl, _, h3, h4, h5, _⟩
  · exact ⟨none, 0, rfl, Nat.le_refl _, Nat.zero_le _⟩
  · exact ⟨_, cap, rfl, h4, h5⟩
theorem row_below {w w' : World} {e sz n : Nat} {v : Value} {xs : List Value} (hr : w.ownsRow 0 e sz v n xs) (hb : Below w.heap.size w w') : w'.ownsRow 0 e sz v n xs :=
  (Kp.of_below (S := fun _ => False) hb).row hr (fun _ _ h => h)

/-! What was written: a text, and the blanks that stand ahead of its bytes. -/
def weave : Nat → List (Nat × Nat) → List UInt8 → List UInt8
  | f, [], t => t.drop f
  | f, (a, n) :: r, t => (t.drop f).take (a - f) ++ (List.replicate n 32 ++ weave a r t)
def Ups : Nat → List (Nat × Nat) → Nat → Prop
  | f, [], m => f ≤ m
  | f, (a, _) :: r, m => f ≤ a ∧ Ups a r m
def sums : List (Nat × Nat) → Nat
  | [] => 0
  | (_, n) :: r => n + sums r

theorem Ups.le {f : Nat} {gs : List (Nat × Nat)} {m : Nat} (h : Ups f gs m) : f ≤ m := by
  induction gs generalizing f with
  | nil => exact h
  | cons x r ih => obtain ⟨a, n⟩ := x; exact Nat.le_trans h.1 (ih h.2)
theorem Ups.more {f : Nat} {gs : List (Nat × Nat)} {m m' : Nat} (h : Ups f gs m) (hm : m ≤ m') : Ups f gs m' := by
  induction gs generalizing f with
  | nil => exact Nat.le_trans h hm
  | cons x r ih => obtain ⟨a, n⟩ := x; exact ⟨h.1, ih h.2⟩
theorem Ups.snoc {f : Nat} {gs : List (Nat × Nat)} {m : Nat} (n : Nat) (h : Ups f gs m) : Ups f (gs ++ [(m, n)]) m := by
  induction gs generalizing f with
  | nil => exact ⟨h, Nat.le_refl _⟩
  | cons x r ih => obtain ⟨a, n⟩ := x; exact ⟨h.1, ih h.2⟩
theorem weave_app {f : Nat} {gs : List (Nat × Nat)} {t : List UInt8} (s : List UInt8) (h : Ups f gs t.length) : weave f gs (t ++ s) = weave f gs t ++ s := by
  induction gs generalizing f with
  | nil => simp only [weave]; exact List.drop_append_of_le_length h
  | cons x r ih =>
    obtain ⟨a, n⟩ := x
    have ha := h.2.le
    simp only [weave]
    rw [ih h.2, List.drop_append_of_le_length (Nat.le_trans h.1 ha), List.take_append_of_le_length (by rw [List.length_drop]; have := h.1; omega)]
    simp [List.append_assoc]
theorem weave_gap {f : Nat} {gs : List (Nat × Nat)} {t : List UInt8} (n : Nat) (h : Ups f gs t.length) : weave f (gs ++ [(t.length, n)]) t = weave f gs t ++ List.replicate n 32 := by
  induction gs generalizing f with
  | nil => simp only [weave, List.nil_append]; rw [List.take_of_length_le (by simp), List.drop_length]; simp
  | cons x r ih =>
    obtain ⟨a, k⟩ := x
    simp only [weave, List.cons_append]
    rw [ih h.2]
    simp [List.append_assoc]
theorem weave_len {f : Nat} {gs : List (Nat × Nat)} {t : List UInt8} (h : Ups f gs t.length) : (weave f gs t).length = t.length - f + sums gs := by
  induction gs generalizing f with
  | nil => simp [weave, sums]
  | cons x r ih =>
    obtain ⟨a, k⟩ := x
    have ha := h.2.le
    have h1 := h.1
    simp only [weave, sums, List.length_append, List.length_replicate, List.length_take, List.length_drop, ih h.2]
    omega
theorem sums_app (a : List (Nat × Nat)) (x n : Nat) : sums (a ++ [(x, n)]) = sums a + n := by
  induction a with
  | nil => simp [sums]
  | cons y r ih => obtain ⟨b, k⟩ := y; simp only [List.cons_append, sums, ih]; omega
end Go.Proofs.YtcokccfbeonlnaaDoor
set_option linter.unusedVariables false
set_option linter.unusedSimpArgs false
namespace Go.Proofs.YtcokccfbeonlnaaDoor
open Go.RowKit
open Go.Lib (strCells strCells_length)

theorem Tryd.info5 : (Tryd.prog.info? 5).map (fun i => (i.zero, i.size, i.bytes)) = some (some (.int .u8 0), 1, 1) := by kernel_rfl
theorem Tryd.info89 : (Tryd.prog.info? 89).map (fun i => (i.zero, i.size, i.bytes)) = some (some (.agg #[.int .i64 0, .int .i64 0]), 2, 16) := by kernel_rfl

def eg (x : Nat × Nat) : List Value := [.int .i64 x.1, .int .i64 x.2]
theorem eg_len (x : Nat × Nat) : (eg x).length = 2 := rfl

/-- The closure that gathers a text. -/
theorem cl_text (c : Nat) (v : Value) (n : Nat) (xs : List Value) (t : ByteArray) (w : World) (hc : w.heap[c]? = some (.cells #[v] 32 (0, 0))) (ho : w.ownsRow 0 5 1 v n xs) (hn : n + t.size ≤ 70368744177664) :
    Calls Tryd.prog 77 #[.string t, .pointer (some ⟨c, 0, none⟩)] w fun e w' => e = .returned (.tuple #[]) ∧ ∃ v', w'.heap[c]? = some (.cells #[v'] 32 (0, 0)) ∧ w'.ownsRow 0 5 1 v' (n + t.size) (xs ++ strCells t) ∧ (v'.ownBlock = v.ownBlock ∨ v'.ownBlock = some w.heap.size) ∧ Kp (fun k => k = c ∨ some k = v.ownBlock) w w' := by
  obtain ⟨i0, hi, hz0, hz1, hz2⟩ := info_parts Tryd.info5
  have hne := row_ne ho hc (by decide)
  have hcl := blk_lt hc
  have c0 : w.cell? ⟨c, 0, none⟩ = some v := blk_cell hc rfl
  obtain ⟨p, cap, rfl, _, _⟩ := row_shape ho
  go_enter Tryd.func77, Tryd.ntmps77
  go_wp2_with (first | (at_builtin; refine wpList_append_string_at (P := Tryd.prog) (w := w) rfl _ _ 32 9 rfl 0 5 i0 Tryd.underlying32 Tryd.underlying9 hi hz0 hz1 hz2 _ _ _ rfl ho t rfl ?c3 ?c4 ?c5 ?_))
  case c3 => unfold maxLen; omega
  case c4 => omega
  case c5 => omega
  intro v2 w2 ho2 hg2 hat
  have hk := Kp.of_grown hg2
  have hc2 : w2.heap[c]? = some (.cells #[.slice p n cap] 32 (0, 0)) := hk.blk hc (fun h => hne h.symm)
  have d0 : w2.cell? ⟨c, 0, none⟩ = some (.slice p n cap) := blk_cell hc2 rfl
  have f0 : w2.frozen? ⟨c, 0, none⟩ = false := blk_frozen hc2
  have hne2 := row_ne ho2 hc2 (by decide)
  obtain ⟨p2, cap2, rfl, _, _⟩ := row_shape ho2
  have HE : Hid ((w2.setCell ⟨c, 0, none⟩ (.slice p2 (n + t.size) cap2)).heap[c]? = some (.cells #[.slice p2 (n + t.size) cap2] 32 (0, 0)) ∧ (w2.setCell ⟨c, 0, none⟩ (.slice p2 (n + t.size) cap2)).ownsRow 0 5 1 (.slice p2 (n + t.size) cap2) (n + t.size) (xs ++ strCells t) ∧ ((Value.slice p2 (n + t.size) cap2).ownBlock = (Value.slice p n cap).ownBlock ∨ (Value.slice p2 (n + t.size) cap2).ownBlock = some w.heap.size) ∧ Kp (fun k => k = c ∨ some k = (Value.slice p n cap).ownBlock) w (w2.setCell ⟨c, 0, none⟩ (.slice p2 (n + t.size) cap2))) := by
    refine ⟨blk_set hc2 0 _, (Kp.set w2 c 0 _).row ho2 (fun k h1 h2 => hne2 (by rw [h1, h2])), hat, ?_⟩
    exact (Kp.step (S := fun k => k = c ∨ some k = (Value.slice p n cap).ownBlock) (Kp.refl _ _) hk (fun j _ h => .inr h)).step (Kp.set w2 c 0 _) (fun j _ h => .inl h)
  clear hk hg2 ho2 hat hne hne2 hc2
  go_wp2_with fail
  go_end0
  exact ⟨rfl, _, HE.out⟩

/-- The closure that gathers blanks. -/
theorem cl_none (m : Int) (d c : Nat) (w : World) (hm : m ≤ 0) :
    Calls Tryd.prog 76 #[.int .i64 m, .pointer (some ⟨d, 0, none⟩), .pointer (some ⟨c, 0, none⟩)] w fun e w' => e = .returned (.tuple #[]) ∧ w' = w := by
  have q : decide (0 < m) = false := by simp; omega
  go_enter Tryd.func76, Tryd.ntmps76
  go_wp2_with fail
  go_end0
  exact ⟨rfl, rfl⟩

theorem two_new (W : World) (a b : Value) (t n : Nat) (h : n = W.heap.size) : ∀ j u, [a, b][j]? = some u → (W.alloc (.cells #[a, b] t)).cell? ((⟨n, 0, none⟩ : Addr).add j) = some u := by
  subst h
  intro j u hj
  match j, hj with
  | 0, hj => simp at hj; subst hj; simp [Addr.add]
  | 1, hj => simp at hj; subst hj; simp [Addr.add]

theorem cl_blanks (m : Nat) (d c : Nat) (v : Value) (tv : Value) (n l : Nat) (xs : List Value) (w : World) (hc : w.heap[c]? = some (.cells #[tv] 32 (0, 0))) (htv : ∃ p cap, tv = .slice p l cap) (hd : w.heap[d]? = some (.cells #[v] 76 (0, 0))) (ho : w.ownsRow 0 89 2 v n xs) (hn : n ≤ 1073741824) (hm : 0 < m) (hm2 : m ≤ 9223372036854775807) (hl : l ≤ 9223372036854775807) :
    Calls Tryd.prog 76 #[.int .i64 m, .pointer (some ⟨d, 0, none⟩), .pointer (some ⟨c, 0, none⟩)] w fun e w' => e = .returned (.tuple #[]) ∧ ∃ v', w'.heap[d]? = some (.cells #[v'] 76 (0, 0)) ∧ w'.ownsRow 0 89 2 v' (n + 1) (xs ++ eg (l, m)) ∧ (v'.ownBlock = v.ownBlock ∨ ∃ b, w.heap.size ≤ b ∧ v'.ownBlock = some b) ∧ Kp (fun k => k = d ∨ some k = v.ownBlock) w w' := by
  obtain ⟨i0, hi, hz0, hz1, hz2⟩ := info_parts Tryd.info89
  have q : decide (0 < (m : Int)) = true := by simp; omega
  have hne := row_ne ho hd (by decide)
  have hdl := blk_lt hd
  have c0 : w.cell? ⟨c, 0, none⟩ = some tv := blk_cell hc rfl
  have d0 : w.cell? ⟨d, 0, none⟩ = some v := blk_cell hd rfl
  have hcl := blk_lt hc
  obtain ⟨tp, tcap, rfl⟩ := htv
  obtain ⟨p, cap, rfl, _, _⟩ := row_shape ho
  go_enter Tryd.func76, Tryd.ntmps76
  go_wp2_with (first | (at_builtin; refine wpList_append_own_at (P := Tryd.prog) (w := w.alloc (.cells #[.int .i64 l, .int .i64 m] 89)) rfl _ _ 76 rfl 0 89 i0 (.agg #[.int .i64 0, .int .i64 0]) 2 16 Tryd.underlying76 hi hz0 hz1 hz2 rfl (by decide) _ _ _ rfl (row_below ho ((Below.refl _ _).alloc (Nat.le_refl _) _)) ⟨w.heap.size, 0, none⟩ 1 1 (eg (l, m)) rfl rfl ?c1 ?c2 ?c3 ?c4 ?c5 ?_))
  case c1 => exact two_new _ _ _ _ _ rfl
  case c2 => intro u hu; simp [eg] at hu; rcases hu with rfl | rfl <;> rfl
  case c3 => unfold maxLen; omega
  case c4 => omega
  case c5 => omega
  intro v2 w2 ho2 hg2 _ hat
  have hk := Kp.step (S := fun k => k = d ∨ some k = (Value.slice p n cap).ownBlock) ((Kp.refl _ _).alloc (.cells #[.int .i64 l, .int .i64 m] 89)) (Kp.of_grown hg2) (fun j _ h => .inr h)
  have hk' := Kp.step (S := fun k => some k = (Value.slice p n cap).ownBlock) ((Kp.refl _ _).alloc (.cells #[.int .i64 l, .int .i64 m] 89)) (Kp.of_grown hg2) (fun j _ h => h)
  have hd2 : w2.heap[d]? = some (.cells #[.slice p n cap] 76 (0, 0)) := hk'.blk hd (fun h => hne h.symm)
  have e0 : w2.cell? ⟨d, 0, none⟩ = some (.slice p n cap) := blk_cell hd2 rfl
  have f0 : w2.frozen? ⟨d, 0, none⟩ = false := blk_frozen hd2
  have hne2 := row_ne ho2 hd2 (by decide)
  obtain ⟨p2, cap2, rfl, _, _⟩ := row_shape ho2
  have HE : Hid ((w2.setCell ⟨d, 0, none⟩ (.slice p2 (n + 1) cap2)).heap[d]? = some (.cells #[.slice p2 (n + 1) cap2] 76 (0, 0)) ∧ (w2.setCell ⟨d, 0, none⟩ (.slice p2 (n + 1) cap2)).ownsRow 0 89 2 (.slice p2 (n + 1) cap2) (n + 1) (xs ++ eg (l, m)) ∧ ((Value.slice p2 (n + 1) cap2).ownBlock = (Value.slice p n cap).ownBlock ∨ ∃ b, w.heap.size ≤ b ∧ (Value.slice p2 (n + 1) cap2).ownBlock = some b) ∧ Kp (fun k => k = d ∨ some k = (Value.slice p n cap).ownBlock) w (w2.setCell ⟨d, 0, none⟩ (.slice p2 (n + 1) cap2))) := by
    refine ⟨blk_set hd2 0 _, (Kp.set w2 d 0 _).row ho2 (fun k h1 h2 => hne2 (by rw [h1, h2])), ?_, ?_⟩
    · rcases hat with h | h
      · exact .inl h
      · exact .inr ⟨_, by have := World.size_alloc w (.cells #[.int .i64 l, .int .i64 m] 89); omega, h⟩
    · exact hk.step (Kp.set w2 d 0 _) (fun j _ h => .inl h)
  clear hk hk' hg2 ho2 hat hne hne2 hd2
  go_wp2_with fail
  go_end0
  exact ⟨rfl, _, HE.out⟩
end Go.Proofs.YtcokccfbeonlnaaDoor
set_option linter.unusedVariables false
set_option linter.unusedSimpArgs false
namespace Go.Proofs.YtcokccfbeonlnaaDoor
open Go.RowKit
open Go.Lib (strCells strCells_length)

/-- The sink's block. -/
def sk (b : Bool) (col wait : Int) (tv gv : Value) : Array Value := #[.bool b, .int .i64 col, .int .i64 wait, tv, gv]

theorem alloc_at (w : World) (o : Obj) (g : Nat) (x : Obj) (h : w.heap[g]? = some x) : (w.alloc o).heap[g]? = some x := (((Below.refl _ w).alloc (Nat.le_refl _) o).block g (blk_lt h)).trans h
theorem cell_a1 {w : World} {a : Addr} {v : Value} (h : w.cell? a = some v) : ∀ o, (w.alloc o).cell? a = some v := fun o => (((Below.refl _ w).alloc (Nat.le_refl _) o).cell (World.block_lt_of_cell? w a h)).trans h
theorem cell_a2 {w : World} {a : Addr} {v : Value} (h : w.cell? a = some v) : ∀ o p, ((w.alloc o).alloc p).cell? a = some v := fun o p => cell_a1 (cell_a1 h o) p
theorem cell_a3 {w : World} {a : Addr} {v : Value} (h : w.cell? a = some v) : ∀ o p q, (((w.alloc o).alloc p).alloc q).cell? a = some v := fun o p q => cell_a1 (cell_a2 h o p) q

set_option maxHeartbeats 1000000 in
theorem cl_end (u : FrameMode) (b b' : Bool) (col wait col' wait' : Int) (c d h g : Nat) (tv gv tv' gv' : Value) (w : World)
    (hg : w.heap[g]? = some (.cells (sk b col wait tv gv) 78 (0, 0))) (hc : w.heap[c]? = some (.cells #[tv'] 32 (0, 0))) (hd : w.heap[d]? = some (.cells #[gv'] 76 (0, 0))) (hh : w.heap[h]? = some (.cells #[.pointer (some ⟨g, 0, none⟩)] 49 (0, 0)))
    (htv : ∃ p n cap, tv = .slice p n cap) (hgv : ∃ p n cap, gv = .slice p n cap) (htv' : ∃ p n cap, tv' = .slice p n cap) (hgv' : ∃ p n cap, gv' = .slice p n cap) :
    CallsD Tryd.prog 78 #[.agg #[.bool b', .int .i64 col', .int .i64 wait'], .pointer (some ⟨c, 0, none⟩), .pointer (some ⟨d, 0, none⟩), .pointer (some ⟨h, 0, none⟩)] u w fun e u' w' => u' = u ∧ (e = .returned (.tuple #[]) ∧ w'.heap[g]? = some (.cells (sk b' col' wait' tv' gv') 78 (0, 0)) ∧ Kp (fun k => k = g) w w') := by
  have gl := blk_lt hg
  have cl := blk_lt hc
  have dl := blk_lt hd
  have hl := blk_lt hh
  have g0 : w.cell? ⟨g, 0, none⟩ = some (.bool b) := blk_cell hg rfl
  have g1 : w.cell? ⟨g, 1, none⟩ = some (.int .i64 col) := blk_cell hg rfl
  have g2 : w.cell? ⟨g, 2, none⟩ = some (.int .i64 wait) := blk_cell hg rfl
  have g3 : w.cell? ⟨g, 3, none⟩ = some tv := blk_cell hg rfl
  have g4 : w.cell? ⟨g, 4, none⟩ = some gv := blk_cell hg rfl
  have f0 : w.frozen? ⟨g, 0, none⟩ = false := blk_frozen hg
  have f1 : w.frozen? ⟨g, 1, none⟩ = false := blk_frozen hg
  have f2 : w.frozen? ⟨g, 2, none⟩ = false := blk_frozen hg
  have f3 : w.frozen? ⟨g, 3, none⟩ = false := blk_frozen hg
  have f4 : w.frozen? ⟨g, 4, none⟩ = false := blk_frozen hg
  have c0 : w.cell? ⟨c, 0, none⟩ = some tv' := blk_cell hc rfl
  have d0 : w.cell? ⟨d, 0, none⟩ = some gv' := blk_cell hd rfl
  have h0 : w.cell? ⟨h, 0, none⟩ = some (.pointer (some ⟨g, 0, none⟩)) := blk_cell hh rfl
  obtain ⟨p1, n1, k1, rfl⟩ := htv
  obtain ⟨p2, n2, k2, rfl⟩ := hgv
  obtain ⟨p3, n3, k3, rfl⟩ := htv'
  obtain ⟨p4, n4, k4, rfl⟩ := hgv'
  go_enter_d Tryd.func78, Tryd.ntmps78
  go_wp2_with fail
  go_region
  go_wp2_with fail
  go_end0
  refine ⟨rfl, ?_, ?_⟩
  · refine (alloc_at _ _ _ _ ?_)
    exact blk_set (blk_set (blk_set (blk_set (blk_set hg 3 _) 4 _) 0 _) 1 _) 2 _
  · refine Kp.same (W := (((((w.setCell ⟨g, 3, none⟩ (.slice p3 n3 k3)).setCell ⟨g, 4, none⟩ (.slice p4 n4 k4)).setCell ⟨g, 0, none⟩ (.bool b')).setCell ⟨g, 1, none⟩ (.int .i64 col')).setCell ⟨g, 2, none⟩ (.int .i64 wait')).alloc (.cells #[.bool b', .int .i64 col', .int .i64 wait'] 75)) ?_ rfl rfl rfl rfl
    refine Kp.alloc ?_ _
    exact (((((Kp.refl _ w).trans (Kp.set _ _ _ _)).trans (Kp.set _ _ _ _)).trans (Kp.set _ _ _ _)).trans (Kp.set _ _ _ _)).trans (Kp.set _ _ _ _)

end Go.Proofs.YtcokccfbeonlnaaDoor
