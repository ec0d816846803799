import Derived.Test.YtgjbkdnefbnclaaXa
import Derived.ArgAppend
import Derived.OneCell
set_option linter.unusedVariables false
set_option linter.unusedSimpArgs false
namespace Go.Proofs.Ytgjbkdnefbnclaa
open Go.RowKit

theorem Try.info24 : (Try.prog.info? 24).map (fun i => (i.zero, i.size, i.bytes)) = some (some (.slice none 0 0), 1, 24) := by kernel_rfl

/-- A list that came out: its block and its length. -/
def tv (x : Nat × Nat) : Value := .slice (some ⟨x.1, 0, none⟩) x.2 x.2
/-- All blocks of such lists, with what they hold. -/
def TB (G : List (Nat × Nat)) (w : World) (f : Nat → List Value) : Prop := ∀ (i : Nat) (x : Nat × Nat), G[i]? = some x → w.heap[x.1]? = some (.cells (f i).toArray 3 (0, 0)) ∧ (f i).length = x.2
def Dist (G : List (Nat × Nat)) : Prop := ∀ (i j : Nat) (x y : Nat × Nat), G[i]? = some x → G[j]? = some y → i ≠ j → x.1 ≠ y.1

def rep (n : Nat) (z : Int) : List Value := List.replicate n (.int .i64 z)

theorem rep_len (n : Nat) (z : Int) : (rep n z).length = n := by unfold rep; simp

theorem TB.set {G : List (Nat × Nat)} {w : World} {f : Nat → List Value} (h : TB G w f) (hd : Dist G) (i : Nat) (x : Nat × Nat) (hx : G[i]? = some x) (j : Nat) (u : Value) :
    TB G (w.setCell ⟨x.1, j, none⟩ u) (fun k => if k = i then (f i).set j u else f k) := by
  intro k y hy
  by_cases hk : k = i
  · subst hk
    rw [hx] at hy
    cases hy
    have := h k x hx
    dsimp only
    rw [if_pos rfl]
    exact ⟨blk_set this.1, by rw [List.length_set]; exact this.2⟩
  · have := h k y hy
    dsimp only
    rw [if_neg hk]
    refine ⟨?_, this.2⟩
    rw [Below.heap_setCell _ _ _ _ (hd k i y x hy hx hk)]
    exact this.1

/-- A row of lists is no row of numbers. -/
theorem row_apart {w : World} {base g t : Nat} {v : Value} {n : Nat} {xs : List Value} {L : List Value} (h : w.ownsRow base 24 1 v n xs) (hg : w.heap[g]? = some (.cells L.toArray 3 (0, 0))) : v.ownBlock ≠ some g := by
  intro e
  rcases h.2 with ⟨rfl, _⟩ | ⟨g', cap, cur, rfl, _, hh, _⟩
  · cases e
  · have : g' = g := by simpa [Value.ownBlock] using e
    subst this
    rw [hh] at hg
    simp at hg

theorem rep_set (m : Nat) (z : Int) (M : List Value) (h : m < (rep m z ++ M).length) : (rep m z ++ M).set m (.int .i64 z) = rep (m + 1) z ++ M.tail := by
  rw [List.length_append, rep_len] at h
  cases M with
  | nil => simp at h
  | cons y M =>
    rw [List.set_append_right _ _ (by rw [rep_len]; omega), rep_len, Nat.sub_self, List.set_cons_zero, List.tail_cons]
    unfold rep
    rw [List.replicate_succ', List.append_assoc]; rfl

/-- The grown lists. -/
def LX (G : List (Nat × Nat)) (C : Nat) (w : World) (X : List Value) : Prop :=
  ∀ (j : Nat) (u : Value) (x : Nat × Nat), X[j]? = some u → G[j]? = some x → w.ownsRow C 3 1 u (x.2 + 40) (rep x.2 (1000 + (j : Int)) ++ rep 40 (5000 + (j : Int)))

theorem own_mono {w : World} {b b' e n : Nat} {v : Value} {xs : List Value} (h : w.ownsRow b e 1 v n xs) (hb : b' ≤ b) : w.ownsRow b' e 1 v n xs := by
  obtain ⟨h1, h2⟩ := h
  refine ⟨h1, ?_⟩
  rcases h2 with h2 | ⟨g, cap, cur, a, b, c, d⟩
  · exact .inl h2
  · exact .inr ⟨g, cap, cur, a, by omega, c, d⟩

/-- A row of numbers stays where a row of lists grows. -/
theorem own_kept2 {W W' : World} {b b' n m : Nat} {u v : Value} {xs ys : List Value} (hu : W.ownsRow b 3 1 u n xs) (hv : W.ownsRow b' 24 1 v m ys) (hg : W.grownBy W' v.ownBlock) : W'.ownsRow b 3 1 u n xs := by
  refine hu.kept hg ?_
  rcases hu.2 with ⟨rfl, _⟩ | ⟨g, cap, cur, rfl, _, hh, _⟩
  · exact .inl rfl
  · right
    intro e
    rcases hv.2 with ⟨rfl, _⟩ | ⟨g', cap', cur', rfl, _, hh', _⟩
    · cases e
    · have : g = g' := by simpa [Value.ownBlock] using e
      subst this
      rw [hh] at hh'
      simp at hh'

theorem LX.snoc {G : List (Nat × Nat)} {C : Nat} {W W' : World} {X : List Value} {u v : Value} {x : Nat × Nat} {m : Nat} {ys : List Value} (h : LX G C W X) (hx : G[X.length]? = some x)
    (hu : W.ownsRow C 3 1 u (x.2 + 40) (rep x.2 (1000 + (X.length : Int)) ++ rep 40 (5000 + (X.length : Int)))) (hv : W.ownsRow C 24 1 v m ys) (hg : W.grownBy W' v.ownBlock) : LX G C W' (X ++ [u]) := by
  intro j a y ha hy
  by_cases e : j = X.length
  · subst e
    simp at ha
    subst ha
    rw [hx] at hy
    cases hy
    exact own_kept2 hu hv hg
  · by_cases hl : j < X.length
    · rw [List.getElem?_append_left hl] at ha
      exact own_kept2 (h j a y ha hy) hv hg
    · rw [List.getElem?_eq_none (by simp; omega)] at ha
      cases ha

theorem own_pos {w : World} {base e n : Nat} {v : Value} {xs : List Value} (h : w.ownsRow base e 1 v n xs) (hn : 0 < n) : ∃ g cap, v = .slice (some ⟨g, 0, none⟩) n cap := by
  rcases h.2 with ⟨_, h0⟩ | ⟨g, cap, cur, rfl, _⟩
  · omega
  · exact ⟨g, cap, rfl⟩

theorem LX.below {G : List (Nat × Nat)} {C : Nat} {W W' : World} {X : List Value} (h : LX G C W X) (hb : Below W.heap.size W W') : LX G C W' X :=
  fun j u x h1 h2 => own_below (h j u x h1 h2) hb

theorem rep_snoc (m : Nat) (z : Int) : rep m z ++ [.int .i64 z] = rep (m + 1) z := by unfold rep; rw [List.replicate_succ']

theorem rep_cells (w : World) (g n : Nat) (z : Int) (h : w.heap[g]? = some (.cells (rep n z).toArray 3 (0, 0))) : ∀ b : Addr, (some ⟨g, 0, none⟩ : Option Addr) = some b → ∀ j u, (rep n z)[j]? = some u → w.cell? (b.add j) = some u := by
  intro b hb j u hu
  cases hb
  rw [Addr.add_lit, Nat.zero_add, blk_cell h]
  exact hu

theorem heap_below {B g : Nat} {w w' : World} {o : Obj} (hb : Below w.heap.size w w') (h : w.heap[g]? = some o) : w'.heap[g]? = some o := by
  rw [hb.block g (Array.getElem?_eq_some_iff.1 h).1]; exact h

set_option maxHeartbeats 400000 in
theorem owned_nil (ao : Option Addr) (cap : Nat) (w : World) : Calls Try.prog 11 #[.slice ao 0 cap] w fun e w' => e = .returned (.bool true) ∧ w' = w := by
  go_enter Try.func11, Try.ntmps11
  go_wp2_with fail
  refine wp_loop_rounds 1 ?_
  rw [rounds_succ]
  go_wp2_with fail
  refine wp_loop_rounds 1 ?_
  rw [rounds_succ]
  go_wp2_with fail
  refine wp_loop_rounds 1 ?_
  rw [rounds_succ]
  go_wp2_with fail
  go_ret
  exact ⟨rfl, rfl⟩

set_option maxRecDepth 100000 in
set_option maxHeartbeats 2000000 in
theorem owned_some (G : List (Nat × Nat)) (gt ct B : Nat) (f : Nat → List Value) (w : World) (hn0 : 0 < G.length) (hn : G.length ≤ 2147483647) (hlen : ∀ (i : Nat) (x : Nat × Nat), G[i]? = some x → x.2 ≤ 2147483647 ∧ B ≤ x.1)
    (hd : Dist G) (ht : TB G w f) (hrow : w.ownsRow B 24 1 (.slice (some ⟨gt, 0, none⟩) G.length ct) G.length (G.map tv)) (hBw : B ≤ w.heap.size) :
    Calls Try.prog 11 #[.slice (some ⟨gt, 0, none⟩) G.length ct] w fun e w' => e = .returned (.bool true) ∧ Below B w w' := by
  have HL : Hid _ := hlen
  have HD : Hid (Dist G) := hd
  have HT : Hid (TB G w f) := ht
  have HR : Hid (w.ownsRow B 24 1 (.slice (some ⟨gt, 0, none⟩) G.length ct) G.length (G.map tv)) := hrow
  have HG : Hid (∀ i, i < G.length → ∃ x, G[i]? = some x) := fun i hi => ⟨_, List.getElem?_eq_getElem hi⟩
  clear hlen hd ht hrow
  generalize hN : G.length = N at *
  have HN : Hid (G.length = N) := hN
  clear hN
  go_enter Try.func11, Try.ntmps11
  go_wp2_with fail
  go_loopw [4] (fun i wr => ∃ (k : Nat) (f : Nat → List Value), k ≤ N ∧ i = .int .i64 k ∧ wr.ownsRow B 24 1 (.slice (some ⟨gt, 0, none⟩) N ct) N (G.map tv) ∧ TB G wr f ∧
      (∀ j x, j < k → G[j]? = some x → f j = rep x.2 (1000 + j)) ∧ Below B w wr) (fun i _ => N - (intOf i).toNat)
  case atStart => exact ⟨0, f, Nat.zero_le _, rfl, HR.out, HT.out, fun j x hj => by omega, Below.refl _ _⟩
  case round =>
    clear HR HT
    obtain ⟨k, f1, hk, rfl, hr1, ht1, hf1, hb1⟩ := hrel
    by_cases hlt : k < N
    · obtain ⟨x, hx⟩ := HG.out k hlt
      have hxl := HL.out k x hx
      have HX : Hid (G[k]? = some x) := hx
      have HR1 : Hid (wr.ownsRow B 24 1 (.slice (some ⟨gt, 0, none⟩) N ct) N (G.map tv)) := hr1
      have HT1 : Hid (TB G wr f1) := ht1
      have HF1 : Hid (∀ j x, j < k → G[j]? = some x → f1 j = rep x.2 (1000 + j)) := hf1
      clear hx hr1 ht1 hf1
      go_wp2_with fail
      go_loopw [5] (fun i wr => ∃ (m : Nat) (f : Nat → List Value) (M : List Value), m ≤ x.2 ∧ i = .int .i64 m ∧ wr.ownsRow B 24 1 (.slice (some ⟨gt, 0, none⟩) N ct) N (G.map tv) ∧ TB G wr f ∧
          (∀ j x, j < k → G[j]? = some x → f j = rep x.2 (1000 + j)) ∧ f k = rep m (1000 + k) ++ M ∧ Below B w wr) (fun i _ => x.2 - (intOf i).toNat)
      case atStart => exact ⟨0, f1, f1 k, Nat.zero_le _, rfl, HR1.out, HT1.out, HF1.out, rfl, hb1⟩
      case round =>
        clear HR1 HT1 HF1
        obtain ⟨m, f2, M, hm, rfl, hr2, ht2, hf2, hM, hb2⟩ := hrel
        have HR2 : Hid (wr.ownsRow B 24 1 (.slice (some ⟨gt, 0, none⟩) N ct) N (G.map tv)) := hr2
        have HT2 : Hid (TB G wr f2) := ht2
        have HF2 : Hid (∀ j x, j < k → G[j]? = some x → f2 j = rep x.2 (1000 + j)) := hf2
        have HM : Hid (f2 k = rep m (1000 + k) ++ M) := hM
        clear hr2 ht2 hf2 hM
        have hct : wr.cell? ⟨gt, k, none⟩ = some (.slice (some ⟨x.1, 0, none⟩) x.2 x.2) := by
          rw [HR2.out.cellAt k (by omega), List.getElem?_map, HX.out]; rfl
        have hbk := HT2.out k x HX.out
        by_cases hlm : m < x.2
        · obtain ⟨y, hy⟩ : ∃ y, (f2 k)[m]? = some y := ⟨_, List.getElem?_eq_getElem (by omega)⟩
          have q1 : wr.cell? ⟨x.1, m, none⟩ = some y := (blk_cell hbk.1).trans hy
          have q2 : wr.frozen? ⟨x.1, m, none⟩ = false := blk_free hbk.1
          have RR : Hid (f2 k = rep m (1000 + k) ++ M ∧ m < (rep m (1000 + (k : Int)) ++ M).length) := ⟨HM.out, by rw [← HM.out]; omega⟩
          have RA : Hid (Value.ownBlock (.slice (some ⟨gt, 0, none⟩) N ct) ≠ some x.1) := row_apart (t := 0) HR2.out hbk.1
          clear hy hbk
          go_wp2_with fail
          exact ⟨⟨m + 1, (fun j => if j = k then (f2 k).set m (.int .i64 (1000 + k)) else f2 j), M.tail, hlm, by go_num, ownsRow_setCell_other HR2.out RA.out _, TB.set HT2.out HD.out k x HX.out m _,
            fun j y hj hy => by dsimp only; rw [if_neg (by omega)]; exact HF2.out j y hj hy, by dsimp only; rw [if_pos rfl, RR.out.1]; exact rep_set _ _ _ RR.out.2, hb2.setCell hxl.2 _⟩, by simp [intOf]; omega⟩
        · have HE : Hid (f2 k = rep x.2 (1000 + k)) := by
            show _ = _
            have hme : m = x.2 := by omega
            have h2 := hbk.2
            rw [HM.out, List.length_append, rep_len] at h2
            have hM0 : M = [] := List.eq_nil_of_length_eq_zero (by omega)
            rw [HM.out, hM0, hme, List.append_nil]
          clear hbk
          go_wp2_with fail
          exact ⟨⟨k + 1, f2, hlt, by go_num, HR2.out, HT2.out, fun j y hj hy => by
            by_cases e : j = k
            · subst e
              have : y = x := by rw [HX.out] at hy; exact (Option.some.inj hy).symm
              rw [this]; exact HE.out
            · exact HF2.out j y (by omega) hy, hb2⟩, by simp [intOf]; omega⟩
    · have HF1 : Hid (∀ j x, G[j]? = some x → f1 j = rep x.2 (1000 + j)) := fun j x hx => hf1 j x (by
        have h1 := (List.getElem?_eq_some_iff.1 hx).1
        have h2 := HN.out
        omega) hx
      have HT1 : Hid (TB G wr f1) := ht1
      have HR1 : Hid (wr.ownsRow B 24 1 (.slice (some ⟨gt, 0, none⟩) N ct) N (G.map tv)) := hr1
      have hbz1 := hb1.size
      clear hf1 ht1 hr1
      obtain ⟨i0, hi, hz0, hz1, hz2⟩ := info_parts Try.info3
      obtain ⟨j0, hj, hy0, hy1, hy2⟩ := info_parts Try.info24
      obtain ⟨w1, e1⟩ : ∃ w1, w1 = wr := ⟨wr, rfl⟩
      subst e1
      go_wp2_with fail
      go_loopw [3, 6] (fun v i w3 => ∃ (p : Nat) (X : List Value), p ≤ N ∧ i = .int .i64 p ∧ X.length = p ∧ w3.ownsRow w1.heap.size 24 1 v p X ∧ LX G w1.heap.size w3 X ∧ Below w1.heap.size w1 w3) (fun _ i _ => N - (intOf i).toNat)
      case atStart => exact ⟨0, [], Nat.zero_le _, rfl, rfl, World.ownsRow_nil _ _ _ _, fun j u x h => by simp at h, Below.refl _ _⟩
      case round =>
        obtain ⟨w3, e3⟩ : ∃ w3, w3 = wr := ⟨wr, rfl⟩
        subst e3
        obtain ⟨p, X, hp, rfl, hXl, hv, hX, hb3⟩ := hrel
        have hbz3 := hb3.size
        by_cases hlt2 : p < N
        · obtain ⟨x, hx⟩ := HG.out p hlt2
          have hxl := HL.out p x hx
          have HX : Hid (G[p]? = some x) := hx
          have hcz : w1.cell? ⟨gt, p, none⟩ = some (.slice (some ⟨x.1, 0, none⟩) x.2 x.2) := by
            rw [HR1.out.cellAt p (by omega), List.getElem?_map, hx]; rfl
          have hct := (hb3.cell (p := ⟨gt, p, none⟩) (World.block_lt_of_cell? w1 _ hcz)).trans hcz
          have HB3 : Hid (w3.heap[x.1]? = some (.cells (rep x.2 (1000 + (p : Int))).toArray 3 (0, 0))) := by
            show _ = _
            rw [← HF1.out p x hx]
            exact heap_below (B := 0) hb3 (HT1.out p x hx).1
          have HV : Hid _ := hv
          have HXX : Hid (LX G w1.heap.size w3 X) := hX
          have HXL : Hid (X.length = p) := hXl
          clear hx hcz hv hX hXl
          go_wp2_with fail
          go_loopw [7, 8] (fun v i w4 => ∃ (m : Nat), m ≤ 40 ∧ i = .int .i64 m ∧ ((m = 0 ∧ v = .slice (some ⟨x.1, 0, none⟩) x.2 x.2) ∨ (0 < m ∧ w4.ownsRow w3.heap.size 3 1 v (x.2 + m) (rep x.2 (1000 + (p : Int)) ++ rep m (5000 + (p : Int))))) ∧
              Below w3.heap.size w3 w4) (fun _ i _ => 40 - (intOf i).toNat)
          case atStart => exact ⟨0, by omega, rfl, .inl ⟨rfl, rfl⟩, Below.refl _ _⟩
          case round =>
            obtain ⟨m, hm, rfl, hvm, hb4⟩ := hrel
            have hbz4 := hb4.size
            by_cases hlm : m < 40
            · rcases hvm with ⟨rfl, rfl⟩ | ⟨hm0, hown⟩
              · have HB4 : Hid (wr.heap[x.1]? = some (.cells (rep x.2 (1000 + (p : Int))).toArray 3 (0, 0))) := heap_below (B := 0) hb4 HB3.out
                go_wp2_with (first | (at_builtin; refine wpList_append_grows _ rfl _ _ 24 rfl 3 i0 (.int .i64 0) 1 8 Try.underlying24 hi hz0 hz1 hz2 rfl (by decide) (some ⟨x.1, 0, none⟩) x.2 x.2 (rep x.2 (1000 + (p : Int))) rfl (fun h => by cases h) ?d1 ?d2 ⟨_, 0, none⟩ 1 1 [.int .i64 (5000 + (p : Int))] rfl rfl ?d3 ?d4 ?d5 ?d6 ?d7 ?_))
                case d1 => rw [rep_len]; omega
                case d2 => exact rep_cells _ _ _ _ (by rw [Below.heap_alloc _ _ _ (Array.getElem?_eq_some_iff.1 HB4.out).1]; exact HB4.out)
                case d3 => exact one_new _ _ _ _ rfl
                case d4 => intro u hu; simp at hu; subst hu; rfl
                case d5 => omega
                case d6 => unfold maxLen; omega
                case d7 => omega
                · intro v' w5 hown5 hgrow5
                  have hb5 : Below w3.heap.size w3 w5 := (hb4.alloc hbz4 _).grown hgrow5 (by simp; omega) (fun _ h => by cases h)
                  have HO : Hid (w5.ownsRow w3.heap.size 3 1 v' (x.2 + 1) (rep x.2 (1000 + (p : Int)) ++ rep 1 (5000 + (p : Int)))) := own_mono hown5 (by omega)
                  clear hown5 hgrow5 hb4 HB4
                  go_wp2_with fail
                  exact ⟨⟨1, by omega, rfl, .inr ⟨by omega, HO.out⟩, hb5⟩, by simp [intOf]⟩
              · go_wp2_with (first | (at_builtin; refine wpList_append_own _ rfl _ _ 24 rfl w3.heap.size 3 i0 (.int .i64 0) 1 8 Try.underlying24 hi hz0 hz1 hz2 rfl (by decide) _ _ _ rfl (hown.alloc _) ⟨_, 0, none⟩ 1 1 [.int .i64 (5000 + (p : Int))] rfl rfl ?d1 ?d2 ?d3 ?d4 ?d5 ?_))
                case d1 => exact one_new _ _ _ _ rfl
                case d2 => intro u hu; simp at hu; subst hu; rfl
                case d3 => unfold maxLen; omega
                case d4 => omega
                case d5 => simp; omega
                · intro v' w5 hown5 hgrow5 _
                  have hb5 : Below w3.heap.size w3 w5 := (hb4.alloc hbz4 _).grown hgrow5 (by simp; omega) (fun j hj => (hown.lt j hj).1)
                  have HO : Hid (w5.ownsRow w3.heap.size 3 1 v' (x.2 + (m + 1)) (rep x.2 (1000 + (p : Int)) ++ rep (m + 1) (5000 + (p : Int)))) := by
                    show World.ownsRow _ _ _ _ _ _ _
                    rw [rep_snoc] at hown5
                    exact hown5
                  clear hown5 hgrow5 hb4 hown
                  go_wp2_with fail
                  exact ⟨⟨m + 1, by omega, by go_num, .inr ⟨by omega, HO.out⟩, hb5⟩, by simp [intOf]; omega⟩
            · have hme : m = 40 := by omega
              subst hme
              obtain ⟨_, hown⟩ := hvm.resolve_left (fun h => by omega)
              obtain ⟨g7, c7, rfl⟩ := own_pos hown (by omega)
              clear hvm
              have hvw := own_below HV.out hb4
              go_wp2_with (first | (at_builtin; refine wpList_append_own _ rfl _ _ 27 rfl w1.heap.size 24 j0 (.slice none 0 0) 1 24 Try.underlying27 hj hy0 hy1 hy2 rfl (by decide) _ _ _ rfl (hvw.alloc _) ⟨_, 0, none⟩ 1 1 [.slice (some ⟨g7, 0, none⟩) (x.2 + 40) c7] rfl rfl ?d1 ?d2 ?d3 ?d4 ?d5 ?_))
              case d1 => exact one_new _ _ _ _ rfl
              case d2 => intro u hu; simp at hu; subst hu; rfl
              case d3 => unfold maxLen; omega
              case d4 => omega
              case d5 => simp; omega
              · intro v' w5 hown5 hgrow5 _
                have hb5 : Below w1.heap.size w1 w5 := ((hb3.trans (hb4.mono hbz3)).alloc (by omega) _).grown hgrow5 (by simp; omega) (fun j hj => (hvw.lt j hj).1)
                have HL5 : Hid (LX G w1.heap.size w5 (X ++ [.slice (some ⟨g7, 0, none⟩) (x.2 + 40) c7])) := by
                  refine LX.snoc ((HXX.out.below hb4).below ((Below.refl _ _).alloc (Nat.le_refl _) _)) (x := x) (by rw [HXL.out]; exact HX.out) ?_ (hvw.alloc _) hgrow5
                  rw [HXL.out]
                  exact own_mono (hown.alloc _) (by omega)
                have HO5 : Hid (w5.ownsRow w1.heap.size 24 1 v' (p + 1) (X ++ [.slice (some ⟨g7, 0, none⟩) (x.2 + 40) c7])) := hown5
                clear hown5 hgrow5 hb4 hown hvw hb3
                go_wp2_with fail
                exact ⟨⟨p + 1, X ++ [.slice (some ⟨g7, 0, none⟩) (x.2 + 40) c7], hlt2, by go_num, by rw [List.length_append, HXL.out]; rfl, HO5.out, HL5.out, hb5⟩, by simp [intOf]; omega⟩
        · have hpe : p = N := by omega
          subst hpe
          obtain ⟨gl, cl, rfl⟩ := own_pos hv hn0
          have HV : Hid (w3.ownsRow w1.heap.size 24 1 (.slice (some ⟨gl, 0, none⟩) p cl) p X) := hv
          have HXX : Hid (LX G w1.heap.size w3 X) := hX
          have HXL : Hid (X.length = p) := hXl
          have hBw3 : Below B w w3 := hb1.trans (hb3.mono (by omega))
          have HR3 : Hid (w3.ownsRow B 24 1 (.slice (some ⟨gt, 0, none⟩) p ct) p (G.map tv)) := own_below HR1.out hb3
          have HB3 : Hid (∀ (i : Nat) (x : Nat × Nat), G[i]? = some x → w3.heap[x.1]? = some (.cells (rep x.2 (1000 + (i : Int))).toArray 3 (0, 0))) := by
            intro i x hx
            rw [← HF1.out i x hx]
            exact heap_below (B := 0) hb3 (HT1.out i x hx).1
          clear hv hX hXl hb3 HR1 HT1 HF1 hb1 hlt hk hbz3 hbz1
          go_wp2_with fail
          go_loopw [9] (fun i w4 => ∃ (q : Nat), q ≤ p ∧ i = .int .i64 q ∧ w4 = w3) (fun i _ => p - (intOf i).toNat)
          case atStart => exact ⟨0, Nat.zero_le _, rfl, rfl⟩
          case round =>
            obtain ⟨q, hq, rfl, rfl⟩ := hrel
            by_cases hltq : q < p
            · obtain ⟨x, hx⟩ := HG.out q hltq
              have hxl := HL.out q x hx
              obtain ⟨u, hu⟩ : ∃ u, X[q]? = some u := ⟨_, List.getElem?_eq_getElem (by have := HXL.out; omega)⟩
              have hou := HXX.out q u x hu hx
              obtain ⟨gu, cu, rfl⟩ := own_pos hou (by omega)
              have k1 : wr.cell? ⟨gt, q, none⟩ = some (.slice (some ⟨x.1, 0, none⟩) x.2 x.2) := by
                rw [HR3.out.cellAt q (by omega), List.getElem?_map, hx]; rfl
              have k2 : wr.cell? ⟨gl, q, none⟩ = some (.slice (some ⟨gu, 0, none⟩) (x.2 + 40) cu) := by
                rw [HV.out.cellAt q (by omega)]; exact hu
              have K3 : Hid (∀ m, m < x.2 → wr.cell? ⟨x.1, m, none⟩ = some (.int .i64 (1000 + (q : Int)))) := by
                intro m hm
                rw [blk_cell (HB3.out q x hx)]
                unfold rep
                rw [List.getElem?_replicate, if_pos hm]
              have K4 : Hid (∀ m, m < x.2 → wr.cell? ⟨gu, m, none⟩ = some (.int .i64 (1000 + (q : Int)))) := by
                intro m hm
                rw [hou.cellAt m (by omega), List.getElem?_append_left (by rw [rep_len]; exact hm)]
                unfold rep
                rw [List.getElem?_replicate, if_pos hm]
              have K5 : Hid (∀ m, x.2 ≤ m → m < x.2 + 40 → wr.cell? ⟨gu, m, none⟩ = some (.int .i64 (5000 + (q : Int)))) := by
                intro m hm hm2
                rw [hou.cellAt m (by omega), List.getElem?_append_right (by rw [rep_len]; exact hm), rep_len]
                unfold rep
                rw [List.getElem?_replicate, if_pos (by omega)]
              clear hx hu hou
              have e1 : ((1000 + (q : Int)) != (1000 + (q : Int))) = false := by simp
              have e2 : ((5000 + (q : Int)) != (5000 + (q : Int))) = false := by simp
              obtain ⟨w4, e4⟩ : ∃ w4, w4 = wr := ⟨wr, rfl⟩
              subst e4
              go_wp2_with fail
              go_loopw [10] (fun i w5 => ∃ (m : Nat), m ≤ x.2 + 40 ∧ i = .int .i64 m ∧ w5 = w4) (fun i _ => x.2 + 40 - (intOf i).toNat)
              case atStart => exact ⟨0, Nat.zero_le _, rfl, rfl⟩
              case round =>
                obtain ⟨m, hm, rfl, rfl⟩ := hrel
                by_cases hm1 : m < x.2
                · have q1 := K3.out m hm1
                  have q2 := K4.out m hm1
                  go_wp2_with fail
                  exact ⟨⟨m + 1, by omega, by go_num, trivial⟩, by simp [intOf]; omega⟩
                · by_cases hm2 : m < x.2 + 40
                  · have q2 := K5.out m (by omega) hm2
                    go_wp2_with fail
                    exact ⟨⟨m + 1, by omega, by go_num, trivial⟩, by simp [intOf]; omega⟩
                  · go_wp2_with fail
                    exact ⟨⟨q + 1, by omega, by go_num, trivial⟩, by simp [intOf]; omega⟩
            · go_wp2_with fail
              go_ret
              exact ⟨rfl, hBw3⟩
end Go.Proofs.Ytgjbkdnefbnclaa
