import Derived.Test.YtjibpdncginkdaaNx
set_option linter.unusedVariables false
set_option linter.unusedSimpArgs false
namespace Go.Proofs.Ytjibpdncginkdaa
open Go.RowKit

/-- One ring of numbers, made since w. -/
def Iv (w : World) (N room : Nat) (W : World) (l : List Int) : Prop := ∃ own, Nf own W ∧ Fr 1 (fun _ => 0) own w W ∧ SI own 1 W (.pointer (some ⟨N, 0, none⟩)) (some (room, l))

section
variable {w W : World} {N room : Nat} {l : List Int}
theorem Iv.bel (h : Iv w N room W l) : Below w.heap.size w W := by
  obtain ⟨own, _, f, _⟩ := h; exact f.below (Nat.le_refl _) (fun _ _ => rfl) (by omega)
theorem Iv.below {W' : World} (h : Iv w N room W l) (hb : Below W.heap.size W W') : Iv w N room W' l := by
  obtain ⟨own, n, f, s⟩ := h; exact ⟨own, n.below hb.size, f.then hb, s.below hb⟩
theorem Iv.lv {W' : World} {own : Nat → Nat} {st : St} (f : Fr 1 (fun _ => 0) own w W) (h : Lv SI own 1 W W' (.pointer (some ⟨N, 0, none⟩)) (some (room, l))) : Iv w N room W' l := by
  obtain ⟨own', n', f', s'⟩ := h; exact ⟨own', n', f.trans f', s'⟩
theorem Iv.push (h : Iv w N room W l) (x : Int) (hl : l.length < room) : Calls Try.prog 20 #[.pointer (some ⟨N, 0, none⟩), .int .i64 x] W fun e W' => e = .returned (.int .i64 0) ∧ Iv w N room W' (l ++ [x]) := by
  obtain ⟨own, n, f, s⟩ := h
  refine (pushI_st x s n).mono ?_
  rintro e w' ⟨rfl, hL⟩
  unfold pushE pushS at *
  simp only [if_neg (show ¬ (l.length = room) by omega)] at *
  exact ⟨trivial, Iv.lv (st := none) f hL⟩
theorem Iv.pushFull (h : Iv w N room W l) (x : Int) (hl : l.length = room) : Calls Try.prog 20 #[.pointer (some ⟨N, 0, none⟩), .int .i64 x] W fun e W' => e = .returned (.int .i64 50) ∧ Iv w N room W' l := by
  obtain ⟨own, n, f, s⟩ := h
  refine (pushI_st x s n).mono ?_
  rintro e w' ⟨rfl, hL⟩
  unfold pushE pushS at *
  simp only [if_pos hl] at *
  exact ⟨trivial, Iv.lv (st := none) f hL⟩
theorem Iv.popF {x : Int} (h : Iv w N room W (x :: l)) : Calls Try.prog 22 #[.pointer (some ⟨N, 0, none⟩)] W fun e W' => e = .returned (.tuple #[.int .i64 x, .int .i64 0]) ∧ Iv w N room W' l := by
  obtain ⟨own, n, f, s⟩ := h
  refine (popFI_st s n).mono ?_
  rintro e w' ⟨rfl, hL⟩
  exact ⟨rfl, Iv.lv (st := none) f hL⟩
theorem Iv.popB {x : Int} (h : Iv w N room W (l ++ [x])) : Calls Try.prog 24 #[.pointer (some ⟨N, 0, none⟩)] W fun e W' => e = .returned (.tuple #[.int .i64 x, .int .i64 0]) ∧ Iv w N room W' l := by
  obtain ⟨own, n, f, s⟩ := h
  refine (popBI_st s n).mono ?_
  rintro e w' ⟨rfl, hL⟩
  have e1 : popBV (some (room, l ++ [x])) = x := by simp [popBV]
  have e2 : popE (some (room, l ++ [x])) = 0 := by simp [popE]
  have e3 : popBS (some (room, l ++ [x])) = some (room, l) := by simp [popBS]
  rw [e3] at hL
  rw [e1, e2]
  exact ⟨rfl, Iv.lv (st := none) f hL⟩
theorem Iv.popF0 (h : Iv w N room W []) : Calls Try.prog 22 #[.pointer (some ⟨N, 0, none⟩)] W fun e W' => e = .returned (.tuple #[.int .i64 0, .int .i64 51]) ∧ Iv w N room W' [] := by
  obtain ⟨own, n, f, s⟩ := h
  refine (popFI_st s n).mono ?_
  rintro e w' ⟨rfl, hL⟩
  exact ⟨rfl, Iv.lv (st := none) f hL⟩
theorem Iv.popB0 (h : Iv w N room W []) : Calls Try.prog 24 #[.pointer (some ⟨N, 0, none⟩)] W fun e W' => e = .returned (.tuple #[.int .i64 0, .int .i64 51]) ∧ Iv w N room W' [] := by
  obtain ⟨own, n, f, s⟩ := h
  refine (popBI_st s n).mono ?_
  rintro e w' ⟨rfl, hL⟩
  exact ⟨rfl, Iv.lv (st := none) f hL⟩
theorem Iv.at {x : Int} (k : Nat) (h : Iv w N room W l) (hx : l[k]? = some x) : Calls Try.prog 23 #[.pointer (some ⟨N, 0, none⟩), .int .i64 k] W fun e W' => e = .returned (.tuple #[.int .i64 x, .int .i64 0]) ∧ Iv w N room W' l := by
  have h' := h
  obtain ⟨own, n, f, s⟩ := h
  have hk := (List.getElem?_eq_some_iff.1 hx).1
  refine (atI_st k s).mono ?_
  rintro e w' ⟨rfl, hb⟩
  have hb0 : ¬ bad (k : Int) l := by unfold bad; omega
  have e1 : atV k (some (room, l)) = x := by simp [atV, hb0, List.getD, hx]
  have e2 : atE k (some (room, l)) = 0 := by simp [atE, hb0]
  rw [e1, e2]
  exact ⟨rfl, h'.below hb⟩
theorem Iv.len (h : Iv w N room W l) : Calls Try.prog 21 #[.pointer (some ⟨N, 0, none⟩)] W fun e W' => e = .returned (.int .i64 l.length) ∧ W' = W := by
  obtain ⟨own, n, f, s⟩ := h
  exact lenI_st s
theorem Iv.c3 (h : Iv w N room W l) : W.cell? ⟨N, 3, none⟩ = some (.int .i64 l.length) := by
  obtain ⟨own, n, f, g, sv, zs, front, e, hr⟩ := h
  cases e
  exact hr.c3
end

/-- n numbers from a on. -/
def rng (a n : Nat) : List Int := (List.range n).map (fun j => ((a + j : Nat) : Int))
theorem rng_len (a n : Nat) : (rng a n).length = n := by simp [rng]
theorem rng_snoc (a n : Nat) : rng a n ++ [((a + n : Nat) : Int)] = rng a (n + 1) := by unfold rng; rw [List.range_succ, List.map_append]; rfl
theorem rng_cons (a n : Nat) : rng a (n + 1) = (a : Int) :: rng (a + 1) n := by
  unfold rng; rw [List.range_succ_eq_map, List.map_cons, List.map_map]
  congr 1
  apply List.map_congr_left
  intro j _
  show ((a + (j + 1) : Nat) : Int) = ((a + 1 + j : Nat) : Int)
  omega
theorem rng_at (a n k : Nat) (h : k < n) : (rng a n)[k]? = some ((a + k : Nat) : Int) := by unfold rng; rw [List.getElem?_map, List.getElem?_range h]; rfl

/-- What the ring holds when it is full. -/
def full (rounds keep m : Nat) : List Int := rng rounds keep ++ List.replicate m (-1)
theorem full_len (a k m : Nat) : (full a k m).length = k + m := by simp [full, rng_len]
theorem full_snoc (a k m : Nat) : full a k m ++ [-1] = full a k (m + 1) := by unfold full; rw [List.append_assoc, ← List.replicate_succ']
theorem full_take (a k m i : Nat) (h : i < k + m) : (full a k m).take (i + 1) = (full a k m).take i ++ [if i < k then ((a + i : Nat) : Int) else -1] := by
  rw [List.take_add_one]
  congr 1
  have : (full a k m)[i]? = some (if i < k then ((a + i : Nat) : Int) else -1) := by
    unfold full
    by_cases hk : i < k
    · rw [List.getElem?_append_left (by rw [rng_len]; exact hk), rng_at _ _ _ hk, if_pos hk]
    · rw [List.getElem?_append_right (by rw [rng_len]; omega), rng_len, if_neg hk, List.getElem?_replicate, if_pos (by omega)]
  rw [this]; rfl

def cntOf (W : World) (N : Nat) : Nat := match W.cell? ⟨N, 3, none⟩ with | some v => (intOf v).toNat | none => 0
theorem Iv.cnt {w W : World} {N room : Nat} {l : List Int} (h : Iv w N room W l) : cntOf W N = l.length := by unfold cntOf; rw [h.c3]; simp [intOf]

theorem newIv (w : World) (k : Nat) (h1 : 1 ≤ k) (h2 : k ≤ 2097152) : Calls Try.prog 16 #[.int .i64 k] w fun e w' => e = .returned (.tuple #[.pointer (some ⟨w.heap.size, 0, none⟩), .int .i64 0]) ∧ Iv w w.heap.size k w' [] :=
  (newI_st (fun _ => 0) 1 k w h1 h2 (fun _ _ => rfl)).mono fun e w' ⟨he, own, n, f, s⟩ => ⟨he, own, n, f, s⟩

set_option maxRecDepth 100000 in
set_option maxHeartbeats 2000000 in
theorem ringLine_in (R K M : Nat) (w : World) (h1 : 1 ≤ R) (h2 : R ≤ 2000) (h3 : K < R) (h4 : M ≤ 20000) :
    Calls Try.prog 5 #[.int .i64 R, .int .i64 K, .int .i64 M] w fun e w' => e = .returned (.bool true) ∧ Below w.heap.size w w' := by
  have g1 : decide ((R : Int) < 1) = false := by simp; omega
  have g2 : decide ((2000 : Int) < (R : Int)) = false := by simp; omega
  have g3 : decide ((K : Int) < 0) = false := by simp
  have g4 : decide ((R : Int) ≤ (K : Int)) = false := by simp; omega
  have g5 : decide ((M : Int) < 0) = false := by simp
  have g6 : decide ((20000 : Int) < (M : Int)) = false := by simp; omega
  have k1 : ¬ ((R : Int) < 1) := by omega
  have k2 : ¬ ((2000 : Int) < (R : Int)) := by omega
  have k4 : ¬ ((R : Int) ≤ (K : Int)) := by omega
  have k6 : ¬ ((20000 : Int) < (M : Int)) := by omega
  go_enter Try.func5, Try.ntmps5
  go_wp2_with fail
  refine (newIv w R h1 (by omega)).mono ?_
  rintro e w1 ⟨rfl, v1⟩
  generalize hN : w.heap.size = N at *
  have HN : Hid (w.heap.size = N) := hN
  clear hN g1 g2 g3 g4 g5 g6 k1 k2 k4 k6
  go_wp2_with fail
  go_loopw [9] (fun i W => ∃ k : Nat, k ≤ K ∧ i = .int .i64 k ∧ Iv w N R W (rng 0 k)) (fun i _ => K - (intOf i).toNat)
  case atStart => exact ⟨0, by omega, rfl, v1⟩
  case round =>
    clear v1
    obtain ⟨k, hk, rfl, hv⟩ := hrel
    by_cases hc : k < K
    · have c1 : (k : Int) < (K : Int) := by omega
      go_wp2_with fail
      refine (hv.push k (by rw [rng_len]; omega)).mono ?_
      rintro e w2 ⟨rfl, hv2⟩
      go_wp2_with fail
      exact ⟨⟨k + 1, by omega, by go_num, by rw [← rng_snoc]; simpa using hv2⟩, by simp [intOf]; omega⟩
    · obtain rfl : k = K := by omega
      clear hc hk
      obtain ⟨V, eV⟩ : ∃ V, V = wr := ⟨wr, rfl⟩
      subst eV
      go_wp2_with fail
      go_loopw [10] (fun i W => ∃ j : Nat, j ≤ M ∧ i = .int .i64 j ∧ Iv w N R W (rng j k)) (fun i _ => M - (intOf i).toNat)
      case atStart => exact ⟨0, by omega, rfl, hv⟩
      case round =>
        clear hv
        obtain ⟨j, hj, rfl, hv⟩ := hrel
        by_cases hc : j < M
        · have c1 : (j : Int) < (M : Int) := by omega
          go_wp2_with fail
          refine (hv.push ((k : Int) + (j : Int)) (by rw [rng_len]; omega)).mono ?_
          rintro e w2 ⟨rfl, hv2⟩
          have hv3 : Iv w N R w2 ((j : Int) :: rng (j + 1) k) := by
            rw [← rng_cons, ← rng_snoc, show ((j + k : Nat) : Int) = (k : Int) + (j : Int) by omega]; exact hv2
          clear hv2 hv
          go_wp2_with fail
          refine hv3.len.mono ?_
          rintro e w3 ⟨rfl, rfl⟩
          rw [show (((j : Int) :: rng (j + 1) k).length : Int) = (k : Int) + 1 by rw [List.length_cons, rng_len]; omega]
          go_wp2_with fail
          refine hv3.popF.mono ?_
          rintro e w4 ⟨rfl, hv4⟩
          clear hv3
          go_wp2_with fail
          refine hv4.len.mono ?_
          rintro e w5 ⟨rfl, rfl⟩
          rw [rng_len]
          go_wp2_with fail
          exact ⟨⟨j + 1, by omega, by go_num, hv4⟩, by simp [intOf]; omega⟩
        · obtain rfl : j = M := by omega
          clear hc hj
          obtain ⟨V, eV⟩ : ∃ V, V = wr := ⟨wr, rfl⟩
          subst eV
          go_wp2_with fail
          go_loopw [14] (fun i W => ∃ a : Nat, a ≤ k ∧ i = .int .i64 a ∧ Iv w N R W (rng j k)) (fun i _ => k - (intOf i).toNat)
          case atStart => exact ⟨0, by omega, rfl, hv⟩
          case round =>
            clear hv
            obtain ⟨a, ha, rfl, hv⟩ := hrel
            by_cases hc : a < k
            · have c1 : (a : Int) < (k : Int) := by omega
              go_wp2_with fail
              refine (hv.at a (rng_at j k a hc)).mono ?_
              rintro e w2 ⟨rfl, hv2⟩
              rw [show ((j + a : Nat) : Int) = (j : Int) + (a : Int) by omega]
              go_wp2_with fail
              exact ⟨⟨a + 1, by omega, by go_num, hv2⟩, by simp [intOf]; omega⟩
            · obtain rfl : a = k := by omega
              clear hc ha
              obtain ⟨V, eV⟩ : ∃ V, V = wr := ⟨wr, rfl⟩
              subst eV
              go_wp2_with fail
              go_loopw [6] (fun v W => ∃ m : Nat, a + m ≤ R ∧ Iv w N R W (full j a m)) (fun _ W => R - cntOf W N)
              case atStart => exact ⟨0, by omega, by unfold full; rw [List.replicate_zero, List.append_nil]; exact hv⟩
              case round =>
                clear hv
                obtain ⟨m, hm, hv⟩ := hrel
                go_wp2_with fail
                refine hv.len.mono ?_
                rintro e w2 ⟨rfl, rfl⟩
                rw [full_len]
                by_cases hc : a + m < R
                · have c1 : ((a + m : Nat) : Int) < (R : Int) := by omega
                  have c2 : (a : Int) + (m : Int) < (R : Int) := by omega
                  go_wp2_with fail
                  refine (hv.push (-1) (by rw [full_len]; omega)).mono ?_
                  rintro e w3 ⟨rfl, hv3⟩
                  have hv4 : Iv w N R w3 (full j a (m + 1)) := by rw [← full_snoc]; exact hv3
                  have HM : Hid (cntOf w3 N = a + (m + 1) ∧ cntOf w2 N = a + m) := ⟨by rw [hv4.cnt, full_len], by rw [hv.cnt, full_len]⟩
                  go_wp2_with fail
                  exact ⟨⟨m + 1, by omega, hv4⟩, by have := HM.out; omega⟩
                · have c1 : ¬ (((a + m : Nat) : Int) < (R : Int)) := by omega
                  have c2 : ¬ ((a : Int) + (m : Int) < (R : Int)) := by omega
                  have c3 : a + m = R := by omega
                  go_wp2_with fail
                  refine (hv.pushFull (-1) (by rw [full_len]; exact c3)).mono ?_
                  rintro e w3 ⟨rfl, hv3⟩
                  clear hv
                  go_wp2_with fail
                  refine hv3.len.mono ?_
                  rintro e w4 ⟨rfl, rfl⟩
                  rw [full_len, c3]
                  obtain ⟨V, eV⟩ : ∃ V, V = w4 := ⟨w4, rfl⟩
                  subst eV
                  go_wp2_with fail
                  go_loopw [18] (fun i W => ∃ b : Nat, b ≤ R ∧ i = .int .i64 ((b : Int) - 1) ∧ Iv w N R W ((full j a m).take b)) (fun i _ => (intOf i + 1).toNat)
                  case atStart => exact ⟨R, by omega, rfl, by rw [List.take_of_length_le (by rw [full_len]; omega)]; exact hv3⟩
                  case round =>
                    clear hv3
                    obtain ⟨b, hb, rfl, hv⟩ := hrel
                    by_cases hb0 : b = 0
                    · have d1 : ¬ ((0 : Int) ≤ (b : Int) - 1) := by omega
                      have d2 : decide ((0 : Int) ≤ (b : Int) - 1) = false := by simp; omega
                      have hv0 : Iv w N R wr [] := by rw [hb0] at hv; exact hv
                      clear hv hb0
                      go_wp2_with fail
                      refine hv0.popB0.mono ?_
                      rintro e w5 ⟨rfl, hv5⟩
                      go_wp2_with fail
                      refine hv5.popF0.mono ?_
                      rintro e w6 ⟨rfl, hv6⟩
                      have hB := hv6.bel
                      clear hv0 hv5 hv6
                      go_wp2_with fail
                      refine (awake_any _).mono ?_
                      rintro e w7 ⟨rfl, hb7⟩
                      replace hB := hB.trans (hb7.mono hB.size)
                      go_wp2_with fail
                      go_ret
                      exact ⟨rfl, hB⟩
                    · obtain ⟨i, rfl⟩ : ∃ i, b = i + 1 := ⟨b - 1, by omega⟩
                      have d0 : ((i + 1 : Nat) : Int) - 1 = (i : Int) := by omega
                      have d1 : (0 : Int) ≤ (i : Int) := by omega
                      rw [full_take j a m i (by omega)] at hv
                      rw [d0]
                      clear hb0
                      by_cases hi : i < a
                      · have d2 : (i : Int) < (a : Int) := by omega
                        rw [if_pos hi, show ((j + i : Nat) : Int) = (j : Int) + (i : Int) by omega] at hv
                        go_wp2_with fail
                        refine hv.popB.mono ?_
                        rintro e w5 ⟨rfl, hv5⟩
                        clear hv
                        go_wp2_with fail
                        exact ⟨⟨i, by omega, by go_num, hv5⟩, by simp [intOf]⟩
                      · have d2 : ¬ ((i : Int) < (a : Int)) := by omega
                        rw [if_neg hi] at hv
                        go_wp2_with fail
                        refine hv.popB.mono ?_
                        rintro e w5 ⟨rfl, hv5⟩
                        clear hv
                        go_wp2_with fail
                        exact ⟨⟨i, by omega, by go_num, hv5⟩, by simp [intOf]⟩

set_option maxRecDepth 100000 in
set_option maxHeartbeats 1000000 in
theorem ringLine_out (R K M : Int) (w : World) (h : R < 1 ∨ 2000 < R ∨ K < 0 ∨ R ≤ K ∨ M < 0 ∨ 20000 < M) :
    Calls Try.prog 5 #[.int .i64 R, .int .i64 K, .int .i64 M] w fun e w' => e = .returned (.bool true) ∧ Below w.heap.size w w' := by
  by_cases h0 : R < 1
  · have g0 : decide (R < 1) = true := by simp; omega
    clear h
    go_enter Try.func5, Try.ntmps5
    go_wp2_with fail
    refine (awake_any w).mono ?_
    rintro e w1 ⟨rfl, hb⟩
    go_wp2_with fail
    go_ret
    exact ⟨rfl, hb⟩
  have g0 : decide (R < 1) = false := by simp; omega
  by_cases h1 : 2000 < R
  · have g1 : decide (2000 < R) = true := by simp; omega
    clear h
    go_enter Try.func5, Try.ntmps5
    go_wp2_with fail
    refine (awake_any w).mono ?_
    rintro e w1 ⟨rfl, hb⟩
    go_wp2_with fail
    go_ret
    exact ⟨rfl, hb⟩
  have g1 : decide (2000 < R) = false := by simp; omega
  by_cases h2 : K < 0
  · have g2 : decide (K < 0) = true := by simp; omega
    clear h
    go_enter Try.func5, Try.ntmps5
    go_wp2_with fail
    refine (awake_any w).mono ?_
    rintro e w1 ⟨rfl, hb⟩
    go_wp2_with fail
    go_ret
    exact ⟨rfl, hb⟩
  have g2 : decide (K < 0) = false := by simp; omega
  by_cases h3 : R ≤ K
  · have g3 : decide (R ≤ K) = true := by simp; omega
    clear h
    go_enter Try.func5, Try.ntmps5
    go_wp2_with fail
    refine (awake_any w).mono ?_
    rintro e w1 ⟨rfl, hb⟩
    go_wp2_with fail
    go_ret
    exact ⟨rfl, hb⟩
  have g3 : decide (R ≤ K) = false := by simp; omega
  by_cases h4 : M < 0
  · have g4 : decide (M < 0) = true := by simp; omega
    clear h
    go_enter Try.func5, Try.ntmps5
    go_wp2_with fail
    refine (awake_any w).mono ?_
    rintro e w1 ⟨rfl, hb⟩
    go_wp2_with fail
    go_ret
    exact ⟨rfl, hb⟩
  have g4 : decide (M < 0) = false := by simp; omega
  by_cases h5 : 20000 < M
  · have g5 : decide (20000 < M) = true := by simp; omega
    clear h
    go_enter Try.func5, Try.ntmps5
    go_wp2_with fail
    refine (awake_any w).mono ?_
    rintro e w1 ⟨rfl, hb⟩
    go_wp2_with fail
    go_ret
    exact ⟨rfl, hb⟩
  have g5 : decide (20000 < M) = false := by simp; omega
  omega

theorem ringLine_any (R K M : Int) (w : World) : Calls Try.prog 5 #[.int .i64 R, .int .i64 K, .int .i64 M] w fun e w' => e = .returned (.bool true) ∧ Below w.heap.size w w' := by
  by_cases h : R < 1 ∨ 2000 < R ∨ K < 0 ∨ R ≤ K ∨ M < 0 ∨ 20000 < M
  · exact ringLine_out R K M w h
  · obtain ⟨r, rfl⟩ : ∃ r : Nat, R = r := ⟨R.toNat, by omega⟩
    obtain ⟨k, rfl⟩ : ∃ k : Nat, K = k := ⟨K.toNat, by omega⟩
    obtain ⟨m, rfl⟩ : ∃ m : Nat, M = m := ⟨M.toNat, by omega⟩
    exact ringLine_in r k m w (by omega) (by omega) (by omega) (by omega)
end Go.Proofs.Ytjibpdncginkdaa
