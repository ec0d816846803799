import Derived.Test.YtjibpdncginkdaaNb
import Derived.BigRegion
set_option linter.unusedVariables false
set_option linter.unusedSimpArgs false
namespace Go.Proofs.Ytjibpdncginkdaa
open Go.RowKit

theorem Try.info3 : (Try.prog.info? 3).map (fun i => (i.zero, i.size, i.bytes)) = some (some (.int .i64 0), 1, 8) := by kernel_rfl
theorem Try.size3 : (Try.prog.info? 3).map (·.size) = some 1 := by kernel_rfl

theorem makeI (N : Nat) (hN : N ≤ 2097152) (w : World) : (Instr.makeSlice 59 (.int .i64 (N : Int)) (.int .i64 (N : Int))).run Try.prog w = .ok (.slice (some ⟨w.heap.size, 0, none⟩) N N) (w.alloc (.cells (flat encI (List.replicate N 0)).toArray 3)) := by
  obtain ⟨i0, hi, hz0, hz1, hz2⟩ := info_parts Try.info3
  have h := run_make (P := Try.prog) w 59 3 i0 (.int .i64 0) Try.underlying59 hi hz0 .i64 .i64 (N : Int) (N : Int) (by omega) (by omega) (by rw [hz2]; omega) (by omega)
  rw [h]
  congr 4
  rw [hz1, flatI]
  apply Array.toList_inj.1
  show (madeCells #[.int .i64 0] _).toList = _
  rw [toList_madeCells_one]; simp

theorem Fr.label {i : Nat} {own : Nat → Nat} {w W : World} (h : Below w.heap.size w W) : Fr i own (fun k => if k = w.heap.size then i else own k) w W :=
  ⟨h.os, h.tape, h.output, h.size, fun k hk _ => h.block k hk, fun k hk => if_neg (by omega)⟩

theorem mem_flatI {zs : List Int} {v : Value} (h : v ∈ flat encI zs) : v.oneCell' = true := by
  rw [flatI] at h
  obtain ⟨x, _, rfl⟩ := List.mem_map.1 h
  rfl

set_option maxHeartbeats 1000000 in
theorem widenI_core (g room n front N b : Nat) (x : Int) (zs : List Int) (w : World) (hlen : zs.length = n) (hgN : g < w.heap.size) (h0 : w.cell? ⟨g, 0, none⟩ = some (.int .i64 room)) (h1 : w.cell? ⟨g, 1, none⟩ = some (.slice (some ⟨b, 0, none⟩) n n)) (h2 : w.cell? ⟨g, 2, none⟩ = some (.int .i64 front))
    (fz : ∀ k, w.frozen? ⟨g, k, none⟩ = false)
    (hrow : w.heap[b]? = some (.cells (flat encI zs).toArray 3 (0, 0))) (hfn : front < n)
    (hr : room ≤ 2097152) (hn : n < N) (hN : N ≤ room) (c : (2 * n < room ∧ N = 2 * n) ∨ (room ≤ 2 * n ∧ N = room)) :
    Calls Try.prog 38 #[.pointer (some ⟨g, 0, none⟩)] w fun e w' => e = .returned (.tuple #[]) ∧ ∃ W, Below w.heap.size w W ∧ W.heap[w.heap.size]? = some (.cells (flat encI (zs.drop front ++ zs.take front ++ List.replicate (N - n) 0)).toArray 3 (0, 0)) ∧
      w' = (W.setCell ⟨g, 1, none⟩ (.slice (some ⟨w.heap.size, 0, none⟩) N N)).setCell ⟨g, 2, none⟩ (.int .i64 0) := by
  have HM := makeI N (by omega)
  have HROW : Hid (w.heap[b]? = some (.cells (flat encI zs).toArray 3 (0, 0))) := hrow
  have HLEN : Hid (zs.length = n) := hlen
  have FZ : Hid (∀ k, w.frozen? ⟨g, k, none⟩ = false) := fz
  have q1 : (1 : Int) < 2 * (n : Int) := by omega
  clear hrow hlen fz
  rcases c with ⟨c1, c2⟩ | ⟨c1, c2⟩
  · have q2 : 2 * (n : Int) < (room : Int) := by omega
    rw [show ((N : Nat) : Int) = 2 * (n : Int) by omega] at HM
    clear c1 c2
    go_enter Try.func38, Try.ntmps38
    go_wp2_with fail
    go_region
    clear HM
    obtain ⟨W1, hW1⟩ : ∃ W1, (w.alloc (.cells (flat encI (List.replicate N 0)).toArray 3)).drew = W1 := ⟨_, rfl⟩
    have HG1 : Hid (W1.heap[w.heap.size]? = some (.cells (flat encI (List.replicate N 0)).toArray 3 (0, 0))) := by show _ = _; rw [← hW1]; exact heap_alloc_new w _
    have hB1 : Below w.heap.size w W1 := by rw [← hW1]; exact ((Below.refl _ w).alloc (Nat.le_refl _) _).drew
    rw [hW1]
    clear hW1
    have d1 := (hB1.cell (p := ⟨g, 1, none⟩) hgN).trans h1
    have d2 := (hB1.cell (p := ⟨g, 2, none⟩) hgN).trans h2
    have e1 : (front : Int) ≤ (n : Int) := by omega
    have e2 : ¬ (n = front) := by omega
    have HS1 : Hid (∀ W, Below w.heap.size w W → ∀ j v, (flat encI (zs.drop front))[j]? = some v → W.cell? ((⟨b, front, none⟩ : Addr).add j) = some v) := fun W hW j v hj => by
      have hj' : (flat encI zs)[front + j]? = some v := by
        rw [← List.getElem?_drop, show front = front * 1 by omega, flat_drop encI 1 (fun _ => rfl)]; exact hj
      rw [Addr.add_lit]
      exact blk_cell ((hW.block b (blk_lt HROW.out)).trans HROW.out) (by rw [List.getElem?_toArray]; exact hj')
    have HS2 : Hid (∀ W, Below w.heap.size w W → ∀ j v, (flat encI (zs.take front))[j]? = some v → W.cell? ((⟨b, 0, none⟩ : Addr).add j) = some v) := fun W hW j v hj => by
      have hj' : (flat encI zs)[j]? = some v := by
        have h : (flat encI (zs.take front)) = (flat encI zs).take front := by rw [← flat_take encI 1 (fun _ => rfl), Nat.mul_one]
        rw [h, List.getElem?_take] at hj
        split at hj
        · exact hj
        · cases hj
      rw [Addr.add_lit, Nat.zero_add]
      exact blk_cell ((hW.block b (blk_lt HROW.out)).trans HROW.out) (by rw [List.getElem?_toArray]; exact hj')
    have HL1 : Hid ((flat encI (zs.drop front)).length = (n - front) * 1) := by show _ = _; rw [flat_len encI 1 (fun _ => rfl), List.length_drop, HLEN.out]
    have HL2 : Hid ((flat encI (zs.take front)).length = front * 1) := by show _ = _; rw [flat_len encI 1 (fun _ => rfl), List.length_take, HLEN.out]; congr 1; omega
    have HL0 : Hid ((flat encI (List.replicate N 0)).length = N) := by show _ = _; rw [flat_len encI 1 (fun _ => rfl), List.length_replicate, Nat.mul_one]
    have HFIN : Hid (splice (splice (flat encI (List.replicate N 0)) 0 (flat encI (zs.drop front))) (n - front) (flat encI (zs.take front)) = flat encI (zs.drop front ++ zs.take front ++ List.replicate (N - n) 0)) := by
      show _ = _
      have := HL0.out
      have := HL1.out
      have := HL2.out
      rw [splice_two _ _ _ _ (by omega) (by omega), flat_append, flat_append, List.append_assoc]
      congr 2
      rw [HL2.out, show n - front + front * 1 = n * 1 by omega, flat_drop encI 1 (fun _ => rfl), List.drop_replicate]
    obtain ⟨Z0, hZ0⟩ : ∃ Z0, flat encI (List.replicate N 0) = Z0 := ⟨_, rfl⟩
    obtain ⟨A1, hA1⟩ : ∃ A1, flat encI (zs.drop front) = A1 := ⟨_, rfl⟩
    obtain ⟨A2, hA2⟩ : ∃ A2, flat encI (zs.take front) = A2 := ⟨_, rfl⟩
    have M1 : Hid (∀ v ∈ A1, v.oneCell' = true) := by show ∀ v ∈ A1, _; rw [← hA1]; exact fun v => mem_flatI
    have M2 : Hid (∀ v ∈ A2, v.oneCell' = true) := by show ∀ v ∈ A2, _; rw [← hA2]; exact fun v => mem_flatI
    rw [hZ0] at HG1 HL0 HFIN
    rw [hA1] at HS1 HL1 HFIN
    rw [hA2] at HS2 HL2 HFIN
    clear hZ0 hA1 hA2
    go_wp2_with fail
    go_region_law (refine step_copy_sized rfl (.tmp 17) (.tmp 26) 59 59 rfl 3 1 Try.underlying59 Try.size3 _ _ _ _ _ _ rfl rfl w.heap.size 0 Z0 3 HG1.out A1 (n - front) (Nat.min_eq_left (by omega)).symm HL1.out (fun _ => ⟨rfl, _, rfl, fun j v hj => by first | exact HS1.out _ hB1.drew j v hj | simpa using HS1.out _ hB1.drew j v hj⟩) (by rw [HL1.out, HL0.out]; omega) M1.out w.heap.size w hB1.drew (Nat.le_refl _) ?_; intro w4 hg4 hb4)
    all_goals (
      have f1 := (hb4.cell (p := ⟨g, 1, none⟩) hgN).trans h1
      have f2 := (hb4.cell (p := ⟨g, 2, none⟩) hgN).trans h2
      have e3 : ((n - front : Nat) : Int) ≤ (N : Int) := by omega
      have e4 : ¬ (N = n - front) := by omega
      have HSZ : Hid ((splice Z0 0 A1).length = N) := by show _ = _; rw [length_splice _ _ _ (by rw [HL1.out, HL0.out]; omega), HL0.out]
      have HG4 : Hid (w4.heap[w.heap.size]? = some (.cells (splice Z0 0 A1).toArray 3 (0, 0))) := hg4.out
      obtain ⟨Z1, hZ1⟩ : ∃ Z1, splice Z0 0 A1 = Z1 := ⟨_, rfl⟩
      rw [hZ1] at HG4 HFIN HSZ
      clear hg4 hZ1
      obtain ⟨k, hk⟩ : ∃ k, n - front = k := ⟨_, rfl⟩
      rw [hk] at HFIN HL1 e3 e4
      have hkf : k + front = n := by omega
      rw [hk]
      clear hk
      go_wp2_with fail
      go_region_law (refine step_copy_sized rfl (.tmp 30) (.tmp 39) 59 59 rfl 3 1 Try.underlying59 Try.size3 _ _ _ _ _ _ rfl rfl w.heap.size k Z1 3 HG4.out A2 front (Nat.min_eq_left (by omega)).symm HL2.out (fun _ => ⟨by first | rfl | simp, _, rfl, fun j v hj => HS2.out _ hb4.drew j v hj⟩) (by rw [HL2.out, HSZ.out]; omega) M2.out w.heap.size w hb4.drew (Nat.le_refl _) ?_; intro w5 hg5 hb5))
    all_goals (
      clear f1 f2
      have f1 := (hb5.cell (p := ⟨g, 1, none⟩) hgN).trans h1
      have f2 := (hb5.cell (p := ⟨g, 2, none⟩) hgN).trans h2
      have f3 := (hb5.frozen (p := ⟨g, 1, none⟩) hgN).trans (FZ.out 1)
      have f4 := (hb5.frozen (p := ⟨g, 2, none⟩) hgN).trans (FZ.out 2)
      have HG5 : Hid (w5.heap[w.heap.size]? = some (.cells (flat encI (zs.drop front ++ zs.take front ++ List.replicate (N - n) 0)).toArray 3 (0, 0))) := by show _ = _; rw [← HFIN.out]; exact hg5.out
      clear hg5
      go_wp2_with fail
      go_end0
      exact ⟨rfl, w5, hb5, HG5.out, rfl⟩)
  · have q2 : ¬ (2 * (n : Int) < (room : Int)) := by omega
    rw [show ((N : Nat) : Int) = (room : Int) by omega] at HM
    clear c1 c2
    go_enter Try.func38, Try.ntmps38
    go_wp2_with fail
    go_region
    clear HM
    obtain ⟨W1, hW1⟩ : ∃ W1, (w.alloc (.cells (flat encI (List.replicate N 0)).toArray 3)).drew = W1 := ⟨_, rfl⟩
    have HG1 : Hid (W1.heap[w.heap.size]? = some (.cells (flat encI (List.replicate N 0)).toArray 3 (0, 0))) := by show _ = _; rw [← hW1]; exact heap_alloc_new w _
    have hB1 : Below w.heap.size w W1 := by rw [← hW1]; exact ((Below.refl _ w).alloc (Nat.le_refl _) _).drew
    rw [hW1]
    clear hW1
    have d1 := (hB1.cell (p := ⟨g, 1, none⟩) hgN).trans h1
    have d2 := (hB1.cell (p := ⟨g, 2, none⟩) hgN).trans h2
    have e1 : (front : Int) ≤ (n : Int) := by omega
    have e2 : ¬ (n = front) := by omega
    have HS1 : Hid (∀ W, Below w.heap.size w W → ∀ j v, (flat encI (zs.drop front))[j]? = some v → W.cell? ((⟨b, front, none⟩ : Addr).add j) = some v) := fun W hW j v hj => by
      have hj' : (flat encI zs)[front + j]? = some v := by
        rw [← List.getElem?_drop, show front = front * 1 by omega, flat_drop encI 1 (fun _ => rfl)]; exact hj
      rw [Addr.add_lit]
      exact blk_cell ((hW.block b (blk_lt HROW.out)).trans HROW.out) (by rw [List.getElem?_toArray]; exact hj')
    have HS2 : Hid (∀ W, Below w.heap.size w W → ∀ j v, (flat encI (zs.take front))[j]? = some v → W.cell? ((⟨b, 0, none⟩ : Addr).add j) = some v) := fun W hW j v hj => by
      have hj' : (flat encI zs)[j]? = some v := by
        have h : (flat encI (zs.take front)) = (flat encI zs).take front := by rw [← flat_take encI 1 (fun _ => rfl), Nat.mul_one]
        rw [h, List.getElem?_take] at hj
        split at hj
        · exact hj
        · cases hj
      rw [Addr.add_lit, Nat.zero_add]
      exact blk_cell ((hW.block b (blk_lt HROW.out)).trans HROW.out) (by rw [List.getElem?_toArray]; exact hj')
    have HL1 : Hid ((flat encI (zs.drop front)).length = (n - front) * 1) := by show _ = _; rw [flat_len encI 1 (fun _ => rfl), List.length_drop, HLEN.out]
    have HL2 : Hid ((flat encI (zs.take front)).length = front * 1) := by show _ = _; rw [flat_len encI 1 (fun _ => rfl), List.length_take, HLEN.out]; congr 1; omega
    have HL0 : Hid ((flat encI (List.replicate N 0)).length = N) := by show _ = _; rw [flat_len encI 1 (fun _ => rfl), List.length_replicate, Nat.mul_one]
    have HFIN : Hid (splice (splice (flat encI (List.replicate N 0)) 0 (flat encI (zs.drop front))) (n - front) (flat encI (zs.take front)) = flat encI (zs.drop front ++ zs.take front ++ List.replicate (N - n) 0)) := by
      show _ = _
      have := HL0.out
      have := HL1.out
      have := HL2.out
      rw [splice_two _ _ _ _ (by omega) (by omega), flat_append, flat_append, List.append_assoc]
      congr 2
      rw [HL2.out, show n - front + front * 1 = n * 1 by omega, flat_drop encI 1 (fun _ => rfl), List.drop_replicate]
    obtain ⟨Z0, hZ0⟩ : ∃ Z0, flat encI (List.replicate N 0) = Z0 := ⟨_, rfl⟩
    obtain ⟨A1, hA1⟩ : ∃ A1, flat encI (zs.drop front) = A1 := ⟨_, rfl⟩
    obtain ⟨A2, hA2⟩ : ∃ A2, flat encI (zs.take front) = A2 := ⟨_, rfl⟩
    have M1 : Hid (∀ v ∈ A1, v.oneCell' = true) := by show ∀ v ∈ A1, _; rw [← hA1]; exact fun v => mem_flatI
    have M2 : Hid (∀ v ∈ A2, v.oneCell' = true) := by show ∀ v ∈ A2, _; rw [← hA2]; exact fun v => mem_flatI
    rw [hZ0] at HG1 HL0 HFIN
    rw [hA1] at HS1 HL1 HFIN
    rw [hA2] at HS2 HL2 HFIN
    clear hZ0 hA1 hA2
    go_wp2_with fail
    go_region_law (refine step_copy_sized rfl (.tmp 17) (.tmp 26) 59 59 rfl 3 1 Try.underlying59 Try.size3 _ _ _ _ _ _ rfl rfl w.heap.size 0 Z0 3 HG1.out A1 (n - front) (Nat.min_eq_left (by omega)).symm HL1.out (fun _ => ⟨rfl, _, rfl, fun j v hj => by first | exact HS1.out _ hB1.drew j v hj | simpa using HS1.out _ hB1.drew j v hj⟩) (by rw [HL1.out, HL0.out]; omega) M1.out w.heap.size w hB1.drew (Nat.le_refl _) ?_; intro w4 hg4 hb4)
    all_goals (
      have f1 := (hb4.cell (p := ⟨g, 1, none⟩) hgN).trans h1
      have f2 := (hb4.cell (p := ⟨g, 2, none⟩) hgN).trans h2
      have e3 : ((n - front : Nat) : Int) ≤ (N : Int) := by omega
      have e4 : ¬ (N = n - front) := by omega
      have HSZ : Hid ((splice Z0 0 A1).length = N) := by show _ = _; rw [length_splice _ _ _ (by rw [HL1.out, HL0.out]; omega), HL0.out]
      have HG4 : Hid (w4.heap[w.heap.size]? = some (.cells (splice Z0 0 A1).toArray 3 (0, 0))) := hg4.out
      obtain ⟨Z1, hZ1⟩ : ∃ Z1, splice Z0 0 A1 = Z1 := ⟨_, rfl⟩
      rw [hZ1] at HG4 HFIN HSZ
      clear hg4 hZ1
      obtain ⟨k, hk⟩ : ∃ k, n - front = k := ⟨_, rfl⟩
      rw [hk] at HFIN HL1 e3 e4
      have hkf : k + front = n := by omega
      rw [hk]
      clear hk
      go_wp2_with fail
      go_region_law (refine step_copy_sized rfl (.tmp 30) (.tmp 39) 59 59 rfl 3 1 Try.underlying59 Try.size3 _ _ _ _ _ _ rfl rfl w.heap.size k Z1 3 HG4.out A2 front (Nat.min_eq_left (by omega)).symm HL2.out (fun _ => ⟨by first | rfl | simp, _, rfl, fun j v hj => HS2.out _ hb4.drew j v hj⟩) (by rw [HL2.out, HSZ.out]; omega) M2.out w.heap.size w hb4.drew (Nat.le_refl _) ?_; intro w5 hg5 hb5))
    all_goals (
      clear f1 f2
      have f1 := (hb5.cell (p := ⟨g, 1, none⟩) hgN).trans h1
      have f2 := (hb5.cell (p := ⟨g, 2, none⟩) hgN).trans h2
      have f3 := (hb5.frozen (p := ⟨g, 1, none⟩) hgN).trans (FZ.out 1)
      have f4 := (hb5.frozen (p := ⟨g, 2, none⟩) hgN).trans (FZ.out 2)
      have HG5 : Hid (w5.heap[w.heap.size]? = some (.cells (flat encI (zs.drop front ++ zs.take front ++ List.replicate (N - n) 0)).toArray 3 (0, 0))) := by show _ = _; rw [← HFIN.out]; exact hg5.out
      clear hg5
      go_wp2_with fail
      go_end0
      exact ⟨rfl, w5, hb5, HG5.out, rfl⟩)
end Go.Proofs.Ytjibpdncginkdaa
