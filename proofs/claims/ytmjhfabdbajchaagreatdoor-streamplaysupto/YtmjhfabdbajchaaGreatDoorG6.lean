import Derived.Test.YtmjhfabdbajchaaGreatDoorG5
import Derived.BigQuiet
import Derived.Deep.QuietTactic
import Derived.BigRegion
import Derived.Deep.RegionWith
set_option linter.unusedVariables false
set_option linter.unusedSimpArgs false
namespace Go.Proofs.YtmjhfabdbajchaaGreatDoor
open Go.RowKit

def encQ (x : Option Nat) : List Value := [.pointer (pa x)]

theorem flatQ (zs : List (Option Nat)) : flat encQ zs = zs.map (fun x => Value.pointer (pa x)) := by
  induction zs with
  | nil => rfl
  | cons x r ih => rw [flat_cons, ih]; rfl
theorem flatQ_at {zs : List (Option Nat)} {k : Nat} {x : Option Nat} (h : zs[k]? = some x) : (flat encQ zs).toArray[k]? = some (.pointer (pa x)) := by
  rw [flatQ]; simp [h]
theorem flatQ_clr (zs : List (Option Nat)) (k : Nat) : (flat encQ zs).toArray.setIfInBounds k (.pointer none) = (flat encQ (zs.set k none)).toArray := by
  rw [flatQ, flatQ, List.setIfInBounds_toArray, List.map_set]; rfl
theorem flatQ_set (zs : List (Option Nat)) (k : Nat) (x : Option Nat) : (flat encQ zs).toArray.setIfInBounds k (.pointer (pa x)) = (flat encQ (zs.set k x)).toArray := by
  rw [flatQ, flatQ, List.setIfInBounds_toArray, List.map_set]

abbrev RgQ := RG (β := Option Nat) 133 87 encQ

theorem cellQ (g n front k p : Nat) (sp : Option Addr) (w : World) (h1 : w.cell? ⟨g, 1, none⟩ = some (.slice sp n n)) (h2 : w.cell? ⟨g, 2, none⟩ = some (.int .i64 front)) (hn : 0 < n) (hb : front ≤ 2097152) (hk : k ≤ 2097152) (hp : (front + k) % n = p) :
    Calls Tryz.prog 132 #[.pointer (some ⟨g, 0, none⟩), .int .i64 k] w fun e w' => e = .returned (.int .i64 p) ∧ ∃ m, w' = w.drewN m := by
  have q1 : ¬ ((n : Int) = 0) := by omega
  have HP : Hid (((front : Int) + (k : Int)) % (n : Int) = (p : Int)) := by show _ = _; rw [← hp]; simp
  clear hp
  go_enter Tryz.func132, Tryz.ntmps132
  go_wp2_with fail
  go_quiet (fail)
  go_wp2_with fail
  go_ret
  exact ⟨congrArg (fun z => Ending.returned (.int .i64 z)) HP.out, ⟨_, rfl⟩⟩

theorem someQ_nil (w : World) : Calls Tryz.prog 136 #[.pointer none] w fun e w' => e = .returned (.int .i64 3) ∧ w' = w := by
  go_enter Tryz.func136, Tryz.ntmps136
  go_wp2_with fail
  go_ret
  exact ⟨rfl, rfl⟩
theorem someQ_empty (g : Nat) (w : World) (h : w.cell? ⟨g, 3, none⟩ = some (.int .i64 0)) : Calls Tryz.prog 136 #[.pointer (some ⟨g, 0, none⟩)] w fun e w' => e = .returned (.int .i64 51) ∧ w' = w := by
  go_enter Tryz.func136, Tryz.ntmps136
  go_wp2_with fail
  go_ret
  exact ⟨rfl, rfl⟩
theorem someQ (g c : Nat) (w : World) (h : w.cell? ⟨g, 3, none⟩ = some (.int .i64 c)) (hc : 0 < c) : Calls Tryz.prog 136 #[.pointer (some ⟨g, 0, none⟩)] w fun e w' => e = .returned (.int .i64 0) ∧ w' = w := by
  have q1 : ((c : Int) == 0) = false := by simp; omega
  have q2 : ¬ ((c : Int) = 0) := by omega
  have q3 : ¬ (c = 0) := by omega
  go_enter Tryz.func136, Tryz.ntmps136
  go_wp2_with fail
  go_ret
  exact ⟨rfl, rfl⟩

theorem withinQ_nil (k : Int) (w : World) : Calls Tryz.prog 145 #[.pointer none, .int .i64 k] w fun e w' => e = .returned (.int .i64 3) ∧ w' = w := by
  go_enter Tryz.func145, Tryz.ntmps145
  go_wp2_with fail
  go_ret
  exact ⟨rfl, rfl⟩
theorem withinQ_neg (g : Nat) (k : Int) (w : World) (hk : k < 0) : Calls Tryz.prog 145 #[.pointer (some ⟨g, 0, none⟩), .int .i64 k] w fun e w' => e = .returned (.int .i64 1) ∧ w' = w := by
  have q1 : decide (k < 0) = true := by simp; omega
  go_enter Tryz.func145, Tryz.ntmps145
  go_wp2_with fail
  go_ret
  exact ⟨rfl, rfl⟩
theorem withinQ_out (g c : Nat) (k : Int) (w : World) (h : w.cell? ⟨g, 3, none⟩ = some (.int .i64 c)) (hk : (c : Int) ≤ k) : Calls Tryz.prog 145 #[.pointer (some ⟨g, 0, none⟩), .int .i64 k] w fun e w' => e = .returned (.int .i64 1) ∧ w' = w := by
  have q1 : decide (k < 0) = false := by simp; omega
  have q2 : decide ((c : Int) ≤ k) = true := by simp; omega
  go_enter Tryz.func145, Tryz.ntmps145
  go_wp2_with fail
  go_ret
  exact ⟨rfl, rfl⟩
theorem withinQ (g c k : Nat) (w : World) (h : w.cell? ⟨g, 3, none⟩ = some (.int .i64 c)) (hk : k < c) : Calls Tryz.prog 145 #[.pointer (some ⟨g, 0, none⟩), .int .i64 k] w fun e w' => e = .returned (.int .i64 0) ∧ w' = w := by
  have q1 : decide ((k : Int) < 0) = false := by simp
  have q2 : decide ((c : Int) ≤ (k : Int)) = false := by simp; omega
  have q3 : ¬ ((c : Int) ≤ (k : Int)) := by omega
  have q4 : ¬ (c ≤ k) := by omega
  go_enter Tryz.func145, Tryz.ntmps145
  go_wp2_with fail
  go_ret
  exact ⟨rfl, rfl⟩

theorem lenQ_nil (w : World) : Calls Tryz.prog 128 #[.pointer none] w fun e w' => e = .returned (.int .i64 0) ∧ w' = w := by
  go_enter Tryz.func128, Tryz.ntmps128
  go_wp2_with fail
  go_ret
  exact ⟨rfl, rfl⟩
theorem lenQ (g c : Nat) (w : World) (h : w.cell? ⟨g, 3, none⟩ = some (.int .i64 c)) : Calls Tryz.prog 128 #[.pointer (some ⟨g, 0, none⟩)] w fun e w' => e = .returned (.int .i64 c) ∧ w' = w := by
  go_enter Tryz.func128, Tryz.ntmps128
  go_wp2_with fail
  go_ret
  exact ⟨rfl, rfl⟩
theorem newQ_low (k : Int) (w : World) (hk : k < 1) : Calls Tryz.prog 37 #[.int .i64 k] w fun e w' => e = .returned (.tuple #[.pointer none, .int .i64 1]) ∧ w' = w := by
  have q1 : decide (k < 1) = true := by simp; omega
  go_enter Tryz.func37, Tryz.ntmps37
  go_wp2_with fail
  go_ret2
  exact ⟨rfl, rfl⟩
theorem newQ_high (k : Int) (w : World) (hk : 2097152 < k) : Calls Tryz.prog 37 #[.int .i64 k] w fun e w' => e = .returned (.tuple #[.pointer none, .int .i64 1]) ∧ w' = w := by
  have q1 : decide (k < 1) = false := by simp; omega
  have q2 : decide (2097152 < k) = true := by simp; omega
  go_enter Tryz.func37, Tryz.ntmps37
  go_wp2_with fail
  go_ret2
  exact ⟨rfl, rfl⟩
theorem newQ (k : Nat) (w : World) (h1 : 1 ≤ k) (h2 : k ≤ 2097152) : Calls Tryz.prog 37 #[.int .i64 k] w fun e w' => e = .returned (.tuple #[.pointer (some ⟨w.heap.size, 0, none⟩), .int .i64 0]) ∧ w' = w.alloc (.cells #[.int .i64 k, .slice none 0 0, .int .i64 0, .int .i64 0] 133) := by
  have q1 : decide ((k : Int) < 1) = false := by simp; omega
  have q2 : decide (2097152 < (k : Int)) = false := by simp; omega
  have q3 : ¬ ((k : Int) < 1) := by omega
  have q4 : ¬ (2097152 < (k : Int)) := by omega
  go_enter Tryz.func37, Tryz.ntmps37
  go_wp2_with fail
  go_ret2
  exact ⟨rfl, rfl⟩

theorem emptyQ (g n front k p b : Nat) (x : Option Nat) (w : World) (h1 : w.cell? ⟨g, 1, none⟩ = some (.slice (some ⟨b, 0, none⟩) n n)) (h2 : w.cell? ⟨g, 2, none⟩ = some (.int .i64 front)) (hn : p < n) (hb : front ≤ 2097152) (hk : k ≤ 2097152) (hp : (front + k) % n = p)
    (hx : w.cell? ⟨b, p, none⟩ = some (.pointer (pa x))) (hf : w.frozen? ⟨b, p, none⟩ = false) :
    Calls Tryz.prog 137 #[.pointer (some ⟨g, 0, none⟩), .int .i64 k] w fun e w' => e = .returned (.pointer (pa x)) ∧ ∃ m, w' = (w.drewN m).setCell ⟨b, p, none⟩ (.pointer none) := by
  have HC : Hid (∀ W, W.cell? ⟨g, 1, none⟩ = some (.slice (some ⟨b, 0, none⟩) n n) → W.cell? ⟨g, 2, none⟩ = some (.int .i64 front) → Calls Tryz.prog 132 #[.pointer (some ⟨g, 0, none⟩), .int .i64 k] W fun e w' => e = .returned (.int .i64 p) ∧ ∃ m, w' = W.drewN m) := fun W a b => cellQ g n front k p _ W a b (by omega) hb hk hp
  have i1 : (0 : Int) ≤ (p : Int) := by omega
  have i2 : (p : Int) < (n : Int) := by omega
  clear hp
  go_enter Tryz.func137, Tryz.ntmps137
  go_wp2_with fail
  refine (HC.out _ h1 h2).mono ?_
  rintro e w1 ⟨rfl, m, rfl⟩
  go_wp2_with fail
  go_ret
  exact ⟨rfl, m, rfl⟩
end Go.Proofs.YtmjhfabdbajchaaGreatDoor
set_option linter.unusedVariables false
set_option linter.unusedSimpArgs false
namespace Go.Proofs.YtmjhfabdbajchaaGreatDoor
open Go.RowKit

theorem Tryz.info87 : (Tryz.prog.info? 87).map (fun i => (i.zero, i.size, i.bytes)) = some (some (.pointer none), 1, 8) := by kernel_rfl
theorem Tryz.size87 : (Tryz.prog.info? 87).map (·.size) = some 1 := by kernel_rfl

theorem makeQ (N : Nat) (hN : N ≤ 2097152) (w : World) : (Instr.makeSlice 131 (.int .i64 (N : Int)) (.int .i64 (N : Int))).run Tryz.prog w = .ok (.slice (some ⟨w.heap.size, 0, none⟩) N N) (w.alloc (.cells (flat encQ (List.replicate N none)).toArray 87)) := by
  obtain ⟨i0, hi, hz0, hz1, hz2⟩ := info_parts Tryz.info87
  have h := run_make (P := Tryz.prog) w 131 87 i0 (.pointer none) Tryz.underlying131 hi hz0 .i64 .i64 (N : Int) (N : Int) (by omega) (by omega) (by rw [hz2]; omega) (by omega)
  have hc : madeCells (Value.pointer none).cells ((N : Int).toNat * 1) = (flat encQ (List.replicate N none)).toArray := by
    rw [flatQ]
    apply Array.toList_inj.1
    show (madeCells #[.pointer none] _).toList = _
    rw [toList_madeCells_one]; simp
  rw [h, hz1, hc, Int.toNat_natCast]

theorem mem_flatQ {zs : List (Option Nat)} {v : Value} (h : v ∈ flat encQ zs) : v.oneCell' = true := by
  rw [flatQ] at h
  obtain ⟨x, _, rfl⟩ := List.mem_map.1 h
  rfl

set_option maxHeartbeats 1000000 in
theorem widenQ_core (g room n front N b : Nat) (x : Option Nat) (zs : List (Option Nat)) (w : World) (hlen : zs.length = n) (hgN : g < w.heap.size) (h0 : w.cell? ⟨g, 0, none⟩ = some (.int .i64 room)) (h1 : w.cell? ⟨g, 1, none⟩ = some (.slice (some ⟨b, 0, none⟩) n n)) (h2 : w.cell? ⟨g, 2, none⟩ = some (.int .i64 front))
    (fz : ∀ k, w.frozen? ⟨g, k, none⟩ = false)
    (hrow : w.heap[b]? = some (.cells (flat encQ zs).toArray 87 (0, 0))) (hfn : front < n)
    (hr : room ≤ 2097152) (hn : n < N) (hN : N ≤ room) (c : (2 * n < room ∧ N = 2 * n) ∨ (room ≤ 2 * n ∧ N = room)) :
    Calls Tryz.prog 131 #[.pointer (some ⟨g, 0, none⟩)] w fun e w' => e = .returned (.tuple #[]) ∧ ∃ W, Below w.heap.size w W ∧ W.heap[w.heap.size]? = some (.cells (flat encQ (zs.drop front ++ zs.take front ++ List.replicate (N - n) none)).toArray 87 (0, 0)) ∧
      w' = (W.setCell ⟨g, 1, none⟩ (.slice (some ⟨w.heap.size, 0, none⟩) N N)).setCell ⟨g, 2, none⟩ (.int .i64 0) := by
  have HM := makeQ N (by omega)
  have HROW : Hid (w.heap[b]? = some (.cells (flat encQ zs).toArray 87 (0, 0))) := hrow
  have HLEN : Hid (zs.length = n) := hlen
  have FZ : Hid (∀ k, w.frozen? ⟨g, k, none⟩ = false) := fz
  have q1 : (1 : Int) < 2 * (n : Int) := by omega
  clear hrow hlen fz
  rcases c with ⟨c1, c2⟩ | ⟨c1, c2⟩
  · have q2 : 2 * (n : Int) < (room : Int) := by omega
    rw [show ((N : Nat) : Int) = 2 * (n : Int) by omega] at HM
    clear c1 c2
    go_enter Tryz.func131, Tryz.ntmps131
    go_wp2_with fail
    go_region
    clear HM
    obtain ⟨W1, hW1⟩ : ∃ W1, (w.alloc (.cells (flat encQ (List.replicate N none)).toArray 87)).drew = W1 := ⟨_, rfl⟩
    have HG1 : Hid (W1.heap[w.heap.size]? = some (.cells (flat encQ (List.replicate N none)).toArray 87 (0, 0))) := by show _ = _; rw [← hW1]; exact heap_alloc_new w _
    have hB1 : Below w.heap.size w W1 := by rw [← hW1]; exact ((Below.refl _ w).alloc (Nat.le_refl _) _).drew
    rw [hW1]
    clear hW1
    have d1 := (hB1.cell (p := ⟨g, 1, none⟩) hgN).trans h1
    have d2 := (hB1.cell (p := ⟨g, 2, none⟩) hgN).trans h2
    have e1 : (front : Int) ≤ (n : Int) := by omega
    have e2 : ¬ (n = front) := by omega
    have HS1 : Hid (∀ W, Below w.heap.size w W → ∀ j v, (flat encQ (zs.drop front))[j]? = some v → W.cell? ((⟨b, front, none⟩ : Addr).add j) = some v) := fun W hW j v hj => by
      have hj' : (flat encQ zs)[front + j]? = some v := by
        rw [← List.getElem?_drop, show front = front * 1 by omega, flat_drop encQ 1 (fun _ => rfl)]; exact hj
      rw [Addr.add_lit]
      exact blk_cell ((hW.block b (blk_lt HROW.out)).trans HROW.out) (by rw [List.getElem?_toArray]; exact hj')
    have HS2 : Hid (∀ W, Below w.heap.size w W → ∀ j v, (flat encQ (zs.take front))[j]? = some v → W.cell? ((⟨b, 0, none⟩ : Addr).add j) = some v) := fun W hW j v hj => by
      have hj' : (flat encQ zs)[j]? = some v := by
        have h : (flat encQ (zs.take front)) = (flat encQ zs).take front := by rw [← flat_take encQ 1 (fun _ => rfl), Nat.mul_one]
        rw [h, List.getElem?_take] at hj
        split at hj
        · exact hj
        · cases hj
      rw [Addr.add_lit, Nat.zero_add]
      exact blk_cell ((hW.block b (blk_lt HROW.out)).trans HROW.out) (by rw [List.getElem?_toArray]; exact hj')
    have HL1 : Hid ((flat encQ (zs.drop front)).length = (n - front) * 1) := by show _ = _; rw [flat_len encQ 1 (fun _ => rfl), List.length_drop, HLEN.out]
    have HL2 : Hid ((flat encQ (zs.take front)).length = front * 1) := by show _ = _; rw [flat_len encQ 1 (fun _ => rfl), List.length_take, HLEN.out]; congr 1; omega
    have HL0 : Hid ((flat encQ (List.replicate N none)).length = N) := by show _ = _; rw [flat_len encQ 1 (fun _ => rfl), List.length_replicate, Nat.mul_one]
    have HFIN : Hid (splice (splice (flat encQ (List.replicate N none)) 0 (flat encQ (zs.drop front))) (n - front) (flat encQ (zs.take front)) = flat encQ (zs.drop front ++ zs.take front ++ List.replicate (N - n) none)) := by
      show _ = _
      have := HL0.out
      have := HL1.out
      have := HL2.out
      rw [splice_two _ _ _ _ (by omega) (by omega), flat_append, flat_append, List.append_assoc]
      congr 2
      rw [HL2.out, show n - front + front * 1 = n * 1 by omega, flat_drop encQ 1 (fun _ => rfl), List.drop_replicate]
    obtain ⟨Z0, hZ0⟩ : ∃ Z0, flat encQ (List.replicate N none) = Z0 := ⟨_, rfl⟩
    obtain ⟨A1, hA1⟩ : ∃ A1, flat encQ (zs.drop front) = A1 := ⟨_, rfl⟩
    obtain ⟨A2, hA2⟩ : ∃ A2, flat encQ (zs.take front) = A2 := ⟨_, rfl⟩
    have M1 : Hid (∀ v ∈ A1, v.oneCell' = true) := by show ∀ v ∈ A1, _; rw [← hA1]; exact fun v => mem_flatQ
    have M2 : Hid (∀ v ∈ A2, v.oneCell' = true) := by show ∀ v ∈ A2, _; rw [← hA2]; exact fun v => mem_flatQ
    rw [hZ0] at HG1 HL0 HFIN
    rw [hA1] at HS1 HL1 HFIN
    rw [hA2] at HS2 HL2 HFIN
    clear hZ0 hA1 hA2
    go_wp2_with fail
    go_region_law (refine step_copy_sized rfl (.tmp 17) (.tmp 26) 131 131 rfl 87 1 Tryz.underlying131 Tryz.size87 _ _ _ _ _ _ rfl rfl w.heap.size 0 Z0 87 HG1.out A1 (n - front) (Nat.min_eq_left (by omega)).symm HL1.out (fun _ => ⟨rfl, _, rfl, fun j v hj => by first | exact HS1.out _ hB1.drew j v hj | simpa using HS1.out _ hB1.drew j v hj⟩) (by rw [HL1.out, HL0.out]; omega) M1.out w.heap.size w hB1.drew (Nat.le_refl _) ?_; intro w4 hg4 hb4)
    all_goals (
      have f1 := (hb4.cell (p := ⟨g, 1, none⟩) hgN).trans h1
      have f2 := (hb4.cell (p := ⟨g, 2, none⟩) hgN).trans h2
      have e3 : ((n - front : Nat) : Int) ≤ (N : Int) := by omega
      have e4 : ¬ (N = n - front) := by omega
      have HSZ : Hid ((splice Z0 0 A1).length = N) := by show _ = _; rw [length_splice _ _ _ (by rw [HL1.out, HL0.out]; omega), HL0.out]
      have HG4 : Hid (w4.heap[w.heap.size]? = some (.cells (splice Z0 0 A1).toArray 87 (0, 0))) := hg4.out
      obtain ⟨Z1, hZ1⟩ : ∃ Z1, splice Z0 0 A1 = Z1 := ⟨_, rfl⟩
      rw [hZ1] at HG4 HFIN HSZ
      clear hg4 hZ1
      obtain ⟨k, hk⟩ : ∃ k, n - front = k := ⟨_, rfl⟩
      rw [hk] at HFIN HL1 e3 e4
      have hkf : k + front = n := by omega
      rw [hk]
      clear hk
      go_wp2_with fail
      go_region_law (refine step_copy_sized rfl (.tmp 30) (.tmp 39) 131 131 rfl 87 1 Tryz.underlying131 Tryz.size87 _ _ _ _ _ _ rfl rfl w.heap.size k Z1 87 HG4.out A2 front (Nat.min_eq_left (by omega)).symm HL2.out (fun _ => ⟨by first | rfl | simp, _, rfl, fun j v hj => HS2.out _ hb4.drew j v hj⟩) (by rw [HL2.out, HSZ.out]; omega) M2.out w.heap.size w hb4.drew (Nat.le_refl _) ?_; intro w5 hg5 hb5))
    all_goals (
      clear f1 f2
      have f1 := (hb5.cell (p := ⟨g, 1, none⟩) hgN).trans h1
      have f2 := (hb5.cell (p := ⟨g, 2, none⟩) hgN).trans h2
      have f3 := (hb5.frozen (p := ⟨g, 1, none⟩) hgN).trans (FZ.out 1)
      have f4 := (hb5.frozen (p := ⟨g, 2, none⟩) hgN).trans (FZ.out 2)
      have HG5 : Hid (w5.heap[w.heap.size]? = some (.cells (flat encQ (zs.drop front ++ zs.take front ++ List.replicate (N - n) none)).toArray 87 (0, 0))) := by show _ = _; rw [← HFIN.out]; exact hg5.out
      clear hg5
      go_wp2_with fail
      go_end0
      exact ⟨rfl, w5, hb5, HG5.out, rfl⟩)
  · have q2 : ¬ (2 * (n : Int) < (room : Int)) := by omega
    rw [show ((N : Nat) : Int) = (room : Int) by omega] at HM
    clear c1 c2
    go_enter Tryz.func131, Tryz.ntmps131
    go_wp2_with fail
    go_region
    clear HM
    obtain ⟨W1, hW1⟩ : ∃ W1, (w.alloc (.cells (flat encQ (List.replicate N none)).toArray 87)).drew = W1 := ⟨_, rfl⟩
    have HG1 : Hid (W1.heap[w.heap.size]? = some (.cells (flat encQ (List.replicate N none)).toArray 87 (0, 0))) := by show _ = _; rw [← hW1]; exact heap_alloc_new w _
    have hB1 : Below w.heap.size w W1 := by rw [← hW1]; exact ((Below.refl _ w).alloc (Nat.le_refl _) _).drew
    rw [hW1]
    clear hW1
    have d1 := (hB1.cell (p := ⟨g, 1, none⟩) hgN).trans h1
    have d2 := (hB1.cell (p := ⟨g, 2, none⟩) hgN).trans h2
    have e1 : (front : Int) ≤ (n : Int) := by omega
    have e2 : ¬ (n = front) := by omega
    have HS1 : Hid (∀ W, Below w.heap.size w W → ∀ j v, (flat encQ (zs.drop front))[j]? = some v → W.cell? ((⟨b, front, none⟩ : Addr).add j) = some v) := fun W hW j v hj => by
      have hj' : (flat encQ zs)[front + j]? = some v := by
        rw [← List.getElem?_drop, show front = front * 1 by omega, flat_drop encQ 1 (fun _ => rfl)]; exact hj
      rw [Addr.add_lit]
      exact blk_cell ((hW.block b (blk_lt HROW.out)).trans HROW.out) (by rw [List.getElem?_toArray]; exact hj')
    have HS2 : Hid (∀ W, Below w.heap.size w W → ∀ j v, (flat encQ (zs.take front))[j]? = some v → W.cell? ((⟨b, 0, none⟩ : Addr).add j) = some v) := fun W hW j v hj => by
      have hj' : (flat encQ zs)[j]? = some v := by
        have h : (flat encQ (zs.take front)) = (flat encQ zs).take front := by rw [← flat_take encQ 1 (fun _ => rfl), Nat.mul_one]
        rw [h, List.getElem?_take] at hj
        split at hj
        · exact hj
        · cases hj
      rw [Addr.add_lit, Nat.zero_add]
      exact blk_cell ((hW.block b (blk_lt HROW.out)).trans HROW.out) (by rw [List.getElem?_toArray]; exact hj')
    have HL1 : Hid ((flat encQ (zs.drop front)).length = (n - front) * 1) := by show _ = _; rw [flat_len encQ 1 (fun _ => rfl), List.length_drop, HLEN.out]
    have HL2 : Hid ((flat encQ (zs.take front)).length = front * 1) := by show _ = _; rw [flat_len encQ 1 (fun _ => rfl), List.length_take, HLEN.out]; congr 1; omega
    have HL0 : Hid ((flat encQ (List.replicate N none)).length = N) := by show _ = _; rw [flat_len encQ 1 (fun _ => rfl), List.length_replicate, Nat.mul_one]
    have HFIN : Hid (splice (splice (flat encQ (List.replicate N none)) 0 (flat encQ (zs.drop front))) (n - front) (flat encQ (zs.take front)) = flat encQ (zs.drop front ++ zs.take front ++ List.replicate (N - n) none)) := by
      show _ = _
      have := HL0.out
      have := HL1.out
      have := HL2.out
      rw [splice_two _ _ _ _ (by omega) (by omega), flat_append, flat_append, List.append_assoc]
      congr 2
      rw [HL2.out, show n - front + front * 1 = n * 1 by omega, flat_drop encQ 1 (fun _ => rfl), List.drop_replicate]
    obtain ⟨Z0, hZ0⟩ : ∃ Z0, flat encQ (List.replicate N none) = Z0 := ⟨_, rfl⟩
    obtain ⟨A1, hA1⟩ : ∃ A1, flat encQ (zs.drop front) = A1 := ⟨_, rfl⟩
    obtain ⟨A2, hA2⟩ : ∃ A2, flat encQ (zs.take front) = A2 := ⟨_, rfl⟩
    have M1 : Hid (∀ v ∈ A1, v.oneCell' = true) := by show ∀ v ∈ A1, _; rw [← hA1]; exact fun v => mem_flatQ
    have M2 : Hid (∀ v ∈ A2, v.oneCell' = true) := by show ∀ v ∈ A2, _; rw [← hA2]; exact fun v => mem_flatQ
    rw [hZ0] at HG1 HL0 HFIN
    rw [hA1] at HS1 HL1 HFIN
    rw [hA2] at HS2 HL2 HFIN
    clear hZ0 hA1 hA2
    go_wp2_with fail
    go_region_law (refine step_copy_sized rfl (.tmp 17) (.tmp 26) 131 131 rfl 87 1 Tryz.underlying131 Tryz.size87 _ _ _ _ _ _ rfl rfl w.heap.size 0 Z0 87 HG1.out A1 (n - front) (Nat.min_eq_left (by omega)).symm HL1.out (fun _ => ⟨rfl, _, rfl, fun j v hj => by first | exact HS1.out _ hB1.drew j v hj | simpa using HS1.out _ hB1.drew j v hj⟩) (by rw [HL1.out, HL0.out]; omega) M1.out w.heap.size w hB1.drew (Nat.le_refl _) ?_; intro w4 hg4 hb4)
    all_goals (
      have f1 := (hb4.cell (p := ⟨g, 1, none⟩) hgN).trans h1
      have f2 := (hb4.cell (p := ⟨g, 2, none⟩) hgN).trans h2
      have e3 : ((n - front : Nat) : Int) ≤ (N : Int) := by omega
      have e4 : ¬ (N = n - front) := by omega
      have HSZ : Hid ((splice Z0 0 A1).length = N) := by show _ = _; rw [length_splice _ _ _ (by rw [HL1.out, HL0.out]; omega), HL0.out]
      have HG4 : Hid (w4.heap[w.heap.size]? = some (.cells (splice Z0 0 A1).toArray 87 (0, 0))) := hg4.out
      obtain ⟨Z1, hZ1⟩ : ∃ Z1, splice Z0 0 A1 = Z1 := ⟨_, rfl⟩
      rw [hZ1] at HG4 HFIN HSZ
      clear hg4 hZ1
      obtain ⟨k, hk⟩ : ∃ k, n - front = k := ⟨_, rfl⟩
      rw [hk] at HFIN HL1 e3 e4
      have hkf : k + front = n := by omega
      rw [hk]
      clear hk
      go_wp2_with fail
      go_region_law (refine step_copy_sized rfl (.tmp 30) (.tmp 39) 131 131 rfl 87 1 Tryz.underlying131 Tryz.size87 _ _ _ _ _ _ rfl rfl w.heap.size k Z1 87 HG4.out A2 front (Nat.min_eq_left (by omega)).symm HL2.out (fun _ => ⟨by first | rfl | simp, _, rfl, fun j v hj => HS2.out _ hb4.drew j v hj⟩) (by rw [HL2.out, HSZ.out]; omega) M2.out w.heap.size w hb4.drew (Nat.le_refl _) ?_; intro w5 hg5 hb5))
    all_goals (
      clear f1 f2
      have f1 := (hb5.cell (p := ⟨g, 1, none⟩) hgN).trans h1
      have f2 := (hb5.cell (p := ⟨g, 2, none⟩) hgN).trans h2
      have f3 := (hb5.frozen (p := ⟨g, 1, none⟩) hgN).trans (FZ.out 1)
      have f4 := (hb5.frozen (p := ⟨g, 2, none⟩) hgN).trans (FZ.out 2)
      have HG5 : Hid (w5.heap[w.heap.size]? = some (.cells (flat encQ (zs.drop front ++ zs.take front ++ List.replicate (N - n) none)).toArray 87 (0, 0))) := by show _ = _; rw [← HFIN.out]; exact hg5.out
      clear hg5
      go_wp2_with fail
      go_end0
      exact ⟨rfl, w5, hb5, HG5.out, rfl⟩)
end Go.Proofs.YtmjhfabdbajchaaGreatDoor
set_option linter.unusedVariables false
set_option linter.unusedSimpArgs false
namespace Go.Proofs.YtmjhfabdbajchaaGreatDoor
open Go.RowKit

abbrev AfQ := After (β := Option Nat) 133 87 encQ

set_option maxHeartbeats 1000000 in
theorem widenQ_nil (g room : Nat) (w : World) (hgN : g < w.heap.size) (h0 : w.cell? ⟨g, 0, none⟩ = some (.int .i64 room)) (h1 : w.cell? ⟨g, 1, none⟩ = some (.slice none 0 0)) (h2 : w.cell? ⟨g, 2, none⟩ = some (.int .i64 0))
    (fz : ∀ k, w.frozen? ⟨g, k, none⟩ = false) (hr : 1 ≤ room) :
    Calls Tryz.prog 131 #[.pointer (some ⟨g, 0, none⟩)] w fun e w' => e = .returned (.tuple #[]) ∧ ∃ W, Below w.heap.size w W ∧ W.heap[w.heap.size]? = some (.cells (flat encQ [none]).toArray 87 (0, 0)) ∧
      w' = (W.setCell ⟨g, 1, none⟩ (.slice (some ⟨w.heap.size, 0, none⟩) 1 1)).setCell ⟨g, 2, none⟩ (.int .i64 0) := by
  have HM := makeQ 1 (by omega)
  have FZ : Hid (∀ k, w.frozen? ⟨g, k, none⟩ = false) := fz
  clear fz
  rw [show List.replicate 1 (none : Option Nat) = [none] from rfl, show ((1 : Nat) : Int) = 1 from rfl] at HM
  obtain ⟨Z0, hZ0⟩ : ∃ Z0, flat encQ [none] = Z0 := ⟨_, rfl⟩
  rw [hZ0] at HM ⊢
  have HL0 : Hid (Z0.length = 1) := by show _ = _; rw [← hZ0]; rfl
  clear hZ0
  by_cases hc : 1 < room
  · have q2 : (1 : Int) < (room : Int) := by omega
    go_enter Tryz.func131, Tryz.ntmps131
    go_wp2_with fail
    go_region
    clear HM
    obtain ⟨W1, hW1⟩ : ∃ W1, (w.alloc (.cells Z0.toArray 87)).drew = W1 := ⟨_, rfl⟩
    have HG1 : Hid (W1.heap[w.heap.size]? = some (.cells Z0.toArray 87 (0, 0))) := by show _ = _; rw [← hW1]; exact heap_alloc_new w _
    have hB1 : Below w.heap.size w W1 := by rw [← hW1]; exact ((Below.refl _ w).alloc (Nat.le_refl _) _).drew
    rw [hW1]
    clear hW1
    have d1 := (hB1.cell (p := ⟨g, 1, none⟩) hgN).trans h1
    have d2 := (hB1.cell (p := ⟨g, 2, none⟩) hgN).trans h2
    go_wp2_with fail
    go_region_law (refine step_copy_sized rfl (.tmp 17) (.tmp 26) 131 131 rfl 87 1 Tryz.underlying131 Tryz.size87 _ _ _ _ _ _ rfl rfl w.heap.size 0 Z0 87 HG1.out [] 0 (by first | rfl | simp) rfl (fun h => absurd h (by omega)) (by rw [HL0.out]; exact Nat.zero_le _) (fun _ h => nomatch h) w.heap.size w hB1.drew (Nat.le_refl _) ?_; intro w4 hg4 hb4)
    all_goals (
      have f1 := (hb4.cell (p := ⟨g, 1, none⟩) hgN).trans h1
      have f2 := (hb4.cell (p := ⟨g, 2, none⟩) hgN).trans h2
      have HG4 : Hid (w4.heap[w.heap.size]? = some (.cells Z0.toArray 87 (0, 0))) := by have := hg4.out; rw [splice_nil0] at this; exact this
      clear hg4
      go_wp2_with fail
      go_region_law (refine step_copy_sized rfl (.tmp 30) (.tmp 39) 131 131 rfl 87 1 Tryz.underlying131 Tryz.size87 _ _ _ _ _ _ rfl rfl w.heap.size 0 Z0 87 HG4.out [] 0 (by first | rfl | simp) rfl (fun h => absurd h (by omega)) (by rw [HL0.out]; exact Nat.zero_le _) (fun _ h => nomatch h) w.heap.size w hb4.drew (Nat.le_refl _) ?_; intro w5 hg5 hb5))
    all_goals (
      clear f1 f2
      have f1 := (hb5.cell (p := ⟨g, 1, none⟩) hgN).trans h1
      have f2 := (hb5.cell (p := ⟨g, 2, none⟩) hgN).trans h2
      have f3 := (hb5.frozen (p := ⟨g, 1, none⟩) hgN).trans (FZ.out 1)
      have f4 := (hb5.frozen (p := ⟨g, 2, none⟩) hgN).trans (FZ.out 2)
      have HG5 : Hid (w5.heap[w.heap.size]? = some (.cells Z0.toArray 87 (0, 0))) := by have := hg5.out; rw [splice_nil0] at this; exact this
      clear hg5
      go_wp2_with fail
      go_end0
      exact ⟨rfl, w5, hb5, HG5.out, rfl⟩)
  · have q2 : ¬ ((1 : Int) < (room : Int)) := by omega
    obtain rfl : room = 1 := by omega
    go_enter Tryz.func131, Tryz.ntmps131
    go_wp2_with fail
    go_region
    clear HM
    obtain ⟨W1, hW1⟩ : ∃ W1, (w.alloc (.cells Z0.toArray 87)).drew = W1 := ⟨_, rfl⟩
    have HG1 : Hid (W1.heap[w.heap.size]? = some (.cells Z0.toArray 87 (0, 0))) := by show _ = _; rw [← hW1]; exact heap_alloc_new w _
    have hB1 : Below w.heap.size w W1 := by rw [← hW1]; exact ((Below.refl _ w).alloc (Nat.le_refl _) _).drew
    rw [hW1]
    clear hW1
    have d1 := (hB1.cell (p := ⟨g, 1, none⟩) hgN).trans h1
    have d2 := (hB1.cell (p := ⟨g, 2, none⟩) hgN).trans h2
    go_wp2_with fail
    go_region_law (refine step_copy_sized rfl (.tmp 17) (.tmp 26) 131 131 rfl 87 1 Tryz.underlying131 Tryz.size87 _ _ _ _ _ _ rfl rfl w.heap.size 0 Z0 87 HG1.out [] 0 (by first | rfl | simp) rfl (fun h => absurd h (by omega)) (by rw [HL0.out]; exact Nat.zero_le _) (fun _ h => nomatch h) w.heap.size w hB1.drew (Nat.le_refl _) ?_; intro w4 hg4 hb4)
    all_goals (
      have f1 := (hb4.cell (p := ⟨g, 1, none⟩) hgN).trans h1
      have f2 := (hb4.cell (p := ⟨g, 2, none⟩) hgN).trans h2
      have HG4 : Hid (w4.heap[w.heap.size]? = some (.cells Z0.toArray 87 (0, 0))) := by have := hg4.out; rw [splice_nil0] at this; exact this
      clear hg4
      go_wp2_with fail
      go_region_law (refine step_copy_sized rfl (.tmp 30) (.tmp 39) 131 131 rfl 87 1 Tryz.underlying131 Tryz.size87 _ _ _ _ _ _ rfl rfl w.heap.size 0 Z0 87 HG4.out [] 0 (by first | rfl | simp) rfl (fun h => absurd h (by omega)) (by rw [HL0.out]; exact Nat.zero_le _) (fun _ h => nomatch h) w.heap.size w hb4.drew (Nat.le_refl _) ?_; intro w5 hg5 hb5))
    all_goals (
      clear f1 f2
      have f1 := (hb5.cell (p := ⟨g, 1, none⟩) hgN).trans h1
      have f2 := (hb5.cell (p := ⟨g, 2, none⟩) hgN).trans h2
      have f3 := (hb5.frozen (p := ⟨g, 1, none⟩) hgN).trans (FZ.out 1)
      have f4 := (hb5.frozen (p := ⟨g, 2, none⟩) hgN).trans (FZ.out 2)
      have HG5 : Hid (w5.heap[w.heap.size]? = some (.cells Z0.toArray 87 (0, 0))) := by have := hg5.out; rw [splice_nil0] at this; exact this
      clear hg5
      go_wp2_with fail
      go_end0
      exact ⟨rfl, w5, hb5, HG5.out, rfl⟩)
end Go.Proofs.YtmjhfabdbajchaaGreatDoor
set_option linter.unusedVariables false
set_option linter.unusedSimpArgs false
namespace Go.Proofs.YtmjhfabdbajchaaGreatDoor
open Go.RowKit

theorem widenQ_any (own : Nat → Nat) (i g room front : Nat) (sv : Value) (zs l : List (Option Nat)) (w : World) (hR : RgQ own i w g room sv zs front l) (hnf : Nf own w) (hf : l.length = zs.length) (hr : zs.length < room) :
    Calls Tryz.prog 131 #[.pointer (some ⟨g, 0, none⟩)] w fun e w' => e = .returned (.tuple #[]) ∧ ∃ own' b zs', Nf own' w' ∧ Fr i own own' w w' ∧ RgQ own' i w' g room (.slice (some ⟨b, 0, none⟩) zs'.length zs'.length) zs' 0 l ∧ l.length < zs'.length := by
  have hg := blk_lt hR.blk
  rcases hR.row with ⟨rfl, rfl, rfl⟩ | ⟨b, rfl, hb, hob, hbg, hfl⟩
  · refine (widenQ_nil g room w hg hR.c0 hR.c1 hR.c2 hR.fz hR.r1).mono ?_
    rintro e w' ⟨rfl, W, hW, hrow, rfl⟩
    obtain rfl : l = [] := List.eq_nil_of_length_eq_zero hf
    obtain ⟨own', a, b, c⟩ := hR.widened hnf hW hrow rfl hR.r1 (by simp) ⟨by simp, fun i hi => absurd hi (by simp)⟩
    exact ⟨rfl, own', w.heap.size, [none], a, b, c, by simp⟩
  · have h2 := hR.r2
    obtain ⟨N, hN⟩ : ∃ N, N = min room (2 * zs.length) := ⟨_, rfl⟩
    have hlen : (zs.drop front ++ zs.take front ++ List.replicate (N - zs.length) none).length = N := by rw [List.length_append, List.length_append, List.length_drop, List.length_take, List.length_replicate]; omega
    refine (widenQ_core g room zs.length front N b none zs w rfl hg hR.c0 hR.c1 hR.c2 hR.fz hb hfl h2 (by omega) (by omega) (by omega)).mono ?_
    rintro e w' ⟨rfl, W, hW, hrow, rfl⟩
    obtain ⟨own', a, b, c⟩ := hR.widened hnf hW hrow hlen (by omega) (by omega) (hR.hold.widen (Z := List.replicate (N - zs.length) none) (by omega) hf)
    refine ⟨rfl, own', w.heap.size, _, a, b, by rw [hlen]; exact c, by rw [hlen]; omega⟩

theorem pushQ_full (g room : Nat) (x : Option Nat) (w : World) (h0 : w.cell? ⟨g, 0, none⟩ = some (.int .i64 room)) (h3 : w.cell? ⟨g, 3, none⟩ = some (.int .i64 room)) :
    Calls Tryz.prog 94 #[.pointer (some ⟨g, 0, none⟩), .pointer (pa x)] w fun e w' => e = .returned (.int .i64 50) ∧ ∃ m, w' = w.drewN m := by
  go_enter Tryz.func94, Tryz.ntmps94
  go_wp2_with fail
  go_quiet (fail)
  go_wp2_with fail
  go_ret
  exact ⟨rfl, ⟨_, rfl⟩⟩
theorem pushQ_nil (x : Option Nat) (w : World) : Calls Tryz.prog 94 #[.pointer none, .pointer (pa x)] w fun e w' => e = .returned (.int .i64 3) ∧ w' = w := by
  go_enter Tryz.func94, Tryz.ntmps94
  go_wp2_with fail
  go_ret
  exact ⟨rfl, rfl⟩

/-- Behind a push into a ring that has a free cell. -/
theorem RgQ.pushed {own : Nat → Nat} {i : Nat} {w : World} {g room b : Nat} {zs : List (Option Nat)} {front : Nat} {l : List (Option Nat)} (h : RgQ own i w g room (.slice (some ⟨b, 0, none⟩) zs.length zs.length) zs front l) (hnf : Nf own w) (hrow : w.heap[b]? = some (.cells (flat encQ zs).toArray 87 (0, 0))) (hob : own b = i) (hbg : b ≠ g) (hfr : front < zs.length) (hlt : l.length < zs.length) (x : Option Nat) :
    AfQ own i w ((w.setCell ⟨b, (front + l.length) % zs.length, none⟩ (.pointer (pa x))).setCell ⟨g, 3, none⟩ (.int .i64 ((l.length : Int) + 1))) g room (l ++ [x]) := by
  refine ⟨own, _, _, front, fun k hk => hnf k (by rw [size_set, size_set] at hk; exact hk), ((Fr.refl i own w).set' hob _ _).set' h.lab _ _, h.put ?_ ?_ hbg hob (List.length_set) hfr (h.hold.push x hlt)⟩
  · have := blk_set (blk_other h.blk (Ne.symm hbg) (k := (front + l.length) % zs.length) (.pointer (pa x))) 3 (.int .i64 ((l.length : Int) + 1))
    rw [this]; simp
  · have := blk_other (blk_set hrow ((front + l.length) % zs.length) (.pointer (pa x))) hbg (k := 3) (.int .i64 ((l.length : Int) + 1))
    rw [flatQ_set] at this
    exact this

set_option maxHeartbeats 1000000 in
theorem pushQ_in (own : Nat → Nat) (i g room front b : Nat) (zs l : List (Option Nat)) (x : Option Nat) (w : World) (hR : RgQ own i w g room (.slice (some ⟨b, 0, none⟩) zs.length zs.length) zs front l) (hnf : Nf own w) (hrow : w.heap[b]? = some (.cells (flat encQ zs).toArray 87 (0, 0))) (hob : own b = i) (hbg : b ≠ g) (hfr : front < zs.length) (hlt : l.length < zs.length) :
    Calls Tryz.prog 94 #[.pointer (some ⟨g, 0, none⟩), .pointer (pa x)] w fun e w' => e = .returned (.int .i64 0) ∧ AfQ own i w w' g room (l ++ [x]) := by
  have HEND : Hid _ := hR.pushed hnf hrow hob hbg hfr hlt x
  have h0 := hR.c0
  have h1 := hR.c1
  have h2 := hR.c2
  have h3 := hR.c3
  have fz := hR.fz 3
  have hr2 := hR.r2
  have hr3 := hR.len
  obtain ⟨p, hp⟩ : ∃ p, (front + l.length) % zs.length = p := ⟨_, rfl⟩
  have hpn : p < zs.length := by rw [← hp]; exact Nat.mod_lt _ (by omega)
  rw [hp] at HEND
  obtain ⟨y, hy⟩ : ∃ y, zs[p]? = some y := ⟨_, List.getElem?_eq_getElem hpn⟩
  have hc := blk_cell hrow (flatQ_at hy)
  have hcf : w.frozen? ⟨b, p, none⟩ = false := blk_frozen hrow
  have HC : Hid (∀ W, W.cell? ⟨g, 1, none⟩ = some (.slice (some ⟨b, 0, none⟩) zs.length zs.length) → W.cell? ⟨g, 2, none⟩ = some (.int .i64 front) → Calls Tryz.prog 132 #[.pointer (some ⟨g, 0, none⟩), .int .i64 l.length] W fun e w' => e = .returned (.int .i64 p) ∧ ∃ m, w' = W.drewN m) := fun W a b => cellQ g zs.length front l.length p _ W a b (by omega) (by omega) (by omega) hp
  clear hR hnf hrow hob hp hy
  generalize zs.length = n at *
  generalize hL : l.length = c at *
  clear hL
  have i1 : (0 : Int) ≤ (p : Int) := by omega
  have i2 : (p : Int) < (n : Int) := by omega
  have q1 : ¬ ((c : Int) = (room : Int)) := by omega
  have q2 : ¬ (c = room) := by omega
  have q3 : ¬ ((c : Int) = (n : Int)) := by omega
  have q4 : ¬ (c = n) := by omega
  have q5 : ((c : Int) == (room : Int)) = false := by simp; omega
  have q6 : ((c : Int) == (n : Int)) = false := by simp; omega
  have q7 : g ≠ b := Ne.symm hbg
  go_enter Tryz.func94, Tryz.ntmps94
  go_wp2_with fail
  go_quiet (fail)
  go_wp2_with fail
  go_quiet (fail)
  go_wp2_with fail
  go_region_with (go_at_call 132; refine (HC.out _ (by simpa using h1) (by simpa using h2)).mono ?_; rintro e w1 ⟨rfl, m, rfl⟩)
  all_goals go_wp2_with fail
  all_goals go_ret
  all_goals exact ⟨rfl, After.same HEND.out rfl rfl rfl rfl⟩

set_option maxHeartbeats 1000000 in
theorem pushQ_grow (own : Nat → Nat) (i g room front : Nat) (sv : Value) (zs l : List (Option Nat)) (x : Option Nat) (w : World) (hR : RgQ own i w g room sv zs front l) (hnf : Nf own w) (hf : l.length = zs.length) (hr : zs.length < room) :
    Calls Tryz.prog 94 #[.pointer (some ⟨g, 0, none⟩), .pointer (pa x)] w fun e w' => e = .returned (.int .i64 0) ∧ AfQ own i w w' g room (l ++ [x]) := by
  have HW : Hid (∀ m, Calls Tryz.prog 131 #[.pointer (some ⟨g, 0, none⟩)] (w.drewN m) fun e w' => e = .returned (.tuple #[]) ∧ ∃ own' b zs', Nf own' w' ∧ Fr i own own' w w' ∧ RgQ own' i w' g room (.slice (some ⟨b, 0, none⟩) zs'.length zs'.length) zs' 0 l ∧ l.length < zs'.length) := fun m =>
    (widenQ_any own i g room front sv zs l (w.drewN m) (hR.same rfl) hnf hf hr).mono (fun e w' ⟨he, own', b, zs', h1, h2, h3⟩ => ⟨he, own', b, zs', h1, ⟨h2.os, h2.tape, h2.output, h2.size, h2.block, h2.old⟩, h3⟩)
  have h0 := hR.c0
  have h1 := hR.c1
  have h2 := hR.c2
  have h3 := hR.c3
  have hr2 := hR.r2
  obtain ⟨sp, hsp⟩ : ∃ sp, sv = .slice sp zs.length zs.length := by
    rcases hR.row with ⟨rfl, rfl, _⟩ | ⟨b, rfl, _⟩
    · exact ⟨_, rfl⟩
    · exact ⟨_, rfl⟩
  rw [hsp] at h1
  rw [← hf] at h1 hr
  clear hR hnf hsp hf
  generalize hL : l.length = c at *
  have HLC : Hid (l.length = c) := hL
  clear hL
  have q1 : ¬ ((c : Int) = (room : Int)) := by omega
  have q2 : ¬ (c = room) := by omega
  have q5 : ((c : Int) == (room : Int)) = false := by simp; omega
  go_enter Tryz.func94, Tryz.ntmps94
  go_wp2_with fail
  go_quiet (fail)
  go_wp2_with fail
  go_quiet (fail)
  go_wp2_with fail
  refine (HW.out _).mono ?_
  rintro e w2 ⟨rfl, own2, b, zs2, hnf2, hfr2, hR2, hlt2⟩
  clear h0 h1 h2 h3
  have hrow := hR2.row
  rcases hrow with ⟨_, h, _⟩ | ⟨b', hb', hrow, hob, hbg, hfl⟩
  · cases h
  · obtain rfl : b' = b := by cases hb'; rfl
    clear hb'
    have HEND : Hid (AfQ own i w _ g room (l ++ [x])) := After.trans hfr2 (hR2.pushed hnf2 hrow hob hbg hfl (by rw [HLC.out]; exact hlt2) x)
    have h0 := hR2.c0
    have h1 := hR2.c1
    have h2 := hR2.c2
    have h3 := hR2.c3
    have fz := hR2.fz 3
    have hr3 := hR2.len
    rw [HLC.out] at HEND h3
    obtain ⟨p, hp⟩ : ∃ p, (0 + c) % zs2.length = p := ⟨_, rfl⟩
    have hpn : p < zs2.length := by rw [← hp]; exact Nat.mod_lt _ (by omega)
    rw [hp] at HEND
    obtain ⟨y, hy⟩ : ∃ y, zs2[p]? = some y := ⟨_, List.getElem?_eq_getElem hpn⟩
    have hc := blk_cell hrow (flatQ_at hy)
    have hcf : w2.frozen? ⟨b', p, none⟩ = false := blk_frozen hrow
    have HC : Hid (∀ W, W.cell? ⟨g, 1, none⟩ = some (.slice (some ⟨b', 0, none⟩) zs2.length zs2.length) → W.cell? ⟨g, 2, none⟩ = some (.int .i64 (0 : Nat)) → Calls Tryz.prog 132 #[.pointer (some ⟨g, 0, none⟩), .int .i64 c] W fun e w' => e = .returned (.int .i64 p) ∧ ∃ m, w' = W.drewN m) := fun W a b => cellQ g zs2.length 0 c p _ W a b (by omega) (by omega) (by omega) hp
    clear hR2 hnf2 hfr2 hrow hob hp hy HW
    generalize zs2.length = n at *
    have i1 : (0 : Int) ≤ (p : Int) := by omega
    have i2 : (p : Int) < (n : Int) := by omega
    have q7 : g ≠ b' := Ne.symm hbg
    go_wp2_with fail
    go_region_with (go_at_call 132; refine (HC.out _ (by simpa using h1) (by simpa using h2)).mono ?_; rintro e w1 ⟨rfl, m, rfl⟩)
    all_goals go_wp2_with fail
    all_goals go_ret
    all_goals exact ⟨rfl, After.same HEND.out rfl rfl rfl rfl⟩

/-- A push where there is room. -/
theorem pushQ_any (own : Nat → Nat) (i g room front : Nat) (sv : Value) (zs l : List (Option Nat)) (x : Option Nat) (w : World) (hR : RgQ own i w g room sv zs front l) (hnf : Nf own w) (hr : l.length < room) :
    Calls Tryz.prog 94 #[.pointer (some ⟨g, 0, none⟩), .pointer (pa x)] w fun e w' => e = .returned (.int .i64 0) ∧ AfQ own i w w' g room (l ++ [x]) := by
  have hle := hR.hold.1
  by_cases hf : l.length = zs.length
  · exact pushQ_grow own i g room front sv zs l x w hR hnf hf (by omega)
  · have hrow := hR.row
    rcases hrow with ⟨rfl, _, _⟩ | ⟨b, rfl, h1, h2, h3, h4⟩
    · rw [List.length_nil] at hle hf; omega
    · exact pushQ_in own i g room front b zs l x w hR hnf h1 h2 h3 h4 (by omega)
end Go.Proofs.YtmjhfabdbajchaaGreatDoor
set_option linter.unusedVariables false
set_option linter.unusedSimpArgs false
namespace Go.Proofs.YtmjhfabdbajchaaGreatDoor
open Go.RowKit

theorem popFQ_nil (w : World) : Calls Tryz.prog 106 #[.pointer none] w fun e w' => e = .returned (.tuple #[.pointer none, .int .i64 3]) ∧ w' = w := by
  go_enter Tryz.func106, Tryz.ntmps106
  go_wp2_with fail
  refine (someQ_nil _).mono ?_
  rintro e w1 ⟨rfl, rfl⟩
  go_wp2_with fail
  go_ret2
  exact ⟨rfl, rfl⟩
theorem popFQ_empty (g : Nat) (w : World) (h3 : w.cell? ⟨g, 3, none⟩ = some (.int .i64 0)) : Calls Tryz.prog 106 #[.pointer (some ⟨g, 0, none⟩)] w fun e w' => e = .returned (.tuple #[.pointer none, .int .i64 51]) ∧ w' = w := by
  go_enter Tryz.func106, Tryz.ntmps106
  go_wp2_with fail
  refine (someQ_empty g w h3).mono ?_
  rintro e w1 ⟨rfl, rfl⟩
  go_wp2_with fail
  go_ret2
  exact ⟨rfl, rfl⟩
theorem popBQ_nil (w : World) : Calls Tryz.prog 139 #[.pointer none] w fun e w' => e = .returned (.tuple #[.pointer none, .int .i64 3]) ∧ w' = w := by
  go_enter Tryz.func139, Tryz.ntmps139
  go_wp2_with fail
  refine (someQ_nil _).mono ?_
  rintro e w1 ⟨rfl, rfl⟩
  go_wp2_with fail
  go_ret2
  exact ⟨rfl, rfl⟩
theorem popBQ_empty (g : Nat) (w : World) (h3 : w.cell? ⟨g, 3, none⟩ = some (.int .i64 0)) : Calls Tryz.prog 139 #[.pointer (some ⟨g, 0, none⟩)] w fun e w' => e = .returned (.tuple #[.pointer none, .int .i64 51]) ∧ w' = w := by
  go_enter Tryz.func139, Tryz.ntmps139
  go_wp2_with fail
  refine (someQ_empty g w h3).mono ?_
  rintro e w1 ⟨rfl, rfl⟩
  go_wp2_with fail
  go_ret2
  exact ⟨rfl, rfl⟩

/-- Behind a pop: a cell cleared, front and count as they are then. -/
theorem RgQ.popped {own : Nat → Nat} {i : Nat} {w : World} {g room b : Nat} {zs : List (Option Nat)} {front : Nat} {l l' : List (Option Nat)} (h : RgQ own i w g room (.slice (some ⟨b, 0, none⟩) zs.length zs.length) zs front l) (hnf : Nf own w) (hrow : w.heap[b]? = some (.cells (flat encQ zs).toArray 87 (0, 0))) (hob : own b = i) (hbg : b ≠ g) (p front' : Nat) (hfr : front' < zs.length) (c : Int) (hc : c = (l'.length : Int)) (hh : Holds (zs.set p none) front' l') :
    AfQ own i w (((w.setCell ⟨b, p, none⟩ (.pointer none)).setCell ⟨g, 2, none⟩ (.int .i64 front')).setCell ⟨g, 3, none⟩ (.int .i64 c)) g room l' := by
  subst hc
  refine ⟨own, _, _, front', fun k hk => hnf k (by rw [size_set, size_set, size_set] at hk; exact hk), (((Fr.refl i own w).set' hob _ _).set' h.lab _ _).set' h.lab _ _, h.put ?_ ?_ hbg hob (List.length_set) hfr hh⟩
  · have := blk_set (blk_set (blk_other h.blk (Ne.symm hbg) (k := p) (.pointer none)) 2 (.int .i64 front')) 3 (.int .i64 (l'.length : Int))
    rw [this]; simp
  · have := blk_other (blk_other (blk_set hrow p (.pointer none)) hbg (k := 2) (.int .i64 front')) hbg (k := 3) (.int .i64 (l'.length : Int))
    rw [flatQ_clr] at this
    exact this
theorem RgQ.poppedB {own : Nat → Nat} {i : Nat} {w : World} {g room b : Nat} {zs : List (Option Nat)} {front : Nat} {l l' : List (Option Nat)} (h : RgQ own i w g room (.slice (some ⟨b, 0, none⟩) zs.length zs.length) zs front l) (hnf : Nf own w) (hrow : w.heap[b]? = some (.cells (flat encQ zs).toArray 87 (0, 0))) (hob : own b = i) (hbg : b ≠ g) (p : Nat) (hfr : front < zs.length) (c : Int) (hc : c = (l'.length : Int)) (hh : Holds (zs.set p none) front l') :
    AfQ own i w ((w.setCell ⟨b, p, none⟩ (.pointer none)).setCell ⟨g, 3, none⟩ (.int .i64 c)) g room l' := by
  subst hc
  refine ⟨own, _, _, front, fun k hk => hnf k (by rw [size_set, size_set] at hk; exact hk), ((Fr.refl i own w).set' hob _ _).set' h.lab _ _, h.put ?_ ?_ hbg hob (List.length_set) hfr hh⟩
  · have := blk_set (blk_other h.blk (Ne.symm hbg) (k := p) (.pointer none)) 3 (.int .i64 (l'.length : Int))
    rw [this]; simp
  · have := blk_other (blk_set hrow p (.pointer none)) hbg (k := 3) (.int .i64 (l'.length : Int))
    rw [flatQ_clr] at this
    exact this
theorem RgQ.putAt {own : Nat → Nat} {i : Nat} {w : World} {g room b : Nat} {zs : List (Option Nat)} {front : Nat} {l l' : List (Option Nat)} (h : RgQ own i w g room (.slice (some ⟨b, 0, none⟩) zs.length zs.length) zs front l) (hnf : Nf own w) (hrow : w.heap[b]? = some (.cells (flat encQ zs).toArray 87 (0, 0))) (hob : own b = i) (hbg : b ≠ g) (p : Nat) (x : Option Nat) (hfr : front < zs.length) (hc : l'.length = l.length) (hh : Holds (zs.set p x) front l') :
    AfQ own i w (w.setCell ⟨b, p, none⟩ (.pointer (pa x))) g room l' := by
  refine ⟨own, _, _, front, fun k hk => hnf k (by rw [size_set] at hk; exact hk), (Fr.refl i own w).set' hob _ _, h.put ?_ ?_ hbg hob (List.length_set) hfr hh⟩
  · rw [hc]; exact blk_other h.blk (Ne.symm hbg) (k := p) (.pointer (pa x))
  · have := blk_set hrow p (.pointer (pa x))
    rw [flatQ_set] at this
    exact this

set_option maxHeartbeats 1000000 in
theorem popFQ_any (own : Nat → Nat) (i g room front : Nat) (sv : Value) (zs l : List (Option Nat)) (x : Option Nat) (w : World) (hR : RgQ own i w g room sv zs front l) (hnf : Nf own w) (hx : l[0]? = some x) :
    Calls Tryz.prog 106 #[.pointer (some ⟨g, 0, none⟩)] w fun e w' => e = .returned (.tuple #[.pointer (pa x), .int .i64 0]) ∧ AfQ own i w w' g room l.tail := by
  have hlp : 0 < l.length := (List.getElem?_eq_some_iff.1 hx).1
  obtain ⟨b, rfl, hrow, hob, hbg, hfl⟩ := hR.nonempty hlp
  have hle := hR.hold.1
  have hr2 := hR.r2
  have hr3 := hR.len
  have h1 := hR.c1
  have h2 := hR.c2
  have h3 := hR.c3
  have fz2 := hR.fz 2
  have fz3 := hR.fz 3
  obtain ⟨p, hp⟩ : ∃ p, (front + 0) % zs.length = p := ⟨_, rfl⟩
  obtain ⟨q, hq⟩ : ∃ q, (front + 1) % zs.length = q := ⟨_, rfl⟩
  have hpn : p < zs.length := by rw [← hp]; exact Nat.mod_lt _ (by omega)
  have hqn : q < zs.length := by rw [← hq]; exact Nat.mod_lt _ (by omega)
  have hy : zs[p]? = some x := by rw [← hp, ← hR.hold.2 0 hlp]; exact hx
  have HEND : Hid _ := hR.popped hnf hrow hob hbg p q hqn ((l.length : Int) - 1) (l' := l.tail) (by rw [List.length_tail]; omega) (by have := hR.hold.popFront none hlp; rw [hp, hq] at this; exact this)
  have hc := blk_cell hrow (flatQ_at hy)
  have hcf : w.frozen? ⟨b, p, none⟩ = false := blk_frozen hrow
  have HS : Hid (Calls Tryz.prog 136 #[.pointer (some ⟨g, 0, none⟩)] w fun e w' => e = .returned (.int .i64 0) ∧ w' = w) := someQ g l.length w h3 hlp
  have HE : Hid (Calls Tryz.prog 137 #[.pointer (some ⟨g, 0, none⟩), .int .i64 0] w fun e w' => e = .returned (.pointer (pa x)) ∧ ∃ m, w' = (w.drewN m).setCell ⟨b, p, none⟩ (.pointer none)) := emptyQ g zs.length front 0 p b x w h1 h2 hpn (by omega) (by omega) hp hc hcf
  have HC : Hid (∀ W, W.cell? ⟨g, 1, none⟩ = some (.slice (some ⟨b, 0, none⟩) zs.length zs.length) → W.cell? ⟨g, 2, none⟩ = some (.int .i64 front) → Calls Tryz.prog 132 #[.pointer (some ⟨g, 0, none⟩), .int .i64 1] W fun e w' => e = .returned (.int .i64 q) ∧ ∃ m, w' = W.drewN m) := fun W a b => cellQ g zs.length front 1 q _ W a b (by omega) (by omega) (by omega) hq
  clear hnf hrow hob hp hq hy hx
  have q7 : g ≠ b := Ne.symm hbg
  have D1 : Hid (∀ m, ((w.drewN m).setCell ⟨b, p, none⟩ (.pointer none)).cell? ⟨g, 1, none⟩ = some (.slice (some ⟨b, 0, none⟩) zs.length zs.length) ∧ ((w.drewN m).setCell ⟨b, p, none⟩ (.pointer none)).cell? ⟨g, 2, none⟩ = some (.int .i64 front)) := fun m => by
    have := blk_other (W := w.drewN m) (k := p) hR.blk q7 (.pointer none)
    exact ⟨blk_cell this rfl, blk_cell this rfl⟩
  clear hR
  generalize zs.length = n at *
  generalize hL : l.length = c at *
  clear hL
  go_enter Tryz.func106, Tryz.ntmps106
  go_wp2_with fail
  refine HS.out.mono ?_
  rintro e w1 ⟨rfl, rfl⟩
  go_wp2_with fail
  refine HE.out.mono ?_
  rintro e w2 ⟨rfl, m, rfl⟩
  go_wp2_with fail
  refine (HC.out _ (D1.out m).1 (D1.out m).2).mono ?_
  rintro e w3 ⟨rfl, m2, rfl⟩
  go_wp2_with fail
  go_ret2
  exact ⟨rfl, After.same HEND.out rfl rfl rfl rfl⟩

set_option maxHeartbeats 1000000 in
theorem popBQ_any (own : Nat → Nat) (i g room front : Nat) (sv : Value) (zs l : List (Option Nat)) (x : Option Nat) (w : World) (hR : RgQ own i w g room sv zs front l) (hnf : Nf own w) (hlp : 0 < l.length) (hx : l[l.length - 1]? = some x) :
    Calls Tryz.prog 139 #[.pointer (some ⟨g, 0, none⟩)] w fun e w' => e = .returned (.tuple #[.pointer (pa x), .int .i64 0]) ∧ AfQ own i w w' g room l.dropLast := by
  obtain ⟨b, rfl, hrow, hob, hbg, hfl⟩ := hR.nonempty hlp
  have hle := hR.hold.1
  have hr2 := hR.r2
  have hr3 := hR.len
  have h1 := hR.c1
  have h2 := hR.c2
  have h3 := hR.c3
  have fz3 := hR.fz 3
  obtain ⟨p, hp⟩ : ∃ p, (front + (l.length - 1)) % zs.length = p := ⟨_, rfl⟩
  have hpn : p < zs.length := by rw [← hp]; exact Nat.mod_lt _ (by omega)
  have hy : zs[p]? = some x := by rw [← hp, ← hR.hold.2 (l.length - 1) (by omega)]; exact hx
  have HEND : Hid _ := hR.poppedB hnf hrow hob hbg p hfl ((l.length : Int) - 1) (l' := l.dropLast) (by rw [List.length_dropLast]; omega) (by have := hR.hold.popBack none hlp; rw [hp] at this; exact this)
  have hc := blk_cell hrow (flatQ_at hy)
  have hcf : w.frozen? ⟨b, p, none⟩ = false := blk_frozen hrow
  have HS : Hid (Calls Tryz.prog 136 #[.pointer (some ⟨g, 0, none⟩)] w fun e w' => e = .returned (.int .i64 0) ∧ w' = w) := someQ g l.length w h3 hlp
  have HE : Hid (Calls Tryz.prog 137 #[.pointer (some ⟨g, 0, none⟩), .int .i64 ((l.length : Int) - 1)] w fun e w' => e = .returned (.pointer (pa x)) ∧ ∃ m, w' = (w.drewN m).setCell ⟨b, p, none⟩ (.pointer none)) := by
    have := emptyQ g zs.length front (l.length - 1) p b x w h1 h2 hpn (by omega) (by omega) hp hc hcf
    rw [show ((l.length - 1 : Nat) : Int) = (l.length : Int) - 1 by omega] at this
    exact this
  clear hnf hrow hob hp hy hx
  have q7 : g ≠ b := Ne.symm hbg
  clear hR
  generalize zs.length = n at *
  generalize hL : l.length = c at *
  clear hL
  go_enter Tryz.func139, Tryz.ntmps139
  go_wp2_with fail
  refine HS.out.mono ?_
  rintro e w1 ⟨rfl, rfl⟩
  go_wp2_with fail
  refine HE.out.mono ?_
  rintro e w2 ⟨rfl, m, rfl⟩
  go_wp2_with fail
  go_ret2
  exact ⟨rfl, After.same HEND.out rfl rfl rfl rfl⟩

theorem atQ_nil (k : Int) (w : World) : Calls Tryz.prog 127 #[.pointer none, .int .i64 k] w fun e w' => e = .returned (.tuple #[.pointer none, .int .i64 3]) ∧ w' = w := by
  go_enter Tryz.func127, Tryz.ntmps127
  go_wp2_with fail
  refine (withinQ_nil _ _).mono ?_
  rintro e w1 ⟨rfl, rfl⟩
  go_wp2_with fail
  go_ret2
  exact ⟨rfl, rfl⟩
theorem withinQ_bad (g c : Nat) (k : Int) (w : World) (h : w.cell? ⟨g, 3, none⟩ = some (.int .i64 c)) (hk : k < 0 ∨ (c : Int) ≤ k) : Calls Tryz.prog 145 #[.pointer (some ⟨g, 0, none⟩), .int .i64 k] w fun e w' => e = .returned (.int .i64 1) ∧ w' = w := by
  rcases hk with hk | hk
  · exact withinQ_neg g k w hk
  · exact withinQ_out g c k w h hk
theorem atQ_bad (g c : Nat) (k : Int) (w : World) (h : w.cell? ⟨g, 3, none⟩ = some (.int .i64 c)) (hk : k < 0 ∨ (c : Int) ≤ k) : Calls Tryz.prog 127 #[.pointer (some ⟨g, 0, none⟩), .int .i64 k] w fun e w' => e = .returned (.tuple #[.pointer none, .int .i64 1]) ∧ w' = w := by
  have H : Hid (Calls Tryz.prog 145 #[.pointer (some ⟨g, 0, none⟩), .int .i64 k] w fun e w' => e = .returned (.int .i64 1) ∧ w' = w) := withinQ_bad g c k w h hk
  clear h hk
  go_enter Tryz.func127, Tryz.ntmps127
  go_wp2_with fail
  refine (Hid.out H).mono ?_
  rintro e w1 ⟨rfl, rfl⟩
  go_wp2_with fail
  go_ret2
  exact ⟨rfl, rfl⟩
set_option maxHeartbeats 1000000 in
theorem atQ_any (own : Nat → Nat) (i g room front k : Nat) (sv : Value) (zs l : List (Option Nat)) (x : Option Nat) (w : World) (hR : RgQ own i w g room sv zs front l) (hx : l[k]? = some x) :
    Calls Tryz.prog 127 #[.pointer (some ⟨g, 0, none⟩), .int .i64 k] w fun e w' => e = .returned (.tuple #[.pointer (pa x), .int .i64 0]) ∧ ∃ m, w' = w.drewN m := by
  have hkl : k < l.length := (List.getElem?_eq_some_iff.1 hx).1
  obtain ⟨b, rfl, hrow, hob, hbg, hfl⟩ := hR.nonempty (by omega)
  have hle := hR.hold.1
  have hr2 := hR.r2
  have hr3 := hR.len
  have h1 := hR.c1
  have h2 := hR.c2
  have h3 := hR.c3
  obtain ⟨p, hp⟩ : ∃ p, (front + k) % zs.length = p := ⟨_, rfl⟩
  have hpn : p < zs.length := by rw [← hp]; exact Nat.mod_lt _ (by omega)
  have hy : zs[p]? = some x := by rw [← hp, ← hR.hold.2 k hkl]; exact hx
  have hc := blk_cell hrow (flatQ_at hy)
  have HS : Hid (Calls Tryz.prog 145 #[.pointer (some ⟨g, 0, none⟩), .int .i64 k] w fun e w' => e = .returned (.int .i64 0) ∧ w' = w) := withinQ g l.length k w h3 hkl
  have HC : Hid (∀ W, W.cell? ⟨g, 1, none⟩ = some (.slice (some ⟨b, 0, none⟩) zs.length zs.length) → W.cell? ⟨g, 2, none⟩ = some (.int .i64 front) → Calls Tryz.prog 132 #[.pointer (some ⟨g, 0, none⟩), .int .i64 k] W fun e w' => e = .returned (.int .i64 p) ∧ ∃ m, w' = W.drewN m) := fun W a b => cellQ g zs.length front k p _ W a b (by omega) (by omega) (by omega) hp
  clear hR hrow hob hp hy hx hkl
  generalize zs.length = n at *
  have i1 : (0 : Int) ≤ (p : Int) := by omega
  have i2 : (p : Int) < (n : Int) := by omega
  go_enter Tryz.func127, Tryz.ntmps127
  go_wp2_with fail
  refine HS.out.mono ?_
  rintro e w1 ⟨rfl, rfl⟩
  go_wp2_with fail
  go_quiet ((go_at_call 132; exact Calls.quiet_of (HC.out _ (by simpa using h1) (by simpa using h2))))
  go_wp2_with fail
  go_ret2
  exact ⟨rfl, ⟨_, rfl⟩⟩

end Go.Proofs.YtmjhfabdbajchaaGreatDoor
