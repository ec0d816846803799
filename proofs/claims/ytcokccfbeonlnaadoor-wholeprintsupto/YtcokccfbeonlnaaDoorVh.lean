import Derived.Test.YtcokccfbeonlnaaDoorVg
set_option linter.unusedVariables false
set_option linter.unusedSimpArgs false
namespace Go.Proofs.YtcokccfbeonlnaaDoor
open Go.RowKit

theorem fits_eq {N need wide : Nat} {p : Pr} (hN : N ≤ 4096) (hw : need = min wide 4097) : p.fits N need = decide ((wide : Int) ≤ (N : Int) - (p.at : Nat)) := by
  unfold Pr.fits
  rw [decide_eq_decide]
  omega
theorem pblock_pg {B g N : Nat} {W : World} {p : Pr} (h : Pg B W g N p) (hl : p.ar.length ≤ 100000000) : Calls Tryd.prog 53 #[.pointer (some ⟨g, 0, none⟩)] W fun e w' => e = .returned (.agg #[.int .i64 (p.bl.ind : Int), .bool p.bl.ev, .bool p.bl.ft]) ∧ Below W.heap.size W w' := by
  obtain ⟨vo, vb, sm, em, h⟩ := h
  exact pblock_any h.cells.2.2.2.2.2.2.2 h.pbs hl
theorem room_pg {B g N : Nat} {W : World} {p : Pr} (h : Pg B W g N p) (hN : N ≤ 4096) (hl : p.at ≤ 1000000000) : Calls Tryd.prog 54 #[.pointer (some ⟨g, 0, none⟩)] W fun e w' => e = .returned (.int .i64 ((N : Int) - (p.at : Nat))) ∧ Below W.heap.size W w' := by
  obtain ⟨vo, vb, sm, em, h⟩ := h
  exact room_any h hN hl
set_option maxHeartbeats 1000000 in
theorem prn_brk {B g N : Nat} {W : World} {p : Pr} (h : Pg B W g N p) (hB : B ≤ W.heap.size) (hN : N ≤ 4096) (hl : p.at ≤ 1000000000) (ho : p.sk.out.length ≤ 1000000000) (ha : p.ar.length ≤ 100000000) (hi : p.bl.ind ≤ 1000) (m : Nat) (hm : m ≤ 1000) (wide need : Nat) (hwd : wide ≤ 1099511627776) (hw : need = min wide 4097) :
    Calls Tryd.prog 28 #[.pointer (some ⟨g, 0, none⟩), .agg #[.int .u8 3, .string bE, .int .i64 (m : Int), .int .i64 0, .bool false], .int .i64 (wide : Int)] W fun e w' => e = .returned (.tuple #[]) ∧ Pg B w' g N (put N ⟨3, bE, m, 0, false⟩ need p) ∧ Below B W w' := by
  have e : put N ⟨3, bE, m, 0, false⟩ need p = if p.brk N need then p.endl else p.hold m := by simp [put]
  rw [e]
  have hfit := fits_eq (p := p) hN hw
  have hbr : p.brk N need = if p.bl.ev then !p.bl.ft else !p.fits N need := rfl
  have HP : Hid (∀ V, Below W.heap.size W V → Pg B V g N p ∧ B ≤ V.heap.size ∧ Below B W V) := fun V hV => ⟨h.below hV, Nat.le_trans hB hV.size, hV.mono hB⟩
  have H53 : Hid (∀ V, Below W.heap.size W V → Calls Tryd.prog 53 #[.pointer (some ⟨g, 0, none⟩)] V fun e w' => e = .returned (.agg #[.int .i64 (p.bl.ind : Int), .bool p.bl.ev, .bool p.bl.ft]) ∧ Below V.heap.size V w') := fun V hV => pblock_pg (HP.out V hV).1 ha
  have H54 : Hid (∀ V, Below W.heap.size W V → Calls Tryd.prog 54 #[.pointer (some ⟨g, 0, none⟩)] V fun e w' => e = .returned (.int .i64 ((N : Int) - (p.at : Nat))) ∧ Below V.heap.size V w') := fun V hV => room_pg (HP.out V hV).1 hN hl
  have H52 : Hid (∀ V, Below W.heap.size W V → Calls Tryd.prog 52 #[.pointer (some ⟨g, 0, none⟩)] V fun e w' => e = .returned (.tuple #[]) ∧ Hid (Pg B w' g N p.endl ∧ Below B W w')) := fun V hV => (pends_any (HP.out V hV).1 (HP.out V hV).2.1 hl ho ha hi).mono fun e w' ⟨a1, a2, a3⟩ => ⟨a1, a2, (HP.out V hV).2.2.trans a3⟩
  have H51 : Hid (∀ V, Below W.heap.size W V → Calls Tryd.prog 51 #[.pointer (some ⟨g, 0, none⟩), .int .i64 (m : Int)] V fun e w' => e = .returned (.tuple #[]) ∧ Hid (Pg B w' g N (p.hold m) ∧ Below B W w')) := fun V hV => (pblanks_any (HP.out V hV).1 (HP.out V hV).2.1 m (by omega) hl).mono fun e w' ⟨a1, a2, a3⟩ => ⟨a1, a2, (HP.out V hV).2.2.trans a3⟩
  obtain ⟨Q, hQ⟩ : ∃ Q : Pr, (if p.brk N need then p.endl else p.hold m) = Q := ⟨_, rfl⟩
  rw [hQ]
  rw [hbr, hfit] at hQ
  have HQ : Hid ((if (if p.bl.ev then !p.bl.ft else !decide ((wide : Int) ≤ (N : Int) - (p.at : Nat))) then p.endl else p.hold m) = Q) := hQ
  clear hQ hbr hfit e h HP
  generalize p.bl.ind = bi at *
  generalize p.bl.ev = be at *
  generalize p.bl.ft = bf at *
  generalize p.at = a at *
  generalize p.endl = P1 at *
  generalize p.hold m = P2 at *
  have hbd : ∀ o, Below W.heap.size W (W.alloc o) := fun o => (Below.refl _ _).alloc (Nat.le_refl _) _
  have HBD : Hid (∀ o, Below W.heap.size W (W.alloc o)) := hbd
  clear hbd
  cases be with
  | false =>
    by_cases hr : (wide : Int) ≤ (N : Int) - (a : Nat)
    · have hq : ¬ ((N : Int) - (a : Nat) < wide) := by omega
      simp only [hr, Bool.false_eq_true, if_false, decide_true, Bool.not_true] at HQ
      go_enter Tryd.func28, Tryd.ntmps28
      go_wp2_with (first | (go_at_call 53; refine (H53.out _ (HBD.out _)).mono ?_; rintro e w2 ⟨rfl, hb2⟩; have hbw2 : Below W.heap.size W w2 := (HBD.out _).trans (hb2.mono (HBD.out _).size); have HB2 : Hid (∀ o, Below W.heap.size W (w2.alloc o)) := (fun o => hbw2.alloc hbw2.size _); have hdb := (blk_below (new_at W (.cells #[.int .u8 3, .string bE, .int .i64 (m : Int), .int .i64 0, .bool false] 26)) hb2); have dw : ∀ o, (w2.alloc o).cell? ⟨W.heap.size, 2, none⟩ = some (.int .i64 (m : Int)) := (fun o => blk_cell (blk_below hdb ((Below.refl _ _).alloc (Nat.le_refl _) o)) rfl); clear hb2 hbw2 hdb) | (go_at_call 54; refine (H54.out _ (HB2.out _)).mono ?_; rintro e w3 ⟨rfl, hb3⟩; have HB3 : Hid (Below W.heap.size W w3) := (HB2.out _).trans (hb3.mono (HB2.out _).size); have hbb := (blk_below (new_at w2 (.cells #[.int .i64 (bi : Int), .bool false, .bool bf] 98)) hb3); have z1 := blk_cell (k := 1) hbb rfl; have z2 := blk_cell (k := 2) hbb rfl; have z3 : w3.cell? ⟨W.heap.size, 2, none⟩ = some (.int .i64 (m : Int)) := ((hb3.cell (World.block_lt_of_cell? _ _ (dw _))).trans (dw _)); clear hb3 hbb) | (go_at_call 52; refine (H52.out _ (by first | exact HB3.out | exact HB2.out _)).mono ?_; rintro e w4 ⟨rfl, HE⟩) | (go_at_call 51; refine (H51.out _ (by first | exact HB3.out | exact HB2.out _)).mono ?_; rintro e w4 ⟨rfl, HE⟩))
      go_end0
      exact ⟨rfl, by rw [← HQ.out]; exact HE.out⟩
    · have hq : (N : Int) - (a : Nat) < wide := by omega
      simp only [hr, Bool.false_eq_true, if_false, decide_false, Bool.not_false, if_true] at HQ
      go_enter Tryd.func28, Tryd.ntmps28
      go_wp2_with (first | (go_at_call 53; refine (H53.out _ (HBD.out _)).mono ?_; rintro e w2 ⟨rfl, hb2⟩; have hbw2 : Below W.heap.size W w2 := (HBD.out _).trans (hb2.mono (HBD.out _).size); have HB2 : Hid (∀ o, Below W.heap.size W (w2.alloc o)) := (fun o => hbw2.alloc hbw2.size _); have hdb := (blk_below (new_at W (.cells #[.int .u8 3, .string bE, .int .i64 (m : Int), .int .i64 0, .bool false] 26)) hb2); have dw : ∀ o, (w2.alloc o).cell? ⟨W.heap.size, 2, none⟩ = some (.int .i64 (m : Int)) := (fun o => blk_cell (blk_below hdb ((Below.refl _ _).alloc (Nat.le_refl _) o)) rfl); clear hb2 hbw2 hdb) | (go_at_call 54; refine (H54.out _ (HB2.out _)).mono ?_; rintro e w3 ⟨rfl, hb3⟩; have HB3 : Hid (Below W.heap.size W w3) := (HB2.out _).trans (hb3.mono (HB2.out _).size); have hbb := (blk_below (new_at w2 (.cells #[.int .i64 (bi : Int), .bool false, .bool bf] 98)) hb3); have z1 := blk_cell (k := 1) hbb rfl; have z2 := blk_cell (k := 2) hbb rfl; have z3 : w3.cell? ⟨W.heap.size, 2, none⟩ = some (.int .i64 (m : Int)) := ((hb3.cell (World.block_lt_of_cell? _ _ (dw _))).trans (dw _)); clear hb3 hbb) | (go_at_call 52; refine (H52.out _ (by first | exact HB3.out | exact HB2.out _)).mono ?_; rintro e w4 ⟨rfl, HE⟩) | (go_at_call 51; refine (H51.out _ (by first | exact HB3.out | exact HB2.out _)).mono ?_; rintro e w4 ⟨rfl, HE⟩))
      go_end0
      exact ⟨rfl, by rw [← HQ.out]; exact HE.out⟩
  | true =>
    cases bf with
    | false =>
      simp only [if_true, Bool.not_false] at HQ
      go_enter Tryd.func28, Tryd.ntmps28
      go_wp2_with (first | (go_at_call 53; refine (H53.out _ (HBD.out _)).mono ?_; rintro e w2 ⟨rfl, hb2⟩; have hbw2 : Below W.heap.size W w2 := (HBD.out _).trans (hb2.mono (HBD.out _).size); have HB2 : Hid (∀ o, Below W.heap.size W (w2.alloc o)) := (fun o => hbw2.alloc hbw2.size _); have hdb := (blk_below (new_at W (.cells #[.int .u8 3, .string bE, .int .i64 (m : Int), .int .i64 0, .bool false] 26)) hb2); have dw : ∀ o, (w2.alloc o).cell? ⟨W.heap.size, 2, none⟩ = some (.int .i64 (m : Int)) := (fun o => blk_cell (blk_below hdb ((Below.refl _ _).alloc (Nat.le_refl _) o)) rfl); clear hb2 hbw2 hdb) | (go_at_call 54; refine (H54.out _ (HB2.out _)).mono ?_; rintro e w3 ⟨rfl, hb3⟩; have HB3 : Hid (Below W.heap.size W w3) := (HB2.out _).trans (hb3.mono (HB2.out _).size); have hbb := (blk_below (new_at w2 (.cells #[.int .i64 (bi : Int), .bool true, .bool bf] 98)) hb3); have z1 := blk_cell (k := 1) hbb rfl; have z2 := blk_cell (k := 2) hbb rfl; have z3 : w3.cell? ⟨W.heap.size, 2, none⟩ = some (.int .i64 (m : Int)) := ((hb3.cell (World.block_lt_of_cell? _ _ (dw _))).trans (dw _)); clear hb3 hbb) | (go_at_call 52; refine (H52.out _ (by first | exact HB3.out | exact HB2.out _)).mono ?_; rintro e w4 ⟨rfl, HE⟩) | (go_at_call 51; refine (H51.out _ (by first | exact HB3.out | exact HB2.out _)).mono ?_; rintro e w4 ⟨rfl, HE⟩))
      go_end0
      exact ⟨rfl, by rw [← HQ.out]; exact HE.out⟩
    | true =>
      simp only [if_true, Bool.not_true, Bool.false_eq_true, if_false] at HQ
      go_enter Tryd.func28, Tryd.ntmps28
      go_wp2_with (first | (go_at_call 53; refine (H53.out _ (HBD.out _)).mono ?_; rintro e w2 ⟨rfl, hb2⟩; have hbw2 : Below W.heap.size W w2 := (HBD.out _).trans (hb2.mono (HBD.out _).size); have HB2 : Hid (∀ o, Below W.heap.size W (w2.alloc o)) := (fun o => hbw2.alloc hbw2.size _); have hdb := (blk_below (new_at W (.cells #[.int .u8 3, .string bE, .int .i64 (m : Int), .int .i64 0, .bool false] 26)) hb2); have dw : ∀ o, (w2.alloc o).cell? ⟨W.heap.size, 2, none⟩ = some (.int .i64 (m : Int)) := (fun o => blk_cell (blk_below hdb ((Below.refl _ _).alloc (Nat.le_refl _) o)) rfl); clear hb2 hbw2 hdb) | (go_at_call 54; refine (H54.out _ (HB2.out _)).mono ?_; rintro e w3 ⟨rfl, hb3⟩; have HB3 : Hid (Below W.heap.size W w3) := (HB2.out _).trans (hb3.mono (HB2.out _).size); have hbb := (blk_below (new_at w2 (.cells #[.int .i64 (bi : Int), .bool true, .bool bf] 98)) hb3); have z1 := blk_cell (k := 1) hbb rfl; have z2 := blk_cell (k := 2) hbb rfl; have z3 : w3.cell? ⟨W.heap.size, 2, none⟩ = some (.int .i64 (m : Int)) := ((hb3.cell (World.block_lt_of_cell? _ _ (dw _))).trans (dw _)); clear hb3 hbb) | (go_at_call 52; refine (H52.out _ (by first | exact HB3.out | exact HB2.out _)).mono ?_; rintro e w4 ⟨rfl, HE⟩) | (go_at_call 51; refine (H51.out _ (by first | exact HB3.out | exact HB2.out _)).mono ?_; rintro e w4 ⟨rfl, HE⟩))
      go_end0
      exact ⟨rfl, by rw [← HQ.out]; exact HE.out⟩
end Go.Proofs.YtcokccfbeonlnaaDoor
