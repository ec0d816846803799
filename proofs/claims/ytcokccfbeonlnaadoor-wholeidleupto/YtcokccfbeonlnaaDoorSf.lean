import Derived.Test.YtcokccfbeonlnaaDoorSe
set_option linter.unusedVariables false
set_option linter.unusedSimpArgs false
namespace Go.Proofs.YtcokccfbeonlnaaDoor
open Go.RowKit
open Go.Lib (strCells strCells_length)

theorem aft_size (t : ByteArray) : (aft t).size ≤ t.size := by
  unfold aft
  have := lf_bd t
  rw [ByteArray.size_extract]; omega

set_option maxHeartbeats 1000000 in
theorem behind_any (b : Bool) (col wait : Int) (t : ByteArray) (w : World) (hT : Tab w) (ht : t.size ≤ 2147483647) (h0 : 0 ≤ col) (h1 : col ≤ 1152921504606846976) (h2 : 0 ≤ wait) (h3 : wait ≤ 1152921504606846976) :
    Calls Tryd.prog 62 #[.agg #[.bool b, .int .i64 col, .int .i64 wait], .string t] w fun e w' => e = .returned (.agg #[.bool true, .int .i64 (ncol col wait t), .int .i64 0]) ∧ Below w.heap.size w w' := by
  have hbd := lf_bd t
  have hbt := tw_bd t
  have hba := tw_bd (aft t)
  have hsa := aft_size t
  by_cases hl : lf t < 0
  · have q1 : decide (0 ≤ lf t) = false := by simp; omega
    have q2 : ¬ (0 ≤ lf t) := by omega
    have HN : Hid (ncol col wait t = col + wait + tw t) := if_pos hl
    clear hba hsa
    obtain ⟨y, hy⟩ : ∃ y, tw t = y := ⟨_, rfl⟩
    rw [hy] at HN hbt
    go_enter Tryd.func62, Tryd.ntmps62
    go_wp2_with (go_at_call 79; refine (lastix10 t (by omega) _).mono ?_; rintro e w1 ⟨rfl, rfl⟩)
    obtain ⟨W, hW⟩ : ∃ W, ((w.alloc (.cells #[.bool b, .int .i64 col, .int .i64 wait] 75)).alloc (.cells #[.bool false, .int .i64 0, .int .i64 0] 75)) = W := ⟨_, rfl⟩
    have s1 : (w.alloc (.cells #[.bool b, .int .i64 col, .int .i64 wait] 75)).heap.size = w.heap.size + 1 := World.size_alloc _ _
    have hbW : Below w.heap.size w W := by rw [← hW]; exact ((Below.refl _ w).alloc (Nat.le_refl _) _).alloc (by omega) _
    have b1 : W.heap[w.heap.size]? = some (.cells #[.bool b, .int .i64 col, .int .i64 wait] 75 (0, 0)) := by rw [← hW]; exact alloc_at _ _ _ _ (new_at _ _)
    have b2 : W.heap[w.heap.size + 1]? = some (.cells #[.bool false, .int .i64 0, .int .i64 0] 75 (0, 0)) := by rw [← hW, ← s1]; exact new_at _ _
    obtain ⟨x, hx⟩ : ∃ x, x = w.heap.size := ⟨_, rfl⟩
    rw [← hx] at b1 b2 hbW
    have hTW : Tab W := hT.below (by rw [← hx]; exact hbW)
    simp only [hW, ← hx]
    have x1 : W.cell? ⟨x, 1, none⟩ = some (.int .i64 col) := blk_cell b1 rfl
    have x2 : W.cell? ⟨x, 2, none⟩ = some (.int .i64 wait) := blk_cell b1 rfl
    have HB : Hid (∀ V, Below W.heap.size W V → V.cell? ⟨x, 1, none⟩ = some (.int .i64 col) ∧ V.cell? ⟨x, 2, none⟩ = some (.int .i64 wait) ∧ V.cell? ⟨x + 1, 0, none⟩ = some (.bool false) ∧ V.cell? ⟨x + 1, 1, none⟩ = some (.int .i64 0) ∧ V.cell? ⟨x + 1, 2, none⟩ = some (.int .i64 0) ∧ V.frozen? ⟨x + 1, 0, none⟩ = false ∧ V.frozen? ⟨x + 1, 1, none⟩ = false ∧ V.frozen? ⟨x + 1, 2, none⟩ = false) := fun V hV => ⟨blk_cell (blk_below b1 hV) rfl, blk_cell (blk_below b1 hV) rfl, blk_cell (blk_below b2 hV) rfl, blk_cell (blk_below b2 hV) rfl, blk_cell (blk_below b2 hV) rfl, blk_frozen (blk_below b2 hV), blk_frozen (blk_below b2 hV), blk_frozen (blk_below b2 hV)⟩
    have HBW : Hid (Below x w W) := hbW
    have HT : Hid (Tab W) := hTW
    have HC : Hid (Calls Tryd.prog 29 #[.string t] W.drew fun e V => e = .returned (.int .i64 y) ∧ Hid (Below x w V ∧ V.heap[x + 1]? = some (.cells #[.bool false, .int .i64 0, .int .i64 0] 75 (0, 0))) ∧ V.cell? ⟨x, 1, none⟩ = some (.int .i64 col) ∧ V.cell? ⟨x, 2, none⟩ = some (.int .i64 wait) ∧ V.cell? ⟨x + 1, 0, none⟩ = some (.bool false) ∧ V.cell? ⟨x + 1, 1, none⟩ = some (.int .i64 0) ∧ V.cell? ⟨x + 1, 2, none⟩ = some (.int .i64 0) ∧ V.frozen? ⟨x + 1, 0, none⟩ = false ∧ V.frozen? ⟨x + 1, 1, none⟩ = false ∧ V.frozen? ⟨x + 1, 2, none⟩ = false) := by
      refine (wtext_any t W.drew (hTW.below (Below.drew (Below.refl _ W))) ht).mono ?_
      rintro e V ⟨rfl, hV⟩
      have hV' : Below W.heap.size W V := ⟨hV.os, hV.tape, hV.output, hV.size, hV.block⟩
      exact ⟨by rw [hy], ⟨hbW.trans (hV'.mono (by have := hbW.size; omega)), blk_below b2 hV'⟩, HB.out V hV'⟩
    clear s1 b1 b2 hT hTW hbW hW q1 q2 hl hbd HB HT hy
    have HX : Hid (x = w.heap.size) := hx
    clear hx
    go_region_with (go_at_call 29; refine HC.out.mono ?_; rintro e w2 ⟨rfl, hb2, k1, k2, k3, k4, k5, k6, k7, k8⟩)
    all_goals
      have hz : IntKind.i64.wrap (IntKind.i64.wrap (col + wait) + y) = col + wait + y := by rw [IntKind.wrap_i64, IntKind.wrap_i64]; omega
      rw [hz]
      obtain ⟨V, hV⟩ : ∃ V, V = ((w2.setCell ⟨x + 1, 0, none⟩ (.bool true)).setCell ⟨x + 1, 1, none⟩ (.int .i64 (col + wait + y))).setCell ⟨x + 1, 2, none⟩ (.int .i64 0) := ⟨_, rfl⟩
      have hVb : V.heap[x + 1]? = some (.cells #[.bool true, .int .i64 (col + wait + y), .int .i64 0] 75 (0, 0)) := by rw [hV]; exact blk_set (blk_set (blk_set hb2.out.2 0 _) 1 _) 2 _
      have hVB : Below x w V := by rw [hV]; exact (((hb2.out.1).setCell (p := ⟨x + 1, 0, none⟩) (by show x ≤ x + 1; omega) _).setCell (p := ⟨x + 1, 1, none⟩) (by show x ≤ x + 1; omega) _).setCell (p := ⟨x + 1, 2, none⟩) (by show x ≤ x + 1; omega) _
      rw [← hV]
      have m0 : V.cell? ⟨x + 1, 0, none⟩ = some (.bool true) := blk_cell hVb rfl
      have m1 : V.cell? ⟨x + 1, 1, none⟩ = some (.int .i64 (col + wait + y)) := blk_cell hVb rfl
      have m2 : V.cell? ⟨x + 1, 2, none⟩ = some (.int .i64 0) := blk_cell hVb rfl
      have HF : Hid (Ending.returned (.agg #[.bool true, .int .i64 (col + wait + y), .int .i64 0]) = .returned (.agg #[.bool true, .int .i64 (ncol col wait t), .int .i64 0]) ∧ Below w.heap.size w V) := ⟨by rw [HN.out], by rw [← HX.out]; exact hVB⟩
      clear hz hV hVb hVB k1 k2 k3 k4 k5 k6 k7 k8 hb2 HC HN
      go_wp2_with fail
      exact bodyPost_ret (v := .agg #[.bool true, .int .i64 (col + wait + y), .int .i64 0]) (by simp [results, Tryd.f62, go_sem, m0, m1, m2]) rfl HF.out
  · have q1 : decide (0 ≤ lf t) = true := by simp; omega
    have q2 : (0 ≤ lf t) := by omega
    have HN : Hid (ncol col wait t = tw (aft t)) := if_neg hl
    obtain ⟨k, hk⟩ : ∃ k : Nat, lf t = k := ⟨(lf t).toNat, by omega⟩
    have HA : Hid (aft t = t.extract (k + 1) t.size) := by unfold aft; rw [hk]; rfl
    obtain ⟨y, hy⟩ : ∃ y, tw (aft t) = y := ⟨_, rfl⟩
    have HC : Hid (∀ V, Tab V → Calls Tryd.prog 29 #[.string (t.extract (k + 1) t.size)] V fun e V' => e = .returned (.int .i64 y) ∧ Below V.heap.size V V') := by
      intro V hV
      rw [← HA.out, ← hy]
      exact wtext_any (aft t) V hV (by omega)
    rw [hy] at HN hba
    have hk1 : (k : Int) + 1 ≤ t.size := by omega
    have hkn : k + 1 ≤ t.size := by omega
    have HT : Hid (Tab w) := hT
    have LC : Hid (∀ V, Calls Tryd.prog 79 #[.string t, .string ⟨#[10]⟩] V fun e w' => e = .returned (.int .i64 k) ∧ w' = V) := by
      intro V; have := lastix10 t (by omega) V; rw [hk] at this; exact this
    clear hsa hbt q1 q2 hT hy HA hl hk hbd
    go_enter Tryd.func62, Tryd.ntmps62
    go_wp2_with (go_at_call 79; refine (LC.out _).mono ?_; rintro e w1 ⟨rfl, rfl⟩)
    obtain ⟨W, hW⟩ : ∃ W, ((w.alloc (.cells #[.bool b, .int .i64 col, .int .i64 wait] 75)).alloc (.cells #[.bool false, .int .i64 0, .int .i64 0] 75)) = W := ⟨_, rfl⟩
    have s1 : (w.alloc (.cells #[.bool b, .int .i64 col, .int .i64 wait] 75)).heap.size = w.heap.size + 1 := World.size_alloc _ _
    have hbW : Below w.heap.size w W := by rw [← hW]; exact ((Below.refl _ w).alloc (Nat.le_refl _) _).alloc (by omega) _
    have b2 : W.heap[w.heap.size + 1]? = some (.cells #[.bool false, .int .i64 0, .int .i64 0] 75 (0, 0)) := by rw [← hW, ← s1]; exact new_at _ _
    refine (HC.out _ ?tab).mono ?_
    case tab => rw [hW]; exact HT.out.below hbW
    rintro e w2 ⟨rfl, hb2⟩
    rw [hW] at hb2
    have HB2 : Hid (Below w.heap.size w w2) := hbW.trans (hb2.mono hbW.size)
    have k0 := blk_below b2 hb2
    clear hb2 hbW b2 s1 hW
    have HK : Hid (w2.heap[w.heap.size + 1]? = some (.cells #[.bool false, .int .i64 0, .int .i64 0] 75 (0, 0))) := k0
    obtain ⟨x, HX⟩ : ∃ x, Hid (x = w.heap.size) := ⟨_, rfl⟩
    rw [← HX.out] at k0 HB2 HK ⊢
    have k3 : w2.cell? ⟨x + 1, 0, none⟩ = some (.bool false) := blk_cell k0 rfl
    have k4 : w2.cell? ⟨x + 1, 1, none⟩ = some (.int .i64 0) := blk_cell k0 rfl
    have k5 : w2.cell? ⟨x + 1, 2, none⟩ = some (.int .i64 0) := blk_cell k0 rfl
    have k6 : w2.frozen? ⟨x + 1, 0, none⟩ = false := blk_frozen k0
    have k7 : w2.frozen? ⟨x + 1, 1, none⟩ = false := blk_frozen k0
    have k8 : w2.frozen? ⟨x + 1, 2, none⟩ = false := blk_frozen k0
    clear k0
    obtain ⟨V, hV⟩ : ∃ V, V = ((w2.setCell ⟨x + 1, 0, none⟩ (.bool true)).setCell ⟨x + 1, 1, none⟩ (.int .i64 y)).setCell ⟨x + 1, 2, none⟩ (.int .i64 0) := ⟨_, rfl⟩
    have hVb : V.heap[x + 1]? = some (.cells #[.bool true, .int .i64 y, .int .i64 0] 75 (0, 0)) := by rw [hV]; exact blk_set (blk_set (blk_set HK.out 0 _) 1 _) 2 _
    have hVB : Below x w V := by rw [hV]; exact (((HB2.out).setCell (p := ⟨x + 1, 0, none⟩) (by show x ≤ x + 1; omega) _).setCell (p := ⟨x + 1, 1, none⟩) (by show x ≤ x + 1; omega) _).setCell (p := ⟨x + 1, 2, none⟩) (by show x ≤ x + 1; omega) _
    have m0 : V.cell? ⟨x + 1, 0, none⟩ = some (.bool true) := blk_cell hVb rfl
    have m1 : V.cell? ⟨x + 1, 1, none⟩ = some (.int .i64 y) := blk_cell hVb rfl
    have m2 : V.cell? ⟨x + 1, 2, none⟩ = some (.int .i64 0) := blk_cell hVb rfl
    have HF : Hid (Ending.returned (.agg #[.bool true, .int .i64 y, .int .i64 0]) = .returned (.agg #[.bool true, .int .i64 (ncol col wait t), .int .i64 0]) ∧ Below w.heap.size w V) := ⟨by rw [HN.out], by rw [← HX.out]; exact hVB⟩
    have HV : Hid (V = ((w2.setCell ⟨x + 1, 0, none⟩ (.bool true)).setCell ⟨x + 1, 1, none⟩ (.int .i64 y)).setCell ⟨x + 1, 2, none⟩ (.int .i64 0)) := hV
    clear hV hVb hVB HB2 HC HN
    go_wp2_with fail
    rw [← HV.out]
    exact bodyPost_ret (v := .agg #[.bool true, .int .i64 y, .int .i64 0]) (by simp [results, Tryd.f62, go_sem, m0, m1, m2]) rfl HF.out
end Go.Proofs.YtcokccfbeonlnaaDoor
