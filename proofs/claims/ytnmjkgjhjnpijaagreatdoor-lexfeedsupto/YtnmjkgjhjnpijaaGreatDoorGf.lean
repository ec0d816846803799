import Derived.Test.YtnmjkgjhjnpijaaGreatDoorGe
set_option linter.unusedVariables false
set_option linter.unusedSimpArgs false
namespace Go.Proofs.YtnmjkgjhjnpijaaGreatDoor
open Go.RowKit

set_option maxRecDepth 100000 in
set_option maxHeartbeats 1000000 in
/-- Close. -/
theorem rclose_live0 {W : World} {g : Nat} {S : ByteArray} {n : Nat} (h : LB W g S n 0 0 0 0 false) (hs : S.size ≤ 1000000000) (hn : n ≤ 1000000000) {Lk : List Tk} {a : Nat} (hS : scn S = (Lk, 0, a)) :
    Calls Tryz.prog 18 #[.pointer (some ⟨g, 0, none⟩)] W fun e w' => ∃ v, e = .returned (.tuple #[v, .int .i64 0, .agg #[.int .i64 0, .int .i64 0, .int .i64 0]]) ∧ TL W w' g S (max n Lk.length) 0 0 0 0 true v ((Lk.map (tv S)).drop n) := by
  obtain ⟨c0, c1, c2, c3, c4, c5, c6⟩ := h.cells
  have hlt := blk_lt h
  have z6 := h.frozen 6
  have HFi : Hid (∀ V, Calls Tryz.prog 26 #[.string S] V fun e w' => ∃ v, e = .returned (.agg #[v, .int .i64 0, .int .i64 a]) ∧ Rt V.heap.size w' v (Lk.map (tv S)) ∧ Below V.heap.size V w') := fun V => by
    have h9 := find_any S V (by omega)
    unfold FV at h9
    rw [hS] at h9
    exact h9
  have HL : Hid (LB W g S n 0 0 0 0 false) := h
  obtain ⟨M, hM⟩ : ∃ M, Lk.map (tv S) = M := ⟨_, rfl⟩
  have hMl : Lk.length = M.length := by rw [← hM, List.length_map]
  have HMl : Hid (M.length ≤ 1000000000) := by
    have h8 := (Cov_len hS)
    show _ ≤ _
    omega
  rw [hM] at HFi ⊢
  rw [hMl]
  clear h hS hM hMl
  go_enter Tryz.func18, Tryz.ntmps18
  go_wp2_with fail
  obtain ⟨V, hV⟩ : ∃ V, ((W.setCell ⟨g, 6, none⟩ (.bool true)).alloc (.cells #[.int .i64 0, .int .i64 0, .int .i64 0] 36)) = V := ⟨_, rfl⟩
  rw [hV]
  have lv : LB V g S n 0 0 0 0 true := by
    rw [← hV]
    exact blk_below (blk_set HL.out 6 (.bool true)) ((Below.refl _ _).alloc (Nat.le_refl _) _)
  have kv : Box3 V W.heap.size 0 0 0 := by
    have h9 := World.alloc_heap_new (W.setCell ⟨g, 6, none⟩ (.bool true)) (.cells #[.int .i64 0, .int .i64 0, .int .i64 0] 36)
    rw [World.size_setCell] at h9
    rw [← hV]
    exact h9
  have kpv : Kp (fun q => q = g) W V := by
    rw [← hV]
    exact (Kp.set W g 6 (.bool true)).trans (Kp.of_below ((Below.refl _ _).alloc (Nat.le_refl _) _))
  have HVS : Hid (LB V g S n 0 0 0 0 true ∧ Box3 V W.heap.size 0 0 0 ∧ Kp (fun q => q = g) W V) := ⟨lv, kv, kpv⟩
  clear hV c0 c1 c2 c3 c4 c5 c6 z6 lv kv kpv HL
  go_wp2_with fail
  refine (HFi.out _).mono ?_
  rintro e w2 ⟨v, rfl, hr, hb⟩
  obtain ⟨vp, vc, rfl, hv1, hv2⟩ := hr.shape
  obtain ⟨lv, kv, kpv⟩ := HVS.out
  have hbF : Below V.heap.size V (w2.alloc (.cells #[.slice vp M.length vc, .int .i64 0, .int .i64 a] 61)) := hb.alloc hb.size _
  have HNE : Hid (g ≠ w2.heap.size ∧ W.heap.size ≠ w2.heap.size ∧ M.length ≤ 1000000000 ∧ g < V.heap.size ∧ V.heap.size ≤ w2.heap.size) := ⟨by have := blk_lt lv; have := hb.size; omega, by have := kv.lt; have := hb.size; omega, HMl.out, blk_lt lv, hb.size⟩
  have hne1 := HNE.out.1
  have hne2 : w2.heap.size ≠ g := fun e => hne1 e.symm
  obtain ⟨w4, hw4⟩ : ∃ w4, w2.alloc (.cells #[.slice vp M.length vc, .int .i64 0, .int .i64 a] 61) = w4 := ⟨_, rfl⟩
  have d4 : FB w4 w2.heap.size (.slice vp M.length vc) 0 a := by rw [← hw4]; exact World.alloc_heap_new w2 (.cells #[.slice vp M.length vc, .int .i64 0, .int .i64 a] 61)
  have hr4 : Rt V.heap.size w4 (.slice vp M.length vc) M := by rw [← hw4]; exact hr.below ((Below.refl _ _).alloc (Nat.le_refl _) _)
  rw [hw4] at hbF
  have l4 : LB w4 g S n 0 0 0 0 true := blk_below lv hbF
  have k4 := kv.below hbF
  have kp4 : Kp (fun q => q = g) W w4 := kpv.step (Kp.of_below hbF) (fun _ _ h => h)
  obtain ⟨y0, y1, y2, h0, h1, h2, hl4⟩ := FB.cells d4
  obtain ⟨c0, c1, c2, c3, c4, c5, c6⟩ := LB.cells l4
  have u2 := LB.frozen l4 2
  have ug := blk_lt l4
  have HD4 : Hid (FB w4 w2.heap.size (.slice vp M.length vc) 0 a ∧ Rt V.heap.size w4 (.slice vp M.length vc) M ∧ LB w4 g S n 0 0 0 0 true ∧ Box3 w4 W.heap.size 0 0 0 ∧ Kp (fun q => q = g) W w4) := ⟨d4, hr4, l4, k4, kp4⟩
  clear hr hb hbF lv kv kpv HVS HFi d4 hr4 l4 k4 kp4
  go_wp2_with fail
  try rw [hw4]
  clear hw4
  go_wp2_with fail
  have HTe : Hid (∀ U, Below w4.heap.size w4 U → Calls Tryz.prog 28 #[.pointer (some ⟨g, 0, none⟩), .agg #[.slice vp M.length vc, .int .i64 0, .int .i64 a], .int .i64 M.length] U fun e w' => ∃ v, e = .returned v ∧ (TL U w' g S (max n M.length) 0 0 0 0 true v (M.drop n) ∧ Box3 U W.heap.size 0 0 0 ∧ Kp (fun q => q = g) W U ∧ FB w' w2.heap.size (.slice vp M.length vc) 0 a)) := fun U hU => by
    obtain ⟨d3, hr3, l3, k3, kp3⟩ := HD4.out
    have hr4 := hr3.below hU
    have l4 : LB U g S n 0 0 0 0 true := blk_below l3 hU
    obtain ⟨ao, cap, e, hLt, hao, _⟩ := Lt.row hr4
    cases e
    have h9 := tells_any g S n 0 0 0 0 true vp vc M 0 a M.length _ l4 hLt (Nat.le_refl _) HNE.out.2.2.1 hn (by
      intro a' e' h'
      rcases hao with e | ⟨q, e, hq, _⟩
      · rw [e] at e'; cases e'
      · rw [e] at e'
        cases e'
        have := HNE.out.2.2.2.1
        have h'' : q = g := h'
        omega)
    rw [List.take_of_length_le (Nat.le_refl _)] at h9
    refine h9.mono ?_
    rintro e w' ⟨v, rfl, hT⟩
    exact ⟨v, rfl, hT, k3.below hU, kp3.step (Kp.of_below hU) (fun _ _ h => h), hT.kp.blk (blk_below d3 hU) (fun e => HNE.out.1 e.symm)⟩
  have S0 : w4.cell? ⟨w2.heap.size, 0, none⟩ = some (.slice vp M.length vc) ∧ w4.cell? ⟨w2.heap.size, 1, none⟩ = some (.int .i64 0) ∧ w4.cell? ⟨w2.heap.size, 2, none⟩ = some (.int .i64 a) ∧ w4.cell? ⟨g, 2, none⟩ = some (.int .i64 0) ∧ w4.cell? ⟨g, 3, none⟩ = some (.int .i64 0) ∧ w4.cell? ⟨g, 4, none⟩ = some (.int .i64 0) ∧ w4.cell? ⟨g, 5, none⟩ = some (.int .i64 0) := ⟨y0, y1, y2, c2, c3, c4, c5⟩
  go_region_held3 (fun w' => w'.cell? ⟨w2.heap.size, 0, none⟩ = some (.slice vp M.length vc) ∧ w'.cell? ⟨w2.heap.size, 1, none⟩ = some (.int .i64 0) ∧ w'.cell? ⟨w2.heap.size, 2, none⟩ = some (.int .i64 a) ∧ w'.cell? ⟨g, 2, none⟩ = some (.int .i64 0) ∧ w'.cell? ⟨g, 3, none⟩ = some (.int .i64 0) ∧ w'.cell? ⟨g, 4, none⟩ = some (.int .i64 0) ∧ w'.cell? ⟨g, 5, none⟩ = some (.int .i64 0)) (first | (exact S0) | (exact S8) | (exact S9) | go_keep) (first | (go_at_call 28; refine (HTe.out _ (Below.refl _ _).drew).mono ?_; rintro e w8 ⟨v8, rfl, hT, hk8, hp8, hd8⟩; obtain ⟨p8, cc8, rfl, _⟩ := hT.row.shape; have k8 := hT.box hk8 (by omega); have g0 := k8.cell0; have g1 := k8.cell1; have g2 := k8.cell2; have zz0 := k8.frozen 0; have zz1 := k8.frozen 1; have zz2 := k8.frozen 2; obtain ⟨r0, r1, r2, r3, r4, r5, r6⟩ := LB.cells hT.lex; obtain ⟨t8, b8⟩ := hT.fin hp8 hlt hk8 0 0 0; have HF : Hid (TL W (((w8.setCell ⟨W.heap.size, 0, none⟩ (.int .i64 0)).setCell ⟨W.heap.size, 1, none⟩ (.int .i64 0)).setCell ⟨W.heap.size, 2, none⟩ (.int .i64 0)) g S (max n M.length) 0 0 0 0 true (.slice p8 (M.drop n).length cc8) (M.drop n)) := t8; have m0 := b8.cell0; have m1 := b8.cell1; have m2 := b8.cell2; obtain ⟨v0, v1, v2, _⟩ := FB.cells hd8; have S8 : w8.cell? ⟨w2.heap.size, 0, none⟩ = some (.slice vp M.length vc) ∧ w8.cell? ⟨w2.heap.size, 1, none⟩ = some (.int .i64 0) ∧ w8.cell? ⟨w2.heap.size, 2, none⟩ = some (.int .i64 a) ∧ w8.cell? ⟨g, 2, none⟩ = some (.int .i64 0) ∧ w8.cell? ⟨g, 3, none⟩ = some (.int .i64 0) ∧ w8.cell? ⟨g, 4, none⟩ = some (.int .i64 0) ∧ w8.cell? ⟨g, 5, none⟩ = some (.int .i64 0) := ⟨v0, v1, v2, r2, r3, r4, r5⟩; obtain ⟨o0, o1, o2, o3, o4, o5, o6⟩ := LB.cells t8.lex; have hkz : Kp (fun q => q = W.heap.size) w8 (((w8.setCell ⟨W.heap.size, 0, none⟩ (.int .i64 0)).setCell ⟨W.heap.size, 1, none⟩ (.int .i64 0)).setCell ⟨W.heap.size, 2, none⟩ (.int .i64 0)) := ((Kp.set _ _ _ _).trans (Kp.set _ _ _ _)).trans (Kp.set _ _ _ _); have d9 : FB (((w8.setCell ⟨W.heap.size, 0, none⟩ (.int .i64 0)).setCell ⟨W.heap.size, 1, none⟩ (.int .i64 0)).setCell ⟨W.heap.size, 2, none⟩ (.int .i64 0)) w2.heap.size (.slice vp M.length vc) 0 a := hkz.blk hd8 (fun e => HNE.out.2.1 e.symm); obtain ⟨n0, n1, n2, _⟩ := FB.cells d9; have S9 : (((w8.setCell ⟨W.heap.size, 0, none⟩ (.int .i64 0)).setCell ⟨W.heap.size, 1, none⟩ (.int .i64 0)).setCell ⟨W.heap.size, 2, none⟩ (.int .i64 0)).cell? ⟨w2.heap.size, 0, none⟩ = some (.slice vp M.length vc) ∧ (((w8.setCell ⟨W.heap.size, 0, none⟩ (.int .i64 0)).setCell ⟨W.heap.size, 1, none⟩ (.int .i64 0)).setCell ⟨W.heap.size, 2, none⟩ (.int .i64 0)).cell? ⟨w2.heap.size, 1, none⟩ = some (.int .i64 0) ∧ (((w8.setCell ⟨W.heap.size, 0, none⟩ (.int .i64 0)).setCell ⟨W.heap.size, 1, none⟩ (.int .i64 0)).setCell ⟨W.heap.size, 2, none⟩ (.int .i64 0)).cell? ⟨w2.heap.size, 2, none⟩ = some (.int .i64 a) ∧ (((w8.setCell ⟨W.heap.size, 0, none⟩ (.int .i64 0)).setCell ⟨W.heap.size, 1, none⟩ (.int .i64 0)).setCell ⟨W.heap.size, 2, none⟩ (.int .i64 0)).cell? ⟨g, 2, none⟩ = some (.int .i64 0) ∧ (((w8.setCell ⟨W.heap.size, 0, none⟩ (.int .i64 0)).setCell ⟨W.heap.size, 1, none⟩ (.int .i64 0)).setCell ⟨W.heap.size, 2, none⟩ (.int .i64 0)).cell? ⟨g, 3, none⟩ = some (.int .i64 0) ∧ (((w8.setCell ⟨W.heap.size, 0, none⟩ (.int .i64 0)).setCell ⟨W.heap.size, 1, none⟩ (.int .i64 0)).setCell ⟨W.heap.size, 2, none⟩ (.int .i64 0)).cell? ⟨g, 4, none⟩ = some (.int .i64 0) ∧ (((w8.setCell ⟨W.heap.size, 0, none⟩ (.int .i64 0)).setCell ⟨W.heap.size, 1, none⟩ (.int .i64 0)).setCell ⟨W.heap.size, 2, none⟩ (.int .i64 0)).cell? ⟨g, 5, none⟩ = some (.int .i64 0) := ⟨n0, n1, n2, o2, o3, o4, o5⟩; clear t8 hT hd8 hkz d9))
  all_goals (
    go_wp2_with fail
    refine bodyPost_ret (v := .tuple #[.slice p8 (M.drop n).length cc8, .int .i64 0, .agg #[.int .i64 0, .int .i64 0, .int .i64 0]]) (by simp [results, Tryz.f18, go_sem, m0, m1, m2]) rfl ?_
    exact ⟨_, rfl, HF.out⟩)

set_option maxRecDepth 100000 in
set_option maxHeartbeats 1000000 in
/-- Close. -/
theorem rclose_liveE {W : World} {g : Nat} {S : ByteArray} {n : Nat} (h : LB W g S n 0 0 0 0 false) (hs : S.size ≤ 1000000000) (hn : n ≤ 1000000000) {Lk : List Tk} {E a : Nat} (hS : scn S = (Lk, E, a)) (hE0 : E ≠ 0) (ha : a ≤ S.size) :
    Calls Tryz.prog 18 #[.pointer (some ⟨g, 0, none⟩)] W fun e w' => ∃ v, e = .returned (.tuple #[v, .int .i64 E, .agg #[.int .i64 a, .int .i64 (pL S a), .int .i64 (pC S a)]]) ∧ TL W w' g S (max n Lk.length) E a (pL S a) (pC S a) true v ((Lk.map (tv S)).drop n) := by
  obtain ⟨c0, c1, c2, c3, c4, c5, c6⟩ := h.cells
  have hlt := blk_lt h
  have z6 := h.frozen 6
  have HFi : Hid (∀ V, Calls Tryz.prog 26 #[.string S] V fun e w' => ∃ v, e = .returned (.agg #[v, .int .i64 E, .int .i64 a]) ∧ Rt V.heap.size w' v (Lk.map (tv S)) ∧ Below V.heap.size V w') := fun V => by
    have h9 := find_any S V (by omega)
    unfold FV at h9
    rw [hS] at h9
    exact h9
  have HL : Hid (LB W g S n 0 0 0 0 false) := h
  have HPl : Hid (∀ V, Calls Tryz.prog 30 #[.string S, .int .i64 a] V fun e w' => e = .returned (.agg #[.int .i64 a, .int .i64 (pL S a), .int .i64 (pC S a)]) ∧ Below V.heap.size V w') := fun V => rplace_any S a V (by omega) ha
  obtain ⟨XL, hXL⟩ : ∃ y, pL S a = y := ⟨_, rfl⟩
  obtain ⟨XC, hXC⟩ : ∃ y, pC S a = y := ⟨_, rfl⟩
  rw [hXL, hXC] at HPl ⊢
  have qE : ((E : Int) != 0) = true := by rw [bne_iff_ne]; omega
  clear hXL hXC
  obtain ⟨M, hM⟩ : ∃ M, Lk.map (tv S) = M := ⟨_, rfl⟩
  have hMl : Lk.length = M.length := by rw [← hM, List.length_map]
  have HMl : Hid (M.length ≤ 1000000000) := by
    have h8 := (Cov_len hS)
    show _ ≤ _
    omega
  rw [hM] at HFi ⊢
  rw [hMl]
  clear h hS hM hMl
  go_enter Tryz.func18, Tryz.ntmps18
  go_wp2_with fail
  obtain ⟨V, hV⟩ : ∃ V, ((W.setCell ⟨g, 6, none⟩ (.bool true)).alloc (.cells #[.int .i64 0, .int .i64 0, .int .i64 0] 36)) = V := ⟨_, rfl⟩
  rw [hV]
  have lv : LB V g S n 0 0 0 0 true := by
    rw [← hV]
    exact blk_below (blk_set HL.out 6 (.bool true)) ((Below.refl _ _).alloc (Nat.le_refl _) _)
  have kv : Box3 V W.heap.size 0 0 0 := by
    have h9 := World.alloc_heap_new (W.setCell ⟨g, 6, none⟩ (.bool true)) (.cells #[.int .i64 0, .int .i64 0, .int .i64 0] 36)
    rw [World.size_setCell] at h9
    rw [← hV]
    exact h9
  have kpv : Kp (fun q => q = g) W V := by
    rw [← hV]
    exact (Kp.set W g 6 (.bool true)).trans (Kp.of_below ((Below.refl _ _).alloc (Nat.le_refl _) _))
  have HVS : Hid (LB V g S n 0 0 0 0 true ∧ Box3 V W.heap.size 0 0 0 ∧ Kp (fun q => q = g) W V) := ⟨lv, kv, kpv⟩
  clear hV c0 c1 c2 c3 c4 c5 c6 z6 lv kv kpv HL
  go_wp2_with fail
  refine (HFi.out _).mono ?_
  rintro e w2 ⟨v, rfl, hr, hb⟩
  obtain ⟨vp, vc, rfl, hv1, hv2⟩ := hr.shape
  obtain ⟨lv, kv, kpv⟩ := HVS.out
  have hbF : Below V.heap.size V (w2.alloc (.cells #[.slice vp M.length vc, .int .i64 E, .int .i64 a] 61)) := hb.alloc hb.size _
  have HNE : Hid (g ≠ w2.heap.size ∧ W.heap.size ≠ w2.heap.size ∧ M.length ≤ 1000000000 ∧ g < V.heap.size ∧ V.heap.size ≤ w2.heap.size) := ⟨by have := blk_lt lv; have := hb.size; omega, by have := kv.lt; have := hb.size; omega, HMl.out, blk_lt lv, hb.size⟩
  have hne1 := HNE.out.1
  have hne2 : w2.heap.size ≠ g := fun e => hne1 e.symm
  obtain ⟨w4, hw4⟩ : ∃ w4, w2.alloc (.cells #[.slice vp M.length vc, .int .i64 E, .int .i64 a] 61) = w4 := ⟨_, rfl⟩
  have d4 : FB w4 w2.heap.size (.slice vp M.length vc) E a := by rw [← hw4]; exact World.alloc_heap_new w2 (.cells #[.slice vp M.length vc, .int .i64 E, .int .i64 a] 61)
  have hr4 : Rt V.heap.size w4 (.slice vp M.length vc) M := by rw [← hw4]; exact hr.below ((Below.refl _ _).alloc (Nat.le_refl _) _)
  rw [hw4] at hbF
  have l4 : LB w4 g S n 0 0 0 0 true := blk_below lv hbF
  have k4 := kv.below hbF
  have kp4 : Kp (fun q => q = g) W w4 := kpv.step (Kp.of_below hbF) (fun _ _ h => h)
  obtain ⟨y0, y1, y2, h0, h1, h2, hl4⟩ := FB.cells d4
  obtain ⟨c0, c1, c2, c3, c4, c5, c6⟩ := LB.cells l4
  have u2 := LB.frozen l4 2
  have ug := blk_lt l4
  have HD5 : Hid (FB (w4.setCell ⟨g, 2, none⟩ (.int .i64 E)) w2.heap.size (.slice vp M.length vc) E a ∧ Rt V.heap.size (w4.setCell ⟨g, 2, none⟩ (.int .i64 E)) (.slice vp M.length vc) M ∧ LB (w4.setCell ⟨g, 2, none⟩ (.int .i64 E)) g S n E 0 0 0 true ∧ Box3 (w4.setCell ⟨g, 2, none⟩ (.int .i64 E)) W.heap.size 0 0 0 ∧ Kp (fun q => q = g) W (w4.setCell ⟨g, 2, none⟩ (.int .i64 E))) := ⟨(Kp.set w4 g 2 _).blk d4 hne2, hr4.kp (Kp.set w4 g 2 _) (hr4.ne l4 (by decide)), blk_set l4 2 _, (Kp.set w4 g 2 _).blk k4 (fun e => by omega), kp4.step (Kp.set w4 g 2 _) (fun _ _ h => h)⟩
  clear hr hb hbF lv kv kpv HVS HFi d4 hr4 l4 k4 kp4
  have P0 : (w4.setCell ⟨g, 2, none⟩ (.int .i64 E)).cell? ⟨g, 0, none⟩ = some (.string S) ∧ (w4.setCell ⟨g, 2, none⟩ (.int .i64 E)).cell? ⟨w2.heap.size, 2, none⟩ = some (.int .i64 a) := by
    obtain ⟨d3, _, l3, _⟩ := HD5.out
    exact ⟨(LB.cells l3).1, (FB.cells d3).2.2.1⟩
  go_wp2_with fail
  try rw [hw4]
  clear hw4
  go_region_held3 (fun w' => w'.cell? ⟨g, 0, none⟩ = some (.string S) ∧ w'.cell? ⟨w2.heap.size, 2, none⟩ = some (.int .i64 a)) (first | (exact P0) | (exact P5) | (exact P6) | go_keep) (first | (go_at_call 30; refine (HPl.out _).mono ?_; rintro e w5 ⟨rfl, hb5'⟩; have hb5 : Below (w4.setCell ⟨g, 2, none⟩ (.int .i64 E)).heap.size (w4.setCell ⟨g, 2, none⟩ (.int .i64 E)) w5 := (Below.refl _ _).drew.trans (hb5'.mono (Nat.le_refl _)); obtain ⟨d3, hr3, l3, k3, kp3⟩ := HD5.out; have d5 := blk_below d3 hb5; have l5 := blk_below l3 hb5; have hr5 := hr3.below hb5; obtain ⟨o0, o1, o2, o3, o4, o5, o6⟩ := LB.cells l5; have u3 := LB.frozen l5 3; have u4 := LB.frozen l5 4; have u5 := LB.frozen l5 5; obtain ⟨q0, q1, q2, q3, q4, q5, q6⟩ := FB.cells d5; have ug5 := blk_lt l5; have hkk : Kp (fun q => q = g) w5 (((w5.setCell ⟨g, 3, none⟩ (.int .i64 a)).setCell ⟨g, 4, none⟩ (.int .i64 XL)).setCell ⟨g, 5, none⟩ (.int .i64 XC)) := ((Kp.set _ _ _ _).trans (Kp.set _ _ _ _)).trans (Kp.set _ _ _ _); have HD4 : Hid (FB (((w5.setCell ⟨g, 3, none⟩ (.int .i64 a)).setCell ⟨g, 4, none⟩ (.int .i64 XL)).setCell ⟨g, 5, none⟩ (.int .i64 XC)) w2.heap.size (.slice vp M.length vc) E a ∧ Rt V.heap.size (((w5.setCell ⟨g, 3, none⟩ (.int .i64 a)).setCell ⟨g, 4, none⟩ (.int .i64 XL)).setCell ⟨g, 5, none⟩ (.int .i64 XC)) (.slice vp M.length vc) M ∧ LB (((w5.setCell ⟨g, 3, none⟩ (.int .i64 a)).setCell ⟨g, 4, none⟩ (.int .i64 XL)).setCell ⟨g, 5, none⟩ (.int .i64 XC)) g S n E a XL XC true ∧ Box3 (((w5.setCell ⟨g, 3, none⟩ (.int .i64 a)).setCell ⟨g, 4, none⟩ (.int .i64 XL)).setCell ⟨g, 5, none⟩ (.int .i64 XC)) W.heap.size 0 0 0 ∧ Kp (fun q => q = g) W (((w5.setCell ⟨g, 3, none⟩ (.int .i64 a)).setCell ⟨g, 4, none⟩ (.int .i64 XL)).setCell ⟨g, 5, none⟩ (.int .i64 XC))) := ⟨hkk.blk d5 hne2, hr5.kp hkk (hr5.ne l5 (by decide)), blk_set (blk_set (blk_set l5 3 _) 4 _) 5 _, hkk.blk (k3.below hb5) (fun e => by omega), (kp3.step (Kp.of_below hb5) (fun _ _ h => h)).step hkk (fun _ _ h => h)⟩; have P5 : w5.cell? ⟨g, 0, none⟩ = some (.string S) ∧ w5.cell? ⟨w2.heap.size, 2, none⟩ = some (.int .i64 a) := ⟨o0, q2⟩; have P6 : (((w5.setCell ⟨g, 3, none⟩ (.int .i64 a)).setCell ⟨g, 4, none⟩ (.int .i64 XL)).setCell ⟨g, 5, none⟩ (.int .i64 XC)).cell? ⟨g, 0, none⟩ = some (.string S) ∧ (((w5.setCell ⟨g, 3, none⟩ (.int .i64 a)).setCell ⟨g, 4, none⟩ (.int .i64 XL)).setCell ⟨g, 5, none⟩ (.int .i64 XC)).cell? ⟨w2.heap.size, 2, none⟩ = some (.int .i64 a) := ⟨(LB.cells HD4.out.2.2.1).1, (FB.cells HD4.out.1).2.2.1⟩; clear d3 hr3 l3 k3 kp3 d5 l5 hr5 hkk))
  obtain ⟨W6, hW6⟩ : ∃ W6, (((w5.setCell ⟨g, 3, none⟩ (.int .i64 a)).setCell ⟨g, 4, none⟩ (.int .i64 XL)).setCell ⟨g, 5, none⟩ (.int .i64 XC)) = W6 := ⟨_, rfl⟩
  rw [hW6] at HD4 ⊢
  clear P0 P5 P6
  obtain ⟨e0, e1, e2, e3, e4, e5, e6⟩ := FB.cells HD4.out.1
  obtain ⟨s0, s1, s2, s3, s4, s5, s6⟩ := LB.cells HD4.out.2.2.1
  clear hW6 o0 o1 o2 o3 o4 o5 o6 u3 u4 u5 q0 q1 q2 q3 q4 q5 q6
  go_wp2_with fail
  have HTe : Hid (∀ U, Below W6.heap.size W6 U → Calls Tryz.prog 28 #[.pointer (some ⟨g, 0, none⟩), .agg #[.slice vp M.length vc, .int .i64 E, .int .i64 a], .int .i64 M.length] U fun e w' => ∃ v, e = .returned v ∧ (TL U w' g S (max n M.length) E a XL XC true v (M.drop n) ∧ Box3 U W.heap.size 0 0 0 ∧ Kp (fun q => q = g) W U ∧ FB w' w2.heap.size (.slice vp M.length vc) E a)) := fun U hU => by
    obtain ⟨d3, hr3, l3, k3, kp3⟩ := HD4.out
    have hr4 := hr3.below hU
    have l4 : LB U g S n E a XL XC true := blk_below l3 hU
    obtain ⟨ao, cap, e, hLt, hao, _⟩ := Lt.row hr4
    cases e
    have h9 := tells_any g S n E a XL XC true vp vc M E a M.length _ l4 hLt (Nat.le_refl _) HNE.out.2.2.1 hn (by
      intro a' e' h'
      rcases hao with e | ⟨q, e, hq, _⟩
      · rw [e] at e'; cases e'
      · rw [e] at e'
        cases e'
        have := HNE.out.2.2.2.1
        have h'' : q = g := h'
        omega)
    rw [List.take_of_length_le (Nat.le_refl _)] at h9
    refine h9.mono ?_
    rintro e w' ⟨v, rfl, hT⟩
    exact ⟨v, rfl, hT, k3.below hU, kp3.step (Kp.of_below hU) (fun _ _ h => h), hT.kp.blk (blk_below d3 hU) (fun e => HNE.out.1 e.symm)⟩
  have S0 : W6.cell? ⟨w2.heap.size, 0, none⟩ = some (.slice vp M.length vc) ∧ W6.cell? ⟨w2.heap.size, 1, none⟩ = some (.int .i64 E) ∧ W6.cell? ⟨w2.heap.size, 2, none⟩ = some (.int .i64 a) ∧ W6.cell? ⟨g, 2, none⟩ = some (.int .i64 E) ∧ W6.cell? ⟨g, 3, none⟩ = some (.int .i64 a) ∧ W6.cell? ⟨g, 4, none⟩ = some (.int .i64 XL) ∧ W6.cell? ⟨g, 5, none⟩ = some (.int .i64 XC) := ⟨e0, e1, e2, s2, s3, s4, s5⟩
  go_region_held3 (fun w' => w'.cell? ⟨w2.heap.size, 0, none⟩ = some (.slice vp M.length vc) ∧ w'.cell? ⟨w2.heap.size, 1, none⟩ = some (.int .i64 E) ∧ w'.cell? ⟨w2.heap.size, 2, none⟩ = some (.int .i64 a) ∧ w'.cell? ⟨g, 2, none⟩ = some (.int .i64 E) ∧ w'.cell? ⟨g, 3, none⟩ = some (.int .i64 a) ∧ w'.cell? ⟨g, 4, none⟩ = some (.int .i64 XL) ∧ w'.cell? ⟨g, 5, none⟩ = some (.int .i64 XC)) (first | (exact S0) | (exact S8) | (exact S9) | go_keep) (first | (go_at_call 28; refine (HTe.out _ (Below.refl _ _).drew).mono ?_; rintro e w8 ⟨v8, rfl, hT, hk8, hp8, hd8⟩; obtain ⟨p8, cc8, rfl, _⟩ := hT.row.shape; have k8 := hT.box hk8 (by omega); have g0 := k8.cell0; have g1 := k8.cell1; have g2 := k8.cell2; have zz0 := k8.frozen 0; have zz1 := k8.frozen 1; have zz2 := k8.frozen 2; obtain ⟨r0, r1, r2, r3, r4, r5, r6⟩ := LB.cells hT.lex; obtain ⟨t8, b8⟩ := hT.fin hp8 hlt hk8 a XL XC; have HF : Hid (TL W (((w8.setCell ⟨W.heap.size, 0, none⟩ (.int .i64 a)).setCell ⟨W.heap.size, 1, none⟩ (.int .i64 XL)).setCell ⟨W.heap.size, 2, none⟩ (.int .i64 XC)) g S (max n M.length) E a XL XC true (.slice p8 (M.drop n).length cc8) (M.drop n)) := t8; have m0 := b8.cell0; have m1 := b8.cell1; have m2 := b8.cell2; obtain ⟨v0, v1, v2, _⟩ := FB.cells hd8; have S8 : w8.cell? ⟨w2.heap.size, 0, none⟩ = some (.slice vp M.length vc) ∧ w8.cell? ⟨w2.heap.size, 1, none⟩ = some (.int .i64 E) ∧ w8.cell? ⟨w2.heap.size, 2, none⟩ = some (.int .i64 a) ∧ w8.cell? ⟨g, 2, none⟩ = some (.int .i64 E) ∧ w8.cell? ⟨g, 3, none⟩ = some (.int .i64 a) ∧ w8.cell? ⟨g, 4, none⟩ = some (.int .i64 XL) ∧ w8.cell? ⟨g, 5, none⟩ = some (.int .i64 XC) := ⟨v0, v1, v2, r2, r3, r4, r5⟩; obtain ⟨o0, o1, o2, o3, o4, o5, o6⟩ := LB.cells t8.lex; have hkz : Kp (fun q => q = W.heap.size) w8 (((w8.setCell ⟨W.heap.size, 0, none⟩ (.int .i64 a)).setCell ⟨W.heap.size, 1, none⟩ (.int .i64 XL)).setCell ⟨W.heap.size, 2, none⟩ (.int .i64 XC)) := ((Kp.set _ _ _ _).trans (Kp.set _ _ _ _)).trans (Kp.set _ _ _ _); have d9 : FB (((w8.setCell ⟨W.heap.size, 0, none⟩ (.int .i64 a)).setCell ⟨W.heap.size, 1, none⟩ (.int .i64 XL)).setCell ⟨W.heap.size, 2, none⟩ (.int .i64 XC)) w2.heap.size (.slice vp M.length vc) E a := hkz.blk hd8 (fun e => HNE.out.2.1 e.symm); obtain ⟨n0, n1, n2, _⟩ := FB.cells d9; have S9 : (((w8.setCell ⟨W.heap.size, 0, none⟩ (.int .i64 a)).setCell ⟨W.heap.size, 1, none⟩ (.int .i64 XL)).setCell ⟨W.heap.size, 2, none⟩ (.int .i64 XC)).cell? ⟨w2.heap.size, 0, none⟩ = some (.slice vp M.length vc) ∧ (((w8.setCell ⟨W.heap.size, 0, none⟩ (.int .i64 a)).setCell ⟨W.heap.size, 1, none⟩ (.int .i64 XL)).setCell ⟨W.heap.size, 2, none⟩ (.int .i64 XC)).cell? ⟨w2.heap.size, 1, none⟩ = some (.int .i64 E) ∧ (((w8.setCell ⟨W.heap.size, 0, none⟩ (.int .i64 a)).setCell ⟨W.heap.size, 1, none⟩ (.int .i64 XL)).setCell ⟨W.heap.size, 2, none⟩ (.int .i64 XC)).cell? ⟨w2.heap.size, 2, none⟩ = some (.int .i64 a) ∧ (((w8.setCell ⟨W.heap.size, 0, none⟩ (.int .i64 a)).setCell ⟨W.heap.size, 1, none⟩ (.int .i64 XL)).setCell ⟨W.heap.size, 2, none⟩ (.int .i64 XC)).cell? ⟨g, 2, none⟩ = some (.int .i64 E) ∧ (((w8.setCell ⟨W.heap.size, 0, none⟩ (.int .i64 a)).setCell ⟨W.heap.size, 1, none⟩ (.int .i64 XL)).setCell ⟨W.heap.size, 2, none⟩ (.int .i64 XC)).cell? ⟨g, 3, none⟩ = some (.int .i64 a) ∧ (((w8.setCell ⟨W.heap.size, 0, none⟩ (.int .i64 a)).setCell ⟨W.heap.size, 1, none⟩ (.int .i64 XL)).setCell ⟨W.heap.size, 2, none⟩ (.int .i64 XC)).cell? ⟨g, 4, none⟩ = some (.int .i64 XL) ∧ (((w8.setCell ⟨W.heap.size, 0, none⟩ (.int .i64 a)).setCell ⟨W.heap.size, 1, none⟩ (.int .i64 XL)).setCell ⟨W.heap.size, 2, none⟩ (.int .i64 XC)).cell? ⟨g, 5, none⟩ = some (.int .i64 XC) := ⟨n0, n1, n2, o2, o3, o4, o5⟩; clear t8 hT hd8 hkz d9))
  all_goals (
    go_wp2_with fail
    refine bodyPost_ret (v := .tuple #[.slice p8 (M.drop n).length cc8, .int .i64 E, .agg #[.int .i64 a, .int .i64 XL, .int .i64 XC]]) (by simp [results, Tryz.f18, go_sem, m0, m1, m2]) rfl ?_
    exact ⟨_, rfl, HF.out⟩)

set_option maxRecDepth 100000 in
set_option maxHeartbeats 1000000 in
/-- Held. -/
theorem rheld_live {W : World} {g : Nat} {S : ByteArray} {T : List Tk} {k b f : Nat} (h : LB W g S T.length 0 0 0 0 false) (hs : S.size ≤ 1000000000) (hst : St S T k b f) :
    Calls Tryz.prog 17 #[.pointer (some ⟨g, 0, none⟩)] W fun e w' => e = .returned (.int .i64 ((S.size - b : Nat) : Int)) ∧ Below W.heap.size W w' := by
  obtain ⟨c0, c1, c2, c3, c4, c5, c6⟩ := h.cells
  have hlt := blk_lt h
  have hwb := wh_bd S
  have hwl := whl_size S
  have hbd : b ≤ (whl S).size ∧ b ≤ S.size := by
    have h1 := hst.told.bds
    exact ⟨h1.2.1, by omega⟩
  have HWh : Hid (∀ V, Calls Tryz.prog 25 #[.string S] V fun e w' => e = .returned (.int .i64 (wh S)) ∧ w' = V) := fun V => rwhole_any _ V (by omega)
  have i1 : (0 : Int) ≤ wh S := by omega
  have i2 : (wh S : Int) ≤ S.size := by omega
  have HB : Hid (∀ V, Below W.heap.size W V → LB V g S T.length 0 0 0 0 false) := fun V hV => blk_below h hV
  have hez : (S.extract 0 (wh S)).size = wh S := hwl
  rcases ms_fin hst.told hst.ms with ⟨hS, hb⟩ | ⟨t, hS, ht1, ht2, ht3, ht4, ht5, hb⟩ | ⟨hS, hE, hb⟩
  · have HFi : Hid (∀ V, Calls Tryz.prog 26 #[.string (S.extract 0 (wh S))] V fun e w' => ∃ v, e = .returned (.agg #[v, .int .i64 0, .int .i64 0]) ∧ Rt V.heap.size w' v (T.map (tv (whl S))) ∧ Below V.heap.size V w') := fun V => by
      have h9 := find_any (whl S) V (by omega)
      unfold FV at h9
      rw [hS] at h9
      exact h9
    have HR : Hid (((S.size - b : Nat) : Int) = (S.size : Int) - (wh S : Int)) := by show _ = _; omega
    have hwr : IntKind.i64.wrap ((S.size : Int) - (wh S : Int)) = (S.size : Int) - (wh S : Int) := by rw [IntKind.wrap_i64]; omega
    obtain ⟨M, hM⟩ : ∃ M, T.map (tv (whl S)) = M := ⟨_, rfl⟩
    have hMl : T.length = M.length := by rw [← hM, List.length_map]
    rw [hM] at HFi
    rw [hMl] at HB c1
    have q1 : ¬ (M.length : Int) < M.length := by omega
    clear h hst hS hb hM hMl hwl hbd
    go_enter Tryz.func17, Tryz.ntmps17
    go_wp2_with fail
    go_quiet ((go_at_call 25; exact Calls.quiet_of_same (HWh.out _)))
    obtain ⟨Q, hQ⟩ : ∃ Q, S.extract 0 (wh S) = Q := ⟨_, rfl⟩
    rw [hQ] at HFi hez ⊢
    clear hQ
    go_wp2_with (first | (go_at_call 26; refine (HFi.out _).mono ?_; rintro e w2 ⟨v, rfl, hr, hb⟩; obtain ⟨vp, vc, rfl, hv1, hv2⟩ := hr.shape; have hbW : Below W.heap.size W w2 := (below_dn (Below.refl W.heap.size W) nq).trans hb; obtain ⟨d0, d1, d2, d3, d4, d5, d6⟩ := LB.cells (HB.out _ hbW); have hl2 := blk_lt (HB.out _ hbW)))
    go_quiet (fail)
    go_wp2_with fail
    go_ret
    exact ⟨by rw [HR.out]; rfl, below_dn (hbW.alloc hbW.size _) _⟩
  · have HFi : Hid (∀ V, Calls Tryz.prog 26 #[.string (S.extract 0 (wh S))] V fun e w' => ∃ v, e = .returned (.agg #[v, .int .i64 0, .int .i64 0]) ∧ Rt V.heap.size w' v ((T ++ [t]).map (tv (whl S))) ∧ Below V.heap.size V w') := fun V => by
      have h9 := find_any (whl S) V (by omega)
      unfold FV at h9
      rw [hS] at h9
      exact h9
    have HR : Hid (((S.size - b : Nat) : Int) = (S.size : Int) - (t.a : Int)) := by show _ = _; rw [ht1]; omega
    have hwr : IntKind.i64.wrap ((S.size : Int) - (t.a : Int)) = (S.size : Int) - (t.a : Int) := by rw [IntKind.wrap_i64]; omega
    obtain ⟨M, hM⟩ : ∃ M, (T ++ [t]).map (tv (whl S)) = M := ⟨_, rfl⟩
    have hMl : M.length = T.length + 1 := by rw [← hM, List.length_map, List.length_append]; rfl
    have HMt : Hid (M[T.length]? = some (tv (whl S) t)) := by
      show _ = _
      rw [← hM, List.getElem?_map, List.getElem?_append_right (Nat.le_refl _), Nat.sub_self]
      rfl
    rw [hM] at HFi
    have q1 : (T.length : Int) < M.length := by omega
    have q2 : (0 : Int) ≤ T.length := by omega
    obtain ⟨A, hA⟩ : ∃ A, t.a = A := ⟨_, rfl⟩
    rw [hA] at HR hwr
    have HAt : Hid ((tv (whl S) t).a = A) := by show (t.a : Int) = A; rw [hA]
    clear h hst hS hb hM hMl hwl hbd ht1 ht2 ht3 ht4 ht5 hA
    go_enter Tryz.func17, Tryz.ntmps17
    go_wp2_with fail
    go_quiet ((go_at_call 25; exact Calls.quiet_of_same (HWh.out _)))
    obtain ⟨Q, hQ⟩ : ∃ Q, S.extract 0 (wh S) = Q := ⟨_, rfl⟩
    rw [hQ] at HFi hez ⊢
    clear hQ
    go_wp2_with (first | (go_at_call 26; refine (HFi.out _).mono ?_; rintro e w2 ⟨v, rfl, hr, hb⟩; obtain ⟨vp, vc, rfl, hv1, hv2⟩ := hr.shape; have hbW : Below W.heap.size W w2 := (below_dn (Below.refl W.heap.size W) nq).trans hb; obtain ⟨d0, d1, d2, d3, d4, d5, d6⟩ := LB.cells (HB.out _ hbW); have hl2 := blk_lt (HB.out _ hbW); obtain ⟨ao, cap, e9, hLt, hao, _⟩ := Lt.row hr; cases e9; obtain ⟨bq, off, eq, k0, k1, k2, k3, k4, k5⟩ := hLt _ _ HMt.out; subst eq; rw [HAt.out] at k2; have hlq := World.block_lt_of_cell? _ _ k0; clear hLt hao))
    go_quiet (fail)
    go_wp2_with fail
    go_quiet (fail)
    go_wp2_with fail
    go_ret
    exact ⟨by rw [HR.out]; rfl, below_dn (below_dn (hbW.alloc hbW.size _) _) _⟩
  · have HFi : Hid (∀ V, Calls Tryz.prog 26 #[.string (S.extract 0 (wh S))] V fun e w' => ∃ v, e = .returned (.agg #[v, .int .i64 101, .int .i64 b]) ∧ Rt V.heap.size w' v (T.map (tv (whl S))) ∧ Below V.heap.size V w') := fun V => by
      have h9 := find_any (whl S) V (by omega)
      unfold FV at h9
      rw [hS] at h9
      exact h9
    have HR : Hid (((S.size - b : Nat) : Int) = (S.size : Int) - (b : Int)) := by show _ = _; omega
    have hwr : IntKind.i64.wrap ((S.size : Int) - (b : Int)) = (S.size : Int) - (b : Int) := by rw [IntKind.wrap_i64]; omega
    obtain ⟨M, hM⟩ : ∃ M, T.map (tv (whl S)) = M := ⟨_, rfl⟩
    have hMl : T.length = M.length := by rw [← hM, List.length_map]
    rw [hM] at HFi
    rw [hMl] at HB c1
    have q1 : ¬ (M.length : Int) < M.length := by omega
    clear h hst hS hb hE hM hMl hwl hbd
    go_enter Tryz.func17, Tryz.ntmps17
    go_wp2_with fail
    go_quiet ((go_at_call 25; exact Calls.quiet_of_same (HWh.out _)))
    obtain ⟨Q, hQ⟩ : ∃ Q, S.extract 0 (wh S) = Q := ⟨_, rfl⟩
    rw [hQ] at HFi hez ⊢
    clear hQ
    go_wp2_with (first | (go_at_call 26; refine (HFi.out _).mono ?_; rintro e w2 ⟨v, rfl, hr, hb⟩; obtain ⟨vp, vc, rfl, hv1, hv2⟩ := hr.shape; have hbW : Below W.heap.size W w2 := (below_dn (Below.refl W.heap.size W) nq).trans hb; obtain ⟨d0, d1, d2, d3, d4, d5, d6⟩ := LB.cells (HB.out _ hbW); have hl2 := blk_lt (HB.out _ hbW)))
    go_quiet (fail)
    go_wp2_with fail
    go_quiet (fail)
    go_wp2_with fail
    go_ret
    exact ⟨by rw [HR.out]; rfl, below_dn (below_dn (hbW.alloc hbW.size _) _) _⟩

end Go.Proofs.YtnmjkgjhjnpijaaGreatDoor
