import Derived.Test.YtkglkhijngpgiaaGreatUc
set_option linter.unusedVariables false
set_option linter.unusedSimpArgs false
namespace Go.Proofs.YtkglkhijngpgiaaGreat
open Go.RowKit

/-! ParsePuts (typed by parse_puts.py). -/
set_option maxRecDepth 100000 in
set_option maxHeartbeats 4000000 in
theorem puts_walk (ao bo : Option Addr) (l m : List Tv) (ca cb : Nat) (turn : Int) (w : World) (hA : Lt w ao l) (hB : Lt w bo m) (hl : l.length ≤ 9223372036854775807) (hm : m.length ≤ 9223372036854775807) (hlm : l.length + m.length ≤ 3000) :
    Calls Tryz.prog 3 #[.slice ao l.length ca, .slice bo m.length cb, .int .i64 turn] w fun e w' => e = .returned (.bool true) ∧ Below w.heap.size w w' := by
  have HA : Hid (Lt w ao l) := hA
  have HB : Hid (Lt w bo m) := hB
  have q0 : ¬ ((l.length : Int) + m.length > 3000) := by omega
  have ql : (l.length : Int) ≤ 3000 := by omega
  have qm : (m.length : Int) ≤ 3000 := by omega
  clear hA hB
  go_enter Tryz.func3, Tryz.ntmps3
  go_wp2_with (go_at_call 4; refine (awake_any _).mono ?_; rintro e w3 ⟨rfl, hb3⟩; have HB3 : Hid (Below w.heap.size w w3) := hb3; clear hb3)
  refine (new_st w3).mono ?_
  rintro e w4 ⟨rfl, a4, a3, a2⟩
  have HA4 : Hid (Below w3.heap.size w3 w4 ∧ w4.heap.size = w3.heap.size + 1 ∧ Pq (fun k => k = w3.heap.size) w4 w3.heap.size (.live [] 0)) := ⟨a3, a2, a4⟩
  clear a2 a3 a4
  go_wp2_with fail
  refine (rnew_any w4).mono ?_
  rintro e w5 ⟨rfl, e5⟩
  have HE5 : Hid (w5 = w4.alloc (.cells #[nilS, nilS, .int .i64 0, .bool false] 49)) := e5
  clear e5
  go_wp2_with fail
  obtain ⟨w5', e5'⟩ : ∃ w5', w5' = w5.alloc (.cells #[pt w3.heap.size, pt w4.heap.size] 29) := ⟨_, rfl⟩
  rw [← e5']
  have HE5' : Hid (w5' = w5.alloc (.cells #[pt w3.heap.size, pt w4.heap.size] 29)) := e5'
  clear e5'
  refine (new_st w5').mono ?_
  rintro e w6 ⟨rfl, b4, b3, b2⟩
  have HB4 : Hid (Below w5'.heap.size w5' w6 ∧ w6.heap.size = w5'.heap.size + 1 ∧ Pq (fun k => k = w5'.heap.size) w6 w5'.heap.size (.live [] 0)) := ⟨b3, b2, b4⟩
  clear b2 b3 b4
  go_wp2_with fail
  refine (rnew_any w6).mono ?_
  rintro e w7 ⟨rfl, e7⟩
  have HTP : Hid (TP w (w7.alloc (.cells #[pt w5'.heap.size, pt w6.heap.size] 29)) w5.heap.size w7.heap.size w3.heap.size w4.heap.size w5'.heap.size w6.heap.size 0) := TP.start HB3.out HA4.out.1 HA4.out.2.1 HA4.out.2.2 HE5.out HE5'.out HB4.out.1 HB4.out.2.1 HB4.out.2.2 e7 rfl
  clear e7 HA4 HB4 HE5 HE5' HB3
  obtain ⟨x0, x1, x2, x3⟩ := HTP.out.cells
  obtain ⟨l1, l2⟩ := HTP.out.lts
  go_wp2_with fail
  clear x0 x1 x2 x3 l1 l2
  generalize w5.heap.size = AA at HTP ⊢
  generalize w7.heap.size = BB at HTP ⊢
  generalize w3.heap.size = ga at HTP ⊢
  generalize w4.heap.size = ra at HTP ⊢
  generalize w5'.heap.size = gb at HTP ⊢
  generalize w6.heap.size = rb at HTP ⊢
  generalize w7.alloc (.cells #[pt gb, pt rb] 29) = V7 at HTP ⊢
  go_loopw [10] (fun i wr => ∃ k : Nat, k ≤ max l.length m.length ∧ i = .int .i64 k ∧ ∃ j, j ≤ 3 * k ∧ Hid (TP w wr AA BB ga ra gb rb j)) (fun i _ => max l.length m.length - (intOf i).toNat)
  case atStart => exact ⟨0, Nat.zero_le _, rfl, 0, Nat.le_refl _, HTP⟩
  case round =>
    clear HTP
    obtain ⟨k, hk, rfl, j, hj, HW⟩ := hrel
    have q3 : (0 : Int) ≤ k := by omega
    have hk3 : k ≤ 3000 := by omega
    by_cases g1 : k < l.length
    · by_cases g2 : k < m.length
      · by_cases g3 : turn = k
        · skip
          have q1 : (k : Int) < l.length := by omega
          obtain ⟨s, hs⟩ : ∃ s, l[k]? = some s := ⟨_, List.getElem?_eq_getElem g1⟩
          have q2 : (k : Int) < m.length := by omega
          obtain ⟨u, hu⟩ : ∃ u, m[k]? = some u := ⟨_, List.getElem?_eq_getElem g2⟩
          have q4 : (k : Int) = turn := g3.symm
          subst g3
          obtain ⟨x0, x1, x2, x3⟩ := HW.out.cells
          obtain ⟨ab, aoff, rfl, y0, y1, y2, y3, y4, y5⟩ := (HA.out.below HW.out.bel) k s hs
          have HK1 : Hid (∀ V, Below wr.heap.size wr V → V.cell? ⟨AA, 0, none⟩ = some (pt ga) ∧ V.cell? ⟨AA, 1, none⟩ = some (pt ra) ∧ V.cell? ⟨ab, aoff + k * 6, none⟩ = some (.int .u8 s.k) ∧ V.cell? ⟨ab, aoff + k * 6 + 1, none⟩ = some (.string s.t) ∧ V.cell? ⟨ab, aoff + k * 6 + 2, none⟩ = some (.int .i64 s.a) ∧ V.cell? ⟨ab, aoff + k * 6 + 3, none⟩ = some (.int .i64 s.l) ∧ V.cell? ⟨ab, aoff + k * 6 + 4, none⟩ = some (.int .i64 s.c) ∧ V.cell? ⟨ab, aoff + k * 6 + 5, none⟩ = some (.int .i64 s.f)) := fun V hV => by
            obtain ⟨b', o', e', z0, z1, z2, z3, z4, z5⟩ := (HA.out.below (HW.out.below hV).bel) k s hs
            cases e'
            exact ⟨(HW.out.below hV).cells.1, (HW.out.below hV).cells.2.1, z0, z1, z2, z3, z4, z5⟩
          have HJ0 : Hid (∀ v, TP w v AA BB ga ra gb rb (j + 1) → ∀ V, Below v.heap.size v V → V.cell? ⟨AA, 0, none⟩ = some (pt ga) ∧ V.cell? ⟨AA, 1, none⟩ = some (pt ra) ∧ V.cell? ⟨ab, aoff + k * 6, none⟩ = some (.int .u8 s.k) ∧ V.cell? ⟨ab, aoff + k * 6 + 1, none⟩ = some (.string s.t) ∧ V.cell? ⟨ab, aoff + k * 6 + 2, none⟩ = some (.int .i64 s.a) ∧ V.cell? ⟨ab, aoff + k * 6 + 3, none⟩ = some (.int .i64 s.l) ∧ V.cell? ⟨ab, aoff + k * 6 + 4, none⟩ = some (.int .i64 s.c) ∧ V.cell? ⟨ab, aoff + k * 6 + 5, none⟩ = some (.int .i64 s.f)) := fun v ht V hV => by
            obtain ⟨b', o', e', z0, z1, z2, z3, z4, z5⟩ := (HA.out.below (ht.below hV).bel) k s hs
            cases e'
            exact ⟨(ht.below hV).cells.1, (ht.below hV).cells.2.1, z0, z1, z2, z3, z4, z5⟩
          obtain ⟨l1, l2⟩ := HW.out.lts
          have yl := World.block_lt_of_cell? _ _ y0
          go_wp2_with fail
          go_region_held3 (fun wz => wz.cell? ⟨AA, 0, none⟩ = some (pt ga) ∧ wz.cell? ⟨AA, 1, none⟩ = some (pt ra) ∧ wz.cell? ⟨ab, aoff + k * 6, none⟩ = some (.int .u8 s.k) ∧ wz.cell? ⟨ab, aoff + k * 6 + 1, none⟩ = some (.string s.t) ∧ wz.cell? ⟨ab, aoff + k * 6 + 2, none⟩ = some (.int .i64 s.a) ∧ wz.cell? ⟨ab, aoff + k * 6 + 3, none⟩ = some (.int .i64 s.l) ∧ wz.cell? ⟨ab, aoff + k * 6 + 4, none⟩ = some (.int .i64 s.c) ∧ wz.cell? ⟨ab, aoff + k * 6 + 5, none⟩ = some (.int .i64 s.f)) (first | (exact HK1.out _ (Below.refl _ _)) | (exact HK1.out _ (Below.refl _ _).drew) | (exact HJ.out _ (Below.refl _ _)) | go_keep) (first | (go_at_call 7; refine ((HW.out.below (by first | exact Below.refl _ _ | exact (Below.refl _ _).drew)).put s (by omega)).mono ?_; rintro e v1 ⟨rfl, htp⟩; have HW1 : Hid (TP w v1 AA BB ga ra gb rb (j + 1)) := htp; have HJ := show Hid _ from HJ0.out _ htp))
          clear htp x0 x1 x2 x3 y0 y1 y2 y3 y4 y5 HJ HK1 HJ0 l1 l2 yl
          obtain ⟨x0, x1, x2, x3⟩ := HW1.out.cells
          obtain ⟨bb, boff, rfl, y0, y1, y2, y3, y4, y5⟩ := (HB.out.below HW1.out.bel) k u hu
          have HK1 : Hid (∀ V, Below v1.heap.size v1 V → V.cell? ⟨BB, 0, none⟩ = some (pt gb) ∧ V.cell? ⟨BB, 1, none⟩ = some (pt rb) ∧ V.cell? ⟨bb, boff + k * 6, none⟩ = some (.int .u8 u.k) ∧ V.cell? ⟨bb, boff + k * 6 + 1, none⟩ = some (.string u.t) ∧ V.cell? ⟨bb, boff + k * 6 + 2, none⟩ = some (.int .i64 u.a) ∧ V.cell? ⟨bb, boff + k * 6 + 3, none⟩ = some (.int .i64 u.l) ∧ V.cell? ⟨bb, boff + k * 6 + 4, none⟩ = some (.int .i64 u.c) ∧ V.cell? ⟨bb, boff + k * 6 + 5, none⟩ = some (.int .i64 u.f)) := fun V hV => by
            obtain ⟨b', o', e', z0, z1, z2, z3, z4, z5⟩ := (HB.out.below (HW1.out.below hV).bel) k u hu
            cases e'
            exact ⟨(HW1.out.below hV).cells.2.2.1, (HW1.out.below hV).cells.2.2.2, z0, z1, z2, z3, z4, z5⟩
          have HJ0 : Hid (∀ v, TP w v AA BB ga ra gb rb (j + 2) → ∀ V, Below v.heap.size v V → V.cell? ⟨BB, 0, none⟩ = some (pt gb) ∧ V.cell? ⟨BB, 1, none⟩ = some (pt rb) ∧ V.cell? ⟨bb, boff + k * 6, none⟩ = some (.int .u8 u.k) ∧ V.cell? ⟨bb, boff + k * 6 + 1, none⟩ = some (.string u.t) ∧ V.cell? ⟨bb, boff + k * 6 + 2, none⟩ = some (.int .i64 u.a) ∧ V.cell? ⟨bb, boff + k * 6 + 3, none⟩ = some (.int .i64 u.l) ∧ V.cell? ⟨bb, boff + k * 6 + 4, none⟩ = some (.int .i64 u.c) ∧ V.cell? ⟨bb, boff + k * 6 + 5, none⟩ = some (.int .i64 u.f)) := fun v ht V hV => by
            obtain ⟨b', o', e', z0, z1, z2, z3, z4, z5⟩ := (HB.out.below (ht.below hV).bel) k u hu
            cases e'
            exact ⟨(ht.below hV).cells.2.2.1, (ht.below hV).cells.2.2.2, z0, z1, z2, z3, z4, z5⟩
          obtain ⟨l1, l2⟩ := HW1.out.lts
          have yl := World.block_lt_of_cell? _ _ y0
          go_wp2_with fail
          go_region_held3 (fun wz => wz.cell? ⟨BB, 0, none⟩ = some (pt gb) ∧ wz.cell? ⟨BB, 1, none⟩ = some (pt rb) ∧ wz.cell? ⟨bb, boff + k * 6, none⟩ = some (.int .u8 u.k) ∧ wz.cell? ⟨bb, boff + k * 6 + 1, none⟩ = some (.string u.t) ∧ wz.cell? ⟨bb, boff + k * 6 + 2, none⟩ = some (.int .i64 u.a) ∧ wz.cell? ⟨bb, boff + k * 6 + 3, none⟩ = some (.int .i64 u.l) ∧ wz.cell? ⟨bb, boff + k * 6 + 4, none⟩ = some (.int .i64 u.c) ∧ wz.cell? ⟨bb, boff + k * 6 + 5, none⟩ = some (.int .i64 u.f)) (first | (exact HK1.out _ (Below.refl _ _)) | (exact HK1.out _ (Below.refl _ _).drew) | (exact HJ.out _ (Below.refl _ _)) | go_keep) (first | (go_at_call 7; refine ((HW1.out.below (by first | exact Below.refl _ _ | exact (Below.refl _ _).drew)).put' u (by omega)).mono ?_; rintro e v2 ⟨rfl, htp⟩; have HW2 : Hid (TP w v2 AA BB ga ra gb rb (j + 2)) := htp; have HJ := show Hid _ from HJ0.out _ htp))
          clear htp x0 x1 x2 x3 y0 y1 y2 y3 y4 y5 HJ HK1 HJ0 l1 l2 yl
          obtain ⟨x0, x1, x2, x3⟩ := HW2.out.cells
          obtain ⟨l1, l2⟩ := HW2.out.lts
          go_wp2_with fail
          refine (HW2.out.close' (by omega)).mono ?_
          rintro e v3 ⟨rfl, htp⟩
          have HW3 : Hid (TP w v3 AA BB ga ra gb rb _) := htp
          clear htp x0 x1 x2 x3 l1 l2
          go_wp2_with fail
          exact ⟨⟨k + 1, by omega, by go_num, _, by omega, HW3⟩, by simp [intOf]; omega⟩
        · skip
          have q1 : (k : Int) < l.length := by omega
          obtain ⟨s, hs⟩ : ∃ s, l[k]? = some s := ⟨_, List.getElem?_eq_getElem g1⟩
          have q2 : (k : Int) < m.length := by omega
          obtain ⟨u, hu⟩ : ∃ u, m[k]? = some u := ⟨_, List.getElem?_eq_getElem g2⟩
          have q4 : ¬ ((k : Int) = turn) := fun e => g3 e.symm
          obtain ⟨x0, x1, x2, x3⟩ := HW.out.cells
          obtain ⟨ab, aoff, rfl, y0, y1, y2, y3, y4, y5⟩ := (HA.out.below HW.out.bel) k s hs
          have HK1 : Hid (∀ V, Below wr.heap.size wr V → V.cell? ⟨AA, 0, none⟩ = some (pt ga) ∧ V.cell? ⟨AA, 1, none⟩ = some (pt ra) ∧ V.cell? ⟨ab, aoff + k * 6, none⟩ = some (.int .u8 s.k) ∧ V.cell? ⟨ab, aoff + k * 6 + 1, none⟩ = some (.string s.t) ∧ V.cell? ⟨ab, aoff + k * 6 + 2, none⟩ = some (.int .i64 s.a) ∧ V.cell? ⟨ab, aoff + k * 6 + 3, none⟩ = some (.int .i64 s.l) ∧ V.cell? ⟨ab, aoff + k * 6 + 4, none⟩ = some (.int .i64 s.c) ∧ V.cell? ⟨ab, aoff + k * 6 + 5, none⟩ = some (.int .i64 s.f)) := fun V hV => by
            obtain ⟨b', o', e', z0, z1, z2, z3, z4, z5⟩ := (HA.out.below (HW.out.below hV).bel) k s hs
            cases e'
            exact ⟨(HW.out.below hV).cells.1, (HW.out.below hV).cells.2.1, z0, z1, z2, z3, z4, z5⟩
          have HJ0 : Hid (∀ v, TP w v AA BB ga ra gb rb (j + 1) → ∀ V, Below v.heap.size v V → V.cell? ⟨AA, 0, none⟩ = some (pt ga) ∧ V.cell? ⟨AA, 1, none⟩ = some (pt ra) ∧ V.cell? ⟨ab, aoff + k * 6, none⟩ = some (.int .u8 s.k) ∧ V.cell? ⟨ab, aoff + k * 6 + 1, none⟩ = some (.string s.t) ∧ V.cell? ⟨ab, aoff + k * 6 + 2, none⟩ = some (.int .i64 s.a) ∧ V.cell? ⟨ab, aoff + k * 6 + 3, none⟩ = some (.int .i64 s.l) ∧ V.cell? ⟨ab, aoff + k * 6 + 4, none⟩ = some (.int .i64 s.c) ∧ V.cell? ⟨ab, aoff + k * 6 + 5, none⟩ = some (.int .i64 s.f)) := fun v ht V hV => by
            obtain ⟨b', o', e', z0, z1, z2, z3, z4, z5⟩ := (HA.out.below (ht.below hV).bel) k s hs
            cases e'
            exact ⟨(ht.below hV).cells.1, (ht.below hV).cells.2.1, z0, z1, z2, z3, z4, z5⟩
          obtain ⟨l1, l2⟩ := HW.out.lts
          have yl := World.block_lt_of_cell? _ _ y0
          go_wp2_with fail
          go_region_held3 (fun wz => wz.cell? ⟨AA, 0, none⟩ = some (pt ga) ∧ wz.cell? ⟨AA, 1, none⟩ = some (pt ra) ∧ wz.cell? ⟨ab, aoff + k * 6, none⟩ = some (.int .u8 s.k) ∧ wz.cell? ⟨ab, aoff + k * 6 + 1, none⟩ = some (.string s.t) ∧ wz.cell? ⟨ab, aoff + k * 6 + 2, none⟩ = some (.int .i64 s.a) ∧ wz.cell? ⟨ab, aoff + k * 6 + 3, none⟩ = some (.int .i64 s.l) ∧ wz.cell? ⟨ab, aoff + k * 6 + 4, none⟩ = some (.int .i64 s.c) ∧ wz.cell? ⟨ab, aoff + k * 6 + 5, none⟩ = some (.int .i64 s.f)) (first | (exact HK1.out _ (Below.refl _ _)) | (exact HK1.out _ (Below.refl _ _).drew) | (exact HJ.out _ (Below.refl _ _)) | go_keep) (first | (go_at_call 7; refine ((HW.out.below (by first | exact Below.refl _ _ | exact (Below.refl _ _).drew)).put s (by omega)).mono ?_; rintro e v1 ⟨rfl, htp⟩; have HW1 : Hid (TP w v1 AA BB ga ra gb rb (j + 1)) := htp; have HJ := show Hid _ from HJ0.out _ htp))
          clear htp x0 x1 x2 x3 y0 y1 y2 y3 y4 y5 HJ HK1 HJ0 l1 l2 yl
          obtain ⟨x0, x1, x2, x3⟩ := HW1.out.cells
          obtain ⟨bb, boff, rfl, y0, y1, y2, y3, y4, y5⟩ := (HB.out.below HW1.out.bel) k u hu
          have HK1 : Hid (∀ V, Below v1.heap.size v1 V → V.cell? ⟨BB, 0, none⟩ = some (pt gb) ∧ V.cell? ⟨BB, 1, none⟩ = some (pt rb) ∧ V.cell? ⟨bb, boff + k * 6, none⟩ = some (.int .u8 u.k) ∧ V.cell? ⟨bb, boff + k * 6 + 1, none⟩ = some (.string u.t) ∧ V.cell? ⟨bb, boff + k * 6 + 2, none⟩ = some (.int .i64 u.a) ∧ V.cell? ⟨bb, boff + k * 6 + 3, none⟩ = some (.int .i64 u.l) ∧ V.cell? ⟨bb, boff + k * 6 + 4, none⟩ = some (.int .i64 u.c) ∧ V.cell? ⟨bb, boff + k * 6 + 5, none⟩ = some (.int .i64 u.f)) := fun V hV => by
            obtain ⟨b', o', e', z0, z1, z2, z3, z4, z5⟩ := (HB.out.below (HW1.out.below hV).bel) k u hu
            cases e'
            exact ⟨(HW1.out.below hV).cells.2.2.1, (HW1.out.below hV).cells.2.2.2, z0, z1, z2, z3, z4, z5⟩
          have HJ0 : Hid (∀ v, TP w v AA BB ga ra gb rb (j + 2) → ∀ V, Below v.heap.size v V → V.cell? ⟨BB, 0, none⟩ = some (pt gb) ∧ V.cell? ⟨BB, 1, none⟩ = some (pt rb) ∧ V.cell? ⟨bb, boff + k * 6, none⟩ = some (.int .u8 u.k) ∧ V.cell? ⟨bb, boff + k * 6 + 1, none⟩ = some (.string u.t) ∧ V.cell? ⟨bb, boff + k * 6 + 2, none⟩ = some (.int .i64 u.a) ∧ V.cell? ⟨bb, boff + k * 6 + 3, none⟩ = some (.int .i64 u.l) ∧ V.cell? ⟨bb, boff + k * 6 + 4, none⟩ = some (.int .i64 u.c) ∧ V.cell? ⟨bb, boff + k * 6 + 5, none⟩ = some (.int .i64 u.f)) := fun v ht V hV => by
            obtain ⟨b', o', e', z0, z1, z2, z3, z4, z5⟩ := (HB.out.below (ht.below hV).bel) k u hu
            cases e'
            exact ⟨(ht.below hV).cells.2.2.1, (ht.below hV).cells.2.2.2, z0, z1, z2, z3, z4, z5⟩
          obtain ⟨l1, l2⟩ := HW1.out.lts
          have yl := World.block_lt_of_cell? _ _ y0
          go_wp2_with fail
          go_region_held3 (fun wz => wz.cell? ⟨BB, 0, none⟩ = some (pt gb) ∧ wz.cell? ⟨BB, 1, none⟩ = some (pt rb) ∧ wz.cell? ⟨bb, boff + k * 6, none⟩ = some (.int .u8 u.k) ∧ wz.cell? ⟨bb, boff + k * 6 + 1, none⟩ = some (.string u.t) ∧ wz.cell? ⟨bb, boff + k * 6 + 2, none⟩ = some (.int .i64 u.a) ∧ wz.cell? ⟨bb, boff + k * 6 + 3, none⟩ = some (.int .i64 u.l) ∧ wz.cell? ⟨bb, boff + k * 6 + 4, none⟩ = some (.int .i64 u.c) ∧ wz.cell? ⟨bb, boff + k * 6 + 5, none⟩ = some (.int .i64 u.f)) (first | (exact HK1.out _ (Below.refl _ _)) | (exact HK1.out _ (Below.refl _ _).drew) | (exact HJ.out _ (Below.refl _ _)) | go_keep) (first | (go_at_call 7; refine ((HW1.out.below (by first | exact Below.refl _ _ | exact (Below.refl _ _).drew)).put' u (by omega)).mono ?_; rintro e v2 ⟨rfl, htp⟩; have HW2 : Hid (TP w v2 AA BB ga ra gb rb (j + 2)) := htp; have HJ := show Hid _ from HJ0.out _ htp))
          clear htp x0 x1 x2 x3 y0 y1 y2 y3 y4 y5 HJ HK1 HJ0 l1 l2 yl
          go_wp2_with fail
          exact ⟨⟨k + 1, by omega, by go_num, _, by omega, HW2⟩, by simp [intOf]; omega⟩
      · by_cases g3 : turn = k
        · skip
          have q1 : (k : Int) < l.length := by omega
          obtain ⟨s, hs⟩ : ∃ s, l[k]? = some s := ⟨_, List.getElem?_eq_getElem g1⟩
          have q2 : ¬ ((k : Int) < m.length) := by omega
          have q4 : (k : Int) = turn := g3.symm
          subst g3
          obtain ⟨x0, x1, x2, x3⟩ := HW.out.cells
          obtain ⟨ab, aoff, rfl, y0, y1, y2, y3, y4, y5⟩ := (HA.out.below HW.out.bel) k s hs
          have HK1 : Hid (∀ V, Below wr.heap.size wr V → V.cell? ⟨AA, 0, none⟩ = some (pt ga) ∧ V.cell? ⟨AA, 1, none⟩ = some (pt ra) ∧ V.cell? ⟨ab, aoff + k * 6, none⟩ = some (.int .u8 s.k) ∧ V.cell? ⟨ab, aoff + k * 6 + 1, none⟩ = some (.string s.t) ∧ V.cell? ⟨ab, aoff + k * 6 + 2, none⟩ = some (.int .i64 s.a) ∧ V.cell? ⟨ab, aoff + k * 6 + 3, none⟩ = some (.int .i64 s.l) ∧ V.cell? ⟨ab, aoff + k * 6 + 4, none⟩ = some (.int .i64 s.c) ∧ V.cell? ⟨ab, aoff + k * 6 + 5, none⟩ = some (.int .i64 s.f)) := fun V hV => by
            obtain ⟨b', o', e', z0, z1, z2, z3, z4, z5⟩ := (HA.out.below (HW.out.below hV).bel) k s hs
            cases e'
            exact ⟨(HW.out.below hV).cells.1, (HW.out.below hV).cells.2.1, z0, z1, z2, z3, z4, z5⟩
          have HJ0 : Hid (∀ v, TP w v AA BB ga ra gb rb (j + 1) → ∀ V, Below v.heap.size v V → V.cell? ⟨AA, 0, none⟩ = some (pt ga) ∧ V.cell? ⟨AA, 1, none⟩ = some (pt ra) ∧ V.cell? ⟨ab, aoff + k * 6, none⟩ = some (.int .u8 s.k) ∧ V.cell? ⟨ab, aoff + k * 6 + 1, none⟩ = some (.string s.t) ∧ V.cell? ⟨ab, aoff + k * 6 + 2, none⟩ = some (.int .i64 s.a) ∧ V.cell? ⟨ab, aoff + k * 6 + 3, none⟩ = some (.int .i64 s.l) ∧ V.cell? ⟨ab, aoff + k * 6 + 4, none⟩ = some (.int .i64 s.c) ∧ V.cell? ⟨ab, aoff + k * 6 + 5, none⟩ = some (.int .i64 s.f)) := fun v ht V hV => by
            obtain ⟨b', o', e', z0, z1, z2, z3, z4, z5⟩ := (HA.out.below (ht.below hV).bel) k s hs
            cases e'
            exact ⟨(ht.below hV).cells.1, (ht.below hV).cells.2.1, z0, z1, z2, z3, z4, z5⟩
          obtain ⟨l1, l2⟩ := HW.out.lts
          have yl := World.block_lt_of_cell? _ _ y0
          go_wp2_with fail
          go_region_held3 (fun wz => wz.cell? ⟨AA, 0, none⟩ = some (pt ga) ∧ wz.cell? ⟨AA, 1, none⟩ = some (pt ra) ∧ wz.cell? ⟨ab, aoff + k * 6, none⟩ = some (.int .u8 s.k) ∧ wz.cell? ⟨ab, aoff + k * 6 + 1, none⟩ = some (.string s.t) ∧ wz.cell? ⟨ab, aoff + k * 6 + 2, none⟩ = some (.int .i64 s.a) ∧ wz.cell? ⟨ab, aoff + k * 6 + 3, none⟩ = some (.int .i64 s.l) ∧ wz.cell? ⟨ab, aoff + k * 6 + 4, none⟩ = some (.int .i64 s.c) ∧ wz.cell? ⟨ab, aoff + k * 6 + 5, none⟩ = some (.int .i64 s.f)) (first | (exact HK1.out _ (Below.refl _ _)) | (exact HK1.out _ (Below.refl _ _).drew) | (exact HJ.out _ (Below.refl _ _)) | go_keep) (first | (go_at_call 7; refine ((HW.out.below (by first | exact Below.refl _ _ | exact (Below.refl _ _).drew)).put s (by omega)).mono ?_; rintro e v1 ⟨rfl, htp⟩; have HW1 : Hid (TP w v1 AA BB ga ra gb rb (j + 1)) := htp; have HJ := show Hid _ from HJ0.out _ htp))
          clear htp x0 x1 x2 x3 y0 y1 y2 y3 y4 y5 HJ HK1 HJ0 l1 l2 yl
          obtain ⟨x0, x1, x2, x3⟩ := HW1.out.cells
          obtain ⟨l1, l2⟩ := HW1.out.lts
          go_wp2_with fail
          refine (HW1.out.close' (by omega)).mono ?_
          rintro e v2 ⟨rfl, htp⟩
          have HW2 : Hid (TP w v2 AA BB ga ra gb rb _) := htp
          clear htp x0 x1 x2 x3 l1 l2
          go_wp2_with fail
          exact ⟨⟨k + 1, by omega, by go_num, _, by omega, HW2⟩, by simp [intOf]; omega⟩
        · skip
          have q1 : (k : Int) < l.length := by omega
          obtain ⟨s, hs⟩ : ∃ s, l[k]? = some s := ⟨_, List.getElem?_eq_getElem g1⟩
          have q2 : ¬ ((k : Int) < m.length) := by omega
          have q4 : ¬ ((k : Int) = turn) := fun e => g3 e.symm
          obtain ⟨x0, x1, x2, x3⟩ := HW.out.cells
          obtain ⟨ab, aoff, rfl, y0, y1, y2, y3, y4, y5⟩ := (HA.out.below HW.out.bel) k s hs
          have HK1 : Hid (∀ V, Below wr.heap.size wr V → V.cell? ⟨AA, 0, none⟩ = some (pt ga) ∧ V.cell? ⟨AA, 1, none⟩ = some (pt ra) ∧ V.cell? ⟨ab, aoff + k * 6, none⟩ = some (.int .u8 s.k) ∧ V.cell? ⟨ab, aoff + k * 6 + 1, none⟩ = some (.string s.t) ∧ V.cell? ⟨ab, aoff + k * 6 + 2, none⟩ = some (.int .i64 s.a) ∧ V.cell? ⟨ab, aoff + k * 6 + 3, none⟩ = some (.int .i64 s.l) ∧ V.cell? ⟨ab, aoff + k * 6 + 4, none⟩ = some (.int .i64 s.c) ∧ V.cell? ⟨ab, aoff + k * 6 + 5, none⟩ = some (.int .i64 s.f)) := fun V hV => by
            obtain ⟨b', o', e', z0, z1, z2, z3, z4, z5⟩ := (HA.out.below (HW.out.below hV).bel) k s hs
            cases e'
            exact ⟨(HW.out.below hV).cells.1, (HW.out.below hV).cells.2.1, z0, z1, z2, z3, z4, z5⟩
          have HJ0 : Hid (∀ v, TP w v AA BB ga ra gb rb (j + 1) → ∀ V, Below v.heap.size v V → V.cell? ⟨AA, 0, none⟩ = some (pt ga) ∧ V.cell? ⟨AA, 1, none⟩ = some (pt ra) ∧ V.cell? ⟨ab, aoff + k * 6, none⟩ = some (.int .u8 s.k) ∧ V.cell? ⟨ab, aoff + k * 6 + 1, none⟩ = some (.string s.t) ∧ V.cell? ⟨ab, aoff + k * 6 + 2, none⟩ = some (.int .i64 s.a) ∧ V.cell? ⟨ab, aoff + k * 6 + 3, none⟩ = some (.int .i64 s.l) ∧ V.cell? ⟨ab, aoff + k * 6 + 4, none⟩ = some (.int .i64 s.c) ∧ V.cell? ⟨ab, aoff + k * 6 + 5, none⟩ = some (.int .i64 s.f)) := fun v ht V hV => by
            obtain ⟨b', o', e', z0, z1, z2, z3, z4, z5⟩ := (HA.out.below (ht.below hV).bel) k s hs
            cases e'
            exact ⟨(ht.below hV).cells.1, (ht.below hV).cells.2.1, z0, z1, z2, z3, z4, z5⟩
          obtain ⟨l1, l2⟩ := HW.out.lts
          have yl := World.block_lt_of_cell? _ _ y0
          go_wp2_with fail
          go_region_held3 (fun wz => wz.cell? ⟨AA, 0, none⟩ = some (pt ga) ∧ wz.cell? ⟨AA, 1, none⟩ = some (pt ra) ∧ wz.cell? ⟨ab, aoff + k * 6, none⟩ = some (.int .u8 s.k) ∧ wz.cell? ⟨ab, aoff + k * 6 + 1, none⟩ = some (.string s.t) ∧ wz.cell? ⟨ab, aoff + k * 6 + 2, none⟩ = some (.int .i64 s.a) ∧ wz.cell? ⟨ab, aoff + k * 6 + 3, none⟩ = some (.int .i64 s.l) ∧ wz.cell? ⟨ab, aoff + k * 6 + 4, none⟩ = some (.int .i64 s.c) ∧ wz.cell? ⟨ab, aoff + k * 6 + 5, none⟩ = some (.int .i64 s.f)) (first | (exact HK1.out _ (Below.refl _ _)) | (exact HK1.out _ (Below.refl _ _).drew) | (exact HJ.out _ (Below.refl _ _)) | go_keep) (first | (go_at_call 7; refine ((HW.out.below (by first | exact Below.refl _ _ | exact (Below.refl _ _).drew)).put s (by omega)).mono ?_; rintro e v1 ⟨rfl, htp⟩; have HW1 : Hid (TP w v1 AA BB ga ra gb rb (j + 1)) := htp; have HJ := show Hid _ from HJ0.out _ htp))
          clear htp x0 x1 x2 x3 y0 y1 y2 y3 y4 y5 HJ HK1 HJ0 l1 l2 yl
          go_wp2_with fail
          exact ⟨⟨k + 1, by omega, by go_num, _, by omega, HW1⟩, by simp [intOf]; omega⟩
    · by_cases g2 : k < m.length
      · by_cases g3 : turn = k
        · skip
          have q1 : ¬ ((k : Int) < l.length) := by omega
          have q2 : (k : Int) < m.length := by omega
          obtain ⟨u, hu⟩ : ∃ u, m[k]? = some u := ⟨_, List.getElem?_eq_getElem g2⟩
          have q4 : (k : Int) = turn := g3.symm
          subst g3
          obtain ⟨x0, x1, x2, x3⟩ := HW.out.cells
          obtain ⟨bb, boff, rfl, y0, y1, y2, y3, y4, y5⟩ := (HB.out.below HW.out.bel) k u hu
          have HK1 : Hid (∀ V, Below wr.heap.size wr V → V.cell? ⟨BB, 0, none⟩ = some (pt gb) ∧ V.cell? ⟨BB, 1, none⟩ = some (pt rb) ∧ V.cell? ⟨bb, boff + k * 6, none⟩ = some (.int .u8 u.k) ∧ V.cell? ⟨bb, boff + k * 6 + 1, none⟩ = some (.string u.t) ∧ V.cell? ⟨bb, boff + k * 6 + 2, none⟩ = some (.int .i64 u.a) ∧ V.cell? ⟨bb, boff + k * 6 + 3, none⟩ = some (.int .i64 u.l) ∧ V.cell? ⟨bb, boff + k * 6 + 4, none⟩ = some (.int .i64 u.c) ∧ V.cell? ⟨bb, boff + k * 6 + 5, none⟩ = some (.int .i64 u.f)) := fun V hV => by
            obtain ⟨b', o', e', z0, z1, z2, z3, z4, z5⟩ := (HB.out.below (HW.out.below hV).bel) k u hu
            cases e'
            exact ⟨(HW.out.below hV).cells.2.2.1, (HW.out.below hV).cells.2.2.2, z0, z1, z2, z3, z4, z5⟩
          have HJ0 : Hid (∀ v, TP w v AA BB ga ra gb rb (j + 1) → ∀ V, Below v.heap.size v V → V.cell? ⟨BB, 0, none⟩ = some (pt gb) ∧ V.cell? ⟨BB, 1, none⟩ = some (pt rb) ∧ V.cell? ⟨bb, boff + k * 6, none⟩ = some (.int .u8 u.k) ∧ V.cell? ⟨bb, boff + k * 6 + 1, none⟩ = some (.string u.t) ∧ V.cell? ⟨bb, boff + k * 6 + 2, none⟩ = some (.int .i64 u.a) ∧ V.cell? ⟨bb, boff + k * 6 + 3, none⟩ = some (.int .i64 u.l) ∧ V.cell? ⟨bb, boff + k * 6 + 4, none⟩ = some (.int .i64 u.c) ∧ V.cell? ⟨bb, boff + k * 6 + 5, none⟩ = some (.int .i64 u.f)) := fun v ht V hV => by
            obtain ⟨b', o', e', z0, z1, z2, z3, z4, z5⟩ := (HB.out.below (ht.below hV).bel) k u hu
            cases e'
            exact ⟨(ht.below hV).cells.2.2.1, (ht.below hV).cells.2.2.2, z0, z1, z2, z3, z4, z5⟩
          obtain ⟨l1, l2⟩ := HW.out.lts
          have yl := World.block_lt_of_cell? _ _ y0
          go_wp2_with fail
          go_region_held3 (fun wz => wz.cell? ⟨BB, 0, none⟩ = some (pt gb) ∧ wz.cell? ⟨BB, 1, none⟩ = some (pt rb) ∧ wz.cell? ⟨bb, boff + k * 6, none⟩ = some (.int .u8 u.k) ∧ wz.cell? ⟨bb, boff + k * 6 + 1, none⟩ = some (.string u.t) ∧ wz.cell? ⟨bb, boff + k * 6 + 2, none⟩ = some (.int .i64 u.a) ∧ wz.cell? ⟨bb, boff + k * 6 + 3, none⟩ = some (.int .i64 u.l) ∧ wz.cell? ⟨bb, boff + k * 6 + 4, none⟩ = some (.int .i64 u.c) ∧ wz.cell? ⟨bb, boff + k * 6 + 5, none⟩ = some (.int .i64 u.f)) (first | (exact HK1.out _ (Below.refl _ _)) | (exact HK1.out _ (Below.refl _ _).drew) | (exact HJ.out _ (Below.refl _ _)) | go_keep) (first | (go_at_call 7; refine ((HW.out.below (by first | exact Below.refl _ _ | exact (Below.refl _ _).drew)).put' u (by omega)).mono ?_; rintro e v1 ⟨rfl, htp⟩; have HW1 : Hid (TP w v1 AA BB ga ra gb rb (j + 1)) := htp; have HJ := show Hid _ from HJ0.out _ htp))
          clear htp x0 x1 x2 x3 y0 y1 y2 y3 y4 y5 HJ HK1 HJ0 l1 l2 yl
          obtain ⟨x0, x1, x2, x3⟩ := HW1.out.cells
          obtain ⟨l1, l2⟩ := HW1.out.lts
          go_wp2_with fail
          refine (HW1.out.close' (by omega)).mono ?_
          rintro e v2 ⟨rfl, htp⟩
          have HW2 : Hid (TP w v2 AA BB ga ra gb rb _) := htp
          clear htp x0 x1 x2 x3 l1 l2
          go_wp2_with fail
          exact ⟨⟨k + 1, by omega, by go_num, _, by omega, HW2⟩, by simp [intOf]; omega⟩
        · skip
          have q1 : ¬ ((k : Int) < l.length) := by omega
          have q2 : (k : Int) < m.length := by omega
          obtain ⟨u, hu⟩ : ∃ u, m[k]? = some u := ⟨_, List.getElem?_eq_getElem g2⟩
          have q4 : ¬ ((k : Int) = turn) := fun e => g3 e.symm
          obtain ⟨x0, x1, x2, x3⟩ := HW.out.cells
          obtain ⟨bb, boff, rfl, y0, y1, y2, y3, y4, y5⟩ := (HB.out.below HW.out.bel) k u hu
          have HK1 : Hid (∀ V, Below wr.heap.size wr V → V.cell? ⟨BB, 0, none⟩ = some (pt gb) ∧ V.cell? ⟨BB, 1, none⟩ = some (pt rb) ∧ V.cell? ⟨bb, boff + k * 6, none⟩ = some (.int .u8 u.k) ∧ V.cell? ⟨bb, boff + k * 6 + 1, none⟩ = some (.string u.t) ∧ V.cell? ⟨bb, boff + k * 6 + 2, none⟩ = some (.int .i64 u.a) ∧ V.cell? ⟨bb, boff + k * 6 + 3, none⟩ = some (.int .i64 u.l) ∧ V.cell? ⟨bb, boff + k * 6 + 4, none⟩ = some (.int .i64 u.c) ∧ V.cell? ⟨bb, boff + k * 6 + 5, none⟩ = some (.int .i64 u.f)) := fun V hV => by
            obtain ⟨b', o', e', z0, z1, z2, z3, z4, z5⟩ := (HB.out.below (HW.out.below hV).bel) k u hu
            cases e'
            exact ⟨(HW.out.below hV).cells.2.2.1, (HW.out.below hV).cells.2.2.2, z0, z1, z2, z3, z4, z5⟩
          have HJ0 : Hid (∀ v, TP w v AA BB ga ra gb rb (j + 1) → ∀ V, Below v.heap.size v V → V.cell? ⟨BB, 0, none⟩ = some (pt gb) ∧ V.cell? ⟨BB, 1, none⟩ = some (pt rb) ∧ V.cell? ⟨bb, boff + k * 6, none⟩ = some (.int .u8 u.k) ∧ V.cell? ⟨bb, boff + k * 6 + 1, none⟩ = some (.string u.t) ∧ V.cell? ⟨bb, boff + k * 6 + 2, none⟩ = some (.int .i64 u.a) ∧ V.cell? ⟨bb, boff + k * 6 + 3, none⟩ = some (.int .i64 u.l) ∧ V.cell? ⟨bb, boff + k * 6 + 4, none⟩ = some (.int .i64 u.c) ∧ V.cell? ⟨bb, boff + k * 6 + 5, none⟩ = some (.int .i64 u.f)) := fun v ht V hV => by
            obtain ⟨b', o', e', z0, z1, z2, z3, z4, z5⟩ := (HB.out.below (ht.below hV).bel) k u hu
            cases e'
            exact ⟨(ht.below hV).cells.2.2.1, (ht.below hV).cells.2.2.2, z0, z1, z2, z3, z4, z5⟩
          obtain ⟨l1, l2⟩ := HW.out.lts
          have yl := World.block_lt_of_cell? _ _ y0
          go_wp2_with fail
          go_region_held3 (fun wz => wz.cell? ⟨BB, 0, none⟩ = some (pt gb) ∧ wz.cell? ⟨BB, 1, none⟩ = some (pt rb) ∧ wz.cell? ⟨bb, boff + k * 6, none⟩ = some (.int .u8 u.k) ∧ wz.cell? ⟨bb, boff + k * 6 + 1, none⟩ = some (.string u.t) ∧ wz.cell? ⟨bb, boff + k * 6 + 2, none⟩ = some (.int .i64 u.a) ∧ wz.cell? ⟨bb, boff + k * 6 + 3, none⟩ = some (.int .i64 u.l) ∧ wz.cell? ⟨bb, boff + k * 6 + 4, none⟩ = some (.int .i64 u.c) ∧ wz.cell? ⟨bb, boff + k * 6 + 5, none⟩ = some (.int .i64 u.f)) (first | (exact HK1.out _ (Below.refl _ _)) | (exact HK1.out _ (Below.refl _ _).drew) | (exact HJ.out _ (Below.refl _ _)) | go_keep) (first | (go_at_call 7; refine ((HW.out.below (by first | exact Below.refl _ _ | exact (Below.refl _ _).drew)).put' u (by omega)).mono ?_; rintro e v1 ⟨rfl, htp⟩; have HW1 : Hid (TP w v1 AA BB ga ra gb rb (j + 1)) := htp; have HJ := show Hid _ from HJ0.out _ htp))
          clear htp x0 x1 x2 x3 y0 y1 y2 y3 y4 y5 HJ HK1 HJ0 l1 l2 yl
          go_wp2_with fail
          exact ⟨⟨k + 1, by omega, by go_num, _, by omega, HW1⟩, by simp [intOf]; omega⟩
      · have q1 : ¬ ((k : Int) < l.length) := by omega
        have q2 : ¬ ((k : Int) < m.length) := by omega
        obtain ⟨x0, x1, x2, x3⟩ := HW.out.cells
        obtain ⟨l1, l2⟩ := HW.out.lts
        go_wp2_with fail
        refine (HW.out.close (by omega)).mono ?_
        rintro e v1 ⟨rfl, htp⟩
        have HW1 : Hid (TP w v1 AA BB ga ra gb rb _) := htp
        clear htp x0 x1 x2 x3 l1 l2
        obtain ⟨x0, x1, x2, x3⟩ := HW1.out.cells
        obtain ⟨l1, l2⟩ := HW1.out.lts
        go_wp2_with fail
        refine (HW1.out.close' (by omega)).mono ?_
        rintro e v2 ⟨rfl, htp⟩
        have HW2 : Hid (TP w v2 AA BB ga ra gb rb _) := htp
        clear htp x0 x1 x2 x3 l1 l2
        obtain ⟨x0, x1, x2, x3⟩ := HW2.out.cells
        obtain ⟨l1, l2⟩ := HW2.out.lts
        have HSG : Hid (∀ V, Calls Tryz.prog 9 #[.string ⟨#[59]⟩] V fun r w' => r = .returned (.agg #[.int .u8 6, .string ⟨#[59]⟩, .int .i64 0, .int .i64 0, .int .i64 0, .int .i64 0]) ∧ Below V.heap.size V w') := fun V => lsign_any ⟨#[59]⟩ V
        have HK1 : Hid (∀ V, Below v2.heap.size v2 V → V.cell? ⟨AA, 0, none⟩ = some (pt ga) ∧ V.cell? ⟨AA, 1, none⟩ = some (pt ra)) := fun V hV => ⟨(HW2.out.below hV).cells.1, (HW2.out.below hV).cells.2.1⟩
        have HTT : Hid (∀ V V2, Below v2.heap.size v2 V → Below V.heap.size V V2 → TP w V2 AA BB ga ra gb rb j) := fun V V2 hb hb2 => (HW2.out.below hb).below hb2
        have HJ0 : Hid (∀ v j2, TP w v AA BB ga ra gb rb j2 → ∀ V, Below v.heap.size v V → V.cell? ⟨AA, 0, none⟩ = some (pt ga) ∧ V.cell? ⟨AA, 1, none⟩ = some (pt ra)) := fun v j2 ht V hV => ⟨(ht.below hV).cells.1, (ht.below hV).cells.2.1⟩
        have HPT : Hid (∀ V, TP w V AA BB ga ra gb rb j → Calls Tryz.prog 7 #[.agg #[pt ga, pt ra], .agg #[.int .u8 6, .string ⟨#[59]⟩, .int .i64 0, .int .i64 0, .int .i64 0, .int .i64 0]] V fun e w' => e = .returned (.bool true) ∧ TP w w' AA BB ga ra gb rb (j + 1)) := fun V ht => ht.put (tSign ⟨#[59]⟩) (by omega)
        go_wp2_with fail
        go_region_held3 (fun wz => wz.cell? ⟨AA, 0, none⟩ = some (pt ga) ∧ wz.cell? ⟨AA, 1, none⟩ = some (pt ra)) (first | (exact HJ8.out _ (Below.refl _ _)) | (exact HJ7.out _ (Below.refl _ _)) | (exact HJ7.out _ (Below.refl _ _).drew) | (exact HK1.out _ (Below.refl _ _)) | (exact HK1.out _ (Below.refl _ _).drew) | go_keep) (first | (go_at_call 9; refine (HSG.out _).mono ?_; rintro e w7 ⟨rfl, hb7⟩; have HT7 : Hid (TP w w7 AA BB ga ra gb rb j) := HTT.out _ _ (by first | exact Below.refl _ _ | exact (Below.refl _ _).drew) hb7; have HJ7 := show Hid _ from HJ0.out _ _ HT7.out; clear hb7) | (go_at_call 7; refine (HPT.out _ (HT7.out.below (by first | exact Below.refl _ _ | exact (Below.refl _ _).drew))).mono ?_; rintro e w8 ⟨rfl, ht8⟩; have HT8 : Hid (TP w w8 AA BB ga ra gb rb (j + 1)) := ht8; have HJ8 := show Hid _ from HJ0.out _ _ ht8; clear ht8))
        clear HK1 HJ0 HPT HSG HTT HJ7 HJ8 HT7 x0 x1 x2 x3 l1 l2
        obtain ⟨x0, x1, x2, x3⟩ := HT8.out.cells
        obtain ⟨l1, l2⟩ := HT8.out.lts
        go_wp2_with fail
        refine (HT8.out.close (by omega)).mono ?_
        rintro e w9 ⟨rfl, ht9⟩
        have H9 := show Hid _ from ht9.bel
        clear ht9
        go_wp2_with fail
        go_ret
        exact ⟨rfl, H9.out⟩

end Go.Proofs.YtkglkhijngpgiaaGreat
