import Derived.Test.YthbgipmkdcffnaaLh
set_option linter.unusedVariables false
set_option linter.unusedSimpArgs false
namespace Go.Proofs.Ythbgipmkdcffnaa
open Go.RowKit

abbrev ecl (k : Int) : List Value := [.int .u8 k, .int .u8 0, .int .u8 0, .string ⟨#[]⟩, .int .i64 0, .int .i64 0, .int .i64 0, .int .i64 0]
theorem ecl_eq (w : World) (b o : Nat) (k : Int) : w.setCells b o (ecl k) = (((((((w.setCell ⟨b, o, none⟩ (.int .u8 k)).setCell ⟨b, o + 1, none⟩ (.int .u8 0)).setCell ⟨b, o + 2, none⟩ (.int .u8 0)).setCell ⟨b, o + 3, none⟩ (.string ⟨#[]⟩)).setCell ⟨b, o + 4, none⟩ (.int .i64 0)).setCell ⟨b, o + 5, none⟩ (.int .i64 0)).setCell ⟨b, o + 6, none⟩ (.int .i64 0)).setCell ⟨b, o + 7, none⟩ (.int .i64 0) := by
  simp only [ecl, World.setCells, Nat.add_assoc]
theorem inb_mk {w4 : World} {B : Nat} {l : List Ev} {cur : Array Value} (h1 : w4.heap[B]? = some (.cells cur 32 (0, 0))) (h2 : cur.size = (l.length + 1) * 8) (h3 : ∀ (k : Nat) (u : Value), (ecs l)[k]? = some u → cur[k]? = some u) : InB B l (w4.setCells B (l.length * 8) (ecl 99)) := by
  obtain ⟨cur', e1, e2, e3, e4⟩ := sets_blk B (ecl 99) (l.length * 8) w4 cur h1
  refine ⟨cur', e1, e2.trans h2, fun k u hu => ?_, ?_⟩
  · have hk := (List.getElem?_eq_some_iff.1 hu).1
    rw [ecs_len] at hk
    rw [e3 k (.inl hk)]
    exact h3 k u hu
  · have := e4 (by show l.length * 8 + 8 ≤ _; omega) 0 (.int .u8 99) rfl
    simpa using this
/-- What was built, in its variable. -/
structure BV (n : Nd) (p : Option Addr) (m c : Nat) (lo hi q : Nat) (V : World) : Prop where
  tn : TN (fun k => lo ≤ k ∧ k < hi) V n (.slice p m c)
  vb : V.heap[q]? = some (NdB n.k n.d (.slice p m c))
theorem BV.kp {S : Nat → Prop} {n : Nd} {p : Option Addr} {m c lo hi q : Nat} {V V' : World} (h : BV n p m c lo hi q V) (hk : Kp S V V') (hS : ∀ k, S k → ¬ (lo ≤ k ∧ k < hi) ∧ k ≠ q) : BV n p m c lo hi q V' :=
  ⟨TN.kp hk (fun k h1 h2 => (hS k h2).1 h1) _ _ h.tn, hk.blk h.vb (fun e => (hS q e).2 rfl)⟩
theorem BV.below {n : Nd} {p : Option Addr} {m c lo hi q : Nat} {V V' : World} (h : BV n p m c lo hi q V) (hb : Below V.heap.size V V') : BV n p m c lo hi q V' := h.kp (Kp.of_below (S := fun _ => False) hb) (fun _ h => h.elim)
theorem BV.see {n : Nd} {p : Option Addr} {m c lo hi q : Nat} {V : World} (h : BV n p m c lo hi q V) : Nv V (ndv n.k n.d (.slice p m c)) n := TN.see _ _ h.tn
theorem bv_mk {l : List Ev} {V0 w : World} {x : Ending} (h : BdP l V0 x w) : ∃ p m c, x = .returned (.tuple #[ndv (bo l).1.k (bo l).1.d (.slice p m c), .int .i64 (bo l).2]) ∧ Below V0.heap.size V0 w ∧ BV (bo l).1 p m c V0.heap.size w.heap.size w.heap.size (w.alloc (NdB (bo l).1.k (bo l).1.d (.slice p m c))) := by
  obtain ⟨sv, h1, h2, h3⟩ := h
  obtain ⟨p, m, c, rfl⟩ : ∃ p m c, sv = .slice p m c := by
    obtain ⟨k, d, cc, e⟩ : ∃ k d cc, (bo l).1 = .mk k d cc := ⟨_, _, _, (bo l).1.eta⟩
    rw [e, TN] at h2
    obtain ⟨vs6, hrn6, _⟩ := h2
    obtain ⟨pp, cp, e, _⟩ := hrn6.shape
    exact ⟨pp, _, cp, e⟩
  exact ⟨p, m, c, h1, h3, ⟨TN.kp (Kp.of_below (S := fun _ => False) (below_new _ _)) (fun _ _ h => h) _ _ (TN.sub (fun k hk h => ⟨h, hk⟩) _ _ h2), new_at _ _⟩⟩
theorem BV.spoil {n : Nd} {p : Option Addr} {m c lo hi q : Nat} {V : World} (h : BV n p m c lo hi q V) (hz : nsz n ≤ 1000000000) (hhi : hi ≤ V.heap.size) : Calls Try.prog 12 #[ndv n.k n.d (.slice p m c)] V fun r w' => r = .returned (.tuple #[]) ∧ Kp (fun k => lo ≤ k ∧ k < hi) V w' := by
  refine (spoil_any (fun k => lo ≤ k ∧ k < hi) (hgt n) n.k n.d _ V (TN.sp (hgt n) n _ (Nat.le_refl _) hz h.tn) (fun q hq => by omega)).mono ?_
  rintro r w' ⟨rfl, hl⟩
  exact ⟨rfl, hl.kp⟩
set_option maxRecDepth 100000 in
set_option maxHeartbeats 2000000 in
theorem builds_walk (l : List Ev) (ao : Option Addr) (cap : Nat) (t : List Ev) (bo' : Option Addr) (cap' : Nat) (W : World) (hle : Le W ao l) (h1 : l.length ≤ cap) (h2 : cap ≤ maxLen) (hle' : Le W bo' t) (h1' : t.length ≤ cap') (h2' : cap' ≤ maxLen) : Calls Try.prog 3 #[.slice ao l.length cap, .slice bo' t.length cap'] W fun r w' => r = .returned (.bool true) ∧ Below W.heap.size W w' := by
  have HL : Hid (∀ V, Below W.heap.size W V → Le V ao l ∧ Le V bo' t) := fun V hb => ⟨hle.below hb, hle'.below hb⟩
  have HAw : Hid (∀ V, Calls Try.prog 8 #[] V fun r w' => r = .returned (.bool true) ∧ Below V.heap.size V w') := awake_any
  have hmx : maxLen = 9223372036854775807 := rfl
  have hlI : (l.length : Int) ≤ 9223372036854775807 := by omega
  have htI : (t.length : Int) ≤ 9223372036854775807 := by omega
  clear hle hle' hmx
  go_enter Try.func3, Try.ntmps3
  go_wp2_with fail
  refine (HAw.out _).mono ?_
  rintro r w2 ⟨rfl, hb2⟩
  have H2 : Hid (Below W.heap.size W w2) := hb2
  clear hb2
  by_cases hbig : 16777216 < l.length
  · have hbI : (l.length : Int) > 16777216 := by omega
    go_wp2_with fail
    go_ret
    exact ⟨rfl, H2.out⟩
  · have hbI : ¬ ((l.length : Int) > 16777216) := by omega
    by_cases hbig' : 16777216 < t.length
    · have hbI' : (t.length : Int) > 16777216 := by omega
      go_wp2_with fail
      go_ret
      exact ⟨rfl, H2.out⟩
    · have hbI' : ¬ ((t.length : Int) > 16777216) := by omega
      obtain ⟨cur0, hc0, hmk⟩ := make_ev l.length (by omega)
      have HLw := (HL.out w2 H2.out).1.below (below_new w2 (.cells cur0 32))
      have HLw' : Hid (Le (w2.alloc (.cells cur0 32)) ao l) := HLw
      have HN0 : Hid ((w2.alloc (.cells cur0 32)).heap[w2.heap.size]? = some (.cells cur0 32 (0, 0))) := new_at _ _
      have hz0 : l.length * 8 ≤ cur0.size := by omega
      clear HLw
      go_upto_region 5 with fail
      go_upto_region 6 with (refine copy_ev (by rfl) _ _ (by rfl) w2.heap.size (l.length + 1) cap ao l cur0 (by rfl) (by rfl) HN0.out hz0 HLw'.out ?_; intro w4 cur1 k1 k2 k3 k4; have H4 : Hid (w4.heap[w2.heap.size]? = some (.cells cur1 32 (0, 0)) ∧ cur1.size = (l.length + 1) * 8 ∧ (∀ (k : Nat) (u : Value), (ecs l)[k]? = some u → cur1[k]? = some u) ∧ Kp (fun k => k = w2.heap.size) (w2.alloc (.cells cur0 32)) w4) := ⟨k1, k2.trans hc0, k3, k4⟩; clear k1 k2 k3 k4)
      obtain ⟨B, hBe⟩ : ∃ B, w2.heap.size = B := ⟨_, rfl⟩
      have h4a := H4.out.1
      have h4b := H4.out.2.1
      rw [hBe] at h4a
      have hcell : ∀ i, i < 8 → ∃ u, w4.cell? ⟨B, l.length * 8 + i, none⟩ = some u := fun i hi => by
        have : l.length * 8 + i < cur1.size := by omega
        exact ⟨cur1[l.length * 8 + i], blk_cell h4a (Array.getElem?_eq_getElem this)⟩
      obtain ⟨q0, t0⟩ := hcell 0 (by omega)
      obtain ⟨q1, t1⟩ := hcell 1 (by omega)
      obtain ⟨q2, t2⟩ := hcell 2 (by omega)
      obtain ⟨q3, t3⟩ := hcell 3 (by omega)
      obtain ⟨q4, t4⟩ := hcell 4 (by omega)
      obtain ⟨q5, t5⟩ := hcell 5 (by omega)
      obtain ⟨q6, t6⟩ := hcell 6 (by omega)
      obtain ⟨q7, t7⟩ := hcell 7 (by omega)
      rw [Nat.add_zero] at t0
      have tf : ∀ i, w4.frozen? ⟨B, i, none⟩ = false := fun i => blk_frozen h4a
      have tl : B < w4.heap.size := blk_lt h4a
      have z1 : (l.length : Int) < (l.length : Int) + 1 := by omega
      have z2 : (0 : Int) ≤ l.length := by omega
      have hWB : W.heap.size ≤ B := by rw [← hBe]; exact H2.out.size
      have H5 : Hid (InB B l (w4.setCells B (l.length * 8) (ecl 99)) ∧ Below W.heap.size W (w4.setCells B (l.length * 8) (ecl 99)) ∧ B < (w4.setCells B (l.length * 8) (ecl 99)).heap.size) := by
        have hk := sets_kp B (ecl 99) (l.length * 8) w4
        have hb4 : Below W.heap.size W w4 := by
          have hn := below_new w2 (.cells cur0 32)
          have h3 := H2.out.trans (hn.mono H2.out.size)
          exact Kp.low h3 H4.out.2.2.2 (fun k e => by omega) h3.size
        exact ⟨inb_mk h4a h4b H4.out.2.2.1, Kp.low hb4 hk (fun k e => by omega) hb4.size, Nat.lt_of_lt_of_le tl hk.size⟩
      rw [hBe]
      clear hcell h4a h4b H4 HN0 HLw' hmk hc0 hz0 hBe
      go_upto_region 8 with fail
      obtain ⟨w5, e5⟩ : ∃ w5, w4.setCells B (l.length * 8) (ecl 99) = w5 := ⟨_, rfl⟩
      rw [e5] at H5
      rw [ecl_eq] at e5
      rw [e5]
      clear e5 t0 t1 t2 t3 t4 t5 t6 t7 tf tl
      obtain ⟨N1, E1, hb1⟩ : ∃ N E, bo l = (N, E) := ⟨_, _, rfl⟩
      obtain ⟨N2, E2, hb2⟩ : ∃ N E, bo t = (N, E) := ⟨_, _, rfl⟩
      have hz1 : nsz N1 ≤ 1000000000 := by have := bo_nsz l; rw [hb1] at this; have : nsz N1 ≤ l.length + 1 := this; omega
      have hz2 : nsz N2 ≤ 1000000000 := by have := bo_nsz t; rw [hb2] at this; have : nsz N2 ≤ t.length + 1 := this; omega
      have HB1 : Hid (∀ V ao' cap'', Le V ao' l → l.length ≤ cap'' → cap'' ≤ maxLen → Calls Try.prog 9 #[.slice ao' l.length cap''] V fun r w' => ∃ p m c, r = .returned (.tuple #[ndv N1.k N1.d (.slice p m c), .int .i64 E1]) ∧ Below V.heap.size V w' ∧ BV N1 p m c V.heap.size w'.heap.size w'.heap.size (w'.alloc (NdB N1.k N1.d (.slice p m c)))) := fun V ao' cap'' h1 h2 h3 => by
        refine (build_any l V ao' cap'' h1 h2 h3 (by omega)).mono ?_
        intro r w' h
        have := bv_mk h
        rw [hb1] at this
        exact this
      have HB2 : Hid (∀ V, Below W.heap.size W V → Calls Try.prog 9 #[.slice bo' t.length cap'] V fun r w' => ∃ p m c, r = .returned (.tuple #[ndv N2.k N2.d (.slice p m c), .int .i64 E2]) ∧ Below V.heap.size V w' ∧ BV N2 p m c V.heap.size w'.heap.size w'.heap.size (w'.alloc (NdB N2.k N2.d (.slice p m c)))) := fun V hb => by
        refine (build_any t V bo' cap' (HL.out V hb).2 h1' h2' (by omega)).mono ?_
        intro r w' h
        have := bv_mk h
        rw [hb2] at this
        exact this
      have HR1 : Hid (∀ V, Below W.heap.size W V → Calls Try.prog 10 #[.slice ao l.length cap] V fun r w' => ∃ p m c, r = .returned (.tuple #[ndv N1.k N1.d (.slice p m c), .int .i64 E1]) ∧ Below V.heap.size V w' ∧ BV N1 p m c V.heap.size w'.heap.size w'.heap.size (w'.alloc (NdB N1.k N1.d (.slice p m c)))) := fun V hb => by
        refine (rbuild_any l V ao cap (HL.out V hb).1 (by omega)).mono ?_
        intro r w' h
        have := bv_mk h
        rw [hb1] at this
        exact this
      have HR2 : Hid (∀ V, Below W.heap.size W V → Calls Try.prog 10 #[.slice bo' t.length cap'] V fun r w' => ∃ p m c, r = .returned (.tuple #[ndv N2.k N2.d (.slice p m c), .int .i64 E2]) ∧ Below V.heap.size V w' ∧ BV N2 p m c V.heap.size w'.heap.size w'.heap.size (w'.alloc (NdB N2.k N2.d (.slice p m c)))) := fun V hb => by
        refine (rbuild_any t V bo' cap' (HL.out V hb).2 (by omega)).mono ?_
        intro r w' h
        have := bv_mk h
        rw [hb2] at this
        exact this
      have HIn : Hid (l.length ≤ l.length + 1 ∧ l.length + 1 ≤ maxLen) := ⟨by omega, by show l.length + 1 ≤ 9223372036854775807; omega⟩
      clear hb1 hb2
      go_wp2_with fail
      refine (HB1.out w5 _ _ H5.out.1.le HIn.out.1 HIn.out.2).mono ?_
      rintro r w6 ⟨pa, ma, ca, rfl, hb6, hv6⟩
      obtain ⟨W7, eW7⟩ : ∃ W7, w6.alloc (NdB N1.k N1.d (.slice pa ma ca)) = W7 := ⟨_, rfl⟩
      have H7 : Hid (Below w5.heap.size w5 W7 ∧ BV N1 pa ma ca w5.heap.size w6.heap.size w6.heap.size W7 ∧ W7.heap.size = w6.heap.size + 1 ∧ w5.heap.size ≤ w6.heap.size ∧ Below W.heap.size W W7) := by
        rw [← eW7]
        have h := hb6.trans ((below_new w6 (NdB N1.k N1.d (.slice pa ma ca))).mono hb6.size)
        exact ⟨h, hv6, size_al _ _, hb6.size, H5.out.2.1.trans (h.mono H5.out.2.1.size)⟩
      clear hb6 hv6
      go_upto_region 9 with fail
      try rw [eW7]
      clear eW7
      go_wp2_with fail
      refine (HB2.out W7 H7.out.2.2.2.2).mono ?_
      rintro r w8 ⟨pb, mb, cb, rfl, hb8, hv8⟩
      obtain ⟨W9, eW9⟩ : ∃ W9, w8.alloc (NdB N2.k N2.d (.slice pb mb cb)) = W9 := ⟨_, rfl⟩
      have H9 : Hid (Below W7.heap.size W7 W9 ∧ BV N2 pb mb cb W7.heap.size w8.heap.size w8.heap.size W9 ∧ W9.heap.size = w8.heap.size + 1 ∧ W7.heap.size ≤ w8.heap.size ∧ Below W.heap.size W W9) := by
        rw [← eW9]
        have h := hb8.trans ((below_new w8 (NdB N2.k N2.d (.slice pb mb cb))).mono hb8.size)
        exact ⟨h, hv8, size_al _ _, hb8.size, H7.out.2.2.2.2.trans (h.mono H7.out.2.2.2.2.size)⟩
      clear hb8 hv8 HB2
      go_upto_region 10 with fail
      try rw [eW9]
      clear eW9
      go_wp2_with fail
      refine (HR1.out W9 H9.out.2.2.2.2).mono ?_
      rintro r w10 ⟨px, mx, cx, rfl, hb10, hv10⟩
      obtain ⟨W11, eW11⟩ : ∃ W11, w10.alloc (NdB N1.k N1.d (.slice px mx cx)) = W11 := ⟨_, rfl⟩
      have H11 : Hid (Below W9.heap.size W9 W11 ∧ BV N1 px mx cx W9.heap.size w10.heap.size w10.heap.size W11 ∧ W11.heap.size = w10.heap.size + 1 ∧ W9.heap.size ≤ w10.heap.size ∧ Below W.heap.size W W11) := by
        rw [← eW11]
        have h := hb10.trans ((below_new w10 (NdB N1.k N1.d (.slice px mx cx))).mono hb10.size)
        exact ⟨h, hv10, size_al _ _, hb10.size, H9.out.2.2.2.2.trans (h.mono H9.out.2.2.2.2.size)⟩
      clear hb10 hv10 HR1
      go_upto_region 11 with fail
      try rw [eW11]
      clear eW11
      go_wp2_with fail
      refine (HR2.out W11 H11.out.2.2.2.2).mono ?_
      rintro r w12 ⟨py, my, cy, rfl, hb12, hv12⟩
      obtain ⟨W13, eW13⟩ : ∃ W13, w12.alloc (NdB N2.k N2.d (.slice py my cy)) = W13 := ⟨_, rfl⟩
      have H13 : Hid (Below W11.heap.size W11 W13 ∧ BV N2 py my cy W11.heap.size w12.heap.size w12.heap.size W13 ∧ W13.heap.size = w12.heap.size + 1 ∧ W11.heap.size ≤ w12.heap.size ∧ Below W.heap.size W W13) := by
        rw [← eW13]
        have h := hb12.trans ((below_new w12 (NdB N2.k N2.d (.slice py my cy))).mono hb12.size)
        exact ⟨h, hv12, size_al _ _, hb12.size, H11.out.2.2.2.2.trans (h.mono H11.out.2.2.2.2.size)⟩
      clear hb12 hv12 HR2
      have HS : Hid (B < w5.heap.size ∧ W.heap.size ≤ B ∧ w5.heap.size ≤ w6.heap.size ∧ W7.heap.size = w6.heap.size + 1 ∧ W7.heap.size ≤ w8.heap.size ∧ W9.heap.size = w8.heap.size + 1 ∧ W9.heap.size ≤ w10.heap.size ∧ W11.heap.size = w10.heap.size + 1 ∧ W11.heap.size ≤ w12.heap.size ∧ W13.heap.size = w12.heap.size + 1) := ⟨H5.out.2.2, hWB, H7.out.2.2.2.1, H7.out.2.2.1, H9.out.2.2.2.1, H9.out.2.2.1, H11.out.2.2.2.1, H11.out.2.2.1, H13.out.2.2.2.1, H13.out.2.2.1⟩
      have HF : Hid (∀ V, Below W13.heap.size W13 V → (Below W.heap.size W V ∧ InB B l V) ∧ (BV N1 pa ma ca w5.heap.size w6.heap.size w6.heap.size V ∧ BV N2 pb mb cb W7.heap.size w8.heap.size w8.heap.size V) ∧ BV N1 px mx cx W9.heap.size w10.heap.size w10.heap.size V ∧ BV N2 py my cy W11.heap.size w12.heap.size w12.heap.size V) := fun V hb => by
        have k13 := hb
        have k11 := H13.out.1.trans (k13.mono H13.out.1.size)
        have k9 := H11.out.1.trans (k11.mono H11.out.1.size)
        have k7 := H9.out.1.trans (k9.mono H9.out.1.size)
        have k5 := H7.out.1.trans (k7.mono H7.out.1.size)
        exact ⟨⟨H5.out.2.1.trans (k5.mono H5.out.2.1.size), H5.out.1.kp (Kp.of_below (S := fun _ => False) k5) (fun h => h)⟩, ⟨H7.out.2.1.below k7, H9.out.2.1.below k9⟩, H11.out.2.1.below k11, H13.out.2.1.below k13⟩
      have HW1 : Hid (∀ V p m c p' m' c', Nv V (ndv N1.k N1.d (.slice p m c)) N1 → Nv V (ndv N1.k N1.d (.slice p' m' c')) N1 → Calls Try.prog 11 #[ndv N1.k N1.d (.slice p m c), ndv N1.k N1.d (.slice p' m' c')] V fun r w' => r = .returned (.bool true) ∧ Below V.heap.size V w') := fun V p m c p' m' c' h1 h2 => whole_any N1 _ _ V h1 h2
      have HW2 : Hid (∀ V p m c p' m' c', Nv V (ndv N2.k N2.d (.slice p m c)) N2 → Nv V (ndv N2.k N2.d (.slice p' m' c')) N2 → Calls Try.prog 11 #[ndv N2.k N2.d (.slice p m c), ndv N2.k N2.d (.slice p' m' c')] V fun r w' => r = .returned (.bool true) ∧ Below V.heap.size V w') := fun V p m c p' m' c' h1 h2 => whole_any N2 _ _ V h1 h2
      clear H5 H7 H9 H11 H13
      go_upto_region 12 with fail
      try rw [eW13]
      clear eW13
      obtain ⟨_, ⟨va, vb⟩, vx, vy⟩ := HF.out W13 (Below.refl _ _)
      obtain ⟨⟨i0, i1, i2, i3, i4, i5, i6, i7⟩, il⟩ := nd_cells va.vb
      obtain ⟨⟨j0, j1, j2, j3, j4, j5, j6, j7⟩, jl⟩ := nd_cells vx.vb
      have HV := HW1.out W13 _ _ _ _ _ _ va.see vx.see
      have HV' : Hid (Calls Try.prog 11 #[ndv N1.k N1.d (.slice pa ma ca), ndv N1.k N1.d (.slice px mx cx)] W13 fun r w' => r = .returned (.bool true) ∧ Below W13.heap.size W13 w') := HV
      clear va vb vx vy HV
      go_wp2_with fail
      refine HV'.out.mono ?_
      rintro r w14 ⟨rfl, hb14⟩
      have K14 : Hid (Below W13.heap.size W13 w14) := hb14
      clear hb14 HV' i0 i1 i2 i3 i4 i5 i6 i7 il j0 j1 j2 j3 j4 j5 j6 j7 jl
      obtain ⟨_, ⟨va, vb⟩, vx, vy⟩ := HF.out w14 K14.out
      obtain ⟨⟨i0, i1, i2, i3, i4, i5, i6, i7⟩, il⟩ := nd_cells vb.vb
      obtain ⟨⟨j0, j1, j2, j3, j4, j5, j6, j7⟩, jl⟩ := nd_cells vy.vb
      have HV' : Hid (Calls Try.prog 11 #[ndv N2.k N2.d (.slice pb mb cb), ndv N2.k N2.d (.slice py my cy)] w14 fun r w' => r = .returned (.bool true) ∧ Below w14.heap.size w14 w') := HW2.out w14 _ _ _ _ _ _ vb.see vy.see
      clear va vb vx vy
      go_wp2_with fail
      refine HV'.out.mono ?_
      rintro r w15 ⟨rfl, hb15⟩
      have K15 : Hid (Below W13.heap.size W13 w15) := K14.out.trans (hb15.mono K14.out.size)
      clear hb15 HV' i0 i1 i2 i3 i4 i5 i6 i7 il j0 j1 j2 j3 j4 j5 j6 j7 jl
      obtain ⟨⟨hbel, hin⟩, ⟨va, vb⟩, vx, vy⟩ := HF.out w15 K15.out
      obtain ⟨⟨i0, i1, i2, i3, i4, i5, i6, i7⟩, il⟩ := nd_cells va.vb
      have HSp : Hid (Calls Try.prog 12 #[ndv N1.k N1.d (.slice pa ma ca)] w15 fun r w' => r = .returned (.tuple #[]) ∧ Kp (fun k => w5.heap.size ≤ k ∧ k < w6.heap.size) w15 w') := va.spoil hz1 (by omega)
      have H15 : Hid (Below W.heap.size W w15 ∧ InB B l w15 ∧ BV N2 pb mb cb W7.heap.size w8.heap.size w8.heap.size w15 ∧ BV N1 px mx cx W9.heap.size w10.heap.size w10.heap.size w15) := ⟨hbel, hin, vb, vx⟩
      clear hbel hin va vb vx vy
      go_wp2_with fail
      refine HSp.out.mono ?_
      rintro r w16 ⟨rfl, hk16⟩
      have H16 : Hid (Below W.heap.size W w16 ∧ InB B l w16 ∧ BV N2 pb mb cb W7.heap.size w8.heap.size w8.heap.size w16 ∧ BV N1 px mx cx W9.heap.size w10.heap.size w10.heap.size w16) := by
        have hs := HS.out
        exact ⟨Kp.low H15.out.1 hk16 (fun k e => by omega) H15.out.1.size, H15.out.2.1.kp hk16 (by omega), H15.out.2.2.1.kp hk16 (fun k e => by omega), H15.out.2.2.2.kp hk16 (fun k e => by omega)⟩
      clear hk16 HSp H15 i0 i1 i2 i3 i4 i5 i6 i7 il
      obtain ⟨⟨i0, i1, i2, i3, i4, i5, i6, i7⟩, il⟩ := nd_cells H16.out.2.2.1.vb
      have HSp : Hid (Calls Try.prog 12 #[ndv N2.k N2.d (.slice pb mb cb)] w16 fun r w' => r = .returned (.tuple #[]) ∧ Kp (fun k => W7.heap.size ≤ k ∧ k < w8.heap.size) w16 w') := H16.out.2.2.1.spoil hz2 (by omega)
      go_wp2_with fail
      refine HSp.out.mono ?_
      rintro r w17 ⟨rfl, hk17⟩
      have H17 : Hid (Below W.heap.size W w17 ∧ InB B l w17 ∧ BV N1 px mx cx W9.heap.size w10.heap.size w10.heap.size w17) := by
        have hs := HS.out
        exact ⟨Kp.low H16.out.1 hk17 (fun k e => by omega) H16.out.1.size, H16.out.2.1.kp hk17 (by omega), H16.out.2.2.2.kp hk17 (fun k e => by omega)⟩
      clear hk17 HSp H16 i0 i1 i2 i3 i4 i5 i6 i7 il
      go_wp2_with fail
      refine (HB1.out w17 _ _ H17.out.2.1.le HIn.out.1 HIn.out.2).mono ?_
      rintro r w18 ⟨pc, mc, cc, rfl, hb18, hv18⟩
      obtain ⟨W19, eW19⟩ : ∃ W19, w18.alloc (NdB N1.k N1.d (.slice pc mc cc)) = W19 := ⟨_, rfl⟩
      have H19 : Hid (∀ V, Below W19.heap.size W19 V → Below W.heap.size W V ∧ InB B l V ∧ BV N1 px mx cx W9.heap.size w10.heap.size w10.heap.size V ∧ BV N1 pc mc cc w17.heap.size w18.heap.size w18.heap.size V) := fun V hb => by
        have hn := below_new w18 (NdB N1.k N1.d (.slice pc mc cc))
        rw [eW19] at hn hv18
        have h := hb18.trans (hn.mono hb18.size)
        have h2 := h.trans (hb.mono h.size)
        exact ⟨H17.out.1.trans (h2.mono H17.out.1.size), H17.out.2.1.kp (Kp.of_below (S := fun _ => False) h2) (fun h => h), H17.out.2.2.below h2, hv18.below hb⟩
      clear hb18 hv18 HB1
      go_upto_region 17 with fail
      try rw [eW19]
      clear eW19
      obtain ⟨_, _, vx, vc⟩ := H19.out W19 (Below.refl _ _)
      obtain ⟨⟨i0, i1, i2, i3, i4, i5, i6, i7⟩, il⟩ := nd_cells vc.vb
      obtain ⟨⟨j0, j1, j2, j3, j4, j5, j6, j7⟩, jl⟩ := nd_cells vx.vb
      have HV' : Hid (Calls Try.prog 11 #[ndv N1.k N1.d (.slice pc mc cc), ndv N1.k N1.d (.slice px mx cx)] W19 fun r w' => r = .returned (.bool true) ∧ Below W19.heap.size W19 w') := HW1.out W19 _ _ _ _ _ _ vc.see vx.see
      clear vx vc
      go_wp2_with fail
      refine HV'.out.mono ?_
      rintro r w20 ⟨rfl, hb20⟩
      have K20 : Hid (Below W19.heap.size W19 w20) := hb20
      clear hb20 HV' i0 i1 i2 i3 i4 i5 i6 i7 il j0 j1 j2 j3 j4 j5 j6 j7 jl
      have HSm : Hid (Calls Try.prog 13 #[.slice (some ⟨B, 0, none⟩) l.length (l.length + 1), .slice ao l.length cap] w20 fun r w' => r = .returned (.bool true) ∧ Below w20.heap.size w20 w') := by
        obtain ⟨g1, g2, _⟩ := H19.out w20 K20.out
        exact lsame_any l _ _ _ _ w20 g2.le (HL.out w20 g1).1 (by omega)
      go_wp2_with fail
      refine HSm.out.mono ?_
      rintro r w21 ⟨rfl, hb21⟩
      have K21 : Hid (Below W19.heap.size W19 w21) := K20.out.trans (hb21.mono K20.out.size)
      obtain ⟨g1, ⟨curz, c1, c2, c3, c4⟩, _⟩ := H19.out w21 K21.out
      have G1 : Hid (Below W.heap.size W w21) := g1
      have r0 : w21.cell? ⟨B, l.length * 8, none⟩ = some (.int .u8 99) := blk_cell c1 c4
      have rl : B < w21.heap.size := blk_lt c1
      clear hb21 HSm g1 c1 c2 c3 c4
      go_wp2_with fail
      go_ret
      exact ⟨rfl, G1.out⟩

end Go.Proofs.Ythbgipmkdcffnaa
