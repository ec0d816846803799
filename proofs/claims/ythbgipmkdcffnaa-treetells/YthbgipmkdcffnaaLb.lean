import Derived.Test.YthbgipmkdcffnaaLa
set_option linter.unusedVariables false
set_option linter.unusedSimpArgs false
namespace Go.Proofs.Ythbgipmkdcffnaa
open Go.RowKit

/-! TreeBack. -/
mutual
theorem evs_len : ∀ n : Nd, (evs n).length ≤ 2 * nsz n
  | .mk k d c => by
    have := evsL_len c
    simp only [evs, nsz]
    split
    · simp; omega
    · simp; omega
theorem evsL_len : ∀ c : List Nd, (evsL c).length ≤ 2 * nszL c
  | [] => by simp [evsL, nszL]
  | n :: r => by
    have h1 := evs_len n
    have h2 := evsL_len r
    simp only [evsL, nszL, List.length_append]
    omega
end
mutual
theorem nsz_strip : ∀ n : Nd, nsz (strip n) ≤ nsz n
  | .mk k d c => by
    have := nszL_strip c
    simp only [strip]
    split
    · simp [nsz, nszL]
    · simp only [nsz]; omega
theorem nszL_strip : ∀ c : List Nd, nszL (stripL c) ≤ nszL c
  | [] => by simp [stripL]
  | n :: r => by
    have h1 := nsz_strip n
    have h2 := nszL_strip r
    simp only [stripL, nszL]
    omega
end
theorem bld_kinds : ∀ (l : List Ev) (S : List (Int × List Nd)) (n : Nd), bld l S = some n → ∀ e ∈ l, e.k = 1 ∨ e.k = 3 ∨ e.k = 2 ∨ e.k = 4
  | [], S, n, h, e, he => by cases he
  | x :: l, S, n, h, e, he => by
    simp only [bld] at h
    by_cases h1 : x.k = 1
    · rw [if_pos h1] at h
      split at h
      · cases h
      · rcases List.mem_cons.1 he with rfl | he
        · exact .inl h1
        · exact bld_kinds l _ n h e he
    · rw [if_neg h1] at h
      by_cases h3 : x.k = 3
      · rw [if_pos h3] at h
        cases S with
        | nil => cases h
        | cons y S' =>
          obtain ⟨k, c⟩ := y
          simp only at h
          split at h
          · cases S' with
            | nil =>
              simp only at h
              split at h
              · rename_i hl
                subst hl
                rcases List.mem_cons.1 he with rfl | he
                · exact .inr (.inl h3)
                · cases he
              · cases h
            | cons z S2 =>
              obtain ⟨k', c'⟩ := z
              rcases List.mem_cons.1 he with rfl | he
              · exact .inr (.inl h3)
              · exact bld_kinds l _ n h e he
          · cases h
      · rw [if_neg h3] at h
        split at h
        · rename_i hc
          cases S with
          | nil => cases h
          | cons y S' =>
            obtain ⟨k, c⟩ := y
            rcases List.mem_cons.1 he with rfl | he
            · rcases hc with hc | hc
              · exact .inr (.inr (.inl hc.1))
              · exact .inr (.inr (.inr hc.1))
            · exact bld_kinds l _ n h e he
        · cases h
theorem bo_cases (l : List Ev) : (∃ a, bld l [] = some a ∧ bo l = (a, 0) ∧ evs a = l.map nrm) ∨ (bld l [] = none ∧ bo l = (.mk 0 tv0 [], 130)) := by
  unfold bo
  cases h : bld l [] with
  | none => exact .inr ⟨rfl, rfl⟩
  | some a => exact .inl ⟨a, rfl, rfl, (evs_build h).1⟩
/-- What is known of a tree that was weighed. -/
theorem wgt_small {n : Nd} (h : wgt n 0 0 ≤ 16777216) : nsz n ≤ 16777216 ∧ dpt n ≤ 3001 ∧ (evs n).length ≤ 33554432 := by
  obtain ⟨a, b⟩ := wgt_ok n 0 0 h
  have := evs_len n
  omega
set_option maxRecDepth 100000 in
set_option maxHeartbeats 1000000 in
theorem back_walk (l : List Ev) (ao : Option Addr) (cap : Nat) (n : Nd) (vn : Value) (W : World) (hle : Le W ao l) (h1 : l.length ≤ cap) (h2 : cap ≤ maxLen) (hn : Nv W vn n) : Calls Try.prog 6 #[.slice ao l.length cap, vn] W fun r w' => r = .returned (.bool true) ∧ Below W.heap.size W w' := by
  have HNv : Hid (∀ V, Below W.heap.size W V → Nv V vn n) := fun V hb => hn.below hb
  have HLe : Hid (Le W ao l) := hle
  obtain ⟨no, nc', rfl, _⟩ := hn
  have hw1 := wgt_le n 0 0 (by omega)
  have HWt : Hid (∀ V, Below W.heap.size W V → Calls Try.prog 14 #[ndv n.k n.d (.slice no n.c.length nc'), .int .i64 0, .int .i64 0] V fun r w' => r = .returned (.int .i64 (wgt n 0 0 : Nat)) ∧ Below V.heap.size V w') := fun V hb => weight_any n _ V 0 0 (HNv.out V hb) (by omega) (by omega)
  obtain ⟨nk, nd, nch, ek, ed, ec⟩ : ∃ nk nd nch, n.k = nk ∧ n.d = nd ∧ n.c = nch := ⟨_, _, _, rfl, rfl, rfl⟩
  rw [ek, ed, ec] at HWt HNv ⊢
  clear ek ed ec
  obtain ⟨W1, eW1⟩ : ∃ W1, W.alloc (NdB nk nd (.slice no nch.length nc')) = W1 := ⟨_, rfl⟩
  have H1 : Hid (Below W.heap.size W W1 ∧ W1.heap[W.heap.size]? = some (NdB nk nd (.slice no nch.length nc'))) := by rw [← eW1]; exact ⟨below_new _ _, new_at _ _⟩
  have HAw : Hid (∀ V, Calls Try.prog 8 #[] V fun r w' => r = .returned (.bool true) ∧ Below V.heap.size V w') := awake_any
  have hlI : (l.length : Int) ≤ 9223372036854775807 := by have : maxLen = 9223372036854775807 := rfl; omega
  clear hle
  by_cases hbig : 16777216 < l.length
  · have hbI : (l.length : Int) > 16777216 := by omega
    clear HWt
    go_enter Try.func6, Try.ntmps6
    go_wp2_with fail
    try rw [eW1]
    refine (HAw.out _).mono ?_
    rintro r w2 ⟨rfl, hb2⟩
    have H2 : Hid (Below W.heap.size W w2) := H1.out.1.trans (hb2.mono H1.out.1.size)
    clear hb2
    go_wp2_with fail
    go_ret
    exact ⟨rfl, H2.out⟩
  · have hbI : ¬ ((l.length : Int) > 16777216) := by omega
    obtain ⟨wg, hwg⟩ : ∃ wg, wgt n 0 0 = wg := ⟨_, rfl⟩
    rw [hwg] at HWt hw1
    have HWg : Hid (wgt n 0 0 = wg) := hwg
    clear hwg
    by_cases hwb : 16777216 < wg
    · have hwI : (wg : Int) > 16777216 := by omega
      go_enter Try.func6, Try.ntmps6
      go_wp2_with fail
      try rw [eW1]
      refine (HAw.out _).mono ?_
      rintro r w2 ⟨rfl, hb2⟩
      have H2 : Hid (Below W.heap.size W w2 ∧ w2.heap[W.heap.size]? = some (NdB nk nd (.slice no nch.length nc'))) := ⟨H1.out.1.trans (hb2.mono H1.out.1.size), blk_below H1.out.2 hb2⟩
      obtain ⟨⟨i0, i1, i2, i3, i4, i5, i6, i7⟩, il⟩ := nd_cells H2.out.2
      clear hb2
      go_wp2_with fail
      refine (HWt.out _ H2.out.1).mono ?_
      rintro r w3 ⟨rfl, hb3⟩
      have H3 : Hid (Below W.heap.size W w3) := H2.out.1.trans (hb3.mono H2.out.1.size)
      clear hb3
      go_wp2_with fail
      go_ret
      exact ⟨rfl, H3.out⟩
    · have hwI : ¬ ((wg : Int) > 16777216) := by omega
      obtain ⟨hs1, hs2, hs3⟩ := wgt_small (n := n) (by rw [HWg.out]; omega)
      have HBd : Hid (∀ V, Below W.heap.size W V → Calls Try.prog 9 #[.slice ao l.length cap] V (BdP l V)) := fun V hb => build_any l V ao cap (HLe.out.below hb) h1 h2 (by omega)
      go_enter Try.func6, Try.ntmps6
      go_wp2_with fail
      try rw [eW1]
      refine (HAw.out _).mono ?_
      rintro r w2 ⟨rfl, hb2⟩
      have H2 : Hid (Below W.heap.size W w2 ∧ w2.heap[W.heap.size]? = some (NdB nk nd (.slice no nch.length nc'))) := ⟨H1.out.1.trans (hb2.mono H1.out.1.size), blk_below H1.out.2 hb2⟩
      obtain ⟨⟨i0, i1, i2, i3, i4, i5, i6, i7⟩, il⟩ := nd_cells H2.out.2
      clear hb2 eW1
      go_wp2_with fail
      refine (HWt.out _ H2.out.1).mono ?_
      rintro r w3 ⟨rfl, hb3⟩
      have H3 : Hid (Below W.heap.size W w3 ∧ w3.heap[W.heap.size]? = some (NdB nk nd (.slice no nch.length nc'))) := ⟨H2.out.1.trans (hb3.mono H2.out.1.size), blk_below H2.out.2 hb3⟩
      clear hb3 i0 i1 i2 i3 i4 i5 i6 i7 il
      go_wp2_with fail
      refine (HBd.out _ H3.out.1).mono ?_
      rintro r w4 ⟨sv, rfl, htn, hb4⟩
      obtain ⟨⟨ak, ad, ac⟩, er, hbo⟩ : ∃ a e, bo l = (a, e) := ⟨_, _, rfl⟩
      have hboc := bo_cases l
      rw [hbo] at htn hboc ⊢
      obtain ⟨p6, c6, hsv6⟩ : ∃ p6 c6, sv = .slice p6 ac.length c6 := by
        rw [TN] at htn
        obtain ⟨vs6, hrn6, _⟩ := htn
        obtain ⟨pp, cp, e, _⟩ := hrn6.shape
        exact ⟨pp, cp, e⟩
      subst hsv6
      have hNa := TN.see _ _ htn
      dsimp only [Nd.k, Nd.d] at hNa ⊢
      have HNa : Hid (Nv w4 (ndv ak ad (.slice p6 ac.length c6)) (.mk ak ad ac)) := hNa
      have HBO := show Hid _ from hboc
      have H4 : Hid (Below W.heap.size W w4 ∧ w4.heap[W.heap.size]? = some (NdB nk nd (.slice no nch.length nc'))) := ⟨H3.out.1.trans (hb4.mono H3.out.1.size), blk_below H3.out.2 hb4⟩
      obtain ⟨W5, eW5⟩ : ∃ W5, w4.alloc (NdB ak ad (.slice p6 ac.length c6)) = W5 := ⟨_, rfl⟩
      have H5 : Hid (Below w4.heap.size w4 W5 ∧ W5.heap[w4.heap.size]? = some (NdB ak ad (.slice p6 ac.length c6)) ∧ Below W.heap.size W W5) := by
        rw [← eW5]
        exact ⟨below_new _ _, new_at _ _, H4.out.1.trans ((below_new _ _).mono H4.out.1.size)⟩
      clear htn hb4 hbo hboc hNa
      go_upto_if 34 with fail
      try rw [eW5]
      clear eW5
      go_cut [8, 9, 10] from 35 to 135 (fun _ _ _ wx => Hid (Below W.heap.size W wx ∧ wx.heap[W.heap.size]? = some (NdB nk nd (.slice no nch.length nc'))))
      case first =>
        obtain ⟨⟨i0, i1, i2, i3, i4, i5, i6, i7⟩, il⟩ := nd_cells H5.out.2.1
        rcases HBO.out with ⟨a, ha, hae, hev⟩ | ⟨hno, hae⟩
        · simp only [Prod.mk.injEq] at hae
          obtain ⟨hae, rfl⟩ := hae
          subst hae
          have hlen : (evs (.mk ak ad ac)).length = l.length := by rw [hev]; simp
          have HEv : Hid (Calls Try.prog 16 #[ndv ak ad (.slice p6 ac.length c6)] W5 fun r w' => ∃ v', r = .returned v' ∧ BI W5 v' (l.map nrm) w') := by
            have := events_any _ _ W5 (HNa.out.below H5.out.1) (by rw [hlen]; omega)
            rw [hev] at this
            exact this
          have HKi : Hid (∀ e ∈ l, e.k = 1 ∨ e.k = 3 ∨ e.k = 2 ∨ e.k = 4) := bld_kinds l [] _ ha
          clear ha hev hlen
          go_wp2_with fail
          refine HEv.out.mono ?_
          rintro r w6 ⟨v6, rfl, hE⟩
          obtain ⟨pE, cE, e6, hLe6, _, _, _⟩ := Le.row hE.re
          rw [List.length_map] at e6
          subst e6
          have HL6 : Hid (Le w6 pE (l.map nrm)) := hLe6
          have H6 : Hid (Below W.heap.size W w6 ∧ w6.heap[W.heap.size]? = some (NdB nk nd (.slice no nch.length nc'))) := ⟨H5.out.2.2.trans (hE.bel.mono H5.out.2.2.size), blk_below H4.out.2 (H5.out.1.trans (hE.bel.mono H5.out.1.size))⟩
          clear hE hLe6 HEv
          go_wp2_with fail
          go_loopw [9] (fun iv wr => ∃ j : Nat, j ≤ l.length ∧ iv = .int .i64 j ∧ Hid (Below w6.heap.size w6 wr)) (fun iv _ => l.length - (intOf iv).toNat)
          case atStart => exact ⟨0, Nat.zero_le _, rfl, Below.refl _ _⟩
          case round =>
            obtain ⟨j, hj, rfl, HJ⟩ := hrel
            by_cases hlt : j < l.length
            · have z1 : (j : Int) < l.length := by omega
              have z2 : (0 : Int) ≤ j := by omega
              obtain ⟨d, hd⟩ : ∃ d, l[j]? = some d := ⟨_, List.getElem?_eq_getElem hlt⟩
              obtain ⟨b, off, rfl, hbl, c0, c1, c2, c3, c4, c5, c6', c7⟩ := Le.at HLe.out (H6.out.1.trans (HJ.out.mono H6.out.1.size)) hd
              obtain ⟨b', off', rfl, hbl', e0, e1, e2, e3, e4, e5, e6, e7⟩ := Le.at HL6.out HJ.out (j := j) (d := nrm d) (by rw [List.getElem?_map, hd]; rfl)
              have hki := HKi.out d (List.mem_of_getElem? hd)
              clear hd
              rcases hki with hk | hk | hk | hk
              all_goals (
                obtain ⟨dk, dn, dd⟩ := d
                dsimp only at *
                subst hk
                simp [nrm, tv0] at e0 e1 e2 e3 e4 e5 e6 e7
                go_wp2_with fail
                go_quiet (fail)
                go_wp2_with fail
                exact ⟨⟨j + 1, hlt, by go_num, below_dn HJ.out nq⟩, by simp [intOf]; omega⟩)
            · obtain rfl : j = l.length := by omega
              have z1 : ¬ ((l.length : Int) < l.length) := by omega
              have H7 : Hid (Below W.heap.size W wr ∧ wr.heap[W.heap.size]? = some (NdB nk nd (.slice no nch.length nc'))) := ⟨H6.out.1.trans (HJ.out.mono H6.out.1.size), blk_below H6.out.2 HJ.out⟩
              go_wp2_with fail
              go_meet
              exact H7
        · simp only [Prod.mk.injEq, Nd.mk.injEq] at hae
          obtain ⟨⟨rfl, rfl, rfl⟩, rfl⟩ := hae
          have H7 : Hid (Below W.heap.size W W5 ∧ W5.heap[W.heap.size]? = some (NdB nk nd (.slice no nch.length nc'))) := ⟨H5.out.2.2, blk_below H4.out.2 H5.out.1⟩
          clear hno
          go_wp2_with fail
          go_meet
          exact H7
      case rest =>
        have H7 := hcut
        clear hcut H5 HNa HBO HBd
        obtain ⟨⟨i0, i1, i2, i3, i4, i5, i6, i7⟩, il⟩ := nd_cells H7.out.2
        have HEv : Hid (Calls Try.prog 16 #[ndv nk nd (.slice no nch.length nc')] wc fun r w' => ∃ v', r = .returned v' ∧ BI wc v' (evs n) w') := events_any n _ wc (HNv.out wc H7.out.1) (by omega)
        have HBe := build_evs n
        go_wp2_with fail
        refine HEv.out.mono ?_
        rintro r w8 ⟨v8, rfl, hE⟩
        obtain ⟨pE, cE, e8, hLe8, _, hE1, hE2⟩ := Le.row hE.re
        obtain ⟨le, hle⟩ : ∃ le, (evs n).length = le := ⟨_, rfl⟩
        have HBu : Hid (Calls Try.prog 9 #[.slice pE le cE] w8 (BdP (evs n) w8)) := by
          have := build_any (evs n) w8 pE cE hLe8 hE1 hE2 (by omega)
          rw [hle] at this
          exact this
        rw [hle] at e8
        subst e8
        have H8 : Hid (Below W.heap.size W w8 ∧ w8.heap[W.heap.size]? = some (NdB nk nd (.slice no nch.length nc'))) := ⟨H7.out.1.trans (hE.bel.mono H7.out.1.size), blk_below H7.out.2 hE.bel⟩
        clear hE hLe8 HEv hle hE1 hE2 i0 i1 i2 i3 i4 i5 i6 i7 il
        go_wp2_with fail
        refine HBu.out.mono ?_
        rintro r w9 ⟨sv, rfl, htn, hb9⟩
        obtain ⟨m, er2, hbo⟩ : ∃ a e, bo (evs n) = (a, e) := ⟨_, _, rfl⟩
        have hbo2 := hbo
        rw [hbo] at htn ⊢
        obtain ⟨p9, m9, c9, hsv9⟩ : ∃ p9 m9 c9, sv = .slice p9 m9 c9 := by
          obtain ⟨mk', md, mc⟩ := m
          rw [TN] at htn
          obtain ⟨vs6, hrn6, _⟩ := htn
          obtain ⟨pp, cp, e, _⟩ := hrn6.shape
          exact ⟨pp, _, cp, e⟩
        subst hsv9
        have HNm : Hid (∀ V, Below w9.heap.size w9 V → Nv V (ndv m.k m.d (.slice p9 m9 c9)) m) := fun V hb => (TN.see _ _ htn).below hb
        have H9 : Hid (Below W.heap.size W w9 ∧ w9.heap[W.heap.size]? = some (NdB nk nd (.slice no nch.length nc'))) := ⟨H8.out.1.trans (hb9.mono H8.out.1.size), blk_below H8.out.2 hb9⟩
        obtain ⟨W10, eW10⟩ : ∃ W10, w9.alloc (NdB m.k m.d (.slice p9 m9 c9)) = W10 := ⟨_, rfl⟩
        have H10 : Hid (Below w9.heap.size w9 W10 ∧ W10.heap[w9.heap.size]? = some (NdB m.k m.d (.slice p9 m9 c9)) ∧ Below W.heap.size W W10 ∧ W10.heap[W.heap.size]? = some (NdB nk nd (.slice no nch.length nc'))) := by
          rw [← eW10]
          exact ⟨below_new _ _, new_at _ _, H9.out.1.trans ((below_new _ _).mono H9.out.1.size), alloc_at' H9.out.2 _⟩
        have HDp : Hid (Calls Try.prog 20 #[ndv nk nd (.slice no nch.length nc')] W10 fun r w' => r = .returned (.int .i64 (dpt n : Nat)) ∧ Below W10.heap.size W10 w') := depth_any n _ W10 (HNv.out _ H10.out.2.2.1) (by omega)
        clear htn hb9 hbo HBu
        obtain ⟨dp, hdp⟩ : ∃ dp, dpt n = dp := ⟨_, rfl⟩
        rw [hdp] at HDp HBe hs2
        have HBO : Hid (bo (evs n) = (m, er2) ∧ dpt n = dp ∧ bld (evs n) [] = if 1 ≤ dp ∧ dp ≤ 1000 then some (strip n) else none) := ⟨hbo2, hdp, HBe⟩
        clear hdp HBe hbo2
        go_upto_region 18 with fail
        try rw [eW10]
        clear eW10
        obtain ⟨⟨i0, i1, i2, i3, i4, i5, i6, i7⟩, il⟩ := nd_cells H10.out.2.2.2
        go_wp2_with fail
        refine HDp.out.mono ?_
        rintro r w11 ⟨rfl, hb11⟩
        have H11 : Hid (Below W.heap.size W w11 ∧ w11.heap[W.heap.size]? = some (NdB nk nd (.slice no nch.length nc')) ∧ Below w9.heap.size w9 w11 ∧ w11.heap[w9.heap.size]? = some (NdB m.k m.d (.slice p9 m9 c9))) := ⟨H10.out.2.2.1.trans (hb11.mono H10.out.2.2.1.size), blk_below H10.out.2.2.2 hb11, H10.out.1.trans (hb11.mono H10.out.1.size), blk_below H10.out.2.1 hb11⟩
        clear hb11 i0 i1 i2 i3 i4 i5 i6 i7 il HDp
        obtain ⟨⟨i0, i1, i2, i3, i4, i5, i6, i7⟩, il⟩ := nd_cells H11.out.2.1
        obtain ⟨⟨j0, j1, j2, j3, j4, j5, j6, j7⟩, jl⟩ := nd_cells H11.out.2.2.2
        by_cases hd1 : 1 ≤ dp
        · have hd1I : (dp : Int) ≥ 1 := by omega
          by_cases hd2 : dp ≤ 1000
          · have hd2I : (dp : Int) ≤ 1000 := by omega
            obtain ⟨rfl, rfl⟩ : m = strip n ∧ er2 = 0 := by
              obtain ⟨a1, _, a3⟩ := HBO.out
              rw [if_pos ⟨hd1, hd2⟩] at a3
              unfold bo at a1
              rw [a3] at a1
              simp only [Prod.mk.injEq] at a1
              exact ⟨a1.1.symm, a1.2.symm⟩
            have HSa : Hid (Calls Try.prog 24 #[ndv (strip n).k (strip n).d (.slice p9 m9 c9), ndv nk nd (.slice no nch.length nc')] w11 fun r w' => r = .returned (.bool true) ∧ Below w11.heap.size w11 w') := by
              have h3 := nsz_strip n
              have := same_any (strip n) n _ _ w11 (HNm.out _ H11.out.2.2.1) (HNv.out _ H11.out.1) (by omega) (by omega)
              rw [same_strip] at this
              exact this
            have HD2 : Hid (∀ V, Below w11.heap.size w11 V → Calls Try.prog 20 #[ndv (strip n).k (strip n).d (.slice p9 m9 c9)] V fun r w' => r = .returned (.int .i64 (dp : Nat)) ∧ Below V.heap.size V w') := fun V hb => by
              have := depth_any (strip n) _ V (HNm.out _ (H11.out.2.2.1.trans (hb.mono H11.out.2.2.1.size))) (by rw [dpt_strip, HBO.out.2.1]; omega)
              rw [dpt_strip, HBO.out.2.1] at this
              exact this
            go_wp2_with fail
            refine HSa.out.mono ?_
            rintro r w12 ⟨rfl, hb12⟩
            have H12 : Hid (Below w11.heap.size w11 w12 ∧ w12.heap[w9.heap.size]? = some (NdB (strip n).k (strip n).d (.slice p9 m9 c9))) := ⟨hb12, blk_below H11.out.2.2.2 hb12⟩
            obtain ⟨⟨k0, k1, k2, k3, k4, k5, k6, k7⟩, kl⟩ := nd_cells H12.out.2
            clear hb12
            go_wp2_with fail
            refine (HD2.out _ H12.out.1).mono ?_
            rintro r w13 ⟨rfl, hb13⟩
            have H13 : Hid (Below W.heap.size W w13) := H11.out.1.trans ((H12.out.1.trans (hb13.mono H12.out.1.size)).mono H11.out.1.size)
            clear hb13
            go_wp2_with fail
            go_ret
            exact ⟨rfl, H13.out⟩
          · have hd2I : ¬ ((dp : Int) ≤ 1000) := by omega
            obtain ⟨hme, rfl⟩ : True ∧ er2 = 130 := by
              obtain ⟨a1, _, a3⟩ := HBO.out
              rw [if_neg (by omega)] at a3
              unfold bo at a1
              rw [a3] at a1
              simp only [Prod.mk.injEq] at a1
              exact ⟨trivial, a1.2.symm⟩
            go_wp2_with fail
            go_ret
            exact ⟨rfl, H11.out.1⟩
        · have hd1I : ¬ ((dp : Int) ≥ 1) := by omega
          obtain ⟨hme, rfl⟩ : True ∧ er2 = 130 := by
            obtain ⟨a1, _, a3⟩ := HBO.out
            rw [if_neg (by omega)] at a3
            unfold bo at a1
            rw [a3] at a1
            simp only [Prod.mk.injEq] at a1
            exact ⟨trivial, a1.2.symm⟩
          go_wp2_with fail
          go_ret
          exact ⟨rfl, H11.out.1⟩

end Go.Proofs.Ythbgipmkdcffnaa
