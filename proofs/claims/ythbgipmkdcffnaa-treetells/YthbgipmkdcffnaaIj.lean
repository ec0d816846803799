import Derived.Test.YthbgipmkdcffnaaIk
set_option linter.unusedVariables false
set_option linter.unusedSimpArgs false
namespace Go.Proofs.Ythbgipmkdcffnaa
open Go.RowKit Go.Shelf
attribute [local go_sem] Oper.semAt_some

set_option maxRecDepth 100000 in
set_option maxHeartbeats 4000000 in
theorem tells_walk (n : Nd) (vn : Value) (early : Int) (W : World) (hn : Nv W vn n) (ha : (Lit.int .i64 early).wf = true) : Calls Try.prog 4 #[vn, .int .i64 early] W fun r w' => r = .returned (.bool true) ∧ Below W.heap.size W w' := by
  obtain ⟨ha1, ha2⟩ : -9223372036854775808 ≤ early ∧ early ≤ 9223372036854775807 := by
    simp only [Lit.wf, Bool.and_eq_true, decide_eq_true_eq] at ha
    exact ⟨ha.1, ha.2⟩
  clear ha
  have HNv : Hid (∀ V, Below W.heap.size W V → Nv V vn n) := fun V h => hn.below h
  obtain ⟨ao, ca, rfl, _⟩ := hn
  have hwa := wgt_le n 0 0 (by omega)
  have HWa : Hid (∀ V, Below W.heap.size W V → Calls Try.prog 14 #[ndv n.k n.d (.slice ao n.c.length ca), .int .i64 0, .int .i64 0] V fun r w' => r = .returned (.int .i64 (wgt n 0 0 : Nat)) ∧ Below V.heap.size V w') := fun V hb => weight_any n _ V 0 0 (HNv.out V hb) (by omega) (by omega)
  have HCp : Hid (nsz n ≤ 100000000 → CpC n ∧ KeC n) := fun h => ⟨copied_any n h, kept_any n h⟩
  have HAw : Hid (∀ V, Calls Try.prog 8 #[] V fun r w' => r = .returned (.bool true) ∧ Below V.heap.size V w') := awake_any
  obtain ⟨ak, ad, alc, e1, e2, e3⟩ : ∃ k d l, n.k = k ∧ n.d = d ∧ n.c.length = l := ⟨_, _, _, rfl, rfl, rfl⟩
  have HKC : Hid (∀ V, nsz n ≤ 100000000 → Below W.heap.size W V → Calls Try.prog 15 #[ndv ak ad (.slice ao alc ca)] V fun r w' => ∃ sv, r = .returned (ndv ak ad sv) ∧ CN (fun q => V.heap.size ≤ q) w' n sv ∧ Nv w' (ndv ak ad sv) n ∧ Below V.heap.size V w') := by
    subst e1 e2 e3
    refine fun V h hb => ((HCp.out h).1 _ V (HNv.out V hb)).mono ?_
    rintro r w' ⟨sv, rfl, h1, h2⟩
    exact ⟨sv, rfl, h1, CN.see _ _ h1, h2⟩
  have HKK : Hid (∀ V sv O, nsz n ≤ 100000000 → Below W.heap.size W V → CN O V n sv → Calls Try.prog 22 #[ndv ak ad sv, ndv ak ad (.slice ao alc ca)] V fun r w' => r = .returned (.bool true) ∧ Below V.heap.size V w') := by
    subst e1 e2 e3
    exact fun V sv O h hb hc => (HCp.out h).2 _ _ V O hc (HNv.out V hb)
  rw [e1, e2, e3] at HWa HNv ⊢
  clear e1 e2 e3 HCp
  obtain ⟨W2, eW2⟩ : ∃ W2, ((W.alloc (NdB ak ad (.slice ao alc ca))).alloc (InB early)).alloc (BoB false) = W2 := ⟨_, rfl⟩
  have H2 : Hid (∀ V, Below W2.heap.size W2 V → Below W.heap.size W V ∧ V.heap[W.heap.size]? = some (NdB ak ad (.slice ao alc ca)) ∧ V.heap[W.heap.size + 1]? = some (InB early) ∧ V.heap[W.heap.size + 1 + 1]? = some (BoB false)) := fun V hb => by
    have b4 := below_new W (NdB ak ad (.slice ao alc ca))
    have b5 := below_new (W.alloc (NdB ak ad (.slice ao alc ca))) (InB early)
    have b6 := below_new ((W.alloc (NdB ak ad (.slice ao alc ca))).alloc (InB early)) (BoB false)
    rw [eW2] at b6
    have z1 := size_al W (NdB ak ad (.slice ao alc ca))
    have z2 := size_al (W.alloc (NdB ak ad (.slice ao alc ca))) (InB early)
    have h1 : Below W.heap.size W W2 := (b4.trans (b5.mono b4.size)).trans (b6.mono (by omega))
    have h2 : W2.heap[W.heap.size]? = some (NdB ak ad (.slice ao alc ca)) := blk_below (alloc_at' (new_at _ _) _) b6
    have h3 : W2.heap[W.heap.size + 1]? = some (InB early) := by refine blk_below ?_ b6; rw [← z1]; exact new_at _ _
    have h4 : W2.heap[W.heap.size + 1 + 1]? = some (BoB false) := by rw [← eW2, ← z1, ← z2]; exact new_at _ _
    exact ⟨h1.trans (hb.mono h1.size), blk_below h2 hb, blk_below h3 hb, blk_below h4 hb⟩
  obtain ⟨wa, hwae⟩ : ∃ wa, wgt n 0 0 = wa := ⟨_, rfl⟩
  rw [hwae] at HWa hwa
  have HWE : Hid (wgt n 0 0 = wa) := hwae
  clear hwae
  refine (callsIn_wide (n := 0)).1 ?_
  refine callsIn_of_wp_marks Try.func4 rfl trivial (wpIn_wide.2 ?_) rfl
  simp only [Try.ntmps4, List.size_toArray, List.length_cons, List.length_nil, Nat.reduceAdd, Nat.reduceSub, Array.replicate_succ, Array.replicate_zero, List.push_toArray, List.append_toArray, List.nil_append, List.cons_append]
  go_wp2_with fail
  try rw [eW2]
  clear eW2
  refine (HAw.out _).mono ?_
  rintro r w3 ⟨rfl, hb3⟩
  have H3 : Hid (Below W2.heap.size W2 w3) := hb3
  obtain ⟨_, n1, n2, n3⟩ := H2.out w3 hb3
  obtain ⟨⟨i0, i1, i2, i3, i4, i5, i6, i7⟩, il⟩ := nd_cells n1
  clear hb3 n1 n2 n3
  go_wp2_with fail
  refine (HWa.out _ (H2.out _ H3.out).1).mono ?_
  rintro r w4 ⟨rfl, hb4⟩
  have H4 : Hid (Below W2.heap.size W2 w4) := H3.out.trans (hb4.mono H3.out.size)
  clear hb4 i0 i1 i2 i3 i4 i5 i6 i7 il
  obtain ⟨_, n1, n2, n3⟩ := H2.out w4 H4.out
  by_cases hba : 16777216 < wa
  · have hbI : (wa : Int) > 16777216 := by omega
    have r0 : w4.cell? ⟨W.heap.size + 1 + 1, 0, none⟩ = some (.bool false) := blk_cell n3 rfl
    have r1 : w4.frozen? ⟨W.heap.size + 1 + 1, 0, none⟩ = false := blk_frozen n3
    have r2 := blk_lt n3
    have HF : Hid ((w4.setCell ⟨W.heap.size + 1 + 1, 0, none⟩ (.bool true)).heap[W.heap.size + 1 + 1]? = some (BoB true) ∧ Below W.heap.size W (w4.setCell ⟨W.heap.size + 1 + 1, 0, none⟩ (.bool true))) := ⟨blk_set n3 0 _, (H2.out w4 H4.out).1.setCell (by show _ ≤ W.heap.size + 1 + 1; omega) _⟩
    clear n1 n2 n3
    go_wp2_with fail
    exact ⟨_, res4 rfl HF.out.1, rfl, HF.out.2⟩
  · have hbI : ¬ ((wa : Int) > 16777216) := by omega
    obtain ⟨hs1, hs2, hs3⟩ := wgt_small (n := n) (by rw [HWE.out]; omega)
    have hsa : nsz n ≤ 100000000 := by omega
    have HSZ : Hid (nsz n ≤ 16777216 ∧ dpt n ≤ 3001 ∧ (evs n).length ≤ 33554432) := ⟨hs1, hs2, hs3⟩
    obtain ⟨⟨i0, i1, i2, i3, i4, i5, i6, i7⟩, il⟩ := nd_cells n1
    clear n1 n2 n3 hs1 hs2 hs3
    go_wp2_with fail
    refine (HKC.out _ hsa (H2.out _ H4.out).1).mono ?_
    rintro r w6 ⟨sx, rfl, hcx, hnx, hb6⟩
    obtain ⟨px, cx, hsx, _⟩ := nv_slot hnx
    obtain ⟨lx, hlx⟩ : ∃ lx, n.c.length = lx := ⟨_, rfl⟩
    rw [hlx] at hsx
    clear hlx
    subst hsx
    obtain ⟨W7, eW7⟩ : ∃ W7, w6.alloc (NdB ak ad (.slice px lx cx)) = W7 := ⟨_, rfl⟩
    have H7 : Hid (∀ V, Below W7.heap.size W7 V → Below W2.heap.size W2 V ∧ V.heap[w6.heap.size]? = some (NdB ak ad (.slice px lx cx)) ∧ CN (fun q => w4.heap.size ≤ q) V n (.slice px lx cx) ∧ Nv V (ndv ak ad (.slice px lx cx)) n) := fun V hb => by
      have hn := below_new w6 (NdB ak ad (.slice px lx cx))
      rw [eW7] at hn
      have h1 := H4.out.trans (hb6.mono H4.out.size)
      have h2 := h1.trans (hn.mono h1.size)
      have h3 := hn.trans (hb.mono hn.size)
      exact ⟨h2.trans (hb.mono h2.size), blk_below (by rw [← eW7]; exact new_at _ _) hb, hcx.below h3, hnx.below h3⟩
    clear hcx hnx hb6 i0 i1 i2 i3 i4 i5 i6 i7 il
    go_upto_region 5 with fail
    try rw [eW7]
    clear eW7
    have HEv : Hid (∀ V, Below W7.heap.size W7 V → Calls Try.prog 16 #[ndv ak ad (.slice px lx cx)] V fun r w' => ∃ v', r = .returned v' ∧ BI V v' (evs n) w') := fun V hb => events_any n _ V (H7.out V hb).2.2.2 (by have := HSZ.out.2.2; omega)
    have HRv : Hid (∀ V, Below W7.heap.size W7 V → Calls Try.prog 17 #[ndv ak ad (.slice ao alc ca)] V fun r w' => ∃ v', r = .returned v' ∧ BI V v' (evs n) w') := fun V hb => revents_any n _ V (HNv.out V (H2.out V (H7.out V hb).1).1) (by have := HSZ.out.2.2; omega)
    obtain ⟨⟨i0, i1, i2, i3, i4, i5, i6, i7⟩, il⟩ := nd_cells (H7.out W7 (Below.refl _ _)).2.1
    go_wp2_with fail
    refine (HEv.out _ (Below.refl _ _)).mono ?_
    rintro r w8 ⟨ve, rfl, hbe⟩
    have H8 : Hid (BI W7 ve (evs n) w8) := hbe
    obtain ⟨pe, ce, hve, _, _⟩ := hbe.re.shape
    obtain ⟨_, n1, n2, n3⟩ := H2.out w8 (H7.out w8 hbe.bel).1
    clear i0 i1 i2 i3 i4 i5 i6 i7 il hbe
    obtain ⟨⟨i0, i1, i2, i3, i4, i5, i6, i7⟩, il⟩ := nd_cells n1
    clear n1 n2 n3
    obtain ⟨le, hle⟩ : ∃ le, (evs n).length = le := ⟨_, rfl⟩
    rw [hle] at hve
    subst hve
    go_wp2_with fail
    refine (HRv.out _ H8.out.bel).mono ?_
    rintro r w9 ⟨vr, rfl, hbr⟩
    obtain ⟨pr, cr, hvr, hLr, _, _, _⟩ := Le.row hbr.re
    obtain ⟨pe2, ce2, hve2, hLe, _, _, _⟩ := Le.row H8.out.re
    obtain ⟨rfl, rfl⟩ : pe2 = pe ∧ ce2 = ce := by
      rw [hle] at hve2
      cases hve2
      exact ⟨rfl, rfl⟩
    have HSm : Hid (Calls Try.prog 13 #[.slice pe2 le ce2, .slice pr le cr] w9 fun r w' => r = .returned (.bool true) ∧ Below w9.heap.size w9 w') := by
      have := lsame_any (evs n) pe2 pr ce2 cr w9 (hLe.below hbr.bel) hLr (by have := HSZ.out.2.2; omega)
      rw [hle] at this
      exact this
    have H9 : Hid (Sp W7 pe2 (le * 8) w9) := (Sp.of hle H8.out).below hbr.bel
    rw [hle] at hvr
    have hlI : (le : Int) ≤ 33554432 := by have := HSZ.out.2.2; omega
    clear hbr hLr hLe hve2 i0 i1 i2 i3 i4 i5 i6 i7 il hle
    subst hvr
    go_wp2_with fail
    refine HSm.out.mono ?_
    rintro r w10 ⟨rfl, hb10⟩
    have H10 : Hid (Sp W7 pe2 (le * 8) w10) := H9.out.below hb10
    clear hb10 HSm H9
    go_wp2_with fail
    go_loopw [10] (fun iv wr => ∃ j : Nat, j ≤ le ∧ iv = .int .i64 j ∧ Hid (Sp W7 pe2 (le * 8) wr)) (fun iv _ => le - (intOf iv).toNat)
    case atStart => exact ⟨0, Nat.zero_le _, rfl, H10⟩
    case round =>
      obtain ⟨j, hj, rfl, HJ⟩ := hrel
      by_cases hlt : j < le
      · have z1 : (j : Int) < le := by omega
        have z2 : (0 : Int) ≤ j := by omega
        obtain ⟨sb, (sr | ⟨g, hpe, sg, sr⟩)⟩ := HJ.out
        · omega
        subst hpe
        obtain ⟨u0, s0⟩ := sr.slot (i := j * 8) (by omega)
        obtain ⟨u1, s1⟩ := sr.slot (i := j * 8 + 1) (by omega)
        obtain ⟨u2, s2⟩ := sr.slot (i := j * 8 + 2) (by omega)
        obtain ⟨u3, s3⟩ := sr.slot (i := j * 8 + 3) (by omega)
        obtain ⟨u4, s4⟩ := sr.slot (i := j * 8 + 4) (by omega)
        obtain ⟨u5, s5⟩ := sr.slot (i := j * 8 + 5) (by omega)
        obtain ⟨u6, s6⟩ := sr.slot (i := j * 8 + 6) (by omega)
        obtain ⟨u7, s7⟩ := sr.slot (i := j * 8 + 7) (by omega)
        have sf := sr.frozen
        have sl := sr.lt
        have HS : Hid (Below W7.heap.size W7 wr ∧ W7.heap.size ≤ g ∧ Rw g (le * 8) wr) := ⟨sb, sg, sr⟩
        clear sb sg sr
        go_wp2_with fail
        exact ⟨⟨j + 1, hlt, by go_num, Sp.put HS.out.1 HS.out.2.1 HS.out.2.2 _ _ _ _ _ _ _ _ _ _ _ _ _ _ _ _⟩, by simp [intOf]; omega⟩
      · obtain rfl : j = le := by omega
        have z1 : ¬ ((j : Int) < j) := by omega
        have H11 : Hid (Below W7.heap.size W7 wr) := HJ.out.1
        obtain ⟨_, n1, n2, n3⟩ := H2.out wr (H7.out wr H11.out).1
        obtain ⟨⟨i0, i1, i2, i3, i4, i5, i6, i7⟩, il⟩ := nd_cells n1
        clear n1 n2 n3 HJ H10 H8
        have HRt : Hid (∀ V, Below W7.heap.size W7 V → Calls Try.prog 18 #[ndv ak ad (.slice ao alc ca)] V fun r w' => ∃ v', r = .returned v' ∧ PI V v' (toks n) w') := fun V hb => rtoks_any n _ V (HNv.out V (H2.out V (H7.out V hb).1).1) (by have := toks_len n; have := HSZ.out.1; omega)
        have HTk : Hid (∀ V, Below W7.heap.size W7 V → Calls Try.prog 19 #[ndv ak ad (.slice px lx cx)] V fun r w' => ∃ p : Fp, r = .returned (.func (.func p.f) #[] p.lb) ∧ p.ts = toks n ∧ Fok (fun k => V.heap.size ≤ k) w' p ∧ Below V.heap.size V w') := fun V hb => toks_any n hsa _ V (H7.out V hb).2.2.2
        go_wp2_with fail
        refine (HRt.out _ H11.out).mono ?_
        rintro r w11 ⟨vt, rfl, hpt⟩
        obtain ⟨at', ct, hvt, hLt, hla, _, _⟩ := Lt.row hpt.rt
        obtain ⟨T, hT⟩ : ∃ T, toks n = T := ⟨_, rfl⟩
        rw [hT] at hvt hLt HTk
        have hTl : (T.length : Int) ≤ 16777216 := by have := toks_len n; have := HSZ.out.1; rw [← hT]; omega
        subst hvt
        obtain ⟨W12, eW12⟩ : ∃ W12, w11.alloc (.cells #[.slice at' T.length ct] 45) = W12 := ⟨_, rfl⟩
        have H12 : Hid (∀ V, Below W12.heap.size W12 V → Below W7.heap.size W7 V ∧ V.heap[w11.heap.size]? = some (.cells #[.slice at' T.length ct] 45) ∧ Lt V at' T) := fun V hb => by
          have hn := below_new w11 (.cells #[.slice at' T.length ct] 45)
          rw [eW12] at hn
          have h1 := H11.out.trans (hpt.bel.mono H11.out.size)
          have h2 := h1.trans (hn.mono h1.size)
          exact ⟨h2.trans (hb.mono h2.size), blk_below (by rw [← eW12]; exact new_at _ _) hb, hLt.below (hn.trans (hb.mono hn.size))⟩
        have HLA0 : Hid (∀ a, at' = some a → a.block < w11.heap.size ∧ W7.heap.size ≤ a.block) := fun a ha' => by
          rcases hla with e | ⟨g, e, e2, e3⟩
          · rw [e] at ha'; cases ha'
          · rw [e] at ha'
            cases ha'
            exact ⟨e3, Nat.le_trans H11.out.size e2⟩
        clear hpt hLt hla i0 i1 i2 i3 i4 i5 i6 i7 il
        go_upto_region 13 with fail
        try rw [eW12]
        clear eW12
        obtain ⟨⟨i0, i1, i2, i3, i4, i5, i6, i7⟩, il⟩ := nd_cells (H7.out W12 (H12.out W12 (Below.refl _ _)).1).2.1
        go_wp2_with fail
        refine (HTk.out _ (H12.out _ (Below.refl _ _)).1).mono ?_
        rintro r w13 ⟨fp, rfl, hts, hok, hb13⟩
        obtain ⟨W14, eW14⟩ : ∃ W14, w13.alloc (.cells #[.func (.func fp.f) #[] fp.lb] 48) = W14 := ⟨_, rfl⟩
        have H14 : Hid (∀ V, Below W14.heap.size W14 V → Below W12.heap.size W12 V ∧ V.heap[w13.heap.size]? = some (.cells #[.func (.func fp.f) #[] fp.lb] 48)) := fun V hb => by
          have hn := below_new w13 (.cells #[.func (.func fp.f) #[] fp.lb] 48)
          rw [eW14] at hn
          have h1 := hb13.trans (hn.mono hb13.size)
          exact ⟨h1.trans (hb.mono h1.size), blk_below (by rw [← eW14]; exact new_at _ _) hb⟩
        have H14b : Hid (Below w13.heap.size w13 W14) := by rw [← eW14]; exact below_new _ _
        have HIt : Hid (EntF fp.f ∧ ItB (fun k => W12.heap.size ≤ k) w13 fp.f fp.lb T) := ⟨hok.1, by rw [← hts]; exact hok.2⟩
        have HK : Hid (∀ V, Below W14.heap.size W14 V → (V.cell? ⟨w13.heap.size, 0, none⟩ = some (.func (.func fp.f) #[] fp.lb)) ∧ (V.cell? ⟨w6.heap.size, 0, none⟩ = some (.int .u8 ak) ∧ V.cell? ⟨w6.heap.size, 1, none⟩ = some (.int .u8 ad.k) ∧ V.cell? ⟨w6.heap.size, 2, none⟩ = some (.string ad.t) ∧ V.cell? ⟨w6.heap.size, 3, none⟩ = some (.int .i64 ad.a) ∧ V.cell? ⟨w6.heap.size, 4, none⟩ = some (.int .i64 ad.l) ∧ V.cell? ⟨w6.heap.size, 5, none⟩ = some (.int .i64 ad.c) ∧ V.cell? ⟨w6.heap.size, 6, none⟩ = some (.int .i64 ad.f) ∧ V.cell? ⟨w6.heap.size, 7, none⟩ = some (.slice px lx cx)) ∧
            (V.cell? ⟨W.heap.size, 0, none⟩ = some (.int .u8 ak) ∧ V.cell? ⟨W.heap.size, 1, none⟩ = some (.int .u8 ad.k) ∧ V.cell? ⟨W.heap.size, 2, none⟩ = some (.string ad.t) ∧ V.cell? ⟨W.heap.size, 3, none⟩ = some (.int .i64 ad.a) ∧ V.cell? ⟨W.heap.size, 4, none⟩ = some (.int .i64 ad.l) ∧ V.cell? ⟨W.heap.size, 5, none⟩ = some (.int .i64 ad.c) ∧ V.cell? ⟨W.heap.size, 6, none⟩ = some (.int .i64 ad.f) ∧ V.cell? ⟨W.heap.size, 7, none⟩ = some (.slice ao alc ca)) ∧ Below W14.heap.size W14 V) := fun V hb => by
          obtain ⟨h1, h2⟩ := H14.out V hb
          obtain ⟨h3, _⟩ := H12.out V h1
          obtain ⟨h4, h5, _⟩ := H7.out V h3
          obtain ⟨_, h6, _⟩ := H2.out V h4
          exact ⟨blk_cell h2 rfl, (nd_cells h5).1, (nd_cells h6).1, hb⟩
        have HDp : Hid (∀ V, Below W14.heap.size W14 V → Calls Try.prog 20 #[ndv ak ad (.slice px lx cx)] V fun r w' => r = .returned (.int .i64 (dpt n : Nat)) ∧ Below V.heap.size V w') := fun V hb => depth_any n _ V (H7.out V (H12.out V (H14.out V hb).1).1).2.2.2 (by have := HSZ.out.2.1; omega)
        have HRd : Hid (∀ V, Below W14.heap.size W14 V → Calls Try.prog 21 #[ndv ak ad (.slice ao alc ca)] V fun r w' => r = .returned (.int .i64 (dpt n : Nat)) ∧ Below V.heap.size V w') := fun V hb => ddepth_any n _ V (HNv.out V (H2.out V (H7.out V (H12.out V (H14.out V hb).1).1).1).1) (by have := HSZ.out.2.1; omega)
        clear hts hok hb13 i0 i1 i2 i3 i4 i5 i6 i7 il HTk HRt HEv HRv
        go_upto_region 14 with fail
        try rw [eW14]
        clear eW14
        obtain ⟨f0, ⟨i0, i1, i2, i3, i4, i5, i6, i7⟩, ⟨j0, j1, j2, j3, j4, j5, j6, j7⟩, _⟩ := HK.out W14 (Below.refl _ _)
        have l1 := World.block_lt_of_cell? _ _ f0
        have l2 := World.block_lt_of_cell? _ _ i0
        have l3 := World.block_lt_of_cell? _ _ j0
        obtain ⟨dp, hdp⟩ : ∃ dp, dpt n = dp := ⟨_, rfl⟩
        rw [hdp] at HDp HRd
        clear hdp
        go_cut [63] from 51 to 63 (fun t wx => t = .bool false ∧ Hid (Below W14.heap.size W14 wx))
        case first =>
          have hnil := fn_nil fp.f fp.lb
          go_region_held3 (fun V => (V.cell? ⟨w13.heap.size, 0, none⟩ = some (.func (.func fp.f) #[] fp.lb)) ∧ (V.cell? ⟨w6.heap.size, 0, none⟩ = some (.int .u8 ak) ∧ V.cell? ⟨w6.heap.size, 1, none⟩ = some (.int .u8 ad.k) ∧ V.cell? ⟨w6.heap.size, 2, none⟩ = some (.string ad.t) ∧ V.cell? ⟨w6.heap.size, 3, none⟩ = some (.int .i64 ad.a) ∧ V.cell? ⟨w6.heap.size, 4, none⟩ = some (.int .i64 ad.l) ∧ V.cell? ⟨w6.heap.size, 5, none⟩ = some (.int .i64 ad.c) ∧ V.cell? ⟨w6.heap.size, 6, none⟩ = some (.int .i64 ad.f) ∧ V.cell? ⟨w6.heap.size, 7, none⟩ = some (.slice px lx cx)) ∧
            (V.cell? ⟨W.heap.size, 0, none⟩ = some (.int .u8 ak) ∧ V.cell? ⟨W.heap.size, 1, none⟩ = some (.int .u8 ad.k) ∧ V.cell? ⟨W.heap.size, 2, none⟩ = some (.string ad.t) ∧ V.cell? ⟨W.heap.size, 3, none⟩ = some (.int .i64 ad.a) ∧ V.cell? ⟨W.heap.size, 4, none⟩ = some (.int .i64 ad.l) ∧ V.cell? ⟨W.heap.size, 5, none⟩ = some (.int .i64 ad.c) ∧ V.cell? ⟨W.heap.size, 6, none⟩ = some (.int .i64 ad.f) ∧ V.cell? ⟨W.heap.size, 7, none⟩ = some (.slice ao alc ca)) ∧ Below W14.heap.size W14 V) (first | (exact HK.out _ (by assumption)) | (exact HK.out _ (Below.refl _ _)) | (exact HK.out _ (Below.refl _ _).drew) | go_keep) (first | (go_at_call 20; refine (HDp.out _ (by first | assumption | exact (Below.refl _ _).drew | exact (by assumption : Below W14.heap.size W14 _).drew)).mono ?_; rintro e w15 ⟨rfl, hb15⟩; have hB15 := (by first | exact (Below.refl W14.heap.size W14).drew.trans (hb15.mono (Nat.le_refl _)) | exact (by assumption : Below W14.heap.size W14 _).trans (hb15.mono (Below.size (by assumption))) : Below W14.heap.size W14 w15)) | (go_at_call 21; refine (HRd.out _ hB15).mono ?_; rintro e w16 ⟨rfl, hb16⟩; have hB16 : Below W14.heap.size W14 w16 := hB15.trans (hb16.mono hB15.size)))
          all_goals (
            go_wp2_with fail
            go_meet
            exact ⟨rfl, hB16⟩)
        case rest =>
          obtain ⟨rfl, HC⟩ := hcut
          clear f0 i0 i1 i2 i3 i4 i5 i6 i7 j0 j1 j2 j3 j4 j5 j6 j7 l1 l2 l3 HK HDp HRd
          revert wc
          intro wA HC
          obtain ⟨_, _, n2, _⟩ := H2.out wA (H7.out wA (H12.out wA (H14.out wA HC.out).1).1).1
          have HN2 : Hid (wA.heap[W.heap.size + 1]? = some (InB early)) := n2
          have c0 : wA.cell? ⟨W.heap.size + 1, 0, none⟩ = some (.int .i64 early) := blk_cell n2 rfl
          have c1 : wA.frozen? ⟨W.heap.size + 1, 0, none⟩ = false := blk_frozen n2
          have c2 := blk_lt n2
          clear n2
          go_upto_if 65 with fail
          go_cut [5] from 66 to 68 (fun t wx => t = .bool true ∧ ∃ e : Int, 0 ≤ e ∧ e ≤ 9223372036854775807 ∧ Hid (Kp (fun k => k = W.heap.size + 1) wA wx ∧ wx.heap[W.heap.size + 1]? = some (InB e)))
          case first =>
            by_cases hneg : early < 0
            · have HX : Hid (Kp (fun k => k = W.heap.size + 1) wA (wA.setCell ⟨W.heap.size + 1, 0, none⟩ (.int .i64 (-(early + 1)))) ∧ (wA.setCell ⟨W.heap.size + 1, 0, none⟩ (.int .i64 (-(early + 1)))).heap[W.heap.size + 1]? = some (InB (-(early + 1)))) := ⟨Kp.set _ _ _ _, blk_set HN2.out 0 _⟩
              go_wp2_with fail
              go_meet
              exact ⟨rfl, -(early + 1), by omega, by omega, HX⟩
            · go_wp2_with fail
              go_meet
              exact ⟨rfl, early, by omega, by omega, Kp.refl _ _, HN2.out⟩
          case rest =>
            obtain ⟨rfl, e0, he1, he2, HX⟩ := hcut
            have d0 : wc.cell? ⟨W.heap.size + 1, 0, none⟩ = some (.int .i64 e0) := blk_cell HX.out.2 rfl
            have d1 : wc.frozen? ⟨W.heap.size + 1, 0, none⟩ = false := blk_frozen HX.out.2
            have d2 := blk_lt HX.out.2
            have HT1 : Hid (wc.heap[w11.heap.size]? = some (.cells #[.slice at' T.length ct] 45)) := HX.out.1.blk (H12.out wA (H14.out wA HC.out).1).2.1 (fun e => by
              have h1 := (H12.out wA (H14.out wA HC.out).1).2.1
              rw [e, HN2.out] at h1
              injection h1 with h1
              injection h1 with _ h1
              exact absurd h1 (by decide))
            have t0 : wc.cell? ⟨w11.heap.size, 0, none⟩ = some (.slice at' T.length ct) := blk_cell HT1.out rfl
            have t1 := blk_lt HT1.out
            obtain ⟨ee, hee⟩ : ∃ ee : Nat, e0 % ((T.length : Int) + 1) = ee := ⟨(e0 % ((T.length : Int) + 1)).toNat, by have := Int.emod_nonneg e0 (b := (T.length : Int) + 1) (by omega); omega⟩
            have hel : ee ≤ T.length := by have := Int.emod_lt_of_pos e0 (b := (T.length : Int) + 1) (by omega); omega
            have HEE : Hid (e0 % ((T.length : Int) + 1) = ee) := hee
            clear hee
            have HLA : Hid (∀ a, at' = some a → a.block < wA.heap.size ∧ a.block ≠ W.heap.size + 1) := fun a ha' => by
              obtain ⟨h1, h2⟩ := HLA0.out a ha'
              have g1 := H14.out wA HC.out
              have g4 := blk_lt (H12.out wA g1.1).2.1
              have o7 := blk_lt (H2.out W7 (H7.out W7 (Below.refl _ _)).1).2.2.1
              exact ⟨by omega, by omega⟩
            have HTS : Hid (∀ V1, (wc.setCell ⟨W.heap.size + 1, 0, none⟩ (.int .i64 (ee : Int))).alloc (InB 0) = V1 → TS W wc.heap.size w6.heap.size w11.heap.size w13.heap.size (NdB ak ad (.slice ao alc ca)) (NdB ak ad (.slice px lx cx)) ee (.slice at' T.length ct) (.func (.func fp.f) #[] fp.lb) at' T n (.slice px lx cx) V1 ∧ V1.heap[wc.heap.size]? = some (InB 0) ∧ ItB (fun k => k ≠ wc.heap.size) V1 fp.f fp.lb T) := fun V1 hV => by
              obtain ⟨g1, g2⟩ := H14.out wA HC.out
              obtain ⟨g3, g4, g5⟩ := H12.out wA g1
              obtain ⟨g6, g7, g8, g9⟩ := H7.out wA g3
              obtain ⟨h1, h2, h3, h4⟩ := H2.out wA g6
              have o4 := (H2.out w4 H4.out).2.2.1
              have l4 := blk_lt o4
              have ne : ∀ {b : Nat} {cs : Array Value} {U : TypeId} {f : Nat × Nat}, wA.heap[b]? = some (.cells cs U f) → U ≠ 3 → b ≠ W.heap.size + 1 := fun hb hU e => by
                rw [e, h3] at hb
                injection hb with hb
                injection hb with _ hb
                exact hU hb.symm
              obtain ⟨a1, a2, a3⟩ := TS.of (W := W) (wA := wA) (X := wc) (V1 := V1) (ez := e0) (e := (ee : Int)) h1 h2 h4 g7 g8 (fun k hk e => by omega) g4 g5 g2 HLA.out (ne g7 (by decide)) (ne g4 (by decide)) (ne g2 (by decide)) HX.out.1 HX.out.2 hV
              refine ⟨a1, a2, ?_⟩
              have b1 := (HIt.out.2.sub (O' := fun k => W12.heap.size ≤ k ∧ k < w13.heap.size) fun k hk hlt => ⟨hk, hlt⟩)
              have b2 : Below w13.heap.size w13 wA := H14b.out.trans (HC.out.mono H14b.out.size)
              have s1 := b2.size
              have s2 := HX.out.1.size
              have w12 := (H12.out W12 (Below.refl _ _)).1
              have o12 := blk_lt (H2.out W12 (H7.out W12 w12).1).2.2.1
              refine ((b1.move (St.of_below b2)).move (w1 := V1) fun k hk hlt => a3.block k hlt (by omega)).sub fun k hk _ => by omega
            go_upto_region 20 with fail
            rw [HEE.out]
            obtain ⟨V1, eV1⟩ : ∃ V1, (wc.setCell ⟨W.heap.size + 1, 0, none⟩ (.int .i64 (ee : Int))).alloc (InB 0) = V1 := ⟨_, rfl⟩
            have H1 := HTS.out V1 eV1
            dsimp only [InB] at eV1
            rw [eV1]
            obtain ⟨bk, hbk⟩ : ∃ bk, wc.heap.size = bk := ⟨_, rfl⟩
            rw [hbk] at H1 ⊢
            have HS : Hid (TS W bk w6.heap.size w11.heap.size w13.heap.size (NdB ak ad (.slice ao alc ca)) (NdB ak ad (.slice px lx cx)) ee (.slice at' T.length ct) (.func (.func fp.f) #[] fp.lb) at' T n (.slice px lx cx) V1 ∧ V1.heap[bk]? = some (InB 0) ∧ ItB (fun k => k ≠ bk) V1 fp.f fp.lb T) := H1
            have s0 : V1.cell? ⟨w13.heap.size, 0, none⟩ = some (.func (.func fp.f) #[] fp.lb) := blk_cell H1.1.s0 rfl
            have s1 := blk_lt H1.1.s0
            clear H1 eV1 hbk HTS d0 d1 d2 t0 t1 HT1 HX HN2 c0 c1 c2
            have hbl : bk < V1.heap.size := blk_lt HS.out.2.1
            have hTl2 : (T.length : Int) ≤ 16777216 := hTl
            go_wp2_with fail
            rename_i K1 aK1
            refine wpIn_wide.1 (wpIn_itX (n := 0) (p := 75) (s := 14) (gf := fp.f) (lb := fp.lb) rfl HIt.out.1 HS.out.2.2 (fun jj V => KI bk V1 jj V ∧ (ee = 0 ∨ jj < ee)) (fun jj V => KI bk V1 jj V ∧ jj = ee) ?_ ?_ ?_ (fun jj V h => h.1.st) ⟨⟨Kp.refl _ _, HS.out.2.1⟩, by omega⟩ ?assign ?body ?fin)
            · intro jj A B row h hg hr
              exact ⟨ki_own bk V1 hbl jj A B row h.1 hg hr, h.2⟩
            · intro jj V h
              exact h.1.1.size
            · intro jj A B row h hg hr
              exact ⟨ki_own bk V1 hbl jj A B row h.1 hg hr, h.2⟩
            case assign =>
              intro m lq t V K hK
              simp only [actA, Tv.v, List.setIfInBounds_toArray, List.set_cons_succ, List.set_cons_zero] at hK
              dsimp only [Tv.v]
              gi_wp2
              exact hK
            case body =>
              rintro m lq jj b t V hj hlq ⟨r, hr⟩ ⟨hki, hje⟩ hb hcell
              have hts := HS.out.1.kp hki.1
              obtain ⟨tb, toff, hat, y0, y1, y2, y3, y4, y5⟩ := hts.lt jj t hj
              have hjl : jj < T.length := (List.getElem?_eq_some_iff.1 hj).1
              have z1 : (jj : Int) < T.length := by omega
              have z2 : (0 : Int) ≤ jj := by omega
              have z3 : ¬ ((T.length : Int) ≤ jj) := by omega
              have z5 : ¬ (T.length ≤ jj) := by omega
              have z6 : decide (T.length ≤ jj) = false := by simp; omega
              have z7 : jj < T.length := hjl
              have c0 : V.cell? ⟨b, 0, none⟩ = some (.int .u8 t.k) := blk_cell hcell (k := 0) rfl
              have c1 : V.cell? ⟨b, 1, none⟩ = some (.string t.t) := blk_cell hcell (k := 1) rfl
              have c2 : V.cell? ⟨b, 2, none⟩ = some (.int .i64 t.a) := blk_cell hcell (k := 2) rfl
              have c3 : V.cell? ⟨b, 3, none⟩ = some (.int .i64 t.l) := blk_cell hcell (k := 3) rfl
              have c4 : V.cell? ⟨b, 4, none⟩ = some (.int .i64 t.c) := blk_cell hcell (k := 4) rfl
              have c5 : V.cell? ⟨b, 5, none⟩ = some (.int .i64 t.f) := blk_cell hcell (k := 5) rfl
              have k0 : V.cell? ⟨bk, 0, none⟩ = some (.int .i64 jj) := blk_cell hki.2 rfl
              have k1 : V.frozen? ⟨bk, 0, none⟩ = false := blk_frozen hki.2
              have k2 := blk_lt hki.2
              have u0 : V.cell? ⟨w11.heap.size, 0, none⟩ = some (.slice at' T.length ct) := blk_cell hts.t0 rfl
              have v0 : V.cell? ⟨W.heap.size + 1, 0, none⟩ = some (.int .i64 ee) := blk_cell hts.e0 rfl
              have v1 := blk_lt hts.e0
              have v2 : W.heap.size + 1 ≠ bk := by have := hts.l0; omega
              have HN : Hid (∀ nq, KI bk V1 (jj + 1) ((V.drewN nq).setCell ⟨bk, 0, none⟩ (.int .i64 ((jj : Int) + 1))) ∧ KF V1.heap.size V ((V.drewN nq).setCell ⟨bk, 0, none⟩ (.int .i64 ((jj : Int) + 1)))) := fun nq => ⟨(hki.next nq).1, (hki.next nq).2 _ hbl⟩
              subst hat
              clear hr hj hcell hts hki
              dsimp only [actA, Tv.v]
              simp only [List.setIfInBounds_toArray, List.set_cons_succ, List.set_cons_zero]
              gi_wp2
              refine quiet_round (by kernel_rfl) (by kernel_rfl) (by kernel_rfl) ?_
              repeat (gi_big_quiet_step (fail))
              refine wpQuietIn_nil ?_
              intro _ hw'
              obtain ⟨nq, hw''⟩ := hw'
              subst hw''
              by_cases hee : jj + 1 = ee
              · have hz : (jj : Int) + 1 = ee := by omega
                have hn2 := HN.out nq
                rw [hz] at hn2
                have HN3 : Hid (KI bk V1 (jj + 1) ((V.drewN nq).setCell ⟨bk, 0, none⟩ (.int .i64 (ee : Int))) ∧ KF V1.heap.size V ((V.drewN nq).setCell ⟨bk, 0, none⟩ (.int .i64 (ee : Int)))) := hn2
                clear hn2
                gi_wp2
                exact ⟨HN3.out.2, rfl, HN3.out.1, hee⟩
              · have hz : ¬ ((jj : Int) + 1 = ee) := by omega
                gi_wp2
                exact ⟨(HN.out nq).2, (HN.out nq).1, by omega⟩
            case fin =>
              rintro D jj V hD hor hd
              have hki : KI bk V1 jj V := hor.elim (fun h => h.2.1) (fun h => h.1)
              have hje : ee = 0 ∨ jj = ee := hor.elim (fun h => h.2.2.imp id (fun e => by have := h.1; omega)) (fun h => .inr h.2)
              have HKI : Hid (KI bk V1 jj V ∧ V1.heap.size ≤ D ∧ V.heap[D]? = some (.deferred (some []))) := ⟨hki, hD, hd⟩
              have hts := HS.out.1.kp hki.1
              have k0 : V.cell? ⟨bk, 0, none⟩ = some (.int .i64 jj) := blk_cell hki.2 rfl
              have k1 : V.frozen? ⟨bk, 0, none⟩ = false := blk_frozen hki.2
              have k2 := blk_lt hki.2
              have v0 : V.cell? ⟨W.heap.size + 1, 0, none⟩ = some (.int .i64 ee) := blk_cell hts.e0 rfl
              have v1 := blk_lt hts.e0
              have x0 : V.cell? ⟨w13.heap.size, 0, none⟩ = some (.func (.func fp.f) #[] fp.lb) := blk_cell hts.s0 rfl
              have x1 := blk_lt hts.s0
              have x2 : w13.heap.size ≠ bk := by have := hts.ls; omega
              clear hki hts hor hD hd
              have HZ : ee = 0 ∨ (0 < ee ∧ jj = ee) := by omega
              have HS2 : Hid (TS W bk w6.heap.size w11.heap.size w13.heap.size (NdB ak ad (.slice ao alc ca)) (NdB ak ad (.slice px lx cx)) ee (.slice at' T.length ct) (.func (.func fp.f) #[] fp.lb) at' T n (.slice px lx cx) (V.setCell ⟨bk, 0, none⟩ (.int .i64 0)) ∧ (V.setCell ⟨bk, 0, none⟩ (.int .i64 0)).heap[bk]? = some (InB 0) ∧ ItB (fun k => k ≠ bk) (V.setCell ⟨bk, 0, none⟩ (.int .i64 0)) fp.f fp.lb T ∧ Mk V1.heap.size (V.setCell ⟨bk, 0, none⟩ (.int .i64 0)) (V.setCell ⟨bk, 0, none⟩ (.int .i64 0)).heap.size [mark D]) := by
                have ks := HKI.out.1.1.step (Kp.set V bk 0 (.int .i64 0)) (fun _ _ h => h)
                have hd2 := (Kp.set V bk 0 (.int .i64 0)).blk HKI.out.2.2 (by have := HKI.out.2.1; omega)
                exact ⟨HS.out.1.kp ks, blk_set HKI.out.1.2 0 _, HS.out.2.2.move (fun k hk hlt => ks.block k hlt hk), .cons HKI.out.2.1 (blk_lt hd2) hd2 (.nil (Nat.le_refl _))⟩
              obtain ⟨V2, eV2⟩ : ∃ V2, V.setCell ⟨bk, 0, none⟩ (.int .i64 0) = V2 := ⟨_, rfl⟩
              rw [eV2] at HS2
              refine aK1 _ _ ?_
              try simp only []
              go_upto_region 26 with fail
              go_cut [99] from 93 to 99 (fun t wx => t = .bool false ∧ wx = V)
              case first =>
                rcases HZ with hz | ⟨hz1, hz2⟩
                · subst hz
                  go_wp2_with fail
                  go_meet
                  exact ⟨rfl, rfl⟩
                · subst hz2
                  have hz3 : (0 : Int) < jj := by omega
                  go_wp2_with fail
                  go_meet
                  exact ⟨rfl, rfl⟩
              case rest =>
                obtain ⟨rfl, hwx⟩ := hcut
                subst hwx
                go_upto_region 29 with fail
                try rw [eV2]
                clear eV2
                have s2 : V2.cell? ⟨w13.heap.size, 0, none⟩ = some (.func (.func fp.f) #[] fp.lb) := blk_cell HS2.out.1.s0 rfl
                have s3 := blk_lt HS2.out.1.s0
                have hb2 : bk < V2.heap.size := blk_lt HS2.out.2.1
                have V2D : Hid True := trivial
                go_wp2_with fail
                rename_i K2 aK2
                refine wpIn_wide.1 (wpIn_itX (n := 0) (p := 101) (s := 15) (gf := fp.f) (lb := fp.lb) rfl HIt.out.1 HS2.out.2.2.1 (fun jj V => KI bk V2 jj V) (fun _ _ => False) (ki_own bk V2 hb2) (fun jj V h => h.1.size) (fun jj A B row h _ _ => h) (fun jj V h => h.st) ⟨Kp.refl _ _, HS2.out.2.1⟩ ?assign ?body ?fin)
                case assign =>
                  intro m lq t V K hK
                  simp only [actA, Tv.v, List.setIfInBounds_toArray, List.set_cons_succ, List.set_cons_zero] at hK
                  dsimp only [Tv.v]
                  gi_wp2
                  exact hK
                case body =>
                  rintro m lq jj b t V hj hlq ⟨r, hr⟩ hki hb hcell
                  have hts := HS2.out.1.kp hki.1
                  obtain ⟨tb, toff, hat, y0, y1, y2, y3, y4, y5⟩ := hts.lt jj t hj
                  have hjl : jj < T.length := (List.getElem?_eq_some_iff.1 hj).1
                  have z1 : (jj : Int) < T.length := by omega
                  have z2 : (0 : Int) ≤ jj := by omega
                  have z5 : ¬ (T.length ≤ jj) := by omega
                  have z6 : decide (T.length ≤ jj) = false := by simp; omega
                  have c0 : V.cell? ⟨b, 0, none⟩ = some (.int .u8 t.k) := blk_cell hcell (k := 0) rfl
                  have c1 : V.cell? ⟨b, 1, none⟩ = some (.string t.t) := blk_cell hcell (k := 1) rfl
                  have c2 : V.cell? ⟨b, 2, none⟩ = some (.int .i64 t.a) := blk_cell hcell (k := 2) rfl
                  have c3 : V.cell? ⟨b, 3, none⟩ = some (.int .i64 t.l) := blk_cell hcell (k := 3) rfl
                  have c4 : V.cell? ⟨b, 4, none⟩ = some (.int .i64 t.c) := blk_cell hcell (k := 4) rfl
                  have c5 : V.cell? ⟨b, 5, none⟩ = some (.int .i64 t.f) := blk_cell hcell (k := 5) rfl
                  have k0 : V.cell? ⟨bk, 0, none⟩ = some (.int .i64 jj) := blk_cell hki.2 rfl
                  have k1 : V.frozen? ⟨bk, 0, none⟩ = false := blk_frozen hki.2
                  have k2 := blk_lt hki.2
                  have u0 : V.cell? ⟨w11.heap.size, 0, none⟩ = some (.slice at' T.length ct) := blk_cell hts.t0 rfl
                  have q0 : V.cell? ⟨w13.heap.size, 0, none⟩ = some (.func (.func fp.f) #[] fp.lb) := blk_cell hts.s0 rfl
                  have q1 := blk_lt hts.s0
                  have q2 : w13.heap.size ≠ bk := by have := hts.ls; omega
                  have HN : Hid (∀ nq, KI bk V2 (jj + 1) ((V.drewN nq).setCell ⟨bk, 0, none⟩ (.int .i64 ((jj : Int) + 1))) ∧ KF V2.heap.size V ((V.drewN nq).setCell ⟨bk, 0, none⟩ (.int .i64 ((jj : Int) + 1)))) := fun nq => ⟨(hki.next nq).1, (hki.next nq).2 _ hb2⟩
                  have HNest : Hid (∀ nq V4, ((V.drewN nq).setCell ⟨bk, 0, none⟩ (.int .i64 ((jj : Int) + 1))).alloc (InB 0) = V4 → KI V.heap.size V4 0 V4 ∧ V.heap.size < V4.heap.size ∧ V4.heap[lq]? = some (.loop r) ∧ ∀ (j : Nat) (V' : World), KI V.heap.size V4 j V' → Kp (fun k => k = bk) V2 V' ∧ KI bk V2 (jj + 1) V' ∧ KF V2.heap.size V V') := fun nq V4 h4 => by
                    obtain ⟨a1, a2, a3, a4⟩ := hki.nest hb2 nq h4
                    refine ⟨a1, a2, a3 lq _ hr (fun e => ?_), a4⟩
                    have := hki.2
                    rw [← e, hr] at this
                    cases this
                  subst hat
                  clear hr hj hcell hts hki
                  dsimp only [actA, Tv.v]
                  simp only [List.setIfInBounds_toArray, List.set_cons_succ, List.set_cons_zero]
                  gi_wp2
                  refine quiet_round (by kernel_rfl) (by kernel_rfl) (by kernel_rfl) ?_
                  repeat (gi_big_quiet_step (fail))
                  refine wpQuietIn_nil ?_
                  intro _ hw'
                  obtain ⟨nq, hw''⟩ := hw'
                  subst hw''
                  by_cases hee : 2 < jj + 1
                  · have hz : (2 : Int) < (jj : Int) + 1 := by omega
                    gi_wp2
                    exact ⟨(HN.out nq).2, (HN.out nq).1⟩
                  · have hz : ¬ ((2 : Int) < (jj : Int) + 1) := by omega
                    gi_wp2
                    rename_i K3 aK3
                    obtain ⟨V4, eV4⟩ : ∃ V4, ((V.drewN nq).setCell ⟨bk, 0, none⟩ (.int .i64 ((jj : Int) + 1))).alloc (InB 0) = V4 := ⟨_, rfl⟩
                    have HZ4 : Hid (KI V.heap.size V4 0 V4 ∧ V.heap.size < V4.heap.size ∧ V4.heap[lq]? = some (.loop r) ∧ ∀ (j : Nat) (V' : World), KI V.heap.size V4 j V' → Kp (fun k => k = bk) V2 V' ∧ KI bk V2 (jj + 1) V' ∧ KF V2.heap.size V V') := HNest.out nq V4 eV4
                    dsimp only [InB] at eV4
                    rw [eV4]
                    clear eV4 HNest HN y0 y1 y2 y3 y4 y5 c0 c1 c2 c3 c4 c5 k0 k1 k2 u0 q0 q1
                    refine wpIn_itNA (p := 119) (s := 17) (gf := fp.f) (lb := fp.lb) HZ4.out.2.2.1 rfl HIt.out.1 HS2.out.2.2.1 (fun j3 V3 => KI V.heap.size V4 j3 V3) (fun _ _ _ => False) (ki_own _ _ HZ4.out.2.1) (fun j V h => h.1.size) (fun c j A B row h _ _ => h) (fun j V' h k hk hlt => (HZ4.out.2.2.2 j V' h).1.block k hlt hk) HZ4.out.1 ?assign3 ?body3 ?fin3 ?stop3
                    case assign3 =>
                      intro m lq t V K hK
                      simp only [actA, Tv.v, List.setIfInBounds_toArray, List.set_cons_succ, List.set_cons_zero] at hK
                      dsimp only [Tv.v]
                      gi_wp2
                      exact hK
                    case body3 =>
                      rintro m3 l3 j3 b3 t3 V3 hj3 hl3 ⟨r3, hr3⟩ hki3 hb3 hcell3
                      have hts3 := HS2.out.1.kp (HZ4.out.2.2.2 j3 V3 hki3).1
                      obtain ⟨tb2, toff2, hat2, y0, y1, y2, y3, y4, y5⟩ := hts3.lt j3 t3 hj3
                      obtain ⟨rfl, rfl⟩ : tb2 = tb ∧ toff2 = toff := by cases hat2; exact ⟨rfl, rfl⟩
                      have hjl3 : j3 < T.length := (List.getElem?_eq_some_iff.1 hj3).1
                      have x1 : (j3 : Int) < T.length := by omega
                      have x2 : (0 : Int) ≤ j3 := by omega
                      have x5 : ¬ (T.length ≤ j3) := by omega
                      have x6 : decide (T.length ≤ j3) = false := by simp; omega
                      have c0 : V3.cell? ⟨b3, 0, none⟩ = some (.int .u8 t3.k) := blk_cell hcell3 (k := 0) rfl
                      have c1 : V3.cell? ⟨b3, 1, none⟩ = some (.string t3.t) := blk_cell hcell3 (k := 1) rfl
                      have c2 : V3.cell? ⟨b3, 2, none⟩ = some (.int .i64 t3.a) := blk_cell hcell3 (k := 2) rfl
                      have c3 : V3.cell? ⟨b3, 3, none⟩ = some (.int .i64 t3.l) := blk_cell hcell3 (k := 3) rfl
                      have c4 : V3.cell? ⟨b3, 4, none⟩ = some (.int .i64 t3.c) := blk_cell hcell3 (k := 4) rfl
                      have c5 : V3.cell? ⟨b3, 5, none⟩ = some (.int .i64 t3.f) := blk_cell hcell3 (k := 5) rfl
                      have k0 : V3.cell? ⟨V.heap.size, 0, none⟩ = some (.int .i64 j3) := blk_cell hki3.2 rfl
                      have k1 : V3.frozen? ⟨V.heap.size, 0, none⟩ = false := blk_frozen hki3.2
                      have k2 := blk_lt hki3.2
                      have u0 : V3.cell? ⟨w11.heap.size, 0, none⟩ = some (.slice (some ⟨tb2, toff2, none⟩) T.length ct) := blk_cell hts3.t0 rfl
                      have HN : Hid (∀ nq, KI V.heap.size V4 (j3 + 1) ((V3.drewN nq).setCell ⟨V.heap.size, 0, none⟩ (.int .i64 ((j3 : Int) + 1))) ∧ KF V4.heap.size V3 ((V3.drewN nq).setCell ⟨V.heap.size, 0, none⟩ (.int .i64 ((j3 : Int) + 1)))) := fun nq => ⟨(hki3.next nq).1, (hki3.next nq).2 _ HZ4.out.2.1⟩
                      clear hr3 hj3 hcell3 hts3 hki3 hat2
                      dsimp only [actA, Tv.v]
                      simp only [List.setIfInBounds_toArray, List.set_cons_succ, List.set_cons_zero]
                      gi_wp2
                      refine quiet_round (by kernel_rfl) (by kernel_rfl) (by kernel_rfl) ?_
                      repeat (gi_big_quiet_step (fail))
                      refine wpQuietIn_nil ?_
                      intro _ hw'
                      obtain ⟨nq3, hw''⟩ := hw'
                      subst hw''
                      gi_wp2
                      exact ⟨(HN.out nq3).2, (HN.out nq3).1⟩
                    case stop3 =>
                      rintro c j3 V3 h
                      exact h.elim
                    case fin3 =>
                      rintro V5 hki5
                      obtain ⟨g1, g2, g3⟩ := HZ4.out.2.2.2 _ V5 hki5
                      have hts5 := HS2.out.1.kp g1
                      have HG : Hid (KI bk V2 (jj + 1) V5 ∧ KF V2.heap.size V V5) := ⟨g2, g3⟩
                      have k0 : V5.cell? ⟨V.heap.size, 0, none⟩ = some (.int .i64 T.length) := blk_cell hki5.2 rfl
                      have k2 := blk_lt hki5.2
                      have u0 : V5.cell? ⟨w11.heap.size, 0, none⟩ = some (.slice (some ⟨tb, toff, none⟩) T.length ct) := blk_cell hts5.t0 rfl
                      clear g1 g2 g3 hts5 hki5
                      refine aK3 _ _ ?_
                      try simp only []
                      gi_wp2
                      exact ⟨HG.out.2, HG.out.1⟩
                case fin =>
                  rintro D2 jj V hD hor hd
                  rcases hor with ⟨rfl, hki⟩ | h
                  rotate_left
                  · exact h.elim
                  have hts := HS2.out.1.kp hki.1
                  have HD : Hid (Mk V1.heap.size V V.heap.size [mark D2, mark D] ∧ TS W bk w6.heap.size w11.heap.size w13.heap.size (NdB ak ad (.slice ao alc ca)) (NdB ak ad (.slice px lx cx)) ee (.slice at' T.length ct) (.func (.func fp.f) #[] fp.lb) at' T n (.slice px lx cx) V ∧ V.heap[bk]? = some (InB T.length)) := by
                    refine ⟨.cons hD (blk_lt hd) hd (HS2.out.2.2.2.move fun k o hB hC ho => hki.1.blk ho (by omega)), hts, hki.2⟩
                  obtain ⟨⟨i0, i1, i2, i3, i4, i5, i6, i7⟩, il⟩ := nd_cells hts.x0
                  obtain ⟨⟨j0, j1, j2, j3, j4, j5, j6, j7⟩, jl⟩ := nd_cells hts.n0
                  clear hts hki hD hd
                  refine aK2 _ _ ?_
                  try simp only []
                  go_wp2_with fail
                  refine (HKK.out V _ _ hsa HD.out.2.1.bel HD.out.2.1.cn).mono ?_
                  rintro r w20 ⟨rfl, hb20⟩
                  have r0 := blk_below HD.out.2.1.r0 hb20
                  have r1 : w20.cell? ⟨W.heap.size + 1 + 1, 0, none⟩ = some (.bool false) := blk_cell r0 rfl
                  have r2 : w20.frozen? ⟨W.heap.size + 1 + 1, 0, none⟩ = false := blk_frozen r0
                  have r3 := blk_lt r0
                  have k0 : w20.cell? ⟨bk, 0, none⟩ = some (.int .i64 T.length) := blk_cell (blk_below HD.out.2.2 hb20) rfl
                  have k2 := blk_lt (blk_below HD.out.2.2 hb20)
                  have u0 : w20.cell? ⟨w11.heap.size, 0, none⟩ = some (.slice at' T.length ct) := blk_cell (blk_below HD.out.2.1.t0 hb20) rfl
                  have u1 := blk_lt (blk_below HD.out.2.1.t0 hb20)
                  have HE : Hid (Mk V1.heap.size (w20.setCell ⟨W.heap.size + 1 + 1, 0, none⟩ (.bool true)) V.heap.size [mark D2, mark D] ∧ (w20.setCell ⟨W.heap.size + 1 + 1, 0, none⟩ (.bool true)).heap[W.heap.size + 1 + 1]? = some (BoB true) ∧ Below W.heap.size W (w20.setCell ⟨W.heap.size + 1 + 1, 0, none⟩ (.bool true)) ∧ W.heap.size + 1 + 1 < V1.heap.size) := by
                    have hbw := HD.out.2.1.bel.trans (hb20.mono HD.out.2.1.bel.size)
                    have hl1 := HS.out.1.l0
                    refine ⟨HD.out.1.move fun k o hB hC ho => (Kp.set w20 (W.heap.size + 1 + 1) 0 (.bool true)).blk (blk_below ho hb20) (by omega), blk_set r0 0 _, hbw.setCell (by show _ ≤ W.heap.size + 1 + 1; omega) _, by omega⟩
                  clear i0 i1 i2 i3 i4 i5 i6 i7 il j0 j1 j2 j3 j4 j5 j6 j7 jl r0 hb20
                  go_wp2_with fail
                  refine Mk.leaves (B := V1.heap.size) (S := fun W2 => W2.heap[W.heap.size + 1 + 1]? = some (BoB true) ∧ Below W.heap.size W W2) ?_ ?_ HE.out.1 ⟨HE.out.2.1, HE.out.2.2.1⟩
                  · intro u A B row hs hg hr
                    have := HE.out.2.2.2
                    refine ⟨(hg.block _ (blk_lt hs.1) (fun e => by have := (hr _ e.symm).1; omega)).trans hs.1, hs.2.grown hg (Nat.le_trans hs.2.size (Nat.le_refl _)) (fun k e => by have := (hr k e).1; omega)⟩
                  · intro W2 h2
                    exact ⟨_, res4 rfl h2.1, rfl, h2.2⟩
end Go.Proofs.Ythbgipmkdcffnaa
