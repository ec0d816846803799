import Derived.Test.YthbgipmkdcffnaaDa
set_option linter.unusedVariables false
set_option linter.unusedSimpArgs false
namespace Go.Proofs.Ythbgipmkdcffnaa
open Go.RowKit

/-! TreeSame. -/
set_option maxRecDepth 100000 in
set_option maxHeartbeats 1000000 in
theorem tsame_walk (a : Nd) (va : Value) (b : Nd) (vb : Value) (W : World) (ha : Nv W va a) (hb : Nv W vb b) : Calls Try.prog 5 #[va, vb] W fun r w' => r = .returned (.bool true) ∧ Below W.heap.size W w' := by
  have HNa : Hid (∀ V, Below W.heap.size W V → Nv V va a) := fun V h => ha.below h
  have HNb : Hid (∀ V, Below W.heap.size W V → Nv V vb b) := fun V h => hb.below h
  obtain ⟨ao, ca, rfl, _⟩ := ha
  obtain ⟨bo, cb, rfl, _⟩ := hb
  have hwa := wgt_le a 0 0 (by omega)
  have hwb := wgt_le b 0 0 (by omega)
  have HWa : Hid (∀ V, Below W.heap.size W V → Calls Try.prog 14 #[ndv a.k a.d (.slice ao a.c.length ca), .int .i64 0, .int .i64 0] V fun r w' => r = .returned (.int .i64 (wgt a 0 0 : Nat)) ∧ Below V.heap.size V w') := fun V hb => weight_any a _ V 0 0 (HNa.out V hb) (by omega) (by omega)
  have HWb : Hid (∀ V, Below W.heap.size W V → Calls Try.prog 14 #[ndv b.k b.d (.slice bo b.c.length cb), .int .i64 0, .int .i64 0] V fun r w' => r = .returned (.int .i64 (wgt b 0 0 : Nat)) ∧ Below V.heap.size V w') := fun V hb => weight_any b _ V 0 0 (HNb.out V hb) (by omega) (by omega)
  have HCp : Hid ((nsz a ≤ 100000000 → CpC a ∧ KeC a) ∧ (nsz b ≤ 100000000 → CpC b ∧ KeC b)) := ⟨fun h => ⟨copied_any a h, kept_any a h⟩, fun h => ⟨copied_any b h, kept_any b h⟩⟩
  have HAw : Hid (∀ V, Calls Try.prog 8 #[] V fun r w' => r = .returned (.bool true) ∧ Below V.heap.size V w') := awake_any
  obtain ⟨ak, ad, alc, e1, e2, e3⟩ : ∃ k d l, a.k = k ∧ a.d = d ∧ a.c.length = l := ⟨_, _, _, rfl, rfl, rfl⟩
  obtain ⟨bk, bd, blc, e4, e5, e6⟩ : ∃ k d l, b.k = k ∧ b.d = d ∧ b.c.length = l := ⟨_, _, _, rfl, rfl, rfl⟩
  have HKC : Hid ((∀ V, nsz a ≤ 100000000 → Below W.heap.size W V → Calls Try.prog 15 #[ndv ak ad (.slice ao alc ca)] V fun r w' => ∃ sv, r = .returned (ndv ak ad sv) ∧ CN (fun q => V.heap.size ≤ q) w' a sv ∧ Nv w' (ndv ak ad sv) a ∧ Below V.heap.size V w') ∧ (∀ V, nsz b ≤ 100000000 → Below W.heap.size W V → Calls Try.prog 15 #[ndv bk bd (.slice bo blc cb)] V fun r w' => ∃ sv, r = .returned (ndv bk bd sv) ∧ CN (fun q => V.heap.size ≤ q) w' b sv ∧ Nv w' (ndv bk bd sv) b ∧ Below V.heap.size V w')) := by
    subst e1 e2 e3 e4 e5 e6
    refine ⟨fun V h hb => ((HCp.out.1 h).1 _ V (HNa.out V hb)).mono ?_, fun V h hb => ((HCp.out.2 h).1 _ V (HNb.out V hb)).mono ?_⟩
    · rintro r w' ⟨sv, rfl, h1, h2⟩
      exact ⟨sv, rfl, h1, CN.see _ _ h1, h2⟩
    · rintro r w' ⟨sv, rfl, h1, h2⟩
      exact ⟨sv, rfl, h1, CN.see _ _ h1, h2⟩
  have HKK : Hid ((∀ V sv O, nsz a ≤ 100000000 → Below W.heap.size W V → CN O V a sv → Calls Try.prog 22 #[ndv ak ad sv, ndv ak ad (.slice ao alc ca)] V fun r w' => r = .returned (.bool true) ∧ Below V.heap.size V w') ∧ (∀ V sv O, nsz b ≤ 100000000 → Below W.heap.size W V → CN O V b sv → Calls Try.prog 22 #[ndv bk bd sv, ndv bk bd (.slice bo blc cb)] V fun r w' => r = .returned (.bool true) ∧ Below V.heap.size V w')) := by
    subst e1 e2 e3 e4 e5 e6
    exact ⟨fun V sv O h hb hc => (HCp.out.1 h).2 _ _ V O hc (HNa.out V hb), fun V sv O h hb hc => (HCp.out.2 h).2 _ _ V O hc (HNb.out V hb)⟩
  rw [e1, e2, e3] at HWa HNa ⊢
  rw [e4, e5, e6] at HWb HNb ⊢
  clear e1 e2 e3 e4 e5 e6 HCp
  obtain ⟨W2, eW2⟩ : ∃ W2, (W.alloc (NdB ak ad (.slice ao alc ca))).alloc (NdB bk bd (.slice bo blc cb)) = W2 := ⟨_, rfl⟩
  have b4 := below_new W (NdB ak ad (.slice ao alc ca))
  have b5 := below_new (W.alloc (NdB ak ad (.slice ao alc ca))) (NdB bk bd (.slice bo blc cb))
  have H2 : Hid (∀ V, Below W2.heap.size W2 V → Below W.heap.size W V ∧ V.heap[W.heap.size]? = some (NdB ak ad (.slice ao alc ca)) ∧ V.heap[W.heap.size + 1]? = some (NdB bk bd (.slice bo blc cb))) := fun V hb => by
    have h1 : Below W.heap.size W W2 := by rw [← eW2]; exact b4.trans (b5.mono b4.size)
    have h2 : W2.heap[W.heap.size]? = some (NdB ak ad (.slice ao alc ca)) := by rw [← eW2]; exact alloc_at' (new_at _ _) _
    have h3 : W2.heap[W.heap.size + 1]? = some (NdB bk bd (.slice bo blc cb)) := by rw [← eW2, ← size_al W (NdB ak ad (.slice ao alc ca))]; exact new_at _ _
    exact ⟨h1.trans (hb.mono h1.size), blk_below h2 hb, blk_below h3 hb⟩
  clear b4 b5
  obtain ⟨wa, hwae⟩ : ∃ wa, wgt a 0 0 = wa := ⟨_, rfl⟩
  obtain ⟨wb, hwbe⟩ : ∃ wb, wgt b 0 0 = wb := ⟨_, rfl⟩
  rw [hwae] at HWa hwa
  rw [hwbe] at HWb hwb
  have HWE : Hid (wgt a 0 0 = wa ∧ wgt b 0 0 = wb) := ⟨hwae, hwbe⟩
  clear hwae hwbe
  go_enter Try.func5, Try.ntmps5
  go_wp2_with fail
  try rw [eW2]
  clear eW2
  refine (HAw.out _).mono ?_
  rintro r w3 ⟨rfl, hb3⟩
  have H3 : Hid (Below W2.heap.size W2 w3) := hb3
  obtain ⟨_, n1, n2⟩ := H2.out w3 hb3
  obtain ⟨⟨i0, i1, i2, i3, i4, i5, i6, i7⟩, il⟩ := nd_cells n1
  clear hb3 n1 n2
  go_wp2_with fail
  refine (HWa.out _ (H2.out _ H3.out).1).mono ?_
  rintro r w4 ⟨rfl, hb4⟩
  have H4 : Hid (Below W2.heap.size W2 w4) := H3.out.trans (hb4.mono H3.out.size)
  clear hb4 i0 i1 i2 i3 i4 i5 i6 i7 il
  obtain ⟨_, n1, n2⟩ := H2.out w4 H4.out
  by_cases hba : 16777216 < wa
  · have hbI : (wa : Int) > 16777216 := by omega
    go_wp2_with fail
    go_ret
    exact ⟨rfl, (H2.out _ H4.out).1⟩
  · have hbI : ¬ ((wa : Int) > 16777216) := by omega
    obtain ⟨hs1, _⟩ := wgt_small (n := a) (by rw [HWE.out.1]; omega)
    obtain ⟨⟨i0, i1, i2, i3, i4, i5, i6, i7⟩, il⟩ := nd_cells n2
    clear n1 n2
    go_wp2_with fail
    refine (HWb.out _ (H2.out _ H4.out).1).mono ?_
    rintro r w5 ⟨rfl, hb5⟩
    have H5 : Hid (Below W2.heap.size W2 w5) := H4.out.trans (hb5.mono H4.out.size)
    clear hb5 i0 i1 i2 i3 i4 i5 i6 i7 il
    by_cases hbb : 16777216 < wb
    · have hbbI : (wb : Int) > 16777216 := by omega
      go_wp2_with fail
      go_ret
      exact ⟨rfl, (H2.out _ H5.out).1⟩
    · have hbbI : ¬ ((wb : Int) > 16777216) := by omega
      obtain ⟨hs2, _⟩ := wgt_small (n := b) (by rw [HWE.out.2]; omega)
      have hsa : nsz a ≤ 100000000 := by omega
      have hsb : nsz b ≤ 100000000 := by omega
      obtain ⟨_, n1, n2⟩ := H2.out w5 H5.out
      obtain ⟨⟨i0, i1, i2, i3, i4, i5, i6, i7⟩, il⟩ := nd_cells n1
      clear n1 n2
      go_wp2_with fail
      refine (HKC.out.1 _ hsa (H2.out _ H5.out).1).mono ?_
      rintro r w6 ⟨sx, rfl, hcx, hnx, hb6⟩
      obtain ⟨px, cx, hsx, _⟩ := nv_slot hnx
      obtain ⟨lx, hlx⟩ : ∃ lx, a.c.length = lx := ⟨_, rfl⟩
      rw [hlx] at hsx
      clear hlx
      subst hsx
      obtain ⟨W7, eW7⟩ : ∃ W7, w6.alloc (NdB ak ad (.slice px lx cx)) = W7 := ⟨_, rfl⟩
      have H7 : Hid (∀ V, Below W7.heap.size W7 V → Below W2.heap.size W2 V ∧ V.heap[w6.heap.size]? = some (NdB ak ad (.slice px lx cx)) ∧ CN (fun q => w5.heap.size ≤ q) V a (.slice px lx cx) ∧ Nv V (ndv ak ad (.slice px lx cx)) a) := fun V hb => by
        have hn := below_new w6 (NdB ak ad (.slice px lx cx))
        rw [eW7] at hn
        have h1 := H5.out.trans (hb6.mono H5.out.size)
        have h2 := h1.trans (hn.mono h1.size)
        have h3 := hn.trans (hb.mono hn.size)
        exact ⟨h2.trans (hb.mono h2.size), blk_below (by rw [← eW7]; exact new_at _ _) hb, hcx.below h3, hnx.below h3⟩
      clear hcx hnx hb6 i0 i1 i2 i3 i4 i5 i6 i7 il
      go_upto_region 5 with fail
      try rw [eW7]
      clear eW7
      obtain ⟨k7, m1, m2, m3⟩ := H7.out W7 (Below.refl _ _)
      obtain ⟨kW7, n1, n2⟩ := H2.out W7 k7
      have K7 : Hid (Below W2.heap.size W2 W7 ∧ Below W.heap.size W W7) := ⟨k7, kW7⟩
      obtain ⟨⟨i0, i1, i2, i3, i4, i5, i6, i7⟩, il⟩ := nd_cells n2
      clear n1 n2 m1 m2 m3 k7 kW7
      go_wp2_with fail
      refine (HKC.out.2 _ hsb K7.out.2).mono ?_
      rintro r w8 ⟨sy, rfl, hcy, hny, hb8⟩
      obtain ⟨py, cy, hsy, _⟩ := nv_slot hny
      obtain ⟨ly, hly⟩ : ∃ ly, b.c.length = ly := ⟨_, rfl⟩
      rw [hly] at hsy
      clear hly
      subst hsy
      obtain ⟨W9, eW9⟩ : ∃ W9, w8.alloc (NdB bk bd (.slice py ly cy)) = W9 := ⟨_, rfl⟩
      have H9 : Hid (∀ V, Below W9.heap.size W9 V → (Below W.heap.size W V ∧ V.heap[W.heap.size]? = some (NdB ak ad (.slice ao alc ca)) ∧ V.heap[W.heap.size + 1]? = some (NdB bk bd (.slice bo blc cb))) ∧ (V.heap[w6.heap.size]? = some (NdB ak ad (.slice px lx cx)) ∧ V.heap[w8.heap.size]? = some (NdB bk bd (.slice py ly cy))) ∧ (CN (fun q => w5.heap.size ≤ q) V a (.slice px lx cx) ∧ Nv V (ndv ak ad (.slice px lx cx)) a) ∧ CN (fun q => W7.heap.size ≤ q) V b (.slice py ly cy) ∧ Nv V (ndv bk bd (.slice py ly cy)) b) := fun V hb => by
        have hn := below_new w8 (NdB bk bd (.slice py ly cy))
        rw [eW9] at hn
        have h2 := hb8.trans (hn.mono hb8.size)
        have h3 := h2.trans (hb.mono h2.size)
        have h4 := hn.trans (hb.mono hn.size)
        obtain ⟨g1, g2, g3, g4⟩ := H7.out V h3
        exact ⟨H2.out V g1, ⟨g2, blk_below (by rw [← eW9]; exact new_at _ _) hb⟩, ⟨g3, g4⟩, hcy.below h4, hny.below h4⟩
      clear hcy hny hb8 i0 i1 i2 i3 i4 i5 i6 i7 il
      obtain ⟨R, hR⟩ : ∃ R, same a b = R := ⟨_, rfl⟩
      have HD : Hid (∀ V, Below W9.heap.size W9 V → Calls Try.prog 23 #[ndv ak ad (.slice ao alc ca), ndv bk bd (.slice bo blc cb)] V fun r w' => r = .returned (.bool R) ∧ Below V.heap.size V w') := fun V hb => by
        obtain ⟨⟨g1, _⟩, _⟩ := H9.out V hb
        have := dm_any a b hsa hsb _ _ V (HNa.out V g1) (HNb.out V g1)
        rw [hR] at this
        exact this
      have HS1 : Hid (∀ V, Below W9.heap.size W9 V → Calls Try.prog 24 #[ndv ak ad (.slice px lx cx), ndv bk bd (.slice py ly cy)] V fun r w' => r = .returned (.bool R) ∧ Below V.heap.size V w') := fun V hb => by
        obtain ⟨_, _, ⟨_, g1⟩, _, g2⟩ := H9.out V hb
        have := same_any a b _ _ V g1 g2 hsa hsb
        rw [hR] at this
        exact this
      have HS2 : Hid (∀ V, Below W9.heap.size W9 V → Calls Try.prog 24 #[ndv bk bd (.slice py ly cy), ndv ak ad (.slice px lx cx)] V fun r w' => r = .returned (.bool R) ∧ Below V.heap.size V w') := fun V hb => by
        obtain ⟨_, _, ⟨_, g1⟩, _, g2⟩ := H9.out V hb
        have := same_any b a _ _ V g2 g1 hsb hsa
        rw [same_comm, hR] at this
        exact this
      have HS3 : Hid (∀ V, Below W9.heap.size W9 V → Calls Try.prog 24 #[ndv ak ad (.slice px lx cx), ndv ak ad (.slice px lx cx)] V fun r w' => r = .returned (.bool true) ∧ Below V.heap.size V w') := fun V hb => by
        obtain ⟨_, _, ⟨_, g1⟩, _, g2⟩ := H9.out V hb
        have := same_any a a _ _ V g1 g1 hsa hsa
        rw [same_refl] at this
        exact this
      have HK1 : Hid (∀ V, Below W9.heap.size W9 V → Calls Try.prog 22 #[ndv ak ad (.slice px lx cx), ndv ak ad (.slice ao alc ca)] V fun r w' => r = .returned (.bool true) ∧ Below V.heap.size V w') := fun V hb => by
        obtain ⟨⟨g0, _⟩, _, ⟨g1, _⟩, _⟩ := H9.out V hb
        exact HKK.out.1 V _ _ hsa g0 g1
      have HK2 : Hid (∀ V, Below W9.heap.size W9 V → Calls Try.prog 22 #[ndv bk bd (.slice py ly cy), ndv bk bd (.slice bo blc cb)] V fun r w' => r = .returned (.bool true) ∧ Below V.heap.size V w') := fun V hb => by
        obtain ⟨⟨g0, _⟩, _, _, g1, _⟩ := H9.out V hb
        exact HKK.out.2 V _ _ hsb g0 g1
      have HC : Hid (∀ V, Below W9.heap.size W9 V → ((V.cell? ⟨W.heap.size, 0, none⟩ = some (.int .u8 ak) ∧ V.cell? ⟨W.heap.size, 1, none⟩ = some (.int .u8 ad.k) ∧ V.cell? ⟨W.heap.size, 2, none⟩ = some (.string ad.t) ∧ V.cell? ⟨W.heap.size, 3, none⟩ = some (.int .i64 ad.a) ∧ V.cell? ⟨W.heap.size, 4, none⟩ = some (.int .i64 ad.l) ∧ V.cell? ⟨W.heap.size, 5, none⟩ = some (.int .i64 ad.c) ∧ V.cell? ⟨W.heap.size, 6, none⟩ = some (.int .i64 ad.f) ∧ V.cell? ⟨W.heap.size, 7, none⟩ = some (.slice ao alc ca)) ∧ W.heap.size < V.heap.size) ∧ ((V.cell? ⟨W.heap.size + 1, 0, none⟩ = some (.int .u8 bk) ∧ V.cell? ⟨W.heap.size + 1, 1, none⟩ = some (.int .u8 bd.k) ∧ V.cell? ⟨W.heap.size + 1, 2, none⟩ = some (.string bd.t) ∧ V.cell? ⟨W.heap.size + 1, 3, none⟩ = some (.int .i64 bd.a) ∧ V.cell? ⟨W.heap.size + 1, 4, none⟩ = some (.int .i64 bd.l) ∧ V.cell? ⟨W.heap.size + 1, 5, none⟩ = some (.int .i64 bd.c) ∧ V.cell? ⟨W.heap.size + 1, 6, none⟩ = some (.int .i64 bd.f) ∧ V.cell? ⟨W.heap.size + 1, 7, none⟩ = some (.slice bo blc cb)) ∧ W.heap.size + 1 < V.heap.size) ∧ ((V.cell? ⟨w6.heap.size, 0, none⟩ = some (.int .u8 ak) ∧ V.cell? ⟨w6.heap.size, 1, none⟩ = some (.int .u8 ad.k) ∧ V.cell? ⟨w6.heap.size, 2, none⟩ = some (.string ad.t) ∧ V.cell? ⟨w6.heap.size, 3, none⟩ = some (.int .i64 ad.a) ∧ V.cell? ⟨w6.heap.size, 4, none⟩ = some (.int .i64 ad.l) ∧ V.cell? ⟨w6.heap.size, 5, none⟩ = some (.int .i64 ad.c) ∧ V.cell? ⟨w6.heap.size, 6, none⟩ = some (.int .i64 ad.f) ∧ V.cell? ⟨w6.heap.size, 7, none⟩ = some (.slice px lx cx)) ∧ w6.heap.size < V.heap.size) ∧ ((V.cell? ⟨w8.heap.size, 0, none⟩ = some (.int .u8 bk) ∧ V.cell? ⟨w8.heap.size, 1, none⟩ = some (.int .u8 bd.k) ∧ V.cell? ⟨w8.heap.size, 2, none⟩ = some (.string bd.t) ∧ V.cell? ⟨w8.heap.size, 3, none⟩ = some (.int .i64 bd.a) ∧ V.cell? ⟨w8.heap.size, 4, none⟩ = some (.int .i64 bd.l) ∧ V.cell? ⟨w8.heap.size, 5, none⟩ = some (.int .i64 bd.c) ∧ V.cell? ⟨w8.heap.size, 6, none⟩ = some (.int .i64 bd.f) ∧ V.cell? ⟨w8.heap.size, 7, none⟩ = some (.slice py ly cy)) ∧ w8.heap.size < V.heap.size)) := fun V hb => by
        obtain ⟨⟨_, g1, g2⟩, ⟨g3, g4⟩, _⟩ := H9.out V hb
        exact ⟨nd_cells g1, nd_cells g2, nd_cells g3, nd_cells g4⟩
      clear hR
      go_upto_region 6 with fail
      try rw [eW9]
      clear eW9
      obtain ⟨⟨⟨i0, i1, i2, i3, i4, i5, i6, i7⟩, il⟩, ⟨⟨j0, j1, j2, j3, j4, j5, j6, j7⟩, jl⟩, _⟩ := HC.out W9 (Below.refl _ _)
      go_wp2_with fail
      refine (HD.out _ (Below.refl _ _)).mono ?_
      rintro r u1 ⟨rfl, hb⟩
      have K1 : Hid (Below W9.heap.size W9 u1) := hb
      clear hb HD i0 i1 i2 i3 i4 i5 i6 i7 il j0 j1 j2 j3 j4 j5 j6 j7 jl
      obtain ⟨_, _, ⟨⟨i0, i1, i2, i3, i4, i5, i6, i7⟩, il⟩, ⟨⟨j0, j1, j2, j3, j4, j5, j6, j7⟩, jl⟩⟩ := HC.out u1 K1.out
      go_wp2_with fail
      refine (HS1.out _ K1.out).mono ?_
      rintro r u2 ⟨rfl, hb⟩
      have K2 : Hid (Below W9.heap.size W9 u2) := K1.out.trans (hb.mono K1.out.size)
      clear hb HS1 i0 i1 i2 i3 i4 i5 i6 i7 il j0 j1 j2 j3 j4 j5 j6 j7 jl
      obtain ⟨_, _, ⟨⟨i0, i1, i2, i3, i4, i5, i6, i7⟩, il⟩, ⟨⟨j0, j1, j2, j3, j4, j5, j6, j7⟩, jl⟩⟩ := HC.out u2 K2.out
      go_wp2_with fail
      refine (HS2.out _ K2.out).mono ?_
      rintro r u3 ⟨rfl, hb⟩
      have K3 : Hid (Below W9.heap.size W9 u3) := K2.out.trans (hb.mono K2.out.size)
      clear hb HS2 i0 i1 i2 i3 i4 i5 i6 i7 il j0 j1 j2 j3 j4 j5 j6 j7 jl
      obtain ⟨_, _, ⟨⟨i0, i1, i2, i3, i4, i5, i6, i7⟩, il⟩, _⟩ := HC.out u3 K3.out
      go_wp2_with fail
      refine (HS3.out _ K3.out).mono ?_
      rintro r u4 ⟨rfl, hb⟩
      have K4 : Hid (Below W9.heap.size W9 u4) := K3.out.trans (hb.mono K3.out.size)
      clear hb HS3 i0 i1 i2 i3 i4 i5 i6 i7 il
      obtain ⟨⟨⟨i0, i1, i2, i3, i4, i5, i6, i7⟩, il⟩, _, ⟨⟨j0, j1, j2, j3, j4, j5, j6, j7⟩, jl⟩, _⟩ := HC.out u4 K4.out
      go_wp2_with fail
      refine (HK1.out _ K4.out).mono ?_
      rintro r u5 ⟨rfl, hb⟩
      have K5 : Hid (Below W9.heap.size W9 u5) := K4.out.trans (hb.mono K4.out.size)
      clear hb HK1 i0 i1 i2 i3 i4 i5 i6 i7 il j0 j1 j2 j3 j4 j5 j6 j7 jl
      obtain ⟨_, ⟨⟨i0, i1, i2, i3, i4, i5, i6, i7⟩, il⟩, _, ⟨⟨j0, j1, j2, j3, j4, j5, j6, j7⟩, jl⟩⟩ := HC.out u5 K5.out
      go_wp2_with fail
      refine (HK2.out _ K5.out).mono ?_
      rintro r u6 ⟨rfl, hb⟩
      have K6 : Hid (Below W.heap.size W u6) := (H9.out u6 (K5.out.trans (hb.mono K5.out.size))).1.1
      clear hb HK2 i0 i1 i2 i3 i4 i5 i6 i7 il j0 j1 j2 j3 j4 j5 j6 j7 jl
      cases R
      · go_wp2_with fail
        go_ret
        exact ⟨rfl, K6.out⟩
      · go_wp2_with fail
        go_ret
        exact ⟨rfl, K6.out⟩

end Go.Proofs.Ythbgipmkdcffnaa
