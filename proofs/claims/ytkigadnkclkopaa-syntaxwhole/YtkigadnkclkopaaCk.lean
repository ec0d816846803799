import Derived.Test.YtkigadnkclkopaaCj
set_option linter.unusedVariables false
set_option linter.unusedSimpArgs false
namespace Go.Proofs.Ytkigadnkclkopaa
open Go.RowKit

theorem tl_inj {a b : ByteArray} (h : a.toList = b.toList) : a = b := by
  rw [ByteArray.toList_eq, ByteArray.toList_eq] at h
  have := Array.toList_inj.1 h
  cases a; cases b; simp_all
theorem tl_eq (a b : ByteArray) : (a.toList == b.toList) = decide (a = b) := by
  by_cases e : a = b
  · subst e; simp
  · have : ¬ a.toList = b.toList := fun h => e (tl_inj h)
    simp [e, this]
theorem big_c {n : Nd} (h : nsz n ≤ 100000000) : n.c.length ≤ 100000000 := by
  obtain ⟨k, d, c⟩ := n
  have : ∀ c : List Nd, c.length ≤ nszL c := by
    intro c
    induction c with
    | nil => simp
    | cons x r ih =>
      have : 0 < nsz x := by obtain ⟨a, b, e⟩ := x; simp [nsz]
      simp only [nszL, List.length_cons]
      omega
  have := this c
  simp only [nsz] at h
  show c.length ≤ _
  omega
theorem mem_pl {c : List Nd} {x : Nd} (h : x ∈ pl c) : x ∈ c := (List.mem_filter.1 h).1
set_option maxRecDepth 100000 in
set_option maxHeartbeats 1000000 in
theorem sm_step (a b : Nd) (hba : nsz a ≤ 100000000) (hbb : nsz b ≤ 100000000) (IH : ∀ x y, x ∈ a.c → y ∈ b.c → SmC x y) : SmC a b := by
  intro va vb W p ha hb hp
  obtain ⟨ao, ca, rfl, q1, q2, q3, q4⟩ := ha
  obtain ⟨bo, cb, rfl, q1', q2', q3', q4'⟩ := hb
  have hla := big_c hba
  have hlb := big_c hbb
  obtain ⟨k, d, c⟩ := a
  obtain ⟨k2, d2, c2⟩ := b
  dsimp only [Nd.k, Nd.d, Nd.c] at *
  rw [same_mk]
  dsimp only [Nd.k, Nd.d, Nd.c]
  have b4 := below_new W (NdB k d (.slice ao c.length ca))
  have b5 := below_new (W.alloc (NdB k d (.slice ao c.length ca))) (NdB k2 d2 (.slice bo c2.length cb))
  obtain ⟨W2, eW2⟩ : ∃ W2, (W.alloc (NdB k d (.slice ao c.length ca))).alloc (NdB k2 d2 (.slice bo c2.length cb)) = W2 := ⟨_, rfl⟩
  have H2 : Hid (Below W.heap.size W W2 ∧ W2.heap[W.heap.size]? = some (NdB k d (.slice ao c.length ca)) ∧ W2.heap[W.heap.size + 1]? = some (NdB k2 d2 (.slice bo c2.length cb))) := by
    rw [← eW2]
    exact ⟨b4.trans (b5.mono b4.size), alloc_at' (new_at _ _) _, by rw [← size_al W (NdB k d (.slice ao c.length ca))]; exact new_at _ _⟩
  obtain ⟨⟨i0, i1, i2, i3, i4, i5, i6, i7⟩, il⟩ := nd_cells H2.out.2.1
  obtain ⟨⟨j0, j1, j2, j3, j4, j5, j6, j7⟩, jl⟩ := nd_cells H2.out.2.2
  have HQ : Hid (Sn W ao c ∧ Sn W bo c2 ∧ W.heap[p]? = some (.cells #[sameF p] 40 (0, 0))) := ⟨⟨q3, q4⟩, ⟨q3', q4'⟩, hp⟩
  clear q3 q4 q3' q4' b4 b5 hp
  by_cases hk : k = k2
  · subst hk
    have hkb : (k != k) = false := by simp
    simp only [if_true]
    by_cases h0 : k = 0
    · subst h0
      simp only [if_true]
      have HTk : Hid (∀ V, Calls Try.prog 18 #[ndv 0 d (.slice ao c.length ca)] V fun r w' => r = .returned (.bool true) ∧ Below V.heap.size V w') := fun V => isTok_any 0 d ao c.length ca V
      obtain ⟨b7, e7⟩ : ∃ b, (d.k == d2.k) = b := ⟨_, rfl⟩
      clear IH
      cases b7 with
      | true =>
        rw [e7]
        go_enter Try.func21, Try.ntmps21
        go_wp2_with fail
        try rw [eW2]
        refine (HTk.out _).mono ?_
        rintro r w3 ⟨rfl, hb3⟩
        obtain ⟨⟨l0, l1, l2, l3, l4, l5, l6, l7⟩, ll⟩ := nd_cells (blk_below H2.out.2.1 hb3)
        obtain ⟨⟨m0, m1, m2, m3, m4, m5, m6, m7⟩, ml⟩ := nd_cells (blk_below H2.out.2.2 hb3)
        have H3 : Hid (Below W.heap.size W w3) := H2.out.1.trans (hb3.mono H2.out.1.size)
        clear hb3
        go_wp2_with fail
        go_ret
        exact ⟨by first | rfl | (simp only [Bool.true_and, Bool.false_and, tl_eq]; first | done | rfl | congr) | simp [tl_eq], H3.out⟩
      | false =>
        rw [e7]
        go_enter Try.func21, Try.ntmps21
        go_wp2_with fail
        try rw [eW2]
        refine (HTk.out _).mono ?_
        rintro r w3 ⟨rfl, hb3⟩
        obtain ⟨⟨l0, l1, l2, l3, l4, l5, l6, l7⟩, ll⟩ := nd_cells (blk_below H2.out.2.1 hb3)
        obtain ⟨⟨m0, m1, m2, m3, m4, m5, m6, m7⟩, ml⟩ := nd_cells (blk_below H2.out.2.2 hb3)
        have H3 : Hid (Below W.heap.size W w3) := H2.out.1.trans (hb3.mono H2.out.1.size)
        clear hb3
        go_wp2_with fail
        go_ret
        exact ⟨by first | rfl | (simp only [Bool.true_and, Bool.false_and, tl_eq]; first | done | rfl | congr) | simp [tl_eq], H3.out⟩
    · simp only [h0, if_false]
      have h0b : (k == 0) = false := by simpa using h0
      have HTk : Hid (∀ V, Calls Try.prog 18 #[ndv k d (.slice ao c.length ca)] V fun r w' => r = .returned (.bool false) ∧ Below V.heap.size V w') := fun V => by have := isTok_any k d ao c.length ca V; rw [h0b] at this; exact this
      obtain ⟨R, hR⟩ : ∃ R, eqF (pl c) (pl c2) = R := ⟨_, rfl⟩
      have HIH := show Hid _ from IH
      have HW : Hid (∀ V ao' cap' c', Below W.heap.size W V → (ao' = ao ∧ cap' = ca ∧ c' = c ∨ ao' = bo ∧ cap' = cb ∧ c' = c2) → Calls Try.prog 23 #[.slice ao' c'.length cap'] V fun r w' => ∃ ao2 cap2, r = .returned (.slice ao2 (pl c').length cap2) ∧ (SN w' (.slice ao2 (pl c').length cap2) (pl c')) ∧ Below V.heap.size V w') := fun V ao' cap' c' hb hc => by
        rcases hc with ⟨rfl, rfl, rfl⟩ | ⟨rfl, rfl, rfl⟩
        · refine (without_any _ _ _ V (HQ.out.1.below hb) q1 q2 (by omega)).mono ?_
          rintro r w' ⟨v, rfl, hs, hb'⟩
          obtain ⟨a2, c2, e, h⟩ := hs
          exact ⟨a2, c2, by rw [e], ⟨a2, c2, rfl, h⟩, hb'⟩
        · refine (without_any _ _ _ V (HQ.out.2.1.below hb) q1' q2' (by omega)).mono ?_
          rintro r w' ⟨v, rfl, hs, hb'⟩
          obtain ⟨a2, c2, e, h⟩ := hs
          exact ⟨a2, c2, by rw [e], ⟨a2, c2, rfl, h⟩, hb'⟩
      have HE : Hid (∀ V a1 c1 a2 c3, Below W.heap.size W V → SN V (.slice a1 (pl c).length c1) (pl c) → SN V (.slice a2 (pl c2).length c3) (pl c2) → Calls Try.prog 22 #[.slice a1 (pl c).length c1, .slice a2 (pl c2).length c3, sameF p] V fun r w' => r = .returned (.bool R) ∧ Below V.heap.size V w') := fun V a1 c1 a2 c3 hb h1 h2 => by
        obtain ⟨_, _, e1, r1, r2, r3⟩ := h1
        obtain ⟨_, _, e2, s1, s2, s3⟩ := h2
        simp only [Value.slice.injEq, true_and] at e1 e2
        obtain ⟨rfl, rfl⟩ := e1
        obtain ⟨rfl, rfl⟩ := e2
        have := equal_any (pl c) (pl c2) a1 a2 c1 c3 p V r3 s3 r1 r2 s1 s2 (blk_below HQ.out.2.2 hb) (fun x y hx hy => HIH.out x y (mem_pl hx) (mem_pl hy))
        rw [hR] at this
        exact this
      rw [hR]
      clear IH hR
      have HK : Hid (∀ V, Below W2.heap.size W2 V → V.cell? ⟨W.heap.size, 7, none⟩ = some (.slice ao c.length ca) ∧ V.cell? ⟨W.heap.size + 1, 7, none⟩ = some (.slice bo c2.length cb) ∧ V.cell? ⟨p, 0, none⟩ = some (sameF p) ∧ Below W2.heap.size W2 V) := fun V hb => ⟨(nd_cells (blk_below H2.out.2.1 hb)).1.2.2.2.2.2.2.2, (nd_cells (blk_below H2.out.2.2 hb)).1.2.2.2.2.2.2.2, blk_cell (blk_below (blk_below HQ.out.2.2 H2.out.1) hb) rfl, hb⟩
      have hpl : p < W2.heap.size := Nat.lt_of_lt_of_le (blk_lt HQ.out.2.2) H2.out.1.size
      go_enter Try.func21, Try.ntmps21
      go_wp2_with fail
      try rw [eW2]
      clear eW2
      refine (HTk.out _).mono ?_
      rintro r w3 ⟨rfl, hb3⟩
      have H3 : Hid (Below W2.heap.size W2 w3) := hb3
      have HKK : Hid (∀ V, Below w3.heap.size w3 V → V.cell? ⟨W.heap.size, 7, none⟩ = some (.slice ao c.length ca) ∧ V.cell? ⟨W.heap.size + 1, 7, none⟩ = some (.slice bo c2.length cb) ∧ V.cell? ⟨p, 0, none⟩ = some (sameF p) ∧ Below w3.heap.size w3 V) := fun V hb => by
        obtain ⟨a1, a2, a3, _⟩ := HK.out V (H3.out.trans (hb.mono H3.out.size))
        exact ⟨a1, a2, a3, hb⟩
      have H3W : Hid (∀ V, Below w3.heap.size w3 V → Below W.heap.size W V) := fun V hb => H2.out.1.trans ((H3.out.trans (hb.mono H3.out.size)).mono H2.out.1.size)
      obtain ⟨l1, l2, l3, _⟩ := HKK.out w3 (Below.refl _ _)
      have wl : W.heap.size + 1 < w3.heap.size := World.block_lt_of_cell? _ _ l2
      have wp : p < w3.heap.size := World.block_lt_of_cell? _ _ l3
      clear hb3 i0 i1 i2 i3 i4 i5 i6 i7 j0 j1 j2 j3 j4 j5 j6 j7 il jl
      go_wp2_with fail
      go_region_held3 (fun w' => w'.cell? ⟨W.heap.size, 7, none⟩ = some (.slice ao c.length ca) ∧ w'.cell? ⟨W.heap.size + 1, 7, none⟩ = some (.slice bo c2.length cb) ∧ w'.cell? ⟨p, 0, none⟩ = some (sameF p) ∧ Below w3.heap.size w3 w') (first | (exact HKK.out _ (by assumption)) | (exact HKK.out _ (Below.refl _ _)) | (exact HKK.out _ (Below.refl _ _).drew) | go_keep) (first | (have hgd := hs1; clear hgd; go_at_call 23; refine (HW.out _ _ _ _ (H3W.out _ hB1) (by first | exact .inl ⟨rfl, rfl, rfl⟩ | exact .inr ⟨rfl, rfl, rfl⟩)).mono ?_; rintro r w5 ⟨a5, c5, rfl, hs2, hb5⟩; have hB2 : Below w3.heap.size w3 w5 := hB1.trans (hb5.mono hB1.size); replace hs1 := hs1.below hb5) | (go_at_call 23; refine (HW.out _ _ _ _ (H3W.out _ (Below.refl _ _).drew) (by first | exact .inl ⟨rfl, rfl, rfl⟩ | exact .inr ⟨rfl, rfl, rfl⟩)).mono ?_; rintro r w4 ⟨a4, c4, rfl, hs1, hb4⟩; have hB1 : Below w3.heap.size w3 w4 := (Below.refl w3.heap.size w3).drew.trans (hb4.mono (Nat.le_refl _))) | (go_at_call 22; refine (HE.out _ _ _ _ _ (H3W.out _ hB2) (by assumption) (by assumption)).mono ?_; rintro r w6 ⟨rfl, hb6⟩; have hB3 : Below w3.heap.size w3 w6 := hB2.trans (hb6.mono hB2.size)))
      all_goals (
        go_wp2_with fail
        go_ret
        exact ⟨rfl, H3W.out _ hB3⟩)
  · have hkb : (k != k2) = true := by simpa using hk
    simp only [hk, if_false]
    clear IH
    go_enter Try.func21, Try.ntmps21
    go_wp2_with fail
    try rw [eW2]
    go_ret
    exact ⟨rfl, H2.out.1⟩

theorem sm_any (a b : Nd) (ha : nsz a ≤ 100000000) (hb : nsz b ≤ 100000000) : SmC a b := by
  obtain ⟨s, hs⟩ : ∃ s, nsz a = s := ⟨_, rfl⟩
  induction s using Nat.strongRecOn generalizing a b with
  | ind s ih => exact sm_step a b ha hb (fun x y hx hy => ih (nsz x) (by rw [← hs]; exact nsz_kid hx) x y (by have := nsz_kid hx; omega) (by have := nsz_kid hy; omega) rfl)
theorem same_start (W : World) (o o2 : Obj) : (((W.alloc o).alloc o2).alloc (.cells #[sameF (W.heap.size + 1 + 1)] 40)).heap[W.heap.size + 1 + 1]? = some (.cells #[sameF (W.heap.size + 1 + 1)] 40 (0, 0)) := by
  rw [← size_al W o, ← size_al (W.alloc o) o2]
  exact new_at _ _
theorem below3 (W : World) (o o2 o3 : Obj) : Below W.heap.size W (((W.alloc o).alloc o2).alloc o3) := by
  have b1 := below_new W o
  have b2 := below_new (W.alloc o) o2
  have b3 := below_new ((W.alloc o).alloc o2) o3
  exact (b1.trans (b2.mono b1.size)).trans (b3.mono (by rw [size_al, size_al]; omega))
set_option maxRecDepth 100000 in
/-- The code's Same. -/
theorem same_any (a b : Nd) (va vb : Value) (W : World) (ha : Nv W va a) (hb : Nv W vb b) (hsa : nsz a ≤ 100000000) (hsb : nsz b ≤ 100000000) : Calls Try.prog 9 #[va, vb] W fun r w' => r = .returned (.bool (same a b)) ∧ Below W.heap.size W w' := by
  have hmf : ∀ (fn : Fn) (first cap : Array Value) (w : World), (Instr.makeFunc fn first cap).run Try.prog w = .ok (.func fn first cap) w := fun _ _ _ _ => rfl
  have HL : Hid (∀ V, Below W.heap.size W V → V.heap[W.heap.size + 1 + 1]? = some (.cells #[sameF (W.heap.size + 1 + 1)] 40 (0, 0)) → Calls Try.prog 21 #[va, vb, .pointer (some ⟨W.heap.size + 1 + 1, 0, none⟩)] V fun r w' => r = .returned (.bool (same a b)) ∧ Below W.heap.size W w') := fun V hV hp => by
    refine (sm_any a b hsa hsb va vb V _ (ha.below hV) (hb.below hV) hp).mono ?_
    rintro r w' ⟨rfl, h1⟩
    exact ⟨rfl, hV.trans (h1.mono hV.size)⟩
  obtain ⟨ao, cap, rfl, _⟩ := ha
  obtain ⟨bo, cap', rfl, _⟩ := hb
  go_enter Try.func9, Try.ntmps9
  go_wp2_with fail
  refine (HL.out _ (below3 _ _ _ _) (same_start _ _ _)).mono ?_
  rintro r w1 ⟨rfl, h1⟩
  have H1 := show Hid _ from h1
  clear h1 HL
  go_wp2_with fail
  go_ret
  exact ⟨rfl, H1.out⟩

end Go.Proofs.Ytkigadnkclkopaa
