import Derived.Test.YthbgipmkdcffnaaLf3
set_option linter.unusedVariables false
set_option linter.unusedSimpArgs false
namespace Go.Proofs.Ythbgipmkdcffnaa
open Go.RowKit

/-! The document's Same. -/
set_option maxRecDepth 100000 in
set_option maxHeartbeats 1000000 in
theorem plain_any (c : List Nd) (ao : Option Addr) (cap : Nat) (W : World) (h : Sn W ao c) (h1 : c.length ≤ cap) (h2 : cap ≤ maxLen) (hl : c.length ≤ 1000000000) : Calls Try.prog 35 #[.slice ao c.length cap] W fun r w' => ∃ v, r = .returned v ∧ SN w' v (pl c) ∧ Below W.heap.size W w' := by
  have HQ : Hid (Sn W ao c) := h
  have hcl : (c.length : Int) ≤ 1000000000 := by omega
  clear h
  go_enter Try.func35, Try.ntmps35
  go_wp2_with fail
  go_loopw [3, 4] (fun lv iv wr => ∃ (j : Nat) (vs : List Value), j ≤ c.length ∧ iv = .int .i64 j ∧ Hid (NR W lv (pl (c.take j)) vs wr)) (fun _ iv _ => c.length - (intOf iv).toNat)
  case atStart => exact ⟨0, [], Nat.zero_le _, rfl, ⟨Below.refl _ _, rn_nil _, (fun k e => by cases e), fun j n hj => by simp [pl] at hj⟩⟩
  case round =>
    obtain ⟨j, vs, hj, rfl, HJ⟩ := hrel
    obtain ⟨pv, cv, hv, _⟩ := HJ.out.rn.shape
    obtain ⟨nl, hnl⟩ : ∃ nl, (pl (c.take j)).length = nl := ⟨_, rfl⟩
    rw [hnl] at hv
    subst hv
    by_cases hlt : j < c.length
    · have z1 : (j : Int) < c.length := by omega
      have z2 : (0 : Int) ≤ j := by omega
      obtain ⟨m, hm⟩ : ∃ m, c[j]? = some m := ⟨_, List.getElem?_eq_getElem hlt⟩
      obtain ⟨b, o, rfl, hbl, ao2, cap2, ⟨v0, v1, v2, v3, v4, v5, v6, v7⟩, hv⟩ := kid0 HQ.out HJ.out.bel hm
      have ht := pl_take hm
      have hll : (pl (c.take j)).length ≤ 1000000000 := by have := pl_le c j; omega
      have HLL := show Hid _ from hll
      have HKf : Hid (∀ V, Calls Try.prog 40 #[.agg #[.int .u8 m.d.k, .string m.d.t, .int .i64 m.d.a, .int .i64 m.d.l, .int .i64 m.d.c, .int .i64 m.d.f]] V fun r w' => r = .returned (.bool (cm m.d)) ∧ Below V.heap.size V w') := fun V => rcomment_any m.d V
      have HV := show Hid _ from hv
      have hisN : isN m = (m.k == 0 && cm m.d) := rfl
      clear hv hm hll hnl
      go_upto_region 5 with fail
      go_cut [5] from 12 to 25 (fun t wx => t = .bool (isN m) ∧ Hid (Below wr.heap.size wr wx))
      case first =>
        cases hk0 : (m.k == 0) with
        | false =>
          rw [hk0] at hisN
          have HN : Hid (isN m = false) := by unfold Hid; rw [hisN]; rfl
          clear hisN
          go_wp2_with fail
          go_meet
          exact ⟨by rw [HN.out], Below.refl _ _⟩
        | true =>
          rw [hk0] at hisN
          have HN : Hid (cm m.d = isN m) := by unfold Hid; rw [hisN]; rfl
          clear hisN
          go_wp2_with (go_at_call 40; refine (HKf.out _).mono ?_; rintro r w6 ⟨rfl, hb6⟩; have H6 : Hid (Below wr.heap.size wr w6) := hb6; clear hb6)
          go_meet
          exact ⟨by rw [← HN.out], H6⟩
      case rest =>
        obtain ⟨rfl, H5⟩ := hcut
        have tr : ∀ i u, wr.cell? ⟨b, i, none⟩ = some u → wc.cell? ⟨b, i, none⟩ = some u := fun i u hu => (H5.out.cell (World.block_lt_of_cell? _ _ hu)).trans hu
        have hblc : b < wc.heap.size := Nat.lt_of_lt_of_le hbl H5.out.size
        replace v0 := tr _ _ v0
        replace v1 := tr _ _ v1
        replace v2 := tr _ _ v2
        replace v3 := tr _ _ v3
        replace v4 := tr _ _ v4
        replace v5 := tr _ _ v5
        replace v6 := tr _ _ v6
        replace v7 := tr _ _ v7
        clear tr
        have H7 : Hid (NR W (.slice pv nl cv) (pl (c.take j)) vs wc) := HJ.out.below H5.out
        cases hn : isN m with
        | true =>
          rw [hn] at ht
          simp only [if_true] at ht
          have HT : Hid (pl (c.take (j + 1)) = pl (c.take j)) := ht
          clear ht hn hisN
          go_wp2_with fail
          exact ⟨⟨j + 1, vs, hlt, by go_num, by rw [HT.out]; exact H7⟩, by simp [intOf]; omega⟩
        | false =>
          rw [hn] at ht
          simp only [Bool.false_eq_true, if_false] at ht
          have HT : Hid (pl (c.take (j + 1)) = pl (c.take j) ++ [m]) := ht
          clear ht hn hisN
          go_wp2_with (at_builtin; refine app_nd (by rfl) _ _ (by rfl) (.slice pv nl cv) (pl (c.take j)) vs m ao2 m.c.length cap2 (by rfl) (H7.out.below (below_new _ _)).rn wc.heap.size 1 (by rfl) (new_at _ _) HLL.out ?_; intro v8 w8 h1 h2 h3; obtain ⟨p8, c8, hv8, _⟩ := h1.shape; obtain ⟨l8, hl8⟩ : ∃ l8, (pl (c.take j) ++ [m]).length = l8 := ⟨_, rfl⟩; rw [hl8] at hv8; subst hv8; have H8 : Hid (NR W (.slice p8 l8 c8) (pl (c.take j) ++ [m]) (vs ++ [.slice ao2 m.c.length cap2]) w8) := H7.out.push (below_new _ _) h1 h2 h3 HV.out; clear h1 h2 h3 hl8)
          exact ⟨⟨j + 1, _, hlt, by go_num, by rw [HT.out]; exact H8⟩, by simp [intOf]; omega⟩
    · obtain rfl : j = c.length := by omega
      have z1 : ¬ ((c.length : Int) < c.length) := by omega
      rw [List.take_length] at HJ
      clear hnl
      go_wp2_with fail
      go_ret
      exact ⟨_, rfl, HJ.out.sn, HJ.out.bel⟩

def DmC (a b : Nd) : Prop := ∀ va vb W, Nv W va a → Nv W vb b → Calls Try.prog 23 #[va, vb] W fun r w' => r = .returned (.bool (same a b)) ∧ Below W.heap.size W w'
set_option maxRecDepth 100000 in
set_option maxHeartbeats 1000000 in
theorem dm_step (a b : Nd) (hba : nsz a ≤ 100000000) (hbb : nsz b ≤ 100000000) (IH : ∀ x y, x ∈ a.c → y ∈ b.c → DmC x y) : DmC a b := by
  intro va vb W ha hb
  obtain ⟨ao, ca, rfl, q1, q2, q3, q4⟩ := ha
  obtain ⟨bo, cb, rfl, q1', q2', q3', q4'⟩ := hb
  have hla := big_c hba
  have hlb := big_c hbb
  obtain ⟨k, d, c⟩ := a
  obtain ⟨k2, d2, c2⟩ := b
  dsimp only [Nd.k, Nd.d, Nd.c] at *
  rw [same_mk]
  dsimp only [Nd.k, Nd.d, Nd.c]
  have b4 := below_new W (NdB k d (.slice ao c.length ca))
  have b5 := below_new (W.alloc (NdB k d (.slice ao c.length ca))) (NdB k2 d2 (.slice bo c2.length cb))
  obtain ⟨W2, eW2⟩ : ∃ W2, (W.alloc (NdB k d (.slice ao c.length ca))).alloc (NdB k2 d2 (.slice bo c2.length cb)) = W2 := ⟨_, rfl⟩
  have H2 : Hid (Below W.heap.size W W2 ∧ W2.heap[W.heap.size]? = some (NdB k d (.slice ao c.length ca)) ∧ W2.heap[W.heap.size + 1]? = some (NdB k2 d2 (.slice bo c2.length cb))) := by
    rw [← eW2]
    exact ⟨b4.trans (b5.mono b4.size), alloc_at' (new_at _ _) _, by rw [← size_al W (NdB k d (.slice ao c.length ca))]; exact new_at _ _⟩
  obtain ⟨⟨i0, i1, i2, i3, i4, i5, i6, i7⟩, il⟩ := nd_cells H2.out.2.1
  obtain ⟨⟨j0, j1, j2, j3, j4, j5, j6, j7⟩, jl⟩ := nd_cells H2.out.2.2
  have HQ : Hid (Sn W ao c ∧ Sn W bo c2) := ⟨⟨q3, q4⟩, ⟨q3', q4'⟩⟩
  clear q3 q4 q3' q4' b4 b5
  by_cases hk : k = k2
  · subst hk
    have hkb : (k != k) = false := by simp
    simp only [if_true]
    by_cases h0 : k = 0
    · subst h0
      simp only [if_true]
      obtain ⟨b7, e7⟩ : ∃ b, (d.k == d2.k) = b := ⟨_, rfl⟩
      clear IH
      cases b7 with
      | true =>
        rw [e7]
        go_enter Try.func23, Try.ntmps23
        go_wp2_with fail
        try rw [eW2]
        go_ret
        exact ⟨by first | rfl | (simp only [Bool.true_and, Bool.false_and, tl_eq]; first | done | rfl | congr) | simp [tl_eq], H2.out.1⟩
      | false =>
        rw [e7]
        go_enter Try.func23, Try.ntmps23
        go_wp2_with fail
        try rw [eW2]
        go_ret
        exact ⟨by first | rfl | (simp only [Bool.true_and, Bool.false_and, tl_eq]; first | done | rfl | congr) | simp [tl_eq], H2.out.1⟩
    · simp only [h0, if_false]
      have h0b : (k == 0) = false := by simpa using h0
      obtain ⟨R, hR⟩ : ∃ R, eqF (pl c) (pl c2) = R := ⟨_, rfl⟩
      have HIH := show Hid _ from IH
      have HW1 : Hid (∀ V, Below W.heap.size W V → Calls Try.prog 35 #[.slice ao c.length ca] V fun r w' => ∃ v, r = .returned v ∧ SN w' v (pl c) ∧ Below V.heap.size V w') := fun V hb => plain_any c ao ca V (HQ.out.1.below hb) q1 q2 (by omega)
      have HW2 : Hid (∀ V, Below W.heap.size W V → Calls Try.prog 35 #[.slice bo c2.length cb] V fun r w' => ∃ v, r = .returned v ∧ SN w' v (pl c2) ∧ Below V.heap.size V w') := fun V hb => plain_any c2 bo cb V (HQ.out.2.below hb) q1' q2' (by omega)
      have hlp : (pl c).length ≤ 100000000 := by have := pl_le c c.length; rw [List.take_length] at this; omega
      have hlpI : ((pl c).length : Int) ≤ 100000000 := by omega
      rw [hR]
      have HR : Hid (eqF (pl c) (pl c2) = R) := hR
      clear IH hR
      go_enter Try.func23, Try.ntmps23
      go_wp2_with fail
      try rw [eW2]
      clear eW2
      refine (HW1.out _ H2.out.1).mono ?_
      rintro r w3 ⟨v3, rfl, hs3, hb3⟩
      obtain ⟨a3, c3, rfl, s31, s32, s33⟩ := hs3
      have H3 : Hid (Below W.heap.size W w3 ∧ w3.heap[W.heap.size + 1]? = some (NdB k d2 (.slice bo c2.length cb)) ∧ Sn w3 a3 (pl c)) := ⟨H2.out.1.trans (hb3.mono H2.out.1.size), blk_below H2.out.2.2 hb3, s33⟩
      obtain ⟨⟨l0, l1, l2, l3, l4, l5, l6, l7⟩, ll⟩ := nd_cells H3.out.2.1
      clear hb3 s33 i0 i1 i2 i3 i4 i5 i6 i7 il j0 j1 j2 j3 j4 j5 j6 j7 jl
      go_wp2_with fail
      refine (HW2.out _ H3.out.1).mono ?_
      rintro r w4 ⟨v4, rfl, hs4, hb4⟩
      obtain ⟨a4, c4, rfl, s41, s42, s43⟩ := hs4
      have H4 : Hid (Below W.heap.size W w4 ∧ Sn w4 a3 (pl c) ∧ Sn w4 a4 (pl c2)) := ⟨H3.out.1.trans (hb4.mono H3.out.1.size), H3.out.2.2.below hb4, s43⟩
      clear hb4 s43 l0 l1 l2 l3 l4 l5 l6 l7 ll
      by_cases hlen : (pl c).length = (pl c2).length
      · have hlI : ((pl c).length : Int) = ((pl c2).length : Int) := by omega
        have hlb1 : (((pl c).length : Int) == ((pl c2).length : Int)) = true := by simpa using hlI
        have hlb2 : (((pl c).length : Int) != ((pl c2).length : Int)) = false := by simpa using hlI
        have HL : Hid ((pl c).length = (pl c2).length) := hlen
        have HR0 : Hid (eqF ((pl c).drop 0) ((pl c2).drop 0) = R) := by unfold Hid; simpa using HR.out
        obtain ⟨A, hA⟩ : ∃ A, pl c = A := ⟨_, rfl⟩
        obtain ⟨B, hB⟩ : ∃ B, pl c2 = B := ⟨_, rfl⟩
        have HIH2 : Hid (∀ x y, x ∈ A → y ∈ B → DmC x y) := fun x y hx hy => HIH.out x y (mem_pl (by rw [hA]; exact hx)) (mem_pl (by rw [hB]; exact hy))
        rw [hA] at hlpI hlI hlb1 hlb2 HL HR0 H4 ⊢
        rw [hB] at hlI hlb1 hlb2 HL HR0 H4 ⊢
        clear hlen hA hB HR H3 HW1 HW2 s31 s32 s41 s42 hlp HIH
        go_wp2_with fail
        go_loopw [7] (fun iv wr => ∃ j : Nat, j ≤ A.length ∧ iv = .int .i64 j ∧ Hid (eqF (A.drop j) (B.drop j) = R ∧ Below w4.heap.size w4 wr)) (fun iv _ => A.length - (intOf iv).toNat)
        case atStart => exact ⟨0, Nat.zero_le _, rfl, HR0.out, Below.refl _ _⟩
        case round =>
          obtain ⟨j, hj, rfl, HJ⟩ := hrel
          by_cases hlt : j < A.length
          · have z1 : (j : Int) < A.length := by omega
            have z1b : (j : Int) < B.length := by omega
            have z2 : (0 : Int) ≤ j := by omega
            obtain ⟨x, hx⟩ : ∃ x, A[j]? = some x := ⟨_, List.getElem?_eq_getElem hlt⟩
            obtain ⟨y, hy⟩ : ∃ y, B[j]? = some y := ⟨_, List.getElem?_eq_getElem (by have := HL.out; omega)⟩
            obtain ⟨b1, o1, rfl, hbl, ao2, cap2, ⟨v0, v1, v2, v3, v4, v5, v6, v7⟩, hv⟩ := Nv.kid H4.out.2.1 HJ.out.2 hx
            obtain ⟨b2, o2, rfl, hbl2, ao3, cap3, ⟨u0, u1, u2, u3, u4, u5, u6, u7⟩, hu⟩ := Nv.kid H4.out.2.2 HJ.out.2 hy
            have hst := eqF_step hx hy
            rw [HJ.out.1] at hst
            have HST := show Hid _ from hst
            have HC : Hid (∀ V, Below wr.heap.size wr V → Calls Try.prog 23 #[ndv x.k x.d (.slice ao2 x.c.length cap2), ndv y.k y.d (.slice ao3 y.c.length cap3)] V fun r w' => r = .returned (.bool (same x y)) ∧ Below V.heap.size V w') := fun V hb => HIH2.out x y (List.mem_of_getElem? hx) (List.mem_of_getElem? hy) _ _ V (hv.below hb) (hu.below hb)
            have HK : Hid (∀ V, Below wr.heap.size wr V → (V.cell? ⟨b1, o1 + j * 8, none⟩ = some (.int .u8 x.k) ∧ V.cell? ⟨b1, o1 + j * 8 + 1, none⟩ = some (.int .u8 x.d.k) ∧ V.cell? ⟨b1, o1 + j * 8 + 2, none⟩ = some (.string x.d.t) ∧ V.cell? ⟨b1, o1 + j * 8 + 3, none⟩ = some (.int .i64 x.d.a) ∧ V.cell? ⟨b1, o1 + j * 8 + 4, none⟩ = some (.int .i64 x.d.l) ∧ V.cell? ⟨b1, o1 + j * 8 + 5, none⟩ = some (.int .i64 x.d.c) ∧ V.cell? ⟨b1, o1 + j * 8 + 6, none⟩ = some (.int .i64 x.d.f) ∧ V.cell? ⟨b1, o1 + j * 8 + 7, none⟩ = some (.slice ao2 x.c.length cap2)) ∧ (V.cell? ⟨b2, o2 + j * 8, none⟩ = some (.int .u8 y.k) ∧ V.cell? ⟨b2, o2 + j * 8 + 1, none⟩ = some (.int .u8 y.d.k) ∧ V.cell? ⟨b2, o2 + j * 8 + 2, none⟩ = some (.string y.d.t) ∧ V.cell? ⟨b2, o2 + j * 8 + 3, none⟩ = some (.int .i64 y.d.a) ∧ V.cell? ⟨b2, o2 + j * 8 + 4, none⟩ = some (.int .i64 y.d.l) ∧ V.cell? ⟨b2, o2 + j * 8 + 5, none⟩ = some (.int .i64 y.d.c) ∧ V.cell? ⟨b2, o2 + j * 8 + 6, none⟩ = some (.int .i64 y.d.f) ∧ V.cell? ⟨b2, o2 + j * 8 + 7, none⟩ = some (.slice ao3 y.c.length cap3)) ∧ Below wr.heap.size wr V) := fun V hb => by
              have tr : ∀ q i u, wr.cell? ⟨q, i, none⟩ = some u → V.cell? ⟨q, i, none⟩ = some u := fun q i u hu => (hb.cell (World.block_lt_of_cell? _ _ hu)).trans hu
              exact ⟨⟨tr _ _ _ v0, tr _ _ _ v1, tr _ _ _ v2, tr _ _ _ v3, tr _ _ _ v4, tr _ _ _ v5, tr _ _ _ v6, tr _ _ _ v7⟩, ⟨tr _ _ _ u0, tr _ _ _ u1, tr _ _ _ u2, tr _ _ _ u3, tr _ _ _ u4, tr _ _ _ u5, tr _ _ _ u6, tr _ _ _ u7⟩, hb⟩
            clear hv hu hst hx hy
            go_wp2_with fail
            go_region_held3 (fun V => (V.cell? ⟨b1, o1 + j * 8, none⟩ = some (.int .u8 x.k) ∧ V.cell? ⟨b1, o1 + j * 8 + 1, none⟩ = some (.int .u8 x.d.k) ∧ V.cell? ⟨b1, o1 + j * 8 + 2, none⟩ = some (.string x.d.t) ∧ V.cell? ⟨b1, o1 + j * 8 + 3, none⟩ = some (.int .i64 x.d.a) ∧ V.cell? ⟨b1, o1 + j * 8 + 4, none⟩ = some (.int .i64 x.d.l) ∧ V.cell? ⟨b1, o1 + j * 8 + 5, none⟩ = some (.int .i64 x.d.c) ∧ V.cell? ⟨b1, o1 + j * 8 + 6, none⟩ = some (.int .i64 x.d.f) ∧ V.cell? ⟨b1, o1 + j * 8 + 7, none⟩ = some (.slice ao2 x.c.length cap2)) ∧ (V.cell? ⟨b2, o2 + j * 8, none⟩ = some (.int .u8 y.k) ∧ V.cell? ⟨b2, o2 + j * 8 + 1, none⟩ = some (.int .u8 y.d.k) ∧ V.cell? ⟨b2, o2 + j * 8 + 2, none⟩ = some (.string y.d.t) ∧ V.cell? ⟨b2, o2 + j * 8 + 3, none⟩ = some (.int .i64 y.d.a) ∧ V.cell? ⟨b2, o2 + j * 8 + 4, none⟩ = some (.int .i64 y.d.l) ∧ V.cell? ⟨b2, o2 + j * 8 + 5, none⟩ = some (.int .i64 y.d.c) ∧ V.cell? ⟨b2, o2 + j * 8 + 6, none⟩ = some (.int .i64 y.d.f) ∧ V.cell? ⟨b2, o2 + j * 8 + 7, none⟩ = some (.slice ao3 y.c.length cap3)) ∧ Below wr.heap.size wr V) (first | (exact HK.out _ (by assumption)) | (exact HK.out _ (Below.refl _ _)) | (exact HK.out _ (Below.refl _ _).drew) | go_keep) (first | (go_at_call 23; refine (HC.out _ (by first | assumption | exact (Below.refl _ _).drew)).mono ?_; rintro e w7 ⟨rfl, hb7⟩; have hB7 := (by first | exact (Below.refl wr.heap.size wr).drew.trans (hb7.mono (Nat.le_refl _)) | exact (by assumption : Below wr.heap.size wr _).trans (hb7.mono (Below.size (by assumption))) : Below wr.heap.size wr w7)))
            all_goals (
              have H7 : Hid (Below w4.heap.size w4 w7) := HJ.out.2.trans (hB7.mono HJ.out.2.size)
              clear hB7
              cases hs : same x y with
              | true =>
                rw [hs] at HST
                go_wp2_with fail
                exact ⟨⟨j + 1, hlt, by go_num, by have := HST.out; simpa using this.symm, H7.out⟩, by simp [intOf]; omega⟩
              | false =>
                rw [hs] at HST
                go_wp2_with fail
                go_ret
                exact ⟨by rw [HST.out]; rfl, H4.out.1.trans (H7.out.mono H4.out.1.size)⟩)
          · obtain rfl : j = A.length := by omega
            have z1 : ¬ ((A.length : Int) < A.length) := by omega
            have HE : Hid (R = true ∧ Below W.heap.size W wr) := ⟨by rw [← HJ.out.1]; rw [List.drop_length, HL.out, List.drop_length]; rfl, H4.out.1.trans (HJ.out.2.mono H4.out.1.size)⟩
            go_wp2_with fail
            go_ret
            exact ⟨by rw [HE.out.1]; rfl, HE.out.2⟩
      · have hlI : ¬ ((pl c).length : Int) = ((pl c2).length : Int) := by omega
        have hlb1 : (((pl c).length : Int) == ((pl c2).length : Int)) = false := by simpa using hlI
        have hlb2 : (((pl c).length : Int) != ((pl c2).length : Int)) = true := by simpa using hlI
        have HE : Hid (R = false) := by unfold Hid; rw [← HR.out]; exact eqF_len hlen
        go_wp2_with fail
        go_ret
        exact ⟨by rw [HE.out]; rfl, H4.out.1⟩
  · have hkb : (k != k2) = true := by simpa using hk
    simp only [hk, if_false]
    clear IH
    go_enter Try.func23, Try.ntmps23
    go_wp2_with fail
    try rw [eW2]
    go_ret
    exact ⟨rfl, H2.out.1⟩
theorem dm_any (a b : Nd) (ha : nsz a ≤ 100000000) (hb : nsz b ≤ 100000000) : DmC a b := by
  obtain ⟨s, hs⟩ : ∃ s, nsz a = s := ⟨_, rfl⟩
  induction s using Nat.strongRecOn generalizing a b with
  | ind s ih => exact dm_step a b ha hb (fun x y hx hy => ih (nsz x) (by rw [← hs]; exact nsz_kid hx) x y (by have := nsz_kid hx; omega) (by have := nsz_kid hy; omega) rfl)

end Go.Proofs.Ythbgipmkdcffnaa
