import Derived.Test.YthbgipmkdcffnaaLc
set_option linter.unusedVariables false
set_option linter.unusedSimpArgs false
namespace Go.Proofs.Ythbgipmkdcffnaa
open Go.RowKit

theorem rn_new (w : World) (n : Nd) (p : Option Addr) (m cp : Nat) : RN (w.alloc (NdB n.k n.d (.slice p m cp))) (.slice (some ⟨w.heap.size, 0, none⟩) 1 1) [n] [.slice p m cp] := by
  refine ⟨rfl, rfl, .inr ⟨w.heap.size, 1, _, rfl, Nat.zero_le _, new_at _ _, Nat.le_refl _, by decide, rfl, rfl⟩⟩
/-- Behind the making of y. -/
structure YI (wr : World) (nk : Int) (nd : Tv) (v : Value) (c : List Nd) (V : World) : Prop where
  bel : Below wr.heap.size wr V
  yb : V.heap[wr.heap.size]? = some (NdB nk nd v)
  sn : SN V v c
theorem yi_mk {W wr V1 w8 : World} {nk : Int} {nd : Tv} {s0 v' : Value} {n0 : Nd} {us : List Value} {c : List Nd} (hW : Below W.heap.size W wr) (hV : V1 = (wr.alloc (NdB nk nd s0)).alloc (NdB n0.k n0.d (.slice none 0 0))) (hr : RN w8 v' ([n0] ++ c) ([.slice none 0 0] ++ us)) (hg : V1.grownBy w8 (Value.slice (some ⟨(wr.alloc (NdB nk nd s0)).heap.size, 0, none⟩) 1 1).ownBlock) (hq : Nb V1 (.slice (some ⟨(wr.alloc (NdB nk nd s0)).heap.size, 0, none⟩) 1 1) v') (hn0 : n0.c = []) (hl : us.length = c.length) (hvl : VL W c us) :
    (w8.cell? ⟨wr.heap.size, 7, none⟩ = some s0 ∧ w8.frozen? ⟨wr.heap.size, 7, none⟩ = false ∧ wr.heap.size < w8.heap.size) ∧ YI wr nk nd v' ([n0] ++ c) (w8.setCell ⟨wr.heap.size, 7, none⟩ v') := by
  have e1 := size_al wr (NdB nk nd s0)
  have b1 := below_new wr (NdB nk nd s0)
  have b2 := below_new (wr.alloc (NdB nk nd s0)) (NdB n0.k n0.d (.slice none 0 0))
  have kg := Kp.of_grown hg
  have bV : Below wr.heap.size wr V1 := by rw [hV]; exact b1.trans (b2.mono b1.size)
  have hS : ∀ b, some b = (Value.slice (some ⟨(wr.alloc (NdB nk nd s0)).heap.size, 0, none⟩) 1 1).ownBlock → b = wr.heap.size + 1 := fun b e => by
    simp only [Value.ownBlock, Option.some.injEq] at e
    omega
  have y1 : V1.heap[wr.heap.size]? = some (NdB nk nd s0) := by rw [hV]; exact alloc_at' (new_at _ _) _
  have y8 := kg.blk y1 (fun e => by have := hS _ e; omega)
  have b8 : Below wr.heap.size wr w8 := Kp.low bV kg (fun b e => by have := hS b e; omega) bV.size
  have ks := Kp.set w8 wr.heap.size 7 v'
  have hvb : ∀ b, v'.ownBlock = some b → wr.heap.size < b := by
    intro b e
    rcases hq with hq | ⟨q, e2, hq⟩
    · rw [hq] at e
      have := hS b e.symm
      omega
    · rw [e2] at e
      simp at e
      have : wr.heap.size < V1.heap.size := blk_lt y1
      omega
  refine ⟨⟨blk_cell y8 rfl, blk_frozen y8, blk_lt y8⟩, ⟨Kp.low b8 ks (fun b e => by omega) b8.size, ?_, ?_⟩⟩
  · have := blk_set y8 7 v'
    rw [this]
    simp
  · refine sn_of (hr.kp ks (fun b e e2 => by have := hvb b e; omega)) ?_
    have bW : Below W.heap.size W (w8.setCell ⟨wr.heap.size, 7, none⟩ v') := hW.trans ((Kp.low b8 ks (fun b e => by omega) b8.size).mono hW.size)
    have h1 : VL W [n0] [.slice none 0 0] := fun j m hj => by
      cases j with
      | zero =>
        simp at hj
        subst hj
        exact ⟨_, rfl, none, 0, by rw [hn0]; rfl, by rw [hn0]; exact Nat.le_refl _, Nat.zero_le _, (fun _ => hn0), (fun a h => by cases h)⟩
      | succ j => simp at hj
    exact (h1.app2 rfl hvl).below bW
theorem int_rng {b : Int} (h : (Lit.int .i64 b).wf = true) : -9223372036854775808 ≤ b ∧ b ≤ 9223372036854775807 := by
  simp only [Lit.wf, Bool.and_eq_true, decide_eq_true_eq] at h
  exact ⟨h.1, h.2⟩
set_option maxRecDepth 100000 in
set_option maxHeartbeats 1000000 in
/-- From the number on: at is at least 0. -/
theorem notes_walk (n : Nd) (vn : Value) (at' : Int) (tx : ByteArray) (W : World) (hn : Nv W vn n) (hnz : ∀ k d m cap, vn = ndv k d (.slice none m cap) → cap = 0) (ha : (Lit.int .i64 at').wf = true) (htx : tx.size ≤ maxLen) : Calls Try.prog 7 #[vn, .int .i64 at', .string tx] W fun r w' => r = .returned (.bool true) ∧ Below W.heap.size W w' := by
  obtain ⟨ha1, ha2⟩ := int_rng ha
  have HNv : Hid (∀ V, Below W.heap.size W V → Nv V vn n) := fun V hb => hn.below hb
  obtain ⟨no, nc', rfl, q1, q2, q3⟩ := hn
  have HSn : Hid (Sn W no n.c ∧ (no = none → nc' = 0)) := ⟨q3, fun e => by subst e; exact hnz _ _ _ _ rfl⟩
  have hw1 := wgt_le n 0 0 (by omega)
  have HWt : Hid (∀ V, Below W.heap.size W V → Calls Try.prog 14 #[ndv n.k n.d (.slice no n.c.length nc'), .int .i64 0, .int .i64 0] V fun r w' => r = .returned (.int .i64 (wgt n 0 0 : Nat)) ∧ Below V.heap.size V w') := fun V hb => weight_any n _ V 0 0 (HNv.out V hb) (by omega) (by omega)
  have hsm : wgt n 0 0 ≤ 16777216 → nsz n ≤ 16777216 ∧ n.c.length ≤ 16777216 := fun h => by
    obtain ⟨a, _⟩ := wgt_small h
    refine ⟨a, ?_⟩
    obtain ⟨k, d, c⟩ := n
    have key : ∀ c : List Nd, c.length ≤ nszL c := by
      intro c
      induction c with
      | nil => simp
      | cons x r ih =>
        have : 0 < nsz x := by obtain ⟨a, b, e⟩ := x; simp [nsz]
        simp only [nszL, List.length_cons]
        omega
    have := key c
    simp only [nsz] at a
    show c.length ≤ _
    omega
  have HSm := show Hid _ from hsm
  have HEt : Hid (n = .mk n.k n.d n.c) := n.eta
  obtain ⟨nk, nd, c, ek, ed, ec⟩ : ∃ nk nd nch, n.k = nk ∧ n.d = nd ∧ n.c = nch := ⟨_, _, _, rfl, rfl, rfl⟩
  rw [ek, ed, ec] at HWt HNv HEt
  rw [ec] at HSn HSm q1
  rw [ek, ed, ec]
  clear ek ed ec hsm q3 hnz ha
  obtain ⟨W1, eW1⟩ : ∃ W1, W.alloc (NdB nk nd (.slice no c.length nc')) = W1 := ⟨_, rfl⟩
  have H1 : Hid (Below W.heap.size W W1 ∧ W1.heap[W.heap.size]? = some (NdB nk nd (.slice no c.length nc'))) := by rw [← eW1]; exact ⟨below_new _ _, new_at _ _⟩
  have HAw : Hid (∀ V, Calls Try.prog 8 #[] V fun r w' => r = .returned (.bool true) ∧ Below V.heap.size V w') := awake_any
  obtain ⟨wg, hwg⟩ : ∃ wg, wgt n 0 0 = wg := ⟨_, rfl⟩
  rw [hwg] at HWt hw1 HSm
  clear hwg
  by_cases hwb : 16777216 < wg
  · have hwI : (wg : Int) > 16777216 := by omega
    go_enter Try.func7, Try.ntmps7
    go_wp2_with fail
    try rw [eW1]
    refine (HAw.out _).mono ?_
    rintro r w2 ⟨rfl, hb2⟩
    have H2 : Hid (Below W.heap.size W w2 ∧ w2.heap[W.heap.size]? = some (NdB nk nd (.slice no c.length nc'))) := ⟨H1.out.1.trans (hb2.mono H1.out.1.size), blk_below H1.out.2 hb2⟩
    obtain ⟨⟨i0, i1, i2, i3, i4, i5, i6, i7⟩, il⟩ := nd_cells H2.out.2
    clear hb2
    go_wp2_with fail
    refine (HWt.out _ H2.out.1).mono ?_
    rintro r w3 ⟨rfl, hb3⟩
    have H3 : Hid (Below W.heap.size W w3) := H2.out.1.trans (hb3.mono H2.out.1.size)
    clear hb3
    go_wp2_with fail
    go_ret
    exact ⟨rfl, H3.out⟩
  · have hwI : ¬ ((wg : Int) > 16777216) := by omega
    obtain ⟨hs1, hs2⟩ := HSm.out (by omega)
    go_enter Try.func7, Try.ntmps7
    go_wp2_with fail
    try rw [eW1]
    refine (HAw.out _).mono ?_
    rintro r w2 ⟨rfl, hb2⟩
    have H2 : Hid (Below W.heap.size W w2 ∧ w2.heap[W.heap.size]? = some (NdB nk nd (.slice no c.length nc'))) := ⟨H1.out.1.trans (hb2.mono H1.out.1.size), blk_below H1.out.2 hb2⟩
    obtain ⟨⟨i0, i1, i2, i3, i4, i5, i6, i7⟩, il⟩ := nd_cells H2.out.2
    clear hb2 eW1
    go_wp2_with fail
    refine (HWt.out _ H2.out.1).mono ?_
    rintro r w3 ⟨rfl, hb3⟩
    have H3 : Hid (Below W.heap.size W w3 ∧ w3.heap[W.heap.size]? = some (NdB nk nd (.slice no c.length nc'))) := ⟨H2.out.1.trans (hb3.mono H2.out.1.size), blk_below H2.out.2 hb3⟩
    clear hb3 i0 i1 i2 i3 i4 i5 i6 i7 il
    obtain ⟨⟨i0, i1, i2, i3, i4, i5, i6, i7⟩, il⟩ := nd_cells H3.out.2
    by_cases hk0 : nk = 0
    · subst hk0
      go_wp2_with fail
      go_ret
      exact ⟨rfl, H3.out.1⟩
    · have hkb : (nk == 0) = false := by simpa using hk0
      have hcI : (c.length : Int) ≤ 16777216 := by omega
      go_upto_if 28 with fail
      go_cut [1] from 29 to 31 (fun t wx => ∃ k : Int, 0 ≤ k ∧ k ≤ 9223372036854775807 ∧ t = .int .i64 k ∧ wx = w3)
      case first =>
        by_cases hneg : at' < 0
        · go_wp2_with fail
          go_meet
          exact ⟨-(at' + 1), by omega, by omega, by go_num, rfl⟩
        · go_wp2_with fail
          go_meet
          exact ⟨at', by omega, by omega, rfl, rfl⟩
      case rest =>
        obtain ⟨k, hk1, hk2, rfl, rfl⟩ := hcut
        have HX0 : Hid (XI W wc.heap.size nk nd (.slice no c.length nc') (.slice none 0 0) [] [] (wc.alloc (NdB nk nd (.slice none 0 0)))) := ⟨H3.out.1.trans ((below_new _ _).mono H3.out.1.size), alloc_at' H3.out.2 _, new_at _ _, il, rn_nil _, (fun b e => by cases e), fun j n hj => by simp at hj⟩
        obtain ⟨kk, hkk⟩ : ∃ kk : Nat, k % ((c.length : Int) + 1) = kk := ⟨(k % ((c.length : Int) + 1)).toNat, by have := Int.emod_nonneg k (b := (c.length : Int) + 1) (by omega); omega⟩
        have hkl : kk ≤ c.length := by have := Int.emod_lt_of_pos k (b := (c.length : Int) + 1) (by omega); omega
        have HKK : Hid (k % ((c.length : Int) + 1) = kk) := hkk
        clear hkk
        go_wp2_with fail
        obtain ⟨W2, eW2⟩ : ∃ W2, wc.alloc (NdB nk nd (.slice none 0 0)) = W2 := ⟨_, rfl⟩
        rw [eW2] at HX0
        rw [eW2, HKK.out]
        clear eW2
        obtain ⟨X, hX⟩ : ∃ X, wc.heap.size = X := ⟨_, rfl⟩
        rw [hX] at HX0 ⊢
        clear hX i0 i1 i2 i3 i4 i5 i6 i7 il
        go_loopw [10] (fun iv wr => ∃ j : Nat, j ≤ c.length + 1 ∧ iv = .int .i64 j ∧ Hid (∃ sv vs, XI W X nk nd (.slice no c.length nc') sv (xs tx kk c j) vs wr)) (fun iv _ => c.length + 1 - (intOf iv).toNat)
        case atStart => exact ⟨0, Nat.zero_le _, rfl, _, _, HX0.out⟩
        case round =>
          obtain ⟨j, hj, rfl, HJ0⟩ := hrel
          obtain ⟨sv, vs, hJ⟩ := HJ0.out
          have HJ := show Hid _ from hJ
          obtain ⟨ps, cs, hsv, _⟩ := hJ.rn.shape
          obtain ⟨ls, hls⟩ : ∃ ls, (xs tx kk c j).length = ls := ⟨_, rfl⟩
          rw [hls] at hsv
          subst hsv
          have HLs : Hid ((xs tx kk c j).length ≤ 100000000) := by have := xs_len tx kk c j; unfold Hid; omega
          have n7 : wr.cell? ⟨W.heap.size, 7, none⟩ = some (.slice no c.length nc') := blk_cell hJ.nb rfl
          have nl : W.heap.size < wr.heap.size := blk_lt hJ.nb
          have x7 : wr.cell? ⟨X, 7, none⟩ = some (.slice ps ls cs) := blk_cell hJ.xb rfl
          have xl : X < wr.heap.size := blk_lt hJ.xb
          have xne : X ≠ W.heap.size := by have := hJ.lt; omega
          have xne2 : W.heap.size ≠ X := by omega
          clear hJ HJ0 hls
          by_cases hjl : j ≤ c.length
          · have z1 : (j : Int) ≤ c.length := by omega
            have z2 : (0 : Int) ≤ j := by omega
            go_upto_if 49 with fail
            go_cut [] from 49 to 57 (fun wx => Hid (∃ sv vs, XI W X nk nd (.slice no c.length nc') sv (xs tx kk c j ++ (if j = kk then [cmt tx] else [])) vs wx))
            case first =>
              by_cases hjk : j = kk
              · subst hjk
                go_wp2_with (at_builtin; refine app_nd (by rfl) _ _ (by rfl) (.slice ps ls cs) (xs tx j c j) vs (cmt tx) none 0 0 (by rfl) (HJ.out.below (below_new _ _)).rn wr.heap.size 1 (by rfl) (new_at _ _) (Nat.le_trans HLs.out (by omega)) ?_; intro v8 w8 h1 h2 h3; obtain ⟨p8, c8, hv8, _⟩ := h1.shape; obtain ⟨l8, hl8⟩ : ∃ l8, (xs tx j c j ++ [cmt tx]).length = l8 := ⟨_, rfl⟩; rw [hl8] at hv8; subst hv8; obtain ⟨⟨y1, y2, y3⟩, ⟨y4, y5⟩, y6⟩ := HJ.out.push (below_new _ _) h1 h2 h3 ⟨none, 0, rfl, Nat.le_refl _, Nat.zero_le _, (fun _ => rfl), (fun a h => by cases h)⟩; have H8 : Hid (XI W X nk nd (.slice no c.length nc') (.slice p8 l8 c8) (xs tx j c j ++ [cmt tx]) (vs ++ [.slice none 0 0]) (w8.setCell ⟨X, 7, none⟩ (.slice p8 l8 c8))) := y6; clear y6 h1 h2 h3 hl8)
                go_meet
                exact ⟨_, _, by first | exact H8.out | (simp only [if_true]; exact H8.out)⟩
              · have hjI : ¬ (j : Int) = kk := by omega
                have hjb : ((j : Int) == (kk : Int)) = false := by simpa using hjI
                go_wp2_with fail
                go_meet
                exact ⟨_, _, by rw [if_neg hjk, List.append_nil]; exact HJ.out⟩
            case rest =>
              obtain ⟨sv2, vs2, hJ2⟩ := hcut.out
              have HJ2 := show Hid _ from hJ2
              obtain ⟨ps2, cs2, hsv2, _⟩ := hJ2.rn.shape
              obtain ⟨ls2, hls2⟩ : ∃ ls2, (xs tx kk c j ++ (if j = kk then [cmt tx] else [])).length = ls2 := ⟨_, rfl⟩
              rw [hls2] at hsv2
              subst hsv2
              have HLs2 : Hid ((xs tx kk c j ++ (if j = kk then [cmt tx] else [])).length ≤ 1000000000) := by
                unfold Hid
                have h1 := HLs.out
                have h2 : (if j = kk then [cmt tx] else []).length ≤ 1 := by split <;> simp
                rw [List.length_append]
                omega
              have m7 : wc.cell? ⟨W.heap.size, 7, none⟩ = some (.slice no c.length nc') := blk_cell hJ2.nb rfl
              have ml : W.heap.size < wc.heap.size := blk_lt hJ2.nb
              have u7 : wc.cell? ⟨X, 7, none⟩ = some (.slice ps2 ls2 cs2) := blk_cell hJ2.xb rfl
              have ul : X < wc.heap.size := blk_lt hJ2.xb
              clear hJ2 hls2 hcut n7 nl x7 xl
              by_cases hlt : j < c.length
              · have z3 : (j : Int) < c.length := by omega
                obtain ⟨m, hm⟩ : ∃ m, c[j]? = some m := ⟨_, List.getElem?_eq_getElem hlt⟩
                obtain ⟨b, o, rfl, hbl, ao2, cap2, ⟨v0, v1, v2, v3, v4, v5, v6, v7⟩, hv⟩ := kid0 HSn.out.1 HJ2.out.bel hm
                have HXs : Hid (xs tx kk c (j + 1) = (xs tx kk c j ++ (if j = kk then [cmt tx] else [])) ++ [mv m]) := by unfold Hid; rw [xs, hm]
                have HV : Hid (Nv W (ndv (mv m).k (mv m).d (.slice ao2 m.c.length cap2)) (mv m)) := by
                  obtain ⟨a1, a2, a3, a4, a5, a6, a7⟩ := hv
                  obtain ⟨b1, b2, e, b3⟩ := nv_slot ⟨a1, a2, a3, a4, a5, a6, a7⟩
                  exact ⟨b1, b2, by rw [e]; rfl, b3⟩
                clear hm hv
                obtain ⟨w1, hw1'⟩ : ∃ w1, IntKind.i64.wrap (m.d.l + 1) = w1 := ⟨_, rfl⟩
                obtain ⟨w2, hw2'⟩ : ∃ w2, IntKind.i64.wrap (m.d.f + 1) = w2 := ⟨_, rfl⟩
                go_upto_region 18 with fail
                obtain ⟨W4, eW4⟩ : ∃ W4, wc.alloc (NdB m.k ⟨m.d.k, m.d.t, m.d.a, w1, m.d.c, w2⟩ (.slice ao2 m.c.length cap2)) = W4 := ⟨_, rfl⟩
                have H4 : Hid (Below wc.heap.size wc W4 ∧ W4.heap[wc.heap.size]? = some (NdB (mv m).k (mv m).d (.slice ao2 m.c.length cap2))) := by
                  rw [← eW4]
                  refine ⟨below_new _ _, ?_⟩
                  have := new_at wc (NdB m.k ⟨m.d.k, m.d.t, m.d.a, w1, m.d.c, w2⟩ (.slice ao2 m.c.length cap2))
                  rw [this, ← hw1', ← hw2']
                  rfl
                dsimp only [NdB] at eW4
                rw [eW4]
                clear eW4 v0 v1 v2 v3 v4 v5 v6 v7
                obtain ⟨⟨i0, i1, i2, i3, i4, i5, i6, i7⟩, il⟩ := nd_cells H4.out.2
                have H5 : Hid (XI W X nk nd (.slice (some ⟨b, o, none⟩) c.length nc') (.slice ps2 ls2 cs2) (xs tx kk c j ++ (if j = kk then [cmt tx] else [])) vs2 W4) := HJ2.out.below H4.out.1
                have k7 : W4.cell? ⟨X, 7, none⟩ = some (.slice ps2 ls2 cs2) := blk_cell H5.out.xb rfl
                have kl : X < W4.heap.size := blk_lt H5.out.xb
                obtain ⟨M, hM⟩ : ∃ M, mv m = M := ⟨_, rfl⟩
                rw [hM] at i0 i1 i2 i3 i4 i5 i6 HV HXs
                clear hM m7 ml u7 ul hw1' hw2'
                obtain ⟨A, hA⟩ : ∃ A, (xs tx kk c j ++ (if j = kk then [cmt tx] else [])) = A := ⟨_, rfl⟩
                rw [hA] at HXs H5 HLs2
                clear hA
                go_wp2_with (at_builtin; refine app_nd (by rfl) _ _ (by rfl) (.slice ps2 ls2 cs2) A vs2 M ao2 m.c.length cap2 (by rfl) (H5.out.below (below_new _ _)).rn W4.heap.size 1 (by rfl) (new_at _ _) HLs2.out ?_; intro v8 w8 h1 h2 h3; obtain ⟨p8, c8, hv8, _⟩ := h1.shape; obtain ⟨l8, hl8⟩ : ∃ l8, (A ++ [M]).length = l8 := ⟨_, rfl⟩; rw [hl8] at hv8; subst hv8; obtain ⟨⟨y1, y2, y3⟩, ⟨y4, y5⟩, y6⟩ := H5.out.push (below_new _ _) h1 h2 h3 HV.out; have H8 : Hid (XI W X nk nd (.slice (some ⟨b, o, none⟩) c.length nc') (.slice p8 l8 c8) (A ++ [M]) (vs2 ++ [.slice ao2 m.c.length cap2]) (w8.setCell ⟨X, 7, none⟩ (.slice p8 l8 c8))) := y6; clear y6 h1 h2 h3 hl8)
                exact ⟨⟨j + 1, by omega, by go_num, _, _, by rw [HXs.out]; exact H8.out⟩, by simp [intOf]; omega⟩
              · obtain rfl : j = c.length := by omega
                have z3 : ¬ ((c.length : Int) < c.length) := by omega
                have HXs : Hid (xs tx kk c (c.length + 1) = (xs tx kk c c.length ++ (if c.length = kk then [cmt tx] else []))) := by unfold Hid; rw [xs, List.getElem?_eq_none (by omega), List.append_nil]
                go_wp2_with fail
                exact ⟨⟨c.length + 1, by omega, by go_num, _, _, by rw [HXs.out]; exact HJ2.out⟩, by simp [intOf]⟩
          · obtain rfl : j = c.length + 1 := by omega
            have z1 : ¬ (((c.length : Int) + 1) ≤ c.length) := by omega
            have HFX : Hid (∀ V, Below wr.heap.size wr V → Nv V (ndv nk nd (.slice ps ls cs)) (.mk nk nd (xs tx kk c (c.length + 1)))) := fun V hb => by
              obtain ⟨a1, a2, e, a3, a4, a5⟩ := sn_of (HJ.out.below hb).rn (HJ.out.vl.below (HJ.out.below hb).bel)
              exact ⟨a1, a2, by rw [e]; rfl, a3, a4, a5⟩
            have hnx := nsz_xs tx kk c (c.length + 1)
            rw [List.take_of_length_le (by omega)] at hnx
            have hnsz : nszL c + 1 = nsz n := by rw [HEt.out]; simp [nsz]
            have x0 := (nd_cells HJ.out.xb).1
            obtain ⟨x0, x1, x2, x3, x4, x5, x6, _⟩ := x0
            obtain ⟨⟨n0, n1, n2, n3, n4, n5, n6, _⟩, _⟩ := nd_cells HJ.out.nb
            go_upto_region 20 with fail
            have HYI : Hid (∀ V1 w8 v' us, V1 = (wr.alloc (NdB nk nd (.slice ps ls cs))).alloc (NdB (nmd tx).k (nmd tx).d (.slice none 0 0)) → us.length = c.length → VL W c us → RN w8 v' ([nmd tx] ++ c) ([.slice none 0 0] ++ us) → V1.grownBy w8 (Value.slice (some ⟨(wr.alloc (NdB nk nd (.slice ps ls cs))).heap.size, 0, none⟩) 1 1).ownBlock → Nb V1 (.slice (some ⟨(wr.alloc (NdB nk nd (.slice ps ls cs))).heap.size, 0, none⟩) 1 1) v' → (w8.cell? ⟨wr.heap.size, 7, none⟩ = some (.slice ps ls cs) ∧ w8.frozen? ⟨wr.heap.size, 7, none⟩ = false ∧ wr.heap.size < w8.heap.size) ∧ YI wr nk nd v' ([nmd tx] ++ c) (w8.setCell ⟨wr.heap.size, 7, none⟩ v')) := fun V1 w8 v' us h1 h2 h3 h4 h5 h6 => yi_mk HJ.out.bel h1 h4 h5 h6 rfl h2 h3
            obtain ⟨W5, eW5⟩ : ∃ W5, wr.alloc (NdB nk nd (.slice ps ls cs)) = W5 := ⟨_, rfl⟩
            rw [eW5] at HYI
            have H5 : Hid (Below wr.heap.size wr W5 ∧ Below W.heap.size W W5 ∧ W5.cell? ⟨W.heap.size, 7, none⟩ = some (.slice no c.length nc') ∧ W.heap.size < W5.heap.size) := by
              rw [← eW5]
              have hb := below_new wr (NdB nk nd (.slice ps ls cs))
              exact ⟨hb, HJ.out.bel.trans (hb.mono HJ.out.bel.size), blk_cell (alloc_at' HJ.out.nb _) rfl, by rw [size_al]; omega⟩
            dsimp only [NdB] at eW5
            rw [eW5]
            clear eW5
            obtain ⟨_, _, g7, gl⟩ := H5.out
            go_upto_region 21 with (at_builtin; refine app_kids (by rfl) _ _ (by rfl) (.slice (some ⟨W5.heap.size, 0, none⟩) 1 1) [nmd tx] [.slice none 0 0] c no nc' (by rfl) (rn_new W5 (nmd tx) none 0 0) (by rfl) W (H5.out.2.1.trans ((below_new _ _).mono H5.out.2.1.size)) HSn.out.1 HSn.out.2 (by simp; omega) ?_; intro v8 w8 us h0 h0' h1 h2 h3; obtain ⟨p8, c8, hv8, _⟩ := h1.shape; obtain ⟨l8, hl8⟩ : ∃ l8, ([nmd tx] ++ c).length = l8 := ⟨_, rfl⟩; rw [hl8] at hv8; subst hv8; obtain ⟨⟨y1, y2, y3⟩, y6⟩ := HYI.out _ w8 _ us rfl h0 h0' h1 h2 h3; have H8 : Hid (YI wr nk nd (.slice p8 l8 c8) ([nmd tx] ++ c) (w8.setCell ⟨wr.heap.size, 7, none⟩ (.slice p8 l8 c8))) := y6; clear y6 h0 h0' h1 h2 h3 hl8)
            obtain ⟨w9, e9⟩ : ∃ w9, w8.setCell ⟨wr.heap.size, 7, none⟩ (.slice p8 l8 c8) = w9 := ⟨_, rfl⟩
            rw [e9] at H8 ⊢
            clear e9 y1 y2 y3
            have H9 : Hid (∀ V, Below w9.heap.size w9 V → V.heap[W.heap.size]? = some (NdB nk nd (.slice no c.length nc')) ∧ V.heap[X]? = some (NdB nk nd (.slice ps ls cs)) ∧ V.heap[wr.heap.size]? = some (NdB nk nd (.slice p8 l8 c8)) ∧ Below wr.heap.size wr V ∧ Below W.heap.size W V ∧ Nv V (ndv nk nd (.slice p8 l8 c8)) (.mk nk nd (nmd tx :: c))) := fun V hb => by
              have hb2 := H8.out.bel.trans (hb.mono H8.out.bel.size)
              obtain ⟨a1, a2, e, a3, a4, a5⟩ := H8.out.sn.below hb
              exact ⟨blk_below HJ.out.nb hb2, blk_below HJ.out.xb hb2, blk_below H8.out.yb hb, hb2, HJ.out.bel.trans (hb2.mono HJ.out.bel.size), a1, a2, by rw [e]; rfl, a3, a4, a5⟩
            have hsx : nsz (.mk nk nd (xs tx kk c (c.length + 1))) ≤ 100000000 := by simp only [nsz]; omega
            have hsy : nsz (.mk nk nd (nmd tx :: c)) ≤ 100000000 := by simp only [nsz, nszL, nmd]; omega
            have HS1 : Hid (∀ V, Below w9.heap.size w9 V → Calls Try.prog 24 #[ndv nk nd (.slice ps ls cs), ndv nk nd (.slice no c.length nc')] V fun r w' => r = .returned (.bool true) ∧ Below V.heap.size V w') := fun V hb => by
              obtain ⟨_, _, _, b4, b5, _⟩ := H9.out V hb
              have := same_any _ n _ _ V (HFX.out V b4) (HNv.out V b5) hsx (by omega)
              rw [HEt.out, same_xs tx kk nk nd c hk0] at this
              exact this
            have HS2 : Hid (∀ V, Below w9.heap.size w9 V → Calls Try.prog 24 #[ndv nk nd (.slice no c.length nc'), ndv nk nd (.slice ps ls cs)] V fun r w' => r = .returned (.bool true) ∧ Below V.heap.size V w') := fun V hb => by
              obtain ⟨_, _, _, b4, b5, _⟩ := H9.out V hb
              have := same_any n _ _ _ V (HNv.out V b5) (HFX.out V b4) (by omega) hsx
              rw [same_comm, HEt.out, same_xs tx kk nk nd c hk0] at this
              exact this
            have HS3 : Hid (∀ V, Below w9.heap.size w9 V → Calls Try.prog 24 #[ndv nk nd (.slice p8 l8 c8), ndv nk nd (.slice no c.length nc')] V fun r w' => r = .returned (.bool false) ∧ Below V.heap.size V w') := fun V hb => by
              obtain ⟨_, _, _, b4, b5, b6⟩ := H9.out V hb
              have := same_any _ n _ _ V b6 (HNv.out V b5) hsy (by omega)
              rw [HEt.out, same_nm tx nk nd nd c hk0] at this
              exact this
            have HS4 : Hid (∀ V, Below w9.heap.size w9 V → Calls Try.prog 24 #[ndv nk nd (.slice no c.length nc'), ndv nk nd (.slice p8 l8 c8)] V fun r w' => r = .returned (.bool false) ∧ Below V.heap.size V w') := fun V hb => by
              obtain ⟨_, _, _, b4, b5, b6⟩ := H9.out V hb
              have := same_any n _ _ _ V (HNv.out V b5) b6 (by omega) hsy
              rw [same_comm, HEt.out, same_nm tx nk nd nd c hk0] at this
              exact this
            clear n7 nl x7 xl xne xne2 x0 x1 x2 x3 x4 x5 x6 n0 n1 n2 n3 n4 n5 n6 g7 gl hnx hnsz hsx hsy
            obtain ⟨f1, f2, f3, _⟩ := H9.out w9 (Below.refl _ _)
            obtain ⟨⟨a0, a1, a2, a3, a4, a5, a6, a7⟩, al⟩ := nd_cells f1
            obtain ⟨⟨b0, b1, b2, b3, b4, b5, b6, b7⟩, bl⟩ := nd_cells f2
            clear f1 f2 f3
            go_wp2_with fail
            refine (HS1.out _ (Below.refl _ _)).mono ?_
            rintro r v1 ⟨rfl, hb1⟩
            have K1 : Hid (Below w9.heap.size w9 v1) := hb1
            clear hb1 a0 a1 a2 a3 a4 a5 a6 a7 al b0 b1 b2 b3 b4 b5 b6 b7 bl HS1
            obtain ⟨f1, f2, f3, _⟩ := H9.out v1 K1.out
            obtain ⟨⟨a0, a1, a2, a3, a4, a5, a6, a7⟩, al⟩ := nd_cells f1
            obtain ⟨⟨b0, b1, b2, b3, b4, b5, b6, b7⟩, bl⟩ := nd_cells f2
            clear f1 f2 f3
            go_wp2_with fail
            refine (HS2.out _ K1.out).mono ?_
            rintro r v2 ⟨rfl, hb2⟩
            have K2 : Hid (Below w9.heap.size w9 v2) := K1.out.trans (hb2.mono K1.out.size)
            clear hb2 a0 a1 a2 a3 a4 a5 a6 a7 al b0 b1 b2 b3 b4 b5 b6 b7 bl HS2
            obtain ⟨f1, f2, f3, _⟩ := H9.out v2 K2.out
            obtain ⟨⟨a0, a1, a2, a3, a4, a5, a6, a7⟩, al⟩ := nd_cells f1
            obtain ⟨⟨b0, b1, b2, b3, b4, b5, b6, b7⟩, bl⟩ := nd_cells f3
            clear f1 f2 f3
            go_wp2_with fail
            refine (HS3.out _ K2.out).mono ?_
            rintro r v3 ⟨rfl, hb3⟩
            have K3 : Hid (Below w9.heap.size w9 v3) := K2.out.trans (hb3.mono K2.out.size)
            clear hb3 a0 a1 a2 a3 a4 a5 a6 a7 al b0 b1 b2 b3 b4 b5 b6 b7 bl HS3
            obtain ⟨f1, f2, f3, _⟩ := H9.out v3 K3.out
            obtain ⟨⟨a0, a1, a2, a3, a4, a5, a6, a7⟩, al⟩ := nd_cells f1
            obtain ⟨⟨b0, b1, b2, b3, b4, b5, b6, b7⟩, bl⟩ := nd_cells f3
            clear f1 f2 f3
            go_wp2_with fail
            refine (HS4.out _ K3.out).mono ?_
            rintro r v4 ⟨rfl, hb4⟩
            have K4 : Hid (Below W.heap.size W v4) := (H9.out v4 (K3.out.trans (hb4.mono K3.out.size))).2.2.2.2.1
            clear hb4
            go_wp2_with fail
            go_ret
            exact ⟨rfl, K4.out⟩

end Go.Proofs.Ythbgipmkdcffnaa
