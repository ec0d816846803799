import Derived.Test.YtkigadnkclkopaaIg
set_option linter.unusedVariables false
set_option linter.unusedSimpArgs false
namespace Go.Proofs.Ytkigadnkclkopaa
open Go.RowKit Go.Shelf

theorem ent_leaf : EntF 19 := enters_of Try.func19 (by kernel_rfl) rfl
theorem ent_parts : EntF 20 := enters_of Try.func20 (by kernel_rfl) rfl
def TkC (n : Nd) : Prop := ∀ vn W, Nv W vn n → Calls Try.prog 7 #[vn] W fun r w' => ∃ p : Fp, r = .returned (.func (.func p.f) #[] p.lb) ∧ p.ts = toks n ∧ Fok (fun k => W.heap.size ≤ k) w' p ∧ Below W.heap.size W w'
set_option maxRecDepth 100000 in
set_option maxHeartbeats 1000000 in
theorem toks_step (n : Nd) (hsz : nsz n ≤ 100000000) (IH : ∀ m, m ∈ n.c → TkC m) : TkC n := by
  intro vn W h
  have hlc := big_c hsz
  have hmf : ∀ (fn : Fn) (first cap : Array Value) (w : World), (Instr.makeFunc fn first cap).run Try.prog w = .ok (.func fn first cap) w := fun _ _ _ _ => rfl
  obtain ⟨ao, cap, rfl, q1, q2, q3, q4⟩ := h
  obtain ⟨k, d, c⟩ := n
  dsimp only [Nd.k, Nd.d, Nd.c] at *
  have HQ : Hid (Sn W ao c) := ⟨q3, q4⟩
  have HIH := show Hid _ from IH
  have hcI : (c.length : Int) ≤ 100000000 := by omega
  obtain ⟨W1, eW⟩ : ∃ W1, W1 = W.alloc (NdB k d (.slice ao c.length cap)) := ⟨_, rfl⟩
  have HB1 : Hid (Below W.heap.size W W1 ∧ W1.heap[W.heap.size]? = some (NdB k d (.slice ao c.length cap))) := by rw [eW]; exact ⟨below_new _ _, new_at _ _⟩
  have HTk : Hid (∀ V, Calls Try.prog 18 #[ndv k d (.slice ao c.length cap)] V fun r w' => r = .returned (.bool (k == 0)) ∧ Below V.heap.size V w') := fun V => isTok_any k d ao c.length cap V
  clear q3 q4 IH
  by_cases hk : k = 0
  · subst hk
    go_enter Try.func7, Try.ntmps7
    go_wp2_with fail
    try rw [← eW]
    clear eW
    refine (HTk.out _).mono ?_
    rintro r w2 ⟨rfl, hb2⟩
    have t0 : w2.heap[W.heap.size]? = some (NdB 0 d (.slice ao c.length cap)) := blk_below HB1.out.2 hb2
    have H2 : Hid (Below W.heap.size W w2) := HB1.out.1.trans (hb2.mono HB1.out.1.size)
    obtain ⟨⟨x0, x1, x2, x3, x4, x5, x6, x7⟩, xl⟩ := nd_cells t0
    clear hb2 t0
    go_wp2_with fail
    go_ret
    refine ⟨⟨19, #[.pointer (some ⟨w2.heap.size, 0, none⟩)], [d]⟩, rfl, by simp [toks], ⟨ent_leaf, leaf_it _ _ _ d ?_ ?_⟩, ?_⟩
    · exact H2.out.size
    · exact new_at _ _
    · exact H2.out.trans ((below_new _ _).mono H2.out.size)
  · have q5 : (k == 0) = false := by simpa using hk
    have HTS : Hid (toks (.mk k d c) = toksL c) := (by simp [toks, hk] : toks (.mk k d c) = toksL c)
    rw [q5] at HTk
    obtain ⟨cur, hcs, hmk⟩ := make_fp c.length hlc
    go_enter Try.func7, Try.ntmps7
    go_wp2_with fail
    try rw [← eW]
    clear eW
    refine (HTk.out _).mono ?_
    rintro r w2 ⟨rfl, hb2⟩
    have t0 : w2.heap[W.heap.size]? = some (NdB k d (.slice ao c.length cap)) := blk_below HB1.out.2 hb2
    have H2 : Hid (Below W.heap.size W w2 ∧ w2.heap[W.heap.size]? = some (NdB k d (.slice ao c.length cap))) := ⟨HB1.out.1.trans (hb2.mono HB1.out.1.size), t0⟩
    obtain ⟨⟨x0, x1, x2, x3, x4, x5, x6, x7⟩, xl⟩ := nd_cells t0
    clear hb2 t0 HTk
    go_wp2_with fail
    have H0 : Hid (TI W W.heap.size (w2.heap.size + 1) (NdB k d (.slice ao c.length cap)) (.slice (some ⟨w2.heap.size, 0, none⟩) 0 c.length) [] ((w2.alloc (.cells cur 37)).alloc (SlB (.slice (some ⟨w2.heap.size, 0, none⟩) 0 c.length)))) := by
      have s0 := H2.out.1.size
      have z1 : (w2.alloc (.cells cur 37)).heap.size = w2.heap.size + 1 := World.size_alloc _ _
      have b1 := below_new w2 (.cells cur 37)
      have b2 := below_new (w2.alloc (.cells cur 37)) (SlB (.slice (some ⟨w2.heap.size, 0, none⟩) 0 c.length))
      refine ⟨(H2.out.1.trans (b1.mono s0)).trans (b2.mono (by omega)), blk_below (blk_below H2.out.2 b1) b2, ?_, (rf_made w2 cur c.length hlc hcs).below b2, fun k e => ?_, by omega, fun p hp => by cases hp⟩
      · rw [← z1]
        exact new_at _ _
      · simp [Value.ownBlock] at e
        omega
    obtain ⟨W4, eW4⟩ : ∃ W4, (w2.alloc (.cells cur 37)).alloc (SlB (.slice (some ⟨w2.heap.size, 0, none⟩) 0 c.length)) = W4 := ⟨_, rfl⟩
    rw [eW4] at H0
    dsimp only [SlB] at eW4
    rw [eW4]
    clear eW4 hmk hcs x0 x1 x2 x3 x4 x5 x6 x7
    obtain ⟨g, hg⟩ : ∃ g, w2.heap.size + 1 = g := ⟨_, rfl⟩
    rw [hg] at H0 ⊢
    go_loopw [19] (fun iv wr => ∃ j : Nat, j ≤ c.length ∧ iv = .int .i64 j ∧ Hid (∃ v l, l.length = j ∧ fts l = toksL (c.take j) ∧ TI W W.heap.size g (NdB k d (.slice ao c.length cap)) v l wr)) (fun iv _ => c.length - (intOf iv).toNat)
    case atStart => exact ⟨0, Nat.zero_le _, rfl, _, [], rfl, by simp [fts, toksL], H0.out⟩
    case round =>
      obtain ⟨j, hj, rfl, HJ0⟩ := hrel
      obtain ⟨v, l, hl0, hl1, hJ⟩ := HJ0.out
      have HL0 : Hid (l.length = j) := hl0
      have HL1 : Hid (fts l = toksL (c.take j)) := hl1
      have HJ := show Hid _ from hJ
      obtain ⟨pv, cv, hv, _⟩ := hJ.rf.shape
      have hle1 : l.length ≤ 1000000000 := by omega
      clear hl0 hl1 HJ0
      subst hv
      by_cases hlt : j < c.length
      · have z1 : (j : Int) < c.length := by omega
        have z2 : (0 : Int) ≤ j := by omega
        obtain ⟨m, hm⟩ : ∃ m, c[j]? = some m := ⟨_, List.getElem?_eq_getElem hlt⟩
        obtain ⟨b, o, rfl, hbl, ao2, cap2, ⟨v0, v1, v2, v3, v4, v5, v6, v7⟩, hv⟩ := kid0 HQ.out HJ.out.bel hm
        have HC : Hid (∀ V, Below wr.heap.size wr V → Calls Try.prog 7 #[ndv m.k m.d (.slice ao2 m.c.length cap2)] V fun r w' => ∃ p : Fp, r = .returned (.func (.func p.f) #[] p.lb) ∧ p.ts = toks m ∧ Fok (fun k => V.heap.size ≤ k) w' p ∧ Below V.heap.size V w') := fun V hb => HIH.out m (List.mem_of_getElem? hm) _ V (hv.below (HJ.out.bel.trans (hb.mono HJ.out.bel.size)))
        have HS : Hid (∀ V1 (p : Fp) V2 q cp w3, Below wr.heap.size wr V1 → p.ts = toks m → Fok (fun k => wr.heap.size ≤ k) V1 p → Below V1.heap.size V1 V2 → Rf w3 (.slice (some ⟨q, 0, none⟩) (l.length + 1) cp) (l ++ [p]) → V2.grownBy w3 (Value.slice pv l.length cv).ownBlock → Nb V2 (.slice pv l.length cv) (.slice (some ⟨q, 0, none⟩) (l.length + 1) cp) → (w3.cell? ⟨g, 0, none⟩ = some (.slice pv l.length cv) ∧ w3.frozen? ⟨g, 0, none⟩ = false ∧ g < w3.heap.size) ∧ ∃ v l', l'.length = j + 1 ∧ fts l' = toksL (c.take (j + 1)) ∧ TI W W.heap.size g (NdB k d (.slice (some ⟨b, o, none⟩) c.length cap)) v l' (w3.setCell ⟨g, 0, none⟩ (.slice (some ⟨q, 0, none⟩) (l.length + 1) cp))) := fun V1 p V2 q cp w3 a1 a2 a3 a4 a5 a6 a7 => by
          obtain ⟨e1, e2⟩ := HJ.out.push a1 a3 a4 a5 a6 a7
          refine ⟨e1, _, l ++ [p], by rw [List.length_append, HL0.out]; rfl, ?_, e2⟩
          rw [toksL_take hm, ← HL1.out, ← a2]
          simp [fts]
        have HU : Hid (∀ V, Below wr.heap.size wr V → V.cell? ⟨g, 0, none⟩ = some (.slice pv l.length cv) ∧ g < V.heap.size ∧ Rf V (.slice pv l.length cv) l) := fun V hb => by
          have h := HJ.out.below hb
          exact ⟨blk_cell h.sl rfl, blk_lt h.sl, h.rf⟩
        have HA : Hid (Below wr.heap.size wr (wr.alloc (NdB m.k m.d (.slice ao2 m.c.length cap2)))) := below_new _ _
        clear hm hv hJ
        obtain ⟨u0, u1, _⟩ := HU.out wr (Below.refl _ _)
        go_wp2_with fail
        go_region_law (first | (refine step_fp (by rfl) _ _ (by rfl) (.slice pv l.length cv) l p (by rfl) ((HU.out _ (H5.out.1.trans ((below_new _ _).mono H5.out.1.size))).2.2) w5.heap.size 1 (by rfl) (new_at w5 _) hle1 ?_; intro q cp w3 h1 h2 h3; obtain ⟨⟨x1, x2, x3⟩, x4⟩ := HS.out _ p _ q cp w3 H5.out.1 H5.out.2.1 H5.out.2.2 (below_new _ _) h1 h2 h3; have HX := show Hid _ from x4; clear x4 h1 h2 h3) | (go_simp; go_at_call 7; refine (HC.out _ HA.out.drew).mono ?_; rintro r w5 ⟨p, rfl, hts, hok, hb5⟩; have hB5 : Below wr.heap.size wr w5 := HA.out.drew.trans (hb5.mono HA.out.size); have H5 : Hid (Below wr.heap.size wr w5 ∧ p.ts = toks m ∧ Fok (fun k => wr.heap.size ≤ k) w5 p) := ⟨hB5, hts, hok.1, hok.2.sub (fun k hk _ => Nat.le_trans HA.out.size hk)⟩; obtain ⟨d1, d2, _⟩ := HU.out w5 hB5; clear hb5 hB5 hts hok))
        all_goals (
          go_wp2_with fail
          exact ⟨⟨j + 1, hlt, by go_num, HX⟩, by simp [intOf]; omega⟩)
      · obtain rfl : j = c.length := by omega
        have z1 : ¬ ((c.length : Int) < c.length) := by omega
        go_wp2_with fail
        go_ret
        obtain ⟨ao3, cap3, e3, hlf, hob⟩ := HJ.out.rf.lf
        have hsl := HJ.out.sl
        rw [e3] at hsl hob
        have hvB := HJ.out.vB
        rw [e3] at hvB
        refine ⟨⟨20, #[.pointer (some ⟨g, 0, none⟩)], fts l⟩, rfl, ?_, ⟨ent_parts, parts_it _ _ g ao3 cap3 l hle1 hsl hlf (fun p hp => ⟨(HJ.out.ok p hp).1, (HJ.out.ok p hp).2.sub fun k hk _ => hk.1⟩) HJ.out.g0 (fun a ha => hvB _ (hob a ha))⟩, HJ.out.bel⟩
        rw [HTS.out, HL1.out, List.take_length]
theorem toks_any (n : Nd) (hsz : nsz n ≤ 100000000) : TkC n := by
  obtain ⟨s, hs⟩ : ∃ s, nsz n = s := ⟨_, rfl⟩
  induction s using Nat.strongRecOn generalizing n with
  | ind s ih => exact toks_step n hsz (fun m hm => ih (nsz m) (by rw [← hs]; exact nsz_kid hm) m (by have := nsz_kid hm; omega) rfl)
end Go.Proofs.Ytkigadnkclkopaa
