import Derived.Test.YthbgipmkdcffnaaLf
set_option linter.unusedVariables false
set_option linter.unusedSimpArgs false
namespace Go.Proofs.Ythbgipmkdcffnaa
open Go.RowKit

theorem al4 (W : World) (o1 o2 o3 o4 : Obj) : Below W.heap.size W ((((W.alloc o1).alloc o2).alloc o3).alloc o4) ∧ ((((W.alloc o1).alloc o2).alloc o3).alloc o4).heap[W.heap.size]? = some o1 ∧ ((((W.alloc o1).alloc o2).alloc o3).alloc o4).heap[W.heap.size + 1]? = some o2 ∧ ((((W.alloc o1).alloc o2).alloc o3).alloc o4).heap[W.heap.size + 1 + 1]? = some o3 ∧ ((((W.alloc o1).alloc o2).alloc o3).alloc o4).heap[W.heap.size + 1 + 1 + 1]? = some o4 := by
  have e1 := size_al W o1
  have e2 := size_al (W.alloc o1) o2
  have e3 := size_al ((W.alloc o1).alloc o2) o3
  have b1 := below3 W o1 o2 o3
  exact ⟨b1.trans ((below_new _ _).mono b1.size), alloc_at' (alloc_at' (alloc_at' (new_at _ _) _) _) _, alloc_at' (alloc_at' (by rw [← e1]; exact new_at _ _) _) _, alloc_at' (by rw [← e1, ← e2]; exact new_at _ _) _, by rw [← e1, ← e2, ← e3]; exact new_at _ _⟩
/-- The end of copied. -/
theorem CI.done {W : World} {k : Int} {d : Tv} {nv : Value} {c : List Nd} {vs : List Value} {cur : Array Value} {V : World} (h : CI W k d nv c c.length vs cur V) (hm : c.length + 1 ≤ maxLen) : ∀ w9, w9 = sets8 (V.setCells (W.heap.size + 1 + 1 + 1) (c.length * 8) (nc (.mk 99 tv0 []) (.slice none 0 0))) (W.heap.size + 1) k d (.slice (some ⟨W.heap.size + 1 + 1 + 1, 0, none⟩) c.length (c.length + 1)) →
    w9.heap[W.heap.size + 1]? = some (NdB k d (.slice (some ⟨W.heap.size + 1 + 1 + 1, 0, none⟩) c.length (c.length + 1))) ∧ Below W.heap.size W w9 ∧ CN (fun q => W.heap.size ≤ q) w9 (.mk k d c) (.slice (some ⟨W.heap.size + 1 + 1 + 1, 0, none⟩) c.length (c.length + 1)) := by
  rintro w9 rfl
  obtain ⟨cur', e1, e2, e3, e4⟩ := sets_blk (W.heap.size + 1 + 1 + 1) (nc (.mk 99 tv0 []) (.slice none 0 0)) (c.length * 8) V cur h.row
  have ks := sets_kp (W.heap.size + 1 + 1 + 1) (nc (.mk 99 tv0 []) (.slice none 0 0)) (c.length * 8) V
  have k8 := sets8_kp (V.setCells (W.heap.size + 1 + 1 + 1) (c.length * 8) (nc (.mk 99 tv0 []) (.slice none 0 0))) (W.heap.size + 1) k d (.slice (some ⟨W.heap.size + 1 + 1 + 1, 0, none⟩) c.length (c.length + 1))
  have hs := h.sz
  have b1 : Below W.heap.size W (V.setCells (W.heap.size + 1 + 1 + 1) (c.length * 8) (nc (.mk 99 tv0 []) (.slice none 0 0))) := Kp.low h.bel ks (fun q e => by omega) h.bel.size
  have hrc := h.rc
  have hcl := h.cl
  rw [List.take_length] at hrc hcl
  refine ⟨sets8_at (ks.blk h.rb (by omega)) _ _ _, Kp.low b1 k8 (fun q e => by omega) b1.size, ?_⟩
  rw [CN]
  refine ⟨vs, _, cur', rfl, by omega, hm, k8.blk e1 (by omega), e2.trans h.sz, ⟨hrc.1, fun j n s hj hsv i u hu => ?_⟩, ?_, CL.sub (fun q e => by omega) _ _ (CL.kp k8 (fun q e e2 => by omega) _ _ (CL.kp ks (fun q e e2 => by omega) _ _ hcl))⟩
  · have hjl := (List.getElem?_eq_some_iff.1 hj).1
    have hi : i < 8 := by
      have := (List.getElem?_eq_some_iff.1 hu).1
      simpa [nc] using this
    rw [e3 _ (.inl (by omega))]
    exact hrc.2 j n s hj hsv i u hu
  · have := e4 (by show c.length * 8 + 8 ≤ _; omega) 0 (.int .u8 99) rfl
    simpa using this
def CpC (n : Nd) : Prop := ∀ vn W, Nv W vn n → Calls Try.prog 15 #[vn] W fun r w' => ∃ sv, r = .returned (ndv n.k n.d sv) ∧ CN (fun q => W.heap.size ≤ q) w' n sv ∧ Below W.heap.size W w'
set_option maxRecDepth 100000 in
set_option maxHeartbeats 1000000 in
theorem copied_step (n : Nd) (hsz : nsz n ≤ 100000000) (IH : ∀ m, m ∈ n.c → CpC m) : CpC n := by
  intro vn W h
  have hlc := big_c hsz
  obtain ⟨ao, cap, rfl, q1, q2, q3, q4⟩ := h
  obtain ⟨k, d, c⟩ := n
  dsimp only [Nd.k, Nd.d, Nd.c] at *
  have HQ : Hid (Sn W ao c) := ⟨q3, q4⟩
  have HIH := show Hid _ from IH
  obtain ⟨cur, hcs, hmk⟩ := make_nd c.length hlc
  have hcI : (c.length : Int) ≤ 100000000 := by omega
  have H0 : Hid (CI W k d (.slice ao c.length cap) c 0 [] cur ((((W.alloc (NdB k d (.slice ao c.length cap))).alloc (NdB 0 tv0 (.slice none 0 0))).alloc (NdB k d (.slice (some ⟨W.heap.size + 1 + 1 + 1, 0, none⟩) c.length (c.length + 1)))).alloc (.cells cur 35))) := by
    obtain ⟨a1, a2, a3, a4, a5⟩ := al4 W (NdB k d (.slice ao c.length cap)) (NdB 0 tv0 (.slice none 0 0)) (NdB k d (.slice (some ⟨W.heap.size + 1 + 1 + 1, 0, none⟩) c.length (c.length + 1))) (.cells cur 35)
    exact ⟨a1, a2, a3, a4, a5, hcs, ⟨rfl, fun j n s hj => by simp at hj⟩, by rw [List.take_zero, CL]⟩
  clear q3 q4 IH
  go_enter Try.func15, Try.ntmps15
  go_wp2_with fail
  obtain ⟨W4, eW4⟩ : ∃ W4, (((W.alloc (NdB k d (.slice ao c.length cap))).alloc (NdB 0 tv0 (.slice none 0 0))).alloc (NdB k d (.slice (some ⟨W.heap.size + 1 + 1 + 1, 0, none⟩) c.length (c.length + 1)))).alloc (.cells cur 35) = W4 := ⟨_, rfl⟩
  rw [eW4] at H0
  dsimp only [NdB, tv0] at eW4
  rw [eW4]
  clear eW4 hmk
  go_loopw [4] (fun iv wr => ∃ j : Nat, j ≤ c.length ∧ iv = .int .i64 j ∧ Hid (∃ vs cur, CI W k d (.slice ao c.length cap) c j vs cur wr)) (fun iv _ => c.length - (intOf iv).toNat)
  case atStart => exact ⟨0, Nat.zero_le _, rfl, _, _, H0.out⟩
  case round =>
    obtain ⟨j, hj, rfl, HJ0⟩ := hrel
    obtain ⟨vs, cur2, hJ⟩ := HJ0.out
    have HJ := show Hid _ from hJ
    obtain ⟨⟨x0, x1, x2, x3, x4, x5, x6, x7⟩, xl⟩ := nd_cells hJ.xb
    obtain ⟨⟨y0, y1, y2, y3, y4, y5, y6, y7⟩, yl⟩ := nd_cells hJ.yb
    obtain ⟨⟨r0, r1, r2, r3, r4, r5, r6, r7⟩, rl⟩ := nd_cells hJ.rb
    obtain ⟨rf0, rf1, rf2, rf3, rf4, rf5, rf6, rf7⟩ := nd_frozen hJ.rb
    obtain ⟨u0, u1, u2, u3, u4, u5, u6, u7, ⟨s0, s1, s2, s3, s4, s5, s6, s7⟩, sl⟩ := hJ.slot hj
    have fr : ∀ i, wr.frozen? ⟨W.heap.size + 1 + 1 + 1, i, none⟩ = false := fun i => blk_frozen hJ.row
    clear hJ HJ0
    by_cases hlt : j < c.length
    · have z1 : (j : Int) < c.length := by omega
      have z2 : (0 : Int) ≤ j := by omega
      obtain ⟨m, hm⟩ : ∃ m, c[j]? = some m := ⟨_, List.getElem?_eq_getElem hlt⟩
      obtain ⟨b, o, rfl, hbl, ao2, cap2, ⟨v0, v1, v2, v3, v4, v5, v6, v7⟩, hv⟩ := kid0 HQ.out HJ.out.bel hm
      have HC : Hid (∀ V, Below wr.heap.size wr V → Calls Try.prog 15 #[ndv m.k m.d (.slice ao2 m.c.length cap2)] V fun r w' => ∃ sv, r = .returned (ndv m.k m.d sv) ∧ CN (fun q => V.heap.size ≤ q) w' m sv ∧ Below V.heap.size V w') := fun V hb => HIH.out m (List.mem_of_getElem? hm) _ V (hv.below (HJ.out.bel.trans (hb.mono HJ.out.bel.size)))
      have HS : Hid (∀ V w' x, Below wr.heap.size wr V → Below V.heap.size V w' → CN (fun q => V.heap.size ≤ q) w' m x → ∃ vs cur, CI W k d (.slice (some ⟨b, o, none⟩) c.length cap) c (j + 1) vs cur (w'.setCells (W.heap.size + 1 + 1 + 1) (j * 8) (nc m x))) := fun V w' x h1 h2 h3 => by
        have h4 := (HJ.out.below h1).below h2
        obtain ⟨c', hc'⟩ := h4.set hm (CN.sub (fun q e => by have := h1.size; omega) _ _ h3)
        exact ⟨_, c', hc'⟩
      have HU : Hid (∀ V, Below wr.heap.size wr V → ∃ u0 u1 u2 u3 u4 u5 u6 u7, (V.cell? ⟨W.heap.size + 1 + 1 + 1, j * 8, none⟩ = some u0 ∧ V.cell? ⟨W.heap.size + 1 + 1 + 1, j * 8 + 1, none⟩ = some u1 ∧ V.cell? ⟨W.heap.size + 1 + 1 + 1, j * 8 + 2, none⟩ = some u2 ∧ V.cell? ⟨W.heap.size + 1 + 1 + 1, j * 8 + 3, none⟩ = some u3 ∧ V.cell? ⟨W.heap.size + 1 + 1 + 1, j * 8 + 4, none⟩ = some u4 ∧ V.cell? ⟨W.heap.size + 1 + 1 + 1, j * 8 + 5, none⟩ = some u5 ∧ V.cell? ⟨W.heap.size + 1 + 1 + 1, j * 8 + 6, none⟩ = some u6 ∧ V.cell? ⟨W.heap.size + 1 + 1 + 1, j * 8 + 7, none⟩ = some u7) ∧ W.heap.size + 1 + 1 + 1 < V.heap.size ∧ (∀ i, V.frozen? ⟨W.heap.size + 1 + 1 + 1, i, none⟩ = false) ∧ V.cell? ⟨W.heap.size, 7, none⟩ = some (.slice (some ⟨b, o, none⟩) c.length cap) ∧ V.cell? ⟨W.heap.size + 1 + 1, 7, none⟩ = some (.slice (some ⟨W.heap.size + 1 + 1 + 1, 0, none⟩) c.length (c.length + 1)) ∧ b < V.heap.size) := fun V hb => by
        have h := HJ.out.below hb
        obtain ⟨u0, u1, u2, u3, u4, u5, u6, u7, h1, h2⟩ := h.slot hj
        exact ⟨u0, u1, u2, u3, u4, u5, u6, u7, h1, h2, fun i => blk_frozen h.row, (nd_cells h.xb).1.2.2.2.2.2.2.2, (nd_cells h.yb).1.2.2.2.2.2.2.2, Nat.lt_of_lt_of_le hbl hb.size⟩
      have HV : Hid (∀ V, Below wr.heap.size wr V → V.cell? ⟨b, o + j * 8, none⟩ = some (.int .u8 m.k) ∧ V.cell? ⟨b, o + j * 8 + 1, none⟩ = some (.int .u8 m.d.k) ∧ V.cell? ⟨b, o + j * 8 + 2, none⟩ = some (.string m.d.t) ∧ V.cell? ⟨b, o + j * 8 + 3, none⟩ = some (.int .i64 m.d.a) ∧ V.cell? ⟨b, o + j * 8 + 4, none⟩ = some (.int .i64 m.d.l) ∧ V.cell? ⟨b, o + j * 8 + 5, none⟩ = some (.int .i64 m.d.c) ∧ V.cell? ⟨b, o + j * 8 + 6, none⟩ = some (.int .i64 m.d.f) ∧ V.cell? ⟨b, o + j * 8 + 7, none⟩ = some (.slice ao2 m.c.length cap2)) := fun V hb => by
        have tr : ∀ i u, wr.cell? ⟨b, i, none⟩ = some u → V.cell? ⟨b, i, none⟩ = some u := fun i u hu => (hb.cell (World.block_lt_of_cell? _ _ hu)).trans hu
        exact ⟨tr _ _ v0, tr _ _ v1, tr _ _ v2, tr _ _ v3, tr _ _ v4, tr _ _ v5, tr _ _ v6, tr _ _ v7⟩
      clear hm hv s0 s1 s2 s3 s4 s5 s6 s7 fr r0 r1 r2 r3 r4 r5 r6 r7 rf0 rf1 rf2 rf3 rf4 rf5 rf6 rf7 x0 x1 x2 x3 x4 x5 x6 y0 y1 y2 y3 y4 y5 y6
      have z3 : (j : Int) < (c.length : Int) + 1 := by omega
      go_wp2_with fail
      go_region_law (first | (go_simp; go_at_call 15; refine (HC.out _ (Below.refl _ _).drew).mono ?_; rintro r w5 ⟨sv5, rfl, hcn5, hb5⟩; obtain ⟨p5, l5, c5, hsv5⟩ : ∃ p5 l5 c5, sv5 = .slice p5 l5 c5 := (by obtain ⟨a1, a2, e, _⟩ := nv_slot (CN.see _ _ hcn5); exact ⟨a1, _, a2, e⟩); subst hsv5; have hB5 : Below wr.heap.size wr w5 := (Below.refl _ _).drew.trans (hb5.mono (Nat.le_refl _)); obtain ⟨q0, q1, q2, q3, q4, q5, q6, q7, ⟨t0, t1, t2, t3, t4, t5, t6, t7⟩, tl, tf, tx, ty, tb⟩ := HU.out w5 hB5; obtain ⟨k0, k1, k2, k3, k4, k5, k6, k7⟩ := HV.out w5 hB5; have H5 : Hid (∃ vs cur, CI W k d (.slice (some ⟨b, o, none⟩) c.length cap) c (j + 1) vs cur (w5.setCells (W.heap.size + 1 + 1 + 1) (j * 8) (nc m (.slice p5 l5 c5)))) := HS.out _ w5 _ (Below.refl _ _).drew hb5 hcn5; clear hcn5 hb5 hB5))
      all_goals (
        go_wp2_with fail
        exact ⟨⟨j + 1, hlt, by go_num, by rw [← sets_eq]; exact H5.out⟩, by simp [intOf]; omega⟩)
    · obtain rfl : j = c.length := by omega
      have z1 : ¬ ((c.length : Int) < c.length) := by omega
      have z3 : (c.length : Int) < (c.length : Int) + 1 := by omega
      have HD := show Hid _ from CI.done HJ.out (by show (c.length + 1 : Nat) ≤ 9223372036854775807; omega)
      go_wp2_with fail
      obtain ⟨w9, e9⟩ : ∃ w9, sets8 (wr.setCells (W.heap.size + 1 + 1 + 1) (c.length * 8) (nc (.mk 99 tv0 []) (.slice none 0 0))) (W.heap.size + 1) k d (.slice (some ⟨W.heap.size + 1 + 1 + 1, 0, none⟩) c.length (c.length + 1)) = w9 := ⟨_, rfl⟩
      obtain ⟨h1, h2, h3⟩ := HD.out w9 e9.symm
      rw [sets_eq] at e9
      dsimp only [sets8, Nd.k, Nd.d, tv0] at e9
      rw [e9]
      obtain ⟨⟨g0, g1, g2, g3, g4, g5, g6, g7⟩, gl⟩ := nd_cells h1
      refine bodyPost_ret (v := ndv k d (.slice (some ⟨W.heap.size + 1 + 1 + 1, 0, none⟩) c.length (c.length + 1))) (by simp [results, Try.f15, go_sem, g0, g1, g2, g3, g4, g5, g6, g7]) rfl ?_
      exact ⟨_, rfl, h3, h2⟩
theorem copied_any (n : Nd) (hsz : nsz n ≤ 100000000) : CpC n := by
  obtain ⟨s, hs⟩ : ∃ s, nsz n = s := ⟨_, rfl⟩
  induction s using Nat.strongRecOn generalizing n with
  | ind s ih => exact copied_step n hsz (fun m hm => ih (nsz m) (by rw [← hs]; exact nsz_kid hm) m (by have := nsz_kid hm; omega) rfl)

end Go.Proofs.Ythbgipmkdcffnaa
