import Derived.Test.YthbgipmkdcffnaaLf2
set_option linter.unusedVariables false
set_option linter.unusedSimpArgs false
namespace Go.Proofs.Ythbgipmkdcffnaa
open Go.RowKit

def KeC (n : Nd) : Prop := ∀ sv vx W O, CN O W n sv → Nv W vx n → Calls Try.prog 22 #[ndv n.k n.d sv, vx] W fun r w' => r = .returned (.bool true) ∧ Below W.heap.size W w'
set_option maxRecDepth 100000 in
set_option maxHeartbeats 1000000 in
theorem kept_step (n : Nd) (hsz : nsz n ≤ 100000000) (IH : ∀ m, m ∈ n.c → KeC m) : KeC n := by
  intro sv vx W O hc h
  have hlc := big_c hsz
  obtain ⟨ao, cap, rfl, q1, q2, q3, q4⟩ := h
  obtain ⟨k, d, c⟩ := n
  dsimp only [Nd.k, Nd.d, Nd.c] at *
  rw [CN] at hc
  obtain ⟨vs, rb, cur, rfl, hO, hmx, hrow, hcs, hrc, h99, hcl⟩ := hc
  have HQ : Hid (Sn W ao c) := ⟨q3, q4⟩
  have HR : Hid (W.heap[rb]? = some (.cells cur 35 (0, 0)) ∧ cur.size = (c.length + 1) * 8 ∧ RC cur c vs ∧ cur[c.length * 8]? = some (.int .u8 99) ∧ CL O W c vs) := ⟨hrow, hcs, hrc, h99, hcl⟩
  have HIH := show Hid _ from IH
  have hcI : (c.length : Int) ≤ 100000000 := by omega
  have b4 := below_new W (NdB k d (.slice (some ⟨rb, 0, none⟩) c.length (c.length + 1)))
  have b5 := below_new (W.alloc (NdB k d (.slice (some ⟨rb, 0, none⟩) c.length (c.length + 1)))) (NdB k d (.slice ao c.length cap))
  obtain ⟨W2, eW2⟩ : ∃ W2, (W.alloc (NdB k d (.slice (some ⟨rb, 0, none⟩) c.length (c.length + 1)))).alloc (NdB k d (.slice ao c.length cap)) = W2 := ⟨_, rfl⟩
  have H2 : Hid (Below W.heap.size W W2 ∧ W2.heap[W.heap.size]? = some (NdB k d (.slice (some ⟨rb, 0, none⟩) c.length (c.length + 1))) ∧ W2.heap[W.heap.size + 1]? = some (NdB k d (.slice ao c.length cap))) := by
    rw [← eW2]
    exact ⟨b4.trans (b5.mono b4.size), alloc_at' (new_at _ _) _, by rw [← size_al W (NdB k d (.slice (some ⟨rb, 0, none⟩) c.length (c.length + 1)))]; exact new_at _ _⟩
  obtain ⟨⟨i0, i1, i2, i3, i4, i5, i6, i7⟩, il⟩ := nd_cells H2.out.2.1
  obtain ⟨⟨j0, j1, j2, j3, j4, j5, j6, j7⟩, jl⟩ := nd_cells H2.out.2.2
  clear q3 q4 IH b4 b5 hrow hcs hrc h99 hcl hO
  go_enter Try.func22, Try.ntmps22
  go_wp2_with fail
  try rw [eW2]
  clear eW2 i0 i1 i2 i3 i4 i5 i6 i7 il j0 j1 j2 j3 j4 j5 j6 j7 jl
  go_loopw [5] (fun iv wr => ∃ j : Nat, j ≤ c.length ∧ iv = .int .i64 j ∧ Hid (Below W2.heap.size W2 wr)) (fun iv _ => c.length - (intOf iv).toNat)
  case atStart => exact ⟨0, Nat.zero_le _, rfl, Below.refl _ _⟩
  case round =>
    obtain ⟨j, hj, rfl, HJ⟩ := hrel
    have hbW : Below W.heap.size W wr := H2.out.1.trans (HJ.out.mono H2.out.1.size)
    have HbW := show Hid _ from hbW
    have y7 : wr.cell? ⟨W.heap.size, 7, none⟩ = some (.slice (some ⟨rb, 0, none⟩) c.length (c.length + 1)) := (nd_cells (blk_below H2.out.2.1 HJ.out)).1.2.2.2.2.2.2.2
    have x7 : wr.cell? ⟨W.heap.size + 1, 7, none⟩ = some (.slice ao c.length cap) := (nd_cells (blk_below H2.out.2.2 HJ.out)).1.2.2.2.2.2.2.2
    have xl : W.heap.size + 1 < wr.heap.size := World.block_lt_of_cell? _ _ x7
    have yl : W.heap.size < wr.heap.size := by omega
    have rl : rb < wr.heap.size := Nat.lt_of_lt_of_le (blk_lt HR.out.1) hbW.size
    by_cases hlt : j < c.length
    · have z1 : (j : Int) < c.length := by omega
      have z2 : (0 : Int) ≤ j := by omega
      obtain ⟨m, hm⟩ : ∃ m, c[j]? = some m := ⟨_, List.getElem?_eq_getElem hlt⟩
      obtain ⟨b, o, rfl, hbl, ao2, cap2, ⟨v0, v1, v2, v3, v4, v5, v6, v7⟩, hv⟩ := kid0 HQ.out hbW hm
      obtain ⟨x, hx, hcn⟩ := CL.at HR.out.2.2.2.2 hm
      obtain ⟨ao3, cap3, hxs, _⟩ := nv_slot (CN.see _ _ hcn)
      subst hxs
      have hc : ∀ i u, (nc m (.slice ao3 m.c.length cap3))[i]? = some u → wr.cell? ⟨rb, j * 8 + i, none⟩ = some u := fun i u hu => blk_cell (blk_below HR.out.1 hbW) (HR.out.2.2.1.2 j m _ hm hx i u hu)
      have u0 : wr.cell? ⟨rb, j * 8, none⟩ = some (.int .u8 m.k) := hc 0 _ rfl
      have u1 : wr.cell? ⟨rb, j * 8 + 1, none⟩ = some (.int .u8 m.d.k) := hc 1 _ rfl
      have u2 : wr.cell? ⟨rb, j * 8 + 2, none⟩ = some (.string m.d.t) := hc 2 _ rfl
      have u3 : wr.cell? ⟨rb, j * 8 + 3, none⟩ = some (.int .i64 m.d.a) := hc 3 _ rfl
      have u4 : wr.cell? ⟨rb, j * 8 + 4, none⟩ = some (.int .i64 m.d.l) := hc 4 _ rfl
      have u5 : wr.cell? ⟨rb, j * 8 + 5, none⟩ = some (.int .i64 m.d.c) := hc 5 _ rfl
      have u6 : wr.cell? ⟨rb, j * 8 + 6, none⟩ = some (.int .i64 m.d.f) := hc 6 _ rfl
      have u7 : wr.cell? ⟨rb, j * 8 + 7, none⟩ = some (.slice ao3 m.c.length cap3) := hc 7 _ rfl
      have HC : Hid (∀ V, Below wr.heap.size wr V → Calls Try.prog 22 #[ndv m.k m.d (.slice ao3 m.c.length cap3), ndv m.k m.d (.slice ao2 m.c.length cap2)] V fun r w' => r = .returned (.bool true) ∧ Below V.heap.size V w') := fun V hb => by
        have hb2 := HbW.out.trans (hb.mono HbW.out.size)
        exact HIH.out m (List.mem_of_getElem? hm) _ _ V O (hcn.below hb2) (hv.below hb2)
      have HK : Hid (∀ V, Below wr.heap.size wr V → (V.cell? ⟨W.heap.size, 7, none⟩ = some (.slice (some ⟨rb, 0, none⟩) c.length (c.length + 1)) ∧ V.cell? ⟨W.heap.size + 1, 7, none⟩ = some (.slice (some ⟨b, o, none⟩) c.length cap)) ∧ (V.cell? ⟨rb, j * 8, none⟩ = some (.int .u8 m.k) ∧ V.cell? ⟨rb, j * 8 + 1, none⟩ = some (.int .u8 m.d.k) ∧ V.cell? ⟨rb, j * 8 + 2, none⟩ = some (.string m.d.t) ∧ V.cell? ⟨rb, j * 8 + 3, none⟩ = some (.int .i64 m.d.a) ∧ V.cell? ⟨rb, j * 8 + 4, none⟩ = some (.int .i64 m.d.l) ∧ V.cell? ⟨rb, j * 8 + 5, none⟩ = some (.int .i64 m.d.c) ∧ V.cell? ⟨rb, j * 8 + 6, none⟩ = some (.int .i64 m.d.f) ∧ V.cell? ⟨rb, j * 8 + 7, none⟩ = some (.slice ao3 m.c.length cap3)) ∧ (V.cell? ⟨b, o + j * 8, none⟩ = some (.int .u8 m.k) ∧ V.cell? ⟨b, o + j * 8 + 1, none⟩ = some (.int .u8 m.d.k) ∧ V.cell? ⟨b, o + j * 8 + 2, none⟩ = some (.string m.d.t) ∧ V.cell? ⟨b, o + j * 8 + 3, none⟩ = some (.int .i64 m.d.a) ∧ V.cell? ⟨b, o + j * 8 + 4, none⟩ = some (.int .i64 m.d.l) ∧ V.cell? ⟨b, o + j * 8 + 5, none⟩ = some (.int .i64 m.d.c) ∧ V.cell? ⟨b, o + j * 8 + 6, none⟩ = some (.int .i64 m.d.f) ∧ V.cell? ⟨b, o + j * 8 + 7, none⟩ = some (.slice ao2 m.c.length cap2)) ∧ Below wr.heap.size wr V) := fun V hb => by
        have tr : ∀ q i u, wr.cell? ⟨q, i, none⟩ = some u → V.cell? ⟨q, i, none⟩ = some u := fun q i u hu => (hb.cell (World.block_lt_of_cell? _ _ hu)).trans hu
        exact ⟨⟨tr _ _ _ y7, tr _ _ _ x7⟩, ⟨tr _ _ _ u0, tr _ _ _ u1, tr _ _ _ u2, tr _ _ _ u3, tr _ _ _ u4, tr _ _ _ u5, tr _ _ _ u6, tr _ _ _ u7⟩, ⟨tr _ _ _ v0, tr _ _ _ v1, tr _ _ _ v2, tr _ _ _ v3, tr _ _ _ v4, tr _ _ _ v5, tr _ _ _ v6, tr _ _ _ v7⟩, hb⟩
      clear hm hv hx hcn hc hbW
      go_wp2_with fail
      go_region_held3 (fun V => (V.cell? ⟨W.heap.size, 7, none⟩ = some (.slice (some ⟨rb, 0, none⟩) c.length (c.length + 1)) ∧ V.cell? ⟨W.heap.size + 1, 7, none⟩ = some (.slice (some ⟨b, o, none⟩) c.length cap)) ∧ (V.cell? ⟨rb, j * 8, none⟩ = some (.int .u8 m.k) ∧ V.cell? ⟨rb, j * 8 + 1, none⟩ = some (.int .u8 m.d.k) ∧ V.cell? ⟨rb, j * 8 + 2, none⟩ = some (.string m.d.t) ∧ V.cell? ⟨rb, j * 8 + 3, none⟩ = some (.int .i64 m.d.a) ∧ V.cell? ⟨rb, j * 8 + 4, none⟩ = some (.int .i64 m.d.l) ∧ V.cell? ⟨rb, j * 8 + 5, none⟩ = some (.int .i64 m.d.c) ∧ V.cell? ⟨rb, j * 8 + 6, none⟩ = some (.int .i64 m.d.f) ∧ V.cell? ⟨rb, j * 8 + 7, none⟩ = some (.slice ao3 m.c.length cap3)) ∧ (V.cell? ⟨b, o + j * 8, none⟩ = some (.int .u8 m.k) ∧ V.cell? ⟨b, o + j * 8 + 1, none⟩ = some (.int .u8 m.d.k) ∧ V.cell? ⟨b, o + j * 8 + 2, none⟩ = some (.string m.d.t) ∧ V.cell? ⟨b, o + j * 8 + 3, none⟩ = some (.int .i64 m.d.a) ∧ V.cell? ⟨b, o + j * 8 + 4, none⟩ = some (.int .i64 m.d.l) ∧ V.cell? ⟨b, o + j * 8 + 5, none⟩ = some (.int .i64 m.d.c) ∧ V.cell? ⟨b, o + j * 8 + 6, none⟩ = some (.int .i64 m.d.f) ∧ V.cell? ⟨b, o + j * 8 + 7, none⟩ = some (.slice ao2 m.c.length cap2)) ∧ Below wr.heap.size wr V) (first | (exact HK.out _ (by assumption)) | (exact HK.out _ (Below.refl _ _)) | (exact HK.out _ (Below.refl _ _).drew) | go_keep) (first | (go_at_call 22; refine (HC.out _ (by first | assumption | exact (Below.refl _ _).drew)).mono ?_; rintro e w7 ⟨rfl, hb7⟩; have hB7 := (by first | exact (Below.refl wr.heap.size wr).drew.trans (hb7.mono (Nat.le_refl _)) | exact (by assumption : Below wr.heap.size wr _).trans (hb7.mono (Below.size (by assumption))) : Below wr.heap.size wr w7)))
      all_goals (
        go_wp2_with fail
        exact ⟨⟨j + 1, hlt, by go_num, HJ.out.trans (hB7.mono HJ.out.size)⟩, by simp [intOf]; omega⟩)
    · obtain rfl : j = c.length := by omega
      have z1 : ¬ ((c.length : Int) < c.length) := by omega
      have z3 : (c.length : Int) < (c.length : Int) + 1 := by omega
      have u0 : wr.cell? ⟨rb, c.length * 8, none⟩ = some (.int .u8 99) := blk_cell (blk_below HR.out.1 hbW) HR.out.2.2.2.1
      clear hbW
      go_wp2_with fail
      go_ret
      exact ⟨rfl, HbW.out⟩
theorem kept_any (n : Nd) (hsz : nsz n ≤ 100000000) : KeC n := by
  obtain ⟨s, hs⟩ : ∃ s, nsz n = s := ⟨_, rfl⟩
  induction s using Nat.strongRecOn generalizing n with
  | ind s ih => exact kept_step n hsz (fun m hm => ih (nsz m) (by rw [← hs]; exact nsz_kid hm) m (by have := nsz_kid hm; omega) rfl)

end Go.Proofs.Ythbgipmkdcffnaa
