import Derived.Test.YtkigadnkclkopaaGreatPa
set_option linter.unusedVariables false
set_option linter.unusedSimpArgs false
namespace Go.Proofs.YtkigadnkclkopaaGreat
open Go.RowKit

theorem nd_new {w : World} (k : Int) (d : Tv) (s : Value) : (w.alloc (NdB k d s)).heap[w.heap.size]? = some (NdB k d s) := new_at _ _
set_option maxHeartbeats 4000000 in
set_option maxRecDepth 100000 in
theorem sawake_any (W : World) : Calls Tryz.prog 5 #[] W fun r w' => r = .returned (.bool true) ∧ Below W.heap.size W w' := by
  obtain ⟨E1, r1⟩ := aw_run1
  obtain ⟨E3, r3⟩ := aw_run3
  have HK : Hid (∀ (s : ByteArray) (V : World), Below W.heap.size W V → Calls Tryz.prog 14 #[.string s] V fun r w' => r = .returned (.agg #[.int .u8 2, .string s, .int .i64 0, .int .i64 0, .int .i64 0, .int .i64 0]) ∧ Below W.heap.size W w') := fun s V hb => (lkey_any s V).mono (fun r w' ⟨h1, h2⟩ => ⟨h1, hb.trans (h2.mono hb.size)⟩)
  have HS : Hid (∀ (s : ByteArray) (V : World), Below W.heap.size W V → Calls Tryz.prog 16 #[.string s] V fun r w' => r = .returned (.agg #[.int .u8 6, .string s, .int .i64 0, .int .i64 0, .int .i64 0, .int .i64 0]) ∧ Below W.heap.size W w') := fun s V hb => (lsign_any s V).mono (fun r w' ⟨h1, h2⟩ => ⟨h1, hb.trans (h2.mono hb.size)⟩)
  have HM : Hid (∀ (s : ByteArray) (V : World), Below W.heap.size W V → Calls Tryz.prog 15 #[.string s] V fun r w' => r = .returned (.agg #[.int .u8 1, .string s, .int .i64 0, .int .i64 0, .int .i64 0, .int .i64 0]) ∧ Below W.heap.size W w') := fun s V hb => (lname_any s V).mono (fun r w' ⟨h1, h2⟩ => ⟨h1, hb.trans (h2.mono hb.size)⟩)
  have HA : Hid (∀ V, Below W.heap.size W V → Below W.heap.size W (V.alloc (.cells (tcs aw).toArray 28)) ∧ Calls Tryz.prog 6 #[.slice (some ⟨V.heap.size, 0, none⟩) 7 7] (V.alloc (.cells (tcs aw).toArray 28)) fun e w' => Below W.heap.size W w' ∧ Lt w' (some ⟨V.heap.size, 0, none⟩) aw ∧ ∃ (d : Tv) (p : Option Addr) (cv : Nat), e = .returned (.tuple #[ndv 1 d (.slice p 5 cv), .int .i64 0, .int .i64 0])) := fun V hb => by
    have hb2 : Below W.heap.size W (V.alloc (.cells (tcs aw).toArray 28)) := hb.alloc hb.size _
    refine ⟨hb2, (prg_any (l := aw) (cap := 7) (lt_new V aw) (by decide) aw_run).mono ?_⟩
    rintro e w' ⟨hbl, n, p, cv, he, _, h1, _⟩
    have ht := aw_tree
    unfold awN at ht
    rw [h1 rfl] at ht
    simp only [Option.map_some, Option.some.injEq, Prod.mk.injEq] at ht
    refine ⟨hb2.trans (hbl.mono hb2.size), (lt_new V aw).below hbl, n.d, p, cv, ?_⟩
    rw [he, ht.1, ht.2]
    rfl
  have HB : Hid (∀ q V, Lt V (some ⟨q, 0, none⟩) aw → Below W.heap.size W V → Calls Tryz.prog 6 #[.slice (some ⟨q, 6, none⟩) 6 6] V fun e w' => Below W.heap.size W w' ∧ Below V.heap.size V w' ∧ Lt w' (some ⟨q, 0, none⟩) aw ∧ ∃ (p : Option Addr) (cv : Nat), e = .returned (.tuple #[ndv 0 tv0 (.slice p 0 cv), .int .i64 120, .int .i64 0])) := fun q V hl hb => by
    have := prg_any (cap := 6) (hl.drop 1) (by decide) r1
    refine this.mono ?_
    rintro e w' ⟨hbl, n, p, cv, he, _, _, h1⟩
    obtain rfl := h1 (by decide)
    exact ⟨hb.trans (hbl.mono hb.size), hbl, hl.below hbl, p, cv, he⟩
  have HC : Hid (∀ q V, Lt V (some ⟨q, 0, none⟩) aw → Below W.heap.size W V → Calls Tryz.prog 6 #[.slice (some ⟨q, 0, none⟩) 3 7] V fun e w' => Below W.heap.size W w' ∧ Below V.heap.size V w' ∧ ∃ (p : Option Addr) (cv : Nat), e = .returned (.tuple #[ndv 0 tv0 (.slice p 0 cv), .int .i64 121, .int .i64 3])) := fun q V hl hb => by
    have := prg_any (cap := 7) (hl.take 3) (by decide) r3
    refine this.mono ?_
    rintro e w' ⟨hbl, n, p, cv, he, _, _, h1⟩
    obtain rfl := h1 (by decide)
    exact ⟨hb.trans (hbl.mono hb.size), hbl, p, cv, he⟩
  have H0 : Hid (Below W.heap.size W W) := Below.refl _ _
  have HD : Hid (∀ V o, Below W.heap.size W V → Below W.heap.size W (V.alloc o)) := fun V o hb => hb.alloc hb.size _
  clear r1 r3
  go_enter Tryz.func5, Tryz.ntmps5
  go_wp2_with fail
  refine (HK.out _ _ H0.out).mono ?_
  rintro r w1 ⟨rfl, hb1⟩
  have H1 := show Hid _ from hb1
  clear hb1
  go_wp2_with fail
  refine (HM.out _ _ H1.out).mono ?_
  rintro r w2 ⟨rfl, hb2⟩
  have H2 := show Hid _ from hb2
  clear hb2
  go_wp2_with fail
  refine (HS.out _ _ H2.out).mono ?_
  rintro r w3 ⟨rfl, hb3⟩
  have H3 := show Hid _ from hb3
  clear hb3
  go_wp2_with fail
  refine (HK.out _ _ H3.out).mono ?_
  rintro r w4 ⟨rfl, hb4⟩
  have H4 := show Hid _ from hb4
  clear hb4
  go_wp2_with fail
  refine (HK.out _ _ H4.out).mono ?_
  rintro r w5 ⟨rfl, hb5⟩
  have H5 := show Hid _ from hb5
  clear hb5
  go_wp2_with fail
  refine (HK.out _ _ H5.out).mono ?_
  rintro r w6 ⟨rfl, hb6⟩
  have H6 := show Hid _ from hb6
  clear hb6
  go_wp2_with fail
  refine (HS.out _ _ H6.out).mono ?_
  rintro r w7 ⟨rfl, hb7⟩
  have H7 := show Hid _ from hb7
  clear hb7 H0 H1 H2 H3 H4 H5 H6 HK HS HM
  go_wp2_with fail
  refine ((HA.out w7 H7.out).2).mono ?_
  rintro e w8 ⟨hb8, hl8, d, p, cv, rfl⟩
  have HL8 : Hid (Lt w8 (some ⟨w7.heap.size, 0, none⟩) aw) := hl8
  have H8 := show Hid _ from hb8
  clear hb8 hl8
  go_wp2_with fail
  obtain ⟨V9, e9⟩ : ∃ V9, w8.alloc (NdB 1 d (.slice p 5 cv)) = V9 := ⟨_, rfl⟩
  have hn9 : V9.heap[w8.heap.size]? = some (NdB 1 d (.slice p 5 cv)) := by rw [← e9]; exact new_at _ _
  have H9 : Hid (Below W.heap.size W V9 ∧ Lt V9 (some ⟨w7.heap.size, 0, none⟩) aw ∧ V9.heap[w8.heap.size]? = some (NdB 1 d (.slice p 5 cv))) := ⟨by rw [← e9]; exact HD.out _ _ H8.out, by rw [← e9]; exact Lt.below (l := aw) HL8.out ((Below.refl _ _).alloc (Nat.le_refl _) _), hn9⟩
  dsimp only [NdB] at e9
  rw [e9]
  clear HL8 H8 hn9 HA H7 e9
  refine (HB.out _ _ H9.out.2.1 H9.out.1).mono ?_
  rintro e w10 ⟨hb10, hbb, hl10, p2, cv2, rfl⟩
  have H10 : Hid (Below W.heap.size W w10 ∧ Lt w10 (some ⟨w7.heap.size, 0, none⟩) aw ∧ w10.heap[w8.heap.size]? = some (NdB 1 d (.slice p 5 cv))) := ⟨hb10, hl10, blk_below H9.out.2.2 hbb⟩
  clear hb10 hbb hl10 H9 HB
  go_wp2_with fail
  obtain ⟨V11, e11⟩ : ∃ V11, w10.alloc (NdB 0 tv0 (.slice p2 0 cv2)) = V11 := ⟨_, rfl⟩
  have hb11 : Below w10.heap.size w10 V11 := by rw [← e11]; exact (Below.refl _ _).alloc (Nat.le_refl _) _
  have H11 : Hid (Below W.heap.size W V11 ∧ Lt V11 (some ⟨w7.heap.size, 0, none⟩) aw ∧ V11.heap[w8.heap.size]? = some (NdB 1 d (.slice p 5 cv)) ∧ V11.heap[w10.heap.size]? = some (NdB 0 tv0 (.slice p2 0 cv2))) := ⟨by rw [← e11]; exact HD.out _ _ H10.out.1, H10.out.2.1.below hb11, blk_below H10.out.2.2 hb11, by rw [← e11]; exact new_at _ _⟩
  dsimp only [NdB] at e11
  try rw [e11]
  clear hb11 H10 e11
  refine (HC.out _ _ H11.out.2.1 H11.out.1).mono ?_
  rintro e w12 ⟨hb12, hbb, p3, cv3, rfl⟩
  have H12 : Hid (Below W.heap.size W w12 ∧ w12.heap[w8.heap.size]? = some (NdB 1 d (.slice p 5 cv)) ∧ w12.heap[w10.heap.size]? = some (NdB 0 tv0 (.slice p2 0 cv2))) := ⟨hb12, blk_below H11.out.2.2.1 hbb, blk_below H11.out.2.2.2 hbb⟩
  clear hb12 hbb H11 HC
  obtain ⟨V13, e13⟩ : ∃ V13, w12.alloc (NdB 0 tv0 (.slice p3 0 cv3)) = V13 := ⟨_, rfl⟩
  have hb13 : Below w12.heap.size w12 V13 := by rw [← e13]; exact (Below.refl _ _).alloc (Nat.le_refl _) _
  have H13 : Hid (Below W.heap.size W V13) := by rw [← e13]; exact HD.out _ _ H12.out.1
  obtain ⟨⟨n0, n1, n2, n3, n4, n5, n6, n7⟩, nl⟩ := nd_cells (blk_below H12.out.2.1 hb13)
  obtain ⟨⟨m0, m1, m2, m3, m4, m5, m6, m7⟩, ml⟩ := nd_cells (blk_below H12.out.2.2 hb13)
  dsimp only [NdB] at e13
  clear hb13 H12 HD n1 n2 n3 n4 n5 n6 m1 m2 m3 m4 m5 m6 m7
  generalize w8.heap.size = q8 at *
  generalize w10.heap.size = q10 at *
  go_wp2_with fail
  go_ret
  exact ⟨rfl, H13.out⟩

end Go.Proofs.YtkigadnkclkopaaGreat
