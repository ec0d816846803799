import Derived.Test.YthbgipmkdcffnaaDb
set_option linter.unusedVariables false
set_option linter.unusedSimpArgs false
namespace Go.Proofs.Ythbgipmkdcffnaa
open Go.RowKit

set_option maxRecDepth 100000 in
set_option maxHeartbeats 1000000 in
/-- The document's Build. -/
theorem rbuild_any (l : List Ev) (W : World) (ao : Option Addr) (cap : Nat) (h : Le W ao l) (hlen : l.length ≤ 1000000000) : Calls Try.prog 10 #[.slice ao l.length cap] W (BdP l W) := by
  have HO : Hid (∀ V wz k d s, Below W.heap.size W V → V.heap[W.heap.size]? = some (NdB 0 tv0 (.slice none 0 0)) → sets8 V W.heap.size k d s = wz → Below W.heap.size W wz ∧ wz.heap[W.heap.size]? = some (NdB k d s)) := fun V wz k d s hb hr e => by
    subst e
    exact ⟨Kp.low hb (sets8_kp _ _ _ _ _) (fun j e => by omega) hb.size, sets8_at hr _ _ _⟩
  have HBAD : Hid (bld l [] = none → ∀ V wz, Below W.heap.size W V → V.heap[W.heap.size]? = some (NdB 0 tv0 (.slice none 0 0)) → sets8 V W.heap.size 0 tv0 (.slice none 0 0) = wz → BdP l W (.returned (.tuple #[ndv 0 tv0 (.slice none 0 0), .int .i64 130])) wz ∧ wz.heap[W.heap.size]? = some (NdB 0 tv0 (.slice none 0 0))) := fun hb V wz hbl hr ez => by
    obtain ⟨hz1, hz2⟩ := HO.out V wz _ _ _ hbl hr ez
    have e : bo l = (.mk 0 tv0 [], 130) := by unfold bo; rw [hb]
    refine ⟨⟨.slice none 0 0, ?_, ?_, hz1⟩, hz2⟩
    · rw [e]; rfl
    · rw [e]; exact tn_nil _ _ _ _
  obtain ⟨W1, eW1⟩ : ∃ W1, W.alloc (NdB 0 tv0 (.slice none 0 0)) = W1 := ⟨_, rfl⟩
  have H1 : Hid (Below W.heap.size W W1 ∧ W1.heap[W.heap.size]? = some (NdB 0 tv0 (.slice none 0 0))) := by rw [← eW1]; exact ⟨below_new _ _, new_at _ _⟩
  obtain ⟨⟨y0, y1, y2, y3, y4, y5, y6, y7⟩, yl⟩ := nd_cells H1.out.2
  obtain ⟨f0, f1, f2, f3, f4, f5, f6, f7⟩ := nd_frozen H1.out.2
  cases l with
  | nil =>
    have HE : Hid (bld [] [] = none) := rfl
    clear h
    go_enter Try.func10, Try.ntmps10
    go_upto_region 2 with fail
    dsimp only [NdB, tv0] at eW1
    try rw [eW1]
    clear eW1
    go_wp2_with fail
    obtain ⟨wz, ez⟩ : ∃ wz, sets8 W1 W.heap.size 0 tv0 (.slice none 0 0) = wz := ⟨_, rfl⟩
    obtain ⟨hz1, hz2⟩ := HBAD.out HE.out _ wz H1.out.1 H1.out.2 ez
    dsimp only [sets8, tv0] at ez
    rw [ez]
    obtain ⟨⟨x0, x1, x2, x3, x4, x5, x6, x7⟩, xl⟩ := nd_cells hz2
    refine bodyPost_ret (v := .tuple #[ndv 0 tv0 (.slice none 0 0), .int .i64 130]) (by simp [results, Try.f10, go_sem, x0, x1, x2, x3, x4, x5, x6, x7]) rfl ?_
    exact hz1
  | cons e r =>
    obtain ⟨b, off, rfl, hbl, c0, c1, c2, c3, c4, c5, c6, c7⟩ := Le.at h (below_new W (NdB 0 tv0 (.slice none 0 0))) (j := 0) (d := e) rfl
    rw [Nat.zero_mul, Nat.add_zero] at c0
    rw [eW1] at c0 hbl
    have hl5 : ¬ ((r.length : Int) + 1 = 0) := by omega
    have hl6 : ((r.length : Int) + 1 == 0) = false := by simpa using hl5
    have hl7 : (0 : Int) < (r.length : Int) + 1 := by omega
    by_cases hk1 : e.k = 1
    · have hk1b : (e.k != 1) = false := by simpa using hk1
      have HC : Hid (Calls Try.prog 28 #[.slice (some ⟨b, off, none⟩) (r.length + 1) cap, .int .i64 0, .int .i64 1] W1 (BtP 0 (e :: r) 0 W1)) := (both_any (e :: r) hlen _ 0 e rfl rfl).1 hk1 0 _ cap W1 (by omega) (h.below H1.out.1)
      have HK1 : Hid (e.k = 1) := hk1
      clear h hk1 c1 c2 c3 c4 c5 c6 c7
      go_enter Try.func10, Try.ntmps10
      go_upto_region 1 with fail
      dsimp only [NdB, tv0] at eW1
      try rw [eW1]
      clear eW1
      go_wp2_with fail
      refine HC.out.mono ?_
      rintro x w3 ⟨n3, sv3, at3, ok3, rfl, tn3, hb3, hok3⟩
      obtain ⟨p6, m6, c6', hsv6⟩ : ∃ p6 m6 c6, sv3 = .slice p6 m6 c6 := by
        obtain ⟨nk, ndd, ncc⟩ := n3
        rw [TN] at tn3
        obtain ⟨vs6, hrn6, _⟩ := tn3
        obtain ⟨pp, cp, e, _⟩ := hrn6.shape
        exact ⟨pp, _, cp, e⟩
      subst hsv6
      obtain ⟨W4, eW4⟩ : ∃ W4, w3.alloc (BtB n3.k n3.d (.slice p6 m6 c6') (at3 : Nat) ok3) = W4 := ⟨_, rfl⟩
      have hW1 : W.heap.size < W1.heap.size := blk_lt H1.out.2
      have H4 : Hid (Below W.heap.size W W4 ∧ W4.heap[W.heap.size]? = some (NdB 0 tv0 (.slice none 0 0)) ∧ W4.heap[w3.heap.size]? = some (BtB n3.k n3.d (.slice p6 m6 c6') (at3 : Nat) ok3) ∧ TN (fun k => W1.heap.size ≤ k) W4 n3 (.slice p6 m6 c6')) := by
        rw [← eW4]
        have hn := below_new w3 (BtB n3.k n3.d (.slice p6 m6 c6') (at3 : Nat) ok3)
        have h1 := hb3.trans (hn.mono hb3.size)
        exact ⟨H1.out.1.trans (h1.mono H1.out.1.size), blk_below H1.out.2 h1, new_at _ _, TN.kp (Kp.of_below (S := fun _ => False) hn) (fun _ _ h => h) _ _ tn3⟩
      have Hok : Hid (bld (e :: r) [] = if ok3 then aft ((e :: r).drop at3) n3 [] else none) := by
        cases ok3
        · exact hok3 [] rfl
        · exact hok3.2 [] rfl
      have Hat : Hid (ok3 = true → at3 ≤ r.length + 1 ∧ n3.k ≠ 0) := by
        rintro rfl
        exact ⟨hok3.1.2.1, hok3.1.2.2 ⟨e, rfl, HK1.out⟩⟩
      clear tn3 hb3 hok3 y0 y1 y2 y3 y4 y5 y6 y7 yl f0 f1 f2 f3 f4 f5 f6 f7 HC
      go_upto_region 4 with fail
      try rw [eW4]
      clear eW4
      obtain ⟨⟨i0, i1, i2, i3, i4, i5, i6, i7, i8, i9⟩, il, _⟩ := bt_cells H4.out.2.2.1
      obtain ⟨⟨y0, y1, y2, y3, y4, y5, y6, y7⟩, yl⟩ := nd_cells H4.out.2.1
      obtain ⟨f0, f1, f2, f3, f4, f5, f6, f7⟩ := nd_frozen H4.out.2.1
      cases ok3 with
      | false =>
        have HE : Hid (bld (e :: r) [] = none) := by have := Hok.out; unfold Hid; simpa using this
        go_wp2_with fail
        obtain ⟨wz, ez⟩ : ∃ wz, sets8 W4 W.heap.size 0 tv0 (.slice none 0 0) = wz := ⟨_, rfl⟩
        obtain ⟨hz1, hz2⟩ := HBAD.out HE.out _ wz H4.out.1 H4.out.2.1 ez
        dsimp only [sets8, tv0] at ez
        rw [ez]
        obtain ⟨⟨x0, x1, x2, x3, x4, x5, x6, x7⟩, xl⟩ := nd_cells hz2
        refine bodyPost_ret (v := .tuple #[ndv 0 tv0 (.slice none 0 0), .int .i64 130]) (by simp [results, Try.f10, go_sem, x0, x1, x2, x3, x4, x5, x6, x7]) rfl ?_
        exact hz1
      | true =>
        obtain ⟨ha1, ha2⟩ := Hat.out rfl
        by_cases hat : at3 = r.length + 1
        · have hatI : (at3 : Int) = (r.length : Int) + 1 := by omega
          have hatb : ((at3 : Int) != (r.length : Int) + 1) = false := by simpa using hatI
          have HE : Hid (bld (e :: r) [] = some n3) := by
            have := Hok.out
            unfold Hid
            rw [this]
            simp only [if_true, aft]
            rw [if_neg ha2, if_pos (by rw [hat]; exact List.drop_length (l := e :: r))]
          have HGOOD : Hid (∀ wz, sets8 W4 W.heap.size n3.k n3.d (.slice p6 m6 c6') = wz → BdP (e :: r) W (.returned (.tuple #[ndv n3.k n3.d (.slice p6 m6 c6'), .int .i64 0])) wz ∧ wz.heap[W.heap.size]? = some (NdB n3.k n3.d (.slice p6 m6 c6'))) := fun wz ez => by
            obtain ⟨hz1, hz2⟩ := HO.out W4 wz _ _ _ H4.out.1 H4.out.2.1 ez
            have e' : bo (e :: r) = (n3, 0) := by unfold bo; rw [HE.out]
            refine ⟨⟨.slice p6 m6 c6', ?_, ?_, hz1⟩, hz2⟩
            · rw [e']
            · rw [e', ← ez]
              exact TN.sub (fun b _ h => by omega) _ _ (TN.kp (sets8_kp _ _ _ _ _) (fun b h1 h2 => by omega) _ _ H4.out.2.2.2)
          clear hat ha2
          go_wp2_with fail
          obtain ⟨wz, ez⟩ : ∃ wz, sets8 W4 W.heap.size n3.k n3.d (.slice p6 m6 c6') = wz := ⟨_, rfl⟩
          obtain ⟨hz1, hz2⟩ := HGOOD.out wz ez
          dsimp only [sets8] at ez
          rw [ez]
          obtain ⟨⟨x0, x1, x2, x3, x4, x5, x6, x7⟩, xl⟩ := nd_cells hz2
          refine bodyPost_ret (v := .tuple #[ndv n3.k n3.d (.slice p6 m6 c6'), .int .i64 0]) (by simp [results, Try.f10, go_sem, x0, x1, x2, x3, x4, x5, x6, x7]) rfl ?_
          exact hz1
        · have hatI : ¬ (at3 : Int) = (r.length : Int) + 1 := by omega
          have hatb : ((at3 : Int) != (r.length : Int) + 1) = true := by simpa using hatI
          have HE : Hid (bld (e :: r) [] = none) := by
            have := Hok.out
            unfold Hid
            rw [this]
            simp only [if_true, aft]
            rw [if_neg ha2, if_neg (fun h => by
              have := congrArg List.length h
              rw [List.length_drop] at this
              simp at this
              omega)]
          clear ha2
          go_wp2_with fail
          obtain ⟨wz, ez⟩ : ∃ wz, sets8 W4 W.heap.size 0 tv0 (.slice none 0 0) = wz := ⟨_, rfl⟩
          obtain ⟨hz1, hz2⟩ := HBAD.out HE.out _ wz H4.out.1 H4.out.2.1 ez
          dsimp only [sets8, tv0] at ez
          rw [ez]
          obtain ⟨⟨x0, x1, x2, x3, x4, x5, x6, x7⟩, xl⟩ := nd_cells hz2
          refine bodyPost_ret (v := .tuple #[ndv 0 tv0 (.slice none 0 0), .int .i64 130]) (by simp [results, Try.f10, go_sem, x0, x1, x2, x3, x4, x5, x6, x7]) rfl ?_
          exact hz1
    · have hk1b : (e.k != 1) = true := by simpa using hk1
      have HE : Hid (bld (e :: r) [] = none) := by
        unfold Hid
        simp only [bld]
        rw [if_neg hk1]
        split
        · rfl
        · split <;> rfl
      clear h hk1 c1 c2 c3 c4 c5 c6 c7
      go_enter Try.func10, Try.ntmps10
      go_upto_region 1 with fail
      dsimp only [NdB, tv0] at eW1
      try rw [eW1]
      clear eW1
      go_wp2_with fail
      obtain ⟨wz, ez⟩ : ∃ wz, sets8 W1 W.heap.size 0 tv0 (.slice none 0 0) = wz := ⟨_, rfl⟩
      obtain ⟨hz1, hz2⟩ := HBAD.out HE.out _ wz H1.out.1 H1.out.2 ez
      dsimp only [sets8, tv0] at ez
      rw [ez]
      obtain ⟨⟨x0, x1, x2, x3, x4, x5, x6, x7⟩, xl⟩ := nd_cells hz2
      refine bodyPost_ret (v := .tuple #[ndv 0 tv0 (.slice none 0 0), .int .i64 130]) (by simp [results, Try.f10, go_sem, x0, x1, x2, x3, x4, x5, x6, x7]) rfl ?_
      exact hz1

end Go.Proofs.Ythbgipmkdcffnaa
