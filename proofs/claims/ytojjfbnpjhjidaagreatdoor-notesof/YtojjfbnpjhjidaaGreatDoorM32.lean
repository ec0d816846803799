import Derived.Test.YtojjfbnpjhjidaaGreatDoorM31
set_option linter.unusedVariables false
set_option linter.unusedSimpArgs false
namespace Go.Proofs.YtojjfbnpjhjidaaGreatDoor.Lx
open Go.RowKit
end Go.Proofs.YtojjfbnpjhjidaaGreatDoor.Lx
namespace Go.Proofs.YtojjfbnpjhjidaaGreatDoor
open Go.Proofs.YtojjfbnpjhjidaaGreatDoor.Lx
open Go.RowKit
theorem Rt.low {A B : Nat} {w : World} {v : Value} {l : List Tv} (h : Rt B w v l) (hA : A ≤ B) : Rt A w v l := by
  refine ⟨h.1, ?_⟩
  rcases h.2 with h1 | ⟨g, cap, cur, rfl, h2, h3, h4⟩
  · exact .inl h1
  · exact .inr ⟨g, cap, cur, rfl, Nat.le_trans hA h2, h3, h4⟩
end Go.Proofs.YtojjfbnpjhjidaaGreatDoor
namespace Go.Proofs.YtojjfbnpjhjidaaGreatDoor.Lx
open Go.RowKit
theorem at_zero (s : ByteArray) (n : Nat) (hn : n ≤ s.size) (hs : s.size ≤ 2147483647) : aAt 0 (s.extract 0 n) = n := by unfold aAt; rw [size_ext s 0 n hn]; unfold wrap64; omega
set_option maxRecDepth 100000 in
set_option maxHeartbeats 6000000 in
theorem rall_any (s : ByteArray) (w : World) (hs : s.size ≤ 2147483647) :
    Calls Tryz.prog 12 #[.string s] w fun e w' => AV w s e w' := by
  have HFd : Hid (∀ V, Calls Tryz.prog 22 #[.string s] V fun e w' => FV V s e w') := fun V => find_any s V hs
  unfold FV at HFd
  obtain ⟨E, hE⟩ : ∃ E, (scn s).2.1 = E := ⟨_, rfl⟩
  obtain ⟨A, hA⟩ : ∃ A, (scn s).2.2 = A := ⟨_, rfl⟩
  obtain ⟨L, hL⟩ : ∃ L, (scn s).1.map (tv s) = L := ⟨_, rfl⟩
  have hbd := (scn_bd s).2
  rw [hE, hA] at hbd
  rw [hE, hA, hL] at HFd
  unfold AV
  rw [hE, hA, hL]
  have b0 := Box3.new w 0 0 0
  have hB0 : Below w.heap.size w (w.alloc (.cells #[.int .i64 0, .int .i64 0, .int .i64 0] 26)) := (Below.refl _ w).alloc (Nat.le_refl _) _
  have hle : w.heap.size ≤ (w.alloc (.cells #[.int .i64 0, .int .i64 0, .int .i64 0] 26)).heap.size := hB0.size
  by_cases h0 : E = 0
  · subst h0
    rw [if_pos rfl, if_pos rfl, if_pos rfl]
    clear hE hA hL hbd
    go_enter Tryz.func12, Tryz.ntmps12
    go_wp2_with (first | (go_at_call 22; refine (HFd.out _).mono ?_; rintro e w2 ⟨v, rfl, hr, hb⟩; obtain ⟨vp, vc, rfl, hv1, hv2⟩ := hr.shape; have b2 := b0.below hb; have g0 := b2.cell0; have g1 := b2.cell1; have g2 := b2.cell2; have f0 := b2.frozen 0; have f1 := b2.frozen 1; have f2 := b2.frozen 2; have hlt := b2.lt))
    have b4 := (((b2.set0 0).set1 0).set2 0).alloc (.cells #[.slice vp L.length vc, .int .i64 0, .int .i64 A] 70)
    have m0 := b4.cell0
    have m1 := b4.cell1
    have m2 := b4.cell2
    refine bodyPost_ret (v := .tuple #[.slice vp L.length vc, .int .i64 0, .agg #[.int .i64 0, .int .i64 0, .int .i64 0]]) (by simp [results, Tryz.f12, go_sem, m0, m1, m2]) rfl ?_
    have hn := hr.ne b2 (by decide)
    have hB3 := (((hB0.trans (hb.mono hB0.size)).setCell (p := ⟨w.heap.size, 0, none⟩) (Nat.le_refl _) (.int .i64 0)).setCell (p := ⟨w.heap.size, 1, none⟩) (Nat.le_refl _) (.int .i64 0)).setCell (p := ⟨w.heap.size, 2, none⟩) (Nat.le_refl _) (.int .i64 0)
    refine ⟨⟨_, rfl, ?_⟩, hB3.alloc hB3.size _⟩
    exact (((((hr.kp (Kp.set _ _ 0 _) hn).kp (Kp.set _ _ 1 _) hn).kp (Kp.set _ _ 2 _) hn).below ((Below.refl _ _).alloc (Nat.le_refl _) _)).low hle)
  · have q5 : ((E : Int) == 0) = false := by rw [beq_eq_false_iff_ne]; omega
    have hbA := hbd h0
    have hA := bd_le hbA
    rw [if_neg h0, if_neg h0, if_neg h0]
    have qA : (A : Int) ≤ s.size := by omega
    have qA0 : (0 : Int) ≤ A := by omega
    have HAdv : Hid (∀ V, Calls Tryz.prog 23 #[.agg #[.int .i64 0, .int .i64 1, .int .i64 1], .string (s.extract 0 A)] V fun e w' => e = .returned (.agg #[.int .i64 A, .int .i64 (pL s A), .int .i64 (pC s A)]) ∧ Below V.heap.size V w') := fun V => by
      have := radv_any 0 1 1 (s.extract 0 A) V (by rw [size_ext s 0 A hA]; omega) (by omega)
      rw [at_zero s A hA (by omega)] at this
      exact this
    clear hE hL hbd hbA
    generalize pL s A = XL at *
    generalize pC s A = XC at *
    go_enter Tryz.func12, Tryz.ntmps12
    go_wp2_with (first | (go_at_call 22; refine (HFd.out _).mono ?_; rintro e w2 ⟨v, rfl, hr, hb⟩; obtain ⟨vp, vc, rfl, hv1, hv2⟩ := hr.shape; have b2 := b0.below hb; have hlt := b2.lt))
    have d5 : FB (w2.alloc (.cells #[.slice vp L.length vc, .int .i64 E, .int .i64 A] 70)) w2.heap.size (.slice vp L.length vc) E A := World.alloc_heap_new _ _
    obtain ⟨W5, hW5⟩ : ∃ W5, (w2.alloc (.cells #[.slice vp L.length vc, .int .i64 E, .int .i64 A] 70)).alloc (.cells #[.int .i64 0, .int .i64 1, .int .i64 1] 26) = W5 := ⟨_, rfl⟩
    have bb : Below w2.heap.size w2 W5 := by rw [← hW5]; exact ((Below.refl _ w2).alloc (Nat.le_refl _) _).alloc (by simp) _
    have d6 : FB W5 w2.heap.size (.slice vp L.length vc) E A := by rw [← hW5]; exact blk_below d5 ((Below.refl _ _).alloc (Nat.le_refl _) _)
    have b6 : Box3 W5 (w2.heap.size + 1) 0 1 1 := by
      rw [← hW5]
      have := Box3.new (w2.alloc (.cells #[.slice vp L.length vc, .int .i64 E, .int .i64 A] 70)) 0 1 1
      rw [World.size_alloc] at this
      exact this
    have b7 := b2.below bb
    rw [hW5]
    clear hW5 d5
    have HK : Hid (∀ V, Below W5.heap.size W5 V → FB V w2.heap.size (.slice vp L.length vc) E A ∧ Box3 V (w2.heap.size + 1) 0 1 1 ∧ Box3 V w.heap.size 0 0 0) := fun V h => ⟨blk_below d6 h, b6.below h, b7.below h⟩
    obtain ⟨x0, x1, x2, _⟩ := d6.cells
    have z0 := b6.cell0
    have z1 := b6.cell1
    have z2 := b6.cell2
    go_region_with (go_at_call 23; refine (HAdv.out _).mono ?_; rintro e w6 ⟨rfl, hb6⟩; obtain ⟨d7, b8, b9⟩ := HK.out _ ((Below.refl _ W5).drew.trans (hb6.mono (Nat.le_refl _))); obtain ⟨x0, x1, x2, _⟩ := d7.cells; have g0 := b9.cell0; have g1 := b9.cell1; have g2 := b9.cell2; have f0 := b9.frozen 0; have f1 := b9.frozen 1; have f2 := b9.frozen 2)
    all_goals (
      go_wp2_with fail
      have b4 := ((b9.set0 A).set1 XL).set2 XC
      have m0 := b4.cell0
      have m1 := b4.cell1
      have m2 := b4.cell2
      refine bodyPost_ret (v := .tuple #[.slice vp L.length vc, .int .i64 E, .agg #[.int .i64 A, .int .i64 XL, .int .i64 XC]]) (by simp [results, Tryz.f12, go_sem, m0, m1, m2]) rfl ?_
      have hn := hr.ne b2 (by decide)
      have hB2 := hB0.trans (hb.mono hB0.size)
      have hb26 : Below w2.heap.size w2 w6 := bb.trans (((Below.refl _ W5).drew.trans (hb6.mono (Nat.le_refl _))).mono bb.size)
      have hB3 := (((hB2.trans (hb26.mono hB2.size)).setCell (p := ⟨w.heap.size, 0, none⟩) (Nat.le_refl _) (.int .i64 A)).setCell (p := ⟨w.heap.size, 1, none⟩) (Nat.le_refl _) (.int .i64 XL)).setCell (p := ⟨w.heap.size, 2, none⟩) (Nat.le_refl _) (.int .i64 XC)
      exact ⟨⟨_, rfl, ((((hr.below hb26).kp (Kp.set _ _ 0 _) hn).kp (Kp.set _ _ 1 _) hn).kp (Kp.set _ _ 2 _) hn).low hle⟩, hB3⟩)
end Go.Proofs.YtojjfbnpjhjidaaGreatDoor.Lx
