import Derived.Test.YtojjfbnpjhjidaaGreatDoorM14
set_option linter.unusedVariables false
set_option linter.unusedSimpArgs false
namespace Go.Proofs.YtojjfbnpjhjidaaGreatDoor.Lx
open Go.RowKit
theorem isFull_any {W : World} {g : Nat} {s : ByteArray} {a : Nat} {p : Int} {n : Nat} {b f : Nat} {v : Value} (h : RB W g s a p n b f v) (hs : s.size ≤ 2147483647) (hba : b ≤ a) (ha : a ≤ s.size) (hn : n ≤ 4) :
    Calls Tryz.prog 81 #[.pointer (some ⟨g, 0, none⟩)] W fun e w' => e = .returned (.bool (decide (65535 < a + n - b))) ∧ Below W.heap.size W w' := by
  have HB : Hid (∀ V, Below W.heap.size W V → Calls Tryz.prog 87 #[.pointer (some ⟨g, 0, none⟩)] V fun e w' => e = .returned (.string (s.extract b a)) ∧ Below V.heap.size V w') := fun V hV => by
    refine (bytes_any (blk_below h hV) hs hba ha).mono ?_
    rintro e w' ⟨rfl, m, rfl⟩
    exact ⟨rfl, bel_dn _ _⟩
  have HK : Hid (∀ V, Below W.heap.size W V → V.cell? ⟨g, 3, none⟩ = some (.int .i64 n) ∧ Below W.heap.size W V) := fun V hV => ⟨blk_cell (blk_below h hV) rfl, hV⟩
  have hz : (s.extract b a).size = a - b := size_ext s b a ha
  have e : decide (65535 < a + n - b) = decide (((s.extract b a).size : Int) + n > 65535) := by rw [decide_eq_decide, hz]; omega
  rw [e]
  have hwr : IntKind.i64.wrap (((s.extract b a).size : Int) + (n : Int)) = ((s.extract b a).size : Int) + (n : Int) := by rw [IntKind.wrap_i64, hz]; omega
  clear e h hz
  generalize s.extract b a = t at *
  go_enter Tryz.func81, Tryz.ntmps81
  go_wp2_with fail
  go_region_held3 (fun w' => w'.cell? ⟨g, 3, none⟩ = some (.int .i64 n) ∧ Below W.heap.size W w') (first | (exact HK.out _ (by assumption)) | (exact HK.out _ (Below.refl _ _).drew) | go_keep) (first | (go_at_call 87; refine (HB.out _ (by first | assumption | exact (Below.refl _ _).drew)).mono ?_; rintro e w1 ⟨rfl, hb1⟩; have hbW := (by first | exact (Below.refl W.heap.size W).drew.trans (hb1.mono (Nat.le_refl _)) | exact (by assumption : Below W.heap.size W _).trans (hb1.mono (Below.size (by assumption))) : Below W.heap.size W w1)))
  all_goals (
    go_wp2_with fail
    go_ret
    exact ⟨rfl, hbW⟩)
theorem here_any {W : World} {g : Nat} {s : ByteArray} {a : Nat} {p n : Int} {b f : Nat} {v : Value} (h : RB W g s a p n b f v) (hs : s.size ≤ 2147483647) (hba : b ≤ a) (hb : bd s b) (ha : bd s a) :
    Calls Tryz.prog 66 #[.pointer (some ⟨g, 0, none⟩)] W fun e w' => e = .returned (plV a (pL s a) (pC s a)) ∧ Below W.heap.size W w' := by
  have hal := bd_le ha
  obtain ⟨j1, j2, j3⟩ := adv_join hb ha hba hs
  obtain ⟨W1, hW1⟩ : ∃ W1, W.alloc (.cells #[.int .i64 0, .int .i64 0, .int .i64 0] 26) = W1 := ⟨_, rfl⟩
  have hB0 : Below W.heap.size W W1 := by rw [← hW1]; exact (Below.refl _ _).alloc (Nat.le_refl _) _
  have k0 : Box3 W1 W.heap.size 0 0 0 := by rw [← hW1]; exact Box3.new W 0 0 0
  have HB : Hid (∀ V, Below W.heap.size W V → Calls Tryz.prog 87 #[.pointer (some ⟨g, 0, none⟩)] V fun e w' => e = .returned (.string (s.extract b a)) ∧ Below V.heap.size V w') := fun V hV => by
    refine (bytes_any (blk_below h hV) hs hba hal).mono ?_
    rintro e w' ⟨rfl, m, rfl⟩
    exact ⟨rfl, bel_dn _ _⟩
  have HA : Hid (∀ V, Calls Tryz.prog 86 #[.agg #[.int .i64 b, .int .i64 (pL s b), .int .i64 (pC s b)], .string (s.extract b a)] V fun e w' => e = .returned (.agg #[.int .i64 a, .int .i64 (pL s a), .int .i64 (pC s a)]) ∧ Below V.heap.size V w') := fun V => by
    have := adv_lit b (pL s b) (pC s b) (s.extract b a) V (by rw [size_ext s b a hal]; omega) (p_rng s b)
    rw [j1, j2, j3] at this
    exact this
  have HK : Hid (∀ V, Below W.heap.size W V → V.cell? ⟨g, 4, none⟩ = some (.int .i64 b) ∧ V.cell? ⟨g, 5, none⟩ = some (.int .i64 (pL s b)) ∧ V.cell? ⟨g, 6, none⟩ = some (.int .i64 (pC s b)) ∧ Below W.heap.size W V) := fun V hV => ⟨blk_cell (blk_below h hV) rfl, blk_cell (blk_below h hV) rfl, blk_cell (blk_below h hV) rfl, hV⟩
  clear h j1 j2 j3
  unfold plV
  generalize s.extract b a = t at *
  generalize pL s a = L2 at *
  generalize pC s a = C2 at *
  generalize pL s b = L at *
  generalize pC s b = C at *
  go_enter Tryz.func66, Tryz.ntmps66
  go_wp2_with fail
  try rw [hW1]
  clear hW1
  go_region_held3 (fun w' => w'.cell? ⟨g, 4, none⟩ = some (.int .i64 b) ∧ w'.cell? ⟨g, 5, none⟩ = some (.int .i64 L) ∧ w'.cell? ⟨g, 6, none⟩ = some (.int .i64 C) ∧ Below W.heap.size W w') (first | (exact HK.out _ (by assumption)) | (exact HK.out _ hB0.drew) | (exact HK.out _ (((hbX.setCell (p := ⟨W.heap.size, 0, none⟩) (Nat.le_refl _) _).setCell (p := ⟨W.heap.size, 1, none⟩) (Nat.le_refl _) _).setCell (p := ⟨W.heap.size, 2, none⟩) (Nat.le_refl _) _)) | go_keep) (first | (go_at_call 87; refine (HB.out _ (by first | assumption | exact hB0.drew)).mono ?_; rintro e w1 ⟨rfl, hb1⟩; have k1 := k0.drew.below hb1; have hbW := hB0.drew.trans (hb1.mono hB0.size)) | (go_at_call 86; refine (HA.out _).mono ?_; rintro e w2 ⟨rfl, hb2⟩; have hbX := hbW.trans (hb2.mono hbW.size); have k2 := k1.below hb2; have g0 := k2.cell0; have g1 := k2.cell1; have g2 := k2.cell2; have f0 := k2.frozen 0; have f1 := k2.frozen 1; have f2 := k2.frozen 2))
  all_goals (
    go_wp2_with fail
    have hb5 := ((k2.set0 a).set1 L2).set2 C2
    have m0 := hb5.cell0
    have m1 := hb5.cell1
    have m2 := hb5.cell2
    refine bodyPost_ret (v := .agg #[.int .i64 a, .int .i64 L2, .int .i64 C2]) (by simp [results, Tryz.f66, go_sem, m0, m1, m2]) rfl ?_
    refine ⟨rfl, ?_⟩
    exact ((hbX.setCell (p := ⟨W.heap.size, 0, none⟩) (Nat.le_refl _) _).setCell (p := ⟨W.heap.size, 1, none⟩) (Nat.le_refl _) _).setCell (p := ⟨W.heap.size, 2, none⟩) (Nat.le_refl _) _)
theorem start_r {w0 W : World} {g : Nat} {s : ByteArray} {a b f : Nat} {l : List Tv} (h : Rs w0 W g s a b f l) (hs : s.size ≤ 2147483647) (hba : b ≤ a) (hb : bd s b) (ha : bd s a) :
    Calls Tryz.prog 58 #[.pointer (some ⟨g, 0, none⟩)] W fun e w' => e = .returned (.tuple #[]) ∧ Rs w0 w' g s a a f l := by
  obtain ⟨h1, h2, v, h3, h4⟩ := h
  have HH : Hid (Calls Tryz.prog 66 #[.pointer (some ⟨g, 0, none⟩)] W fun e w' => e = .returned (.agg #[.int .i64 a, .int .i64 (pL s a), .int .i64 (pC s a)]) ∧ Below W.heap.size W w') := here_any h3 hs hba hb ha
  have HR : Hid (∀ w', Below W.heap.size W w' → (∀ k, w'.frozen? ⟨g, k, none⟩ = false) ∧ (w'.cell? ⟨g, 4, none⟩ = some (.int .i64 b) ∧ w'.cell? ⟨g, 5, none⟩ = some (.int .i64 (pL s b)) ∧ w'.cell? ⟨g, 6, none⟩ = some (.int .i64 (pC s b))) ∧ Rs w0 (((w'.setCell ⟨g, 4, none⟩ (.int .i64 a)).setCell ⟨g, 5, none⟩ (.int .i64 (pL s a))).setCell ⟨g, 6, none⟩ (.int .i64 (pC s a))) g s a a f l) := fun w' hb => by
    have k1 := h1.trans (hb.mono h1.size)
    have k3 : RB w' g s a (rpt s a) (rsz s a) b f v := blk_below h3 hb
    have k4 := h4.below hb
    obtain ⟨c0, c1, c2, c3, c4, c5, c6, c7, c8⟩ := Rq.cells k3
    refine ⟨fun k => k3.frozen k, ⟨c4, c5, c6⟩, ?_⟩
    have hne := k4.ne k3 (by decide)
    refine ⟨((k1.setCell (p := ⟨g, 4, none⟩) h2 _).setCell (p := ⟨g, 5, none⟩) h2 _).setCell (p := ⟨g, 6, none⟩) h2 _, h2, v, ?_, ?_⟩
    · exact blk_set (blk_set (blk_set k3 4 _) 5 _) 6 _
    · exact ((k4.kp (Kp.set _ g 4 _) hne).kp (Kp.set _ g 5 _) hne).kp (Kp.set _ g 6 _) hne
  clear h1 h3 h4
  generalize pL s a = L2 at *
  generalize pC s a = C2 at *
  go_enter Tryz.func58, Tryz.ntmps58
  go_wp2_with (go_at_call 66; refine HH.out.mono ?_; rintro e w1 ⟨rfl, hb1⟩; obtain ⟨fz, ⟨c4, c5, c6⟩, h7⟩ := HR.out _ hb1; have HF : Hid (Rs w0 (((w1.setCell ⟨g, 4, none⟩ (.int .i64 a)).setCell ⟨g, 5, none⟩ (.int .i64 L2)).setCell ⟨g, 6, none⟩ (.int .i64 C2)) g s a a f l) := h7; clear h7; have z4 := fz 4; have z5 := fz 5; have z6 := fz 6)
  go_end0
  exact ⟨rfl, HF.out⟩
theorem pass_any {w0 W : World} {g : Nat} {s : ByteArray} {a b f : Nat} {l : List Tv} (h : Rs w0 W g s a b f l) (hs : s.size ≤ 2147483647) (ha : a ≤ s.size) (hf : f ≤ s.size) :
    Calls Tryz.prog 57 #[.pointer (some ⟨g, 0, none⟩)] W fun e w' => e = .returned (.tuple #[]) ∧ Rs w0 w' g s (a + rsz s a) b (if rpt s a = 10 then f + 1 else f) l := by
  by_cases h10 : rpt s a = 10
  · rw [if_pos h10]
    obtain ⟨h1, h2, v, h3, h4⟩ := h
    obtain ⟨c0, c1, c2, c3, c4, c5, c6, c7, c8⟩ := Rq.cells h3
    have z7 := h3.frozen 7
    obtain ⟨m1, m3, m4⟩ := Rq.set h1 h2 h3 h4 7 (.int .i64 ((f + 1 : Nat) : Int)) (f' := f + 1) rfl rfl
    rw [Int.natCast_add] at m1 m3 m4
    have HL : Hid (Calls Tryz.prog 76 #[.pointer (some ⟨g, 0, none⟩)] (W.setCell ⟨g, 7, none⟩ (.int .i64 ((f : Int) + 1))) fun e w' => e = .returned (.tuple #[]) ∧ Rs w0 w' g s (a + rsz s a) b (f + 1) l) := take_any ⟨m1, h2, v, m3, m4⟩ hs ha
    rw [h10] at c2
    clear h1 h3 h4 m1 m3 m4 h10
    go_enter Tryz.func57, Tryz.ntmps57
    go_wp2_with (go_at_call 76; refine HL.out.mono ?_; rintro e w1 ⟨rfl, h5⟩)
    go_end0
    exact ⟨rfl, h5⟩
  · rw [if_neg h10]
    have HL : Hid (Calls Tryz.prog 76 #[.pointer (some ⟨g, 0, none⟩)] W fun e w' => e = .returned (.tuple #[]) ∧ Rs w0 w' g s (a + rsz s a) b f l) := take_any h hs ha
    obtain ⟨h1, h2, v, h3, h4⟩ := h
    obtain ⟨c0, c1, c2, c3, c4, c5, c6, c7, c8⟩ := Rq.cells h3
    have q1 : (rpt s a == 10) = false := by simpa using h10
    clear h1 h3 h4 h10
    go_enter Tryz.func57, Tryz.ntmps57
    go_wp2_with (go_at_call 76; refine HL.out.mono ?_; rintro e w1 ⟨rfl, h5⟩)
    go_end0
    exact ⟨rfl, h5⟩
theorem wordKind_any {W : World} {g : Nat} {s : ByteArray} {a : Nat} {p n : Int} {b f : Nat} {v : Value} (h : RB W g s a p n b f v) (hT : Kab W) (hs : s.size ≤ 2147483647) (hba : b ≤ a) (ha : a ≤ s.size) :
    Calls Tryz.prog 80 #[.pointer (some ⟨g, 0, none⟩)] W fun e w' => e = .returned (.int .u8 (if ky (s.extract b a) = true then 2 else 1)) ∧ Below W.heap.size W w' := by
  have HB : Hid (Calls Tryz.prog 87 #[.pointer (some ⟨g, 0, none⟩)] W fun e w' => e = .returned (.string (s.extract b a)) ∧ ∃ m, w' = W.drewN m) := bytes_any h hs hba ha
  have HI : Hid (∀ m, Calls Tryz.prog 92 #[.string (s.extract b a)] (W.drewN m) fun e w' => e = .returned (.bool (ky (s.extract b a))) ∧ Below W.heap.size W w') := fun m => by
    refine (isKey_any (s.extract b a) (W.drewN m) (hT.below (bel_dn W m)).2.1).mono ?_
    rintro e w' ⟨rfl, rfl⟩
    exact ⟨rfl, bel_dn W m⟩
  clear h hT
  generalize ky (s.extract b a) = k at *
  generalize s.extract b a = t at *
  cases k
  · go_enter Tryz.func80, Tryz.ntmps80
    go_wp2_with (first | (go_at_call 87; refine HB.out.mono ?_; rintro e w1 ⟨rfl, m, rfl⟩) | (go_at_call 92; refine (HI.out _).mono ?_; rintro e w2 ⟨rfl, hb2⟩))
    go_ret
    exact ⟨rfl, hb2⟩
  · go_enter Tryz.func80, Tryz.ntmps80
    go_wp2_with (first | (go_at_call 87; refine HB.out.mono ?_; rintro e w1 ⟨rfl, m, rfl⟩) | (go_at_call 92; refine (HI.out _).mono ?_; rintro e w2 ⟨rfl, hb2⟩))
    go_ret
    exact ⟨rfl, hb2⟩
end Go.Proofs.YtojjfbnpjhjidaaGreatDoor.Lx
