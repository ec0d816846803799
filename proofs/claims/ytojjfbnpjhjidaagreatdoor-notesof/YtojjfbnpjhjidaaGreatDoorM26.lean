import Derived.Test.YtojjfbnpjhjidaaGreatDoorM25
set_option linter.unusedVariables false
set_option linter.unusedSimpArgs false
namespace Go.Proofs.YtojjfbnpjhjidaaGreatDoor.Lx
open Go.ChangeShapes Go.WideShapes Go.ChangeAt Go.RowKit
theorem rcontrol_any (p : Nat) (g : Bool) (w : World) :
    Calls Tryz.prog 71 #[.int .i64 p, .bool g] w fun e w' => e = .returned (.bool (g && (decide (p < 32) || p == 127))) ∧ w' = w := by
  have h1 : decide ((p : Int) < 32) = decide (p < 32) := by rw [Bool.eq_iff_iff]; simp; omega
  have h2 : ((p : Int) == 127) = (p == 127) := by rw [Bool.eq_iff_iff]; simp; omega
  obtain ⟨R, HR⟩ : ∃ R, Hid ((g && (decide (p < 32) || p == 127)) = R) := ⟨_, rfl⟩
  rw [HR.out]
  go_enter Tryz.func71, Tryz.ntmps71
  generalize decide (p < 32) = x at *
  generalize (p == 127) = y at *
  cases g <;> cases x <;> cases y <;>
  · go_wp2_with fail
    go_ret
    exact ⟨kret_b HR.out, rfl⟩
theorem rnext_nat (s : ByteArray) (a : Nat) (hs : s.size ≤ 2147483647) (h1 : a < s.size) (w : World) :
    Calls Tryz.prog 46 #[.string s, .int .i64 a] w fun e w' => e = .returned (.tuple #[.int .i64 (dp s a), .int .i64 (dw s a), .bool (gd s a)]) ∧ w' = w := by
  have := rnext_in s a w hs (by omega) (by omega)
  rwa [Int.toNat_natCast] at this
theorem rrow_name (s : ByteArray) (f : Nat) (w : World) (hs : s.size ≤ 2147483647) (hf : f ≤ s.size) :
    Calls Tryz.prog 52 #[.string s, .int .i64 f, .int .u8 1] w fun e w' => e = .returned (enV (run (gRow s f 1) s.size f 0)) ∧ Below w.heap.size w w' := by
  obtain ⟨R, hR⟩ : ∃ R, R = run (gRow s f 1) s.size f 0 := ⟨_, rfl⟩
  rw [← hR]
  have HR : Hid (R = run (gRow s f 1) s.size f 0) := hR
  clear hR
  go_enter Tryz.func52, Tryz.ntmps52
  go_wp2_with fail
  have k0 := Box2.new w 0 0
  have hB : Below w.heap.size w (w.alloc (.cells #[.int .i64 0, .int .i64 0] 92)) := (Below.refl _ w).alloc (Nat.le_refl _) _
  generalize w.alloc (.cells #[.int .i64 0, .int .i64 0] 92) = w1 at *
  go_loopw [7] (fun i wr => Box2 wr w.heap.size 0 0 ∧ Below w.heap.size w wr ∧ ∃ a m : Nat, i = .int .i64 a ∧ f ≤ a ∧ a ≤ s.size ∧ Hid (R = run (gRow s f 1) s.size a m)) (fun i _ => s.size - (intOf i).toNat)
  case atStart => exact ⟨k0, hB, f, 0, rfl, Nat.le_refl _, hf, HR⟩
  case round =>
    clear k0 hB HR
    obtain ⟨k0, hb, a, m, rfl, hfa, ha, HI⟩ := hrel
    by_cases h1 : a < s.size
    · have hn := rnext_nat s a hs h1
      obtain ⟨d1, d2, d3⟩ := dw_facts s a h1
      have HG : Hid ((gd s a && pr' (dp s a)) = false → R = (a, 0)) := fun h => by rw [HI.out]; exact run_out ha (by unfold gRow; rw [if_neg (by omega), if_pos (.inl ⟨rfl, h⟩)])
      have HL : Hid ((gd s a && pr' (dp s a)) = true → 65535 < a + dw s a - f → R = (f, 103)) := fun h h2 => by rw [HI.out]; exact run_out ha (by unfold gRow; rw [if_neg (by omega), if_neg (by rw [h]; simp), if_pos h2])
      have HO : Hid ((gd s a && pr' (dp s a)) = true → ¬ 65535 < a + dw s a - f → R = run (gRow s f 1) s.size (a + dw s a) (m + 1)) := fun h h2 => by rw [HI.out]; exact run_on (gRow_on s f 1) ha (by unfold gRow; rw [if_neg (by omega), if_neg (by rw [h]; simp), if_neg h2])
      have hp := rpart_any (dp s a)
      clear HI
      generalize ((dp s a : Nat) : Int) = pi at hp hn HG HL HO
      generalize dw s a = n at *
      generalize gd s a = g at *
      cases g
      · have HE : Hid (R = (a, 0)) := HG.out rfl
        clear HG HL HO hp
        go_wp2_with fail
        refine (hn _).mono ?_
        rintro e w2 ⟨rfl, rfl⟩
        have c0 := k0.cell0
        have c1 := k0.cell1
        have z0 := k0.frozen 0
        have z1 := k0.frozen 1
        go_wp2_with fail
        have k2 := (k0.set0 (a : Int)).set1 0
        have m0 := k2.cell0
        have m1 := k2.cell1
        refine bodyPost_ret (v := .agg #[.int .i64 (a : Int), .int .i64 0]) (by simp [results, Tryz.f52, go_sem, m0, m1]) rfl ?_
        exact ⟨enV_eq HE.out, (hb.setCell (p := ⟨w.heap.size, 0, none⟩) (Nat.le_refl _) _).setCell (p := ⟨w.heap.size, 1, none⟩) (Nat.le_refl _) _⟩
      · generalize pr' pi = q at *
        have HQ : Hid (∀ w : World, Calls Tryz.prog 72 #[.int .i64 pi] w fun e w' => e = .returned (.bool q) ∧ Below w.heap.size w w') := hp
        clear hp
        go_wp2_with fail
        refine (hn _).mono ?_
        rintro e w2 ⟨rfl, rfl⟩
        go_wp2_with fail
        refine (HQ.out _).mono ?_
        rintro e w2 ⟨rfl, hb2⟩
        clear HQ hn
        have k1 := k0.below hb2
        have hb3 := hb.trans (hb2.mono (Nat.le_of_lt k0.lt))
        clear k0 hb hb2
        have k0 := k1
        have c0 := k0.cell0
        have c1 := k0.cell1
        have z0 := k0.frozen 0
        have z1 := k0.frozen 1
        cases q
        · have HE : Hid (R = (a, 0)) := HG.out rfl
          clear HG HL HO
          go_wp2_with fail
          have k2 := (k0.set0 (a : Int)).set1 0
          have m0 := k2.cell0
          have m1 := k2.cell1
          refine bodyPost_ret (v := .agg #[.int .i64 (a : Int), .int .i64 0]) (by simp [results, Tryz.f52, go_sem, m0, m1]) rfl ?_
          exact ⟨enV_eq HE.out, ( hb3.setCell (p := ⟨w.heap.size, 0, none⟩) (Nat.le_refl _) _).setCell (p := ⟨w.heap.size, 1, none⟩) (Nat.le_refl _) _⟩
        · by_cases h2 : 65535 < a + n - f
          · have HE : Hid (R = (f, 103)) := HL.out rfl h2
            have e2 : decide ((a : Int) + (n : Int) - (f : Int) > 65535) = true := by simp; omega
            clear HG HL HO
            go_wp2_with fail
            have k2 := (k0.set0 (f : Int)).set1 103
            have m0 := k2.cell0
            have m1 := k2.cell1
            refine bodyPost_ret (v := .agg #[.int .i64 (f : Int), .int .i64 103]) (by simp [results, Tryz.f52, go_sem, m0, m1]) rfl ?_
            exact ⟨enV_eq HE.out, ( hb3.setCell (p := ⟨w.heap.size, 0, none⟩) (Nat.le_refl _) _).setCell (p := ⟨w.heap.size, 1, none⟩) (Nat.le_refl _) _⟩
          · have HE : Hid (R = run (gRow s f 1) s.size (a + n) (m + 1)) := HO.out rfl h2
            have e2 : decide ((a : Int) + (n : Int) - (f : Int) > 65535) = false := by simp; omega
            clear HG HL HO
            go_wp2_with fail
            exact ⟨⟨k0, hb3, a + n, m + 1, by go_num, by omega, d3, HE⟩, by simp [intOf]; omega⟩
    · have HE : Hid (R = (a, 0)) := by show R = _; rw [HI.out]; exact run_out ha (by unfold gRow; rw [if_pos (by omega)])
      clear HI
      have c0 := k0.cell0
      have c1 := k0.cell1
      have z0 := k0.frozen 0
      have z1 := k0.frozen 1
      go_wp2_with fail
      have k2 := (k0.set0 (a : Int)).set1 0
      have m0 := k2.cell0
      have m1 := k2.cell1
      refine bodyPost_ret (v := .agg #[.int .i64 (a : Int), .int .i64 0]) (by simp [results, Tryz.f52, go_sem, m0, m1]) rfl ?_
      exact ⟨enV_eq HE.out, (hb.setCell (p := ⟨w.heap.size, 0, none⟩) (Nat.le_refl _) _).setCell (p := ⟨w.heap.size, 1, none⟩) (Nat.le_refl _) _⟩
theorem rrow_num (s : ByteArray) (f : Nat) (w : World) (hs : s.size ≤ 2147483647) (hf : f ≤ s.size) :
    Calls Tryz.prog 52 #[.string s, .int .i64 f, .int .u8 3] w fun e w' => e = .returned (enV (run (gRow s f 3) s.size f 0)) ∧ Below w.heap.size w w' := by
  obtain ⟨R, hR⟩ : ∃ R, R = run (gRow s f 3) s.size f 0 := ⟨_, rfl⟩
  rw [← hR]
  have HR : Hid (R = run (gRow s f 3) s.size f 0) := hR
  clear hR
  go_enter Tryz.func52, Tryz.ntmps52
  go_wp2_with fail
  have k0 := Box2.new w 0 0
  have hB : Below w.heap.size w (w.alloc (.cells #[.int .i64 0, .int .i64 0] 92)) := (Below.refl _ w).alloc (Nat.le_refl _) _
  generalize w.alloc (.cells #[.int .i64 0, .int .i64 0] 92) = w1 at *
  go_loopw [7] (fun i wr => Box2 wr w.heap.size 0 0 ∧ Below w.heap.size w wr ∧ ∃ a m : Nat, i = .int .i64 a ∧ f ≤ a ∧ a ≤ s.size ∧ Hid (R = run (gRow s f 3) s.size a m)) (fun i _ => s.size - (intOf i).toNat)
  case atStart => exact ⟨k0, hB, f, 0, rfl, Nat.le_refl _, hf, HR⟩
  case round =>
    clear k0 hB HR
    obtain ⟨k0, hb, a, m, rfl, hfa, ha, HI⟩ := hrel
    by_cases h1 : a < s.size
    · have hn := rnext_nat s a hs h1
      obtain ⟨d1, d2, d3⟩ := dw_facts s a h1
      have HG : Hid (tkDg (by8 s a) = false → R = (a, 0)) := fun h => by rw [HI.out]; exact run_out ha (by unfold gRow; rw [if_neg (by omega), if_pos (.inr ⟨rfl, h⟩)])
      have HL : Hid (tkDg (by8 s a) = true → 65535 < a + dw s a - f → R = (f, 103)) := fun h h2 => by rw [HI.out]; exact run_out ha (by unfold gRow; rw [if_neg (by omega), if_neg (by rw [h]; simp), if_pos h2])
      have HO : Hid (tkDg (by8 s a) = true → ¬ 65535 < a + dw s a - f → R = run (gRow s f 3) s.size (a + dw s a) (m + 1)) := fun h h2 => by rw [HI.out]; exact run_on (gRow_on s f 3) ha (by unfold gRow; rw [if_neg (by omega), if_neg (by rw [h]; simp), if_neg h2])
      have hp := rpart_any (dp s a)
      have hd := fun w => rdigit_any (by8 s a) w (by8_lt s a)
      rw [← by8_get s a h1] at HG HL HO hd
      clear HI
      generalize ((dp s a : Nat) : Int) = pi at hp hn
      generalize dw s a = n at *
      generalize gd s a = g at *
      generalize tkDg (s[a]'h1).toNat = x at *
      cases g
      · clear hp
        go_wp2_with fail
        refine (hn _).mono ?_
        rintro e w2 ⟨rfl, rfl⟩
        clear hn
        have HQ2 : Hid (∀ w : World, Calls Tryz.prog 49 #[.int .u8 ((s[a]'h1).toNat : Int)] w fun e w' => e = .returned (.bool x) ∧ w' = w) := hd
        clear hd
        go_wp2_with fail
        refine (HQ2.out _).mono ?_
        rintro e w2 ⟨rfl, rfl⟩
        clear HQ2
        have c0 := k0.cell0
        have c1 := k0.cell1
        have z0 := k0.frozen 0
        have z1 := k0.frozen 1
        cases x
        · have HE : Hid (R = (a, 0)) := HG.out rfl
          clear HG HL HO
          go_wp2_with fail
          have k2 := (k0.set0 (a : Int)).set1 0
          have m0 := k2.cell0
          have m1 := k2.cell1
          refine bodyPost_ret (v := .agg #[.int .i64 (a : Int), .int .i64 0]) (by simp [results, Tryz.f52, go_sem, m0, m1]) rfl ?_
          exact ⟨enV_eq HE.out, (hb.setCell (p := ⟨w.heap.size, 0, none⟩) (Nat.le_refl _) _).setCell (p := ⟨w.heap.size, 1, none⟩) (Nat.le_refl _) _⟩
        · by_cases h2 : 65535 < a + n - f
          · have HE : Hid (R = (f, 103)) := HL.out rfl h2
            have e2 : decide ((a : Int) + (n : Int) - (f : Int) > 65535) = true := by simp; omega
            clear HG HL HO
            go_wp2_with fail
            have k2 := (k0.set0 (f : Int)).set1 103
            have m0 := k2.cell0
            have m1 := k2.cell1
            refine bodyPost_ret (v := .agg #[.int .i64 (f : Int), .int .i64 103]) (by simp [results, Tryz.f52, go_sem, m0, m1]) rfl ?_
            exact ⟨enV_eq HE.out, (hb.setCell (p := ⟨w.heap.size, 0, none⟩) (Nat.le_refl _) _).setCell (p := ⟨w.heap.size, 1, none⟩) (Nat.le_refl _) _⟩
          · have HE : Hid (R = run (gRow s f 3) s.size (a + n) (m + 1)) := HO.out rfl h2
            have e2 : decide ((a : Int) + (n : Int) - (f : Int) > 65535) = false := by simp; omega
            clear HG HL HO
            go_wp2_with fail
            exact ⟨⟨k0, hb, a + n, m + 1, by go_num, by omega, d3, HE⟩, by simp [intOf]; omega⟩
      · generalize pr' pi = q at *
        have HQ : Hid (∀ w : World, Calls Tryz.prog 72 #[.int .i64 pi] w fun e w' => e = .returned (.bool q) ∧ Below w.heap.size w w') := hp
        clear hp
        go_wp2_with fail
        refine (hn _).mono ?_
        rintro e w2 ⟨rfl, rfl⟩
        go_wp2_with fail
        refine (HQ.out _).mono ?_
        rintro e w2 ⟨rfl, hb2⟩
        clear HQ hn
        have k1 := k0.below hb2
        have hb3 := hb.trans (hb2.mono (Nat.le_of_lt k0.lt))
        clear k0 hb hb2
        have k0 := k1
        have hb := hb3
        clear k1 hb3
        have HQ2 : Hid (∀ w : World, Calls Tryz.prog 49 #[.int .u8 ((s[a]'h1).toNat : Int)] w fun e w' => e = .returned (.bool x) ∧ w' = w) := hd
        clear hd
        go_wp2_with fail
        refine (HQ2.out _).mono ?_
        rintro e w2 ⟨rfl, rfl⟩
        clear HQ2
        have c0 := k0.cell0
        have c1 := k0.cell1
        have z0 := k0.frozen 0
        have z1 := k0.frozen 1
        cases x
        · have HE : Hid (R = (a, 0)) := HG.out rfl
          clear HG HL HO
          go_wp2_with fail
          have k2 := (k0.set0 (a : Int)).set1 0
          have m0 := k2.cell0
          have m1 := k2.cell1
          refine bodyPost_ret (v := .agg #[.int .i64 (a : Int), .int .i64 0]) (by simp [results, Tryz.f52, go_sem, m0, m1]) rfl ?_
          exact ⟨enV_eq HE.out, (hb.setCell (p := ⟨w.heap.size, 0, none⟩) (Nat.le_refl _) _).setCell (p := ⟨w.heap.size, 1, none⟩) (Nat.le_refl _) _⟩
        · by_cases h2 : 65535 < a + n - f
          · have HE : Hid (R = (f, 103)) := HL.out rfl h2
            have e2 : decide ((a : Int) + (n : Int) - (f : Int) > 65535) = true := by simp; omega
            clear HG HL HO
            go_wp2_with fail
            have k2 := (k0.set0 (f : Int)).set1 103
            have m0 := k2.cell0
            have m1 := k2.cell1
            refine bodyPost_ret (v := .agg #[.int .i64 (f : Int), .int .i64 103]) (by simp [results, Tryz.f52, go_sem, m0, m1]) rfl ?_
            exact ⟨enV_eq HE.out, (hb.setCell (p := ⟨w.heap.size, 0, none⟩) (Nat.le_refl _) _).setCell (p := ⟨w.heap.size, 1, none⟩) (Nat.le_refl _) _⟩
          · have HE : Hid (R = run (gRow s f 3) s.size (a + n) (m + 1)) := HO.out rfl h2
            have e2 : decide ((a : Int) + (n : Int) - (f : Int) > 65535) = false := by simp; omega
            clear HG HL HO
            go_wp2_with fail
            exact ⟨⟨k0, hb, a + n, m + 1, by go_num, by omega, d3, HE⟩, by simp [intOf]; omega⟩
    · have HE : Hid (R = (a, 0)) := by show R = _; rw [HI.out]; exact run_out ha (by unfold gRow; rw [if_pos (by omega)])
      clear HI
      have c0 := k0.cell0
      have c1 := k0.cell1
      have z0 := k0.frozen 0
      have z1 := k0.frozen 1
      go_wp2_with fail
      have k2 := (k0.set0 (a : Int)).set1 0
      have m0 := k2.cell0
      have m1 := k2.cell1
      refine bodyPost_ret (v := .agg #[.int .i64 (a : Int), .int .i64 0]) (by simp [results, Tryz.f52, go_sem, m0, m1]) rfl ?_
      exact ⟨enV_eq HE.out, (hb.setCell (p := ⟨w.heap.size, 0, none⟩) (Nat.le_refl _) _).setCell (p := ⟨w.heap.size, 1, none⟩) (Nat.le_refl _) _⟩
end Go.Proofs.YtojjfbnpjhjidaaGreatDoor.Lx
