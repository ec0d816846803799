import Derived.Test.YtojjfbnpjhjidaaGreatDoorM26
set_option linter.unusedVariables false
set_option linter.unusedSimpArgs false
namespace Go.Proofs.YtojjfbnpjhjidaaGreatDoor.Lx
open Go.ChangeShapes Go.WideShapes Go.ChangeAt Go.RowKit
theorem quo_long {s : ByteArray} {f q : Nat} {o : Bool} {a m : Nat} (h1 : a < s.size) (h2 : by8 s a ≠ 10) (h : 65535 < a + dw s a - f) : gQuo s f q o a m = .out f 103 := by
  unfold gQuo; rw [if_neg (by omega), if_pos h]
theorem quo_end {s : ByteArray} {f q : Nat} {o : Bool} {a m : Nat} (h1 : a < s.size) (h2 : by8 s a ≠ 10) (h : ¬ 65535 < a + dw s a - f) (hx : ((by8 s a == q) && (!o || m == 1)) = true) : gQuo s f q o a m = .out (a + 1) 0 := by
  have : by8 s a = q ∧ (o = false ∨ m = 1) := by simpa using hx
  unfold gQuo; rw [if_neg (by omega), if_neg h, if_pos this]
theorem quo_bad {s : ByteArray} {f q : Nat} {o : Bool} {a m : Nat} (h1 : a < s.size) (h2 : by8 s a ≠ 10) (h : ¬ 65535 < a + dw s a - f) (hx : ((by8 s a == q) && (!o || m == 1)) = false) (hy : (tkCtl s a || (o && (m == 1 || by8 s a == q))) = true) : gQuo s f q o a m = .out a 102 := by
  have h3 : ¬ (by8 s a = q ∧ (o = false ∨ m = 1)) := fun h => by have : ((by8 s a == q) && (!o || m == 1)) = true := by simpa using h
                                                                 rw [this] at hx; cases hx
  have h4 : tkCtl s a = true ∨ (o = true ∧ (m = 1 ∨ by8 s a = q)) := by simpa using hy
  unfold gQuo; rw [if_neg (by omega), if_neg h, if_neg h3, if_pos h4]
theorem quo_on {s : ByteArray} {f q : Nat} {o : Bool} {a m : Nat} (h1 : a < s.size) (h2 : by8 s a ≠ 10) (h : ¬ 65535 < a + dw s a - f) (hx : ((by8 s a == q) && (!o || m == 1)) = false) (hy : (tkCtl s a || (o && (m == 1 || by8 s a == q))) = false) : gQuo s f q o a m = .on (dw s a) := by
  have h3 : ¬ (by8 s a = q ∧ (o = false ∨ m = 1)) := fun h => by have : ((by8 s a == q) && (!o || m == 1)) = true := by simpa using h
                                                                 rw [this] at hx; cases hx
  have h4 : ¬ (tkCtl s a = true ∨ (o = true ∧ (m = 1 ∨ by8 s a = q))) := fun h => by have : (tkCtl s a || (o && (m == 1 || by8 s a == q))) = true := by simpa using h
                                                                                     rw [this] at hy; cases hy
  unfold gQuo; rw [if_neg (by omega), if_neg h, if_neg h3, if_neg h4]
set_option maxHeartbeats 4000000 in
set_option maxRecDepth 100000 in
theorem rquoted_any (s : ByteArray) (f q : Nat) (o : Bool) (w : World) (hs : s.size ≤ 2147483647) (hf : f < s.size) (hq : q < 256) :
    Calls Tryz.prog 50 #[.string s, .int .i64 f, .int .u8 q, .bool o] w fun e w' => e = .returned (enV (run (gQuo s f q o) s.size (f + 1) 0)) ∧ Below w.heap.size w w' := by
  obtain ⟨R, hR⟩ : ∃ R, R = run (gQuo s f q o) s.size (f + 1) 0 := ⟨_, rfl⟩
  rw [← hR]
  have HR : Hid (R = run (gQuo s f q o) s.size (f + 1) 0) := hR
  clear hR
  go_enter Tryz.func50, Tryz.ntmps50
  go_wp2_with fail
  have k0 := Box2.new w 0 0
  have hB : Below w.heap.size w (w.alloc (.cells #[.int .i64 0, .int .i64 0] 92)) := (Below.refl _ w).alloc (Nat.le_refl _) _
  generalize w.alloc (.cells #[.int .i64 0, .int .i64 0] 92) = w1 at *
  go_loopw [9, 10] (fun i j wr => Box2 wr w.heap.size 0 0 ∧ Below w.heap.size w wr ∧ ∃ a m : Nat, i = .int .i64 a ∧ j = .int .i64 m ∧ f < a ∧ m ≤ a ∧ a ≤ s.size ∧ Hid (R = run (gQuo s f q o) s.size a m)) (fun i _ _ => s.size - (intOf i).toNat)
  case atStart => exact ⟨k0, hB, f + 1, 0, by go_num, rfl, by omega, by omega, hf, HR⟩
  case round =>
    clear k0 hB HR
    obtain ⟨k0, hb, a, m, rfl, rfl, hfa, hm, ha, HI⟩ := hrel
    have c0 := k0.cell0
    have c1 := k0.cell1
    have z0 := k0.frozen 0
    have z1 := k0.frozen 1
    by_cases h1 : a < s.size
    · have g8 := by8_get s a h1
      by_cases h10 : by8 s a = 10
      · have e1 : (((s[a]'h1).toNat : Int) != 10) = false := by rw [g8, h10]; rfl
        have HE : Hid (R = (f, 101)) := by show R = _; rw [HI.out]; exact run_out ha (by unfold gQuo; rw [if_pos (.inr h10)])
        clear HI g8 h10
        go_wp2_with fail
        have k2 := (k0.set0 (f : Int)).set1 101
        have m0 := k2.cell0
        have m1 := k2.cell1
        refine bodyPost_ret (v := .agg #[.int .i64 (f : Int), .int .i64 101]) (by simp [results, Tryz.f50, go_sem, m0, m1]) rfl ?_
        exact ⟨enV_eq HE.out, (hb.setCell (p := ⟨w.heap.size, 0, none⟩) (Nat.le_refl _) _).setCell (p := ⟨w.heap.size, 1, none⟩) (Nat.le_refl _) _⟩
      · have hn := rnext_nat s a hs h1
        have hc : ∀ w : World, Calls Tryz.prog 71 #[.int .i64 (dp s a), .bool (gd s a)] w fun e w' => e = .returned (.bool (tkCtl s a)) ∧ w' = w := fun w => rcontrol_any _ _ w
        obtain ⟨d1, d2, d3⟩ := dw_facts s a h1
        have e1 : (((s[a]'h1).toNat : Int) != 10) = true := by rw [g8]; simp; omega
        have ex : (((s[a]'h1).toNat : Int) == (q : Int)) = (by8 s a == q) := by rw [g8, Bool.eq_iff_iff]; simp; omega
        have ey : ((m : Int) == 1) = (m == 1) := by rw [Bool.eq_iff_iff]; simp; omega
        have HL : Hid (65535 < a + dw s a - f → R = (f, 103)) := fun h => by rw [HI.out]; exact run_out ha (quo_long h1 h10 h)
        have HN : Hid (¬ 65535 < a + dw s a - f → ((by8 s a == q) && (!o || m == 1)) = true → R = (a + 1, 0)) := fun h h2 => by rw [HI.out]; exact run_out ha (quo_end h1 h10 h h2)
        have HB : Hid (¬ 65535 < a + dw s a - f → ((by8 s a == q) && (!o || m == 1)) = false → (tkCtl s a || (o && (m == 1 || by8 s a == q))) = true → R = (a, 102)) := fun h h2 h3 => by rw [HI.out]; exact run_out ha (quo_bad h1 h10 h h2 h3)
        have HO : Hid (¬ 65535 < a + dw s a - f → ((by8 s a == q) && (!o || m == 1)) = false → (tkCtl s a || (o && (m == 1 || by8 s a == q))) = false → R = run (gQuo s f q o) s.size (a + dw s a) (m + 1)) := fun h h2 h3 => by rw [HI.out]; exact run_on (gQuo_on s f q o) ha (quo_on h1 h10 h h2 h3)
        clear HI g8 h10
        generalize tkCtl s a = t at *
        generalize dp s a = p at *
        generalize dw s a = n at *
        generalize gd s a = g at *
        generalize (by8 s a == q) = x at *
        generalize (m == 1) = y at *
        have HC : Hid (∀ w : World, Calls Tryz.prog 71 #[.int .i64 p, .bool g] w fun e w' => e = .returned (.bool t) ∧ w' = w) := hc
        clear hc
        by_cases h2 : 65535 < a + n - f
        · have HE : Hid (R = (f, 103)) := HL.out h2
          have e2 : decide ((a : Int) + (n : Int) - (f : Int) > 65535) = true := by simp; omega
          clear HL HN HB HO
          cases o <;> cases x <;> cases y <;>
          · go_wp2_with fail
            refine (hn _).mono ?_
            rintro e w2 ⟨rfl, rfl⟩
            go_wp2_with fail
            refine (HC.out _).mono ?_
            rintro e w2 ⟨rfl, rfl⟩
            clear HC hn
            go_wp2_with fail
            have k2 := (k0.set0 (f : Int)).set1 103
            have m0 := k2.cell0
            have m1 := k2.cell1
            refine bodyPost_ret (v := .agg #[.int .i64 (f : Int), .int .i64 103]) (by simp [results, Tryz.f50, go_sem, m0, m1]) rfl ?_
            exact ⟨enV_eq HE.out, (hb.setCell (p := ⟨w.heap.size, 0, none⟩) (Nat.le_refl _) _).setCell (p := ⟨w.heap.size, 1, none⟩) (Nat.le_refl _) _⟩
        · have e2 : decide ((a : Int) + (n : Int) - (f : Int) > 65535) = false := by simp; omega
          clear HL
          by_cases h3 : (x && (!o || y)) = true
          · have HE : Hid (R = (a + 1, 0)) := HN.out h2 h3
            clear HN HB HO
            cases o <;> cases x <;> cases y <;> first
            | (cases h3; done)
            | (go_wp2_with fail
               refine (hn _).mono ?_
               rintro e w2 ⟨rfl, rfl⟩
               go_wp2_with fail
               refine (HC.out _).mono ?_
               rintro e w2 ⟨rfl, rfl⟩
               clear HC hn
               go_wp2_with fail
               have k2 := (k0.set0 ((a : Int) + 1)).set1 0
               have m0 := k2.cell0
               have m1 := k2.cell1
               refine bodyPost_ret (v := .agg #[.int .i64 ((a : Int) + 1), .int .i64 0]) (by simp [results, Tryz.f50, go_sem, m0, m1]) rfl ?_
               exact ⟨enV_eq HE.out, (hb.setCell (p := ⟨w.heap.size, 0, none⟩) (Nat.le_refl _) _).setCell (p := ⟨w.heap.size, 1, none⟩) (Nat.le_refl _) _⟩)
          · have h3' : (x && (!o || y)) = false := by simpa using h3
            by_cases h4 : (t || (o && (y || x))) = true
            · have HE : Hid (R = (a, 102)) := HB.out h2 h3' h4
              clear HN HB HO h3
              cases o <;> cases x <;> cases y <;> cases t <;> first
              | (cases h3'; done)
              | (cases h4; done)
              | (go_wp2_with fail
                 refine (hn _).mono ?_
                 rintro e w2 ⟨rfl, rfl⟩
                 go_wp2_with fail
                 refine (HC.out _).mono ?_
                 rintro e w2 ⟨rfl, rfl⟩
                 clear HC hn
                 go_wp2_with fail
                 have k2 := (k0.set0 (a : Int)).set1 102
                 have m0 := k2.cell0
                 have m1 := k2.cell1
                 refine bodyPost_ret (v := .agg #[.int .i64 (a : Int), .int .i64 102]) (by simp [results, Tryz.f50, go_sem, m0, m1]) rfl ?_
                 exact ⟨enV_eq HE.out, (hb.setCell (p := ⟨w.heap.size, 0, none⟩) (Nat.le_refl _) _).setCell (p := ⟨w.heap.size, 1, none⟩) (Nat.le_refl _) _⟩)
            · have h4' : (t || (o && (y || x))) = false := by simpa using h4
              have HE : Hid (R = run (gQuo s f q o) s.size (a + n) (m + 1)) := HO.out h2 h3' h4'
              clear HN HB HO h3 h4
              cases o <;> cases x <;> cases y <;> cases t <;> first
              | (cases h3'; done)
              | (cases h4'; done)
              | (go_wp2_with fail
                 refine (hn _).mono ?_
                 rintro e w2 ⟨rfl, rfl⟩
                 go_wp2_with fail
                 refine (HC.out _).mono ?_
                 rintro e w2 ⟨rfl, rfl⟩
                 clear HC hn
                 go_wp2_with fail
                 exact ⟨⟨k0, hb, a + n, m + 1, by go_num, by go_num, by omega, by omega, d3, HE⟩, by simp [intOf]; omega⟩)
    · have HE : Hid (R = (f, 101)) := by show R = _; rw [HI.out]; exact run_out ha (by unfold gQuo; rw [if_pos (.inl (by omega))])
      clear HI
      go_wp2_with fail
      have k2 := (k0.set0 (f : Int)).set1 101
      have m0 := k2.cell0
      have m1 := k2.cell1
      refine bodyPost_ret (v := .agg #[.int .i64 (f : Int), .int .i64 101]) (by simp [results, Tryz.f50, go_sem, m0, m1]) rfl ?_
      exact ⟨enV_eq HE.out, (hb.setCell (p := ⟨w.heap.size, 0, none⟩) (Nat.le_refl _) _).setCell (p := ⟨w.heap.size, 1, none⟩) (Nat.le_refl _) _⟩
end Go.Proofs.YtojjfbnpjhjidaaGreatDoor.Lx
