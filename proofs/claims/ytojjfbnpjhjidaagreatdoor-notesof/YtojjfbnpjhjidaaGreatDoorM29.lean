import Derived.Test.YtojjfbnpjhjidaaGreatDoorM28
set_option linter.unusedVariables false
set_option linter.unusedSimpArgs false
namespace Go.Proofs.YtojjfbnpjhjidaaGreatDoor.Lx
open Go.ChangeShapes Go.WideShapes Go.ChangeAt Go.RowKit
theorem rends_4 (s : ByteArray) (f : Nat) (w : World) (hs : s.size ≤ 2147483647) (hf : f < s.size) :
    Calls Tryz.prog 36 #[.string s, .int .i64 f, .int .u8 4] w fun e w' => e = .returned (enV (tkEnd s f 4)) ∧ Below w.heap.size w w' := by
  have hR : tkEnd s f 4 = run (gQuo s f 34 false) s.size (f + 1) 0 := by unfold tkEnd; simp
  have hq : ∀ w : World, Calls Tryz.prog 50 #[.string s, .int .i64 f, .int .u8 34, .bool false] w fun e w' => e = .returned (enV (run (gQuo s f 34 false) s.size (f + 1) 0)) ∧ Below w.heap.size w w' := fun w => rquoted_any s f 34 false w hs hf (by decide)
  rw [hR]
  clear hR
  generalize run (gQuo s f 34 false) s.size (f + 1) 0 = R at *
  obtain ⟨p, q⟩ := R
  have hq2 : ∀ w : World, Calls Tryz.prog 50 #[.string s, .int .i64 f, .int .u8 34, .bool false] w fun e w' => e = .returned (.agg #[.int .i64 p, .int .i64 q]) ∧ Below w.heap.size w w' := hq
  clear hq
  go_enter Tryz.func36, Tryz.ntmps36
  go_wp2_with fail
  have k0 := Box2.new w 0 0
  have hB : Below w.heap.size w (w.alloc (.cells #[.int .i64 0, .int .i64 0] 92)) := (Below.refl _ w).alloc (Nat.le_refl _) _
  generalize w.alloc (.cells #[.int .i64 0, .int .i64 0] 92) = w1 at *
  refine (hq2 _).mono ?_
  rintro e w2 ⟨rfl, hb2⟩
  have k1 := k0.below hb2
  have hb := hB.trans (hb2.mono (Nat.le_of_lt k0.lt))
  clear k0 hB hb2 hq2
  have c0 := k1.cell0
  have c1 := k1.cell1
  have z0 := k1.frozen 0
  have z1 := k1.frozen 1
  go_wp2_with fail
  have k2 := (k1.set0 p).set1 q
  have m0 := k2.cell0
  have m1 := k2.cell1
  refine bodyPost_ret (v := .agg #[.int .i64 p, .int .i64 q]) (by simp [results, Tryz.f36, go_sem, m0, m1]) rfl ?_
  exact ⟨rfl, (hb.setCell (p := ⟨w.heap.size, 0, none⟩) (Nat.le_refl _) _).setCell (p := ⟨w.heap.size, 1, none⟩) (Nat.le_refl _) _⟩
theorem rends_5 (s : ByteArray) (f : Nat) (w : World) (hs : s.size ≤ 2147483647) (hf : f < s.size) :
    Calls Tryz.prog 36 #[.string s, .int .i64 f, .int .u8 5] w fun e w' => e = .returned (enV (tkEnd s f 5)) ∧ Below w.heap.size w w' := by
  have hR : tkEnd s f 5 = run (gQuo s f 39 true) s.size (f + 1) 0 := by unfold tkEnd; simp
  have hq : ∀ w : World, Calls Tryz.prog 50 #[.string s, .int .i64 f, .int .u8 39, .bool true] w fun e w' => e = .returned (enV (run (gQuo s f 39 true) s.size (f + 1) 0)) ∧ Below w.heap.size w w' := fun w => rquoted_any s f 39 true w hs hf (by decide)
  rw [hR]
  clear hR
  generalize run (gQuo s f 39 true) s.size (f + 1) 0 = R at *
  obtain ⟨p, q⟩ := R
  have hq2 : ∀ w : World, Calls Tryz.prog 50 #[.string s, .int .i64 f, .int .u8 39, .bool true] w fun e w' => e = .returned (.agg #[.int .i64 p, .int .i64 q]) ∧ Below w.heap.size w w' := hq
  clear hq
  go_enter Tryz.func36, Tryz.ntmps36
  go_wp2_with fail
  have k0 := Box2.new w 0 0
  have hB : Below w.heap.size w (w.alloc (.cells #[.int .i64 0, .int .i64 0] 92)) := (Below.refl _ w).alloc (Nat.le_refl _) _
  generalize w.alloc (.cells #[.int .i64 0, .int .i64 0] 92) = w1 at *
  refine (hq2 _).mono ?_
  rintro e w2 ⟨rfl, hb2⟩
  have k1 := k0.below hb2
  have hb := hB.trans (hb2.mono (Nat.le_of_lt k0.lt))
  clear k0 hB hb2 hq2
  have c0 := k1.cell0
  have c1 := k1.cell1
  have z0 := k1.frozen 0
  have z1 := k1.frozen 1
  go_wp2_with fail
  have k2 := (k1.set0 p).set1 q
  have m0 := k2.cell0
  have m1 := k2.cell1
  refine bodyPost_ret (v := .agg #[.int .i64 p, .int .i64 q]) (by simp [results, Tryz.f36, go_sem, m0, m1]) rfl ?_
  exact ⟨rfl, (hb.setCell (p := ⟨w.heap.size, 0, none⟩) (Nat.le_refl _) _).setCell (p := ⟨w.heap.size, 1, none⟩) (Nat.le_refl _) _⟩
theorem rends_7 (s : ByteArray) (f : Nat) (w : World) (hs : s.size ≤ 2147483647) (hf : f < s.size) :
    Calls Tryz.prog 36 #[.string s, .int .i64 f, .int .u8 7] w fun e w' => e = .returned (enV (tkEnd s f 7)) ∧ Below w.heap.size w w' := by
  have hR : tkEnd s f 7 = run (gCom s f false) s.size f 0 := by unfold tkEnd; simp
  have hq : ∀ w : World, Calls Tryz.prog 51 #[.string s, .int .i64 f, .bool false] w fun e w' => e = .returned (enV (run (gCom s f false) s.size f 0)) ∧ Below w.heap.size w w' := fun w => rcomment_any s f false w hs (Nat.le_of_lt hf)
  rw [hR]
  clear hR
  generalize run (gCom s f false) s.size f 0 = R at *
  obtain ⟨p, q⟩ := R
  have hq2 : ∀ w : World, Calls Tryz.prog 51 #[.string s, .int .i64 f, .bool false] w fun e w' => e = .returned (.agg #[.int .i64 p, .int .i64 q]) ∧ Below w.heap.size w w' := hq
  clear hq
  go_enter Tryz.func36, Tryz.ntmps36
  go_wp2_with fail
  have k0 := Box2.new w 0 0
  have hB : Below w.heap.size w (w.alloc (.cells #[.int .i64 0, .int .i64 0] 92)) := (Below.refl _ w).alloc (Nat.le_refl _) _
  generalize w.alloc (.cells #[.int .i64 0, .int .i64 0] 92) = w1 at *
  refine (hq2 _).mono ?_
  rintro e w2 ⟨rfl, hb2⟩
  have k1 := k0.below hb2
  have hb := hB.trans (hb2.mono (Nat.le_of_lt k0.lt))
  clear k0 hB hb2 hq2
  have c0 := k1.cell0
  have c1 := k1.cell1
  have z0 := k1.frozen 0
  have z1 := k1.frozen 1
  go_wp2_with fail
  have k2 := (k1.set0 p).set1 q
  have m0 := k2.cell0
  have m1 := k2.cell1
  refine bodyPost_ret (v := .agg #[.int .i64 p, .int .i64 q]) (by simp [results, Tryz.f36, go_sem, m0, m1]) rfl ?_
  exact ⟨rfl, (hb.setCell (p := ⟨w.heap.size, 0, none⟩) (Nat.le_refl _) _).setCell (p := ⟨w.heap.size, 1, none⟩) (Nat.le_refl _) _⟩
theorem rends_8 (s : ByteArray) (f : Nat) (w : World) (hs : s.size ≤ 2147483647) (hf : f < s.size) :
    Calls Tryz.prog 36 #[.string s, .int .i64 f, .int .u8 8] w fun e w' => e = .returned (enV (tkEnd s f 8)) ∧ Below w.heap.size w w' := by
  have hR : tkEnd s f 8 = run (gCom s f true) s.size f 0 := by unfold tkEnd; simp
  have hq : ∀ w : World, Calls Tryz.prog 51 #[.string s, .int .i64 f, .bool true] w fun e w' => e = .returned (enV (run (gCom s f true) s.size f 0)) ∧ Below w.heap.size w w' := fun w => rcomment_any s f true w hs (Nat.le_of_lt hf)
  rw [hR]
  clear hR
  generalize run (gCom s f true) s.size f 0 = R at *
  obtain ⟨p, q⟩ := R
  have hq2 : ∀ w : World, Calls Tryz.prog 51 #[.string s, .int .i64 f, .bool true] w fun e w' => e = .returned (.agg #[.int .i64 p, .int .i64 q]) ∧ Below w.heap.size w w' := hq
  clear hq
  go_enter Tryz.func36, Tryz.ntmps36
  go_wp2_with fail
  have k0 := Box2.new w 0 0
  have hB : Below w.heap.size w (w.alloc (.cells #[.int .i64 0, .int .i64 0] 92)) := (Below.refl _ w).alloc (Nat.le_refl _) _
  generalize w.alloc (.cells #[.int .i64 0, .int .i64 0] 92) = w1 at *
  refine (hq2 _).mono ?_
  rintro e w2 ⟨rfl, hb2⟩
  have k1 := k0.below hb2
  have hb := hB.trans (hb2.mono (Nat.le_of_lt k0.lt))
  clear k0 hB hb2 hq2
  have c0 := k1.cell0
  have c1 := k1.cell1
  have z0 := k1.frozen 0
  have z1 := k1.frozen 1
  go_wp2_with fail
  have k2 := (k1.set0 p).set1 q
  have m0 := k2.cell0
  have m1 := k2.cell1
  refine bodyPost_ret (v := .agg #[.int .i64 p, .int .i64 q]) (by simp [results, Tryz.f36, go_sem, m0, m1]) rfl ?_
  exact ⟨rfl, (hb.setCell (p := ⟨w.heap.size, 0, none⟩) (Nat.le_refl _) _).setCell (p := ⟨w.heap.size, 1, none⟩) (Nat.le_refl _) _⟩
theorem rends_1 (s : ByteArray) (f : Nat) (w : World) (hs : s.size ≤ 2147483647) (hf : f < s.size) :
    Calls Tryz.prog 36 #[.string s, .int .i64 f, .int .u8 1] w fun e w' => e = .returned (enV (tkEnd s f 1)) ∧ Below w.heap.size w w' := by
  have hR : tkEnd s f 1 = run (gRow s f 1) s.size f 0 := by unfold tkEnd; simp
  have hq : ∀ w : World, Calls Tryz.prog 52 #[.string s, .int .i64 f, .int .u8 1] w fun e w' => e = .returned (enV (run (gRow s f 1) s.size f 0)) ∧ Below w.heap.size w w' := fun w => rrow_name s f w hs (Nat.le_of_lt hf)
  rw [hR]
  clear hR
  generalize run (gRow s f 1) s.size f 0 = R at *
  obtain ⟨p, q⟩ := R
  have hq2 : ∀ w : World, Calls Tryz.prog 52 #[.string s, .int .i64 f, .int .u8 1] w fun e w' => e = .returned (.agg #[.int .i64 p, .int .i64 q]) ∧ Below w.heap.size w w' := hq
  clear hq
  go_enter Tryz.func36, Tryz.ntmps36
  go_wp2_with fail
  have k0 := Box2.new w 0 0
  have hB : Below w.heap.size w (w.alloc (.cells #[.int .i64 0, .int .i64 0] 92)) := (Below.refl _ w).alloc (Nat.le_refl _) _
  generalize w.alloc (.cells #[.int .i64 0, .int .i64 0] 92) = w1 at *
  refine (hq2 _).mono ?_
  rintro e w2 ⟨rfl, hb2⟩
  have k1 := k0.below hb2
  have hb := hB.trans (hb2.mono (Nat.le_of_lt k0.lt))
  clear k0 hB hb2 hq2
  have c0 := k1.cell0
  have c1 := k1.cell1
  have z0 := k1.frozen 0
  have z1 := k1.frozen 1
  go_wp2_with fail
  have k2 := (k1.set0 p).set1 q
  have m0 := k2.cell0
  have m1 := k2.cell1
  refine bodyPost_ret (v := .agg #[.int .i64 p, .int .i64 q]) (by simp [results, Tryz.f36, go_sem, m0, m1]) rfl ?_
  exact ⟨rfl, (hb.setCell (p := ⟨w.heap.size, 0, none⟩) (Nat.le_refl _) _).setCell (p := ⟨w.heap.size, 1, none⟩) (Nat.le_refl _) _⟩
theorem rends_3 (s : ByteArray) (f : Nat) (w : World) (hs : s.size ≤ 2147483647) (hf : f < s.size) :
    Calls Tryz.prog 36 #[.string s, .int .i64 f, .int .u8 3] w fun e w' => e = .returned (enV (tkEnd s f 3)) ∧ Below w.heap.size w w' := by
  have hR : tkEnd s f 3 = run (gRow s f 3) s.size f 0 := by unfold tkEnd; simp
  have hq : ∀ w : World, Calls Tryz.prog 52 #[.string s, .int .i64 f, .int .u8 3] w fun e w' => e = .returned (enV (run (gRow s f 3) s.size f 0)) ∧ Below w.heap.size w w' := fun w => rrow_num s f w hs (Nat.le_of_lt hf)
  rw [hR]
  clear hR
  generalize run (gRow s f 3) s.size f 0 = R at *
  obtain ⟨p, q⟩ := R
  have hq2 : ∀ w : World, Calls Tryz.prog 52 #[.string s, .int .i64 f, .int .u8 3] w fun e w' => e = .returned (.agg #[.int .i64 p, .int .i64 q]) ∧ Below w.heap.size w w' := hq
  clear hq
  go_enter Tryz.func36, Tryz.ntmps36
  go_wp2_with fail
  have k0 := Box2.new w 0 0
  have hB : Below w.heap.size w (w.alloc (.cells #[.int .i64 0, .int .i64 0] 92)) := (Below.refl _ w).alloc (Nat.le_refl _) _
  generalize w.alloc (.cells #[.int .i64 0, .int .i64 0] 92) = w1 at *
  refine (hq2 _).mono ?_
  rintro e w2 ⟨rfl, hb2⟩
  have k1 := k0.below hb2
  have hb := hB.trans (hb2.mono (Nat.le_of_lt k0.lt))
  clear k0 hB hb2 hq2
  have c0 := k1.cell0
  have c1 := k1.cell1
  have z0 := k1.frozen 0
  have z1 := k1.frozen 1
  go_wp2_with fail
  have k2 := (k1.set0 p).set1 q
  have m0 := k2.cell0
  have m1 := k2.cell1
  refine bodyPost_ret (v := .agg #[.int .i64 p, .int .i64 q]) (by simp [results, Tryz.f36, go_sem, m0, m1]) rfl ?_
  exact ⟨rfl, (hb.setCell (p := ⟨w.heap.size, 0, none⟩) (Nat.le_refl _) _).setCell (p := ⟨w.heap.size, 1, none⟩) (Nat.le_refl _) _⟩
theorem rends_6 (s : ByteArray) (f : Nat) (w : World) (hs : s.size ≤ 2147483647) (hf : f < s.size) :
    Calls Tryz.prog 36 #[.string s, .int .i64 f, .int .u8 6] w fun e w' => e = .returned (enV (tkEnd s f 6)) ∧ Below w.heap.size w w' := by
  have hR : tkEnd s f 6 = (f + (sg s f).size, 0) := by unfold tkEnd; simp
  have hq : ∀ w : World, Calls Tryz.prog 48 #[.string s, .int .i64 f] w fun e w' => e = .returned (.string (sg s f)) ∧ Below w.heap.size w w' := fun w => rsign_in s f w hs hf
  have hz := sg_two s f
  rw [hR]
  clear hR
  generalize sg s f = x at *
  go_enter Tryz.func36, Tryz.ntmps36
  go_wp2_with fail
  have k0 := Box2.new w 0 0
  have hB : Below w.heap.size w (w.alloc (.cells #[.int .i64 0, .int .i64 0] 92)) := (Below.refl _ w).alloc (Nat.le_refl _) _
  generalize w.alloc (.cells #[.int .i64 0, .int .i64 0] 92) = w1 at *
  refine (hq _).mono ?_
  rintro e w2 ⟨rfl, hb2⟩
  have k1 := k0.below hb2
  have hb := hB.trans (hb2.mono (Nat.le_of_lt k0.lt))
  clear k0 hB hb2 hq
  have c0 := k1.cell0
  have c1 := k1.cell1
  have z0 := k1.frozen 0
  have z1 := k1.frozen 1
  go_wp2_with fail
  have k2 := (k1.set0 ((f : Int) + (x.size : Int))).set1 0
  have m0 := k2.cell0
  have m1 := k2.cell1
  refine bodyPost_ret (v := .agg #[.int .i64 ((f : Int) + (x.size : Int)), .int .i64 0]) (by simp [results, Tryz.f36, go_sem, m0, m1]) rfl ?_
  exact ⟨rfl, (hb.setCell (p := ⟨w.heap.size, 0, none⟩) (Nat.le_refl _) _).setCell (p := ⟨w.heap.size, 1, none⟩) (Nat.le_refl _) _⟩
theorem tkBgn_kind (s : ByteArray) (a : Nat) : tkBgn s a = 0 ∨ tkBgn s a = 1 ∨ tkBgn s a = 3 ∨ tkBgn s a = 4 ∨ tkBgn s a = 5 ∨ tkBgn s a = 6 ∨ tkBgn s a = 7 ∨ tkBgn s a = 8 := by
  unfold tkBgn
  repeat' split
  all_goals simp
theorem rends_any (s : ByteArray) (f k : Nat) (w : World) (hs : s.size ≤ 2147483647) (hf : f < s.size) (hk : tkBgn s f = k) (h0 : k ≠ 0) :
    Calls Tryz.prog 36 #[.string s, .int .i64 f, .int .u8 k] w fun e w' => e = .returned (enV (tkEnd s f k)) ∧ Below w.heap.size w w' := by
  rcases tkBgn_kind s f with h | h | h | h | h | h | h | h
  · exact absurd (hk.symm.trans h) h0
  · obtain rfl := hk.symm.trans h; exact rends_1 s f w hs hf
  · obtain rfl := hk.symm.trans h; exact rends_3 s f w hs hf
  · obtain rfl := hk.symm.trans h; exact rends_4 s f w hs hf
  · obtain rfl := hk.symm.trans h; exact rends_5 s f w hs hf
  · obtain rfl := hk.symm.trans h; exact rends_6 s f w hs hf
  · obtain rfl := hk.symm.trans h; exact rends_7 s f w hs hf
  · obtain rfl := hk.symm.trans h; exact rends_8 s f w hs hf
end Go.Proofs.YtojjfbnpjhjidaaGreatDoor.Lx
