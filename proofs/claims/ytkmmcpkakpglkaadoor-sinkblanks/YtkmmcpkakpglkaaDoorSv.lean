import Derived.Test.YtkmmcpkakpglkaaDoorSu
import Derived.Deep.RegionHeld3
set_option linter.unusedVariables false
set_option linter.unusedSimpArgs false
namespace Go.Proofs.YtkmmcpkakpglkaaDoor
open Go.RowKit
open Go.Lib (strCells strCells_length)

theorem stepT_1 (s : St6) (t : ByteArray) (n : Int) : s.stepT 1 t n = s.text t := rfl
theorem stepT_2 (s : St6) (t : ByteArray) (m : Nat) (hn : m ≤ 1048576) : s.stepT 2 t (m : Int) = s.blanks m := by
  unfold St6.stepT St6.step
  rw [if_neg (by omega), if_neg (by omega), if_pos rfl, if_pos (by omega)]; rfl
theorem stepT_3 (s : St6) (t : ByteArray) (m : Nat) (hn : m ≤ 1048576) : s.stepT 3 t (m : Int) = s.feed m := by
  unfold St6.stepT St6.step
  rw [if_neg (by omega), if_neg (by omega), if_neg (by omega), if_pos rfl, if_pos (by omega)]; rfl
theorem stepT_2b (s : St6) (t : ByteArray) (n : Int) (hn : n < 0 ∨ 1048576 < n) : s.stepT 2 t n = s := by
  unfold St6.stepT St6.step
  rw [if_neg (by omega), if_neg (by omega), if_pos rfl, if_neg (by omega)]
theorem stepT_3b (s : St6) (t : ByteArray) (n : Int) (hn : n < 0 ∨ 1048576 < n) : s.stepT 3 t n = s := by
  unfold St6.stepT St6.step
  rw [if_neg (by omega), if_neg (by omega), if_neg (by omega), if_pos rfl, if_neg (by omega)]

set_option maxRecDepth 100000 in
set_option maxHeartbeats 1000000 in
theorem does1 (own : Nat → Nat) (a b g h : Nat) (s : St6) (w : World) (o : Bool) (t : ByteArray) (n : Int) (ha : a ≠ 0) (hb : b ≠ 0) (hab : a ≠ b) (hE : En own w) (hs : SK own a w g s) (hr : RSK own b w h s) (hbd : s.out.length + s.col + s.wait + t.size ≤ 1073741824) (hfr : s.fresh = true → s.col ≤ 1048576) (hbd2 : (s.stepT 1 t n).col ≤ 1073741824 ∧ (s.stepT 1 t n).wait ≤ 1073741824) :
    Calls Tryd.prog 19 #[.pointer (some ⟨g, 0, none⟩), .pointer (some ⟨h, 0, none⟩), .agg #[.int .i64 1, .bool o, .string t, .int .i64 n]] w fun e w' => e = .returned (.bool true) ∧ Po own a b w w' g h (s.stepT 1 t n) := by
  have hB : Below w.heap.size w (w.alloc (.cells #[.int .i64 1, .bool o, .string t, .int .i64 n] 37)) := (Below.refl _ w).alloc (Nat.le_refl _) _
  have m0 : Mo own a b w w.heap.size g h 1 o t n s s own (w.alloc (.cells #[.int .i64 1, .bool o, .string t, .int .i64 n] 37)) := ⟨hE.below hB, FrS.of_below hB, hs.below hB, hr.below hB, new_at _ _, hE.nf _ (Nat.le_refl _)⟩
  clear hB hs hr hE
  obtain ⟨s2, hs2⟩ : ∃ s2, s.stepT 1 t n = s2 := ⟨_, rfl⟩
  have hs2' : s.text t = s2 := by
    rw [← hs2]
    exact (stepT_1 s t n).symm
  rw [hs2] at hbd2 ⊢
  have KS : Hid (∀ q o2 W, Mo own a b w w.heap.size g h 1 o t n s q o2 W → Calls Tryd.prog 7 #[.pointer (some ⟨g, 0, none⟩), .string t] W fun e w' => e = .returned (.int .i64 0) ∧ ∃ o3, Mo own a b w w.heap.size g h 1 o t n s2 q o3 w') := by
    intro q o2 W m
    refine (text_st m.sk m.en ha t hbd).mono ?_
    rintro e w' ⟨rfl, l⟩
    rw [hs2'] at l
    exact ⟨rfl, m.onS ha hab l⟩
  have KR : Hid (∀ p o2 W, Mo own a b w w.heap.size g h 1 o t n p s o2 W → Calls Tryd.prog 33 #[.pointer (some ⟨h, 0, none⟩), .string t] W fun e w' => e = .returned (.int .i64 0) ∧ ∃ o3, Mo own a b w w.heap.size g h 1 o t n p s2 o3 w') := by
    intro p o2 W m
    refine (rtxt_any _ _ _ _ _ _ m.rs m.en.nf hbd).mono ?_
    rintro e w' ⟨rfl, l⟩
    have l2 := AfR.ae l m.en hb
    rw [hs2'] at l2
    exact ⟨rfl, m.onR hb hab l2⟩
  have c0 := m0.c2
  have md : Mo own a b w w.heap.size g h 1 o t n s s own (w.alloc (.cells #[.int .i64 1, .bool o, .string t, .int .i64 n] 37)).drew := m0.below (Below.drew (Below.refl _ _))
  clear m0 hs2 hs2' hbd hfr
  go_enter Tryd.func19, Tryd.ntmps19
  go_wp2_with fail
  generalize w.alloc (.cells #[.int .i64 1, .bool o, .string t, .int .i64 n] 37) = W0 at *
  generalize hBB : w.heap.size = B at *
  have HBB : Hid (w.heap.size = B) := hBB
  clear hBB
  go_region_held3 (fun w' => w'.cell? ⟨B, 2, none⟩ = some (.string t)) (first | (exact Mo.c2 (by assumption)) | (exact c0) | go_keep)
    (first | (go_at_call 7; refine (KS.out _ _ _ (by assumption)).mono ?_; rintro e w2 ⟨rfl, o2, h2⟩) | (go_at_call 33; refine (KR.out _ _ _ (by assumption)).mono ?_; rintro e w3 ⟨rfl, o3, h3⟩))
  all_goals (
    have mz : Mo own a b w B g h 1 o t n s2 s2 _ w3 := h3
    obtain ⟨oz, HM⟩ : ∃ oz, Hid (Mo own a b w B g h 1 o t n s2 s2 oz w3) := ⟨_, mz⟩
    clear mz h3 h2 md KS KR c0
    have c1 : s2.col ≤ 1073741824 := hbd2.1
    have c2 : s2.wait ≤ 1073741824 := hbd2.2
    go_wp2_with fail
    refine (column_st HM.out.sk c1 c2).mono ?_
    rintro e w8 ⟨rfl, hb8⟩
    have HM8 : Hid (Mo own a b w B g h 1 o t n s2 s2 oz w8) := HM.out.below hb8
    clear HM hb8
    go_wp2_with fail
    refine (rcolumn_any _ _ _ _ _ HM8.out.rs c1 c2).mono ?_
    rintro e w9 ⟨rfl, hb9⟩
    have HM9 : Hid (Mo own a b w B g h 1 o t n s2 s2 oz w9) := HM8.out.below hb9
    clear HM8 hb9
    have hcs := col_same ((s2.col : Int) + s2.wait)
    go_wp2_with fail
    refine (fresh_st HM9.out.sk).mono ?_
    rintro e w10 ⟨rfl, hw10⟩
    have hw10' := hw10.symm
    subst hw10'
    clear hw10
    go_wp2_with fail
    refine (rfresh_any _ _ _ _ _ HM9.out.rs).mono ?_
    rintro e w11 ⟨rfl, hw11⟩
    have hw11' := hw11.symm
    subst hw11'
    clear hw11
    have HPO : Hid (Po own a b w w9 g h s2) := ⟨oz, HM9.out.en, HM9.out.fr, HM9.out.sk, HM9.out.rs⟩
    clear HM9
    have hfs : (s2.fresh == s2.fresh) = true := by simp
    go_wp2_with fail
    go_ret
    exact ⟨rfl, HPO.out⟩)

set_option maxRecDepth 100000 in
set_option maxHeartbeats 1000000 in
theorem does2 (own : Nat → Nat) (a b g h : Nat) (s : St6) (w : World) (o : Bool) (t : ByteArray) (m : Nat) (ha : a ≠ 0) (hb : b ≠ 0) (hab : a ≠ b) (hE : En own w) (hs : SK own a w g s) (hr : RSK own b w h s) (hbd : s.out.length + s.col + s.wait + t.size ≤ 1073741824) (hfr : s.fresh = true → s.col ≤ 1048576) (hbd2 : (s.stepT 2 t (m : Int)).col ≤ 1073741824 ∧ (s.stepT 2 t (m : Int)).wait ≤ 1073741824) (hn : m ≤ 1048576) :
    Calls Tryd.prog 19 #[.pointer (some ⟨g, 0, none⟩), .pointer (some ⟨h, 0, none⟩), .agg #[.int .i64 2, .bool o, .string t, .int .i64 (m : Int)]] w fun e w' => e = .returned (.bool true) ∧ Po own a b w w' g h (s.stepT 2 t (m : Int)) := by
  have hB : Below w.heap.size w (w.alloc (.cells #[.int .i64 2, .bool o, .string t, .int .i64 (m : Int)] 37)) := (Below.refl _ w).alloc (Nat.le_refl _) _
  have m0 : Mo own a b w w.heap.size g h 2 o t (m : Int) s s own (w.alloc (.cells #[.int .i64 2, .bool o, .string t, .int .i64 (m : Int)] 37)) := ⟨hE.below hB, FrS.of_below hB, hs.below hB, hr.below hB, new_at _ _, hE.nf _ (Nat.le_refl _)⟩
  clear hB hs hr hE
  obtain ⟨s2, hs2⟩ : ∃ s2, s.stepT 2 t (m : Int) = s2 := ⟨_, rfl⟩
  have hs2' : s.blanks m = s2 := by
    rw [← hs2]
    exact (stepT_2 s t m hn).symm
  rw [hs2] at hbd2 ⊢
  have KS : Hid (∀ q o2 W, Mo own a b w w.heap.size g h 2 o t (m : Int) s q o2 W → Calls Tryd.prog 8 #[.pointer (some ⟨g, 0, none⟩), .int .i64 (m : Int)] W fun e w' => e = .returned (.int .i64 0) ∧ ∃ o3, Mo own a b w w.heap.size g h 2 o t (m : Int) s2 q o3 w') := by
    intro q o2 W M
    refine (blanks_st M.sk M.en ha m hn (by omega)).mono ?_
    rintro e w' ⟨rfl, l⟩
    rw [hs2'] at l
    exact ⟨rfl, M.onS ha hab l⟩
  have KR : Hid (∀ p o2 W, Mo own a b w w.heap.size g h 2 o t (m : Int) p s o2 W → Calls Tryd.prog 34 #[.pointer (some ⟨h, 0, none⟩), .int .i64 (m : Int)] W fun e w' => e = .returned (.int .i64 0) ∧ ∃ o3, Mo own a b w w.heap.size g h 2 o t (m : Int) p s2 o3 w') := by
    intro p o2 W M
    refine (rblanks_any _ _ _ _ _ _ M.rs M.en.nf hn (by omega)).mono ?_
    rintro e w' ⟨rfl, l⟩
    have l2 := AfR.ae l M.en hb
    rw [hs2'] at l2
    exact ⟨rfl, M.onR hb hab l2⟩
  have c0 := m0.c3
  have md : Mo own a b w w.heap.size g h 2 o t (m : Int) s s own (w.alloc (.cells #[.int .i64 2, .bool o, .string t, .int .i64 (m : Int)] 37)).drew := m0.below (Below.drew (Below.refl _ _))
  clear m0 hs2 hs2' hbd hfr
  go_enter Tryd.func19, Tryd.ntmps19
  go_wp2_with fail
  generalize w.alloc (.cells #[.int .i64 2, .bool o, .string t, .int .i64 (m : Int)] 37) = W0 at *
  generalize hBB : w.heap.size = B at *
  have HBB : Hid (w.heap.size = B) := hBB
  clear hBB
  go_region_held3 (fun w' => w'.cell? ⟨B, 3, none⟩ = some (.int .i64 (m : Int))) (first | (exact Mo.c3 (by assumption)) | (exact c0) | go_keep)
    (first | (go_at_call 8; refine (KS.out _ _ _ (by assumption)).mono ?_; rintro e w2 ⟨rfl, o2, h2⟩) | (go_at_call 34; refine (KR.out _ _ _ (by assumption)).mono ?_; rintro e w3 ⟨rfl, o3, h3⟩))
  all_goals (
    have mz : Mo own a b w B g h 2 o t (m : Int) s2 s2 _ w3 := h3
    obtain ⟨oz, HM⟩ : ∃ oz, Hid (Mo own a b w B g h 2 o t (m : Int) s2 s2 oz w3) := ⟨_, mz⟩
    clear mz h3 h2 md KS KR c0
    have c1 : s2.col ≤ 1073741824 := hbd2.1
    have c2 : s2.wait ≤ 1073741824 := hbd2.2
    go_wp2_with fail
    refine (column_st HM.out.sk c1 c2).mono ?_
    rintro e w8 ⟨rfl, hb8⟩
    have HM8 : Hid (Mo own a b w B g h 2 o t (m : Int) s2 s2 oz w8) := HM.out.below hb8
    clear HM hb8
    go_wp2_with fail
    refine (rcolumn_any _ _ _ _ _ HM8.out.rs c1 c2).mono ?_
    rintro e w9 ⟨rfl, hb9⟩
    have HM9 : Hid (Mo own a b w B g h 2 o t (m : Int) s2 s2 oz w9) := HM8.out.below hb9
    clear HM8 hb9
    have hcs := col_same ((s2.col : Int) + s2.wait)
    go_wp2_with fail
    refine (fresh_st HM9.out.sk).mono ?_
    rintro e w10 ⟨rfl, hw10⟩
    have hw10' := hw10.symm
    subst hw10'
    clear hw10
    go_wp2_with fail
    refine (rfresh_any _ _ _ _ _ HM9.out.rs).mono ?_
    rintro e w11 ⟨rfl, hw11⟩
    have hw11' := hw11.symm
    subst hw11'
    clear hw11
    have HPO : Hid (Po own a b w w9 g h s2) := ⟨oz, HM9.out.en, HM9.out.fr, HM9.out.sk, HM9.out.rs⟩
    clear HM9
    have hfs : (s2.fresh == s2.fresh) = true := by simp
    go_wp2_with fail
    go_ret
    exact ⟨rfl, HPO.out⟩)

set_option maxRecDepth 100000 in
set_option maxHeartbeats 1000000 in
theorem does3 (own : Nat → Nat) (a b g h : Nat) (s : St6) (w : World) (o : Bool) (t : ByteArray) (m : Nat) (ha : a ≠ 0) (hb : b ≠ 0) (hab : a ≠ b) (hE : En own w) (hs : SK own a w g s) (hr : RSK own b w h s) (hbd : s.out.length + s.col + s.wait + t.size ≤ 1073741824) (hfr : s.fresh = true → s.col ≤ 1048576) (hbd2 : (s.stepT 3 t (m : Int)).col ≤ 1073741824 ∧ (s.stepT 3 t (m : Int)).wait ≤ 1073741824) (hn : m ≤ 1048576) :
    Calls Tryd.prog 19 #[.pointer (some ⟨g, 0, none⟩), .pointer (some ⟨h, 0, none⟩), .agg #[.int .i64 3, .bool o, .string t, .int .i64 (m : Int)]] w fun e w' => e = .returned (.bool true) ∧ Po own a b w w' g h (s.stepT 3 t (m : Int)) := by
  have hB : Below w.heap.size w (w.alloc (.cells #[.int .i64 3, .bool o, .string t, .int .i64 (m : Int)] 37)) := (Below.refl _ w).alloc (Nat.le_refl _) _
  have m0 : Mo own a b w w.heap.size g h 3 o t (m : Int) s s own (w.alloc (.cells #[.int .i64 3, .bool o, .string t, .int .i64 (m : Int)] 37)) := ⟨hE.below hB, FrS.of_below hB, hs.below hB, hr.below hB, new_at _ _, hE.nf _ (Nat.le_refl _)⟩
  clear hB hs hr hE
  obtain ⟨s2, hs2⟩ : ∃ s2, s.stepT 3 t (m : Int) = s2 := ⟨_, rfl⟩
  have hs2' : s.feed m = s2 := by
    rw [← hs2]
    exact (stepT_3 s t m hn).symm
  rw [hs2] at hbd2 ⊢
  have KS : Hid (∀ q o2 W, Mo own a b w w.heap.size g h 3 o t (m : Int) s q o2 W → Calls Tryd.prog 9 #[.pointer (some ⟨g, 0, none⟩), .int .i64 (m : Int)] W fun e w' => e = .returned (.int .i64 0) ∧ ∃ o3, Mo own a b w w.heap.size g h 3 o t (m : Int) s2 q o3 w') := by
    intro q o2 W M
    refine (feed_st M.sk M.en ha m hn (by omega)).mono ?_
    rintro e w' ⟨rfl, l⟩
    rw [hs2'] at l
    exact ⟨rfl, M.onS ha hab l⟩
  have KR : Hid (∀ p o2 W, Mo own a b w w.heap.size g h 3 o t (m : Int) p s o2 W → Calls Tryd.prog 35 #[.pointer (some ⟨h, 0, none⟩), .int .i64 (m : Int)] W fun e w' => e = .returned (.int .i64 0) ∧ ∃ o3, Mo own a b w w.heap.size g h 3 o t (m : Int) p s2 o3 w') := by
    intro p o2 W M
    refine (rfeed_any _ _ _ _ _ _ M.rs M.en.nf hn (by omega)).mono ?_
    rintro e w' ⟨rfl, l⟩
    have l2 := AfR.ae l M.en hb
    rw [hs2'] at l2
    exact ⟨rfl, M.onR hb hab l2⟩
  have c0 := m0.c3
  have md : Mo own a b w w.heap.size g h 3 o t (m : Int) s s own (w.alloc (.cells #[.int .i64 3, .bool o, .string t, .int .i64 (m : Int)] 37)).drew := m0.below (Below.drew (Below.refl _ _))
  clear m0 hs2 hs2' hbd hfr
  go_enter Tryd.func19, Tryd.ntmps19
  go_wp2_with fail
  generalize w.alloc (.cells #[.int .i64 3, .bool o, .string t, .int .i64 (m : Int)] 37) = W0 at *
  generalize hBB : w.heap.size = B at *
  have HBB : Hid (w.heap.size = B) := hBB
  clear hBB
  go_region_held3 (fun w' => w'.cell? ⟨B, 3, none⟩ = some (.int .i64 (m : Int))) (first | (exact Mo.c3 (by assumption)) | (exact c0) | go_keep)
    (first | (go_at_call 9; refine (KS.out _ _ _ (by assumption)).mono ?_; rintro e w2 ⟨rfl, o2, h2⟩) | (go_at_call 35; refine (KR.out _ _ _ (by assumption)).mono ?_; rintro e w3 ⟨rfl, o3, h3⟩))
  all_goals (
    have mz : Mo own a b w B g h 3 o t (m : Int) s2 s2 _ w3 := h3
    obtain ⟨oz, HM⟩ : ∃ oz, Hid (Mo own a b w B g h 3 o t (m : Int) s2 s2 oz w3) := ⟨_, mz⟩
    clear mz h3 h2 md KS KR c0
    have c1 : s2.col ≤ 1073741824 := hbd2.1
    have c2 : s2.wait ≤ 1073741824 := hbd2.2
    go_wp2_with fail
    refine (column_st HM.out.sk c1 c2).mono ?_
    rintro e w8 ⟨rfl, hb8⟩
    have HM8 : Hid (Mo own a b w B g h 3 o t (m : Int) s2 s2 oz w8) := HM.out.below hb8
    clear HM hb8
    go_wp2_with fail
    refine (rcolumn_any _ _ _ _ _ HM8.out.rs c1 c2).mono ?_
    rintro e w9 ⟨rfl, hb9⟩
    have HM9 : Hid (Mo own a b w B g h 3 o t (m : Int) s2 s2 oz w9) := HM8.out.below hb9
    clear HM8 hb9
    have hcs := col_same ((s2.col : Int) + s2.wait)
    go_wp2_with fail
    refine (fresh_st HM9.out.sk).mono ?_
    rintro e w10 ⟨rfl, hw10⟩
    have hw10' := hw10.symm
    subst hw10'
    clear hw10
    go_wp2_with fail
    refine (rfresh_any _ _ _ _ _ HM9.out.rs).mono ?_
    rintro e w11 ⟨rfl, hw11⟩
    have hw11' := hw11.symm
    subst hw11'
    clear hw11
    have HPO : Hid (Po own a b w w9 g h s2) := ⟨oz, HM9.out.en, HM9.out.fr, HM9.out.sk, HM9.out.rs⟩
    clear HM9
    have hfs : (s2.fresh == s2.fresh) = true := by simp
    go_wp2_with fail
    go_ret
    exact ⟨rfl, HPO.out⟩)

set_option maxRecDepth 100000 in
set_option maxHeartbeats 1000000 in
theorem does2b (own : Nat → Nat) (a b g h : Nat) (s : St6) (w : World) (o : Bool) (t : ByteArray) (n : Int) (ha : a ≠ 0) (hb : b ≠ 0) (hab : a ≠ b) (hE : En own w) (hs : SK own a w g s) (hr : RSK own b w h s) (hbd : s.out.length + s.col + s.wait + t.size ≤ 1073741824) (hfr : s.fresh = true → s.col ≤ 1048576) (hbd2 : (s.stepT 2 t n).col ≤ 1073741824 ∧ (s.stepT 2 t n).wait ≤ 1073741824) (hn : n < 0 ∨ 1048576 < n) :
    Calls Tryd.prog 19 #[.pointer (some ⟨g, 0, none⟩), .pointer (some ⟨h, 0, none⟩), .agg #[.int .i64 2, .bool o, .string t, .int .i64 n]] w fun e w' => e = .returned (.bool true) ∧ Po own a b w w' g h (s.stepT 2 t n) := by
  have hB : Below w.heap.size w (w.alloc (.cells #[.int .i64 2, .bool o, .string t, .int .i64 n] 37)) := (Below.refl _ w).alloc (Nat.le_refl _) _
  have m0 : Mo own a b w w.heap.size g h 2 o t n s s own (w.alloc (.cells #[.int .i64 2, .bool o, .string t, .int .i64 n] 37)) := ⟨hE.below hB, FrS.of_below hB, hs.below hB, hr.below hB, new_at _ _, hE.nf _ (Nat.le_refl _)⟩
  clear hB hs hr hE
  obtain ⟨s2, hs2⟩ : ∃ s2, s.stepT 2 t n = s2 := ⟨_, rfl⟩
  have hs2' : s = s2 := by
    rw [← hs2]
    exact (stepT_2b s t n hn).symm
  rw [hs2] at hbd2 ⊢
  have KS : Hid (∀ q o2 W, Mo own a b w w.heap.size g h 2 o t n s q o2 W → Calls Tryd.prog 8 #[.pointer (some ⟨g, 0, none⟩), .int .i64 n] W fun e w' => e = .returned (.int .i64 1) ∧ ∃ o3, Mo own a b w w.heap.size g h 2 o t n s2 q o3 w') := by
    intro q o2 W m
    refine (blanks_bad g n W hn).mono ?_
    rintro e w' ⟨rfl, l⟩
    subst l; rw [← hs2']
    exact ⟨rfl, ⟨o2, m⟩⟩
  have KR : Hid (∀ p o2 W, Mo own a b w w.heap.size g h 2 o t n p s o2 W → Calls Tryd.prog 34 #[.pointer (some ⟨h, 0, none⟩), .int .i64 n] W fun e w' => e = .returned (.int .i64 1) ∧ ∃ o3, Mo own a b w w.heap.size g h 2 o t n p s2 o3 w') := by
    intro p o2 W m
    refine (rblanks_bad h n W hn).mono ?_
    rintro e w' ⟨rfl, l⟩
    subst l; rw [← hs2']
    exact ⟨rfl, ⟨o2, m⟩⟩
  have c0 := m0.c3
  have md : Mo own a b w w.heap.size g h 2 o t n s s own (w.alloc (.cells #[.int .i64 2, .bool o, .string t, .int .i64 n] 37)).drew := m0.below (Below.drew (Below.refl _ _))
  clear m0 hs2 hs2' hbd hfr
  go_enter Tryd.func19, Tryd.ntmps19
  go_wp2_with fail
  generalize w.alloc (.cells #[.int .i64 2, .bool o, .string t, .int .i64 n] 37) = W0 at *
  generalize hBB : w.heap.size = B at *
  have HBB : Hid (w.heap.size = B) := hBB
  clear hBB
  go_region_held3 (fun w' => w'.cell? ⟨B, 3, none⟩ = some (.int .i64 n)) (first | (exact Mo.c3 (by assumption)) | (exact c0) | go_keep)
    (first | (go_at_call 8; refine (KS.out _ _ _ (by assumption)).mono ?_; rintro e w2 ⟨rfl, o2, h2⟩) | (go_at_call 34; refine (KR.out _ _ _ (by assumption)).mono ?_; rintro e w3 ⟨rfl, o3, h3⟩))
  all_goals (
    have mz : Mo own a b w B g h 2 o t n s2 s2 _ w3 := h3
    obtain ⟨oz, HM⟩ : ∃ oz, Hid (Mo own a b w B g h 2 o t n s2 s2 oz w3) := ⟨_, mz⟩
    clear mz h3 h2 md KS KR c0
    have c1 : s2.col ≤ 1073741824 := hbd2.1
    have c2 : s2.wait ≤ 1073741824 := hbd2.2
    go_wp2_with fail
    refine (column_st HM.out.sk c1 c2).mono ?_
    rintro e w8 ⟨rfl, hb8⟩
    have HM8 : Hid (Mo own a b w B g h 2 o t n s2 s2 oz w8) := HM.out.below hb8
    clear HM hb8
    go_wp2_with fail
    refine (rcolumn_any _ _ _ _ _ HM8.out.rs c1 c2).mono ?_
    rintro e w9 ⟨rfl, hb9⟩
    have HM9 : Hid (Mo own a b w B g h 2 o t n s2 s2 oz w9) := HM8.out.below hb9
    clear HM8 hb9
    have hcs := col_same ((s2.col : Int) + s2.wait)
    go_wp2_with fail
    refine (fresh_st HM9.out.sk).mono ?_
    rintro e w10 ⟨rfl, hw10⟩
    have hw10' := hw10.symm
    subst hw10'
    clear hw10
    go_wp2_with fail
    refine (rfresh_any _ _ _ _ _ HM9.out.rs).mono ?_
    rintro e w11 ⟨rfl, hw11⟩
    have hw11' := hw11.symm
    subst hw11'
    clear hw11
    have HPO : Hid (Po own a b w w9 g h s2) := ⟨oz, HM9.out.en, HM9.out.fr, HM9.out.sk, HM9.out.rs⟩
    clear HM9
    have hfs : (s2.fresh == s2.fresh) = true := by simp
    go_wp2_with fail
    go_ret
    exact ⟨rfl, HPO.out⟩)

set_option maxRecDepth 100000 in
set_option maxHeartbeats 1000000 in
theorem does3b (own : Nat → Nat) (a b g h : Nat) (s : St6) (w : World) (o : Bool) (t : ByteArray) (n : Int) (ha : a ≠ 0) (hb : b ≠ 0) (hab : a ≠ b) (hE : En own w) (hs : SK own a w g s) (hr : RSK own b w h s) (hbd : s.out.length + s.col + s.wait + t.size ≤ 1073741824) (hfr : s.fresh = true → s.col ≤ 1048576) (hbd2 : (s.stepT 3 t n).col ≤ 1073741824 ∧ (s.stepT 3 t n).wait ≤ 1073741824) (hn : n < 0 ∨ 1048576 < n) :
    Calls Tryd.prog 19 #[.pointer (some ⟨g, 0, none⟩), .pointer (some ⟨h, 0, none⟩), .agg #[.int .i64 3, .bool o, .string t, .int .i64 n]] w fun e w' => e = .returned (.bool true) ∧ Po own a b w w' g h (s.stepT 3 t n) := by
  have hB : Below w.heap.size w (w.alloc (.cells #[.int .i64 3, .bool o, .string t, .int .i64 n] 37)) := (Below.refl _ w).alloc (Nat.le_refl _) _
  have m0 : Mo own a b w w.heap.size g h 3 o t n s s own (w.alloc (.cells #[.int .i64 3, .bool o, .string t, .int .i64 n] 37)) := ⟨hE.below hB, FrS.of_below hB, hs.below hB, hr.below hB, new_at _ _, hE.nf _ (Nat.le_refl _)⟩
  clear hB hs hr hE
  obtain ⟨s2, hs2⟩ : ∃ s2, s.stepT 3 t n = s2 := ⟨_, rfl⟩
  have hs2' : s = s2 := by
    rw [← hs2]
    exact (stepT_3b s t n hn).symm
  rw [hs2] at hbd2 ⊢
  have KS : Hid (∀ q o2 W, Mo own a b w w.heap.size g h 3 o t n s q o2 W → Calls Tryd.prog 9 #[.pointer (some ⟨g, 0, none⟩), .int .i64 n] W fun e w' => e = .returned (.int .i64 1) ∧ ∃ o3, Mo own a b w w.heap.size g h 3 o t n s2 q o3 w') := by
    intro q o2 W m
    refine (feed_bad g n W hn).mono ?_
    rintro e w' ⟨rfl, l⟩
    subst l; rw [← hs2']
    exact ⟨rfl, ⟨o2, m⟩⟩
  have KR : Hid (∀ p o2 W, Mo own a b w w.heap.size g h 3 o t n p s o2 W → Calls Tryd.prog 35 #[.pointer (some ⟨h, 0, none⟩), .int .i64 n] W fun e w' => e = .returned (.int .i64 1) ∧ ∃ o3, Mo own a b w w.heap.size g h 3 o t n p s2 o3 w') := by
    intro p o2 W m
    refine (rfeed_bad h n W hn).mono ?_
    rintro e w' ⟨rfl, l⟩
    subst l; rw [← hs2']
    exact ⟨rfl, ⟨o2, m⟩⟩
  have c0 := m0.c3
  have md : Mo own a b w w.heap.size g h 3 o t n s s own (w.alloc (.cells #[.int .i64 3, .bool o, .string t, .int .i64 n] 37)).drew := m0.below (Below.drew (Below.refl _ _))
  clear m0 hs2 hs2' hbd hfr
  go_enter Tryd.func19, Tryd.ntmps19
  go_wp2_with fail
  generalize w.alloc (.cells #[.int .i64 3, .bool o, .string t, .int .i64 n] 37) = W0 at *
  generalize hBB : w.heap.size = B at *
  have HBB : Hid (w.heap.size = B) := hBB
  clear hBB
  go_region_held3 (fun w' => w'.cell? ⟨B, 3, none⟩ = some (.int .i64 n)) (first | (exact Mo.c3 (by assumption)) | (exact c0) | go_keep)
    (first | (go_at_call 9; refine (KS.out _ _ _ (by assumption)).mono ?_; rintro e w2 ⟨rfl, o2, h2⟩) | (go_at_call 35; refine (KR.out _ _ _ (by assumption)).mono ?_; rintro e w3 ⟨rfl, o3, h3⟩))
  all_goals (
    have mz : Mo own a b w B g h 3 o t n s2 s2 _ w3 := h3
    obtain ⟨oz, HM⟩ : ∃ oz, Hid (Mo own a b w B g h 3 o t n s2 s2 oz w3) := ⟨_, mz⟩
    clear mz h3 h2 md KS KR c0
    have c1 : s2.col ≤ 1073741824 := hbd2.1
    have c2 : s2.wait ≤ 1073741824 := hbd2.2
    go_wp2_with fail
    refine (column_st HM.out.sk c1 c2).mono ?_
    rintro e w8 ⟨rfl, hb8⟩
    have HM8 : Hid (Mo own a b w B g h 3 o t n s2 s2 oz w8) := HM.out.below hb8
    clear HM hb8
    go_wp2_with fail
    refine (rcolumn_any _ _ _ _ _ HM8.out.rs c1 c2).mono ?_
    rintro e w9 ⟨rfl, hb9⟩
    have HM9 : Hid (Mo own a b w B g h 3 o t n s2 s2 oz w9) := HM8.out.below hb9
    clear HM8 hb9
    have hcs := col_same ((s2.col : Int) + s2.wait)
    go_wp2_with fail
    refine (fresh_st HM9.out.sk).mono ?_
    rintro e w10 ⟨rfl, hw10⟩
    have hw10' := hw10.symm
    subst hw10'
    clear hw10
    go_wp2_with fail
    refine (rfresh_any _ _ _ _ _ HM9.out.rs).mono ?_
    rintro e w11 ⟨rfl, hw11⟩
    have hw11' := hw11.symm
    subst hw11'
    clear hw11
    have HPO : Hid (Po own a b w w9 g h s2) := ⟨oz, HM9.out.en, HM9.out.fr, HM9.out.sk, HM9.out.rs⟩
    clear HM9
    have hfs : (s2.fresh == s2.fresh) = true := by simp
    go_wp2_with fail
    go_ret
    exact ⟨rfl, HPO.out⟩)

end Go.Proofs.YtkmmcpkakpglkaaDoor
