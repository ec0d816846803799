import Derived.Test.YtkmmcpkakpglkaaDoorSt
set_option linter.unusedVariables false
set_option linter.unusedSimpArgs false
namespace Go.Proofs.YtkmmcpkakpglkaaDoor
open Go.RowKit
open Go.Lib (strCells strCells_length)

/-- Frames over several labels. -/
structure FrS (S : Nat → Prop) (own own' : Nat → Nat) (w w' : World) : Prop where
  os : w'.os = w.os
  tape : w'.tape = w.tape
  output : w'.output = w.output
  size : w.heap.size ≤ w'.heap.size
  block : ∀ k, k < w.heap.size → ¬ S (own k) → w'.heap[k]? = w.heap[k]?
  old : ∀ k, k < w.heap.size → own' k = own k
theorem FrS.of {S : Nat → Prop} {i : Nat} {own own' : Nat → Nat} {w w' : World} (h : Fr i own own' w w') (hS : S i) : FrS S own own' w w' :=
  ⟨h.os, h.tape, h.output, h.size, fun k hk hn => h.block k hk (fun e => hn (by rw [e]; exact hS)), h.old⟩
theorem FrS.trans {S : Nat → Prop} {o0 o1 o2 : Nat → Nat} {a b c : World} (h : FrS S o0 o1 a b) (k : FrS S o1 o2 b c) : FrS S o0 o2 a c :=
  ⟨k.os.trans h.os, k.tape.trans h.tape, k.output.trans h.output, Nat.le_trans h.size k.size,
   fun j hj hi => (k.block j (Nat.lt_of_lt_of_le hj h.size) (by rw [h.old j hj]; exact hi)).trans (h.block j hj hi),
   fun j hj => (k.old j (Nat.lt_of_lt_of_le hj h.size)).trans (h.old j hj)⟩
theorem FrS.of_below {S : Nat → Prop} {own : Nat → Nat} {w w' : World} (h : Below w.heap.size w w') : FrS S own own w w' :=
  ⟨h.os, h.tape, h.output, h.size, fun k hk _ => h.block k hk, fun _ _ => rfl⟩
theorem FrS.mono {S T : Nat → Prop} {own own' : Nat → Nat} {w w' : World} (h : FrS S own own' w w') (hST : ∀ x, S x → T x) : FrS T own own' w w' :=
  ⟨h.os, h.tape, h.output, h.size, fun k hk hn => h.block k hk (fun hs => hn (hST _ hs)), h.old⟩
theorem FrS.fr {own own' : Nat → Nat} {w w' : World} {S : Nat → Prop} (h : FrS S own own' w w') (B : Nat) (hB : B ≤ w.heap.size) (ho : ∀ k, k < B → ¬ S (own k)) : Below B w w' :=
  ⟨h.os, h.tape, h.output, h.size, fun k hk => h.block k (by omega) (ho k hk)⟩
theorem SK.keptS {S : Nat → Prop} {own own' : Nat → Nat} {i : Nat} {w w' : World} {g : Nat} {s : St6} (h : SK own i w g s) (hf : FrS S own own' w w') (hi : ¬ S i) : SK own' i w' g s := by
  obtain ⟨tv, gv, text, gs, h1, h2, h3, h4⟩ := h.ex
  have row : ∀ {e sz n : Nat} {v : Value} {xs : List Value}, (w.ownsRow 0 e sz v n xs ∧ ∀ k, v.ownBlock = some k → own k = i) → w'.ownsRow 0 e sz v n xs ∧ ∀ k, v.ownBlock = some k → own' k = i := by
    intro e sz n v xs ⟨a1, a2⟩
    refine ⟨⟨a1.1, ?_⟩, fun k hk => ?_⟩
    · rcases a1.2 with h3 | ⟨g, cap, cur, rfl, h4, h5, h6⟩
      · exact .inl h3
      · exact .inr ⟨g, cap, cur, rfl, h4, (hf.block g (blk_lt h5) (by rw [a2 g rfl]; exact hi)).trans h5, h6⟩
    · rw [hf.old k (a1.lt k hk).2]; exact a2 k hk
  exact ⟨(hf.old g (blk_lt h1)).trans h.lab, tv, gv, text, gs, (hf.block g (blk_lt h1) (by rw [h.lab]; exact hi)).trans h1, row h2, row h3, h4⟩
theorem RSK.keptS {S : Nat → Prop} {own own' : Nat → Nat} {i : Nat} {w w' : World} {g : Nat} {s : St6} (h : RSK own i w g s) (hf : FrS S own own' w w') (hi : ¬ S i) : RSK own' i w' g s := by
  obtain ⟨ov, ind, col, h1, h2, a1, a2⟩ := h.ex
  refine ⟨(hf.old g (blk_lt h1)).trans h.lab, ov, ind, col, (hf.block g (blk_lt h1) (by rw [h.lab]; exact hi)).trans h1, h2, ⟨a1.1, ?_⟩, fun k hk => ?_⟩
  · rcases a1.2 with h3 | ⟨g, cap, cur, rfl, h4, h5, h6⟩
    · exact .inl h3
    · exact .inr ⟨g, cap, cur, rfl, h4, (hf.block g (blk_lt h5) (by rw [a2 g rfl]; exact hi)).trans h5, h6⟩
  · rw [hf.old k (a1.lt k hk).2]; exact a2 k hk

def AeR (own : Nat → Nat) (i : Nat) (w w' : World) (g : Nat) (s : St6) : Prop := ∃ own', En own' w' ∧ Fr i own own' w w' ∧ RSK own' i w' g s
theorem AfR.ae {own : Nat → Nat} {i : Nat} {w w' : World} {g : Nat} {s : St6} (h : AfR own i w w' g s) (hE : En own w) (hi : i ≠ 0) : AeR own i w w' g s := by
  obtain ⟨own', h1, h2, h3⟩ := h
  exact ⟨own', hE.fr hi h1 h2, h2, h3⟩

/-- Two sinks inside 'one', the act in its block B. -/
structure Mo (own : Nat → Nat) (a b : Nat) (w : World) (B g h : Nat) (k : Int) (o : Bool) (t : ByteArray) (n : Int) (p q : St6) (own' : Nat → Nat) (W : World) : Prop where
  en : En own' W
  fr : FrS (fun x => x = a ∨ x = b) own own' w W
  sk : SK own' a W g p
  rs : RSK own' b W h q
  bx : W.heap[B]? = some (.cells #[.int .i64 k, .bool o, .string t, .int .i64 n] 37 (0, 0))
  lb : own' B = 0
section
variable {own : Nat → Nat} {a b : Nat} {w : World} {B g h : Nat} {k : Int} {o : Bool} {t : ByteArray} {n : Int} {p q : St6} {own' : Nat → Nat} {W : World}
theorem Mo.onS {W' : World} {p' : St6} (m : Mo own a b w B g h k o t n p q own' W) (ha : a ≠ 0) (hab : a ≠ b) (hA : Ae own' a W W' g p') : ∃ o2, Mo own a b w B g h k o t n p' q o2 W' := by
  obtain ⟨o2, e, f, s⟩ := hA
  exact ⟨o2, e, m.fr.trans (FrS.of f (.inl rfl)), s, m.rs.kept f (fun e => hab e.symm), (f.block B (blk_lt m.bx) (by rw [m.lb]; exact fun e => ha e.symm)).trans m.bx, (f.old B (blk_lt m.bx)).trans m.lb⟩
theorem Mo.onR {W' : World} {q' : St6} (m : Mo own a b w B g h k o t n p q own' W) (hb : b ≠ 0) (hab : a ≠ b) (hA : AeR own' b W W' h q') : ∃ o2, Mo own a b w B g h k o t n p q' o2 W' := by
  obtain ⟨o2, e, f, s⟩ := hA
  exact ⟨o2, e, m.fr.trans (FrS.of f (.inr rfl)), m.sk.kept f hab, s, (f.block B (blk_lt m.bx) (by rw [m.lb]; exact fun e => hb e.symm)).trans m.bx, (f.old B (blk_lt m.bx)).trans m.lb⟩
theorem Mo.below {W' : World} (m : Mo own a b w B g h k o t n p q own' W) (hb : Below W.heap.size W W') : Mo own a b w B g h k o t n p q own' W' :=
  ⟨m.en.below hb, m.fr.trans (FrS.of_below hb), m.sk.below hb, m.rs.below hb, blk_below m.bx hb, m.lb⟩
theorem Mo.c2 (m : Mo own a b w B g h k o t n p q own' W) : W.cell? ⟨B, 2, none⟩ = some (.string t) := blk_cell m.bx rfl
theorem Mo.c3 (m : Mo own a b w B g h k o t n p q own' W) : W.cell? ⟨B, 3, none⟩ = some (.int .i64 n) := blk_cell m.bx rfl
end

/-- What 'one' leaves. -/
def Po (own : Nat → Nat) (a b : Nat) (w w' : World) (g h : Nat) (s : St6) : Prop := ∃ own', En own' w' ∧ FrS (fun x => x = a ∨ x = b) own own' w w' ∧ SK own' a w' g s ∧ RSK own' b w' h s

/-- Two empty boxes hold the same. -/
theorem col_same (x : Int) : (x == x) = true := by simp

set_option maxRecDepth 100000 in
set_option maxHeartbeats 1000000 in
theorem one0 (own : Nat → Nat) (a b g h : Nat) (s : St6) (w : World) (k : Int) (o : Bool) (t : ByteArray) (n : Int) (ha : a ≠ 0) (hb : b ≠ 0) (hab : a ≠ b) (hE : En own w) (hs : SK own a w g s) (hr : RSK own b w h s) (hbd : s.out.length + s.col + s.wait + t.size ≤ 1073741824) (hfr : s.fresh = true → s.col ≤ 1048576) (hbd2 : (s.stepT k t n).col ≤ 1073741824 ∧ (s.stepT k t n).wait ≤ 1073741824) (k1 : k ≠ 1) (k2 : k ≠ 2) (k3 : k ≠ 3) (k4 : k ≠ 4) (k5 : k ≠ 5) :
    Calls Tryd.prog 19 #[.pointer (some ⟨g, 0, none⟩), .pointer (some ⟨h, 0, none⟩), .agg #[.int .i64 k, .bool o, .string t, .int .i64 n]] w fun e w' => e = .returned (.bool true) ∧ Po own a b w w' g h (s.stepT k t n) := by
  have hB : Below w.heap.size w (w.alloc (.cells #[.int .i64 k, .bool o, .string t, .int .i64 n] 37)) := (Below.refl _ w).alloc (Nat.le_refl _) _
  have m0 : Mo own a b w w.heap.size g h k o t n s s own (w.alloc (.cells #[.int .i64 k, .bool o, .string t, .int .i64 n] 37)) := ⟨hE.below hB, FrS.of_below hB, hs.below hB, hr.below hB, new_at _ _, hE.nf _ (Nat.le_refl _)⟩
  clear hB hs hr hE
  have hst : s.stepT k t n = s := by unfold St6.stepT St6.step; rw [if_neg k5, if_neg k1, if_neg k2, if_neg k3, if_neg k4]
  rw [hst] at hbd2 ⊢
  have q1 : (k == 1) = false := by simp; exact k1
  have q2 : (k == 2) = false := by simp; exact k2
  have q3 : (k == 3) = false := by simp; exact k3
  have q4 : (k == 4) = false := by simp; exact k4
  have q5 : (k == 5) = false := by simp; exact k5
  obtain ⟨oz, HM⟩ : ∃ oz, Hid (Mo own a b w w.heap.size g h k o t n s s oz (w.alloc (.cells #[.int .i64 k, .bool o, .string t, .int .i64 n] 37))) := ⟨own, m0⟩
  clear m0 hst
  go_enter Tryd.func19, Tryd.ntmps19
  have c1 : s.col ≤ 1073741824 := hbd2.1
  have c2 : s.wait ≤ 1073741824 := hbd2.2
  go_wp2_with fail
  refine (column_st HM.out.sk c1 c2).mono ?_
  rintro e w8 ⟨rfl, hb8⟩
  have HM8 : Hid (Mo own a b w w.heap.size g h k o t n s s oz w8) := HM.out.below hb8
  clear HM hb8
  go_wp2_with fail
  refine (rcolumn_any _ _ _ _ _ HM8.out.rs c1 c2).mono ?_
  rintro e w9 ⟨rfl, hb9⟩
  have HM9 : Hid (Mo own a b w w.heap.size g h k o t n s s oz w9) := HM8.out.below hb9
  clear HM8 hb9
  have hcs := col_same ((s.col : Int) + s.wait)
  go_wp2_with fail
  refine (fresh_st HM9.out.sk).mono ?_
  rintro e w10 ⟨rfl, hw10⟩
  have hw10' := hw10.symm
  subst hw10'
  clear hw10
  go_wp2_with fail
  refine (rfresh_any _ _ _ _ _ HM9.out.rs).mono ?_
  rintro e w11 ⟨rfl, hw11⟩
  have hw11' := hw11.symm
  subst hw11'
  clear hw11
  have HPO : Hid (Po own a b w w9 g h s) := ⟨oz, HM9.out.en, HM9.out.fr, HM9.out.sk, HM9.out.rs⟩
  clear HM9
  have hfs : (s.fresh == s.fresh) = true := by simp
  go_wp2_with fail
  go_ret
  exact ⟨rfl, HPO.out⟩

set_option maxRecDepth 100000 in
set_option maxHeartbeats 1000000 in
theorem one4 (own : Nat → Nat) (a b g h : Nat) (s : St6) (w : World) (o : Bool) (t : ByteArray) (n : Int) (ha : a ≠ 0) (hb : b ≠ 0) (hab : a ≠ b) (hE : En own w) (hs : SK own a w g s) (hr : RSK own b w h s) (hbd : s.out.length + s.col + s.wait + t.size ≤ 1073741824) (hfr : s.fresh = true → s.col ≤ 1048576) (hbd2 : (s.stepT 4 t n).col ≤ 1073741824 ∧ (s.stepT 4 t n).wait ≤ 1073741824) :
    Calls Tryd.prog 19 #[.pointer (some ⟨g, 0, none⟩), .pointer (some ⟨h, 0, none⟩), .agg #[.int .i64 4, .bool o, .string t, .int .i64 n]] w fun e w' => e = .returned (.bool true) ∧ Po own a b w w' g h (s.stepT 4 t n) := by
  have hB : Below w.heap.size w (w.alloc (.cells #[.int .i64 4, .bool o, .string t, .int .i64 n] 37)) := (Below.refl _ w).alloc (Nat.le_refl _) _
  have m0 : Mo own a b w w.heap.size g h 4 o t n s s own (w.alloc (.cells #[.int .i64 4, .bool o, .string t, .int .i64 n] 37)) := ⟨hE.below hB, FrS.of_below hB, hs.below hB, hr.below hB, new_at _ _, hE.nf _ (Nat.le_refl _)⟩
  clear hB hs hr hE
  obtain ⟨s2, hs2⟩ : ∃ s2, s.stepT 4 t n = s2 := ⟨_, rfl⟩
  have hs2' : s.empty = s2 := by rw [← hs2]; rfl
  rw [hs2] at hbd2 ⊢
  have KS : Hid (Calls Tryd.prog 10 #[.pointer (some ⟨g, 0, none⟩)] (w.alloc (.cells #[.int .i64 4, .bool o, .string t, .int .i64 n] 37)) fun e w' => e = .returned (.int .i64 0) ∧ Hid (∃ o2, Mo own a b w w.heap.size g h 4 o t n s2 s o2 w')) := by
    refine (empty_st m0.sk m0.en ha (by omega)).mono ?_
    rintro e w' ⟨rfl, l⟩
    rw [hs2'] at l
    exact ⟨rfl, m0.onS ha hab l⟩
  have KR : Hid (∀ o2 W, Mo own a b w w.heap.size g h 4 o t n s2 s o2 W → Calls Tryd.prog 36 #[.pointer (some ⟨h, 0, none⟩)] W fun e w' => e = .returned (.int .i64 0) ∧ Hid (∃ o3, Mo own a b w w.heap.size g h 4 o t n s2 s2 o3 w')) := by
    intro o2 W m
    refine (rempty_any _ _ _ _ _ m.rs m.en.nf (by cases hf : s.fresh; exact .inr rfl; exact .inl (hfr hf)) (by omega)).mono ?_
    rintro e w' ⟨rfl, l⟩
    have l2 := AfR.ae l m.en hb
    rw [hs2'] at l2
    exact ⟨rfl, m.onR hb hab l2⟩
  clear m0 hs2 hs2' hbd hfr
  go_enter Tryd.func19, Tryd.ntmps19
  go_wp2_with (go_at_call 10; refine KS.out.mono ?_; rintro e w1 ⟨rfl, H1⟩)
  obtain ⟨o2, m2⟩ := H1.out
  refine (KR.out o2 w1 m2).mono ?_
  rintro e w2 ⟨rfl, H2⟩
  clear m2 H1 KS KR
  obtain ⟨oz, mz⟩ := H2.out
  have HM : Hid (Mo own a b w w.heap.size g h 4 o t n s2 s2 oz w2) := mz
  clear mz H2
  have c1 : s2.col ≤ 1073741824 := hbd2.1
  have c2 : s2.wait ≤ 1073741824 := hbd2.2
  go_wp2_with fail
  refine (column_st HM.out.sk c1 c2).mono ?_
  rintro e w8 ⟨rfl, hb8⟩
  have HM8 : Hid (Mo own a b w w.heap.size g h 4 o t n s2 s2 oz w8) := HM.out.below hb8
  clear HM hb8
  go_wp2_with fail
  refine (rcolumn_any _ _ _ _ _ HM8.out.rs c1 c2).mono ?_
  rintro e w9 ⟨rfl, hb9⟩
  have HM9 : Hid (Mo own a b w w.heap.size g h 4 o t n s2 s2 oz w9) := HM8.out.below hb9
  clear HM8 hb9
  have hcs := col_same ((s2.col : Int) + s2.wait)
  go_wp2_with fail
  refine (fresh_st HM9.out.sk).mono ?_
  rintro e w10 ⟨rfl, hw10⟩
  have hw10' := hw10.symm
  subst hw10'
  clear hw10
  go_wp2_with fail
  refine (rfresh_any _ _ _ _ _ HM9.out.rs).mono ?_
  rintro e w11 ⟨rfl, hw11⟩
  have hw11' := hw11.symm
  subst hw11'
  clear hw11
  have HPO : Hid (Po own a b w w9 g h s2) := ⟨oz, HM9.out.en, HM9.out.fr, HM9.out.sk, HM9.out.rs⟩
  clear HM9
  have hfs : (s2.fresh == s2.fresh) = true := by simp
  go_wp2_with fail
  go_ret
  exact ⟨rfl, HPO.out⟩

set_option maxRecDepth 100000 in
set_option maxHeartbeats 1000000 in
theorem one5 (own : Nat → Nat) (a b g h : Nat) (s : St6) (w : World) (o : Bool) (t : ByteArray) (n : Int) (ha : a ≠ 0) (hb : b ≠ 0) (hab : a ≠ b) (hE : En own w) (hs : SK own a w g s) (hr : RSK own b w h s) (hbd : s.out.length + s.col + s.wait + t.size ≤ 1073741824) (hfr : s.fresh = true → s.col ≤ 1048576) (hbd2 : (s.stepT 5 t n).col ≤ 1073741824 ∧ (s.stepT 5 t n).wait ≤ 1073741824) :
    Calls Tryd.prog 19 #[.pointer (some ⟨g, 0, none⟩), .pointer (some ⟨h, 0, none⟩), .agg #[.int .i64 5, .bool o, .string t, .int .i64 n]] w fun e w' => e = .returned (.bool true) ∧ Po own a b w w' g h (s.stepT 5 t n) := by
  have hB : Below w.heap.size w (w.alloc (.cells #[.int .i64 5, .bool o, .string t, .int .i64 n] 37)) := (Below.refl _ w).alloc (Nat.le_refl _) _
  have m0 : Mo own a b w w.heap.size g h 5 o t n s s own (w.alloc (.cells #[.int .i64 5, .bool o, .string t, .int .i64 n] 37)) := ⟨hE.below hB, FrS.of_below hB, hs.below hB, hr.below hB, new_at _ _, hE.nf _ (Nat.le_refl _)⟩
  clear hB hs hr hE
  obtain ⟨s2, hs2⟩ : ∃ s2, s.stepT 5 t n = s2 := ⟨_, rfl⟩
  have hs2' : s.take = s2 := by rw [← hs2]; rfl
  rw [hs2] at hbd2 ⊢
  have KS : Hid (Calls Tryd.prog 13 #[.pointer (some ⟨g, 0, none⟩)] (w.alloc (.cells #[.int .i64 5, .bool o, .string t, .int .i64 n] 37)) fun e w' => e = .returned (.string ⟨s.out.toArray⟩) ∧ Hid (∃ o2, Mo own a b w w.heap.size g h 5 o t n s2 s o2 w')) := by
    refine (take_st m0.sk m0.en ha (by omega)).mono ?_
    rintro e w' ⟨rfl, l⟩
    rw [hs2'] at l
    exact ⟨rfl, m0.onS ha hab l⟩
  have KR : Hid (∀ o2 W, Mo own a b w w.heap.size g h 5 o t n s2 s o2 W → Calls Tryd.prog 37 #[.pointer (some ⟨h, 0, none⟩)] W fun e w' => e = .returned (.string ⟨s.out.toArray⟩) ∧ Hid (∃ o3, Mo own a b w w.heap.size g h 5 o t n s2 s2 o3 w')) := by
    intro o2 W m
    refine (rtake_any _ _ _ _ _ m.rs m.en.nf).mono ?_
    rintro e w' ⟨rfl, l⟩
    have l2 := AfR.ae l m.en hb
    rw [hs2'] at l2
    exact ⟨rfl, m.onR hb hab l2⟩
  clear m0 hs2 hs2' hbd hfr
  go_enter Tryd.func19, Tryd.ntmps19
  go_wp2_with (go_at_call 13; refine KS.out.mono ?_; rintro e w1 ⟨rfl, H1⟩)
  obtain ⟨o2, m2⟩ := H1.out
  refine (KR.out o2 w1 m2).mono ?_
  rintro e w2 ⟨rfl, H2⟩
  clear m2 H1 KS KR
  obtain ⟨oz, mz⟩ := H2.out
  have HM : Hid (Mo own a b w w.heap.size g h 5 o t n s2 s2 oz w2) := mz
  clear mz H2
  have hse : ((⟨s.out.toArray⟩ : ByteArray).toList == (⟨s.out.toArray⟩ : ByteArray).toList) = true := by simp
  have c1 : s2.col ≤ 1073741824 := hbd2.1
  have c2 : s2.wait ≤ 1073741824 := hbd2.2
  go_wp2_with fail
  refine (column_st HM.out.sk c1 c2).mono ?_
  rintro e w8 ⟨rfl, hb8⟩
  have HM8 : Hid (Mo own a b w w.heap.size g h 5 o t n s2 s2 oz w8) := HM.out.below hb8
  clear HM hb8
  go_wp2_with fail
  refine (rcolumn_any _ _ _ _ _ HM8.out.rs c1 c2).mono ?_
  rintro e w9 ⟨rfl, hb9⟩
  have HM9 : Hid (Mo own a b w w.heap.size g h 5 o t n s2 s2 oz w9) := HM8.out.below hb9
  clear HM8 hb9
  have hcs := col_same ((s2.col : Int) + s2.wait)
  go_wp2_with fail
  refine (fresh_st HM9.out.sk).mono ?_
  rintro e w10 ⟨rfl, hw10⟩
  have hw10' := hw10.symm
  subst hw10'
  clear hw10
  go_wp2_with fail
  refine (rfresh_any _ _ _ _ _ HM9.out.rs).mono ?_
  rintro e w11 ⟨rfl, hw11⟩
  have hw11' := hw11.symm
  subst hw11'
  clear hw11
  have HPO : Hid (Po own a b w w9 g h s2) := ⟨oz, HM9.out.en, HM9.out.fr, HM9.out.sk, HM9.out.rs⟩
  clear HM9
  have hfs : (s2.fresh == s2.fresh) = true := by simp
  go_wp2_with fail
  go_ret
  exact ⟨rfl, HPO.out⟩

end Go.Proofs.YtkmmcpkakpglkaaDoor
