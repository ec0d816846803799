import Derived.Test.YtkmmcpkakpglkaaDoorSs
set_option linter.unusedVariables false
set_option linter.unusedSimpArgs false
namespace Go.Proofs.YtkmmcpkakpglkaaDoor
open Go.RowKit
open Go.Lib (strCells strCells_length)

/-- What an act makes of a sink. -/
def St6.step (s : St6) (k : Int) (t : ByteArray) (n : Int) : St6 :=
  if k = 1 then s.text t else if k = 2 then (if 0 ≤ n ∧ n ≤ 1048576 then s.blanks n.toNat else s) else if k = 3 then (if 0 ≤ n ∧ n ≤ 1048576 then s.feed n.toNat else s) else if k = 4 then s.empty else s
def St6.stepT (s : St6) (k : Int) (t : ByteArray) (n : Int) : St6 := if k = 5 then s.take else s.step k t n

/-- How great a sink's numbers may be. -/
structure Fit (s : St6) (V D : Nat) : Prop where
  o : s.out.length + s.wait + (if s.fresh then s.col else 0) ≤ V + D
  c : s.col + s.wait ≤ 2 * V + D
  f : s.fresh = true → s.col ≤ 1048576
theorem Fit.zero (V D : Nat) : Fit st0 V D := ⟨Nat.zero_le _, Nat.zero_le _, fun _ => Nat.zero_le _⟩
theorem Fit.more {s : St6} {V D V' D' : Nat} (h : Fit s V D) (h1 : V ≤ V') (h2 : D ≤ D') : Fit s V' D' := ⟨by have := h.o; omega, by have := h.c; omega, h.f⟩
theorem Fit.take {s : St6} {V D : Nat} (h : Fit s V D) : Fit s.take V D := ⟨by have := h.o; show 0 + s.wait + (if s.fresh then s.col else 0) ≤ _; omega, h.c, h.f⟩
theorem Fit.text {s : St6} {V D : Nat} (h : Fit s V D) (t : ByteArray) : Fit (s.text t) (V + t.size) D := by
  by_cases ht : t.size = 0
  · have : s.text t = s := if_pos ht
    rw [this]; exact h.more (by omega) (by omega)
  · have hst : s.text t = ⟨false, (ncol s.col s.wait t).toNat, 0, s.out ++ ((if s.fresh then List.replicate s.col 32 else []) ++ (List.replicate s.wait 32 ++ t.data.toList))⟩ := if_neg ht
    have hn := ncol_bd s.col s.wait t
    have ho := h.o
    have hc := h.c
    have hd : t.data.toList.length = t.size := by rw [Array.length_toList]; rfl
    rw [hst]
    refine ⟨?_, ?_, (fun e => by cases e)⟩
    · show (s.out ++ _).length + 0 + 0 ≤ _
      simp only [List.length_append, List.length_replicate, hd]
      cases hf : s.fresh
      · rw [hf] at ho; simp at ho ⊢; omega
      · rw [hf] at ho; simp at ho ⊢; omega
    · show (ncol s.col s.wait t).toNat + 0 ≤ _
      omega
theorem Fit.step {s : St6} {V D V' D' : Nat} (h : Fit s V D) (k : Int) (t : ByteArray) (n : Int) (hV : V + 1 + t.size + np n ≤ V') (hD : D + (if k = 3 ∧ 0 < n ∧ n ≤ 1048576 then n.toNat else 0) ≤ D') : Fit (s.step k t n) V' D' := by
  have ho := h.o
  have hc := h.c
  have hDD : D ≤ D' := by omega
  unfold St6.step
  by_cases h1 : k = 1
  · rw [if_pos h1]
    exact (h.text t).more (by omega) hDD
  rw [if_neg h1]
  by_cases h2 : k = 2
  · rw [if_pos h2]
    by_cases hn : 0 ≤ n ∧ n ≤ 1048576
    · rw [if_pos hn]
      have hnp : n.toNat ≤ np n := by
        unfold np; split
        · exact Nat.le_refl _
        · omega
      refine ⟨?_, ?_, h.f⟩
      · show s.out.length + (s.wait + n.toNat) + (if s.fresh then s.col else 0) ≤ _; omega
      · show s.col + (s.wait + n.toNat) ≤ _; omega
    · rw [if_neg hn]; exact h.more (by omega) hDD
  rw [if_neg h2]
  by_cases h3 : k = 3
  · rw [if_pos h3]
    by_cases hn : 0 ≤ n ∧ n ≤ 1048576
    · rw [if_pos hn]
      have hle : D + n.toNat ≤ D' := by
        by_cases hp : k = 3 ∧ 0 < n ∧ n ≤ 1048576
        · rw [if_pos hp] at hD; exact hD
        · have : n = 0 := by omega
          subst this; exact hDD
      refine ⟨?_, ?_, fun _ => by show n.toNat ≤ _; omega⟩
      · show (s.out ++ [10]).length + 0 + n.toNat ≤ _; simp; omega
      · show n.toNat + 0 ≤ _; omega
    · rw [if_neg hn]
      exact h.more (by omega) hDD
  rw [if_neg h3]
  by_cases h4 : k = 4
  · rw [if_pos h4]
    unfold St6.empty
    cases hf : s.fresh
    · simp; exact h.more (by omega) hDD
    · rw [hf] at ho
      simp at ho ⊢
      refine ⟨?_, ?_, fun _ => h.f hf⟩
      · show (s.out ++ [10]).length + 0 + s.col ≤ _; simp; omega
      · show s.col + 0 ≤ _; omega
  · rw [if_neg h4]; exact h.more (by omega) hDD
theorem Fit.stepT {s : St6} {V D V' D' : Nat} (h : Fit s V D) (k : Int) (t : ByteArray) (n : Int) (hV : V + 1 + t.size + np n ≤ V') (hD : D + (if k = 3 ∧ 0 < n ∧ n ≤ 1048576 then n.toNat else 0) ≤ D') : Fit (s.stepT k t n) V' D' := by
  unfold St6.stepT
  by_cases h5 : k = 5
  · rw [if_pos h5]
    exact h.take.more (by omega) (by omega)
  · rw [if_neg h5]; exact h.step k t n hV hD

theorem Ae.pre {own : Nat → Nat} {i : Nat} {w w0 w' : World} {g : Nat} {s : St6} (hb : Below w.heap.size w w0) (h : Ae own i w0 w' g s) : Ae own i w w' g s := by
  obtain ⟨own', h1, h2, h3⟩ := h
  exact ⟨own', h1, (Fr.of_below hb).trans h2, h3⟩
theorem Ae.here {own : Nat → Nat} {i : Nat} {w w' : World} {g : Nat} {s : St6} (h : SK own i w g s) (hE : En own w) (hb : Below w.heap.size w w') : Ae own i w w' g s :=
  ⟨own, hE.below hb, Fr.of_below hb, h.below hb⟩

set_option maxHeartbeats 2000000 in
theorem does_any (own : Nat → Nat) (i g : Nat) (s : St6) (w : World) (k : Int) (o : Bool) (t : ByteArray) (n : Int) (h : SK own i w g s) (hE : En own w) (hi : i ≠ 0) (hb : s.out.length + s.col + s.wait + t.size ≤ 1073741824) :
    Calls Tryd.prog 20 #[.pointer (some ⟨g, 0, none⟩), .agg #[.int .i64 k, .bool o, .string t, .int .i64 n]] w fun e w' => e = .returned (.tuple #[]) ∧ Ae own i w w' g (s.step k t n) := by
  have hB : Below w.heap.size w (w.alloc (.cells #[.int .i64 k, .bool o, .string t, .int .i64 n] 37)) := (Below.refl _ w).alloc (Nat.le_refl _) _
  have HP : Hid (∀ w' s', Ae own i (w.alloc (.cells #[.int .i64 k, .bool o, .string t, .int .i64 n] 37)) w' g s' → Ae own i w w' g s') := fun w' s' h => h.pre hB
  have h0 := h.below hB
  have hE0 := hE.below hB
  have HH : Hid (Ae own i w (w.alloc (.cells #[.int .i64 k, .bool o, .string t, .int .i64 n] 37)) g s) := Ae.here h hE hB
  clear h hE hB
  have b1 : s.out.length ≤ 1073741824 := by omega
  have b2 : s.wait ≤ 1073741824 := by omega
  by_cases k1 : k = 1
  · subst k1
    have HC : Hid (Calls Tryd.prog 7 #[.pointer (some ⟨g, 0, none⟩), .string t] (w.alloc (.cells #[.int .i64 1, .bool o, .string t, .int .i64 n] 37)) fun e w' => e = .returned (.int .i64 0) ∧ Hid (Ae own i w w' g (s.step 1 t n))) := (text_st h0 hE0 hi t hb).mono fun e w' ⟨a, b⟩ => ⟨a, HP.out _ _ b⟩
    clear h0 hE0 HP HH hb b1 b2
    go_enter Tryd.func20, Tryd.ntmps20
    go_wp2_with (go_at_call 7; refine HC.out.mono ?_; rintro e w1 ⟨rfl, hA⟩)
    go_end0
    exact ⟨rfl, hA.out⟩
  by_cases k2 : k = 2
  · subst k2
    by_cases hn : 0 ≤ n ∧ n ≤ 1048576
    · obtain ⟨m, rfl⟩ : ∃ m : Nat, n = m := ⟨n.toNat, by omega⟩
      have hs : s.step 2 t (m : Int) = s.blanks m := by unfold St6.step; rw [if_neg (by omega), if_pos rfl, if_pos hn]; rfl
      have HC : Hid (Calls Tryd.prog 8 #[.pointer (some ⟨g, 0, none⟩), .int .i64 m] (w.alloc (.cells #[.int .i64 2, .bool o, .string t, .int .i64 m] 37)) fun e w' => e = .returned (.int .i64 0) ∧ Hid (Ae own i w w' g (s.step 2 t m))) := by
        rw [hs]; exact (blanks_st h0 hE0 hi m (by omega) b2).mono fun e w' ⟨a, b⟩ => ⟨a, HP.out _ _ b⟩
      clear h0 hE0 HP HH hb b1 b2 hs hn k1
      go_enter Tryd.func20, Tryd.ntmps20
      go_wp2_with (go_at_call 8; refine HC.out.mono ?_; rintro e w1 ⟨rfl, hA⟩)
      go_end0
      exact ⟨rfl, hA.out⟩
    · have hs : s.step 2 t n = s := by unfold St6.step; rw [if_neg (by omega), if_pos rfl, if_neg hn]
      have HC : Hid (Calls Tryd.prog 8 #[.pointer (some ⟨g, 0, none⟩), .int .i64 n] (w.alloc (.cells #[.int .i64 2, .bool o, .string t, .int .i64 n] 37)) fun e w' => e = .returned (.int .i64 1) ∧ Hid (Ae own i w w' g (s.step 2 t n))) := by
        rw [hs]; exact (blanks_bad g n _ (by omega)).mono fun e w' ⟨a, b⟩ => ⟨a, by subst b; exact HH.out⟩
      clear h0 hE0 HP HH hb b1 b2 hs hn k1
      go_enter Tryd.func20, Tryd.ntmps20
      go_wp2_with (go_at_call 8; refine HC.out.mono ?_; rintro e w1 ⟨rfl, hA⟩)
      go_end0
      exact ⟨rfl, hA.out⟩
  by_cases k3 : k = 3
  · subst k3
    by_cases hn : 0 ≤ n ∧ n ≤ 1048576
    · obtain ⟨m, rfl⟩ : ∃ m : Nat, n = m := ⟨n.toNat, by omega⟩
      have hs : s.step 3 t (m : Int) = s.feed m := by unfold St6.step; rw [if_neg (by omega), if_neg (by omega), if_pos rfl, if_pos hn]; rfl
      have HC : Hid (Calls Tryd.prog 9 #[.pointer (some ⟨g, 0, none⟩), .int .i64 m] (w.alloc (.cells #[.int .i64 3, .bool o, .string t, .int .i64 m] 37)) fun e w' => e = .returned (.int .i64 0) ∧ Hid (Ae own i w w' g (s.step 3 t m))) := by
        rw [hs]; exact (feed_st h0 hE0 hi m (by omega) b1).mono fun e w' ⟨a, b⟩ => ⟨a, HP.out _ _ b⟩
      clear h0 hE0 HP HH hb b1 b2 hs hn k1 k2
      go_enter Tryd.func20, Tryd.ntmps20
      go_wp2_with (go_at_call 9; refine HC.out.mono ?_; rintro e w1 ⟨rfl, hA⟩)
      go_end0
      exact ⟨rfl, hA.out⟩
    · have hs : s.step 3 t n = s := by unfold St6.step; rw [if_neg (by omega), if_neg (by omega), if_pos rfl, if_neg hn]
      have HC : Hid (Calls Tryd.prog 9 #[.pointer (some ⟨g, 0, none⟩), .int .i64 n] (w.alloc (.cells #[.int .i64 3, .bool o, .string t, .int .i64 n] 37)) fun e w' => e = .returned (.int .i64 1) ∧ Hid (Ae own i w w' g (s.step 3 t n))) := by
        rw [hs]; exact (feed_bad g n _ (by omega)).mono fun e w' ⟨a, b⟩ => ⟨a, by subst b; exact HH.out⟩
      clear h0 hE0 HP HH hb b1 b2 hs hn k1 k2
      go_enter Tryd.func20, Tryd.ntmps20
      go_wp2_with (go_at_call 9; refine HC.out.mono ?_; rintro e w1 ⟨rfl, hA⟩)
      go_end0
      exact ⟨rfl, hA.out⟩
  by_cases k4 : k = 4
  · subst k4
    have HC : Hid (Calls Tryd.prog 10 #[.pointer (some ⟨g, 0, none⟩)] (w.alloc (.cells #[.int .i64 4, .bool o, .string t, .int .i64 n] 37)) fun e w' => e = .returned (.int .i64 0) ∧ Hid (Ae own i w w' g (s.step 4 t n))) := (empty_st h0 hE0 hi b1).mono fun e w' ⟨a, b⟩ => ⟨a, HP.out _ _ b⟩
    clear h0 hE0 HP HH hb b1 b2 k1 k2 k3
    go_enter Tryd.func20, Tryd.ntmps20
    go_wp2_with (go_at_call 10; refine HC.out.mono ?_; rintro e w1 ⟨rfl, hA⟩)
    go_end0
    exact ⟨rfl, hA.out⟩
  · have hs : s.step k t n = s := by unfold St6.step; rw [if_neg k1, if_neg k2, if_neg k3, if_neg k4]
    rw [hs]
    have q1 : (k == 1) = false := by simp; exact k1
    have q2 : (k == 2) = false := by simp; exact k2
    have q3 : (k == 3) = false := by simp; exact k3
    have q4 : (k == 4) = false := by simp; exact k4
    clear h0 hE0 HP hb b1 b2 hs
    go_enter Tryd.func20, Tryd.ntmps20
    go_wp2_with fail
    go_end0
    exact ⟨rfl, HH.out⟩
end Go.Proofs.YtkmmcpkakpglkaaDoor
