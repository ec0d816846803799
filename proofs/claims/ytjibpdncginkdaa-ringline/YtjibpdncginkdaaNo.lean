import Derived.Test.YtjibpdncginkdaaNl
set_option linter.unusedVariables false
set_option linter.unusedSimpArgs false
namespace Go.Proofs.Ytjibpdncginkdaa
open Go.RowKit

/-- The document's ring at block g: its room, and its list. -/
structure RR (own : Nat → Nat) (i : Nat) (w : World) (g most : Nat) (sv : Value) (l : List Int) : Prop where
  blk : w.heap[g]? = some (.cells #[.int .i64 most, sv] 61 (0, 0))
  lab : own g = i
  r1 : 1 ≤ most
  r2 : most ≤ 2097152
  len : l.length ≤ most
  row : (sv = .slice none 0 0 ∧ l = []) ∨ (∃ b off cap cur, sv = .slice (some ⟨b, off, none⟩) l.length cap ∧ l.length ≤ cap ∧ cap ≤ maxLen ∧ w.heap[b]? = some (.cells cur 3 (0, 0)) ∧ own b = i ∧ b ≠ g ∧ off + cap ≤ cur.size ∧ (∀ j x, l[j]? = some x → cur[off + j]? = some (.int .i64 x)))

section
variable {own : Nat → Nat} {i : Nat} {w : World} {g most : Nat} {sv : Value} {l : List Int}
theorem RR.c0 (h : RR own i w g most sv l) : w.cell? ⟨g, 0, none⟩ = some (.int .i64 most) := blk_cell h.blk rfl
theorem RR.c1 (h : RR own i w g most sv l) : w.cell? ⟨g, 1, none⟩ = some sv := blk_cell h.blk rfl
theorem RR.fz (h : RR own i w g most sv l) (k : Nat) : w.frozen? ⟨g, k, none⟩ = false := blk_frozen h.blk
theorem RR.kept {own' : Nat → Nat} {j : Nat} {w' : World} (h : RR own i w g most sv l) (hf : Fr j own own' w w') (hij : i ≠ j) : RR own' i w' g most sv l := by
  refine ⟨(hf.block g (blk_lt h.blk) (by rw [h.lab]; exact hij)).trans h.blk, (hf.old g (blk_lt h.blk)).trans h.lab, h.r1, h.r2, h.len, ?_⟩
  rcases h.row with h1 | ⟨b, off, cap, cur, h1, h2, hm, h3, h4, h5⟩
  · exact .inl h1
  · exact .inr ⟨b, off, cap, cur, h1, h2, hm, (hf.block b (blk_lt h3) (by rw [h4]; exact hij)).trans h3, (hf.old b (blk_lt h3)).trans h4, h5⟩
theorem RR.below {w' : World} (h : RR own i w g most sv l) (hb : Below w.heap.size w w') : RR own i w' g most sv l := by
  have hf : Fr (i + 1) own own w w' := Fr.of_below hb
  exact h.kept hf (by omega)
theorem RR.same {w' : World} (h : RR own i w g most sv l) (he : w'.heap = w.heap) : RR own i w' g most sv l :=
  ⟨by rw [he]; exact h.blk, h.lab, h.r1, h.r2, h.len, by rw [he]; exact h.row⟩
theorem RR.sl (h : RR own i w g most sv l) : ∃ sp cap, sv = .slice sp l.length cap := by
  rcases h.row with ⟨rfl, rfl⟩ | ⟨b, off, cap, cur, rfl, _⟩
  · exact ⟨_, _, rfl⟩
  · exact ⟨_, _, rfl⟩
end

def AfR (own : Nat → Nat) (i : Nat) (w w' : World) (g most : Nat) (l : List Int) : Prop := ∃ own' sv, Nf own' w' ∧ Fr i own own' w w' ∧ RR own' i w' g most sv l
theorem AfR.same {own : Nat → Nat} {i : Nat} {w W W' : World} {g most : Nat} {l : List Int} (h : AfR own i w W g most l) (h1 : W'.heap = W.heap) (h2 : W'.os = W.os) (h3 : W'.tape = W.tape) (h4 : W'.output = W.output) : AfR own i w W' g most l := by
  obtain ⟨own', sv, a, b, c⟩ := h
  exact ⟨own', sv, fun k hk => a k (by rw [← h1]; exact hk), b.same h1 h2 h3 h4, c.same h1⟩
theorem AfR.here {own : Nat → Nat} {i : Nat} {w W' : World} {g most : Nat} {sv : Value} {l : List Int} (h : RR own i w g most sv l) (hn : Nf own w) (h1 : W'.heap = w.heap) (h2 : W'.os = w.os) (h3 : W'.tape = w.tape) (h4 : W'.output = w.output) : AfR own i w W' g most l :=
  AfR.same ⟨own, sv, hn, Fr.refl _ _ _, h⟩ h1 h2 h3 h4

theorem newR_low (k : Int) (w : World) (hk : k < 1) : Calls Try.prog 15 #[.int .i64 k] w fun e w' => e = .returned (.tuple #[.pointer none, .int .i64 1]) ∧ w' = w := by
  have q1 : decide (k < 1) = true := by simp; omega
  go_enter Try.func15, Try.ntmps15
  go_wp2_with fail
  go_ret2
  exact ⟨rfl, rfl⟩
theorem newR_high (k : Int) (w : World) (hk : 2097152 < k) : Calls Try.prog 15 #[.int .i64 k] w fun e w' => e = .returned (.tuple #[.pointer none, .int .i64 1]) ∧ w' = w := by
  have q1 : decide (k < 1) = false := by simp; omega
  have q2 : decide (2097152 < k) = true := by simp; omega
  go_enter Try.func15, Try.ntmps15
  go_wp2_with fail
  go_ret2
  exact ⟨rfl, rfl⟩
theorem newR (k : Nat) (w : World) (h1 : 1 ≤ k) (h2 : k ≤ 2097152) : Calls Try.prog 15 #[.int .i64 k] w fun e w' => e = .returned (.tuple #[.pointer (some ⟨w.heap.size, 0, none⟩), .int .i64 0]) ∧ w' = w.alloc (.cells #[.int .i64 k, .slice none 0 0] 61) := by
  have q1 : decide ((k : Int) < 1) = false := by simp; omega
  have q2 : decide (2097152 < (k : Int)) = false := by simp; omega
  have q3 : ¬ ((k : Int) < 1) := by omega
  have q4 : ¬ (2097152 < (k : Int)) := by omega
  go_enter Try.func15, Try.ntmps15
  go_wp2_with fail
  go_ret2
  exact ⟨rfl, rfl⟩

theorem lenR_nil (w : World) : Calls Try.prog 19 #[.pointer none] w fun e w' => e = .returned (.int .i64 0) ∧ w' = w := by
  go_enter Try.func19, Try.ntmps19
  go_wp2_with fail
  go_ret
  exact ⟨rfl, rfl⟩
theorem lenR (g c cap : Nat) (sp : Option Addr) (w : World) (h : w.cell? ⟨g, 1, none⟩ = some (.slice sp c cap)) : Calls Try.prog 19 #[.pointer (some ⟨g, 0, none⟩)] w fun e w' => e = .returned (.int .i64 c) ∧ w' = w := by
  go_enter Try.func19, Try.ntmps19
  go_wp2_with fail
  go_ret
  exact ⟨rfl, rfl⟩
theorem roomR_nil (w : World) : Calls Try.prog 37 #[.pointer none] w fun e w' => e = .returned (.int .i64 0) ∧ w' = w := by
  go_enter Try.func37, Try.ntmps37
  go_wp2_with fail
  go_ret
  exact ⟨rfl, rfl⟩
theorem roomR (g c : Nat) (w : World) (h : w.cell? ⟨g, 0, none⟩ = some (.int .i64 c)) : Calls Try.prog 37 #[.pointer (some ⟨g, 0, none⟩)] w fun e w' => e = .returned (.int .i64 c) ∧ w' = w := by
  go_enter Try.func37, Try.ntmps37
  go_wp2_with fail
  go_ret
  exact ⟨rfl, rfl⟩

theorem popFR_nil (w : World) : Calls Try.prog 32 #[.pointer none] w fun e w' => e = .returned (.tuple #[.int .i64 0, .int .i64 3]) ∧ w' = w := by
  go_enter Try.func32, Try.ntmps32
  go_wp2_with fail
  go_ret2
  exact ⟨rfl, rfl⟩
theorem popFR_empty (g cap : Nat) (sp : Option Addr) (w : World) (h : w.cell? ⟨g, 1, none⟩ = some (.slice sp 0 cap)) : Calls Try.prog 32 #[.pointer (some ⟨g, 0, none⟩)] w fun e w' => e = .returned (.tuple #[.int .i64 0, .int .i64 51]) ∧ w' = w := by
  go_enter Try.func32, Try.ntmps32
  go_wp2_with fail
  go_ret2
  exact ⟨rfl, rfl⟩
theorem popBR_nil (w : World) : Calls Try.prog 33 #[.pointer none] w fun e w' => e = .returned (.tuple #[.int .i64 0, .int .i64 3]) ∧ w' = w := by
  go_enter Try.func33, Try.ntmps33
  go_wp2_with fail
  go_ret2
  exact ⟨rfl, rfl⟩
theorem popBR_empty (g cap : Nat) (sp : Option Addr) (w : World) (h : w.cell? ⟨g, 1, none⟩ = some (.slice sp 0 cap)) : Calls Try.prog 33 #[.pointer (some ⟨g, 0, none⟩)] w fun e w' => e = .returned (.tuple #[.int .i64 0, .int .i64 51]) ∧ w' = w := by
  go_enter Try.func33, Try.ntmps33
  go_wp2_with fail
  go_ret2
  exact ⟨rfl, rfl⟩

theorem atR_nil (k : Int) (w : World) : Calls Try.prog 34 #[.pointer none, .int .i64 k] w fun e w' => e = .returned (.tuple #[.int .i64 0, .int .i64 3]) ∧ w' = w := by
  go_enter Try.func34, Try.ntmps34
  go_wp2_with fail
  go_ret2
  exact ⟨rfl, rfl⟩
theorem atR_bad (g c cap : Nat) (sp : Option Addr) (k : Int) (w : World) (h : w.cell? ⟨g, 1, none⟩ = some (.slice sp c cap)) (hk : k < 0 ∨ (c : Int) ≤ k) : Calls Try.prog 34 #[.pointer (some ⟨g, 0, none⟩), .int .i64 k] w fun e w' => e = .returned (.tuple #[.int .i64 0, .int .i64 1]) ∧ w' = w := by
  by_cases h0 : k < 0
  · have q1 : decide (k < 0) = true := by simp; omega
    clear hk
    go_enter Try.func34, Try.ntmps34
    go_wp2_with fail
    go_ret2
    exact ⟨rfl, rfl⟩
  · have q1 : decide (k < 0) = false := by simp; omega
    have q2 : decide ((c : Int) ≤ k) = true := by simp; omega
    have q3 : (c : Int) ≤ k := by omega
    clear hk
    go_enter Try.func34, Try.ntmps34
    go_wp2_with fail
    go_ret2
    exact ⟨rfl, rfl⟩
theorem atR (g c cap b off k : Nat) (x : Int) (w : World) (h : w.cell? ⟨g, 1, none⟩ = some (.slice (some ⟨b, off, none⟩) c cap)) (hk : k < c) (hx : w.cell? ⟨b, off + k, none⟩ = some (.int .i64 x)) : Calls Try.prog 34 #[.pointer (some ⟨g, 0, none⟩), .int .i64 k] w fun e w' => e = .returned (.tuple #[.int .i64 x, .int .i64 0]) ∧ w' = w := by
  have q1 : decide ((k : Int) < 0) = false := by simp
  have q2 : decide ((c : Int) ≤ (k : Int)) = false := by simp; omega
  have q3 : ¬ ((c : Int) ≤ (k : Int)) := by omega
  have q4 : ¬ (c ≤ k) := by omega
  have i1 : (0 : Int) ≤ (k : Int) := by omega
  have i2 : (k : Int) < (c : Int) := by omega
  go_enter Try.func34, Try.ntmps34
  go_wp2_with fail
  go_ret2
  exact ⟨rfl, rfl⟩

theorem setR_nil (k x : Int) (w : World) : Calls Try.prog 35 #[.pointer none, .int .i64 k, .int .i64 x] w fun e w' => e = .returned (.int .i64 3) ∧ w' = w := by
  go_enter Try.func35, Try.ntmps35
  go_wp2_with fail
  go_ret
  exact ⟨rfl, rfl⟩
theorem setR_bad (g c cap : Nat) (sp : Option Addr) (k x : Int) (w : World) (h : w.cell? ⟨g, 1, none⟩ = some (.slice sp c cap)) (hk : k < 0 ∨ (c : Int) ≤ k) : Calls Try.prog 35 #[.pointer (some ⟨g, 0, none⟩), .int .i64 k, .int .i64 x] w fun e w' => e = .returned (.int .i64 1) ∧ w' = w := by
  by_cases h0 : k < 0
  · have q1 : decide (k < 0) = true := by simp; omega
    clear hk
    go_enter Try.func35, Try.ntmps35
    go_wp2_with fail
    go_ret
    exact ⟨rfl, rfl⟩
  · have q1 : decide (k < 0) = false := by simp; omega
    have q2 : decide ((c : Int) ≤ k) = true := by simp; omega
    have q3 : (c : Int) ≤ k := by omega
    clear hk
    go_enter Try.func35, Try.ntmps35
    go_wp2_with fail
    go_ret
    exact ⟨rfl, rfl⟩
theorem setR (g c cap b off k : Nat) (x y : Int) (w : World) (h : w.cell? ⟨g, 1, none⟩ = some (.slice (some ⟨b, off, none⟩) c cap)) (hk : k < c) (hx : w.cell? ⟨b, off + k, none⟩ = some (.int .i64 y)) (hf : w.frozen? ⟨b, off + k, none⟩ = false) : Calls Try.prog 35 #[.pointer (some ⟨g, 0, none⟩), .int .i64 k, .int .i64 x] w fun e w' => e = .returned (.int .i64 0) ∧ w' = w.setCell ⟨b, off + k, none⟩ (.int .i64 x) := by
  have q1 : decide ((k : Int) < 0) = false := by simp
  have q2 : decide ((c : Int) ≤ (k : Int)) = false := by simp; omega
  have q3 : ¬ ((c : Int) ≤ (k : Int)) := by omega
  have q4 : ¬ (c ≤ k) := by omega
  have i1 : (0 : Int) ≤ (k : Int) := by omega
  have i2 : (k : Int) < (c : Int) := by omega
  go_enter Try.func35, Try.ntmps35
  go_wp2_with fail
  go_ret
  exact ⟨rfl, rfl⟩

theorem pushR_nil (x : Int) (w : World) : Calls Try.prog 31 #[.pointer none, .int .i64 x] w fun e w' => e = .returned (.int .i64 3) ∧ w' = w := by
  go_enter Try.func31, Try.ntmps31
  go_wp2_with fail
  go_ret
  exact ⟨rfl, rfl⟩
theorem pushR_full (g c cap : Nat) (sp : Option Addr) (x : Int) (w : World) (h0 : w.cell? ⟨g, 0, none⟩ = some (.int .i64 c)) (h : w.cell? ⟨g, 1, none⟩ = some (.slice sp c cap)) : Calls Try.prog 31 #[.pointer (some ⟨g, 0, none⟩), .int .i64 x] w fun e w' => e = .returned (.int .i64 50) ∧ ∃ m, w' = w.drewN m := by
  go_enter Try.func31, Try.ntmps31
  go_wp2_with fail
  go_quiet (fail)
  go_wp2_with fail
  go_ret
  exact ⟨rfl, ⟨_, rfl⟩⟩

set_option maxHeartbeats 400000 in
theorem popFR (g c cap b off : Nat) (x : Int) (w : World) (h : w.cell? ⟨g, 1, none⟩ = some (.slice (some ⟨b, off, none⟩) c cap)) (hk : 0 < c) (hc : c ≤ cap) (hx : w.cell? ⟨b, off, none⟩ = some (.int .i64 x)) (hf : w.frozen? ⟨g, 1, none⟩ = false) :
    Calls Try.prog 32 #[.pointer (some ⟨g, 0, none⟩)] w fun e w' => e = .returned (.tuple #[.int .i64 x, .int .i64 0]) ∧ w' = w.setCell ⟨g, 1, none⟩ (.slice (some ⟨b, if cap = 1 then off else off + 1, none⟩) (c - 1) (cap - 1)) := by
  have q1 : ((c : Int) == 0) = false := by simp; omega
  have q2 : ¬ ((c : Int) = 0) := by omega
  have q3 : ¬ (c = 0) := by omega
  have q4 : (1 : Int) ≤ (c : Int) := by omega
  have q5 : (1 : Int) ≤ (cap : Int) := by omega
  have q6 : (0 : Int) < (c : Int) := by omega
  have q7 : (c : Int) ≤ (cap : Int) := by omega
  by_cases h1 : cap = 1
  · rw [if_pos h1]
    subst h1
    obtain rfl : c = 1 := by omega
    clear q1 q2 q3 q4 q5 q6 q7
    go_enter Try.func32, Try.ntmps32
    go_wp2_with fail
    go_ret2
    exact ⟨rfl, rfl⟩
  · rw [if_neg h1]
    go_enter Try.func32, Try.ntmps32
    go_wp2_with fail
    go_ret2
    exact ⟨rfl, rfl⟩

set_option maxHeartbeats 400000 in
theorem popBR (g c cap b off : Nat) (x : Int) (w : World) (h : w.cell? ⟨g, 1, none⟩ = some (.slice (some ⟨b, off, none⟩) (c + 1) cap)) (hc : c + 1 ≤ cap) (hx : w.cell? ⟨b, off + c, none⟩ = some (.int .i64 x)) (hf : w.frozen? ⟨g, 1, none⟩ = false) (hm : cap ≤ maxLen) :
    Calls Try.prog 33 #[.pointer (some ⟨g, 0, none⟩)] w fun e w' => e = .returned (.tuple #[.int .i64 x, .int .i64 0]) ∧ ∃ m, w' = (w.setCell ⟨g, 1, none⟩ (.slice (some ⟨b, off, none⟩) c cap)).drewN m := by
  unfold maxLen at hm
  have q4 : (0 : Int) ≤ (c : Int) := by omega
  have q5 : (c : Int) ≤ (cap : Int) := by omega
  have q6 : (c : Int) < (c : Int) + 1 := by omega
  have q7 : (c : Int) + 1 ≤ (cap : Int) := by omega
  have q8 : ¬ (cap = 0) := by omega
  go_enter Try.func33, Try.ntmps33
  go_wp2_with fail
  go_quiet (fail)
  go_wp2_with fail
  go_region
  go_wp2_with fail
  go_ret2
  exact ⟨rfl, ⟨_, rfl⟩⟩
end Go.Proofs.Ytjibpdncginkdaa
