import Derived.Test.YtlpmnkiieibipaaDoorDq
import Derived.Test.YtlpmnkiieibipaaDoorDk
set_option linter.unusedVariables false
set_option linter.unusedSimpArgs false
namespace Go.Proofs.YtlpmnkiieibipaaDoor
open Go.RowKit

/-- A block that holds a piece. -/
def Pc (W : World) (g : Nat) (v0 v1 v2 v3 v4 : Value) : Prop := W.heap[g]? = some (.cells #[v0, v1, v2, v3, v4] 36 (0, 0))
theorem Pc.all {W : World} {g : Nat} {v0 v1 v2 v3 v4 : Value} (h : Pc W g v0 v1 v2 v3 v4) :
    (W.cell? ⟨g, 0, none⟩ = some v0 ∧ W.cell? ⟨g, 1, none⟩ = some v1 ∧ W.cell? ⟨g, 2, none⟩ = some v2 ∧ W.cell? ⟨g, 3, none⟩ = some v3 ∧ W.cell? ⟨g, 4, none⟩ = some v4) ∧
    (W.frozen? ⟨g, 0, none⟩ = false ∧ W.frozen? ⟨g, 1, none⟩ = false ∧ W.frozen? ⟨g, 2, none⟩ = false ∧ W.frozen? ⟨g, 3, none⟩ = false ∧ W.frozen? ⟨g, 4, none⟩ = false) :=
  ⟨⟨blk_cell h rfl, blk_cell h rfl, blk_cell h rfl, blk_cell h rfl, blk_cell h rfl⟩, blk_frozen h, blk_frozen h, blk_frozen h, blk_frozen h, blk_frozen h⟩
theorem Pc.below {W W' : World} {g : Nat} {v0 v1 v2 v3 v4 : Value} (h : Pc W g v0 v1 v2 v3 v4) (hb : Below W.heap.size W W') : Pc W' g v0 v1 v2 v3 v4 := blk_below h hb
theorem Pc.alloc {W : World} {g : Nat} {v0 v1 v2 v3 v4 : Value} (h : Pc W g v0 v1 v2 v3 v4) (o : Obj) : Pc (W.alloc o) g v0 v1 v2 v3 v4 := h.below ((Below.refl _ _).alloc (Nat.le_refl _) _)
theorem Pc.other {W : World} {g b k : Nat} {v0 v1 v2 v3 v4 : Value} (h : Pc W g v0 v1 v2 v3 v4) (hne : g ≠ b) (v : Value) : Pc (W.setCell ⟨b, k, none⟩ v) g v0 v1 v2 v3 v4 := blk_other h hne v
theorem Pc.new (W : World) (v0 v1 v2 v3 v4 : Value) : Pc (W.alloc (.cells #[v0, v1, v2, v3, v4] 36)) W.heap.size v0 v1 v2 v3 v4 := heap_alloc_new _ _
theorem Pc.set1 {W : World} {g : Nat} {v0 v1 v2 v3 v4 : Value} (h : Pc W g v0 v1 v2 v3 v4) (v : Value) : Pc (W.setCell ⟨g, 1, none⟩ v) g v0 v v2 v3 v4 := blk_set h 1 v
theorem Pc.set2 {W : World} {g : Nat} {v0 v1 v2 v3 v4 : Value} (h : Pc W g v0 v1 v2 v3 v4) (v : Value) : Pc (W.setCell ⟨g, 2, none⟩ v) g v0 v1 v v3 v4 := blk_set h 2 v
theorem Pc.set3 {W : World} {g : Nat} {v0 v1 v2 v3 v4 : Value} (h : Pc W g v0 v1 v2 v3 v4) (v : Value) : Pc (W.setCell ⟨g, 3, none⟩ v) g v0 v1 v2 v v4 := blk_set h 3 v
theorem Pc.set4 {W : World} {g : Nat} {v0 v1 v2 v3 v4 : Value} (h : Pc W g v0 v1 v2 v3 v4) (v : Value) : Pc (W.setCell ⟨g, 4, none⟩ v) g v0 v1 v2 v3 v := blk_set h 4 v
theorem Pc.lt {W : World} {g : Nat} {v0 v1 v2 v3 v4 : Value} (h : Pc W g v0 v1 v2 v3 v4) : g < W.heap.size := blk_lt h

/-- What stands ahead of the look whether the piece is right: the answer's block, the piece's block, what was there. -/
structure Rs (w W : World) (c : Nat) (v0 v1 v2 v3 v4 : Value) : Prop where
  ans : Pc W w.heap.size (.int .u8 0) (.string ⟨#[]⟩) (.int .i64 0) (.int .i64 0) (.bool false)
  pc : Pc W c v0 v1 v2 v3 v4
  ne : w.heap.size < c
  bel : Below w.heap.size w W
theorem Rs.below {w W W' : World} {c : Nat} {v0 v1 v2 v3 v4 : Value} (h : Rs w W c v0 v1 v2 v3 v4) (hb : Below W.heap.size W W') : Rs w W' c v0 v1 v2 v3 v4 :=
  ⟨h.ans.below hb, h.pc.below hb, h.ne, h.bel.trans (hb.mono h.bel.size)⟩
theorem Rs.set1 {w W : World} {c : Nat} {v0 v1 v2 v3 v4 : Value} (h : Rs w W c v0 v1 v2 v3 v4) (v : Value) : Rs w (W.setCell ⟨c, 1, none⟩ v) c v0 v v2 v3 v4 :=
  ⟨h.ans.other (by have := h.ne; omega) _, h.pc.set1 v, h.ne, h.bel.setCell (p := ⟨c, 1, none⟩) (Nat.le_of_lt h.ne) _⟩
theorem Rs.set2 {w W : World} {c : Nat} {v0 v1 v2 v3 v4 : Value} (h : Rs w W c v0 v1 v2 v3 v4) (v : Value) : Rs w (W.setCell ⟨c, 2, none⟩ v) c v0 v1 v v3 v4 :=
  ⟨h.ans.other (by have := h.ne; omega) _, h.pc.set2 v, h.ne, h.bel.setCell (p := ⟨c, 2, none⟩) (Nat.le_of_lt h.ne) _⟩
theorem Rs.set3 {w W : World} {c : Nat} {v0 v1 v2 v3 v4 : Value} (h : Rs w W c v0 v1 v2 v3 v4) (v : Value) : Rs w (W.setCell ⟨c, 3, none⟩ v) c v0 v1 v2 v v4 :=
  ⟨h.ans.other (by have := h.ne; omega) _, h.pc.set3 v, h.ne, h.bel.setCell (p := ⟨c, 3, none⟩) (Nat.le_of_lt h.ne) _⟩
theorem Rs.set4 {w W : World} {c : Nat} {v0 v1 v2 v3 v4 : Value} (h : Rs w W c v0 v1 v2 v3 v4) (v : Value) : Rs w (W.setCell ⟨c, 4, none⟩ v) c v0 v1 v2 v3 v :=
  ⟨h.ans.other (by have := h.ne; omega) _, h.pc.set4 v, h.ne, h.bel.setCell (p := ⟨c, 4, none⟩) (Nat.le_of_lt h.ne) _⟩
theorem Rs.start {w w1 : World} (h1 : Below (w.alloc (.cells #[.int .u8 0, .string ⟨#[]⟩, .int .i64 0, .int .i64 0, .bool false] 36)).heap.size (w.alloc (.cells #[.int .u8 0, .string ⟨#[]⟩, .int .i64 0, .int .i64 0, .bool false] 36)) w1) (v0 v1 v2 v3 v4 : Value) :
    Rs w (w1.alloc (.cells #[v0, v1, v2, v3, v4] 36)) w1.heap.size v0 v1 v2 v3 v4 ∧ Below w.heap.size w w1 ∧ Pc w1 w.heap.size (.int .u8 0) (.string ⟨#[]⟩) (.int .i64 0) (.int .i64 0) (.bool false) := by
  have hb : Below w.heap.size w w1 := ((Below.refl _ _).alloc (Nat.le_refl _) _).trans (h1.mono (by rw [World.size_alloc]; omega))
  have hA := (Pc.new w (.int .u8 0) (.string ⟨#[]⟩) (.int .i64 0) (.int .i64 0) (.bool false)).below h1
  exact ⟨⟨hA.alloc _, Pc.new _ _ _ _ _ _, hA.lt, hb.alloc hb.size _⟩, hb, hA⟩
/-- What is left behind: the answer in its block. -/
theorem Rs.fin {w W : World} {c : Nat} {v0 v1 v2 v3 v4 : Value} (h : Rs w W c v0 v1 v2 v3 v4) (u0 u1 u2 u3 u4 : Value) :
    Below w.heap.size w (((((W.setCell ⟨w.heap.size, 0, none⟩ u0).setCell ⟨w.heap.size, 1, none⟩ u1).setCell ⟨w.heap.size, 2, none⟩ u2).setCell ⟨w.heap.size, 3, none⟩ u3).setCell ⟨w.heap.size, 4, none⟩ u4) :=
  ((((h.bel.setCell (p := ⟨w.heap.size, 0, none⟩) (Nat.le_refl _) _).setCell (p := ⟨w.heap.size, 1, none⟩) (Nat.le_refl _) _).setCell (p := ⟨w.heap.size, 2, none⟩) (Nat.le_refl _) _).setCell (p := ⟨w.heap.size, 3, none⟩) (Nat.le_refl _) _).setCell (p := ⟨w.heap.size, 4, none⟩) (Nat.le_refl _) _

set_option maxHeartbeats 4000000 in
set_option maxRecDepth 100000 in
theorem rl_text (s x y : ByteArray) (m : Bool) (w : World) (r : Bool) (t : ByteArray) (g : Bool)
    (hC : ∀ W, Calls Tryd.prog 22 #[.string s, .string ⟨#[32]⟩] W fun e w' => e = .returned (.tuple #[.string x, .string y, .bool m]) ∧ Below W.heap.size W w')
    (hK : ∀ W, Below w.heap.size w W → Calls Tryd.prog 33 #[.string x] W fun e w' => e = .returned (.int .u8 1) ∧ w' = W)
    (hU : ∀ W, Below w.heap.size w W → Calls Tryd.prog 34 #[.string y] W fun e w' => e = .returned (.tuple #[.string t, .bool g]) ∧ Below W.heap.size W w')
    (hR : ∀ W, Calls Tryd.prog 18 #[.agg #[.int .u8 1, .string t, .int .i64 0, .int .i64 0, .bool false]] W fun e w' => e = .returned (.bool r) ∧ Below W.heap.size W w') :
    Calls Tryd.prog 23 #[.string s] w fun e w' => e = .returned (.tuple #[.agg (if g = true ∧ r = true then #[.int .u8 1, .string t, .int .i64 0, .int .i64 0, .bool false] else #[.int .u8 0, .string ⟨#[]⟩, .int .i64 0, .int .i64 0, .bool false]), .bool (g && r)]) ∧ Below w.heap.size w w' := by
  have HC := (show Hid _ from hC)
  have HK := (show Hid _ from hK)
  have HR := (show Hid _ from hR)
  have HU := (show Hid _ from hU)
  clear hU
  cases g
  all_goals cases r
  all_goals clear hC hK hR
  · go_enter Tryd.func23, Tryd.ntmps23
    go_wp2_with (first | (go_at_call 22; refine (HC.out _).mono ?_; rintro e w1 ⟨rfl, hb1⟩; have HS1 := (show Hid _ from Rs.start hb1 (.int .u8 1) (.string ⟨#[]⟩) (.int .i64 0) (.int .i64 0) (.bool false)); have ne1 : ¬ w.heap.size = w1.heap.size := (by have := HS1.out.1.ne; omega); have ne2 : ¬ w1.heap.size = w.heap.size := (by have := HS1.out.1.ne; omega); have lt1 : w.heap.size < w1.heap.size := HS1.out.1.ne; obtain ⟨⟨a0, a1, a2, a3, a4⟩, f0, f1, f2, f3, f4⟩ := HS1.out.2.2.all; clear hb1) | (go_at_call 33; refine (HK.out _ HS1.out.2.1).mono ?_; rintro e wq ⟨rfl, hq⟩; have hq' := hq.symm; subst hq') | (go_at_call 34; refine (HU.out _ HS1.out.1.bel).mono ?_; rintro e w2 ⟨rfl, hb2⟩; have HS2 := (show Hid _ from HS1.out.1.below hb2); obtain ⟨⟨a0, a1, a2, a3, a4⟩, f0, f1, f2, f3, f4⟩ := HS2.out.ans.all; obtain ⟨⟨c0, c1, c2, c3, c4⟩, g0, g1, g2, g3, g4⟩ := HS2.out.pc.all; clear hb2) | (go_at_call 18; refine (HR.out _).mono ?_; rintro e w5 ⟨rfl, hb5⟩; have HS5 := (show Hid _ from (HS2.out.set1 (.string t)).below hb5); obtain ⟨⟨x0, x1, x2, x3, x4⟩, y0, y1, y2, y3, y4⟩ := HS5.out.ans.all; obtain ⟨⟨z0, z1, z2, z3, z4⟩, _, _, _, _, _⟩ := HS5.out.pc.all; clear hb5))
    refine bodyPost_ret (v := .tuple #[.agg #[.int .u8 0, .string ⟨#[]⟩, .int .i64 0, .int .i64 0, .bool false], .bool false]) (by simp [results, Tryd.f23, go_sem, a0, a1, a2, a3, a4, f0, f1, f2, f3, f4, ne1, ne2]) rfl ?_
    exact ⟨rfl, Rs.fin (HS2.out.set1 (.string t)) _ _ _ _ _⟩
  · go_enter Tryd.func23, Tryd.ntmps23
    go_wp2_with (first | (go_at_call 22; refine (HC.out _).mono ?_; rintro e w1 ⟨rfl, hb1⟩; have HS1 := (show Hid _ from Rs.start hb1 (.int .u8 1) (.string ⟨#[]⟩) (.int .i64 0) (.int .i64 0) (.bool false)); have ne1 : ¬ w.heap.size = w1.heap.size := (by have := HS1.out.1.ne; omega); have ne2 : ¬ w1.heap.size = w.heap.size := (by have := HS1.out.1.ne; omega); have lt1 : w.heap.size < w1.heap.size := HS1.out.1.ne; obtain ⟨⟨a0, a1, a2, a3, a4⟩, f0, f1, f2, f3, f4⟩ := HS1.out.2.2.all; clear hb1) | (go_at_call 33; refine (HK.out _ HS1.out.2.1).mono ?_; rintro e wq ⟨rfl, hq⟩; have hq' := hq.symm; subst hq') | (go_at_call 34; refine (HU.out _ HS1.out.1.bel).mono ?_; rintro e w2 ⟨rfl, hb2⟩; have HS2 := (show Hid _ from HS1.out.1.below hb2); obtain ⟨⟨a0, a1, a2, a3, a4⟩, f0, f1, f2, f3, f4⟩ := HS2.out.ans.all; obtain ⟨⟨c0, c1, c2, c3, c4⟩, g0, g1, g2, g3, g4⟩ := HS2.out.pc.all; clear hb2) | (go_at_call 18; refine (HR.out _).mono ?_; rintro e w5 ⟨rfl, hb5⟩; have HS5 := (show Hid _ from (HS2.out.set1 (.string t)).below hb5); obtain ⟨⟨x0, x1, x2, x3, x4⟩, y0, y1, y2, y3, y4⟩ := HS5.out.ans.all; obtain ⟨⟨z0, z1, z2, z3, z4⟩, _, _, _, _, _⟩ := HS5.out.pc.all; clear hb5))
    refine bodyPost_ret (v := .tuple #[.agg #[.int .u8 0, .string ⟨#[]⟩, .int .i64 0, .int .i64 0, .bool false], .bool false]) (by simp [results, Tryd.f23, go_sem, a0, a1, a2, a3, a4, f0, f1, f2, f3, f4, ne1, ne2]) rfl ?_
    exact ⟨rfl, Rs.fin (HS2.out.set1 (.string t)) _ _ _ _ _⟩
  · go_enter Tryd.func23, Tryd.ntmps23
    go_wp2_with (first | (go_at_call 22; refine (HC.out _).mono ?_; rintro e w1 ⟨rfl, hb1⟩; have HS1 := (show Hid _ from Rs.start hb1 (.int .u8 1) (.string ⟨#[]⟩) (.int .i64 0) (.int .i64 0) (.bool false)); have ne1 : ¬ w.heap.size = w1.heap.size := (by have := HS1.out.1.ne; omega); have ne2 : ¬ w1.heap.size = w.heap.size := (by have := HS1.out.1.ne; omega); have lt1 : w.heap.size < w1.heap.size := HS1.out.1.ne; obtain ⟨⟨a0, a1, a2, a3, a4⟩, f0, f1, f2, f3, f4⟩ := HS1.out.2.2.all; clear hb1) | (go_at_call 33; refine (HK.out _ HS1.out.2.1).mono ?_; rintro e wq ⟨rfl, hq⟩; have hq' := hq.symm; subst hq') | (go_at_call 34; refine (HU.out _ HS1.out.1.bel).mono ?_; rintro e w2 ⟨rfl, hb2⟩; have HS2 := (show Hid _ from HS1.out.1.below hb2); obtain ⟨⟨a0, a1, a2, a3, a4⟩, f0, f1, f2, f3, f4⟩ := HS2.out.ans.all; obtain ⟨⟨c0, c1, c2, c3, c4⟩, g0, g1, g2, g3, g4⟩ := HS2.out.pc.all; clear hb2) | (go_at_call 18; refine (HR.out _).mono ?_; rintro e w5 ⟨rfl, hb5⟩; have HS5 := (show Hid _ from (HS2.out.set1 (.string t)).below hb5); obtain ⟨⟨x0, x1, x2, x3, x4⟩, y0, y1, y2, y3, y4⟩ := HS5.out.ans.all; obtain ⟨⟨z0, z1, z2, z3, z4⟩, _, _, _, _, _⟩ := HS5.out.pc.all; clear hb5))
    refine bodyPost_ret (v := .tuple #[.agg #[.int .u8 0, .string ⟨#[]⟩, .int .i64 0, .int .i64 0, .bool false], .bool false]) (by simp [results, Tryd.f23, go_sem, x0, x1, x2, x3, x4, y0, y1, y2, y3, y4, ne1, ne2]) rfl ?_
    exact ⟨rfl, Rs.fin (HS5.out) _ _ _ _ _⟩
  · go_enter Tryd.func23, Tryd.ntmps23
    go_wp2_with (first | (go_at_call 22; refine (HC.out _).mono ?_; rintro e w1 ⟨rfl, hb1⟩; have HS1 := (show Hid _ from Rs.start hb1 (.int .u8 1) (.string ⟨#[]⟩) (.int .i64 0) (.int .i64 0) (.bool false)); have ne1 : ¬ w.heap.size = w1.heap.size := (by have := HS1.out.1.ne; omega); have ne2 : ¬ w1.heap.size = w.heap.size := (by have := HS1.out.1.ne; omega); have lt1 : w.heap.size < w1.heap.size := HS1.out.1.ne; obtain ⟨⟨a0, a1, a2, a3, a4⟩, f0, f1, f2, f3, f4⟩ := HS1.out.2.2.all; clear hb1) | (go_at_call 33; refine (HK.out _ HS1.out.2.1).mono ?_; rintro e wq ⟨rfl, hq⟩; have hq' := hq.symm; subst hq') | (go_at_call 34; refine (HU.out _ HS1.out.1.bel).mono ?_; rintro e w2 ⟨rfl, hb2⟩; have HS2 := (show Hid _ from HS1.out.1.below hb2); obtain ⟨⟨a0, a1, a2, a3, a4⟩, f0, f1, f2, f3, f4⟩ := HS2.out.ans.all; obtain ⟨⟨c0, c1, c2, c3, c4⟩, g0, g1, g2, g3, g4⟩ := HS2.out.pc.all; clear hb2) | (go_at_call 18; refine (HR.out _).mono ?_; rintro e w5 ⟨rfl, hb5⟩; have HS5 := (show Hid _ from (HS2.out.set1 (.string t)).below hb5); obtain ⟨⟨x0, x1, x2, x3, x4⟩, y0, y1, y2, y3, y4⟩ := HS5.out.ans.all; obtain ⟨⟨z0, z1, z2, z3, z4⟩, _, _, _, _, _⟩ := HS5.out.pc.all; clear hb5))
    refine bodyPost_ret (v := .tuple #[.agg #[.int .u8 1, .string t, .int .i64 0, .int .i64 0, .bool false], .bool true]) (by simp [results, Tryd.f23, go_sem, x0, x1, x2, x3, x4, y0, y1, y2, y3, y4, ne1, ne2]) rfl ?_
    exact ⟨rfl, Rs.fin (HS5.out) _ _ _ _ _⟩

end Go.Proofs.YtlpmnkiieibipaaDoor
