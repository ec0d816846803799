import Derived.Test.YtlpmnkiieibipaaDoorDr
set_option linter.unusedVariables false
set_option linter.unusedSimpArgs false
namespace Go.Proofs.YtlpmnkiieibipaaDoor
open Go.RowKit

theorem Pc.setA {W : World} {g : Nat} {v0 v1 v2 v3 v4 : Value} (h : Pc W g v0 v1 v2 v3 v4) (u0 u1 u2 u3 u4 : Value) :
    Pc (((((W.setCell ⟨g, 0, none⟩ u0).setCell ⟨g, 1, none⟩ u1).setCell ⟨g, 2, none⟩ u2).setCell ⟨g, 3, none⟩ u3).setCell ⟨g, 4, none⟩ u4) g u0 u1 u2 u3 u4 := by
  have h0 : Pc (W.setCell ⟨g, 0, none⟩ u0) g u0 v1 v2 v3 v4 := blk_set h 0 u0
  exact (((h0.set1 u1).set2 u2).set3 u3).set4 u4

theorem fin2 {w w1 : World} (h : Below w.heap.size w w1) (u0 u1 u2 u3 u4 : Value) (o : Obj) :
    Below w.heap.size w ((((((w1.setCell ⟨w.heap.size, 0, none⟩ u0).setCell ⟨w.heap.size, 1, none⟩ u1).setCell ⟨w.heap.size, 2, none⟩ u2).setCell ⟨w.heap.size, 3, none⟩ u3).setCell ⟨w.heap.size, 4, none⟩ u4).alloc o) := by
  have h5 := ((((h.setCell (p := ⟨w.heap.size, 0, none⟩) (Nat.le_refl _) u0).setCell (p := ⟨w.heap.size, 1, none⟩) (Nat.le_refl _) u1).setCell (p := ⟨w.heap.size, 2, none⟩) (Nat.le_refl _) u2).setCell (p := ⟨w.heap.size, 3, none⟩) (Nat.le_refl _) u3).setCell (p := ⟨w.heap.size, 4, none⟩) (Nat.le_refl _) u4
  exact h5.alloc h5.size o

set_option maxHeartbeats 4000000 in
set_option maxRecDepth 100000 in
theorem rl_other (s x y : ByteArray) (m : Bool) (w : World) (r : Bool) (K : Int) (k1 : K ≠ 1) (k3 : K ≠ 3) (k6 : K ≠ 6)
    (hC : ∀ W, Calls Tryd.prog 22 #[.string s, .string ⟨#[32]⟩] W fun e w' => e = .returned (.tuple #[.string x, .string y, .bool m]) ∧ Below W.heap.size W w')
    (hK : ∀ W, Below w.heap.size w W → Calls Tryd.prog 33 #[.string x] W fun e w' => e = .returned (.int .u8 K) ∧ w' = W)
    (hR : ∀ W, Calls Tryd.prog 18 #[.agg #[.int .u8 K, .string ⟨#[]⟩, .int .i64 0, .int .i64 0, .bool false]] W fun e w' => e = .returned (.bool r) ∧ Below W.heap.size W w') :
    Calls Tryd.prog 23 #[.string s] w fun e w' => e = .returned (.tuple #[.agg (if (!m) = true ∧ r = true then #[.int .u8 K, .string ⟨#[]⟩, .int .i64 0, .int .i64 0, .bool false] else #[.int .u8 0, .string ⟨#[]⟩, .int .i64 0, .int .i64 0, .bool false]), .bool ((!m) && r)]) ∧ Below w.heap.size w w' := by
  have HC := (show Hid _ from hC)
  have HK := (show Hid _ from hK)
  have HR := (show Hid _ from hR)
  cases m
  all_goals cases r
  all_goals clear hC hK hR
  · go_enter Tryd.func23, Tryd.ntmps23
    go_wp2_with (first | (go_at_call 22; refine (HC.out _).mono ?_; rintro e w1 ⟨rfl, hb1⟩; have HS1 := (show Hid _ from Rs.start hb1 (.int .u8 K) (.string ⟨#[]⟩) (.int .i64 0) (.int .i64 0) (.bool false)); have ne1 : ¬ w.heap.size = w1.heap.size := (by have := HS1.out.1.ne; omega); have ne2 : ¬ w1.heap.size = w.heap.size := (by have := HS1.out.1.ne; omega); have lt1 : w.heap.size < w1.heap.size := HS1.out.1.ne; obtain ⟨⟨a0, a1, a2, a3, a4⟩, f0, f1, f2, f3, f4⟩ := HS1.out.2.2.all; clear hb1) | (go_at_call 33; refine (HK.out _ HS1.out.2.1).mono ?_; rintro e wq ⟨rfl, hq⟩; have hq' := hq.symm; subst hq') | (go_at_call 18; refine (HR.out _).mono ?_; rintro e w5 ⟨rfl, hb5⟩; have HS5 := (show Hid _ from (HS1.out.1).below hb5); obtain ⟨⟨x0, x1, x2, x3, x4⟩, y0, y1, y2, y3, y4⟩ := HS5.out.ans.all; obtain ⟨⟨z0, z1, z2, z3, z4⟩, _, _, _, _, _⟩ := HS5.out.pc.all; clear hb5))
    refine bodyPost_ret (v := .tuple #[.agg #[.int .u8 0, .string ⟨#[]⟩, .int .i64 0, .int .i64 0, .bool false], .bool false]) (by simp [results, Tryd.f23, go_sem, x0, x1, x2, x3, x4, y0, y1, y2, y3, y4, ne1, ne2]) rfl ?_
    exact ⟨rfl, Rs.fin (HS5.out) _ _ _ _ _⟩
  · go_enter Tryd.func23, Tryd.ntmps23
    go_wp2_with (first | (go_at_call 22; refine (HC.out _).mono ?_; rintro e w1 ⟨rfl, hb1⟩; have HS1 := (show Hid _ from Rs.start hb1 (.int .u8 K) (.string ⟨#[]⟩) (.int .i64 0) (.int .i64 0) (.bool false)); have ne1 : ¬ w.heap.size = w1.heap.size := (by have := HS1.out.1.ne; omega); have ne2 : ¬ w1.heap.size = w.heap.size := (by have := HS1.out.1.ne; omega); have lt1 : w.heap.size < w1.heap.size := HS1.out.1.ne; obtain ⟨⟨a0, a1, a2, a3, a4⟩, f0, f1, f2, f3, f4⟩ := HS1.out.2.2.all; clear hb1) | (go_at_call 33; refine (HK.out _ HS1.out.2.1).mono ?_; rintro e wq ⟨rfl, hq⟩; have hq' := hq.symm; subst hq') | (go_at_call 18; refine (HR.out _).mono ?_; rintro e w5 ⟨rfl, hb5⟩; have HS5 := (show Hid _ from (HS1.out.1).below hb5); obtain ⟨⟨x0, x1, x2, x3, x4⟩, y0, y1, y2, y3, y4⟩ := HS5.out.ans.all; obtain ⟨⟨z0, z1, z2, z3, z4⟩, _, _, _, _, _⟩ := HS5.out.pc.all; clear hb5))
    refine bodyPost_ret (v := .tuple #[.agg #[.int .u8 K, .string ⟨#[]⟩, .int .i64 0, .int .i64 0, .bool false], .bool true]) (by simp [results, Tryd.f23, go_sem, x0, x1, x2, x3, x4, y0, y1, y2, y3, y4, ne1, ne2]) rfl ?_
    exact ⟨rfl, Rs.fin (HS5.out) _ _ _ _ _⟩
  · go_enter Tryd.func23, Tryd.ntmps23
    go_wp2_with (first | (go_at_call 22; refine (HC.out _).mono ?_; rintro e w1 ⟨rfl, hb1⟩; have HS1 := (show Hid _ from Rs.start hb1 (.int .u8 K) (.string ⟨#[]⟩) (.int .i64 0) (.int .i64 0) (.bool false)); have ne1 : ¬ w.heap.size = w1.heap.size := (by have := HS1.out.1.ne; omega); have ne2 : ¬ w1.heap.size = w.heap.size := (by have := HS1.out.1.ne; omega); have lt1 : w.heap.size < w1.heap.size := HS1.out.1.ne; obtain ⟨⟨a0, a1, a2, a3, a4⟩, f0, f1, f2, f3, f4⟩ := HS1.out.2.2.all; clear hb1) | (go_at_call 33; refine (HK.out _ HS1.out.2.1).mono ?_; rintro e wq ⟨rfl, hq⟩; have hq' := hq.symm; subst hq') | (go_at_call 18; refine (HR.out _).mono ?_; rintro e w5 ⟨rfl, hb5⟩; have HS5 := (show Hid _ from (HS1.out.1).below hb5); obtain ⟨⟨x0, x1, x2, x3, x4⟩, y0, y1, y2, y3, y4⟩ := HS5.out.ans.all; obtain ⟨⟨z0, z1, z2, z3, z4⟩, _, _, _, _, _⟩ := HS5.out.pc.all; clear hb5))
    have hP := (HS1.out.2.2.setA (.int .u8 0) (.string ⟨#[]⟩) (.int .i64 0) (.int .i64 0) (.bool false)).alloc (.cells #[.int .u8 K, .string ⟨#[]⟩, .int .i64 0, .int .i64 0, .bool false] 36)
    obtain ⟨⟨m0, m1, m2, m3, m4⟩, _⟩ := hP.all
    clear a0 a1 a2 a3 a4 f0 f1 f2 f3 f4 ne1 ne2 lt1
    refine bodyPost_ret (v := .tuple #[.agg #[.int .u8 0, .string ⟨#[]⟩, .int .i64 0, .int .i64 0, .bool false], .bool false]) (by simp [results, Tryd.f23, go_sem, m0, m1, m2, m3, m4]) rfl ?_
    exact ⟨rfl, fin2 HS1.out.2.1 _ _ _ _ _ _⟩
  · go_enter Tryd.func23, Tryd.ntmps23
    go_wp2_with (first | (go_at_call 22; refine (HC.out _).mono ?_; rintro e w1 ⟨rfl, hb1⟩; have HS1 := (show Hid _ from Rs.start hb1 (.int .u8 K) (.string ⟨#[]⟩) (.int .i64 0) (.int .i64 0) (.bool false)); have ne1 : ¬ w.heap.size = w1.heap.size := (by have := HS1.out.1.ne; omega); have ne2 : ¬ w1.heap.size = w.heap.size := (by have := HS1.out.1.ne; omega); have lt1 : w.heap.size < w1.heap.size := HS1.out.1.ne; obtain ⟨⟨a0, a1, a2, a3, a4⟩, f0, f1, f2, f3, f4⟩ := HS1.out.2.2.all; clear hb1) | (go_at_call 33; refine (HK.out _ HS1.out.2.1).mono ?_; rintro e wq ⟨rfl, hq⟩; have hq' := hq.symm; subst hq') | (go_at_call 18; refine (HR.out _).mono ?_; rintro e w5 ⟨rfl, hb5⟩; have HS5 := (show Hid _ from (HS1.out.1).below hb5); obtain ⟨⟨x0, x1, x2, x3, x4⟩, y0, y1, y2, y3, y4⟩ := HS5.out.ans.all; obtain ⟨⟨z0, z1, z2, z3, z4⟩, _, _, _, _, _⟩ := HS5.out.pc.all; clear hb5))
    have hP := (HS1.out.2.2.setA (.int .u8 0) (.string ⟨#[]⟩) (.int .i64 0) (.int .i64 0) (.bool false)).alloc (.cells #[.int .u8 K, .string ⟨#[]⟩, .int .i64 0, .int .i64 0, .bool false] 36)
    obtain ⟨⟨m0, m1, m2, m3, m4⟩, _⟩ := hP.all
    clear a0 a1 a2 a3 a4 f0 f1 f2 f3 f4 ne1 ne2 lt1
    refine bodyPost_ret (v := .tuple #[.agg #[.int .u8 0, .string ⟨#[]⟩, .int .i64 0, .int .i64 0, .bool false], .bool false]) (by simp [results, Tryd.f23, go_sem, m0, m1, m2, m3, m4]) rfl ?_
    exact ⟨rfl, fin2 HS1.out.2.1 _ _ _ _ _ _⟩

end Go.Proofs.YtlpmnkiieibipaaDoor
