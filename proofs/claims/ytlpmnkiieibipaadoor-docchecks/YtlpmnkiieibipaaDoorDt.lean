import Derived.Test.YtlpmnkiieibipaaDoorDr
set_option linter.unusedVariables false
set_option linter.unusedSimpArgs false
namespace Go.Proofs.YtlpmnkiieibipaaDoor
open Go.RowKit

set_option maxHeartbeats 4000000 in
set_option maxRecDepth 100000 in
theorem rl_brk (s x y : ByteArray) (m : Bool) (w : World) (r : Bool) (n : Int) (g : Bool)
    (hC : ∀ W, Calls Tryd.prog 22 #[.string s, .string ⟨#[32]⟩] W fun e w' => e = .returned (.tuple #[.string x, .string y, .bool m]) ∧ Below W.heap.size W w')
    (hK : ∀ W, Below w.heap.size w W → Calls Tryd.prog 33 #[.string x] W fun e w' => e = .returned (.int .u8 3) ∧ w' = W)
    (hN : ∀ W, Below w.heap.size w W → Calls Tryd.prog 36 #[.string y] W fun e w' => (∃ n', e = .returned (.tuple #[.int .i64 n', .bool g]) ∧ (g = true → n' = n)) ∧ Below W.heap.size W w')
    (hR : ∀ W, Calls Tryd.prog 18 #[.agg #[.int .u8 3, .string ⟨#[]⟩, .int .i64 n, .int .i64 0, .bool false]] W fun e w' => e = .returned (.bool r) ∧ Below W.heap.size W w') :
    Calls Tryd.prog 23 #[.string s] w fun e w' => e = .returned (.tuple #[.agg (if g = true ∧ r = true then #[.int .u8 3, .string ⟨#[]⟩, .int .i64 n, .int .i64 0, .bool false] else #[.int .u8 0, .string ⟨#[]⟩, .int .i64 0, .int .i64 0, .bool false]), .bool (g && r)]) ∧ Below w.heap.size w w' := by
  have HC := (show Hid _ from hC)
  have HK := (show Hid _ from hK)
  have HR := (show Hid _ from hR)
  have HN := (show Hid _ from hN)
  clear hN
  cases g
  all_goals cases r
  all_goals clear hC hK hR
  · go_enter Tryd.func23, Tryd.ntmps23
    go_wp2_with (first | (go_at_call 22; refine (HC.out _).mono ?_; rintro e w1 ⟨rfl, hb1⟩; have HS1 := (show Hid _ from Rs.start hb1 (.int .u8 3) (.string ⟨#[]⟩) (.int .i64 0) (.int .i64 0) (.bool false)); have ne1 : ¬ w.heap.size = w1.heap.size := (by have := HS1.out.1.ne; omega); have ne2 : ¬ w1.heap.size = w.heap.size := (by have := HS1.out.1.ne; omega); have lt1 : w.heap.size < w1.heap.size := HS1.out.1.ne; obtain ⟨⟨a0, a1, a2, a3, a4⟩, f0, f1, f2, f3, f4⟩ := HS1.out.2.2.all; clear hb1) | (go_at_call 33; refine (HK.out _ HS1.out.2.1).mono ?_; rintro e wq ⟨rfl, hq⟩; have hq' := hq.symm; subst hq') | (go_at_call 36; refine (HN.out _ (HS1.out.1).bel).mono ?_; rintro e w2 ⟨⟨n', rfl, hn'⟩, hb2⟩; have HS2 := (show Hid _ from Rs.below (HS1.out.1) hb2); obtain ⟨⟨a0, a1, a2, a3, a4⟩, f0, f1, f2, f3, f4⟩ := HS2.out.ans.all; obtain ⟨⟨c0, c1, c2, c3, c4⟩, g0, g1, g2, g3, g4⟩ := HS2.out.pc.all; clear hb2) | (go_at_call 18; refine (HR.out _).mono ?_; rintro e w5 ⟨rfl, hb5⟩; have HS5 := (show Hid _ from (HS2.out.set2 (.int .i64 n)).below hb5); obtain ⟨⟨x0, x1, x2, x3, x4⟩, y0, y1, y2, y3, y4⟩ := HS5.out.ans.all; obtain ⟨⟨z0, z1, z2, z3, z4⟩, _, _, _, _, _⟩ := HS5.out.pc.all; clear hb5))
    refine bodyPost_ret (v := .tuple #[.agg #[.int .u8 0, .string ⟨#[]⟩, .int .i64 0, .int .i64 0, .bool false], .bool false]) (by simp [results, Tryd.f23, go_sem, a0, a1, a2, a3, a4, f0, f1, f2, f3, f4, ne1, ne2]) rfl ?_
    exact ⟨rfl, Rs.fin (HS2.out.set2 (.int .i64 n')) _ _ _ _ _⟩
  · go_enter Tryd.func23, Tryd.ntmps23
    go_wp2_with (first | (go_at_call 22; refine (HC.out _).mono ?_; rintro e w1 ⟨rfl, hb1⟩; have HS1 := (show Hid _ from Rs.start hb1 (.int .u8 3) (.string ⟨#[]⟩) (.int .i64 0) (.int .i64 0) (.bool false)); have ne1 : ¬ w.heap.size = w1.heap.size := (by have := HS1.out.1.ne; omega); have ne2 : ¬ w1.heap.size = w.heap.size := (by have := HS1.out.1.ne; omega); have lt1 : w.heap.size < w1.heap.size := HS1.out.1.ne; obtain ⟨⟨a0, a1, a2, a3, a4⟩, f0, f1, f2, f3, f4⟩ := HS1.out.2.2.all; clear hb1) | (go_at_call 33; refine (HK.out _ HS1.out.2.1).mono ?_; rintro e wq ⟨rfl, hq⟩; have hq' := hq.symm; subst hq') | (go_at_call 36; refine (HN.out _ (HS1.out.1).bel).mono ?_; rintro e w2 ⟨⟨n', rfl, hn'⟩, hb2⟩; have HS2 := (show Hid _ from Rs.below (HS1.out.1) hb2); obtain ⟨⟨a0, a1, a2, a3, a4⟩, f0, f1, f2, f3, f4⟩ := HS2.out.ans.all; obtain ⟨⟨c0, c1, c2, c3, c4⟩, g0, g1, g2, g3, g4⟩ := HS2.out.pc.all; clear hb2) | (go_at_call 18; refine (HR.out _).mono ?_; rintro e w5 ⟨rfl, hb5⟩; have HS5 := (show Hid _ from (HS2.out.set2 (.int .i64 n)).below hb5); obtain ⟨⟨x0, x1, x2, x3, x4⟩, y0, y1, y2, y3, y4⟩ := HS5.out.ans.all; obtain ⟨⟨z0, z1, z2, z3, z4⟩, _, _, _, _, _⟩ := HS5.out.pc.all; clear hb5))
    refine bodyPost_ret (v := .tuple #[.agg #[.int .u8 0, .string ⟨#[]⟩, .int .i64 0, .int .i64 0, .bool false], .bool false]) (by simp [results, Tryd.f23, go_sem, a0, a1, a2, a3, a4, f0, f1, f2, f3, f4, ne1, ne2]) rfl ?_
    exact ⟨rfl, Rs.fin (HS2.out.set2 (.int .i64 n')) _ _ _ _ _⟩
  · go_enter Tryd.func23, Tryd.ntmps23
    go_wp2_with (first | (go_at_call 22; refine (HC.out _).mono ?_; rintro e w1 ⟨rfl, hb1⟩; have HS1 := (show Hid _ from Rs.start hb1 (.int .u8 3) (.string ⟨#[]⟩) (.int .i64 0) (.int .i64 0) (.bool false)); have ne1 : ¬ w.heap.size = w1.heap.size := (by have := HS1.out.1.ne; omega); have ne2 : ¬ w1.heap.size = w.heap.size := (by have := HS1.out.1.ne; omega); have lt1 : w.heap.size < w1.heap.size := HS1.out.1.ne; obtain ⟨⟨a0, a1, a2, a3, a4⟩, f0, f1, f2, f3, f4⟩ := HS1.out.2.2.all; clear hb1) | (go_at_call 33; refine (HK.out _ HS1.out.2.1).mono ?_; rintro e wq ⟨rfl, hq⟩; have hq' := hq.symm; subst hq') | (go_at_call 36; refine (HN.out _ (HS1.out.1).bel).mono ?_; rintro e w2 ⟨⟨n', rfl, hn'⟩, hb2⟩; have hn2 := (hn' (by trivial)).symm; subst hn2; have HS2 := (show Hid _ from Rs.below (HS1.out.1) hb2); obtain ⟨⟨a0, a1, a2, a3, a4⟩, f0, f1, f2, f3, f4⟩ := HS2.out.ans.all; obtain ⟨⟨c0, c1, c2, c3, c4⟩, g0, g1, g2, g3, g4⟩ := HS2.out.pc.all; clear hb2) | (go_at_call 18; refine (HR.out _).mono ?_; rintro e w5 ⟨rfl, hb5⟩; have HS5 := (show Hid _ from (HS2.out.set2 (.int .i64 n)).below hb5); obtain ⟨⟨x0, x1, x2, x3, x4⟩, y0, y1, y2, y3, y4⟩ := HS5.out.ans.all; obtain ⟨⟨z0, z1, z2, z3, z4⟩, _, _, _, _, _⟩ := HS5.out.pc.all; clear hb5))
    refine bodyPost_ret (v := .tuple #[.agg #[.int .u8 0, .string ⟨#[]⟩, .int .i64 0, .int .i64 0, .bool false], .bool false]) (by simp [results, Tryd.f23, go_sem, x0, x1, x2, x3, x4, y0, y1, y2, y3, y4, ne1, ne2]) rfl ?_
    exact ⟨rfl, Rs.fin (HS5.out) _ _ _ _ _⟩
  · go_enter Tryd.func23, Tryd.ntmps23
    go_wp2_with (first | (go_at_call 22; refine (HC.out _).mono ?_; rintro e w1 ⟨rfl, hb1⟩; have HS1 := (show Hid _ from Rs.start hb1 (.int .u8 3) (.string ⟨#[]⟩) (.int .i64 0) (.int .i64 0) (.bool false)); have ne1 : ¬ w.heap.size = w1.heap.size := (by have := HS1.out.1.ne; omega); have ne2 : ¬ w1.heap.size = w.heap.size := (by have := HS1.out.1.ne; omega); have lt1 : w.heap.size < w1.heap.size := HS1.out.1.ne; obtain ⟨⟨a0, a1, a2, a3, a4⟩, f0, f1, f2, f3, f4⟩ := HS1.out.2.2.all; clear hb1) | (go_at_call 33; refine (HK.out _ HS1.out.2.1).mono ?_; rintro e wq ⟨rfl, hq⟩; have hq' := hq.symm; subst hq') | (go_at_call 36; refine (HN.out _ (HS1.out.1).bel).mono ?_; rintro e w2 ⟨⟨n', rfl, hn'⟩, hb2⟩; have hn2 := (hn' (by trivial)).symm; subst hn2; have HS2 := (show Hid _ from Rs.below (HS1.out.1) hb2); obtain ⟨⟨a0, a1, a2, a3, a4⟩, f0, f1, f2, f3, f4⟩ := HS2.out.ans.all; obtain ⟨⟨c0, c1, c2, c3, c4⟩, g0, g1, g2, g3, g4⟩ := HS2.out.pc.all; clear hb2) | (go_at_call 18; refine (HR.out _).mono ?_; rintro e w5 ⟨rfl, hb5⟩; have HS5 := (show Hid _ from (HS2.out.set2 (.int .i64 n)).below hb5); obtain ⟨⟨x0, x1, x2, x3, x4⟩, y0, y1, y2, y3, y4⟩ := HS5.out.ans.all; obtain ⟨⟨z0, z1, z2, z3, z4⟩, _, _, _, _, _⟩ := HS5.out.pc.all; clear hb5))
    refine bodyPost_ret (v := .tuple #[.agg #[.int .u8 3, .string ⟨#[]⟩, .int .i64 n, .int .i64 0, .bool false], .bool true]) (by simp [results, Tryd.f23, go_sem, x0, x1, x2, x3, x4, y0, y1, y2, y3, y4, ne1, ne2]) rfl ?_
    exact ⟨rfl, Rs.fin (HS5.out) _ _ _ _ _⟩

end Go.Proofs.YtlpmnkiieibipaaDoor
