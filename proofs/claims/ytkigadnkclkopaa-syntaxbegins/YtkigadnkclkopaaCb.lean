import Derived.Test.YtkigadnkclkopaaCa
set_option linter.unusedVariables false
set_option linter.unusedSimpArgs false
namespace Go.Proofs.Ytkigadnkclkopaa
open Go.RowKit

/-! The code's Depth. -/
theorem size_al (W : World) (o : Obj) : (W.alloc o).heap.size = W.heap.size + 1 := World.size_alloc _ _
theorem di_start (W : World) (o : Obj) (x : Value) : DI W (W.heap.size + 1) (W.heap.size + 1 + 1) 0 (((W.alloc o).alloc (.cells #[.int .i64 0] 3)).alloc (.cells #[lookF (W.heap.size + 1) (W.heap.size + 1 + 1)] 59)) := by
  have e1 := size_al W o
  have e2 := size_al (W.alloc o) (.cells #[.int .i64 0] 3)
  have b1 := below_new W o
  have b2 := below_new (W.alloc o) (.cells #[.int .i64 0] 3)
  have b3 := below_new ((W.alloc o).alloc (.cells #[.int .i64 0] 3)) (.cells #[lookF (W.heap.size + 1) (W.heap.size + 1 + 1)] 59)
  refine ⟨(b1.trans (b2.mono b1.size)).trans (b3.mono (by omega)), ?_, ?_, by omega, by omega⟩
  · refine alloc_at' ?_ _
    rw [← e1]
    exact new_at _ _
  · rw [← e1, ← e2]
    exact new_at _ _
set_option maxRecDepth 100000 in
theorem depth_any (n : Nd) (vn : Value) (W : World) (h : Nv W vn n) (hd : dpt n ≤ 100000) : Calls Try.prog 10 #[vn] W fun r w' => r = .returned (.int .i64 (dpt n : Nat)) ∧ Below W.heap.size W w' := by
  have hmf : ∀ (fn : Fn) (first cap : Array Value) (w : World), (Instr.makeFunc fn first cap).run Try.prog w = .ok (.func fn first cap) w := fun _ _ _ _ => rfl
  have HL : Hid (∀ V, DI W (W.heap.size + 1) (W.heap.size + 1 + 1) 0 V → Calls Try.prog 24 #[vn, .int .i64 0, .pointer (some ⟨W.heap.size + 1, 0, none⟩), .pointer (some ⟨W.heap.size + 1 + 1, 0, none⟩)] V fun r w' => r = .returned (.tuple #[]) ∧ DI W (W.heap.size + 1) (W.heap.size + 1 + 1) (dpt n) w') := fun V hV => by
    refine (look_any W n vn h V _ _ 0 0 hV (by omega) (by omega)).mono ?_
    rintro r w' ⟨rfl, h1, _⟩
    refine ⟨rfl, ?_⟩
    by_cases hk : n.k = 0
    · rw [if_pos hk] at h1
      have : dpt n = 0 := by obtain ⟨mk, md, mc⟩ := n; have hm0' : mk = 0 := hk; simp [dpt, hm0']
      rw [this]; exact h1
    · rw [if_neg hk] at h1
      rw [show max 0 (0 + dpt n) = dpt n by omega] at h1
      exact h1
  obtain ⟨ao, cap, rfl, _⟩ := h
  go_enter Try.func10, Try.ntmps10
  go_wp2_with fail
  refine (HL.out _ (di_start W _ .nilFunc)).mono ?_
  rintro r w1 ⟨rfl, h1⟩
  have yg : w1.cell? ⟨W.heap.size + 1, 0, none⟩ = some (.int .i64 (dpt n : Int)) := blk_cell h1.hg rfl
  have ygl : W.heap.size + 1 < w1.heap.size := blk_lt h1.hg
  have H1 : Hid (Below W.heap.size W w1) := h1.bel
  clear h1 HL
  go_wp2_with fail
  go_ret
  exact ⟨rfl, H1.out⟩

end Go.Proofs.Ytkigadnkclkopaa
