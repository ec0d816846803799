import Derived.Test.YtkigadnkclkopaaLf
set_option linter.unusedVariables false
set_option linter.unusedSimpArgs false
namespace Go.Proofs.Ytkigadnkclkopaa
open Go.RowKit

theorem al4 (W : World) (o1 o2 o3 o4 : Obj) : Below W.heap.size W ((((W.alloc o1).alloc o2).alloc o3).alloc o4) ∧ ((((W.alloc o1).alloc o2).alloc o3).alloc o4).heap[W.heap.size]? = some o1 ∧ ((((W.alloc o1).alloc o2).alloc o3).alloc o4).heap[W.heap.size + 1]? = some o2 ∧ ((((W.alloc o1).alloc o2).alloc o3).alloc o4).heap[W.heap.size + 1 + 1]? = some o3 ∧ ((((W.alloc o1).alloc o2).alloc o3).alloc o4).heap[W.heap.size + 1 + 1 + 1]? = some o4 := by
  have e1 := size_al W o1
  have e2 := size_al (W.alloc o1) o2
  have e3 := size_al ((W.alloc o1).alloc o2) o3
  have b1 := below3 W o1 o2 o3
  exact ⟨b1.trans ((below_new _ _).mono b1.size), alloc_at' (alloc_at' (alloc_at' (new_at _ _) _) _) _, alloc_at' (alloc_at' (by rw [← e1]; exact new_at _ _) _) _, alloc_at' (by rw [← e1, ← e2]; exact new_at _ _) _, by rw [← e1, ← e2, ← e3]; exact new_at _ _⟩
/-- The end of copied. -/
theorem CI.done {W : World} {k : Int} {d : Tv} {nv : Value} {c : List Nd} {vs : List Value} {cur : Array Value} {V : World} (h : CI W k d nv c c.length vs cur V) (hm : c.length + 1 ≤ maxLen) : ∀ w9, w9 = sets8 (V.setCells (W.heap.size + 1 + 1 + 1) (c.length * 8) (nc (.mk 99 tv0 []) (.slice none 0 0))) (W.heap.size + 1) k d (.slice (some ⟨W.heap.size + 1 + 1 + 1, 0, none⟩) c.length (c.length + 1)) →
    w9.heap[W.heap.size + 1]? = some (NdB k d (.slice (some ⟨W.heap.size + 1 + 1 + 1, 0, none⟩) c.length (c.length + 1))) ∧ Below W.heap.size W w9 ∧ CN (fun q => W.heap.size ≤ q) w9 (.mk k d c) (.slice (some ⟨W.heap.size + 1 + 1 + 1, 0, none⟩) c.length (c.length + 1)) := by
  rintro w9 rfl
  obtain ⟨cur', e1, e2, e3, e4⟩ := sets_blk (W.heap.size + 1 + 1 + 1) (nc (.mk 99 tv0 []) (.slice none 0 0)) (c.length * 8) V cur h.row
  have ks := sets_kp (W.heap.size + 1 + 1 + 1) (nc (.mk 99 tv0 []) (.slice none 0 0)) (c.length * 8) V
  have k8 := sets8_kp (V.setCells (W.heap.size + 1 + 1 + 1) (c.length * 8) (nc (.mk 99 tv0 []) (.slice none 0 0))) (W.heap.size + 1) k d (.slice (some ⟨W.heap.size + 1 + 1 + 1, 0, none⟩) c.length (c.length + 1))
  have hs := h.sz
  have b1 : Below W.heap.size W (V.setCells (W.heap.size + 1 + 1 + 1) (c.length * 8) (nc (.mk 99 tv0 []) (.slice none 0 0))) := Kp.low h.bel ks (fun q e => by omega) h.bel.size
  have hrc := h.rc
  have hcl := h.cl
  rw [List.take_length] at hrc hcl
  refine ⟨sets8_at (ks.blk h.rb (by omega)) _ _ _, Kp.low b1 k8 (fun q e => by omega) b1.size, ?_⟩
  rw [CN]
  refine ⟨vs, _, cur', rfl, by omega, hm, k8.blk e1 (by omega), e2.trans h.sz, ⟨hrc.1, fun j n s hj hsv i u hu => ?_⟩, ?_, CL.sub (fun q e => by omega) _ _ (CL.kp k8 (fun q e e2 => by omega) _ _ (CL.kp ks (fun q e e2 => by omega) _ _ hcl))⟩
  · have hjl := (List.getElem?_eq_some_iff.1 hj).1
    have hi : i < 8 := by
      have := (List.getElem?_eq_some_iff.1 hu).1
      simpa [nc] using this
    rw [e3 _ (.inl (by omega))]
    exact hrc.2 j n s hj hsv i u hu
  · have := e4 (by show c.length * 8 + 8 ≤ _; omega) 0 (.int .u8 99) rfl
    simpa using this
end Go.Proofs.Ytkigadnkclkopaa
