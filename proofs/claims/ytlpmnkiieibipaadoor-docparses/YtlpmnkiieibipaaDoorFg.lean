import Derived.Test.YtlpmnkiieibipaaDoorFf
import Derived.Test.YtlpmnkiieibipaaDoorFd
import Derived.Test.YtlpmnkiieibipaaDoorDx
set_option linter.unusedVariables false
set_option linter.unusedSimpArgs false
namespace Go.Proofs.YtlpmnkiieibipaaDoor
open Go.RowKit

/-! The document's piece. -/
theorem app_pieces {W : World} {ops : Array Oper} {rest : List Oper} {o : Oper} {a : Act} {Q : Exit → Act → World → Prop} (hgd : o.guard = none) (s x : Operand)
    (ho : o.op = .call { callee := .builtin .append, args := #[s, x], argTypes := #[23, 23] }) (B : Nat) (v : Value) (l ds : List Dc) (hs : a.eval s = v) (hr : Rp B W v l)
    (g m c : Nat) (hx : a.eval x = .slice (some ⟨g, 0, none⟩) m c) (hm : ds.length = m) (hg : W.heap[g]? = some (.cells (dcs ds).toArray 36 (0, 0))) (hl : l.length + ds.length ≤ 1000000000) (hB : B ≤ W.heap.size)
    (h : ∀ v' w', Rp B w' v' (l ++ ds) → Below B W w' → wpList Tryd.prog ops Q rest (a.put o.dst v') w') : wpList Tryd.prog ops Q (o :: rest) a W := by
  subst hm
  obtain ⟨i0, hi, hz0, hz1, hz2⟩ := info_parts Tryd.info36
  refine wpList_append_own_at (P := Tryd.prog) (w := W) hgd s x 23 ho B 36 i0 _ 5 48 Tryd.underlying23 hi hz0 hz1 hz2 rfl (by decide) v _ _ hs hr ⟨g, 0, none⟩ ds.length c (dcs ds) hx (by rw [dcs_len]) ?_ (dcs_one ds) (by unfold maxLen; omega) (by omega) hB ?_
  · intro j u hu
    exact World.news_of_block hg j u (by simpa using hu)
  · intro v' w' h1 h2 _ h4
    refine h v' w' ?_ ((Below.refl B W).grown h2 hB hr.own)
    unfold Rp
    rw [List.length_append, dcs_app]
    exact h1

/-- The call's world: the answer's block, and the row of what may be the piece. -/
structure PcW (w W : World) (v : Value) (L : List Dc) : Prop where
  row : Rp (w.heap.size + 1) W v L
  pc : Pc W w.heap.size (.int .u8 0) (.string ⟨#[]⟩) (.int .i64 0) (.int .i64 0) (.bool false)
  bel : Below w.heap.size w W
theorem PcW.below {w W W' : World} {v : Value} {L : List Dc} (h : PcW w W v L) (hb : Below W.heap.size W W') : PcW w W' v L :=
  ⟨h.row.below hb, h.pc.below hb, h.bel.trans (hb.mono h.bel.size)⟩
theorem PcW.size {w W : World} {v : Value} {L : List Dc} (h : PcW w W v L) : w.heap.size + 1 ≤ W.heap.size := h.pc.lt
theorem PcW.grow {w W W' : World} {v v' : Value} {L L' : List Dc} (h : PcW w W v L) (hr : Rp (w.heap.size + 1) W' v' L') (hb : Below (w.heap.size + 1) W W') : PcW w W' v' L' :=
  ⟨hr, (hb.block _ (Nat.lt_succ_self _)).trans h.pc, h.bel.trans (hb.mono (Nat.le_succ _))⟩
theorem PcW.alloc {w W : World} {v : Value} {L : List Dc} (h : PcW w W v L) (o : Obj) : PcW w (W.alloc o) v L := h.below ((Below.refl _ _).alloc (Nat.le_refl _) _)
def L4 : List Dc := [⟨2, bE, 0, 0, false⟩, ⟨4, bE, 0, 0, false⟩, ⟨5, bE, 0, 0, false⟩, ⟨7, bE, 0, 0, false⟩]
theorem PcW.start (w : World) : PcW w ((w.alloc (.cells #[.int .u8 0, .string ⟨#[]⟩, .int .i64 0, .int .i64 0, .bool false] 36)).alloc (.cells #[.int .u8 2, .string ⟨#[]⟩, .int .i64 0, .int .i64 0, .bool false, .int .u8 4, .string ⟨#[]⟩, .int .i64 0, .int .i64 0, .bool false, .int .u8 5, .string ⟨#[]⟩, .int .i64 0, .int .i64 0, .bool false, .int .u8 7, .string ⟨#[]⟩, .int .i64 0, .int .i64 0, .bool false] 36)) (.slice (some ⟨w.heap.size + 1, 0, none⟩) 4 4) L4 := by
  refine ⟨⟨rfl, .inr ⟨w.heap.size + 1, 4, _, rfl, Nat.le_refl _, heap_new2 _ _ _, Nat.le_refl _, by decide, rfl, rfl⟩⟩, (Pc.new w _ _ _ _ _).alloc _, ?_⟩
  have h1 := (Below.refl w.heap.size w).alloc (Nat.le_refl _) (.cells #[.int .u8 0, .string ⟨#[]⟩, .int .i64 0, .int .i64 0, .bool false] 36)
  exact h1.alloc h1.size _
theorem find_step {L : List Dc} {k : Nat} {d : Dc} (p : Dc → Bool) (h : L[k]? = some d) : (L.drop k).find? p = if p d then some d else (L.drop (k + 1)).find? p := by
  obtain ⟨h1, h2⟩ := List.getElem?_eq_some_iff.1 h
  rw [List.drop_eq_getElem_cons h1, h2, List.find?_cons]
  cases p d <;> rfl
theorem fin5 {w w1 : World} (h : Below w.heap.size w w1) (u0 u1 u2 u3 u4 : Value) :
    Below w.heap.size w (((((w1.setCell ⟨w.heap.size, 0, none⟩ u0).setCell ⟨w.heap.size, 1, none⟩ u1).setCell ⟨w.heap.size, 2, none⟩ u2).setCell ⟨w.heap.size, 3, none⟩ u3).setCell ⟨w.heap.size, 4, none⟩ u4) :=
  ((((h.setCell (p := ⟨w.heap.size, 0, none⟩) (Nat.le_refl _) u0).setCell (p := ⟨w.heap.size, 1, none⟩) (Nat.le_refl _) u1).setCell (p := ⟨w.heap.size, 2, none⟩) (Nat.le_refl _) u2).setCell (p := ⟨w.heap.size, 3, none⟩) (Nat.le_refl _) u3).setCell (p := ⟨w.heap.size, 4, none⟩) (Nat.le_refl _) u4
theorem pc_size (L : List UInt8) : ∀ d ∈ cands L, d.t.size ≤ L.length := by
  intro d hd
  unfold cands at hd
  have e0 : bE.size = 0 := rfl
  simp only [List.mem_append, List.mem_cons, List.not_mem_nil, or_false] at hd
  rcases hd with (rfl | rfl | rfl | rfl) | hd | hd
  · exact Nat.zero_le _
  · exact Nat.zero_le _
  · exact Nat.zero_le _
  · exact Nat.zero_le _
  · split at hd
    · simp at hd; subst hd
      show (⟨(pln (L.drop 5)).toArray⟩ : ByteArray).size ≤ _
      rw [← ls_len, ls_mk]
      have := pln_len _ (L.drop 5) (Nat.le_refl _)
      rw [List.length_drop] at this
      omega
    · simp at hd
  · split at hd
    · simp at hd
      rcases hd with rfl | rfl | rfl <;> exact Nat.zero_le _
    · simp at hd

end Go.Proofs.YtlpmnkiieibipaaDoor
