import Derived.Test.YtcokccfbeonlnaaDoorFl
import Derived.Test.YtcokccfbeonlnaaDoorSo
set_option linter.unusedVariables false
set_option linter.unusedSimpArgs false
namespace Go.Proofs.YtcokccfbeonlnaaDoor
open Go.RowKit

/-! A row of bytes of the call's own. -/
def Br (B : Nat) (w : World) (v : Value) (l : List UInt8) : Prop := w.ownsRow B 5 1 v l.length (bc l)
theorem br_nil (B : Nat) (w : World) : Br B w (.slice none 0 0) [] := World.ownsRow_nil w B 5 1
theorem Br.shape {B : Nat} {w : World} {v : Value} {l : List UInt8} (h : Br B w v l) : ∃ p cap, v = .slice p l.length cap ∧ l.length ≤ cap ∧ cap ≤ maxLen := by
  rcases h.2 with ⟨rfl, h0⟩ | ⟨b, cap, cur, rfl, _, h3, h4, h5, _⟩
  · exact ⟨none, 0, by rw [h0], by omega, Nat.zero_le _⟩
  · exact ⟨_, cap, rfl, h4, h5⟩
theorem Br.own {B : Nat} {w : World} {v : Value} {l : List UInt8} (h : Br B w v l) : ∀ k, v.ownBlock = some k → B ≤ k := by
  intro k hk
  rcases h.2 with ⟨rfl, h0⟩ | ⟨b, cap, cur, rfl, hb, _⟩
  · cases hk
  · simp only [Value.ownBlock, Option.some.injEq] at hk
    omega
theorem Br.below {B : Nat} {w w' : World} {v : Value} {l : List UInt8} (h : Br B w v l) (hb : Below w.heap.size w w') : Br B w' v l := by
  refine ⟨h.1, ?_⟩
  rcases h.2 with h1 | ⟨g, cap, cur, rfl, h2, h3, h4⟩
  · exact .inl h1
  · exact .inr ⟨g, cap, cur, rfl, h2, blk_below h3 hb, h4⟩
theorem below_of_grown {B : Nat} {w w' : World} {v : Value} {l : List UInt8} (h : Br B w v l) (hg : w.grownBy w' v.ownBlock) (hB : B ≤ w.heap.size) : Below B w w' :=
  (Below.refl B w).grown hg hB h.own

/-- Nothing below B has turned, and no block but rows of bytes. -/
structure Bw5 (B : Nat) (w w' : World) : Prop where
  bel : Below B w w'
  oth : Lib.OthersKept 5 none w w'
theorem Bw5.refl (B : Nat) (w : World) : Bw5 B w w := ⟨Below.refl _ _, Lib.OthersKept.refl _ _ _⟩
theorem Bw5.trans {B : Nat} {a b c : World} (h : Bw5 B a b) (k : Bw5 B b c) : Bw5 B a c := ⟨h.bel.trans k.bel, h.oth.trans k.oth⟩
theorem Bw5.of_below {B : Nat} {w w' : World} (h : Below w.heap.size w w') (hB : B ≤ w.heap.size) : Bw5 B w w' :=
  ⟨h.mono hB, fun k o hk _ _ => (h.block k (Array.getElem?_eq_some_iff.1 hk).1).trans hk⟩
theorem Bw5.of_grown {B : Nat} {w w' : World} {v : Value} {l : List UInt8} (h : Br B w v l) (hg : w.grownBy w' v.ownBlock) (hB : B ≤ w.heap.size) : Bw5 B w w' := by
  refine ⟨below_of_grown h hg hB, fun k o hk _ ho => ?_⟩
  refine (hg.block k (Array.getElem?_eq_some_iff.1 hk).1 ?_).trans hk
  intro e
  rcases h.2 with ⟨rfl, _⟩ | ⟨b, cap, cur, rfl, _, h3, _⟩
  · cases e
  · simp only [Value.ownBlock, Option.some.injEq] at e
    subst e
    rw [hk] at h3
    cases h3
    exact ho _ _ rfl
theorem Bw5.alloc {B : Nat} {a w : World} (h : Bw5 B a w) (hB : B ≤ a.heap.size) (o : Obj) : Bw5 B a (w.alloc o) := h.trans (Bw5.of_below ((Below.refl _ _).alloc (Nat.le_refl _) _) (Nat.le_trans hB h.bel.size))
theorem Bw5.drew {B : Nat} {a w : World} (h : Bw5 B a w) : Bw5 B a w.drew := ⟨h.bel.drew, h.oth.drew⟩
theorem Bw5.blk {B : Nat} {w w' : World} (h : Bw5 B w w') {g : Nat} {cs : Array Value} {T : TypeId} {f : Nat × Nat} (hg : w.heap[g]? = some (.cells cs T f)) (hT : T ≠ 5) : w'.heap[g]? = some (.cells cs T f) :=
  h.oth g _ hg (by simp) (fun c fz e => by cases e; exact hT rfl)


/-- Bytes behind a row of the call's own. -/
theorem app_bytes {W : World} {ops : Array Oper} {rest : List Oper} {o : Oper} {a : Act} {Q : Exit → Act → World → Prop} (hgd : o.guard = none) (s x : Operand)
    (ho : o.op = .call { callee := .builtin .append, args := #[s, x], argTypes := #[32, 32] }) (B : Nat) (v : Value) (l new : List UInt8) (hs : a.eval s = v) (hr : Br B W v l)
    (g m c : Nat) (hx : a.eval x = .slice (some ⟨g, 0, none⟩) m c) (hm : new.length = m) (hg : W.heap[g]? = some (.cells (bc new).toArray 5 (0, 0))) (hl : l.length + new.length ≤ 1073741824) (hB : B ≤ W.heap.size)
    (h : ∀ v' w', Br B w' v' (l ++ new) → Bw5 B W w' → wpList Tryd.prog ops Q rest (a.put o.dst v') w') : wpList Tryd.prog ops Q (o :: rest) a W := by
  subst hm
  obtain ⟨i0, hi, hz0, hz1, hz2⟩ := info_parts Tryd.info5
  refine wpList_append_own_at (P := Tryd.prog) (w := W) hgd s x 32 ho B 5 i0 (.int .u8 0) 1 1 Tryd.underlying32 hi hz0 hz1 hz2 rfl (by decide) v _ _ hs hr ⟨g, 0, none⟩ new.length c (bc new) hx (by rw [bc_len]; omega) ?_ (bc_one new) (by unfold maxLen; omega) (by omega) hB ?_
  · intro j u hu
    exact World.news_of_block hg j u (by simpa using hu)
  · intro v' w' h1 h2 _ _
    refine h v' w' ?_ (Bw5.of_grown hr h2 hB)
    unfold Br
    rw [List.length_append, bc_app]
    exact h1
theorem app_str {W : World} {ops : Array Oper} {rest : List Oper} {o : Oper} {a : Act} {Q : Exit → Act → World → Prop} (hgd : o.guard = none) (s x : Operand)
    (ho : o.op = .call { callee := .builtin .append, args := #[s, x], argTypes := #[32, 9] }) (B : Nat) (v : Value) (l : List UInt8) (t : ByteArray) (hs : a.eval s = v) (hr : Br B W v l)
    (hx : a.eval x = .string t) (hl : l.length + t.size ≤ 1073741824) (hB : B ≤ W.heap.size)
    (h : ∀ v' w', Br B w' v' (l ++ lsb t) → Bw5 B W w' → wpList Tryd.prog ops Q rest (a.put o.dst v') w') : wpList Tryd.prog ops Q (o :: rest) a W := by
  obtain ⟨i0, hi, hz0, hz1, hz2⟩ := info_parts Tryd.info5
  refine wpList_append_string_at (P := Tryd.prog) (w := W) hgd s x 32 9 ho B 5 i0 Tryd.underlying32 Tryd.underlying9 hi hz0 hz1 hz2 v _ _ hs hr t hx (by unfold maxLen; omega) (by omega) hB ?_
  intro v' w' h1 h2 _
  refine h v' w' ?_ (Bw5.of_grown hr h2 hB)
  unfold Br
  rw [List.length_append, bc_app, ls_len]
  exact h1
/-- The same at a step of a region that draws its order. -/
theorem step_bytes {W : World} {ops : Array Oper} {o : Oper} {a : Act} {K : Act → World → Prop} {Q : Exit → Act → World → Prop} {E : Prop} (hgd : o.guard = none) (s x : Operand)
    (ho : o.op = .call { callee := .builtin .append, args := #[s, x], argTypes := #[32, 32] }) (B : Nat) (v : Value) (l new : List UInt8) (hs : a.eval s = v) (hr : Br B W v l)
    (g m c : Nat) (hx : a.eval x = .slice (some ⟨g, 0, none⟩) m c) (hm : new.length = m) (h0 : 0 < new.length) (hg : W.heap[g]? = some (.cells (bc new).toArray 5 (0, 0))) (hl : l.length + new.length ≤ 1073741824) (hB : B ≤ W.heap.size)
    (h : ∀ g cap w', Br B w' (.slice (some ⟨g, 0, none⟩) (l.length + m) cap) (l ++ new) → Bw5 B W w' → K (a.put o.dst (.slice (some ⟨g, 0, none⟩) (l.length + m) cap)) w') : if Region.wanted o (yielded ops a.tmps) = true then Oper.wp Tryd.prog o a W K Q else E := by
  subst hm
  obtain ⟨i0, hi, hz0, hz1, hz2⟩ := info_parts Tryd.info5
  refine step_append_lies (P := Tryd.prog) W hgd s x 32 ho B 5 i0 (.int .u8 0) 1 1 Tryd.underlying32 hi hz0 hz1 hz2 rfl (by decide) v _ _ hs hr ⟨g, 0, none⟩ new.length c (bc new) hx (by rw [bc_len]; omega) ?_ (bc_one new) h0 (by unfold maxLen; omega) (by omega) hB _ rfl ?_
  · intro j u hu
    exact World.news_of_block hg j u (by simpa using hu)
  · intro g' cap w' h1 h2 _ _
    refine h g' cap w' ?_ (Bw5.of_grown hr h2 hB)
    unfold Br
    rw [List.length_append, bc_app]
    exact h1
end Go.Proofs.YtcokccfbeonlnaaDoor
