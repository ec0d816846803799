import Derived.Test.YtkigadnkclkopaaLa
set_option linter.unusedVariables false
set_option linter.unusedSimpArgs false
namespace Go.Proofs.Ytkigadnkclkopaa
open Go.RowKit

/-! The document's Toks. -/
/-- Blocks of another type stand. -/
def KY (T : TypeId) (W w' : World) : Prop := ∀ (k : Nat) (cs : Array Value) (U : TypeId) (f : Nat × Nat), W.heap[k]? = some (.cells cs U f) → U ≠ T → w'.heap[k]? = some (.cells cs U f)
theorem KY.trans {T : TypeId} {a b c : World} (h : KY T a b) (k : KY T b c) : KY T a c := fun i cs U f hi hU => k i cs U f (h i cs U f hi hU) hU
theorem KY.of_below {T : TypeId} {a b : World} (h : Below a.heap.size a b) : KY T a b := fun i cs U f hi _ => blk_below hi h
theorem KY.of_grown {B : Nat} {a b : World} {v : Value} {l : List Tv} (hr : Rt B a v l) (h : a.grownBy b v.ownBlock) : KY 29 a b := fun i cs U f hi hU =>
  (h.block i (blk_lt hi) (fun e => hr.ne hi hU i e.symm rfl)).trans hi
theorem toksL_app (a b : List Nd) : toksL (a ++ b) = toksL a ++ toksL b := by
  induction a with
  | nil => simp [toksL]
  | cons x r ih => simp [toksL, ih]
theorem toksL_take {c : List Nd} {j : Nat} {m : Nd} (h : c[j]? = some m) : toksL (c.take (j + 1)) = toksL (c.take j) ++ toks m := by
  rw [List.take_add_one, h, toksL_app]
  simp [toksL]
theorem toksL_le {c : List Nd} {j : Nat} : (toksL (c.take j)).length ≤ (toksL c).length := by
  have : toksL c = toksL (c.take j) ++ toksL (c.drop j) := by rw [← toksL_app, List.take_append_drop]
  rw [this, List.length_append]
  omega
/-- A row under way. -/
structure PI (w0 : World) (v : Value) (T : List Tv) (V : World) : Prop where
  bel : Below w0.heap.size w0 V
  rt : Rt w0.heap.size V v T
theorem PI.below {w0 : World} {v : Value} {T : List Tv} {V V1 : World} (h : PI w0 v T V) (hb : Below V.heap.size V V1) : PI w0 v T V1 := ⟨h.bel.trans (hb.mono h.bel.size), h.rt.below hb⟩
end Go.Proofs.Ytkigadnkclkopaa
