import Derived.Test.YtkglkhijngpgiaaGreatZu
set_option linter.unusedVariables false
set_option linter.unusedSimpArgs false
namespace Go.Proofs.YtkglkhijngpgiaaGreat
open Go.RowKit

structure DX (U : Nat → Prop) (g : Nat) (W V : World) (v : Value) (E : List Ev) (T : List Tv) (now : List (Int × Nat)) (e : Int) (c : Bool) (U' : Nat → Prop) (vL vN : Value) : Prop where
  re : Re V v E
  dp : DP U' V g T now e c vL vN
  s1 : ∀ k, U k → U' k
  s2 : ∀ k, U' k → U k ∨ (W.heap.size ≤ k ∧ k < V.heap.size)
  s3 : ∀ k, v.ownBlock = some k → W.heap.size ≤ k ∧ ¬ U' k
  kp : Kp (fun k => k = g) W V
theorem DA.dx {U : Nat → Prop} {g : Nat} {W V : World} {v : Value} {E : List Ev} {T : List Tv} {now : List (Int × Nat)} {e : Int} {c : Bool} (h : DA U g W V v E T now e c) : ∃ U' vL vN, DX U g W V v E T now e c U' vL vN := by
  obtain ⟨U', vL, vN, h1, h2, h3, h4⟩ := h.ex
  exact ⟨U', vL, vN, h.re, h1, h2, h3, h4, h.kp⟩
theorem DX.da {U : Nat → Prop} {g : Nat} {W V : World} {v : Value} {E : List Ev} {T : List Tv} {now : List (Int × Nat)} {e : Int} {c : Bool} {U' : Nat → Prop} {vL vN : Value} (h : DX U g W V v E T now e c U' vL vN) : DA U g W V v E T now e c := ⟨h.re, ⟨U', vL, vN, h.dp, h.s1, h.s2, h.s3⟩, h.kp⟩
theorem DX.below {U : Nat → Prop} {g : Nat} {W V V1 : World} {v : Value} {E : List Ev} {T : List Tv} {now : List (Int × Nat)} {e : Int} {c : Bool} {U' : Nat → Prop} {vL vN : Value} (h : DX U g W V v E T now e c U' vL vN) (hb : Below V.heap.size V V1) : DX U g W V1 v E T now e c U' vL vN :=
  ⟨h.re.below hb, h.dp.below hb, h.s1, fun k hu => (h.s2 k hu).imp id (fun a => ⟨a.1, Nat.lt_of_lt_of_le a.2 hb.size⟩), h.s3, h.kp.step (Kp.of_below (S := fun _ => False) hb) (fun _ _ h => h.elim)⟩
theorem DX.push {U : Nat → Prop} {g : Nat} {W V V1 w3 : World} {v v' : Value} {E ds : List Ev} {T : List Tv} {now : List (Int × Nat)} {e : Int} {c : Bool} {U' : Nat → Prop} {vL vN : Value} (hU : ∀ k, U k → k < W.heap.size) (h : DX U g W V v E T now e c U' vL vN) (hb : Below V.heap.size V V1) (hr : Re w3 v' (E ++ ds)) (hk : Kp (fun k => v.ownBlock = some k) V1 w3) (hn : Nb V1 v v') : DX U g W w3 v' (E ++ ds) T now e c U' vL vN := by
  have hV : ∀ k, U' k → k < V.heap.size := fun k hk => by
    rcases h.s2 k hk with a | a
    · exact Nat.lt_of_lt_of_le (hU k a) h.kp.size
    · exact a.2
  refine ⟨hr, (h.dp.below hb).kp hk (fun k hu e => (h.s3 k e).2 hu), h.s1, fun k hu => ?_, fun k e => ?_, (h.kp.step (Kp.of_below (S := fun _ => False) hb) (fun _ _ h => h.elim)).step hk (fun k hlt e => ?_)⟩
  · rcases h.s2 k hu with a | a
    · exact .inl a
    · exact .inr ⟨a.1, Nat.lt_of_lt_of_le a.2 (Nat.le_trans hb.size hk.size)⟩
  · rcases hn with e1 | ⟨q, e1, hq⟩
    · exact h.s3 k (by rw [← e1]; exact e)
    · rw [e1] at e
      simp at e
      subst e
      exact ⟨Nat.le_trans h.kp.size (Nat.le_trans hb.size hq), fun hu => by have := hV _ hu; have := hb.size; omega⟩
  · have := (h.s3 k e).1
    omega
theorem re_rt {W : World} {v u : Value} {E : List Ev} {T : List Tv} (h : Re W v E) (h' : Rt 0 W u T) : ∀ k, v.ownBlock = some k → u.ownBlock ≠ some k := by
  intro k hk hu
  rcases h'.2 with ⟨rfl, h0⟩ | ⟨b, cap, cur, rfl, hb, h3, _⟩
  · cases hu
  · simp only [Value.ownBlock, Option.some.injEq] at hu
    subst hu
    exact h.ne h3 (by decide) _ hk rfl
theorem re_rp {W : World} {v u : Value} {E : List Ev} {p : List (Int × Nat)} (h : Re W v E) (h' : Rp W u p) : ∀ k, v.ownBlock = some k → u.ownBlock ≠ some k := by
  intro k hk hu
  rcases h'.2 with ⟨rfl, h0⟩ | ⟨b, cap, cur, rfl, hb, h3, _⟩
  · cases hu
  · simp only [Value.ownBlock, Option.some.injEq] at hu
    subst hu
    exact h.ne h3 (by decide) _ hk rfl
theorem Rt.lt {B : Nat} {W : World} {v : Value} {l : List Tv} (h : Rt B W v l) : ∀ k, v.ownBlock = some k → k < W.heap.size := by
  intro k hk
  rcases h.2 with ⟨rfl, h0⟩ | ⟨b, cap, cur, rfl, hb, h3, _⟩
  · cases hk
  · simp only [Value.ownBlock, Option.some.injEq] at hk
    subst hk
    exact blk_lt h3
theorem DX.setL {U : Nat → Prop} {g : Nat} {W V : World} {v : Value} {E : List Ev} {T T2 : List Tv} {now : List (Int × Nat)} {e : Int} {c : Bool} {U' : Nat → Prop} {vL vN : Value} (h : DX U g W V v E T now e c U' vL vN) {u : Value} (hr : Rt 0 V u T2) (hb : ∀ k, u.ownBlock = some k → W.heap.size ≤ k) : DX U g W (V.setCell ⟨g, 0, none⟩ u) v E T2 now e c (fun k => U' k ∨ u.ownBlock = some k) u vN := by
  have k := Kp.set V g 0 u
  refine ⟨h.re.kp k (h.re.ne h.dp.fb (by decide)), ⟨blk_set h.dp.fb 0 u, hr.kp k (hr.ne h.dp.fb (by decide)), h.dp.rp.kp k (h.dp.rp.ne h.dp.fb (by decide)), .inl h.dp.ug, fun k e => .inr e, fun k e => .inl (h.dp.un k e)⟩, fun k hu => .inl (h.s1 k hu), fun q hu => ?_, fun q e => ⟨(h.s3 q e).1, fun hu => ?_⟩, h.kp.trans k⟩
  · rcases hu with hu | hu
    · exact (h.s2 q hu).imp id (fun a => ⟨a.1, Nat.lt_of_lt_of_le a.2 k.size⟩)
    · exact .inr ⟨hb q hu, Nat.lt_of_lt_of_le (hr.lt q hu) k.size⟩
  · rcases hu with hu | hu
    · exact (h.s3 q e).2 hu
    · exact re_rt h.re hr q e hu
theorem DX.setN {U : Nat → Prop} {g : Nat} {W V : World} {v : Value} {E : List Ev} {T : List Tv} {now now2 : List (Int × Nat)} {e : Int} {c : Bool} {U' : Nat → Prop} {vL vN : Value} (h : DX U g W V v E T now e c U' vL vN) {u : Value} (hr : Rp V u now2) (hb : ∀ k, u.ownBlock = some k → W.heap.size ≤ k) : DX U g W (V.setCell ⟨g, 1, none⟩ u) v E T now2 e c (fun k => U' k ∨ u.ownBlock = some k) vL u := by
  have k := Kp.set V g 1 u
  refine ⟨h.re.kp k (h.re.ne h.dp.fb (by decide)), ⟨blk_set h.dp.fb 1 u, h.dp.rt.kp k (h.dp.rt.ne h.dp.fb (by decide)), hr.kp k (hr.ne h.dp.fb (by decide)), .inl h.dp.ug, fun k e => .inl (h.dp.ul k e), fun k e => .inr e⟩, fun k hu => .inl (h.s1 k hu), fun q hu => ?_, fun q e => ⟨(h.s3 q e).1, fun hu => ?_⟩, h.kp.trans k⟩
  · rcases hu with hu | hu
    · exact (h.s2 q hu).imp id (fun a => ⟨a.1, Nat.lt_of_lt_of_le a.2 k.size⟩)
    · exact .inr ⟨hb q hu, Nat.lt_of_lt_of_le (hr.lt q hu) k.size⟩
  · rcases hu with hu | hu
    · exact (h.s3 q e).2 hu
    · exact re_rp h.re hr q e hu

end Go.Proofs.YtkglkhijngpgiaaGreat
