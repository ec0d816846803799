import Derived.Test.YtkigadnkclkopaaTd
set_option linter.unusedVariables false
set_option linter.unusedSimpArgs false
namespace Go.Proofs.Ytkigadnkclkopaa
open Go.RowKit

/-! The document's Events. -/
theorem Kp.low {S : Nat → Prop} {B : Nat} {w W W' : World} (h : Below B w W) (hk : Kp S W W') (hS : ∀ k, S k → B ≤ k) (hB : B ≤ W.heap.size) : Below B w W' :=
  ⟨hk.os.trans h.os, hk.tape.trans h.tape, hk.output.trans h.output, Nat.le_trans h.size hk.size, fun k hlt => (hk.block k (by omega) (fun hs => by have := hS k hs; omega)).trans (h.block k hlt)⟩
/-- A row of events of the call's own. -/
structure BI (W : World) (v : Value) (E : List Ev) (V : World) : Prop where
  bel : Below W.heap.size W V
  re : Re V v E
  vB : ∀ k, v.ownBlock = some k → W.heap.size ≤ k
theorem BI.push {W V V1 w3 : World} {v v' : Value} {E ds : List Ev} (h : BI W v E V) (hb : Below V.heap.size V V1) (hr : Re w3 v' (E ++ ds)) (hg : V1.grownBy w3 v.ownBlock) (hq : Nb V1 v v') : BI W v' (E ++ ds) w3 := by
  have hk3 := Kp.of_grown hg
  refine ⟨Kp.low (h.bel.trans (hb.mono h.bel.size)) hk3 (fun k e => h.vB k e.symm) (Nat.le_trans h.bel.size hb.size), hr, ?_⟩
  intro q e
  rcases hq with e1 | ⟨r, e1, hr1⟩
  · exact h.vB q (by rw [← e1]; exact e)
  · rw [e1] at e
    simp at e
    have := h.bel.size
    have := hb.size
    omega
theorem BI.below {W V V' : World} {v : Value} {E : List Ev} (h : BI W v E V) (hb : Below V.heap.size V V') : BI W v E V' := ⟨h.bel.trans (hb.mono h.bel.size), h.re.below hb, h.vB⟩
theorem evsL_take {c : List Nd} {j : Nat} {m : Nd} (h : c[j]? = some m) : evsL (c.take (j + 1)) = evsL (c.take j) ++ evs m := by
  rw [List.take_add_one, h, evsL_app]
  simp [evsL]
theorem evsL_le {c : List Nd} {j : Nat} : (evsL (c.take j)).length ≤ (evsL c).length := by
  have : evsL c = evsL (c.take j) ++ evsL (c.drop j) := by rw [← evsL_app, List.take_append_drop]
  rw [this, List.length_append]
  omega
abbrev NdB (k : Int) (d : Tv) (s : Value) : Obj := .cells #[.int .u8 k, .int .u8 d.k, .string d.t, .int .i64 d.a, .int .i64 d.l, .int .i64 d.c, .int .i64 d.f, s] 32
/-- Between two rounds of a tree's telling: the row, the node's own block, what stands. -/
structure AI (w0 W : World) (q : Nat) (ob : Obj) (v v' : Value) (E : List Ev) (V : World) : Prop where
  bi : BI w0 v' E V
  nb : V.heap[q]? = some ob
  kp : Kp (fun k => v.ownBlock = some k) W V
  nb2 : Nb W v v'
theorem AI.step {w0 W : World} {q : Nat} {k : Int} {d : Tv} {sv v v' v4 : Value} {E E4 : List Ev} {V w4 : World} (h : AI w0 W q (NdB k d sv) v v' E V) (hb : BI w0 v4 E4 w4) (hk : Kp (fun q => v'.ownBlock = some q) V w4) (hn : Nb V v' v4) : AI w0 W q (NdB k d sv) v v4 E4 w4 := by
  refine ⟨hb, hk.blk h.nb (fun e => h.bi.re.ne h.nb (by decide) _ e rfl), h.kp.step hk (fun j hj e => ?_), Nb.trans h.nb2 hn h.kp.size⟩
  rcases h.nb2 with e1 | ⟨q, e1, hq⟩
  · rw [← e1]; exact e
  · rw [e1] at e
    simp at e
    omega
theorem AI.step' {w0 W : World} {q : Nat} {k : Int} {d : Tv} {sv v v' v4 : Value} {E ds : List Ev} {V V1 w4 : World} (h : AI w0 W q (NdB k d sv) v v' E V) (hb : Below V.heap.size V V1) (hr : Re w4 v4 (E ++ ds)) (hg : V1.grownBy w4 v'.ownBlock) (hn : Nb V1 v' v4) : AI w0 W q (NdB k d sv) v v4 (E ++ ds) w4 :=
  h.step (h.bi.push hb hr hg hn) ((Kp.of_below hb).step (Kp.of_grown hg) (fun k _ e => e.symm)) (hn.imp id (fun ⟨k, e, hk⟩ => ⟨k, e, Nat.le_trans hb.size hk⟩))
end Go.Proofs.Ytkigadnkclkopaa
