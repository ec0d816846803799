import Derived.Test.YtkigadnkclkopaaIa
set_option linter.unusedVariables false
set_option linter.unusedSimpArgs false
namespace Go.Proofs.Ytkigadnkclkopaa
open Go.RowKit Go.Shelf
attribute [local go_sem] Oper.semAt_some

/-! The iterator of a token. -/
set_option maxRecDepth 100000 in
set_option maxHeartbeats 2000000 in
theorem leaf_it (O : Nat → Prop) (w0 : World) (q : Nat) (t : Tv) (hO : O q) (hq : w0.heap[q]? = some (TkB t)) : ItB O w0 19 #[.pointer (some ⟨q, 0, none⟩)] [t] := by
  intro n lp J Jx W hB hA hAx hY h0
  refine callsIn_of_wp Try.func19 rfl trivial ?_ rfl
  simp only [Try.ntmps19, List.size_toArray, List.length_cons, List.length_nil, Nat.reduceAdd, Nat.reduceSub, Array.replicate_succ, Array.replicate_zero, List.push_toArray, List.append_toArray, List.nil_append, List.cons_append]
  have g0 : W.heap[q]? = some (TkB t) := (hB 0 W h0).blk hO hq
  have c0 : W.cell? ⟨q, 0, none⟩ = some (.int .u8 t.k) := blk_cell g0 (k := 0) rfl
  have c1 : W.cell? ⟨q, 1, none⟩ = some (.string t.t) := blk_cell g0 (k := 1) rfl
  have c2 : W.cell? ⟨q, 2, none⟩ = some (.int .i64 t.a) := blk_cell g0 (k := 2) rfl
  have c3 : W.cell? ⟨q, 3, none⟩ = some (.int .i64 t.l) := blk_cell g0 (k := 3) rfl
  have c4 : W.cell? ⟨q, 4, none⟩ = some (.int .i64 t.c) := blk_cell g0 (k := 4) rfl
  have c5 : W.cell? ⟨q, 5, none⟩ = some (.int .i64 t.f) := blk_cell g0 (k := 5) rfl
  obtain ⟨fn, tmps, assign, body, hy, hR⟩ := hY (n - 1) 0 t W rfl h0
  dsimp only [Tv.v] at hy
  clear g0
  gi_wp2
  refine ⟨(fun h => nomatch h), (roundIn_any hR).mono ?_⟩
  rintro e W3 ⟨hk, (⟨rfl, hJ⟩ | ⟨rfl, hJ⟩)⟩
  · gi_wp2
    go_end0
    exact ⟨⟨_, rfl⟩, .inl hJ⟩
  · gi_wp2
    go_end0
    exact ⟨⟨_, rfl⟩, .inr ⟨_, hJ⟩⟩
end Go.Proofs.Ytkigadnkclkopaa
