import Derived.Test.YtkigadnkclkopaaGreatQ4
import Derived.Test.YtkigadnkclkopaaGreatGa
import Derived.Maps.AppendAt
import Derived.Laws.AppendOwnNone
set_option linter.unusedVariables false
set_option linter.unusedSimpArgs false
namespace Go.Proofs.YtkigadnkclkopaaGreat
open Go.RowKit

/-- Between two rounds. -/
structure PAI (w : World) (g : Nat) (v : Value) (E : List Ev) (st : Pst) (S : Nat → Prop) (W : World) : Prop where
  bel : Below w.heap.size w W
  pq : Pq S W g st
  gd : Good st
  sB : ∀ k, S k → w.heap.size ≤ k ∧ k < W.heap.size
  re : Re W v E
  vB : ∀ k, v.ownBlock = some k → w.heap.size ≤ k ∧ ¬ S k
theorem PAI.below {w : World} {g : Nat} {v : Value} {E : List Ev} {st : Pst} {S : Nat → Prop} {W W' : World} (h : PAI w g v E st S W) (hb : Below W.heap.size W W') : PAI w g v E st S W' :=
  ⟨h.bel.trans (hb.mono h.bel.size), h.pq.below hb, h.gd, fun k hk => ⟨(h.sB k hk).1, Nat.lt_of_lt_of_le (h.sB k hk).2 hb.size⟩, h.re.below hb, h.vB⟩
/-- Behind a call. -/
structure PAJ (w : World) (g : Nat) (v x : Value) (E ev : List Ev) (st : Pst) (W : World) : Prop where
  rv : Re W v E
  rx : Re W x ev
  fin : ∀ v' w', Re w' v' (E ++ ev) → Kp (fun k => v.ownBlock = some k) W w' → Nb W v v' → ∃ S, PAI w g v' (E ++ ev) st S w'
  ex : ∃ S, PAI w g v E st S W
theorem PAI.call {w : World} {g : Nat} {v : Value} {E : List Ev} {st : Pst} {S : Nat → Prop} {W W' : World} (h : PAI w g v E st S W) {x : Value} {ev : List Ev} {st' : Pst} (hp : Pa S g W W' x ev st') (hg : Good st') : PAJ w g v x E ev st' W' := by
  obtain ⟨S', p1, p2, p3, p4⟩ := hp.ex
  have hb : Below w.heap.size w W' := kp_low h.bel hp.kp (fun k hk => (h.sB k hk).1) h.bel.size
  have hs' : ∀ k, S' k → w.heap.size ≤ k ∧ k < W'.heap.size := by
    intro k hk
    rcases p3 k hk with a | a
    · exact ⟨(h.sB k a).1, Nat.lt_of_lt_of_le (h.sB k a).2 hp.kp.size⟩
    · exact ⟨Nat.le_trans h.bel.size a.1, a.2⟩
  have hv : Re W' v E := h.re.kp hp.kp (fun k e => (h.vB k e).2)
  have hvS : ∀ k, v.ownBlock = some k → w.heap.size ≤ k ∧ ¬ S' k := by
    intro k e
    refine ⟨(h.vB k e).1, fun hs => ?_⟩
    rcases p3 k hs with a | a
    · exact (h.vB k e).2 a
    · have := h.re.lt k e; omega
  refine ⟨hv, hp.re, fun v' w' hr hk hn => ⟨S', ?_⟩, S', hb, p1, hg, hs', hv, hvS⟩
  refine ⟨kp_low hb hk (fun k e => (h.vB k e).1) hb.size, p1.kp hk (fun k hs e => (hvS k e).2 hs), hg, fun k hs => ⟨(hs' k hs).1, Nat.lt_of_lt_of_le (hs' k hs).2 hk.size⟩, hr, ?_⟩
  intro k e
  rcases hn with e1 | ⟨q, e1, hq⟩
  · exact hvS k (by rw [← e1]; exact e)
  · rw [e1] at e
    simp at e
    subst e
    exact ⟨Nat.le_trans hb.size hq, fun hs => by have := (hs' _ hs).2; omega⟩
theorem Lt.cell6 {W : World} {ao : Option Addr} {l : List Tv} (h : Lt W ao l) {j : Nat} {d : Tv} (hj : l[j]? = some d) : ∃ b off, ao = some ⟨b, off, none⟩ ∧ W.cell? ⟨b, off + j * 6, none⟩ = some (.int .u8 d.k) ∧ W.cell? ⟨b, off + j * 6 + 1, none⟩ = some (.string d.t) ∧ W.cell? ⟨b, off + j * 6 + 2, none⟩ = some (.int .i64 d.a) ∧ W.cell? ⟨b, off + j * 6 + 3, none⟩ = some (.int .i64 d.l) ∧ W.cell? ⟨b, off + j * 6 + 4, none⟩ = some (.int .i64 d.c) ∧ W.cell? ⟨b, off + j * 6 + 5, none⟩ = some (.int .i64 d.f) := h j d hj

/-- A row behind a row. -/
theorem app_evs {W : World} {ops : Array Oper} {rest : List Oper} {o : Oper} {a : Act} {Q : Exit → Act → World → Prop} (hgd : o.guard = none) (s x : Operand)
    (ho : o.op = .call { callee := .builtin .append, args := #[s, x], argTypes := #[41, 41] }) (v vx : Value) (l ds : List Ev) (hs : a.eval s = v) (hr : Re W v l)
    (hx : a.eval x = vx) (hrx : Re W vx ds) (hl : l.length + ds.length ≤ 1000000000000)
    (h : ∀ v' w', Re w' v' (l ++ ds) → Kp (fun k => v.ownBlock = some k) W w' → Nb W v v' → wpList Tryz.prog ops Q rest (a.put o.dst v') w') : wpList Tryz.prog ops Q (o :: rest) a W := by
  have hc := fun g (hg : vx.ownBlock = some g) => World.ownsRow.cells hrx hg
  obtain ⟨i0, hi, hz0, hz1, hz2⟩ := info_parts Tryz.info48
  rcases hrx.2 with ⟨rfl, h0⟩ | ⟨g, cap, cur, rfl, _⟩
  · obtain rfl : ds = [] := List.eq_nil_of_length_eq_zero h0
    refine wpList_append_own_none (P := Tryz.prog) (w := W) hgd s x 41 ho 0 48 i0 8 Tryz.underlying41 hi v _ _ hs hr hx ?_
    exact h v W (by rw [List.append_nil]; exact hr) (Kp.refl _ _) (.inl rfl)
  · refine wpList_append_own_at (P := Tryz.prog) (w := W) hgd s x 41 ho 0 48 i0 _ 8 64 Tryz.underlying41 hi hz0 hz1 hz2 rfl (by decide) v _ _ hs hr ⟨g, 0, none⟩ ds.length cap (ecs ds) hx (ecs_len ds) (hc g rfl) (ecs_one _) (by unfold maxLen; omega) (by omega) (Nat.zero_le _) ?_
    intro v' w' h1 h2 _ h4
    refine h v' w' ?_ ((Kp.of_grown h2).sub (fun k e => e.symm)) ?_
    · unfold Re
      rw [List.length_append, ecs_app]
      exact h1
    · rcases h4 with h4 | h4
      · exact .inl h4
      · exact .inr ⟨_, h4, Nat.le_refl _⟩

end Go.Proofs.YtkigadnkclkopaaGreat
