import Derived.Test.YtkglkhijngpgiaaCf
set_option linter.unusedVariables false
set_option linter.unusedSimpArgs false
namespace Go.Proofs.Ytkglkhijngpgiaa
open Go.RowKit

theorem Al.fns {g : Nat} {D : Nat → Prop} {W : World} {xs : List Value} {r : List It} (h : Al (Rep g D W) xs r) : ∀ (j : Nat) (s : Value), xs[j]? = some s → ∃ fn fi ca, s = .func fn fi ca := by
  intro j s hj
  obtain ⟨x, _, hx⟩ := h.at hj
  exact hx.isFn
/-- A row as an argument. -/
structure Row (g : Nat) (D : Nat → Prop) (W : World) (ao : Option Addr) (xs : List Value) (r : List It) : Prop where
  lv : Lv W ao xs
  al : Al (Rep g D W) xs r
  da : ∀ a, ao = some a → D a.block
theorem Row.turn {g : Nat} {D : Nat → Prop} {W W' : World} {ao : Option Addr} {xs : List Value} {r : List It} (h : Row g D W ao xs r) (hW : ∀ k o, D k → W.heap[k]? = some o → W'.heap[k]? = some o) : Row g D W' ao xs r := by
  refine ⟨fun j s hj => ?_, h.al.mono (fun v x hx => hx.turn (fun _ h => h) hW), h.da⟩
  obtain ⟨h0, b, off, e, hc⟩ := h.lv j s hj
  refine ⟨h0, b, off, e, ?_⟩
  obtain ⟨o, ho⟩ : ∃ o, W.heap[b]? = some o := ⟨_, Array.getElem?_eq_getElem (World.block_lt_of_cell? _ _ hc)⟩
  exact (World.cell?_of_block (a := ⟨b, _, none⟩) ((hW b o (h.da _ e) ho).trans ho.symm)).trans hc

/-- expect: a row comes next. -/
theorem expect_ps {g : Nat} {D : Nat → Prop} {W : World} {n : Int} {K : List It} {E : List Ev} {vs vt : Value} (h : Ps g D W n K E vs vt) (ao : Option Addr) (xs : List Value) (m cap : Nat) (r : List It) (hm : xs.length = m) (hr : Row g D W ao xs r) (hx : xs.length ≤ 1000000) (hy : K.length ≤ 100000000) :
    Calls Try.prog 26 #[pt g, .slice ao m cap] W fun e w' => e = .returned (.int .i64 1) ∧ (∃ vs', Ps g D w' n (r ++ K) E vs' vt ∧ Nb W vs vs') ∧ Kp (fun k => k = g ∨ vs.ownBlock = some k) W w' := by
  subst hm
  obtain ⟨ys, h1, h2⟩ := h.st
  have hyl : ys.length ≤ 100000000 := by rw [h2.len, List.length_reverse]; exact hy
  refine (expect_any h.pb h1 ao xs cap hr.lv (fun a ha => ⟨fun e => h.dg (e ▸ hr.da a ha), fun e => h.ds _ e (hr.da a ha)⟩) hx hyl).mono ?_
  rintro e w' ⟨rfl, ⟨vs', a1, a2, a3⟩, a4⟩
  have hD : ∀ k, D k → ¬ (k = g ∨ vs.ownBlock = some k) := by
    rintro k hk (e | e)
    · exact h.dg (e ▸ hk)
    · exact h.ds k e hk
  have hW : ∀ k o, D k → W.heap[k]? = some o → w'.heap[k]? = some o := fun k o hk ho => a4.blk ho (hD k hk)
  refine ⟨rfl, ⟨vs', ⟨a1, ⟨_, a2, ?_⟩, h.ev.kp a4 ?_, h.dg, ?_, h.dt, fun k hk => Nat.lt_of_lt_of_le (h.dl k hk) a4.size⟩, a3⟩, a4⟩
  · rw [List.reverse_append]
    exact (h2.mono (fun v x hx => hx.turn (fun _ h => h) hW)).app ((hr.al.rev).mono (fun v x hx => hx.turn (fun _ h => h) hW))
  · rintro k hk (e | e)
    · exact h.ev.ne h.pb (by decide) k hk e
    · obtain ⟨b, cap', cur, hv, hc⟩ : ∃ b cap' cur, vs = .slice (some ⟨b, 0, none⟩) ys.length cap' ∧ W.heap[b]? = some (.cells cur 56 (0, 0)) := by
        rcases h1.2 with ⟨rfl, _⟩ | ⟨b, cap', cur, hv, _, h3, _⟩
        · cases e
        · exact ⟨b, cap', cur, hv, h3⟩
      rw [hv] at e
      simp only [Value.ownBlock, Option.some.injEq] at e
      exact h.ev.ne hc (by decide) k hk e.symm
  · intro k hk hd
    rcases a3 with e | ⟨q, e, hq⟩
    · exact h.ds k (by rw [← e]; exact hk) hd
    · rw [e] at hk
      simp at hk
      have := h.dl k hd
      omega
theorem expect_gone {g : Nat} {D : Nat → Prop} {W : World} {n : Int} {K : List It} {E : List Ev} {vs vt : Value} (h : Ps g D W n K E vs vt) (ao : Option Addr) (xs : List Value) (m cap : Nat) (r : List It) (hm : xs.length = m) (hr : Row g D W ao xs r) (hx : xs.length ≤ 1000000) (hy : K.length ≤ 100000000) :
    Calls Try.prog 26 #[pt g, .slice ao m cap] W fun e w' => e = .returned (.int .i64 1) ∧ Gone g D vs vt W w' n (r ++ K) E := by
  refine (expect_ps h ao xs m cap r hm hr hx hy).mono ?_
  rintro e w' ⟨rfl, ⟨vs', a1, a2⟩, a3⟩
  exact ⟨rfl, D, vs', vt, a1, a3.sub (fun k h => h.elim .inl (fun h => .inr (.inl h))), a2, Nb.refl _ _, fun _ h => h, fun _ h => .inl h⟩

/-- tell. -/
theorem tell_ps {g : Nat} {D : Nat → Prop} {W : World} {n : Int} {K : List It} {E : List Ev} {vs vt : Value} (h : Ps g D W n K E vs vt) (d : Ev) (hl : E.length ≤ 1000000000) :
    Calls Try.prog 24 #[pt g, d.v] W fun e w' => e = .returned (.tuple #[]) ∧ (∃ vt', Ps g D w' n K (E ++ [d]) vs vt' ∧ Nb W vt vt') ∧ Kp (fun k => k = g ∨ vt.ownBlock = some k) W w' := by
  refine (tell_any h.pb h.ev d hl).mono ?_
  rintro e w' ⟨rfl, ⟨vt', a1, a2, a3⟩, a4⟩
  obtain ⟨ys, h1, h2⟩ := h.st
  have hD : ∀ k, D k → ¬ (k = g ∨ vt.ownBlock = some k) := by
    rintro k hk (e | e)
    · exact h.dg (e ▸ hk)
    · exact h.dt k e hk
  have hW : ∀ k o, D k → W.heap[k]? = some o → w'.heap[k]? = some o := fun k o hk ho => a4.blk ho (hD k hk)
  refine ⟨rfl, ⟨vt', ⟨a1, ⟨ys, h1.kp a4 ?_, h2.mono (fun v x hx => hx.turn (fun _ h => h) hW)⟩, a2, h.dg, h.ds, ?_, fun k hk => Nat.lt_of_lt_of_le (h.dl k hk) a4.size⟩, a3⟩, a4⟩
  · rintro k hk (e | e)
    · exact h1.ne h.pb (by decide) k hk e
    · obtain ⟨b, cap', cur, hv, hc⟩ : ∃ b cap' cur, vt = .slice (some ⟨b, 0, none⟩) E.length cap' ∧ W.heap[b]? = some (.cells cur 37 (0, 0)) := by
        rcases h.ev.2 with ⟨rfl, _⟩ | ⟨b, cap', cur, hv, _, h3, _⟩
        · cases e
        · exact ⟨b, cap', cur, hv, h3⟩
      rw [hv] at e
      simp only [Value.ownBlock, Option.some.injEq] at e
      exact h1.ne hc (by decide) k hk e.symm
  · intro k hk hd
    rcases a3 with e | ⟨q, e, hq⟩
    · exact h.dt k (by rw [← e]; exact hk) hd
    · rw [e] at hk
      simp at hk
      have := h.dl k hd
      omega
/-- How many nodes are open is written. -/
theorem Ps.nodes {g : Nat} {D : Nat → Prop} {W : World} {n : Int} {K : List It} {E : List Ev} {vs vt : Value} (h : Ps g D W n K E vs vt) (m : Int) : Ps g D (W.setCell ⟨g, 2, none⟩ (.int .i64 m)) m K E vs vt := by
  obtain ⟨ys, h1, h2⟩ := h.st
  have hk := Kp.set W g 2 (.int .i64 m)
  refine ⟨blk_set h.pb 2 _, ⟨ys, h1.kp hk (h1.ne h.pb (by decide)), h2.mono (fun v x hx => hx.turn (fun _ h => h) (fun k o hd ho => hk.blk ho (fun e => h.dg (e ▸ hd))))⟩, h.ev.kp hk (h.ev.ne h.pb (by decide)), h.dg, h.ds, h.dt, fun k hd => Nat.lt_of_lt_of_le (h.dl k hd) hk.size⟩

end Go.Proofs.Ytkglkhijngpgiaa
