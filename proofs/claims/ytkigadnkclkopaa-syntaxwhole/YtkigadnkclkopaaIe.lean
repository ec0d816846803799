import Derived.Test.YtkigadnkclkopaaIa
set_option linter.unusedVariables false
set_option linter.unusedSimpArgs false
namespace Go.Proofs.Ytkigadnkclkopaa
open Go.RowKit Go.Shelf
attribute [local go_sem] Oper.semAt_some

/-- A loop over such an iterator, in a round of another. -/
theorem wpIn_itN {n l₀ : Nat} {r₀ : Loop} {g : Operand} {ps : Array Tmp} {assign body : Code} {Q : Exit → Act → World → Prop} {a : Act} {w : World} {gf : Nat} {lb : Array Value} (hl0 : w.heap[l₀]? = some (.loop r₀)) (hg : a.eval g = .func (.func gf) #[] lb) (eg : EntF gf) {O : Nat → Prop} {w0 : World} {ts : List Tv} (hit : ItB O w0 gf lb ts) (hps : ps.size = 1)
    (I : Nat → World → Prop) (Ix : Code → Nat → World → Prop) (hI : OwnFrom w.heap.size I) (hIx : ∀ c, OwnFrom w.heap.size (Ix c)) (hB : ∀ j W, I j W → St O w0 W) (h0 : I 0 w) (Ax : Nat → Act → World → Prop) (hAx : ∀ j a', OwnFrom w.heap.size (fun (_ : Unit) W => Ax j a' W))
    (hassign : ∀ (m l j : Nat) (t : Tv) (W : World) (K : Act → World → Prop), ts[j]? = some t → I j W → (∀ a' W', KF w.heap.size W W' → I j W' → Ax j a' W' → K a' W') →
      assign.wpIn (Fence.wide.inRound l) m Try.prog (Exit.then K (fun _ _ _ => False)) { tmps := (ps.zip #[t.v]).foldl (fun t (p, v) => t.setIfInBounds p v) a.tmps, defers := [] } W)
    (hbody : ∀ (m l j : Nat) (t : Tv) (a' : Act) (W : World), ts[j]? = some t → w.heap.size ≤ l → (∃ r, W.heap[l]? = some (.loop r)) → I j W → Ax j a' W → body.wpIn (Fence.wide.inRound l) m Try.prog (itPost w.heap.size I Ix (j + 1) W) a' W)
    (hdone : ∀ (W : World), I ts.length W → Q .normal a W)
    (hstop : ∀ (c : Code) (j : Nat) (W : World), Ix c j W → c.wpIn (Fence.wide.inRound l₀) n Try.prog Q a W) :
    (Code.rangeFunc g ps assign body).wpIn (Fence.wide.inRound l₀) n Try.prog Q a w := by
  refine wpIn_rangeFunc fun fn hfn => ?_
  obtain ⟨L, hL⟩ : ∃ L : LoopState → Option Code → Loop, ∀ st pe, L st pe = { state := st, pending := pe, fn, tmps := a.tmps, params := ps, assign, body, defers := r₀.defers } := ⟨_, fun _ _ => rfl⟩
  have hent := run_enterLoop_inner (P := Try.prog) (w := w) hl0 fn a.tmps ps assign body
  rw [← hL] at hent
  obtain ⟨V, hV⟩ : ∃ V, w.alloc (.loop (L .ready none)) = V := ⟨_, rfl⟩
  rw [hV] at hent
  have vr : V.heap[w.heap.size]? = some (.loop (L .ready none)) := by rw [← hV]; exact new_at _ _
  have vs : w.heap.size + 1 ≤ V.heap.size := by rw [← hV, World.size_alloc]; exact Nat.le_refl _
  have vi : I 0 V := by rw [← hV]; exact hI.alloc _ h0
  refine ⟨w.heap.size, _, V, { target := .fn (.func gf) lb, args := #[.func (.yield (w.heap.size)) #[] #[]] }, V, gf, #[.func (.yield (w.heap.size)) #[] #[]] ++ lb, V, hent, ?_, ?_, ?_, (fun h => nomatch h), ?_⟩
  · simp only [resolve, hg]; simp [go_sem]
  · intro f' hf'; trivial
  · simp [invoke, go_sem, eg]
  have own2 : ∀ {A B : World} {row : Option Nat}, A.grownBy B row → (∀ r, row = some r → V.heap.size ≤ r ∧ ∃ o : Obj, A.heap[r]? = some o ∧ o.isCells = false) → ∀ {k : Nat} {o : Obj}, k < V.heap.size → A.heap[k]? = some o → B.heap[k]? = some o := by
    intro A B row hg' hr k o hk hko
    exact (hg'.block k (blk_lt hko) (fun e => by have := (hr k e.symm).1; omega)).trans hko
  have low : ∀ {A : World} {row : Option Nat}, (∀ r, row = some r → V.heap.size ≤ r ∧ ∃ o : Obj, A.heap[r]? = some o ∧ o.isCells = false) → (∀ r, row = some r → w.heap.size ≤ r ∧ ∃ o : Obj, A.heap[r]? = some o ∧ o.isCells = false) :=
    fun hr r e => ⟨by have := (hr r e).1; omega, (hr r e).2⟩
  refine (hit (n - 1) (w.heap.size)
    (fun j W => I j W ∧ W.heap[w.heap.size]? = some (.loop (L .ready none)))
    (fun j W => ∃ c, Ix c j W ∧ W.heap[w.heap.size]? = some (.loop (L .done (some c))))
    V (fun j W h => hB j W h.1) ?_ ?_ ?_ ⟨vi, vr⟩).mono ?_
  · intro j A B row hs hgr hr
    exact ⟨hI j A B row hs.1 hgr (low hr), own2 hgr hr (by omega) hs.2⟩
  · intro j A B row hs hgr hr
    obtain ⟨c, h1, h2⟩ := hs
    exact ⟨c, hIx c j A B row h1 hgr (low hr), own2 hgr hr (by omega) h2⟩
  · rintro m j t W hj ⟨hi, hr⟩
    have hy := run_yield (P := Try.prog) (args := #[t.v]) hr (by rw [hL]; exact hps.symm)
    rw [hL] at hy
    refine ⟨fn, _, assign, body, hy, roundIn_of_wpIn hfn (hassign _ _ j t W _ hj hi ?_)⟩
    intro a' W' hk hi' hax
    have hr' := hk.same _ _ (by omega) hr
    have hlt := blk_lt hr'
    refine ⟨_, run_beginRound hr' (by rw [hL]), ?_⟩
    obtain ⟨W2, hW2⟩ : ∃ W2, W'.putObj (w.heap.size) (.loop { L .ready none with state := .busy }) = W2 := ⟨_, rfl⟩
    have r2 : W2.heap[w.heap.size]? = some (.loop { L .ready none with state := .busy }) := by rw [← hW2]; exact World.putObj_heap_same hlt
    have i2 : I j W2 := by rw [← hW2]; exact hI.putObj _ hi' (by omega) hr' rfl
    have x2 : Ax j a' W2 := by rw [← hW2]; exact (hAx j a').putObj (s := ()) _ hax (by omega) hr' rfl
    have k2 : KF V.heap.size W W2 := by rw [← hW2]; exact (hk.mono (by omega)).trans (KF.put _ _ (by omega))
    rw [hW2]
    refine wpIn_mono (hbody _ _ j t a' W2 hj (by omega) ⟨_, r2⟩ i2 x2) ?_
    have fin : ∀ (jump : Option Code) (W3 : World), KF w.heap.size W2 W3 →
        (Instr.endRound (w.heap.size) jump).run Try.prog W3 = .ok (.bool jump.isNone) (W3.putObj (w.heap.size) (.loop (L (if jump.isNone then .ready else .done) jump))) ∧
        W3.heap[w.heap.size]? = some (.loop { L .ready none with state := .busy }) ∧
        (W3.putObj (w.heap.size) (.loop (L (if jump.isNone then .ready else .done) jump))).heap[w.heap.size]? = some (.loop (L (if jump.isNone then .ready else .done) jump)) ∧
        KF V.heap.size W (W3.putObj (w.heap.size) (.loop (L (if jump.isNone then .ready else .done) jump))) := fun jump W3 hk3 => by
      have hl3 := hk3.same _ _ (by omega) r2
      have := run_endRound (P := Try.prog) jump hl3
      rw [hL] at this
      refine ⟨by rw [hL]; exact this, hl3, World.putObj_heap_same (blk_lt hl3), (k2.trans (hk3.mono (by omega))).trans (KF.put _ _ (by omega))⟩
    rintro e a3 W3 hp
    cases e with
    | normal =>
      obtain ⟨hk3, hi3⟩ := hp
      obtain ⟨hr, hl3, hl4, hk4⟩ := fin none W3 hk3
      exact ⟨_, _, hr, hk4, .inl ⟨rfl, hI.putObj _ hi3 (by omega) hl3 rfl, hl4⟩⟩
    | ret =>
      obtain ⟨hk3, hi3⟩ := hp
      obtain ⟨hr, hl3, hl4, hk4⟩ := fin (some .ret) W3 hk3
      exact ⟨_, _, hr, hk4, .inr ⟨rfl, .ret, (hIx _).putObj _ hi3 (by omega) hl3 rfl, hl4⟩⟩
    | exit id =>
      obtain ⟨hk3, hi3⟩ := hp
      obtain ⟨hr, hl3, hl4, hk4⟩ := fin (some (.exit id)) W3 hk3
      exact ⟨_, _, hr, hk4, .inr ⟨rfl, .exit id, (hIx _).putObj _ hi3 (by omega) hl3 rfl, hl4⟩⟩
    | goto t =>
      obtain ⟨hk3, hi3⟩ := hp
      obtain ⟨hr, hl3, hl4, hk4⟩ := fin (some (.goto t)) W3 hk3
      exact ⟨_, _, hr, hk4, .inr ⟨rfl, .goto t, (hIx _).putObj _ hi3 (by omega) hl3 rfl, hl4⟩⟩
    | panic ch => exact hp.elim
    | outgrown => exact hp.elim
  · rintro e W2 ⟨⟨v, rfl⟩, (⟨hi, hl⟩ | ⟨j, c, hi, hl⟩)⟩
    · have := run_endLoop (P := Try.prog) hl (by rw [hL]; simp)
      rw [hL] at this
      exact ⟨none, _, this, hdone _ (hI.putObj _ hi (by omega) hl rfl)⟩
    · have := run_endLoop (P := Try.prog) hl (by rw [hL]; simp)
      rw [hL] at this
      exact ⟨some c, _, this, hstop c j _ ((hIx c).putObj _ hi (by omega) hl rfl)⟩

end Go.Proofs.Ytkigadnkclkopaa
