import Derived.Test.YtkglkhijngpgiaaGreatCb
import Derived.RangeFuncNested
import Derived.RangeFuncBound
import Derived.RangeFuncCalls
import Derived.RangeFuncLeaves
import Derived.Shelf.Abstract
import Derived.Shelf.RegionOpen
import Derived.OwnWalkIn
import Derived.TacticsInMore
import Derived.LoopNIn
import Derived.LoopIn
set_option linter.unusedVariables false
set_option linter.unusedSimpArgs false
namespace Go.Proofs.YtkglkhijngpgiaaGreat
open Go.RowKit Go.Shelf
attribute [local go_sem] Oper.semAt_some

/-- An iterator whose rounds are told by their number, none of which ends the loop: it calls yield at 'it 0', 'it 1' .. in this order, N times, wherever G holds between the rounds. -/
def Goes (F : Fence) (n : Nat) (P : Program) (gf : Nat) (lb : Array Value) (it : Nat → Array Value) (N : Nat) (G : World → Prop) : Prop :=
  ∀ (l : Nat) (J : Nat → World → Prop) (W : World), (∀ j W, J j W → G W) → AbidesFrom W.heap.size J → (∀ j W1, j < N → J j W1 → YieldAt F (n - 1) P l (it j) W1 fun e W' => e = .returned (.bool true) ∧ J (j + 1) W') → J 0 W →
    CallsIn F n P gf (#[.func (.yield l) #[] #[]] ++ lb) W fun e W' => (∃ v, e = .returned v) ∧ J N W'

/-- A loop over it: what the body does in the round j it need do in the round j alone. -/
theorem wpIn_goes {F : Fence} {n : Nat} {P : Program} {g : Operand} {ps : Array Tmp} {assign body : Code} {Q : Exit → Act → World → Prop} {a : Act} {w : World} (hro : F.round = none) (h1 : 1 ≤ n) {gf : Nat} {lb : Array Value} (hg : a.eval g = .func (.func gf) #[] lb) (hF : F.fn gf)
    (eg : ∀ args w, (callFunc gf args).run P w = .ok (.enter gf args) w) {it : Nat → Array Value} {N : Nat} {G : World → Prop} (hit : Goes F (n - 1) P gf lb it N G) (hps : ∀ j, (it j).size = ps.size)
    (I : Nat → World → Prop) (hI : OwnFrom w.heap.size I) (hG : ∀ j W, I j W → G W) (h0 : I 0 w) (Ax : Nat → Act → World → Prop) (hAx : ∀ j a', OwnFrom w.heap.size (fun (_ : Unit) W => Ax j a' W))
    (hassign : ∀ (l j : Nat) (W : World) (K : Act → World → Prop), j < N → I j W → (∀ a' W', KeepsFrom w.heap.size W W' → I j W' → Ax j a' W' → K a' W') →
      assign.wpIn (F.inRound l) (n - 1 - 1) P (Exit.then K (fun _ _ _ => False)) { tmps := (ps.zip (it j)).foldl (fun t (p, v) => t.setIfInBounds p v) a.tmps, defers := [] } W)
    (hbody : ∀ (l j : Nat) (a' : Act) (W : World), j < N → I j W → Ax j a' W → body.wpIn (F.inRound l) (n - 1 - 1) P (fun e _ W' => e = .normal ∧ KeepsFrom w.heap.size W W' ∧ I (j + 1) W') a' W)
    (hdone : ∀ (D : Nat) (W : World), w.heap.size ≤ D → I N W → W.heap[D]? = some (.deferred (some [])) → Q .normal { a with defers := { target := .collected D, args := #[] } :: a.defers } W) :
    (Code.rangeFunc g ps assign body).wpIn F n P Q a w := by
  refine wpIn_rangeFunc fun fn hfn => ?_
  rw [hro]
  obtain ⟨L, hL⟩ : ∃ L : LoopState → Loop, ∀ st, L st = { state := st, pending := none, fn, tmps := a.tmps, params := ps, assign, body, defers := w.heap.size } := ⟨_, fun _ => rfl⟩
  -- the two blocks of the loop: s for what its rounds defer, s + 1 for its record
  have hent := run_enterLoop_outer (P := P) (w := w) fn a.tmps ps assign body
  rw [← hL] at hent
  obtain ⟨V, hV⟩ : ∃ V, (w.alloc (.deferred (some []))).alloc (.loop (L .ready)) = V := ⟨_, rfl⟩
  rw [hV] at hent
  have e1 : (w.alloc (.deferred (some []))).heap.size = w.heap.size + 1 := World.size_alloc _ _
  have vr : V.heap[w.heap.size + 1]? = some (.loop (L .ready)) := by rw [← hV, ← e1]; exact new_at _ _
  have vd : V.heap[w.heap.size]? = some (.deferred (some [])) := by rw [← hV]; exact alloc_at' (new_at _ _) _
  have vs : w.heap.size + 2 ≤ V.heap.size := by rw [← hV, World.size_alloc, e1]; exact Nat.le_refl _
  have vi : I 0 V := by rw [← hV]; exact hI.alloc _ (hI.alloc _ h0)
  refine ⟨w.heap.size + 1, _, V, { target := .fn (.func gf) lb, args := #[.func (.yield (w.heap.size + 1)) #[] #[]] }, V, gf, #[.func (.yield (w.heap.size + 1)) #[] #[]] ++ lb, V, hent, ?_, ?_, ?_, fun _ => h1, ?_⟩
  · simp only [resolve, hg]; simp [go_sem]
  · intro f' hf'; simp [Target.leads] at hf'; subst hf'; exact hF
  · simp [invoke, go_sem, eg]
  -- between two rounds: the invariant, and the two blocks as they lay
  refine (hit (w.heap.size + 1) (fun j W => I j W ∧ W.heap[w.heap.size + 1]? = some (.loop (L .ready)) ∧ W.heap[w.heap.size]? = some (.deferred (some []))) V (fun j W h => hG j W h.1) ?_ ?_ ⟨vi, vr, vd⟩).mono ?_
  · intro j A B row hs hgr hr
    refine ⟨hI j A B row hs.1 hgr fun r e => ?_, (grownBy_keeps hgr (fun r e => (hr r e).2) hs.2.1 rfl).trans hs.2.1, (grownBy_keeps hgr (fun r e => (hr r e).2) hs.2.2 rfl).trans hs.2.2⟩
    obtain ⟨hb, o, ho, hw⟩ := hr r e
    exact ⟨by omega, o, ho, Obj.not_cells_of_walk hw⟩
  · rintro j W hj ⟨hi, hr, hd⟩
    have hy := run_yield (P := P) (args := it j) hr (by rw [hL]; exact hps j)
    rw [hL] at hy
    refine ⟨fn, _, assign, body, hy, roundIn_of_wpIn hfn (hassign _ j W _ hj hi ?_)⟩
    intro a' W' hk hi' hax
    have hr' := hk.same _ _ (by omega) hr rfl
    have hd' := hk.same _ _ (Nat.le_refl _) hd rfl
    have hlt := blk_lt hr'
    refine ⟨_, run_beginRound hr' (by rw [hL]), ?_⟩
    obtain ⟨W2, hW2⟩ : ∃ W2, W'.putObj (w.heap.size + 1) (.loop { L .ready with state := .busy }) = W2 := ⟨_, rfl⟩
    have r2 : W2.heap[w.heap.size + 1]? = some (.loop { L .ready with state := .busy }) := by rw [← hW2]; exact World.putObj_heap_same hlt
    have d2 : W2.heap[w.heap.size]? = some (.deferred (some [])) := by rw [← hW2]; exact (World.putObj_heap_other (by omega)).trans hd'
    have i2 : I j W2 := by rw [← hW2]; exact hI.putObj _ hi' (by omega) hr' rfl
    have x2 : Ax j a' W2 := by rw [← hW2]; exact (hAx j a').putObj (s := ()) _ hax (by omega) hr' rfl
    rw [hW2]
    refine wpIn_mono (hbody _ j a' W2 hj i2 x2) ?_
    rintro e a3 W3 ⟨rfl, hk3, i3⟩
    have r3 := hk3.same _ _ (by omega) r2 rfl
    have d3 := hk3.same _ _ (Nat.le_refl _) d2 rfl
    have hend := run_endRound (P := P) none r3
    rw [hL] at hend
    refine ⟨_, _, hend, rfl, hI.putObj _ i3 (by omega) r3 rfl, ?_, (World.putObj_heap_other (by omega)).trans d3⟩
    rw [World.putObj_heap_same (blk_lt r3), hL]
    rfl
  · rintro e W ⟨⟨v, rfl⟩, hi, hr, hd⟩
    have hend := run_endLoop (P := P) hr (by rw [hL]; simp)
    rw [hL] at hend
    exact ⟨none, _, hend, hdone _ _ (Nat.le_refl _) (hI.putObj _ hi (by omega) hr rfl) ((World.putObj_heap_other (by omega)).trans hd)⟩
end Go.Proofs.YtkglkhijngpgiaaGreat
