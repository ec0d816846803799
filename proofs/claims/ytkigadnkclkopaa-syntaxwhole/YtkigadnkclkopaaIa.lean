import Derived.Test.YtkigadnkclkopaaLa
import Derived.RangeFuncNested
import Derived.RangeFuncBound
import Derived.RangeFuncCalls
import Derived.RangeFuncLeaves
import Derived.Shelf.Abstract
import Derived.Shelf.RegionOpen
import Derived.OwnWalkIn
import Derived.TacticsInMore
import Derived.LoopNIn
import Derived.LoopIn
set_option linter.unusedVariables false
set_option linter.unusedSimpArgs false
namespace Go.Proofs.Ytkigadnkclkopaa
open Go.RowKit Go.Shelf
attribute [local go_sem] Oper.semAt_some

/-! Iterators whose rounds are told by their number; a round may end the loop. -/
/-- What was laid since B stands. -/
structure KF (B : Nat) (W W' : World) : Prop where
  size : W.heap.size ≤ W'.heap.size
  same : ∀ (k : Nat) (o : Obj), B ≤ k → W.heap[k]? = some o → W'.heap[k]? = some o
theorem KF.refl (B : Nat) (W : World) : KF B W W := ⟨Nat.le_refl _, fun _ _ _ h => h⟩
theorem KF.trans {B : Nat} {X Y Z : World} (h : KF B X Y) (k : KF B Y Z) : KF B X Z := ⟨Nat.le_trans h.size k.size, fun i o hB hi => k.same i o hB (h.same i o hB hi)⟩
theorem KF.mono {B B' : Nat} {W W' : World} (h : KF B W W') (hB : B ≤ B') : KF B' W W' := ⟨h.size, fun k o hk ho => h.same k o (Nat.le_trans hB hk) ho⟩
theorem KF.of_below {B : Nat} {W W' : World} (h : Below W.heap.size W W') : KF B W W' := ⟨h.size, fun k o _ hk => blk_below hk h⟩
theorem KF.of_kp {S : Nat → Prop} {B : Nat} {W W' : World} (h : Kp S W W') (hS : ∀ k, S k → k < B) : KF B W W' := ⟨h.size, fun k o hB hk => h.blk hk (fun e => by have := hS k e; omega)⟩
theorem KF.put {B l : Nat} (W : World) (o : Obj) (hl : l < B) : KF B W (W.putObj l o) :=
  ⟨(grownBy_putObj' W l o).size, fun k o' hB hk => ((grownBy_putObj' W l o).block k (blk_lt hk) (by simp; omega)).trans hk⟩
theorem roundIn_any {n m : Nat} {P : Program} {l : Nat} {f : FuncId} {tmps : Array Value} {assign body : Code} {w : World} {R : Ending → World → Prop} (h : RoundIn Fence.wide n P l f tmps assign body w R) : RoundIn Fence.wide m P l f tmps assign body w R := ⟨h.1, fun c cs _ => h.2 c cs (fun d hd => by cases hd)⟩
/-- Of the blocks O, those that lay in w0 stand. -/
def St (O : Nat → Prop) (w0 V : World) : Prop := ∀ k, O k → k < w0.heap.size → V.heap[k]? = w0.heap[k]?
theorem St.blk {O : Nat → Prop} {w0 V : World} (h : St O w0 V) {k : Nat} {o : Obj} (hk : O k) (ho : w0.heap[k]? = some o) : V.heap[k]? = some o := (h k hk (blk_lt ho)).trans ho
theorem St.of_below {O : Nat → Prop} {w0 V : World} (h : Below w0.heap.size w0 V) : St O w0 V := fun k _ hk => h.block k hk
/-- An iterator that tells ts, one by one, wherever what lay in w0 stands; a round may say that it is enough. -/
def ItB (O : Nat → Prop) (w0 : World) (gf : Nat) (lb : Array Value) (ts : List Tv) : Prop :=
  ∀ (n l : Nat) (J Jx : Nat → World → Prop) (W : World), (∀ j V, J j V → St O w0 V) → OwnFrom W.heap.size J → OwnFrom W.heap.size Jx →
    (∀ (m j : Nat) (t : Tv) (W1 : World), ts[j]? = some t → J j W1 → YieldAt Fence.wide m Try.prog l #[t.v] W1 fun e W' => KF W.heap.size W1 W' ∧ ((e = .returned (.bool true) ∧ J (j + 1) W') ∨ (e = .returned (.bool false) ∧ Jx (j + 1) W'))) →
    J 0 W → CallsIn Fence.wide n Try.prog gf (#[.func (.yield l) #[] #[]] ++ lb) W fun e W' => (∃ v, e = .returned v) ∧ (J ts.length W' ∨ ∃ j, Jx j W')
theorem ItB.sub {O O' : Nat → Prop} {w0 : World} {f : Nat} {lb : Array Value} {ts : List Tv} (h : ItB O w0 f lb ts) (hO : ∀ k, O k → k < w0.heap.size → O' k) : ItB O' w0 f lb ts :=
  fun n l J Jx W hB => h n l J Jx W fun j V hJ k hk hlt => hB j V hJ k (hO k hk hlt) hlt
theorem ItB.move {O : Nat → Prop} {w0 w1 : World} {f : Nat} {lb : Array Value} {ts : List Tv} (h : ItB O w0 f lb ts) (hs : St O w0 w1) : ItB O w1 f lb ts :=
  fun n l J Jx W hB => h n l J Jx W fun j V hJ k hk hlt => by
    have e := hs k hk hlt
    have hl1 : k < w1.heap.size := by
      rcases Nat.lt_or_ge k w1.heap.size with h | h
      · exact h
      · rw [Array.getElem?_eq_none h, Array.getElem?_eq_getElem hlt] at e
        cases e
    exact (hB j V hJ k hk hl1).trans e
abbrev EntF (f : Nat) : Prop := ∀ (args : Array Value) (w : World), (callFunc f args).run Try.prog w = .ok (.enter f args) w
/-- How a round's body may be left. -/
def itPost (B : Nat) (I : Nat → World → Prop) (Ix : Code → Nat → World → Prop) (j : Nat) (W : World) : Exit → Act → World → Prop
  | .normal, _, W' => KF B W W' ∧ I j W'
  | .ret, _, W' => KF B W W' ∧ Ix .ret j W'
  | .exit id, _, W' => KF B W W' ∧ Ix (.exit id) j W'
  | .goto t, _, W' => KF B W W' ∧ Ix (.goto t) j W'
  | .panic _, _, _ => False
  | .outgrown, _, _ => False
/-- A loop over such an iterator, not in a round. -/
theorem wpIn_it {n : Nat} {g : Operand} {ps : Array Tmp} {assign body : Code} {Q : Exit → Act → World → Prop} {a : Act} {w : World} {gf : Nat} {lb : Array Value} (hg : a.eval g = .func (.func gf) #[] lb) (eg : EntF gf) {O : Nat → Prop} {w0 : World} {ts : List Tv} (hit : ItB O w0 gf lb ts) (hps : ps.size = 1)
    (I : Nat → World → Prop) (Ix : Code → Nat → World → Prop) (hI : OwnFrom w.heap.size I) (hIx : ∀ c, OwnFrom w.heap.size (Ix c)) (hB : ∀ j W, I j W → St O w0 W) (h0 : I 0 w) (Ax : Nat → Act → World → Prop) (hAx : ∀ j a', OwnFrom w.heap.size (fun (_ : Unit) W => Ax j a' W))
    (hassign : ∀ (m l j : Nat) (t : Tv) (W : World) (K : Act → World → Prop), ts[j]? = some t → I j W → (∀ a' W', KF w.heap.size W W' → I j W' → Ax j a' W' → K a' W') →
      assign.wpIn (Fence.wide.inRound l) m Try.prog (Exit.then K (fun _ _ _ => False)) { tmps := (ps.zip #[t.v]).foldl (fun t (p, v) => t.setIfInBounds p v) a.tmps, defers := [] } W)
    (hbody : ∀ (m l j : Nat) (t : Tv) (a' : Act) (W : World), ts[j]? = some t → w.heap.size ≤ l → (∃ r, W.heap[l]? = some (.loop r)) → I j W → Ax j a' W → body.wpIn (Fence.wide.inRound l) m Try.prog (itPost w.heap.size I Ix (j + 1) W) a' W)
    (hdone : ∀ (D : Nat) (W : World), w.heap.size ≤ D → I ts.length W → W.heap[D]? = some (.deferred (some [])) → Q .normal { a with defers := { target := .collected D, args := #[] } :: a.defers } W)
    (hstop : ∀ (D : Nat) (c : Code) (j : Nat) (W : World), w.heap.size ≤ D → Ix c j W → W.heap[D]? = some (.deferred (some [])) → c.wpIn Fence.wide n Try.prog Q { a with defers := { target := .collected D, args := #[] } :: a.defers } W) :
    (Code.rangeFunc g ps assign body).wpIn Fence.wide n Try.prog Q a w := by
  refine wpIn_rangeFunc fun fn hfn => ?_
  obtain ⟨L, hL⟩ : ∃ L : LoopState → Option Code → Loop, ∀ st pe, L st pe = { state := st, pending := pe, fn, tmps := a.tmps, params := ps, assign, body, defers := w.heap.size } := ⟨_, fun _ _ => rfl⟩
  have hent := run_enterLoop_outer (P := Try.prog) (w := w) fn a.tmps ps assign body
  rw [← hL] at hent
  obtain ⟨V, hV⟩ : ∃ V, (w.alloc (.deferred (some []))).alloc (.loop (L .ready none)) = V := ⟨_, rfl⟩
  rw [hV] at hent
  have e1 : (w.alloc (.deferred (some []))).heap.size = w.heap.size + 1 := World.size_alloc _ _
  have vr : V.heap[w.heap.size + 1]? = some (.loop (L .ready none)) := by rw [← hV, ← e1]; exact new_at _ _
  have vd : V.heap[w.heap.size]? = some (.deferred (some [])) := by rw [← hV]; exact alloc_at' (new_at _ _) _
  have vs : w.heap.size + 2 ≤ V.heap.size := by rw [← hV, World.size_alloc, e1]; exact Nat.le_refl _
  have vi : I 0 V := by rw [← hV]; exact hI.alloc _ (hI.alloc _ h0)
  refine ⟨w.heap.size + 1, _, V, { target := .fn (.func gf) lb, args := #[.func (.yield (w.heap.size + 1)) #[] #[]] }, V, gf, #[.func (.yield (w.heap.size + 1)) #[] #[]] ++ lb, V, hent, ?_, ?_, ?_, (fun h => nomatch h), ?_⟩
  · simp only [resolve, hg]; simp [go_sem]
  · intro f' hf'; trivial
  · simp [invoke, go_sem, eg]
  have own2 : ∀ {A B : World} {row : Option Nat}, A.grownBy B row → (∀ r, row = some r → V.heap.size ≤ r ∧ ∃ o : Obj, A.heap[r]? = some o ∧ o.isCells = false) → ∀ {k : Nat} {o : Obj}, k < V.heap.size → A.heap[k]? = some o → B.heap[k]? = some o := by
    intro A B row hg' hr k o hk hko
    exact (hg'.block k (blk_lt hko) (fun e => by have := (hr k e.symm).1; omega)).trans hko
  have low : ∀ {A : World} {row : Option Nat}, (∀ r, row = some r → V.heap.size ≤ r ∧ ∃ o : Obj, A.heap[r]? = some o ∧ o.isCells = false) → (∀ r, row = some r → w.heap.size ≤ r ∧ ∃ o : Obj, A.heap[r]? = some o ∧ o.isCells = false) :=
    fun hr r e => ⟨by have := (hr r e).1; omega, (hr r e).2⟩
  refine (hit (n - 1) (w.heap.size + 1)
    (fun j W => I j W ∧ W.heap[w.heap.size + 1]? = some (.loop (L .ready none)) ∧ W.heap[w.heap.size]? = some (.deferred (some [])))
    (fun j W => ∃ c, Ix c j W ∧ W.heap[w.heap.size + 1]? = some (.loop (L .done (some c))) ∧ W.heap[w.heap.size]? = some (.deferred (some [])))
    V (fun j W h => hB j W h.1) ?_ ?_ ?_ ⟨vi, vr, vd⟩).mono ?_
  · intro j A B row hs hgr hr
    exact ⟨hI j A B row hs.1 hgr (low hr), own2 hgr hr (by omega) hs.2.1, own2 hgr hr (by omega) hs.2.2⟩
  · intro j A B row hs hgr hr
    obtain ⟨c, h1, h2, h3⟩ := hs
    exact ⟨c, hIx c j A B row h1 hgr (low hr), own2 hgr hr (by omega) h2, own2 hgr hr (by omega) h3⟩
  · rintro m j t W hj ⟨hi, hr, hd⟩
    have hy := run_yield (P := Try.prog) (args := #[t.v]) hr (by rw [hL]; exact hps.symm)
    rw [hL] at hy
    refine ⟨fn, _, assign, body, hy, roundIn_of_wpIn hfn (hassign _ _ j t W _ hj hi ?_)⟩
    intro a' W' hk hi' hax
    have hr' := hk.same _ _ (by omega) hr
    have hd' := hk.same _ _ (Nat.le_refl _) hd
    have hlt := blk_lt hr'
    refine ⟨_, run_beginRound hr' (by rw [hL]), ?_⟩
    obtain ⟨W2, hW2⟩ : ∃ W2, W'.putObj (w.heap.size + 1) (.loop { L .ready none with state := .busy }) = W2 := ⟨_, rfl⟩
    have r2 : W2.heap[w.heap.size + 1]? = some (.loop { L .ready none with state := .busy }) := by rw [← hW2]; exact World.putObj_heap_same hlt
    have d2 : W2.heap[w.heap.size]? = some (.deferred (some [])) := by rw [← hW2]; exact (World.putObj_heap_other (by omega)).trans hd'
    have i2 : I j W2 := by rw [← hW2]; exact hI.putObj _ hi' (by omega) hr' rfl
    have x2 : Ax j a' W2 := by rw [← hW2]; exact (hAx j a').putObj (s := ()) _ hax (by omega) hr' rfl
    have k2 : KF V.heap.size W W2 := by rw [← hW2]; exact (hk.mono (by omega)).trans (KF.put _ _ (by omega))
    rw [hW2]
    refine wpIn_mono (hbody _ _ j t a' W2 hj (by omega) ⟨_, r2⟩ i2 x2) ?_
    have fin : ∀ (jump : Option Code) (W3 : World), KF w.heap.size W2 W3 →
        (Instr.endRound (w.heap.size + 1) jump).run Try.prog W3 = .ok (.bool jump.isNone) (W3.putObj (w.heap.size + 1) (.loop (L (if jump.isNone then .ready else .done) jump))) ∧
        W3.heap[w.heap.size + 1]? = some (.loop { L .ready none with state := .busy }) ∧
        (W3.putObj (w.heap.size + 1) (.loop (L (if jump.isNone then .ready else .done) jump))).heap[w.heap.size + 1]? = some (.loop (L (if jump.isNone then .ready else .done) jump)) ∧
        (W3.putObj (w.heap.size + 1) (.loop (L (if jump.isNone then .ready else .done) jump))).heap[w.heap.size]? = some (.deferred (some [])) ∧ KF V.heap.size W (W3.putObj (w.heap.size + 1) (.loop (L (if jump.isNone then .ready else .done) jump))) := fun jump W3 hk3 => by
      have hl3 := hk3.same _ _ (by omega) r2
      have hd3 := hk3.same _ _ (Nat.le_refl _) d2
      have := run_endRound (P := Try.prog) jump hl3
      rw [hL] at this
      refine ⟨by rw [hL]; exact this, hl3, World.putObj_heap_same (blk_lt hl3), (World.putObj_heap_other (by omega)).trans hd3, (k2.trans (hk3.mono (by omega))).trans (KF.put _ _ (by omega))⟩
    rintro e a3 W3 hp
    cases e with
    | normal =>
      obtain ⟨hk3, hi3⟩ := hp
      obtain ⟨hr, hl3, hl4, hd4, hk4⟩ := fin none W3 hk3
      exact ⟨_, _, hr, hk4, .inl ⟨rfl, hI.putObj _ hi3 (by omega) hl3 rfl, hl4, hd4⟩⟩
    | ret =>
      obtain ⟨hk3, hi3⟩ := hp
      obtain ⟨hr, hl3, hl4, hd4, hk4⟩ := fin (some .ret) W3 hk3
      exact ⟨_, _, hr, hk4, .inr ⟨rfl, .ret, (hIx _).putObj _ hi3 (by omega) hl3 rfl, hl4, hd4⟩⟩
    | exit id =>
      obtain ⟨hk3, hi3⟩ := hp
      obtain ⟨hr, hl3, hl4, hd4, hk4⟩ := fin (some (.exit id)) W3 hk3
      exact ⟨_, _, hr, hk4, .inr ⟨rfl, .exit id, (hIx _).putObj _ hi3 (by omega) hl3 rfl, hl4, hd4⟩⟩
    | goto t =>
      obtain ⟨hk3, hi3⟩ := hp
      obtain ⟨hr, hl3, hl4, hd4, hk4⟩ := fin (some (.goto t)) W3 hk3
      exact ⟨_, _, hr, hk4, .inr ⟨rfl, .goto t, (hIx _).putObj _ hi3 (by omega) hl3 rfl, hl4, hd4⟩⟩
    | panic ch => exact hp.elim
    | outgrown => exact hp.elim
  · rintro e W2 ⟨⟨v, rfl⟩, (⟨hi, hl, hd⟩ | ⟨j, c, hi, hl, hd⟩)⟩
    · have := run_endLoop (P := Try.prog) hl (by rw [hL]; simp)
      rw [hL] at this
      exact ⟨none, _, this, hdone _ _ (Nat.le_refl _) (hI.putObj _ hi (by omega) hl rfl) ((World.putObj_heap_other (by omega)).trans hd)⟩
    · have := run_endLoop (P := Try.prog) hl (by rw [hL]; simp)
      rw [hL] at this
      exact ⟨some c, _, this, hstop _ c j _ (Nat.le_refl _) ((hIx c).putObj _ hi (by omega) hl rfl) ((World.putObj_heap_other (by omega)).trans hd)⟩

end Go.Proofs.Ytkigadnkclkopaa
