import Derived.Test.YtkigadnkclkopaaIb
set_option linter.unusedVariables false
set_option linter.unusedSimpArgs false
namespace Go.Proofs.Ytkigadnkclkopaa
open Go.RowKit Go.Shelf
attribute [local go_sem] Oper.semAt_some

/-! The marks that loops left on an activation. -/
abbrev mark (D : Nat) : Deferred := { target := .collected D, args := #[] }
inductive Mk (B : Nat) (V : World) : Nat → List Deferred → Prop
  | nil {C : Nat} (h : B ≤ C) : Mk B V C []
  | cons {C C' D : Nat} {ds : List Deferred} (h1 : C ≤ D) (h2 : D < C') (h3 : V.heap[D]? = some (.deferred (some []))) (h4 : Mk B V C ds) : Mk B V C' (mark D :: ds)
theorem Mk.ge {B C : Nat} {V : World} {ds : List Deferred} (h : Mk B V C ds) : B ≤ C := by
  induction h with
  | nil h => exact h
  | cons h1 h2 h3 h4 ih => omega
theorem Mk.up {B C C' : Nat} {V : World} {ds : List Deferred} (h : Mk B V C ds) (hC : C ≤ C') : Mk B V C' ds := by
  cases h with
  | nil h => exact .nil (Nat.le_trans h hC)
  | cons h1 h2 h3 h4 => exact .cons h1 (Nat.lt_of_lt_of_le h2 hC) h3 h4
theorem Mk.move {B C : Nat} {V V' : World} {ds : List Deferred} (h : Mk B V C ds) (hk : ∀ k o, B ≤ k → k < C → V.heap[k]? = some o → V'.heap[k]? = some o) : Mk B V' C ds := by
  induction h with
  | nil h => exact .nil h
  | cons h1 h2 h3 h4 ih =>
    have := h4.ge
    exact .cons h1 h2 (hk _ _ (by omega) h2 h3) (ih fun k o hB hC ho => hk k o hB (by omega) ho)
theorem Mk.kf {B C : Nat} {V V' : World} {ds : List Deferred} (h : Mk B V C ds) (hk : KF B V V') : Mk B V' C ds := h.move fun k o hB _ ho => hk.same k o hB ho
theorem Mk.own {B C : Nat} {V V' : World} {ds : List Deferred} (h : Mk B V C ds) {row : Option Nat} (hg : V.grownBy V' row) (hr : ∀ r, row = some r → C ≤ r) : Mk B V' C ds :=
  h.move fun k o _ hC ho => (hg.block k (blk_lt ho) (fun e => by have := hr k e.symm; omega)).trans ho
/-- The function returns: each mark is taken, and the blocks shut. -/
theorem Mk.leaves {B : Nat} {fn : Func} {tmps : Array Value} {n : Nat} {S : World → Prop} (hS : OwnFrom B (fun (_ : Unit) W => S W)) {R : Ending → World → Prop} (hfin : ∀ W, S W → ∃ v, (results fn tmps).run Try.prog W = .ok v W ∧ R (.returned v) W) :
    ∀ {ds : List Deferred} {C : Nat} {V : World}, Mk B V C ds → S V → LeavesInM Fence.wide n Try.prog fn tmps R ds .returning V := by
  intro ds
  induction ds with
  | nil => exact fun _ hs => hfin _ hs
  | cons d ds ih =>
    intro C V h hs
    cases h with
    | cons h1 h2 h3 h4 =>
      have := h4.ge
      exact ⟨(fun h => nomatch h), .inl ⟨_, _, rfl, run_takeDeferred h3, ih (h4.move fun k o _ hC ho => (World.putObj_heap_other (by omega)).trans ho) (hS.putObj (s := ()) _ hs (by omega) h3 rfl)⟩⟩

/-! The iterator of a row of iterators. -/
structure Fp where
  f : Nat
  lb : Array Value
  ts : List Tv
def Fp.v (p : Fp) : Value := .func (.func p.f) #[] p.lb
def fts (l : List Fp) : List Tv := l.flatMap Fp.ts
def ofs (l : List Fp) (k : Nat) : Nat := (fts (l.take k)).length
theorem ofs_zero (l : List Fp) : ofs l 0 = 0 := rfl
theorem fts_take {l : List Fp} {k : Nat} {p : Fp} (h : l[k]? = some p) : fts (l.take (k + 1)) = fts (l.take k) ++ p.ts := by
  obtain ⟨hk, rfl⟩ := List.getElem?_eq_some_iff.1 h
  rw [List.take_succ_eq_append_getElem hk]
  unfold fts
  rw [List.flatMap_append, List.flatMap_singleton]
theorem ofs_succ {l : List Fp} {k : Nat} {p : Fp} (h : l[k]? = some p) : ofs l (k + 1) = ofs l k + p.ts.length := by
  unfold ofs
  rw [fts_take h, List.length_append]
theorem ofs_end (l : List Fp) : ofs l l.length = (fts l).length := by
  unfold ofs
  rw [List.take_length]
theorem fts_at {l : List Fp} {k j : Nat} {p : Fp} {t : Tv} (h : l[k]? = some p) (ht : p.ts[j]? = some t) : (fts l)[ofs l k + j]? = some t := by
  have e : fts l = fts (l.take (k + 1)) ++ fts (l.drop (k + 1)) := by
    unfold fts
    rw [← List.flatMap_append, List.take_append_drop]
  have hj := (List.getElem?_eq_some_iff.1 ht).1
  rw [e, fts_take h, List.append_assoc, List.getElem?_append_right (by unfold ofs; omega)]
  have : ofs l k + j - (fts (l.take k)).length = j := by unfold ofs; omega
  rw [this, List.getElem?_append_left hj, ht]
/-- The iterators that a slice holds. -/
def Lf (W : World) (ao : Option Addr) (l : List Fp) : Prop := ∀ j p, l[j]? = some p → ∃ b off, ao = some ⟨b, off, none⟩ ∧ W.cell? ⟨b, off + j, none⟩ = some p.v
theorem Lf.st {O : Nat → Prop} {w w' : World} {ao : Option Addr} {l : List Fp} (h : Lf w ao l) (hO : ∀ a, ao = some a → O a.block) (hb : St O w w') : Lf w' ao l := by
  intro j p hp
  obtain ⟨b, off, h1, c0⟩ := h j p hp
  exact ⟨b, off, h1, (World.cell?_of_block (a := ⟨b, _, none⟩) (hb b (hO _ h1) (World.block_lt_of_cell? _ _ c0))).trans c0⟩
/-- What a function value of the code's Toks is. -/
def Fok (O : Nat → Prop) (w : World) (p : Fp) : Prop := EntF p.f ∧ ItB O w p.f p.lb p.ts
abbrev YlB (l : Nat) : Obj := .cells #[.func (.yield l) #[] #[]] 55
end Go.Proofs.Ytkigadnkclkopaa
