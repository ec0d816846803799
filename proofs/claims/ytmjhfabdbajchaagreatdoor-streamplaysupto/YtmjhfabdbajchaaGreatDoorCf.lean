import Derived.Test.YtmjhfabdbajchaaGreatDoorQj
import Derived.Test.YtmjhfabdbajchaaGreatDoorCd
set_option linter.unusedVariables false
set_option linter.unusedSimpArgs false
namespace Go.Proofs.YtmjhfabdbajchaaGreatDoor
open Go.RowKit

/-! Four printers side by side: the code's have the labels 1 and 2, the document's 3 and 4. -/
def RR (R : (Nat → Prop) → World → Nat → Nat → S9 → Prop) (i : Nat) : (Nat → Prop) → World → Nat → Nat → S9 → Prop := if i ≤ 2 then R else R9
section
variable {R : (Nat → Prop) → World → Nat → Nat → S9 → Prop}
theorem rr_sub (hC : Ctr R) (i : Nat) {S S' : Nat → Prop} {W : World} {g N : Nat} {s : S9} (h : RR R i S W g N s) (hs : ∀ k, k < W.heap.size → S k → S' k) : RR R i S' W g N s := by
  unfold RR at *
  split at h
  · rename_i hi; rw [if_pos hi]; exact hC.sub _ _ _ _ _ _ h hs
  · rename_i hi; rw [if_neg hi]; exact R9.sub h hs
theorem rr_oth (hC : Ctr R) (i : Nat) {S T : Nat → Prop} {W W' : World} {g N : Nat} {s : S9} (h : RR R i S W g N s) (hk : Kp T W W') (hT : ∀ k, k < W.heap.size → S k → ¬ T k) : RR R i S W' g N s := by
  unfold RR at *
  split at h
  · rename_i hi; rw [if_pos hi]; exact hC.oth _ _ _ _ _ _ _ h hk hT
  · rename_i hi; rw [if_neg hi]; exact R9.oth h hk hT
structure D9 (R : (Nat → Prop) → World → Nat → Nat → S9 → Prop) (W0 V : World) (own : Nat → Nat) (gs Ns : Nat → Nat) (ss : Nat → S9) (m : Nat) : Prop where
  en : En own V
  lo : ∀ k, k < W0.heap.size → own k = 0
  be : Below W0.heap.size W0 V
  rr : ∀ i, 1 ≤ i → i ≤ 4 → (i ≤ 2 ∨ 3 ≤ i) → i ∈ [1, 3, 2, 4].take m → RR R i (fun k => own k = i) V (gs i) (Ns i) (ss i)
def upd {α : Type} (f : Nat → α) (i : Nat) (x : α) : Nat → α := fun k => if k = i then x else f k
variable {W0 V : World} {own : Nat → Nat} {gs Ns : Nat → Nat} {ss : Nat → S9} {m : Nat}
theorem D9.below (hC : Ctr R) (h : D9 R W0 V own gs Ns ss m) {V' : World} (hb : Below V.heap.size V V') : D9 R W0 V' own gs Ns ss m :=
  ⟨h.en.below hb, h.lo, h.be.trans (hb.mono h.be.size), fun i h1 h2 h3 h4 => rr_oth hC i (h.rr i h1 h2 h3 h4) (T := fun _ => False) (Kp.of_below hb) (fun _ _ _ h => h)⟩
/-- Behind a call on the printer i, or behind its making. -/
theorem D9.next (hC : Ctr R) (h : D9 R W0 V own gs Ns ss m) {m' : Nat} {i : Nat} (hi1 : 1 ≤ i) (hi4 : i ≤ 4) {w' : World} {g N : Nat} {s : S9} (hm : ∀ j, j ∈ [1, 3, 2, 4].take m' → j = i ∨ j ∈ [1, 3, 2, 4].take m) (hr : RR R i (fun k => own k = i ∨ V.heap.size ≤ k) w' g N s) (hk : Kp (fun k => own k = i ∨ V.heap.size ≤ k) V w') : ∃ own', D9 R W0 w' own' (upd gs i g) (upd Ns i N) (upd ss i s) m' ∧ Sd own own' V w' ∧ V.heap.size ≤ w'.heap.size := by
  obtain ⟨a1, a2, a3⟩ := lab_call (by omega) h.en hk
  refine ⟨LabI i own V w', ⟨a1, fun k hl => ?_, ?_, ?_⟩, fun k hl h0 => ⟨a2.block k hl (by rw [h0]; omega), (a2.old k hl).trans h0⟩, hk.size⟩
  · rw [a2.old k (Nat.lt_of_lt_of_le hl h.be.size)]; exact h.lo k hl
  · exact h.be.trans ⟨hk.os, hk.tape, hk.output, hk.size, fun k hl => a2.block k (Nat.lt_of_lt_of_le hl h.be.size) (by rw [h.lo k hl]; omega)⟩
  · intro j h1 h2 h3 h4
    by_cases e : j = i
    · subst e
      simp only [upd, if_true]
      exact rr_sub hC j hr (fun k hl hh => a3 k hl hh)
    · simp only [upd, if_neg e]
      have h5 : j ∈ [1, 3, 2, 4].take m := by
        rcases hm j h4 with h6 | h6
        · exact absurd h6 e
        · exact h6
      refine rr_sub hC j (rr_oth hC j (h.rr j h1 h2 h3 h5) (fr_kp a2) (fun k _ e1 e2 => e (e1.symm.trans e2))) (fun k _ e1 => ?_)
      by_cases hw : k < V.heap.size
      · rw [a2.old k hw]; exact e1
      · exact absurd (e1.symm.trans (h.en.nf k (by omega))) (by omega)
theorem D9.rS (hC : Ctr R) (h : D9 R W0 V own gs Ns ss m) {i : Nat} (hi1 : 1 ≤ i) (hi4 : i ≤ 4) (hm : i ∈ [1, 3, 2, 4].take m) : RR R i (fun k => own k = i ∨ V.heap.size ≤ k) V (gs i) (Ns i) (ss i) := rr_sub hC i (h.rr i hi1 hi4 (by omega) hm) (fun k _ e => .inl e)
theorem upd_self {α : Type} (f : Nat → α) (i : Nat) : upd f i (f i) = f := by
  funext k
  unfold upd
  split
  · rename_i e; rw [e]
  · rfl
end
end Go.Proofs.YtmjhfabdbajchaaGreatDoor
