import Derived.Test.YtkigadnkclkopaaXb
import Derived.ProofKit
import Derived.OpenShut
import Derived.ShutString
import Derived.ChangeOld
import Derived.Lib.SmallJoins
import Derived.Carry
import Derived.Deep.Slices
set_option linter.unusedVariables false
set_option linter.unusedSimpArgs false
namespace Go.Proofs.Ytkigadnkclkopaa
open Go.ChangeShapes Go.WideShapes Go.ChangeAt Go.RowKit

/-! Trees in memory, as a reader sees them. -/
mutual
/-- A node at a place. -/
def HN (W : World) (b o : Nat) : Nd → Prop
  | .mk k d c => (W.cell? ⟨b, o, none⟩ = some (.int .u8 k) ∧ W.cell? ⟨b, o + 1, none⟩ = some (.int .u8 d.k) ∧ W.cell? ⟨b, o + 2, none⟩ = some (.string d.t) ∧ W.cell? ⟨b, o + 3, none⟩ = some (.int .i64 d.a) ∧ W.cell? ⟨b, o + 4, none⟩ = some (.int .i64 d.l) ∧ W.cell? ⟨b, o + 5, none⟩ = some (.int .i64 d.c) ∧ W.cell? ⟨b, o + 6, none⟩ = some (.int .i64 d.f)) ∧
    ∃ ao cap, W.cell? ⟨b, o + 7, none⟩ = some (.slice ao c.length cap) ∧ c.length ≤ cap ∧ cap ≤ maxLen ∧ (ao = none → c = []) ∧ ∀ a, ao = some a → c = [] ∨ ∃ b' o', a = ⟨b', o', none⟩ ∧ HL W b' o' c
/-- Nodes, one behind the other. -/
def HL (W : World) (b o : Nat) : List Nd → Prop
  | [] => True
  | n :: r => HN W b o n ∧ HL W b (o + 8) r
end
theorem HL.at {W : World} {b : Nat} : ∀ {l : List Nd} {o : Nat}, HL W b o l → ∀ {j : Nat} {n : Nd}, l[j]? = some n → HN W b (o + j * 8) n
  | [], o, _, j, n, hj => by simp at hj
  | x :: r, o, h, 0, n, hj => by
    simp at hj
    subst hj
    rw [HL] at h
    simpa using h.1
  | x :: r, o, h, j + 1, n, hj => by
    rw [HL] at h
    have := HL.at h.2 (j := j) (n := n) (by simpa using hj)
    rw [show o + (j + 1) * 8 = o + 8 + j * 8 by omega]
    exact this
theorem hl_of {W : World} {b : Nat} : ∀ {l : List Nd} {o : Nat}, (∀ j n, l[j]? = some n → HN W b (o + j * 8) n) → HL W b o l
  | [], o, _ => by rw [HL]; trivial
  | x :: r, o, h => by
    rw [HL]
    refine ⟨by simpa using h 0 x rfl, hl_of (fun j n hj => ?_)⟩
    have := h (j + 1) n (by simpa using hj)
    rw [show o + 8 + j * 8 = o + (j + 1) * 8 by omega]
    exact this
mutual
theorem HN.below {W W' : World} (hb : Below W.heap.size W W') : ∀ (n : Nd) (b o : Nat), HN W b o n → HN W' b o n
  | .mk k d c, b, o, h => by
    rw [HN] at h ⊢
    obtain ⟨⟨h0, h1, h2, h3, h4, h5, h6⟩, ao, cap, h7, h8, h9, h10, h11⟩ := h
    have e : W'.heap[b]? = W.heap[b]? := hb.block b (World.block_lt_of_cell? _ _ h0)
    have tr : ∀ j u, W.cell? ⟨b, j, none⟩ = some u → W'.cell? ⟨b, j, none⟩ = some u := fun j u hu => (World.cell?_of_block (a := ⟨b, j, none⟩) e).trans hu
    exact ⟨⟨tr _ _ h0, tr _ _ h1, tr _ _ h2, tr _ _ h3, tr _ _ h4, tr _ _ h5, tr _ _ h6⟩, ao, cap, tr _ _ h7, h8, h9, h10, fun a ea => (h11 a ea).imp id (fun ⟨b', o', e2, hl⟩ => ⟨b', o', e2, HL.below hb c b' o' hl⟩)⟩
theorem HL.below {W W' : World} (hb : Below W.heap.size W W') : ∀ (l : List Nd) (b o : Nat), HL W b o l → HL W' b o l
  | [], b, o, _ => by rw [HL]; trivial
  | n :: r, b, o, h => by
    rw [HL] at h ⊢
    exact ⟨HN.below hb n b o h.1, HL.below hb r b (o + 8) h.2⟩
end
/-- A node as a value. -/
def Nv (W : World) (v : Value) (n : Nd) : Prop := ∃ ao cap, v = .agg #[.int .u8 n.k, .int .u8 n.d.k, .string n.d.t, .int .i64 n.d.a, .int .i64 n.d.l, .int .i64 n.d.c, .int .i64 n.d.f, .slice ao n.c.length cap] ∧ n.c.length ≤ cap ∧ cap ≤ maxLen ∧ (ao = none → n.c = []) ∧ (∀ a, ao = some a → n.c = [] ∨ ∃ b o, a = ⟨b, o, none⟩ ∧ HL W b o n.c)
theorem Nv.below {W W' : World} {v : Value} {n : Nd} (h : Nv W v n) (hb : Below W.heap.size W W') : Nv W' v n := by
  obtain ⟨ao, cap, h1, h2, h3, h4, h5⟩ := h
  refine ⟨ao, cap, h1, h2, h3, h4, fun a ha => ?_⟩
  rcases h5 a ha with h | ⟨b, o, e, hl⟩
  · exact .inl h
  · exact .inr ⟨b, o, e, HL.below hb _ b o hl⟩
mutual
/-- How many nodes a tree has. -/
def nsz : Nd → Nat
  | .mk k d c => nszL c + 1
def nszL : List Nd → Nat
  | [] => 0
  | n :: r => nsz n + nszL r
end
theorem nsz_kid {n m : Nd} (h : m ∈ n.c) : nsz m < nsz n := by
  obtain ⟨k, d, c⟩ := n
  have key : ∀ (c : List Nd), m ∈ c → nsz m ≤ nszL c := by
    intro c
    induction c with
    | nil => intro h; cases h
    | cons x r ih =>
      intro h
      simp only [nszL]
      rcases List.mem_cons.1 h with rfl | h
      · omega
      · have := ih h; omega
  have := key c h
  simp only [nsz]
  omega
theorem pick {α : Type} (P : Nat → α → Prop) : ∀ n, (∀ j, j < n → ∃ a, P j a) → ∃ l : List α, l.length = n ∧ ∀ j a, l[j]? = some a → P j a
  | 0, _ => ⟨[], rfl, fun j a h => by simp at h⟩
  | n + 1, h => by
    obtain ⟨l, hl, hp⟩ := pick P n (fun j hj => h j (by omega))
    obtain ⟨a, ha⟩ := h n (by omega)
    refine ⟨l ++ [a], by simp [hl], fun j b hb => ?_⟩
    by_cases hj : j < l.length
    · rw [List.getElem?_append_left hj] at hb; exact hp j b hb
    · rw [List.getElem?_append_right (by omega)] at hb
      have h0 := (List.getElem?_eq_some_iff.1 hb).1
      simp at h0
      have : j = n := by omega
      subst this
      rw [show j - l.length = 0 by omega] at hb
      simp at hb
      subst hb; exact ha
theorem all_laidOut : laidOutB Try.prog = true := by kernel_rfl

end Go.Proofs.Ytkigadnkclkopaa
