import Derived.Test.YtkigadnkclkopaaSa
import Derived.Deep.AppendLies
import Derived.Maps.AppendAt
set_option linter.unusedVariables false
set_option linter.unusedSimpArgs false
namespace Go.Proofs.Ytkigadnkclkopaa
open Go.RowKit

/-! Tokens as values; rows of tokens. -/
structure Tv where
  k : Int
  t : ByteArray
  a : Int
  l : Int
  c : Int
  f : Int
deriving DecidableEq
def Tv.v (d : Tv) : Value := .agg #[.int .u8 d.k, .string d.t, .int .i64 d.a, .int .i64 d.l, .int .i64 d.c, .int .i64 d.f]
def Tv.cs (d : Tv) : List Value := [.int .u8 d.k, .string d.t, .int .i64 d.a, .int .i64 d.l, .int .i64 d.c, .int .i64 d.f]
theorem Tv.cs_len (d : Tv) : d.cs.length = 6 := rfl
theorem Tv.cs_one (d : Tv) : ∀ u ∈ d.cs, u.oneCell' = true := by
  intro u hu
  simp only [Tv.cs, List.mem_cons, List.not_mem_nil, or_false] at hu
  rcases hu with rfl | rfl | rfl | rfl | rfl | rfl <;> rfl
def tcs (l : List Tv) : List Value := flat Tv.cs l
theorem tcs_len (l : List Tv) : (tcs l).length = l.length * 6 := flat_len Tv.cs 6 Tv.cs_len l
theorem tcs_one (l : List Tv) : ∀ u ∈ tcs l, u.oneCell' = true := by
  intro u hu
  obtain ⟨d, _, h⟩ := List.mem_flatMap.1 hu
  exact d.cs_one u h
theorem tcs_app (a b : List Tv) : tcs (a ++ b) = tcs a ++ tcs b := flat_append Tv.cs a b

/-- The tokens that a slice holds. -/
def Lt (w : World) (ao : Option Addr) (l : List Tv) : Prop := ∀ j d, l[j]? = some d → ∃ b off, ao = some ⟨b, off, none⟩ ∧
  w.cell? ⟨b, off + j * 6, none⟩ = some (.int .u8 d.k) ∧ w.cell? ⟨b, off + j * 6 + 1, none⟩ = some (.string d.t) ∧ w.cell? ⟨b, off + j * 6 + 2, none⟩ = some (.int .i64 d.a) ∧ w.cell? ⟨b, off + j * 6 + 3, none⟩ = some (.int .i64 d.l) ∧ w.cell? ⟨b, off + j * 6 + 4, none⟩ = some (.int .i64 d.c) ∧ w.cell? ⟨b, off + j * 6 + 5, none⟩ = some (.int .i64 d.f)
theorem Lt.kp {S : Nat → Prop} {w w' : World} {ao : Option Addr} {l : List Tv} (h : Lt w ao l) (hb : Kp S w w') (hS : ∀ a, ao = some a → ¬ S a.block) : Lt w' ao l := by
  intro j a ha
  obtain ⟨b, off, h1, c0, c1, c2, c3, c4, c5⟩ := h j a ha
  have hlt := World.block_lt_of_cell? _ _ c0
  have e : w'.heap[b]? = w.heap[b]? := hb.block b hlt (hS _ h1)
  exact ⟨b, off, h1, (World.cell?_of_block (a := ⟨b, _, none⟩) e).trans c0, (World.cell?_of_block (a := ⟨b, _, none⟩) e).trans c1, (World.cell?_of_block (a := ⟨b, _, none⟩) e).trans c2, (World.cell?_of_block (a := ⟨b, _, none⟩) e).trans c3, (World.cell?_of_block (a := ⟨b, _, none⟩) e).trans c4, (World.cell?_of_block (a := ⟨b, _, none⟩) e).trans c5⟩
theorem Lt.below {w w' : World} {ao : Option Addr} {l : List Tv} (h : Lt w ao l) (hb : Below w.heap.size w w') : Lt w' ao l := h.kp (Kp.of_below (S := fun _ => False) hb) (fun _ _ h => h)
theorem Lt.pre {w : World} {ao : Option Addr} {l m : List Tv} (h : Lt w ao (l ++ m)) : Lt w ao l := by
  intro j d hj
  refine h j d ?_
  rw [List.getElem?_append_left (List.getElem?_eq_some_iff.1 hj).1]
  exact hj

/-- A row of tokens of the call's own. -/
def Rt (B : Nat) (w : World) (v : Value) (l : List Tv) : Prop := w.ownsRow B 29 6 v l.length (tcs l)
theorem rt_nil (B : Nat) (w : World) : Rt B w (.slice none 0 0) [] := World.ownsRow_nil w B 29 6
theorem Rt.shape {B : Nat} {w : World} {v : Value} {l : List Tv} (h : Rt B w v l) : ∃ p cap, v = .slice p l.length cap ∧ l.length ≤ cap ∧ cap ≤ maxLen := by
  rcases h.2 with ⟨rfl, h0⟩ | ⟨b, cap, cur, rfl, _, h3, h4, h5, _⟩
  · exact ⟨none, 0, by rw [h0], by omega, Nat.zero_le _⟩
  · exact ⟨_, cap, rfl, h4, h5⟩
theorem Rt.own {B : Nat} {w : World} {v : Value} {l : List Tv} (h : Rt B w v l) : ∀ k, v.ownBlock = some k → B ≤ k := by
  intro k hk
  rcases h.2 with ⟨rfl, h0⟩ | ⟨b, cap, cur, rfl, hb, _⟩
  · cases hk
  · simp only [Value.ownBlock, Option.some.injEq] at hk
    omega
theorem Rt.below {B : Nat} {w w' : World} {v : Value} {l : List Tv} (h : Rt B w v l) (hb : Below w.heap.size w w') : Rt B w' v l := by
  refine ⟨h.1, ?_⟩
  rcases h.2 with h1 | ⟨g, cap, cur, rfl, h2, h3, h4⟩
  · exact .inl h1
  · exact .inr ⟨g, cap, cur, rfl, h2, blk_below h3 hb, h4⟩
theorem Rt.kp {B : Nat} {S : Nat → Prop} {w w' : World} {v : Value} {l : List Tv} (h : Rt B w v l) (hb : Kp S w w') (hS : ∀ k, v.ownBlock = some k → ¬ S k) : Rt B w' v l := by
  refine ⟨h.1, ?_⟩
  rcases h.2 with h1 | ⟨g, cap, cur, rfl, h2, h3, h4⟩
  · exact .inl h1
  · exact .inr ⟨g, cap, cur, rfl, h2, hb.blk h3 (hS g rfl), h4⟩
theorem Rt.ne {B : Nat} {w : World} {v : Value} {l : List Tv} (h : Rt B w v l) {g : Nat} {cs : Array Value} {T : TypeId} {f : Nat × Nat} (hg : w.heap[g]? = some (.cells cs T f)) (hT : T ≠ 29) : ∀ k, v.ownBlock = some k → k ≠ g := by
  intro k hk e
  rcases h.2 with ⟨rfl, h0⟩ | ⟨b, cap, cur, rfl, hb, h3, _⟩
  · cases hk
  · simp only [Value.ownBlock, Option.some.injEq] at hk
    subst hk
    subst e
    rw [hg] at h3
    cases h3
    exact hT rfl
theorem Lt.row {w : World} {B : Nat} {v : Value} {l : List Tv} (h : Rt B w v l) : ∃ ao cap, v = .slice ao l.length cap ∧ Lt w ao l ∧ (ao = none ∨ ∃ g, ao = some ⟨g, 0, none⟩ ∧ B ≤ g ∧ g < w.heap.size) ∧ l.length ≤ cap ∧ cap ≤ maxLen := by
  rcases h.2 with ⟨rfl, h0⟩ | ⟨g, cap, cur, rfl, hb, hg, h3, h4, h5, h6⟩
  · have : l = [] := List.eq_nil_of_length_eq_zero h0
    subst this
    exact ⟨none, 0, rfl, fun j d h => by simp at h, .inl rfl, Nat.zero_le _, Nat.zero_le _⟩
  · refine ⟨some ⟨g, 0, none⟩, cap, rfl, ?_, .inr ⟨g, rfl, hb, blk_lt hg⟩, h3, h4⟩
    intro j d hj
    have hc : ∀ (k : Nat) (u : Value), (tcs l)[k]? = some u → w.cell? ⟨g, k, none⟩ = some u := fun k u hu => by
      have := h.cells (g := g) rfl k u hu
      rw [Addr.add_lit, Nat.zero_add] at this
      exact this
    refine ⟨g, 0, rfl, ?_, ?_, ?_, ?_, ?_, ?_⟩
    · rw [Nat.zero_add]; exact hc _ _ (flat_at Tv.cs 6 Tv.cs_len l j 0 d _ hj rfl)
    · rw [Nat.zero_add]; exact hc _ _ (flat_at Tv.cs 6 Tv.cs_len l j 1 d _ hj rfl)
    · rw [Nat.zero_add]; exact hc _ _ (flat_at Tv.cs 6 Tv.cs_len l j 2 d _ hj rfl)
    · rw [Nat.zero_add]; exact hc _ _ (flat_at Tv.cs 6 Tv.cs_len l j 3 d _ hj rfl)
    · rw [Nat.zero_add]; exact hc _ _ (flat_at Tv.cs 6 Tv.cs_len l j 4 d _ hj rfl)
    · rw [Nat.zero_add]; exact hc _ _ (flat_at Tv.cs 6 Tv.cs_len l j 5 d _ hj rfl)
theorem Try.info29 : (Try.prog.info? 29).map (fun i => (i.zero, i.size, i.bytes)) = some (some (.agg #[.int .u8 0, .string ⟨#[]⟩, .int .i64 0, .int .i64 0, .int .i64 0, .int .i64 0]), 6, 56) := by kernel_rfl
theorem app_tok {W : World} {ops : Array Oper} {rest : List Oper} {o : Oper} {a : Act} {Q : Exit → Act → World → Prop} (hgd : o.guard = none) (s x : Operand)
    (ho : o.op = .call { callee := .builtin .append, args := #[s, x], argTypes := #[22, 22] }) (B : Nat) (v : Value) (l : List Tv) (d : Tv) (hs : a.eval s = v) (hr : Rt B W v l)
    (g c : Nat) (hx : a.eval x = .slice (some ⟨g, 0, none⟩) 1 c) (hg : W.heap[g]? = some (.cells #[.int .u8 d.k, .string d.t, .int .i64 d.a, .int .i64 d.l, .int .i64 d.c, .int .i64 d.f] 29 (0, 0))) (hl : l.length ≤ 1000000000) (hB : B ≤ W.heap.size)
    (h : ∀ v' w', Rt B w' v' (l ++ [d]) → Below B W w' → W.grownBy w' v.ownBlock → (v'.ownBlock = v.ownBlock ∨ v'.ownBlock = some W.heap.size) → wpList Try.prog ops Q rest (a.put o.dst v') w') : wpList Try.prog ops Q (o :: rest) a W := by
  obtain ⟨i0, hi, hz0, hz1, hz2⟩ := info_parts Try.info29
  refine wpList_append_own_at (P := Try.prog) (w := W) hgd s x 22 ho B 29 i0 _ 6 56 Try.underlying22 hi hz0 hz1 hz2 rfl (by decide) v _ _ hs hr ⟨g, 0, none⟩ 1 c (tcs [d]) hx (by rw [tcs_len]; rfl) ?_ (tcs_one [d]) (by unfold maxLen; omega) (by omega) hB ?_
  · intro j u hu
    refine World.news_of_block hg j u ?_
    have e : tcs [d] = [.int .u8 d.k, .string d.t, .int .i64 d.a, .int .i64 d.l, .int .i64 d.c, .int .i64 d.f] := by simp [tcs, flat, Tv.cs]
    rw [e] at hu
    simpa using hu
  · intro v' w' h1 h2 _ h4
    refine h v' w' ?_ ((Below.refl B W).grown h2 hB hr.own) h2 h4
    unfold Rt
    rw [List.length_append, tcs_app]
    exact h1

end Go.Proofs.Ytkigadnkclkopaa
