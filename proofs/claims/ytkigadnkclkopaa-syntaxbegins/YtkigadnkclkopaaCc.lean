import Derived.Test.YtkigadnkclkopaaCb
import Derived.Deep.RegionHeld3
import Derived.Deep.RegionWith
import Derived.Deep.RegionLaw
import Derived.WalkMore
import Derived.Deep.AppendLies
set_option linter.unusedVariables false
set_option linter.unusedSimpArgs false
namespace Go.Proofs.Ytkigadnkclkopaa
open Go.RowKit

/-! The code's Events. -/
theorem step_ev {W : World} {ops : Array Oper} {o : Oper} {a : Act} {K : Act → World → Prop} {Q : Exit → Act → World → Prop} {E : Prop} (hgd : o.guard = none) (s x : Operand)
    (ho : o.op = .call { callee := .builtin .append, args := #[s, x], argTypes := #[49, 49] }) (v : Value) (l : List Ev) (d : Ev) (hs : a.eval s = v) (hr : Re W v l)
    (g c : Nat) (hx : a.eval x = .slice (some ⟨g, 0, none⟩) 1 c) (hg : W.heap[g]? = some (.cells #[.int .u8 d.k, .int .u8 d.n, .int .u8 d.d.k, .string d.d.t, .int .i64 d.d.a, .int .i64 d.d.l, .int .i64 d.d.c, .int .i64 d.d.f] 63 (0, 0))) (hl : l.length ≤ 1000000000)
    (h : ∀ q cap w', Re w' (.slice (some ⟨q, 0, none⟩) (l.length + 1) cap) (l ++ [d]) → W.grownBy w' v.ownBlock → Nb W v (.slice (some ⟨q, 0, none⟩) (l.length + 1) cap) → K (a.put o.dst (.slice (some ⟨q, 0, none⟩) (l.length + 1) cap)) w') :
    if Region.wanted o (yielded ops a.tmps) = true then Oper.wp Try.prog o a W K Q else E := by
  obtain ⟨i0, hi, hz0, hz1, hz2⟩ := info_parts Try.info63
  refine step_append_lies W hgd s x 49 ho 0 63 i0 _ 8 64 Try.underlying49 hi hz0 hz1 hz2 rfl (by decide) v _ _ hs hr ⟨g, 0, none⟩ 1 c (ecs [d]) hx (by rw [ecs_len]; rfl) ?_ (ecs_one [d]) (by omega) (by unfold maxLen; omega) (by omega) (Nat.zero_le _) _ rfl ?_
  · intro j u hu
    refine World.news_of_block hg j u ?_
    have e : ecs [d] = [.int .u8 d.k, .int .u8 d.n, .int .u8 d.d.k, .string d.d.t, .int .i64 d.d.a, .int .i64 d.d.l, .int .i64 d.d.c, .int .i64 d.d.f] := by simp [ecs, flat, Ev.cs]
    rw [e] at hu
    simpa using hu
  · intro q cap w' a1 a2 a3 _
    refine h q cap w' ?_ a2 ?_
    · unfold Re
      rw [List.length_append, ecs_app]
      exact a1
    · rcases a3 with a3 | a3
      · exact .inl a3.symm
      · exact .inr ⟨q, rfl, by omega⟩
/-- A block of a type. -/
def tyB (T : TypeId) (W : World) (k : Nat) : Prop := ∃ cs f, W.heap[k]? = some (.cells cs T f)
/-- What stands, but for one block and those of a type. -/
def KT (T : TypeId) (g : Nat) (W w' : World) : Prop := Kp (fun k => k = g ∨ tyB T W k) W w'
theorem KT.refl (T : TypeId) (g : Nat) (W : World) : KT T g W W := Kp.refl _ _
theorem KT.trans {T : TypeId} {g : Nat} {a b c : World} (h : KT T g a b) (k : KT T g b c) : KT T g a c := by
  refine ⟨k.os.trans h.os, k.tape.trans h.tape, k.output.trans h.output, Nat.le_trans h.size k.size, fun j hj hS => ?_⟩
  have e := h.block j hj hS
  refine (k.block j (Nat.lt_of_lt_of_le hj h.size) (fun ht => hS ?_)).trans e
  rcases ht with ht | ⟨cs, f, ht⟩
  · exact .inl ht
  · exact .inr ⟨cs, f, by rw [← e]; exact ht⟩
theorem KT.of_below {T : TypeId} {g : Nat} {a b : World} (h : Below a.heap.size a b) : KT T g a b := Kp.of_below h
theorem KT.of_kp {T : TypeId} {g : Nat} {a b : World} (h : Kp (fun k => k = g) a b) : KT T g a b := h.sub (fun k e => .inl e)
theorem KT.blk {T : TypeId} {g : Nat} {a b : World} (h : KT T g a b) {k : Nat} {cs : Array Value} {U : TypeId} {f : Nat × Nat} (hk : a.heap[k]? = some (.cells cs U f)) (hg : k ≠ g) (hT : U ≠ T) : b.heap[k]? = some (.cells cs U f) := by
  refine Kp.blk h hk ?_
  rintro (e | ⟨cs', f', e⟩)
  · exact hg e
  · rw [hk] at e
    injection e with e
    injection e with _ e
    exact hT e
theorem re_ty {W : World} {v : Value} {E : List Ev} (h : Re W v E) : ∀ k, v.ownBlock = some k → tyB 63 W k := by
  intro k hk
  rcases h.2 with ⟨rfl, _⟩ | ⟨b, cap, cur, rfl, _, h3, _⟩
  · cases hk
  · simp only [Value.ownBlock, Option.some.injEq] at hk
    subst hk
    exact ⟨_, _, h3⟩

end Go.Proofs.Ytkigadnkclkopaa
