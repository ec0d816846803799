import Derived.Test.YtkigadnkclkopaaTa
set_option linter.unusedVariables false
set_option linter.unusedSimpArgs false
namespace Go.Proofs.Ytkigadnkclkopaa
open Go.RowKit

theorem new_at (w : World) (o : Obj) : (w.alloc o).heap[w.heap.size]? = some o := by show (w.heap.push o)[w.heap.size]? = _; simp
theorem alloc_at' {W : World} {g : Nat} {o : Obj} (h : W.heap[g]? = some o) (o' : Obj) : (W.alloc o').heap[g]? = some o := blk_below h ((Below.refl _ _).alloc (Nat.le_refl _) _)

theorem Kp.sub {S T : Nat → Prop} {w w' : World} (h : Kp T w w') (hs : ∀ k, T k → S k) : Kp S w w' := ⟨h.os, h.tape, h.output, h.size, fun k hk hS => h.block k hk (fun ht => hS (hs k ht))⟩

/-! Events as values; rows of events; rows of states. -/
structure Ev where
  k : Int
  n : Int
  d : Tv
deriving DecidableEq
def Ev.v (e : Ev) : Value := .agg #[.int .u8 e.k, .int .u8 e.n, .int .u8 e.d.k, .string e.d.t, .int .i64 e.d.a, .int .i64 e.d.l, .int .i64 e.d.c, .int .i64 e.d.f]
def Ev.cs (e : Ev) : List Value := [.int .u8 e.k, .int .u8 e.n, .int .u8 e.d.k, .string e.d.t, .int .i64 e.d.a, .int .i64 e.d.l, .int .i64 e.d.c, .int .i64 e.d.f]
theorem Ev.cs_len (e : Ev) : e.cs.length = 8 := rfl
theorem Ev.cs_one (e : Ev) : ∀ u ∈ e.cs, u.oneCell' = true := by
  intro u hu
  simp only [Ev.cs, List.mem_cons, List.not_mem_nil, or_false] at hu
  rcases hu with rfl | rfl | rfl | rfl | rfl | rfl | rfl | rfl <;> rfl
def ecs (l : List Ev) : List Value := flat Ev.cs l
theorem ecs_len (l : List Ev) : (ecs l).length = l.length * 8 := flat_len Ev.cs 8 Ev.cs_len l
theorem ecs_one (l : List Ev) : ∀ u ∈ ecs l, u.oneCell' = true := by
  intro u hu
  obtain ⟨d, _, h⟩ := List.mem_flatMap.1 hu
  exact d.cs_one u h
theorem ecs_app (a b : List Ev) : ecs (a ++ b) = ecs a ++ ecs b := flat_append Ev.cs a b
/-- No token. -/
def tv0 : Tv := ⟨0, ⟨#[]⟩, 0, 0, 0, 0⟩

/-- Where a row lies behind an append: as before, or in a new block. -/
def Nb (W : World) (v v' : Value) : Prop := v'.ownBlock = v.ownBlock ∨ ∃ k, v'.ownBlock = some k ∧ W.heap.size ≤ k
theorem Nb.refl (W : World) (v : Value) : Nb W v v := .inl rfl
theorem Nb.trans {W W' : World} {a b c : Value} (h : Nb W a b) (h' : Nb W' b c) (hs : W.heap.size ≤ W'.heap.size) : Nb W a c := by
  rcases h' with h' | ⟨k, h', hk⟩
  · rcases h with h | ⟨k, h, hk⟩
    · exact .inl (h'.trans h)
    · exact .inr ⟨k, h'.trans h, hk⟩
  · exact .inr ⟨k, h', Nat.le_trans hs hk⟩

/-- A row of events of its own. -/
def Re (W : World) (v : Value) (l : List Ev) : Prop := W.ownsRow 0 63 8 v l.length (ecs l)
theorem re_nil (W : World) : Re W (.slice none 0 0) [] := World.ownsRow_nil W 0 63 8
theorem Re.kp {S : Nat → Prop} {W W' : World} {v : Value} {l : List Ev} (h : Re W v l) (hk : Kp S W W') (hS : ∀ k, v.ownBlock = some k → ¬ S k) : Re W' v l := hk.row h hS
theorem Re.below {W W' : World} {v : Value} {l : List Ev} (h : Re W v l) (hb : Below W.heap.size W W') : Re W' v l := row_below h hb
theorem Re.shape {W : World} {v : Value} {l : List Ev} (h : Re W v l) : ∃ p cap, v = .slice p l.length cap ∧ l.length ≤ cap ∧ cap ≤ maxLen := row_shape h
theorem Re.ne {W : World} {v : Value} {l : List Ev} (h : Re W v l) {g : Nat} {cs : Array Value} {T : TypeId} {f : Nat × Nat} (hg : W.heap[g]? = some (.cells cs T f)) (hT : T ≠ 63) : ∀ k, v.ownBlock = some k → k ≠ g := fun k hk e => row_ne h hg hT (by rw [hk, e])
theorem Re.lt {W : World} {v : Value} {l : List Ev} (h : Re W v l) : ∀ k, v.ownBlock = some k → k < W.heap.size := by
  intro k hk
  rcases h.2 with ⟨rfl, _⟩ | ⟨b, cap, cur, rfl, _, h3, _⟩
  · cases hk
  · simp only [Value.ownBlock, Option.some.injEq] at hk
    subst hk
    exact blk_lt h3
theorem Try.info63 : (Try.prog.info? 63).map (fun i => (i.zero, i.size, i.bytes)) = some (some (.agg #[.int .u8 0, .int .u8 0, .int .u8 0, .string ⟨#[]⟩, .int .i64 0, .int .i64 0, .int .i64 0, .int .i64 0]), 8, 64) := by kernel_rfl
theorem app_ev {W : World} {ops : Array Oper} {rest : List Oper} {o : Oper} {a : Act} {Q : Exit → Act → World → Prop} (hgd : o.guard = none) (s x : Operand)
    (ho : o.op = .call { callee := .builtin .append, args := #[s, x], argTypes := #[49, 49] }) (v : Value) (l : List Ev) (d : Ev) (hs : a.eval s = v) (hr : Re W v l)
    (g c : Nat) (hx : a.eval x = .slice (some ⟨g, 0, none⟩) 1 c) (hg : W.heap[g]? = some (.cells #[.int .u8 d.k, .int .u8 d.n, .int .u8 d.d.k, .string d.d.t, .int .i64 d.d.a, .int .i64 d.d.l, .int .i64 d.d.c, .int .i64 d.d.f] 63 (0, 0))) (hl : l.length ≤ 1000000000)
    (h : ∀ v' w', Re w' v' (l ++ [d]) → W.grownBy w' v.ownBlock → Nb W v v' → wpList Try.prog ops Q rest (a.put o.dst v') w') : wpList Try.prog ops Q (o :: rest) a W := by
  obtain ⟨i0, hi, hz0, hz1, hz2⟩ := info_parts Try.info63
  refine wpList_append_own_at (P := Try.prog) (w := W) hgd s x 49 ho 0 63 i0 _ 8 64 Try.underlying49 hi hz0 hz1 hz2 rfl (by decide) v _ _ hs hr ⟨g, 0, none⟩ 1 c (ecs [d]) hx (by rw [ecs_len]; rfl) ?_ (ecs_one [d]) (by unfold maxLen; omega) (by omega) (Nat.zero_le _) ?_
  · intro j u hu
    refine World.news_of_block hg j u ?_
    have e : ecs [d] = [.int .u8 d.k, .int .u8 d.n, .int .u8 d.d.k, .string d.d.t, .int .i64 d.d.a, .int .i64 d.d.l, .int .i64 d.d.c, .int .i64 d.d.f] := by simp [ecs, flat, Ev.cs]
    rw [e] at hu
    simpa using hu
  · intro v' w' h1 h2 _ h4
    refine h v' w' ?_ h2 ?_
    · unfold Re
      rw [List.length_append, ecs_app]
      exact h1
    · rcases h4 with h4 | h4
      · exact .inl h4
      · exact .inr ⟨_, h4, Nat.le_refl _⟩

/-! Rows of states (function values). -/

end Go.Proofs.Ytkigadnkclkopaa
