import Derived.Test.YtcokccfbeonlnaaDoorFb
set_option linter.unusedVariables false
set_option linter.unusedSimpArgs false
namespace Go.Proofs.YtcokccfbeonlnaaDoor
open Go.RowKit

theorem Tryd.info26 : (Tryd.prog.info? 26).map (fun i => (i.zero, i.size, i.bytes)) = some (some (.agg #[.int .u8 0, .string ⟨#[]⟩, .int .i64 0, .int .i64 0, .bool false]), 5, 48) := by kernel_rfl
/-! A row of pieces of the call's own. -/
def Rp (B : Nat) (w : World) (v : Value) (l : List Dc) : Prop := w.ownsRow B 26 5 v l.length (dcs l)
theorem rp_nil (B : Nat) (w : World) : Rp B w (.slice none 0 0) [] := World.ownsRow_nil w B 26 5
theorem Rp.shape {B : Nat} {w : World} {v : Value} {l : List Dc} (h : Rp B w v l) : ∃ p cap, v = .slice p l.length cap ∧ l.length ≤ cap ∧ cap ≤ maxLen := by
  rcases h.2 with ⟨rfl, h0⟩ | ⟨b, cap, cur, rfl, _, h3, h4, h5, _⟩
  · exact ⟨none, 0, by rw [h0], by omega, Nat.zero_le _⟩
  · exact ⟨_, cap, rfl, h4, h5⟩
theorem Rp.own {B : Nat} {w : World} {v : Value} {l : List Dc} (h : Rp B w v l) : ∀ k, v.ownBlock = some k → B ≤ k := by
  intro k hk
  rcases h.2 with ⟨rfl, h0⟩ | ⟨b, cap, cur, rfl, hb, _⟩
  · cases hk
  · simp only [Value.ownBlock, Option.some.injEq] at hk
    omega
theorem Rp.below {B : Nat} {w w' : World} {v : Value} {l : List Dc} (h : Rp B w v l) (hb : Below w.heap.size w w') : Rp B w' v l := by
  refine ⟨h.1, ?_⟩
  rcases h.2 with h1 | ⟨g, cap, cur, rfl, h2, h3, h4⟩
  · exact .inl h1
  · exact .inr ⟨g, cap, cur, rfl, h2, blk_below h3 hb, h4⟩
theorem dcs_app (a b : List Dc) : dcs (a ++ b) = dcs a ++ dcs b := flat_append Dc.cs a b
theorem app_piece {W : World} {ops : Array Oper} {rest : List Oper} {o : Oper} {a : Act} {Q : Exit → Act → World → Prop} (hgd : o.guard = none) (s x : Operand)
    (ho : o.op = .call { callee := .builtin .append, args := #[s, x], argTypes := #[23, 23] }) (B : Nat) (v : Value) (l : List Dc) (d : Dc) (hs : a.eval s = v) (hr : Rp B W v l)
    (g c : Nat) (hx : a.eval x = .slice (some ⟨g, 0, none⟩) 1 c) (hg : W.heap[g]? = some (.cells #[.int .u8 d.k, .string d.t, .int .i64 d.b, .int .i64 d.i, .bool d.e] 26 (0, 0))) (hl : l.length ≤ 1000000000) (hB : B ≤ W.heap.size)
    (h : ∀ v' w', Rp B w' v' (l ++ [d]) → Below B W w' → W.grownBy w' v.ownBlock → (v'.ownBlock = v.ownBlock ∨ v'.ownBlock = some W.heap.size) → wpList Tryd.prog ops Q rest (a.put o.dst v') w') : wpList Tryd.prog ops Q (o :: rest) a W := by
  obtain ⟨i0, hi, hz0, hz1, hz2⟩ := info_parts Tryd.info26
  refine wpList_append_own_at (P := Tryd.prog) (w := W) hgd s x 23 ho B 26 i0 _ 5 48 Tryd.underlying23 hi hz0 hz1 hz2 rfl (by decide) v _ _ hs hr ⟨g, 0, none⟩ 1 c (dcs [d]) hx (by rw [dcs_len]; rfl) ?_ (dcs_one [d]) (by unfold maxLen; omega) (by omega) hB ?_
  · intro j u hu
    refine World.news_of_block hg j u ?_
    have e : dcs [d] = [.int .u8 d.k, .string d.t, .int .i64 d.b, .int .i64 d.i, .bool d.e] := by simp [dcs, flat, Dc.cs]
    rw [e] at hu
    simpa using hu
  · intro v' w' h1 h2 _ h4
    refine h v' w' ?_ ((Below.refl B W).grown h2 hB hr.own) h2 h4
    unfold Rp
    rw [List.length_append, dcs_app]
    exact h1
theorem heap_new2 (w : World) (o1 o2 : Obj) : ((w.alloc o1).alloc o2).heap[w.heap.size + 1]? = some o2 := by
  have := heap_new (w.alloc o1) o2
  rwa [World.size_alloc] at this
theorem rt_size {d : Dc} (h : rt d = true) : d.t.size ≤ 9223372036854775807 := by
  cases rt_of h with
  | text t hq => have := (rtT_len hq).2; show t.size ≤ _; omega
  | brk n hq => exact Nat.zero_le _
  | beg n e hq => exact Nat.zero_le _
  | blank => exact Nat.zero_le _
  | hard => exact Nat.zero_le _
  | empty => exact Nat.zero_le _
  | «end» => exact Nat.zero_le _

end Go.Proofs.YtcokccfbeonlnaaDoor
