import Derived.Test.YtkglkhijngpgiaaYf
import Derived.Test.YtkglkhijngpgiaaLe
set_option linter.unusedVariables false
set_option linter.unusedSimpArgs false
namespace Go.Proofs.Ytkglkhijngpgiaa
open Go.RowKit

/-! ParseNests' walk. -/
def ncs (l : List Int) : List Value := l.map (fun n => Value.int .u8 n)
def Rn (W : World) (v : Value) (l : List Int) : Prop := W.ownsRow 0 30 1 v l.length (ncs l)
theorem rn_nil (W : World) : Rn W nilS [] := World.ownsRow_nil W 0 30 1
theorem Rn.kp {S : Nat → Prop} {W W' : World} {v : Value} {l : List Int} (h : Rn W v l) (hk : Kp S W W') (hS : ∀ k, v.ownBlock = some k → ¬ S k) : Rn W' v l := hk.row h hS
theorem Rn.below {W W' : World} {v : Value} {l : List Int} (h : Rn W v l) (hb : Below W.heap.size W W') : Rn W' v l := row_below h hb
theorem Rn.shape {W : World} {v : Value} {l : List Int} (h : Rn W v l) : ∃ p cap, v = .slice p l.length cap ∧ l.length ≤ cap ∧ cap ≤ maxLen := row_shape h
theorem Try.info30 : (Try.prog.info? 30).map (fun i => (i.zero, i.size, i.bytes)) = some (some (.int .u8 0), 1, 1) := by kernel_rfl
theorem app_nd {W : World} {ops : Array Oper} {rest : List Oper} {o : Oper} {a : Act} {Q : Exit → Act → World → Prop} (hgd : o.guard = none) (s x : Operand)
    (ho : o.op = .call { callee := .builtin .append, args := #[s, x], argTypes := #[28, 28] }) (v : Value) (l : List Int) (d : Int) (hs : a.eval s = v) (hr : Rn W v l)
    (g c : Nat) (hx : a.eval x = .slice (some ⟨g, 0, none⟩) 1 c) (hg : W.heap[g]? = some (.cells #[.int .u8 d] 30 (0, 0))) (hl : l.length ≤ 1000000000)
    (h : ∀ v' w', Rn w' v' (l ++ [d]) → W.grownBy w' v.ownBlock → Nb W v v' → wpList Try.prog ops Q rest (a.put o.dst v') w') : wpList Try.prog ops Q (o :: rest) a W := by
  obtain ⟨i0, hi, hz0, hz1, hz2⟩ := info_parts Try.info30
  refine wpList_append_own_at (P := Try.prog) (w := W) hgd s x 28 ho 0 30 i0 _ 1 1 Try.underlying28 hi hz0 hz1 hz2 rfl (by decide) v _ _ hs hr ⟨g, 0, none⟩ 1 c [.int .u8 d] hx rfl ?_ (by intro u hu; simp at hu; subst hu; rfl) (by unfold maxLen; omega) (by omega) (Nat.zero_le _) ?_
  · intro j u hu
    exact World.news_of_block hg j u (by simpa using hu)
  · intro v' w' h1 h2 _ h4
    refine h v' w' ?_ h2 ?_
    · unfold Rn ncs
      rw [List.length_append, List.map_append]
      exact h1
    · rcases h4 with h4 | h4
      · exact .inl h4
      · exact .inr ⟨_, h4, Nat.le_refl _⟩
theorem Rn.last {W : World} {v : Value} {ys : List Int} {x : Int} (h : Rn W v (ys ++ [x])) : ∃ b cap, v = .slice (some ⟨b, 0, none⟩) (ys.length + 1) cap ∧ ys.length + 1 ≤ cap ∧ W.cell? ⟨b, ys.length, none⟩ = some (.int .u8 x) ∧ b < W.heap.size ∧ Rn W (.slice (some ⟨b, 0, none⟩) ys.length cap) ys := by
  rcases h.2 with ⟨_, h0⟩ | ⟨b, cap, cur, hv, h1, h2, h3, h4, h5, h6⟩
  · simp at h0
  · have hl : (ys ++ [x]).length = ys.length + 1 := by simp
    rw [hl] at hv h3
    have hc := World.ownsRow.cells h (g := b) (by rw [hv]; rfl) ys.length (.int .u8 x) (by simp [ncs])
    rw [Addr.add_lit, Nat.zero_add] at hc
    refine ⟨b, cap, hv, h3, hc, blk_lt h2, by simp [ncs], .inr ⟨b, cap, cur, rfl, h1, h2, by omega, h4, h5, ?_⟩⟩
    rw [hl] at h6
    have := congrArg (List.take ys.length) h6
    rw [List.take_take] at this
    simpa [Nat.min_eq_left, ncs] using this

end Go.Proofs.Ytkglkhijngpgiaa
