import Derived.Test.YtcokccfbeonlnaaDoorDx
set_option linter.unusedVariables false
set_option linter.unusedSimpArgs false
namespace Go.Proofs.YtcokccfbeonlnaaDoor
open Go.RowKit

/-! Rows that are as long as what came in. -/
theorem app_row {W : World} {ops : Array Oper} {rest : List Oper} {o : Oper} {a : Act} {Q : Exit → Act → World → Prop} (hgd : o.guard = none) (s x : Operand)
    (ho : o.op = .call { callee := .builtin .append, args := #[s, x], argTypes := #[23, 23] }) (B : Nat) (v : Value) (l ds : List Dc) (hs : a.eval s = v) (hr : Rp B W v l)
    (ad : Addr) (m c : Nat) (hx : a.eval x = .slice (some ad) m c) (hm : ds.length = m) (hg : ∀ j u, (dcs ds)[j]? = some u → W.cell? (ad.add j) = some u) (hl : (l.length + ds.length) * 48 ≤ 140737488355328) (hB : B ≤ W.heap.size)
    (h : ∀ v' w', Rp B w' v' (l ++ ds) → Below B W w' → wpList Tryd.prog ops Q rest (a.put o.dst v') w') : wpList Tryd.prog ops Q (o :: rest) a W := by
  subst hm
  obtain ⟨i0, hi, hz0, hz1, hz2⟩ := info_parts Tryd.info26
  refine wpList_append_own_at (P := Tryd.prog) (w := W) hgd s x 23 ho B 26 i0 _ 5 48 Tryd.underlying23 hi hz0 hz1 hz2 rfl (by decide) v _ _ hs hr ad ds.length c (dcs ds) hx (by rw [dcs_len]) hg (dcs_one ds) (by unfold maxLen; omega) hl hB ?_
  intro v' w' h1 h2 _ h4
  refine h v' w' ?_ ((Below.refl B W).grown h2 hB hr.own)
  unfold Rp
  rw [List.length_append, dcs_app]
  exact h1

def m99 : Dc := ⟨99, bE, 0, 0, false⟩
theorem rp_some {B : Nat} {w : World} {v : Value} {l : List Dc} {d : Dc} (h : Rp B w v (l ++ [d])) : ∃ g c, v = .slice (some ⟨g, 0, none⟩) (l.length + 1) c ∧ l.length + 1 ≤ c ∧ c ≤ 9223372036854775807 := by
  rcases h.2 with ⟨_, h0⟩ | ⟨g, cap, cur, rfl, _, _, h4, h5, _⟩
  · rw [List.length_append] at h0; simp at h0
  · rw [List.length_append] at h4 ⊢
    exact ⟨g, cap, rfl, h4, h5⟩
/-- What the law has lent, in any world behind. -/
structure DSt (w W : World) (g c : Nat) (l : List Dc) : Prop where
  bel : Below w.heap.size w W
  row : Rp w.heap.size W (.slice (some ⟨g, 0, none⟩) (l.length + 1) c) (l ++ [m99])
theorem DSt.below {w W W' : World} {g c : Nat} {l : List Dc} (h : DSt w W g c l) (hb : Below W.heap.size W W') : DSt w W' g c l :=
  ⟨h.bel.trans (hb.mono h.bel.size), h.row.below hb⟩
theorem DSt.lay {w W : World} {g c : Nat} {l : List Dc} (h : DSt w W g c l) (ht : ∀ d ∈ l, d.t.size ≤ 9223372036854775807) : Lay W (some ⟨g, 0, none⟩) l := by
  obtain ⟨ao, cap, hv, _, hL, _, _, _⟩ := Lay.row h.row (fun d hd => by
    rcases List.mem_append.1 hd with h | h
    · exact ht d h
    · simp at h; subst h; exact Nat.zero_le _)
  simp only [Value.slice.injEq] at hv
  obtain ⟨rfl, _, rfl⟩ := hv
  intro j d hd
  refine hL j d ?_
  have := (List.getElem?_eq_some_iff.1 hd).1
  rw [List.getElem?_append_left this]
  exact hd
theorem DSt.mark {w W : World} {g c : Nat} {l : List Dc} (h : DSt w W g c l) (ht : ∀ d ∈ l, d.t.size ≤ 9223372036854775807) : W.cell? ⟨g, l.length * 5, none⟩ = some (.int .u8 99) := by
  obtain ⟨ao, cap, hv, _, hL, _, _, _⟩ := Lay.row h.row (fun d hd => by
    rcases List.mem_append.1 hd with h | h
    · exact ht d h
    · simp at h; subst h; exact Nat.zero_le _)
  simp only [Value.slice.injEq] at hv
  obtain ⟨rfl, _, rfl⟩ := hv
  obtain ⟨_, b, off, e, c0, _⟩ := hL l.length m99 (by simp)
  cases e
  rw [Nat.zero_add] at c0
  exact c0

end Go.Proofs.YtcokccfbeonlnaaDoor
