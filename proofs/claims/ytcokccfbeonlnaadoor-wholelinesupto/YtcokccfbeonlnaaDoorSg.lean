import Derived.Test.YtcokccfbeonlnaaDoorSf
set_option linter.unusedVariables false
set_option linter.unusedSimpArgs false
namespace Go.Proofs.YtcokccfbeonlnaaDoor
open Go.RowKit
open Go.Lib (strCells strCells_length)

def addg (gs : List (Nat × Nat)) (l m : Nat) : List (Nat × Nat) := if m = 0 then gs else gs ++ [(l, m)]
theorem weave_addg {f : Nat} {gs : List (Nat × Nat)} {t : List UInt8} (m : Nat) (h : Ups f gs t.length) : weave f (addg gs t.length m) t = weave f gs t ++ List.replicate m 32 := by
  unfold addg
  by_cases hm : m = 0
  · rw [if_pos hm, hm]; simp
  · rw [if_neg hm]; exact weave_gap m h
theorem ups_addg {f : Nat} {gs : List (Nat × Nat)} {k : Nat} (m : Nat) (h : Ups f gs k) : Ups f (addg gs k m) k := by
  unfold addg
  split
  · exact h
  · exact h.snoc m
theorem sums_addg (gs : List (Nat × Nat)) (l m : Nat) : sums (addg gs l m) = sums gs + m := by
  unfold addg
  split
  · omega
  · exact sums_app _ _ _
theorem lt_addg (gs : List (Nat × Nat)) (l m n : Nat) (h : ∀ x ∈ gs, x.1 < n) (hl : l < n) : ∀ x ∈ addg gs l m, x.1 < n := by
  unfold addg
  split
  · exact h
  · intro x hx
    rcases List.mem_append.1 hx with hx | hx
    · exact h x hx
    · simp at hx; subst hx; exact hl
theorem len_addg (gs : List (Nat × Nat)) (l m : Nat) (h : gs.length ≤ sums gs) : (addg gs l m).length ≤ sums (addg gs l m) := by
  rw [sums_addg]; unfold addg
  split
  · omega
  · simp; omega

theorem cl_bl (m d c : Nat) (v tv : Value) (l : Nat) (gs : List (Nat × Nat)) (w : World) (hc : w.heap[c]? = some (.cells #[tv] 32 (0, 0))) (htv : ∃ p cap, tv = .slice p l cap) (hd : w.heap[d]? = some (.cells #[v] 76 (0, 0))) (ho : w.ownsRow 0 89 2 v gs.length (flat eg gs)) (hn : gs.length ≤ 1073741824) (hm2 : m ≤ 9223372036854775807) (hl : l ≤ 9223372036854775807) :
    Calls Tryd.prog 76 #[.int .i64 m, .pointer (some ⟨d, 0, none⟩), .pointer (some ⟨c, 0, none⟩)] w fun e w' => e = .returned (.tuple #[]) ∧ ∃ v', w'.heap[d]? = some (.cells #[v'] 76 (0, 0)) ∧ w'.ownsRow 0 89 2 v' (addg gs l m).length (flat eg (addg gs l m)) ∧ (v'.ownBlock = v.ownBlock ∨ ∃ b, w.heap.size ≤ b ∧ v'.ownBlock = some b) ∧ Kp (fun k => k = d ∨ some k = v.ownBlock) w w' := by
  unfold addg
  by_cases hm : m = 0
  · subst hm
    simp only [if_pos]
    refine (cl_none 0 d c w (Int.le_refl _)).mono ?_
    rintro e w' ⟨rfl, rfl⟩
    exact ⟨rfl, v, hd, ho, .inl rfl, Kp.refl _ _⟩
  · simp only [if_neg hm]
    refine (cl_blanks m d c v tv gs.length l (flat eg gs) w hc htv hd ho hn (by omega) hm2 hl).mono ?_
    rintro e w' ⟨rfl, v', h1, h2, h3, h4⟩
    refine ⟨rfl, v', h1, ?_, h3, h4⟩
    rw [List.length_append, flat_append]
    simpa [flat] using h2

/-- What a call has gathered. -/
structure Ga (own : Nat → Nat) (i : Nat) (w0 : World) (g c d h : Nat) (sv : Array Value) (w : World) (text : List UInt8) (gs : List (Nat × Nat)) : Prop where
  hg : w.heap[g]? = some (.cells sv 78 (0, 0))
  hc : ∃ tv, w.heap[c]? = some (.cells #[tv] 32 (0, 0)) ∧ w.ownsRow 0 5 1 tv text.length (bc text) ∧ ∀ k, tv.ownBlock = some k → own k = i ∨ w0.heap.size ≤ k
  hd : ∃ gv, w.heap[d]? = some (.cells #[gv] 76 (0, 0)) ∧ w.ownsRow 0 89 2 gv gs.length (flat eg gs) ∧ ∀ k, gv.ownBlock = some k → own k = i ∨ w0.heap.size ≤ k
  hh : w.heap[h]? = some (.cells #[.pointer (some ⟨g, 0, none⟩)] 49 (0, 0))
  kp : Kp (fun k => own k = i) w0 w
  lc : w0.heap.size ≤ c
  ld : w0.heap.size ≤ d

theorem ne_of_blk {w : World} {a b : Nat} {x y : Array Value} {s t : TypeId} {f e : Nat × Nat} (ha : w.heap[a]? = some (.cells x s f)) (hb : w.heap[b]? = some (.cells y t e)) (h : s ≠ t) : a ≠ b := by
  rintro rfl
  rw [ha] at hb
  injection hb with h1
  injection h1 with _ h2
  exact h h2

theorem Ga.below {own : Nat → Nat} {i : Nat} {w0 : World} {g c d h : Nat} {sv : Array Value} {w w' : World} {text : List UInt8} {gs : List (Nat × Nat)} (H : Ga own i w0 g c d h sv w text gs) (hb : Below w.heap.size w w') : Ga own i w0 g c d h sv w' text gs := by
  obtain ⟨tv, h1, h2, h3⟩ := H.hc
  obtain ⟨gv, k1, k2, k3⟩ := H.hd
  exact ⟨blk_below H.hg hb, ⟨tv, blk_below h1 hb, row_below h2 hb, h3⟩, ⟨gv, blk_below k1 hb, row_below k2 hb, k3⟩, blk_below H.hh hb, H.kp.step (Kp.of_below (S := fun k => own k = i) hb) (fun _ _ h => h), H.lc, H.ld⟩

theorem Ga.blanks {own : Nat → Nat} {i : Nat} {w0 : World} {g c d h : Nat} {sv : Array Value} {w : World} {text : List UInt8} {gs : List (Nat × Nat)} (H : Ga own i w0 g c d h sv w text gs) (m : Nat) (hn : gs.length ≤ 1073741824) (hm : m ≤ 9223372036854775807) (hl : text.length ≤ 9223372036854775807) :
    Calls Tryd.prog 76 #[.int .i64 m, .pointer (some ⟨d, 0, none⟩), .pointer (some ⟨c, 0, none⟩)] w fun e w' => e = .returned (.tuple #[]) ∧ Ga own i w0 g c d h sv w' text (addg gs text.length m) := by
  obtain ⟨tv, h1, h2, h3⟩ := H.hc
  obtain ⟨gv, k1, k2, k3⟩ := H.hd
  obtain ⟨p, cap, hv, _, _⟩ := row_shape h2
  refine (cl_bl m d c gv tv text.length gs w h1 ⟨p, cap, hv⟩ k1 k2 hn hm hl).mono ?_
  rintro e w' ⟨rfl, v', a1, a2, a3, a4⟩
  have hne : ∀ {x : Array Value} {k : Nat} {T : TypeId}, w.heap[k]? = some (.cells x T (0, 0)) → T ≠ 76 → T ≠ 89 → ¬ (k = d ∨ some k = gv.ownBlock) := by
    intro x k T hk t1 t2 hh
    rcases hh with hh | hh
    · exact ne_of_blk hk k1 t1 hh
    · exact row_ne k2 hk t2 hh.symm
  refine ⟨rfl, a4.blk H.hg (hne H.hg (by decide) (by decide)), ⟨tv, a4.blk h1 (hne h1 (by decide) (by decide)), a4.row h2 ?_, h3⟩, ⟨v', a1, a2, ?_⟩, a4.blk H.hh (hne H.hh (by decide) (by decide)), H.kp.step a4 ?_, H.lc, H.ld⟩
  · intro k hk hS
    rcases hS with hS | hS
    · subst hS; exact row_ne h2 k1 (by decide) hk
    · rcases h2.2 with ⟨rfl, _⟩ | ⟨b, cap, cur, rfl, _, hb, _⟩
      · cases hk
      · simp only [Value.ownBlock, Option.some.injEq] at hk
        subst hk
        exact row_ne k2 hb (by decide) hS.symm
  · intro k hk
    rcases a3 with a3 | ⟨b, hb, a3⟩
    · exact k3 k (by rw [← a3]; exact hk)
    · rw [a3] at hk; injection hk with hk; subst hk
      exact .inr (Nat.le_trans H.kp.size hb)
  · intro j hj hS
    rcases hS with hS | hS
    · have := H.ld; omega
    · rcases k3 j hS.symm with h | h
      · exact h
      · omega

theorem Ga.text {own : Nat → Nat} {i : Nat} {w0 : World} {g c d h : Nat} {sv : Array Value} {w : World} {text : List UInt8} {gs : List (Nat × Nat)} (H : Ga own i w0 g c d h sv w text gs) (t : ByteArray) (hn : text.length + t.size ≤ 70368744177664) :
    Calls Tryd.prog 77 #[.string t, .pointer (some ⟨c, 0, none⟩)] w fun e w' => e = .returned (.tuple #[]) ∧ Ga own i w0 g c d h sv w' (text ++ t.data.toList) gs := by
  obtain ⟨tv, h1, h2, h3⟩ := H.hc
  obtain ⟨gv, k1, k2, k3⟩ := H.hd
  refine (cl_text c tv text.length (bc text) t w h1 h2 hn).mono ?_
  rintro e w' ⟨rfl, v', a1, a2, a3, a4⟩
  have hne : ∀ {x : Array Value} {k : Nat} {T : TypeId}, w.heap[k]? = some (.cells x T (0, 0)) → T ≠ 32 → T ≠ 5 → ¬ (k = c ∨ some k = tv.ownBlock) := by
    intro x k T hk t1 t2 hh
    rcases hh with hh | hh
    · exact ne_of_blk hk h1 t1 hh
    · exact row_ne h2 hk t2 hh.symm
  have hlen : (text ++ t.data.toList).length = text.length + t.size := by rw [List.length_append]; rfl
  refine ⟨rfl, a4.blk H.hg (hne H.hg (by decide) (by decide)), ⟨v', a1, by rw [hlen, bc_app]; exact a2, ?_⟩, ⟨gv, a4.blk k1 (hne k1 (by decide) (by decide)), a4.row k2 ?_, k3⟩, a4.blk H.hh (hne H.hh (by decide) (by decide)), H.kp.step a4 ?_, H.lc, H.ld⟩
  · intro k hk
    rcases a3 with a3 | a3
    · exact h3 k (by rw [← a3]; exact hk)
    · rw [a3] at hk; injection hk with hk; subst hk
      exact .inr H.kp.size
  · intro k hk hS
    rcases hS with hS | hS
    · subst hS; exact row_ne k2 h1 (by decide) hk
    · rcases k2.2 with ⟨rfl, _⟩ | ⟨b, cap, cur, rfl, _, hb, _⟩
      · cases hk
      · simp only [Value.ownBlock, Option.some.injEq] at hk
        subst hk
        exact row_ne h2 hb (by decide) hS.symm
  · intro j hj hS
    rcases hS with hS | hS
    · have := H.lc; omega
    · rcases h3 j hS.symm with h | h
      · exact h
      · omega

/-- The sink, as the document has it. -/
structure St6 where
  fresh : Bool
  col : Nat
  wait : Nat
  out : List UInt8

/-- The code's sink at block g, of the label i. -/
structure SK (own : Nat → Nat) (i : Nat) (w : World) (g : Nat) (s : St6) : Prop where
  lab : own g = i
  ex : ∃ tv gv text gs, w.heap[g]? = some (.cells (sk (!s.fresh) s.col s.wait tv gv) 78 (0, 0)) ∧ (w.ownsRow 0 5 1 tv text.length (bc text) ∧ ∀ k, tv.ownBlock = some k → own k = i) ∧ (w.ownsRow 0 89 2 gv gs.length (flat eg gs) ∧ ∀ k, gv.ownBlock = some k → own k = i) ∧ Ups 0 gs text.length ∧ s.out = weave 0 gs text ∧ (gs.length ≤ sums gs ∧ ∀ x ∈ gs, x.1 < text.length)

theorem fr_row {own own' : Nat → Nat} {i j : Nat} {w w' : World} {e sz n : Nat} {v : Value} {xs : List Value} (hf : Fr j own own' w w') (hij : i ≠ j) (h : w.ownsRow 0 e sz v n xs ∧ ∀ k, v.ownBlock = some k → own k = i) : w'.ownsRow 0 e sz v n xs ∧ ∀ k, v.ownBlock = some k → own' k = i := by
  obtain ⟨h1, h2⟩ := h
  refine ⟨⟨h1.1, ?_⟩, fun k hk => ?_⟩
  · rcases h1.2 with h3 | ⟨g, cap, cur, rfl, h4, h5, h6⟩
    · exact .inl h3
    · exact .inr ⟨g, cap, cur, rfl, h4, (hf.block g (blk_lt h5) (by rw [h2 g rfl]; exact hij)).trans h5, h6⟩
  · rw [hf.old k (h1.lt k hk).2]; exact h2 k hk

theorem SK.kept {own own' : Nat → Nat} {i j : Nat} {w w' : World} {g : Nat} {s : St6} (h : SK own i w g s) (hf : Fr j own own' w w') (hij : i ≠ j) : SK own' i w' g s := by
  obtain ⟨tv, gv, text, gs, h1, h2, h3, h4⟩ := h.ex
  exact ⟨(hf.old g (blk_lt h1)).trans h.lab, tv, gv, text, gs, (hf.block g (blk_lt h1) (by rw [h.lab]; exact hij)).trans h1, fr_row hf hij h2, fr_row hf hij h3, h4⟩
theorem SK.below {own : Nat → Nat} {i : Nat} {w w' : World} {g : Nat} {s : St6} (h : SK own i w g s) (hb : Below w.heap.size w w') : SK own i w' g s :=
  h.kept (Fr.of_below (i := i + 1) hb) (by omega)
theorem SK.len {own : Nat → Nat} {i : Nat} {w : World} {g : Nat} {s : St6} (h : SK own i w g s) : g < w.heap.size := by
  obtain ⟨tv, gv, text, gs, h1, _⟩ := h.ex
  exact blk_lt h1

/-- What a call on a sink leaves: the labels of the new blocks, and all else as it was. -/
def Af (own : Nat → Nat) (i : Nat) (w w' : World) (g : Nat) (s : St6) : Prop := ∃ own', Nf own' w' ∧ Fr i own own' w w' ∧ SK own' i w' g s
theorem Af.here {own : Nat → Nat} {i : Nat} {w w' : World} {g : Nat} {s : St6} (h : SK own i w g s) (hn : Nf own w) (hb : Below w.heap.size w w') : Af own i w w' g s :=
  ⟨own, hn.below hb.size, Fr.of_below hb, h.below hb⟩

/-- The end of a call that gathers. -/
theorem Ga.fin {own : Nat → Nat} {i : Nat} {w0 w w' : World} {g c d h : Nat} {sv : Array Value} {text : List UInt8} {gs : List (Nat × Nat)} (H : Ga own i w0 g c d h sv w text gs) (hn : Nf own w0) (hlab : own g = i) (hg0 : g < w0.heap.size)
    (tv gv : Value) (h1 : w.ownsRow 0 5 1 tv text.length (bc text)) (h2 : ∀ k, tv.ownBlock = some k → own k = i ∨ w0.heap.size ≤ k) (k1 : w.ownsRow 0 89 2 gv gs.length (flat eg gs)) (k2 : ∀ k, gv.ownBlock = some k → own k = i ∨ w0.heap.size ≤ k)
    (s : St6) (hgw : w'.heap[g]? = some (.cells (sk (!s.fresh) s.col s.wait tv gv) 78 (0, 0))) (hk : Kp (fun k => k = g) w w') (hu : Ups 0 gs text.length) (ho : s.out = weave 0 gs text) (hgs : gs.length ≤ sums gs ∧ ∀ x ∈ gs, x.1 < text.length) : Af own i w0 w' g s := by
  have hs := H.kp.size
  have hs' := hk.size
  have rw1 := row_ne h1 H.hg (by decide)
  have rw2 := row_ne k1 H.hg (by decide)
  have lt1 := fun k hk => (h1.lt k hk).2
  have lt2 := fun k hk => (k1.lt k hk).2
  refine ⟨fun k => if k < w0.heap.size then own k else if tv.ownBlock = some k ∨ gv.ownBlock = some k then i else 0, ?_, ?_, ?_, tv, gv, text, gs, hgw, ⟨hk.row h1 (fun k e1 e2 => rw1 (by rw [e1, e2])), ?_⟩, ⟨hk.row k1 (fun k e1 e2 => rw2 (by rw [e1, e2])), ?_⟩, hu, ho, hgs⟩
  · intro k hkk
    show (if k < w0.heap.size then own k else if tv.ownBlock = some k ∨ gv.ownBlock = some k then i else 0) = 0
    rw [if_neg (by omega), if_neg]
    rintro (e | e)
    · have := lt1 k e; omega
    · have := lt2 k e; omega
  · refine (H.kp.step hk (fun j _ e => by subst e; exact hlab)).fr (fun k _ e => e) (fun k hkk => if_pos hkk)
  · show (if g < w0.heap.size then own g else _) = i
    rw [if_pos hg0]; exact hlab
  · intro k e
    show (if k < w0.heap.size then own k else if tv.ownBlock = some k ∨ gv.ownBlock = some k then i else 0) = i
    by_cases hkk : k < w0.heap.size
    · rw [if_pos hkk]
      rcases h2 k e with h | h
      · exact h
      · omega
    · rw [if_neg hkk, if_pos (.inl e)]
  · intro k e
    show (if k < w0.heap.size then own k else if tv.ownBlock = some k ∨ gv.ownBlock = some k then i else 0) = i
    by_cases hkk : k < w0.heap.size
    · rw [if_pos hkk]
      rcases k2 k e with h | h
      · exact h
      · omega
    · rw [if_neg hkk, if_pos (.inr e)]
end Go.Proofs.YtcokccfbeonlnaaDoor
