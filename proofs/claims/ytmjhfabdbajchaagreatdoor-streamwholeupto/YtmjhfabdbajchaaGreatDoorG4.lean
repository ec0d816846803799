import Derived.Test.YtmjhfabdbajchaaGreatDoorG3
import Derived.Laws.AppendOwnNone
import Derived.Lib.RepeatB
import Derived.Deep.RegionHeld3
set_option linter.unusedVariables false
set_option linter.unusedSimpArgs false
namespace Go.Proofs.YtmjhfabdbajchaaGreatDoor
open Go.RowKit
open Go.Lib (strCells strCells_length)

def addg (gs : List (Nat × Nat)) (l m : Nat) : List (Nat × Nat) := if m = 0 then gs else gs ++ [(l, m)]
theorem weave_addg {f : Nat} {gs : List (Nat × Nat)} {t : List UInt8} (m : Nat) (h : Ups f gs t.length) : weave f (addg gs t.length m) t = weave f gs t ++ List.replicate m 32 := by
  unfold addg
  by_cases hm : m = 0
  · rw [if_pos hm, hm]; simp
  · rw [if_neg hm]; exact weave_gap m h
theorem ups_addg {f : Nat} {gs : List (Nat × Nat)} {k : Nat} (m : Nat) (h : Ups f gs k) : Ups f (addg gs k m) k := by
  unfold addg
  split
  · exact h
  · exact h.snoc m
theorem sums_addg (gs : List (Nat × Nat)) (l m : Nat) : sums (addg gs l m) = sums gs + m := by
  unfold addg
  split
  · omega
  · exact sums_app _ _ _
theorem lt_addg (gs : List (Nat × Nat)) (l m n : Nat) (h : ∀ x ∈ gs, x.1 < n) (hl : l < n) : ∀ x ∈ addg gs l m, x.1 < n := by
  unfold addg
  split
  · exact h
  · intro x hx
    rcases List.mem_append.1 hx with hx | hx
    · exact h x hx
    · simp at hx; subst hx; exact hl
theorem len_addg (gs : List (Nat × Nat)) (l m : Nat) (h : gs.length ≤ sums gs) : (addg gs l m).length ≤ sums (addg gs l m) := by
  rw [sums_addg]; unfold addg
  split
  · omega
  · simp; omega

theorem cl_bl (m d c : Nat) (v tv : Value) (l : Nat) (gs : List (Nat × Nat)) (w : World) (hc : w.heap[c]? = some (.cells #[tv] 46 (0, 0))) (htv : ∃ p cap, tv = .slice p l cap) (hd : w.heap[d]? = some (.cells #[v] 103 (0, 0))) (ho : w.ownsRow 0 113 2 v gs.length (flat eg gs)) (hn : gs.length ≤ 1073741824) (hm2 : m ≤ 9223372036854775807) (hl : l ≤ 9223372036854775807) :
    Calls Tryz.prog 114 #[.int .i64 m, .pointer (some ⟨d, 0, none⟩), .pointer (some ⟨c, 0, none⟩)] w fun e w' => e = .returned (.tuple #[]) ∧ ∃ v', w'.heap[d]? = some (.cells #[v'] 103 (0, 0)) ∧ w'.ownsRow 0 113 2 v' (addg gs l m).length (flat eg (addg gs l m)) ∧ (v'.ownBlock = v.ownBlock ∨ ∃ b, w.heap.size ≤ b ∧ v'.ownBlock = some b) ∧ Kp (fun k => k = d ∨ some k = v.ownBlock) w w' := by
  unfold addg
  by_cases hm : m = 0
  · subst hm
    simp only [if_pos]
    refine (cl_none 0 d c w (Int.le_refl _)).mono ?_
    rintro e w' ⟨rfl, rfl⟩
    exact ⟨rfl, v, hd, ho, .inl rfl, Kp.refl _ _⟩
  · simp only [if_neg hm]
    refine (cl_blanks m d c v tv gs.length l (flat eg gs) w hc htv hd ho hn (by omega) hm2 hl).mono ?_
    rintro e w' ⟨rfl, v', h1, h2, h3, h4⟩
    refine ⟨rfl, v', h1, ?_, h3, h4⟩
    rw [List.length_append, flat_append]
    simpa [flat] using h2

/-- What a call has gathered. -/
structure Ga (own : Nat → Nat) (i : Nat) (w0 : World) (g c d h : Nat) (sv : Array Value) (w : World) (text : List UInt8) (gs : List (Nat × Nat)) : Prop where
  hg : w.heap[g]? = some (.cells sv 105 (0, 0))
  hc : ∃ tv, w.heap[c]? = some (.cells #[tv] 46 (0, 0)) ∧ w.ownsRow 0 5 1 tv text.length (bc text) ∧ ∀ k, tv.ownBlock = some k → own k = i ∨ w0.heap.size ≤ k
  hd : ∃ gv, w.heap[d]? = some (.cells #[gv] 103 (0, 0)) ∧ w.ownsRow 0 113 2 gv gs.length (flat eg gs) ∧ ∀ k, gv.ownBlock = some k → own k = i ∨ w0.heap.size ≤ k
  hh : w.heap[h]? = some (.cells #[.pointer (some ⟨g, 0, none⟩)] 59 (0, 0))
  kp : Kp (fun k => own k = i) w0 w
  lc : w0.heap.size ≤ c
  ld : w0.heap.size ≤ d

theorem ne_of_blk {w : World} {a b : Nat} {x y : Array Value} {s t : TypeId} {f e : Nat × Nat} (ha : w.heap[a]? = some (.cells x s f)) (hb : w.heap[b]? = some (.cells y t e)) (h : s ≠ t) : a ≠ b := by
  rintro rfl
  rw [ha] at hb
  injection hb with h1
  injection h1 with _ h2
  exact h h2

theorem Ga.below {own : Nat → Nat} {i : Nat} {w0 : World} {g c d h : Nat} {sv : Array Value} {w w' : World} {text : List UInt8} {gs : List (Nat × Nat)} (H : Ga own i w0 g c d h sv w text gs) (hb : Below w.heap.size w w') : Ga own i w0 g c d h sv w' text gs := by
  obtain ⟨tv, h1, h2, h3⟩ := H.hc
  obtain ⟨gv, k1, k2, k3⟩ := H.hd
  exact ⟨blk_below H.hg hb, ⟨tv, blk_below h1 hb, row_below h2 hb, h3⟩, ⟨gv, blk_below k1 hb, row_below k2 hb, k3⟩, blk_below H.hh hb, H.kp.step (Kp.of_below (S := fun k => own k = i) hb) (fun _ _ h => h), H.lc, H.ld⟩

theorem Ga.blanks {own : Nat → Nat} {i : Nat} {w0 : World} {g c d h : Nat} {sv : Array Value} {w : World} {text : List UInt8} {gs : List (Nat × Nat)} (H : Ga own i w0 g c d h sv w text gs) (m : Nat) (hn : gs.length ≤ 1073741824) (hm : m ≤ 9223372036854775807) (hl : text.length ≤ 9223372036854775807) :
    Calls Tryz.prog 114 #[.int .i64 m, .pointer (some ⟨d, 0, none⟩), .pointer (some ⟨c, 0, none⟩)] w fun e w' => e = .returned (.tuple #[]) ∧ Ga own i w0 g c d h sv w' text (addg gs text.length m) := by
  obtain ⟨tv, h1, h2, h3⟩ := H.hc
  obtain ⟨gv, k1, k2, k3⟩ := H.hd
  obtain ⟨p, cap, hv, _, _⟩ := row_shape h2
  refine (cl_bl m d c gv tv text.length gs w h1 ⟨p, cap, hv⟩ k1 k2 hn hm hl).mono ?_
  rintro e w' ⟨rfl, v', a1, a2, a3, a4⟩
  have hne : ∀ {x : Array Value} {k : Nat} {T : TypeId}, w.heap[k]? = some (.cells x T (0, 0)) → T ≠ 103 → T ≠ 113 → ¬ (k = d ∨ some k = gv.ownBlock) := by
    intro x k T hk t1 t2 hh
    rcases hh with hh | hh
    · exact ne_of_blk hk k1 t1 hh
    · exact row_ne k2 hk t2 hh.symm
  refine ⟨rfl, a4.blk H.hg (hne H.hg (by decide) (by decide)), ⟨tv, a4.blk h1 (hne h1 (by decide) (by decide)), a4.row h2 ?_, h3⟩, ⟨v', a1, a2, ?_⟩, a4.blk H.hh (hne H.hh (by decide) (by decide)), H.kp.step a4 ?_, H.lc, H.ld⟩
  · intro k hk hS
    rcases hS with hS | hS
    · subst hS; exact row_ne h2 k1 (by decide) hk
    · rcases h2.2 with ⟨rfl, _⟩ | ⟨b, cap, cur, rfl, _, hb, _⟩
      · cases hk
      · simp only [Value.ownBlock, Option.some.injEq] at hk
        subst hk
        exact row_ne k2 hb (by decide) hS.symm
  · intro k hk
    rcases a3 with a3 | ⟨b, hb, a3⟩
    · exact k3 k (by rw [← a3]; exact hk)
    · rw [a3] at hk; injection hk with hk; subst hk
      exact .inr (Nat.le_trans H.kp.size hb)
  · intro j hj hS
    rcases hS with hS | hS
    · have := H.ld; omega
    · rcases k3 j hS.symm with h | h
      · exact h
      · omega

theorem Ga.text {own : Nat → Nat} {i : Nat} {w0 : World} {g c d h : Nat} {sv : Array Value} {w : World} {text : List UInt8} {gs : List (Nat × Nat)} (H : Ga own i w0 g c d h sv w text gs) (t : ByteArray) (hn : text.length + t.size ≤ 70368744177664) :
    Calls Tryz.prog 115 #[.string t, .pointer (some ⟨c, 0, none⟩)] w fun e w' => e = .returned (.tuple #[]) ∧ Ga own i w0 g c d h sv w' (text ++ t.data.toList) gs := by
  obtain ⟨tv, h1, h2, h3⟩ := H.hc
  obtain ⟨gv, k1, k2, k3⟩ := H.hd
  refine (cl_text c tv text.length (bc text) t w h1 h2 hn).mono ?_
  rintro e w' ⟨rfl, v', a1, a2, a3, a4⟩
  have hne : ∀ {x : Array Value} {k : Nat} {T : TypeId}, w.heap[k]? = some (.cells x T (0, 0)) → T ≠ 46 → T ≠ 5 → ¬ (k = c ∨ some k = tv.ownBlock) := by
    intro x k T hk t1 t2 hh
    rcases hh with hh | hh
    · exact ne_of_blk hk h1 t1 hh
    · exact row_ne h2 hk t2 hh.symm
  have hlen : (text ++ t.data.toList).length = text.length + t.size := by rw [List.length_append]; rfl
  refine ⟨rfl, a4.blk H.hg (hne H.hg (by decide) (by decide)), ⟨v', a1, by rw [hlen, bc_app]; exact a2, ?_⟩, ⟨gv, a4.blk k1 (hne k1 (by decide) (by decide)), a4.row k2 ?_, k3⟩, a4.blk H.hh (hne H.hh (by decide) (by decide)), H.kp.step a4 ?_, H.lc, H.ld⟩
  · intro k hk
    rcases a3 with a3 | a3
    · exact h3 k (by rw [← a3]; exact hk)
    · rw [a3] at hk; injection hk with hk; subst hk
      exact .inr H.kp.size
  · intro k hk hS
    rcases hS with hS | hS
    · subst hS; exact row_ne k2 h1 (by decide) hk
    · rcases k2.2 with ⟨rfl, _⟩ | ⟨b, cap, cur, rfl, _, hb, _⟩
      · cases hk
      · simp only [Value.ownBlock, Option.some.injEq] at hk
        subst hk
        exact row_ne h2 hb (by decide) hS.symm
  · intro j hj hS
    rcases hS with hS | hS
    · have := H.lc; omega
    · rcases h3 j hS.symm with h | h
      · exact h
      · omega

/-- The sink, as the document has it. -/
structure St6 where
  fresh : Bool
  col : Nat
  wait : Nat
  out : List UInt8

/-- The code's sink at block g, of the label i. -/
structure SK (own : Nat → Nat) (i : Nat) (w : World) (g : Nat) (s : St6) : Prop where
  lab : own g = i
  ex : ∃ tv gv text gs, w.heap[g]? = some (.cells (sk (!s.fresh) s.col s.wait tv gv) 105 (0, 0)) ∧ (w.ownsRow 0 5 1 tv text.length (bc text) ∧ ∀ k, tv.ownBlock = some k → own k = i) ∧ (w.ownsRow 0 113 2 gv gs.length (flat eg gs) ∧ ∀ k, gv.ownBlock = some k → own k = i) ∧ Ups 0 gs text.length ∧ s.out = weave 0 gs text ∧ (gs.length ≤ sums gs ∧ ∀ x ∈ gs, x.1 < text.length)

theorem fr_row {own own' : Nat → Nat} {i j : Nat} {w w' : World} {e sz n : Nat} {v : Value} {xs : List Value} (hf : Fr j own own' w w') (hij : i ≠ j) (h : w.ownsRow 0 e sz v n xs ∧ ∀ k, v.ownBlock = some k → own k = i) : w'.ownsRow 0 e sz v n xs ∧ ∀ k, v.ownBlock = some k → own' k = i := by
  obtain ⟨h1, h2⟩ := h
  refine ⟨⟨h1.1, ?_⟩, fun k hk => ?_⟩
  · rcases h1.2 with h3 | ⟨g, cap, cur, rfl, h4, h5, h6⟩
    · exact .inl h3
    · exact .inr ⟨g, cap, cur, rfl, h4, (hf.block g (blk_lt h5) (by rw [h2 g rfl]; exact hij)).trans h5, h6⟩
  · rw [hf.old k (h1.lt k hk).2]; exact h2 k hk

theorem SK.kept {own own' : Nat → Nat} {i j : Nat} {w w' : World} {g : Nat} {s : St6} (h : SK own i w g s) (hf : Fr j own own' w w') (hij : i ≠ j) : SK own' i w' g s := by
  obtain ⟨tv, gv, text, gs, h1, h2, h3, h4⟩ := h.ex
  exact ⟨(hf.old g (blk_lt h1)).trans h.lab, tv, gv, text, gs, (hf.block g (blk_lt h1) (by rw [h.lab]; exact hij)).trans h1, fr_row hf hij h2, fr_row hf hij h3, h4⟩
theorem SK.below {own : Nat → Nat} {i : Nat} {w w' : World} {g : Nat} {s : St6} (h : SK own i w g s) (hb : Below w.heap.size w w') : SK own i w' g s :=
  h.kept (Fr.of_below (i := i + 1) hb) (by omega)
theorem SK.len {own : Nat → Nat} {i : Nat} {w : World} {g : Nat} {s : St6} (h : SK own i w g s) : g < w.heap.size := by
  obtain ⟨tv, gv, text, gs, h1, _⟩ := h.ex
  exact blk_lt h1

/-- What a call on a sink leaves: the labels of the new blocks, and all else as it was. -/
def Af (own : Nat → Nat) (i : Nat) (w w' : World) (g : Nat) (s : St6) : Prop := ∃ own', Nf own' w' ∧ Fr i own own' w w' ∧ SK own' i w' g s
theorem Af.here {own : Nat → Nat} {i : Nat} {w w' : World} {g : Nat} {s : St6} (h : SK own i w g s) (hn : Nf own w) (hb : Below w.heap.size w w') : Af own i w w' g s :=
  ⟨own, hn.below hb.size, Fr.of_below hb, h.below hb⟩

/-- The end of a call that gathers. -/
theorem Ga.fin {own : Nat → Nat} {i : Nat} {w0 w w' : World} {g c d h : Nat} {sv : Array Value} {text : List UInt8} {gs : List (Nat × Nat)} (H : Ga own i w0 g c d h sv w text gs) (hn : Nf own w0) (hlab : own g = i) (hg0 : g < w0.heap.size)
    (tv gv : Value) (h1 : w.ownsRow 0 5 1 tv text.length (bc text)) (h2 : ∀ k, tv.ownBlock = some k → own k = i ∨ w0.heap.size ≤ k) (k1 : w.ownsRow 0 113 2 gv gs.length (flat eg gs)) (k2 : ∀ k, gv.ownBlock = some k → own k = i ∨ w0.heap.size ≤ k)
    (s : St6) (hgw : w'.heap[g]? = some (.cells (sk (!s.fresh) s.col s.wait tv gv) 105 (0, 0))) (hk : Kp (fun k => k = g) w w') (hu : Ups 0 gs text.length) (ho : s.out = weave 0 gs text) (hgs : gs.length ≤ sums gs ∧ ∀ x ∈ gs, x.1 < text.length) : Af own i w0 w' g s := by
  have hs := H.kp.size
  have hs' := hk.size
  have rw1 := row_ne h1 H.hg (by decide)
  have rw2 := row_ne k1 H.hg (by decide)
  have lt1 := fun k hk => (h1.lt k hk).2
  have lt2 := fun k hk => (k1.lt k hk).2
  refine ⟨fun k => if k < w0.heap.size then own k else if tv.ownBlock = some k ∨ gv.ownBlock = some k then i else 0, ?_, ?_, ?_, tv, gv, text, gs, hgw, ⟨hk.row h1 (fun k e1 e2 => rw1 (by rw [e1, e2])), ?_⟩, ⟨hk.row k1 (fun k e1 e2 => rw2 (by rw [e1, e2])), ?_⟩, hu, ho, hgs⟩
  · intro k hkk
    show (if k < w0.heap.size then own k else if tv.ownBlock = some k ∨ gv.ownBlock = some k then i else 0) = 0
    rw [if_neg (by omega), if_neg]
    rintro (e | e)
    · have := lt1 k e; omega
    · have := lt2 k e; omega
  · refine (H.kp.step hk (fun j _ e => by subst e; exact hlab)).fr (fun k _ e => e) (fun k hkk => if_pos hkk)
  · show (if g < w0.heap.size then own g else _) = i
    rw [if_pos hg0]; exact hlab
  · intro k e
    show (if k < w0.heap.size then own k else if tv.ownBlock = some k ∨ gv.ownBlock = some k then i else 0) = i
    by_cases hkk : k < w0.heap.size
    · rw [if_pos hkk]
      rcases h2 k e with h | h
      · exact h
      · omega
    · rw [if_neg hkk, if_pos (.inl e)]
  · intro k e
    show (if k < w0.heap.size then own k else if tv.ownBlock = some k ∨ gv.ownBlock = some k then i else 0) = i
    by_cases hkk : k < w0.heap.size
    · rw [if_pos hkk]
      rcases k2 k e with h | h
      · exact h
      · omega
    · rw [if_neg hkk, if_pos (.inr e)]
end Go.Proofs.YtmjhfabdbajchaaGreatDoor
set_option linter.unusedVariables false
set_option linter.unusedSimpArgs false
namespace Go.Proofs.YtmjhfabdbajchaaGreatDoor
open Go.RowKit
open Go.Lib (strCells strCells_length)

def St6.feed (s : St6) (c : Nat) : St6 := ⟨true, c, 0, s.out ++ [10]⟩

/-- The deferred end of a call that gathers. -/
theorem ga_end {own : Nat → Nat} {i : Nat} {w0 w : World} {g c d h : Nat} {b : Bool} {col wait : Int} {tv0 gv0 : Value} {text : List UInt8} {gs : List (Nat × Nat)} (H : Ga own i w0 g c d h (sk b col wait tv0 gv0) w text gs) (htv0 : ∃ p n cap, tv0 = .slice p n cap) (hgv0 : ∃ p n cap, gv0 = .slice p n cap) (hn : Nf own w0) (hlab : own g = i) (hg0 : g < w0.heap.size)
    (u : FrameMode) (s : St6) (hu : Ups 0 gs text.length) (ho : s.out = weave 0 gs text) (hgs : gs.length ≤ sums gs ∧ ∀ x ∈ gs, x.1 < text.length) :
    CallsD Tryz.prog 116 #[.agg #[.bool (!s.fresh), .int .i64 s.col, .int .i64 s.wait], .pointer (some ⟨c, 0, none⟩), .pointer (some ⟨d, 0, none⟩), .pointer (some ⟨h, 0, none⟩)] u w fun e u' w' => u' = u ∧ (e = .returned (.tuple #[]) ∧ Af own i w0 w' g s) := by
  obtain ⟨tv, h1, h2, h3⟩ := H.hc
  obtain ⟨gv, k1, k2, k3⟩ := H.hd
  obtain ⟨p1, c1, e1, _, _⟩ := row_shape h2
  obtain ⟨p2, c2, e2, _, _⟩ := row_shape k2
  refine (cl_end u b (!s.fresh) col wait s.col s.wait c d h g tv0 gv0 tv gv w H.hg h1 k1 H.hh htv0 hgv0 ⟨_, _, _, e1⟩ ⟨_, _, _, e2⟩).mono ?_
  rintro e u' w' ⟨rfl, rfl, a1, a2⟩
  exact ⟨rfl, rfl, H.fin hn hlab hg0 tv gv h2 h3 k2 k3 s a1 a2 hu ho hgs⟩

theorem ga_start {own : Nat → Nat} {i : Nat} {w w' : World} {g c d h : Nat} {sv : Array Value} {tv gv : Value} {text : List UInt8} {gs : List (Nat × Nat)} (hg : w.heap[g]? = some (.cells sv 105 (0, 0))) (h1 : w.ownsRow 0 5 1 tv text.length (bc text) ∧ ∀ k, tv.ownBlock = some k → own k = i) (h2 : w.ownsRow 0 113 2 gv gs.length (flat eg gs) ∧ ∀ k, gv.ownBlock = some k → own k = i)
    (hB : (w'.heap[c]? = some (.cells #[tv] 46 (0, 0)) ∧ w'.heap[d]? = some (.cells #[gv] 103 (0, 0)) ∧ w'.heap[h]? = some (.cells #[.pointer (some ⟨g, 0, none⟩)] 59 (0, 0)) ∧ w.heap.size ≤ c ∧ w.heap.size ≤ d ∧ w.heap.size ≤ h) ∧ Below w.heap.size w w') : Ga own i w g c d h sv w' text gs := by
  obtain ⟨⟨b1, b2, b3, b4, b5, _⟩, hb⟩ := hB
  exact ⟨blk_below hg hb, ⟨tv, b1, row_below h1.1 hb, fun k hk => .inl (h1.2 k hk)⟩, ⟨gv, b2, row_below h2.1 hb, fun k hk => .inl (h2.2 k hk)⟩, b3, Kp.of_below hb, b4, b5⟩

set_option maxHeartbeats 1000000 in
theorem next_any (own : Nat → Nat) (i g : Nat) (s : St6) (c : Nat) (w : World) (h : SK own i w g s) (hn : Nf own w) (hb : s.out.length ≤ 1073741824) :
    Calls Tryz.prog 81 #[.pointer (some ⟨g, 0, none⟩), .int .i64 c] w fun e w' => e = .returned (.tuple #[]) ∧ Af own i w w' g (s.feed c) := by
  have hlt := h.len
  have hlab := h.lab
  obtain ⟨tv, gv, text, gs, h1, h2, h3, h4, h5, h6⟩ := h.ex
  obtain ⟨p1, c1, e1, _, _⟩ := row_shape h2.1
  obtain ⟨p2, c2, e2, _, _⟩ := row_shape h3.1
  have hwl := weave_len h4
  rw [← h5] at hwl
  have h61 := h6.1
  have HG := gather_any g (!s.fresh) s.col s.wait tv gv w h1 ⟨_, _, _, e1⟩ ⟨_, _, _, e2⟩
  have HS : Hid (∀ (w' : World) (c d h : Nat), ((w'.heap[c]? = some (.cells #[tv] 46 (0, 0)) ∧ w'.heap[d]? = some (.cells #[gv] 103 (0, 0)) ∧ w'.heap[h]? = some (.cells #[.pointer (some ⟨g, 0, none⟩)] 59 (0, 0)) ∧ w.heap.size ≤ c ∧ w.heap.size ≤ d ∧ w.heap.size ≤ h) ∧ Below w.heap.size w w') → Ga own i w g c d h (sk (!s.fresh) s.col s.wait tv gv) w' text gs) := fun w' c d h hB => ga_start h1 h2 h3 hB
  have HE : Hid (∀ (w' : World) (cb d h : Nat) (u : FrameMode), Ga own i w g cb d h (sk (!s.fresh) s.col s.wait tv gv) w' (text ++ [10]) gs → CallsD Tryz.prog 116 #[.agg #[.bool false, .int .i64 c, .int .i64 0], .pointer (some ⟨cb, 0, none⟩), .pointer (some ⟨d, 0, none⟩), .pointer (some ⟨h, 0, none⟩)] u w' fun e u' w' => u' = u ∧ (e = .returned (.tuple #[]) ∧ Af own i w w' g (s.feed c))) := fun w' cb d h u H =>
    ga_end H ⟨_, _, _, e1⟩ ⟨_, _, _, e2⟩ hn hlab hlt u (s.feed c) (h4.more (by simp)) (by show s.out ++ [10] = _; rw [h5, weave_app [10] h4]) ⟨h6.1, fun x hx => by have := h6.2 x hx; simp; omega⟩
  have HGH : Hid (Calls Tryz.prog 76 #[.pointer (some ⟨g, 0, none⟩)] w fun e w' => ∃ c d h, e = .returned (.tuple #[.func (.func 114) #[] #[.pointer (some ⟨d, 0, none⟩), .pointer (some ⟨c, 0, none⟩)], .func (.func 115) #[] #[.pointer (some ⟨c, 0, none⟩)], .func (.func 116) #[] #[.pointer (some ⟨c, 0, none⟩), .pointer (some ⟨d, 0, none⟩), .pointer (some ⟨h, 0, none⟩)]]) ∧ Ga own i w g c d h (sk (!s.fresh) s.col s.wait tv gv) w' text gs) := by
    refine HG.mono ?_
    rintro e w' ⟨c, d, h, rfl, hB⟩
    exact ⟨c, d, h, rfl, HS.out _ _ _ _ hB⟩
  have HL : Hid (text.length + 1 ≤ 70368744177664) := by show _ ≤ _; omega
  clear HG HS hn hlab hlt h h1 h2 h3 h4 h5 h6 h61 hwl e1 e2 hb
  go_enter_defers Tryz.func81, Tryz.ntmps81
  go_wp2_with (go_at_call 76; refine HGH.out.mono ?_; rintro e w1 ⟨cb, d, h, rfl, H⟩)
  have HH : Hid (Ga own i w g cb d h (sk (!s.fresh) s.col s.wait tv gv) w1 text gs) := H
  clear H
  refine (HH.out.text ⟨#[10]⟩ HL.out).mono ?_
  rintro e w2 ⟨rfl, H2⟩
  have HD : Hid (Ga own i w g cb d h (sk (!s.fresh) s.col s.wait tv gv) w2 (text ++ [10]) gs) := H2
  clear HH H2
  go_wp2_with fail
  refine leaves_cons (f := 116) (args := #[.agg #[.bool false, .int .i64 c, .int .i64 0], .pointer (some ⟨cb, 0, none⟩), .pointer (some ⟨d, 0, none⟩), .pointer (some ⟨h, 0, none⟩)]) (by simp) (by simp [go_sem]) ?_
  refine (HE.out _ _ _ _ .returning HD.out).mono ?_
  rintro e u' w'' ⟨rfl, rfl, hA⟩
  exact ⟨_, results_none rfl _ _ _, rfl, hA⟩
end Go.Proofs.YtmjhfabdbajchaaGreatDoor
set_option linter.unusedVariables false
set_option linter.unusedSimpArgs false
namespace Go.Proofs.YtmjhfabdbajchaaGreatDoor
open Go.RowKit
open Go.Lib (strCells strCells_length)

def St6.text (s : St6) (t : ByteArray) : St6 := if t.size = 0 then s else ⟨false, (ncol s.col s.wait t).toNat, 0, s.out ++ ((if s.fresh then List.replicate s.col 32 else []) ++ (List.replicate s.wait 32 ++ t.data.toList))⟩

theorem ne_list {t : ByteArray} (h : t.size ≠ 0) : t.toList.isEmpty = false := by
  rw [ByteArray.toList_eq]
  cases hd : t.data.toList with
  | nil => exfalso; apply h; show t.data.size = 0; rw [← Array.length_toList, hd]; rfl
  | cons a r => rfl

theorem ncol_bd (col wait : Nat) (t : ByteArray) : 0 ≤ ncol col wait t ∧ ncol col wait t ≤ col + wait + 2 * t.size := by
  have h1 := tw_bd t
  have h2 := tw_bd (aft t)
  have h3 := aft_size t
  unfold ncol
  split <;> omega

theorem text_nil (t : ByteArray) (w : World) : Calls Tryz.prog 44 #[.pointer none, .string t] w fun e w' => e = .returned (.int .i64 3) ∧ w' = w := by
  go_enter_defers Tryz.func44, Tryz.ntmps44
  go_wp2_with fail
  exact ⟨_, results_tmp rfl _ _ _, rfl, rfl⟩

theorem text_none (g : Nat) (t : ByteArray) (w : World) (ht : t.size = 0) : Calls Tryz.prog 44 #[.pointer (some ⟨g, 0, none⟩), .string t] w fun e w' => e = .returned (.int .i64 0) ∧ w' = w := by
  obtain rfl : t = ⟨#[]⟩ := by
    have : t = ByteArray.empty := ByteArray.size_eq_zero_iff.1 ht
    exact this
  go_enter_defers Tryz.func44, Tryz.ntmps44
  go_wp2_with fail
  exact ⟨_, results_tmp rfl _ _ _, rfl, rfl⟩

set_option maxHeartbeats 1000000 in
theorem text_some (own : Nat → Nat) (i g : Nat) (s : St6) (t : ByteArray) (w : World) (h : SK own i w g s) (hn : Nf own w) (hT : Tab w) (ht : t.size ≠ 0) (hb : s.out.length + s.col + s.wait + t.size ≤ 1073741824) :
    Calls Tryz.prog 44 #[.pointer (some ⟨g, 0, none⟩), .string t] w fun e w' => e = .returned (.int .i64 0) ∧ Af own i w w' g (s.text t) := by
  have hlt := h.len
  have hlab := h.lab
  obtain ⟨tv, gv, text, gs, h1, h2, h3, h4, h5, h6⟩ := h.ex
  obtain ⟨p1, c1, e1, _, _⟩ := row_shape h2.1
  obtain ⟨p2, c2, e2, _, _⟩ := row_shape h3.1
  have hwl := weave_len h4
  rw [← h5] at hwl
  obtain ⟨fr, col, wait, out⟩ := s
  simp only at *
  have HGH : Hid (Calls Tryz.prog 76 #[.pointer (some ⟨g, 0, none⟩)] w fun e w' => ∃ c d h, e = .returned (.tuple #[.func (.func 114) #[] #[.pointer (some ⟨d, 0, none⟩), .pointer (some ⟨c, 0, none⟩)], .func (.func 115) #[] #[.pointer (some ⟨c, 0, none⟩)], .func (.func 116) #[] #[.pointer (some ⟨c, 0, none⟩), .pointer (some ⟨d, 0, none⟩), .pointer (some ⟨h, 0, none⟩)]]) ∧ Hid (Ga own i w g c d h (sk (!fr) col wait tv gv) w' text gs ∧ Tab w') ∧ w'.cell? ⟨g, 0, none⟩ = some (.bool (!fr)) ∧ w'.cell? ⟨g, 1, none⟩ = some (.int .i64 col) ∧ w'.cell? ⟨g, 2, none⟩ = some (.int .i64 wait)) := by
    refine (gather_any g (!fr) col wait tv gv w h1 ⟨_, _, _, e1⟩ ⟨_, _, _, e2⟩).mono ?_
    rintro e w' ⟨c, d, h, rfl, hB⟩
    have hG : Ga own i w g c d h (sk (!fr) col wait tv gv) w' text gs := ga_start h1 h2 h3 hB
    exact ⟨c, d, h, rfl, ⟨hG, hT.below hB.2⟩, blk_cell hG.hg rfl, blk_cell hG.hg rfl, blk_cell hG.hg rfl⟩
  have hnb := ncol_bd col wait t
  obtain ⟨nc, hnc⟩ : ∃ nc : Nat, ncol col wait t = nc := ⟨(ncol col wait t).toNat, by omega⟩
  have HBH : Hid (∀ V, Tab V → Calls Tryz.prog 77 #[.agg #[.bool (!fr), .int .i64 col, .int .i64 wait], .string t] V fun e w' => e = .returned (.agg #[.bool true, .int .i64 nc, .int .i64 0]) ∧ Below V.heap.size V w') := by
    intro V hV
    have := behind_any (!fr) col wait t V hV (by omega) (by omega) (by omega) (by omega) (by omega)
    rw [hnc] at this
    exact this
  have HE : Hid (∀ (w' : World) (cb d h : Nat) (u : FrameMode), Ga own i w g cb d h (sk (!fr) col wait tv gv) w' (text ++ t.data.toList) (addg (addg gs text.length (if fr then col else 0)) text.length wait) → CallsD Tryz.prog 116 #[.agg #[.bool true, .int .i64 nc, .int .i64 0], .pointer (some ⟨cb, 0, none⟩), .pointer (some ⟨d, 0, none⟩), .pointer (some ⟨h, 0, none⟩)] u w' fun e u' w' => u' = u ∧ (e = .returned (.tuple #[]) ∧ Af own i w w' g (St6.text ⟨fr, col, wait, out⟩ t))) := by
    intro w' cb d h u H
    have hst : St6.text ⟨fr, col, wait, out⟩ t = ⟨false, nc, 0, out ++ ((if fr then List.replicate col 32 else []) ++ (List.replicate wait 32 ++ t.data.toList))⟩ := by
      unfold St6.text; rw [if_neg ht]; simp only [hnc]; rfl
    rw [hst]
    have hlt2 : text.length < (text ++ t.data.toList).length := by
      have : t.data.toList.length = t.size := by rw [Array.length_toList]; rfl
      rw [List.length_append, this]; omega
    have hu2 : Ups 0 (addg (addg gs text.length (if fr then col else 0)) text.length wait) text.length := ups_addg wait (ups_addg _ h4)
    refine ga_end H ⟨_, _, _, e1⟩ ⟨_, _, _, e2⟩ hn hlab hlt u ⟨false, nc, 0, _⟩ (hu2.more (by simp)) ?_ ⟨len_addg _ _ _ (len_addg _ _ _ h6.1), lt_addg _ _ _ _ (lt_addg _ _ _ _ (fun x hx => by have := h6.2 x hx; simp; omega) hlt2) hlt2⟩
    show out ++ _ = _
    rw [weave_app _ hu2, weave_addg _ (ups_addg _ h4), weave_addg _ h4, ← h5]
    cases fr
    · simp
    · simp only [if_true, List.append_assoc]
  have HL : Hid (gs.length ≤ 1073741824 ∧ (addg gs text.length (if fr then col else 0)).length ≤ 1073741824 ∧ text.length + t.size ≤ 70368744177664 ∧ col ≤ 1073741824 ∧ wait ≤ 1073741824 ∧ text.length ≤ 1073741824) := by
    have := len_addg gs text.length (if fr then col else 0) h6.1
    rw [sums_addg] at this
    have h61 := h6.1
    refine ⟨by omega, ?_, by omega, by omega, by omega, by omega⟩
    cases fr <;> simp at this ⊢ <;> omega
  have hte : t.toList.isEmpty = false := ne_list ht
  clear hn hlab hlt h h1 h2 h3 h4 h5 h6 hwl e1 e2 hb hT ht hnb hnc
  cases fr
  · go_enter_defers Tryz.func44, Tryz.ntmps44
    go_wp2_with (go_at_call 76; refine HGH.out.mono ?_; rintro e w1 ⟨cb, d, h, rfl, HG, g0, g1, g2⟩)
    refine (HBH.out w1 HG.out.2).mono ?_
    rintro e w2 ⟨rfl, hb2⟩
    have HG2 : Hid (Ga own i w g cb d h (sk true col wait tv gv) w2 text gs) := HG.out.1.below hb2
    have g0' : w2.cell? ⟨g, 0, none⟩ = some (.bool true) := blk_cell HG2.out.hg rfl
    have g2' : w2.cell? ⟨g, 2, none⟩ = some (.int .i64 wait) := blk_cell HG2.out.hg rfl
    clear HG g0 g1 g2 hb2
    go_wp2_with fail
    refine (HG2.out.blanks wait HL.out.1 (by have := HL.out; omega) (by have := HL.out; omega)).mono ?_
    rintro e w3 ⟨rfl, H3⟩
    have HG3 : Hid (Ga own i w g cb d h (sk true col wait tv gv) w3 text (addg gs text.length wait)) := H3
    clear HG2 H3 g0' g2'
    go_wp2_with fail
    refine (HG3.out.text t HL.out.2.2.1).mono ?_
    rintro e w4 ⟨rfl, H4⟩
    have HG4 : Hid (Ga own i w g cb d h (sk true col wait tv gv) w4 (text ++ t.data.toList) (addg gs text.length wait)) := H4
    clear HG3 H4
    go_wp2_with fail
    refine leaves_cons (f := 116) (args := #[.agg #[.bool true, .int .i64 nc, .int .i64 0], .pointer (some ⟨cb, 0, none⟩), .pointer (some ⟨d, 0, none⟩), .pointer (some ⟨h, 0, none⟩)]) (by simp) (by simp [go_sem]) ?_
    refine (HE.out _ _ _ _ .returning HG4.out).mono ?_
    rintro e u' w'' ⟨rfl, rfl, hA⟩
    exact ⟨_, results_tmp rfl _ _ _, rfl, hA⟩
  · go_enter_defers Tryz.func44, Tryz.ntmps44
    go_wp2_with (go_at_call 76; refine HGH.out.mono ?_; rintro e w1 ⟨cb, d, h, rfl, HG, g0, g1, g2⟩)
    refine (HBH.out w1 HG.out.2).mono ?_
    rintro e w2 ⟨rfl, hb2⟩
    have HG2 : Hid (Ga own i w g cb d h (sk false col wait tv gv) w2 text gs) := HG.out.1.below hb2
    have g0' : w2.cell? ⟨g, 0, none⟩ = some (.bool false) := blk_cell HG2.out.hg rfl
    have g1' : w2.cell? ⟨g, 1, none⟩ = some (.int .i64 col) := blk_cell HG2.out.hg rfl
    clear HG g0 g1 g2 hb2
    go_wp2_with fail
    refine (HG2.out.blanks col HL.out.1 (by have := HL.out; omega) (by have := HL.out; omega)).mono ?_
    rintro e w3 ⟨rfl, H3⟩
    have HG3 : Hid (Ga own i w g cb d h (sk false col wait tv gv) w3 text (addg gs text.length col)) := H3
    have g2' : w3.cell? ⟨g, 2, none⟩ = some (.int .i64 wait) := blk_cell HG3.out.hg rfl
    clear HG2 H3 g0' g1'
    go_wp2_with fail
    refine (HG3.out.blanks wait HL.out.2.1 (by have := HL.out; omega) (by have := HL.out; omega)).mono ?_
    rintro e w5 ⟨rfl, H5⟩
    have HG5 : Hid (Ga own i w g cb d h (sk false col wait tv gv) w5 text (addg (addg gs text.length col) text.length wait)) := H5
    clear HG3 H5 g2'
    go_wp2_with fail
    refine (HG5.out.text t HL.out.2.2.1).mono ?_
    rintro e w4 ⟨rfl, H4⟩
    have HG4 : Hid (Ga own i w g cb d h (sk false col wait tv gv) w4 (text ++ t.data.toList) (addg (addg gs text.length col) text.length wait)) := H4
    clear HG5 H4
    go_wp2_with fail
    refine leaves_cons (f := 116) (args := #[.agg #[.bool true, .int .i64 nc, .int .i64 0], .pointer (some ⟨cb, 0, none⟩), .pointer (some ⟨d, 0, none⟩), .pointer (some ⟨h, 0, none⟩)]) (by simp) (by simp [go_sem]) ?_
    refine (HE.out _ _ _ _ .returning HG4.out).mono ?_
    rintro e u' w'' ⟨rfl, rfl, hA⟩
    exact ⟨_, results_tmp rfl _ _ _, rfl, hA⟩

theorem text_any (own : Nat → Nat) (i g : Nat) (s : St6) (t : ByteArray) (w : World) (h : SK own i w g s) (hn : Nf own w) (hT : Tab w) (hb : s.out.length + s.col + s.wait + t.size ≤ 1073741824) :
    Calls Tryz.prog 44 #[.pointer (some ⟨g, 0, none⟩), .string t] w fun e w' => e = .returned (.int .i64 0) ∧ Af own i w w' g (s.text t) := by
  by_cases ht : t.size = 0
  · refine (text_none g t w ht).mono ?_
    rintro e w' ⟨rfl, rfl⟩
    have : s.text t = s := if_pos ht
    rw [this]
    exact ⟨rfl, Af.here h hn (Below.refl _ _)⟩
  · exact text_some own i g s t w h hn hT ht hb

theorem feed_bad (g : Nat) (n : Int) (w : World) (hn : n < 0 ∨ 1048576 < n) : Calls Tryz.prog 80 #[.pointer (some ⟨g, 0, none⟩), .int .i64 n] w fun e w' => e = .returned (.int .i64 1) ∧ w' = w := by
  by_cases h0 : n < 0
  · have q1 : decide (n < 0) = true := by simp; omega
    clear hn
    go_enter Tryz.func80, Tryz.ntmps80
    go_wp2_with fail
    go_ret
    exact ⟨rfl, rfl⟩
  · have q1 : decide (n < 0) = false := by simp; omega
    have q2 : decide (1048576 < n) = true := by simp; omega
    have q3 : 1048576 < n := by omega
    clear hn
    go_enter Tryz.func80, Tryz.ntmps80
    go_wp2_with fail
    go_ret
    exact ⟨rfl, rfl⟩
theorem feed_any (own : Nat → Nat) (i g : Nat) (s : St6) (c : Nat) (w : World) (h : SK own i w g s) (hn : Nf own w) (hc : c ≤ 1048576) (hb : s.out.length ≤ 1073741824) :
    Calls Tryz.prog 80 #[.pointer (some ⟨g, 0, none⟩), .int .i64 c] w fun e w' => e = .returned (.int .i64 0) ∧ Af own i w w' g (s.feed c) := by
  have q1 : decide ((c : Int) < 0) = false := by simp
  have q2 : decide (1048576 < (c : Int)) = false := by simp; omega
  have q3 : ¬ (1048576 < (c : Int)) := by omega
  have q4 : ¬ (1048576 < c) := by omega
  have HN := next_any own i g s c w h hn hb
  clear h hn hb
  go_enter Tryz.func80, Tryz.ntmps80
  go_wp2_with (go_at_call 81; refine HN.mono ?_; rintro e w1 ⟨rfl, hA⟩)
  go_ret
  exact ⟨rfl, hA⟩
def St6.empty (s : St6) : St6 := if s.fresh then s.feed s.col else s
theorem empty_any (own : Nat → Nat) (i g : Nat) (s : St6) (w : World) (h : SK own i w g s) (hn : Nf own w) (hb : s.out.length ≤ 1073741824) :
    Calls Tryz.prog 48 #[.pointer (some ⟨g, 0, none⟩)] w fun e w' => e = .returned (.int .i64 0) ∧ Af own i w w' g s.empty := by
  obtain ⟨tv, gv, text, gs, h1, _⟩ := h.ex
  have HN := next_any own i g s s.col w h hn hb
  obtain ⟨fr, col, wait, out⟩ := s
  simp only at *
  have g0 : w.cell? ⟨g, 0, none⟩ = some (.bool (!fr)) := blk_cell h1 rfl
  have g1 : w.cell? ⟨g, 1, none⟩ = some (.int .i64 col) := blk_cell h1 rfl
  cases fr
  · have HE : Hid (Af own i w w g (St6.empty ⟨false, col, wait, out⟩)) := Af.here h hn (Below.refl _ _)
    clear h hn hb h1 HN
    go_enter Tryz.func48, Tryz.ntmps48
    go_wp2_with fail
    go_ret
    exact ⟨rfl, HE.out⟩
  · clear h hn hb h1
    go_enter Tryz.func48, Tryz.ntmps48
    go_wp2_with (go_at_call 81; refine HN.mono ?_; rintro e w1 ⟨rfl, hA⟩)
    go_ret
    exact ⟨rfl, hA⟩
end Go.Proofs.YtmjhfabdbajchaaGreatDoor
set_option linter.unusedVariables false
set_option linter.unusedSimpArgs false
namespace Go.Proofs.YtmjhfabdbajchaaGreatDoor
open Go.RowKit
open Go.Lib (strCells strCells_length)

theorem bcheck2 (b : Nat) (w : World) (h0 : w.cell? ⟨b, 0, none⟩ = some (.pointer (some ⟨b, 0, none⟩))) : Calls Tryz.prog 83 #[.pointer (some ⟨b, 0, none⟩)] w fun e w' => e = .returned (.tuple #[]) ∧ w = w' :=
  (bcheck b w h0).mono fun e w' h => ⟨h.1, h.2.symm⟩

/-- The builder at block b. -/
structure Bd (b : Nat) (v : Value) (bs : List UInt8) (w : World) : Prop where
  blk : w.heap[b]? = some (.cells #[.pointer (some ⟨b, 0, none⟩), v] 111 (0, 0))
  row : w.ownsRow 0 5 1 v bs.length (bc bs)

/-- Behind a writing: the builder, and what stands as it stood. -/
def Bw (b : Nat) (v : Value) (bs : List UInt8) (w w' : World) : Prop := ∃ v', Bd b v' bs w' ∧ (v'.ownBlock = v.ownBlock ∨ v'.ownBlock = some w.heap.size) ∧ Kp (fun k => k = b ∨ some k = v.ownBlock) w w'

theorem Bd.put {b : Nat} {v v2 : Value} {bs l : List UInt8} {w w2 : World} (h : Bd b v bs w) (hg : w.grownBy w2 v.ownBlock) (ho : w2.ownsRow 0 5 1 v2 (bs.length + l.length) (bc bs ++ bc l)) (hat : v2.ownBlock = v.ownBlock ∨ v2.ownBlock = some w.heap.size) : Bw b v (bs ++ l) w (w2.setCell ⟨b, 1, none⟩ v2) := by
  have hk := Kp.of_grown hg
  have hne := row_ne h.row h.blk (by decide)
  have hb2 := hk.blk h.blk (fun e => hne e.symm)
  have hne2 := row_ne ho hb2 (by decide)
  refine ⟨v2, ⟨blk_set hb2 1 v2, ?_⟩, hat, ?_⟩
  · rw [List.length_append, bc_app]
    exact (Kp.set w2 b 1 v2).row ho (fun k e1 e2 => hne2 (by rw [e1, e2]))
  · exact (Kp.step (S := fun k => k = b ∨ some k = v.ownBlock) (Kp.refl _ _) hk (fun _ _ h => .inr h)).step (Kp.set w2 b 1 v2) (fun _ _ h => .inl h)

set_option maxHeartbeats 1000000 in
theorem bwrite (b : Nat) (v : Value) (bs l : List UInt8) (ad : Addr) (m c : Nat) (w : World) (h : Bd b v bs w) (hl : l.length = m) (hsrc : ∀ j u, (bc l)[j]? = some u → w.cell? (ad.add j) = some u) (hn : bs.length + m ≤ 70368744177664) :
    Calls Tryz.prog 53 #[.pointer (some ⟨b, 0, none⟩), .slice (some ad) m c] w fun e w' => e = .returned (.tuple #[.int .i64 m, .nilIface]) ∧ Bw b v (bs ++ l) w w' := by
  obtain ⟨i0, hi, hz0, hz1, hz2⟩ := info_parts Tryz.info5
  have c0 : w.cell? ⟨b, 0, none⟩ = some (.pointer (some ⟨b, 0, none⟩)) := blk_cell h.blk rfl
  have c1 : w.cell? ⟨b, 1, none⟩ = some v := blk_cell h.blk rfl
  have hbl := blk_lt h.blk
  obtain ⟨p, cap, rfl, _, _⟩ := row_shape h.row
  have HH : Hid (Bd b (.slice p bs.length cap) bs w) := h
  clear h
  go_enter Tryz.func53, Tryz.ntmps53
  go_wp2_with (first | (go_at_call 83; refine (bcheck2 b w c0).mono ?_; rintro e w1 ⟨rfl, rfl⟩) | (at_builtin; refine wpList_append_own_at (P := Tryz.prog) (w := w) rfl _ _ 46 rfl 0 5 i0 (.int .u8 0) 1 1 Tryz.underlying46 hi hz0 hz1 hz2 rfl (by decide) _ _ _ rfl HH.out.row ad m c (bc l) rfl ?c0 hsrc (bc_one l) ?c3 ?c4 ?c5 ?_))
  case c0 => rw [bc_len, hl, Nat.mul_one]
  case c3 => unfold maxLen; omega
  case c4 => omega
  case c5 => omega
  intro v2 w2 ho2 hg2 _ hat
  have HE : Hid (Bw b (.slice p bs.length cap) (bs ++ l) w (w2.setCell ⟨b, 1, none⟩ v2)) := HH.out.put hg2 (by rw [hl]; exact ho2) hat
  have hb2 := (Kp.of_grown hg2).blk HH.out.blk (fun e => row_ne HH.out.row HH.out.blk (by decide) e.symm)
  have d0 : w2.cell? ⟨b, 0, none⟩ = some (.pointer (some ⟨b, 0, none⟩)) := blk_cell hb2 rfl
  have d1 : w2.cell? ⟨b, 1, none⟩ = some (.slice p bs.length cap) := blk_cell hb2 rfl
  have f1 : w2.frozen? ⟨b, 1, none⟩ = false := blk_frozen hb2
  obtain ⟨p2, cap2, rfl, _, _⟩ := row_shape ho2
  clear ho2 hg2 hat hb2
  go_wp2_with fail
  go_ret2
  exact ⟨rfl, HE.out⟩

set_option maxHeartbeats 1000000 in
theorem bwrite_none (b : Nat) (v : Value) (bs : List UInt8) (w : World) (h : Bd b v bs w) :
    Calls Tryz.prog 53 #[.pointer (some ⟨b, 0, none⟩), .slice none 0 0] w fun e w' => e = .returned (.tuple #[.int .i64 0, .nilIface]) ∧ Bw b v (bs ++ []) w w' := by
  obtain ⟨i0, hi, hz0, hz1, hz2⟩ := info_parts Tryz.info5
  have c0 : w.cell? ⟨b, 0, none⟩ = some (.pointer (some ⟨b, 0, none⟩)) := blk_cell h.blk rfl
  have c1 : w.cell? ⟨b, 1, none⟩ = some v := blk_cell h.blk rfl
  have hbl := blk_lt h.blk
  have f1 : w.frozen? ⟨b, 1, none⟩ = false := blk_frozen h.blk
  have HE : Hid (Bw b v (bs ++ []) w (w.setCell ⟨b, 1, none⟩ v)) := h.put ⟨rfl, rfl, rfl, Nat.le_refl _, fun _ _ _ => rfl⟩ (by simpa [bc] using h.row) (.inl rfl)
  obtain ⟨p, cap, rfl, _, _⟩ := row_shape h.row
  have HH : Hid (Bd b (.slice p bs.length cap) bs w) := h
  clear h
  go_enter Tryz.func53, Tryz.ntmps53
  go_wp2_with (first | (go_at_call 83; refine (bcheck2 b w c0).mono ?_; rintro e w1 ⟨rfl, rfl⟩) | (at_builtin; refine wpList_append_own_none (P := Tryz.prog) (w := w) rfl _ _ 46 rfl 0 5 i0 1 Tryz.underlying46 hi _ _ _ rfl HH.out.row rfl ?_))
  go_ret2
  exact ⟨rfl, HE.out⟩

set_option maxHeartbeats 1000000 in
theorem bwstr (b : Nat) (v : Value) (bs : List UInt8) (t : ByteArray) (w : World) (h : Bd b v bs w) (hn : bs.length + t.size ≤ 70368744177664) :
    Calls Tryz.prog 54 #[.pointer (some ⟨b, 0, none⟩), .string t] w fun e w' => e = .returned (.tuple #[.int .i64 t.size, .nilIface]) ∧ Bw b v (bs ++ t.data.toList) w w' := by
  obtain ⟨i0, hi, hz0, hz1, hz2⟩ := info_parts Tryz.info5
  have c0 : w.cell? ⟨b, 0, none⟩ = some (.pointer (some ⟨b, 0, none⟩)) := blk_cell h.blk rfl
  have c1 : w.cell? ⟨b, 1, none⟩ = some v := blk_cell h.blk rfl
  have hbl := blk_lt h.blk
  obtain ⟨p, cap, rfl, _, _⟩ := row_shape h.row
  have HH : Hid (Bd b (.slice p bs.length cap) bs w) := h
  clear h
  go_enter Tryz.func54, Tryz.ntmps54
  go_wp2_with (first | (go_at_call 83; refine (bcheck2 b w c0).mono ?_; rintro e w1 ⟨rfl, rfl⟩) | (at_builtin; refine wpList_append_string_at (P := Tryz.prog) (w := w) rfl _ _ 46 9 rfl 0 5 i0 Tryz.underlying46 Tryz.underlying9 hi hz0 hz1 hz2 _ _ _ rfl HH.out.row t rfl ?c3 ?c4 ?c5 ?_))
  case c3 => unfold maxLen; omega
  case c4 => omega
  case c5 => omega
  intro v2 w2 ho2 hg2 hat
  have HE : Hid (Bw b (.slice p bs.length cap) (bs ++ t.data.toList) w (w2.setCell ⟨b, 1, none⟩ v2)) := HH.out.put hg2 ho2 hat
  have hb2 := (Kp.of_grown hg2).blk HH.out.blk (fun e => row_ne HH.out.row HH.out.blk (by decide) e.symm)
  have d0 : w2.cell? ⟨b, 0, none⟩ = some (.pointer (some ⟨b, 0, none⟩)) := blk_cell hb2 rfl
  have d1 : w2.cell? ⟨b, 1, none⟩ = some (.slice p bs.length cap) := blk_cell hb2 rfl
  have f1 : w2.frozen? ⟨b, 1, none⟩ = false := blk_frozen hb2
  obtain ⟨p2, cap2, rfl, _, _⟩ := row_shape ho2
  clear ho2 hg2 hat hb2
  go_wp2_with fail
  go_ret2
  exact ⟨rfl, HE.out⟩

/-- The closure that clears the sink. -/
theorem cl_clear (u : FrameMode) (b : Bool) (col wait : Int) (h g : Nat) (tv gv : Value) (w : World) (hg : w.heap[g]? = some (.cells (sk b col wait tv gv) 105 (0, 0))) (hh : w.heap[h]? = some (.cells #[.pointer (some ⟨g, 0, none⟩)] 59 (0, 0))) (htv : ∃ p n cap, tv = .slice p n cap) (hgv : ∃ p n cap, gv = .slice p n cap) :
    CallsD Tryz.prog 50 #[.pointer (some ⟨h, 0, none⟩)] u w fun e u' w' => u' = u ∧ (e = .returned (.tuple #[]) ∧ w' = (w.setCell ⟨g, 3, none⟩ (.slice none 0 0)).setCell ⟨g, 4, none⟩ (.slice none 0 0)) := by
  have g3 : w.cell? ⟨g, 3, none⟩ = some tv := blk_cell hg rfl
  have g4 : w.cell? ⟨g, 4, none⟩ = some gv := blk_cell hg rfl
  have f3 : w.frozen? ⟨g, 3, none⟩ = false := blk_frozen hg
  have f4 : w.frozen? ⟨g, 4, none⟩ = false := blk_frozen hg
  have h0 : w.cell? ⟨h, 0, none⟩ = some (.pointer (some ⟨g, 0, none⟩)) := blk_cell hh rfl
  obtain ⟨p1, n1, k1, rfl⟩ := htv
  obtain ⟨p2, n2, k2, rfl⟩ := hgv
  go_enter_d Tryz.func50, Tryz.ntmps50
  go_wp2_with fail
  go_end0
  exact ⟨rfl, rfl⟩
end Go.Proofs.YtmjhfabdbajchaaGreatDoor
set_option linter.unusedVariables false
set_option linter.unusedSimpArgs false
namespace Go.Proofs.YtmjhfabdbajchaaGreatDoor
open Go.RowKit
open Go.Lib (strCells strCells_length)

theorem add0 (g j : Nat) : (⟨g, 0, none⟩ : Addr).add j = ⟨g, j, none⟩ := by
  unfold Addr.add
  split <;> simp_all

theorem gap_cells {w : World} {gv : Value} {gs : List (Nat × Nat)} (h : w.ownsRow 0 113 2 gv gs.length (flat eg gs)) (k : Nat) (x : Nat × Nat) (hk : gs[k]? = some x) : ∃ tb cap, gv = .slice (some ⟨tb, 0, none⟩) gs.length cap ∧ gs.length ≤ cap ∧ w.cell? ⟨tb, k * 2, none⟩ = some (.int .i64 x.1) ∧ w.cell? ⟨tb, k * 2 + 1, none⟩ = some (.int .i64 x.2) := by
  have hkl := (List.getElem?_eq_some_iff.1 hk).1
  rcases h.2 with ⟨_, h0⟩ | ⟨tb, cap, cur, rfl, _, _, hc, _⟩
  · omega
  · have hcs := h.cells (g := tb) rfl
    refine ⟨tb, cap, rfl, hc, ?_, ?_⟩
    · have := hcs (k * 2 + 0) (.int .i64 x.1) (flat_at eg 2 eg_len gs k 0 x _ hk rfl)
      rw [add0] at this; exact this
    · have := hcs (k * 2 + 1) (.int .i64 x.2) (flat_at eg 2 eg_len gs k 1 x _ hk rfl)
      rw [add0] at this; exact this

theorem sums_take (gs : List (Nat × Nat)) (k : Nat) (x : Nat × Nat) (hk : gs[k]? = some x) : sums (gs.take (k + 1)) = sums (gs.take k) + x.2 := by
  induction gs generalizing k with
  | nil => simp at hk
  | cons y r ih =>
    obtain ⟨a, n⟩ := y
    cases k with
    | zero => simp at hk; subst hk; simp [sums]
    | succ k => simp only [List.take_succ_cons, sums]; rw [ih k (by simpa using hk)]; omega
theorem sums_le (gs : List (Nat × Nat)) (k : Nat) : sums (gs.take k) ≤ sums gs := by
  induction gs generalizing k with
  | nil => simp
  | cons y r ih =>
    obtain ⟨a, n⟩ := y
    cases k with
    | zero => simp [sums]
    | succ k => simp only [List.take_succ_cons, sums]; have := ih k; omega

set_option maxHeartbeats 1000000 in
theorem size_any (g : Nat) (b : Bool) (col wait : Int) (tv gv : Value) (n : Nat) (xs : List Value) (gs : List (Nat × Nat)) (w : World) (hg : w.heap[g]? = some (.cells (sk b col wait tv gv) 105 (0, 0))) (ht : w.ownsRow 0 5 1 tv n xs) (hr : w.ownsRow 0 113 2 gv gs.length (flat eg gs)) (hn : n ≤ 1073741824) (hs : sums gs ≤ 1073741824) (hl : gs.length ≤ 1073741824) :
    Calls Tryz.prog 52 #[.pointer (some ⟨g, 0, none⟩)] w fun e w' => e = .returned (.int .i64 (n + sums gs : Nat)) ∧ Below w.heap.size w w' := by
  have g3 : w.cell? ⟨g, 3, none⟩ = some tv := blk_cell hg rfl
  have g4 : w.cell? ⟨g, 4, none⟩ = some gv := blk_cell hg rfl
  obtain ⟨p1, c1, rfl, _, _⟩ := row_shape ht
  obtain ⟨p2, c2, rfl, _, _⟩ := row_shape hr
  have HR : Hid (w.ownsRow 0 113 2 (.slice p2 gs.length c2) gs.length (flat eg gs)) := hr
  clear ht hr hg
  go_enter Tryz.func52, Tryz.ntmps52
  go_wp2_with fail
  go_loopw [3, 16] (fun m i wr => ∃ k : Nat, k ≤ gs.length ∧ m = .int .i64 (n + sums (gs.take k) : Nat) ∧ i = .int .i64 k ∧ Below w.heap.size w wr) (fun _ i _ => gs.length - (intOf i).toNat)
  case atStart => exact ⟨0, by omega, by simp [sums], rfl, Below.refl _ _⟩
  case round =>
    obtain ⟨k, hk, rfl, rfl, hb⟩ := hrel
    have hsl := sums_le gs k
    by_cases hlt : k < gs.length
    · obtain ⟨x, hx⟩ : ∃ x, gs[k]? = some x := ⟨gs[k], List.getElem?_eq_getElem hlt⟩
      obtain ⟨tb, cap, he, hc, x1, x2⟩ := gap_cells HR.out k x hx
      injection he with e1 e2 e3
      subst e1
      have y1 := (hb.cell (p := ⟨tb, k * 2, none⟩) (World.block_lt_of_cell? _ _ x1)).trans x1
      have y2 := (hb.cell (p := ⟨tb, k * 2 + 1, none⟩) (World.block_lt_of_cell? _ _ x2)).trans x2
      have hst := sums_take gs k x hx
      have hsl2 := sums_le gs (k + 1)
      obtain ⟨a, z⟩ := x
      simp only at y1 y2 hst
      have q1 : (k : Int) < gs.length := by omega
      have HS : Hid (sums (gs.take (k + 1)) = sums (gs.take k) + z) := hst
      have hz : sums (gs.take k) + z ≤ 1073741824 := by omega
      clear x1 x2 hx hst hsl2 e3
      obtain ⟨S, hS⟩ : ∃ S, sums (gs.take k) = S := ⟨_, rfl⟩
      rw [hS] at hsl hz HS ⊢
      clear hS
      go_wp2_with fail
      exact ⟨⟨k + 1, hlt, by rw [HS.out]; go_num, by go_num, hb.alloc hb.size _⟩, by simp [intOf]; omega⟩
    · obtain rfl : k = gs.length := by omega
      have HS : Hid (sums (gs.take gs.length) = sums gs) := by rw [List.take_length]; rfl
      have q1 : ¬ ((gs.length : Int) < gs.length) := by omega
      obtain ⟨S, hS⟩ : ∃ S, sums (gs.take gs.length) = S := ⟨_, rfl⟩
      rw [hS] at hsl HS ⊢
      clear hS
      have HF : Hid ((n : Int) + (S : Int) = (n : Int) + (sums gs : Nat)) := by rw [HS.out]; rfl
      clear HS
      go_wp2_with fail
      go_ret
      exact ⟨congrArg (fun z => Ending.returned (.int .i64 z)) HF.out, hb⟩
end Go.Proofs.YtmjhfabdbajchaaGreatDoor
set_option linter.unusedVariables false
set_option linter.unusedSimpArgs false
namespace Go.Proofs.YtmjhfabdbajchaaGreatDoor
open Go.RowKit
open Go.Lib (strCells strCells_length)

theorem rep_list (n : Nat) : Lib.repeatL [32] n = List.replicate n 32 := by
  induction n with
  | zero => rfl
  | succ n ih => show [32] ++ Lib.repeatL [32] n = _; rw [ih]; rfl
def blanksB (n : Nat) : ByteArray := ⟨(List.replicate n 32).toArray⟩
theorem blanksB_list (n : Nat) : (blanksB n).data.toList = List.replicate n 32 := rfl
theorem blanksB_size (n : Nat) : (blanksB n).size = n := by show (List.replicate n (32 : UInt8)).toArray.size = n; simp
theorem rep_any (n : Nat) (w : World) (hn : n ≤ 1073741824) : Calls Tryz.prog 55 #[.string ⟨#[32]⟩, .int .i64 n] w fun e w' => e = .returned (.string (blanksB n)) ∧ Below w.heap.size w w' := by
  refine (repeat_any ⟨#[32]⟩ n w (by omega) (by show 1 * n ≤ _; omega)).mono ?_
  rintro e w' ⟨rfl, hb⟩
  refine ⟨?_, hb⟩
  show Ending.returned (.string ⟨(Lib.repeatL [32] n).toArray⟩) = _
  rw [rep_list]; rfl

/-- Take's world. -/
structure Tk (w0 : World) (g b : Nat) (bs : List UInt8) (W : World) : Prop where
  lo : Below w0.heap.size w0 W
  hb : W.heap[w0.heap.size]? = some (.cells #[.pointer (some ⟨g, 0, none⟩)] 59 (0, 0))
  bd : ∃ v, Bd b v bs W ∧ ∀ k, v.ownBlock = some k → w0.heap.size ≤ k
  bl : w0.heap.size ≤ b

/-- Blocks of other types than the builder's stand. -/
def Kt (W W' : World) : Prop := ∀ (k : Nat) (cs : Array Value) (T : TypeId) (f : Nat × Nat), W.heap[k]? = some (.cells cs T f) → T ≠ 111 → T ≠ 5 → W'.heap[k]? = some (.cells cs T f)

theorem Tk.below {w0 : World} {g b : Nat} {bs : List UInt8} {W W' : World} (h : Tk w0 g b bs W) (hb : Below W.heap.size W W') : Tk w0 g b bs W' := by
  obtain ⟨v, ⟨h1, h2⟩, h3⟩ := h.bd
  exact ⟨h.lo.trans (hb.mono h.lo.size), blk_below h.hb hb, ⟨v, ⟨blk_below h1 hb, row_below h2 hb⟩, h3⟩, h.bl⟩

theorem Tk.wrote {w0 : World} {g b : Nat} {bs bs' : List UInt8} {W W' : World} {v : Value} (h : Tk w0 g b bs W) (hbd : Bd b v bs W) (hv : ∀ k, v.ownBlock = some k → w0.heap.size ≤ k) (hw : Bw b v bs' W W') : Tk w0 g b bs' W' ∧ Kt W W' := by
  obtain ⟨v', h1, h2, h3⟩ := hw
  have hne : ∀ {x : Array Value} {k : Nat} {T : TypeId} {f : Nat × Nat}, W.heap[k]? = some (.cells x T f) → T ≠ 111 → T ≠ 5 → ¬ (k = b ∨ some k = v.ownBlock) := by
    intro x k T f hk t1 t2 hh
    rcases hh with hh | hh
    · exact ne_of_blk hk hbd.blk t1 hh
    · exact row_ne hbd.row hk t2 hh.symm
  refine ⟨⟨?_, h3.blk h.hb (hne h.hb (by decide) (by decide)), ⟨v', h1, ?_⟩, h.bl⟩, fun k cs T f hk t1 t2 => h3.blk hk (hne hk t1 t2)⟩
  · refine ⟨h3.os.trans h.lo.os, h3.tape.trans h.lo.tape, h3.output.trans h.lo.output, Nat.le_trans h.lo.size h3.size, fun k hk => (h3.block k (Nat.lt_of_lt_of_le hk h.lo.size) ?_).trans (h.lo.block k hk)⟩
    rintro (e | e)
    · have := h.bl; omega
    · have := hv k e.symm; omega
  · intro k hk
    rcases h2 with h2 | h2
    · exact hv k (by rw [← h2]; exact hk)
    · rw [h2] at hk; injection hk with hk; subst hk; exact h.lo.size

theorem Tk.write {w0 : World} {g b : Nat} {bs : List UInt8} {W : World} (h : Tk w0 g b bs W) (l : List UInt8) (ad : Addr) (m c : Nat) (hl : l.length = m) (hsrc : ∀ j u, (bc l)[j]? = some u → W.cell? (ad.add j) = some u) (hn : bs.length + m ≤ 70368744177664) :
    Calls Tryz.prog 53 #[.pointer (some ⟨b, 0, none⟩), .slice (some ad) m c] W fun e w' => e = .returned (.tuple #[.int .i64 m, .nilIface]) ∧ Tk w0 g b (bs ++ l) w' ∧ Kt W w' := by
  obtain ⟨v, h1, h2⟩ := h.bd
  refine (bwrite b v bs l ad m c W h1 hl hsrc hn).mono ?_
  rintro e w' ⟨rfl, hw⟩
  exact ⟨rfl, h.wrote h1 h2 hw⟩
theorem Tk.write_none {w0 : World} {g b : Nat} {bs : List UInt8} {W : World} (h : Tk w0 g b bs W) :
    Calls Tryz.prog 53 #[.pointer (some ⟨b, 0, none⟩), .slice none 0 0] W fun e w' => e = .returned (.tuple #[.int .i64 0, .nilIface]) ∧ Tk w0 g b (bs ++ []) w' ∧ Kt W w' := by
  obtain ⟨v, h1, h2⟩ := h.bd
  refine (bwrite_none b v bs W h1).mono ?_
  rintro e w' ⟨rfl, hw⟩
  exact ⟨rfl, h.wrote h1 h2 hw⟩
theorem Tk.wstr {w0 : World} {g b : Nat} {bs : List UInt8} {W : World} (h : Tk w0 g b bs W) (t : ByteArray) (hn : bs.length + t.size ≤ 70368744177664) :
    Calls Tryz.prog 54 #[.pointer (some ⟨b, 0, none⟩), .string t] W fun e w' => e = .returned (.tuple #[.int .i64 t.size, .nilIface]) ∧ Tk w0 g b (bs ++ t.data.toList) w' ∧ Kt W w' := by
  obtain ⟨v, h1, h2⟩ := h.bd
  refine (bwstr b v bs t W h1 hn).mono ?_
  rintro e w' ⟨rfl, hw⟩
  exact ⟨rfl, h.wrote h1 h2 hw⟩
/-- The bytes of a text's row, from a place on. -/
theorem text_src {w0 W : World} {tv : Value} {text : List UInt8} {tb cap : Nat} (hr : w0.ownsRow 0 5 1 tv text.length (bc text)) (he : tv = .slice (some ⟨tb, 0, none⟩) text.length cap) (hb : Below w0.heap.size w0 W) (f m : Nat) : ∀ j u, (bc ((text.drop f).take m))[j]? = some u → W.cell? ((⟨tb, f, none⟩ : Addr).add j) = some u := by
  intro j u hj
  have h1 : (bc text)[f + j]? = some u := by
    have : (bc ((text.drop f).take m))[j]? = ((bc text).drop f |>.take m)[j]? := by rw [bc_drop, bc_take]
    rw [this] at hj
    have hjm : j < m := by
      have := (List.getElem?_eq_some_iff.1 hj).1
      rw [List.length_take] at this; omega
    rw [List.getElem?_take, if_pos hjm, List.getElem?_drop] at hj
    exact hj
  have h2 := hr.cells (g := tb) (by rw [he]; rfl) (f + j) u h1
  rw [add0] at h2
  have h3 := (hb.cell (p := ⟨tb, f + j, none⟩) (World.block_lt_of_cell? _ _ h2)).trans h2
  have h4 : (⟨tb, f, none⟩ : Addr).add j = ⟨tb, f + j, none⟩ := by
    unfold Addr.add
    split <;> simp_all
  rw [h4]; exact h3
end Go.Proofs.YtmjhfabdbajchaaGreatDoor
set_option linter.unusedVariables false
set_option linter.unusedSimpArgs false
namespace Go.Proofs.YtmjhfabdbajchaaGreatDoor
open Go.RowKit
open Go.Lib (strCells strCells_length)

def St6.take (s : St6) : St6 := ⟨s.fresh, s.col, s.wait, []⟩

theorem take_nil (w : World) : Calls Tryz.prog 30 #[.pointer none] w fun e w' => e = .returned (.string ⟨#[]⟩) ∧ Below w.heap.size w w' := by
  go_enter_defers Tryz.func30, Tryz.ntmps30
  go_wp2_with fail
  exact ⟨_, results_tmp rfl _ _ _, rfl, (Below.refl _ w).alloc (Nat.le_refl _) _⟩

/-- Where the k-th gap stands ahead of. -/
def frmG (gs : List (Nat × Nat)) : Nat → Nat
  | 0 => 0
  | k + 1 => (gs.getD k (0, 0)).1

theorem Ups.drop {gs : List (Nat × Nat)} {n : Nat} {f : Nat} (h : Ups f gs n) : ∀ k, k ≤ gs.length → Ups (if k = 0 then f else frmG gs k) (gs.drop k) n := by
  induction gs generalizing f with
  | nil => intro k hk; obtain rfl : k = 0 := by simpa using hk
           exact h
  | cons x r ih =>
    obtain ⟨a, m⟩ := x
    intro k hk
    cases k with
    | zero => exact h
    | succ k =>
      have := ih h.2 k (by simpa using hk)
      simp only [List.drop_succ_cons]
      cases k with
      | zero => exact this
      | succ k => exact this

theorem weave_step {gs : List (Nat × Nat)} {k a n f : Nat} {t : List UInt8} (h : gs[k]? = some (a, n)) : weave f (gs.drop k) t = (t.drop f).take (a - f) ++ (List.replicate n 32 ++ weave a (gs.drop (k + 1)) t) := by
  obtain ⟨hl, he⟩ := List.getElem?_eq_some_iff.1 h
  rw [List.drop_eq_getElem_cons hl, he]
  rfl
theorem frmG_succ {gs : List (Nat × Nat)} {k a n : Nat} (h : gs[k]? = some (a, n)) : frmG gs (k + 1) = a := by
  show (gs.getD k (0, 0)).1 = a
  rw [List.getD, h]; rfl
theorem frmG_le {gs : List (Nat × Nat)} {k a n m : Nat} (hu : Ups 0 gs m) (h : gs[k]? = some (a, n)) : frmG gs k ≤ a := by
  obtain ⟨hl, he⟩ := List.getElem?_eq_some_iff.1 h
  have := hu.drop k (by omega)
  rw [List.drop_eq_getElem_cons hl, he] at this
  have h1 := this.1
  cases k with
  | zero => exact Nat.zero_le _
  | succ k => simpa using h1
theorem Tk.piece {w0 : World} {g b : Nat} {bs : List UInt8} {W : World} (h : Tk w0 g b bs W) {text : List UInt8} {tb cap : Nat} (hr : w0.ownsRow 0 5 1 (.slice (some ⟨tb, 0, none⟩) text.length cap) text.length (bc text)) (f m c q : Nat) (x y : Value) (hq : W.heap[q]? = some (.cells #[x, y] 113 (0, 0))) (hm : f + m ≤ text.length) (hn : bs.length + m ≤ 70368744177664) :
    Calls Tryz.prog 53 #[.pointer (some ⟨b, 0, none⟩), .slice (some ⟨tb, f, none⟩) m c] W fun e w' => e = .returned (.tuple #[.int .i64 m, .nilIface]) ∧ Hid (Tk w0 g b (bs ++ (text.drop f).take m) w' ∧ w'.heap[q]? = some (.cells #[x, y] 113 (0, 0))) ∧ w'.cell? ⟨q, 0, none⟩ = some x ∧ w'.cell? ⟨q, 1, none⟩ = some y := by
  refine (h.write ((text.drop f).take m) ⟨tb, f, none⟩ m c (by rw [List.length_take, List.length_drop]; omega) (text_src hr rfl h.lo f m) hn).mono ?_
  rintro e w' ⟨rfl, h1, h2⟩
  have := h2 q _ _ _ hq (by decide) (by decide)
  exact ⟨rfl, ⟨h1, this⟩, blk_cell this rfl, blk_cell this rfl⟩

theorem Tk.builder {w0 : World} {g b : Nat} {bs : List UInt8} {W : World} (h : Tk w0 g b bs W) (hb : w0.heap.size + 1 ≤ b) : Lib.IsBuilder 111 5 (w0.heap.size + 1) b (Lib.byteCells bs) W := by
  obtain ⟨v, h1, h2⟩ := h.bd
  refine .inr ⟨hb, v, h1.blk, ?_, row_ne h1.row h1.blk (by decide)⟩
  have hne := row_ne h1.row h.hb (by decide)
  have hr := h1.row
  refine ⟨by rw [Lib.byteCells_length]; simp, ?_⟩
  rw [Lib.byteCells_length]
  rcases hr.2 with h3 | ⟨gg, cap, cur, rfl, _, h4⟩
  · exact .inl h3
  · have h5 := h2 gg rfl
    refine .inr ⟨gg, cap, cur, rfl, ?_, h4⟩
    rcases Nat.eq_or_lt_of_le h5 with h6 | h6
    · exfalso; apply hne; rw [h6]; rfl
    · exact h6

/-- Behind Take the sink holds nothing. -/
theorem taken {own : Nat → Nat} {i : Nat} {w W : World} {g : Nat} {s : St6} {tv gv : Value} (hg : W.heap[g]? = some (.cells (sk (!s.fresh) s.col s.wait tv gv) 105 (0, 0))) (hlab : own g = i) (hn : Nf own w) (hb : Below w.heap.size w W) (hlt : g < w.heap.size) : Af own i w ((W.setCell ⟨g, 3, none⟩ (.slice none 0 0)).setCell ⟨g, 4, none⟩ (.slice none 0 0)) g s.take := by
  have hk : Kp (fun k => k = g) w ((W.setCell ⟨g, 3, none⟩ (.slice none 0 0)).setCell ⟨g, 4, none⟩ (.slice none 0 0)) := ((Kp.of_below hb).step (Kp.set W g 3 (.slice none 0 0)) (fun _ _ h => h)).step (Kp.set _ g 4 (.slice none 0 0)) (fun _ _ h => h)
  refine ⟨own, hn.below hk.size, hk.fr (fun k _ e => by subst e; exact hlab) (fun _ _ => rfl), hlab, .slice none 0 0, .slice none 0 0, [], [], blk_set (blk_set hg 3 _) 4 _, ⟨World.ownsRow_nil _ _ _ _, fun k h => by cases h⟩, ⟨World.ownsRow_nil _ _ _ _, fun k h => by cases h⟩, Nat.zero_le _, rfl, Nat.le_refl _, fun x h => by cases h⟩

theorem row_zero {w : World} {B e sz n : Nat} {v : Value} {xs : List Value} (h : w.ownsRow B e sz v n xs) : w.ownsRow 0 e sz v n xs := by
  refine ⟨h.1, ?_⟩
  rcases h.2 with h1 | ⟨g, cap, cur, rfl, _, h3⟩
  · exact .inl h1
  · exact .inr ⟨g, cap, cur, rfl, Nat.zero_le _, h3⟩

theorem Tk.start {w w1 w2 : World} {g : Nat} (hb1 : Below ((w.alloc (.cells #[.pointer (some ⟨g, 0, none⟩)] 59)).alloc (.cells #[.pointer none, .slice none 0 0] 111)).heap.size ((w.alloc (.cells #[.pointer (some ⟨g, 0, none⟩)] 59)).alloc (.cells #[.pointer none, .slice none 0 0] 111)) w1)
    (hB : Lib.BuilderAt 111 5 (w.heap.size + 1) (w.heap.size + 1) (.pointer (some ⟨w.heap.size + 1, 0, none⟩)) [] w2) (hb2 : Below (w.heap.size + 1) w1 w2) : Tk w g (w.heap.size + 1) [] w2 := by
  have s1 : (w.alloc (.cells #[.pointer (some ⟨g, 0, none⟩)] 59)).heap.size = w.heap.size + 1 := World.size_alloc _ _
  have hbW : Below w.heap.size w ((w.alloc (.cells #[.pointer (some ⟨g, 0, none⟩)] 59)).alloc (.cells #[.pointer none, .slice none 0 0] 111)) := ((Below.refl _ w).alloc (Nat.le_refl _) _).alloc (by omega) _
  have b1 : ((w.alloc (.cells #[.pointer (some ⟨g, 0, none⟩)] 59)).alloc (.cells #[.pointer none, .slice none 0 0] 111)).heap[w.heap.size]? = some (.cells #[.pointer (some ⟨g, 0, none⟩)] 59 (0, 0)) := alloc_at _ _ _ _ (new_at _ _)
  obtain ⟨_, v, h1, h2, h3⟩ := hB
  refine ⟨(hbW.trans (hb1.mono hbW.size)).trans (hb2.mono (by omega)), (hb2.block _ (by omega)).trans (blk_below b1 hb1), ⟨v, ⟨h1, row_zero h2⟩, fun k hk => ?_⟩, by omega⟩
  have := (h2.lt k hk).1
  omega

set_option maxHeartbeats 1000000 in
theorem take_any (own : Nat → Nat) (i g : Nat) (s : St6) (w : World) (h : SK own i w g s) (hn : Nf own w) (hb : s.out.length ≤ 1073741824) :
    Calls Tryz.prog 30 #[.pointer (some ⟨g, 0, none⟩)] w fun e w' => e = .returned (.string ⟨s.out.toArray⟩) ∧ Af own i w w' g s.take := by
  have hlt := h.len
  have hlab := h.lab
  obtain ⟨tv, gv, text, gs, h1, h2, h3, h4, h5, h6, h7⟩ := h.ex
  have hwl := weave_len h4
  rw [← h5] at hwl
  have hr2 := h2.1
  have hr3 := h3.1
  obtain ⟨p1, c1, e1, hc1, hm1⟩ := row_shape hr2
  obtain ⟨p2, c2, e2, hc2, hm2⟩ := row_shape hr3
  obtain ⟨fr, col, wait, out⟩ := s
  simp only at *
  have HSZ : Hid (∀ W, Below w.heap.size w W → Calls Tryz.prog 52 #[.pointer (some ⟨g, 0, none⟩)] W fun e w' => e = .returned (.int .i64 (out.length : Nat)) ∧ Below W.heap.size W w') := by
    intro W hW
    have := size_any g (!fr) col wait tv gv text.length (bc text) gs W ((hW.block g hlt).trans h1) (row_below hr2 hW) (row_below hr3 hW) (by omega) (by omega) (by omega)
    rw [show out.length = text.length + sums gs by omega]
    exact this
  have G3 : Hid (∀ W, Below w.heap.size w W → W.cell? ⟨g, 3, none⟩ = some tv ∧ W.cell? ⟨g, 4, none⟩ = some gv) := fun W hW => ⟨blk_cell ((hW.block g hlt).trans h1) rfl, blk_cell ((hW.block g hlt).trans h1) rfl⟩
  have hmf : ∀ (fn : Fn) (first cap : Array Value) (w : World), (Instr.makeFunc fn first cap).run Tryz.prog w = .ok (.func fn first cap) w := fun _ _ _ _ => rfl
  subst e1 e2
  have HR3 : Hid (w.ownsRow 0 113 2 (.slice p2 gs.length c2) gs.length (flat eg gs)) := hr3
  have HR2 : Hid (w.ownsRow 0 5 1 (.slice p1 text.length c1) text.length (bc text)) := hr2
  have HU : Hid (Ups 0 gs text.length ∧ out = weave 0 gs text ∧ ∀ x ∈ gs, x.1 < text.length) := ⟨h4, h5, h7⟩
  have HFIN : Hid (∀ (W : World), Below w.heap.size w W → W.heap[w.heap.size]? = some (.cells #[.pointer (some ⟨g, 0, none⟩)] 59 (0, 0)) → CallsD Tryz.prog 50 #[.pointer (some ⟨w.heap.size, 0, none⟩)] .returning W fun e u' w' => u' = .returning ∧ (e = .returned (.tuple #[]) ∧ Af own i w w' g (St6.take ⟨fr, col, wait, out⟩))) := by
    intro W hW hh
    have hgW := (hW.block g hlt).trans h1
    refine (cl_clear .returning (!fr) col wait w.heap.size g _ _ W hgW hh ⟨_, _, _, rfl⟩ ⟨_, _, _, rfl⟩).mono ?_
    rintro e u' w' ⟨rfl, rfl, rfl⟩
    exact ⟨rfl, rfl, taken (s := ⟨fr, col, wait, out⟩) hgW hlab hn hW hlt⟩
  have hgl : gs.length ≤ 1073741824 := by omega
  have HWL : Hid (out.length = text.length + sums gs ∧ gs.length ≤ sums gs) := ⟨by omega, h6⟩
  clear h h1 h2 h3 h4 h5 h6 h7 hr2 hr3 hwl hn hlab
  go_enter_defers Tryz.func30, Tryz.ntmps30
  go_wp2_with fail
  have s1 : (w.alloc (.cells #[.pointer (some ⟨g, 0, none⟩)] 59)).heap.size = w.heap.size + 1 := World.size_alloc _ _
  have s2 : ((w.alloc (.cells #[.pointer (some ⟨g, 0, none⟩)] 59)).alloc (.cells #[.pointer none, .slice none 0 0] 111)).heap.size = w.heap.size + 1 + 1 := by rw [World.size_alloc, s1]
  have hbW : Below w.heap.size w ((w.alloc (.cells #[.pointer (some ⟨g, 0, none⟩)] 59)).alloc (.cells #[.pointer none, .slice none 0 0] 111)) := ((Below.refl _ w).alloc (Nat.le_refl _) _).alloc (by omega) _
  have b2 : ((w.alloc (.cells #[.pointer (some ⟨g, 0, none⟩)] 59)).alloc (.cells #[.pointer none, .slice none 0 0] 111)).heap[w.heap.size + 1]? = some (.cells #[.pointer none, .slice none 0 0] 111 (0, 0)) := by rw [← s1]; exact new_at _ _
  refine (HSZ.out _ hbW).mono ?_
  rintro e w1 ⟨rfl, hb1⟩
  have HB1 : Hid (∀ w2, Lib.BuilderAt 111 5 (w.heap.size + 1) (w.heap.size + 1) (.pointer (some ⟨w.heap.size + 1, 0, none⟩)) [] w2 → Below (w.heap.size + 1) w1 w2 → Tk w g (w.heap.size + 1) [] w2) := fun w2 a b => Tk.start hb1 a b
  have HG : Hid (Calls Tryz.prog 51 #[.pointer (some ⟨w.heap.size + 1, 0, none⟩), .int .i64 out.length] w1 fun e w' => e = .returned (.tuple #[]) ∧ (Lib.BuilderAt 111 5 (w.heap.size + 1) (w.heap.size + 1) (.pointer (some ⟨w.heap.size + 1, 0, none⟩)) [] w' ∧ Below (w.heap.size + 1) w1 w')) :=
    bgrow _ _ _ w1 (Nat.le_refl _) (blk_below b2 hb1) (by have := hb1.size; omega) (by omega)
  clear s1 s2 hbW b2 hb1 HSZ
  go_wp2_with fail
  refine HG.out.mono ?_
  rintro e w2 ⟨rfl, hB, hb2⟩
  have HT : Hid (Tk w g (w.heap.size + 1) [] w2) := HB1.out w2 hB hb2
  clear HB1 HG hB hb2
  have g4 := (G3.out w2 HT.out.lo).2
  have g5 : w2.cell? ⟨w.heap.size, 0, none⟩ = some (.pointer (some ⟨g, 0, none⟩)) := blk_cell HT.out.hb rfl
  go_wp2_with fail
  go_loopw [4, 18] (fun f j wr => ∃ k : Nat, k ≤ gs.length ∧ f = .int .i64 (frmG gs k) ∧ j = .int .i64 k ∧ Hid (∃ bs, Tk w g (w.heap.size + 1) bs wr ∧ bs ++ weave (frmG gs k) (gs.drop k) text = out)) (fun _ j _ => gs.length - (intOf j).toNat)
  case atStart => exact ⟨0, by omega, rfl, rfl, [], HT.out, HU.out.2.1.symm⟩
  case round =>
    obtain ⟨k, hk, rfl, rfl, HI⟩ := hrel
    clear HT g4 g5
    by_cases hlt : k < gs.length
    · obtain ⟨⟨a, z⟩, hx⟩ : ∃ x, gs[k]? = some x := ⟨gs[k], List.getElem?_eq_getElem hlt⟩
      obtain ⟨gb, gcap, he, hgc, x1, x2⟩ := gap_cells HR3.out k (a, z) hx
      injection he with e1 e2 e3
      subst e1
      have hal := HU.out.2.2 (a, z) (List.mem_of_getElem? hx)
      simp only at x1 x2 hal
      have hfa := frmG_le HU.out.1 hx
      have hfs := frmG_succ hx
      obtain ⟨tb, rfl⟩ : ∃ tb, p1 = some ⟨tb, 0, none⟩ := by
        rcases HR2.out.2 with ⟨h, h0⟩ | ⟨tb, cap, cur, h, _⟩
        · omega
        · injection h with h _ _; exact ⟨tb, h⟩
      obtain ⟨bs, hTk, hbs⟩ := HI.out
      rw [weave_step hx] at hbs
      have y1 := (hTk.lo.cell (p := ⟨gb, k * 2, none⟩) (World.block_lt_of_cell? _ _ x1)).trans x1
      have y2 := (hTk.lo.cell (p := ⟨gb, k * 2 + 1, none⟩) (World.block_lt_of_cell? _ _ x2)).trans x2
      have q1 : (k : Int) < gs.length := by omega
      obtain ⟨f, hf⟩ : ∃ f, frmG gs k = f := ⟨_, rfl⟩
      rw [hf] at hfa hbs ⊢
      obtain ⟨V, hV⟩ : ∃ V, V = wr.alloc (.cells #[.int .i64 a, .int .i64 z] 113) := ⟨_, rfl⟩
      have hVq : V.heap[wr.heap.size]? = some (.cells #[.int .i64 a, .int .i64 z] 113 (0, 0)) := by rw [hV]; exact new_at _ _
      have hTV : Tk w g (w.heap.size + 1) bs V := hTk.below (by rw [hV]; exact (Below.refl _ _).alloc (Nat.le_refl _) _)
      have hlen : out.length = bs.length + (a - f) + z + (weave a (gs.drop (k + 1)) text).length := by
        rw [← hbs]
        simp only [List.length_append, List.length_take, List.length_drop, List.length_replicate]; omega
      have HP : Hid (Calls Tryz.prog 53 #[.pointer (some ⟨w.heap.size + 1, 0, none⟩), .slice (some ⟨tb, f, none⟩) (a - f) (c1 - f)] V.drew fun e w' => e = .returned (.tuple #[.int .i64 (a - f : Nat), .nilIface]) ∧ Hid (Tk w g (w.heap.size + 1) (bs ++ (text.drop f).take (a - f)) w' ∧ w'.heap[wr.heap.size]? = some (.cells #[.int .i64 a, .int .i64 z] 113 (0, 0))) ∧ (w'.cell? ⟨w.heap.size, 0, none⟩ = some (.pointer (some ⟨g, 0, none⟩)) ∧ w'.cell? ⟨g, 3, none⟩ = some (.slice (some ⟨tb, 0, none⟩) text.length c1) ∧ w'.cell? ⟨wr.heap.size, 0, none⟩ = some (.int .i64 a)) ∧ w'.cell? ⟨wr.heap.size, 1, none⟩ = some (.int .i64 z)) := by
        refine (Tk.piece (W := V.drew) (hTV.below (Below.drew (Below.refl _ _))) HR2.out f (a - f) (c1 - f) wr.heap.size _ _ hVq (by omega) (by omega)).mono ?_
        rintro e w' ⟨rfl, HK, k0, k1⟩
        exact ⟨rfl, HK, ⟨blk_cell HK.out.1.hb rfl, (G3.out w' HK.out.1.lo).1, k0⟩, k1⟩
      have v1 : V.cell? ⟨w.heap.size, 0, none⟩ = some (.pointer (some ⟨g, 0, none⟩)) := blk_cell hTV.hb rfl
      have v2 := (G3.out V hTV.lo).1
      have v3 : V.cell? ⟨wr.heap.size, 0, none⟩ = some (.int .i64 a) := blk_cell hVq rfl
      have HBS : Hid (bs ++ (List.take (a - f) (List.drop f text) ++ (List.replicate z 32 ++ weave a (List.drop (k + 1) gs) text)) = out ∧ out.length = bs.length + (a - f) + z + (weave a (gs.drop (k + 1)) text).length ∧ frmG gs (k + 1) = a) := ⟨hbs, hlen, hfs⟩
      have HVV : Hid (V = wr.alloc (.cells #[.int .i64 a, .int .i64 z] 113)) := hV
      clear hV hVq hTV hTk hbs hlen HI x1 x2 hx hf hfs e3
      go_wp2_with fail
      rw [← HVV.out]
      have i1 : (f : Int) ≤ a := by omega
      have i2 : (a : Int) ≤ c1 := by omega
      have i3 : f < c1 := by omega
      have i4 : a ≤ c1 := by omega
      have i5 : ¬ (c1 - f = 0) := by omega
      have i6 : (0 : Int) ≤ f := by omega
      have i7 : ¬ (c1 = f) := by omega
      go_region_held3 (fun w' => w'.cell? ⟨w.heap.size, 0, none⟩ = some (.pointer (some ⟨g, 0, none⟩)) ∧ w'.cell? ⟨g, 3, none⟩ = some (.slice (some ⟨tb, 0, none⟩) text.length c1) ∧ w'.cell? ⟨wr.heap.size, 0, none⟩ = some (.int .i64 a)) (first | assumption | (exact ⟨v1, v2, v3⟩) | go_keep) (first | (go_at_call 53; (try rw [if_neg i7]); refine HP.out.mono ?_; rintro e w3 ⟨rfl, HT3, z0, z1⟩))
      clear HP v1 v2 v3 z0 HVV
      have hz : z ≤ 1073741824 := by have := HBS.out.2.1; omega
      go_wp2_with fail
      refine (rep_any z w3 hz).mono ?_
      rintro e w4 ⟨rfl, hb4⟩
      have HT4 : Hid (Tk w g (w.heap.size + 1) (bs ++ (text.drop f).take (a - f)) w4 ∧ w4.heap[wr.heap.size]? = some (.cells #[.int .i64 a, .int .i64 z] 113 (0, 0))) := ⟨HT3.out.1.below hb4, blk_below HT3.out.2 hb4⟩
      have HW : Hid (Calls Tryz.prog 54 #[.pointer (some ⟨w.heap.size + 1, 0, none⟩), .string (blanksB z)] w4 fun e w' => e = .returned (.tuple #[.int .i64 z, .nilIface]) ∧ Hid (Tk w g (w.heap.size + 1) ((bs ++ (text.drop f).take (a - f)) ++ List.replicate z 32) w') ∧ w'.cell? ⟨wr.heap.size, 0, none⟩ = some (.int .i64 a)) := by
        refine (HT4.out.1.wstr (blanksB z) (by rw [blanksB_size, List.length_append, List.length_take]; have := HBS.out.2.1; omega)).mono ?_
        rintro e w' ⟨rfl, h1, h2⟩
        exact ⟨by rw [blanksB_size], h1, blk_cell (h2 _ _ _ _ HT4.out.2 (by decide) (by decide)) rfl⟩
      clear hb4 HT3 z1 HT4
      go_wp2_with fail
      refine HW.out.mono ?_
      rintro e w5 ⟨rfl, HT5, u0⟩
      clear HW
      go_wp2_with fail
      refine ⟨⟨k + 1, hlt, by rw [HBS.out.2.2], by go_num, _, HT5.out, ?_⟩, by simp [intOf]; omega⟩
      rw [HBS.out.2.2]
      have := HBS.out.1
      simp only [List.append_assoc] at this ⊢
      exact this
    · obtain rfl : k = gs.length := by omega
      obtain ⟨bs, hTk, hbs⟩ := HI.out
      have hfl : frmG gs gs.length ≤ text.length := by
        have := (HU.out.1.drop gs.length (Nat.le_refl _)).le
        split at this
        · rename_i h0; rw [h0]; exact Nat.zero_le _
        · exact this
      rw [List.drop_length] at hbs
      have q1 : ¬ ((gs.length : Int) < gs.length) := by omega
      obtain ⟨f, hf⟩ : ∃ f, frmG gs gs.length = f := ⟨_, rfl⟩
      rw [hf] at hfl hbs ⊢
      have HBS : Hid (bs ++ text.drop f = out) := hbs
      have v1 : wr.cell? ⟨w.heap.size, 0, none⟩ = some (.pointer (some ⟨g, 0, none⟩)) := blk_cell hTk.hb rfl
      have v2 := (G3.out wr hTk.lo).1
      have HTK : Hid (Tk w g (w.heap.size + 1) bs wr) := hTk
      clear hTk HI hbs hf
      have KEND : Hid (∀ W, Tk w g (w.heap.size + 1) out W → Calls Tryz.prog 56 #[.pointer (some ⟨w.heap.size + 1, 0, none⟩)] W fun e w' => e = .returned (.string ⟨out.toArray⟩) ∧ Hid (Below w.heap.size w w' ∧ w'.heap[w.heap.size]? = some (.cells #[.pointer (some ⟨g, 0, none⟩)] 59 (0, 0)))) := by
        intro W hW
        have hsz := blk_lt hW.hb
        refine (bstring (w.heap.size + 1) (w.heap.size + 1) out W (hW.builder (Nat.le_refl _)) (by omega)).mono ?_
        rintro e w' ⟨rfl, hb⟩
        exact ⟨rfl, hW.lo.trans (hb.mono (by omega)), (hb.block _ (by omega)).trans hW.hb⟩
      rcases HR2.out.2 with ⟨h, h0⟩ | ⟨tb, cap, cur, h, _⟩
      · injection h with h1 h2 h3
        subst h1
        subst h3
        obtain rfl : f = 0 := by omega
        have KW : Hid (Calls Tryz.prog 53 #[.pointer (some ⟨w.heap.size + 1, 0, none⟩), .slice none 0 0] wr fun e w' => e = .returned (.tuple #[.int .i64 0, .nilIface]) ∧ Hid (Tk w g (w.heap.size + 1) out w')) := by
          refine HTK.out.write_none.mono ?_
          rintro e w' ⟨rfl, h4, _⟩
          have : bs ++ [] = out := by rw [← HBS.out, List.eq_nil_of_length_eq_zero h0]; rfl
          rw [this] at h4
          exact ⟨rfl, h4⟩
        rw [h0] at v2
        go_wp2_with fail
        refine KW.out.mono ?_
        rintro e w5 ⟨rfl, HT5⟩
        clear v1 v2 KW
        go_wp2_with fail
        refine (KEND.out w5 HT5.out).mono ?_
        rintro e w6 ⟨rfl, H6⟩
        go_wp2_with fail
        refine leaves_cons (f := 50) (args := #[.pointer (some ⟨w.heap.size, 0, none⟩)]) (by simp) (by simp [go_sem]) ?_
        refine (HFIN.out w6 H6.out.1 H6.out.2).mono ?_
        rintro e u' w'' ⟨rfl, rfl, hA⟩
        exact ⟨_, results_tmp rfl _ _ _, rfl, hA⟩
      · injection h with h1 h2 h3
        subst h1
        clear h2 h3
        have i1 : (f : Int) ≤ text.length := by omega
        have i2 : (text.length : Int) ≤ c1 := by omega
        have i3 : f ≤ c1 := by omega
        have hl2 : bs.length + (text.length - f) ≤ 1073741824 := by
          have : (bs ++ text.drop f).length = out.length := by rw [HBS.out]
          rw [List.length_append, List.length_drop] at this; omega
        by_cases hc : c1 = f
        · have KW : Hid (Calls Tryz.prog 53 #[.pointer (some ⟨w.heap.size + 1, 0, none⟩), .slice (some ⟨tb, 0, none⟩) (text.length - f) 0] wr fun e w' => e = .returned (.tuple #[.int .i64 (text.length - f : Nat), .nilIface]) ∧ Hid (Tk w g (w.heap.size + 1) out w')) := by
            obtain rfl : f = text.length := by omega
            refine (HTK.out.write [] ⟨tb, 0, none⟩ (text.length - text.length) 0 (by simp) (fun j u h => by simp [bc] at h) (by omega)).mono ?_
            rintro e w' ⟨rfl, h4, _⟩
            have h5 := HBS.out
            rw [List.drop_length] at h5
            rw [h5] at h4
            exact ⟨rfl, h4⟩
          go_wp2_with fail
          refine KW.out.mono ?_
          rintro e w5 ⟨rfl, HT5⟩
          clear v1 v2 KW
          go_wp2_with fail
          refine (KEND.out w5 HT5.out).mono ?_
          rintro e w6 ⟨rfl, H6⟩
          go_wp2_with fail
          refine leaves_cons (f := 50) (args := #[.pointer (some ⟨w.heap.size, 0, none⟩)]) (by simp) (by simp [go_sem]) ?_
          refine (HFIN.out w6 H6.out.1 H6.out.2).mono ?_
          rintro e u' w'' ⟨rfl, rfl, hA⟩
          exact ⟨_, results_tmp rfl _ _ _, rfl, hA⟩
        · have KW : Hid (Calls Tryz.prog 53 #[.pointer (some ⟨w.heap.size + 1, 0, none⟩), .slice (some ⟨tb, f, none⟩) (text.length - f) (c1 - f)] wr fun e w' => e = .returned (.tuple #[.int .i64 (text.length - f : Nat), .nilIface]) ∧ Hid (Tk w g (w.heap.size + 1) out w')) := by
            have hsrc := text_src HR2.out rfl HTK.out.lo f (text.length - f)
            rw [List.take_of_length_le (by rw [List.length_drop]; omega)] at hsrc
            refine (HTK.out.write (text.drop f) ⟨tb, f, none⟩ (text.length - f) (c1 - f) (by rw [List.length_drop]) hsrc (by omega)).mono ?_
            rintro e w' ⟨rfl, h4, _⟩
            rw [HBS.out] at h4
            exact ⟨rfl, h4⟩
          go_wp2_with fail
          refine KW.out.mono ?_
          rintro e w5 ⟨rfl, HT5⟩
          clear v1 v2 KW
          go_wp2_with fail
          refine (KEND.out w5 HT5.out).mono ?_
          rintro e w6 ⟨rfl, H6⟩
          go_wp2_with fail
          refine leaves_cons (f := 50) (args := #[.pointer (some ⟨w.heap.size, 0, none⟩)]) (by simp) (by simp [go_sem]) ?_
          refine (HFIN.out w6 H6.out.1 H6.out.2).mono ?_
          rintro e u' w'' ⟨rfl, rfl, hA⟩
          exact ⟨_, results_tmp rfl _ _ _, rfl, hA⟩
end Go.Proofs.YtmjhfabdbajchaaGreatDoor
set_option linter.unusedVariables false
set_option linter.unusedSimpArgs false
namespace Go.Proofs.YtmjhfabdbajchaaGreatDoor
open Go.RowKit
open Go.Lib (strCells strCells_length)

def St6.blanks (s : St6) (n : Nat) : St6 := { s with wait := s.wait + n }
theorem push_bytes (l : List UInt8) : ∀ s : ByteArray, (l.map (fun b : UInt8 => (b.toNat : Int))).foldl (fun r n => r.push (UInt8.ofNat n.toNat)) s = ⟨(s.data.toList ++ l).toArray⟩ := by
  induction l with
  | nil => intro s; simp
  | cons b l ih =>
    intro s
    rw [List.map_cons, List.foldl_cons, ih]
    simp
theorem conv_bytes (w : World) (B : Nat) (v : Value) (l : List UInt8) (hv : w.ownsRow B 5 1 v l.length (bc l)) : (convert 46 9 v).run Tryz.prog w = .ok (.string ⟨l.toArray⟩) w := by
  have hv0 := row_zero hv
  rcases hv.2 with ⟨rfl, h0⟩ | ⟨g, cp, cur, rfl, h2⟩
  · have e : l = [] := List.eq_nil_of_length_eq_zero h0
    rw [run_convert_bytes_string (P := Tryz.prog) w 46 9 5 _ _ _ Tryz.underlying46 Tryz.underlying5 Tryz.underlying9, e]
    rfl
  · rw [run_convert_bytes_string (P := Tryz.prog) w 46 9 5 _ _ _ Tryz.underlying46 Tryz.underlying5 Tryz.underlying9]
    have hload := run_loadCells_list (P := Tryz.prog) w ⟨g, 0, none⟩ (bc l) (hv.cells rfl)
    rw [bc_len] at hload
    rw [run_bytesToString (P := Tryz.prog) w ⟨g, 0, none⟩ l.length cp (l.map (fun b : UInt8 => (b.toNat : Int))) (by rw [hload]; simp [bc, List.map_map, Function.comp_def]), push_bytes]
    rfl

end Go.Proofs.YtmjhfabdbajchaaGreatDoor
set_option linter.unusedVariables false
set_option linter.unusedSimpArgs false
namespace Go.Proofs.YtmjhfabdbajchaaGreatDoor
open Go.RowKit
open Go.Lib (strCells strCells_length)

/-- What the walks of the laws want of the world and its labels. -/
structure En (own : Nat → Nat) (w : World) : Prop where
  nf : Nf own w
  tab : Tab w
  z : own 1 = 0
theorem Tab.pos {w : World} (h : Tab w) : 1 < w.heap.size := World.block_lt_of_cell? w _ (h 0 (by omega)).1
theorem En.fr {own own' : Nat → Nat} {w w' : World} {i : Nat} (h : En own w) (hi : i ≠ 0) (hn : Nf own' w') (hf : Fr i own own' w w') : En own' w' :=
  ⟨hn, hf.tab h.tab (by rw [h.z]; exact fun e => hi e.symm), (hf.old 1 h.tab.pos).trans h.z⟩
theorem En.below {own : Nat → Nat} {w w' : World} (h : En own w) (hb : Below w.heap.size w w') : En own w' := ⟨h.nf.below hb.size, h.tab.below hb, h.z⟩

/-- Behind a call on the code's sink. -/
def Ae (own : Nat → Nat) (i : Nat) (w w' : World) (g : Nat) (s : St6) : Prop := ∃ own', En own' w' ∧ Fr i own own' w w' ∧ SK own' i w' g s
theorem Af.ae {own : Nat → Nat} {i : Nat} {w w' : World} {g : Nat} {s : St6} (h : Af own i w w' g s) (hE : En own w) (hi : i ≠ 0) : Ae own i w w' g s := by
  obtain ⟨own', h1, h2, h3⟩ := h
  exact ⟨own', hE.fr hi h1 h2, h2, h3⟩

def st0 : St6 := ⟨true, 0, 0, []⟩

theorem new_st (own : Nat → Nat) (i : Nat) (w : World) (hE : En own w) (hi : i ≠ 0) : Calls Tryz.prog 28 #[] w fun e w' => e = .returned (.pointer (some ⟨w.heap.size, 0, none⟩)) ∧ Ae own i w w' w.heap.size st0 := by
  refine (new_any w).mono ?_
  rintro e w' ⟨rfl, rfl⟩
  have hb : Below w.heap.size w (w.alloc (.cells (sk false 0 0 (.slice none 0 0) (.slice none 0 0)) 105)) := (Below.refl _ _).alloc (Nat.le_refl _) _
  have hs : (w.alloc (.cells (sk false 0 0 (.slice none 0 0) (.slice none 0 0)) 105)).heap.size = w.heap.size + 1 := World.size_alloc _ _
  have hf : Fr i own (fun k => if k = w.heap.size then i else own k) w (w.alloc (.cells (sk false 0 0 (.slice none 0 0) (.slice none 0 0)) 105)) := ⟨hb.os, hb.tape, hb.output, hb.size, fun k hk _ => hb.block k hk, fun k hk => if_neg (by omega)⟩
  refine ⟨rfl, _, hE.fr hi ?_ hf, hf, if_pos rfl, .slice none 0 0, .slice none 0 0, [], [], new_at _ _, ⟨World.ownsRow_nil _ _ _ _, fun k h => by cases h⟩, ⟨World.ownsRow_nil _ _ _ _, fun k h => by cases h⟩, Nat.zero_le _, rfl, Nat.le_refl _, fun x h => by cases h⟩
  intro k hk
  rw [hs] at hk
  show (if k = w.heap.size then i else own k) = 0
  rw [if_neg (by omega)]; exact hE.nf k (by omega)

section
variable {own : Nat → Nat} {i : Nat} {g : Nat} {s : St6} {w : World}
theorem text_st (h : SK own i w g s) (hE : En own w) (hi : i ≠ 0) (t : ByteArray) (hb : s.out.length + s.col + s.wait + t.size ≤ 1073741824) :
    Calls Tryz.prog 44 #[.pointer (some ⟨g, 0, none⟩), .string t] w fun e w' => e = .returned (.int .i64 0) ∧ Ae own i w w' g (s.text t) :=
  (text_any own i g s t w h hE.nf hE.tab hb).mono fun e w' ⟨h1, h2⟩ => ⟨h1, h2.ae hE hi⟩
theorem feed_st (h : SK own i w g s) (hE : En own w) (hi : i ≠ 0) (c : Nat) (hc : c ≤ 1048576) (hb : s.out.length ≤ 1073741824) :
    Calls Tryz.prog 80 #[.pointer (some ⟨g, 0, none⟩), .int .i64 c] w fun e w' => e = .returned (.int .i64 0) ∧ Ae own i w w' g (s.feed c) :=
  (feed_any own i g s c w h hE.nf hc hb).mono fun e w' ⟨h1, h2⟩ => ⟨h1, h2.ae hE hi⟩
theorem empty_st (h : SK own i w g s) (hE : En own w) (hi : i ≠ 0) (hb : s.out.length ≤ 1073741824) :
    Calls Tryz.prog 48 #[.pointer (some ⟨g, 0, none⟩)] w fun e w' => e = .returned (.int .i64 0) ∧ Ae own i w w' g s.empty :=
  (empty_any own i g s w h hE.nf hb).mono fun e w' ⟨h1, h2⟩ => ⟨h1, h2.ae hE hi⟩
theorem take_st (h : SK own i w g s) (hE : En own w) (hi : i ≠ 0) (hb : s.out.length ≤ 1073741824) :
    Calls Tryz.prog 30 #[.pointer (some ⟨g, 0, none⟩)] w fun e w' => e = .returned (.string ⟨s.out.toArray⟩) ∧ Ae own i w w' g s.take :=
  (take_any own i g s w h hE.nf hb).mono fun e w' ⟨h1, h2⟩ => ⟨h1, h2.ae hE hi⟩
theorem blanks_st (h : SK own i w g s) (hE : En own w) (hi : i ≠ 0) (n : Nat) (hn : n ≤ 1048576) (hb : s.wait ≤ 1073741824) :
    Calls Tryz.prog 79 #[.pointer (some ⟨g, 0, none⟩), .int .i64 n] w fun e w' => e = .returned (.int .i64 0) ∧ Ae own i w w' g (s.blanks n) := by
  obtain ⟨tv, gv, text, gs, h1, h2, h3, h4⟩ := h.ex
  refine (blanks_any g (!s.fresh) s.col s.wait n tv gv w h1 (by omega) (by omega) (by omega) (by omega)).mono ?_
  rintro e w' ⟨rfl, rfl⟩
  have hk := Kp.set w g 2 (.int .i64 ((s.wait : Int) + n))
  have hf : Fr i own own w (w.setCell ⟨g, 2, none⟩ (.int .i64 ((s.wait : Int) + n))) := hk.fr (fun k _ e => by subst e; exact h.lab) (fun _ _ => rfl)
  have r1 := row_ne h2.1 h1 (by decide)
  have r2 := row_ne h3.1 h1 (by decide)
  refine ⟨rfl, own, hE.fr hi (hE.nf.below hk.size) hf, hf, h.lab, tv, gv, text, gs, ?_, ⟨hk.row h2.1 (fun k e1 e2 => r1 (by rw [e1, e2])), h2.2⟩, ⟨hk.row h3.1 (fun k e1 e2 => r2 (by rw [e1, e2])), h3.2⟩, h4⟩
  exact blk_set h1 2 _
theorem column_st (h : SK own i w g s) (h1 : s.col ≤ 1073741824) (h2 : s.wait ≤ 1073741824) :
    Calls Tryz.prog 82 #[.pointer (some ⟨g, 0, none⟩)] w fun e w' => e = .returned (.int .i64 ((s.col : Int) + s.wait)) ∧ Below w.heap.size w w' := by
  obtain ⟨tv, gv, text, gs, a1, _⟩ := h.ex
  exact column_any g (!s.fresh) s.col s.wait tv gv w a1 (by omega) (by omega) (by omega) (by omega)
theorem fresh_st (h : SK own i w g s) :
    Calls Tryz.prog 78 #[.pointer (some ⟨g, 0, none⟩)] w fun e w' => e = .returned (.bool s.fresh) ∧ w' = w := by
  obtain ⟨tv, gv, text, gs, a1, _⟩ := h.ex
  have := fresh_any g (!s.fresh) s.col s.wait tv gv w a1
  simpa using this
end

theorem aw_a : St6.text st0 ⟨#[97]⟩ = ⟨false, 1, 0, [97]⟩ := by
  have h : ncol ((0 : Nat) : Int) ((0 : Nat) : Int) ⟨#[97]⟩ = 1 := by decide +kernel
  show (⟨false, (ncol ((0 : Nat) : Int) ((0 : Nat) : Int) ⟨#[97]⟩).toNat, 0, [97]⟩ : St6) = _
  rw [h]; rfl
theorem aw_b : St6.text ⟨true, 3, 0, [97, 10]⟩ ⟨#[98]⟩ = ⟨false, 4, 0, [97, 10, 32, 32, 32, 98]⟩ := by
  have h : ncol ((3 : Nat) : Int) ((0 : Nat) : Int) ⟨#[98]⟩ = 4 := by decide +kernel
  show (⟨false, (ncol ((3 : Nat) : Int) ((0 : Nat) : Int) ⟨#[98]⟩).toNat, 0, [97, 10, 32, 32, 32, 98]⟩ : St6) = _
  rw [h]; rfl

end Go.Proofs.YtmjhfabdbajchaaGreatDoor
