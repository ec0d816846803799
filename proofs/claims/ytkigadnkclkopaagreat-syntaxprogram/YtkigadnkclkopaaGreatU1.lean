import Derived.Test.YtkigadnkclkopaaGreatQw
import Derived.Test.YtkigadnkclkopaaGreatG4
import Derived.Test.YtkigadnkclkopaaGreatG7
import Derived.Deep.RegionHeld3
set_option linter.unusedVariables false
set_option linter.unusedSimpArgs false
namespace Go.Proofs.YtkigadnkclkopaaGreat
open Go.RowKit

/-! The document's reader in memory. -/
def scs (l : List (Int × Nat)) : List Value := flat (fun x => [.int .u8 x.1, .int .i64 (x.2 : Int)]) l
theorem scs_len (l : List (Int × Nat)) : (scs l).length = l.length * 2 := flat_len _ 2 (fun _ => rfl) l
theorem scs_one (l : List (Int × Nat)) : ∀ u ∈ scs l, u.oneCell' = true := by
  intro u hu
  obtain ⟨d, _, h⟩ := List.mem_flatMap.1 hu
  simp only [List.mem_cons, List.not_mem_nil, or_false] at h
  rcases h with rfl | rfl <;> rfl
theorem scs_app (a b : List (Int × Nat)) : scs (a ++ b) = scs a ++ scs b := flat_append _ a b
/-- A row of nodes. -/
def Rp (W : World) (v : Value) (l : List (Int × Nat)) : Prop := W.ownsRow 0 69 2 v l.length (scs l)
theorem rp_nil (W : World) : Rp W nilS [] := World.ownsRow_nil W 0 69 2
theorem Rp.kp {S : Nat → Prop} {W W' : World} {v : Value} {l : List (Int × Nat)} (h : Rp W v l) (hk : Kp S W W') (hS : ∀ k, v.ownBlock = some k → ¬ S k) : Rp W' v l := hk.row h hS
theorem Rp.below {W W' : World} {v : Value} {l : List (Int × Nat)} (h : Rp W v l) (hb : Below W.heap.size W W') : Rp W' v l := row_below h hb
theorem Rp.shape {W : World} {v : Value} {l : List (Int × Nat)} (h : Rp W v l) : ∃ p cap, v = .slice p l.length cap ∧ l.length ≤ cap ∧ cap ≤ maxLen := row_shape h
theorem Rp.ne {W : World} {v : Value} {l : List (Int × Nat)} (h : Rp W v l) {g : Nat} {cs : Array Value} {T : TypeId} {f : Nat × Nat} (hg : W.heap[g]? = some (.cells cs T f)) (hT : T ≠ 69) : ∀ k, v.ownBlock = some k → k ≠ g := by
  intro k hk e
  rcases h.2 with ⟨rfl, h0⟩ | ⟨b, cap, cur, rfl, hb, h3, _⟩
  · cases hk
  · simp only [Value.ownBlock, Option.some.injEq] at hk
    subst hk
    subst e
    rw [hg] at h3
    cases h3
    exact hT rfl
theorem Rp.lt {W : World} {v : Value} {l : List (Int × Nat)} (h : Rp W v l) : ∀ k, v.ownBlock = some k → k < W.heap.size := by
  intro k hk
  rcases h.2 with ⟨rfl, h0⟩ | ⟨b, cap, cur, rfl, hb, h3, _⟩
  · cases hk
  · simp only [Value.ownBlock, Option.some.injEq] at hk
    subst hk
    exact blk_lt h3
theorem Tryz.info69 : (Tryz.prog.info? 69).map (fun i => (i.zero, i.size, i.bytes)) = some (some (.agg #[.int .u8 0, .int .i64 0]), 2, 16) := by kernel_rfl
theorem app_step {W : World} {ops : Array Oper} {rest : List Oper} {o : Oper} {a : Act} {Q : Exit → Act → World → Prop} (hgd : o.guard = none) (s x : Operand)
    (ho : o.op = .call { callee := .builtin .append, args := #[s, x], argTypes := #[64, 64] }) (v : Value) (l : List (Int × Nat)) (d : Int × Nat) (hs : a.eval s = v) (hr : Rp W v l)
    (g c : Nat) (hx : a.eval x = .slice (some ⟨g, 0, none⟩) 1 c) (hg : W.heap[g]? = some (.cells #[.int .u8 d.1, .int .i64 (d.2 : Int)] 69 (0, 0))) (hl : l.length ≤ 1000000000)
    (h : ∀ v' w', Rp w' v' (l ++ [d]) → Kp (fun k => v.ownBlock = some k) W w' → Nb W v v' → wpList Tryz.prog ops Q rest (a.put o.dst v') w') : wpList Tryz.prog ops Q (o :: rest) a W := by
  obtain ⟨i0, hi, hz0, hz1, hz2⟩ := info_parts Tryz.info69
  refine wpList_append_own_at (P := Tryz.prog) (w := W) hgd s x 64 ho 0 69 i0 _ 2 16 Tryz.underlying64 hi hz0 hz1 hz2 rfl (by decide) v _ _ hs hr ⟨g, 0, none⟩ 1 c (scs [d]) hx (by rw [scs_len]; rfl) ?_ (scs_one [d]) (by unfold maxLen; omega) (by omega) (Nat.zero_le _) ?_
  · intro j u hu
    refine World.news_of_block hg j u ?_
    have e : scs [d] = [.int .u8 d.1, .int .i64 (d.2 : Int)] := by simp [scs, flat]
    rw [e] at hu
    simpa using hu
  · intro v' w' h1 h2 _ h4
    refine h v' w' ?_ ((Kp.of_grown h2).sub (fun k e => e.symm)) ?_
    · unfold Rp
      rw [List.length_append, scs_app]
      exact h1
    · rcases h4 with h4 | h4
      · exact .inl h4
      · exact .inr ⟨_, h4, Nat.le_refl _⟩
theorem app_steps {W : World} {ops : Array Oper} {rest : List Oper} {o : Oper} {a : Act} {Q : Exit → Act → World → Prop} (hgd : o.guard = none) (s x : Operand)
    (ho : o.op = .call { callee := .builtin .append, args := #[s, x], argTypes := #[64, 64] }) (v vx : Value) (l ds : List (Int × Nat)) (hs : a.eval s = v) (hr : Rp W v l)
    (hx : a.eval x = vx) (hrx : Rp W vx ds) (hl : l.length + ds.length ≤ 1000000000)
    (h : ∀ v' w', Rp w' v' (l ++ ds) → Kp (fun k => v.ownBlock = some k) W w' → Nb W v v' → wpList Tryz.prog ops Q rest (a.put o.dst v') w') : wpList Tryz.prog ops Q (o :: rest) a W := by
  have hc := fun g (hg : vx.ownBlock = some g) => World.ownsRow.cells hrx hg
  obtain ⟨i0, hi, hz0, hz1, hz2⟩ := info_parts Tryz.info69
  rcases hrx.2 with ⟨rfl, h0⟩ | ⟨g, cap, cur, rfl, _⟩
  · obtain rfl : ds = [] := List.eq_nil_of_length_eq_zero h0
    refine wpList_append_own_none (P := Tryz.prog) (w := W) hgd s x 64 ho 0 69 i0 2 Tryz.underlying64 hi v _ _ hs hr hx ?_
    exact h v W (by rw [List.append_nil]; exact hr) (Kp.refl _ _) (.inl rfl)
  · refine wpList_append_own_at (P := Tryz.prog) (w := W) hgd s x 64 ho 0 69 i0 _ 2 16 Tryz.underlying64 hi hz0 hz1 hz2 rfl (by decide) v _ _ hs hr ⟨g, 0, none⟩ ds.length cap (scs ds) hx (scs_len ds) (hc g rfl) (scs_one _) (by unfold maxLen; omega) (by omega) (Nat.zero_le _) ?_
    intro v' w' h1 h2 _ h4
    refine h v' w' ?_ ((Kp.of_grown h2).sub (fun k e => e.symm)) ?_
    · unfold Rp
      rw [List.length_append, scs_app]
      exact h1
    · rcases h4 with h4 | h4
      · exact .inl h4
      · exact .inr ⟨_, h4, Nat.le_refl _⟩
/-- A row of such rows; S: where they lie. -/
def Rq (W : World) (v : Value) (S : Nat → Prop) (ps : List (List (Int × Nat))) : Prop := ∃ xs : List Value, xs.length = ps.length ∧ W.ownsRow 0 64 1 v ps.length xs ∧ ∀ (j : Nat) (x : Value) (p : List (Int × Nat)), xs[j]? = some x → ps[j]? = some p → Rp W x p ∧ (∀ k, x.ownBlock = some k → S k)
theorem rq_nil (W : World) (S : Nat → Prop) : Rq W nilS S [] := ⟨[], rfl, World.ownsRow_nil W 0 64 1, fun j x p h => by simp at h⟩
theorem Rq.kp {S S' : Nat → Prop} {W W' : World} {v : Value} {ps : List (List (Int × Nat))} (h : Rq W v S ps) (hk : Kp S' W W') (hS : ∀ k, v.ownBlock = some k → ¬ S' k) (hP : ∀ k, S k → ¬ S' k) : Rq W' v S ps := by
  obtain ⟨xs, h1, h2, h3⟩ := h
  exact ⟨xs, h1, hk.row h2 hS, fun j x p hx hp => ⟨(h3 j x p hx hp).1.kp hk (fun k e => hP k ((h3 j x p hx hp).2 k e)), (h3 j x p hx hp).2⟩⟩
theorem Rq.below {S : Nat → Prop} {W W' : World} {v : Value} {ps : List (List (Int × Nat))} (h : Rq W v S ps) (hb : Below W.heap.size W W') : Rq W' v S ps := by
  obtain ⟨xs, h1, h2, h3⟩ := h
  exact ⟨xs, h1, row_below h2 hb, fun j x p hx hp => ⟨(h3 j x p hx hp).1.below hb, (h3 j x p hx hp).2⟩⟩
theorem Rq.sub {S S' : Nat → Prop} {W : World} {v : Value} {ps : List (List (Int × Nat))} (h : Rq W v S ps) (hs : ∀ k, k < W.heap.size → S k → S' k) : Rq W v S' ps := by
  obtain ⟨xs, h1, h2, h3⟩ := h
  exact ⟨xs, h1, h2, fun j x p hx hp => ⟨(h3 j x p hx hp).1, fun k e => hs k ((h3 j x p hx hp).1.lt k e) ((h3 j x p hx hp).2 k e)⟩⟩
theorem Rq.shape {S : Nat → Prop} {W : World} {v : Value} {ps : List (List (Int × Nat))} (h : Rq W v S ps) : ∃ p cap, v = .slice p ps.length cap ∧ ps.length ≤ cap ∧ cap ≤ maxLen := by
  obtain ⟨xs, h1, h2, h3⟩ := h
  exact row_shape h2
theorem Rq.ne {S : Nat → Prop} {W : World} {v : Value} {ps : List (List (Int × Nat))} (h : Rq W v S ps) {g : Nat} {cs : Array Value} {T : TypeId} {f : Nat × Nat} (hg : W.heap[g]? = some (.cells cs T f)) (hT : T ≠ 64) : ∀ k, v.ownBlock = some k → k ≠ g := by
  intro k hk e
  obtain ⟨xs, h1, h2, h3⟩ := h
  rcases h2.2 with ⟨rfl, h0⟩ | ⟨b, cap, cur, rfl, hb, h3, _⟩
  · cases hk
  · simp only [Value.ownBlock, Option.some.injEq] at hk
    subst hk
    subst e
    rw [hg] at h3
    cases h3
    exact hT rfl
/-- Rows of two kinds never share a block. -/
theorem Rq.rp {S : Nat → Prop} {W : World} {v u : Value} {ps : List (List (Int × Nat))} {l : List (Int × Nat)} (h : Rq W v S ps) (h' : Rp W u l) : ∀ k, v.ownBlock = some k → u.ownBlock ≠ some k := by
  intro k hk hu
  rcases h'.2 with ⟨rfl, h0⟩ | ⟨b, cap, cur, rfl, hb, h3, _⟩
  · cases hu
  · simp only [Value.ownBlock, Option.some.injEq] at hu
    subst hu
    exact h.ne h3 (by decide) _ hk rfl
theorem Tryz.info64 : (Tryz.prog.info? 64).map (fun i => (i.zero, i.size, i.bytes)) = some (some (.slice none 0 0), 1, 24) := by kernel_rfl
theorem app_row {S : Nat → Prop} {W : World} {ops : Array Oper} {rest : List Oper} {o : Oper} {a : Act} {Q : Exit → Act → World → Prop} (hgd : o.guard = none) (s x : Operand)
    (ho : o.op = .call { callee := .builtin .append, args := #[s, x], argTypes := #[65, 65] }) (v : Value) (ps : List (List (Int × Nat))) (d : Value) (pd : List (Int × Nat)) (hd : d.oneCell' = true) (hs : a.eval s = v) (hr : Rq W v S ps) (hrd : Rp W d pd) (hdS : ∀ k, d.ownBlock = some k → S k) (hSv : ∀ k, S k → ¬ v.ownBlock = some k)
    (g c : Nat) (hx : a.eval x = .slice (some ⟨g, 0, none⟩) 1 c) (hg : W.heap[g]? = some (.cells #[d] 64 (0, 0))) (hl : ps.length ≤ 1000000000)
    (h : ∀ v' w', Rq w' v' S (ps ++ [pd]) → Kp (fun k => v.ownBlock = some k) W w' → Nb W v v' → wpList Tryz.prog ops Q rest (a.put o.dst v') w') : wpList Tryz.prog ops Q (o :: rest) a W := by
  obtain ⟨i0, hi, hz0, hz1, hz2⟩ := info_parts Tryz.info64
  obtain ⟨xs, hxl, hrx, hps⟩ := hr
  refine wpList_append_own_at (P := Tryz.prog) (w := W) hgd s x 65 ho 0 64 i0 _ 1 24 Tryz.underlying65 hi hz0 hz1 hz2 rfl (by decide) v _ _ hs hrx ⟨g, 0, none⟩ 1 c [d] hx rfl ?_ (by intro u hu; simp at hu; subst hu; exact hd) (by unfold maxLen; omega) (by omega) (Nat.zero_le _) ?_
  · intro j u hu
    exact World.news_of_block hg j u (by simpa using hu)
  · intro v' w' h1 h2 _ h4
    have hk : Kp (fun k => v.ownBlock = some k) W w' := (Kp.of_grown h2).sub (fun k e => e.symm)
    refine h v' w' ⟨xs ++ [d], by simp [hxl], by rw [List.length_append]; exact h1, ?_⟩ hk ?_
    · intro j y p hy hp
      by_cases hj : j < xs.length
      · rw [List.getElem?_append_left hj] at hy
        rw [List.getElem?_append_left (by omega)] at hp
        obtain ⟨a1, a2⟩ := hps j y p hy hp
        exact ⟨a1.kp hk (fun k e => hSv k (a2 k e)), a2⟩
      · rw [List.getElem?_append_right (by omega)] at hy hp
        have hj0 : j - xs.length = 0 := by
          have := (List.getElem?_eq_some_iff.1 hy).1
          simp at this
          omega
        rw [hj0] at hy
        rw [show j - ps.length = 0 by omega] at hp
        simp at hy hp
        subst hy hp
        exact ⟨hrd.kp hk (fun k e => hSv k (hdS k e)), hdS⟩
    · rcases h4 with h4 | h4
      · exact .inl h4
      · exact .inr ⟨_, h4, Nat.le_refl _⟩

/-! The nodes of each token, out of what was told. -/
def pts : List Ev → List (Int × Nat) × Nat → List (List (Int × Nat))
  | [], _ => []
  | e :: o, (p, s) => if e.k = 1 then pts o (p ++ [(e.n, s + 1)], s + 1) else if e.k = 3 then pts o (p.dropLast, s) else if e.k = 2 then p :: pts o (p, s) else pts o (p, s)
theorem pts_app : ∀ (a b : List Ev) (x : List (Int × Nat) × Nat), pts (a ++ b) x = pts a x ++ pts b (pev a x)
  | [], b, x => by simp [pts, pev]
  | e :: a, b, (p, s) => by
    simp only [List.cons_append, pts, pev]
    split
    · exact pts_app a b _
    · split
      · exact pts_app a b _
      · split
        · rw [pts_app a b]; rfl
        · exact pts_app a b _
theorem nts_quiet : ∀ (o : List Ev) (x : List (Int × Nat) × Nat), (∀ e, e ∈ o → e.k = 4) → pts o x = [] ∧ pev o x = x
  | [], x, _ => ⟨rfl, rfl⟩
  | e :: o, (p, s), h => by
    have he := h e (by simp)
    have := nts_quiet o (p, s) (fun e he => h e (by simp [he]))
    simp [pts, pev, he, this]
def pz (v : List Ev) : List (List (Int × Nat)) := pts v ([], 0)
/-- The reader's block. -/
def RB (W : World) (g : Nat) (vL : Value) (i : Nat) (vp : Value) (s : Nat) (vq vl : Value) (e : Int) : Prop := W.heap[g]? = some (.cells #[vL, .int .i64 (i : Int), vp, .int .i64 (s : Int), .bool true, vq, vl, .int .i64 e] 67 (0, 0))
theorem RB.cells {W : World} {g i s : Nat} {vL vp vq vl : Value} {e : Int} (h : RB W g vL i vp s vq vl e) :
    W.cell? ⟨g, 0, none⟩ = some vL ∧ W.cell? ⟨g, 1, none⟩ = some (.int .i64 (i : Int)) ∧ W.cell? ⟨g, 2, none⟩ = some vp ∧ W.cell? ⟨g, 3, none⟩ = some (.int .i64 (s : Int)) ∧ W.cell? ⟨g, 4, none⟩ = some (.bool true) ∧ W.cell? ⟨g, 5, none⟩ = some vq ∧ W.cell? ⟨g, 6, none⟩ = some vl ∧ W.cell? ⟨g, 7, none⟩ = some (.int .i64 e) :=
  ⟨blk_cell h rfl, blk_cell h rfl, blk_cell h rfl, blk_cell h rfl, blk_cell h rfl, blk_cell h rfl, blk_cell h rfl, blk_cell h rfl⟩
theorem RB.frozen {W : World} {g i s : Nat} {vL vp vq vl : Value} {e : Int} (h : RB W g vL i vp s vq vl e) (j : Nat) : W.frozen? ⟨g, j, none⟩ = false := blk_frozen h
theorem RB.kp {S : Nat → Prop} {W W' : World} {g i s : Nat} {vL vp vq vl : Value} {e : Int} (h : RB W g vL i vp s vq vl e) (hk : Kp S W W') (hS : ¬ S g) : RB W' g vL i vp s vq vl e := hk.blk h hS
theorem RB.below {W W' : World} {g i s : Nat} {vL vp vq vl : Value} {e : Int} (h : RB W g vL i vp s vq vl e) (hb : Below W.heap.size W W') : RB W' g vL i vp s vq vl e := blk_below h hb
theorem RB.lt {W : World} {g i s : Nat} {vL vp vq vl : Value} {e : Int} (h : RB W g vL i vp s vq vl e) : g < W.heap.size := blk_lt h
/-- What a reader is over: the world in which it was made, its tokens, its block. -/
structure Rx where
  w : World
  ao : Option Addr
  cap : Nat
  L : List Tv
  g : Nat
/-- Where the tokens' rows lie. -/
abbrev Sq (X : Rx) (vp vq : Value) (k : Nat) : Prop := X.w.heap.size ≤ k ∧ vp.ownBlock ≠ some k ∧ vq.ownBlock ≠ some k ∧ k ≠ X.g
/-- Its rows. -/
structure RV (X : Rx) (d : D) (W : World) (vp vq vl : Value) : Prop where
  rb : RB W X.g (.slice X.ao X.L.length X.cap) d.i vp d.s vq vl d.e
  rp : Rp W vp d.p
  rq : Rq W vq (Sq X vp vq) (pz d.v)
  bp : ∀ k, vp.ownBlock = some k → X.w.heap.size ≤ k
  bq : ∀ k, vq.ownBlock = some k → X.w.heap.size ≤ k
  sl : ∃ p n c, vl = .slice p n c
theorem RV.below {X : Rx} {d : D} {W W' : World} {vp vq vl : Value} (h : RV X d W vp vq vl) (hb : Below W.heap.size W W') : RV X d W' vp vq vl := ⟨h.rb.below hb, h.rp.below hb, h.rq.below hb, h.bp, h.bq, h.sl⟩
/-- The reader; r: how many nodes were opened since the last token, at most. -/
structure RD (X : Rx) (r : Nat) (d : D) (W : World) : Prop where
  bel : Below X.w.heap.size X.w W
  lt : Lt X.w X.ao X.L
  g0 : X.w.heap.size ≤ X.g
  hL : X.L.length ≤ 4194304
  rv : ∃ vp vq vl, RV X d W vp vq vl
  il : d.i ≤ X.L.length
  sm : d.e = 0 → d.s ≤ 100 * d.i + r
  sb : d.s ≤ 100 * X.L.length + 100
  pl : d.p.length ≤ d.s
  nn : ∀ j e, e ∈ d.N j → e.k = 4
  pv : pev d.v ([], 0) = (d.p, d.s)
  ql : (pz d.v).length ≤ d.i
theorem RD.below {X : Rx} {r : Nat} {d : D} {W W' : World} (h : RD X r d W) (hb : Below W.heap.size W W') : RD X r d W' := by
  obtain ⟨vp, vq, vl, v⟩ := h.rv
  exact ⟨h.bel.trans (hb.mono h.bel.size), h.lt, h.g0, h.hL, ⟨vp, vq, vl, v.below hb⟩, h.il, h.sm, h.sb, h.pl, h.nn, h.pv, h.ql⟩
theorem RD.up {X : Rx} {r r' : Nat} {d : D} {W : World} (h : RD X r d W) (hr : r ≤ r') : RD X r' d W := ⟨h.bel, h.lt, h.g0, h.hL, h.rv, h.il, fun e => Nat.le_trans (h.sm e) (by omega), h.sb, h.pl, h.nn, h.pv, h.ql⟩
theorem RD.dead {X : Rx} {r r' : Nat} {d : D} {W : World} (h : RD X r d W) (he : d.e ≠ 0) : RD X r' d W := ⟨h.bel, h.lt, h.g0, h.hL, h.rv, h.il, fun e => absurd e he, h.sb, h.pl, h.nn, h.pv, h.ql⟩
/-- The next token, in memory. -/
theorem RD.tok {X : Rx} {r : Nat} {d : D} {W : World} (h : RD X r d W) {t : Tv} (ht : X.L[d.i]? = some t) : ∃ b off, X.ao = some ⟨b, off, none⟩ ∧ W.cell? ⟨b, off + d.i * 6, none⟩ = some (.int .u8 t.k) ∧ W.cell? ⟨b, off + d.i * 6 + 1, none⟩ = some (.string t.t) ∧ b < W.heap.size := by
  obtain ⟨b, off, h1, c0, c1, _⟩ := (h.lt.below h.bel) d.i t ht
  exact ⟨b, off, h1, c0, c1, World.block_lt_of_cell? _ _ c0⟩

end Go.Proofs.YtkigadnkclkopaaGreat

set_option linter.unusedVariables false
set_option linter.unusedSimpArgs false
namespace Go.Proofs.YtkigadnkclkopaaGreat
open Go.RowKit

/-! The reader's small methods. -/
set_option maxHeartbeats 4194304 in
theorem rkind_any {X : Rx} {r : Nat} {d : D} {W : World} (h : RD X r d W) (k : Int) :
    Calls Tryz.prog 79 #[pt X.g, .int .u8 k] W fun e w' => e = .returned (.bool (qn X.L d (kd k))) ∧ Below W.heap.size W w' := by
  obtain ⟨vp, vq, vl, v⟩ := h.rv
  obtain ⟨c0, c1, c2, c3, c4, c5, c6, c7⟩ := v.rb.cells
  have hgl := v.rb.lt
  have hL := h.hL
  have hil := h.il
  by_cases he : d.e = 0
  · rw [he] at c7
    by_cases hi : d.i < X.L.length
    · obtain ⟨t, ht⟩ : ∃ t, X.L[d.i]? = some t := ⟨_, List.getElem?_eq_getElem hi⟩
      obtain ⟨b, off, e0, x0, x1, xl⟩ := h.tok ht
      have hq : qn X.L d (kd k) = (t.k == k) := by simp [qn, nxt, he, ht, kd]
      rw [hq]
      have q1 : (d.i : Int) < X.L.length := by omega
      have q2 : (0 : Int) ≤ d.i := by omega
      rw [e0] at c0
      clear h v hq
      go_enter Tryz.func79, Tryz.ntmps79
      go_wp2_with fail
      go_quiet (fail)
      go_wp2_with fail
      go_ret
      exact ⟨rfl, below_dn (Below.refl _ _) _⟩
    · have hq : qn X.L d (kd k) = false := by
        have : X.L[d.i]? = none := List.getElem?_eq_none (by omega)
        simp [qn, nxt, he, this]
      rw [hq]
      have q1 : ¬ ((d.i : Int) < X.L.length) := by omega
      clear h v hq
      go_enter Tryz.func79, Tryz.ntmps79
      go_wp2_with fail
      go_quiet (fail)
      go_wp2_with fail
      go_ret
      exact ⟨rfl, below_dn (Below.refl _ _) _⟩
  · have hq : qn X.L d (kd k) = false := by simp [qn, nxt, he]
    rw [hq]
    have q1 : (d.e == 0) = false := by simpa using he
    clear h v hq
    go_enter Tryz.func79, Tryz.ntmps79
    go_wp2_with fail
    go_quiet (fail)
    go_wp2_with fail
    go_ret
    exact ⟨rfl, below_dn (Below.refl _ _) _⟩

theorem qn_wk {L : List Tv} {d : D} {k : Int} {s : ByteArray} : qn L d (wk k s) = true → qn L d (kd k) = true := by
  unfold qn
  cases nxt L d with
  | none => exact fun h => h
  | some t => simp only [Option.elim, wk, kd, Bool.and_eq_true]; exact fun h => h.1
set_option maxHeartbeats 4194304 in
theorem rword_any {X : Rx} {r : Nat} {d : D} {W : World} (h : RD X r d W) (s : ByteArray) :
    Calls Tryz.prog 77 #[pt X.g, .string s] W fun e w' => e = .returned (.bool (qn X.L d (wk 2 s))) ∧ Below W.heap.size W w' := by
  have HK : Hid (Calls Tryz.prog 79 #[pt X.g, .int .u8 2] W fun e w' => e = .returned (.bool (qn X.L d (kd 2))) ∧ Below W.heap.size W w') := rkind_any h 2
  have HD : Hid (∀ V, Below W.heap.size W V → RD X r d V) := fun V hb => h.below hb
  have hL := h.hL
  have hil := h.il
  clear h
  cases hq : qn X.L d (kd 2) with
  | false =>
    have hq2 : qn X.L d (wk 2 s) = false := by
      cases hw : qn X.L d (wk 2 s) with
      | false => rfl
      | true => rw [qn_wk hw] at hq; cases hq
    rw [hq2]
    rw [hq] at HK
    go_enter Tryz.func77, Tryz.ntmps77
    go_wp2_with fail
    refine HK.out.mono ?_
    rintro e w1 ⟨rfl, hb1⟩
    go_wp2_with fail
    go_quiet (fail)
    go_wp2_with fail
    go_ret
    exact ⟨rfl, below_dn hb1 _⟩
  | true =>
    obtain ⟨he, hi⟩ := qn_live hq
    obtain ⟨t, ht⟩ : ∃ t, X.L[d.i]? = some t := ⟨_, List.getElem?_eq_getElem hi⟩
    have hk2 : (t.k == 2) = true := by simpa [qn, nxt, he, ht, kd] using hq
    have hq2 : qn X.L d (wk 2 s) = (t.t.toList == s.toList) := by
      rw [btl_eq]
      simp [qn, nxt, he, ht, wk, hk2]
    rw [hq2]
    rw [hq] at HK
    have q1 : (d.i : Int) < X.L.length := by omega
    have q2 : (0 : Int) ≤ d.i := by omega
    clear hq hq2 hk2
    go_enter Tryz.func77, Tryz.ntmps77
    go_wp2_with fail
    refine HK.out.mono ?_
    rintro e w1 ⟨rfl, hb1⟩
    have h1 := HD.out w1 hb1
    obtain ⟨vp, vq, vl, v⟩ := h1.rv
    obtain ⟨c0, c1, c2, c3, c4, c5, c6, c7⟩ := v.rb.cells
    obtain ⟨b, off, e0, x0, x1, xl⟩ := h1.tok ht
    rw [e0] at c0
    clear h1 v HK HD ht
    go_wp2_with fail
    go_quiet (fail)
    go_wp2_with fail
    go_ret
    exact ⟨rfl, below_dn hb1 _⟩

set_option maxHeartbeats 4194304 in
theorem rsign_any {X : Rx} {r : Nat} {d : D} {W : World} (h : RD X r d W) (s : ByteArray) :
    Calls Tryz.prog 80 #[pt X.g, .string s] W fun e w' => e = .returned (.bool (qn X.L d (wk 6 s))) ∧ Below W.heap.size W w' := by
  have HK : Hid (Calls Tryz.prog 79 #[pt X.g, .int .u8 6] W fun e w' => e = .returned (.bool (qn X.L d (kd 6))) ∧ Below W.heap.size W w') := rkind_any h 6
  have HD : Hid (∀ V, Below W.heap.size W V → RD X r d V) := fun V hb => h.below hb
  have hL := h.hL
  have hil := h.il
  clear h
  cases hq : qn X.L d (kd 6) with
  | false =>
    have hq2 : qn X.L d (wk 6 s) = false := by
      cases hw : qn X.L d (wk 6 s) with
      | false => rfl
      | true => rw [qn_wk hw] at hq; cases hq
    rw [hq2]
    rw [hq] at HK
    go_enter Tryz.func80, Tryz.ntmps80
    go_wp2_with fail
    refine HK.out.mono ?_
    rintro e w1 ⟨rfl, hb1⟩
    go_wp2_with fail
    go_quiet (fail)
    go_wp2_with fail
    go_ret
    exact ⟨rfl, below_dn hb1 _⟩
  | true =>
    obtain ⟨he, hi⟩ := qn_live hq
    obtain ⟨t, ht⟩ : ∃ t, X.L[d.i]? = some t := ⟨_, List.getElem?_eq_getElem hi⟩
    have hk2 : (t.k == 6) = true := by simpa [qn, nxt, he, ht, kd] using hq
    have hq2 : qn X.L d (wk 6 s) = (t.t.toList == s.toList) := by
      rw [btl_eq]
      simp [qn, nxt, he, ht, wk, hk2]
    rw [hq2]
    rw [hq] at HK
    have q1 : (d.i : Int) < X.L.length := by omega
    have q2 : (0 : Int) ≤ d.i := by omega
    clear hq hq2 hk2
    go_enter Tryz.func80, Tryz.ntmps80
    go_wp2_with fail
    refine HK.out.mono ?_
    rintro e w1 ⟨rfl, hb1⟩
    have h1 := HD.out w1 hb1
    obtain ⟨vp, vq, vl, v⟩ := h1.rv
    obtain ⟨c0, c1, c2, c3, c4, c5, c6, c7⟩ := v.rb.cells
    obtain ⟨b, off, e0, x0, x1, xl⟩ := h1.tok ht
    rw [e0] at c0
    clear h1 v HK HD ht
    go_wp2_with fail
    go_quiet (fail)
    go_wp2_with fail
    go_ret
    exact ⟨rfl, below_dn hb1 _⟩

end Go.Proofs.YtkigadnkclkopaaGreat

set_option linter.unusedVariables false
set_option linter.unusedSimpArgs false
namespace Go.Proofs.YtkigadnkclkopaaGreat
open Go.RowKit

/-- Path was appended to. -/
theorem RD.opens {X : Rx} {r : Nat} {d : D} {W W1 w3 : World} (h : RD X r d W) (he : d.e = 0) (hr : r < 100) {vp vq vl : Value} (v : RV X d W vp vq vl) {n : Int} (hb : Below (W.setCell ⟨X.g, 3, none⟩ (.int .i64 ((d.s + 1 : Nat) : Int))).heap.size (W.setCell ⟨X.g, 3, none⟩ (.int .i64 ((d.s + 1 : Nat) : Int))) W1) {v' : Value} (h1 : Rp w3 v' (d.p ++ [(n, d.s + 1)])) (h2 : Kp (fun k => vp.ownBlock = some k) W1 w3) (h3 : Nb W1 vp v') :
    (w3.cell? ⟨X.g, 2, none⟩ = some vp ∧ w3.frozen? ⟨X.g, 2, none⟩ = false) ∧ RD X (r + 1) (opD n d) (w3.setCell ⟨X.g, 2, none⟩ v') := by
  have k0 := Kp.set W X.g 3 (.int .i64 ((d.s + 1 : Nat) : Int))
  have rb0 : RB _ X.g (.slice X.ao X.L.length X.cap) d.i vp (d.s + 1) vq vl d.e := blk_set v.rb 3 (.int .i64 ((d.s + 1 : Nat) : Int))
  have hvg : ∀ k, vp.ownBlock = some k → k ≠ X.g := v.rp.ne v.rb (by decide)
  have hqg : ∀ k, vq.ownBlock = some k → k ≠ X.g := v.rq.ne v.rb (by decide)
  have rb3 : RB w3 X.g (.slice X.ao X.L.length X.cap) d.i vp (d.s + 1) vq vl d.e := (rb0.below hb).kp h2 (fun e => hvg X.g e rfl)
  have k4 := Kp.set w3 X.g 2 v'
  have rb4 : RB _ X.g (.slice X.ao X.L.length X.cap) d.i v' (d.s + 1) vq vl d.e := blk_set rb3 2 v'
  have hvg' : ∀ k, v'.ownBlock = some k → k ≠ X.g := h1.ne rb3 (by decide)
  have hqp : ∀ k, vq.ownBlock = some k → vp.ownBlock ≠ some k := v.rq.rp v.rp
  have e : opD n d = { d with p := d.p ++ [(n, d.s + 1)], s := d.s + 1, v := d.v ++ [⟨1, n, tv0⟩] } := by unfold opD; rw [if_pos he]
  have hpz : pz (d.v ++ [⟨1, n, tv0⟩]) = pz d.v := by unfold pz; rw [pts_app, h.pv]; simp [pts]
  have hil := h.il
  have hsm := h.sm he
  refine ⟨⟨blk_cell rb3 rfl, rb3.frozen 2⟩, ?_⟩
  rw [e]
  have hsz : X.w.heap.size ≤ W1.heap.size := Nat.le_trans (Nat.le_trans h.bel.size k0.size) hb.size
  have hq1 : Rq W1 vq (Sq X vp vq) (pz d.v) := ((v.rq.kp k0 hqg (fun k hs => hs.2.2.2)).below hb)
  have hq2 : Rq W1 vq (fun k => k < W1.heap.size ∧ Sq X vp vq k) (pz d.v) := hq1.sub (fun k hk hs => ⟨hk, hs⟩)
  have hq3 : Rq w3 vq (fun k => k < W1.heap.size ∧ Sq X vp vq k) (pz d.v) := hq2.kp h2 hqp (fun k hs => hs.2.2.1)
  have hq4 := hq3.kp k4 hqg (fun k hs => hs.2.2.2.2)
  refine ⟨?_, h.lt, h.g0, h.hL, ⟨v', vq, vl, rb4, h1.kp k4 hvg', ?_, ?_, v.bq, v.sl⟩, h.il, fun _ => ?_, ?_, ?_, h.nn, ?_, ?_⟩
  · refine kp_low (S := fun k => k = X.g) ?_ k4 (fun k e => by rw [e]; exact h.g0) (Nat.le_trans hsz h2.size)
    refine kp_low (S := fun k => vp.ownBlock = some k) ?_ h2 v.bp hsz
    exact (kp_low h.bel k0 (fun k e => by rw [e]; exact h.g0) h.bel.size).trans (hb.mono (Nat.le_trans h.bel.size k0.size))
  · show Rq _ vq _ (pz (d.v ++ [⟨1, n, tv0⟩]))
    rw [hpz]
    refine hq4.sub (fun k _ hs => ⟨hs.2.1, fun e2 => ?_, hs.2.2.2.1, hs.2.2.2.2⟩)
    rcases h3 with e1 | ⟨q, e1, hq⟩
    · exact hs.2.2.1 (by rw [← e1]; exact e2)
    · rw [e1] at e2
      simp at e2
      have := hs.1
      omega
  · intro k e
    rcases h3 with e1 | ⟨q, e1, hq⟩
    · exact v.bp k (by rw [← e1]; exact e)
    · rw [e1] at e
      simp at e
      omega
  · show d.s + 1 ≤ 100 * d.i + (r + 1)
    omega
  · show d.s + 1 ≤ _
    omega
  · have := h.pl
    simp
    omega
  · show pev (d.v ++ [⟨1, n, tv0⟩]) ([], 0) = _
    rw [pev_app, h.pv]
    simp [pev]
  · show (pz (d.v ++ [⟨1, n, tv0⟩])).length ≤ _
    rw [hpz]
    exact h.ql
theorem step_step {W : World} {ops : Array Oper} {o : Oper} {a : Act} {K : Act → World → Prop} {Q : Exit → Act → World → Prop} {E : Prop} (hgd : o.guard = none) (s x : Operand)
    (ho : o.op = .call { callee := .builtin .append, args := #[s, x], argTypes := #[64, 64] }) (v : Value) (l : List (Int × Nat)) (d : Int × Nat) (hs : a.eval s = v) (hr : Rp W v l)
    (g c : Nat) (hx : a.eval x = .slice (some ⟨g, 0, none⟩) 1 c) (hg : W.heap[g]? = some (.cells #[.int .u8 d.1, .int .i64 (d.2 : Int)] 69 (0, 0))) (hl : l.length ≤ 1000000000)
    (h : ∀ q cap w', Rp w' (.slice (some ⟨q, 0, none⟩) (l.length + 1) cap) (l ++ [d]) → Kp (fun k => v.ownBlock = some k) W w' → Nb W v (.slice (some ⟨q, 0, none⟩) (l.length + 1) cap) → K (a.put o.dst (.slice (some ⟨q, 0, none⟩) (l.length + 1) cap)) w') :
    if Region.wanted o (yielded ops a.tmps) = true then Oper.wp Tryz.prog o a W K Q else E := by
  obtain ⟨i0, hi, hz0, hz1, hz2⟩ := info_parts Tryz.info69
  refine step_append_lies W hgd s x 64 ho 0 69 i0 _ 2 16 Tryz.underlying64 hi hz0 hz1 hz2 rfl (by decide) v _ _ hs hr ⟨g, 0, none⟩ 1 c (scs [d]) hx (by rw [scs_len]; rfl) ?_ (scs_one [d]) (by omega) (by unfold maxLen; omega) (by omega) (Nat.zero_le _) _ rfl ?_
  · intro j u hu
    refine World.news_of_block hg j u ?_
    have e : scs [d] = [.int .u8 d.1, .int .i64 (d.2 : Int)] := by simp [scs, flat]
    rw [e] at hu
    simpa using hu
  · intro q cap w' a1 a2 a3 _
    refine h q cap w' ?_ ((Kp.of_grown a2).sub (fun k e => e.symm)) ?_
    · unfold Rp
      rw [List.length_append, scs_app]
      exact a1
    · rcases a3 with a3 | a3
      · exact .inl a3.symm
      · exact .inr ⟨q, rfl, by rw [a3]; exact Nat.le_refl _⟩
set_option maxRecDepth 100000 in
set_option maxHeartbeats 4194304 in
theorem opens_any {X : Rx} {r : Nat} {d : D} {W : World} (h : RD X r d W) (hr : r < 100) (n : Int) :
    Calls Tryz.prog 55 #[pt X.g, .int .u8 n] W fun e w' => e = .returned (.tuple #[]) ∧ RD X (r + 1) (opD n d) w' := by
  obtain ⟨vp, vq, vl, v⟩ := h.rv
  obtain ⟨c0, c1, c2, c3, c4, c5, c6, c7⟩ := v.rb.cells
  have hgl := v.rb.lt
  have hf2 := v.rb.frozen 2
  have hf3 := v.rb.frozen 3
  have hsb := h.sb
  have hL := h.hL
  by_cases he : d.e = 0
  · rw [he] at c7
    have HX : Hid (∀ W1 w3 v', Below (W.setCell ⟨X.g, 3, none⟩ (.int .i64 ((d.s + 1 : Nat) : Int))).heap.size (W.setCell ⟨X.g, 3, none⟩ (.int .i64 ((d.s + 1 : Nat) : Int))) W1 → Rp w3 v' (d.p ++ [(n, d.s + 1)]) → Kp (fun k => vp.ownBlock = some k) W1 w3 → Nb W1 vp v' → (w3.cell? ⟨X.g, 2, none⟩ = some vp ∧ w3.frozen? ⟨X.g, 2, none⟩ = false) ∧ RD X (r + 1) (opD n d) (w3.setCell ⟨X.g, 2, none⟩ v')) := fun W1 w3 v' a b c e => h.opens he hr v a b c e
    have k0 := Kp.set W X.g 3 (.int .i64 ((d.s + 1 : Nat) : Int))
    have HR : Hid (∀ V, Below (W.setCell ⟨X.g, 3, none⟩ (.int .i64 ((d.s + 1 : Nat) : Int))).heap.size (W.setCell ⟨X.g, 3, none⟩ (.int .i64 ((d.s + 1 : Nat) : Int))) V → Rp V vp d.p) := fun V hb => (v.rp.kp k0 (v.rp.ne v.rb (by decide))).below hb
    have hpl : d.p.length ≤ 1000000000 := by have := h.pl; omega
    have hs1 : d.s ≤ 419430500 := by omega
    have hs2 : (d.s : Int) ≤ 419430500 := by omega
    obtain ⟨pv, cv, hv, _⟩ := v.rp.shape
    subst hv
    clear h
    go_enter Tryz.func55, Tryz.ntmps55
    go_wp2_with fail
    obtain ⟨W1, e1⟩ : ∃ W1, W.setCell ⟨X.g, 3, none⟩ (.int .i64 ((d.s : Int) + 1)) = W1 := ⟨_, rfl⟩
    have e2 : W.setCell ⟨X.g, 3, none⟩ (.int .i64 ((d.s + 1 : Nat) : Int)) = W1 := by rw [← e1]; rfl
    rw [e2] at HX HR
    have m2 : W1.cell? ⟨X.g, 2, none⟩ = some (.slice pv d.p.length cv) := by rw [← e2]; exact blk_cell (blk_set v.rb 3 _) rfl
    have m3 : W1.cell? ⟨X.g, 3, none⟩ = some (.int .i64 ((d.s : Int) + 1)) := by rw [← e2]; exact blk_cell (blk_set v.rb 3 _) rfl
    have hg1 : X.g < W1.heap.size := Nat.lt_of_lt_of_le hgl (by rw [← e2]; exact k0.size)
    rw [e1]
    have HB : Hid (∀ o, Below W1.heap.size W1 (W1.drew.alloc o)) := fun o => (Below.refl _ _).drew.alloc (Nat.le_refl _) _
    clear e1 e2 v c0 c1 c2 c3 c4 c5 c6 c7 hf2 hf3 hgl k0
    go_region_law (refine step_step (by rfl) _ _ (by rfl) (.slice pv d.p.length cv) d.p (n, d.s + 1) (by rfl) (HR.out _ (HB.out _)) W1.heap.size 1 (by rfl) (new_at W1.drew _) hpl ?_; intro q cp w3 h1 h2 h3; obtain ⟨⟨x1, x2⟩, x3⟩ := HX.out _ w3 _ (HB.out _) h1 h2 h3; have HX2 := show Hid _ from x3; clear x3 h1 h2 h3)
    all_goals (
      go_wp2_with fail
      go_end0
      exact ⟨rfl, HX2.out⟩)
  · rw [opD_dead he]
    have HX : Hid (RD X (r + 1) d W) := h.dead he
    have q1 : (d.e == 0) = false := by simpa using he
    clear h
    go_enter Tryz.func55, Tryz.ntmps55
    go_wp2_with fail
    go_end0
    exact ⟨rfl, HX.out⟩

end Go.Proofs.YtkigadnkclkopaaGreat

set_option linter.unusedVariables false
set_option linter.unusedSimpArgs false
namespace Go.Proofs.YtkigadnkclkopaaGreat
open Go.RowKit

/-! closes, wrong, take. -/
theorem Rp.last {W : World} {v : Value} {ys : List (Int × Nat)} {x : Int × Nat} (h : Rp W v (ys ++ [x])) : ∃ b cap, v = .slice (some ⟨b, 0, none⟩) (ys.length + 1) cap ∧ ys.length + 1 ≤ cap ∧ Rp W (.slice (some ⟨b, 0, none⟩) ys.length cap) ys := by
  rcases h.2 with ⟨_, h0⟩ | ⟨b, cap, cur, hv, h1, h2, h3, h4, h5, h6⟩
  · simp at h0
  · have hl : (ys ++ [x]).length = ys.length + 1 := by simp
    rw [hl] at hv h3
    refine ⟨b, cap, hv, h3, by rw [scs_len], .inr ⟨b, cap, cur, rfl, h1, h2, by omega, h4, h5, ?_⟩⟩
    rw [hl, scs_app] at h6
    have := congrArg (List.take (ys.length * 2)) h6
    rw [List.take_take] at this
    rw [Nat.min_eq_left (by omega)] at this
    rw [this, List.take_append_of_le_length (by rw [scs_len]; exact Nat.le_refl _), ← scs_len, List.take_length]
/-- A cell of the reader was set. -/
theorem RD.set {X : Rx} {r r' : Nat} {d d' : D} {W : World} (h : RD X r d W) {vp vq vl : Value} (v : RV X d W vp vq vl) (k : Nat) (u : Value) {vp' : Value}
    (hb : RB (W.setCell ⟨X.g, k, none⟩ u) X.g (.slice X.ao X.L.length X.cap) d'.i vp' d'.s vq vl d'.e) (hp : Rp W vp' d'.p) (ho : vp'.ownBlock = vp.ownBlock) (hz : pz d'.v = pz d.v) (hn : d'.N = d.N) (hpv : pev d'.v ([], 0) = (d'.p, d'.s)) (hi : d.i ≤ d'.i) (il : d'.i ≤ X.L.length) (sm : d'.e = 0 → d'.s ≤ 100 * d'.i + r') (sb : d'.s ≤ 100 * X.L.length + 100) (pl : d'.p.length ≤ d'.s) : RD X r' d' (W.setCell ⟨X.g, k, none⟩ u) := by
  have k0 := Kp.set W X.g k u
  refine ⟨kp_low h.bel k0 (fun k e => by rw [e]; exact h.g0) h.bel.size, h.lt, h.g0, h.hL, ⟨vp', vq, vl, hb, hp.kp k0 (hp.ne v.rb (by decide)), ?_, by rw [ho]; exact v.bp, v.bq, v.sl⟩, il, sm, sb, pl, by rw [hn]; exact h.nn, hpv, by rw [hz]; exact Nat.le_trans h.ql hi⟩
  rw [hz]
  have := v.rq.kp k0 (v.rq.ne v.rb (by decide)) (fun k hs => hs.2.2.2)
  unfold Sq at this ⊢
  rw [ho]
  exact this
set_option maxHeartbeats 4194304 in
theorem closes_any (n : Int) {X : Rx} {r : Nat} {d : D} {W : World} (h : RD X r d W) (hp : Pn d) :
    Calls Tryz.prog 85 #[pt X.g] W fun e w' => e = .returned (.tuple #[]) ∧ RD X r (clD n d) w' := by
  obtain ⟨vp, vq, vl, v⟩ := h.rv
  obtain ⟨c0, c1, c2, c3, c4, c5, c6, c7⟩ := v.rb.cells
  have hgl := v.rb.lt
  have hf2 := v.rb.frozen 2
  have hL := h.hL
  by_cases he : d.e = 0
  · rw [he] at c7
    have hpl := h.pl
    have hsb := h.sb
    obtain ⟨ys, x, hys⟩ : ∃ ys x, d.p = ys ++ [x] := ⟨d.p.dropLast, d.p.getLast (hp he), (List.dropLast_concat_getLast (hp he)).symm⟩
    have hr := v.rp
    rw [hys] at hr
    obtain ⟨b, cap, rfl, hcap, hr2⟩ := hr.last
    have hyl : d.p.length = ys.length + 1 := by rw [hys]; simp
    have e : clD n d = { d with p := ys, v := d.v ++ [⟨3, n, tv0⟩] } := by unfold clD; rw [if_pos he, hys, List.dropLast_concat]
    have HX : Hid (RD X r (clD n d) (W.setCell ⟨X.g, 2, none⟩ (.slice (some ⟨b, 0, none⟩) ys.length cap))) := by
      rw [e]
      exact h.set v 2 _ (blk_set v.rb 2 _) hr2 rfl (by show pz (d.v ++ [⟨3, n, tv0⟩]) = _; unfold pz; rw [pts_app, h.pv]; simp [pts]) rfl (by show pev (d.v ++ [⟨3, n, tv0⟩]) ([], 0) = _; rw [pev_app, h.pv]; simp [pev, hys]) (Nat.le_refl _) h.il h.sm h.sb (by show ys.length ≤ d.s; omega)
    have hy : ys.length ≤ 1000000000 := by omega
    have y0 : (0 : Int) ≤ ys.length := by omega
    have y1 : (ys.length : Int) < (ys.length + 1 : Nat) := by omega
    have y2 : ((ys.length + 1 : Nat) : Int) - 1 = ys.length := by omega
    have y3 : IntKind.i64.wrap (((ys.length + 1 : Nat) : Int) - 1) = (ys.length : Int) := by rw [IntKind.wrap_i64]; omega
    have y4 : ys.length ≤ cap := by omega
    have y5 : IntKind.i64.wrap (ys.length : Int) = (ys.length : Int) := by rw [IntKind.wrap_i64]; omega
    clear h v hr hr2 e hys hp
    go_enter Tryz.func85, Tryz.ntmps85
    go_wp2_with fail
    go_region_law (fail)
    all_goals (
      go_wp2_with fail
      go_end0
      first
        | exact ⟨rfl, HX.out⟩
        | exact ⟨rfl, HX.out.below (Below.refl _ _).drew⟩
        | exact ⟨rfl, HX.out.below (Below.refl _ _).drew.drew⟩)
  · rw [clD_dead he]
    have HX : Hid (RD X r d W) := h
    have q1 : (d.e == 0) = false := by simpa using he
    clear h
    go_enter Tryz.func85, Tryz.ntmps85
    go_wp2_with fail
    go_end0
    exact ⟨rfl, HX.out⟩
set_option maxHeartbeats 4194304 in
theorem wrong_any {X : Rx} {r : Nat} {d : D} {W : World} (h : RD X r d W) :
    Calls Tryz.prog 108 #[pt X.g] W fun e w' => e = .returned (.tuple #[]) ∧ RD X 0 (tkD X.L false d) w' := by
  obtain ⟨vp, vq, vl, v⟩ := h.rv
  obtain ⟨c0, c1, c2, c3, c4, c5, c6, c7⟩ := v.rb.cells
  have hgl := v.rb.lt
  have hf7 := v.rb.frozen 7
  have hL := h.hL
  have hil := h.il
  by_cases he : d.e = 0
  · rw [he] at c7
    by_cases hi : d.i < X.L.length
    · have e : tkD X.L false d = { d with e := 120 } := by simp [tkD, he, hi]
      rw [e]
      have HX : Hid (∀ m, RD X 0 { d with e := 120 } ((W.drewN m).setCell ⟨X.g, 7, none⟩ (.int .i64 120))) := fun m => by
        have hb : Below W.heap.size W (W.drewN m) := below_dn (Below.refl _ _) m
        have h2 := h.below hb
        have v2 : RV X d (W.drewN m) vp vq vl := v.below hb
        exact h2.set v2 7 _ (blk_set v2.rb 7 _) v2.rp rfl rfl rfl h.pv (Nat.le_refl _) h.il (fun e => by cases e) h.sb h.pl
      have q1 : (d.i : Int) < X.L.length := by omega
      clear h v e
      go_enter Tryz.func108, Tryz.ntmps108
      go_wp2_with fail
      go_quiet (fail)
      go_wp2_with fail
      go_end0
      exact ⟨rfl, HX.out _⟩
    · have e : tkD X.L false d = { d with e := 121 } := by simp [tkD, he, hi]
      rw [e]
      have HX : Hid (∀ m, RD X 0 { d with e := 121 } ((W.drewN m).setCell ⟨X.g, 7, none⟩ (.int .i64 121))) := fun m => by
        have hb : Below W.heap.size W (W.drewN m) := below_dn (Below.refl _ _) m
        have h2 := h.below hb
        have v2 : RV X d (W.drewN m) vp vq vl := v.below hb
        exact h2.set v2 7 _ (blk_set v2.rb 7 _) v2.rp rfl rfl rfl h.pv (Nat.le_refl _) h.il (fun e => by cases e) h.sb h.pl
      have q1 : ¬ ((d.i : Int) < X.L.length) := by omega
      clear h v e
      go_enter Tryz.func108, Tryz.ntmps108
      go_wp2_with fail
      go_quiet (fail)
      go_wp2_with fail
      go_end0
      exact ⟨rfl, HX.out _⟩
  · have e : tkD X.L false d = d := by simp [tkD, he]
    rw [e]
    have HX : Hid (∀ m, RD X 0 d (W.drewN m)) := fun m => (h.dead he).below (below_dn (Below.refl _ _) m)
    have q1 : (d.e == 0) = false := by simpa using he
    clear h
    go_enter Tryz.func108, Tryz.ntmps108
    go_wp2_with fail
    go_quiet (fail)
    go_wp2_with fail
    go_end0
    exact ⟨rfl, HX.out _⟩

end Go.Proofs.YtkigadnkclkopaaGreat

set_option linter.unusedVariables false
set_option linter.unusedSimpArgs false
namespace Go.Proofs.YtkigadnkclkopaaGreat
open Go.RowKit

/-! take. -/
/-- The token's nodes were kept. -/
structure T1 (X : Rx) (d : D) (W : World) (vp vq vl : Value) (vx : Value) : Prop where
  bel : Below X.w.heap.size X.w W
  rb : RB W X.g (.slice X.ao X.L.length X.cap) d.i vp d.s vq vl d.e
  rp : Rp W vp d.p
  rx : Rp W vx d.p
  rq : Rq W vq (Sq X vp vq) (pz d.v)
  xb : ∀ k, vx.ownBlock = some k → Sq X vp vq k
theorem T1.below {X : Rx} {d : D} {W W' : World} {vp vq vl vx : Value} (h : T1 X d W vp vq vl vx) (hb : Below W.heap.size W W') : T1 X d W' vp vq vl vx := ⟨h.bel.trans (hb.mono h.bel.size), h.rb.below hb, h.rp.below hb, h.rx.below hb, h.rq.below hb, h.xb⟩
theorem Rq.lt {S : Nat → Prop} {W : World} {v : Value} {ps : List (List (Int × Nat))} (h : Rq W v S ps) : ∀ k, v.ownBlock = some k → k < W.heap.size := by
  intro k hk
  obtain ⟨xs, h1, h2, h3⟩ := h
  rcases h2.2 with ⟨rfl, h0⟩ | ⟨b, cap, cur, rfl, hb, h3, _⟩
  · cases hk
  · simp only [Value.ownBlock, Option.some.injEq] at hk
    subst hk
    exact blk_lt h3
theorem t1_of {X : Rx} {r : Nat} {d : D} {W w1 : World} (h : RD X r d W) {vp vq vl vx : Value} (v : RV X d W vp vq vl) (h1 : Rp w1 vx d.p) (h2 : Kp (fun k => nilS.ownBlock = some k) W w1) (h3 : Nb W nilS vx) : T1 X d w1 vp vq vl vx := by
  have no : ∀ k, ¬ (nilS.ownBlock = some k) := fun k e => by cases e
  refine ⟨kp_low h.bel h2 (fun k e => absurd e (no k)) h.bel.size, v.rb.kp h2 (no _), v.rp.kp h2 (fun k _ => no k), h1, v.rq.kp h2 (fun k _ => no k) (fun k _ => no k), ?_⟩
  intro k e
  rcases h3 with e1 | ⟨q, e1, hq1⟩
  · rw [e1] at e; cases e
  · rw [e1] at e
    simp at e
    subst e
    refine ⟨Nat.le_trans h.bel.size hq1, fun e2 => ?_, fun e2 => ?_, fun e2 => ?_⟩
    · have := v.rp.lt _ e2; omega
    · have := v.rq.lt _ e2; omega
    · have := v.rb.lt; omega
theorem T1.took {X : Rx} {r : Nat} {d : D} {W W0 w1 w3 : World} (h : RD X r d W) (he : d.e = 0) (hr : r ≤ 100) (hi : d.i < X.L.length) {vp vq vl vx v' : Value} (v : RV X d W vp vq vl) (hxs : ∃ p n c, vx = .slice p n c) (t : T1 X d w1 vp vq vl vx) (hb : Below w1.heap.size w1 W0) (h1 : Rq w3 v' (fun k => k < W0.heap.size ∧ Sq X vp vq k) (pz d.v ++ [d.p])) (h2 : Kp (fun k => vq.ownBlock = some k) W0 w3) (h3 : Nb W0 vq v') :
    RB w3 X.g (.slice X.ao X.L.length X.cap) d.i vp d.s vq vl d.e ∧ (∀ V, Below (w3.setCell ⟨X.g, 5, none⟩ v').heap.size (w3.setCell ⟨X.g, 5, none⟩ v') V → (V.cell? ⟨X.g, 6, none⟩ = some vl ∧ V.frozen? ⟨X.g, 6, none⟩ = false) ∧
      (∀ U, Below (V.setCell ⟨X.g, 6, none⟩ vx).heap.size (V.setCell ⟨X.g, 6, none⟩ vx) U → (U.cell? ⟨X.g, 1, none⟩ = some (.int .i64 (d.i : Int)) ∧ U.frozen? ⟨X.g, 1, none⟩ = false) ∧ ∀ l', RD X 0 { d with i := d.i + 1, l := l', v := d.v ++ ⟨2, 0, X.L[d.i]?.getD tv0⟩ :: d.N d.i } (U.setCell ⟨X.g, 1, none⟩ (.int .i64 ((d.i + 1 : Nat) : Int))))) := by
  have t0 := t.below hb
  have hqg : ∀ k, vq.ownBlock = some k → k ≠ X.g := t0.rq.ne t0.rb (by decide)
  have rb3 := t0.rb.kp h2 (fun e => hqg X.g e rfl)
  have hqp : ∀ k, vp.ownBlock = some k → ¬ (vq.ownBlock = some k) := fun k e e2 => t0.rq.rp t0.rp k e2 e
  have k4 := Kp.set w3 X.g 5 v'
  have hpg : ∀ k, vp.ownBlock = some k → k ≠ X.g := t0.rp.ne t0.rb (by decide)
  have hvg : ∀ k, v'.ownBlock = some k → k ≠ X.g := h1.ne rb3 (by decide)
  have rb4 := blk_set rb3 5 v'
  have b3 : Below X.w.heap.size X.w w3 := kp_low t0.bel h2 v.bq t0.bel.size
  have b4 := kp_low b3 k4 (fun k e => by rw [e]; exact h.g0) b3.size
  have hpz : pz (d.v ++ ⟨2, 0, X.L[d.i]?.getD tv0⟩ :: d.N d.i) = pz d.v ++ [d.p] := by
    have := (nts_quiet (d.N d.i) (d.p, d.s) (h.nn d.i)).1
    unfold pz
    rw [pts_app, h.pv]
    simp [pts, this]
  have hpe : pev (d.v ++ ⟨2, 0, X.L[d.i]?.getD tv0⟩ :: d.N d.i) ([], 0) = (d.p, d.s) := by
    have := (nts_quiet (d.N d.i) (d.p, d.s) (h.nn d.i)).2
    rw [pev_app, h.pv]
    simp [pev, this]
  have hql := h.ql
  refine ⟨rb3, fun V hV => ?_⟩
  have rbV := blk_below rb4 hV
  have k5 := Kp.set V X.g 6 vx
  have rb5 := blk_set rbV 6 vx
  have bV := b4.trans (hV.mono b4.size)
  have b5 := kp_low bV k5 (fun k e => by rw [e]; exact h.g0) bV.size
  refine ⟨⟨blk_cell rbV rfl, blk_frozen rbV⟩, fun U hU => ?_⟩
  have rbU := blk_below rb5 hU
  have k6 := Kp.set U X.g 1 (.int .i64 ((d.i + 1 : Nat) : Int))
  have rb6 := blk_set rbU 1 (.int .i64 ((d.i + 1 : Nat) : Int))
  have bU := b5.trans (hU.mono b5.size)
  have b6 := kp_low bU k6 (fun k e => by rw [e]; exact h.g0) bU.size
  refine ⟨⟨blk_cell rbU rfl, blk_frozen rbU⟩, fun l' => ?_⟩
  have hsm := h.sm he
  refine ⟨b6, h.lt, h.g0, h.hL, ⟨vp, v', vx, rb6, ?_, ?_, v.bp, ?_, hxs⟩, hi, fun _ => by show d.s ≤ 100 * (d.i + 1) + 0; omega, h.sb, h.pl, h.nn, hpe, ?_⟩
  · exact ((((((t0.rp.kp h2 hqp).kp k4 hpg).below hV).kp k5 hpg).below hU).kp k6 hpg)
  · show Rq _ v' _ (pz (d.v ++ ⟨2, 0, X.L[d.i]?.getD tv0⟩ :: d.N d.i))
    rw [hpz]
    have hsg : ∀ k, (k < W0.heap.size ∧ Sq X vp vq k) → k ≠ X.g := fun k hs => hs.2.2.2.2
    refine ((((((h1.kp k4 hvg hsg).below hV).kp k5 hvg hsg).below hU).kp k6 hvg hsg)).sub (fun k _ hs => ⟨hs.2.1, hs.2.2.1, fun e2 => ?_, hs.2.2.2.2⟩)
    rcases h3 with e1 | ⟨q, e1, hq1⟩
    · exact hs.2.2.2.1 (by rw [← e1]; exact e2)
    · rw [e1] at e2
      simp at e2
      have := hs.1
      omega
  · intro k e
    rcases h3 with e1 | ⟨q, e1, hq1⟩
    · exact v.bq k (by rw [← e1]; exact e)
    · rw [e1] at e
      simp at e
      have := t0.bel.size
      omega
  · show (pz (d.v ++ ⟨2, 0, X.L[d.i]?.getD tv0⟩ :: d.N d.i)).length ≤ d.i + 1
    rw [hpz]
    simp
    exact hql
set_option maxRecDepth 100000 in
set_option maxHeartbeats 2000000 in
theorem take_any {X : Rx} {r : Nat} {d : D} {W : World} (h : RD X r d W) (hr : r ≤ 100) {f : Tv → Bool} {b : Bool} (hb : b = qn X.L d f) :
    Calls Tryz.prog 78 #[pt X.g, .bool b] W fun e w' => e = .returned (.tuple #[]) ∧ RD X 0 (tkD X.L b d) w' := by
  cases b with
  | false =>
    have HW : Hid (Calls Tryz.prog 108 #[pt X.g] W fun e w' => e = .returned (.tuple #[]) ∧ RD X 0 (tkD X.L false d) w') := wrong_any h
    clear h hb
    go_enter Tryz.func78, Tryz.ntmps78
    go_wp2_with fail
    refine HW.out.mono ?_
    rintro e w1 ⟨rfl, h1⟩
    have HX : Hid (RD X 0 (tkD X.L false d) w1) := h1
    clear h1
    go_wp2_with fail
    refine bodyPost_ret (v := .tuple #[]) (by first | rfl | simp [results, Tryz.f78, go_sem]) rfl ?_
    exact ⟨rfl, HX.out⟩
  | true =>
    obtain ⟨he, hi⟩ := qn_live hb.symm
    obtain ⟨vp, vq, vl, v⟩ := h.rv
    obtain ⟨c0, c1, c2, c3, c4, c5, c6, c7⟩ := v.rb.cells
    have hgl := v.rb.lt
    have hf1 := v.rb.frozen 1
    have hf7 := v.rb.frozen 7
    have hL := h.hL
    have hsm := h.sm he
    have hpl := h.pl
    obtain ⟨pv, cv, hv, _⟩ := v.rp.shape
    by_cases hd : 1000 < d.p.length
    · have e : tkD X.L true d = { d with e := 122 } := by simp [tkD, hd]
      rw [e]
      have HX : Hid (RD X 0 { d with e := 122 } (W.setCell ⟨X.g, 7, none⟩ (.int .i64 122))) := h.set v 7 _ (blk_set v.rb 7 _) v.rp rfl rfl rfl h.pv (Nat.le_refl _) h.il (fun e => by cases e) h.sb h.pl
      have q1 : (d.p.length : Int) > 1000 := by omega
      subst hv
      clear h v e hb
      go_enter Tryz.func78, Tryz.ntmps78
      go_wp2_with fail
      refine bodyPost_ret (v := .tuple #[]) (by first | rfl | simp [results, Tryz.f78, go_sem]) rfl ?_
      exact ⟨rfl, HX.out⟩
    · have q1 : ¬ ((d.p.length : Int) > 1000) := by omega
      have e : tkD X.L true d = { d with i := d.i + 1, l := if d.i + 1 = X.L.length then d.p else d.l, v := d.v ++ ⟨2, 0, X.L[d.i]?.getD tv0⟩ :: d.N d.i } := by simp [tkD, hd]
      obtain ⟨d9, h9⟩ : ∃ d9 : D, { d with i := d.i + 1, l := if d.i + 1 = X.L.length then d.p else d.l, v := d.v ++ ⟨2, 0, X.L[d.i]?.getD tv0⟩ :: d.N d.i } = d9 := ⟨_, rfl⟩
      rw [e, h9]
      obtain ⟨pq, cq, hvq, _⟩ := v.rq.shape
      obtain ⟨pl', nl', cl', hvl⟩ := v.sl
      obtain ⟨n, hn⟩ : ∃ n, (pz d.v).length = n := ⟨_, rfl⟩
      rw [hn] at hvq
      subst hvq hvl
      have HT : Hid (∀ m w1 vx, Rp w1 vx ([] ++ d.p) → Kp (fun k => nilS.ownBlock = some k) (W.drewN m) w1 → Nb (W.drewN m) nilS vx → T1 X d w1 vp (.slice pq n cq) (.slice pl' nl' cl') vx) := fun m w1 vx a b c => by
        have hb : Below W.heap.size W (W.drewN m) := below_dn (Below.refl _ _) m
        exact t1_of (h.below hb) (v.below hb) a b c
      have HK : Hid (∀ W0 w1 w3 vx v', (∃ p n c, vx = .slice p n c) → T1 X d w1 vp (.slice pq n cq) (.slice pl' nl' cl') vx → Below w1.heap.size w1 W0 → Rq w3 v' (fun k => k < W0.heap.size ∧ Sq X vp (.slice pq n cq) k) (pz d.v ++ [d.p]) → Kp (fun k => (Value.slice pq n cq).ownBlock = some k) W0 w3 → Nb W0 (.slice pq n cq) v' → RB w3 X.g (.slice X.ao X.L.length X.cap) d.i vp d.s (.slice pq n cq) (.slice pl' nl' cl') d.e ∧ (∀ V, Below (w3.setCell ⟨X.g, 5, none⟩ v').heap.size (w3.setCell ⟨X.g, 5, none⟩ v') V → (V.cell? ⟨X.g, 6, none⟩ = some (.slice pl' nl' cl') ∧ V.frozen? ⟨X.g, 6, none⟩ = false) ∧
      (∀ U, Below (V.setCell ⟨X.g, 6, none⟩ vx).heap.size (V.setCell ⟨X.g, 6, none⟩ vx) U → (U.cell? ⟨X.g, 1, none⟩ = some (.int .i64 (d.i : Int)) ∧ U.frozen? ⟨X.g, 1, none⟩ = false) ∧ RD X 0 d9 (U.setCell ⟨X.g, 1, none⟩ (.int .i64 ((d.i + 1 : Nat) : Int)))))) := fun W0 w1 w3 vx v' z a b c e f => by
        obtain ⟨g1, g2⟩ := T1.took h he hr hi v z a b c e f
        exact ⟨g1, fun V hV => ⟨(g2 V hV).1, fun U hU => ⟨((g2 V hV).2 U hU).1, by rw [← h9]; exact ((g2 V hV).2 U hU).2 _⟩⟩⟩
      have HR : Hid (∀ m, Rp (W.drewN m) vp d.p) := fun m => v.rp.below (below_dn (Below.refl _ _) m)
      have q3 : (X.L.length : Int) ≤ 4194304 := by omega
      have q4 : (d.i : Int) ≤ 4194304 := by omega
      have hnl : (pz d.v).length ≤ 1000000000 := by have := h.ql; omega
      have hpl2 : 0 + d.p.length ≤ 1000000000 := by omega
      have HS : Hid (∀ w1 vx, T1 X d w1 vp (.slice pq n cq) (.slice pl' nl' cl') vx → ∀ o, Rq (w1.alloc o) (.slice pq n cq) (fun k => k < (w1.alloc o).heap.size ∧ Sq X vp (.slice pq n cq) k) (pz d.v) ∧ Rp (w1.alloc o) vx d.p ∧ (∀ k, vx.ownBlock = some k → k < (w1.alloc o).heap.size ∧ Sq X vp (.slice pq n cq) k)) := fun w1 vx t o => by
        have t1 := t.below (below_new w1 o)
        exact ⟨t1.rq.sub (fun k hk hs => ⟨hk, hs⟩), t1.rx, fun k e => ⟨t1.rx.lt k e, t1.xb k e⟩⟩
      subst hv
      clear h v e hb h9
      go_enter Tryz.func78, Tryz.ntmps78
      go_wp2_with fail
      go_quiet (fail)
      go_wp2_with (first
        | (at_builtin; refine app_steps (by rfl) _ _ (by rfl) nilS (.slice pv d.p.length cv) [] d.p (by rfl) (rp_nil _) (by rfl) (HR.out _) hpl2 ?_; intro vx w1 h1 h2 h3; have H1 : Hid (T1 X d w1 (.slice pv d.p.length cv) (.slice pq n cq) (.slice pl' nl' cl') vx) := HT.out _ _ _ h1 h2 h3; obtain ⟨px, cx, hvx, _⟩ := h1.shape; subst hvx; have z5 : w1.cell? ⟨X.g, 5, none⟩ = some (.slice pq n cq) := blk_cell H1.out.rb rfl; have zg : X.g < w1.heap.size := H1.out.rb.lt; clear h1 h2 h3)
        | (at_builtin; go_loud (refine app_row (by rfl) _ _ (by rfl) (.slice pq n cq) (pz d.v) _ d.p (by rfl) (by rfl) (HS.out _ _ H1.out _).1 (HS.out _ _ H1.out _).2.1 (HS.out _ _ H1.out _).2.2 (fun k hs => hs.2.2.2.1) w1.heap.size 1 (by rfl) (new_at w1 _) hnl ?_); intro v' w3 h1 h2 h3; obtain ⟨x0, x3⟩ := HK.out _ _ _ _ _ ⟨_, _, _, rfl⟩ H1.out (below_new _ _) h1 h2 h3; obtain ⟨_, y3⟩ := x3 _ (Below.refl _ _); obtain ⟨_, u3⟩ := y3 _ (Below.refl _ _); have x1 : w3.cell? ⟨X.g, 1, none⟩ = some (.int .i64 (d.i : Int)) := blk_cell x0 rfl; have x5 : w3.cell? ⟨X.g, 5, none⟩ = some (.slice pq n cq) := blk_cell x0 rfl; have x6 : w3.cell? ⟨X.g, 6, none⟩ = some (.slice pl' nl' cl') := blk_cell x0 rfl; have y1 := x0.frozen 1; have y5 := x0.frozen 5; have y6 := x0.frozen 6; clear x0; have HX2 := show Hid _ from u3; obtain ⟨p5, k5, hv5, _⟩ := h1.shape; rw [List.length_append, hn, List.length_singleton] at hv5; subst hv5; clear x3 y3 u3 h1 h2 h3))
      go_end0
      exact ⟨rfl, HX2.out⟩

end Go.Proofs.YtkigadnkclkopaaGreat

set_option linter.unusedVariables false
set_option linter.unusedSimpArgs false
namespace Go.Proofs.YtkigadnkclkopaaGreat
open Go.RowKit

/-! takeWord, takeSign, takeName, value, begins. -/
theorem rtakeWord_any {X : Rx} {r : Nat} {d : D} {W : World} (h : RD X r d W) (hr : r ≤ 100) (s : ByteArray) :
    Calls Tryz.prog 56 #[pt X.g, .string s] W fun e w' => e = .returned (.tuple #[]) ∧ RD X 0 (tkI X.L (.wd 2 [s]) d) w' := by
  have HW : Hid (Calls Tryz.prog 77 #[pt X.g, .string s] W fun e w' => e = .returned (.bool (qn X.L d (wk 2 s))) ∧ Below W.heap.size W w') := rword_any h s
  have HT : Hid (∀ V, Below W.heap.size W V → Calls Tryz.prog 78 #[pt X.g, .bool (qn X.L d (wk 2 s))] V fun e w' => e = .returned (.tuple #[]) ∧ RD X 0 (tkI X.L (.wd 2 [s]) d) w') := fun V hb => by
    unfold tkI
    rw [takes_wd]
    exact take_any (h.below hb) hr rfl
  clear h
  go_enter Tryz.func56, Tryz.ntmps56
  go_wp2_with fail
  refine HW.out.mono ?_
  rintro e w1 ⟨rfl, hb1⟩
  go_wp2_with fail
  refine (HT.out _ hb1).mono ?_
  rintro e w2 ⟨rfl, h2⟩
  have H2 := show Hid _ from h2
  clear h2
  go_wp2_with fail
  go_end0
  exact ⟨rfl, H2.out⟩
theorem rtakeSign_any {X : Rx} {r : Nat} {d : D} {W : World} (h : RD X r d W) (hr : r ≤ 100) (s : ByteArray) :
    Calls Tryz.prog 58 #[pt X.g, .string s] W fun e w' => e = .returned (.tuple #[]) ∧ RD X 0 (tkI X.L (.wd 6 [s]) d) w' := by
  have HW : Hid (Calls Tryz.prog 80 #[pt X.g, .string s] W fun e w' => e = .returned (.bool (qn X.L d (wk 6 s))) ∧ Below W.heap.size W w') := rsign_any h s
  have HT : Hid (∀ V, Below W.heap.size W V → Calls Tryz.prog 78 #[pt X.g, .bool (qn X.L d (wk 6 s))] V fun e w' => e = .returned (.tuple #[]) ∧ RD X 0 (tkI X.L (.wd 6 [s]) d) w') := fun V hb => by
    unfold tkI
    rw [takes_wd]
    exact take_any (h.below hb) hr rfl
  clear h
  go_enter Tryz.func58, Tryz.ntmps58
  go_wp2_with fail
  refine HW.out.mono ?_
  rintro e w1 ⟨rfl, hb1⟩
  go_wp2_with fail
  refine (HT.out _ hb1).mono ?_
  rintro e w2 ⟨rfl, h2⟩
  have H2 := show Hid _ from h2
  clear h2
  go_wp2_with fail
  go_end0
  exact ⟨rfl, H2.out⟩
theorem rtakeName_any {X : Rx} {r : Nat} {d : D} {W : World} (h : RD X r d W) (hr : r ≤ 100) :
    Calls Tryz.prog 57 #[pt X.g] W fun e w' => e = .returned (.tuple #[]) ∧ RD X 0 (tkI X.L .nm d) w' := by
  have HW : Hid (Calls Tryz.prog 79 #[pt X.g, .int .u8 1] W fun e w' => e = .returned (.bool (qn X.L d (kd 1))) ∧ Below W.heap.size W w') := rkind_any h 1
  have HT : Hid (∀ V, Below W.heap.size W V → Calls Tryz.prog 78 #[pt X.g, .bool (qn X.L d (kd 1))] V fun e w' => e = .returned (.tuple #[]) ∧ RD X 0 (tkI X.L .nm d) w') := fun V hb => take_any (h.below hb) hr rfl
  clear h
  go_enter Tryz.func57, Tryz.ntmps57
  go_wp2_with fail
  refine HW.out.mono ?_
  rintro e w1 ⟨rfl, hb1⟩
  go_wp2_with fail
  refine (HT.out _ hb1).mono ?_
  rintro e w2 ⟨rfl, h2⟩
  have H2 := show Hid _ from h2
  clear h2
  go_wp2_with fail
  go_end0
  exact ⟨rfl, H2.out⟩
theorem rvalue_any {X : Rx} {r : Nat} {d : D} {W : World} (h : RD X r d W) :
    Calls Tryz.prog 147 #[pt X.g] W fun e w' => e = .returned (.bool (qn X.L d (fun t => Fl.takes t .cs))) ∧ Below W.heap.size W w' := by
  have e0 : qn X.L d (fun t => Fl.takes t .cs) = (qn X.L d (kd 3) || qn X.L d (kd 4) || qn X.L d (kd 5)) := by rw [qn_or, qn_or]; rfl
  rw [e0]
  obtain ⟨b3, e3⟩ : ∃ b, qn X.L d (kd 3) = b := ⟨_, rfl⟩
  obtain ⟨b4, e4⟩ : ∃ b, qn X.L d (kd 4) = b := ⟨_, rfl⟩
  obtain ⟨b5, e5⟩ : ∃ b, qn X.L d (kd 5) = b := ⟨_, rfl⟩
  have H3 : Hid (∀ V, Below W.heap.size W V → Calls Tryz.prog 79 #[pt X.g, .int .u8 3] V fun e w' => e = .returned (.bool b3) ∧ Below V.heap.size V w') := fun V hb => by rw [← e3]; exact rkind_any (h.below hb) 3
  have H4 : Hid (∀ V, Below W.heap.size W V → Calls Tryz.prog 79 #[pt X.g, .int .u8 4] V fun e w' => e = .returned (.bool b4) ∧ Below V.heap.size V w') := fun V hb => by rw [← e4]; exact rkind_any (h.below hb) 4
  have H5 : Hid (∀ V, Below W.heap.size W V → Calls Tryz.prog 79 #[pt X.g, .int .u8 5] V fun e w' => e = .returned (.bool b5) ∧ Below V.heap.size V w') := fun V hb => by rw [← e5]; exact rkind_any (h.below hb) 5
  rw [e3, e4, e5]
  clear h e0 e3 e4 e5
  go_enter Tryz.func147, Tryz.ntmps147
  go_wp2_with fail
  refine (H3.out _ (Below.refl _ _)).mono ?_
  rintro e w1 ⟨rfl, hb1⟩
  go_wp2_with fail
  refine (H4.out _ hb1).mono ?_
  rintro e w2 ⟨rfl, hb2⟩
  have hb2' := hb1.trans (hb2.mono hb1.size)
  go_wp2_with fail
  refine (H5.out _ hb2').mono ?_
  rintro e w3 ⟨rfl, hb3⟩
  have hb3' := hb2'.trans (hb3.mono hb2'.size)
  clear hb1 hb2 hb3 hb2' H3 H4 H5
  go_wp2_with fail
  all_goals (
    go_ret
    exact ⟨by simp_all, hb3'⟩)
theorem beg_eq (t : Tv) : (wk 6 ⟨#[45]⟩ t || wk 6 ⟨#[40]⟩ t || wk 2 ⟨#[110, 111, 116]⟩ t || Fl.takes t .cs || kd 1 t) = tBeg t := by
  simp only [wk_is, tBeg, facN, Tv.is, Fl.takes, kd]
  have a : (ByteArray.mk #[45]).toList = [45] := by decide +kernel
  have b : (ByteArray.mk #[40]).toList = [40] := by decide +kernel
  have c : (ByteArray.mk #[110, 111, 116]).toList = [110, 111, 116] := by decide +kernel
  rw [a, b, c]
  have key : ∀ x1 x2 x3 x4 x5 : Bool, (x1 || x2 || x3 || x4 || x5) = !((if x1 = true then (25 : Int) else if x3 = true then 26 else if x2 = true then 27 else if x4 = true then 32 else if x5 = true then 28 else 0) == 0) := by decide
  exact key _ _ _ _ _
set_option maxHeartbeats 4194304 in
theorem rbegins_any {X : Rx} {r : Nat} {d : D} {W : World} (h : RD X r d W) :
    Calls Tryz.prog 134 #[pt X.g] W fun e w' => e = .returned (.bool (qn X.L d tBeg)) ∧ Below W.heap.size W w' := by
  have e0 : qn X.L d tBeg = (qn X.L d (wk 6 ⟨#[45]⟩) || qn X.L d (wk 6 ⟨#[40]⟩) || qn X.L d (wk 2 ⟨#[110, 111, 116]⟩) || qn X.L d (fun t => Fl.takes t .cs) || qn X.L d (kd 1)) := by
    rw [qn_or, qn_or, qn_or, qn_or]
    congr 1
    funext t
    exact (beg_eq t).symm
  rw [e0]
  obtain ⟨b1, e1⟩ : ∃ b, qn X.L d (wk 6 ⟨#[45]⟩) = b := ⟨_, rfl⟩
  obtain ⟨b2, e2⟩ : ∃ b, qn X.L d (wk 6 ⟨#[40]⟩) = b := ⟨_, rfl⟩
  obtain ⟨b3, e3⟩ : ∃ b, qn X.L d (wk 2 ⟨#[110, 111, 116]⟩) = b := ⟨_, rfl⟩
  obtain ⟨b4, e4⟩ : ∃ b, qn X.L d (fun t => Fl.takes t .cs) = b := ⟨_, rfl⟩
  obtain ⟨b5, e5⟩ : ∃ b, qn X.L d (kd 1) = b := ⟨_, rfl⟩
  have H1 : Hid (∀ V, Below W.heap.size W V → Calls Tryz.prog 80 #[pt X.g, .string ⟨#[45]⟩] V fun e w' => e = .returned (.bool b1) ∧ Below V.heap.size V w') := fun V hb => by rw [← e1]; exact rsign_any (h.below hb) _
  have H2 : Hid (∀ V, Below W.heap.size W V → Calls Tryz.prog 80 #[pt X.g, .string ⟨#[40]⟩] V fun e w' => e = .returned (.bool b2) ∧ Below V.heap.size V w') := fun V hb => by rw [← e2]; exact rsign_any (h.below hb) _
  have H3 : Hid (∀ V, Below W.heap.size W V → Calls Tryz.prog 77 #[pt X.g, .string ⟨#[110, 111, 116]⟩] V fun e w' => e = .returned (.bool b3) ∧ Below V.heap.size V w') := fun V hb => by rw [← e3]; exact rword_any (h.below hb) _
  have H4 : Hid (∀ V, Below W.heap.size W V → Calls Tryz.prog 147 #[pt X.g] V fun e w' => e = .returned (.bool b4) ∧ Below V.heap.size V w') := fun V hb => by rw [← e4]; exact rvalue_any (h.below hb)
  have H5 : Hid (∀ V, Below W.heap.size W V → Calls Tryz.prog 79 #[pt X.g, .int .u8 1] V fun e w' => e = .returned (.bool b5) ∧ Below V.heap.size V w') := fun V hb => by rw [← e5]; exact rkind_any (h.below hb) 1
  rw [e1, e2, e3, e4, e5]
  clear h e0 e1 e2 e3 e4 e5
  go_enter Tryz.func134, Tryz.ntmps134
  go_wp2_with fail
  refine (H1.out _ (Below.refl _ _)).mono ?_
  rintro e w1 ⟨rfl, hb1⟩
  go_wp2_with fail
  refine (H2.out _ hb1).mono ?_
  rintro e w2 ⟨rfl, hb2⟩
  have hc2 := hb1.trans (hb2.mono hb1.size)
  go_wp2_with fail
  refine (H3.out _ hc2).mono ?_
  rintro e w3 ⟨rfl, hb3⟩
  have hc3 := hc2.trans (hb3.mono hc2.size)
  go_wp2_with fail
  refine (H4.out _ hc3).mono ?_
  rintro e w4 ⟨rfl, hb4⟩
  have hc4 := hc3.trans (hb4.mono hc3.size)
  go_wp2_with fail
  refine (H5.out _ hc4).mono ?_
  rintro e w5 ⟨rfl, hb5⟩
  have hc5 := hc4.trans (hb5.mono hc4.size)
  clear hb1 hb2 hb3 hb4 hb5 hc2 hc3 hc4 H1 H2 H3 H4 H5
  go_wp2_with fail
  all_goals (
    go_ret
    exact ⟨by simp_all, hc5⟩)

end Go.Proofs.YtkigadnkclkopaaGreat

set_option linter.unusedVariables false
set_option linter.unusedSimpArgs false
namespace Go.Proofs.YtkigadnkclkopaaGreat
open Go.RowKit

/-! What a run leaves of the nodes that are open (no memory). -/
/-- What is promised of a row's function. -/
def CT (m : M) (f b n : Nat) : Prop := ∀ (X : Rx) (r : Nat) (d : D) (W : World), RD X r d W → r ≤ b → ms X.L d ≤ n →
  Calls Tryz.prog f #[pt X.g] W fun e w' => e = .returned (.tuple #[]) ∧ ∃ d', RD X 0 d' w' ∧ Ib X.L (.fl (.mt m)) d d'
/-- Behind a token. -/
def CB (m : M) (f b n : Nat) : Prop := ∀ k, k < n ∨ k = 0 → CT m f b k
/-- Behind a token that stood there. -/
def CA (m : M) (f b n : Nat) : Prop := ∀ k, k < n → CT m f b k
/-- How far from the end, out of memory. -/
def ymW (X : Rx) (W : World) : Nat := match W.cell? ⟨X.g, 1, none⟩, W.cell? ⟨X.g, 7, none⟩ with
  | some (.int _ i), some (.int _ e) => if e = 0 then X.L.length - i.toNat + 1 else 0
  | _, _ => 0
theorem ymW_is {X : Rx} {r : Nat} {d : D} {W : World} (h : RD X r d W) : ymW X W = ms X.L d := by
  obtain ⟨vp, vq, vl, v⟩ := h.rv
  obtain ⟨c0, c1, c2, c3, c4, c5, c6, c7⟩ := v.rb.cells
  unfold ymW ms
  rw [c1, c7]
  simp
theorem take_true {X : Rx} {r : Nat} {d : D} {W : World} (h : RD X r d W) (hr : r ≤ 100) {x : Fl} (hq : qn X.L d (fun t => Fl.takes t x) = true) :
    Calls Tryz.prog 78 #[pt X.g, .bool true] W fun e w' => e = .returned (.tuple #[]) ∧ RD X 0 (tkI X.L x d) w' := by
  have := take_any h hr hq.symm
  unfold tkI
  rw [hq]
  exact this
end Go.Proofs.YtkigadnkclkopaaGreat

set_option linter.unusedVariables false
set_option linter.unusedSimpArgs false
namespace Go.Proofs.YtkigadnkclkopaaGreat
open Go.RowKit

/-! Which way a row goes, by what was looked at (no memory). -/
theorem wk_lit {k : Int} {bs : Array UInt8} (l : List UInt8) (h : (ByteArray.mk bs).toList = l) (t : Tv) : wk k ⟨bs⟩ t = (t.k == k && t.is l) := by rw [wk_is, h]; rfl
theorem l_var : (ByteArray.mk #[118, 97, 114]).toList = [118, 97, 114] := by decide +kernel
theorem l_const : (ByteArray.mk #[99, 111, 110, 115, 116]).toList = [99, 111, 110, 115, 116] := by decide +kernel
theorem l_proc : (ByteArray.mk #[112, 114, 111, 99]).toList = [112, 114, 111, 99] := by decide +kernel
theorem l_lb : (ByteArray.mk #[91]).toList = [91] := by decide +kernel
theorem l_dot : (ByteArray.mk #[46]).toList = [46] := by decide +kernel
theorem l_lp : (ByteArray.mk #[40]).toList = [40] := by decide +kernel
theorem l_minus : (ByteArray.mk #[45]).toList = [45] := by decide +kernel
theorem l_not : (ByteArray.mk #[110, 111, 116]).toList = [110, 111, 116] := by decide +kernel
theorem pick_decl {L : List Tv} {d : D} {b1 b2 b3 : Bool} (h1 : qn L d (wk 2 ⟨#[118, 97, 114]⟩) = b1) (h2 : qn L d (wk 2 ⟨#[99, 111, 110, 115, 116]⟩) = b2) (h3 : qn L d (wk 2 ⟨#[112, 114, 111, 99]⟩) = b3) :
    dpick (nxt L d) (.fn .declaration) = if b1 then some (.fl (.mt .variables)) else if b2 then some (.fl (.mt .constants)) else if b3 then some (.fl (.mt .procedure)) else none := by
  rw [← h1, ← h2, ← h3]
  unfold qn
  cases nxt L d with
  | none => rfl
  | some t =>
    simp only [Option.elim, wk_lit _ l_var, wk_lit _ l_const, wk_lit _ l_proc, dpick, Dk.kd, Dk.pick]
    generalize t.is [118, 97, 114] = x1
    generalize t.is [99, 111, 110, 115, 116] = x2
    generalize t.is [112, 114, 111, 99] = x3
    rcases Bool.eq_false_or_eq_true (t.k == 2) with h0 | h0 <;> simp only [h0, Bool.true_and, Bool.false_and, if_true, Bool.false_eq_true, if_false, Bool.not_true, Bool.not_false]
    cases x1 <;> cases x2 <;> cases x3 <;> rfl
theorem pick_det {L : List Tv} {d : D} {b1 b2 b3 : Bool} (h1 : qn L d (wk 6 ⟨#[91]⟩) = b1) (h2 : qn L d (wk 6 ⟨#[46]⟩) = b2) (h3 : qn L d (wk 6 ⟨#[40]⟩) = b3) :
    dpick (nxt L d) (.fn .detail) = if b1 then some (.fl (.mt .index)) else if b2 then some (.fl (.mt .selection)) else if b3 then some (.fl (.mt .args)) else none := by
  rw [← h1, ← h2, ← h3]
  unfold qn
  cases nxt L d with
  | none => rfl
  | some t =>
    simp only [Option.elim, wk_lit _ l_lb, wk_lit _ l_dot, wk_lit _ l_lp, dpick, Dk.kd, Dk.pick]
    generalize t.is [91] = x1
    generalize t.is [46] = x2
    generalize t.is [40] = x3
    rcases Bool.eq_false_or_eq_true (t.k == 6) with h0 | h0 <;> simp only [h0, Bool.true_and, Bool.false_and, if_true, Bool.false_eq_true, if_false, Bool.not_true, Bool.not_false]
    cases x1 <;> cases x2 <;> cases x3 <;> rfl
theorem pick_br {L : List Tv} {d : D} {b1 : Bool} (h1 : qn L d (wk 6 ⟨#[40]⟩) = b1) : dpick (nxt L d) (.fn .bracket) = if b1 then some (.fl (.mt .params)) else none := by
  rw [← h1]
  unfold qn
  cases nxt L d with
  | none => rfl
  | some t =>
    simp only [Option.elim, wk_lit _ l_lp, dpick, Dk.kd, Dk.pick]
    generalize t.is [40] = x1
    rcases Bool.eq_false_or_eq_true (t.k == 6) with h0 | h0 <;> simp only [h0, Bool.true_and, Bool.false_and, if_true, Bool.false_eq_true, if_false, Bool.not_true, Bool.not_false]
    cases x1 <;> rfl
theorem pick_beg {L : List Tv} {d : D} {b : Bool} {m : M} (h : qn L d tBeg = b) : dpick (nxt L d) (.ex m) = if b then some (.fl (.mt m)) else none := by
  rw [← h]
  unfold qn
  cases nxt L d with
  | none => rfl
  | some t =>
    simp only [Option.elim, dpick, Pk.pick, tBeg]
    rcases Bool.eq_false_or_eq_true (facN t == 0) with h0 | h0 <;> simp only [h0, Bool.true_and, Bool.false_and, if_true, Bool.false_eq_true, if_false, Bool.not_true, Bool.not_false]
theorem drow_kind {L : List Tv} {d : D} {b1 b2 : Bool} (h1 : qn L d (wk 2 ⟨#[97, 114, 114, 97, 121]⟩) = b1) (h2 : qn L d (wk 2 ⟨#[114, 101, 99, 111, 114, 100]⟩) = b2) :
    drow (nxt L d) .kind = if b1 then .op 9 [.fl (.wd 2 [⟨#[97, 114, 114, 97, 121]⟩]), .fl (.wd 6 [⟨#[91]⟩]), .fl (.mt .expr), .fl (.wd 6 [⟨#[46, 46]⟩]), .fl (.mt .expr), .fl (.wd 6 [⟨#[93]⟩]), .fl (.wd 2 [⟨#[111, 102]⟩]), .fl (.mt .kind)]
      else if b2 then .op 10 [.fl (.wd 2 [⟨#[114, 101, 99, 111, 114, 100]⟩]), .fl (.mt .member), .again (.row [.wd 6 [⟨#[59]⟩], .mt .member]), .fl (.wd 2 [⟨#[101, 110, 100]⟩])] else .op 8 [.fl .nm] := by
  rw [← h1, ← h2]
  rfl
theorem drow_fac {L : List Tv} {d : D} {b1 b2 b3 b4 b5 : Bool} (h1 : qn L d (wk 6 ⟨#[45]⟩) = b1) (h2 : qn L d (wk 2 ⟨#[110, 111, 116]⟩) = b2) (h3 : qn L d (wk 6 ⟨#[40]⟩) = b3) (h4 : qn L d (fun t => Fl.takes t .cs) = b4) (h5 : qn L d (kd 1) = b5) :
    drow (nxt L d) .factor = if b1 then .op 25 [.fl (.wd 6 [⟨#[45]⟩]), .fl (.mt .factor)] else if b2 then .op 26 [.fl (.wd 2 [⟨#[110, 111, 116]⟩]), .fl (.mt .factor)] else if b3 then .op 27 [.fl (.wd 6 [⟨#[40]⟩]), .fl (.mt .expr), .fl (.wd 6 [⟨#[41]⟩])] else if b4 then .op 32 [.fl .cs] else if b5 then .ex [.fl (.mt .object)] else .ref := by
  subst h1 h2 h3 h4 h5
  unfold qn
  cases nxt L d with
  | none => rfl
  | some t =>
    simp only [Option.elim, wk_lit _ l_minus, wk_lit _ l_not, wk_lit _ l_lp, drow, M.row, facN, Fl.takes, kd]
    rcases Bool.eq_false_or_eq_true (t.k == 6 && t.is [45]) with h1 | h1 <;> rcases Bool.eq_false_or_eq_true (t.k == 2 && t.is [110, 111, 116]) with h2 | h2 <;> rcases Bool.eq_false_or_eq_true (t.k == 6 && t.is [40]) with h3 | h3 <;> rcases Bool.eq_false_or_eq_true (t.k == 3 || t.k == 4 || t.k == 5) with h4 | h4 <;> rcases Bool.eq_false_or_eq_true (t.k == 1) with h5 | h5 <;> simp only [h1, h2, h3, h4, h5, if_true, Bool.false_eq_true, if_false] <;> rfl
theorem drow_act {L : List Tv} {d : D} (h1 : qn L d (kd 1) = true) : drow (nxt L d) .statement = .op 14 [.fl (.mt .object), .once (.row [.wd 6 [⟨#[58, 61]⟩], .mt .expr])] := by
  unfold qn at h1
  cases hn : nxt L d with
  | none => rw [hn] at h1; cases h1
  | some t =>
    rw [hn] at h1
    simp only [Option.elim, kd] at h1
    simp only [drow, h1, if_true]
theorem drow_key {L : List Tv} {d : D} (h1 : qn L d (kd 1) = false) (h2 : qn L d (kd 2) = false) : drow (nxt L d) .statement = .ref := by
  unfold qn at h1 h2
  cases hn : nxt L d with
  | none => rfl
  | some t =>
    rw [hn] at h1 h2
    simp only [Option.elim, kd] at h1 h2
    simp only [drow, h1, h2, Bool.false_eq_true, if_false]
theorem drow_word {L : List Tv} {d : D} {t : Tv} (hn : nxt L d = some t) (h1 : qn L d (kd 1) = false) (h2 : qn L d (kd 2) = true) : drow (nxt L d) .statement = wordedR t.t := by
  unfold qn at h1 h2
  rw [hn] at h1 h2 ⊢
  simp only [Option.elim, kd] at h1 h2
  simp only [drow, h1, h2, Bool.false_eq_true, if_false, if_true]

theorem qn_op {L : List Tv} {n : Int} {d : D} {f : Tv → Bool} : qn L (opD n d) f = qn L d f := by
  unfold qn nxt opD
  split <;> rfl
theorem qn_ne {L : List Tv} {d : D} {k : Int} {s1 s2 : ByteArray} (hs : s1 ≠ s2) (h : qn L d (wk k s1) = true) : qn L d (wk k s2) = false := by
  unfold qn at h ⊢
  cases hn : nxt L d with
  | none => rfl
  | some t =>
    rw [hn] at h
    simp only [Option.elim, wk, Bool.and_eq_true, decide_eq_true_eq] at h ⊢
    simp [h.2, hs]
theorem array_no {L : List Tv} {d : D} (h : qn L d (wk 2 ⟨#[114, 101, 99, 111, 114, 100]⟩) = true) : qn L d (wk 2 ⟨#[97, 114, 114, 97, 121]⟩) = false := qn_ne (by decide) h
theorem ib_less {L : List Tv} {d d' : D} {m : M} {nd : Int} {x : Fl} {r : List It} (h : drow (nxt L d) m = .op nd (.fl x :: r)) (hx : ∀ m, x ≠ .mt m) (hi : Ib L (.fl (.mt m)) d d') (hd : 0 < ms L d) : ms L d' < ms L d := by
  have h1 : Rch L [.fl (.mt m)] d (r ++ [.lv nd]) (tkI L x (opD nd d)) := by
    refine .step ?_
    simp only [dst, h]
    have := ib_tk (L := L) (d := opD nd d) hx (r ++ [.lv nd])
    simpa [tkI] using this
  have h2 := rch_ms (h1.det (hi []))
  have h3 := ms_tkI (L := L) (x := x) (d := opD nd d)
  have h4 : ms L (opD nd d) = ms L d := ms_op
  omega
/-- A loop whose round begins with a part. -/
structure Lq (L : List Tv) (x : It) (p : Pk) (d0 d : D) : Prop where
  go : ∀ d3, Rb L [x, .again p] d d3 → Rb L [x, .again p] d0 d3
  le : ms L d ≤ ms L d0
  pn : Pn d0 → Pn d
theorem Lq.refl {L : List Tv} {x : It} {p : Pk} {d : D} : Lq L x p d d := ⟨fun _ h => h, Nat.le_refl _, fun h => h⟩
theorem Lq.step {L : List Tv} {m : M} {k : Int} {ts : List ByteArray} {d0 d d2 : D} (h : Lq L (.fl (.mt m)) (.row [.wd k ts, .mt m]) d0 d) (hx : Ib L (.fl (.mt m)) d d2) (hp : dpick (nxt L d2) (.row [.wd k ts, .mt m]) = some (.all [.wd k ts, .mt m])) : Lq L (.fl (.mt m)) (.row [.wd k ts, .mt m]) d0 (tkI L (.wd k ts) d2) := by
  refine ⟨fun d3 h3 => h.go d3 (fun K => ?_), Nat.le_trans (Nat.le_trans ms_tkI.1 (ms_ib hx)) h.le, fun hn => pn_tk (pn_ib (h.pn hn) rfl hx)⟩
  refine (hx _).trans ?_
  refine .step ?_
  simp only [dst, hp, agR]
  refine .step ?_
  simp only [dst]
  exact (ib_w _).trans (h3 K)
theorem Lq.fin {L : List Tv} {m : M} {p : Pk} {d0 d d2 : D} (h : Lq L (.fl (.mt m)) p d0 d) (hx : Ib L (.fl (.mt m)) d d2) (hp : dpick (nxt L d2) p = none) : Rb L [.fl (.mt m), .again p] d0 d2 := h.go d2 (rb_cons hx (rb_cons (ib_again0 hp) rb_nil))
theorem yrb_app {L : List Tv} {a b : List It} {d d1 d2 : D} (h : Rb L a d d1) (h' : Rb L b d1 d2) : Rb L (a ++ b) d d2 := fun K => by
  rw [List.append_assoc]
  exact (h (b ++ K)).trans (h' K)

end Go.Proofs.YtkigadnkclkopaaGreat
