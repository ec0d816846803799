import Derived.Test.YtkglkhijngpgiaaGreatG4
import Derived.Deep.RegionHeld3
set_option linter.unusedVariables false
set_option linter.unusedSimpArgs false
namespace Go.Proofs.YtkglkhijngpgiaaGreat
open Go.RowKit

/-! The document's reader in memory. -/
def scs (l : List (Int × Nat)) : List Value := flat (fun x => [.int .u8 x.1, .int .i64 (x.2 : Int)]) l
theorem scs_len (l : List (Int × Nat)) : (scs l).length = l.length * 2 := flat_len _ 2 (fun _ => rfl) l
theorem scs_one (l : List (Int × Nat)) : ∀ u ∈ scs l, u.oneCell' = true := by
  intro u hu
  obtain ⟨d, _, h⟩ := List.mem_flatMap.1 hu
  simp only [List.mem_cons, List.not_mem_nil, or_false] at h
  rcases h with rfl | rfl <;> rfl
theorem scs_app (a b : List (Int × Nat)) : scs (a ++ b) = scs a ++ scs b := flat_append _ a b
/-- A row of nodes. -/
def Rp (W : World) (v : Value) (l : List (Int × Nat)) : Prop := W.ownsRow 0 74 2 v l.length (scs l)
theorem rp_nil (W : World) : Rp W nilS [] := World.ownsRow_nil W 0 74 2
theorem Rp.kp {S : Nat → Prop} {W W' : World} {v : Value} {l : List (Int × Nat)} (h : Rp W v l) (hk : Kp S W W') (hS : ∀ k, v.ownBlock = some k → ¬ S k) : Rp W' v l := hk.row h hS
theorem Rp.below {W W' : World} {v : Value} {l : List (Int × Nat)} (h : Rp W v l) (hb : Below W.heap.size W W') : Rp W' v l := row_below h hb
theorem Rp.shape {W : World} {v : Value} {l : List (Int × Nat)} (h : Rp W v l) : ∃ p cap, v = .slice p l.length cap ∧ l.length ≤ cap ∧ cap ≤ maxLen := row_shape h
theorem Rp.ne {W : World} {v : Value} {l : List (Int × Nat)} (h : Rp W v l) {g : Nat} {cs : Array Value} {T : TypeId} {f : Nat × Nat} (hg : W.heap[g]? = some (.cells cs T f)) (hT : T ≠ 74) : ∀ k, v.ownBlock = some k → k ≠ g := by
  intro k hk e
  rcases h.2 with ⟨rfl, h0⟩ | ⟨b, cap, cur, rfl, hb, h3, _⟩
  · cases hk
  · simp only [Value.ownBlock, Option.some.injEq] at hk
    subst hk
    subst e
    rw [hg] at h3
    cases h3
    exact hT rfl
theorem Rp.lt {W : World} {v : Value} {l : List (Int × Nat)} (h : Rp W v l) : ∀ k, v.ownBlock = some k → k < W.heap.size := by
  intro k hk
  rcases h.2 with ⟨rfl, h0⟩ | ⟨b, cap, cur, rfl, hb, h3, _⟩
  · cases hk
  · simp only [Value.ownBlock, Option.some.injEq] at hk
    subst hk
    exact blk_lt h3
theorem Tryz.info74 : (Tryz.prog.info? 74).map (fun i => (i.zero, i.size, i.bytes)) = some (some (.agg #[.int .u8 0, .int .i64 0]), 2, 16) := by kernel_rfl
theorem app_step {W : World} {ops : Array Oper} {rest : List Oper} {o : Oper} {a : Act} {Q : Exit → Act → World → Prop} (hgd : o.guard = none) (s x : Operand)
    (ho : o.op = .call { callee := .builtin .append, args := #[s, x], argTypes := #[47, 47] }) (v : Value) (l : List (Int × Nat)) (d : Int × Nat) (hs : a.eval s = v) (hr : Rp W v l)
    (g c : Nat) (hx : a.eval x = .slice (some ⟨g, 0, none⟩) 1 c) (hg : W.heap[g]? = some (.cells #[.int .u8 d.1, .int .i64 (d.2 : Int)] 74 (0, 0))) (hl : l.length ≤ 1000000000)
    (h : ∀ v' w', Rp w' v' (l ++ [d]) → Kp (fun k => v.ownBlock = some k) W w' → Nb W v v' → wpList Tryz.prog ops Q rest (a.put o.dst v') w') : wpList Tryz.prog ops Q (o :: rest) a W := by
  obtain ⟨i0, hi, hz0, hz1, hz2⟩ := info_parts Tryz.info74
  refine wpList_append_own_at (P := Tryz.prog) (w := W) hgd s x 47 ho 0 74 i0 _ 2 16 Tryz.underlying47 hi hz0 hz1 hz2 rfl (by decide) v _ _ hs hr ⟨g, 0, none⟩ 1 c (scs [d]) hx (by rw [scs_len]; rfl) ?_ (scs_one [d]) (by unfold maxLen; omega) (by omega) (Nat.zero_le _) ?_
  · intro j u hu
    refine World.news_of_block hg j u ?_
    have e : scs [d] = [.int .u8 d.1, .int .i64 (d.2 : Int)] := by simp [scs, flat]
    rw [e] at hu
    simpa using hu
  · intro v' w' h1 h2 _ h4
    refine h v' w' ?_ ((Kp.of_grown h2).sub (fun k e => e.symm)) ?_
    · unfold Rp
      rw [List.length_append, scs_app]
      exact h1
    · rcases h4 with h4 | h4
      · exact .inl h4
      · exact .inr ⟨_, h4, Nat.le_refl _⟩
theorem app_steps {W : World} {ops : Array Oper} {rest : List Oper} {o : Oper} {a : Act} {Q : Exit → Act → World → Prop} (hgd : o.guard = none) (s x : Operand)
    (ho : o.op = .call { callee := .builtin .append, args := #[s, x], argTypes := #[47, 47] }) (v vx : Value) (l ds : List (Int × Nat)) (hs : a.eval s = v) (hr : Rp W v l)
    (hx : a.eval x = vx) (hrx : Rp W vx ds) (hl : l.length + ds.length ≤ 1000000000)
    (h : ∀ v' w', Rp w' v' (l ++ ds) → Kp (fun k => v.ownBlock = some k) W w' → Nb W v v' → wpList Tryz.prog ops Q rest (a.put o.dst v') w') : wpList Tryz.prog ops Q (o :: rest) a W := by
  have hc := fun g (hg : vx.ownBlock = some g) => World.ownsRow.cells hrx hg
  obtain ⟨i0, hi, hz0, hz1, hz2⟩ := info_parts Tryz.info74
  rcases hrx.2 with ⟨rfl, h0⟩ | ⟨g, cap, cur, rfl, _⟩
  · obtain rfl : ds = [] := List.eq_nil_of_length_eq_zero h0
    refine wpList_append_own_none (P := Tryz.prog) (w := W) hgd s x 47 ho 0 74 i0 2 Tryz.underlying47 hi v _ _ hs hr hx ?_
    exact h v W (by rw [List.append_nil]; exact hr) (Kp.refl _ _) (.inl rfl)
  · refine wpList_append_own_at (P := Tryz.prog) (w := W) hgd s x 47 ho 0 74 i0 _ 2 16 Tryz.underlying47 hi hz0 hz1 hz2 rfl (by decide) v _ _ hs hr ⟨g, 0, none⟩ ds.length cap (scs ds) hx (scs_len ds) (hc g rfl) (scs_one _) (by unfold maxLen; omega) (by omega) (Nat.zero_le _) ?_
    intro v' w' h1 h2 _ h4
    refine h v' w' ?_ ((Kp.of_grown h2).sub (fun k e => e.symm)) ?_
    · unfold Rp
      rw [List.length_append, scs_app]
      exact h1
    · rcases h4 with h4 | h4
      · exact .inl h4
      · exact .inr ⟨_, h4, Nat.le_refl _⟩
/-- A row of such rows: only how long it is. -/
def Rq (W : World) (v : Value) (n : Nat) : Prop := ∃ xs : List Value, xs.length = n ∧ W.ownsRow 0 47 1 v n xs
theorem rq_nil (W : World) : Rq W nilS 0 := ⟨[], rfl, World.ownsRow_nil W 0 47 1⟩
theorem Rq.kp {S : Nat → Prop} {W W' : World} {v : Value} {n : Nat} (h : Rq W v n) (hk : Kp S W W') (hS : ∀ k, v.ownBlock = some k → ¬ S k) : Rq W' v n := by
  obtain ⟨xs, h1, h2⟩ := h
  exact ⟨xs, h1, hk.row h2 hS⟩
theorem Rq.below {W W' : World} {v : Value} {n : Nat} (h : Rq W v n) (hb : Below W.heap.size W W') : Rq W' v n := by
  obtain ⟨xs, h1, h2⟩ := h
  exact ⟨xs, h1, row_below h2 hb⟩
theorem Rq.shape {W : World} {v : Value} {n : Nat} (h : Rq W v n) : ∃ p cap, v = .slice p n cap ∧ n ≤ cap ∧ cap ≤ maxLen := by
  obtain ⟨xs, h1, h2⟩ := h
  exact row_shape h2
theorem Rq.ne {W : World} {v : Value} {n : Nat} (h : Rq W v n) {g : Nat} {cs : Array Value} {T : TypeId} {f : Nat × Nat} (hg : W.heap[g]? = some (.cells cs T f)) (hT : T ≠ 47) : ∀ k, v.ownBlock = some k → k ≠ g := by
  intro k hk e
  obtain ⟨xs, h1, h2⟩ := h
  rcases h2.2 with ⟨rfl, h0⟩ | ⟨b, cap, cur, rfl, hb, h3, _⟩
  · cases hk
  · simp only [Value.ownBlock, Option.some.injEq] at hk
    subst hk
    subst e
    rw [hg] at h3
    cases h3
    exact hT rfl
/-- Rows of two kinds never share a block. -/
theorem Rq.rp {W : World} {v u : Value} {n : Nat} {l : List (Int × Nat)} (h : Rq W v n) (h' : Rp W u l) : ∀ k, v.ownBlock = some k → u.ownBlock ≠ some k := by
  intro k hk hu
  rcases h'.2 with ⟨rfl, h0⟩ | ⟨b, cap, cur, rfl, hb, h3, _⟩
  · cases hu
  · simp only [Value.ownBlock, Option.some.injEq] at hu
    subst hu
    exact h.ne h3 (by decide) _ hk rfl
theorem Tryz.info47 : (Tryz.prog.info? 47).map (fun i => (i.zero, i.size, i.bytes)) = some (some (.slice none 0 0), 1, 24) := by kernel_rfl
theorem app_row {W : World} {ops : Array Oper} {rest : List Oper} {o : Oper} {a : Act} {Q : Exit → Act → World → Prop} (hgd : o.guard = none) (s x : Operand)
    (ho : o.op = .call { callee := .builtin .append, args := #[s, x], argTypes := #[63, 63] }) (v : Value) (n : Nat) (d : Value) (hd : d.oneCell' = true) (hs : a.eval s = v) (hr : Rq W v n)
    (g c : Nat) (hx : a.eval x = .slice (some ⟨g, 0, none⟩) 1 c) (hg : W.heap[g]? = some (.cells #[d] 47 (0, 0))) (hl : n ≤ 1000000000)
    (h : ∀ v' w', Rq w' v' (n + 1) → Kp (fun k => v.ownBlock = some k) W w' → Nb W v v' → wpList Tryz.prog ops Q rest (a.put o.dst v') w') : wpList Tryz.prog ops Q (o :: rest) a W := by
  obtain ⟨i0, hi, hz0, hz1, hz2⟩ := info_parts Tryz.info47
  obtain ⟨xs, hxl, hrx⟩ := hr
  refine wpList_append_own_at (P := Tryz.prog) (w := W) hgd s x 63 ho 0 47 i0 _ 1 24 Tryz.underlying63 hi hz0 hz1 hz2 rfl (by decide) v _ _ hs hrx ⟨g, 0, none⟩ 1 c [d] hx rfl ?_ (by intro u hu; simp at hu; subst hu; exact hd) (by unfold maxLen; omega) (by omega) (Nat.zero_le _) ?_
  · intro j u hu
    exact World.news_of_block hg j u (by simpa using hu)
  · intro v' w' h1 h2 _ h4
    refine h v' w' ⟨xs ++ [d], by simp [hxl], h1⟩ ((Kp.of_grown h2).sub (fun k e => e.symm)) ?_
    rcases h4 with h4 | h4
    · exact .inl h4
    · exact .inr ⟨_, h4, Nat.le_refl _⟩

/-- The reader's block. -/
def RB (W : World) (g : Nat) (vL : Value) (i : Nat) (vp : Value) (s : Nat) (vq vl : Value) (e : Int) : Prop := W.heap[g]? = some (.cells #[vL, .int .i64 (i : Int), vp, .int .i64 (s : Int), .bool false, vq, vl, .int .i64 e] 65 (0, 0))
theorem RB.cells {W : World} {g i s : Nat} {vL vp vq vl : Value} {e : Int} (h : RB W g vL i vp s vq vl e) :
    W.cell? ⟨g, 0, none⟩ = some vL ∧ W.cell? ⟨g, 1, none⟩ = some (.int .i64 (i : Int)) ∧ W.cell? ⟨g, 2, none⟩ = some vp ∧ W.cell? ⟨g, 3, none⟩ = some (.int .i64 (s : Int)) ∧ W.cell? ⟨g, 4, none⟩ = some (.bool false) ∧ W.cell? ⟨g, 5, none⟩ = some vq ∧ W.cell? ⟨g, 6, none⟩ = some vl ∧ W.cell? ⟨g, 7, none⟩ = some (.int .i64 e) :=
  ⟨blk_cell h rfl, blk_cell h rfl, blk_cell h rfl, blk_cell h rfl, blk_cell h rfl, blk_cell h rfl, blk_cell h rfl, blk_cell h rfl⟩
theorem RB.frozen {W : World} {g i s : Nat} {vL vp vq vl : Value} {e : Int} (h : RB W g vL i vp s vq vl e) (j : Nat) : W.frozen? ⟨g, j, none⟩ = false := blk_frozen h
theorem RB.kp {S : Nat → Prop} {W W' : World} {g i s : Nat} {vL vp vq vl : Value} {e : Int} (h : RB W g vL i vp s vq vl e) (hk : Kp S W W') (hS : ¬ S g) : RB W' g vL i vp s vq vl e := hk.blk h hS
theorem RB.below {W W' : World} {g i s : Nat} {vL vp vq vl : Value} {e : Int} (h : RB W g vL i vp s vq vl e) (hb : Below W.heap.size W W') : RB W' g vL i vp s vq vl e := blk_below h hb
theorem RB.lt {W : World} {g i s : Nat} {vL vp vq vl : Value} {e : Int} (h : RB W g vL i vp s vq vl e) : g < W.heap.size := blk_lt h
/-- What a reader is over: the world in which it was made, its tokens, its block. -/
structure Rx where
  w : World
  ao : Option Addr
  cap : Nat
  L : List Tv
  g : Nat
/-- Its rows. -/
structure RV (X : Rx) (d : D) (W : World) (vp vq vl : Value) : Prop where
  rb : RB W X.g (.slice X.ao X.L.length X.cap) d.i vp d.s vq vl d.e
  rp : Rp W vp d.p
  rl : Rp W vl d.l
  rq : ∃ n, n ≤ d.i ∧ Rq W vq n
  bp : ∀ k, vp.ownBlock = some k → X.w.heap.size ≤ k
  bq : ∀ k, vq.ownBlock = some k → X.w.heap.size ≤ k
  bl : ∀ k, vl.ownBlock = some k → X.w.heap.size ≤ k ∧ vp.ownBlock ≠ some k
/-- The reader; r: how many nodes were opened since the last token, at most. -/
structure RD (X : Rx) (r : Nat) (d : D) (W : World) : Prop where
  bel : Below X.w.heap.size X.w W
  lt : Lt X.w X.ao X.L
  g0 : X.w.heap.size ≤ X.g
  hL : X.L.length ≤ 1000000
  rv : ∃ vp vq vl, RV X d W vp vq vl
  il : d.i ≤ X.L.length
  sm : d.e = 0 → d.s ≤ 100 * d.i + r
  sb : d.s ≤ 100 * X.L.length + 100
  pl : d.p.length ≤ d.s
theorem RD.below {X : Rx} {r : Nat} {d : D} {W W' : World} (h : RD X r d W) (hb : Below W.heap.size W W') : RD X r d W' := by
  obtain ⟨vp, vq, vl, v⟩ := h.rv
  obtain ⟨n, hn, hq⟩ := v.rq
  exact ⟨h.bel.trans (hb.mono h.bel.size), h.lt, h.g0, h.hL, ⟨vp, vq, vl, v.rb.below hb, v.rp.below hb, v.rl.below hb, ⟨n, hn, hq.below hb⟩, v.bp, v.bq, v.bl⟩, h.il, h.sm, h.sb, h.pl⟩
theorem RD.up {X : Rx} {r r' : Nat} {d : D} {W : World} (h : RD X r d W) (hr : r ≤ r') : RD X r' d W := ⟨h.bel, h.lt, h.g0, h.hL, h.rv, h.il, fun e => Nat.le_trans (h.sm e) (by omega), h.sb, h.pl⟩
theorem RD.dead {X : Rx} {r r' : Nat} {d : D} {W : World} (h : RD X r d W) (he : d.e ≠ 0) : RD X r' d W := ⟨h.bel, h.lt, h.g0, h.hL, h.rv, h.il, fun e => absurd e he, h.sb, h.pl⟩
/-- The next token, in memory. -/
theorem RD.tok {X : Rx} {r : Nat} {d : D} {W : World} (h : RD X r d W) {t : Tv} (ht : X.L[d.i]? = some t) : ∃ b off, X.ao = some ⟨b, off, none⟩ ∧ W.cell? ⟨b, off + d.i * 6, none⟩ = some (.int .u8 t.k) ∧ W.cell? ⟨b, off + d.i * 6 + 1, none⟩ = some (.string t.t) ∧ b < W.heap.size := by
  obtain ⟨b, off, h1, c0, c1, _⟩ := (h.lt.below h.bel) d.i t ht
  exact ⟨b, off, h1, c0, c1, World.block_lt_of_cell? _ _ c0⟩

end Go.Proofs.YtkglkhijngpgiaaGreat

set_option linter.unusedVariables false
set_option linter.unusedSimpArgs false
namespace Go.Proofs.YtkglkhijngpgiaaGreat
open Go.RowKit

/-! The reader's small methods. -/
abbrev kd (k : Int) (t : Tv) : Bool := t.k == k
set_option maxHeartbeats 1000000 in
theorem rkind_any {X : Rx} {r : Nat} {d : D} {W : World} (h : RD X r d W) (k : Int) :
    Calls Tryz.prog 57 #[pt X.g, .int .u8 k] W fun e w' => e = .returned (.bool (qn X.L d (kd k))) ∧ Below W.heap.size W w' := by
  obtain ⟨vp, vq, vl, v⟩ := h.rv
  obtain ⟨c0, c1, c2, c3, c4, c5, c6, c7⟩ := v.rb.cells
  have hgl := v.rb.lt
  have hL := h.hL
  have hil := h.il
  by_cases he : d.e = 0
  · rw [he] at c7
    by_cases hi : d.i < X.L.length
    · obtain ⟨t, ht⟩ : ∃ t, X.L[d.i]? = some t := ⟨_, List.getElem?_eq_getElem hi⟩
      obtain ⟨b, off, e0, x0, x1, xl⟩ := h.tok ht
      have hq : qn X.L d (kd k) = (t.k == k) := by simp [qn, nxt, he, ht, kd]
      rw [hq]
      have q1 : (d.i : Int) < X.L.length := by omega
      have q2 : (0 : Int) ≤ d.i := by omega
      rw [e0] at c0
      clear h v hq
      go_enter Tryz.func57, Tryz.ntmps57
      go_wp2_with fail
      go_quiet (fail)
      go_wp2_with fail
      go_ret
      exact ⟨rfl, below_dn (Below.refl _ _) _⟩
    · have hq : qn X.L d (kd k) = false := by
        have : X.L[d.i]? = none := List.getElem?_eq_none (by omega)
        simp [qn, nxt, he, this]
      rw [hq]
      have q1 : ¬ ((d.i : Int) < X.L.length) := by omega
      clear h v hq
      go_enter Tryz.func57, Tryz.ntmps57
      go_wp2_with fail
      go_quiet (fail)
      go_wp2_with fail
      go_ret
      exact ⟨rfl, below_dn (Below.refl _ _) _⟩
  · have hq : qn X.L d (kd k) = false := by simp [qn, nxt, he]
    rw [hq]
    have q1 : (d.e == 0) = false := by simpa using he
    clear h v hq
    go_enter Tryz.func57, Tryz.ntmps57
    go_wp2_with fail
    go_quiet (fail)
    go_wp2_with fail
    go_ret
    exact ⟨rfl, below_dn (Below.refl _ _) _⟩

theorem qn_wk {L : List Tv} {d : D} {k : Int} {s : ByteArray} : qn L d (wk k s) = true → qn L d (kd k) = true := by
  unfold qn
  cases nxt L d with
  | none => exact fun h => h
  | some t => simp only [Option.elim, wk, kd, Bool.and_eq_true]; exact fun h => h.1
set_option maxHeartbeats 1000000 in
theorem rword_any {X : Rx} {r : Nat} {d : D} {W : World} (h : RD X r d W) (s : ByteArray) :
    Calls Tryz.prog 55 #[pt X.g, .string s] W fun e w' => e = .returned (.bool (qn X.L d (wk 2 s))) ∧ Below W.heap.size W w' := by
  have HK : Hid (Calls Tryz.prog 57 #[pt X.g, .int .u8 2] W fun e w' => e = .returned (.bool (qn X.L d (kd 2))) ∧ Below W.heap.size W w') := rkind_any h 2
  have HD : Hid (∀ V, Below W.heap.size W V → RD X r d V) := fun V hb => h.below hb
  have hL := h.hL
  have hil := h.il
  clear h
  cases hq : qn X.L d (kd 2) with
  | false =>
    have hq2 : qn X.L d (wk 2 s) = false := by
      cases hw : qn X.L d (wk 2 s) with
      | false => rfl
      | true => rw [qn_wk hw] at hq; cases hq
    rw [hq2]
    rw [hq] at HK
    go_enter Tryz.func55, Tryz.ntmps55
    go_wp2_with fail
    refine HK.out.mono ?_
    rintro e w1 ⟨rfl, hb1⟩
    go_wp2_with fail
    go_quiet (fail)
    go_wp2_with fail
    go_ret
    exact ⟨rfl, below_dn hb1 _⟩
  | true =>
    obtain ⟨he, hi⟩ := qn_live hq
    obtain ⟨t, ht⟩ : ∃ t, X.L[d.i]? = some t := ⟨_, List.getElem?_eq_getElem hi⟩
    have hk2 : (t.k == 2) = true := by simpa [qn, nxt, he, ht, kd] using hq
    have hq2 : qn X.L d (wk 2 s) = (t.t.toList == s.toList) := by
      rw [tl_eq]
      simp [qn, nxt, he, ht, wk, hk2]
    rw [hq2]
    rw [hq] at HK
    have q1 : (d.i : Int) < X.L.length := by omega
    have q2 : (0 : Int) ≤ d.i := by omega
    clear hq hq2 hk2
    go_enter Tryz.func55, Tryz.ntmps55
    go_wp2_with fail
    refine HK.out.mono ?_
    rintro e w1 ⟨rfl, hb1⟩
    have h1 := HD.out w1 hb1
    obtain ⟨vp, vq, vl, v⟩ := h1.rv
    obtain ⟨c0, c1, c2, c3, c4, c5, c6, c7⟩ := v.rb.cells
    obtain ⟨b, off, e0, x0, x1, xl⟩ := h1.tok ht
    rw [e0] at c0
    clear h1 v HK HD ht
    go_wp2_with fail
    go_quiet (fail)
    go_wp2_with fail
    go_ret
    exact ⟨rfl, below_dn hb1 _⟩

set_option maxHeartbeats 1000000 in
theorem rsign_any {X : Rx} {r : Nat} {d : D} {W : World} (h : RD X r d W) (s : ByteArray) :
    Calls Tryz.prog 58 #[pt X.g, .string s] W fun e w' => e = .returned (.bool (qn X.L d (wk 6 s))) ∧ Below W.heap.size W w' := by
  have HK : Hid (Calls Tryz.prog 57 #[pt X.g, .int .u8 6] W fun e w' => e = .returned (.bool (qn X.L d (kd 6))) ∧ Below W.heap.size W w') := rkind_any h 6
  have HD : Hid (∀ V, Below W.heap.size W V → RD X r d V) := fun V hb => h.below hb
  have hL := h.hL
  have hil := h.il
  clear h
  cases hq : qn X.L d (kd 6) with
  | false =>
    have hq2 : qn X.L d (wk 6 s) = false := by
      cases hw : qn X.L d (wk 6 s) with
      | false => rfl
      | true => rw [qn_wk hw] at hq; cases hq
    rw [hq2]
    rw [hq] at HK
    go_enter Tryz.func58, Tryz.ntmps58
    go_wp2_with fail
    refine HK.out.mono ?_
    rintro e w1 ⟨rfl, hb1⟩
    go_wp2_with fail
    go_quiet (fail)
    go_wp2_with fail
    go_ret
    exact ⟨rfl, below_dn hb1 _⟩
  | true =>
    obtain ⟨he, hi⟩ := qn_live hq
    obtain ⟨t, ht⟩ : ∃ t, X.L[d.i]? = some t := ⟨_, List.getElem?_eq_getElem hi⟩
    have hk2 : (t.k == 6) = true := by simpa [qn, nxt, he, ht, kd] using hq
    have hq2 : qn X.L d (wk 6 s) = (t.t.toList == s.toList) := by
      rw [tl_eq]
      simp [qn, nxt, he, ht, wk, hk2]
    rw [hq2]
    rw [hq] at HK
    have q1 : (d.i : Int) < X.L.length := by omega
    have q2 : (0 : Int) ≤ d.i := by omega
    clear hq hq2 hk2
    go_enter Tryz.func58, Tryz.ntmps58
    go_wp2_with fail
    refine HK.out.mono ?_
    rintro e w1 ⟨rfl, hb1⟩
    have h1 := HD.out w1 hb1
    obtain ⟨vp, vq, vl, v⟩ := h1.rv
    obtain ⟨c0, c1, c2, c3, c4, c5, c6, c7⟩ := v.rb.cells
    obtain ⟨b, off, e0, x0, x1, xl⟩ := h1.tok ht
    rw [e0] at c0
    clear h1 v HK HD ht
    go_wp2_with fail
    go_quiet (fail)
    go_wp2_with fail
    go_ret
    exact ⟨rfl, below_dn hb1 _⟩

end Go.Proofs.YtkglkhijngpgiaaGreat

set_option linter.unusedVariables false
set_option linter.unusedSimpArgs false
namespace Go.Proofs.YtkglkhijngpgiaaGreat
open Go.RowKit

/-- Path was appended to. -/
theorem RD.opens {X : Rx} {r : Nat} {d : D} {W W1 w3 : World} (h : RD X r d W) (he : d.e = 0) (hr : r < 100) {vp vq vl : Value} (v : RV X d W vp vq vl) {n : Int} (hb : Below (W.setCell ⟨X.g, 3, none⟩ (.int .i64 ((d.s + 1 : Nat) : Int))).heap.size (W.setCell ⟨X.g, 3, none⟩ (.int .i64 ((d.s + 1 : Nat) : Int))) W1) {v' : Value} (h1 : Rp w3 v' (d.p ++ [(n, d.s + 1)])) (h2 : Kp (fun k => vp.ownBlock = some k) W1 w3) (h3 : Nb W1 vp v') :
    (w3.cell? ⟨X.g, 2, none⟩ = some vp ∧ w3.frozen? ⟨X.g, 2, none⟩ = false) ∧ RD X (r + 1) (opD n d) (w3.setCell ⟨X.g, 2, none⟩ v') := by
  have k0 := Kp.set W X.g 3 (.int .i64 ((d.s + 1 : Nat) : Int))
  have rb0 : RB _ X.g (.slice X.ao X.L.length X.cap) d.i vp (d.s + 1) vq vl d.e := blk_set v.rb 3 (.int .i64 ((d.s + 1 : Nat) : Int))
  have hvg : ∀ k, vp.ownBlock = some k → k ≠ X.g := v.rp.ne v.rb (by decide)
  have hlg : ∀ k, vl.ownBlock = some k → k ≠ X.g := v.rl.ne v.rb (by decide)
  obtain ⟨m, hm, hq⟩ := v.rq
  have hqg : ∀ k, vq.ownBlock = some k → k ≠ X.g := hq.ne v.rb (by decide)
  have rb3 : RB w3 X.g (.slice X.ao X.L.length X.cap) d.i vp (d.s + 1) vq vl d.e := (rb0.below hb).kp h2 (fun e => hvg X.g e rfl)
  have k4 := Kp.set w3 X.g 2 v'
  have rb4 : RB _ X.g (.slice X.ao X.L.length X.cap) d.i v' (d.s + 1) vq vl d.e := blk_set rb3 2 v'
  have hvg' : ∀ k, v'.ownBlock = some k → k ≠ X.g := h1.ne rb3 (by decide)
  have hqp : ∀ k, vq.ownBlock = some k → vp.ownBlock ≠ some k := hq.rp v.rp
  have e : opD n d = { d with p := d.p ++ [(n, d.s + 1)], s := d.s + 1 } := by unfold opD; rw [if_pos he]
  have hil := h.il
  have hsm := h.sm he
  refine ⟨⟨blk_cell rb3 rfl, rb3.frozen 2⟩, ?_⟩
  rw [e]
  have hsz : X.w.heap.size ≤ W1.heap.size := Nat.le_trans (Nat.le_trans h.bel.size k0.size) hb.size
  refine ⟨?_, h.lt, h.g0, h.hL, ⟨v', vq, vl, rb4, h1.kp k4 hvg', ((((v.rl.kp k0 hlg).below hb).kp h2 (fun k e => (v.bl k e).2)).kp k4 hlg), ⟨m, hm, ((((hq.kp k0 hqg).below hb).kp h2 hqp).kp k4 hqg)⟩, ?_, v.bq, ?_⟩, h.il, fun _ => ?_, ?_, ?_⟩
  · refine Kp.low (S := fun k => k = X.g) ?_ k4 (fun k e => by rw [e]; exact h.g0) (Nat.le_trans hsz h2.size)
    refine Kp.low (S := fun k => vp.ownBlock = some k) ?_ h2 v.bp hsz
    exact (Kp.low h.bel k0 (fun k e => by rw [e]; exact h.g0) h.bel.size).trans (hb.mono (Nat.le_trans h.bel.size k0.size))
  · intro k e
    rcases h3 with e1 | ⟨q, e1, hq⟩
    · exact v.bp k (by rw [← e1]; exact e)
    · rw [e1] at e
      simp at e
      omega
  · intro k e
    refine ⟨(v.bl k e).1, fun e2 => ?_⟩
    rcases h3 with e1 | ⟨q, e1, hq⟩
    · exact (v.bl k e).2 (by rw [← e1]; exact e2)
    · rw [e1] at e2
      simp at e2
      have := v.rl.lt k e
      have := k0.size
      have := hb.size
      omega
  · show d.s + 1 ≤ 100 * d.i + (r + 1)
    omega
  · show d.s + 1 ≤ _
    omega
  · have := h.pl
    simp
    omega
theorem step_step {W : World} {ops : Array Oper} {o : Oper} {a : Act} {K : Act → World → Prop} {Q : Exit → Act → World → Prop} {E : Prop} (hgd : o.guard = none) (s x : Operand)
    (ho : o.op = .call { callee := .builtin .append, args := #[s, x], argTypes := #[47, 47] }) (v : Value) (l : List (Int × Nat)) (d : Int × Nat) (hs : a.eval s = v) (hr : Rp W v l)
    (g c : Nat) (hx : a.eval x = .slice (some ⟨g, 0, none⟩) 1 c) (hg : W.heap[g]? = some (.cells #[.int .u8 d.1, .int .i64 (d.2 : Int)] 74 (0, 0))) (hl : l.length ≤ 1000000000)
    (h : ∀ q cap w', Rp w' (.slice (some ⟨q, 0, none⟩) (l.length + 1) cap) (l ++ [d]) → Kp (fun k => v.ownBlock = some k) W w' → Nb W v (.slice (some ⟨q, 0, none⟩) (l.length + 1) cap) → K (a.put o.dst (.slice (some ⟨q, 0, none⟩) (l.length + 1) cap)) w') :
    if Region.wanted o (yielded ops a.tmps) = true then Oper.wp Tryz.prog o a W K Q else E := by
  obtain ⟨i0, hi, hz0, hz1, hz2⟩ := info_parts Tryz.info74
  refine step_append_lies W hgd s x 47 ho 0 74 i0 _ 2 16 Tryz.underlying47 hi hz0 hz1 hz2 rfl (by decide) v _ _ hs hr ⟨g, 0, none⟩ 1 c (scs [d]) hx (by rw [scs_len]; rfl) ?_ (scs_one [d]) (by omega) (by unfold maxLen; omega) (by omega) (Nat.zero_le _) _ rfl ?_
  · intro j u hu
    refine World.news_of_block hg j u ?_
    have e : scs [d] = [.int .u8 d.1, .int .i64 (d.2 : Int)] := by simp [scs, flat]
    rw [e] at hu
    simpa using hu
  · intro q cap w' a1 a2 a3 _
    refine h q cap w' ?_ ((Kp.of_grown a2).sub (fun k e => e.symm)) ?_
    · unfold Rp
      rw [List.length_append, scs_app]
      exact a1
    · rcases a3 with a3 | a3
      · exact .inl a3.symm
      · exact .inr ⟨q, rfl, by rw [a3]; exact Nat.le_refl _⟩
theorem opD_dead {n : Int} {d : D} (he : ¬ d.e = 0) : opD n d = d := by unfold opD; rw [if_neg he]
set_option maxRecDepth 100000 in
set_option maxHeartbeats 1000000 in
theorem opens_any {X : Rx} {r : Nat} {d : D} {W : World} (h : RD X r d W) (hr : r < 100) (n : Int) :
    Calls Tryz.prog 43 #[pt X.g, .int .u8 n] W fun e w' => e = .returned (.tuple #[]) ∧ RD X (r + 1) (opD n d) w' := by
  obtain ⟨vp, vq, vl, v⟩ := h.rv
  obtain ⟨c0, c1, c2, c3, c4, c5, c6, c7⟩ := v.rb.cells
  have hgl := v.rb.lt
  have hf2 := v.rb.frozen 2
  have hf3 := v.rb.frozen 3
  have hsb := h.sb
  have hL := h.hL
  by_cases he : d.e = 0
  · rw [he] at c7
    have HX : Hid (∀ W1 w3 v', Below (W.setCell ⟨X.g, 3, none⟩ (.int .i64 ((d.s + 1 : Nat) : Int))).heap.size (W.setCell ⟨X.g, 3, none⟩ (.int .i64 ((d.s + 1 : Nat) : Int))) W1 → Rp w3 v' (d.p ++ [(n, d.s + 1)]) → Kp (fun k => vp.ownBlock = some k) W1 w3 → Nb W1 vp v' → (w3.cell? ⟨X.g, 2, none⟩ = some vp ∧ w3.frozen? ⟨X.g, 2, none⟩ = false) ∧ RD X (r + 1) (opD n d) (w3.setCell ⟨X.g, 2, none⟩ v')) := fun W1 w3 v' a b c e => h.opens he hr v a b c e
    have k0 := Kp.set W X.g 3 (.int .i64 ((d.s + 1 : Nat) : Int))
    have HR : Hid (∀ V, Below (W.setCell ⟨X.g, 3, none⟩ (.int .i64 ((d.s + 1 : Nat) : Int))).heap.size (W.setCell ⟨X.g, 3, none⟩ (.int .i64 ((d.s + 1 : Nat) : Int))) V → Rp V vp d.p) := fun V hb => (v.rp.kp k0 (v.rp.ne v.rb (by decide))).below hb
    have hpl : d.p.length ≤ 1000000000 := by have := h.pl; omega
    have hs1 : d.s ≤ 100000100 := by omega
    have hs2 : (d.s : Int) ≤ 100000100 := by omega
    obtain ⟨pv, cv, hv, _⟩ := v.rp.shape
    subst hv
    clear h
    go_enter Tryz.func43, Tryz.ntmps43
    go_wp2_with fail
    obtain ⟨W1, e1⟩ : ∃ W1, W.setCell ⟨X.g, 3, none⟩ (.int .i64 ((d.s : Int) + 1)) = W1 := ⟨_, rfl⟩
    have e2 : W.setCell ⟨X.g, 3, none⟩ (.int .i64 ((d.s + 1 : Nat) : Int)) = W1 := by rw [← e1]; rfl
    rw [e2] at HX HR
    have m2 : W1.cell? ⟨X.g, 2, none⟩ = some (.slice pv d.p.length cv) := by rw [← e2]; exact blk_cell (blk_set v.rb 3 _) rfl
    have m3 : W1.cell? ⟨X.g, 3, none⟩ = some (.int .i64 ((d.s : Int) + 1)) := by rw [← e2]; exact blk_cell (blk_set v.rb 3 _) rfl
    have hg1 : X.g < W1.heap.size := Nat.lt_of_lt_of_le hgl (by rw [← e2]; exact k0.size)
    rw [e1]
    have HB : Hid (∀ o, Below W1.heap.size W1 (W1.drew.alloc o)) := fun o => (Below.refl _ _).drew.alloc (Nat.le_refl _) _
    clear e1 e2 v c0 c1 c2 c3 c4 c5 c6 c7 hf2 hf3 hgl k0
    go_region_law (refine step_step (by rfl) _ _ (by rfl) (.slice pv d.p.length cv) d.p (n, d.s + 1) (by rfl) (HR.out _ (HB.out _)) W1.heap.size 1 (by rfl) (new_at W1.drew _) hpl ?_; intro q cp w3 h1 h2 h3; obtain ⟨⟨x1, x2⟩, x3⟩ := HX.out _ w3 _ (HB.out _) h1 h2 h3; have HX2 := show Hid _ from x3; clear x3 h1 h2 h3)
    all_goals (
      go_wp2_with fail
      go_end0
      exact ⟨rfl, HX2.out⟩)
  · rw [opD_dead he]
    have HX : Hid (RD X (r + 1) d W) := h.dead he
    have q1 : (d.e == 0) = false := by simpa using he
    clear h
    go_enter Tryz.func43, Tryz.ntmps43
    go_wp2_with fail
    go_end0
    exact ⟨rfl, HX.out⟩

end Go.Proofs.YtkglkhijngpgiaaGreat
