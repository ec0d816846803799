import Derived.Test.YtcokccfbeonlnaaDoorHc
set_option linter.unusedVariables false
set_option linter.unusedSimpArgs false
namespace Go.Proofs.YtcokccfbeonlnaaDoor
open Go.RowKit

/-- A row without its last thing. -/
theorem row_pop {β : Type} {enc : β → List Value} {sz : Nat} (hsz : ∀ x, (enc x).length = sz) {w : World} {e : Nat} {v : Value} {r : List β} {x : β} (h : w.ownsRow 0 e sz v (x :: r).length (flat enc (x :: r).reverse)) :
    ∃ b cap, v = .slice (some ⟨b, 0, none⟩) (r.length + 1) cap ∧ r.length + 1 ≤ cap ∧ cap ≤ maxLen ∧ w.ownsRow 0 e sz (.slice (some ⟨b, 0, none⟩) r.length cap) r.length (flat enc r.reverse) ∧ (∀ j u, (enc x)[j]? = some u → w.cell? ⟨b, r.length * sz + j, none⟩ = some u) ∧ ∃ cur, w.heap[b]? = some (.cells cur e (0, 0)) := by
  have hcs := fun b hb => h.cells (g := b) hb
  rcases h.2 with ⟨h1, h2⟩ | ⟨b, cap, cur, rfl, h2, h3, h4, h5, h6, h7⟩
  · simp at h2
  · have hr : (x :: r).reverse = r.reverse ++ [x] := by simp
    rw [hr] at h7
    refine ⟨b, cap, rfl, h4, h5, ⟨?_, .inr ⟨b, cap, cur, rfl, h2, h3, ?_, h5, h6, ?_⟩⟩, ?_, cur, h3⟩
    · rw [flat_len enc sz hsz, List.length_reverse]
    · simp at h4; omega
    · have : cur.toList.take (r.length * sz) = (cur.toList.take ((x :: r).length * sz)).take (r.length * sz) := by
        rw [List.take_take, Nat.min_eq_left (Nat.mul_le_mul_right _ (by simp))]
      rw [this, h7, flat_append, List.take_append_of_le_length (by rw [flat_len enc sz hsz, List.length_reverse]; exact Nat.le_refl _), List.take_of_length_le (by rw [flat_len enc sz hsz, List.length_reverse]; exact Nat.le_refl _)]
    · intro j u hj
      have h8 : (flat enc (x :: r).reverse)[r.length * sz + j]? = some u := by
        rw [hr]
        refine flat_at enc sz hsz _ _ _ x u ?_ hj
        rw [List.getElem?_append_right (by simp)]
        simp
      have := hcs b rfl _ u h8
      rw [Addr.add_lit, Nat.zero_add] at this
      exact this

theorem alloc_at' {W : World} {g : Nat} {o : Obj} (h : W.heap[g]? = some o) (o' : Obj) : (W.alloc o').heap[g]? = some o := blk_below h ((Below.refl _ _).alloc (Nat.le_refl _) _)
theorem row_cells {w : World} {e sz n k : Nat} {v : Value} {xs : List Value} (h : w.ownsRow 0 e sz v n xs) (hk : v.ownBlock = some k) : ∀ o, w.heap[k]? = some o → o.isCells = true := by
  rcases h.2 with ⟨rfl, _⟩ | ⟨b, cap, cur, rfl, _, h3, _⟩
  · cases hk
  · cases hk; exact cells_of h3
/-- The stack has grown. -/
theorem TL.push {B : Nat} {w W w2 : World} {gb ga : Nat} {s : Sp} {st : List Sp} {v v2 : Value} (h : TL B w gb ga s st) (hW : Below w.heap.size w W) (hB : B ≤ w.heap.size) (h1 : W.heap[ga]? = some (.cells #[v] 106 (0, 0))) (h2 : ∀ k, v.ownBlock = some k → B ≤ k ∧ k ≠ gb) (ho : W.ownsRow 0 105 2 v st.length (flat spc st.reverse))
    (ho2 : w2.ownsRow 0 105 2 v2 (st.length + 1) (flat spc st.reverse ++ spc s)) (hg : W.grownBy w2 v.ownBlock) (hat : v2.ownBlock = v.ownBlock ∨ v2.ownBlock = some W.heap.size) :
    TL B (((w2.setCell ⟨ga, 0, none⟩ v2).setCell ⟨gb, 0, none⟩ (.int .i64 0)).setCell ⟨gb, 1, none⟩ (.int .i64 0)) gb ga ⟨0, 0⟩ (s :: st) ∧ Bo B gb ga w (((w2.setCell ⟨ga, 0, none⟩ v2).setCell ⟨gb, 0, none⟩ (.int .i64 0)).setCell ⟨gb, 1, none⟩ (.int .i64 0)) := by
  have hne := h.ne
  have hk := Kp.of_grown hg
  have hgb := blk_below h.hb hW
  have r1 := row_ne ho h1 (by decide)
  have g1 : w2.heap[ga]? = some (.cells #[v] 106 (0, 0)) := hk.blk h1 (fun e => r1 e.symm)
  have g2 : w2.heap[gb]? = some (.cells #[.int .i64 s.all, .int .i64 s.hang] 105 (0, 0)) := hk.blk hgb (fun e => (h2 gb e.symm).2 rfl)
  have r2 := row_ne ho2 g1 (by decide)
  have gbl := blk_lt hgb
  have hv2 : ∀ k, v2.ownBlock = some k → B ≤ k ∧ k ≠ gb := by
    intro k hk
    rcases hat with e | e
    · exact h2 k (by rw [← e]; exact hk)
    · rw [e] at hk
      injection hk with hk
      subst hk
      exact ⟨Nat.le_trans hB hW.size, by omega⟩
  have k1 := Kp.set w2 ga 0 v2
  have k2 := Kp.set (w2.setCell ⟨ga, 0, none⟩ v2) gb 0 (.int .i64 0)
  have k3 := Kp.set ((w2.setCell ⟨ga, 0, none⟩ v2).setCell ⟨gb, 0, none⟩ (.int .i64 0)) gb 1 (.int .i64 0)
  refine ⟨⟨?_, ⟨v2, ?_, ?_, hv2⟩⟩, ?_⟩
  · exact blk_set (blk_set (blk_other g2 (Ne.symm hne) _) 0 _) 1 _
  · exact blk_other (blk_other (blk_set g1 0 _) hne _) hne _
  · refine k3.row (k2.row (k1.row ?_ (fun k e1 e2 => r2 (by rw [e1, e2]))) (fun k e1 e2 => (hv2 k e1).2 e2)) (fun k e1 e2 => (hv2 k e1).2 e2)
    have : flat spc (s :: st).reverse = flat spc st.reverse ++ spc s := by
      rw [List.reverse_cons, flat_append]; simp [flat]
    rw [this]
    exact ho2
  · have b0 : Kp (Sx B gb ga) w w2 := (Kp.of_below hW).step hk (fun k _ e => .inr (.inr (h2 k e.symm).1))
    refine ⟨((b0.step k1 (fun k _ e => .inr (.inl e))).step k2 (fun k _ e => .inl e)).step k3 (fun k _ e => .inl e), ?_⟩
    have o1 : KeepsOthers W w2 := ko_kp hk (fun k e => row_cells ho e.symm)
    have o2 := ko_kp k1 (fun k e => by subst e; exact cells_of g1)
    have o3 := ko_kp k2 (fun k e => by subst e; exact cells_of (blk_other g2 (Ne.symm hne) _))
    have o4 := ko_kp k3 (fun k e => by subst e; exact cells_of (blk_set (blk_other g2 (Ne.symm hne) _) 0 _))
    exact (ko_below hW).trans (o1.trans (o2.trans (o3.trans o4)))

set_option maxHeartbeats 1000000 in
set_option maxRecDepth 100000 in
theorem tell_end {B : Nat} {w : World} {gb ga : Nat} {s : Sp} {st : List Sp} (h : TL B w gb ga s st) (hs : Sb s) (hB : B ≤ w.heap.size) (hn : st.length ≤ 1000000000) :
    Calls Tryd.prog 57 #[.agg #[.int .u8 7, .string ⟨#[]⟩, .int .i64 0, .int .i64 0, .bool false], .pointer (some ⟨ga, 0, none⟩), .pointer (some ⟨gb, 0, none⟩)] w fun e w' => TA B w gb ga (0, ⟨0, 0⟩, s :: st) e w' := by
  obtain ⟨i0, hi, hz0, hz1, hz2⟩ := info_parts Tryd.info105
  obtain ⟨v, h1, h2, h3⟩ := h.ha
  have gal := blk_lt h1
  have gbl := blk_lt h.hb
  have hnab := h.ne
  have a0 : w.cell? ⟨ga, 0, none⟩ = some v := blk_cell h1 rfl
  have b0 : w.cell? ⟨gb, 0, none⟩ = some (.int .i64 s.all) := blk_cell h.hb rfl
  have b1 : w.cell? ⟨gb, 1, none⟩ = some (.int .i64 s.hang) := blk_cell h.hb rfl
  obtain ⟨p, cap, rfl, _, _⟩ := row_shape h2
  have hbW : Below w.heap.size w ((w.alloc (.cells #[.int .u8 7, .string ⟨#[]⟩, .int .i64 0, .int .i64 0, .bool false] 26)).alloc (.cells #[.int .i64 s.all, .int .i64 s.hang] 105)) := ((Below.refl _ _).alloc (Nat.le_refl _) _).alloc (by rw [World.size_alloc]; omega) _
  have hs2 : (w.alloc (.cells #[.int .u8 7, .string ⟨#[]⟩, .int .i64 0, .int .i64 0, .bool false] 26)).heap.size = w.heap.size + 1 := World.size_alloc _ _
  go_enter Tryd.func57, Tryd.ntmps57
  go_wp2_with (first | (at_builtin; refine wpList_append_own_at (P := Tryd.prog) (w := (w.alloc (.cells #[.int .u8 7, .string ⟨#[]⟩, .int .i64 0, .int .i64 0, .bool false] 26)).alloc (.cells #[.int .i64 s.all, .int .i64 s.hang] 105)) rfl _ _ 106 rfl 0 105 i0 (.agg #[.int .i64 0, .int .i64 0]) 2 16 Tryd.underlying106 hi hz0 hz1 hz2 rfl (by decide) _ _ _ rfl (row_below h2 hbW) ⟨w.heap.size + 1, 0, none⟩ 1 1 (spc s) rfl rfl ?c1 ?c2 ?c3 ?c4 ?c5 ?_))
  case c1 => exact two_new _ _ _ _ _ hs2.symm
  case c2 => intro u hu; simp [spc] at hu; rcases hu with rfl | rfl <;> rfl
  case c3 => unfold maxLen; omega
  case c4 => omega
  case c5 => omega
  intro v2 w2 ho2 hg2 _ hat
  obtain ⟨k1, k2⟩ := h.push hbW hB (blk_below h1 hbW) h3 (row_below h2 hbW) ho2 hg2 (by rw [World.size_alloc, hs2]; exact hat)
  have hk := Kp.of_grown hg2
  have r1 := row_ne h2 h1 (by decide)
  have g1 : w2.heap[ga]? = some (.cells #[.slice p st.length cap] 106 (0, 0)) := hk.blk (blk_below h1 hbW) (fun e => r1 e.symm)
  have g2 : w2.heap[gb]? = some (.cells #[.int .i64 s.all, .int .i64 s.hang] 105 (0, 0)) := hk.blk (blk_below h.hb hbW) (fun e => (h3 gb e.symm).2 rfl)
  have x0 := blk_cell (k := 0) g1 rfl
  have x1 := blk_frozen (k := 0) g1
  have y0 := blk_cell (k := 0) g2 rfl
  have y1 := blk_cell (k := 1) g2 rfl
  have y2 := blk_frozen (k := 0) g2
  have y3 := blk_frozen (k := 1) g2
  have HE : Hid (TL B (((w2.setCell ⟨ga, 0, none⟩ v2).setCell ⟨gb, 0, none⟩ (.int .i64 0)).setCell ⟨gb, 1, none⟩ (.int .i64 0)) gb ga ⟨0, 0⟩ (s :: st) ∧ Bo B gb ga w (((w2.setCell ⟨ga, 0, none⟩ v2).setCell ⟨gb, 0, none⟩ (.int .i64 0)).setCell ⟨gb, 1, none⟩ (.int .i64 0))) := ⟨k1, k2⟩
  obtain ⟨p2, cap2, rfl, _, _⟩ := row_shape ho2
  clear k1 k2 hk g1 g2 hg2 hat ho2 h h1 h2 h3 hbW r1
  go_wp2_with fail
  go_ret
  exact ⟨rfl, HE.out.1, HE.out.2⟩

/-- The stack without its innermost one. -/
theorem TL.pop {B : Nat} {w W : World} {gb ga : Nat} {s x : Sp} {r : List Sp} (h : TL B w gb ga s (x :: r)) (hW : Below w.heap.size w W) (hB : B ≤ w.heap.size) : ∃ b cap, W.cell? ⟨ga, 0, none⟩ = some (.slice (some ⟨b, 0, none⟩) (r.length + 1) cap) ∧ r.length + 1 ≤ cap ∧ cap ≤ maxLen ∧ W.cell? ⟨b, r.length * 2, none⟩ = some (.int .i64 x.all) ∧ W.cell? ⟨b, r.length * 2 + 1, none⟩ = some (.int .i64 x.hang) ∧
    (b ≠ ga ∧ b ≠ gb ∧ b < w.heap.size) ∧
    TL B (((W.setCell ⟨gb, 0, none⟩ (.int .i64 x.all)).setCell ⟨gb, 1, none⟩ (.int .i64 x.hang)).setCell ⟨ga, 0, none⟩ (.slice (some ⟨b, 0, none⟩) r.length cap)) gb ga x r ∧ Bo B gb ga w (((W.setCell ⟨gb, 0, none⟩ (.int .i64 x.all)).setCell ⟨gb, 1, none⟩ (.int .i64 x.hang)).setCell ⟨ga, 0, none⟩ (.slice (some ⟨b, 0, none⟩) r.length cap)) := by
  have hne := h.ne
  have hh := h.below hW
  obtain ⟨v, h1, h2, h3⟩ := hh.ha
  obtain ⟨b, cap, rfl, c1, c2, c3, c4, cur, c5⟩ := row_pop spc_len h2
  have r1 := row_ne h2 h1 (by decide)
  have hb2 := h3 b rfl
  have hbw : b < w.heap.size := by
    obtain ⟨v', h1', h2', h3'⟩ := h.ha
    have e := blk_below h1' hW
    rw [h1] at e
    injection e with e
    injection e with e _
    have e2 : v' = .slice (some ⟨b, 0, none⟩) (r.length + 1) cap := by
      have := congrArg (·[0]?) e
      simpa using this.symm
    subst e2
    exact (h2'.lt b rfl).2
  refine ⟨b, cap, blk_cell h1 rfl, c1, c2, c4 0 _ rfl, c4 1 _ rfl, ⟨fun e => r1 (by rw [e]; rfl), hb2.2, hbw⟩, ⟨?_, ⟨.slice (some ⟨b, 0, none⟩) r.length cap, ?_, ?_, fun k hk => by cases hk; exact hb2⟩⟩, ?_⟩
  · exact blk_other (blk_set (blk_set hh.hb 0 _) 1 _) (Ne.symm hne) _
  · exact blk_set (blk_other (blk_other h1 hne _) hne _) 0 _
  · refine (Kp.set _ ga 0 _).row ((Kp.set _ gb 1 _).row ((Kp.set _ gb 0 _).row c3 ?_) ?_) ?_
    · intro k e1 e2; cases e1; exact hb2.2 e2
    · intro k e1 e2; cases e1; exact hb2.2 e2
    · intro k e1 e2; cases e1; exact r1 (by rw [← e2]; rfl)
  · refine ⟨(((Kp.of_below hW).step (Kp.set W gb 0 _) (fun k _ e => .inl e)).step (Kp.set _ gb 1 _) (fun k _ e => .inl e)).step (Kp.set _ ga 0 _) (fun k _ e => .inr (.inl e)), ?_⟩
    have o2 := ko_kp (Kp.set W gb 0 (.int .i64 x.all)) (fun k e => by subst e; exact cells_of hh.hb)
    have o3 := ko_kp (Kp.set (W.setCell ⟨gb, 0, none⟩ (.int .i64 x.all)) gb 1 (.int .i64 x.hang)) (fun k e => by subst e; exact cells_of (blk_set hh.hb 0 _))
    have o4 := ko_kp (Kp.set ((W.setCell ⟨gb, 0, none⟩ (.int .i64 x.all)).setCell ⟨gb, 1, none⟩ (.int .i64 x.hang)) ga 0 (.slice (some ⟨b, 0, none⟩) r.length cap)) (fun k e => by subst e; exact cells_of (blk_other (blk_other h1 hne _) hne _))
    exact (ko_below hW).trans (o2.trans (o3.trans o4))
end Go.Proofs.YtcokccfbeonlnaaDoor
