import Derived.Test.YtkglkhijngpgiaaGreatZt
set_option linter.unusedVariables false
set_option linter.unusedSimpArgs false
namespace Go.Proofs.YtkglkhijngpgiaaGreat
open Go.RowKit

theorem app_toks {W : World} {ops : Array Oper} {rest : List Oper} {o : Oper} {a : Act} {Q : Exit → Act → World → Prop} (hgd : o.guard = none) (s x : Operand)
    (ho : o.op = .call { callee := .builtin .append, args := #[s, x], argTypes := #[22, 22] }) (v vx : Value) (l ds : List Tv) (hs : a.eval s = v) (hr : Rt 0 W v l)
    (hx : a.eval x = vx) (hrx : Rt 0 W vx ds) (hl : l.length + ds.length ≤ 1000000000)
    (h : ∀ v' w', Rt 0 w' v' (l ++ ds) → Kp (fun k => v.ownBlock = some k) W w' → Nb W v v' → wpList Tryz.prog ops Q rest (a.put o.dst v') w') : wpList Tryz.prog ops Q (o :: rest) a W := by
  have hc := fun g (hg : vx.ownBlock = some g) => World.ownsRow.cells hrx hg
  obtain ⟨i0, hi, hz0, hz1, hz2⟩ := info_parts Tryz.info35
  rcases hrx.2 with ⟨rfl, h0⟩ | ⟨g, cap, cur, rfl, _⟩
  · obtain rfl : ds = [] := List.eq_nil_of_length_eq_zero h0
    refine wpList_append_own_none (P := Tryz.prog) (w := W) hgd s x 22 ho 0 35 i0 6 Tryz.underlying22 hi v _ _ hs hr hx ?_
    exact h v W (by rw [List.append_nil]; exact hr) (Kp.refl _ _) (.inl rfl)
  · refine wpList_append_own_at (P := Tryz.prog) (w := W) hgd s x 22 ho 0 35 i0 _ 6 56 Tryz.underlying22 hi hz0 hz1 hz2 rfl (by decide) v _ _ hs hr ⟨g, 0, none⟩ ds.length cap (tcs ds) hx (tcs_len ds) (hc g rfl) (tcs_one _) (by unfold maxLen; omega) (by omega) (Nat.zero_le _) ?_
    intro v' w' h1 h2 _ h4
    refine h v' w' ?_ ((Kp.of_grown h2).sub (fun k e => e.symm)) ?_
    · unfold Rt
      rw [List.length_append, tcs_app]
      exact h1
    · rcases h4 with h4 | h4
      · exact .inl h4
      · exact .inr ⟨_, h4, Nat.le_refl _⟩
/-- The tokens with the new one, ahead of Read. -/
structure Q3 (W : World) (t : Tv) (L : List Tv) (v : Value) (V : World) : Prop where
  bel : Below W.heap.size W V
  rt : Rt 0 V v L
  vb : ∀ k, v.ownBlock = some k → W.heap.size < k
  tk : V.heap[W.heap.size]? = some (tokB t)
theorem Q3.below {W : World} {t : Tv} {L : List Tv} {v : Value} {V V' : World} (h : Q3 W t L v V) (hb : Below V.heap.size V V') : Q3 W t L v V' := ⟨h.bel.trans (hb.mono h.bel.size), h.rt.below hb, h.vb, blk_below h.tk hb⟩
theorem Q3.grow {W : World} {t : Tv} {L ds : List Tv} {v v' : Value} {V V1 w3 : World} (h : Q3 W t L v V) (hb : Below V.heap.size V V1) (h1 : Rt 0 w3 v' (L ++ ds)) (h2 : Kp (fun k => v.ownBlock = some k) V1 w3) (h3 : Nb V1 v v') : Q3 W t (L ++ ds) v' w3 := by
  have hq := h.below hb
  have hlt := blk_lt hq.tk
  refine ⟨Kp.low hq.bel h2 (fun k e => by have := h.vb k e; omega) hq.bel.size, h1, fun k e => ?_, h2.blk hq.tk (fun e => by have := h.vb _ e; omega)⟩
  rcases h3 with e1 | ⟨q, e1, hq1⟩
  · exact h.vb k (by rw [← e1]; exact e)
  · rw [e1] at e
    simp at e
    omega
set_option maxRecDepth 100000 in
set_option maxHeartbeats 2000000 in
theorem rput_err {U : Nat → Prop} {W : World} {g : Nat} {T : List Tv} {now : List (Int × Nat)} {vL vN : Value} (h : DP U W g T now 0 false vL vN) (hT : T.length ≤ 100000) (t : Tv) (ht : (t.k == 7 || t.k == 8) = false) (cd : Int) (hcd : cd = 120 ∨ cd = 122) (hR : ∀ e l, Res (T ++ [t]) e l → e = cd) :
    Calls Tryz.prog 15 #[pt g, t.v] W fun r w' => r = .returned (.tuple #[nilS, .int .i64 cd]) ∧ DA U g W w' nilS [] T now cd false := by
  obtain ⟨c0, c1, c2, c3⟩ := h.fb.cells
  have hgl := h.fb.lt
  obtain ⟨pl, cl, hvL, _⟩ := h.rt.shape
  subst hvL
  have HC : Hid (∀ V, Calls Tryz.prog 24 #[.agg #[.int .u8 t.k, .string t.t, .int .i64 t.a, .int .i64 t.l, .int .i64 t.c, .int .i64 t.f]] V fun r w' => r = .returned (.bool false) ∧ Below V.heap.size V w') := fun V => by
    have := rcomment_any t V
    rw [ht] at this
    exact this
  have HD : Hid (∀ V, Below W.heap.size W V → DP U V g T now 0 false (.slice pl T.length cl) vN) := fun V hb => h.below hb
  have HX : Hid (∀ V, Below W.heap.size W V → DA U g W (V.setCell ⟨g, 2, none⟩ (.int .i64 cd)) nilS [] T now cd false) := fun V hb => by
    have hd := h.below hb
    have k := Kp.set V g 2 (.int .i64 cd)
    exact da_nil ⟨blk_set hd.fb 2 _, hd.rt.kp k (hd.rt.ne hd.fb (by decide)), hd.rp.kp k (hd.rp.ne hd.fb (by decide)), hd.ug, hd.ul, hd.un⟩ ((Kp.of_below hb).step k (fun k _ e => e))
  have HR : Hid (∀ e l, Res (T ++ [t]) e l → e = cd) := hR
  have HRD : Hid (∀ V ao cap, Lt V ao (T ++ [t]) → Calls Tryz.prog 26 #[.slice ao (T.length + 1) cap, .bool false] V fun e w' => e = .returned (pt V.heap.size) ∧ ∃ e l, RdO V w' V.heap.size (T ++ [t]) e l) := fun V ao cap hL => by
    have := read_doc ao cap (T ++ [t]) V hL (by simp; omega)
    rw [show (T ++ [t]).length = T.length + 1 by simp] at this
    exact this
  clear h hR
  dsimp only [Tv.v]
  go_enter Tryz.func15, Tryz.ntmps15
  go_wp2_with fail
  refine (HC.out _).mono ?_
  rintro r w1 ⟨rfl, hb1⟩
  have hb1' : Below W.heap.size W w1 := (below_new W (tokB t)).trans (hb1.mono (below_new W (tokB t)).size)
  have H1 : Hid (Q3 W t [] nilS w1) := ⟨hb1', rt_nil _ _, (fun k e => by cases e), blk_below (new_at W (tokB t)) hb1⟩
  have d0 : w1.cell? ⟨g, 0, none⟩ = some (.slice pl T.length cl) := blk_cell (HD.out _ hb1').fb rfl
  have hg1 : g < w1.heap.size := (HD.out _ hb1').fb.lt
  have hgn : ¬ W.heap.size = g := by omega
  clear hb1 hb1'
  go_wp2_with (first
    | (at_builtin; have hg := H2; clear hg; refine app_tok (by rfl) _ _ (by rfl) 0 (.slice p2 T.length k2) T t (by rfl) (H2.out.rt.below (below_new _ _)) w2.heap.size 1 (by rfl) (new_at _ _) (by omega) (Nat.zero_le _) ?_; intro v3 w3 h1 h2 h3 h4; have H3 : Hid (Q3 W t (T ++ [t]) v3 w3) := H2.out.grow (below_new _ _) h1 ((Kp.of_grown h3).sub (fun k e => e.symm)) (h4.imp id (fun e => ⟨_, e, Nat.le_refl _⟩)); obtain ⟨a3, k3, hv3, hL3, _⟩ := Lt.row h1; rw [show (T ++ [t]).length = T.length + 1 by simp] at hv3; subst hv3; have HL3 : Hid (Lt w3 a3 (T ++ [t])) := hL3; clear h1 h2 h3 h4 hL3)
    | (at_builtin; refine app_toks (by rfl) _ _ (by rfl) nilS (.slice pl T.length cl) [] T (by rfl) (rt_nil _ _) (by rfl) (HD.out _ H1.out.bel).rt (by simp; omega) ?_; intro v2 w2 h1 h2 h3; have H2 : Hid (Q3 W t T v2 w2) := H1.out.grow (Below.refl _ _) h1 h2 h3; obtain ⟨p2, k2, hv2, _⟩ := h1.shape; rw [List.nil_append] at hv2; subst hv2; have m0 : w2.cell? ⟨W.heap.size, 0, none⟩ = _ := blk_cell H2.out.tk rfl; have m1 : w2.cell? ⟨W.heap.size, 1, none⟩ = _ := blk_cell H2.out.tk rfl; have m2 : w2.cell? ⟨W.heap.size, 2, none⟩ = _ := blk_cell H2.out.tk rfl; have m3 : w2.cell? ⟨W.heap.size, 3, none⟩ = _ := blk_cell H2.out.tk rfl; have m4 : w2.cell? ⟨W.heap.size, 4, none⟩ = _ := blk_cell H2.out.tk rfl; have m5 : w2.cell? ⟨W.heap.size, 5, none⟩ = _ := blk_cell H2.out.tk rfl; have hl2 : W.heap.size < w2.heap.size := blk_lt H2.out.tk; clear h1 h2 h3))
  refine (HRD.out _ _ _ HL3.out).mono ?_
  rintro r w4 ⟨rfl, er, lr, hrd⟩
  obtain rfl := HR.out _ _ hrd.res
  have hb4 : Below W.heap.size W w4 := H3.out.bel.trans (hrd.bel.mono H3.out.bel.size)
  have HB4 : Hid (Below W.heap.size W w4) := hb4
  have x7 := hrd.c7
  have xl := hrd.gl
  have y2 : w4.cell? ⟨g, 2, none⟩ = some (.int .i64 0) := blk_cell (HD.out _ hb4).fb rfl
  have f2 := (HD.out _ hb4).fb.frozen 2
  have hg4 : g < w4.heap.size := (HD.out _ hb4).fb.lt
  have hne : ¬ w3.heap.size = g := by have := H3.out.bel.size; omega
  have hne' : ¬ g = w3.heap.size := fun e => hne e.symm
  clear hrd hb4 HRD HC
  rcases hcd with rfl | rfl
  · go_wp2_with fail
    go_quiet (fail)
    go_wp2_with fail
    refine bodyPost_ret (v := .tuple #[nilS, .int .i64 120]) (by simp [results, Tryz.f15, go_sem]) rfl ?_
    exact ⟨rfl, (HX.out _ HB4.out).below (below_dn (Below.refl _ _) _)⟩
  · go_wp2_with fail
    go_quiet (fail)
    go_wp2_with fail
    refine bodyPost_ret (v := .tuple #[nilS, .int .i64 122]) (by simp [results, Tryz.f15, go_sem]) rfl ?_
    exact ⟨rfl, (HX.out _ HB4.out).below (below_dn (Below.refl _ _) _)⟩

end Go.Proofs.YtkglkhijngpgiaaGreat
