import Derived.Test.YtkglkhijngpgiaaGreatZv
set_option linter.unusedVariables false
set_option linter.unusedSimpArgs false
namespace Go.Proofs.YtkglkhijngpgiaaGreat
open Go.RowKit

set_option maxRecDepth 100000 in
set_option maxHeartbeats 2000000 in
theorem rput_ok {U : Nat → Prop} {W : World} {g : Nat} {T : List Tv} {now : List (Int × Nat)} {vL vN : Value} (h : DP U W g T now 0 false vL vN) (hT : T.length ≤ 100000) (t : Tv) (ht : (t.k == 7 || t.k == 8) = false) (hU : ∀ k, U k → k < W.heap.size) (hl : now.length ≤ 100000) (p2 : List (Int × Nat)) (hp2 : p2.length ≤ 100000) (hR : ∀ e l, Res (T ++ [t]) e l → (e = 0 ∨ e = 121) ∧ l = p2) :
    Calls Tryz.prog 15 #[pt g, t.v] W fun r w' => ∃ v, r = .returned (.tuple #[v, .int .i64 0]) ∧ DA U g W w' v ((begV now ++ btw (begP now) p2) ++ [⟨2, 0, t⟩]) (T ++ [t]) p2 0 false := by
  obtain ⟨c0, c1, c2, c3⟩ := h.fb.cells
  have hgl := h.fb.lt
  obtain ⟨pl, cl, hvL, _⟩ := h.rt.shape
  subst hvL
  have HC : Hid (∀ V, Calls Tryz.prog 24 #[.agg #[.int .u8 t.k, .string t.t, .int .i64 t.a, .int .i64 t.l, .int .i64 t.c, .int .i64 t.f]] V fun r w' => r = .returned (.bool false) ∧ Below V.heap.size V w') := fun V => by
    have := rcomment_any t V
    rw [ht] at this
    exact this
  have HD : Hid (∀ V, Below W.heap.size W V → DP U V g T now 0 false (.slice pl T.length cl) vN) := fun V hb => h.below hb
  have HBG : Hid (∀ V, Below W.heap.size W V → Calls Tryz.prog 25 #[pt g] V fun r w' => ∃ v, r = .returned v ∧ DA U g W w' v (begV now) T (begP now) 0 false ∧ Kp (fun k => k = g) V w') := fun V hb => by
    refine (begin_any (h.below hb) (fun k hk => Nat.lt_of_lt_of_le (hU k hk) hb.size) hl).mono ?_
    rintro r w' ⟨v, rfl, hd⟩
    exact ⟨v, rfl, hd.fresh hb, hd.kp⟩
  have HUU : Hid (∀ k, U k → k < W.heap.size) := hU
  have HR : Hid (∀ e l, Res (T ++ [t]) e l → (e = 0 ∨ e = 121) ∧ l = p2) := hR
  have HRD : Hid (∀ V ao cap, Lt V ao (T ++ [t]) → Calls Tryz.prog 26 #[.slice ao (T.length + 1) cap, .bool false] V fun e w' => e = .returned (pt V.heap.size) ∧ ∃ e l, RdO V w' V.heap.size (T ++ [t]) e l) := fun V ao cap hL => by
    have := read_doc ao cap (T ++ [t]) V hL (by simp; omega)
    rw [show (T ++ [t]).length = T.length + 1 by simp] at this
    exact this
  clear h hR hU
  dsimp only [Tv.v]
  go_enter Tryz.func15, Tryz.ntmps15
  go_wp2_with fail
  refine (HC.out _).mono ?_
  rintro r w1 ⟨rfl, hb1⟩
  have hb1' : Below W.heap.size W w1 := (below_new W (tokB t)).trans (hb1.mono (below_new W (tokB t)).size)
  have H1 : Hid (Q3 W t [] nilS w1) := ⟨hb1', rt_nil _ _, (fun k e => by cases e), blk_below (new_at W (tokB t)) hb1⟩
  have d0 : w1.cell? ⟨g, 0, none⟩ = some (.slice pl T.length cl) := blk_cell (HD.out _ hb1').fb rfl
  have hg1 : g < w1.heap.size := (HD.out _ hb1').fb.lt
  have hgn : ¬ W.heap.size = g := by omega
  clear hb1 hb1'
  go_wp2_with (first
    | (at_builtin; have hg := H2; clear hg; refine app_tok (by rfl) _ _ (by rfl) 0 (.slice p2 T.length k2) T t (by rfl) (H2.out.rt.below (below_new _ _)) w2.heap.size 1 (by rfl) (new_at _ _) (by omega) (Nat.zero_le _) ?_; intro v3 w3 h1 h2 h3 h4; have H3 : Hid (Q3 W t (T ++ [t]) v3 w3) := H2.out.grow (below_new _ _) h1 ((Kp.of_grown h3).sub (fun k e => e.symm)) (h4.imp id (fun e => ⟨_, e, Nat.le_refl _⟩)); obtain ⟨a3, k3, hv3, hL3, _⟩ := Lt.row h1; rw [show (T ++ [t]).length = T.length + 1 by simp] at hv3; subst hv3; have HL3 : Hid (Lt w3 a3 (T ++ [t])) := hL3; clear h1 h2 h3 h4 hL3)
    | (at_builtin; refine app_toks (by rfl) _ _ (by rfl) nilS (.slice pl T.length cl) [] T (by rfl) (rt_nil _ _) (by rfl) (HD.out _ H1.out.bel).rt (by simp; omega) ?_; intro v2 w2 h1 h2 h3; have H2 : Hid (Q3 W t T v2 w2) := H1.out.grow (Below.refl _ _) h1 h2 h3; obtain ⟨p2, k2, hv2, _⟩ := h1.shape; rw [List.nil_append] at hv2; subst hv2; have m0 : w2.cell? ⟨W.heap.size, 0, none⟩ = _ := blk_cell H2.out.tk rfl; have m1 : w2.cell? ⟨W.heap.size, 1, none⟩ = _ := blk_cell H2.out.tk rfl; have m2 : w2.cell? ⟨W.heap.size, 2, none⟩ = _ := blk_cell H2.out.tk rfl; have m3 : w2.cell? ⟨W.heap.size, 3, none⟩ = _ := blk_cell H2.out.tk rfl; have m4 : w2.cell? ⟨W.heap.size, 4, none⟩ = _ := blk_cell H2.out.tk rfl; have m5 : w2.cell? ⟨W.heap.size, 5, none⟩ = _ := blk_cell H2.out.tk rfl; have hl2 : W.heap.size < w2.heap.size := blk_lt H2.out.tk; clear h1 h2 h3))
  refine (HRD.out _ _ _ HL3.out).mono ?_
  rintro r w4 ⟨rfl, er, lr, hrd⟩
  obtain ⟨hE, hlr⟩ := HR.out _ _ hrd.res
  subst hlr
  have hb4 : Below W.heap.size W w4 := H3.out.bel.trans (hrd.bel.mono H3.out.bel.size)
  have H4 : Hid (Q3 W t (T ++ [t]) (.slice a3 (T.length + 1) k3) w4) := H3.out.below hrd.bel
  have x7 := hrd.c7
  have xl := hrd.gl
  obtain ⟨vl, x6, hrp4, hvl⟩ := hrd.c6
  obtain ⟨pl6, cl6, hvl6, _⟩ := hrp4.shape
  subst hvl6
  have hws : W.heap.size < w3.heap.size := blk_lt H3.out.tk
  have HRP4 : Hid (Rp w4 (.slice pl6 lr.length cl6) lr ∧ (∀ k, (Value.slice pl6 lr.length cl6).ownBlock = some k → W.heap.size < k)) := ⟨hrp4, fun k e => Nat.lt_of_lt_of_le hws (hvl k e)⟩
  have hne : ¬ w3.heap.size = g := by omega
  have HB4 : Hid (Below W.heap.size W w4) := hb4
  have HX6 : Hid (∀ V, Kp (fun k => k = g) w4 V → V.cell? ⟨w3.heap.size, 6, none⟩ = some (.slice pl6 lr.length cl6)) := fun V hk => (World.cell?_of_block (a := ⟨w3.heap.size, 6, none⟩) (hk.block _ xl hne)).trans x6
  obtain ⟨gr, hgr⟩ : ∃ gr, w3.heap.size = gr := ⟨_, rfl⟩
  rw [hgr] at x7 x6 xl hne HX6 ⊢
  clear hrd hb4 HRD HC hrp4 hvl hws HL3 H2 H1 m0 m1 m2 m3 m4 m5 hgr hl2
  have q7 : (er == 120 || er == 122) = false := by rcases hE with rfl | rfl <;> rfl
  have q8 : (er == 120) = false := by rcases hE with rfl | rfl <;> rfl
  have q9 : (er == 122) = false := by rcases hE with rfl | rfl <;> rfl
  clear hE
  go_wp2_with fail
  refine (HBG.out _ HB4.out).mono ?_
  rintro r w5 ⟨vo, rfl, hd5, hk5⟩
  obtain ⟨U1, vL1, vN1, hx5⟩ := hd5.dx
  have H5 : Hid (DX U g W w5 vo (begV now) T (begP now) 0 false U1 vL1 vN1) := hx5
  obtain ⟨po, co, hvo, _⟩ := hx5.re.shape
  obtain ⟨pL1, cL1, hvL1, _⟩ := hx5.dp.rt.shape
  obtain ⟨pN1, cN1, hvN1, _⟩ := hx5.dp.rp.shape
  subst hvo hvL1 hvN1
  have z6 := HX6.out _ hk5
  have z0 : w5.cell? ⟨g, 0, none⟩ = some (.slice pL1 T.length cL1) := blk_cell hx5.dp.fb rfl
  have z1 : w5.cell? ⟨g, 1, none⟩ = some (.slice pN1 (begP now).length cN1) := blk_cell hx5.dp.fb rfl
  have y0 := hx5.dp.fb.frozen 0
  have y1 := hx5.dp.fb.frozen 1
  have yg : g < w5.heap.size := hx5.dp.fb.lt
  have ygr : gr < w5.heap.size := Nat.lt_of_lt_of_le xl hk5.size
  have rt5 : Rt 0 w5 (.slice a3 (T.length + 1) k3) (T ++ [t]) := H4.out.rt.kp hk5 (fun k e he => by have := H4.out.vb k e; omega)
  have rp5 : Rp w5 (.slice pl6 lr.length cl6) lr := HRP4.out.1.kp hk5 (fun k e he => by have := HRP4.out.2 k e; omega)
  have tk5 : w5.heap[W.heap.size]? = some (tokB t) := hk5.blk H4.out.tk hgn
  have H6 : Hid (DX U g W (w5.setCell ⟨g, 0, none⟩ (.slice a3 (T.length + 1) k3)) (.slice po (begV now).length co) (begV now) (T ++ [t]) (begP now) 0 false (fun k => U1 k ∨ (Value.slice a3 (T.length + 1) k3).ownBlock = some k) (.slice a3 (T.length + 1) k3) (.slice pN1 (begP now).length cN1)) := hx5.setL rt5 (fun k e => Nat.le_of_lt (H4.out.vb k e))
  have k6 := Kp.set w5 g 0 (.slice a3 (T.length + 1) k3)
  have HS6 : Hid (Rp (w5.setCell ⟨g, 0, none⟩ (.slice a3 (T.length + 1) k3)) (.slice pl6 lr.length cl6) lr ∧ (w5.setCell ⟨g, 0, none⟩ (.slice a3 (T.length + 1) k3)).heap[W.heap.size]? = some (tokB t)) := ⟨rp5.kp k6 (rp5.ne hx5.dp.fb (by decide)), k6.blk tk5 hgn⟩
  have hbp : (begP now).length ≤ 100000 := by
    unfold begP
    split
    · simp
    · exact hl
  have HBT : Hid (Calls Tryz.prog 27 #[.slice pN1 (begP now).length cN1, .slice pl6 lr.length cl6] (w5.setCell ⟨g, 0, none⟩ (.slice a3 (T.length + 1) k3)) fun e w' => ∃ v, e = .returned v ∧ Re w' v (btw (begP now) lr) ∧ Below (w5.setCell ⟨g, 0, none⟩ (.slice a3 (T.length + 1) k3)).heap.size (w5.setCell ⟨g, 0, none⟩ (.slice a3 (T.length + 1) k3)) w' ∧ (∀ k, v.ownBlock = some k → (w5.setCell ⟨g, 0, none⟩ (.slice a3 (T.length + 1) k3)).heap.size ≤ k)) := between_any _ _ (begP now) lr _ H6.out.dp.rp HS6.out.1 hbp hp2
  clear hd5 hk5 hx5 rt5 rp5 tk5 k6 HBG HX6 H5
  go_wp2_with fail
  refine HBT.out.mono ?_
  rintro r w7 ⟨vB, rfl, hre7, hb7, _⟩
  obtain ⟨pB, cB, hvB, _⟩ := hre7.shape
  subst hvB
  have H7 := show Hid _ from H6.out.below hb7
  have HE7 : Hid (Re w7 (.slice pB (btw (begP now) lr).length cB) (btw (begP now) lr)) := hre7
  have HS7 : Hid (Rp w7 (.slice pl6 lr.length cl6) lr ∧ w7.heap[W.heap.size]? = some (tokB t)) := ⟨HS6.out.1.below hb7, blk_below HS6.out.2 hb7⟩
  have hel : (begV now).length ≤ 1 := by unfold begV; split <;> simp
  have hbl : (btw (begP now) lr).length ≤ 200000 := by unfold btw; simp; omega
  clear hre7 hb7 HBT HS6 H6
  go_wp2_with (first
    | (at_builtin; have hg := H8; clear hg; refine app_ev (by rfl) _ _ (by rfl) (.slice p8 ((begV now).length + (btw (begP now) lr).length) c8) (begV now ++ btw (begP now) lr) ⟨2, 0, t⟩ (by rfl) (H8N.out.re.below (below_new _ _)) w8.heap.size 1 (by rfl) (by rw [← World.size_setCell w8 ⟨g, 1, none⟩ (.slice pl6 lr.length cl6)]; exact new_at _ _) (by simp; omega) ?_; intro v9 w9 h1 h2 h3; have H9 := show Hid _ from H8N.out.push HUU.out (below_new _ _) h1 ((Kp.of_grown h2).sub (fun k e => e.symm)) h3; clear h1 h2 h3)
    | (at_builtin; refine app_evs (by rfl) _ _ (by rfl) (.slice po (begV now).length co) (.slice pB (btw (begP now) lr).length cB) (begV now) (btw (begP now) lr) (by rfl) H7.out.re (by rfl) HE7.out (by omega) ?_; intro v8 w8 h1 h2 h3; have H8 := show Hid _ from H7.out.push HUU.out (Below.refl _ _) h1 h2 h3; obtain ⟨p8, c8, hv8, _⟩ := h1.shape; rw [List.length_append] at hv8; subst hv8; have HS8 : Hid (Rp w8 (.slice pl6 lr.length cl6) lr ∧ w8.heap[W.heap.size]? = some (tokB t)) := ⟨HS7.out.1.kp h2 (fun k e e2 => re_rp H7.out.re HS7.out.1 k e2 e), h2.blk HS7.out.2 (fun e => H7.out.re.ne HS7.out.2 (by decide) _ e rfl)⟩; have n1 : w8.cell? ⟨g, 1, none⟩ = some (.slice pN1 (begP now).length cN1) := blk_cell H8.out.dp.fb rfl; have f1 := H8.out.dp.fb.frozen 1; have ng : g < w8.heap.size := H8.out.dp.fb.lt; have nt : W.heap.size < w8.heap.size := blk_lt HS8.out.2; have m0 : w8.cell? ⟨W.heap.size, 0, none⟩ = _ := blk_cell HS8.out.2 rfl; have m1 : w8.cell? ⟨W.heap.size, 1, none⟩ = _ := blk_cell HS8.out.2 rfl; have m2 : w8.cell? ⟨W.heap.size, 2, none⟩ = _ := blk_cell HS8.out.2 rfl; have m3 : w8.cell? ⟨W.heap.size, 3, none⟩ = _ := blk_cell HS8.out.2 rfl; have m4 : w8.cell? ⟨W.heap.size, 4, none⟩ = _ := blk_cell HS8.out.2 rfl; have m5 : w8.cell? ⟨W.heap.size, 5, none⟩ = _ := blk_cell HS8.out.2 rfl; have H8N := show Hid _ from H8.out.setN HS8.out.1 (fun k e => Nat.le_of_lt (HRP4.out.2 k e)); clear h1 h2 h3))
  refine bodyPost_ret (v := .tuple #[v9, .int .i64 0]) (by simp [results, Tryz.f15, go_sem]) rfl ?_
  exact ⟨_, rfl, H9.out.da⟩

end Go.Proofs.YtkglkhijngpgiaaGreat
