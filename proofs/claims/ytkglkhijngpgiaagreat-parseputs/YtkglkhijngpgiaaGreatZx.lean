import Derived.Test.YtkglkhijngpgiaaGreatZw
set_option linter.unusedVariables false
set_option linter.unusedSimpArgs false
namespace Go.Proofs.YtkglkhijngpgiaaGreat
open Go.RowKit

/-! The document's Close. -/
theorem DP.set {U : Nat → Prop} {V : World} {g : Nat} {T : List Tv} {now : List (Int × Nat)} {e : Int} {c : Bool} {vL vN : Value} (h : DP U V g T now e c vL vN) (k : Nat) (u : Value) {e' : Int} {c' : Bool} (hf : FB (V.setCell ⟨g, k, none⟩ u) g vL vN e' c') : DP U (V.setCell ⟨g, k, none⟩ u) g T now e' c' vL vN := by
  have hk := Kp.set V g k u
  exact ⟨hf, h.rt.kp hk (h.rt.ne h.fb (by decide)), h.rp.kp hk (h.rp.ne h.fb (by decide)), h.ug, h.ul, h.un⟩
set_option maxHeartbeats 1000000 in
theorem rclose_off {U : Nat → Prop} {W : World} {g : Nat} {T : List Tv} {now : List (Int × Nat)} {e : Int} {c : Bool} {vL vN : Value} (h : DP U W g T now e c vL vN) (hc : c = true ∨ e ≠ 0) :
    Calls Tryz.prog 19 #[pt g] W fun r w' => r = .returned (.tuple #[nilS, .int .i64 (if c then 4 else e)]) ∧ DA U g W w' nilS [] T now e true := by
  obtain ⟨c0, c1, c2, c3⟩ := h.fb.cells
  have hgl := h.fb.lt
  have hf3 := h.fb.frozen 3
  cases c with
  | true =>
    have HX : Hid (DA U g W W nilS [] T now e true) := da_nil h (Kp.refl _ _)
    clear h
    go_enter Tryz.func19, Tryz.ntmps19
    go_wp2_with fail
    refine bodyPost_ret (v := .tuple #[nilS, .int .i64 4]) (by simp [results, Tryz.f19, go_sem]) rfl ?_
    exact ⟨rfl, HX.out⟩
  | false =>
    have HX : Hid (∀ m, DA U g W ((W.setCell ⟨g, 3, none⟩ (.bool true)).drewN m) nilS [] T now e true) := fun m => (da_nil (h.set 3 _ (blk_set h.fb 3 (.bool true))) (Kp.set _ _ _ _)).below (below_dn (Below.refl _ _) m)
    have he : e ≠ 0 := hc.resolve_left (by decide)
    have q1 : (e != 0) = true := by simpa using he
    clear h
    go_enter Tryz.func19, Tryz.ntmps19
    go_wp2_with fail
    go_quiet (fail)
    go_wp2_with fail
    refine bodyPost_ret (v := .tuple #[nilS, .int .i64 e]) (by simp [results, Tryz.f19, go_sem]) rfl ?_
    exact ⟨rfl, HX.out _⟩
theorem btw_nil (a : List (Int × Nat)) : btw a [] = a.reverse.map clE := by
  have : cpl a [] = 0 := by cases a <;> rfl
  unfold btw
  rw [this]
  simp
set_option maxRecDepth 100000 in
set_option maxHeartbeats 2000000 in
theorem rclose_on {U : Nat → Prop} {W : World} {g : Nat} {T : List Tv} {now : List (Int × Nat)} {vL vN : Value} (h : DP U W g T now 0 false vL vN) (hU : ∀ k, U k → k < W.heap.size) (hT : T.length ≤ 100000) (hl : now.length ≤ 100000) (cd : Int) (hcd : cd = 0 ∨ cd = 121) (hR : ∀ e l, Res T e l → e = cd) :
    Calls Tryz.prog 19 #[pt g] W fun r w' => ∃ v, r = .returned (.tuple #[v, .int .i64 cd]) ∧ DA U g W w' v (if cd = 0 then now.reverse.map clE else []) T now cd true := by
  obtain ⟨c0, c1, c2, c3⟩ := h.fb.cells
  have hgl := h.fb.lt
  have hf3 := h.fb.frozen 3
  obtain ⟨aL, kL, hvL, hLt, _⟩ := Lt.row h.rt
  subst hvL
  have k1 := Kp.set W g 3 (.bool true)
  have hd1 : DP U (W.setCell ⟨g, 3, none⟩ (.bool true)) g T now 0 true (.slice aL T.length kL) vN := h.set 3 _ (blk_set h.fb 3 (.bool true))
  obtain ⟨aL', kL', hvL', hLt', _⟩ := Lt.row hd1.rt
  cases hvL'
  obtain ⟨W1, eW⟩ : ∃ W1, W.setCell ⟨g, 3, none⟩ (.bool true) = W1 := ⟨_, rfl⟩
  have hs1 : W1.heap.size = W.heap.size := by rw [← eW]; exact World.size_setCell _ _ _
  rw [eW] at hd1 k1 hLt'
  have HRD : Hid (Calls Tryz.prog 26 #[.slice aL T.length kL, .bool false] W1 fun e w' => e = .returned (pt W1.heap.size) ∧ ∃ e l, RdO W1 w' W1.heap.size T e l) := read_doc aL kL T W1 hLt' (by omega)
  have HD : Hid (∀ V, Below W1.heap.size W1 V → DP U V g T now 0 true (.slice aL T.length kL) vN ∧ Kp (fun k => k = g) W V) := fun V hb => ⟨hd1.below hb, k1.step (Kp.of_below (S := fun _ => False) hb) (fun _ _ h => h.elim)⟩
  have HR : Hid (∀ e l, Res T e l → e = cd) := hR
  have HW : Hid (W.setCell ⟨g, 3, none⟩ (.bool true) = W1) := eW
  have d0 : W1.cell? ⟨g, 0, none⟩ = some (.slice aL T.length kL) := blk_cell hd1.fb rfl
  have HUU : Hid (∀ k, U k → k < W.heap.size) := hU
  clear h hR hLt hLt' hU eW hd1 k1
  go_enter Tryz.func19, Tryz.ntmps19
  go_wp2_with fail
  rw [HW.out]
  refine HRD.out.mono ?_
  rintro r w4 ⟨rfl, er, lr, hrd⟩
  obtain rfl := HR.out _ _ hrd.res
  have x7 := hrd.c7
  have xl := hrd.gl
  have HB4 : Hid (Below W1.heap.size W1 w4) := hrd.bel
  obtain ⟨hd4, hk4⟩ := HD.out _ hrd.bel
  have HD4 : Hid (DP U w4 g T now 0 true (.slice aL T.length kL) vN ∧ Kp (fun k => k = g) W w4) := ⟨hd4, hk4⟩
  have y1 : w4.cell? ⟨g, 1, none⟩ = some vN := blk_cell hd4.fb rfl
  have y2 : w4.cell? ⟨g, 2, none⟩ = some (.int .i64 0) := blk_cell hd4.fb rfl
  have f2 := hd4.fb.frozen 2
  have hg4 : g < w4.heap.size := hd4.fb.lt
  have hne : ¬ W1.heap.size = g := by omega
  have hne' : ¬ g = W1.heap.size := fun e => hne e.symm
  rw [hs1] at x7 xl hne hne'
  obtain ⟨pN, cN, hvN, _⟩ := hd4.rp.shape
  subst hvN
  have HBT : Hid (Calls Tryz.prog 27 #[.slice pN now.length cN, nilS] w4 fun e w' => ∃ v, e = .returned v ∧ Re w' v (btw now []) ∧ Below w4.heap.size w4 w' ∧ (∀ k, v.ownBlock = some k → w4.heap.size ≤ k)) := between_any _ _ now [] _ hd4.rp (rp_nil _) hl (by simp)
  clear hrd hd4 hk4 HRD
  rcases hcd with rfl | rfl
  · go_wp2_with fail
    refine HBT.out.mono ?_
    rintro r w5 ⟨vB, rfl, hre, hb5, hvb⟩
    have HX : Hid (DA U g W w5 vB (now.reverse.map clE) T now 0 true) := by
      have hd5 := HD4.out.1.below hb5
      have hk5 := HD4.out.2.step (Kp.of_below (S := fun _ => False) hb5) (fun _ _ h => h.elim)
      rw [btw_nil] at hre
      have hsz := HD4.out.2.size
      exact ⟨hre, ⟨U, _, _, hd5, fun _ h => h, fun _ h => .inl h, fun k e => ⟨Nat.le_trans hsz (hvb k e), fun hu => by have := HUU.out k hu; have := hvb k e; omega⟩⟩, hk5⟩
    clear hre hb5 hvb
    go_wp2_with fail
    refine bodyPost_ret (v := .tuple #[vB, .int .i64 0]) (by simp [results, Tryz.f19, go_sem]) rfl ?_
    refine ⟨_, rfl, ?_⟩
    rw [← List.map_reverse]
    exact HX.out
  · have HX : Hid (∀ m, DA U g W ((w4.setCell ⟨g, 2, none⟩ (.int .i64 121)).drewN m) nilS [] T now 121 true) := fun m => (da_nil (HD4.out.1.set 2 _ (blk_set HD4.out.1.fb 2 (.int .i64 121))) (HD4.out.2.trans (Kp.set _ _ _ _))).below (below_dn (Below.refl _ _) m)
    go_wp2_with fail
    go_quiet (fail)
    go_wp2_with fail
    refine bodyPost_ret (v := .tuple #[nilS, .int .i64 121]) (by simp [results, Tryz.f19, go_sem]) rfl ?_
    exact ⟨_, rfl, HX.out _⟩

end Go.Proofs.YtkglkhijngpgiaaGreat
