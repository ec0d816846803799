import Derived.Test.YtkglkhijngpgiaaGreatZs
set_option linter.unusedVariables false
set_option linter.unusedSimpArgs false
namespace Go.Proofs.YtkglkhijngpgiaaGreat
open Go.RowKit

abbrev tokB (t : Tv) : Obj := .cells #[.int .u8 t.k, .string t.t, .int .i64 t.a, .int .i64 t.l, .int .i64 t.c, .int .i64 t.f] 35
set_option maxHeartbeats 1000000 in
theorem rput_off {U : Nat → Prop} {W : World} {g : Nat} {T : List Tv} {now : List (Int × Nat)} {e : Int} {c : Bool} {vL vN : Value} (h : DP U W g T now e c vL vN) (t : Tv) (hc : c = true ∨ e ≠ 0) :
    Calls Tryz.prog 15 #[pt g, t.v] W fun r w' => r = .returned (.tuple #[nilS, .int .i64 (if c then 4 else e)]) ∧ DA U g W w' nilS [] T now e c := by
  obtain ⟨c0, c1, c2, c3⟩ := h.fb.cells
  have hgl := h.fb.lt
  have HX : Hid (∀ o m, DA U g W ((W.alloc o).drewN m) nilS [] T now e c) := fun o m => da_nil (h.below (below_dn (below_new _ _) m)) (Kp.of_below (below_dn (below_new _ _) m))
  clear h
  dsimp only [Tv.v]
  cases c with
  | true =>
    go_enter Tryz.func15, Tryz.ntmps15
    go_wp2_with fail
    refine bodyPost_ret (v := .tuple #[nilS, .int .i64 4]) (by simp [results, Tryz.f15, go_sem]) rfl ?_
    exact ⟨rfl, HX.out _ 0⟩
  | false =>
    have he : e ≠ 0 := hc.resolve_left (by decide)
    have q1 : (e != 0) = true := by simpa using he
    go_enter Tryz.func15, Tryz.ntmps15
    go_wp2_with fail
    go_quiet (fail)
    go_wp2_with fail
    refine bodyPost_ret (v := .tuple #[nilS, .int .i64 e]) (by simp [results, Tryz.f15, go_sem]) rfl ?_
    exact ⟨rfl, HX.out _ _⟩
set_option maxHeartbeats 1000000 in
theorem rput_note {U : Nat → Prop} {W : World} {g : Nat} {T : List Tv} {now : List (Int × Nat)} {vL vN : Value} (h : DP U W g T now 0 false vL vN) (hU : ∀ k, U k → k < W.heap.size) (hl : now.length ≤ 100000) (t : Tv) (ht : (t.k == 7 || t.k == 8) = true) :
    Calls Tryz.prog 15 #[pt g, t.v] W fun r w' => ∃ v, r = .returned (.tuple #[v, .int .i64 0]) ∧ DA U g W w' v (begV now ++ [⟨4, 0, t⟩]) T (begP now) 0 false := by
  obtain ⟨c0, c1, c2, c3⟩ := h.fb.cells
  have hgl := h.fb.lt
  have HC : Hid (∀ V, Calls Tryz.prog 24 #[.agg #[.int .u8 t.k, .string t.t, .int .i64 t.a, .int .i64 t.l, .int .i64 t.c, .int .i64 t.f]] V fun r w' => r = .returned (.bool true) ∧ Below V.heap.size V w') := fun V => by
    have := rcomment_any t V
    rw [ht] at this
    exact this
  have HBG : Hid (∀ V, Below W.heap.size W V → Calls Tryz.prog 25 #[pt g] V fun r w' => ∃ v, r = .returned v ∧ DA U g W w' v (begV now) T (begP now) 0 false ∧ Kp (fun k => k = g) V w') := fun V hb => by
    refine (begin_any (h.below hb) (fun k hk => Nat.lt_of_lt_of_le (hU k hk) hb.size) hl).mono ?_
    rintro r w' ⟨v, rfl, hd⟩
    exact ⟨v, rfl, hd.fresh hb, hd.kp⟩
  have HK : Hid (∀ k, U k → k < W.heap.size) := hU
  clear h hU
  dsimp only [Tv.v]
  go_enter Tryz.func15, Tryz.ntmps15
  go_wp2_with fail
  refine (HC.out _).mono ?_
  rintro r w1 ⟨rfl, hb1⟩
  have hb1' : Below W.heap.size W w1 := (below_new W (tokB t)).trans (hb1.mono (below_new W (tokB t)).size)
  have HT : Hid (w1.heap[W.heap.size]? = some (tokB t)) := blk_below (new_at W (tokB t)) hb1
  go_wp2_with fail
  refine (HBG.out _ hb1').mono ?_
  rintro r w2 ⟨v, rfl, hd, hk2⟩
  have hgn : ¬ W.heap.size = g := by omega
  have hn2 : w2.heap[W.heap.size]? = some (tokB t) := hk2.blk HT.out hgn
  have H2 : Hid (DA U g W w2 v (begV now) T (begP now) 0 false) := hd
  obtain ⟨pv, cv, hv, _⟩ := hd.re.shape
  have hel : (begV now).length ≤ 1 := by unfold begV; split <;> simp
  subst hv
  have m0 : w2.cell? ⟨W.heap.size, 0, none⟩ = _ := blk_cell hn2 rfl
  have m1 : w2.cell? ⟨W.heap.size, 1, none⟩ = _ := blk_cell hn2 rfl
  have m2 : w2.cell? ⟨W.heap.size, 2, none⟩ = _ := blk_cell hn2 rfl
  have m3 : w2.cell? ⟨W.heap.size, 3, none⟩ = _ := blk_cell hn2 rfl
  have m4 : w2.cell? ⟨W.heap.size, 4, none⟩ = _ := blk_cell hn2 rfl
  have m5 : w2.cell? ⟨W.heap.size, 5, none⟩ = _ := blk_cell hn2 rfl
  have hgl2 : W.heap.size < w2.heap.size := blk_lt hn2
  have HN : Hid (∀ V1 w3 v', Below w2.heap.size w2 V1 → Re w3 v' (begV now ++ [⟨4, 0, t⟩]) → V1.grownBy w3 (Value.slice pv (begV now).length cv).ownBlock → Nb V1 (.slice pv (begV now).length cv) v' → DA U g W w3 v' (begV now ++ [⟨4, 0, t⟩]) T (begP now) 0 false) := fun V1 w3 v' hb h1 h2 h3 => H2.out.push HK.out hb h1 ((Kp.of_grown h2).sub (fun k e => e.symm)) h3
  have HRE : Hid (∀ V, Below w2.heap.size w2 V → Re V (.slice pv (begV now).length cv) (begV now)) := fun V hb => H2.out.re.below hb
  clear hd hk2 hb1 hb1' hn2 HBG HC
  go_wp2_with (at_builtin; refine app_ev (by rfl) _ _ (by rfl) (.slice pv (begV now).length cv) (begV now) ⟨4, 0, t⟩ (by rfl) (HRE.out _ (below_new _ _)) w2.heap.size 1 (by rfl) (new_at _ _) (by omega) ?_; intro v' w3 h1 h2 h3; have H3 := show Hid _ from HN.out _ _ _ (below_new _ _) h1 h2 h3; clear h1 h2 h3)
  refine bodyPost_ret (v := .tuple #[v', .int .i64 0]) (by simp [results, Tryz.f15, go_sem]) rfl ?_
  exact ⟨_, rfl, H3.out⟩

end Go.Proofs.YtkglkhijngpgiaaGreat
