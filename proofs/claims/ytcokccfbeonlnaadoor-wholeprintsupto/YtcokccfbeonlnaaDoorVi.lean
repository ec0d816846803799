import Derived.Test.YtcokccfbeonlnaaDoorVh
set_option linter.unusedVariables false
set_option linter.unusedSimpArgs false
namespace Go.Proofs.YtcokccfbeonlnaaDoor
open Go.RowKit

set_option maxHeartbeats 1000000 in
theorem prn_empty {B g N : Nat} {W : World} {p : Pr} (h : Pg B W g N p) (hB : B ≤ W.heap.size) (ho : p.sk.out.length ≤ 1000000000) (wide : Int) (need : Nat) :
    Calls Tryd.prog 28 #[.pointer (some ⟨g, 0, none⟩), .agg #[.int .u8 5, .string bE, .int .i64 0, .int .i64 0, .bool false], .int .i64 wide] W fun e w' => e = .returned (.tuple #[]) ∧ Pg B w' g N (put N ⟨5, bE, 0, 0, false⟩ need p) ∧ Below B W w' := by
  have e : put N ⟨5, bE, 0, 0, false⟩ need p = if p.en then { p with sk := p.sk.empty, en := false } else p := by simp [put]
  rw [e]
  obtain ⟨vo, vb, sm, em, h⟩ := h
  have hen := h.en
  have hb1 : ∀ o, Below W.heap.size W (W.alloc o) := fun o => (Below.refl _ _).alloc (Nat.le_refl _) _
  have HP : Hid (∀ o, PG B (W.alloc o) g N p vo vb sm em ∧ Below B W (W.alloc o)) := fun o => ⟨h.below (hb1 o), (hb1 o).mono hB⟩
  have HC : Hid (∀ o, (W.alloc o).cell? ⟨g, 1, none⟩ = some vo ∧ (W.alloc o).cell? ⟨g, 3, none⟩ = some (.bool p.sk.fresh) ∧ (W.alloc o).cell? ⟨g, 5, none⟩ = some (.bool sm) ∧ (W.alloc o).cell? ⟨g, 6, none⟩ = some (.bool em)) := fun o => by
    obtain ⟨c0, c1, c2, c3, c4, c5, c6, c7⟩ := (h.below (hb1 o)).cells
    exact ⟨c1, c3, c5, c6⟩
  obtain ⟨d1, d3, d5, d6⟩ := HC.out (.cells #[.int .u8 5, .string bE, .int .i64 0, .int .i64 0, .bool false] 26)
  by_cases hc : p.en = true
  · rw [if_pos hc]
    rw [hc] at hen
    have hx : p.sk.fresh = true ∧ sm = true ∧ em = false := by
      have h2 : (p.sk.fresh && sm && !em) = true := hen.symm
      simp only [Bool.and_eq_true, Bool.not_eq_true'] at h2
      exact ⟨h2.1.1, h2.1.2, h2.2⟩
    obtain ⟨hf, rfl, rfl⟩ := hx
    rw [hf] at d3
    obtain ⟨pv, cv, ev, _, _⟩ := h.out.shape
    subst ev
    have HR : Hid (∀ o o', RP B W ((W.alloc o).alloc o') g N (p.at : Nat) (hld p : Nat) true true false (.slice pv p.sk.out.length cv) vb p.sk.out (p.ar.length + 1) (pbs (p.ar.reverse ++ [p.bl]))) := fun o o' => by
      have h1 := h.rp hB
      rw [hf] at h1
      exact (h1.below (hb1 o)).below ((Below.refl _ _).alloc (Nat.le_refl _) _)
    have HFIN : Hid (∀ V v, RP B W V g N (p.at : Nat) (hld p : Nat) true true true v vb (p.sk.out ++ [10]) (p.ar.length + 1) (pbs (p.ar.reverse ++ [p.bl])) → Pg B V g N { p with sk := p.sk.empty, en := false } ∧ Below B W V) := by
      intro V v hv
      have hw := h.wt hf
      have hse : p.sk.empty = ⟨true, p.sk.col, 0, p.sk.out ++ [10]⟩ := by
        unfold St6.empty; rw [if_pos hf]; rfl
      have e1 : ({ p with sk := p.sk.empty, en := false } : Pr).at = p.at := by
        unfold Pr.at; show p.sk.empty.col + p.sk.empty.wait = _; rw [hse, hw]
      have e2 : hld ({ p with sk := p.sk.empty, en := false } : Pr) = hld p := by
        unfold hld; show (if p.sk.empty.fresh then p.sk.empty.col else p.sk.empty.wait) = _; rw [hse, hf]; rfl
      have e3 : ({ p with sk := p.sk.empty, en := false } : Pr).sk.fresh = true := by show p.sk.empty.fresh = true; rw [hse]
      refine ⟨⟨v, vb, true, true, ?_, ?_, hv.row, ?_, fun _ => rfl, ?_, h.gB⟩, hv.bel⟩
      · rw [e1, e2, e3]; exact hv.blk
      · show Br B V v p.sk.empty.out
        rw [hse]; exact hv.out
      · show false = (p.sk.empty.fresh && true && !true)
        simp
      · intro _; show p.sk.empty.wait = 0; rw [hse]
    clear h e hb1 HP HC hen
    go_enter Tryd.func28, Tryd.ntmps28
    go_wp2_with (first | (at_builtin; refine app_bytes rfl _ _ rfl B _ p.sk.out [10] rfl (HR.out _ _).out (W.heap.size + 1) 1 1 rfl rfl (heap_new2 W _ _) (by simp; omega) (HR.out _ _).hB ?_; intro v' w1 hr1 hb1; obtain ⟨HP, y1, fy1⟩ := (HR.out _ _).app hr1 hb1; obtain ⟨pv', cv', ev', _, _⟩ := hr1.shape; simp only [List.length_append, List.length_cons, List.length_nil, Nat.zero_add] at ev'; subst ev'; have y6 := HP.cells.2.2.2.2.2.2.1; have f6 := HP.fz 6; have HE := HFIN.out _ _ (HP.set6 true); have HEH : Hid (Pg B ((w1.setCell ⟨g, 1, none⟩ (.slice pv' (p.sk.out.length + 1) cv')).setCell ⟨g, 6, none⟩ (.bool true)) g N { p with sk := p.sk.empty, en := false } ∧ Below B W ((w1.setCell ⟨g, 1, none⟩ (.slice pv' (p.sk.out.length + 1) cv')).setCell ⟨g, 6, none⟩ (.bool true))) := HE; clear HE HP hr1 hb1))
    go_end0
    exact ⟨rfl, HEH.out⟩
  · rw [if_neg hc]
    have hc' : (p.sk.fresh && sm && !em) = false := by rw [← hen]; simpa using hc
    have HE : Hid (∀ o, Pg B (W.alloc o) g N p ∧ Below B W (W.alloc o)) := fun o => ⟨⟨_, _, _, _, (HP.out o).1⟩, (HP.out o).2⟩
    generalize p.sk.fresh = fr at *
    clear h e hb1 HP HC hen hc
    cases fr <;> cases sm <;> cases em <;> first | (exfalso; simp at hc'; done) | skip
    all_goals
      clear hc'
      go_enter Tryd.func28, Tryd.ntmps28
      go_wp2_with fail
      go_end0
      exact ⟨rfl, HE.out _⟩
end Go.Proofs.YtcokccfbeonlnaaDoor
