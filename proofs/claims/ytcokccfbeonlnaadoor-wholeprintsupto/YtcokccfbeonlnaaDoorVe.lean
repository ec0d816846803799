import Derived.Test.YtcokccfbeonlnaaDoorVb
import Derived.Test.YtcokccfbeonlnaaDoorIb
import Derived.Deep.RegionHeld3
set_option linter.unusedVariables false
set_option linter.unusedSimpArgs false
namespace Go.Proofs.YtcokccfbeonlnaaDoor
open Go.RowKit

/-! The document's page. -/
def pbc (b : Bk) : List Value := [.int .i64 (b.ind : Int), .bool b.ev, .bool b.ft]
def pbs (l : List Bk) : List Value := flat pbc l
theorem bks_len (l : List Bk) : (pbs l).length = l.length * 3 := flat_len pbc 3 (fun _ => rfl) l
theorem bks_app (a b : List Bk) : pbs (a ++ b) = pbs a ++ pbs b := flat_append pbc a b
def hld (p : Pr) : Nat := if p.sk.fresh then p.sk.col else p.sk.wait
structure PG (B : Nat) (W : World) (g N : Nat) (p : Pr) (vo vb : Value) (sm em : Bool) : Prop where
  blk : W.heap[g]? = some (.cells #[.int .i64 (N : Int), vo, .int .i64 (p.at : Nat), .bool p.sk.fresh, .int .i64 (hld p : Nat), .bool sm, .bool em, vb] 63 (0, 0))
  out : Br B W vo p.sk.out
  pbs : W.ownsRow B 98 3 vb (p.ar.length + 1) (pbs (p.ar.reverse ++ [p.bl]))
  en : p.en = (p.sk.fresh && sm && !em)
  som : p.sk.fresh = false → sm = true
  wt : p.sk.fresh = true → p.sk.wait = 0
  gB : B ≤ g
theorem PG.below {B : Nat} {W W' : World} {g N : Nat} {p : Pr} {vo vb : Value} {sm em : Bool} (h : PG B W g N p vo vb sm em) (hb : Below W.heap.size W W') : PG B W' g N p vo vb sm em :=
  ⟨blk_below h.blk hb, h.out.below hb, row_kept h.pbs hb, h.en, h.som, h.wt, h.gB⟩
theorem PG.cells {B : Nat} {W : World} {g N : Nat} {p : Pr} {vo vb : Value} {sm em : Bool} (h : PG B W g N p vo vb sm em) :
    W.cell? ⟨g, 0, none⟩ = some (.int .i64 (N : Int)) ∧ W.cell? ⟨g, 1, none⟩ = some vo ∧ W.cell? ⟨g, 2, none⟩ = some (.int .i64 (p.at : Nat)) ∧ W.cell? ⟨g, 3, none⟩ = some (.bool p.sk.fresh) ∧ W.cell? ⟨g, 4, none⟩ = some (.int .i64 (hld p : Nat)) ∧ W.cell? ⟨g, 5, none⟩ = some (.bool sm) ∧ W.cell? ⟨g, 6, none⟩ = some (.bool em) ∧ W.cell? ⟨g, 7, none⟩ = some vb :=
  ⟨blk_cell h.blk rfl, blk_cell h.blk rfl, blk_cell h.blk rfl, blk_cell h.blk rfl, blk_cell h.blk rfl, blk_cell h.blk rfl, blk_cell h.blk rfl, blk_cell h.blk rfl⟩
theorem rtop {B : Nat} {W : World} {p : Pr} {vb : Value} (hr : W.ownsRow B 98 3 vb (p.ar.length + 1) (pbs (p.ar.reverse ++ [p.bl]))) : ∃ q c, vb = .slice (some ⟨q, 0, none⟩) (p.ar.length + 1) c ∧ p.ar.length + 1 ≤ c ∧ c ≤ 9223372036854775807 ∧
    W.cell? ⟨q, p.ar.length * 3, none⟩ = some (.int .i64 (p.bl.ind : Int)) ∧ W.cell? ⟨q, p.ar.length * 3 + 1, none⟩ = some (.bool p.bl.ev) ∧ W.cell? ⟨q, p.ar.length * 3 + 2, none⟩ = some (.bool p.bl.ft) := by
  have hr0 := hr
  rcases hr.2 with ⟨_, h1⟩ | ⟨q, c, cur, rfl, _, _, h2, h3, _⟩
  · omega
  · have hc : ∀ j, j < 3 → W.cell? ⟨q, p.ar.length * 3 + j, none⟩ = (pbc p.bl)[j]? := by
      intro j hj
      rw [World.ownsRow.cellAt hr0 _ (by omega), bks_app, List.getElem?_append_right (by rw [bks_len, List.length_reverse]; omega), bks_len, List.length_reverse]
      rw [show p.ar.length * 3 + j - p.ar.length * 3 = j by omega]
      simp [pbs, flat]
    exact ⟨q, c, rfl, h2, h3, hc 0 (by omega), hc 1 (by omega), hc 2 (by omega)⟩

set_option maxHeartbeats 1000000 in
theorem pblock_any {B g : Nat} {W : World} {p : Pr} {vb : Value} (c7 : W.cell? ⟨g, 7, none⟩ = some vb) (hr : W.ownsRow B 98 3 vb (p.ar.length + 1) (pbs (p.ar.reverse ++ [p.bl]))) (hl : p.ar.length ≤ 100000000) : Calls Tryd.prog 53 #[.pointer (some ⟨g, 0, none⟩)] W fun e w' => e = .returned (.agg #[.int .i64 (p.bl.ind : Int), .bool p.bl.ev, .bool p.bl.ft]) ∧ Below W.heap.size W w' := by
  obtain ⟨q, c, rfl, h1, h2, d0, d1, d2⟩ := rtop hr
  have bq := World.block_lt_of_cell? _ _ d0
  have bg := World.block_lt_of_cell? _ _ c7
  simp only at bq bg
  generalize p.ar.length = L at *
  generalize p.bl.ind = bi at *
  generalize p.bl.ev = be at *
  generalize p.bl.ft = bf at *
  clear hr
  have q3 : (L : Int) < (L : Int) + 1 := by omega
  have q4 : (0 : Int) ≤ L := by omega
  have n1 := World.new_ne W ⟨q, L * 3, none⟩ d0
  have n2 := World.new_ne W ⟨g, 7, none⟩ c7
  have HB : Hid (∀ o, Below W.heap.size W (W.alloc o)) := fun o => (Below.refl _ _).alloc (Nat.le_refl _) _
  simp only at n1 n2
  have w1 : IntKind.i64.wrap ((L : Int) + 1 - 1) = L := by rw [IntKind.wrap_i64]; omega
  have w2 : IntKind.i64.wrap (L : Int) = L := by rw [IntKind.wrap_i64]; omega
  go_enter Tryd.func53, Tryd.ntmps53
  go_wp2_with fail
  obtain ⟨W1, hW1⟩ : ∃ W1, W.alloc (.cells #[.int .i64 0, .bool false, .bool false] 98) = W1 := ⟨_, rfl⟩
  have hb1 : Below W.heap.size W W1 := by rw [← hW1]; exact HB.out _
  have hx1 : W1.heap[W.heap.size]? = some (.cells #[.int .i64 0, .bool false, .bool false] 98 (0, 0)) := by rw [← hW1]; exact new_at _ _
  rw [hW1]
  have e7 : W1.cell? ⟨g, 7, none⟩ = some (.slice (some ⟨q, 0, none⟩) (L + 1) c) := (hb1.cell (p := ⟨g, 7, none⟩) bg).trans c7
  have e0 : W1.cell? ⟨q, L * 3, none⟩ = some (.int .i64 bi) := (hb1.cell (p := ⟨q, L * 3, none⟩) bq).trans d0
  have e1 : W1.cell? ⟨q, L * 3 + 1, none⟩ = some (.bool be) := (hb1.cell (p := ⟨q, L * 3 + 1, none⟩) bq).trans d1
  have e2 : W1.cell? ⟨q, L * 3 + 2, none⟩ = some (.bool bf) := (hb1.cell (p := ⟨q, L * 3 + 2, none⟩) bq).trans d2
  have g0 := blk_cell (k := 0) hx1 rfl
  have g1 := blk_cell (k := 1) hx1 rfl
  have g2 := blk_cell (k := 2) hx1 rfl
  have fz : ∀ j, W1.frozen? ⟨W.heap.size, j, none⟩ = false := fun j => blk_frozen hx1
  have f0 := fz 0
  have f1 := fz 1
  have f2 := fz 2
  clear hW1 fz
  have HBX : Hid (Below W.heap.size W W1) := hb1
  have HX1 : Hid (W1.heap[W.heap.size]? = some (.cells #[.int .i64 0, .bool false, .bool false] 98 (0, 0))) := hx1
  clear hb1 hx1 c7 d0 d1 d2
  go_region_held3 (fun w' => w'.cell? ⟨g, 7, none⟩ = some (.slice (some ⟨q, 0, none⟩) (L + 1) c) ∧ w'.cell? ⟨q, L * 3, none⟩ = some (.int .i64 bi) ∧ w'.cell? ⟨q, L * 3 + 1, none⟩ = some (.bool be) ∧ w'.cell? ⟨q, L * 3 + 2, none⟩ = some (.bool bf)) (first | (exact ⟨e7, e0, e1, e2⟩) | go_keep) (fail)
  obtain ⟨X, hX⟩ : ∃ X, (((W1.setCell ⟨W.heap.size, 0, none⟩ (.int .i64 bi)).setCell ⟨W.heap.size, 1, none⟩ (.bool be)).setCell ⟨W.heap.size, 2, none⟩ (.bool bf)).drew = X := ⟨_, rfl⟩
  have hxb : X.heap[W.heap.size]? = some (.cells #[.int .i64 bi, .bool be, .bool bf] 98 (0, 0)) := by rw [← hX]; exact blk_set (blk_set (blk_set HX1.out 0 _) 1 _) 2 _
  have hbx : Below W.heap.size W X := by rw [← hX]; exact (((HBX.out.setCell (Nat.le_refl _) _).setCell (Nat.le_refl _) _).setCell (Nat.le_refl _) _).drew
  rw [hX]
  have m0 := blk_cell (k := 0) hxb rfl
  have m1 := blk_cell (k := 1) hxb rfl
  have m2 := blk_cell (k := 2) hxb rfl
  clear hX
  go_wp2_with fail
  refine bodyPost_ret (v := .agg #[.int .i64 (bi : Int), .bool be, .bool bf]) (by simp [results, Tryd.f53, go_sem, m0, m1, m2]) rfl ?_
  exact ⟨rfl, hbx⟩
set_option maxHeartbeats 1000000 in
theorem room_any {B g N : Nat} {W : World} {p : Pr} {vo vb : Value} {sm em : Bool} (h : PG B W g N p vo vb sm em) (hN : N ≤ 4096) (hl : p.at ≤ 1000000000) : Calls Tryd.prog 54 #[.pointer (some ⟨g, 0, none⟩)] W fun e w' => e = .returned (.int .i64 ((N : Int) - (p.at : Nat))) ∧ Below W.heap.size W w' := by
  obtain ⟨c0, _, c2, _, _, _, _, _⟩ := h.cells
  generalize p.at = a at *
  clear h
  go_enter Tryd.func54, Tryd.ntmps54
  go_wp2_with fail
  go_quiet (fail)
  go_wp2_with fail
  go_ret
  exact ⟨rfl, below_drewN (Below.refl _ _) _⟩

/-! What writes into the page's own block alone. -/
theorem row_kp {B e sz n g : Nat} {W W' : World} {v : Value} {xs : List Value} {cs : Array Value} {T : TypeId} {f : Nat × Nat} (hr : W.ownsRow B e sz v n xs) (hk : Kp (fun k => k = g) W W') (hg : W.heap[g]? = some (.cells cs T f)) (hT : T ≠ e) : W'.ownsRow B e sz v n xs := by
  refine ⟨hr.1, ?_⟩
  rcases hr.2 with h1 | ⟨q, cap, cur, rfl, h2, h3, h4⟩
  · exact .inl h1
  · exact .inr ⟨q, cap, cur, rfl, h2, hk.blk h3 (fun e1 => row_ne (row_zero hr) hg hT (by rw [← e1]; rfl)), h4⟩
theorem kp_below {B g : Nat} {W W' : World} (hk : Kp (fun k => k = g) W W') (hB : B ≤ g) (hB2 : B ≤ W.heap.size) : Below B W W' := ⟨hk.os, hk.tape, hk.output, hk.size, fun k h => hk.block k (by omega) (by omega)⟩
theorem PG.put {B : Nat} {W W' : World} {g N : Nat} {p p' : Pr} {vo vb : Value} {sm em sm' em' : Bool} (h : PG B W g N p vo vb sm em) (hk : Kp (fun k => k = g) W W')
    (hb : W'.heap[g]? = some (.cells #[.int .i64 (N : Int), vo, .int .i64 (p'.at : Nat), .bool p'.sk.fresh, .int .i64 (hld p' : Nat), .bool sm', .bool em', vb] 63 (0, 0)))
    (ho : p'.sk.out = p.sk.out) (ha : p'.ar = p.ar) (hl : p'.bl = p.bl) (he : p'.en = (p'.sk.fresh && sm' && !em')) (hs : p'.sk.fresh = false → sm' = true) (hw : p'.sk.fresh = true → p'.sk.wait = 0) : PG B W' g N p' vo vb sm' em' := by
  refine ⟨hb, ?_, ?_, he, hs, hw, h.gB⟩
  · rw [ho]; exact row_kp h.out hk h.blk (by decide)
  · rw [ha, hl]; exact row_kp h.pbs hk h.blk (by decide)
def Pg (B : Nat) (W : World) (g N : Nat) (p : Pr) : Prop := ∃ vo vb sm em, PG B W g N p vo vb sm em

set_option maxHeartbeats 1000000 in
theorem pblanks_any {B g N : Nat} {W : World} {p : Pr} (h : Pg B W g N p) (hB : B ≤ W.heap.size) (m : Nat) (hm : m ≤ 1000000) (hl : p.at ≤ 1000000000) : Calls Tryd.prog 51 #[.pointer (some ⟨g, 0, none⟩), .int .i64 (m : Int)] W fun e w' => e = .returned (.tuple #[]) ∧ Pg B w' g N (p.hold m) ∧ Below B W w' := by
  obtain ⟨vo, vb, sm, em, h⟩ := h
  obtain ⟨c0, c1, c2, c3, c4, c5, c6, c7⟩ := h.cells
  have fz : ∀ j, W.frozen? ⟨g, j, none⟩ = false := fun j => blk_frozen h.blk
  have f2 := fz 2
  have f4 := fz 4
  have f6 := fz 6
  by_cases hf : p.sk.fresh = true
  · have e : p.hold m = p := by unfold Pr.hold; rw [if_pos hf]
    rw [e]
    rw [hf] at c3
    have HH : Hid (Pg B W g N p) := ⟨_, _, _, _, h⟩
    clear h fz e
    go_enter Tryd.func51, Tryd.ntmps51
    go_wp2_with fail
    refine bodyPost_ret (v := .tuple #[]) (by first | rfl | simp [results, Tryd.f51, go_sem]) rfl ?_
    exact ⟨rfl, HH.out, Below.refl _ _⟩
  · have hf' : p.sk.fresh = false := by simpa using hf
    have e : p.hold m = { p with sk := p.sk.blanks m } := by unfold Pr.hold; rw [if_neg hf]
    rw [e]
    have hh : hld p = p.sk.wait := by unfold hld; rw [hf']; rfl
    have hw : p.sk.wait ≤ p.at := by unfold Pr.at; omega
    rw [hf'] at c3
    rw [hh] at c4
    have hB1 := blk_set (blk_set (blk_set h.blk 4 (.int .i64 ((p.sk.wait : Nat) + (m : Int)))) 2 (.int .i64 ((p.at : Nat) + (m : Int)))) 6 (.bool false)
    have hK : Kp (fun k => k = g) W (((W.setCell ⟨g, 4, none⟩ (.int .i64 ((p.sk.wait : Nat) + (m : Int)))).setCell ⟨g, 2, none⟩ (.int .i64 ((p.at : Nat) + (m : Int)))).setCell ⟨g, 6, none⟩ (.bool false)) := ((Kp.set _ _ _ _).trans (Kp.set _ _ _ _)).trans (Kp.set _ _ _ _)
    have HE : Hid (Pg B (((W.setCell ⟨g, 4, none⟩ (.int .i64 ((p.sk.wait : Nat) + (m : Int)))).setCell ⟨g, 2, none⟩ (.int .i64 ((p.at : Nat) + (m : Int)))).setCell ⟨g, 6, none⟩ (.bool false)) g N { p with sk := p.sk.blanks m } ∧ Below B W (((W.setCell ⟨g, 4, none⟩ (.int .i64 ((p.sk.wait : Nat) + (m : Int)))).setCell ⟨g, 2, none⟩ (.int .i64 ((p.at : Nat) + (m : Int)))).setCell ⟨g, 6, none⟩ (.bool false))) := by
      refine ⟨⟨vo, vb, sm, false, h.put hK ?_ rfl rfl rfl ?_ (fun _ => h.som hf') (fun h2 => ?_)⟩, kp_below hK h.gB hB⟩
      · rw [hB1]
        have e1 : (((({ p with sk := p.sk.blanks m } : Pr).at : Nat)) : Int) = (p.at : Nat) + (m : Int) := by unfold Pr.at; show ((p.sk.col + (p.sk.wait + m) : Nat) : Int) = _; omega
        have e2 : ((hld ({ p with sk := p.sk.blanks m } : Pr) : Nat) : Int) = (p.sk.wait : Nat) + (m : Int) := by
          have : hld ({ p with sk := p.sk.blanks m } : Pr) = p.sk.wait + m := by unfold hld; rw [if_neg (by show ¬ p.sk.fresh = true; exact hf)]; rfl
          rw [this]; omega
        rw [e1, e2]
        rfl
      · show p.en = (p.sk.fresh && sm && !false)
        rw [h.en, hf']; rfl
      · exact absurd h2 hf
    have x2 : (W.setCell ⟨g, 4, none⟩ (.int .i64 ((p.sk.wait : Nat) + (m : Int)))).cell? ⟨g, 2, none⟩ = some (.int .i64 (p.at : Nat)) := blk_cell (blk_set h.blk 4 _) rfl
    generalize p.at = a at *
    generalize p.sk.wait = ww at *
    clear h fz e hB1 hK
    go_enter Tryd.func51, Tryd.ntmps51
    go_wp2_with fail
    go_end0
    exact ⟨rfl, HE.out⟩

theorem fld98 (a : Int) (b c : Bool) (w : World) : (Instr.field 98 (.agg #[.int .i64 a, .bool b, .bool c]) 0).run Tryd.prog w = .ok (.int .i64 a) w := by kernel_rfl
theorem row_bw5 {B e sz n : Nat} {W W' : World} {v : Value} {xs : List Value} (hr : W.ownsRow B e sz v n xs) (hk : Bw5 B W W') (he : e ≠ 5) : W'.ownsRow B e sz v n xs := by
  refine ⟨hr.1, ?_⟩
  rcases hr.2 with h1 | ⟨q, cap, cur, rfl, h2, h3, h4⟩
  · exact .inl h1
  · exact .inr ⟨q, cap, cur, rfl, h2, hk.blk h3 he, h4⟩
theorem pends_mid {B g N : Nat} {W w1 : World} {p : Pr} {vo vb v' : Value} {sm em : Bool} (h : PG B W g N p vo vb sm em) (hf : p.sk.fresh = false) (hB : B ≤ W.heap.size) (ha : p.ar.length ≤ 100000000) (hr1 : Br B w1 v' (p.sk.out ++ [10])) (hb1 : Bw5 B W w1) :
    w1.cell? ⟨g, 1, none⟩ = some vo ∧ (∀ j, w1.frozen? ⟨g, j, none⟩ = false) ∧ (w1.setCell ⟨g, 1, none⟩ v').cell? ⟨g, 3, none⟩ = some (.bool false) ∧
    Hid (Calls Tryd.prog 53 #[.pointer (some ⟨g, 0, none⟩)] ((w1.setCell ⟨g, 1, none⟩ v').setCell ⟨g, 3, none⟩ (.bool true)) fun e w3 => e = .returned (.agg #[.int .i64 (p.bl.ind : Int), .bool p.bl.ev, .bool p.bl.ft]) ∧ (∀ j, w3.frozen? ⟨g, j, none⟩ = false) ∧ w3.cell? ⟨g, 4, none⟩ = some (.int .i64 (hld p : Nat)) ∧ (w3.setCell ⟨g, 4, none⟩ (.int .i64 (p.bl.ind : Int))).cell? ⟨g, 4, none⟩ = some (.int .i64 (p.bl.ind : Int)) ∧ (w3.setCell ⟨g, 4, none⟩ (.int .i64 (p.bl.ind : Int))).cell? ⟨g, 2, none⟩ = some (.int .i64 (p.at : Nat)) ∧ ((w3.setCell ⟨g, 4, none⟩ (.int .i64 (p.bl.ind : Int))).setCell ⟨g, 2, none⟩ (.int .i64 (p.bl.ind : Int))).cell? ⟨g, 6, none⟩ = some (.bool em) ∧ Hid (Pg B (((w3.setCell ⟨g, 4, none⟩ (.int .i64 (p.bl.ind : Int))).setCell ⟨g, 2, none⟩ (.int .i64 (p.bl.ind : Int))).setCell ⟨g, 6, none⟩ (.bool false)) g N { p with sk := p.sk.feed p.bl.ind, en := true } ∧ Below B W (((w3.setCell ⟨g, 4, none⟩ (.int .i64 (p.bl.ind : Int))).setCell ⟨g, 2, none⟩ (.int .i64 (p.bl.ind : Int))).setCell ⟨g, 6, none⟩ (.bool false)))) := by
  have b1 := hb1.blk h.blk (by decide)
  have r1 := row_bw5 h.pbs hb1 (by decide)
  have b2 := blk_set b1 1 v'
  have b3 := blk_set b2 3 (.bool true)
  have k3 : Kp (fun k => k = g) w1 ((w1.setCell ⟨g, 1, none⟩ v').setCell ⟨g, 3, none⟩ (.bool true)) := (Kp.set _ _ _ _).trans (Kp.set _ _ _ _)
  have r3 := row_kp r1 k3 b1 (by decide)
  have o3 := row_kp hr1 k3 b1 (by decide)
  have hs1 : B ≤ w1.heap.size := Nat.le_trans hB hb1.bel.size
  refine ⟨blk_cell b1 rfl, fun j => blk_frozen b1, ?_, ?_⟩
  · rw [← hf]; exact blk_cell b2 rfl
  show Calls _ _ _ _ _
  refine (pblock_any (p := p) (blk_cell b3 rfl) r3 ha).mono ?_
  rintro e w3 ⟨rfl, hb⟩
  have b4 := blk_below b3 hb
  have b5 := blk_set b4 4 (.int .i64 (p.bl.ind : Int))
  have b6 := blk_set b5 2 (.int .i64 (p.bl.ind : Int))
  have b7 := blk_set b6 6 (.bool false)
  have k7 : Kp (fun k => k = g) w3 (((w3.setCell ⟨g, 4, none⟩ (.int .i64 (p.bl.ind : Int))).setCell ⟨g, 2, none⟩ (.int .i64 (p.bl.ind : Int))).setCell ⟨g, 6, none⟩ (.bool false)) := ((Kp.set _ _ _ _).trans (Kp.set _ _ _ _)).trans (Kp.set _ _ _ _)
  have r7 := row_kp (row_kept r3 hb) k7 b4 (by decide)
  have o7 := row_kp (row_kept o3 hb) k7 b4 (by decide)
  have hB3 : B ≤ ((w1.setCell ⟨g, 1, none⟩ v').setCell ⟨g, 3, none⟩ (.bool true)).heap.size := Nat.le_trans hs1 k3.size
  have hbb : Below B W (((w3.setCell ⟨g, 4, none⟩ (.int .i64 (p.bl.ind : Int))).setCell ⟨g, 2, none⟩ (.int .i64 (p.bl.ind : Int))).setCell ⟨g, 6, none⟩ (.bool false)) :=
    ((hb1.bel.trans (kp_below k3 h.gB hs1)).trans (hb.mono hB3)).trans (kp_below k7 h.gB (Nat.le_trans hB3 hb.size))
  refine ⟨rfl, fun j => blk_frozen b4, blk_cell b4 rfl, blk_cell b5 rfl, blk_cell b5 rfl, blk_cell b6 rfl, ?_, hbb⟩
  have hsm := h.som hf
  refine ⟨v', vb, sm, false, ?_, o7, r7, ?_, ?_, fun _ => rfl, h.gB⟩
  · rw [b7]
    rfl
  · show true = (true && sm && !false)
    rw [hsm]; rfl
  · intro h2; cases h2

set_option maxHeartbeats 1000000 in
set_option maxRecDepth 100000 in
theorem pends_any {B g N : Nat} {W : World} {p : Pr} (h : Pg B W g N p) (hB : B ≤ W.heap.size) (hl : p.at ≤ 1000000000) (ho : p.sk.out.length ≤ 1000000000) (ha : p.ar.length ≤ 100000000) (hi : p.bl.ind ≤ 1000) : Calls Tryd.prog 52 #[.pointer (some ⟨g, 0, none⟩)] W fun e w' => e = .returned (.tuple #[]) ∧ Pg B w' g N p.endl ∧ Below B W w' := by
  obtain ⟨vo, vb, sm, em, h⟩ := h
  obtain ⟨c0, c1, c2, c3, c4, c5, c6, c7⟩ := h.cells
  by_cases hf : p.sk.fresh = true
  · have e : p.endl = p := by unfold Pr.endl; rw [if_pos hf]
    rw [e]
    rw [hf] at c3
    have HH : Hid (Pg B W g N p) := ⟨_, _, _, _, h⟩
    clear h e
    go_enter Tryd.func52, Tryd.ntmps52
    go_wp2_with fail
    refine bodyPost_ret (v := .tuple #[]) (by first | rfl | simp [results, Tryd.f52, go_sem]) rfl ?_
    exact ⟨rfl, HH.out, Below.refl _ _⟩
  · have hf' : p.sk.fresh = false := by simpa using hf
    have e : p.endl = { p with sk := p.sk.feed p.bl.ind, en := true } := by unfold Pr.endl; rw [if_neg hf]
    rw [e]
    rw [hf'] at c3
    obtain ⟨po, co, rfl, ho1, ho2⟩ := h.out.shape
    have HV : Hid (∀ V, Below W.heap.size W V → PG B V g N p (.slice po p.sk.out.length co) vb sm em ∧ B ≤ V.heap.size ∧ Below B W V) := fun V hV => ⟨h.below hV, Nat.le_trans hB hV.size, hV.mono hB⟩
    clear h e
    go_enter Tryd.func52, Tryd.ntmps52
    go_wp2_with (first | (at_builtin; refine app_bytes rfl _ _ rfl B _ p.sk.out [10] rfl (HV.out _ ((Below.refl _ _).alloc (Nat.le_refl _) _)).1.out W.heap.size 1 1 rfl rfl (new_at _ _) (by simp; omega) (HV.out _ ((Below.refl _ _).alloc (Nat.le_refl _) _)).2.1 ?_; intro v' w1 hr1 hb1; obtain ⟨pv, cv, ev, _, _⟩ := hr1.shape; simp only [List.length_append, List.length_cons, List.length_nil, Nat.zero_add] at ev; subst ev; obtain ⟨y1, fy, y3, KC⟩ := pends_mid (HV.out _ ((Below.refl _ _).alloc (Nat.le_refl _) _)).1 hf' (HV.out _ ((Below.refl _ _).alloc (Nat.le_refl _) _)).2.1 ha hr1 hb1; have fy1 := fy 1; have fy3 := fy 3; clear fy hr1 hb1))
    refine KC.out.mono ?_
    rintro e w3 ⟨rfl, fw, z4, z4', z2, z6, HEND⟩
    have fw4 := fw 4
    have fw2 := fw 2
    have fw6 := fw 6
    clear fw KC
    have hfd := fld98 p.bl.ind p.bl.ev p.bl.ft w3
    go_wp2_with fail
    go_end0
    exact ⟨rfl, HEND.out.1, ((HV.out _ ((Below.refl _ _).alloc (Nat.le_refl _) _)).2.2).trans HEND.out.2⟩
end Go.Proofs.YtcokccfbeonlnaaDoor
