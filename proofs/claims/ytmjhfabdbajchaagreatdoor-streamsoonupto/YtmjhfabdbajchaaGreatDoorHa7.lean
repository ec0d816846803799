import Derived.Test.YtmjhfabdbajchaaGreatDoorG8
import Derived.Deep.RegionHeld3
import Derived.Lib.LastIndexByte
import Derived.Deep.AppendLies
import Derived.BigRegion
import Derived.Deep.CutRange
import Derived.Deep.RegionLaw
set_option linter.unusedVariables false
set_option linter.unusedSimpArgs false
namespace Go.Proofs.YtmjhfabdbajchaaGreatDoor
open Go.RowKit

/-! The document's page. -/
def pbc (b : Bk) : List Value := [.int .i64 (b.ind : Int), .bool b.ev, .bool b.ft]
def pbs (l : List Bk) : List Value := flat pbc l
theorem bks_len (l : List Bk) : (pbs l).length = l.length * 3 := flat_len pbc 3 (fun _ => rfl) l
theorem bks_app (a b : List Bk) : pbs (a ++ b) = pbs a ++ pbs b := flat_append pbc a b
def hld (p : Pr) : Nat := if p.sk.fresh then p.sk.col else p.sk.wait
structure PG (B : Nat) (W : World) (g N : Nat) (p : Pr) (vo vb : Value) (sm em : Bool) : Prop where
  blk : W.heap[g]? = some (.cells #[.int .i64 (N : Int), vo, .int .i64 (p.at : Nat), .bool p.sk.fresh, .int .i64 (hld p : Nat), .bool sm, .bool em, vb] 92 (0, 0))
  out : Br B W vo p.sk.out
  pbs : W.ownsRow B 89 3 vb (p.ar.length + 1) (pbs (p.ar.reverse ++ [p.bl]))
  en : p.en = (p.sk.fresh && sm && !em)
  som : p.sk.fresh = false → sm = true
  wt : p.sk.fresh = true → p.sk.wait = 0
  gB : B ≤ g
theorem PG.below {B : Nat} {W W' : World} {g N : Nat} {p : Pr} {vo vb : Value} {sm em : Bool} (h : PG B W g N p vo vb sm em) (hb : Below W.heap.size W W') : PG B W' g N p vo vb sm em :=
  ⟨blk_below h.blk hb, h.out.below hb, row_kept h.pbs hb, h.en, h.som, h.wt, h.gB⟩
theorem PG.cells {B : Nat} {W : World} {g N : Nat} {p : Pr} {vo vb : Value} {sm em : Bool} (h : PG B W g N p vo vb sm em) :
    W.cell? ⟨g, 0, none⟩ = some (.int .i64 (N : Int)) ∧ W.cell? ⟨g, 1, none⟩ = some vo ∧ W.cell? ⟨g, 2, none⟩ = some (.int .i64 (p.at : Nat)) ∧ W.cell? ⟨g, 3, none⟩ = some (.bool p.sk.fresh) ∧ W.cell? ⟨g, 4, none⟩ = some (.int .i64 (hld p : Nat)) ∧ W.cell? ⟨g, 5, none⟩ = some (.bool sm) ∧ W.cell? ⟨g, 6, none⟩ = some (.bool em) ∧ W.cell? ⟨g, 7, none⟩ = some vb :=
  ⟨blk_cell h.blk rfl, blk_cell h.blk rfl, blk_cell h.blk rfl, blk_cell h.blk rfl, blk_cell h.blk rfl, blk_cell h.blk rfl, blk_cell h.blk rfl, blk_cell h.blk rfl⟩
theorem rtop {B : Nat} {W : World} {p : Pr} {vb : Value} (hr : W.ownsRow B 89 3 vb (p.ar.length + 1) (pbs (p.ar.reverse ++ [p.bl]))) : ∃ q c, vb = .slice (some ⟨q, 0, none⟩) (p.ar.length + 1) c ∧ p.ar.length + 1 ≤ c ∧ c ≤ 9223372036854775807 ∧
    W.cell? ⟨q, p.ar.length * 3, none⟩ = some (.int .i64 (p.bl.ind : Int)) ∧ W.cell? ⟨q, p.ar.length * 3 + 1, none⟩ = some (.bool p.bl.ev) ∧ W.cell? ⟨q, p.ar.length * 3 + 2, none⟩ = some (.bool p.bl.ft) := by
  have hr0 := hr
  rcases hr.2 with ⟨_, h1⟩ | ⟨q, c, cur, rfl, _, _, h2, h3, _⟩
  · omega
  · have hc : ∀ j, j < 3 → W.cell? ⟨q, p.ar.length * 3 + j, none⟩ = (pbc p.bl)[j]? := by
      intro j hj
      rw [World.ownsRow.cellAt hr0 _ (by omega), bks_app, List.getElem?_append_right (by rw [bks_len, List.length_reverse]; omega), bks_len, List.length_reverse]
      rw [show p.ar.length * 3 + j - p.ar.length * 3 = j by omega]
      simp [pbs, flat]
    exact ⟨q, c, rfl, h2, h3, hc 0 (by omega), hc 1 (by omega), hc 2 (by omega)⟩

set_option maxHeartbeats 1000000 in
theorem pblock_any {B g : Nat} {W : World} {p : Pr} {vb : Value} (c7 : W.cell? ⟨g, 7, none⟩ = some vb) (hr : W.ownsRow B 89 3 vb (p.ar.length + 1) (pbs (p.ar.reverse ++ [p.bl]))) (hl : p.ar.length ≤ 100000000) : Calls Tryz.prog 69 #[.pointer (some ⟨g, 0, none⟩)] W fun e w' => e = .returned (.agg #[.int .i64 (p.bl.ind : Int), .bool p.bl.ev, .bool p.bl.ft]) ∧ Below W.heap.size W w' := by
  obtain ⟨q, c, rfl, h1, h2, d0, d1, d2⟩ := rtop hr
  have bq := World.block_lt_of_cell? _ _ d0
  have bg := World.block_lt_of_cell? _ _ c7
  simp only at bq bg
  generalize p.ar.length = L at *
  generalize p.bl.ind = bi at *
  generalize p.bl.ev = be at *
  generalize p.bl.ft = bf at *
  clear hr
  have q3 : (L : Int) < (L : Int) + 1 := by omega
  have q4 : (0 : Int) ≤ L := by omega
  have n1 := World.new_ne W ⟨q, L * 3, none⟩ d0
  have n2 := World.new_ne W ⟨g, 7, none⟩ c7
  have HB : Hid (∀ o, Below W.heap.size W (W.alloc o)) := fun o => (Below.refl _ _).alloc (Nat.le_refl _) _
  simp only at n1 n2
  have w1 : IntKind.i64.wrap ((L : Int) + 1 - 1) = L := by rw [IntKind.wrap_i64]; omega
  have w2 : IntKind.i64.wrap (L : Int) = L := by rw [IntKind.wrap_i64]; omega
  go_enter Tryz.func69, Tryz.ntmps69
  go_wp2_with fail
  obtain ⟨W1, hW1⟩ : ∃ W1, W.alloc (.cells #[.int .i64 0, .bool false, .bool false] 89) = W1 := ⟨_, rfl⟩
  have hb1 : Below W.heap.size W W1 := by rw [← hW1]; exact HB.out _
  have hx1 : W1.heap[W.heap.size]? = some (.cells #[.int .i64 0, .bool false, .bool false] 89 (0, 0)) := by rw [← hW1]; exact new_at _ _
  rw [hW1]
  have e7 : W1.cell? ⟨g, 7, none⟩ = some (.slice (some ⟨q, 0, none⟩) (L + 1) c) := (hb1.cell (p := ⟨g, 7, none⟩) bg).trans c7
  have e0 : W1.cell? ⟨q, L * 3, none⟩ = some (.int .i64 bi) := (hb1.cell (p := ⟨q, L * 3, none⟩) bq).trans d0
  have e1 : W1.cell? ⟨q, L * 3 + 1, none⟩ = some (.bool be) := (hb1.cell (p := ⟨q, L * 3 + 1, none⟩) bq).trans d1
  have e2 : W1.cell? ⟨q, L * 3 + 2, none⟩ = some (.bool bf) := (hb1.cell (p := ⟨q, L * 3 + 2, none⟩) bq).trans d2
  have g0 := blk_cell (k := 0) hx1 rfl
  have g1 := blk_cell (k := 1) hx1 rfl
  have g2 := blk_cell (k := 2) hx1 rfl
  have fz : ∀ j, W1.frozen? ⟨W.heap.size, j, none⟩ = false := fun j => blk_frozen hx1
  have f0 := fz 0
  have f1 := fz 1
  have f2 := fz 2
  clear hW1 fz
  have HBX : Hid (Below W.heap.size W W1) := hb1
  have HX1 : Hid (W1.heap[W.heap.size]? = some (.cells #[.int .i64 0, .bool false, .bool false] 89 (0, 0))) := hx1
  clear hb1 hx1 c7 d0 d1 d2
  go_region_held3 (fun w' => w'.cell? ⟨g, 7, none⟩ = some (.slice (some ⟨q, 0, none⟩) (L + 1) c) ∧ w'.cell? ⟨q, L * 3, none⟩ = some (.int .i64 bi) ∧ w'.cell? ⟨q, L * 3 + 1, none⟩ = some (.bool be) ∧ w'.cell? ⟨q, L * 3 + 2, none⟩ = some (.bool bf)) (first | (exact ⟨e7, e0, e1, e2⟩) | go_keep) (fail)
  obtain ⟨X, hX⟩ : ∃ X, (((W1.setCell ⟨W.heap.size, 0, none⟩ (.int .i64 bi)).setCell ⟨W.heap.size, 1, none⟩ (.bool be)).setCell ⟨W.heap.size, 2, none⟩ (.bool bf)).drew = X := ⟨_, rfl⟩
  have hxb : X.heap[W.heap.size]? = some (.cells #[.int .i64 bi, .bool be, .bool bf] 89 (0, 0)) := by rw [← hX]; exact blk_set (blk_set (blk_set HX1.out 0 _) 1 _) 2 _
  have hbx : Below W.heap.size W X := by rw [← hX]; exact (((HBX.out.setCell (Nat.le_refl _) _).setCell (Nat.le_refl _) _).setCell (Nat.le_refl _) _).drew
  rw [hX]
  have m0 := blk_cell (k := 0) hxb rfl
  have m1 := blk_cell (k := 1) hxb rfl
  have m2 := blk_cell (k := 2) hxb rfl
  clear hX
  go_wp2_with fail
  refine bodyPost_ret (v := .agg #[.int .i64 (bi : Int), .bool be, .bool bf]) (by simp [results, Tryz.f69, go_sem, m0, m1, m2]) rfl ?_
  exact ⟨rfl, hbx⟩
set_option maxHeartbeats 1000000 in
theorem room_any {B g N : Nat} {W : World} {p : Pr} {vo vb : Value} {sm em : Bool} (h : PG B W g N p vo vb sm em) (hN : N ≤ 4096) (hl : p.at ≤ 1000000000) : Calls Tryz.prog 108 #[.pointer (some ⟨g, 0, none⟩)] W fun e w' => e = .returned (.int .i64 ((N : Int) - (p.at : Nat))) ∧ Below W.heap.size W w' := by
  obtain ⟨c0, _, c2, _, _, _, _, _⟩ := h.cells
  generalize p.at = a at *
  clear h
  go_enter Tryz.func108, Tryz.ntmps108
  go_wp2_with fail
  go_quiet (fail)
  go_wp2_with fail
  go_ret
  exact ⟨rfl, below_drewN (Below.refl _ _) _⟩

/-! What writes into the page's own block alone. -/
theorem row_kp {B e sz n g : Nat} {W W' : World} {v : Value} {xs : List Value} {cs : Array Value} {T : TypeId} {f : Nat × Nat} (hr : W.ownsRow B e sz v n xs) (hk : Kp (fun k => k = g) W W') (hg : W.heap[g]? = some (.cells cs T f)) (hT : T ≠ e) : W'.ownsRow B e sz v n xs := by
  refine ⟨hr.1, ?_⟩
  rcases hr.2 with h1 | ⟨q, cap, cur, rfl, h2, h3, h4⟩
  · exact .inl h1
  · exact .inr ⟨q, cap, cur, rfl, h2, hk.blk h3 (fun e1 => row_ne (row_zero hr) hg hT (by rw [← e1]; rfl)), h4⟩
theorem kp_below {B g : Nat} {W W' : World} (hk : Kp (fun k => k = g) W W') (hB : B ≤ g) (hB2 : B ≤ W.heap.size) : Below B W W' := ⟨hk.os, hk.tape, hk.output, hk.size, fun k h => hk.block k (by omega) (by omega)⟩
theorem PG.put {B : Nat} {W W' : World} {g N : Nat} {p p' : Pr} {vo vb : Value} {sm em sm' em' : Bool} (h : PG B W g N p vo vb sm em) (hk : Kp (fun k => k = g) W W')
    (hb : W'.heap[g]? = some (.cells #[.int .i64 (N : Int), vo, .int .i64 (p'.at : Nat), .bool p'.sk.fresh, .int .i64 (hld p' : Nat), .bool sm', .bool em', vb] 92 (0, 0)))
    (ho : p'.sk.out = p.sk.out) (ha : p'.ar = p.ar) (hl : p'.bl = p.bl) (he : p'.en = (p'.sk.fresh && sm' && !em')) (hs : p'.sk.fresh = false → sm' = true) (hw : p'.sk.fresh = true → p'.sk.wait = 0) : PG B W' g N p' vo vb sm' em' := by
  refine ⟨hb, ?_, ?_, he, hs, hw, h.gB⟩
  · rw [ho]; exact row_kp h.out hk h.blk (by decide)
  · rw [ha, hl]; exact row_kp h.pbs hk h.blk (by decide)
def Pg (B : Nat) (W : World) (g N : Nat) (p : Pr) : Prop := ∃ vo vb sm em, PG B W g N p vo vb sm em

set_option maxHeartbeats 1000000 in
theorem pblanks_any {B g N : Nat} {W : World} {p : Pr} (h : Pg B W g N p) (hB : B ≤ W.heap.size) (m : Nat) (hm : m ≤ 1000000) (hl : p.at ≤ 1000000000) : Calls Tryz.prog 112 #[.pointer (some ⟨g, 0, none⟩), .int .i64 (m : Int)] W fun e w' => e = .returned (.tuple #[]) ∧ Pg B w' g N (p.hold m) ∧ Below B W w' := by
  obtain ⟨vo, vb, sm, em, h⟩ := h
  obtain ⟨c0, c1, c2, c3, c4, c5, c6, c7⟩ := h.cells
  have fz : ∀ j, W.frozen? ⟨g, j, none⟩ = false := fun j => blk_frozen h.blk
  have f2 := fz 2
  have f4 := fz 4
  have f6 := fz 6
  by_cases hf : p.sk.fresh = true
  · have e : p.hold m = p := by unfold Pr.hold; rw [if_pos hf]
    rw [e]
    rw [hf] at c3
    have HH : Hid (Pg B W g N p) := ⟨_, _, _, _, h⟩
    clear h fz e
    go_enter Tryz.func112, Tryz.ntmps112
    go_wp2_with fail
    refine bodyPost_ret (v := .tuple #[]) (by first | rfl | simp [results, Tryz.f112, go_sem]) rfl ?_
    exact ⟨rfl, HH.out, Below.refl _ _⟩
  · have hf' : p.sk.fresh = false := by simpa using hf
    have e : p.hold m = { p with sk := p.sk.blanks m } := by unfold Pr.hold; rw [if_neg hf]
    rw [e]
    have hh : hld p = p.sk.wait := by unfold hld; rw [hf']; rfl
    have hw : p.sk.wait ≤ p.at := by unfold Pr.at; omega
    rw [hf'] at c3
    rw [hh] at c4
    have hB1 := blk_set (blk_set (blk_set h.blk 4 (.int .i64 ((p.sk.wait : Nat) + (m : Int)))) 2 (.int .i64 ((p.at : Nat) + (m : Int)))) 6 (.bool false)
    have hK : Kp (fun k => k = g) W (((W.setCell ⟨g, 4, none⟩ (.int .i64 ((p.sk.wait : Nat) + (m : Int)))).setCell ⟨g, 2, none⟩ (.int .i64 ((p.at : Nat) + (m : Int)))).setCell ⟨g, 6, none⟩ (.bool false)) := ((Kp.set _ _ _ _).trans (Kp.set _ _ _ _)).trans (Kp.set _ _ _ _)
    have HE : Hid (Pg B (((W.setCell ⟨g, 4, none⟩ (.int .i64 ((p.sk.wait : Nat) + (m : Int)))).setCell ⟨g, 2, none⟩ (.int .i64 ((p.at : Nat) + (m : Int)))).setCell ⟨g, 6, none⟩ (.bool false)) g N { p with sk := p.sk.blanks m } ∧ Below B W (((W.setCell ⟨g, 4, none⟩ (.int .i64 ((p.sk.wait : Nat) + (m : Int)))).setCell ⟨g, 2, none⟩ (.int .i64 ((p.at : Nat) + (m : Int)))).setCell ⟨g, 6, none⟩ (.bool false))) := by
      refine ⟨⟨vo, vb, sm, false, h.put hK ?_ rfl rfl rfl ?_ (fun _ => h.som hf') (fun h2 => ?_)⟩, kp_below hK h.gB hB⟩
      · rw [hB1]
        have e1 : (((({ p with sk := p.sk.blanks m } : Pr).at : Nat)) : Int) = (p.at : Nat) + (m : Int) := by unfold Pr.at; show ((p.sk.col + (p.sk.wait + m) : Nat) : Int) = _; omega
        have e2 : ((hld ({ p with sk := p.sk.blanks m } : Pr) : Nat) : Int) = (p.sk.wait : Nat) + (m : Int) := by
          have : hld ({ p with sk := p.sk.blanks m } : Pr) = p.sk.wait + m := by unfold hld; rw [if_neg (by show ¬ p.sk.fresh = true; exact hf)]; rfl
          rw [this]; omega
        rw [e1, e2]
        rfl
      · show p.en = (p.sk.fresh && sm && !false)
        rw [h.en, hf']; rfl
      · exact absurd h2 hf
    have x2 : (W.setCell ⟨g, 4, none⟩ (.int .i64 ((p.sk.wait : Nat) + (m : Int)))).cell? ⟨g, 2, none⟩ = some (.int .i64 (p.at : Nat)) := blk_cell (blk_set h.blk 4 _) rfl
    generalize p.at = a at *
    generalize p.sk.wait = ww at *
    clear h fz e hB1 hK
    go_enter Tryz.func112, Tryz.ntmps112
    go_wp2_with fail
    go_end0
    exact ⟨rfl, HE.out⟩

theorem fld98 (a : Int) (b c : Bool) (w : World) : (Instr.field 89 (.agg #[.int .i64 a, .bool b, .bool c]) 0).run Tryz.prog w = .ok (.int .i64 a) w := by kernel_rfl
theorem row_bw5 {B e sz n : Nat} {W W' : World} {v : Value} {xs : List Value} (hr : W.ownsRow B e sz v n xs) (hk : Bw5 B W W') (he : e ≠ 5) : W'.ownsRow B e sz v n xs := by
  refine ⟨hr.1, ?_⟩
  rcases hr.2 with h1 | ⟨q, cap, cur, rfl, h2, h3, h4⟩
  · exact .inl h1
  · exact .inr ⟨q, cap, cur, rfl, h2, hk.blk h3 he, h4⟩
theorem pends_mid {B g N : Nat} {W w1 : World} {p : Pr} {vo vb v' : Value} {sm em : Bool} (h : PG B W g N p vo vb sm em) (hf : p.sk.fresh = false) (hB : B ≤ W.heap.size) (ha : p.ar.length ≤ 100000000) (hr1 : Br B w1 v' (p.sk.out ++ [10])) (hb1 : Bw5 B W w1) :
    w1.cell? ⟨g, 1, none⟩ = some vo ∧ (∀ j, w1.frozen? ⟨g, j, none⟩ = false) ∧ (w1.setCell ⟨g, 1, none⟩ v').cell? ⟨g, 3, none⟩ = some (.bool false) ∧
    Hid (Calls Tryz.prog 69 #[.pointer (some ⟨g, 0, none⟩)] ((w1.setCell ⟨g, 1, none⟩ v').setCell ⟨g, 3, none⟩ (.bool true)) fun e w3 => e = .returned (.agg #[.int .i64 (p.bl.ind : Int), .bool p.bl.ev, .bool p.bl.ft]) ∧ (∀ j, w3.frozen? ⟨g, j, none⟩ = false) ∧ w3.cell? ⟨g, 4, none⟩ = some (.int .i64 (hld p : Nat)) ∧ (w3.setCell ⟨g, 4, none⟩ (.int .i64 (p.bl.ind : Int))).cell? ⟨g, 4, none⟩ = some (.int .i64 (p.bl.ind : Int)) ∧ (w3.setCell ⟨g, 4, none⟩ (.int .i64 (p.bl.ind : Int))).cell? ⟨g, 2, none⟩ = some (.int .i64 (p.at : Nat)) ∧ ((w3.setCell ⟨g, 4, none⟩ (.int .i64 (p.bl.ind : Int))).setCell ⟨g, 2, none⟩ (.int .i64 (p.bl.ind : Int))).cell? ⟨g, 6, none⟩ = some (.bool em) ∧ Hid (Pg B (((w3.setCell ⟨g, 4, none⟩ (.int .i64 (p.bl.ind : Int))).setCell ⟨g, 2, none⟩ (.int .i64 (p.bl.ind : Int))).setCell ⟨g, 6, none⟩ (.bool false)) g N { p with sk := p.sk.feed p.bl.ind, en := true } ∧ Below B W (((w3.setCell ⟨g, 4, none⟩ (.int .i64 (p.bl.ind : Int))).setCell ⟨g, 2, none⟩ (.int .i64 (p.bl.ind : Int))).setCell ⟨g, 6, none⟩ (.bool false)))) := by
  have b1 := hb1.blk h.blk (by decide)
  have r1 := row_bw5 h.pbs hb1 (by decide)
  have b2 := blk_set b1 1 v'
  have b3 := blk_set b2 3 (.bool true)
  have k3 : Kp (fun k => k = g) w1 ((w1.setCell ⟨g, 1, none⟩ v').setCell ⟨g, 3, none⟩ (.bool true)) := (Kp.set _ _ _ _).trans (Kp.set _ _ _ _)
  have r3 := row_kp r1 k3 b1 (by decide)
  have o3 := row_kp hr1 k3 b1 (by decide)
  have hs1 : B ≤ w1.heap.size := Nat.le_trans hB hb1.bel.size
  refine ⟨blk_cell b1 rfl, fun j => blk_frozen b1, ?_, ?_⟩
  · rw [← hf]; exact blk_cell b2 rfl
  show Calls _ _ _ _ _
  refine (pblock_any (p := p) (blk_cell b3 rfl) r3 ha).mono ?_
  rintro e w3 ⟨rfl, hb⟩
  have b4 := blk_below b3 hb
  have b5 := blk_set b4 4 (.int .i64 (p.bl.ind : Int))
  have b6 := blk_set b5 2 (.int .i64 (p.bl.ind : Int))
  have b7 := blk_set b6 6 (.bool false)
  have k7 : Kp (fun k => k = g) w3 (((w3.setCell ⟨g, 4, none⟩ (.int .i64 (p.bl.ind : Int))).setCell ⟨g, 2, none⟩ (.int .i64 (p.bl.ind : Int))).setCell ⟨g, 6, none⟩ (.bool false)) := ((Kp.set _ _ _ _).trans (Kp.set _ _ _ _)).trans (Kp.set _ _ _ _)
  have r7 := row_kp (row_kept r3 hb) k7 b4 (by decide)
  have o7 := row_kp (row_kept o3 hb) k7 b4 (by decide)
  have hB3 : B ≤ ((w1.setCell ⟨g, 1, none⟩ v').setCell ⟨g, 3, none⟩ (.bool true)).heap.size := Nat.le_trans hs1 k3.size
  have hbb : Below B W (((w3.setCell ⟨g, 4, none⟩ (.int .i64 (p.bl.ind : Int))).setCell ⟨g, 2, none⟩ (.int .i64 (p.bl.ind : Int))).setCell ⟨g, 6, none⟩ (.bool false)) :=
    ((hb1.bel.trans (kp_below k3 h.gB hs1)).trans (hb.mono hB3)).trans (kp_below k7 h.gB (Nat.le_trans hB3 hb.size))
  refine ⟨rfl, fun j => blk_frozen b4, blk_cell b4 rfl, blk_cell b5 rfl, blk_cell b5 rfl, blk_cell b6 rfl, ?_, hbb⟩
  have hsm := h.som hf
  refine ⟨v', vb, sm, false, ?_, o7, r7, ?_, ?_, fun _ => rfl, h.gB⟩
  · rw [b7]
    rfl
  · show true = (true && sm && !false)
    rw [hsm]; rfl
  · intro h2; cases h2

set_option maxHeartbeats 1000000 in
set_option maxRecDepth 100000 in
theorem pends_any {B g N : Nat} {W : World} {p : Pr} (h : Pg B W g N p) (hB : B ≤ W.heap.size) (hl : p.at ≤ 1000000000) (ho : p.sk.out.length ≤ 1000000000) (ha : p.ar.length ≤ 100000000) (hi : p.bl.ind ≤ 1000) : Calls Tryz.prog 113 #[.pointer (some ⟨g, 0, none⟩)] W fun e w' => e = .returned (.tuple #[]) ∧ Pg B w' g N p.endl ∧ Below B W w' := by
  obtain ⟨vo, vb, sm, em, h⟩ := h
  obtain ⟨c0, c1, c2, c3, c4, c5, c6, c7⟩ := h.cells
  by_cases hf : p.sk.fresh = true
  · have e : p.endl = p := by unfold Pr.endl; rw [if_pos hf]
    rw [e]
    rw [hf] at c3
    have HH : Hid (Pg B W g N p) := ⟨_, _, _, _, h⟩
    clear h e
    go_enter Tryz.func113, Tryz.ntmps113
    go_wp2_with fail
    refine bodyPost_ret (v := .tuple #[]) (by first | rfl | simp [results, Tryz.f113, go_sem]) rfl ?_
    exact ⟨rfl, HH.out, Below.refl _ _⟩
  · have hf' : p.sk.fresh = false := by simpa using hf
    have e : p.endl = { p with sk := p.sk.feed p.bl.ind, en := true } := by unfold Pr.endl; rw [if_neg hf]
    rw [e]
    rw [hf'] at c3
    obtain ⟨po, co, rfl, ho1, ho2⟩ := h.out.shape
    have HV : Hid (∀ V, Below W.heap.size W V → PG B V g N p (.slice po p.sk.out.length co) vb sm em ∧ B ≤ V.heap.size ∧ Below B W V) := fun V hV => ⟨h.below hV, Nat.le_trans hB hV.size, hV.mono hB⟩
    clear h e
    go_enter Tryz.func113, Tryz.ntmps113
    go_wp2_with (first | (at_builtin; refine app_bytes rfl _ _ rfl B _ p.sk.out [10] rfl (HV.out _ ((Below.refl _ _).alloc (Nat.le_refl _) _)).1.out W.heap.size 1 1 rfl rfl (new_at _ _) (by simp; omega) (HV.out _ ((Below.refl _ _).alloc (Nat.le_refl _) _)).2.1 ?_; intro v' w1 hr1 hb1; obtain ⟨pv, cv, ev, _, _⟩ := hr1.shape; simp only [List.length_append, List.length_cons, List.length_nil, Nat.zero_add] at ev; subst ev; obtain ⟨y1, fy, y3, KC⟩ := pends_mid (HV.out _ ((Below.refl _ _).alloc (Nat.le_refl _) _)).1 hf' (HV.out _ ((Below.refl _ _).alloc (Nat.le_refl _) _)).2.1 ha hr1 hb1; have fy1 := fy 1; have fy3 := fy 3; clear fy hr1 hb1))
    refine KC.out.mono ?_
    rintro e w3 ⟨rfl, fw, z4, z4', z2, z6, HEND⟩
    have fw4 := fw 4
    have fw2 := fw 2
    have fw6 := fw 6
    clear fw KC
    have hfd := fld98 p.bl.ind p.bl.ev p.bl.ft w3
    go_wp2_with fail
    go_end0
    exact ⟨rfl, HEND.out.1, ((HV.out _ ((Below.refl _ _).alloc (Nat.le_refl _) _)).2.2).trans HEND.out.2⟩
end Go.Proofs.YtmjhfabdbajchaaGreatDoor
set_option linter.unusedVariables false
set_option linter.unusedSimpArgs false
namespace Go.Proofs.YtmjhfabdbajchaaGreatDoor
open Go.RowKit
open Go.Lib (lastIdx lastIdx_hit lastIdx_miss lastIdx_spec)

theorem lastIdx_bd (t : ByteArray) (k : Nat) : -1 ≤ lastIdx t 10 k ∧ lastIdx t 10 k < k := by
  rcases lastIdx_spec t 10 k with ⟨h, _⟩ | ⟨i, hi, h, _⟩
  · rw [h]; omega
  · rw [h]; omega
theorem byte_at (t : ByteArray) (k : Nat) (h : k < t.size) : t.data[k]! = t[k]'h := by
  show t.data[k]! = t.data[k]'h
  exact getElem!_pos t.data k h

/-- The page, cell by cell. -/
structure RP (B : Nat) (W0 W : World) (g : Nat) (N col held : Int) (fr sm em : Bool) (vo vb : Value) (out : List UInt8) (n : Nat) (bl : List Value) : Prop where
  blk : W.heap[g]? = some (.cells #[.int .i64 N, vo, .int .i64 col, .bool fr, .int .i64 held, .bool sm, .bool em, vb] 92 (0, 0))
  out : Br B W vo out
  row : W.ownsRow B 89 3 vb n bl
  gB : B ≤ g
  hB : B ≤ W.heap.size
  bel : Below B W0 W
section
variable {B g n : Nat} {W0 W : World} {N col held : Int} {fr sm em : Bool} {vo vb : Value} {out : List UInt8} {bl : List Value}
theorem RP.of (h : RP B W0 W g N col held fr sm em vo vb out n bl) {W' : World} {col' held' : Int} {fr' sm' em' : Bool} (hk : Kp (fun k => k = g) W W') (hb : W'.heap[g]? = some (.cells #[.int .i64 N, vo, .int .i64 col', .bool fr', .int .i64 held', .bool sm', .bool em', vb] 92 (0, 0))) : RP B W0 W' g N col' held' fr' sm' em' vo vb out n bl :=
  ⟨hb, row_kp h.out hk h.blk (by decide), row_kp h.row hk h.blk (by decide), h.gB, Nat.le_trans h.hB hk.size, h.bel.trans (kp_below hk h.gB h.hB)⟩
theorem RP.set2 (h : RP B W0 W g N col held fr sm em vo vb out n bl) (x : Int) : RP B W0 (W.setCell ⟨g, 2, none⟩ (.int .i64 x)) g N x held fr sm em vo vb out n bl := h.of (Kp.set _ _ _ _) (blk_set h.blk 2 _)
theorem RP.set3 (h : RP B W0 W g N col held fr sm em vo vb out n bl) (x : Bool) : RP B W0 (W.setCell ⟨g, 3, none⟩ (.bool x)) g N col held x sm em vo vb out n bl := h.of (Kp.set _ _ _ _) (blk_set h.blk 3 _)
theorem RP.set4 (h : RP B W0 W g N col held fr sm em vo vb out n bl) (x : Int) : RP B W0 (W.setCell ⟨g, 4, none⟩ (.int .i64 x)) g N col x fr sm em vo vb out n bl := h.of (Kp.set _ _ _ _) (blk_set h.blk 4 _)
theorem RP.set5 (h : RP B W0 W g N col held fr sm em vo vb out n bl) (x : Bool) : RP B W0 (W.setCell ⟨g, 5, none⟩ (.bool x)) g N col held fr x em vo vb out n bl := h.of (Kp.set _ _ _ _) (blk_set h.blk 5 _)
theorem RP.set6 (h : RP B W0 W g N col held fr sm em vo vb out n bl) (x : Bool) : RP B W0 (W.setCell ⟨g, 6, none⟩ (.bool x)) g N col held fr sm x vo vb out n bl := h.of (Kp.set _ _ _ _) (blk_set h.blk 6 _)
theorem RP.below (h : RP B W0 W g N col held fr sm em vo vb out n bl) {W' : World} (hb : Below W.heap.size W W') : RP B W0 W' g N col held fr sm em vo vb out n bl :=
  ⟨blk_below h.blk hb, h.out.below hb, row_kept h.row hb, h.gB, Nat.le_trans h.hB hb.size, h.bel.trans (hb.mono h.hB)⟩
theorem RP.app (h : RP B W0 W g N col held fr sm em vo vb out n bl) {w1 : World} {v' : Value} {out' : List UInt8} (hr : Br B w1 v' out') (hb : Bw5 B W w1) : RP B W0 (w1.setCell ⟨g, 1, none⟩ v') g N col held fr sm em v' vb out' n bl ∧ w1.cell? ⟨g, 1, none⟩ = some vo ∧ w1.frozen? ⟨g, 1, none⟩ = false := by
  have b1 := hb.blk h.blk (by decide)
  have r1 := row_bw5 h.row hb (by decide)
  have hk := Kp.set w1 g 1 v'
  have hs : B ≤ w1.heap.size := Nat.le_trans h.hB hb.bel.size
  exact ⟨⟨blk_set b1 1 v', row_kp hr hk b1 (by decide), row_kp r1 hk b1 (by decide), h.gB, Nat.le_trans hs hk.size, (h.bel.trans hb.bel).trans (kp_below hk h.gB hs)⟩, blk_cell b1 rfl, blk_frozen b1⟩
theorem RP.cells (h : RP B W0 W g N col held fr sm em vo vb out n bl) : W.cell? ⟨g, 0, none⟩ = some (.int .i64 N) ∧ W.cell? ⟨g, 1, none⟩ = some vo ∧ W.cell? ⟨g, 2, none⟩ = some (.int .i64 col) ∧ W.cell? ⟨g, 3, none⟩ = some (.bool fr) ∧ W.cell? ⟨g, 4, none⟩ = some (.int .i64 held) ∧ W.cell? ⟨g, 5, none⟩ = some (.bool sm) ∧ W.cell? ⟨g, 6, none⟩ = some (.bool em) ∧ W.cell? ⟨g, 7, none⟩ = some vb :=
  ⟨blk_cell h.blk rfl, blk_cell h.blk rfl, blk_cell h.blk rfl, blk_cell h.blk rfl, blk_cell h.blk rfl, blk_cell h.blk rfl, blk_cell h.blk rfl, blk_cell h.blk rfl⟩
theorem RP.fz (h : RP B W0 W g N col held fr sm em vo vb out n bl) (j : Nat) : W.frozen? ⟨g, j, none⟩ = false := blk_frozen h.blk
end
theorem PG.rp {B : Nat} {W : World} {g N : Nat} {p : Pr} {vo vb : Value} {sm em : Bool} (h : PG B W g N p vo vb sm em) (hB : B ≤ W.heap.size) : RP B W W g N (p.at : Nat) (hld p : Nat) p.sk.fresh sm em vo vb p.sk.out (p.ar.length + 1) (Go.Proofs.YtmjhfabdbajchaaGreatDoor.pbs (p.ar.reverse ++ [p.bl])) :=
  ⟨h.blk, h.out, h.pbs, h.gB, hB, Below.refl _ _⟩
/-- The column behind a text. -/
def lcol (t : ByteArray) (c : Int) : Int := if lf t < 0 then c else 0

set_option maxHeartbeats 2000000 in
set_option maxRecDepth 100000 in
theorem ptx_any {B g N : Nat} {W : World} {p : Pr} (h : Pg B W g N p) (hB : B ≤ W.heap.size) (t : ByteArray) (ht0 : 0 < t.size) (hl : p.at ≤ 1000000000) (ho : p.sk.out.length + hld p + t.size ≤ 1000000000) :
    Calls Tryz.prog 111 #[.pointer (some ⟨g, 0, none⟩), .string t] W fun e w' => e = .returned (.tuple #[]) ∧ Pg B w' g N { p with sk := p.sk.text t, en := false } ∧ Below B W w' := by
  obtain ⟨vo, vb, sm, em, h⟩ := h
  have hlf := lf_bd t
  have htb := tw_bd (aft t)
  have hsa := aft_size t
  have HFIN : Hid (∀ V v, RP B W V g N (lcol t (p.at : Nat) + tw (aft t)) 0 false true false v vb ((p.sk.out ++ rep (hld p)) ++ lsb t) (p.ar.length + 1) (pbs (p.ar.reverse ++ [p.bl])) → Pg B V g N { p with sk := p.sk.text t, en := false } ∧ Below B W V) := by
    intro V v hv
    have hst : p.sk.text t = ⟨false, (ncol p.sk.col p.sk.wait t).toNat, 0, p.sk.out ++ ((if p.sk.fresh then rep p.sk.col else []) ++ (rep p.sk.wait ++ lsb t))⟩ := by
      unfold St6.text; rw [if_neg (by omega)]; rfl
    have hoo : (p.sk.out ++ rep (hld p)) ++ lsb t = (p.sk.text t).out := by
      rw [hst]
      unfold hld
      cases hf : p.sk.fresh
      · simp
      · simp [h.wt hf, rep]
    have hnc : (((p.sk.text t).col : Nat) : Int) = lcol t (p.at : Nat) + tw (aft t) := by
      rw [hst]
      show (((ncol p.sk.col p.sk.wait t).toNat : Nat) : Int) = _
      have h1 := tw_bd t
      unfold ncol lcol Pr.at
      by_cases hlt : lf t < 0
      · rw [if_pos hlt, if_pos hlt]
        have : aft t = t := by
          unfold aft
          rw [show (lf t + 1).toNat = 0 by omega]
          apply ls_inj
          have e : (t.extract 0 t.size).data = t.data.extract 0 t.size := ByteArray.data_extract
          show (t.extract 0 t.size).data.toList = t.data.toList
          rw [e]
          show (t.data.extract 0 t.data.size).toList = t.data.toList
          rw [Array.extract_size]
        rw [this]; omega
      · rw [if_neg hlt, if_neg hlt]; omega
    refine ⟨⟨v, vb, true, false, ?_, ?_, hv.row, ?_, fun _ => rfl, ?_, h.gB⟩, hv.bel⟩
    · have e1 : ((({ p with sk := p.sk.text t, en := false } : Pr).at : Nat) : Int) = lcol t (p.at : Nat) + tw (aft t) := by
        rw [← hnc]; unfold Pr.at
        show (((p.sk.text t).col + (p.sk.text t).wait : Nat) : Int) = _
        rw [hst]; simp
      have e2 : hld ({ p with sk := p.sk.text t, en := false } : Pr) = 0 := by
        unfold hld
        show (if (p.sk.text t).fresh then (p.sk.text t).col else (p.sk.text t).wait) = 0
        rw [hst]; rfl
      have e3 : (({ p with sk := p.sk.text t, en := false } : Pr).sk.fresh) = false := by show (p.sk.text t).fresh = false; rw [hst]
      rw [e1, e2, e3]
      exact hv.blk
    · show Br B V v (p.sk.text t).out
      rw [← hoo]; exact hv.out
    · show false = ((p.sk.text t).fresh && true && !false)
      rw [hst]; rfl
    · intro h2
      have : (p.sk.text t).fresh = true := h2
      rw [hst] at this; cases this
  have HR : Hid (RP B W W g N (p.at : Nat) (hld p : Nat) p.sk.fresh sm em vo vb p.sk.out (p.ar.length + 1) (pbs (p.ar.reverse ++ [p.bl]))) := h.rp hB
  clear h
  generalize p.at = a at *
  generalize hld p = H at *
  generalize p.sk.out = O at *
  generalize p.sk.fresh = fr at *
  generalize p.ar.length + 1 = L at *
  generalize pbs (p.ar.reverse ++ [p.bl]) = bl at *
  go_enter Tryz.func111, Tryz.ntmps111
  go_wp2_with fail
  go_loopw [4] (fun i wr => ∃ (k : Nat) (v : Value), k ≤ H ∧ i = .int .i64 k ∧ Hid (RP B W wr g N (a : Nat) (H : Nat) fr sm em v vb (O ++ rep k) L bl)) (fun i _ => H - (intOf i).toNat)
  case atStart => exact ⟨0, vo, Nat.zero_le _, rfl, by show RP _ _ _ _ _ _ _ _ _ _ _ _ _ _ _; simpa [rep] using HR.out⟩
  case round =>
    obtain ⟨k, v, hk, rfl, HI⟩ := hrel
    obtain ⟨c0, c1, c2, c3, c4, c5, c6, c7⟩ := HI.out.cells
    have fz := HI.out.fz
    have f4 := fz 4
    have hol : (O ++ rep k).length = O.length + k := by simp [rep]
    obtain ⟨Z, hZ⟩ : ∃ Z, O ++ rep k = Z := ⟨_, rfl⟩
    rw [hZ] at HI hol
    have hZl : Z.length + t.size ≤ 1000000000 := by omega
    have HZ : Hid (O ++ rep k = Z) := hZ
    clear hol hZ
    obtain ⟨pv, cv, ev, _, _⟩ := HI.out.out.shape
    subst ev
    by_cases hlt : k < H
    · have q1 : (k : Int) < H := by omega
      have HA : Hid (∀ o, RP B W (wr.alloc o) g N (a : Nat) (H : Nat) fr sm em (.slice pv Z.length cv) vb Z L bl) := fun o => HI.out.below ((Below.refl _ _).alloc (Nat.le_refl _) _)
      have HS : Hid (O ++ rep (k + 1) = Z ++ [32]) := by show _ = _; rw [← HZ.out]; simp [rep, List.replicate_succ']
      clear HI fz
      go_wp2_with (first | (at_builtin; refine app_bytes rfl _ _ rfl B _ Z [32] rfl (HA.out _).out wr.heap.size 1 1 rfl rfl (new_at _ _) (by simp; omega) (HA.out _).hB ?_; intro v' w1 hr1 hb1; obtain ⟨HP, y1, fy1⟩ := (HA.out _).app hr1 hb1; obtain ⟨pv', cv', ev', _, _⟩ := hr1.shape; simp only [List.length_append, List.length_cons, List.length_nil, Nat.zero_add] at ev'; subst ev'; have HPP : Hid (RP B W (w1.setCell ⟨g, 1, none⟩ (.slice pv' (Z.length + 1) cv')) g N (a : Nat) (H : Nat) fr sm em (.slice pv' (Z.length + 1) cv') vb (Z ++ [32]) L bl) := HP; clear HP hr1 hb1))
      exact ⟨⟨k + 1, _, hlt, by go_num, by rw [HS.out]; exact HPP.out⟩, by simp [intOf]; omega⟩
    · obtain rfl : k = H := by omega
      have q1 : ¬ ((k : Int) < k) := by omega
      have HA : Hid (RP B W (wr.setCell ⟨g, 4, none⟩ (.int .i64 0)) g N (a : Nat) 0 fr sm em (.slice pv Z.length cv) vb Z L bl) := HI.out.set4 0
      obtain ⟨_, d1, _⟩ := HA.out.cells
      rw [HZ.out] at HFIN
      clear HI fz HZ
      go_wp2_with (first | (at_builtin; refine app_str rfl _ _ rfl B _ Z t rfl HA.out.out rfl (by omega) HA.out.hB ?_; intro v' w1 hr1 hb1; obtain ⟨HP, y1, fy1⟩ := HA.out.app hr1 hb1; obtain ⟨pv', cv', ev', _, _⟩ := hr1.shape; simp only [List.length_append, ls_len] at ev'; subst ev'; have HPP : Hid (RP B W (w1.setCell ⟨g, 1, none⟩ (.slice pv' (Z.length + t.size) cv')) g N (a : Nat) 0 fr sm em (.slice pv' (Z.length + t.size) cv') vb (Z ++ lsb t) L bl) := HP; clear HP hr1 hb1))
      go_loopw [5, 6] (fun f j wz => ∃ k : Nat, k ≤ t.size ∧ f = .int .i64 (lastIdx t 10 k) ∧ j = .int .i64 k ∧ Hid (RP B W wz g N (a : Nat) 0 fr sm em (.slice pv' (Z.length + t.size) cv') vb (Z ++ lsb t) L bl)) (fun _ j _ => t.size - (intOf j).toNat)
      case atStart => exact ⟨0, Nat.zero_le _, rfl, rfl, HPP.out⟩
      case round =>
        obtain ⟨m, hm, rfl, rfl, HI⟩ := hrel
        by_cases hlt2 : m < t.size
        · have q2 : (m : Int) < t.size := by omega
          have q3 : (0 : Int) ≤ m := by omega
          have hba := byte_at t m hlt2
          by_cases h10 : ((t[m]'hlt2).toNat : Int) = 10
          · have h5 : (((t[m]'hlt2).toNat : Int) == 10) = true := by rw [h10]; rfl
            have HS : Hid (lastIdx t 10 (m + 1) = m) := lastIdx_hit t 10 m (by rw [hba]; exact h10)
            clear hba h10
            go_wp2_with fail
            exact ⟨⟨m + 1, hlt2, by rw [HS.out], by go_num, HI.out⟩, by simp [intOf]; omega⟩
          · have h5 : (((t[m]'hlt2).toNat : Int) == 10) = false := by simp; omega
            have HS : Hid (lastIdx t 10 (m + 1) = lastIdx t 10 m) := lastIdx_miss t 10 m (by rw [hba]; exact h10)
            clear hba h10
            go_wp2_with fail
            exact ⟨⟨m + 1, hlt2, by rw [HS.out], by go_num, HI.out⟩, by simp [intOf]; omega⟩
        · obtain rfl : m = t.size := by omega
          have q2 : ¬ ((t.size : Int) < t.size) := by omega
          obtain ⟨M, hM⟩ : ∃ M : Nat, lf t + 1 = M := ⟨(lf t + 1).toNat, by omega⟩
          have e9 : lastIdx t 10 t.size = (M : Int) - 1 := by show lf t = _; omega
          rw [e9]
          obtain ⟨y, hy⟩ : ∃ y, tw (aft t) = y := ⟨_, rfl⟩
          have HAF : Hid (aft t = t.extract M t.size ∧ tw (aft t) = y) := ⟨by unfold aft; rw [hM]; rfl, hy⟩
          have j1 : (M : Int) ≤ t.size := by omega
          have j2 : M ≤ t.size := by omega
          have hyb : 0 ≤ y ∧ y ≤ 2147483648 := by rw [← hy]; omega
          have w1 : IntKind.i64.wrap ((M : Int) - 1 + 1) = M := by rw [IntKind.wrap_i64]; omega
          have w2 : IntKind.i64.wrap (M : Int) = M := by rw [IntKind.wrap_i64]; omega
          have j0 : (0 : Int) ≤ M := by omega
          have j3 : (M : Int) - 1 + 1 = M := by omega
          have j4 : ((t.size : Nat) : Int) ≤ 9223372036854775807 := by omega
          have j5 : ¬ (t.size : Int) < M := by omega
          have j6 : ¬ (M : Int) < 0 := by omega
          have j7 : ¬ t.size < M := by omega
          by_cases hM0 : M = 0
          · have q5 : ¬ ((0 : Int) ≤ (M : Int) - 1) := by omega
            have hlc : lcol t (a : Nat) = (a : Nat) := by unfold lcol; rw [if_pos (by omega)]
            rw [hlc, hy] at HFIN
            clear hlc hy e9 hM hlf hM0
            go_wp2_with fail
            obtain ⟨V, hV⟩ : ∃ V, wr = V := ⟨_, rfl⟩
            have HV : Hid (RP B W V g N ((a : Nat) : Int) 0 fr sm em (.slice pv' (Z.length + t.size) cv') vb (Z ++ lsb t) L bl) := by show RP _ _ _ _ _ _ _ _ _ _ _ _ _ _ _; rw [← hV]; exact HI.out
            rw [hV]
            clear hV HI
            have x2 : V.cell? ⟨g, 2, none⟩ = some (.int .i64 ((a : Nat) : Int)) := HV.out.cells.2.2.1
            have u2 := HV.out.fz 2
            have HC : Hid (∀ V', Below V.heap.size V V' → Calls Tryz.prog 140 #[.string (t.extract M t.size)] V' fun e w5 => e = .returned (.int .i64 y) ∧ Hid (RP B W w5 g N ((a : Nat) : Int) 0 fr sm em (.slice pv' (Z.length + t.size) cv') vb (Z ++ lsb t) L bl) ∧ w5.cell? ⟨g, 2, none⟩ = some (.int .i64 ((a : Nat) : Int)) ∧ w5.frozen? ⟨g, 2, none⟩ = false) := fun V' hV' => by
              rw [← HAF.out.1, ← HAF.out.2]
              refine (rtext_any (aft t) V' (by omega)).mono ?_
              rintro e w5 ⟨rfl, hb⟩
              have h5 := HV.out.below (hV'.trans (hb.mono hV'.size))
              exact ⟨rfl, h5, h5.cells.2.2.1, h5.fz 2⟩
            go_region_with (go_at_call 140; refine (HC.out _ (by first | exact (Below.refl _ _).drew | exact Below.refl _ _ | exact (Below.refl _ _).drew.drew)).mono ?_; rintro e w5 ⟨rfl, HR5, k1, k2⟩)
            all_goals
              have hE := HFIN.out _ _ ((((HR5.out.set2 (((a : Nat) : Int) + y)).set3 false).set5 true).set6 false)
              have x3 := (HR5.out.set2 (((a : Nat) : Int) + y)).cells.2.2.2.1
              have x5 := ((HR5.out.set2 (((a : Nat) : Int) + y)).set3 false).cells.2.2.2.2.2.1
              have x6 := (((HR5.out.set2 (((a : Nat) : Int) + y)).set3 false).set5 true).cells.2.2.2.2.2.2.1
              have fz := HR5.out.fz
              have f3 := fz 3
              have f5 := fz 5
              have f6 := fz 6
              have HE : Hid (Pg B ((((w5.setCell ⟨g, 2, none⟩ (.int .i64 (((a : Nat) : Int) + y))).setCell ⟨g, 3, none⟩ (.bool false)).setCell ⟨g, 5, none⟩ (.bool true)).setCell ⟨g, 6, none⟩ (.bool false)) g N { p with sk := p.sk.text t, en := false } ∧ Below B W ((((w5.setCell ⟨g, 2, none⟩ (.int .i64 (((a : Nat) : Int) + y))).setCell ⟨g, 3, none⟩ (.bool false)).setCell ⟨g, 5, none⟩ (.bool true)).setCell ⟨g, 6, none⟩ (.bool false))) := hE
              clear hE fz HR5 HFIN HC
              go_wp2_with fail
              go_end0
              exact ⟨rfl, HE.out⟩
          · have q5 : (0 : Int) ≤ (M : Int) - 1 := by omega
            have hlc : lcol t (a : Nat) = 0 := by unfold lcol; rw [if_neg (by omega)]
            rw [hlc, hy] at HFIN
            have g2 := HI.out.cells.2.2.1
            have v2 := HI.out.fz 2
            clear hlc hy e9 hM hlf hM0
            go_wp2_with fail
            obtain ⟨V, hV⟩ : ∃ V, wr.setCell ⟨g, 2, none⟩ (.int .i64 0) = V := ⟨_, rfl⟩
            have HV : Hid (RP B W V g N 0 0 fr sm em (.slice pv' (Z.length + t.size) cv') vb (Z ++ lsb t) L bl) := by show RP _ _ _ _ _ _ _ _ _ _ _ _ _ _ _; rw [← hV]; exact HI.out.set2 0
            rw [hV]
            clear hV HI
            have x2 : V.cell? ⟨g, 2, none⟩ = some (.int .i64 0) := HV.out.cells.2.2.1
            have u2 := HV.out.fz 2
            have HC : Hid (∀ V', Below V.heap.size V V' → Calls Tryz.prog 140 #[.string (t.extract M t.size)] V' fun e w5 => e = .returned (.int .i64 y) ∧ Hid (RP B W w5 g N 0 0 fr sm em (.slice pv' (Z.length + t.size) cv') vb (Z ++ lsb t) L bl) ∧ w5.cell? ⟨g, 2, none⟩ = some (.int .i64 0) ∧ w5.frozen? ⟨g, 2, none⟩ = false) := fun V' hV' => by
              rw [← HAF.out.1, ← HAF.out.2]
              refine (rtext_any (aft t) V' (by omega)).mono ?_
              rintro e w5 ⟨rfl, hb⟩
              have h5 := HV.out.below (hV'.trans (hb.mono hV'.size))
              exact ⟨rfl, h5, h5.cells.2.2.1, h5.fz 2⟩
            go_region_with (go_at_call 140; refine (HC.out _ (by first | exact (Below.refl _ _).drew | exact Below.refl _ _ | exact (Below.refl _ _).drew.drew)).mono ?_; rintro e w5 ⟨rfl, HR5, k1, k2⟩)
            all_goals
              have hE := HFIN.out _ _ ((((HR5.out.set2 (0 + y)).set3 false).set5 true).set6 false)
              have x3 := (HR5.out.set2 (0 + y)).cells.2.2.2.1
              have x5 := ((HR5.out.set2 (0 + y)).set3 false).cells.2.2.2.2.2.1
              have x6 := (((HR5.out.set2 (0 + y)).set3 false).set5 true).cells.2.2.2.2.2.2.1
              have fz := HR5.out.fz
              have f3 := fz 3
              have f5 := fz 5
              have f6 := fz 6
              have HE : Hid (Pg B ((((w5.setCell ⟨g, 2, none⟩ (.int .i64 (0 + y))).setCell ⟨g, 3, none⟩ (.bool false)).setCell ⟨g, 5, none⟩ (.bool true)).setCell ⟨g, 6, none⟩ (.bool false)) g N { p with sk := p.sk.text t, en := false } ∧ Below B W ((((w5.setCell ⟨g, 2, none⟩ (.int .i64 (0 + y))).setCell ⟨g, 3, none⟩ (.bool false)).setCell ⟨g, 5, none⟩ (.bool true)).setCell ⟨g, 6, none⟩ (.bool false))) := hE
              clear hE fz HR5 HFIN HC
              simp only [Int.zero_add] at *
              go_wp2_with fail
              go_end0
              exact ⟨rfl, HE.out⟩
end Go.Proofs.YtmjhfabdbajchaaGreatDoor
set_option linter.unusedVariables false
set_option linter.unusedSimpArgs false
namespace Go.Proofs.YtmjhfabdbajchaaGreatDoor
open Go.RowKit

theorem Pg.below {B : Nat} {W W' : World} {g N : Nat} {p : Pr} (h : Pg B W g N p) (hb : Below W.heap.size W W') : Pg B W' g N p := by
  obtain ⟨vo, vb, sm, em, h⟩ := h
  exact ⟨vo, vb, sm, em, h.below hb⟩
/-! A piece is printed: those kinds that look at no width. -/
theorem prn_text {B g N : Nat} {W : World} {p : Pr} (h : Pg B W g N p) (hB : B ≤ W.heap.size) (t : ByteArray) (ht0 : 0 < t.size) (hl : p.at ≤ 1000000000) (ho : p.sk.out.length + hld p + t.size ≤ 1000000000) (wide : Int) (need : Nat) :
    Calls Tryz.prog 71 #[.pointer (some ⟨g, 0, none⟩), .agg #[.int .u8 1, .string t, .int .i64 0, .int .i64 0, .bool false], .int .i64 wide] W fun e w' => e = .returned (.tuple #[]) ∧ Pg B w' g N (put N ⟨1, t, 0, 0, false⟩ need p) ∧ Below B W w' := by
  have e : put N ⟨1, t, 0, 0, false⟩ need p = { p with sk := p.sk.text t, en := false } := by simp [put]
  rw [e]
  have hb1 : ∀ o, Below W.heap.size W (W.alloc o) := fun o => (Below.refl _ _).alloc (Nat.le_refl _) _
  have HC : Hid (∀ o, Calls Tryz.prog 111 #[.pointer (some ⟨g, 0, none⟩), .string t] (W.alloc o) fun e w' => e = .returned (.tuple #[]) ∧ Pg B w' g N { p with sk := p.sk.text t, en := false } ∧ Below B W w') := fun o =>
    (ptx_any (h.below (hb1 o)) (Nat.le_trans hB (hb1 o).size) t ht0 hl ho).mono fun e w' ⟨a1, a2, a3⟩ => ⟨a1, a2, ((hb1 o).mono hB).trans a3⟩
  clear h e hb1
  go_enter Tryz.func71, Tryz.ntmps71
  go_wp2_with fail
  refine (HC.out _).mono ?_
  rintro e w1 ⟨rfl, HP⟩
  have HPH : Hid (Pg B w1 g N { p with sk := p.sk.text t, en := false } ∧ Below B W w1) := HP
  clear HP HC
  go_wp2_with fail
  go_end0
  exact ⟨rfl, HPH.out⟩
theorem prn_blank {B g N : Nat} {W : World} {p : Pr} (h : Pg B W g N p) (hB : B ≤ W.heap.size) (hl : p.at ≤ 1000000000) (wide : Int) (need : Nat) :
    Calls Tryz.prog 71 #[.pointer (some ⟨g, 0, none⟩), .agg #[.int .u8 2, .string bE, .int .i64 0, .int .i64 0, .bool false], .int .i64 wide] W fun e w' => e = .returned (.tuple #[]) ∧ Pg B w' g N (put N ⟨2, bE, 0, 0, false⟩ need p) ∧ Below B W w' := by
  have e : put N ⟨2, bE, 0, 0, false⟩ need p = p.hold 1 := by simp [put]
  rw [e]
  have hb1 : ∀ o, Below W.heap.size W (W.alloc o) := fun o => (Below.refl _ _).alloc (Nat.le_refl _) _
  have HC : Hid (∀ o, Calls Tryz.prog 112 #[.pointer (some ⟨g, 0, none⟩), .int .i64 1] (W.alloc o) fun e w' => e = .returned (.tuple #[]) ∧ Pg B w' g N (p.hold 1) ∧ Below B W w') := fun o =>
    (pblanks_any (h.below (hb1 o)) (Nat.le_trans hB (hb1 o).size) 1 (by omega) hl).mono fun e w' ⟨a1, a2, a3⟩ => ⟨a1, a2, ((hb1 o).mono hB).trans a3⟩
  clear h e hb1
  go_enter Tryz.func71, Tryz.ntmps71
  go_wp2_with fail
  refine (HC.out _).mono ?_
  rintro e w1 ⟨rfl, HP⟩
  have HPH : Hid (Pg B w1 g N (p.hold 1) ∧ Below B W w1) := HP
  clear HP HC
  go_wp2_with fail
  go_end0
  exact ⟨rfl, HPH.out⟩
theorem prn_hard {B g N : Nat} {W : World} {p : Pr} (h : Pg B W g N p) (hB : B ≤ W.heap.size) (hl : p.at ≤ 1000000000) (ho : p.sk.out.length ≤ 1000000000) (ha : p.ar.length ≤ 100000000) (hi : p.bl.ind ≤ 1000) (wide : Int) (need : Nat) :
    Calls Tryz.prog 71 #[.pointer (some ⟨g, 0, none⟩), .agg #[.int .u8 4, .string bE, .int .i64 0, .int .i64 0, .bool false], .int .i64 wide] W fun e w' => e = .returned (.tuple #[]) ∧ Pg B w' g N (put N ⟨4, bE, 0, 0, false⟩ need p) ∧ Below B W w' := by
  have e : put N ⟨4, bE, 0, 0, false⟩ need p = p.endl := by simp [put]
  rw [e]
  have hb1 : ∀ o, Below W.heap.size W (W.alloc o) := fun o => (Below.refl _ _).alloc (Nat.le_refl _) _
  have HC : Hid (∀ o, Calls Tryz.prog 113 #[.pointer (some ⟨g, 0, none⟩)] (W.alloc o) fun e w' => e = .returned (.tuple #[]) ∧ Pg B w' g N p.endl ∧ Below B W w') := fun o =>
    (pends_any (h.below (hb1 o)) (Nat.le_trans hB (hb1 o).size) hl ho ha hi).mono fun e w' ⟨a1, a2, a3⟩ => ⟨a1, a2, ((hb1 o).mono hB).trans a3⟩
  clear h e hb1
  go_enter Tryz.func71, Tryz.ntmps71
  go_wp2_with fail
  refine (HC.out _).mono ?_
  rintro e w1 ⟨rfl, HP⟩
  have HPH : Hid (Pg B w1 g N p.endl ∧ Below B W w1) := HP
  clear HP HC
  go_wp2_with fail
  go_end0
  exact ⟨rfl, HPH.out⟩
end Go.Proofs.YtmjhfabdbajchaaGreatDoor
set_option linter.unusedVariables false
set_option linter.unusedSimpArgs false
namespace Go.Proofs.YtmjhfabdbajchaaGreatDoor
open Go.RowKit

theorem fits_eq {N need wide : Nat} {p : Pr} (hN : N ≤ 4096) (hw : need = min wide 4097) : p.fits N need = decide ((wide : Int) ≤ (N : Int) - (p.at : Nat)) := by
  unfold Pr.fits
  rw [decide_eq_decide]
  omega
theorem pblock_pg {B g N : Nat} {W : World} {p : Pr} (h : Pg B W g N p) (hl : p.ar.length ≤ 100000000) : Calls Tryz.prog 69 #[.pointer (some ⟨g, 0, none⟩)] W fun e w' => e = .returned (.agg #[.int .i64 (p.bl.ind : Int), .bool p.bl.ev, .bool p.bl.ft]) ∧ Below W.heap.size W w' := by
  obtain ⟨vo, vb, sm, em, h⟩ := h
  exact pblock_any h.cells.2.2.2.2.2.2.2 h.pbs hl
theorem room_pg {B g N : Nat} {W : World} {p : Pr} (h : Pg B W g N p) (hN : N ≤ 4096) (hl : p.at ≤ 1000000000) : Calls Tryz.prog 108 #[.pointer (some ⟨g, 0, none⟩)] W fun e w' => e = .returned (.int .i64 ((N : Int) - (p.at : Nat))) ∧ Below W.heap.size W w' := by
  obtain ⟨vo, vb, sm, em, h⟩ := h
  exact room_any h hN hl
set_option maxHeartbeats 1000000 in
theorem prn_brk {B g N : Nat} {W : World} {p : Pr} (h : Pg B W g N p) (hB : B ≤ W.heap.size) (hN : N ≤ 4096) (hl : p.at ≤ 1000000000) (ho : p.sk.out.length ≤ 1000000000) (ha : p.ar.length ≤ 100000000) (hi : p.bl.ind ≤ 1000) (m : Nat) (hm : m ≤ 1000) (wide need : Nat) (hwd : wide ≤ 1099511627776) (hw : need = min wide 4097) :
    Calls Tryz.prog 71 #[.pointer (some ⟨g, 0, none⟩), .agg #[.int .u8 3, .string bE, .int .i64 (m : Int), .int .i64 0, .bool false], .int .i64 (wide : Int)] W fun e w' => e = .returned (.tuple #[]) ∧ Pg B w' g N (put N ⟨3, bE, m, 0, false⟩ need p) ∧ Below B W w' := by
  have e : put N ⟨3, bE, m, 0, false⟩ need p = if p.brk N need then p.endl else p.hold m := by simp [put]
  rw [e]
  have hfit := fits_eq (p := p) hN hw
  have hbr : p.brk N need = if p.bl.ev then !p.bl.ft else !p.fits N need := rfl
  have HP : Hid (∀ V, Below W.heap.size W V → Pg B V g N p ∧ B ≤ V.heap.size ∧ Below B W V) := fun V hV => ⟨h.below hV, Nat.le_trans hB hV.size, hV.mono hB⟩
  have H53 : Hid (∀ V, Below W.heap.size W V → Calls Tryz.prog 69 #[.pointer (some ⟨g, 0, none⟩)] V fun e w' => e = .returned (.agg #[.int .i64 (p.bl.ind : Int), .bool p.bl.ev, .bool p.bl.ft]) ∧ Below V.heap.size V w') := fun V hV => pblock_pg (HP.out V hV).1 ha
  have H54 : Hid (∀ V, Below W.heap.size W V → Calls Tryz.prog 108 #[.pointer (some ⟨g, 0, none⟩)] V fun e w' => e = .returned (.int .i64 ((N : Int) - (p.at : Nat))) ∧ Below V.heap.size V w') := fun V hV => room_pg (HP.out V hV).1 hN hl
  have H52 : Hid (∀ V, Below W.heap.size W V → Calls Tryz.prog 113 #[.pointer (some ⟨g, 0, none⟩)] V fun e w' => e = .returned (.tuple #[]) ∧ Hid (Pg B w' g N p.endl ∧ Below B W w')) := fun V hV => (pends_any (HP.out V hV).1 (HP.out V hV).2.1 hl ho ha hi).mono fun e w' ⟨a1, a2, a3⟩ => ⟨a1, a2, (HP.out V hV).2.2.trans a3⟩
  have H51 : Hid (∀ V, Below W.heap.size W V → Calls Tryz.prog 112 #[.pointer (some ⟨g, 0, none⟩), .int .i64 (m : Int)] V fun e w' => e = .returned (.tuple #[]) ∧ Hid (Pg B w' g N (p.hold m) ∧ Below B W w')) := fun V hV => (pblanks_any (HP.out V hV).1 (HP.out V hV).2.1 m (by omega) hl).mono fun e w' ⟨a1, a2, a3⟩ => ⟨a1, a2, (HP.out V hV).2.2.trans a3⟩
  obtain ⟨Q, hQ⟩ : ∃ Q : Pr, (if p.brk N need then p.endl else p.hold m) = Q := ⟨_, rfl⟩
  rw [hQ]
  rw [hbr, hfit] at hQ
  have HQ : Hid ((if (if p.bl.ev then !p.bl.ft else !decide ((wide : Int) ≤ (N : Int) - (p.at : Nat))) then p.endl else p.hold m) = Q) := hQ
  clear hQ hbr hfit e h HP
  generalize p.bl.ind = bi at *
  generalize p.bl.ev = be at *
  generalize p.bl.ft = bf at *
  generalize p.at = a at *
  generalize p.endl = P1 at *
  generalize p.hold m = P2 at *
  have hbd : ∀ o, Below W.heap.size W (W.alloc o) := fun o => (Below.refl _ _).alloc (Nat.le_refl _) _
  have HBD : Hid (∀ o, Below W.heap.size W (W.alloc o)) := hbd
  clear hbd
  cases be with
  | false =>
    by_cases hr : (wide : Int) ≤ (N : Int) - (a : Nat)
    · have hq : ¬ ((N : Int) - (a : Nat) < wide) := by omega
      simp only [hr, Bool.false_eq_true, if_false, decide_true, Bool.not_true] at HQ
      go_enter Tryz.func71, Tryz.ntmps71
      go_wp2_with (first | (go_at_call 69; refine (H53.out _ (HBD.out _)).mono ?_; rintro e w2 ⟨rfl, hb2⟩; have hbw2 : Below W.heap.size W w2 := (HBD.out _).trans (hb2.mono (HBD.out _).size); have HB2 : Hid (∀ o, Below W.heap.size W (w2.alloc o)) := (fun o => hbw2.alloc hbw2.size _); have hdb := (blk_below (new_at W (.cells #[.int .u8 3, .string bE, .int .i64 (m : Int), .int .i64 0, .bool false] 37)) hb2); have dw : ∀ o, (w2.alloc o).cell? ⟨W.heap.size, 2, none⟩ = some (.int .i64 (m : Int)) := (fun o => blk_cell (blk_below hdb ((Below.refl _ _).alloc (Nat.le_refl _) o)) rfl); clear hb2 hbw2 hdb) | (go_at_call 108; refine (H54.out _ (HB2.out _)).mono ?_; rintro e w3 ⟨rfl, hb3⟩; have HB3 : Hid (Below W.heap.size W w3) := (HB2.out _).trans (hb3.mono (HB2.out _).size); have hbb := (blk_below (new_at w2 (.cells #[.int .i64 (bi : Int), .bool false, .bool bf] 89)) hb3); have z1 := blk_cell (k := 1) hbb rfl; have z2 := blk_cell (k := 2) hbb rfl; have z3 : w3.cell? ⟨W.heap.size, 2, none⟩ = some (.int .i64 (m : Int)) := ((hb3.cell (World.block_lt_of_cell? _ _ (dw _))).trans (dw _)); clear hb3 hbb) | (go_at_call 113; refine (H52.out _ (by first | exact HB3.out | exact HB2.out _)).mono ?_; rintro e w4 ⟨rfl, HE⟩) | (go_at_call 112; refine (H51.out _ (by first | exact HB3.out | exact HB2.out _)).mono ?_; rintro e w4 ⟨rfl, HE⟩))
      go_end0
      exact ⟨rfl, by rw [← HQ.out]; exact HE.out⟩
    · have hq : (N : Int) - (a : Nat) < wide := by omega
      simp only [hr, Bool.false_eq_true, if_false, decide_false, Bool.not_false, if_true] at HQ
      go_enter Tryz.func71, Tryz.ntmps71
      go_wp2_with (first | (go_at_call 69; refine (H53.out _ (HBD.out _)).mono ?_; rintro e w2 ⟨rfl, hb2⟩; have hbw2 : Below W.heap.size W w2 := (HBD.out _).trans (hb2.mono (HBD.out _).size); have HB2 : Hid (∀ o, Below W.heap.size W (w2.alloc o)) := (fun o => hbw2.alloc hbw2.size _); have hdb := (blk_below (new_at W (.cells #[.int .u8 3, .string bE, .int .i64 (m : Int), .int .i64 0, .bool false] 37)) hb2); have dw : ∀ o, (w2.alloc o).cell? ⟨W.heap.size, 2, none⟩ = some (.int .i64 (m : Int)) := (fun o => blk_cell (blk_below hdb ((Below.refl _ _).alloc (Nat.le_refl _) o)) rfl); clear hb2 hbw2 hdb) | (go_at_call 108; refine (H54.out _ (HB2.out _)).mono ?_; rintro e w3 ⟨rfl, hb3⟩; have HB3 : Hid (Below W.heap.size W w3) := (HB2.out _).trans (hb3.mono (HB2.out _).size); have hbb := (blk_below (new_at w2 (.cells #[.int .i64 (bi : Int), .bool false, .bool bf] 89)) hb3); have z1 := blk_cell (k := 1) hbb rfl; have z2 := blk_cell (k := 2) hbb rfl; have z3 : w3.cell? ⟨W.heap.size, 2, none⟩ = some (.int .i64 (m : Int)) := ((hb3.cell (World.block_lt_of_cell? _ _ (dw _))).trans (dw _)); clear hb3 hbb) | (go_at_call 113; refine (H52.out _ (by first | exact HB3.out | exact HB2.out _)).mono ?_; rintro e w4 ⟨rfl, HE⟩) | (go_at_call 112; refine (H51.out _ (by first | exact HB3.out | exact HB2.out _)).mono ?_; rintro e w4 ⟨rfl, HE⟩))
      go_end0
      exact ⟨rfl, by rw [← HQ.out]; exact HE.out⟩
  | true =>
    cases bf with
    | false =>
      simp only [if_true, Bool.not_false] at HQ
      go_enter Tryz.func71, Tryz.ntmps71
      go_wp2_with (first | (go_at_call 69; refine (H53.out _ (HBD.out _)).mono ?_; rintro e w2 ⟨rfl, hb2⟩; have hbw2 : Below W.heap.size W w2 := (HBD.out _).trans (hb2.mono (HBD.out _).size); have HB2 : Hid (∀ o, Below W.heap.size W (w2.alloc o)) := (fun o => hbw2.alloc hbw2.size _); have hdb := (blk_below (new_at W (.cells #[.int .u8 3, .string bE, .int .i64 (m : Int), .int .i64 0, .bool false] 37)) hb2); have dw : ∀ o, (w2.alloc o).cell? ⟨W.heap.size, 2, none⟩ = some (.int .i64 (m : Int)) := (fun o => blk_cell (blk_below hdb ((Below.refl _ _).alloc (Nat.le_refl _) o)) rfl); clear hb2 hbw2 hdb) | (go_at_call 108; refine (H54.out _ (HB2.out _)).mono ?_; rintro e w3 ⟨rfl, hb3⟩; have HB3 : Hid (Below W.heap.size W w3) := (HB2.out _).trans (hb3.mono (HB2.out _).size); have hbb := (blk_below (new_at w2 (.cells #[.int .i64 (bi : Int), .bool true, .bool bf] 89)) hb3); have z1 := blk_cell (k := 1) hbb rfl; have z2 := blk_cell (k := 2) hbb rfl; have z3 : w3.cell? ⟨W.heap.size, 2, none⟩ = some (.int .i64 (m : Int)) := ((hb3.cell (World.block_lt_of_cell? _ _ (dw _))).trans (dw _)); clear hb3 hbb) | (go_at_call 113; refine (H52.out _ (by first | exact HB3.out | exact HB2.out _)).mono ?_; rintro e w4 ⟨rfl, HE⟩) | (go_at_call 112; refine (H51.out _ (by first | exact HB3.out | exact HB2.out _)).mono ?_; rintro e w4 ⟨rfl, HE⟩))
      go_end0
      exact ⟨rfl, by rw [← HQ.out]; exact HE.out⟩
    | true =>
      simp only [if_true, Bool.not_true, Bool.false_eq_true, if_false] at HQ
      go_enter Tryz.func71, Tryz.ntmps71
      go_wp2_with (first | (go_at_call 69; refine (H53.out _ (HBD.out _)).mono ?_; rintro e w2 ⟨rfl, hb2⟩; have hbw2 : Below W.heap.size W w2 := (HBD.out _).trans (hb2.mono (HBD.out _).size); have HB2 : Hid (∀ o, Below W.heap.size W (w2.alloc o)) := (fun o => hbw2.alloc hbw2.size _); have hdb := (blk_below (new_at W (.cells #[.int .u8 3, .string bE, .int .i64 (m : Int), .int .i64 0, .bool false] 37)) hb2); have dw : ∀ o, (w2.alloc o).cell? ⟨W.heap.size, 2, none⟩ = some (.int .i64 (m : Int)) := (fun o => blk_cell (blk_below hdb ((Below.refl _ _).alloc (Nat.le_refl _) o)) rfl); clear hb2 hbw2 hdb) | (go_at_call 108; refine (H54.out _ (HB2.out _)).mono ?_; rintro e w3 ⟨rfl, hb3⟩; have HB3 : Hid (Below W.heap.size W w3) := (HB2.out _).trans (hb3.mono (HB2.out _).size); have hbb := (blk_below (new_at w2 (.cells #[.int .i64 (bi : Int), .bool true, .bool bf] 89)) hb3); have z1 := blk_cell (k := 1) hbb rfl; have z2 := blk_cell (k := 2) hbb rfl; have z3 : w3.cell? ⟨W.heap.size, 2, none⟩ = some (.int .i64 (m : Int)) := ((hb3.cell (World.block_lt_of_cell? _ _ (dw _))).trans (dw _)); clear hb3 hbb) | (go_at_call 113; refine (H52.out _ (by first | exact HB3.out | exact HB2.out _)).mono ?_; rintro e w4 ⟨rfl, HE⟩) | (go_at_call 112; refine (H51.out _ (by first | exact HB3.out | exact HB2.out _)).mono ?_; rintro e w4 ⟨rfl, HE⟩))
      go_end0
      exact ⟨rfl, by rw [← HQ.out]; exact HE.out⟩
end Go.Proofs.YtmjhfabdbajchaaGreatDoor
set_option linter.unusedVariables false
set_option linter.unusedSimpArgs false
namespace Go.Proofs.YtmjhfabdbajchaaGreatDoor
open Go.RowKit

set_option maxHeartbeats 1000000 in
theorem prn_empty {B g N : Nat} {W : World} {p : Pr} (h : Pg B W g N p) (hB : B ≤ W.heap.size) (ho : p.sk.out.length ≤ 1000000000) (wide : Int) (need : Nat) :
    Calls Tryz.prog 71 #[.pointer (some ⟨g, 0, none⟩), .agg #[.int .u8 5, .string bE, .int .i64 0, .int .i64 0, .bool false], .int .i64 wide] W fun e w' => e = .returned (.tuple #[]) ∧ Pg B w' g N (put N ⟨5, bE, 0, 0, false⟩ need p) ∧ Below B W w' := by
  have e : put N ⟨5, bE, 0, 0, false⟩ need p = if p.en then { p with sk := p.sk.empty, en := false } else p := by simp [put]
  rw [e]
  obtain ⟨vo, vb, sm, em, h⟩ := h
  have hen := h.en
  have hb1 : ∀ o, Below W.heap.size W (W.alloc o) := fun o => (Below.refl _ _).alloc (Nat.le_refl _) _
  have HP : Hid (∀ o, PG B (W.alloc o) g N p vo vb sm em ∧ Below B W (W.alloc o)) := fun o => ⟨h.below (hb1 o), (hb1 o).mono hB⟩
  have HC : Hid (∀ o, (W.alloc o).cell? ⟨g, 1, none⟩ = some vo ∧ (W.alloc o).cell? ⟨g, 3, none⟩ = some (.bool p.sk.fresh) ∧ (W.alloc o).cell? ⟨g, 5, none⟩ = some (.bool sm) ∧ (W.alloc o).cell? ⟨g, 6, none⟩ = some (.bool em)) := fun o => by
    obtain ⟨c0, c1, c2, c3, c4, c5, c6, c7⟩ := (h.below (hb1 o)).cells
    exact ⟨c1, c3, c5, c6⟩
  obtain ⟨d1, d3, d5, d6⟩ := HC.out (.cells #[.int .u8 5, .string bE, .int .i64 0, .int .i64 0, .bool false] 37)
  by_cases hc : p.en = true
  · rw [if_pos hc]
    rw [hc] at hen
    have hx : p.sk.fresh = true ∧ sm = true ∧ em = false := by
      have h2 : (p.sk.fresh && sm && !em) = true := hen.symm
      simp only [Bool.and_eq_true, Bool.not_eq_true'] at h2
      exact ⟨h2.1.1, h2.1.2, h2.2⟩
    obtain ⟨hf, rfl, rfl⟩ := hx
    rw [hf] at d3
    obtain ⟨pv, cv, ev, _, _⟩ := h.out.shape
    subst ev
    have HR : Hid (∀ o o', RP B W ((W.alloc o).alloc o') g N (p.at : Nat) (hld p : Nat) true true false (.slice pv p.sk.out.length cv) vb p.sk.out (p.ar.length + 1) (pbs (p.ar.reverse ++ [p.bl]))) := fun o o' => by
      have h1 := h.rp hB
      rw [hf] at h1
      exact (h1.below (hb1 o)).below ((Below.refl _ _).alloc (Nat.le_refl _) _)
    have HFIN : Hid (∀ V v, RP B W V g N (p.at : Nat) (hld p : Nat) true true true v vb (p.sk.out ++ [10]) (p.ar.length + 1) (pbs (p.ar.reverse ++ [p.bl])) → Pg B V g N { p with sk := p.sk.empty, en := false } ∧ Below B W V) := by
      intro V v hv
      have hw := h.wt hf
      have hse : p.sk.empty = ⟨true, p.sk.col, 0, p.sk.out ++ [10]⟩ := by
        unfold St6.empty; rw [if_pos hf]; rfl
      have e1 : ({ p with sk := p.sk.empty, en := false } : Pr).at = p.at := by
        unfold Pr.at; show p.sk.empty.col + p.sk.empty.wait = _; rw [hse, hw]
      have e2 : hld ({ p with sk := p.sk.empty, en := false } : Pr) = hld p := by
        unfold hld; show (if p.sk.empty.fresh then p.sk.empty.col else p.sk.empty.wait) = _; rw [hse, hf]; rfl
      have e3 : ({ p with sk := p.sk.empty, en := false } : Pr).sk.fresh = true := by show p.sk.empty.fresh = true; rw [hse]
      refine ⟨⟨v, vb, true, true, ?_, ?_, hv.row, ?_, fun _ => rfl, ?_, h.gB⟩, hv.bel⟩
      · rw [e1, e2, e3]; exact hv.blk
      · show Br B V v p.sk.empty.out
        rw [hse]; exact hv.out
      · show false = (p.sk.empty.fresh && true && !true)
        simp
      · intro _; show p.sk.empty.wait = 0; rw [hse]
    clear h e hb1 HP HC hen
    go_enter Tryz.func71, Tryz.ntmps71
    go_wp2_with (first | (at_builtin; refine app_bytes rfl _ _ rfl B _ p.sk.out [10] rfl (HR.out _ _).out (W.heap.size + 1) 1 1 rfl rfl (heap_new2 W _ _) (by simp; omega) (HR.out _ _).hB ?_; intro v' w1 hr1 hb1; obtain ⟨HP, y1, fy1⟩ := (HR.out _ _).app hr1 hb1; obtain ⟨pv', cv', ev', _, _⟩ := hr1.shape; simp only [List.length_append, List.length_cons, List.length_nil, Nat.zero_add] at ev'; subst ev'; have y6 := HP.cells.2.2.2.2.2.2.1; have f6 := HP.fz 6; have HE := HFIN.out _ _ (HP.set6 true); have HEH : Hid (Pg B ((w1.setCell ⟨g, 1, none⟩ (.slice pv' (p.sk.out.length + 1) cv')).setCell ⟨g, 6, none⟩ (.bool true)) g N { p with sk := p.sk.empty, en := false } ∧ Below B W ((w1.setCell ⟨g, 1, none⟩ (.slice pv' (p.sk.out.length + 1) cv')).setCell ⟨g, 6, none⟩ (.bool true))) := HE; clear HE HP hr1 hb1))
    go_end0
    exact ⟨rfl, HEH.out⟩
  · rw [if_neg hc]
    have hc' : (p.sk.fresh && sm && !em) = false := by rw [← hen]; simpa using hc
    have HE : Hid (∀ o, Pg B (W.alloc o) g N p ∧ Below B W (W.alloc o)) := fun o => ⟨⟨_, _, _, _, (HP.out o).1⟩, (HP.out o).2⟩
    generalize p.sk.fresh = fr at *
    clear h e hb1 HP HC hen hc
    cases fr <;> cases sm <;> cases em <;> first | (exfalso; simp at hc'; done) | skip
    all_goals
      clear hc'
      go_enter Tryz.func71, Tryz.ntmps71
      go_wp2_with fail
      go_end0
      exact ⟨rfl, HE.out _⟩
end Go.Proofs.YtmjhfabdbajchaaGreatDoor
set_option linter.unusedVariables false
set_option linter.unusedSimpArgs false
namespace Go.Proofs.YtmjhfabdbajchaaGreatDoor
open Go.RowKit

theorem dr1 {B g N : Nat} {W V : World} {p : Pr} (h : Pg B V g N p ∧ Below B W V) : Pg B V.drew g N p ∧ Below B W V.drew := ⟨h.1.below (Below.refl _ _).drew, h.2.drew⟩
set_option maxHeartbeats 1000000 in
theorem prn_end {B g N : Nat} {W : World} {p : Pr} (h : Pg B W g N p) (hB : B ≤ W.heap.size) (b : Bk) (r : List Bk) (har : p.ar = b :: r) (hl : p.ar.length ≤ 100000000) (wide : Int) (need : Nat) :
    Calls Tryz.prog 71 #[.pointer (some ⟨g, 0, none⟩), .agg #[.int .u8 7, .string bE, .int .i64 0, .int .i64 0, .bool false], .int .i64 wide] W fun e w' => e = .returned (.tuple #[]) ∧ Pg B w' g N (put N ⟨7, bE, 0, 0, false⟩ need p) ∧ Below B W w' := by
  have e : put N ⟨7, bE, 0, 0, false⟩ need p = { p with bl := b, ar := r } := by simp [put, har]
  rw [e]
  obtain ⟨vo, vb, sm, em, h⟩ := h
  obtain ⟨q, c, rfl, h1, h2, _⟩ := rtop h.pbs
  obtain ⟨Lr, hL⟩ : ∃ Lr, r.length + 1 = Lr := ⟨_, rfl⟩
  have hLL : p.ar.length + 1 = Lr + 1 := by rw [har, List.length_cons, hL]
  have hrow : W.ownsRow B 89 3 (.slice (some ⟨q, 0, none⟩) (Lr + 1) c) (Lr + 1) (pbs (r.reverse ++ [b]) ++ pbs [p.bl]) := by
    have := h.pbs
    rw [hLL, har, List.reverse_cons, bks_app] at this
    exact this
  have hpop : W.ownsRow B 89 3 (.slice (some ⟨q, 0, none⟩) Lr c) Lr (pbs (r.reverse ++ [b])) := ownsRow_pop (by rw [bks_len, ← hL]; simp) hrow
  have hb1 : ∀ o, Below W.heap.size W (W.alloc o) := fun o => (Below.refl _ _).alloc (Nat.le_refl _) _
  rw [hLL] at h1
  have h7 : ∀ o, (W.alloc o).cell? ⟨g, 7, none⟩ = some (.slice (some ⟨q, 0, none⟩) (Lr + 1) c) := fun o => by
    have := (h.below (hb1 o)).cells.2.2.2.2.2.2.2
    rw [hLL] at this; exact this
  have f7 : ∀ o, (W.alloc o).frozen? ⟨g, 7, none⟩ = false := fun o => blk_frozen (h.below (hb1 o)).blk
  have d7 := h7 (.cells #[.int .u8 7, .string bE, .int .i64 0, .int .i64 0, .bool false] 37)
  have u7 := f7 (.cells #[.int .u8 7, .string bE, .int .i64 0, .int .i64 0, .bool false] 37)
  have HFIN : Hid (∀ o V, Below (W.alloc o).heap.size (W.alloc o) V → Pg B (V.setCell ⟨g, 7, none⟩ (.slice (some ⟨q, 0, none⟩) Lr c)) g N { p with bl := b, ar := r } ∧ Below B W (V.setCell ⟨g, 7, none⟩ (.slice (some ⟨q, 0, none⟩) Lr c))) := by
    intro o V hV
    have hbV : Below W.heap.size W V := (hb1 o).trans (hV.mono (hb1 o).size)
    have hv := h.below hbV
    have hk := Kp.set V g 7 (.slice (some ⟨q, 0, none⟩) Lr c)
    have hsB : B ≤ V.heap.size := Nat.le_trans hB hbV.size
    refine ⟨⟨vo, .slice (some ⟨q, 0, none⟩) Lr c, sm, em, blk_set hv.blk 7 _, row_kp hv.out hk hv.blk (by decide), ?_, h.en, h.som, h.wt, h.gB⟩, (hbV.mono hB).trans (kp_below hk h.gB hsB)⟩
    show World.ownsRow _ B 89 3 _ (r.length + 1) (pbs (r.reverse ++ [b]))
    rw [hL]
    exact row_kp (row_kept hpop hbV) hk hv.blk (by decide)
  have hLb : Lr ≤ 100000001 := by rw [har, List.length_cons] at hl; omega
  have q3 : (Lr : Int) ≤ c := by omega
  have q4 : (0 : Int) ≤ Lr := by omega
  have w1 : IntKind.i64.wrap ((Lr : Int) + 1 - 1) = Lr := by rw [IntKind.wrap_i64]; omega
  have w2 : IntKind.i64.wrap (Lr : Int) = Lr := by rw [IntKind.wrap_i64]; omega
  have q5 : Lr ≤ c := by omega
  have q6 : (c : Int) ≤ 9223372036854775807 := by omega
  have q7 : ¬ (c : Int) < Lr := by omega
  have q8 : ¬ c < Lr := by omega
  clear h e hb1 h7 f7 hrow hpop hLL hL har hl
  go_enter Tryz.func71, Tryz.ntmps71
  go_wp2_with fail
  go_region_with (fail)
  all_goals
    go_wp2_with fail
    go_end0
    refine ⟨rfl, ?_⟩
    first
      | exact HFIN.out _ _ (by first | exact (Below.refl _ _).drew | exact Below.refl _ _ | exact (Below.refl _ _).drew.drew | exact (Below.refl _ _).drew.drew.drew)
      | exact dr1 (HFIN.out _ _ (by first | exact (Below.refl _ _).drew | exact Below.refl _ _ | exact (Below.refl _ _).drew.drew | exact (Below.refl _ _).drew.drew.drew))
      | exact dr1 (dr1 (HFIN.out _ _ (by first | exact (Below.refl _ _).drew | exact Below.refl _ _ | exact (Below.refl _ _).drew.drew | exact (Below.refl _ _).drew.drew.drew)))
end Go.Proofs.YtmjhfabdbajchaaGreatDoor
set_option linter.unusedVariables false
set_option linter.unusedSimpArgs false
namespace Go.Proofs.YtmjhfabdbajchaaGreatDoor
open Go.RowKit

theorem page_new (W : World) (N : Nat) : Pg W.heap.size ((W.alloc (.cells #[.int .i64 0, .bool false, .bool false] 89)).alloc (.cells #[.int .i64 (N : Int), .slice none 0 0, .int .i64 0, .bool true, .int .i64 0, .bool false, .bool false, .slice (some ⟨W.heap.size, 0, none⟩) 1 1] 92)) (W.heap.size + 1) N pr0 := by
  refine ⟨.slice none 0 0, .slice (some ⟨W.heap.size, 0, none⟩) 1 1, false, false, heap_new2 W _ _, br_nil _ _, ?_, rfl, ?_, fun _ => rfl, Nat.le_succ _⟩
  · exact (World.ownsRow_lit (e := 89) (size := 3) (base := W.heap.size) W #[.int .i64 0, .bool false, .bool false] 1 (Nat.le_refl _) (by unfold maxLen; omega) rfl).alloc _
  · intro h; cases h
theorem pnew_any (N : Nat) (W : World) : Calls Tryz.prog 21 #[.int .i64 (N : Int)] W fun e w' => e = .returned (.pointer (some ⟨W.heap.size + 1, 0, none⟩)) ∧ Pg W.heap.size w' (W.heap.size + 1) N pr0 ∧ Below W.heap.size W w' := by
  have HE : Hid (Pg W.heap.size ((W.alloc (.cells #[.int .i64 0, .bool false, .bool false] 89)).alloc (.cells #[.int .i64 (N : Int), .slice none 0 0, .int .i64 0, .bool true, .int .i64 0, .bool false, .bool false, .slice (some ⟨W.heap.size, 0, none⟩) 1 1] 92)) (W.heap.size + 1) N pr0 ∧ Below W.heap.size W ((W.alloc (.cells #[.int .i64 0, .bool false, .bool false] 89)).alloc (.cells #[.int .i64 (N : Int), .slice none 0 0, .int .i64 0, .bool true, .int .i64 0, .bool false, .bool false, .slice (some ⟨W.heap.size, 0, none⟩) 1 1] 92))) := ⟨page_new W N, ((Below.refl _ W).alloc (Nat.le_refl _) _).alloc (by rw [World.size_alloc]; omega) _⟩
  go_enter Tryz.func21, Tryz.ntmps21
  go_wp2_with fail
  go_ret
  exact ⟨rfl, HE.out⟩
end Go.Proofs.YtmjhfabdbajchaaGreatDoor
set_option linter.unusedVariables false
set_option linter.unusedSimpArgs false
namespace Go.Proofs.YtmjhfabdbajchaaGreatDoor
open Go.RowKit

theorem zt1 {W1 V w2 : World} (hb : Below V.heap.size V w2) (hV : Below W1.heap.size W1 V) : Below W1.heap.size W1 w2 := hV.trans (hb.mono hV.size)
theorem keepC {W1 V : World} {q : Nat} {x y : Value} (hV : Below W1.heap.size W1 V) (c3 : W1.cell? ⟨q, 3, none⟩ = some x) (c4 : W1.cell? ⟨q, 4, none⟩ = some y) : V.cell? ⟨q, 3, none⟩ = some x ∧ V.cell? ⟨q, 4, none⟩ = some y ∧ Below W1.heap.size W1 V :=
  ⟨(hV.cell (World.block_lt_of_cell? _ _ c3)).trans c3, (hV.cell (World.block_lt_of_cell? _ _ c4)).trans c4, hV⟩
theorem st3 {W1 V : World} (hV : Below W1.heap.size W1 V) {q : Nat} (hq : W1.heap.size ≤ q) (a b c : Value) : Below W1.heap.size W1 (((V.setCell ⟨q, 0, none⟩ a).setCell ⟨q, 1, none⟩ b).setCell ⟨q, 2, none⟩ c) := ((hV.setCell (p := ⟨q, 0, none⟩) hq _).setCell (p := ⟨q, 1, none⟩) hq _).setCell (p := ⟨q, 2, none⟩) hq _
theorem al1 {W1 V : World} (hV : Below W1.heap.size W1 V) (o : Obj) : Below W1.heap.size W1 (V.alloc o) := hV.alloc hV.size _
theorem Tryz.info89 : (Tryz.prog.info? 89).map (fun i => (i.zero, i.size, i.bytes)) = some (some (.agg #[.int .i64 0, .bool false, .bool false]), 3, 16) := by kernel_rfl
theorem step_b98 {W : World} {ops : Array Oper} {o : Oper} {a : Act} {K : Act → World → Prop} {Q : Exit → Act → World → Prop} {E : Prop} (hgd : o.guard = none) (s x : Operand)
    (ho : o.op = .call { callee := .builtin .append, args := #[s, x], argTypes := #[90, 90] }) (B : Nat) (v : Value) (l : List Bk) (b : Bk) (n : Nat) (hs : a.eval s = v) (hr : W.ownsRow B 89 3 v n (pbs l))
    (g c : Nat) (hx : a.eval x = .slice (some ⟨g, 0, none⟩) 1 c) (hg : W.heap[g]? = some (.cells #[.int .i64 b.ind, .bool b.ev, .bool b.ft] 89 (0, 0))) (hl : n ≤ 1000000000) (hB : B ≤ W.heap.size)
    (h : ∀ q cap w', w'.ownsRow B 89 3 (.slice (some ⟨q, 0, none⟩) (n + 1) cap) (n + 1) (pbs (l ++ [b])) → W.grownBy w' v.ownBlock → K (a.put o.dst (.slice (some ⟨q, 0, none⟩) (n + 1) cap)) w') :
    if Region.wanted o (yielded ops a.tmps) = true then Oper.wp Tryz.prog o a W K Q else E := by
  obtain ⟨i0, hi, hz0, hz1, hz2⟩ := info_parts Tryz.info89
  refine step_append_lies W hgd s x 90 ho B 89 i0 (.agg #[.int .i64 0, .bool false, .bool false]) 3 16 Tryz.underlying90 hi hz0 hz1 hz2 rfl (by decide) v _ _ hs hr ⟨g, 0, none⟩ 1 c (pbc b) hx rfl ?_ ?_ (by omega) (by unfold maxLen; omega) (by omega) hB _ rfl ?_
  · intro j u hu
    exact World.news_of_block hg j u (by simpa [pbc] using hu)
  · intro u hu; simp [pbc] at hu; rcases hu with rfl | rfl | rfl <;> rfl
  · intro q cap w' a1 a2 a3 _
    refine h q cap w' ?_ a2
    rw [bks_app]
    simpa [pbs, flat] using a1
theorem row_apart {B B' e e' sz sz' n n' : Nat} {W W' : World} {v v' : Value} {xs xs' : List Value} (hr : W.ownsRow B e sz v n xs) (hr' : W.ownsRow B' e' sz' v' n' xs') (he : e ≠ e') (hg : W.grownBy W' v'.ownBlock) : W'.ownsRow B e sz v n xs := by
  refine hr.kept hg ?_
  rcases hr.2 with ⟨h1, _⟩ | ⟨q, cap, cur, rfl, h2, h3, h4⟩
  · left; rw [h1]; rfl
  · right
    intro e1
    exact row_ne (row_zero hr') h3 he (by rw [← e1]; rfl)
theorem beg_fin {B g N : Nat} {V w4 : World} {p : Pr} {vo vb : Value} {sm em : Bool} (h : PG B V g N p vo vb sm em) (hB : B ≤ V.heap.size) (nb : Bk) (L q cap : Nat) (hL : p.ar.length + 1 = L)
    (ho : w4.ownsRow B 89 3 (.slice (some ⟨q, 0, none⟩) (L + 1) cap) (L + 1) (pbs ((p.ar.reverse ++ [p.bl]) ++ [nb]))) (hg : V.grownBy w4 vb.ownBlock) :
    (Pg B (w4.setCell ⟨g, 7, none⟩ (.slice (some ⟨q, 0, none⟩) (L + 1) cap)) g N { p with ar := p.bl :: p.ar, bl := nb } ∧ Below B V (w4.setCell ⟨g, 7, none⟩ (.slice (some ⟨q, 0, none⟩) (L + 1) cap))) ∧ w4.cell? ⟨g, 7, none⟩ = some vb ∧ w4.frozen? ⟨g, 7, none⟩ = false := by
  subst hL
  have hk := Kp.of_grown hg
  have r1 := row_ne (row_zero h.pbs) h.blk (by decide)
  have g1 := hk.blk h.blk (fun e => r1 e.symm)
  have ks := Kp.set w4 g 7 (.slice (some ⟨q, 0, none⟩) (p.ar.length + 1 + 1) cap)
  have hb4 : Below B V w4 := (Below.refl B V).grown hg hB (fun k e => (World.ownsRow.lt h.pbs k e).1)
  have o4 : Br B w4 vo p.sk.out := row_apart h.out h.pbs (by decide) hg
  refine ⟨⟨⟨vo, .slice (some ⟨q, 0, none⟩) (p.ar.length + 1 + 1) cap, sm, em, blk_set g1 7 _, row_kp o4 ks g1 (by decide), ?_, h.en, h.som, h.wt, h.gB⟩, hb4.trans (kp_below ks h.gB (Nat.le_trans hB hb4.size))⟩, blk_cell g1 rfl, blk_frozen g1⟩
  show World.ownsRow _ B 89 3 _ ((p.bl :: p.ar).length + 1) (pbs ((p.bl :: p.ar).reverse ++ [nb]))
  rw [List.reverse_cons]
  exact row_kp ho ks g1 (by decide)
set_option maxHeartbeats 8000000 in
set_option maxRecDepth 100000 in
theorem prn_beg {B g N : Nat} {W : World} {p : Pr} (h : Pg B W g N p) (hB : B ≤ W.heap.size) (hN : N ≤ 4096) (hl : p.at ≤ 1000000000) (ha : p.ar.length ≤ 100000000) (hi : p.bl.ind ≤ 1000) (m : Nat) (hm : m ≤ 1000) (ev : Bool) (wide need : Nat) (hwd : wide ≤ 1099511627776) (hw : need = min wide 4097) :
    Calls Tryz.prog 71 #[.pointer (some ⟨g, 0, none⟩), .agg #[.int .u8 6, .string bE, .int .i64 0, .int .i64 (m : Int), .bool ev], .int .i64 (wide : Int)] W fun e w' => e = .returned (.tuple #[]) ∧ Pg B w' g N (put N ⟨6, bE, 0, m, ev⟩ need p) ∧ Below B W w' := by
  have e : put N ⟨6, bE, 0, m, ev⟩ need p = { p with ar := p.bl :: p.ar, bl := ⟨min (p.bl.ind + m) 1000, ev, p.fits N need⟩ } := by
    rw [put_6 rfl]; simp
  rw [e, fits_eq hN hw]
  obtain ⟨bi, hbi⟩ : ∃ bi, p.bl.ind = bi := ⟨_, rfl⟩
  have hP : ∀ V, Below W.heap.size W V → Pg B V g N p ∧ B ≤ V.heap.size ∧ Below B W V := fun V hV => ⟨h.below hV, Nat.le_trans hB hV.size, hV.mono hB⟩
  have HP : Hid (∀ V, Below W.heap.size W V → Pg B V g N p ∧ B ≤ V.heap.size ∧ Below B W V) := hP
  obtain ⟨be, hbe⟩ : ∃ x, p.bl.ev = x := ⟨_, rfl⟩
  obtain ⟨bf, hbf⟩ : ∃ x, p.bl.ft = x := ⟨_, rfl⟩
  have H53 : Hid (∀ V, Below W.heap.size W V → Calls Tryz.prog 69 #[.pointer (some ⟨g, 0, none⟩)] V fun e w' => e = .returned (.agg #[.int .i64 (bi : Int), .bool be, .bool bf]) ∧ Below V.heap.size V w') := fun V hV => by rw [← hbi, ← hbe, ← hbf]; exact pblock_pg (HP.out V hV).1 ha
  obtain ⟨R, hR⟩ : ∃ R : Int, (N : Int) - (p.at : Nat) = R := ⟨_, rfl⟩
  have H54 : Hid (∀ V, Below W.heap.size W V → Calls Tryz.prog 108 #[.pointer (some ⟨g, 0, none⟩)] V fun e w' => e = .returned (.int .i64 R) ∧ Below V.heap.size V w') := fun V hV => by rw [← hR]; exact room_pg (HP.out V hV).1 hN hl
  rw [hR]
  rw [hbi] at hi ⊢
  have hmn : (min (1000 : Int) ((bi : Int) + m)) = ((min (bi + m) 1000 : Nat) : Int) := by omega
  have w1 : IntKind.i64.wrap ((bi : Int) + m) = bi + m := by rw [IntKind.wrap_i64]; omega
  have hfd : ∀ w : World, (Instr.field 89 (.agg #[.int .i64 (bi : Int), .bool be, .bool bf]) 0).run Tryz.prog w = .ok (.int .i64 (bi : Int)) w := fun w => fld98 _ _ _ w
  obtain ⟨vo, vb, sm, em, hpg⟩ := h
  obtain ⟨qv, cv, rfl, hv1, hv2, _⟩ := rtop hpg.pbs
  obtain ⟨L, hLe⟩ : ∃ L, p.ar.length + 1 = L := ⟨_, rfl⟩
  rw [hLe] at hpg hv1
  have HR : Hid (∀ V, Below W.heap.size W V → V.cell? ⟨g, 7, none⟩ = some (.slice (some ⟨qv, 0, none⟩) L cv) ∧ V.frozen? ⟨g, 7, none⟩ = false ∧ V.ownsRow B 89 3 (.slice (some ⟨qv, 0, none⟩) L cv) L (pbs (p.ar.reverse ++ [p.bl])) ∧ B ≤ V.heap.size) := by
    intro V hV
    have hv := hpg.below hV
    refine ⟨hv.cells.2.2.2.2.2.2.2, blk_frozen hv.blk, ?_, Nat.le_trans hB hV.size⟩
    have := hv.pbs
    rw [hLe] at this
    exact this
  have HFIN : Hid (∀ V q cap w4, Below W.heap.size W V → w4.ownsRow B 89 3 (.slice (some ⟨q, 0, none⟩) (L + 1) cap) (L + 1) (pbs ((p.ar.reverse ++ [p.bl]) ++ [⟨min (bi + m) 1000, ev, decide ((wide : Int) ≤ R)⟩])) → V.grownBy w4 (Value.slice (some ⟨qv, 0, none⟩) L cv).ownBlock →
      Hid (Pg B (w4.setCell ⟨g, 7, none⟩ (.slice (some ⟨q, 0, none⟩) (L + 1) cap)) g N { p with ar := p.bl :: p.ar, bl := ⟨min (bi + m) 1000, ev, decide ((wide : Int) ≤ R)⟩ } ∧ Below B W (w4.setCell ⟨g, 7, none⟩ (.slice (some ⟨q, 0, none⟩) (L + 1) cap))) ∧ w4.cell? ⟨g, 7, none⟩ = some (.slice (some ⟨qv, 0, none⟩) L cv) ∧ w4.frozen? ⟨g, 7, none⟩ = false) := by
    intro V q cap w4 hV ho hg
    obtain ⟨⟨a1, a2⟩, a3, a4⟩ := beg_fin (hpg.below hV) (Nat.le_trans hB hV.size) ⟨min (bi + m) 1000, ev, decide ((wide : Int) ≤ R)⟩ L q cap hLe ho hg
    exact ⟨⟨a1, (hV.mono hB).trans a2⟩, a3, a4⟩
  have hLb : L ≤ 1000000000 := by omega
  clear hpg e hP hbi hbe hbf hR hLe
  go_enter Tryz.func71, Tryz.ntmps71
  go_wp2_with fail
  obtain ⟨W1, hW1⟩ : ∃ W1, W.alloc (.cells #[.int .u8 6, .string bE, .int .i64 0, .int .i64 (m : Int), .bool ev] 37) = W1 := ⟨_, rfl⟩
  have hb1 : Below W.heap.size W W1 := by rw [← hW1]; exact (Below.refl _ _).alloc (Nat.le_refl _) _
  have hx1 : W1.heap[W.heap.size]? = some (.cells #[.int .u8 6, .string bE, .int .i64 0, .int .i64 (m : Int), .bool ev] 37 (0, 0)) := by rw [← hW1]; exact new_at _ _
  have HB1 : Hid (Below W.heap.size W W1) := hb1
  have c3 := blk_cell (k := 3) hx1 rfl
  have c4 := blk_cell (k := 4) hx1 rfl
  rw [hW1]
  clear hW1 hb1 hx1
  go_cut [6] from 58 to 127 (fun s wx => ∃ q : Nat, s = .pointer (some ⟨q, 0, none⟩) ∧ Hid (wx.heap[q]? = some (.cells #[.int .i64 ((min (bi + m) 1000 : Nat) : Int), .bool ev, .bool (decide ((wide : Int) ≤ R))] 89 (0, 0)) ∧ Below W1.heap.size W1 wx))
  case first =>
    go_region_held3 (fun w' => w'.cell? ⟨W.heap.size, 3, none⟩ = some (.int .i64 (m : Int)) ∧ w'.cell? ⟨W.heap.size, 4, none⟩ = some (.bool ev) ∧ Below W1.heap.size W1 w') (first | (exact keepC (by first | assumption | exact (Below.refl _ _).drew | exact Below.refl _ _ | exact al1 (by assumption) _ | exact (al1 (by assumption) _).drew | exact (al1 (Below.refl _ _) _).drew | exact al1 (Below.refl _ _) _ | exact al1 (Below.refl _ _).drew _ | exact Below.drew (by assumption) | exact st3 (by assumption) (by first | exact Nat.le_refl _ | exact hz2.size | exact hz3.size) _ _ _ | exact (st3 (by assumption) (by first | exact Nat.le_refl _ | exact hz2.size | exact hz3.size) _ _ _).drew) c3 c4) | go_keep) (first | (go_at_call 69; refine (H53.out _ (zt1 (W1 := W) (by first | assumption | exact (Below.refl _ _).drew | exact Below.refl _ _ | exact al1 (by assumption) _ | exact al1 (Below.refl _ _).drew _ | exact al1 (Below.refl _ _) _ | exact (al1 (Below.refl _ _) _).drew | exact (al1 (by assumption) _).drew) HB1.out)).mono ?_; rintro e w2 ⟨rfl, hb2⟩; (try ((first | (have hn2 := blk_below (new_at _ _) hb2) | (have hn2 := blk_below (W := World.drew (World.alloc W1 (.cells #[.int .i64 0, .bool false, .bool false] 89))) (new_at W1 _) hb2)); have n20 := blk_cell (k := 0) hn2 rfl; have n21 := blk_cell (k := 1) hn2 rfl; have n22 := blk_cell (k := 2) hn2 rfl; have n2f : ∀ j, w2.frozen? ⟨_, j, none⟩ = false := (fun j => blk_frozen hn2); have n2a := n2f 0; have n2b := n2f 1; have n2c := n2f 2)); have hz2 : Below W1.heap.size W1 w2 := zt1 hb2 (by first | assumption | exact (Below.refl _ _).drew | exact Below.refl _ _ | exact al1 (by assumption) _ | exact al1 (Below.refl _ _).drew _ | exact al1 (Below.refl _ _) _ | exact (al1 (Below.refl _ _) _).drew | exact (al1 (by assumption) _).drew)) | (go_at_call 108; refine (H54.out _ (zt1 (W1 := W) (by first | assumption | exact (Below.refl _ _).drew | exact Below.refl _ _ | exact al1 (by assumption) _ | exact al1 (Below.refl _ _).drew _ | exact al1 (Below.refl _ _) _ | exact (al1 (Below.refl _ _) _).drew | exact (al1 (by assumption) _).drew) HB1.out)).mono ?_; rintro e w3 ⟨rfl, hb3⟩; (try ((first | (have hn3 := blk_below (new_at _ _) hb3) | (have hn3 := blk_below (W := World.drew (World.alloc W1 (.cells #[.int .i64 0, .bool false, .bool false] 89))) (new_at W1 _) hb3)); have n30 := blk_cell (k := 0) hn3 rfl; have n31 := blk_cell (k := 1) hn3 rfl; have n32 := blk_cell (k := 2) hn3 rfl; have n3f : ∀ j, w3.frozen? ⟨_, j, none⟩ = false := (fun j => blk_frozen hn3); have n3a := n3f 0; have n3b := n3f 1; have n3c := n3f 2)); (try (have hm3 := blk_below hn2 hb3; have m30 := blk_cell (k := 0) hm3 rfl; have m31 := blk_cell (k := 1) hm3 rfl; have m32 := blk_cell (k := 2) hm3 rfl; have m3a : w3.frozen? ⟨_, 0, none⟩ = false := blk_frozen hm3; have m3b : w3.frozen? ⟨_, 1, none⟩ = false := blk_frozen hm3; have m3c : w3.frozen? ⟨_, 2, none⟩ = false := blk_frozen hm3)); have hz3 : Below W1.heap.size W1 w3 := zt1 hb3 (by first | assumption | exact (Below.refl _ _).drew | exact Below.refl _ _ | exact al1 (by assumption) _ | exact al1 (Below.refl _ _).drew _ | exact al1 (Below.refl _ _) _ | exact (al1 (Below.refl _ _) _).drew | exact (al1 (by assumption) _).drew)))
    all_goals go_wp2_with fail
    all_goals go_meet
    all_goals first
      | (refine ⟨w3.heap.size, rfl, ?_⟩; exact ⟨new_at w3 _, al1 hz3 _⟩)
      | (refine ⟨w2.heap.size, rfl, ?_⟩; exact ⟨blk_set (blk_set (blk_set hn3 0 _) 1 _) 2 _, st3 hz3 hz2.size _ _ _⟩)
      | (refine ⟨W1.heap.size, rfl, ?_⟩; exact ⟨blk_set (blk_set (blk_set hm3 0 _) 1 _) 2 _, st3 hz3 (Nat.le_refl _) _ _ _⟩)
      | (refine ⟨W1.heap.size, rfl, ?_⟩; exact ⟨blk_set (blk_set (blk_set hn3 0 _) 1 _) 2 _, st3 hz3 (Nat.le_refl _) _ _ _⟩)
  case rest =>
    obtain ⟨q, rfl, HX⟩ := hcut
    have x0 := blk_cell (k := 0) HX.out.1 rfl
    have x1 := blk_cell (k := 1) HX.out.1 rfl
    have x2 := blk_cell (k := 2) HX.out.1 rfl
    obtain ⟨c7, f7, _, _⟩ := HR.out wc (zt1 HX.out.2 HB1.out)
    have hqs : q < wc.heap.size := blk_lt HX.out.1
    have hgs : g < wc.heap.size := World.block_lt_of_cell? _ _ c7
    have hv3 : (L : Int) ≤ cv := by omega
    have HW : Hid (∀ V, Below wc.heap.size wc V → Below W.heap.size W V) := fun V hV => (zt1 HX.out.2 HB1.out).trans (hV.mono (zt1 HX.out.2 HB1.out).size)
    generalize hMM : min (bi + m) 1000 = M at *
    generalize hFF : decide ((wide : Int) ≤ R) = F at *
    clear H53 H54 c3 c4 HP
    go_wp2_with fail
    go_region_law (refine step_b98 (by rfl) _ _ (by rfl) B (.slice (some ⟨qv, 0, none⟩) L cv) (p.ar.reverse ++ [p.bl]) ⟨M, ev, F⟩ L (by rfl) (HR.out _ (HW.out _ (by first | exact ((Below.refl _ _).alloc (Nat.le_refl _) _).drew | exact ((Below.refl _ _).drew).alloc (Nat.le_refl _) _))).2.2.1 wc.heap.size 1 (by rfl) (by first | exact new_at _ _ | exact new_at wc.drew _) hLb (HR.out _ (HW.out _ (by first | exact ((Below.refl _ _).alloc (Nat.le_refl _) _).drew | exact ((Below.refl _ _).drew).alloc (Nat.le_refl _) _))).2.2.2 ?_; intro q2 cap2 w4 ho4 hg4; obtain ⟨HF4, z7, y7⟩ := HFIN.out _ _ _ _ (HW.out _ (by first | exact ((Below.refl _ _).alloc (Nat.le_refl _) _).drew | exact ((Below.refl _ _).drew).alloc (Nat.le_refl _) _)) ho4 hg4)
    all_goals (
      go_wp2_with fail
      go_end0
      exact ⟨rfl, by rw [hMM, hFF]; exact HF4.out⟩)
end Go.Proofs.YtmjhfabdbajchaaGreatDoor
