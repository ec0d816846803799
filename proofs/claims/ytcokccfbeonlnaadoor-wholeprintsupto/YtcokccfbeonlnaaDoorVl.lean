import Derived.Test.YtcokccfbeonlnaaDoorVk
import Derived.Deep.AppendLies
import Derived.BigRegion
import Derived.Deep.CutRange
import Derived.Deep.RegionLaw
set_option linter.unusedVariables false
set_option linter.unusedSimpArgs false
namespace Go.Proofs.YtcokccfbeonlnaaDoor
open Go.RowKit

theorem zt1 {W1 V w2 : World} (hb : Below V.heap.size V w2) (hV : Below W1.heap.size W1 V) : Below W1.heap.size W1 w2 := hV.trans (hb.mono hV.size)
theorem keepC {W1 V : World} {q : Nat} {x y : Value} (hV : Below W1.heap.size W1 V) (c3 : W1.cell? ⟨q, 3, none⟩ = some x) (c4 : W1.cell? ⟨q, 4, none⟩ = some y) : V.cell? ⟨q, 3, none⟩ = some x ∧ V.cell? ⟨q, 4, none⟩ = some y ∧ Below W1.heap.size W1 V :=
  ⟨(hV.cell (World.block_lt_of_cell? _ _ c3)).trans c3, (hV.cell (World.block_lt_of_cell? _ _ c4)).trans c4, hV⟩
theorem st3 {W1 V : World} (hV : Below W1.heap.size W1 V) {q : Nat} (hq : W1.heap.size ≤ q) (a b c : Value) : Below W1.heap.size W1 (((V.setCell ⟨q, 0, none⟩ a).setCell ⟨q, 1, none⟩ b).setCell ⟨q, 2, none⟩ c) := ((hV.setCell (p := ⟨q, 0, none⟩) hq _).setCell (p := ⟨q, 1, none⟩) hq _).setCell (p := ⟨q, 2, none⟩) hq _
theorem al1 {W1 V : World} (hV : Below W1.heap.size W1 V) (o : Obj) : Below W1.heap.size W1 (V.alloc o) := hV.alloc hV.size _
theorem Tryd.info98 : (Tryd.prog.info? 98).map (fun i => (i.zero, i.size, i.bytes)) = some (some (.agg #[.int .i64 0, .bool false, .bool false]), 3, 16) := by kernel_rfl
theorem step_b98 {W : World} {ops : Array Oper} {o : Oper} {a : Act} {K : Act → World → Prop} {Q : Exit → Act → World → Prop} {E : Prop} (hgd : o.guard = none) (s x : Operand)
    (ho : o.op = .call { callee := .builtin .append, args := #[s, x], argTypes := #[61, 61] }) (B : Nat) (v : Value) (l : List Bk) (b : Bk) (n : Nat) (hs : a.eval s = v) (hr : W.ownsRow B 98 3 v n (pbs l))
    (g c : Nat) (hx : a.eval x = .slice (some ⟨g, 0, none⟩) 1 c) (hg : W.heap[g]? = some (.cells #[.int .i64 b.ind, .bool b.ev, .bool b.ft] 98 (0, 0))) (hl : n ≤ 1000000000) (hB : B ≤ W.heap.size)
    (h : ∀ q cap w', w'.ownsRow B 98 3 (.slice (some ⟨q, 0, none⟩) (n + 1) cap) (n + 1) (pbs (l ++ [b])) → W.grownBy w' v.ownBlock → K (a.put o.dst (.slice (some ⟨q, 0, none⟩) (n + 1) cap)) w') :
    if Region.wanted o (yielded ops a.tmps) = true then Oper.wp Tryd.prog o a W K Q else E := by
  obtain ⟨i0, hi, hz0, hz1, hz2⟩ := info_parts Tryd.info98
  refine step_append_lies W hgd s x 61 ho B 98 i0 (.agg #[.int .i64 0, .bool false, .bool false]) 3 16 Tryd.underlying61 hi hz0 hz1 hz2 rfl (by decide) v _ _ hs hr ⟨g, 0, none⟩ 1 c (pbc b) hx rfl ?_ ?_ (by omega) (by unfold maxLen; omega) (by omega) hB _ rfl ?_
  · intro j u hu
    exact World.news_of_block hg j u (by simpa [pbc] using hu)
  · intro u hu; simp [pbc] at hu; rcases hu with rfl | rfl | rfl <;> rfl
  · intro q cap w' a1 a2 a3 _
    refine h q cap w' ?_ a2
    rw [bks_app]
    simpa [pbs, flat] using a1
theorem row_apart {B B' e e' sz sz' n n' : Nat} {W W' : World} {v v' : Value} {xs xs' : List Value} (hr : W.ownsRow B e sz v n xs) (hr' : W.ownsRow B' e' sz' v' n' xs') (he : e ≠ e') (hg : W.grownBy W' v'.ownBlock) : W'.ownsRow B e sz v n xs := by
  refine hr.kept hg ?_
  rcases hr.2 with ⟨h1, _⟩ | ⟨q, cap, cur, rfl, h2, h3, h4⟩
  · left; rw [h1]; rfl
  · right
    intro e1
    exact row_ne (row_zero hr') h3 he (by rw [← e1]; rfl)
theorem beg_fin {B g N : Nat} {V w4 : World} {p : Pr} {vo vb : Value} {sm em : Bool} (h : PG B V g N p vo vb sm em) (hB : B ≤ V.heap.size) (nb : Bk) (L q cap : Nat) (hL : p.ar.length + 1 = L)
    (ho : w4.ownsRow B 98 3 (.slice (some ⟨q, 0, none⟩) (L + 1) cap) (L + 1) (pbs ((p.ar.reverse ++ [p.bl]) ++ [nb]))) (hg : V.grownBy w4 vb.ownBlock) :
    (Pg B (w4.setCell ⟨g, 7, none⟩ (.slice (some ⟨q, 0, none⟩) (L + 1) cap)) g N { p with ar := p.bl :: p.ar, bl := nb } ∧ Below B V (w4.setCell ⟨g, 7, none⟩ (.slice (some ⟨q, 0, none⟩) (L + 1) cap))) ∧ w4.cell? ⟨g, 7, none⟩ = some vb ∧ w4.frozen? ⟨g, 7, none⟩ = false := by
  subst hL
  have hk := Kp.of_grown hg
  have r1 := row_ne (row_zero h.pbs) h.blk (by decide)
  have g1 := hk.blk h.blk (fun e => r1 e.symm)
  have ks := Kp.set w4 g 7 (.slice (some ⟨q, 0, none⟩) (p.ar.length + 1 + 1) cap)
  have hb4 : Below B V w4 := (Below.refl B V).grown hg hB (fun k e => (World.ownsRow.lt h.pbs k e).1)
  have o4 : Br B w4 vo p.sk.out := row_apart h.out h.pbs (by decide) hg
  refine ⟨⟨⟨vo, .slice (some ⟨q, 0, none⟩) (p.ar.length + 1 + 1) cap, sm, em, blk_set g1 7 _, row_kp o4 ks g1 (by decide), ?_, h.en, h.som, h.wt, h.gB⟩, hb4.trans (kp_below ks h.gB (Nat.le_trans hB hb4.size))⟩, blk_cell g1 rfl, blk_frozen g1⟩
  show World.ownsRow _ B 98 3 _ ((p.bl :: p.ar).length + 1) (pbs ((p.bl :: p.ar).reverse ++ [nb]))
  rw [List.reverse_cons]
  exact row_kp ho ks g1 (by decide)
set_option maxHeartbeats 8000000 in
set_option maxRecDepth 100000 in
theorem prn_beg {B g N : Nat} {W : World} {p : Pr} (h : Pg B W g N p) (hB : B ≤ W.heap.size) (hN : N ≤ 4096) (hl : p.at ≤ 1000000000) (ha : p.ar.length ≤ 100000000) (hi : p.bl.ind ≤ 1000) (m : Nat) (hm : m ≤ 1000) (ev : Bool) (wide need : Nat) (hwd : wide ≤ 1099511627776) (hw : need = min wide 4097) :
    Calls Tryd.prog 28 #[.pointer (some ⟨g, 0, none⟩), .agg #[.int .u8 6, .string bE, .int .i64 0, .int .i64 (m : Int), .bool ev], .int .i64 (wide : Int)] W fun e w' => e = .returned (.tuple #[]) ∧ Pg B w' g N (put N ⟨6, bE, 0, m, ev⟩ need p) ∧ Below B W w' := by
  have e : put N ⟨6, bE, 0, m, ev⟩ need p = { p with ar := p.bl :: p.ar, bl := ⟨min (p.bl.ind + m) 1000, ev, p.fits N need⟩ } := by
    rw [put_6 rfl]; simp
  rw [e, fits_eq hN hw]
  obtain ⟨bi, hbi⟩ : ∃ bi, p.bl.ind = bi := ⟨_, rfl⟩
  have hP : ∀ V, Below W.heap.size W V → Pg B V g N p ∧ B ≤ V.heap.size ∧ Below B W V := fun V hV => ⟨h.below hV, Nat.le_trans hB hV.size, hV.mono hB⟩
  have HP : Hid (∀ V, Below W.heap.size W V → Pg B V g N p ∧ B ≤ V.heap.size ∧ Below B W V) := hP
  obtain ⟨be, hbe⟩ : ∃ x, p.bl.ev = x := ⟨_, rfl⟩
  obtain ⟨bf, hbf⟩ : ∃ x, p.bl.ft = x := ⟨_, rfl⟩
  have H53 : Hid (∀ V, Below W.heap.size W V → Calls Tryd.prog 53 #[.pointer (some ⟨g, 0, none⟩)] V fun e w' => e = .returned (.agg #[.int .i64 (bi : Int), .bool be, .bool bf]) ∧ Below V.heap.size V w') := fun V hV => by rw [← hbi, ← hbe, ← hbf]; exact pblock_pg (HP.out V hV).1 ha
  obtain ⟨R, hR⟩ : ∃ R : Int, (N : Int) - (p.at : Nat) = R := ⟨_, rfl⟩
  have H54 : Hid (∀ V, Below W.heap.size W V → Calls Tryd.prog 54 #[.pointer (some ⟨g, 0, none⟩)] V fun e w' => e = .returned (.int .i64 R) ∧ Below V.heap.size V w') := fun V hV => by rw [← hR]; exact room_pg (HP.out V hV).1 hN hl
  rw [hR]
  rw [hbi] at hi ⊢
  have hmn : (min (1000 : Int) ((bi : Int) + m)) = ((min (bi + m) 1000 : Nat) : Int) := by omega
  have w1 : IntKind.i64.wrap ((bi : Int) + m) = bi + m := by rw [IntKind.wrap_i64]; omega
  have hfd : ∀ w : World, (Instr.field 98 (.agg #[.int .i64 (bi : Int), .bool be, .bool bf]) 0).run Tryd.prog w = .ok (.int .i64 (bi : Int)) w := fun w => fld98 _ _ _ w
  obtain ⟨vo, vb, sm, em, hpg⟩ := h
  obtain ⟨qv, cv, rfl, hv1, hv2, _⟩ := rtop hpg.pbs
  obtain ⟨L, hLe⟩ : ∃ L, p.ar.length + 1 = L := ⟨_, rfl⟩
  rw [hLe] at hpg hv1
  have HR : Hid (∀ V, Below W.heap.size W V → V.cell? ⟨g, 7, none⟩ = some (.slice (some ⟨qv, 0, none⟩) L cv) ∧ V.frozen? ⟨g, 7, none⟩ = false ∧ V.ownsRow B 98 3 (.slice (some ⟨qv, 0, none⟩) L cv) L (pbs (p.ar.reverse ++ [p.bl])) ∧ B ≤ V.heap.size) := by
    intro V hV
    have hv := hpg.below hV
    refine ⟨hv.cells.2.2.2.2.2.2.2, blk_frozen hv.blk, ?_, Nat.le_trans hB hV.size⟩
    have := hv.pbs
    rw [hLe] at this
    exact this
  have HFIN : Hid (∀ V q cap w4, Below W.heap.size W V → w4.ownsRow B 98 3 (.slice (some ⟨q, 0, none⟩) (L + 1) cap) (L + 1) (pbs ((p.ar.reverse ++ [p.bl]) ++ [⟨min (bi + m) 1000, ev, decide ((wide : Int) ≤ R)⟩])) → V.grownBy w4 (Value.slice (some ⟨qv, 0, none⟩) L cv).ownBlock →
      Hid (Pg B (w4.setCell ⟨g, 7, none⟩ (.slice (some ⟨q, 0, none⟩) (L + 1) cap)) g N { p with ar := p.bl :: p.ar, bl := ⟨min (bi + m) 1000, ev, decide ((wide : Int) ≤ R)⟩ } ∧ Below B W (w4.setCell ⟨g, 7, none⟩ (.slice (some ⟨q, 0, none⟩) (L + 1) cap))) ∧ w4.cell? ⟨g, 7, none⟩ = some (.slice (some ⟨qv, 0, none⟩) L cv) ∧ w4.frozen? ⟨g, 7, none⟩ = false) := by
    intro V q cap w4 hV ho hg
    obtain ⟨⟨a1, a2⟩, a3, a4⟩ := beg_fin (hpg.below hV) (Nat.le_trans hB hV.size) ⟨min (bi + m) 1000, ev, decide ((wide : Int) ≤ R)⟩ L q cap hLe ho hg
    exact ⟨⟨a1, (hV.mono hB).trans a2⟩, a3, a4⟩
  have hLb : L ≤ 1000000000 := by omega
  clear hpg e hP hbi hbe hbf hR hLe
  go_enter Tryd.func28, Tryd.ntmps28
  go_wp2_with fail
  obtain ⟨W1, hW1⟩ : ∃ W1, W.alloc (.cells #[.int .u8 6, .string bE, .int .i64 0, .int .i64 (m : Int), .bool ev] 26) = W1 := ⟨_, rfl⟩
  have hb1 : Below W.heap.size W W1 := by rw [← hW1]; exact (Below.refl _ _).alloc (Nat.le_refl _) _
  have hx1 : W1.heap[W.heap.size]? = some (.cells #[.int .u8 6, .string bE, .int .i64 0, .int .i64 (m : Int), .bool ev] 26 (0, 0)) := by rw [← hW1]; exact new_at _ _
  have HB1 : Hid (Below W.heap.size W W1) := hb1
  have c3 := blk_cell (k := 3) hx1 rfl
  have c4 := blk_cell (k := 4) hx1 rfl
  rw [hW1]
  clear hW1 hb1 hx1
  go_cut [6] from 58 to 127 (fun s wx => ∃ q : Nat, s = .pointer (some ⟨q, 0, none⟩) ∧ Hid (wx.heap[q]? = some (.cells #[.int .i64 ((min (bi + m) 1000 : Nat) : Int), .bool ev, .bool (decide ((wide : Int) ≤ R))] 98 (0, 0)) ∧ Below W1.heap.size W1 wx))
  case first =>
    go_region_held3 (fun w' => w'.cell? ⟨W.heap.size, 3, none⟩ = some (.int .i64 (m : Int)) ∧ w'.cell? ⟨W.heap.size, 4, none⟩ = some (.bool ev) ∧ Below W1.heap.size W1 w') (first | (exact keepC (by first | assumption | exact (Below.refl _ _).drew | exact Below.refl _ _ | exact al1 (by assumption) _ | exact (al1 (by assumption) _).drew | exact (al1 (Below.refl _ _) _).drew | exact al1 (Below.refl _ _) _ | exact al1 (Below.refl _ _).drew _ | exact Below.drew (by assumption) | exact st3 (by assumption) (by first | exact Nat.le_refl _ | exact hz2.size | exact hz3.size) _ _ _ | exact (st3 (by assumption) (by first | exact Nat.le_refl _ | exact hz2.size | exact hz3.size) _ _ _).drew) c3 c4) | go_keep) (first | (go_at_call 53; refine (H53.out _ (zt1 (W1 := W) (by first | assumption | exact (Below.refl _ _).drew | exact Below.refl _ _ | exact al1 (by assumption) _ | exact al1 (Below.refl _ _).drew _ | exact al1 (Below.refl _ _) _ | exact (al1 (Below.refl _ _) _).drew | exact (al1 (by assumption) _).drew) HB1.out)).mono ?_; rintro e w2 ⟨rfl, hb2⟩; (try ((first | (have hn2 := blk_below (new_at _ _) hb2) | (have hn2 := blk_below (W := World.drew (World.alloc W1 (.cells #[.int .i64 0, .bool false, .bool false] 98))) (new_at W1 _) hb2)); have n20 := blk_cell (k := 0) hn2 rfl; have n21 := blk_cell (k := 1) hn2 rfl; have n22 := blk_cell (k := 2) hn2 rfl; have n2f : ∀ j, w2.frozen? ⟨_, j, none⟩ = false := (fun j => blk_frozen hn2); have n2a := n2f 0; have n2b := n2f 1; have n2c := n2f 2)); have hz2 : Below W1.heap.size W1 w2 := zt1 hb2 (by first | assumption | exact (Below.refl _ _).drew | exact Below.refl _ _ | exact al1 (by assumption) _ | exact al1 (Below.refl _ _).drew _ | exact al1 (Below.refl _ _) _ | exact (al1 (Below.refl _ _) _).drew | exact (al1 (by assumption) _).drew)) | (go_at_call 54; refine (H54.out _ (zt1 (W1 := W) (by first | assumption | exact (Below.refl _ _).drew | exact Below.refl _ _ | exact al1 (by assumption) _ | exact al1 (Below.refl _ _).drew _ | exact al1 (Below.refl _ _) _ | exact (al1 (Below.refl _ _) _).drew | exact (al1 (by assumption) _).drew) HB1.out)).mono ?_; rintro e w3 ⟨rfl, hb3⟩; (try ((first | (have hn3 := blk_below (new_at _ _) hb3) | (have hn3 := blk_below (W := World.drew (World.alloc W1 (.cells #[.int .i64 0, .bool false, .bool false] 98))) (new_at W1 _) hb3)); have n30 := blk_cell (k := 0) hn3 rfl; have n31 := blk_cell (k := 1) hn3 rfl; have n32 := blk_cell (k := 2) hn3 rfl; have n3f : ∀ j, w3.frozen? ⟨_, j, none⟩ = false := (fun j => blk_frozen hn3); have n3a := n3f 0; have n3b := n3f 1; have n3c := n3f 2)); (try (have hm3 := blk_below hn2 hb3; have m30 := blk_cell (k := 0) hm3 rfl; have m31 := blk_cell (k := 1) hm3 rfl; have m32 := blk_cell (k := 2) hm3 rfl; have m3a : w3.frozen? ⟨_, 0, none⟩ = false := blk_frozen hm3; have m3b : w3.frozen? ⟨_, 1, none⟩ = false := blk_frozen hm3; have m3c : w3.frozen? ⟨_, 2, none⟩ = false := blk_frozen hm3)); have hz3 : Below W1.heap.size W1 w3 := zt1 hb3 (by first | assumption | exact (Below.refl _ _).drew | exact Below.refl _ _ | exact al1 (by assumption) _ | exact al1 (Below.refl _ _).drew _ | exact al1 (Below.refl _ _) _ | exact (al1 (Below.refl _ _) _).drew | exact (al1 (by assumption) _).drew)))
    all_goals go_wp2_with fail
    all_goals go_meet
    all_goals first
      | (refine ⟨w3.heap.size, rfl, ?_⟩; exact ⟨new_at w3 _, al1 hz3 _⟩)
      | (refine ⟨w2.heap.size, rfl, ?_⟩; exact ⟨blk_set (blk_set (blk_set hn3 0 _) 1 _) 2 _, st3 hz3 hz2.size _ _ _⟩)
      | (refine ⟨W1.heap.size, rfl, ?_⟩; exact ⟨blk_set (blk_set (blk_set hm3 0 _) 1 _) 2 _, st3 hz3 (Nat.le_refl _) _ _ _⟩)
      | (refine ⟨W1.heap.size, rfl, ?_⟩; exact ⟨blk_set (blk_set (blk_set hn3 0 _) 1 _) 2 _, st3 hz3 (Nat.le_refl _) _ _ _⟩)
  case rest =>
    obtain ⟨q, rfl, HX⟩ := hcut
    have x0 := blk_cell (k := 0) HX.out.1 rfl
    have x1 := blk_cell (k := 1) HX.out.1 rfl
    have x2 := blk_cell (k := 2) HX.out.1 rfl
    obtain ⟨c7, f7, _, _⟩ := HR.out wc (zt1 HX.out.2 HB1.out)
    have hqs : q < wc.heap.size := blk_lt HX.out.1
    have hgs : g < wc.heap.size := World.block_lt_of_cell? _ _ c7
    have hv3 : (L : Int) ≤ cv := by omega
    have HW : Hid (∀ V, Below wc.heap.size wc V → Below W.heap.size W V) := fun V hV => (zt1 HX.out.2 HB1.out).trans (hV.mono (zt1 HX.out.2 HB1.out).size)
    generalize hMM : min (bi + m) 1000 = M at *
    generalize hFF : decide ((wide : Int) ≤ R) = F at *
    clear H53 H54 c3 c4 HP
    go_wp2_with fail
    go_region_law (refine step_b98 (by rfl) _ _ (by rfl) B (.slice (some ⟨qv, 0, none⟩) L cv) (p.ar.reverse ++ [p.bl]) ⟨M, ev, F⟩ L (by rfl) (HR.out _ (HW.out _ (by first | exact ((Below.refl _ _).alloc (Nat.le_refl _) _).drew | exact ((Below.refl _ _).drew).alloc (Nat.le_refl _) _))).2.2.1 wc.heap.size 1 (by rfl) (by first | exact new_at _ _ | exact new_at wc.drew _) hLb (HR.out _ (HW.out _ (by first | exact ((Below.refl _ _).alloc (Nat.le_refl _) _).drew | exact ((Below.refl _ _).drew).alloc (Nat.le_refl _) _))).2.2.2 ?_; intro q2 cap2 w4 ho4 hg4; obtain ⟨HF4, z7, y7⟩ := HFIN.out _ _ _ _ (HW.out _ (by first | exact ((Below.refl _ _).alloc (Nat.le_refl _) _).drew | exact ((Below.refl _ _).drew).alloc (Nat.le_refl _) _)) ho4 hg4)
    all_goals (
      go_wp2_with fail
      go_end0
      exact ⟨rfl, by rw [hMM, hFF]; exact HF4.out⟩)
end Go.Proofs.YtcokccfbeonlnaaDoor
