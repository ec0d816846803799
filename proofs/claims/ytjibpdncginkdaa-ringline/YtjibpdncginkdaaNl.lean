import Derived.Test.YtjibpdncginkdaaNm
set_option linter.unusedVariables false
set_option linter.unusedSimpArgs false
namespace Go.Proofs.Ytjibpdncginkdaa
open Go.RowKit

set_option maxHeartbeats 1000000 in
theorem popBT_any (own : Nat → Nat) (i g room front : Nat) (sv : Value) (zs l : List Th) (t : Th) (w : World) (hR : RT own i w g room sv zs front l) (hnf : Nf own w) (hlp : 0 < l.length) (hx : l[l.length - 1]? = some t) :
    Calls Try.prog 7 #[.pointer (some ⟨g, 0, none⟩)] w fun e w' => e = .returned (.tuple #[.agg #[.string t.1, .int .i64 t.2.1, .int .i64 t.2.2], .int .i64 0]) ∧ AfT own i w w' g room l.dropLast := by
  obtain ⟨b, rfl, hrow, hob, hbg, hfl⟩ := hR.nonempty hlp
  have hle := hR.hold.1
  have hr2 := hR.r2
  have hr3 := hR.len
  have hbw := blk_lt hrow
  have hgw := blk_lt hR.blk
  obtain ⟨p, hp⟩ : ∃ p, (front + (l.length - 1)) % zs.length = p := ⟨_, rfl⟩
  have hpn : p < zs.length := by rw [← hp]; exact Nat.mod_lt _ (by omega)
  have hy : zs[p]? = some t := by rw [← hp, ← hR.hold.2 (l.length - 1) (by omega)]; exact hx
  have hh : Holds (zs.set p z0) front l.dropLast := by have := hR.hold.popBack z0 hlp; rw [hp] at this; exact this
  have HEND : Hid (∀ W, Fr i own own w W → W.heap[g]? = some (.cells #[.int .i64 room, .slice (some ⟨b, 0, none⟩) zs.length zs.length, .int .i64 front, .int .i64 ((l.length : Int) - 1)] 57 (0, 0)) → W.heap[b]? = some (.cells (flat encT (zs.set p z0)).toArray 25 (0, 0)) → AfT own i w W g room l.dropLast) := fun W hF hg hb =>
    RT.after hR hnf hF (by rw [hg, List.length_dropLast, show ((l.length - 1 : Nat) : Int) = (l.length : Int) - 1 by omega]) hb hbg hob List.length_set hfl hh
  have HS : Hid (∀ W, Below w.heap.size w W → Calls Try.prog 25 #[.pointer (some ⟨g, 0, none⟩)] W fun e w' => e = .returned (.int .i64 0) ∧ w' = W) := fun W hW => someT g l.length W ((hW.cell (p := ⟨g, 3, none⟩) hgw).trans hR.c3) hlp
  have HE : Hid (∀ W, Below w.heap.size w W → Calls Try.prog 26 #[.pointer (some ⟨g, 0, none⟩), .int .i64 ((l.length : Int) - 1)] W fun e w' => e = .returned (.agg #[.string t.1, .int .i64 t.2.1, .int .i64 t.2.2]) ∧ W.grownBy w' (some b) ∧ w'.heap[b]? = some (.cells (flat encT (zs.set p z0)).toArray 25 (0, 0))) := fun W hW => by
    have := emptyT g zs.length front (l.length - 1) p b zs t W ((hW.cell (p := ⟨g, 1, none⟩) hgw).trans hR.c1) ((hW.cell (p := ⟨g, 2, none⟩) hgw).trans hR.c2) hpn (by omega) (by omega) hp ((hW.block b hbw).trans hrow) hy
    rw [show ((l.length - 1 : Nat) : Int) = (l.length : Int) - 1 by omega] at this
    exact this
  have HBLK : Hid (w.heap[g]? = some (.cells #[.int .i64 room, .slice (some ⟨b, 0, none⟩) zs.length zs.length, .int .i64 front, .int .i64 l.length] 57 (0, 0))) := hR.blk
  have HOG : Hid (own g = i ∧ own b = i) := ⟨hR.lab, hob⟩
  clear hnf hrow hob hp hy hx hh hR
  have q7 : g ≠ b := Ne.symm hbg
  generalize zs.length = n at *
  generalize hL : l.length = c at *
  clear hL
  go_enter Try.func7, Try.ntmps7
  go_wp2_with fail
  obtain ⟨W, hW⟩ : ∃ W, w.alloc (Obj.cells #[.string z0.1, .int .i64 z0.2.1, .int .i64 z0.2.2] 25) = W := ⟨_, rfl⟩
  have hB : Below w.heap.size w W := by rw [← hW]; exact (Below.refl _ w).alloc (Nat.le_refl _) _
  have bx : BoxT W w.heap.size z0 := by rw [← hW]; exact BoxT.new w z0
  have hsz : W.heap.size = w.heap.size + 1 := by rw [← hW]; simp
  change Calls _ _ _ (Go.World.alloc w (Obj.cells #[.string z0.1, .int .i64 z0.2.1, .int .i64 z0.2.2] 25)) _
  rw [hW]
  clear hW
  refine (HS.out W hB).mono ?_
  rintro e w1 ⟨rfl, rfl⟩
  have h30 := (hB.cell (p := ⟨g, 3, none⟩) hgw).trans (blk_cell (k := 3) HBLK.out rfl)
  go_wp2_with fail
  refine (HE.out w1 hB).mono ?_
  rintro e w2 ⟨rfl, hG, hrow2⟩
  have bx2 : BoxT w2 w.heap.size z0 := (hG.block _ (by omega) (by simp; omega)).trans bx
  have hblk2 : w2.heap[g]? = some (.cells #[.int .i64 room, .slice (some ⟨b, 0, none⟩) n n, .int .i64 front, .int .i64 c] 57 (0, 0)) := (hG.block g (by omega) (by simp; exact q7)).trans ((hB.block g hgw).trans HBLK.out)
  have hF2 : Fr i own own w w2 := (Fr.of_below hB).grown hG HOG.out.2
  have hs2 := hG.size
  clear hG hB bx HS HE HBLK h30
  have h3 : w2.cell? ⟨g, 3, none⟩ = some (.int .i64 c) := blk_cell (k := 3) hblk2 rfl
  have f3 : w2.frozen? ⟨g, 3, none⟩ = false := blk_frozen hblk2
  have HBK : Hid (w2.heap[g]? = some (.cells #[.int .i64 room, .slice (some ⟨b, 0, none⟩) n n, .int .i64 front, .int .i64 c] 57 (0, 0))) := hblk2
  have HRW : Hid (w2.heap[b]? = some (.cells (flat encT (zs.set p z0)).toArray 25 (0, 0))) := hrow2
  have u0 := bx2.c0
  have u1 := bx2.c1
  have u2 := bx2.c2
  have e0 := bx2.fz 0
  have e1 := bx2.fz 1
  have e2 := bx2.fz 2
  have q9 : g ≠ w.heap.size := by omega
  have q8 : g ≠ w2.heap.size := by omega
  have q10 : w2.heap.size ≠ w.heap.size := by omega
  have q11 : g < w2.heap.size := by omega
  have q12 : w.heap.size < w2.heap.size := by omega
  have h3a : (w2.alloc (Obj.cells #[.string t.1, .int .i64 t.2.1, .int .i64 t.2.2] 25)).cell? ⟨g, 3, none⟩ = some (.int .i64 c) := blk_cell (k := 3) ((Below.heap_alloc _ _ g q11).trans hblk2) rfl
  clear hblk2 hrow2
  go_wp2_with fail
  have hF4 : Fr i own own w (set3 (w2.setCell ⟨g, 3, none⟩ (.int .i64 ((c : Int) - 1))) w.heap.size 0 t) := (hF2.set' HOG.out.1 3 _).new3 (Nat.le_refl _) 0 t
  have hG4 := set3_other (B := w.heap.size) (o := 0) (blk_set HBK.out 3 (.int .i64 ((c : Int) - 1))) q9 t
  have hb4 := set3_other (B := w.heap.size) (o := 0) (blk_other (k := 3) HRW.out hbg (.int .i64 ((c : Int) - 1))) (by omega) t
  have bz : BoxT (set3 (w2.setCell ⟨g, 3, none⟩ (.int .i64 ((c : Int) - 1))) w.heap.size 0 t) w.heap.size t := set3_box (t' := z0) (blk_other (k := 3) bx2 (Ne.symm q9) (.int .i64 ((c : Int) - 1))) t
  change bodyPost _ _ _ _ _ ((set3 (w2.setCell ⟨g, 3, none⟩ (.int .i64 ((c : Int) - 1))) w.heap.size 0 t).alloc (Obj.cells #[.string t.1, .int .i64 t.2.1, .int .i64 t.2.2] 25))
  generalize set3 (w2.setCell ⟨g, 3, none⟩ (.int .i64 ((c : Int) - 1))) w.heap.size 0 t = W5 at *
  have hend := HEND.out _ (hF4.then ((Below.refl _ W5).alloc (Nat.le_refl _) (Obj.cells #[.string t.1, .int .i64 t.2.1, .int .i64 t.2.2] 25))) ((Below.heap_alloc _ _ g (blk_lt hG4)).trans hG4) ((Below.heap_alloc _ _ b (blk_lt hb4)).trans hb4)
  have bz2 := bz.alloc (Obj.cells #[.string t.1, .int .i64 t.2.1, .int .i64 t.2.2] 25)
  have m0 := bz2.c0
  have m1 := bz2.c1
  have m2 := bz2.c2
  clear hF4 hG4 hb4 bz bz2 HEND
  generalize W5.alloc (Obj.cells #[.string t.1, .int .i64 t.2.1, .int .i64 t.2.2] 25) = W6 at *
  exact bodyPost_ret (v := .tuple #[.agg #[.string t.1, .int .i64 t.2.1, .int .i64 t.2.2], .int .i64 0]) (by simp [results, Try.f7, go_sem, m0, m1, m2]) rfl ⟨rfl, hend⟩

set_option maxHeartbeats 1000000 in
theorem atT_any (own : Nat → Nat) (i g room front k : Nat) (sv : Value) (zs l : List Th) (t : Th) (w : World) (hR : RT own i w g room sv zs front l) (hx : l[k]? = some t) :
    Calls Try.prog 8 #[.pointer (some ⟨g, 0, none⟩), .int .i64 k] w fun e w' => e = .returned (.tuple #[.agg #[.string t.1, .int .i64 t.2.1, .int .i64 t.2.2], .int .i64 0]) ∧ Below w.heap.size w w' := by
  have hkl : k < l.length := (List.getElem?_eq_some_iff.1 hx).1
  obtain ⟨b, rfl, hrow, hob, hbg, hfl⟩ := hR.nonempty (by omega)
  have hle := hR.hold.1
  have hr2 := hR.r2
  have hr3 := hR.len
  have hbw := blk_lt hrow
  have hgw := blk_lt hR.blk
  obtain ⟨p, hp⟩ : ∃ p, (front + k) % zs.length = p := ⟨_, rfl⟩
  have hpn : p < zs.length := by rw [← hp]; exact Nat.mod_lt _ (by omega)
  have hy : zs[p]? = some t := by rw [← hp, ← hR.hold.2 k hkl]; exact hx
  have HS : Hid (∀ W, Below w.heap.size w W → Calls Try.prog 28 #[.pointer (some ⟨g, 0, none⟩), .int .i64 k] W fun e w' => e = .returned (.int .i64 0) ∧ w' = W) := fun W hW => withinT g l.length k W ((hW.cell (p := ⟨g, 3, none⟩) hgw).trans hR.c3) hkl
  have HC : Hid (∀ W, W.cell? ⟨g, 1, none⟩ = some (.slice (some ⟨b, 0, none⟩) zs.length zs.length) → W.cell? ⟨g, 2, none⟩ = some (.int .i64 front) → Calls Try.prog 27 #[.pointer (some ⟨g, 0, none⟩), .int .i64 k] W fun e w' => e = .returned (.int .i64 p) ∧ ∃ m, w' = W.drewN m) := fun W a b => cellT g zs.length front k p _ W a b (by omega) (by omega) (by omega) hp
  have HR : Hid (RT own i w g room (.slice (some ⟨b, 0, none⟩) zs.length zs.length) zs front l) := hR
  have HROW : Hid (w.heap[b]? = some (.cells (flat encT zs).toArray 25 (0, 0))) := hrow
  have HY : Hid (zs[p]? = some t) := hy
  have i1 : (0 : Int) ≤ (p : Int) := by omega
  have i2 : (p : Int) < (zs.length : Int) := by omega
  clear hrow hob hp hy hx hR hkl
  go_enter Try.func8, Try.ntmps8
  go_wp2_with fail
  obtain ⟨W, hW⟩ : ∃ W, w.alloc (Obj.cells #[.string z0.1, .int .i64 z0.2.1, .int .i64 z0.2.2] 25) = W := ⟨_, rfl⟩
  have hB : Below w.heap.size w W := by rw [← hW]; exact (Below.refl _ w).alloc (Nat.le_refl _) _
  have bx : BoxT W w.heap.size z0 := by rw [← hW]; exact BoxT.new w z0
  have hsz : W.heap.size = w.heap.size + 1 := by rw [← hW]; simp
  change Calls _ _ _ (Go.World.alloc w (Obj.cells #[.string z0.1, .int .i64 z0.2.1, .int .i64 z0.2.2] 25)) _
  rw [hW]
  clear hW
  refine (HS.out W hB).mono ?_
  rintro e w1 ⟨rfl, rfl⟩
  have hRW := HR.out.below hB
  have h1 := hRW.c1
  have h2 := hRW.c2
  have hrw : w1.heap[b]? = some (.cells (flat encT zs).toArray 25 (0, 0)) := (hB.block b hbw).trans HROW.out
  have r0 := blk_cell hrw (flatT_at0 HY.out)
  have r1 := blk_cell hrw (flatT_at1 HY.out)
  have r2 := blk_cell hrw (flatT_at2 HY.out)
  have u0 := bx.c0
  have u1 := bx.c1
  have u2 := bx.c2
  have e0 := bx.fz 0
  have e1 := bx.fz 1
  have e2 := bx.fz 2
  clear hRW hrw HR HROW HY
  generalize zs.length = n at *
  go_wp2_with fail
  go_region_with (go_at_call 27; refine (HC.out _ (by simpa using h1) (by simpa using h2)).mono ?_; rintro e w1 ⟨rfl, m, rfl⟩)
  all_goals go_wp2_with fail
  all_goals (
    have bz : BoxT (set3 (w1.drewN (1 + m)) w.heap.size 0 t) w.heap.size t := set3_box (W := w1.drewN (1 + m)) bx t
    have hB2 : Below w.heap.size w (w1.drewN (1 + m)) := hB.trans ((below_drewN w1 _).mono hB.size)
    have hB3 : Below w.heap.size w (set3 (w1.drewN (1 + m)) w.heap.size 0 t) := ((hB2.setCell (p := ⟨w.heap.size, 0, none⟩) (Nat.le_refl _) _).setCell (p := ⟨w.heap.size, 0 + 1, none⟩) (Nat.le_refl _) _).setCell (p := ⟨w.heap.size, 0 + 2, none⟩) (Nat.le_refl _) _
    change bodyPost _ _ _ _ _ (set3 (w1.drewN (1 + m)) w.heap.size 0 t)
    have m0 := bz.c0
    have m1 := bz.c1
    have m2 := bz.c2
    clear hB2 bz
    generalize set3 (w1.drewN (1 + m)) w.heap.size 0 t = W4 at *
    exact bodyPost_ret (v := .tuple #[.agg #[.string t.1, .int .i64 t.2.1, .int .i64 t.2.2], .int .i64 0]) (by simp [results, Try.f8, go_sem, m0, m1, m2]) rfl ⟨rfl, hB3⟩)

set_option maxHeartbeats 1000000 in
theorem setT_any (own : Nat → Nat) (i g room front k : Nat) (sv : Value) (zs l : List Th) (t : Th) (w : World) (hR : RT own i w g room sv zs front l) (hnf : Nf own w) (hkl : k < l.length) :
    Calls Try.prog 11 #[.pointer (some ⟨g, 0, none⟩), .int .i64 k, .agg #[.string t.1, .int .i64 t.2.1, .int .i64 t.2.2]] w fun e w' => e = .returned (.int .i64 0) ∧ AfT own i w w' g room (l.set k t) := by
  obtain ⟨b, rfl, hrow, hob, hbg, hfl⟩ := hR.nonempty (by omega)
  have hle := hR.hold.1
  have hr2 := hR.r2
  have hr3 := hR.len
  have hbw := blk_lt hrow
  have hgw := blk_lt hR.blk
  obtain ⟨p, hp⟩ : ∃ p, (front + k) % zs.length = p := ⟨_, rfl⟩
  have hpn : p < zs.length := by rw [← hp]; exact Nat.mod_lt _ (by omega)
  obtain ⟨y, hy⟩ : ∃ y, zs[p]? = some y := ⟨_, List.getElem?_eq_getElem hpn⟩
  have HEND : Hid (∀ W, Below w.heap.size w W → AfT own i w (set3 W b (p * 3) t) g room (l.set k t)) := fun W hW => by
    have hh := hR.hold.set t hkl
    rw [hp] at hh
    refine RT.after hR hnf ((((Fr.of_below hW).set' hob _ _).set' hob _ _).set' hob _ _) ?_ (set3_row ((hW.block b hbw).trans hrow) t) hbg hob List.length_set hfl hh
    rw [List.length_set]
    exact set3_other ((hW.block g hgw).trans hR.blk) (Ne.symm hbg) t
  have HS : Hid (∀ W, Below w.heap.size w W → Calls Try.prog 28 #[.pointer (some ⟨g, 0, none⟩), .int .i64 k] W fun e w' => e = .returned (.int .i64 0) ∧ w' = W) := fun W hW => withinT g l.length k W ((hW.cell (p := ⟨g, 3, none⟩) hgw).trans hR.c3) hkl
  have HC : Hid (∀ W, W.cell? ⟨g, 1, none⟩ = some (.slice (some ⟨b, 0, none⟩) zs.length zs.length) → W.cell? ⟨g, 2, none⟩ = some (.int .i64 front) → Calls Try.prog 27 #[.pointer (some ⟨g, 0, none⟩), .int .i64 k] W fun e w' => e = .returned (.int .i64 p) ∧ ∃ m, w' = W.drewN m) := fun W a b => cellT g zs.length front k p _ W a b (by omega) (by omega) (by omega) hp
  have HR : Hid (RT own i w g room (.slice (some ⟨b, 0, none⟩) zs.length zs.length) zs front l) := hR
  have HROW : Hid (w.heap[b]? = some (.cells (flat encT zs).toArray 25 (0, 0))) := hrow
  have HY : Hid (zs[p]? = some y) := hy
  have i1 : (0 : Int) ≤ (p : Int) := by omega
  have i2 : (p : Int) < (zs.length : Int) := by omega
  clear hrow hob hp hy hR hnf hkl
  have q7 : g ≠ b := Ne.symm hbg
  have q8 : b ≠ w.heap.size := by omega
  go_enter Try.func11, Try.ntmps11
  go_wp2_with fail
  obtain ⟨W, hW⟩ : ∃ W, w.alloc (Obj.cells #[.string t.1, .int .i64 t.2.1, .int .i64 t.2.2] 25) = W := ⟨_, rfl⟩
  have hB : Below w.heap.size w W := by rw [← hW]; exact (Below.refl _ w).alloc (Nat.le_refl _) _
  have bx : BoxT W w.heap.size t := by rw [← hW]; exact BoxT.new w t
  rw [hW]
  clear hW
  refine (HS.out W hB).mono ?_
  rintro e w1 ⟨rfl, rfl⟩
  have hRW := HR.out.below hB
  have h1 := hRW.c1
  have h2 := hRW.c2
  have hrw : w1.heap[b]? = some (.cells (flat encT zs).toArray 25 (0, 0)) := (hB.block b hbw).trans HROW.out
  have r0 := blk_cell hrw (flatT_at0 HY.out)
  have r1 := blk_cell hrw (flatT_at1 HY.out)
  have r2 := blk_cell hrw (flatT_at2 HY.out)
  have f0 : w1.frozen? ⟨b, p * 3, none⟩ = false := blk_frozen hrw
  have f1 : w1.frozen? ⟨b, p * 3 + 1, none⟩ = false := blk_frozen hrw
  have f2 : w1.frozen? ⟨b, p * 3 + 2, none⟩ = false := blk_frozen hrw
  have s0 := bx.c0
  have s1 := bx.c1
  have s2 := bx.c2
  have HFIN : Hid (AfT own i w (set3 w1 b (p * 3) t) g room (l.set k t)) := HEND.out w1 hB
  clear hRW hrw HR HROW HY HEND
  generalize zs.length = n at *
  go_wp2_with fail
  go_region_with (go_at_call 27; refine (HC.out _ (by simpa using h1) (by simpa using h2)).mono ?_; rintro e w1 ⟨rfl, m, rfl⟩)
  all_goals go_wp2_with fail
  all_goals go_ret
  all_goals exact ⟨rfl, After.same HFIN.out rfl rfl rfl rfl⟩
end Go.Proofs.Ytjibpdncginkdaa
