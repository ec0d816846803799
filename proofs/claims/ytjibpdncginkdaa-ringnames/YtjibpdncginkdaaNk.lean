import Derived.Test.YtjibpdncginkdaaNj
set_option linter.unusedVariables false
set_option linter.unusedSimpArgs false
namespace Go.Proofs.Ytjibpdncginkdaa
open Go.RowKit

theorem Fr.grown {i b : Nat} {own : Nat → Nat} {w W W' : World} (h : Fr i own own w W) (hg : W.grownBy W' (some b)) (hb : own b = i) : Fr i own own w W' :=
  ⟨hg.os.trans h.os, hg.tape.trans h.tape, hg.output.trans h.output, Nat.le_trans h.size hg.size,
   fun k hk hi => (hg.block k (Nat.lt_of_lt_of_le hk h.size) (fun e => hi (by cases e; exact hb))).trans (h.block k hk hi), h.old⟩
theorem Fr.new3 {i : Nat} {own : Nat → Nat} {w W : World} (h : Fr i own own w W) {B : Nat} (hB : w.heap.size ≤ B) (o : Nat) (t : Th) : Fr i own own w (set3 W B o t) :=
  ⟨h.os, h.tape, h.output, by rw [set3_size]; exact h.size,
   fun k hk hi => by
    have hne : k ≠ B := by omega
    have h1 := h.block k hk hi
    unfold set3
    rw [Below.heap_setCell _ _ _ _ hne, Below.heap_setCell _ _ _ _ hne, Below.heap_setCell _ _ _ _ hne]
    exact h1, h.old⟩

set_option maxHeartbeats 1000000 in
theorem popFT_err (pv : Value) (er : Int) (w : World) (hs : ∀ W, Below w.heap.size w W → Calls Try.prog 25 #[pv] W fun e w' => e = .returned (.int .i64 er) ∧ w' = W) (her : er ≠ 0) :
    Calls Try.prog 6 #[pv] w fun e w' => e = .returned (.tuple #[.agg #[.string ⟨#[]⟩, .int .i64 0, .int .i64 0], .int .i64 er]) ∧ Below w.heap.size w w' := by
  have HS : Hid (∀ W, Below w.heap.size w W → Calls Try.prog 25 #[pv] W fun e w' => e = .returned (.int .i64 er) ∧ w' = W) := hs
  have q1 : (er == 0) = false := by simp; exact her
  have q2 : ¬ (er = 0) := her
  clear hs her
  go_enter Try.func6, Try.ntmps6
  go_wp2_with fail
  obtain ⟨W, hW⟩ : ∃ W, w.alloc (Obj.cells #[.string z0.1, .int .i64 z0.2.1, .int .i64 z0.2.2] 25) = W := ⟨_, rfl⟩
  have hB : Below w.heap.size w W := by rw [← hW]; exact (Below.refl _ w).alloc (Nat.le_refl _) _
  have bx : BoxT W w.heap.size z0 := by rw [← hW]; exact BoxT.new w z0
  have hsz : W.heap.size = w.heap.size + 1 := by rw [← hW]; simp
  change Calls _ _ _ (Go.World.alloc w (Obj.cells #[.string z0.1, .int .i64 z0.2.1, .int .i64 z0.2.2] 25)) _
  rw [hW]
  clear hW
  refine (HS.out W hB).mono ?_
  rintro e w1 ⟨rfl, rfl⟩
  have s0 := bx.c0
  have s1 := bx.c1
  have s2 := bx.c2
  have f0 := bx.fz 0
  have f1 := bx.fz 1
  have f2 := bx.fz 2
  go_wp2_with fail
  have bz := (set3_box bx z0).alloc (Obj.cells #[.string z0.1, .int .i64 z0.2.1, .int .i64 z0.2.2] 25)
  have hB3 : Below w.heap.size w ((set3 w1 w.heap.size 0 z0).alloc (Obj.cells #[.string z0.1, .int .i64 z0.2.1, .int .i64 z0.2.2] 25)) := (((hB.setCell (p := ⟨w.heap.size, 0, none⟩) (Nat.le_refl _) _).setCell (p := ⟨w.heap.size, 0 + 1, none⟩) (Nat.le_refl _) _).setCell (p := ⟨w.heap.size, 0 + 2, none⟩) (Nat.le_refl _) _).alloc (by rw [size_set, size_set, size_set]; omega) _
  change bodyPost _ _ _ _ _ ((set3 w1 w.heap.size 0 z0).alloc (Obj.cells #[.string z0.1, .int .i64 z0.2.1, .int .i64 z0.2.2] 25))
  have m0 := bz.c0
  have m1 := bz.c1
  have m2 := bz.c2
  generalize (set3 w1 w.heap.size 0 z0).alloc (Obj.cells #[.string z0.1, .int .i64 z0.2.1, .int .i64 z0.2.2] 25) = W4 at *
  exact bodyPost_ret (v := .tuple #[.agg #[.string z0.1, .int .i64 z0.2.1, .int .i64 z0.2.2], .int .i64 er]) (by simp [results, Try.f6, go_sem, m0, m1, m2]) rfl ⟨rfl, hB3⟩
set_option maxHeartbeats 1000000 in
theorem popBT_err (pv : Value) (er : Int) (w : World) (hs : ∀ W, Below w.heap.size w W → Calls Try.prog 25 #[pv] W fun e w' => e = .returned (.int .i64 er) ∧ w' = W) (her : er ≠ 0) :
    Calls Try.prog 7 #[pv] w fun e w' => e = .returned (.tuple #[.agg #[.string ⟨#[]⟩, .int .i64 0, .int .i64 0], .int .i64 er]) ∧ Below w.heap.size w w' := by
  have HS : Hid (∀ W, Below w.heap.size w W → Calls Try.prog 25 #[pv] W fun e w' => e = .returned (.int .i64 er) ∧ w' = W) := hs
  have q1 : (er == 0) = false := by simp; exact her
  have q2 : ¬ (er = 0) := her
  clear hs her
  go_enter Try.func7, Try.ntmps7
  go_wp2_with fail
  obtain ⟨W, hW⟩ : ∃ W, w.alloc (Obj.cells #[.string z0.1, .int .i64 z0.2.1, .int .i64 z0.2.2] 25) = W := ⟨_, rfl⟩
  have hB : Below w.heap.size w W := by rw [← hW]; exact (Below.refl _ w).alloc (Nat.le_refl _) _
  have bx : BoxT W w.heap.size z0 := by rw [← hW]; exact BoxT.new w z0
  have hsz : W.heap.size = w.heap.size + 1 := by rw [← hW]; simp
  change Calls _ _ _ (Go.World.alloc w (Obj.cells #[.string z0.1, .int .i64 z0.2.1, .int .i64 z0.2.2] 25)) _
  rw [hW]
  clear hW
  refine (HS.out W hB).mono ?_
  rintro e w1 ⟨rfl, rfl⟩
  have s0 := bx.c0
  have s1 := bx.c1
  have s2 := bx.c2
  have f0 := bx.fz 0
  have f1 := bx.fz 1
  have f2 := bx.fz 2
  go_wp2_with fail
  have bz := (set3_box bx z0).alloc (Obj.cells #[.string z0.1, .int .i64 z0.2.1, .int .i64 z0.2.2] 25)
  have hB3 : Below w.heap.size w ((set3 w1 w.heap.size 0 z0).alloc (Obj.cells #[.string z0.1, .int .i64 z0.2.1, .int .i64 z0.2.2] 25)) := (((hB.setCell (p := ⟨w.heap.size, 0, none⟩) (Nat.le_refl _) _).setCell (p := ⟨w.heap.size, 0 + 1, none⟩) (Nat.le_refl _) _).setCell (p := ⟨w.heap.size, 0 + 2, none⟩) (Nat.le_refl _) _).alloc (by rw [size_set, size_set, size_set]; omega) _
  change bodyPost _ _ _ _ _ ((set3 w1 w.heap.size 0 z0).alloc (Obj.cells #[.string z0.1, .int .i64 z0.2.1, .int .i64 z0.2.2] 25))
  have m0 := bz.c0
  have m1 := bz.c1
  have m2 := bz.c2
  generalize (set3 w1 w.heap.size 0 z0).alloc (Obj.cells #[.string z0.1, .int .i64 z0.2.1, .int .i64 z0.2.2] 25) = W4 at *
  exact bodyPost_ret (v := .tuple #[.agg #[.string z0.1, .int .i64 z0.2.1, .int .i64 z0.2.2], .int .i64 er]) (by simp [results, Try.f7, go_sem, m0, m1, m2]) rfl ⟨rfl, hB3⟩

set_option maxHeartbeats 1000000 in
theorem atT_err (pv : Value) (er k : Int) (w : World) (hs : ∀ W, Below w.heap.size w W → Calls Try.prog 28 #[pv, .int .i64 k] W fun e w' => e = .returned (.int .i64 er) ∧ w' = W) (her : er ≠ 0) :
    Calls Try.prog 8 #[pv, .int .i64 k] w fun e w' => e = .returned (.tuple #[.agg #[.string ⟨#[]⟩, .int .i64 0, .int .i64 0], .int .i64 er]) ∧ Below w.heap.size w w' := by
  have HS : Hid (∀ W, Below w.heap.size w W → Calls Try.prog 28 #[pv, .int .i64 k] W fun e w' => e = .returned (.int .i64 er) ∧ w' = W) := hs
  have q1 : (er == 0) = false := by simp; exact her
  have q2 : ¬ (er = 0) := her
  clear hs her
  go_enter Try.func8, Try.ntmps8
  go_wp2_with fail
  obtain ⟨W, hW⟩ : ∃ W, w.alloc (Obj.cells #[.string z0.1, .int .i64 z0.2.1, .int .i64 z0.2.2] 25) = W := ⟨_, rfl⟩
  have hB : Below w.heap.size w W := by rw [← hW]; exact (Below.refl _ w).alloc (Nat.le_refl _) _
  have bx : BoxT W w.heap.size z0 := by rw [← hW]; exact BoxT.new w z0
  have hsz : W.heap.size = w.heap.size + 1 := by rw [← hW]; simp
  change Calls _ _ _ (Go.World.alloc w (Obj.cells #[.string z0.1, .int .i64 z0.2.1, .int .i64 z0.2.2] 25)) _
  rw [hW]
  clear hW
  refine (HS.out W hB).mono ?_
  rintro e w1 ⟨rfl, rfl⟩
  have s0 := bx.c0
  have s1 := bx.c1
  have s2 := bx.c2
  have f0 := bx.fz 0
  have f1 := bx.fz 1
  have f2 := bx.fz 2
  go_wp2_with fail
  have bz := (set3_box bx z0).alloc (Obj.cells #[.string z0.1, .int .i64 z0.2.1, .int .i64 z0.2.2] 25)
  have hB3 : Below w.heap.size w ((set3 w1 w.heap.size 0 z0).alloc (Obj.cells #[.string z0.1, .int .i64 z0.2.1, .int .i64 z0.2.2] 25)) := (((hB.setCell (p := ⟨w.heap.size, 0, none⟩) (Nat.le_refl _) _).setCell (p := ⟨w.heap.size, 0 + 1, none⟩) (Nat.le_refl _) _).setCell (p := ⟨w.heap.size, 0 + 2, none⟩) (Nat.le_refl _) _).alloc (by rw [size_set, size_set, size_set]; omega) _
  change bodyPost _ _ _ _ _ ((set3 w1 w.heap.size 0 z0).alloc (Obj.cells #[.string z0.1, .int .i64 z0.2.1, .int .i64 z0.2.2] 25))
  have m0 := bz.c0
  have m1 := bz.c1
  have m2 := bz.c2
  generalize (set3 w1 w.heap.size 0 z0).alloc (Obj.cells #[.string z0.1, .int .i64 z0.2.1, .int .i64 z0.2.2] 25) = W4 at *
  exact bodyPost_ret (v := .tuple #[.agg #[.string z0.1, .int .i64 z0.2.1, .int .i64 z0.2.2], .int .i64 er]) (by simp [results, Try.f8, go_sem, m0, m1, m2]) rfl ⟨rfl, hB3⟩

theorem setT_err (pv : Value) (er k : Int) (t : Th) (w : World) (hs : ∀ W, Below w.heap.size w W → Calls Try.prog 28 #[pv, .int .i64 k] W fun e w' => e = .returned (.int .i64 er) ∧ w' = W) (her : er ≠ 0) :
    Calls Try.prog 11 #[pv, .int .i64 k, .agg #[.string t.1, .int .i64 t.2.1, .int .i64 t.2.2]] w fun e w' => e = .returned (.int .i64 er) ∧ Below w.heap.size w w' := by
  have HS : Hid (∀ W, Below w.heap.size w W → Calls Try.prog 28 #[pv, .int .i64 k] W fun e w' => e = .returned (.int .i64 er) ∧ w' = W) := hs
  have q1 : (er == 0) = false := by simp; exact her
  have q2 : ¬ (er = 0) := her
  clear hs her
  go_enter Try.func11, Try.ntmps11
  go_wp2_with fail
  have hB : Below w.heap.size w (w.alloc (Obj.cells #[.string t.1, .int .i64 t.2.1, .int .i64 t.2.2] 25)) := (Below.refl _ w).alloc (Nat.le_refl _) _
  refine (HS.out _ hB).mono ?_
  rintro e w1 ⟨rfl, rfl⟩
  go_wp2_with fail
  go_ret
  exact ⟨rfl, hB⟩

/-- Behind a call on a ring that has cells. -/
theorem RT.after {own : Nat → Nat} {i : Nat} {w W : World} {g room b : Nat} {zs zs' : List Th} {front front' : Nat} {l l' : List Th} (h : RT own i w g room (.slice (some ⟨b, 0, none⟩) zs.length zs.length) zs front l) (hnf : Nf own w) (hF : Fr i own own w W)
    (hg : W.heap[g]? = some (.cells #[.int .i64 room, .slice (some ⟨b, 0, none⟩) zs.length zs.length, .int .i64 front', .int .i64 l'.length] 57 (0, 0))) (hb : W.heap[b]? = some (.cells (flat encT zs').toArray 25 (0, 0)))
    (hbg : b ≠ g) (hob : own b = i) (hl : zs'.length = zs.length) (hfr : front' < zs.length) (hh : Holds zs' front' l') : AfT own i w W g room l' :=
  ⟨own, _, _, front', hnf.below hF.size, hF, h.put hg hb hbg hob hl hfr hh⟩

set_option maxHeartbeats 1000000 in
theorem popFT_any (own : Nat → Nat) (i g room front : Nat) (sv : Value) (zs l : List Th) (t : Th) (w : World) (hR : RT own i w g room sv zs front l) (hnf : Nf own w) (hx : l[0]? = some t) :
    Calls Try.prog 6 #[.pointer (some ⟨g, 0, none⟩)] w fun e w' => e = .returned (.tuple #[.agg #[.string t.1, .int .i64 t.2.1, .int .i64 t.2.2], .int .i64 0]) ∧ AfT own i w w' g room l.tail := by
  have hlp : 0 < l.length := (List.getElem?_eq_some_iff.1 hx).1
  obtain ⟨b, rfl, hrow, hob, hbg, hfl⟩ := hR.nonempty hlp
  have hle := hR.hold.1
  have hr2 := hR.r2
  have hr3 := hR.len
  have hbw := blk_lt hrow
  have hgw := blk_lt hR.blk
  obtain ⟨p, hp⟩ : ∃ p, (front + 0) % zs.length = p := ⟨_, rfl⟩
  obtain ⟨q, hq⟩ : ∃ q, (front + 1) % zs.length = q := ⟨_, rfl⟩
  have hpn : p < zs.length := by rw [← hp]; exact Nat.mod_lt _ (by omega)
  have hqn : q < zs.length := by rw [← hq]; exact Nat.mod_lt _ (by omega)
  have hy : zs[p]? = some t := by rw [← hp, ← hR.hold.2 0 hlp]; exact hx
  have hh : Holds (zs.set p z0) q l.tail := by have := hR.hold.popFront z0 hlp; rw [hp, hq] at this; exact this
  have HEND : Hid (∀ W, Fr i own own w W → W.heap[g]? = some (.cells #[.int .i64 room, .slice (some ⟨b, 0, none⟩) zs.length zs.length, .int .i64 q, .int .i64 ((l.length : Int) - 1)] 57 (0, 0)) → W.heap[b]? = some (.cells (flat encT (zs.set p z0)).toArray 25 (0, 0)) → AfT own i w W g room l.tail) := fun W hF hg hb =>
    RT.after hR hnf hF (by rw [hg, List.length_tail, show ((l.length - 1 : Nat) : Int) = (l.length : Int) - 1 by omega]) hb hbg hob List.length_set hqn hh
  have HS : Hid (∀ W, Below w.heap.size w W → Calls Try.prog 25 #[.pointer (some ⟨g, 0, none⟩)] W fun e w' => e = .returned (.int .i64 0) ∧ w' = W) := fun W hW => someT g l.length W ((hW.cell (p := ⟨g, 3, none⟩) hgw).trans hR.c3) hlp
  have HE : Hid (∀ W, Below w.heap.size w W → Calls Try.prog 26 #[.pointer (some ⟨g, 0, none⟩), .int .i64 0] W fun e w' => e = .returned (.agg #[.string t.1, .int .i64 t.2.1, .int .i64 t.2.2]) ∧ W.grownBy w' (some b) ∧ w'.heap[b]? = some (.cells (flat encT (zs.set p z0)).toArray 25 (0, 0))) := fun W hW =>
    emptyT g zs.length front 0 p b zs t W ((hW.cell (p := ⟨g, 1, none⟩) hgw).trans hR.c1) ((hW.cell (p := ⟨g, 2, none⟩) hgw).trans hR.c2) hpn (by omega) (by omega) hp ((hW.block b hbw).trans hrow) hy
  have HC : Hid (∀ W, W.cell? ⟨g, 1, none⟩ = some (.slice (some ⟨b, 0, none⟩) zs.length zs.length) → W.cell? ⟨g, 2, none⟩ = some (.int .i64 front) → Calls Try.prog 27 #[.pointer (some ⟨g, 0, none⟩), .int .i64 1] W fun e w' => e = .returned (.int .i64 q) ∧ ∃ m, w' = W.drewN m) := fun W a b => cellT g zs.length front 1 q _ W a b (by omega) (by omega) (by omega) hq
  have HBLK : Hid (w.heap[g]? = some (.cells #[.int .i64 room, .slice (some ⟨b, 0, none⟩) zs.length zs.length, .int .i64 front, .int .i64 l.length] 57 (0, 0))) := hR.blk
  have HOG : Hid (own g = i ∧ own b = i) := ⟨hR.lab, hob⟩
  clear hnf hrow hob hp hq hy hx hh hR
  have q7 : g ≠ b := Ne.symm hbg
  generalize zs.length = n at *
  generalize hL : l.length = c at *
  clear hL
  go_enter Try.func6, Try.ntmps6
  go_wp2_with fail
  obtain ⟨W, hW⟩ : ∃ W, w.alloc (Obj.cells #[.string z0.1, .int .i64 z0.2.1, .int .i64 z0.2.2] 25) = W := ⟨_, rfl⟩
  have hB : Below w.heap.size w W := by rw [← hW]; exact (Below.refl _ w).alloc (Nat.le_refl _) _
  have bx : BoxT W w.heap.size z0 := by rw [← hW]; exact BoxT.new w z0
  have hsz : W.heap.size = w.heap.size + 1 := by rw [← hW]; simp
  change Calls _ _ _ (Go.World.alloc w (Obj.cells #[.string z0.1, .int .i64 z0.2.1, .int .i64 z0.2.2] 25)) _
  rw [hW]
  clear hW
  refine (HS.out W hB).mono ?_
  rintro e w1 ⟨rfl, rfl⟩
  go_wp2_with fail
  refine (HE.out w1 hB).mono ?_
  rintro e w2 ⟨rfl, hG, hrow2⟩
  have bx2 : BoxT w2 w.heap.size z0 := (hG.block _ (by omega) (by simp; omega)).trans bx
  have hblk2 : w2.heap[g]? = some (.cells #[.int .i64 room, .slice (some ⟨b, 0, none⟩) n n, .int .i64 front, .int .i64 c] 57 (0, 0)) := (hG.block g (by omega) (by simp; exact q7)).trans ((hB.block g hgw).trans HBLK.out)
  have hF2 : Fr i own own w w2 := (Fr.of_below hB).grown hG HOG.out.2
  have hs2 := hG.size
  clear hG hB bx HS HE HBLK
  go_wp2_with fail
  obtain ⟨W3, hW3⟩ : ∃ W3, w2.alloc (Obj.cells #[.string t.1, .int .i64 t.2.1, .int .i64 t.2.2] 25) = W3 := ⟨_, rfl⟩
  have bx3 : BoxT W3 w.heap.size z0 := by rw [← hW3]; exact bx2.alloc _
  have by3 : BoxT W3 w2.heap.size t := by rw [← hW3]; exact BoxT.new w2 t
  have hblk3 : W3.heap[g]? = some (.cells #[.int .i64 room, .slice (some ⟨b, 0, none⟩) n n, .int .i64 front, .int .i64 c] 57 (0, 0)) := by rw [← hW3]; exact (Below.heap_alloc _ _ g (blk_lt hblk2)).trans hblk2
  have hrow3 : W3.heap[b]? = some (.cells (flat encT (zs.set p z0)).toArray 25 (0, 0)) := by rw [← hW3]; exact (Below.heap_alloc _ _ b (blk_lt hrow2)).trans hrow2
  have hF3 : Fr i own own w W3 := by rw [← hW3]; exact hF2.then ((Below.refl _ _).alloc (Nat.le_refl _) _)
  rw [hW3]
  clear hW3 bx2 hblk2 hrow2 hF2
  have h1 := blk_cell (k := 1) hblk3 rfl
  have h2 := blk_cell (k := 2) hblk3 rfl
  have h3 := blk_cell (k := 3) hblk3 rfl
  have f2 : W3.frozen? ⟨g, 2, none⟩ = false := blk_frozen hblk3
  have f3 : W3.frozen? ⟨g, 3, none⟩ = false := blk_frozen hblk3
  refine (HC.out W3 h1 h2).mono ?_
  rintro e w4 ⟨rfl, m, rfl⟩
  generalize hN6 : w2.heap.size = N6 at *
  have HBK : Hid _ := hblk3
  have HRW : Hid (W3.heap[b]? = some (.cells (flat encT (zs.set p z0)).toArray 25 (0, 0))) := hrow3
  clear hblk3 hrow3 HC
  have v0 := by3.c0
  have v1 := by3.c1
  have v2 := by3.c2
  have u0 := bx3.c0
  have u1 := bx3.c1
  have u2 := bx3.c2
  have e0 := bx3.fz 0
  have e1 := bx3.fz 1
  have e2 := bx3.fz 2
  have q8 : g ≠ N6 := by omega
  have q9 : g ≠ w.heap.size := by omega
  have q10 : N6 ≠ w.heap.size := by omega
  go_wp2_with fail
  have hF4 : Fr i own own w (set3 (((W3.drewN m).setCell ⟨g, 2, none⟩ (.int .i64 q)).setCell ⟨g, 3, none⟩ (.int .i64 ((c : Int) - 1))) w.heap.size 0 t) := (((hF3.drewN m).set' HOG.out.1 2 _).set' HOG.out.1 3 _).new3 (Nat.le_refl _) 0 t
  have hG4 := set3_other (B := w.heap.size) (o := 0) (blk_set (blk_set (W := W3.drewN m) HBK.out 2 (.int .i64 q)) 3 (.int .i64 ((c : Int) - 1))) q9 t
  have hb4 := set3_other (B := w.heap.size) (o := 0) (blk_other (k := 3) (blk_other (k := 2) (W := W3.drewN m) HRW.out hbg (.int .i64 q)) hbg (.int .i64 ((c : Int) - 1))) (by omega) t
  have bz : BoxT (set3 (((W3.drewN m).setCell ⟨g, 2, none⟩ (.int .i64 q)).setCell ⟨g, 3, none⟩ (.int .i64 ((c : Int) - 1))) w.heap.size 0 t) w.heap.size t := set3_box (t' := z0) (blk_other (k := 3) (blk_other (k := 2) (W := W3.drewN m) bx3 (Ne.symm q9) (.int .i64 q)) (Ne.symm q9) (.int .i64 ((c : Int) - 1))) t
  change bodyPost _ _ _ _ _ (set3 (((W3.drewN m).setCell ⟨g, 2, none⟩ (.int .i64 q)).setCell ⟨g, 3, none⟩ (.int .i64 ((c : Int) - 1))) w.heap.size 0 t)
  have hend := HEND.out _ hF4 hG4 hb4
  have m0 := bz.c0
  have m1 := bz.c1
  have m2 := bz.c2
  clear hF4 hG4 hb4 bz HEND
  generalize set3 (((W3.drewN m).setCell ⟨g, 2, none⟩ (.int .i64 q)).setCell ⟨g, 3, none⟩ (.int .i64 ((c : Int) - 1))) w.heap.size 0 t = W5 at *
  exact bodyPost_ret (v := .tuple #[.agg #[.string t.1, .int .i64 t.2.1, .int .i64 t.2.2], .int .i64 0]) (by simp [results, Try.f6, go_sem, m0, m1, m2]) rfl ⟨rfl, hend⟩
end Go.Proofs.Ytjibpdncginkdaa
