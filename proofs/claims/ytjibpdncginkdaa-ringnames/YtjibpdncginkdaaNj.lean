import Derived.Test.YtjibpdncginkdaaNi
set_option linter.unusedVariables false
set_option linter.unusedSimpArgs false
namespace Go.Proofs.Ytjibpdncginkdaa
open Go.RowKit

theorem widenT_any (own : Nat → Nat) (i g room front : Nat) (sv : Value) (zs l : List Th) (w : World) (hR : RT own i w g room sv zs front l) (hnf : Nf own w) (hf : l.length = zs.length) (hr : zs.length < room) :
    Calls Try.prog 29 #[.pointer (some ⟨g, 0, none⟩)] w fun e w' => e = .returned (.tuple #[]) ∧ ∃ own' b zs', Nf own' w' ∧ Fr i own own' w w' ∧ RT own' i w' g room (.slice (some ⟨b, 0, none⟩) zs'.length zs'.length) zs' 0 l ∧ l.length < zs'.length := by
  have hg := blk_lt hR.blk
  rcases hR.row with ⟨rfl, rfl, rfl⟩ | ⟨b, rfl, hb, hob, hbg, hfl⟩
  · refine (widenT_nil g room w hg hR.c0 hR.c1 hR.c2 hR.fz hR.r1).mono ?_
    rintro e w' ⟨rfl, W, hW, hrow, rfl⟩
    obtain rfl : l = [] := List.eq_nil_of_length_eq_zero hf
    obtain ⟨own', a, b, c⟩ := hR.widened hnf hW hrow rfl hR.r1 (by simp) ⟨by simp, fun i hi => absurd hi (by simp)⟩
    exact ⟨rfl, own', w.heap.size, [z0], a, b, c, by simp⟩
  · have h2 := hR.r2
    obtain ⟨N, hN⟩ : ∃ N, N = min room (2 * zs.length) := ⟨_, rfl⟩
    have hlen : (zs.drop front ++ zs.take front ++ List.replicate (N - zs.length) z0).length = N := by rw [List.length_append, List.length_append, List.length_drop, List.length_take, List.length_replicate]; omega
    refine (widenT_core g room zs.length front N b 0 zs w rfl hg hR.c0 hR.c1 hR.c2 hR.fz hb hfl h2 (by omega) (by omega) (by omega)).mono ?_
    rintro e w' ⟨rfl, W, hW, hrow, rfl⟩
    obtain ⟨own', a, b, c⟩ := hR.widened hnf hW hrow hlen (by omega) (by omega) (hR.hold.widen (Z := List.replicate (N - zs.length) z0) (by omega) hf)
    refine ⟨rfl, own', w.heap.size, _, a, b, by rw [hlen]; exact c, by rw [hlen]; omega⟩

theorem pushT_full (g room : Nat) (t : Th) (w : World) (h0 : w.cell? ⟨g, 0, none⟩ = some (.int .i64 room)) (h3 : w.cell? ⟨g, 3, none⟩ = some (.int .i64 room)) :
    Calls Try.prog 9 #[.pointer (some ⟨g, 0, none⟩), .agg #[.string t.1, .int .i64 t.2.1, .int .i64 t.2.2]] w fun e w' => e = .returned (.int .i64 50) ∧ Below w.heap.size w w' := by
  go_enter Try.func9, Try.ntmps9
  go_wp2_with fail
  obtain ⟨W, hW⟩ : ∃ W, w.alloc (Obj.cells #[.string t.1, .int .i64 t.2.1, .int .i64 t.2.2] 25) = W := ⟨_, rfl⟩
  have hB : Below w.heap.size w W := by rw [← hW]; exact (Below.refl _ w).alloc (Nat.le_refl _) _
  rw [hW]
  have h0' := (hB.cell (p := ⟨g, 0, none⟩) (World.block_lt_of_cell? w _ h0)).trans h0
  have h3' := (hB.cell (p := ⟨g, 3, none⟩) (World.block_lt_of_cell? w _ h3)).trans h3
  clear hW h0 h3
  go_quiet (fail)
  go_wp2_with fail
  go_ret
  exact ⟨rfl, hB.trans ((below_drewN W _).mono hB.size)⟩
theorem pushT_nil (t : Th) (w : World) : Calls Try.prog 9 #[.pointer none, .agg #[.string t.1, .int .i64 t.2.1, .int .i64 t.2.2]] w fun e w' => e = .returned (.int .i64 3) ∧ Below w.heap.size w w' := by
  go_enter Try.func9, Try.ntmps9
  go_wp2_with fail
  go_ret
  exact ⟨rfl, (Below.refl _ w).alloc (Nat.le_refl _) _⟩

/-- Behind a push into a ring that has a free cell. -/
theorem RT.pushed {own : Nat → Nat} {i : Nat} {w : World} {g room b : Nat} {zs : List Th} {front : Nat} {l : List Th} (h : RT own i w g room (.slice (some ⟨b, 0, none⟩) zs.length zs.length) zs front l) (hnf : Nf own w) (hrow : w.heap[b]? = some (.cells (flat encT zs).toArray 25 (0, 0))) (hob : own b = i) (hbg : b ≠ g) (hfr : front < zs.length) (hlt : l.length < zs.length) (x : Th) :
    AfT own i w ((set3 w b ((front + l.length) % zs.length * 3) x).setCell ⟨g, 3, none⟩ (.int .i64 ((l.length : Int) + 1))) g room (l ++ [x]) := by
  refine ⟨own, _, _, front, fun k hk => hnf k (by rw [size_set, set3_size] at hk; exact hk), ((((Fr.refl i own w).set' hob _ _).set' hob _ _).set' hob _ _).set' h.lab _ _, h.put ?_ ?_ hbg hob (List.length_set) hfr (h.hold.push x hlt)⟩
  · have := blk_set (set3_other h.blk (Ne.symm hbg) (o := (front + l.length) % zs.length * 3) x) 3 (.int .i64 ((l.length : Int) + 1))
    rw [this]; simp
  · exact blk_other (set3_row hrow x) hbg (k := 3) (.int .i64 ((l.length : Int) + 1))

set_option maxHeartbeats 1000000 in
theorem pushT_in (own : Nat → Nat) (i g room front b : Nat) (zs l : List Th) (t : Th) (w : World) (hR : RT own i w g room (.slice (some ⟨b, 0, none⟩) zs.length zs.length) zs front l) (hnf : Nf own w) (hfr : front < zs.length) (hlt : l.length < zs.length) :
    Calls Try.prog 9 #[.pointer (some ⟨g, 0, none⟩), .agg #[.string t.1, .int .i64 t.2.1, .int .i64 t.2.2]] w fun e w' => e = .returned (.int .i64 0) ∧ AfT own i w w' g room (l ++ [t]) := by
  have hr2 := hR.r2
  have hr3 := hR.len
  have q1 : ¬ ((l.length : Int) = (room : Int)) := by omega
  have q2 : ¬ (l.length = room) := by omega
  have q3 : ¬ ((l.length : Int) = (zs.length : Int)) := by omega
  have q4 : ¬ (l.length = zs.length) := by omega
  have q5 : ((l.length : Int) == (room : Int)) = false := by simp; omega
  have q6 : ((l.length : Int) == (zs.length : Int)) = false := by simp; omega
  have HR : Hid (RT own i w g room (.slice (some ⟨b, 0, none⟩) zs.length zs.length) zs front l) := hR
  clear hR
  go_enter Try.func9, Try.ntmps9
  go_wp2_with fail
  obtain ⟨W, hW⟩ : ∃ W, w.alloc (Obj.cells #[.string t.1, .int .i64 t.2.1, .int .i64 t.2.2] 25) = W := ⟨_, rfl⟩
  have hB : Below w.heap.size w W := by rw [← hW]; exact (Below.refl _ w).alloc (Nat.le_refl _) _
  have bx : BoxT W w.heap.size t := by rw [← hW]; exact BoxT.new w t
  rw [hW]
  clear hW
  have hR := HR.out.below hB
  have hnW := hnf.below hB.size
  have h0 := hR.c0
  have h1 := hR.c1
  have h2 := hR.c2
  have h3 := hR.c3
  have fz := hR.fz 3
  have hrow := hR.row
  rcases hrow with ⟨hz, _⟩ | ⟨b', hb', hrow, hob, hbg, _⟩
  · rw [hz, List.length_nil] at hfr; omega
  obtain rfl : b' = b := by cases hb'; rfl
  have HEND : Hid (AfT own i w _ g room (l ++ [t])) := After.trans (Fr.of_below hB) (RT.pushed hR hnW hrow hob hbg hfr hlt t)
  have hbw := blk_lt hrow
  have hgw := blk_lt HR.out.blk
  have hbw' : b' < w.heap.size := by
    rcases HR.out.row with ⟨hz, _⟩ | ⟨b2, hb2, hrow2, _⟩
    · rw [hz, List.length_nil] at hfr; omega
    · cases hb2; exact blk_lt hrow2
  obtain ⟨p, hp⟩ : ∃ p, (front + l.length) % zs.length = p := ⟨_, rfl⟩
  have hpn : p < zs.length := by rw [← hp]; exact Nat.mod_lt _ (by omega)
  rw [hp] at HEND
  obtain ⟨y, hy⟩ : ∃ y, zs[p]? = some y := ⟨_, List.getElem?_eq_getElem hpn⟩
  have r0 := blk_cell hrow (flatT_at0 hy)
  have r1 := blk_cell hrow (flatT_at1 hy)
  have r2 := blk_cell hrow (flatT_at2 hy)
  have f0 : W.frozen? ⟨b', p * 3, none⟩ = false := blk_frozen hrow
  have f1 : W.frozen? ⟨b', p * 3 + 1, none⟩ = false := blk_frozen hrow
  have f2 : W.frozen? ⟨b', p * 3 + 2, none⟩ = false := blk_frozen hrow
  have s0 := bx.c0
  have s1 := bx.c1
  have s2 := bx.c2
  have HC : Hid (∀ W, W.cell? ⟨g, 1, none⟩ = some (.slice (some ⟨b', 0, none⟩) zs.length zs.length) → W.cell? ⟨g, 2, none⟩ = some (.int .i64 front) → Calls Try.prog 27 #[.pointer (some ⟨g, 0, none⟩), .int .i64 l.length] W fun e w' => e = .returned (.int .i64 p) ∧ ∃ m, w' = W.drewN m) := fun W a b => cellT g zs.length front l.length p _ W a b (by omega) (by omega) (by omega) hp
  have q7 : g ≠ b' := Ne.symm hbg
  have q8 : g ≠ w.heap.size := by omega
  have q9 : b' ≠ w.heap.size := by omega
  clear hR hnW hrow hob hp hy HR hnf hb'
  generalize zs.length = n at *
  generalize hL : l.length = c at *
  clear hL
  have i1 : (0 : Int) ≤ (p : Int) := by omega
  have i2 : (p : Int) < (n : Int) := by omega
  go_quiet (fail)
  go_wp2_with fail
  go_quiet (fail)
  go_wp2_with fail
  go_region_with (go_at_call 27; refine (HC.out _ (by simpa using h1) (by simpa using h2)).mono ?_; rintro e w1 ⟨rfl, m, rfl⟩)
  all_goals go_wp2_with fail
  all_goals go_ret
  all_goals exact ⟨rfl, After.same HEND.out rfl rfl rfl rfl⟩

set_option maxHeartbeats 1000000 in
theorem pushT_grow (own : Nat → Nat) (i g room front : Nat) (sv : Value) (zs l : List Th) (t : Th) (w : World) (hR : RT own i w g room sv zs front l) (hnf : Nf own w) (hi : i ≠ 0) (hf : l.length = zs.length) (hr : zs.length < room) :
    Calls Try.prog 9 #[.pointer (some ⟨g, 0, none⟩), .agg #[.string t.1, .int .i64 t.2.1, .int .i64 t.2.2]] w fun e w' => e = .returned (.int .i64 0) ∧ AfT own i w w' g room (l ++ [t]) := by
  have hr2 := hR.r2
  have q1 : ¬ ((l.length : Int) = (room : Int)) := by omega
  have q2 : ¬ (l.length = room) := by omega
  have q5 : ((l.length : Int) == (room : Int)) = false := by simp; omega
  obtain ⟨sp, hsp⟩ : ∃ sp, sv = .slice sp zs.length zs.length := by
    rcases hR.row with ⟨rfl, rfl, _⟩ | ⟨b, rfl, _⟩
    · exact ⟨_, rfl⟩
    · exact ⟨_, rfl⟩
  have HR : Hid (RT own i w g room sv zs front l) := hR
  have HNF : Hid (Nf own w) := hnf
  clear hR hnf
  have HLZ : Hid (l.length = zs.length) := hf
  have HLR : Hid (zs.length < room) := hr
  go_enter Try.func9, Try.ntmps9
  go_wp2_with fail
  obtain ⟨W, hW⟩ : ∃ W, w.alloc (Obj.cells #[.string t.1, .int .i64 t.2.1, .int .i64 t.2.2] 25) = W := ⟨_, rfl⟩
  have hB : Below w.heap.size w W := by rw [← hW]; exact (Below.refl _ w).alloc (Nat.le_refl _) _
  have bx : BoxT W w.heap.size t := by rw [← hW]; exact BoxT.new w t
  rw [hW]
  clear hW
  have hRW := HR.out.below hB
  have hnW := HNF.out.below hB.size
  have HW : Hid (∀ m, Calls Try.prog 29 #[.pointer (some ⟨g, 0, none⟩)] (W.drewN m) fun e w' => e = .returned (.tuple #[]) ∧ ∃ own' b zs', Nf own' w' ∧ Fr i own own' W w' ∧ RT own' i w' g room (.slice (some ⟨b, 0, none⟩) zs'.length zs'.length) zs' 0 l ∧ l.length < zs'.length) := fun m =>
    (widenT_any own i g room front sv zs l (W.drewN m) (hRW.same rfl) hnW HLZ.out HLR.out).mono (fun e w' ⟨he, own', b, zs', h1, h2, h3⟩ => ⟨he, own', b, zs', h1, ⟨h2.os, h2.tape, h2.output, h2.size, h2.block, h2.old⟩, h3⟩)
  have h0 := hRW.c0
  have h1 := hRW.c1
  have h3 := hRW.c3
  rw [hsp] at h1
  rw [← hf] at h1 hr
  have HBX : Hid (BoxT W w.heap.size t) := bx
  have HOW : Hid (own w.heap.size = 0) := HNF.out _ (Nat.le_refl _)
  have HBB : Hid (Below w.heap.size w W) := hB
  clear hRW hnW hsp hf HR HNF bx hB
  generalize hL : l.length = c at *
  have HLC : Hid (l.length = c) := hL
  clear hL
  go_quiet (fail)
  go_wp2_with fail
  go_quiet (fail)
  go_wp2_with fail
  refine (HW.out _).mono ?_
  rintro e w2 ⟨rfl, own2, b, zs2, hnf2, hfr2, hR2, hlt2⟩
  clear h0 h1 h3
  have hrow := hR2.row
  rcases hrow with ⟨_, h, _⟩ | ⟨b', hb', hrow, hob, hbg, hfl⟩
  · cases h
  · obtain rfl : b' = b := by cases hb'; rfl
    clear hb'
    have HEND : Hid (AfT own i w _ g room (l ++ [t])) := After.trans ((Fr.of_below HBB.out).trans hfr2) (hR2.pushed hnf2 hrow hob hbg hfl (by rw [HLC.out]; exact hlt2) t)
    have h0 := hR2.c0
    have h1 := hR2.c1
    have h2 := hR2.c2
    have h3 := hR2.c3
    have fz := hR2.fz 3
    have hr3 := hR2.len
    rw [HLC.out] at HEND h3
    have hsW := blk_lt HBX.out
    have bx2 : BoxT w2 w.heap.size t := (hfr2.block _ hsW (by rw [HOW.out]; exact Ne.symm hi)).trans HBX.out
    have s0 := bx2.c0
    have s1 := bx2.c1
    have s2 := bx2.c2
    obtain ⟨p, hp⟩ : ∃ p, (0 + c) % zs2.length = p := ⟨_, rfl⟩
    have hpn : p < zs2.length := by rw [← hp]; exact Nat.mod_lt _ (by omega)
    rw [hp] at HEND
    obtain ⟨y, hy⟩ : ∃ y, zs2[p]? = some y := ⟨_, List.getElem?_eq_getElem hpn⟩
    have r0 := blk_cell hrow (flatT_at0 hy)
    have r1 := blk_cell hrow (flatT_at1 hy)
    have r2 := blk_cell hrow (flatT_at2 hy)
    have f0 : w2.frozen? ⟨b', p * 3, none⟩ = false := blk_frozen hrow
    have f1 : w2.frozen? ⟨b', p * 3 + 1, none⟩ = false := blk_frozen hrow
    have f2 : w2.frozen? ⟨b', p * 3 + 2, none⟩ = false := blk_frozen hrow
    have HC : Hid (∀ W, W.cell? ⟨g, 1, none⟩ = some (.slice (some ⟨b', 0, none⟩) zs2.length zs2.length) → W.cell? ⟨g, 2, none⟩ = some (.int .i64 (0 : Nat)) → Calls Try.prog 27 #[.pointer (some ⟨g, 0, none⟩), .int .i64 c] W fun e w' => e = .returned (.int .i64 p) ∧ ∃ m, w' = W.drewN m) := fun W a b => cellT g zs2.length 0 c p _ W a b (by omega) (by omega) (by omega) hp
    have q7 : g ≠ b' := Ne.symm hbg
    have hO2 : own2 w.heap.size = 0 := (hfr2.old _ hsW).trans HOW.out
    have q8 : g ≠ w.heap.size := fun e => by have := hR2.lab; rw [e, hO2] at this; exact hi this.symm
    have q9 : b' ≠ w.heap.size := fun e => by rw [e, hO2] at hob; exact hi hob.symm
    clear hR2 hnf2 hfr2 hrow hob hp hy HW HBX HOW HBB hO2 bx2
    generalize zs2.length = n at *
    have i1 : (0 : Int) ≤ (p : Int) := by omega
    have i2 : (p : Int) < (n : Int) := by omega
    go_wp2_with fail
    go_region_with (go_at_call 27; refine (HC.out _ (by simpa using h1) (by simpa using h2)).mono ?_; rintro e w1 ⟨rfl, m, rfl⟩)
    all_goals go_wp2_with fail
    all_goals go_ret
    all_goals exact ⟨rfl, After.same HEND.out rfl rfl rfl rfl⟩

/-- A push where there is room. -/
theorem pushT_any (own : Nat → Nat) (i g room front : Nat) (sv : Value) (zs l : List Th) (x : Th) (w : World) (hR : RT own i w g room sv zs front l) (hnf : Nf own w) (hi : i ≠ 0) (hr : l.length < room) :
    Calls Try.prog 9 #[.pointer (some ⟨g, 0, none⟩), .agg #[.string x.1, .int .i64 x.2.1, .int .i64 x.2.2]] w fun e w' => e = .returned (.int .i64 0) ∧ AfT own i w w' g room (l ++ [x]) := by
  have hle := hR.hold.1
  by_cases hf : l.length = zs.length
  · exact pushT_grow own i g room front sv zs l x w hR hnf hi hf (by omega)
  · have hrow := hR.row
    rcases hrow with ⟨rfl, _, _⟩ | ⟨b, rfl, h1, h2, h3, h4⟩
    · rw [List.length_nil] at hle hf; omega
    · exact pushT_in own i g room front b zs l x w hR hnf h4 (by omega)
end Go.Proofs.Ytjibpdncginkdaa
