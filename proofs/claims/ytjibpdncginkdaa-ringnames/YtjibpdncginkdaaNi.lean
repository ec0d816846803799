import Derived.Test.YtjibpdncginkdaaNh
set_option linter.unusedVariables false
set_option linter.unusedSimpArgs false
namespace Go.Proofs.Ytjibpdncginkdaa
open Go.RowKit

/-- A block that holds a thing. -/
def BoxT (W : World) (B : Nat) (t : Th) : Prop := W.heap[B]? = some (.cells #[.string t.1, .int .i64 t.2.1, .int .i64 t.2.2] 25 (0, 0))
theorem BoxT.c0 {W : World} {B : Nat} {t : Th} (h : BoxT W B t) : W.cell? ⟨B, 0, none⟩ = some (.string t.1) := blk_cell h rfl
theorem BoxT.c1 {W : World} {B : Nat} {t : Th} (h : BoxT W B t) : W.cell? ⟨B, 1, none⟩ = some (.int .i64 t.2.1) := blk_cell h rfl
theorem BoxT.c2 {W : World} {B : Nat} {t : Th} (h : BoxT W B t) : W.cell? ⟨B, 2, none⟩ = some (.int .i64 t.2.2) := blk_cell h rfl
theorem BoxT.fz {W : World} {B : Nat} {t : Th} (h : BoxT W B t) (k : Nat) : W.frozen? ⟨B, k, none⟩ = false := blk_frozen h
theorem BoxT.new (W : World) (t : Th) : BoxT (W.alloc (.cells #[.string t.1, .int .i64 t.2.1, .int .i64 t.2.2] 25)) W.heap.size t := heap_alloc_new W _
theorem BoxT.alloc {W : World} {B : Nat} {t : Th} (h : BoxT W B t) (o : Obj) : BoxT (W.alloc o) B t := (Below.heap_alloc W o B (blk_lt h)).trans h

theorem below_drewN (w : World) (m : Nat) : Below w.heap.size w (w.drewN m) := ⟨rfl, rfl, rfl, Nat.le_refl _, fun _ _ => rfl⟩
theorem grown_alloc (w W : World) (b : Nat) (h : w.grownBy W (some b)) (o : Obj) : w.grownBy (W.alloc o) (some b) :=
  ⟨h.os, h.tape, h.output, Nat.le_trans h.size (by simp), fun k hk hne => (Below.heap_alloc W o k (Nat.lt_of_lt_of_le hk h.size)).trans (h.block k hk hne)⟩
theorem grown_refl (w : World) (b : Nat) : w.grownBy w (some b) := ⟨rfl, rfl, rfl, Nat.le_refl _, fun _ _ _ => rfl⟩
theorem grown_set (w W : World) (b : Nat) (h : w.grownBy W (some b)) (B k : Nat) (v : Value) (hB : B = b ∨ w.heap.size ≤ B) : w.grownBy (W.setCell ⟨B, k, none⟩ v) (some b) :=
  ⟨h.os, h.tape, h.output, by rw [size_set]; exact h.size, fun j hj hne => (Below.heap_setCell W ⟨B, k, none⟩ v j (fun e => by subst e; rcases hB with rfl | hB; exact hne rfl; exact absurd hj (Nat.not_lt.2 hB))).trans (h.block j hj hne)⟩

/-- A thing stored. -/
def set3 (W : World) (B o : Nat) (t : Th) : World := ((W.setCell ⟨B, o, none⟩ (.string t.1)).setCell ⟨B, o + 1, none⟩ (.int .i64 t.2.1)).setCell ⟨B, o + 2, none⟩ (.int .i64 t.2.2)
theorem set3_size (W : World) (B o : Nat) (t : Th) : (set3 W B o t).heap.size = W.heap.size := by unfold set3; rw [size_set, size_set, size_set]
theorem set3_other {W : World} {B g o : Nat} {x : Obj} (h : W.heap[g]? = some x) (hne : g ≠ B) (t : Th) : (set3 W B o t).heap[g]? = some x := blk_other (blk_other (blk_other h hne _) hne _) hne _
theorem set3_row {W : World} {b p : Nat} {zs : List Th} (h : W.heap[b]? = some (.cells (flat encT zs).toArray 25 (0, 0))) (t : Th) : (set3 W b (p * 3) t).heap[b]? = some (.cells (flat encT (zs.set p t)).toArray 25 (0, 0)) := by
  have := blk_set (blk_set (blk_set h (p * 3) (.string t.1)) (p * 3 + 1) (.int .i64 t.2.1)) (p * 3 + 2) (.int .i64 t.2.2)
  rw [flatT_set] at this
  exact this
theorem set3_box {W : World} {B : Nat} {t' : Th} (h : BoxT W B t') (t : Th) : BoxT (set3 W B 0 t) B t :=
  blk_set (blk_set (blk_set h 0 (.string t.1)) 1 (.int .i64 t.2.1)) 2 (.int .i64 t.2.2)
theorem grown_set3 (w W : World) (b : Nat) (h : w.grownBy W (some b)) (B o : Nat) (t : Th) (hB : B = b ∨ w.heap.size ≤ B) : w.grownBy (set3 W B o t) (some b) :=
  grown_set _ _ _ (grown_set _ _ _ (grown_set _ _ _ h B o _ hB) B _ _ hB) B _ _ hB
theorem grown_below {w W : World} (h : Below w.heap.size w W) (b : Nat) : w.grownBy W (some b) := ⟨h.os, h.tape, h.output, h.size, fun k hk _ => h.block k hk⟩
theorem grown_same {w W W' : World} {r : Option Nat} (h : w.grownBy W r) (h1 : W'.heap = W.heap) (h2 : W'.os = W.os) (h3 : W'.tape = W.tape) (h4 : W'.output = W.output) : w.grownBy W' r :=
  ⟨h2.trans h.os, h3.trans h.tape, h4.trans h.output, by rw [h1]; exact h.size, by rw [h1]; exact h.block⟩

set_option maxHeartbeats 1000000 in
theorem emptyT (g n front k p b : Nat) (zs : List Th) (t : Th) (w : World) (h1 : w.cell? ⟨g, 1, none⟩ = some (.slice (some ⟨b, 0, none⟩) n n)) (h2 : w.cell? ⟨g, 2, none⟩ = some (.int .i64 front)) (hn : p < n) (hb : front ≤ 2097152) (hk : k ≤ 2097152) (hp : (front + k) % n = p)
    (hrow : w.heap[b]? = some (.cells (flat encT zs).toArray 25 (0, 0))) (hx : zs[p]? = some t) :
    Calls Try.prog 26 #[.pointer (some ⟨g, 0, none⟩), .int .i64 k] w fun e w' => e = .returned (.agg #[.string t.1, .int .i64 t.2.1, .int .i64 t.2.2]) ∧ w.grownBy w' (some b) ∧ w'.heap[b]? = some (.cells (flat encT (zs.set p z0)).toArray 25 (0, 0)) := by
  have HC : Hid (∀ W, W.cell? ⟨g, 1, none⟩ = some (.slice (some ⟨b, 0, none⟩) n n) → W.cell? ⟨g, 2, none⟩ = some (.int .i64 front) → Calls Try.prog 27 #[.pointer (some ⟨g, 0, none⟩), .int .i64 k] W fun e w' => e = .returned (.int .i64 p) ∧ ∃ m, w' = W.drewN m) := fun W a b => cellT g n front k p _ W a b (by omega) hb hk hp
  have i1 : (0 : Int) ≤ (p : Int) := by omega
  have i2 : (p : Int) < (n : Int) := by omega
  have HROW : Hid (w.heap[b]? = some (.cells (flat encT zs).toArray 25 (0, 0))) := hrow
  have HX : Hid (zs[p]? = some t) := hx
  clear hp hrow
  go_enter Try.func26, Try.ntmps26
  go_wp2_with fail
  obtain ⟨W0, hW0⟩ : ∃ W0, (w.alloc (Obj.cells #[.string z0.1, .int .i64 z0.2.1, .int .i64 z0.2.2] 25)).alloc (Obj.cells #[.string z0.1, .int .i64 z0.2.1, .int .i64 z0.2.2] 25) = W0 := ⟨_, rfl⟩
  have hsz : W0.heap.size = w.heap.size + 1 + 1 := by rw [← hW0]; simp
  have hB0 : Below w.heap.size w W0 := by rw [← hW0]; exact ((Below.refl _ w).alloc (Nat.le_refl _) _).alloc (by simp) _
  have b4 : BoxT W0 w.heap.size z0 := by rw [← hW0]; exact (BoxT.new w z0).alloc _
  have b5 : BoxT W0 (w.heap.size + 1) z0 := by rw [← hW0]; have := BoxT.new (w.alloc (Obj.cells #[.string z0.1, .int .i64 z0.2.1, .int .i64 z0.2.2] 25)) z0; rw [World.size_alloc] at this; exact this
  have hg1 := (hB0.cell (p := ⟨g, 1, none⟩) (World.block_lt_of_cell? w _ h1)).trans h1
  have hg2 := (hB0.cell (p := ⟨g, 2, none⟩) (World.block_lt_of_cell? w _ h2)).trans h2
  have hr := blk_below HROW.out hB0
  have r0 := blk_cell hr (flatT_at0 hx)
  have r1 := blk_cell hr (flatT_at1 hx)
  have r2 := blk_cell hr (flatT_at2 hx)
  have hbw := blk_lt HROW.out
  have HR : Hid _ := hr
  change Calls Try.prog 27 _ (Go.World.alloc (Go.World.alloc w (Obj.cells #[.string z0.1, .int .i64 z0.2.1, .int .i64 z0.2.2] 25)) (Obj.cells #[.string z0.1, .int .i64 z0.2.1, .int .i64 z0.2.2] 25)) _
  rw [hW0]
  clear hW0 hr h1 h2 hx
  refine (HC.out W0 hg1 hg2).mono ?_
  rintro e w1 ⟨rfl, m, rfl⟩
  go_wp2_with fail
  obtain ⟨W2, hW2⟩ : ∃ W2, (W0.drewN m).alloc (Obj.cells #[Value.string t.1, Value.int IntKind.i64 t.2.1, Value.int IntKind.i64 t.2.2] 25) = W2 := ⟨_, rfl⟩
  have hB2 : Below W0.heap.size W0 W2 := by rw [← hW2]; exact (below_drewN W0 m).alloc (Nat.le_refl _) _
  have b7 : BoxT W2 (w.heap.size + 1 + 1) t := by rw [← hW2, ← hsz]; exact BoxT.new (W0.drewN m) t
  rw [hW2]
  clear hW2 r0 r1 r2
  have b4' : BoxT W2 w.heap.size z0 := blk_below b4 hB2
  have b5' : BoxT W2 (w.heap.size + 1) z0 := blk_below b5 hB2
  have hr2 := blk_below (Hid.out HR) hB2
  have hg1' := (hB2.cell (p := ⟨g, 1, none⟩) (World.block_lt_of_cell? W0 _ hg1)).trans hg1
  have hBW : Below w.heap.size w W2 := hB0.trans (hB2.mono hB0.size)
  have HR2 : Hid (W2.heap[b]? = some (.cells (flat encT zs).toArray 25 (0, 0))) := hr2
  have r0 := blk_cell hr2 (flatT_at0 HX.out)
  have r1 := blk_cell hr2 (flatT_at1 HX.out)
  have r2 := blk_cell hr2 (flatT_at2 HX.out)
  have f0 : W2.frozen? ⟨b, p * 3, none⟩ = false := blk_frozen hr2
  have f1 : W2.frozen? ⟨b, p * 3 + 1, none⟩ = false := blk_frozen hr2
  have f2 : W2.frozen? ⟨b, p * 3 + 2, none⟩ = false := blk_frozen hr2
  have s0 := b5'.c0
  have s1 := b5'.c1
  have s2 := b5'.c2
  clear hr2 hg1 hg2 b4 b5 HR b5'
  go_region
  obtain ⟨W3, hW3⟩ : ∃ W3, (set3 W2 b (p * 3) z0).drew = W3 := ⟨_, rfl⟩
  change Exit.then _ _ Exit.normal _ ((set3 W2 b (p * 3) z0).drew)
  rw [hW3]
  have b4 : BoxT W3 w.heap.size z0 := by rw [← hW3]; exact set3_other b4' (by omega) _
  have b7' : BoxT W3 (w.heap.size + 1 + 1) t := by rw [← hW3]; exact set3_other b7 (by omega) _
  have hr3 : Hid (W3.heap[b]? = some (.cells (flat encT (zs.set p z0)).toArray 25 (0, 0))) := by show _ = _; rw [← hW3]; exact set3_row HR2.out z0
  have hG : w.grownBy W3 (some b) := by rw [← hW3]; exact grown_same (grown_set3 w W2 b (grown_below hBW b) b (p * 3) z0 (.inl rfl)) rfl rfl rfl rfl
  clear hW3 r0 r1 r2 f0 f1 f2 s0 s1 s2 hg1' b4' b7 HR2
  have s0 := b7'.c0
  have s1 := b7'.c1
  have s2 := b7'.c2
  have u0 := b4.c0
  have u1 := b4.c1
  have u2 := b4.c2
  have f0 := b4.fz 0
  have f1 := b4.fz 1
  have f2 := b4.fz 2
  go_wp2_with fail
  have bz : BoxT (set3 W3 w.heap.size 0 t) w.heap.size t := set3_box b4 t
  have m0 := bz.c0
  have m1 := bz.c1
  have m2 := bz.c2
  have hend : (set3 W3 w.heap.size 0 t).heap[b]? = some (.cells (flat encT (zs.set p z0)).toArray 25 (0, 0)) := set3_other hr3.out (by omega) t
  have hG2 := grown_set3 w W3 b hG w.heap.size 0 t (.inr (Nat.le_refl _))
  change bodyPost _ _ _ _ _ (set3 W3 w.heap.size 0 t)
  generalize set3 W3 w.heap.size 0 t = W4 at *
  refine bodyPost_ret (v := .agg #[.string t.1, .int .i64 t.2.1, .int .i64 t.2.2]) (by simp [results, Try.f26, go_sem, m0, m1, m2]) rfl ?_
  exact ⟨rfl, hG2, hend⟩
end Go.Proofs.Ytjibpdncginkdaa
