import Derived.Test.YtjibpdncginkdaaNc
import Derived.Deep.RegionWith
set_option linter.unusedVariables false
set_option linter.unusedSimpArgs false
namespace Go.Proofs.Ytjibpdncginkdaa
open Go.RowKit

theorem RG.same {β : Type} {T e : TypeId} {enc : β → List Value} {own : Nat → Nat} {i : Nat} {w w' : World} {g room : Nat} {sv : Value} {zs : List β} {front : Nat} {l : List β} (h : RG T e enc own i w g room sv zs front l) (he : w'.heap = w.heap) : RG T e enc own i w' g room sv zs front l :=
  ⟨by rw [he]; exact h.blk, h.lab, h.r1, h.r2, h.len, by rw [he]; exact h.row, h.hold⟩
theorem Fr.same {i : Nat} {own own' : Nat → Nat} {w W W' : World} (h : Fr i own own' w W) (h1 : W'.heap = W.heap) (h2 : W'.os = W.os) (h3 : W'.tape = W.tape) (h4 : W'.output = W.output) : Fr i own own' w W' :=
  ⟨h2.trans h.os, h3.trans h.tape, h4.trans h.output, by rw [h1]; exact h.size, by rw [h1]; exact h.block, h.old⟩

/-- What a call on a ring leaves: its labels, its frame, and what the ring holds. -/
def After {β : Type} (T e : TypeId) (enc : β → List Value) (own : Nat → Nat) (i : Nat) (w w' : World) (g room : Nat) (l : List β) : Prop :=
  ∃ own' sv zs front, Nf own' w' ∧ Fr i own own' w w' ∧ RG T e enc own' i w' g room sv zs front l
abbrev AfI := After (β := Int) 63 3 encI

theorem After.same {β : Type} {T e : TypeId} {enc : β → List Value} {own : Nat → Nat} {i : Nat} {w W W' : World} {g room : Nat} {l : List β} (h : After T e enc own i w W g room l) (h1 : W'.heap = W.heap) (h2 : W'.os = W.os) (h3 : W'.tape = W.tape) (h4 : W'.output = W.output) : After T e enc own i w W' g room l := by
  obtain ⟨own', sv, zs, front, a, b, c⟩ := h
  exact ⟨own', sv, zs, front, fun k hk => a k (by rw [← h1]; exact hk), b.same h1 h2 h3 h4, c.same h1⟩
theorem After.here {β : Type} {T e : TypeId} {enc : β → List Value} {own : Nat → Nat} {i : Nat} {w W' : World} {g room : Nat} {sv : Value} {zs : List β} {front : Nat} {l : List β} (h : RG T e enc own i w g room sv zs front l) (hn : Nf own w) (h1 : W'.heap = w.heap) (h2 : W'.os = w.os) (h3 : W'.tape = w.tape) (h4 : W'.output = w.output) : After T e enc own i w W' g room l :=
  After.same ⟨own, sv, zs, front, hn, Fr.refl _ _ _, h⟩ h1 h2 h3 h4
theorem After.trans {β : Type} {T e : TypeId} {enc : β → List Value} {own own1 : Nat → Nat} {i : Nat} {w W W' : World} {g room : Nat} {l : List β} (f : Fr i own own1 w W) (h : After T e enc own1 i W W' g room l) : After T e enc own i w W' g room l := by
  obtain ⟨own', sv, zs, front, a, b, c⟩ := h
  exact ⟨own', sv, zs, front, a, f.trans b, c⟩

theorem size_set (w : World) (a : Addr) (v : Value) : (w.setCell a v).heap.size = w.heap.size := by show (w.heap.modify _ _).size = _; rw [Array.size_modify]

/-- Behind widen. -/
theorem RG.widened {β : Type} {T e : TypeId} {enc : β → List Value} {own : Nat → Nat} {i : Nat} {w W : World} {g room N : Nat} {sv : Value} {zs zs' : List β} {front : Nat} {l : List β} (h : RG T e enc own i w g room sv zs front l) (hnf : Nf own w)
    (hb : Below w.heap.size w W) (hrow : W.heap[w.heap.size]? = some (.cells (flat enc zs').toArray e (0, 0))) (hl : zs'.length = N) (hN : N ≤ room) (h0 : 0 < N) (hh : Holds zs' 0 l) :
    ∃ own', Nf own' ((W.setCell ⟨g, 1, none⟩ (.slice (some ⟨w.heap.size, 0, none⟩) N N)).setCell ⟨g, 2, none⟩ (.int .i64 0)) ∧
      Fr i own own' w ((W.setCell ⟨g, 1, none⟩ (.slice (some ⟨w.heap.size, 0, none⟩) N N)).setCell ⟨g, 2, none⟩ (.int .i64 0)) ∧
      RG T e enc own' i ((W.setCell ⟨g, 1, none⟩ (.slice (some ⟨w.heap.size, 0, none⟩) N N)).setCell ⟨g, 2, none⟩ (.int .i64 0)) g room (.slice (some ⟨w.heap.size, 0, none⟩) N N) zs' 0 l := by
  have hg := blk_lt h.blk
  have hgW := (hb.block g hg).trans h.blk
  have hlt := blk_lt hrow
  have hne : ∀ j, j < w.heap.size → own j ≠ i → j ≠ g := fun j _ hj e => hj (by rw [e]; exact h.lab)
  subst hl
  refine ⟨fun k => if k = w.heap.size then i else own k, ?_, (((Fr.label hb).set (g := g) ((if_neg (by omega)).trans h.lab) _ _ hne).set (g := g) ((if_neg (by omega)).trans h.lab) _ _ hne), ?_⟩
  · intro k hk
    rw [size_set, size_set] at hk
    exact (if_neg (by omega)).trans (hnf k (by omega))
  · refine ⟨?_, (if_neg (by omega)).trans h.lab, h.r1, h.r2, hN, .inr ⟨w.heap.size, rfl, ?_, if_pos rfl, by omega, h0⟩, hh⟩
    · have := blk_set (blk_set hgW 1 (.slice (some ⟨w.heap.size, 0, none⟩) zs'.length zs'.length)) 2 (.int .i64 0)
      exact this
    · exact blk_other (blk_other hrow (by omega) _) (by omega) _

theorem splice_nil0 {α : Type} (Z : List α) : splice Z 0 [] = Z := by simp [splice]

set_option maxHeartbeats 1000000 in
theorem widenI_nil (g room : Nat) (w : World) (hgN : g < w.heap.size) (h0 : w.cell? ⟨g, 0, none⟩ = some (.int .i64 room)) (h1 : w.cell? ⟨g, 1, none⟩ = some (.slice none 0 0)) (h2 : w.cell? ⟨g, 2, none⟩ = some (.int .i64 0))
    (fz : ∀ k, w.frozen? ⟨g, k, none⟩ = false) (hr : 1 ≤ room) :
    Calls Try.prog 38 #[.pointer (some ⟨g, 0, none⟩)] w fun e w' => e = .returned (.tuple #[]) ∧ ∃ W, Below w.heap.size w W ∧ W.heap[w.heap.size]? = some (.cells (flat encI [0]).toArray 3 (0, 0)) ∧
      w' = (W.setCell ⟨g, 1, none⟩ (.slice (some ⟨w.heap.size, 0, none⟩) 1 1)).setCell ⟨g, 2, none⟩ (.int .i64 0) := by
  have HM := makeI 1 (by omega)
  have FZ : Hid (∀ k, w.frozen? ⟨g, k, none⟩ = false) := fz
  clear fz
  rw [show List.replicate 1 (0 : Int) = [0] from rfl, show ((1 : Nat) : Int) = 1 from rfl] at HM
  obtain ⟨Z0, hZ0⟩ : ∃ Z0, flat encI [0] = Z0 := ⟨_, rfl⟩
  rw [hZ0] at HM ⊢
  have HL0 : Hid (Z0.length = 1) := by show _ = _; rw [← hZ0]; rfl
  clear hZ0
  by_cases hc : 1 < room
  · have q2 : (1 : Int) < (room : Int) := by omega
    go_enter Try.func38, Try.ntmps38
    go_wp2_with fail
    go_region
    clear HM
    obtain ⟨W1, hW1⟩ : ∃ W1, (w.alloc (.cells Z0.toArray 3)).drew = W1 := ⟨_, rfl⟩
    have HG1 : Hid (W1.heap[w.heap.size]? = some (.cells Z0.toArray 3 (0, 0))) := by show _ = _; rw [← hW1]; exact heap_alloc_new w _
    have hB1 : Below w.heap.size w W1 := by rw [← hW1]; exact ((Below.refl _ w).alloc (Nat.le_refl _) _).drew
    rw [hW1]
    clear hW1
    have d1 := (hB1.cell (p := ⟨g, 1, none⟩) hgN).trans h1
    have d2 := (hB1.cell (p := ⟨g, 2, none⟩) hgN).trans h2
    go_wp2_with fail
    go_region_law (refine step_copy_sized rfl (.tmp 17) (.tmp 26) 59 59 rfl 3 1 Try.underlying59 Try.size3 _ _ _ _ _ _ rfl rfl w.heap.size 0 Z0 3 HG1.out [] 0 (by first | rfl | simp) rfl (fun h => absurd h (by omega)) (by rw [HL0.out]; exact Nat.zero_le _) (fun _ h => nomatch h) w.heap.size w hB1.drew (Nat.le_refl _) ?_; intro w4 hg4 hb4)
    all_goals (
      have f1 := (hb4.cell (p := ⟨g, 1, none⟩) hgN).trans h1
      have f2 := (hb4.cell (p := ⟨g, 2, none⟩) hgN).trans h2
      have HG4 : Hid (w4.heap[w.heap.size]? = some (.cells Z0.toArray 3 (0, 0))) := by have := hg4.out; rw [splice_nil0] at this; exact this
      clear hg4
      go_wp2_with fail
      go_region_law (refine step_copy_sized rfl (.tmp 30) (.tmp 39) 59 59 rfl 3 1 Try.underlying59 Try.size3 _ _ _ _ _ _ rfl rfl w.heap.size 0 Z0 3 HG4.out [] 0 (by first | rfl | simp) rfl (fun h => absurd h (by omega)) (by rw [HL0.out]; exact Nat.zero_le _) (fun _ h => nomatch h) w.heap.size w hb4.drew (Nat.le_refl _) ?_; intro w5 hg5 hb5))
    all_goals (
      clear f1 f2
      have f1 := (hb5.cell (p := ⟨g, 1, none⟩) hgN).trans h1
      have f2 := (hb5.cell (p := ⟨g, 2, none⟩) hgN).trans h2
      have f3 := (hb5.frozen (p := ⟨g, 1, none⟩) hgN).trans (FZ.out 1)
      have f4 := (hb5.frozen (p := ⟨g, 2, none⟩) hgN).trans (FZ.out 2)
      have HG5 : Hid (w5.heap[w.heap.size]? = some (.cells Z0.toArray 3 (0, 0))) := by have := hg5.out; rw [splice_nil0] at this; exact this
      clear hg5
      go_wp2_with fail
      go_end0
      exact ⟨rfl, w5, hb5, HG5.out, rfl⟩)
  · have q2 : ¬ ((1 : Int) < (room : Int)) := by omega
    obtain rfl : room = 1 := by omega
    go_enter Try.func38, Try.ntmps38
    go_wp2_with fail
    go_region
    clear HM
    obtain ⟨W1, hW1⟩ : ∃ W1, (w.alloc (.cells Z0.toArray 3)).drew = W1 := ⟨_, rfl⟩
    have HG1 : Hid (W1.heap[w.heap.size]? = some (.cells Z0.toArray 3 (0, 0))) := by show _ = _; rw [← hW1]; exact heap_alloc_new w _
    have hB1 : Below w.heap.size w W1 := by rw [← hW1]; exact ((Below.refl _ w).alloc (Nat.le_refl _) _).drew
    rw [hW1]
    clear hW1
    have d1 := (hB1.cell (p := ⟨g, 1, none⟩) hgN).trans h1
    have d2 := (hB1.cell (p := ⟨g, 2, none⟩) hgN).trans h2
    go_wp2_with fail
    go_region_law (refine step_copy_sized rfl (.tmp 17) (.tmp 26) 59 59 rfl 3 1 Try.underlying59 Try.size3 _ _ _ _ _ _ rfl rfl w.heap.size 0 Z0 3 HG1.out [] 0 (by first | rfl | simp) rfl (fun h => absurd h (by omega)) (by rw [HL0.out]; exact Nat.zero_le _) (fun _ h => nomatch h) w.heap.size w hB1.drew (Nat.le_refl _) ?_; intro w4 hg4 hb4)
    all_goals (
      have f1 := (hb4.cell (p := ⟨g, 1, none⟩) hgN).trans h1
      have f2 := (hb4.cell (p := ⟨g, 2, none⟩) hgN).trans h2
      have HG4 : Hid (w4.heap[w.heap.size]? = some (.cells Z0.toArray 3 (0, 0))) := by have := hg4.out; rw [splice_nil0] at this; exact this
      clear hg4
      go_wp2_with fail
      go_region_law (refine step_copy_sized rfl (.tmp 30) (.tmp 39) 59 59 rfl 3 1 Try.underlying59 Try.size3 _ _ _ _ _ _ rfl rfl w.heap.size 0 Z0 3 HG4.out [] 0 (by first | rfl | simp) rfl (fun h => absurd h (by omega)) (by rw [HL0.out]; exact Nat.zero_le _) (fun _ h => nomatch h) w.heap.size w hb4.drew (Nat.le_refl _) ?_; intro w5 hg5 hb5))
    all_goals (
      clear f1 f2
      have f1 := (hb5.cell (p := ⟨g, 1, none⟩) hgN).trans h1
      have f2 := (hb5.cell (p := ⟨g, 2, none⟩) hgN).trans h2
      have f3 := (hb5.frozen (p := ⟨g, 1, none⟩) hgN).trans (FZ.out 1)
      have f4 := (hb5.frozen (p := ⟨g, 2, none⟩) hgN).trans (FZ.out 2)
      have HG5 : Hid (w5.heap[w.heap.size]? = some (.cells Z0.toArray 3 (0, 0))) := by have := hg5.out; rw [splice_nil0] at this; exact this
      clear hg5
      go_wp2_with fail
      go_end0
      exact ⟨rfl, w5, hb5, HG5.out, rfl⟩)
end Go.Proofs.Ytjibpdncginkdaa
