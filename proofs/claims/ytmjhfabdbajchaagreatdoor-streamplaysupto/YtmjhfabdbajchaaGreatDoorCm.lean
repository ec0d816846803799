import Derived.Test.YtmjhfabdbajchaaGreatDoorCl
import Derived.Deep.RegionHeld3
set_option linter.unusedVariables false
set_option linter.unusedSimpArgs false
namespace Go.Proofs.YtmjhfabdbajchaaGreatDoor
open Go.RowKit

def prs (gs : Nat → Nat) (k : Nat) : List (Nat × Nat) := (List.range k).map fun j => (gs (j + 1), gs (j + 3))
theorem prs_len (gs : Nat → Nat) (k : Nat) : (prs gs k).length = k := by simp [prs]
theorem prs_upd {gs : Nat → Nat} {k i g : Nat} (h : ∀ j, j < k → j + 1 ≠ i ∧ j + 3 ≠ i) : prs (upd gs i g) k = prs gs k := by
  unfold prs
  apply List.map_congr_left
  intro j hj
  obtain ⟨h1, h2⟩ := h j (by simpa using hj)
  rw [upd_ne _ h1, upd_ne _ h2]
/-- While the printers are made: m of them; kk pairs lie in the row. -/
structure M9 (R : (Nat → Prop) → World → Nat → Nat → S9 → Prop) (W0 V : World) (own : Nat → Nat) (gs Ns : Nat → Nat) (m kk wb : Nat) (vl : Value) (one two : Int) : Prop where
  d9 : D9 R W0 V own gs Ns (fun _ => s90) m
  rw : V.ownsRow W0.heap.size 34 2 vl kk (flat pbb (prs gs kk))
  lw : ∀ q, vl.ownBlock = some q → own q = 0
  bw : V.heap[wb]? = some (.cells #[.int .i64 one, .int .i64 two] 3 (0, 0))
  ow : own wb = 0
  wb0 : W0.heap.size ≤ wb
  nn : ∀ i, Ns i ≤ 4096
section
variable {R : (Nat → Prop) → World → Nat → Nat → S9 → Prop} {W0 V : World} {own : Nat → Nat} {gs Ns : Nat → Nat} {m kk wb : Nat} {vl : Value} {one two : Int}
theorem upd_const (i : Nat) (s : S9) : upd (fun _ => s) i s = fun _ => s := by funext k; unfold upd; split <;> rfl
theorem M9.below (hC : Ctr R) (h : M9 R W0 V own gs Ns m kk wb vl one two) {w' : World} (hb : Below V.heap.size V w') : M9 R W0 w' own gs Ns m kk wb vl one two := ⟨h.d9.below hC hb, row_kept h.rw hb, h.lw, blk_below h.bw hb, h.ow, h.wb0, h.nn⟩
theorem M9.next (h : M9 R W0 V own gs Ns m kk wb vl one two) {w' : World} {own' : Nat → Nat} {i g n m' : Nat} (hd : D9 R W0 w' own' (upd gs i g) (upd Ns i n) (upd (fun _ => s90) i s90) m') (hs : Sd own own' V w') (hi : ∀ j, j < kk → j + 1 ≠ i ∧ j + 3 ≠ i) (hn : n ≤ 4096) : M9 R W0 w' own' (upd gs i g) (upd Ns i n) m' kk wb vl one two := by
  rw [upd_const] at hd
  obtain ⟨a1, a2⟩ := row_sd h.rw hs h.lw
  obtain ⟨b1, b2⟩ := hs wb (blk_lt h.bw) h.ow
  refine ⟨hd, by rw [prs_upd hi]; exact a1, a2, b1.trans h.bw, b2, h.wb0, fun j => ?_⟩
  unfold upd
  split
  · exact hn
  · exact h.nn j
theorem M9.newP (hC : Ctr R) (h : M9 R W0 V own gs Ns m kk wb vl one two) (hm : m = 2 * kk) (hk : kk ≤ 1) (n : Nat) (h1 : 1 ≤ n) (h2 : n ≤ 4096) :
    Calls Tryz.prog 10 #[.int .i64 (n : Int)] V fun e w' => ∃ g own', e = .returned (.tuple #[.pointer (some ⟨g, 0, none⟩), .int .i64 0]) ∧ M9 R W0 w' own' (upd gs (kk + 1) g) (upd Ns (kk + 1) n) (m + 1) kk wb vl one two := by
  refine (D9.newP hC h.d9 (i := kk + 1) (by omega) n h1 h2).mono ?_
  rintro e w' ⟨g, own', rfl, a1, a2, _⟩
  exact ⟨g, own', rfl, h.next a1 a2 (fun j hj => by omega) h2⟩
theorem M9.newQ (hC : Ctr R) (h : M9 R W0 V own gs Ns m kk wb vl one two) (hm : m = 2 * kk + 1) (hk : kk ≤ 1) (n : Nat) (h1 : 1 ≤ n) (h2 : n ≤ 4096) :
    Calls Tryz.prog 11 #[.int .i64 (n : Int)] V fun e w' => ∃ g own', e = .returned (.tuple #[.pointer (some ⟨g, 0, none⟩), .int .i64 0]) ∧ M9 R W0 w' own' (upd gs (kk + 3) g) (upd Ns (kk + 3) n) (m + 1) kk wb vl one two := by
  refine (D9.newQ hC h.d9 (i := kk + 3) (by omega) n h1 h2).mono ?_
  rintro e w' ⟨g, own', rfl, a1, a2, _⟩
  exact ⟨g, own', rfl, h.next a1 a2 (fun j hj => by omega) h2⟩
theorem D9.grown (hC : Ctr R) {ss : Nat → S9} (h : D9 R W0 V own gs Ns ss m) {w' : World} {row : Option Nat} (hg : V.grownBy w' row) (hT0 : Tab W0) (hrow : ∀ k, row = some k → own k = 0 ∧ W0.heap.size ≤ k) : D9 R W0 w' own gs Ns ss m := by
  have hbe : Below W0.heap.size W0 w' := h.be.grown hg h.be.size (fun k e => (hrow k e).2)
  refine ⟨⟨fun k hk => h.en.nf k (Nat.le_trans hg.size hk), hT0.below hbe, h.en.z⟩, h.lo, hbe, fun i h1 h2 h3 h4 => rr_oth hC i (h.rr i h1 h2 h3 h4) (Kp.of_grown hg) (fun k _ e1 e2 => ?_)⟩
  have := (hrow k e2.symm).1
  rw [e1] at this; omega
theorem M9.app (hC : Ctr R) (hT : Tab W0) (h : M9 R W0 V own gs Ns m kk wb vl one two) {w' : World} {vl' : Value} (hr : w'.ownsRow W0.heap.size 34 2 vl' (kk + 1) (flat pbb (prs gs (kk + 1)))) (hg : V.grownBy w' vl.ownBlock) (hat : vl'.ownBlock = vl.ownBlock ∨ vl'.ownBlock = some V.heap.size) : M9 R W0 w' own gs Ns m (kk + 1) wb vl' one two := by
  refine ⟨h.d9.grown hC hg hT (fun k e => ⟨h.lw k e, (World.ownsRow.lt h.rw k e).1⟩), hr, ?_, ?_, h.ow, h.wb0, h.nn⟩
  · intro q hq
    rcases hat with e | e
    · exact h.lw q (by rw [← e]; exact hq)
    · rw [e] at hq
      injection hq with hq
      exact h.d9.en.nf q (by omega)
  · refine (Kp.of_grown hg).blk h.bw (fun e => ?_)
    exact row_ne (row_zero h.rw) h.bw (by decide) e.symm
end
end Go.Proofs.YtmjhfabdbajchaaGreatDoor
