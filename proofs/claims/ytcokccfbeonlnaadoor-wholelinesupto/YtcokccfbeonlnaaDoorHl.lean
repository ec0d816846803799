import Derived.Test.YtcokccfbeonlnaaDoorHk
set_option linter.unusedVariables false
set_option linter.unusedSimpArgs false
namespace Go.Proofs.YtcokccfbeonlnaaDoor
open Go.RowKit

/-- Back to the block around. -/
theorem PS.pop {B : Nat} {w0 : World} {own : Nat → Nat} {W : World} {g gs n : Nat} {p : Pr} (h : PS B w0 own W g gs n p) {b : Bk} {r : List Bk} (hr : p.ar = b :: r) : ∃ q cap, W.cell? ⟨g, 5, none⟩ = some (.slice (some ⟨q, 0, none⟩) (r.length + 1) cap) ∧ r.length + 1 ≤ cap ∧ cap ≤ maxLen ∧ W.cell? ⟨q, r.length * 3, none⟩ = some (.int .i64 b.ind) ∧ W.cell? ⟨q, r.length * 3 + 1, none⟩ = some (.bool b.ev) ∧ W.cell? ⟨q, r.length * 3 + 2, none⟩ = some (.bool b.ft) ∧ q ≠ g ∧
    PA B w0 own W g gs n { p with bl := b, ar := r } ((((W.setCell ⟨g, 2, none⟩ (.int .i64 b.ind)).setCell ⟨g, 3, none⟩ (.bool b.ev)).setCell ⟨g, 4, none⟩ (.bool b.ft)).setCell ⟨g, 5, none⟩ (.slice (some ⟨q, 0, none⟩) r.length cap)) := by
  obtain ⟨v, h1, h2, h3⟩ := h.pr
  rw [hr] at h2
  obtain ⟨q, cap, rfl, c1, c2, c3, c4, cur, c5⟩ := row_pop bkc_len h2
  have r1 := row_ne h2 h1 (by decide)
  have hqg : q ≠ g := fun e => r1 (by rw [e]; rfl)
  have k4 := (((Kp.set W g 2 (.int .i64 b.ind)).trans (Kp.set _ g 3 (.bool b.ev))).trans (Kp.set _ g 4 (.bool b.ft))).trans (Kp.set _ g 5 (.slice (some ⟨q, 0, none⟩) r.length cap))
  refine ⟨q, cap, blk_cell h1 rfl, c1, c2, c4 0 _ rfl, c4 1 _ rfl, c4 2 _ rfl, hqg, own, ?_⟩
  refine h.turn (((((Fr.refl 2 own W).set' h.lab 2 _).set' h.lab 3 _).set' h.lab 4 _).set' h.lab 5 _) (h.en.nf.below k4.size) rfl ⟨.slice (some ⟨q, 0, none⟩) r.length cap, blk_set (blk_set (blk_set (blk_set h1 2 _) 3 _) 4 _) 5 _, k4.row c3 (fun k e1 e2 => by cases e1; exact hqg e2), fun k hk => h3 k (by cases hk; rfl)⟩

set_option maxHeartbeats 2000000 in
set_option maxRecDepth 100000 in
theorem put_end {B : Nat} {w0 : World} {own : Nat → Nat} {W : World} {g gs n : Nat} {p : Pr} (h : PS B w0 own W g gs n p) (need : Nat) {b : Bk} {r : List Bk} (hr : p.ar = b :: r) (hl : r.length ≤ 1000000000) :
    Calls Tryd.prog 23 #[.pointer (some ⟨g, 0, none⟩), .agg #[.int .u8 7, .string ⟨#[]⟩, .int .i64 0, .int .i64 0, .bool false], .int .i64 need] W fun x w' => x = .returned (.tuple #[]) ∧ PA B w0 own W g gs n { p with bl := b, ar := r } w' := by
  have c2 := h.c2
  have c3 := h.c3
  have c4 := h.c4
  have f2 := h.fz 2
  have f3 := h.fz 3
  have f4 := h.fz 4
  have f5 := h.fz 5
  have glt := h.lt
  obtain ⟨q, cap, c5, d1, d2, q0, q1, q2, hqg, own', e1, e2, e3⟩ := h.pop hr
  have hgq : g ≠ q := Ne.symm hqg
  have hq : q < W.heap.size := World.block_lt_of_cell? _ _ q0
  have HP : Hid (∀ o, PA B w0 own W g gs n { p with bl := b, ar := r } (((((W.setCell ⟨g, 2, none⟩ (.int .i64 b.ind)).setCell ⟨g, 3, none⟩ (.bool b.ev)).setCell ⟨g, 4, none⟩ (.bool b.ft)).setCell ⟨g, 5, none⟩ (.slice (some ⟨q, 0, none⟩) r.length cap)).alloc o).drew) := by
    intro o
    have hbl := ((Below.refl _ ((((W.setCell ⟨g, 2, none⟩ (.int .i64 b.ind)).setCell ⟨g, 3, none⟩ (.bool b.ev)).setCell ⟨g, 4, none⟩ (.bool b.ft)).setCell ⟨g, 5, none⟩ (.slice (some ⟨q, 0, none⟩) r.length cap))).alloc (Nat.le_refl _) o).drew
    exact ⟨own', e1.below hbl, e2.trans e3 (fun k hk h0 => ⟨hbl.block k hk, h0⟩), Nat.le_trans e3 hbl.size⟩
  have d2' : cap ≤ 9223372036854775807 := d2
  clear e1 e2 e3 h
  go_enter Tryd.func23, Tryd.ntmps23
  go_wp2_with fail
  go_region
  all_goals (
    go_wp2_with fail
    go_end0
    exact ⟨rfl, HP.out _⟩)

/-- What a piece does to the printer. -/
theorem put_any {B : Nat} {w0 : World} {own : Nat → Nat} {W : World} {g gs n : Nat} {p : Pr} (h : PS B w0 own W g gs n p) {U : Nat} (hp : Bp p U) (hU : U ≤ 268435456) (need : Nat) (hnd : need ≤ 1000000) (hn : n ≤ 4096) (hl : p.ar.length ≤ 1000000000) (d : Dc) (hd : rt d = true) (h7 : d.k = 7 → p.ar ≠ []) :
    Calls Tryd.prog 23 #[.pointer (some ⟨g, 0, none⟩), d.v, .int .i64 need] W fun e w' => e = .returned (.tuple #[]) ∧ PA B w0 own W g gs n (put n d need p) w' := by
  cases rt_of hd with
  | text t hq => exact put_text h hp hU need t (rtT_len hq).2
  | brk m hq =>
    obtain ⟨q1, q2⟩ := rtN_of hq
    have := put_brk h hp hU need hnd hn m.toNat (by omega)
    rw [show ((m.toNat : Nat) : Int) = m by omega] at this
    exact this
  | beg m e hq =>
    obtain ⟨q1, q2⟩ := rtN_of hq
    have := put_beg h hp hU need hnd hn hl m.toNat (by omega) e
    rw [show ((m.toNat : Nat) : Int) = m by omega] at this
    exact this
  | blank => exact put_blank h hp hU need
  | hard => exact put_hard h hp hU need
  | empty => exact put_empty h hp hU need
  | «end» =>
    cases ha : p.ar with
    | nil => exact absurd ha (h7 rfl)
    | cons b r =>
      have := put_end h need ha (by rw [ha] at hl; simp at hl; omega)
      have e : put n ⟨7, bE, 0, 0, false⟩ need p = { p with bl := b, ar := r } := by
        show ({ p with bl := p.ar.headD ⟨0, false, false⟩, ar := p.ar.tail } : Pr) = _
        rw [ha]; rfl
      rw [e]
      exact this
end Go.Proofs.YtcokccfbeonlnaaDoor
