import Derived.Test.YtmjhfabdbajchaaGreatDoorHc1
import Derived.Test.YtmjhfabdbajchaaGreatDoorG9
set_option linter.unusedVariables false
set_option linter.unusedSimpArgs false
namespace Go.Proofs.YtmjhfabdbajchaaGreatDoor
open Go.RowKit

/-- Back to the block around. -/
theorem PK9.pop {hd : Hd9} {B : Nat} {w0 : World} {own : Nat → Nat} {W : World} {g gs n : Nat} {p : Pr} (h : PK9 hd B w0 own W g gs n p) {b : Bk} {r : List Bk} (hr : p.ar = b :: r) : ∃ q cap, W.cell? ⟨g, 12, none⟩ = some (.slice (some ⟨q, 0, none⟩) (r.length + 1) cap) ∧ r.length + 1 ≤ cap ∧ cap ≤ maxLen ∧ W.cell? ⟨q, r.length * 3, none⟩ = some (.int .i64 b.ind) ∧ W.cell? ⟨q, r.length * 3 + 1, none⟩ = some (.bool b.ev) ∧ W.cell? ⟨q, r.length * 3 + 2, none⟩ = some (.bool b.ft) ∧ q ≠ g ∧
    PKA hd B w0 own W g gs n { p with bl := b, ar := r } ((((W.setCell ⟨g, 9, none⟩ (.int .i64 b.ind)).setCell ⟨g, 10, none⟩ (.bool b.ev)).setCell ⟨g, 11, none⟩ (.bool b.ft)).setCell ⟨g, 12, none⟩ (.slice (some ⟨q, 0, none⟩) r.length cap)) := by
  obtain ⟨v, h1, h2, h3⟩ := h.pr
  rw [hr] at h2
  obtain ⟨q, cap, rfl, c1, c2, c3, c4, cur, c5⟩ := row_pop bk9_len h2
  have r1 := row_ne h2 h1 (by decide)
  have hqg : q ≠ g := fun e => r1 (by rw [e]; rfl)
  have k4 := (((Kp.set W g 9 (.int .i64 b.ind)).trans (Kp.set _ g 10 (.bool b.ev))).trans (Kp.set _ g 11 (.bool b.ft))).trans (Kp.set _ g 12 (.slice (some ⟨q, 0, none⟩) r.length cap))
  refine ⟨q, cap, blk_cell h1 rfl, c1, c2, c4 0 _ rfl, c4 1 _ rfl, c4 2 _ rfl, hqg, own, ?_⟩
  refine h.turn (((((Fr.refl 2 own W).set' h.lab 9 _).set' h.lab 10 _).set' h.lab 11 _).set' h.lab 12 _) (h.en.nf.below k4.size) rfl ⟨.slice (some ⟨q, 0, none⟩) r.length cap, blk_set (blk_set (blk_set (blk_set h1 9 _) 10 _) 11 _) 12 _, k4.row c3 (fun k e1 e2 => by cases e1; exact hqg e2), fun k hk => h3 k (by cases hk; rfl)⟩

set_option maxHeartbeats 2000000 in
set_option maxRecDepth 100000 in
theorem gput_end {hd : Hd9} {B : Nat} {w0 : World} {own : Nat → Nat} {W : World} {g gs n : Nat} {p : Pr} (h : PK9 hd B w0 own W g gs n p) (need : Nat) {b : Bk} {r : List Bk} (hr : p.ar = b :: r) (hl : r.length ≤ 1000000000) :
    Calls Tryz.prog 63 #[.pointer (some ⟨g, 7, none⟩), .agg #[.int .u8 7, .string ⟨#[]⟩, .int .i64 0, .int .i64 0, .bool false], .int .i64 need] W fun x w' => x = .returned (.tuple #[]) ∧ PKA hd B w0 own W g gs n { p with bl := b, ar := r } w' := by
  have c2 := h.c2
  have c3 := h.c3
  have c4 := h.c4
  have f2 := h.fz 9
  have f3 := h.fz 10
  have f4 := h.fz 11
  have f5 := h.fz 12
  have glt := h.lt
  obtain ⟨q, cap, c5, d1, d2, q0, q1, q2, hqg, own', e1, e2, e3⟩ := h.pop hr
  have hgq : g ≠ q := Ne.symm hqg
  have hq : q < W.heap.size := World.block_lt_of_cell? _ _ q0
  have HP : Hid (∀ o, PKA hd B w0 own W g gs n { p with bl := b, ar := r } (((((W.setCell ⟨g, 9, none⟩ (.int .i64 b.ind)).setCell ⟨g, 10, none⟩ (.bool b.ev)).setCell ⟨g, 11, none⟩ (.bool b.ft)).setCell ⟨g, 12, none⟩ (.slice (some ⟨q, 0, none⟩) r.length cap)).alloc o).drew) := by
    intro o
    have hbl := ((Below.refl _ ((((W.setCell ⟨g, 9, none⟩ (.int .i64 b.ind)).setCell ⟨g, 10, none⟩ (.bool b.ev)).setCell ⟨g, 11, none⟩ (.bool b.ft)).setCell ⟨g, 12, none⟩ (.slice (some ⟨q, 0, none⟩) r.length cap))).alloc (Nat.le_refl _) o).drew
    exact ⟨own', e1.below hbl, e2.trans e3 (fun k hk h0 => ⟨hbl.block k hk, h0⟩), Nat.le_trans e3 hbl.size⟩
  have d2' : cap ≤ 9223372036854775807 := d2
  clear e1 e2 e3 h
  go_enter Tryz.func63, Tryz.ntmps63
  go_wp2_with fail
  go_region
  all_goals (
    go_wp2_with fail
    go_end0
    exact ⟨rfl, HP.out _⟩)

/-- What a piece does to the printer. -/
theorem gput_any {hd : Hd9} {B : Nat} {w0 : World} {own : Nat → Nat} {W : World} {g gs n : Nat} {p : Pr} (h : PK9 hd B w0 own W g gs n p) {U : Nat} (hp : Bp p U) (hU : U ≤ 268435456) (need : Nat) (hnd : need ≤ 1000000000000000) (hn : n ≤ 4096) (hl : p.ar.length ≤ 1000000000) (d : Dc) (hrt : rt d = true) (h7 : d.k = 7 → p.ar ≠ []) :
    Calls Tryz.prog 63 #[.pointer (some ⟨g, 7, none⟩), d.v, .int .i64 need] W fun e w' => e = .returned (.tuple #[]) ∧ PKA hd B w0 own W g gs n (put n d need p) w' := by
  cases rt_of hrt with
  | text t hq => exact gput_text h hp hU need t (rtT_len hq).2
  | brk m hq =>
    obtain ⟨q1, q2⟩ := rtN_of hq
    have := gput_brk h hp hU need hnd hn m.toNat (by omega)
    rw [show ((m.toNat : Nat) : Int) = m by omega] at this
    exact this
  | beg m e hq =>
    obtain ⟨q1, q2⟩ := rtN_of hq
    have := gput_beg h hp hU need hnd hn hl m.toNat (by omega) e
    rw [show ((m.toNat : Nat) : Int) = m by omega] at this
    exact this
  | blank => exact gput_blank h hp hU need
  | hard => exact gput_hard h hp hU need
  | empty => exact gput_empty h hp hU need
  | «end» =>
    cases ha : p.ar with
    | nil => exact absurd ha (h7 rfl)
    | cons b r =>
      have := gput_end h need ha (by rw [ha] at hl; simp at hl; omega)
      have e : put n ⟨7, bE, 0, 0, false⟩ need p = { p with bl := b, ar := r } := by
        show ({ p with bl := p.ar.headD ⟨0, false, false⟩, ar := p.ar.tail } : Pr) = _
        rw [ha]; rfl
      rw [e]
      exact this
end Go.Proofs.YtmjhfabdbajchaaGreatDoor
