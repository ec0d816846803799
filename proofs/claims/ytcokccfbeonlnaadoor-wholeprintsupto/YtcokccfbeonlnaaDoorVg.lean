import Derived.Test.YtcokccfbeonlnaaDoorVf
set_option linter.unusedVariables false
set_option linter.unusedSimpArgs false
namespace Go.Proofs.YtcokccfbeonlnaaDoor
open Go.RowKit

theorem Pg.below {B : Nat} {W W' : World} {g N : Nat} {p : Pr} (h : Pg B W g N p) (hb : Below W.heap.size W W') : Pg B W' g N p := by
  obtain ⟨vo, vb, sm, em, h⟩ := h
  exact ⟨vo, vb, sm, em, h.below hb⟩
/-! A piece is printed: those kinds that look at no width. -/
theorem prn_text {B g N : Nat} {W : World} {p : Pr} (h : Pg B W g N p) (hB : B ≤ W.heap.size) (t : ByteArray) (ht0 : 0 < t.size) (hl : p.at ≤ 1000000000) (ho : p.sk.out.length + hld p + t.size ≤ 1000000000) (wide : Int) (need : Nat) :
    Calls Tryd.prog 28 #[.pointer (some ⟨g, 0, none⟩), .agg #[.int .u8 1, .string t, .int .i64 0, .int .i64 0, .bool false], .int .i64 wide] W fun e w' => e = .returned (.tuple #[]) ∧ Pg B w' g N (put N ⟨1, t, 0, 0, false⟩ need p) ∧ Below B W w' := by
  have e : put N ⟨1, t, 0, 0, false⟩ need p = { p with sk := p.sk.text t, en := false } := by simp [put]
  rw [e]
  have hb1 : ∀ o, Below W.heap.size W (W.alloc o) := fun o => (Below.refl _ _).alloc (Nat.le_refl _) _
  have HC : Hid (∀ o, Calls Tryd.prog 50 #[.pointer (some ⟨g, 0, none⟩), .string t] (W.alloc o) fun e w' => e = .returned (.tuple #[]) ∧ Pg B w' g N { p with sk := p.sk.text t, en := false } ∧ Below B W w') := fun o =>
    (ptx_any (h.below (hb1 o)) (Nat.le_trans hB (hb1 o).size) t ht0 hl ho).mono fun e w' ⟨a1, a2, a3⟩ => ⟨a1, a2, ((hb1 o).mono hB).trans a3⟩
  clear h e hb1
  go_enter Tryd.func28, Tryd.ntmps28
  go_wp2_with fail
  refine (HC.out _).mono ?_
  rintro e w1 ⟨rfl, HP⟩
  have HPH : Hid (Pg B w1 g N { p with sk := p.sk.text t, en := false } ∧ Below B W w1) := HP
  clear HP HC
  go_wp2_with fail
  go_end0
  exact ⟨rfl, HPH.out⟩
theorem prn_blank {B g N : Nat} {W : World} {p : Pr} (h : Pg B W g N p) (hB : B ≤ W.heap.size) (hl : p.at ≤ 1000000000) (wide : Int) (need : Nat) :
    Calls Tryd.prog 28 #[.pointer (some ⟨g, 0, none⟩), .agg #[.int .u8 2, .string bE, .int .i64 0, .int .i64 0, .bool false], .int .i64 wide] W fun e w' => e = .returned (.tuple #[]) ∧ Pg B w' g N (put N ⟨2, bE, 0, 0, false⟩ need p) ∧ Below B W w' := by
  have e : put N ⟨2, bE, 0, 0, false⟩ need p = p.hold 1 := by simp [put]
  rw [e]
  have hb1 : ∀ o, Below W.heap.size W (W.alloc o) := fun o => (Below.refl _ _).alloc (Nat.le_refl _) _
  have HC : Hid (∀ o, Calls Tryd.prog 51 #[.pointer (some ⟨g, 0, none⟩), .int .i64 1] (W.alloc o) fun e w' => e = .returned (.tuple #[]) ∧ Pg B w' g N (p.hold 1) ∧ Below B W w') := fun o =>
    (pblanks_any (h.below (hb1 o)) (Nat.le_trans hB (hb1 o).size) 1 (by omega) hl).mono fun e w' ⟨a1, a2, a3⟩ => ⟨a1, a2, ((hb1 o).mono hB).trans a3⟩
  clear h e hb1
  go_enter Tryd.func28, Tryd.ntmps28
  go_wp2_with fail
  refine (HC.out _).mono ?_
  rintro e w1 ⟨rfl, HP⟩
  have HPH : Hid (Pg B w1 g N (p.hold 1) ∧ Below B W w1) := HP
  clear HP HC
  go_wp2_with fail
  go_end0
  exact ⟨rfl, HPH.out⟩
theorem prn_hard {B g N : Nat} {W : World} {p : Pr} (h : Pg B W g N p) (hB : B ≤ W.heap.size) (hl : p.at ≤ 1000000000) (ho : p.sk.out.length ≤ 1000000000) (ha : p.ar.length ≤ 100000000) (hi : p.bl.ind ≤ 1000) (wide : Int) (need : Nat) :
    Calls Tryd.prog 28 #[.pointer (some ⟨g, 0, none⟩), .agg #[.int .u8 4, .string bE, .int .i64 0, .int .i64 0, .bool false], .int .i64 wide] W fun e w' => e = .returned (.tuple #[]) ∧ Pg B w' g N (put N ⟨4, bE, 0, 0, false⟩ need p) ∧ Below B W w' := by
  have e : put N ⟨4, bE, 0, 0, false⟩ need p = p.endl := by simp [put]
  rw [e]
  have hb1 : ∀ o, Below W.heap.size W (W.alloc o) := fun o => (Below.refl _ _).alloc (Nat.le_refl _) _
  have HC : Hid (∀ o, Calls Tryd.prog 52 #[.pointer (some ⟨g, 0, none⟩)] (W.alloc o) fun e w' => e = .returned (.tuple #[]) ∧ Pg B w' g N p.endl ∧ Below B W w') := fun o =>
    (pends_any (h.below (hb1 o)) (Nat.le_trans hB (hb1 o).size) hl ho ha hi).mono fun e w' ⟨a1, a2, a3⟩ => ⟨a1, a2, ((hb1 o).mono hB).trans a3⟩
  clear h e hb1
  go_enter Tryd.func28, Tryd.ntmps28
  go_wp2_with fail
  refine (HC.out _).mono ?_
  rintro e w1 ⟨rfl, HP⟩
  have HPH : Hid (Pg B w1 g N p.endl ∧ Below B W w1) := HP
  clear HP HC
  go_wp2_with fail
  go_end0
  exact ⟨rfl, HPH.out⟩
end Go.Proofs.YtcokccfbeonlnaaDoor
