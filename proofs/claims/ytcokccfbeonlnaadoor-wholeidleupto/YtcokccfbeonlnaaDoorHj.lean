import Derived.Test.YtcokccfbeonlnaaDoorHi
set_option linter.unusedVariables false
set_option linter.unusedSimpArgs false
namespace Go.Proofs.YtcokccfbeonlnaaDoor
open Go.RowKit

/-- The printer, and a piece's box. -/
theorem PS.box {B : Nat} {w0 : World} {own : Nat → Nat} {W : World} {g gs n : Nat} {p : Pr} (h : PS B w0 own W g gs n p) (o : Obj) : PS B w0 own (W.alloc o) g gs n p ∧ (W.alloc o).heap[W.heap.size]? = some o ∧ own W.heap.size = 0 ∧ Sd own own W (W.alloc o) ∧ W.heap.size ≤ (W.alloc o).heap.size :=
  ⟨h.below ((Below.refl _ _).alloc (Nat.le_refl _) _), new_at _ _, h.en.nf _ (Nat.le_refl _), fun k hk h0 => ⟨Below.heap_alloc W o k hk, h0⟩, by rw [World.size_alloc]; omega⟩
theorem PA.of {B : Nat} {w0 : World} {own : Nat → Nat} {W : World} {g gs n : Nat} {p : Pr} (h : PS B w0 own W g gs n p) (o : Obj) {p' : Pr} {w' : World} (ha : PA B w0 own (W.alloc o) g gs n p' w') : PA B w0 own W g gs n p' w' := by
  obtain ⟨own', a1, a2, a3⟩ := ha
  obtain ⟨_, _, _, b1, b2⟩ := h.box o
  exact ⟨own', a1, b1.trans b2 a2, Nat.le_trans b2 a3⟩

section
variable {B : Nat} {w0 : World} {own : Nat → Nat} {W : World} {g gs n : Nat} {p : Pr}

set_option maxHeartbeats 1000000 in
set_option maxRecDepth 100000 in
theorem put_text (h : PS B w0 own W g gs n p) {U : Nat} (hp : Bp p U) (hU : U ≤ 268435456) (need : Nat) (t : ByteArray) (ht : t.size ≤ 65535) :
    Calls Tryd.prog 23 #[.pointer (some ⟨g, 0, none⟩), .agg #[.int .u8 1, .string t, .int .i64 0, .int .i64 0, .bool false], .int .i64 need] W fun e w' => e = .returned (.tuple #[]) ∧ PA B w0 own W g gs n { p with sk := p.sk.text t, en := false } w' := by
  have hcol := hp.col
  have hout := hp.out
  have c1 := h.c1
  have hlt := h.lt
  obtain ⟨W1, hW1⟩ : ∃ W1, W.alloc (.cells #[.int .u8 1, .string t, .int .i64 0, .int .i64 0, .bool false] 26) = W1 := ⟨_, rfl⟩
  obtain ⟨b1, b2, b3, b4, b5⟩ := h.box (.cells #[.int .u8 1, .string t, .int .i64 0, .int .i64 0, .bool false] 26)
  rw [hW1] at b1 b2 b4 b5
  have x1 : W1.cell? ⟨W.heap.size, 1, none⟩ = some (.string t) := blk_cell b2 rfl
  have c1' := b1.c1
  have HB : Hid (∀ V, V = W1.drew → Calls Tryd.prog 34 #[.pointer (some ⟨gs, 0, none⟩), .string t] V fun e w' => e = .returned (.int .i64 0) ∧ Hid (PA B w0 own W g gs n { p with sk := p.sk.text t } w') ∧ w'.cell? ⟨g, 1, none⟩ = some (.pointer (some ⟨gs, 0, none⟩)) ∧ w'.cell? ⟨W.heap.size, 1, none⟩ = some (.string t) ∧ w'.cell? ⟨g, 6, none⟩ = some (.bool p.en) ∧ w'.frozen? ⟨g, 6, none⟩ = false) := by
    intro V hV
    subst hV
    have hd := b1.below (Below.refl _ W1).drew
    refine (text_st hd.sk hd.en (by omega) t (by omega)).mono ?_
    rintro e w' ⟨rfl, ha⟩
    obtain ⟨own', a1, a2, a3⟩ := hd.sink ha
    have hb2 := a2 W.heap.size (blk_lt b2) b3
    exact ⟨rfl, ⟨own', a1, b4.trans b5 a2, Nat.le_trans b5 a3⟩, a1.c1, blk_cell (hb2.1.trans b2) rfl, a1.c6, a1.fz 6⟩
  have HW1 : Hid (W.alloc (.cells #[.int .u8 1, .string t, .int .i64 0, .int .i64 0, .bool false] 26) = W1) := hW1
  clear h hp b1 b2 b4 b5 hW1
  go_enter Tryd.func23, Tryd.ntmps23
  go_wp2_with fail
  rw [HW1.out]
  go_region_held3 (fun w' => w'.cell? ⟨g, 1, none⟩ = some (.pointer (some ⟨gs, 0, none⟩)) ∧ w'.cell? ⟨W.heap.size, 1, none⟩ = some (.string t)) (first | (exact ⟨by assumption, by assumption⟩) | (exact ⟨c1', x1⟩) | go_keep) (first | (go_at_call 34; refine (HB.out _ rfl).mono ?_; rintro e w1 ⟨rfl, HP, y1, y2, y6, f6⟩))
  all_goals (
    go_wp2_with fail
    go_end0
    obtain ⟨own', a1, a2, a3⟩ := HP.out
    have a4 := a1.sett false
    exact ⟨rfl, own', a4.1, a2.trans a3 a4.2, Nat.le_trans a3 (Kp.set _ g 6 (.bool false)).size⟩)

set_option maxHeartbeats 1000000 in
set_option maxRecDepth 100000 in
theorem put_blank (h : PS B w0 own W g gs n p) {U : Nat} (hp : Bp p U) (hU : U ≤ 268435456) (need : Nat) :
    Calls Tryd.prog 23 #[.pointer (some ⟨g, 0, none⟩), .agg #[.int .u8 2, .string ⟨#[]⟩, .int .i64 0, .int .i64 0, .bool false], .int .i64 need] W fun e w' => e = .returned (.tuple #[]) ∧ PA B w0 own W g gs n (p.hold 1) w' := by
  have HB : Hid (∀ o, Calls Tryd.prog 35 #[.pointer (some ⟨g, 0, none⟩), .int .i64 1] (W.alloc o) fun e w' => e = .returned (.tuple #[]) ∧ PA B w0 own W g gs n (p.hold 1) w') := fun o =>
    (hold_any (h.box o).1 hp hU 1 (by omega)).mono fun e w' ⟨h1, h2⟩ => ⟨h1, PA.of h o h2⟩
  clear h hp
  go_enter Tryd.func23, Tryd.ntmps23
  go_wp2_with (go_at_call 35; refine (HB.out _).mono ?_; rintro e w1 ⟨rfl, h1⟩)
  go_end0
  exact ⟨rfl, h1⟩

set_option maxHeartbeats 1000000 in
set_option maxRecDepth 100000 in
theorem put_hard (h : PS B w0 own W g gs n p) {U : Nat} (hp : Bp p U) (hU : U ≤ 268435456) (need : Nat) :
    Calls Tryd.prog 23 #[.pointer (some ⟨g, 0, none⟩), .agg #[.int .u8 4, .string ⟨#[]⟩, .int .i64 0, .int .i64 0, .bool false], .int .i64 need] W fun e w' => e = .returned (.tuple #[]) ∧ PA B w0 own W g gs n p.endl w' := by
  have HB : Hid (∀ o, Calls Tryd.prog 37 #[.pointer (some ⟨g, 0, none⟩)] (W.alloc o) fun e w' => e = .returned (.tuple #[]) ∧ PA B w0 own W g gs n p.endl w') := fun o =>
    (endl_any (h.box o).1 hp hU).mono fun e w' ⟨h1, h2⟩ => ⟨h1, PA.of h o h2⟩
  clear h hp
  go_enter Tryd.func23, Tryd.ntmps23
  go_wp2_with (go_at_call 37; refine (HB.out _).mono ?_; rintro e w1 ⟨rfl, h1⟩)
  go_end0
  exact ⟨rfl, h1⟩

set_option maxHeartbeats 1000000 in
set_option maxRecDepth 100000 in
theorem put_brk (h : PS B w0 own W g gs n p) {U : Nat} (hp : Bp p U) (hU : U ≤ 268435456) (need : Nat) (hnd : need ≤ 1000000) (hn : n ≤ 4096) (m : Nat) (hm : m ≤ 1000) :
    Calls Tryd.prog 23 #[.pointer (some ⟨g, 0, none⟩), .agg #[.int .u8 3, .string ⟨#[]⟩, .int .i64 m, .int .i64 0, .bool false], .int .i64 need] W fun e w' => e = .returned (.tuple #[]) ∧ PA B w0 own W g gs n (if p.brk n need then p.endl else p.hold m) w' := by
  obtain ⟨W1, hW1⟩ : ∃ W1, W.alloc (.cells #[.int .u8 3, .string ⟨#[]⟩, .int .i64 m, .int .i64 0, .bool false] 26) = W1 := ⟨_, rfl⟩
  have hbx := h.box (.cells #[.int .u8 3, .string ⟨#[]⟩, .int .i64 m, .int .i64 0, .bool false] 26)
  have hof : ∀ V, Below W1.heap.size W1 V → PS B w0 own V g gs n p ∧ Sd own own W V ∧ W.heap.size ≤ V.heap.size := by
    intro V hV
    obtain ⟨b1, b2, b3, b4, b5⟩ := hbx
    rw [hW1] at b1 b4 b5
    exact ⟨b1.below hV, b4.trans b5 (fun k hk h0 => ⟨hV.block k hk, h0⟩), Nat.le_trans b5 hV.size⟩
  have HK : Hid (Calls Tryd.prog 36 #[.pointer (some ⟨g, 0, none⟩), .int .i64 need] W1 fun e w' => e = .returned (.bool (p.brk n need)) ∧ Below W1.heap.size W1 w') := by
    rw [← hW1]; exact breaks_any hbx.1 hp hU need hnd hn
  have x2 : ∀ V, Below W1.heap.size W1 V → V.cell? ⟨W.heap.size, 2, none⟩ = some (.int .i64 m) := fun V hV => by
    have b2 := hbx.2.1
    rw [hW1] at b2
    exact blk_cell (blk_below b2 hV) rfl
  have HX : Hid (∀ V, Below W1.heap.size W1 V → V.cell? ⟨W.heap.size, 2, none⟩ = some (.int .i64 m)) := x2
  have HH : Hid (∀ V, Below W1.heap.size W1 V → Calls Tryd.prog 35 #[.pointer (some ⟨g, 0, none⟩), .int .i64 m] V fun e w' => e = .returned (.tuple #[]) ∧ PA B w0 own W g gs n (p.hold m) w') := fun V hV => by
    obtain ⟨a1, a2, a3⟩ := hof V hV
    refine (hold_any a1 hp hU m hm).mono ?_
    rintro e w' ⟨rfl, own', d1, d2, d3⟩
    exact ⟨rfl, own', d1, a2.trans a3 d2, Nat.le_trans a3 d3⟩
  have HE : Hid (∀ V, Below W1.heap.size W1 V → Calls Tryd.prog 37 #[.pointer (some ⟨g, 0, none⟩)] V fun e w' => e = .returned (.tuple #[]) ∧ PA B w0 own W g gs n p.endl w') := fun V hV => by
    obtain ⟨a1, a2, a3⟩ := hof V hV
    refine (endl_any a1 hp hU).mono ?_
    rintro e w' ⟨rfl, own', d1, d2, d3⟩
    exact ⟨rfl, own', d1, a2.trans a3 d2, Nat.le_trans a3 d3⟩
  have HW1 : Hid (W.alloc (.cells #[.int .u8 3, .string ⟨#[]⟩, .int .i64 m, .int .i64 0, .bool false] 26) = W1) := hW1
  clear hbx hof x2 h hp hW1
  generalize p.brk n need = b at *
  cases b
  · go_enter Tryd.func23, Tryd.ntmps23
    go_wp2_with fail
    rw [HW1.out]
    refine HK.out.mono ?_
    rintro e w1 ⟨rfl, hb1⟩
    have y2 := HX.out _ hb1
    have HB1 : Hid (Below W1.heap.size W1 w1) := hb1
    clear hb1
    go_wp2_with (first | (go_at_call 35; refine (HH.out _ HB1.out).mono ?_; rintro e w2 ⟨rfl, h2⟩))
    go_end0
    exact ⟨rfl, h2⟩
  · go_enter Tryd.func23, Tryd.ntmps23
    go_wp2_with fail
    rw [HW1.out]
    refine HK.out.mono ?_
    rintro e w1 ⟨rfl, hb1⟩
    have HB1 : Hid (Below W1.heap.size W1 w1) := hb1
    clear hb1
    go_wp2_with (first | (go_at_call 37; refine (HE.out _ HB1.out).mono ?_; rintro e w2 ⟨rfl, h2⟩))
    go_end0
    exact ⟨rfl, h2⟩

set_option maxHeartbeats 1000000 in
set_option maxRecDepth 100000 in
theorem put_empty (h : PS B w0 own W g gs n p) {U : Nat} (hp : Bp p U) (hU : U ≤ 268435456) (need : Nat) :
    Calls Tryd.prog 23 #[.pointer (some ⟨g, 0, none⟩), .agg #[.int .u8 5, .string ⟨#[]⟩, .int .i64 0, .int .i64 0, .bool false], .int .i64 need] W fun e w' => e = .returned (.tuple #[]) ∧ PA B w0 own W g gs n (if p.en then { p with sk := p.sk.empty, en := false } else p) w' := by
  obtain ⟨W1, hW1⟩ : ∃ W1, W.alloc (.cells #[.int .u8 5, .string ⟨#[]⟩, .int .i64 0, .int .i64 0, .bool false] 26) = W1 := ⟨_, rfl⟩
  obtain ⟨b1, b2, b3, b4, b5⟩ := h.box (.cells #[.int .u8 5, .string ⟨#[]⟩, .int .i64 0, .int .i64 0, .bool false] 26)
  have hlt := h.lt
  have c6 := h.c6
  have c1 := h.c1
  rw [hW1] at b1 b4 b5
  have hout := hp.out
  have HB : Hid (Calls Tryd.prog 38 #[.pointer (some ⟨gs, 0, none⟩)] W1 fun e w' => e = .returned (.int .i64 0) ∧ Hid (PA B w0 own W g gs n { p with sk := p.sk.empty } w') ∧ w'.cell? ⟨g, 6, none⟩ = some (.bool p.en) ∧ w'.frozen? ⟨g, 6, none⟩ = false) := by
    refine (empty_st b1.sk b1.en (by omega) (by omega)).mono ?_
    rintro e w' ⟨rfl, ha⟩
    obtain ⟨own', a1, a2, a3⟩ := b1.sink ha
    exact ⟨rfl, ⟨own', a1, b4.trans b5 a2, Nat.le_trans b5 a3⟩, a1.c6, a1.fz 6⟩
  have HE : Hid (PA B w0 own W g gs n p W1) := ⟨own, b1, b4, b5⟩
  have HW1 : Hid (W.alloc (.cells #[.int .u8 5, .string ⟨#[]⟩, .int .i64 0, .int .i64 0, .bool false] 26) = W1) := hW1
  clear b1 b2 b4 b5 h hp hW1
  cases he : p.en
  · rw [he] at c6
    go_enter Tryd.func23, Tryd.ntmps23
    go_wp2_with fail
    go_end0
    rw [HW1.out]
    exact ⟨rfl, HE.out⟩
  · rw [he] at c6
    go_enter Tryd.func23, Tryd.ntmps23
    go_wp2_with fail
    rw [HW1.out]
    refine HB.out.mono ?_
    rintro e w1 ⟨rfl, HP, y6, f6⟩
    go_wp2_with fail
    go_end0
    obtain ⟨own', a1, a2, a3⟩ := HP.out
    have a4 := a1.sett false
    exact ⟨rfl, own', a4.1, a2.trans a3 a4.2, Nat.le_trans a3 (Kp.set _ g 6 (.bool false)).size⟩
end
end Go.Proofs.YtcokccfbeonlnaaDoor
