import Derived.Test.YtmjhfabdbajchaaGreatDoorHb1
set_option linter.unusedVariables false
set_option linter.unusedSimpArgs false
namespace Go.Proofs.YtmjhfabdbajchaaGreatDoor
open Go.RowKit

theorem T9.box {own : Nat → Nat} {W V : World} {g N : Nat} {c : CS} (h : T9 own W V g N c) {k : Nat} {o : Obj} (hk : W.heap[k]? = some o) (h0 : own k = 0) : V.heap[k]? = some o := by
  obtain ⟨o', gs, qh, qw, v, csh, csw, k1, k2⟩ := h
  exact (k2.blk k (blk_lt hk) h0).1.trans hk
theorem T9.newp {own : Nat → Nat} {W V W' : World} {g N : Nat} {c : CS} (h : T9 own W V g N c) (x : Px) (hb : Below V.heap.size V W') {nb : Nat} (hnb : V.heap.size ≤ nb) (ho : W'.heap[nb]? = some (.cells (pxc x) 123 (0, 0))) : T9 own W W' g N { c with m := upx c.m nb x } := by
  obtain ⟨o', gs, qh, qw, v, csh, csw, k1, k2⟩ := h
  obtain ⟨o2, q1, q2, _⟩ := k1.newp x hb hnb ho
  exact ⟨o2, gs, qh, qw, v, csh, csw, q1, k2.trans q2⟩
theorem T9.tab {own : Nat → Nat} {W V : World} {g N : Nat} {c : CS} (h : T9 own W V g N c) : Tab V := by
  obtain ⟨o', gs, qh, qw, v, csh, csw, k1, k2⟩ := h
  exact k1.en.tab
theorem T9.size {own : Nat → Nat} {W V : World} {g N : Nat} {c : CS} (h : T9 own W V g N c) : W.heap.size ≤ V.heap.size := by
  obtain ⟨o', gs, qh, qw, v, csh, csw, k1, k2⟩ := h
  exact k2.size
def dvc (d : Dc) : Array Value := #[.int .u8 d.k, .string d.t, .int .i64 d.b, .int .i64 d.i, .bool d.e]
theorem dv_cells {w : World} {q : Nat} {dk : Int} {dt : ByteArray} {db di : Int} {de : Bool} (h : w.heap[q]? = some (.cells #[.int .u8 dk, .string dt, .int .i64 db, .int .i64 di, .bool de] 37 (0, 0))) : w.cell? ⟨q, 0, none⟩ = some (.int .u8 dk) ∧ w.cell? ⟨q, 1, none⟩ = some (.string dt) ∧ w.cell? ⟨q, 2, none⟩ = some (.int .i64 db) ∧ w.cell? ⟨q, 3, none⟩ = some (.int .i64 di) ∧ w.cell? ⟨q, 4, none⟩ = some (.bool de) := ⟨blk_cell h rfl, blk_cell h rfl, blk_cell h rfl, blk_cell h rfl, blk_cell h rfl⟩
theorem wr_add (t : Int) (n : Nat) : wr (t + (n : Nat)) = wrap64 (t + (n : Nat)) := IntWalk.i64_left _

set_option maxHeartbeats 4000000 in
set_option maxRecDepth 100000 in
theorem take_beg {own : Nat → Nat} {W : World} {g N : Nat} {c : CS} (h : T9 own W W g N c) (dt : ByteArray) (db di : Int) (de : Bool) (hrt : rt ⟨6, dt, db, di, de⟩ = true) (hopb : c.op ≤ 1000000000) (rl : List Nat) (hrl : c.wl = rl.reverse) (hm : ∀ b ∈ rl, ∃ x, c.m b = some x ∧ (x.d.k = 6 ∨ x.d.k = 3)) (hlen : rl.length ≤ 900000000) (hlh : c.hl.length ≤ 900000000) (hset : (settk c.tot 6 c.m rl).2.length ≤ rl.length) :
    Calls Tryz.prog 33 #[.pointer (some ⟨g, 0, none⟩), .agg #[.int .u8 6, .string dt, .int .i64 db, .int .i64 di, .bool de]] W fun e w' => e = .returned (.tuple #[]) ∧ ∃ nb, W.heap.size ≤ nb ∧ T9 own W w' g N { op := c.op + 1, tot := wr (c.tot + (pw ⟨6, dt, db, di, de⟩ : Nat)), hl := c.hl ++ [nb], wl := (nb :: (settk c.tot 6 c.m rl).2).reverse, m := upx (settk c.tot 6 c.m rl).1 nb ⟨⟨6, dt, db, di, de⟩, c.tot, false, 0⟩, pr := c.pr } := by
  obtain ⟨o, gs, qh, qw, v, csh, csw, k1, k2⟩ := h
  obtain ⟨W1, hW1⟩ : ∃ W1, W.alloc (.cells #[.int .u8 6, .string dt, .int .i64 db, .int .i64 di, .bool de] 37) = W1 := ⟨_, rfl⟩
  have hb1 : Below W.heap.size W W1 := by rw [← hW1]; exact (Below.refl _ _).alloc (Nat.le_refl _) _
  have hx1 : W1.heap[W.heap.size]? = some (.cells #[.int .u8 6, .string dt, .int .i64 db, .int .i64 di, .bool de] 37 (0, 0)) := by rw [← hW1]; exact new_at _ _
  have ho0 : o W.heap.size = 0 := k1.en.nf _ (Nat.le_refl _)
  have H1 : T9 o W1 W1 g N c := (k1.below hb1).t9
  have c1 : (W.alloc (.cells #[.int .u8 6, .string dt, .int .i64 db, .int .i64 di, .bool de] 37)).cell? ⟨g, 1, none⟩ = some (.int .i64 (c.op : Nat)) := by rw [hW1]; exact H1.cc.2.1
  have f1 : (W.alloc (.cells #[.int .u8 6, .string dt, .int .i64 db, .int .i64 di, .bool de] 37)).frozen? ⟨g, 1, none⟩ = false := by rw [hW1]; exact H1.cc.2.2.2.2.2.1 1
  have glt := H1.cc.2.2.2.2.2.2
  have gne : g ≠ W.heap.size := by have := k1.lt; omega
  have gne2 : W.heap.size ≠ g := Ne.symm gne
  have w6 : IntKind.i64.wrap ((c.op : Int) + 1) = ((c.op + 1 : Nat) : Int) := by rw [IntKind.wrap_i64]; omega
  have HOP : Hid (T9 o W1 (W1.setCell ⟨g, 1, none⟩ (.int .i64 ((c.op : Int) + 1))) g N { c with op := c.op + 1 }) := by
    have := open_t H1 (c.op + 1)
    rw [show (((c.op + 1 : Nat)) : Int) = (c.op : Int) + 1 by omega] at this
    exact this
  have HSE : Hid (∀ V, T9 o W1 V g N { c with op := c.op + 1 } → Calls Tryz.prog 36 #[.pointer (some ⟨g, 0, none⟩), .int .u8 6] V fun x w' => x = .returned (.tuple #[]) ∧ Hid (T9 o W1 w' g N { c with op := c.op + 1, m := (settk c.tot 6 c.m rl).1, wl := (settk c.tot 6 c.m rl).2.reverse }) ∧ w'.heap[W.heap.size]? = some (.cells #[.int .u8 6, .string dt, .int .i64 db, .int .i64 di, .bool de] 37 (0, 0)) ∧ w'.cell? ⟨g, 2, none⟩ = some (.int .i64 c.tot)) := fun V hV => by
    refine (settle_t rl hV hrl hm (by omega) 6 (by omega)).mono ?_
    rintro x w' ⟨rfl, hw⟩
    exact ⟨rfl, hw, hw.box hx1 ho0, hw.cc.2.2.1⟩
  have HNP : Hid (∀ V W', T9 o W1 V g N { c with op := c.op + 1, m := (settk c.tot 6 c.m rl).1, wl := (settk c.tot 6 c.m rl).2.reverse } → Below V.heap.size V W' → W'.heap[V.heap.size]? = some (.cells #[.int .u8 6, .string dt, .int .i64 db, .int .i64 di, .bool de, .int .i64 c.tot, .bool false, .int .i64 0] 123 (0, 0)) → T9 o W1 W' g N { c with op := c.op + 1, m := upx (settk c.tot 6 c.m rl).1 V.heap.size ⟨⟨6, dt, db, di, de⟩, c.tot, false, 0⟩, wl := (settk c.tot 6 c.m rl).2.reverse }) := fun V W' hV hb hw => hV.newp ⟨⟨6, dt, db, di, de⟩, c.tot, false, 0⟩ hb (Nat.le_refl _) hw
  have HCO : Hid (∀ (V : World) (m : Pm), T9 o W1 V g N { c with op := c.op + 1, m := m, wl := (settk c.tot 6 c.m rl).2.reverse } → Calls Tryz.prog 58 #[.agg #[.int .u8 6, .string dt, .int .i64 db, .int .i64 di, .bool de]] V fun e w' => e = .returned (.int .i64 ((pw ⟨6, dt, db, di, de⟩ : Nat) : Int)) ∧ Hid (T9 o W1 w' g N { c with op := c.op + 1, m := m, wl := (settk c.tot 6 c.m rl).2.reverse }) ∧ w'.heap[W.heap.size]? = some (.cells #[.int .u8 6, .string dt, .int .i64 db, .int .i64 di, .bool de] 37 (0, 0)) ∧ w'.cell? ⟨g, 2, none⟩ = some (.int .i64 c.tot) ∧ w'.frozen? ⟨g, 2, none⟩ = false ∧ g < w'.heap.size) := fun V m hV => by
    refine (scolumns_any ⟨6, dt, db, di, de⟩ hrt V hV.tab).mono ?_
    rintro e w' ⟨rfl, hb⟩
    have hw := hV.below hb
    exact ⟨rfl, hw, hw.box hx1 ho0, hw.cc.2.2.1, hw.cc.2.2.2.2.2.1 2, hw.cc.2.2.2.2.2.2⟩
  have HTO : Hid (∀ (V : World) (m : Pm) (n : Int), T9 o W1 V g N { c with op := c.op + 1, m := m, wl := (settk c.tot 6 c.m rl).2.reverse } → T9 o W1 (V.setCell ⟨g, 2, none⟩ (.int .i64 n)) g N { c with op := c.op + 1, tot := n, m := m, wl := (settk c.tot 6 c.m rl).2.reverse } ∧ (V.setCell ⟨g, 2, none⟩ (.int .i64 n)).heap[W.heap.size]? = some (.cells #[.int .u8 6, .string dt, .int .i64 db, .int .i64 di, .bool de] 37 (0, 0))) := fun V m n hV => by
    have := total_t hV n
    exact ⟨this, this.box hx1 ho0⟩
  have HPH : Hid (∀ (V : World) (m : Pm) (n : Int) (b : Nat), T9 o W1 V g N { c with op := c.op + 1, tot := n, m := m, wl := (settk c.tot 6 c.m rl).2.reverse } → Calls Tryz.prog 59 #[.pointer (some ⟨g, 3, none⟩), .pointer (some ⟨b, 0, none⟩)] V fun e w' => e = .returned (.tuple #[]) ∧ Hid (T9 o W1 w' g N { c with op := c.op + 1, tot := n, hl := c.hl ++ [b], m := m, wl := (settk c.tot 6 c.m rl).2.reverse }) ∧ w'.heap[W.heap.size]? = some (.cells #[.int .u8 6, .string dt, .int .i64 db, .int .i64 di, .bool de] 37 (0, 0))) := fun V m n b hV => by
    refine (pushH_t hV b (by show c.hl.length ≤ _; omega)).mono ?_
    rintro x w' ⟨rfl, hw⟩
    exact ⟨rfl, hw, hw.box hx1 ho0⟩
  have HPW : Hid (∀ (V : World) (m : Pm) (n : Int) (hl : List Nat) (b : Nat), T9 o W1 V g N { c with op := c.op + 1, tot := n, hl := hl, m := m, wl := (settk c.tot 6 c.m rl).2.reverse } → Calls Tryz.prog 59 #[.pointer (some ⟨g, 5, none⟩), .pointer (some ⟨b, 0, none⟩)] V fun e w' => e = .returned (.tuple #[]) ∧ T9 o W1 w' g N { c with op := c.op + 1, tot := n, hl := hl, m := m, wl := (b :: (settk c.tot 6 c.m rl).2).reverse }) := fun V m n hl b hV => by
    have := pushW_t hV b (by show (settk c.tot 6 c.m rl).2.reverse.length ≤ _; rw [List.length_reverse]; omega)
    rw [List.reverse_cons]
    exact this
  have HFIN : Hid (∀ (V : World) (cc : CS), T9 o W1 V g N cc → T9 own W V g N cc) := fun V cc hV => hV.step (k2.trans (Fz.of_below hb1))
  have HSZ : Hid (∀ V cc, T9 o W1 V g N cc → W.heap.size ≤ V.heap.size) := fun V cc hV => Nat.le_trans hb1.size hV.size
  have HW1 : Hid (W.alloc (.cells #[.int .u8 6, .string dt, .int .i64 db, .int .i64 di, .bool de] 37) = W1) := hW1
  obtain ⟨x10, x11, x12, x13, x14⟩ := dv_cells hx1
  have HLK : Hid (∀ V, Calls Tryz.prog 60 #[.int .u8 6] V fun e w' => e = .returned (.bool true) ∧ w' = V) := fun V => by
    have := looks_any 6 V
    rw [show decide ((6 : Int) = 6 ∨ (6 : Int) = 3) = true from rfl] at this
    exact this
  have HDV : Hid (∀ V : World, V.heap[W.heap.size]? = some (.cells #[.int .u8 6, .string dt, .int .i64 db, .int .i64 di, .bool de] 37 (0, 0)) → V.cell? ⟨W.heap.size, 0, none⟩ = some (.int .u8 6) ∧ V.cell? ⟨W.heap.size, 1, none⟩ = some (.string dt) ∧ V.cell? ⟨W.heap.size, 2, none⟩ = some (.int .i64 db) ∧ V.cell? ⟨W.heap.size, 3, none⟩ = some (.int .i64 di) ∧ V.cell? ⟨W.heap.size, 4, none⟩ = some (.bool de)) := fun V hV => dv_cells hV
  clear hW1 H1 k1 k2 hrl hm hx1 hb1 hset
  generalize hP : pw ⟨6, dt, db, di, de⟩ = P at *
  go_enter Tryz.func33, Tryz.ntmps33
  go_wp2_with fail
  rw [HW1.out]
  refine (HSE.out _ HOP.out).mono ?_
  rintro e w2 ⟨rfl, H2, b2, t2⟩
  have HB2 := hide9 b2
  obtain ⟨y0, y1, y2, y3, y4⟩ := HDV.out _ b2
  clear x10 x11 x12 x13 x14 c1 f1 HOP b2
  go_wp2_with fail
  go_region
  all_goals (
    obtain ⟨W3, hW3⟩ : ∃ W3, W3 = (w2.alloc (.cells #[.int .u8 6, .string dt, .int .i64 db, .int .i64 di, .bool de, .int .i64 c.tot, .bool false, .int .i64 0] 123)).drew := ⟨_, rfl⟩
    have H3 : Hid (T9 o W1 W3 g N { c with op := c.op + 1, m := upx (settk c.tot 6 c.m rl).1 w2.heap.size ⟨⟨6, dt, db, di, de⟩, c.tot, false, 0⟩, wl := (settk c.tot 6 c.m rl).2.reverse } ∧ W.heap.size ≤ w2.heap.size) := by
      rw [hW3]
      exact ⟨HNP.out _ _ H2.out ((Below.refl _ _).alloc (Nat.le_refl _) _).drew (new_at _ _), HSZ.out _ _ H2.out⟩
    have t3 : W3.cell? ⟨g, 2, none⟩ = some (.int .i64 c.tot) := H3.out.1.cc.2.2.1
    have f3 : W3.frozen? ⟨g, 2, none⟩ = false := H3.out.1.cc.2.2.2.2.2.1 2
    have g3 : g < W3.heap.size := H3.out.1.cc.2.2.2.2.2.2
    have b3 : W3.heap[W.heap.size]? = some (.cells #[.int .u8 6, .string dt, .int .i64 db, .int .i64 di, .bool de] 37 (0, 0)) := by
      rw [hW3]
      exact (((Below.refl w2.heap.size w2).alloc (Nat.le_refl _) _).drew.block _ (blk_lt HB2.out)).trans HB2.out
    rw [← hW3]
    clear hW3 H2 t2 y0 y1 y2 y3 y4
    obtain ⟨y0, y1, y2, y3, y4⟩ := HDV.out _ b3
    obtain ⟨nb, hnb⟩ : ∃ nb, w2.heap.size = nb := ⟨_, rfl⟩
    rw [hnb] at H3 ⊢
    clear hnb HB2 b3
    go_wp2_with fail
    go_region_with (first | (go_at_call 58; refine (HCO.out _ _ (by first | exact H3.out.1.below (Below.refl _ _).drew | exact H3.out.1)).mono ?_; rintro e w4 ⟨rfl, H4, b4, t4, f4, g4⟩))
    all_goals (
      obtain ⟨W5, hW5⟩ : ∃ W5, W5 = w4.setCell ⟨g, 2, none⟩ (.int .i64 (IntKind.i64.wrap (c.tot + (P : Nat)))) := ⟨_, rfl⟩
      have H5 : Hid (T9 o W1 W5 g N { c with op := c.op + 1, tot := IntKind.i64.wrap (c.tot + (P : Nat)), m := upx (settk c.tot 6 c.m rl).1 nb ⟨⟨6, dt, db, di, de⟩, c.tot, false, 0⟩, wl := (settk c.tot 6 c.m rl).2.reverse }) := by
        rw [hW5]; exact (HTO.out _ _ _ H4.out).1
      have b5 : W5.heap[W.heap.size]? = some (.cells #[.int .u8 6, .string dt, .int .i64 db, .int .i64 di, .bool de] 37 (0, 0)) := by
        rw [hW5]; exact (HTO.out _ _ _ H4.out).2
      rw [← hW5]
      clear hW5 H4 b4 t4 f4 g4 t3 f3 g3 y0 y1 y2 y3 y4
      obtain ⟨y0, y1, y2, y3, y4⟩ := HDV.out _ b5
      clear b5
      go_wp2_with fail
      refine (HPH.out _ _ _ nb H5.out).mono ?_
      rintro e w6 ⟨rfl, H6, b6⟩
      clear y0 y1 y2 y3 y4
      obtain ⟨y0, y1, y2, y3, y4⟩ := HDV.out _ b6
      clear b6
      go_wp2_with fail
      refine (HLK.out _).mono ?_
      rintro e w7 ⟨rfl, rfl⟩
      go_wp2_with fail
      refine (HPW.out _ _ _ _ nb H6.out).mono ?_
      rintro e w8 ⟨rfl, h8⟩
      have H8 := hide9 h8
      clear h8
      go_wp2_with fail
      go_end0
      refine ⟨rfl, nb, H3.out.2, ?_⟩
      exact HFIN.out _ _ H8.out))

set_option maxHeartbeats 4000000 in
set_option maxRecDepth 100000 in
theorem take_end {own : Nat → Nat} {W : World} {g N : Nat} {c : CS} (h : T9 own W W g N c) (dt : ByteArray) (db di : Int) (de : Bool) (hrt : rt ⟨7, dt, db, di, de⟩ = true) (hop : 0 < c.op) (hopb : c.op ≤ 1000000000) (rl : List Nat) (hrl : c.wl = rl.reverse) (hm : ∀ b ∈ rl, ∃ x, c.m b = some x ∧ (x.d.k = 6 ∨ x.d.k = 3)) (hlen : rl.length ≤ 900000000) (hlh : c.hl.length ≤ 900000000) (hset : (settk c.tot 7 c.m rl).2.length ≤ rl.length) :
    Calls Tryz.prog 33 #[.pointer (some ⟨g, 0, none⟩), .agg #[.int .u8 7, .string dt, .int .i64 db, .int .i64 di, .bool de]] W fun e w' => e = .returned (.tuple #[]) ∧ ∃ nb, W.heap.size ≤ nb ∧ T9 own W w' g N { op := c.op - 1, tot := wr (c.tot + (pw ⟨7, dt, db, di, de⟩ : Nat)), hl := c.hl ++ [nb], wl := (settk c.tot 7 c.m rl).2.reverse, m := upx (settk c.tot 7 c.m rl).1 nb ⟨⟨7, dt, db, di, de⟩, c.tot, false, 0⟩, pr := c.pr } := by
  obtain ⟨o, gs, qh, qw, v, csh, csw, k1, k2⟩ := h
  obtain ⟨W1, hW1⟩ : ∃ W1, W.alloc (.cells #[.int .u8 7, .string dt, .int .i64 db, .int .i64 di, .bool de] 37) = W1 := ⟨_, rfl⟩
  have hb1 : Below W.heap.size W W1 := by rw [← hW1]; exact (Below.refl _ _).alloc (Nat.le_refl _) _
  have hx1 : W1.heap[W.heap.size]? = some (.cells #[.int .u8 7, .string dt, .int .i64 db, .int .i64 di, .bool de] 37 (0, 0)) := by rw [← hW1]; exact new_at _ _
  have ho0 : o W.heap.size = 0 := k1.en.nf _ (Nat.le_refl _)
  have H1 : T9 o W1 W1 g N c := (k1.below hb1).t9
  have c1 : (W.alloc (.cells #[.int .u8 7, .string dt, .int .i64 db, .int .i64 di, .bool de] 37)).cell? ⟨g, 1, none⟩ = some (.int .i64 (c.op : Nat)) := by rw [hW1]; exact H1.cc.2.1
  have f1 : (W.alloc (.cells #[.int .u8 7, .string dt, .int .i64 db, .int .i64 di, .bool de] 37)).frozen? ⟨g, 1, none⟩ = false := by rw [hW1]; exact H1.cc.2.2.2.2.2.1 1
  have glt := H1.cc.2.2.2.2.2.2
  have gne : g ≠ W.heap.size := by have := k1.lt; omega
  have gne2 : W.heap.size ≠ g := Ne.symm gne
  have w7 : IntKind.i64.wrap ((c.op : Int) - 1) = ((c.op - 1 : Nat) : Int) := by rw [IntKind.wrap_i64]; omega
  have HOP : Hid (T9 o W1 (W1.setCell ⟨g, 1, none⟩ (.int .i64 ((c.op - 1 : Nat) : Int))) g N { c with op := c.op - 1 }) := open_t H1 (c.op - 1)
  have HSE : Hid (∀ V, T9 o W1 V g N { c with op := c.op - 1 } → Calls Tryz.prog 36 #[.pointer (some ⟨g, 0, none⟩), .int .u8 7] V fun x w' => x = .returned (.tuple #[]) ∧ Hid (T9 o W1 w' g N { c with op := c.op - 1, m := (settk c.tot 7 c.m rl).1, wl := (settk c.tot 7 c.m rl).2.reverse }) ∧ w'.heap[W.heap.size]? = some (.cells #[.int .u8 7, .string dt, .int .i64 db, .int .i64 di, .bool de] 37 (0, 0)) ∧ w'.cell? ⟨g, 2, none⟩ = some (.int .i64 c.tot)) := fun V hV => by
    refine (settle_t rl hV hrl hm (by omega) 7 (by omega)).mono ?_
    rintro x w' ⟨rfl, hw⟩
    exact ⟨rfl, hw, hw.box hx1 ho0, hw.cc.2.2.1⟩
  have HNP : Hid (∀ V W', T9 o W1 V g N { c with op := c.op - 1, m := (settk c.tot 7 c.m rl).1, wl := (settk c.tot 7 c.m rl).2.reverse } → Below V.heap.size V W' → W'.heap[V.heap.size]? = some (.cells #[.int .u8 7, .string dt, .int .i64 db, .int .i64 di, .bool de, .int .i64 c.tot, .bool false, .int .i64 0] 123 (0, 0)) → T9 o W1 W' g N { c with op := c.op - 1, m := upx (settk c.tot 7 c.m rl).1 V.heap.size ⟨⟨7, dt, db, di, de⟩, c.tot, false, 0⟩, wl := (settk c.tot 7 c.m rl).2.reverse }) := fun V W' hV hb hw => hV.newp ⟨⟨7, dt, db, di, de⟩, c.tot, false, 0⟩ hb (Nat.le_refl _) hw
  have HCO : Hid (∀ (V : World) (m : Pm), T9 o W1 V g N { c with op := c.op - 1, m := m, wl := (settk c.tot 7 c.m rl).2.reverse } → Calls Tryz.prog 58 #[.agg #[.int .u8 7, .string dt, .int .i64 db, .int .i64 di, .bool de]] V fun e w' => e = .returned (.int .i64 ((pw ⟨7, dt, db, di, de⟩ : Nat) : Int)) ∧ Hid (T9 o W1 w' g N { c with op := c.op - 1, m := m, wl := (settk c.tot 7 c.m rl).2.reverse }) ∧ w'.heap[W.heap.size]? = some (.cells #[.int .u8 7, .string dt, .int .i64 db, .int .i64 di, .bool de] 37 (0, 0)) ∧ w'.cell? ⟨g, 2, none⟩ = some (.int .i64 c.tot) ∧ w'.frozen? ⟨g, 2, none⟩ = false ∧ g < w'.heap.size) := fun V m hV => by
    refine (scolumns_any ⟨7, dt, db, di, de⟩ hrt V hV.tab).mono ?_
    rintro e w' ⟨rfl, hb⟩
    have hw := hV.below hb
    exact ⟨rfl, hw, hw.box hx1 ho0, hw.cc.2.2.1, hw.cc.2.2.2.2.2.1 2, hw.cc.2.2.2.2.2.2⟩
  have HTO : Hid (∀ (V : World) (m : Pm) (n : Int), T9 o W1 V g N { c with op := c.op - 1, m := m, wl := (settk c.tot 7 c.m rl).2.reverse } → T9 o W1 (V.setCell ⟨g, 2, none⟩ (.int .i64 n)) g N { c with op := c.op - 1, tot := n, m := m, wl := (settk c.tot 7 c.m rl).2.reverse } ∧ (V.setCell ⟨g, 2, none⟩ (.int .i64 n)).heap[W.heap.size]? = some (.cells #[.int .u8 7, .string dt, .int .i64 db, .int .i64 di, .bool de] 37 (0, 0))) := fun V m n hV => by
    have := total_t hV n
    exact ⟨this, this.box hx1 ho0⟩
  have HPH : Hid (∀ (V : World) (m : Pm) (n : Int) (b : Nat), T9 o W1 V g N { c with op := c.op - 1, tot := n, m := m, wl := (settk c.tot 7 c.m rl).2.reverse } → Calls Tryz.prog 59 #[.pointer (some ⟨g, 3, none⟩), .pointer (some ⟨b, 0, none⟩)] V fun e w' => e = .returned (.tuple #[]) ∧ Hid (T9 o W1 w' g N { c with op := c.op - 1, tot := n, hl := c.hl ++ [b], m := m, wl := (settk c.tot 7 c.m rl).2.reverse }) ∧ w'.heap[W.heap.size]? = some (.cells #[.int .u8 7, .string dt, .int .i64 db, .int .i64 di, .bool de] 37 (0, 0))) := fun V m n b hV => by
    refine (pushH_t hV b (by show c.hl.length ≤ _; omega)).mono ?_
    rintro x w' ⟨rfl, hw⟩
    exact ⟨rfl, hw, hw.box hx1 ho0⟩
  have HFIN : Hid (∀ (V : World) (cc : CS), T9 o W1 V g N cc → T9 own W V g N cc) := fun V cc hV => hV.step (k2.trans (Fz.of_below hb1))
  have HSZ : Hid (∀ V cc, T9 o W1 V g N cc → W.heap.size ≤ V.heap.size) := fun V cc hV => Nat.le_trans hb1.size hV.size
  have HW1 : Hid (W.alloc (.cells #[.int .u8 7, .string dt, .int .i64 db, .int .i64 di, .bool de] 37) = W1) := hW1
  obtain ⟨x10, x11, x12, x13, x14⟩ := dv_cells hx1
  have HLK : Hid (∀ V, Calls Tryz.prog 60 #[.int .u8 7] V fun e w' => e = .returned (.bool false) ∧ w' = V) := fun V => by
    have := looks_any 7 V
    rw [show decide ((7 : Int) = 6 ∨ (7 : Int) = 3) = false from rfl] at this
    exact this
  have HDV : Hid (∀ V : World, V.heap[W.heap.size]? = some (.cells #[.int .u8 7, .string dt, .int .i64 db, .int .i64 di, .bool de] 37 (0, 0)) → V.cell? ⟨W.heap.size, 0, none⟩ = some (.int .u8 7) ∧ V.cell? ⟨W.heap.size, 1, none⟩ = some (.string dt) ∧ V.cell? ⟨W.heap.size, 2, none⟩ = some (.int .i64 db) ∧ V.cell? ⟨W.heap.size, 3, none⟩ = some (.int .i64 di) ∧ V.cell? ⟨W.heap.size, 4, none⟩ = some (.bool de)) := fun V hV => dv_cells hV
  clear hW1 H1 k1 k2 hrl hm hx1 hb1 hset
  generalize hP : pw ⟨7, dt, db, di, de⟩ = P at *
  go_enter Tryz.func33, Tryz.ntmps33
  go_wp2_with fail
  rw [HW1.out]
  refine (HSE.out _ HOP.out).mono ?_
  rintro e w2 ⟨rfl, H2, b2, t2⟩
  have HB2 := hide9 b2
  obtain ⟨y0, y1, y2, y3, y4⟩ := HDV.out _ b2
  clear x10 x11 x12 x13 x14 c1 f1 HOP b2
  go_wp2_with fail
  go_region
  all_goals (
    obtain ⟨W3, hW3⟩ : ∃ W3, W3 = (w2.alloc (.cells #[.int .u8 7, .string dt, .int .i64 db, .int .i64 di, .bool de, .int .i64 c.tot, .bool false, .int .i64 0] 123)).drew := ⟨_, rfl⟩
    have H3 : Hid (T9 o W1 W3 g N { c with op := c.op - 1, m := upx (settk c.tot 7 c.m rl).1 w2.heap.size ⟨⟨7, dt, db, di, de⟩, c.tot, false, 0⟩, wl := (settk c.tot 7 c.m rl).2.reverse } ∧ W.heap.size ≤ w2.heap.size) := by
      rw [hW3]
      exact ⟨HNP.out _ _ H2.out ((Below.refl _ _).alloc (Nat.le_refl _) _).drew (new_at _ _), HSZ.out _ _ H2.out⟩
    have t3 : W3.cell? ⟨g, 2, none⟩ = some (.int .i64 c.tot) := H3.out.1.cc.2.2.1
    have f3 : W3.frozen? ⟨g, 2, none⟩ = false := H3.out.1.cc.2.2.2.2.2.1 2
    have g3 : g < W3.heap.size := H3.out.1.cc.2.2.2.2.2.2
    have b3 : W3.heap[W.heap.size]? = some (.cells #[.int .u8 7, .string dt, .int .i64 db, .int .i64 di, .bool de] 37 (0, 0)) := by
      rw [hW3]
      exact (((Below.refl w2.heap.size w2).alloc (Nat.le_refl _) _).drew.block _ (blk_lt HB2.out)).trans HB2.out
    rw [← hW3]
    clear hW3 H2 t2 y0 y1 y2 y3 y4
    obtain ⟨y0, y1, y2, y3, y4⟩ := HDV.out _ b3
    obtain ⟨nb, hnb⟩ : ∃ nb, w2.heap.size = nb := ⟨_, rfl⟩
    rw [hnb] at H3 ⊢
    clear hnb HB2 b3
    go_wp2_with fail
    go_region_with (first | (go_at_call 58; refine (HCO.out _ _ (by first | exact H3.out.1.below (Below.refl _ _).drew | exact H3.out.1)).mono ?_; rintro e w4 ⟨rfl, H4, b4, t4, f4, g4⟩))
    all_goals (
      obtain ⟨W5, hW5⟩ : ∃ W5, W5 = w4.setCell ⟨g, 2, none⟩ (.int .i64 (IntKind.i64.wrap (c.tot + (P : Nat)))) := ⟨_, rfl⟩
      have H5 : Hid (T9 o W1 W5 g N { c with op := c.op - 1, tot := IntKind.i64.wrap (c.tot + (P : Nat)), m := upx (settk c.tot 7 c.m rl).1 nb ⟨⟨7, dt, db, di, de⟩, c.tot, false, 0⟩, wl := (settk c.tot 7 c.m rl).2.reverse }) := by
        rw [hW5]; exact (HTO.out _ _ _ H4.out).1
      have b5 : W5.heap[W.heap.size]? = some (.cells #[.int .u8 7, .string dt, .int .i64 db, .int .i64 di, .bool de] 37 (0, 0)) := by
        rw [hW5]; exact (HTO.out _ _ _ H4.out).2
      rw [← hW5]
      clear hW5 H4 b4 t4 f4 g4 t3 f3 g3 y0 y1 y2 y3 y4
      obtain ⟨y0, y1, y2, y3, y4⟩ := HDV.out _ b5
      clear b5
      go_wp2_with fail
      refine (HPH.out _ _ _ nb H5.out).mono ?_
      rintro e w6 ⟨rfl, H6, b6⟩
      clear y0 y1 y2 y3 y4
      obtain ⟨y0, y1, y2, y3, y4⟩ := HDV.out _ b6
      clear b6
      go_wp2_with fail
      refine (HLK.out _).mono ?_
      rintro e w7 ⟨rfl, rfl⟩
      go_wp2_with fail
      go_end0
      refine ⟨rfl, nb, H3.out.2, ?_⟩
      exact HFIN.out _ _ H6.out))

set_option maxHeartbeats 4000000 in
set_option maxRecDepth 100000 in
theorem take_brk {own : Nat → Nat} {W : World} {g N : Nat} {c : CS} (h : T9 own W W g N c) (dt : ByteArray) (db di : Int) (de : Bool) (hrt : rt ⟨3, dt, db, di, de⟩ = true) (hopb : c.op ≤ 1000000000) (rl : List Nat) (hrl : c.wl = rl.reverse) (hm : ∀ b ∈ rl, ∃ x, c.m b = some x ∧ (x.d.k = 6 ∨ x.d.k = 3)) (hlen : rl.length ≤ 900000000) (hlh : c.hl.length ≤ 900000000) (hset : (settk c.tot 3 c.m rl).2.length ≤ rl.length) :
    Calls Tryz.prog 33 #[.pointer (some ⟨g, 0, none⟩), .agg #[.int .u8 3, .string dt, .int .i64 db, .int .i64 di, .bool de]] W fun e w' => e = .returned (.tuple #[]) ∧ ∃ nb, W.heap.size ≤ nb ∧ T9 own W w' g N { op := c.op, tot := wr (c.tot + (pw ⟨3, dt, db, di, de⟩ : Nat)), hl := c.hl ++ [nb], wl := (nb :: (settk c.tot 3 c.m rl).2).reverse, m := upx (settk c.tot 3 c.m rl).1 nb ⟨⟨3, dt, db, di, de⟩, c.tot, false, 0⟩, pr := c.pr } := by
  obtain ⟨o, gs, qh, qw, v, csh, csw, k1, k2⟩ := h
  obtain ⟨W1, hW1⟩ : ∃ W1, W.alloc (.cells #[.int .u8 3, .string dt, .int .i64 db, .int .i64 di, .bool de] 37) = W1 := ⟨_, rfl⟩
  have hb1 : Below W.heap.size W W1 := by rw [← hW1]; exact (Below.refl _ _).alloc (Nat.le_refl _) _
  have hx1 : W1.heap[W.heap.size]? = some (.cells #[.int .u8 3, .string dt, .int .i64 db, .int .i64 di, .bool de] 37 (0, 0)) := by rw [← hW1]; exact new_at _ _
  have ho0 : o W.heap.size = 0 := k1.en.nf _ (Nat.le_refl _)
  have H1 : T9 o W1 W1 g N c := (k1.below hb1).t9
  have c1 : (W.alloc (.cells #[.int .u8 3, .string dt, .int .i64 db, .int .i64 di, .bool de] 37)).cell? ⟨g, 1, none⟩ = some (.int .i64 (c.op : Nat)) := by rw [hW1]; exact H1.cc.2.1
  have f1 : (W.alloc (.cells #[.int .u8 3, .string dt, .int .i64 db, .int .i64 di, .bool de] 37)).frozen? ⟨g, 1, none⟩ = false := by rw [hW1]; exact H1.cc.2.2.2.2.2.1 1
  have glt := H1.cc.2.2.2.2.2.2
  have gne : g ≠ W.heap.size := by have := k1.lt; omega
  have gne2 : W.heap.size ≠ g := Ne.symm gne
  have HOP : Hid (T9 o W1 W1 g N { c with op := c.op }) := H1
  have HSE : Hid (∀ V, T9 o W1 V g N { c with op := c.op } → Calls Tryz.prog 36 #[.pointer (some ⟨g, 0, none⟩), .int .u8 3] V fun x w' => x = .returned (.tuple #[]) ∧ Hid (T9 o W1 w' g N { c with op := c.op, m := (settk c.tot 3 c.m rl).1, wl := (settk c.tot 3 c.m rl).2.reverse }) ∧ w'.heap[W.heap.size]? = some (.cells #[.int .u8 3, .string dt, .int .i64 db, .int .i64 di, .bool de] 37 (0, 0)) ∧ w'.cell? ⟨g, 2, none⟩ = some (.int .i64 c.tot)) := fun V hV => by
    refine (settle_t rl hV hrl hm (by omega) 3 (by omega)).mono ?_
    rintro x w' ⟨rfl, hw⟩
    exact ⟨rfl, hw, hw.box hx1 ho0, hw.cc.2.2.1⟩
  have HNP : Hid (∀ V W', T9 o W1 V g N { c with op := c.op, m := (settk c.tot 3 c.m rl).1, wl := (settk c.tot 3 c.m rl).2.reverse } → Below V.heap.size V W' → W'.heap[V.heap.size]? = some (.cells #[.int .u8 3, .string dt, .int .i64 db, .int .i64 di, .bool de, .int .i64 c.tot, .bool false, .int .i64 0] 123 (0, 0)) → T9 o W1 W' g N { c with op := c.op, m := upx (settk c.tot 3 c.m rl).1 V.heap.size ⟨⟨3, dt, db, di, de⟩, c.tot, false, 0⟩, wl := (settk c.tot 3 c.m rl).2.reverse }) := fun V W' hV hb hw => hV.newp ⟨⟨3, dt, db, di, de⟩, c.tot, false, 0⟩ hb (Nat.le_refl _) hw
  have HCO : Hid (∀ (V : World) (m : Pm), T9 o W1 V g N { c with op := c.op, m := m, wl := (settk c.tot 3 c.m rl).2.reverse } → Calls Tryz.prog 58 #[.agg #[.int .u8 3, .string dt, .int .i64 db, .int .i64 di, .bool de]] V fun e w' => e = .returned (.int .i64 ((pw ⟨3, dt, db, di, de⟩ : Nat) : Int)) ∧ Hid (T9 o W1 w' g N { c with op := c.op, m := m, wl := (settk c.tot 3 c.m rl).2.reverse }) ∧ w'.heap[W.heap.size]? = some (.cells #[.int .u8 3, .string dt, .int .i64 db, .int .i64 di, .bool de] 37 (0, 0)) ∧ w'.cell? ⟨g, 2, none⟩ = some (.int .i64 c.tot) ∧ w'.frozen? ⟨g, 2, none⟩ = false ∧ g < w'.heap.size) := fun V m hV => by
    refine (scolumns_any ⟨3, dt, db, di, de⟩ hrt V hV.tab).mono ?_
    rintro e w' ⟨rfl, hb⟩
    have hw := hV.below hb
    exact ⟨rfl, hw, hw.box hx1 ho0, hw.cc.2.2.1, hw.cc.2.2.2.2.2.1 2, hw.cc.2.2.2.2.2.2⟩
  have HTO : Hid (∀ (V : World) (m : Pm) (n : Int), T9 o W1 V g N { c with op := c.op, m := m, wl := (settk c.tot 3 c.m rl).2.reverse } → T9 o W1 (V.setCell ⟨g, 2, none⟩ (.int .i64 n)) g N { c with op := c.op, tot := n, m := m, wl := (settk c.tot 3 c.m rl).2.reverse } ∧ (V.setCell ⟨g, 2, none⟩ (.int .i64 n)).heap[W.heap.size]? = some (.cells #[.int .u8 3, .string dt, .int .i64 db, .int .i64 di, .bool de] 37 (0, 0))) := fun V m n hV => by
    have := total_t hV n
    exact ⟨this, this.box hx1 ho0⟩
  have HPH : Hid (∀ (V : World) (m : Pm) (n : Int) (b : Nat), T9 o W1 V g N { c with op := c.op, tot := n, m := m, wl := (settk c.tot 3 c.m rl).2.reverse } → Calls Tryz.prog 59 #[.pointer (some ⟨g, 3, none⟩), .pointer (some ⟨b, 0, none⟩)] V fun e w' => e = .returned (.tuple #[]) ∧ Hid (T9 o W1 w' g N { c with op := c.op, tot := n, hl := c.hl ++ [b], m := m, wl := (settk c.tot 3 c.m rl).2.reverse }) ∧ w'.heap[W.heap.size]? = some (.cells #[.int .u8 3, .string dt, .int .i64 db, .int .i64 di, .bool de] 37 (0, 0))) := fun V m n b hV => by
    refine (pushH_t hV b (by show c.hl.length ≤ _; omega)).mono ?_
    rintro x w' ⟨rfl, hw⟩
    exact ⟨rfl, hw, hw.box hx1 ho0⟩
  have HPW : Hid (∀ (V : World) (m : Pm) (n : Int) (hl : List Nat) (b : Nat), T9 o W1 V g N { c with op := c.op, tot := n, hl := hl, m := m, wl := (settk c.tot 3 c.m rl).2.reverse } → Calls Tryz.prog 59 #[.pointer (some ⟨g, 5, none⟩), .pointer (some ⟨b, 0, none⟩)] V fun e w' => e = .returned (.tuple #[]) ∧ T9 o W1 w' g N { c with op := c.op, tot := n, hl := hl, m := m, wl := (b :: (settk c.tot 3 c.m rl).2).reverse }) := fun V m n hl b hV => by
    have := pushW_t hV b (by show (settk c.tot 3 c.m rl).2.reverse.length ≤ _; rw [List.length_reverse]; omega)
    rw [List.reverse_cons]
    exact this
  have HFIN : Hid (∀ (V : World) (cc : CS), T9 o W1 V g N cc → T9 own W V g N cc) := fun V cc hV => hV.step (k2.trans (Fz.of_below hb1))
  have HSZ : Hid (∀ V cc, T9 o W1 V g N cc → W.heap.size ≤ V.heap.size) := fun V cc hV => Nat.le_trans hb1.size hV.size
  have HW1 : Hid (W.alloc (.cells #[.int .u8 3, .string dt, .int .i64 db, .int .i64 di, .bool de] 37) = W1) := hW1
  obtain ⟨x10, x11, x12, x13, x14⟩ := dv_cells hx1
  have HLK : Hid (∀ V, Calls Tryz.prog 60 #[.int .u8 3] V fun e w' => e = .returned (.bool true) ∧ w' = V) := fun V => by
    have := looks_any 3 V
    rw [show decide ((3 : Int) = 6 ∨ (3 : Int) = 3) = true from rfl] at this
    exact this
  have HDV : Hid (∀ V : World, V.heap[W.heap.size]? = some (.cells #[.int .u8 3, .string dt, .int .i64 db, .int .i64 di, .bool de] 37 (0, 0)) → V.cell? ⟨W.heap.size, 0, none⟩ = some (.int .u8 3) ∧ V.cell? ⟨W.heap.size, 1, none⟩ = some (.string dt) ∧ V.cell? ⟨W.heap.size, 2, none⟩ = some (.int .i64 db) ∧ V.cell? ⟨W.heap.size, 3, none⟩ = some (.int .i64 di) ∧ V.cell? ⟨W.heap.size, 4, none⟩ = some (.bool de)) := fun V hV => dv_cells hV
  clear hW1 H1 k1 k2 hrl hm hx1 hb1 hset
  generalize hP : pw ⟨3, dt, db, di, de⟩ = P at *
  go_enter Tryz.func33, Tryz.ntmps33
  go_wp2_with fail
  rw [HW1.out]
  refine (HSE.out _ HOP.out).mono ?_
  rintro e w2 ⟨rfl, H2, b2, t2⟩
  have HB2 := hide9 b2
  obtain ⟨y0, y1, y2, y3, y4⟩ := HDV.out _ b2
  clear x10 x11 x12 x13 x14 c1 f1 HOP b2
  go_wp2_with fail
  go_region
  all_goals (
    obtain ⟨W3, hW3⟩ : ∃ W3, W3 = (w2.alloc (.cells #[.int .u8 3, .string dt, .int .i64 db, .int .i64 di, .bool de, .int .i64 c.tot, .bool false, .int .i64 0] 123)).drew := ⟨_, rfl⟩
    have H3 : Hid (T9 o W1 W3 g N { c with op := c.op, m := upx (settk c.tot 3 c.m rl).1 w2.heap.size ⟨⟨3, dt, db, di, de⟩, c.tot, false, 0⟩, wl := (settk c.tot 3 c.m rl).2.reverse } ∧ W.heap.size ≤ w2.heap.size) := by
      rw [hW3]
      exact ⟨HNP.out _ _ H2.out ((Below.refl _ _).alloc (Nat.le_refl _) _).drew (new_at _ _), HSZ.out _ _ H2.out⟩
    have t3 : W3.cell? ⟨g, 2, none⟩ = some (.int .i64 c.tot) := H3.out.1.cc.2.2.1
    have f3 : W3.frozen? ⟨g, 2, none⟩ = false := H3.out.1.cc.2.2.2.2.2.1 2
    have g3 : g < W3.heap.size := H3.out.1.cc.2.2.2.2.2.2
    have b3 : W3.heap[W.heap.size]? = some (.cells #[.int .u8 3, .string dt, .int .i64 db, .int .i64 di, .bool de] 37 (0, 0)) := by
      rw [hW3]
      exact (((Below.refl w2.heap.size w2).alloc (Nat.le_refl _) _).drew.block _ (blk_lt HB2.out)).trans HB2.out
    rw [← hW3]
    clear hW3 H2 t2 y0 y1 y2 y3 y4
    obtain ⟨y0, y1, y2, y3, y4⟩ := HDV.out _ b3
    obtain ⟨nb, hnb⟩ : ∃ nb, w2.heap.size = nb := ⟨_, rfl⟩
    rw [hnb] at H3 ⊢
    clear hnb HB2 b3
    go_wp2_with fail
    go_region_with (first | (go_at_call 58; refine (HCO.out _ _ (by first | exact H3.out.1.below (Below.refl _ _).drew | exact H3.out.1)).mono ?_; rintro e w4 ⟨rfl, H4, b4, t4, f4, g4⟩))
    all_goals (
      obtain ⟨W5, hW5⟩ : ∃ W5, W5 = w4.setCell ⟨g, 2, none⟩ (.int .i64 (IntKind.i64.wrap (c.tot + (P : Nat)))) := ⟨_, rfl⟩
      have H5 : Hid (T9 o W1 W5 g N { c with op := c.op, tot := IntKind.i64.wrap (c.tot + (P : Nat)), m := upx (settk c.tot 3 c.m rl).1 nb ⟨⟨3, dt, db, di, de⟩, c.tot, false, 0⟩, wl := (settk c.tot 3 c.m rl).2.reverse }) := by
        rw [hW5]; exact (HTO.out _ _ _ H4.out).1
      have b5 : W5.heap[W.heap.size]? = some (.cells #[.int .u8 3, .string dt, .int .i64 db, .int .i64 di, .bool de] 37 (0, 0)) := by
        rw [hW5]; exact (HTO.out _ _ _ H4.out).2
      rw [← hW5]
      clear hW5 H4 b4 t4 f4 g4 t3 f3 g3 y0 y1 y2 y3 y4
      obtain ⟨y0, y1, y2, y3, y4⟩ := HDV.out _ b5
      clear b5
      go_wp2_with fail
      refine (HPH.out _ _ _ nb H5.out).mono ?_
      rintro e w6 ⟨rfl, H6, b6⟩
      clear y0 y1 y2 y3 y4
      obtain ⟨y0, y1, y2, y3, y4⟩ := HDV.out _ b6
      clear b6
      go_wp2_with fail
      refine (HLK.out _).mono ?_
      rintro e w7 ⟨rfl, rfl⟩
      go_wp2_with fail
      refine (HPW.out _ _ _ _ nb H6.out).mono ?_
      rintro e w8 ⟨rfl, h8⟩
      have H8 := hide9 h8
      clear h8
      go_wp2_with fail
      go_end0
      refine ⟨rfl, nb, H3.out.2, ?_⟩
      exact HFIN.out _ _ H8.out))

set_option maxHeartbeats 4000000 in
set_option maxRecDepth 100000 in
theorem take_oth {own : Nat → Nat} {W : World} {g N : Nat} {c : CS} (h : T9 own W W g N c) (dk : Int) (hk6 : dk ≠ 6) (hk7 : dk ≠ 7) (hk3 : dk ≠ 3) (hk1 : 1 ≤ dk) (hk8 : dk ≤ 7) (dt : ByteArray) (db di : Int) (de : Bool) (hrt : rt ⟨dk, dt, db, di, de⟩ = true) (hopb : c.op ≤ 1000000000) (rl : List Nat) (hrl : c.wl = rl.reverse) (hm : ∀ b ∈ rl, ∃ x, c.m b = some x ∧ (x.d.k = 6 ∨ x.d.k = 3)) (hlen : rl.length ≤ 900000000) (hlh : c.hl.length ≤ 900000000) (hset : (settk c.tot dk c.m rl).2.length ≤ rl.length) :
    Calls Tryz.prog 33 #[.pointer (some ⟨g, 0, none⟩), .agg #[.int .u8 dk, .string dt, .int .i64 db, .int .i64 di, .bool de]] W fun e w' => e = .returned (.tuple #[]) ∧ ∃ nb, W.heap.size ≤ nb ∧ T9 own W w' g N { op := c.op, tot := wr (c.tot + (pw ⟨dk, dt, db, di, de⟩ : Nat)), hl := c.hl ++ [nb], wl := (settk c.tot dk c.m rl).2.reverse, m := upx (settk c.tot dk c.m rl).1 nb ⟨⟨dk, dt, db, di, de⟩, c.tot, false, 0⟩, pr := c.pr } := by
  obtain ⟨o, gs, qh, qw, v, csh, csw, k1, k2⟩ := h
  obtain ⟨W1, hW1⟩ : ∃ W1, W.alloc (.cells #[.int .u8 dk, .string dt, .int .i64 db, .int .i64 di, .bool de] 37) = W1 := ⟨_, rfl⟩
  have hb1 : Below W.heap.size W W1 := by rw [← hW1]; exact (Below.refl _ _).alloc (Nat.le_refl _) _
  have hx1 : W1.heap[W.heap.size]? = some (.cells #[.int .u8 dk, .string dt, .int .i64 db, .int .i64 di, .bool de] 37 (0, 0)) := by rw [← hW1]; exact new_at _ _
  have ho0 : o W.heap.size = 0 := k1.en.nf _ (Nat.le_refl _)
  have H1 : T9 o W1 W1 g N c := (k1.below hb1).t9
  have c1 : (W.alloc (.cells #[.int .u8 dk, .string dt, .int .i64 db, .int .i64 di, .bool de] 37)).cell? ⟨g, 1, none⟩ = some (.int .i64 (c.op : Nat)) := by rw [hW1]; exact H1.cc.2.1
  have f1 : (W.alloc (.cells #[.int .u8 dk, .string dt, .int .i64 db, .int .i64 di, .bool de] 37)).frozen? ⟨g, 1, none⟩ = false := by rw [hW1]; exact H1.cc.2.2.2.2.2.1 1
  have glt := H1.cc.2.2.2.2.2.2
  have gne : g ≠ W.heap.size := by have := k1.lt; omega
  have gne2 : W.heap.size ≠ g := Ne.symm gne
  have HOP : Hid (T9 o W1 W1 g N { c with op := c.op }) := H1
  have HSE : Hid (∀ V, T9 o W1 V g N { c with op := c.op } → Calls Tryz.prog 36 #[.pointer (some ⟨g, 0, none⟩), .int .u8 dk] V fun x w' => x = .returned (.tuple #[]) ∧ Hid (T9 o W1 w' g N { c with op := c.op, m := (settk c.tot dk c.m rl).1, wl := (settk c.tot dk c.m rl).2.reverse }) ∧ w'.heap[W.heap.size]? = some (.cells #[.int .u8 dk, .string dt, .int .i64 db, .int .i64 di, .bool de] 37 (0, 0)) ∧ w'.cell? ⟨g, 2, none⟩ = some (.int .i64 c.tot)) := fun V hV => by
    refine (settle_t rl hV hrl hm (by omega) dk (by omega)).mono ?_
    rintro x w' ⟨rfl, hw⟩
    exact ⟨rfl, hw, hw.box hx1 ho0, hw.cc.2.2.1⟩
  have HNP : Hid (∀ V W', T9 o W1 V g N { c with op := c.op, m := (settk c.tot dk c.m rl).1, wl := (settk c.tot dk c.m rl).2.reverse } → Below V.heap.size V W' → W'.heap[V.heap.size]? = some (.cells #[.int .u8 dk, .string dt, .int .i64 db, .int .i64 di, .bool de, .int .i64 c.tot, .bool false, .int .i64 0] 123 (0, 0)) → T9 o W1 W' g N { c with op := c.op, m := upx (settk c.tot dk c.m rl).1 V.heap.size ⟨⟨dk, dt, db, di, de⟩, c.tot, false, 0⟩, wl := (settk c.tot dk c.m rl).2.reverse }) := fun V W' hV hb hw => hV.newp ⟨⟨dk, dt, db, di, de⟩, c.tot, false, 0⟩ hb (Nat.le_refl _) hw
  have HCO : Hid (∀ (V : World) (m : Pm), T9 o W1 V g N { c with op := c.op, m := m, wl := (settk c.tot dk c.m rl).2.reverse } → Calls Tryz.prog 58 #[.agg #[.int .u8 dk, .string dt, .int .i64 db, .int .i64 di, .bool de]] V fun e w' => e = .returned (.int .i64 ((pw ⟨dk, dt, db, di, de⟩ : Nat) : Int)) ∧ Hid (T9 o W1 w' g N { c with op := c.op, m := m, wl := (settk c.tot dk c.m rl).2.reverse }) ∧ w'.heap[W.heap.size]? = some (.cells #[.int .u8 dk, .string dt, .int .i64 db, .int .i64 di, .bool de] 37 (0, 0)) ∧ w'.cell? ⟨g, 2, none⟩ = some (.int .i64 c.tot) ∧ w'.frozen? ⟨g, 2, none⟩ = false ∧ g < w'.heap.size) := fun V m hV => by
    refine (scolumns_any ⟨dk, dt, db, di, de⟩ hrt V hV.tab).mono ?_
    rintro e w' ⟨rfl, hb⟩
    have hw := hV.below hb
    exact ⟨rfl, hw, hw.box hx1 ho0, hw.cc.2.2.1, hw.cc.2.2.2.2.2.1 2, hw.cc.2.2.2.2.2.2⟩
  have HTO : Hid (∀ (V : World) (m : Pm) (n : Int), T9 o W1 V g N { c with op := c.op, m := m, wl := (settk c.tot dk c.m rl).2.reverse } → T9 o W1 (V.setCell ⟨g, 2, none⟩ (.int .i64 n)) g N { c with op := c.op, tot := n, m := m, wl := (settk c.tot dk c.m rl).2.reverse } ∧ (V.setCell ⟨g, 2, none⟩ (.int .i64 n)).heap[W.heap.size]? = some (.cells #[.int .u8 dk, .string dt, .int .i64 db, .int .i64 di, .bool de] 37 (0, 0))) := fun V m n hV => by
    have := total_t hV n
    exact ⟨this, this.box hx1 ho0⟩
  have HPH : Hid (∀ (V : World) (m : Pm) (n : Int) (b : Nat), T9 o W1 V g N { c with op := c.op, tot := n, m := m, wl := (settk c.tot dk c.m rl).2.reverse } → Calls Tryz.prog 59 #[.pointer (some ⟨g, 3, none⟩), .pointer (some ⟨b, 0, none⟩)] V fun e w' => e = .returned (.tuple #[]) ∧ Hid (T9 o W1 w' g N { c with op := c.op, tot := n, hl := c.hl ++ [b], m := m, wl := (settk c.tot dk c.m rl).2.reverse }) ∧ w'.heap[W.heap.size]? = some (.cells #[.int .u8 dk, .string dt, .int .i64 db, .int .i64 di, .bool de] 37 (0, 0))) := fun V m n b hV => by
    refine (pushH_t hV b (by show c.hl.length ≤ _; omega)).mono ?_
    rintro x w' ⟨rfl, hw⟩
    exact ⟨rfl, hw, hw.box hx1 ho0⟩
  have HFIN : Hid (∀ (V : World) (cc : CS), T9 o W1 V g N cc → T9 own W V g N cc) := fun V cc hV => hV.step (k2.trans (Fz.of_below hb1))
  have HSZ : Hid (∀ V cc, T9 o W1 V g N cc → W.heap.size ≤ V.heap.size) := fun V cc hV => Nat.le_trans hb1.size hV.size
  have HW1 : Hid (W.alloc (.cells #[.int .u8 dk, .string dt, .int .i64 db, .int .i64 di, .bool de] 37) = W1) := hW1
  obtain ⟨x10, x11, x12, x13, x14⟩ := dv_cells hx1
  have HLK : Hid (∀ V, Calls Tryz.prog 60 #[.int .u8 dk] V fun e w' => e = .returned (.bool false) ∧ w' = V) := fun V => by
    have := looks_any dk V
    rw [decide_eq_false (by omega)] at this
    exact this
  have HDV : Hid (∀ V : World, V.heap[W.heap.size]? = some (.cells #[.int .u8 dk, .string dt, .int .i64 db, .int .i64 di, .bool de] 37 (0, 0)) → V.cell? ⟨W.heap.size, 0, none⟩ = some (.int .u8 dk) ∧ V.cell? ⟨W.heap.size, 1, none⟩ = some (.string dt) ∧ V.cell? ⟨W.heap.size, 2, none⟩ = some (.int .i64 db) ∧ V.cell? ⟨W.heap.size, 3, none⟩ = some (.int .i64 di) ∧ V.cell? ⟨W.heap.size, 4, none⟩ = some (.bool de)) := fun V hV => dv_cells hV
  clear hW1 H1 k1 k2 hrl hm hx1 hb1 hset
  generalize hP : pw ⟨dk, dt, db, di, de⟩ = P at *
  have q1 : (dk == 6) = false := by simpa using hk6
  have q2 : (dk == 7) = false := by simpa using hk7
  go_enter Tryz.func33, Tryz.ntmps33
  go_wp2_with fail
  rw [HW1.out]
  refine (HSE.out _ HOP.out).mono ?_
  rintro e w2 ⟨rfl, H2, b2, t2⟩
  have HB2 := hide9 b2
  obtain ⟨y0, y1, y2, y3, y4⟩ := HDV.out _ b2
  clear x10 x11 x12 x13 x14 c1 f1 HOP b2
  go_wp2_with fail
  go_region
  all_goals (
    obtain ⟨W3, hW3⟩ : ∃ W3, W3 = (w2.alloc (.cells #[.int .u8 dk, .string dt, .int .i64 db, .int .i64 di, .bool de, .int .i64 c.tot, .bool false, .int .i64 0] 123)).drew := ⟨_, rfl⟩
    have H3 : Hid (T9 o W1 W3 g N { c with op := c.op, m := upx (settk c.tot dk c.m rl).1 w2.heap.size ⟨⟨dk, dt, db, di, de⟩, c.tot, false, 0⟩, wl := (settk c.tot dk c.m rl).2.reverse } ∧ W.heap.size ≤ w2.heap.size) := by
      rw [hW3]
      exact ⟨HNP.out _ _ H2.out ((Below.refl _ _).alloc (Nat.le_refl _) _).drew (new_at _ _), HSZ.out _ _ H2.out⟩
    have t3 : W3.cell? ⟨g, 2, none⟩ = some (.int .i64 c.tot) := H3.out.1.cc.2.2.1
    have f3 : W3.frozen? ⟨g, 2, none⟩ = false := H3.out.1.cc.2.2.2.2.2.1 2
    have g3 : g < W3.heap.size := H3.out.1.cc.2.2.2.2.2.2
    have b3 : W3.heap[W.heap.size]? = some (.cells #[.int .u8 dk, .string dt, .int .i64 db, .int .i64 di, .bool de] 37 (0, 0)) := by
      rw [hW3]
      exact (((Below.refl w2.heap.size w2).alloc (Nat.le_refl _) _).drew.block _ (blk_lt HB2.out)).trans HB2.out
    rw [← hW3]
    clear hW3 H2 t2 y0 y1 y2 y3 y4
    obtain ⟨y0, y1, y2, y3, y4⟩ := HDV.out _ b3
    obtain ⟨nb, hnb⟩ : ∃ nb, w2.heap.size = nb := ⟨_, rfl⟩
    rw [hnb] at H3 ⊢
    clear hnb HB2 b3
    go_wp2_with fail
    go_region_with (first | (go_at_call 58; refine (HCO.out _ _ (by first | exact H3.out.1.below (Below.refl _ _).drew | exact H3.out.1)).mono ?_; rintro e w4 ⟨rfl, H4, b4, t4, f4, g4⟩))
    all_goals (
      obtain ⟨W5, hW5⟩ : ∃ W5, W5 = w4.setCell ⟨g, 2, none⟩ (.int .i64 (IntKind.i64.wrap (c.tot + (P : Nat)))) := ⟨_, rfl⟩
      have H5 : Hid (T9 o W1 W5 g N { c with op := c.op, tot := IntKind.i64.wrap (c.tot + (P : Nat)), m := upx (settk c.tot dk c.m rl).1 nb ⟨⟨dk, dt, db, di, de⟩, c.tot, false, 0⟩, wl := (settk c.tot dk c.m rl).2.reverse }) := by
        rw [hW5]; exact (HTO.out _ _ _ H4.out).1
      have b5 : W5.heap[W.heap.size]? = some (.cells #[.int .u8 dk, .string dt, .int .i64 db, .int .i64 di, .bool de] 37 (0, 0)) := by
        rw [hW5]; exact (HTO.out _ _ _ H4.out).2
      rw [← hW5]
      clear hW5 H4 b4 t4 f4 g4 t3 f3 g3 y0 y1 y2 y3 y4
      obtain ⟨y0, y1, y2, y3, y4⟩ := HDV.out _ b5
      clear b5
      go_wp2_with fail
      refine (HPH.out _ _ _ nb H5.out).mono ?_
      rintro e w6 ⟨rfl, H6, b6⟩
      clear y0 y1 y2 y3 y4
      obtain ⟨y0, y1, y2, y3, y4⟩ := HDV.out _ b6
      clear b6
      go_wp2_with fail
      refine (HLK.out _).mono ?_
      rintro e w7 ⟨rfl, rfl⟩
      go_wp2_with fail
      go_end0
      refine ⟨rfl, nb, H3.out.2, ?_⟩
      exact HFIN.out _ _ H6.out))
end Go.Proofs.YtmjhfabdbajchaaGreatDoor
