import Derived.Test.YtmjhfabdbajchaaGreatDoorHb2
import Derived.Test.YtmjhfabdbajchaaGreatDoorHa9
set_option linter.unusedVariables false
set_option linter.unusedSimpArgs false
namespace Go.Proofs.YtmjhfabdbajchaaGreatDoor
open Go.RowKit

/-! What was told is cut off. -/
def cutP (p : Pr) : Pr := { p with sk := p.sk.take }
def pre (u : List UInt8) (p : Pr) : Pr := { p with sk := { p.sk with out := u ++ p.sk.out } }
theorem pre_cut (p : Pr) : pre p.sk.out (cutP p) = p := by
  obtain ⟨⟨f, c, w, o⟩, bl, ar, en⟩ := p
  simp [pre, cutP, St6.take]
theorem cut_pre (u : List UInt8) (p : Pr) : cutP (pre u p) = cutP p := rfl
theorem pre_text (u : List UInt8) (s : St6) (t : ByteArray) : St6.text { s with out := u ++ s.out } t = { s.text t with out := u ++ (s.text t).out } := by
  unfold St6.text
  split
  · rfl
  · simp [List.append_assoc]
theorem pre_feed (u : List UInt8) (s : St6) (n : Nat) : St6.feed { s with out := u ++ s.out } n = { s.feed n with out := u ++ (s.feed n).out } := by
  simp [St6.feed, List.append_assoc]
theorem pre_empty (u : List UInt8) (s : St6) : St6.empty { s with out := u ++ s.out } = { s.empty with out := u ++ s.empty.out } := by
  obtain ⟨f, c, w, o⟩ := s
  cases f
  · rfl
  · simp [St6.empty, St6.feed, List.append_assoc]
theorem pre_hold (u : List UInt8) (p : Pr) (m : Nat) : (pre u p).hold m = pre u (p.hold m) := by
  unfold Pr.hold
  show (if p.sk.fresh = true then _ else _) = _
  split <;> rfl
theorem pre_endl (u : List UInt8) (p : Pr) : (pre u p).endl = pre u p.endl := by
  unfold Pr.endl
  show (if p.sk.fresh = true then _ else _) = _
  split
  · rfl
  · show (⟨St6.feed { p.sk with out := u ++ p.sk.out } p.bl.ind, p.bl, p.ar, true⟩ : Pr) = _
    rw [pre_feed]; rfl
theorem pre_put (u : List UInt8) (N : Nat) (d : Dc) (n : Nat) (p : Pr) : put N d n (pre u p) = pre u (put N d n p) := by
  have hb : (pre u p).brk N n = p.brk N n := rfl
  unfold put
  split
  · show (⟨St6.text { p.sk with out := u ++ p.sk.out } d.t, p.bl, p.ar, false⟩ : Pr) = _
    rw [pre_text]; rfl
  split
  · exact pre_hold u p 1
  split
  · rw [hb]
    split
    · exact pre_endl u p
    · exact pre_hold u p _
  split
  · exact pre_endl u p
  split
  · show (if p.en = true then (⟨St6.empty { p.sk with out := u ++ p.sk.out }, p.bl, p.ar, false⟩ : Pr) else pre u p) = _
    split
    · rw [pre_empty]; rfl
    · rfl
  split
  · rfl
  split
  · rfl
  · rfl
theorem pre_cdr (u : List UInt8) (N : Nat) (tot : Int) (m : Pm) : ∀ (hl : List Nat) (p : Pr), cdr N tot m (pre u p) hl = (pre u (cdr N tot m p hl).1, (cdr N tot m p hl).2)
  | [], p => rfl
  | b :: r, p => by
    rw [cdr, cdr]
    cases m b with
    | none => rfl
    | some x =>
      have hc : csr N (pre u p) x.d x.st (x.need tot).toNat = csr N p x.d x.st (x.need tot).toNat := rfl
      simp only [hc]
      split
      · rw [pre_put]; exact pre_cdr u N tot m r _
      · rfl
theorem Bp.cut {p : Pr} {U : Nat} (h : Bp p U) : Bp (cutP p) U := by
  have h1 := h.out
  refine ⟨?_, h.col, h.ind, h.ar, h.wt⟩
  show 0 + p.sk.wait + (if p.sk.fresh then p.sk.col else 0) ≤ U
  omega
theorem Bud.cut {p : Pr} {v : List Dc} {dp T C : Nat} {cl : Bool} (h : Bud ⟨p, v, dp, cl⟩ T C) : Bud ⟨cutP p, v, dp, cl⟩ T C := by
  obtain ⟨U, h1, h2, h3, h4⟩ := h
  exact ⟨U, h1.cut, h2, h3, h4⟩
theorem sin_add {N : Nat} {l : List Dc} {s : S9} (h : Sin N l s) {d : Dc} (hd : rt d = true ∧ ¬ (d.k = 7 ∧ s.dp = 0)) : Sin N (l ++ [d]) ⟨s.pr, s.wt ++ [d], dn d.k s.dp, false⟩ := by
  have hwl := h.len
  have e0 : (l ++ [d]).length - (s.wt ++ [d]).length = l.length - s.wt.length := by
    rw [List.length_append, List.length_append]; simp
  refine ⟨?_, rfl, ?_, ?_, fun rest hf => ?_⟩
  · show opd 0 (l ++ [d]) = some ((dn d.k s.dp : Nat) : Int)
    rw [opd_app l [d] 0 _ h.op, opd_cons, if_pos hd]; rfl
  · show (s.wt ++ [d]).length ≤ (l ++ [d]).length
    rw [List.length_append, List.length_append]; omega
  · show s.wt ++ [d] = (l ++ [d]).drop ((l ++ [d]).length - (s.wt ++ [d]).length)
    rw [e0, List.drop_append_of_le_length (by omega), ← h.wt]
  · show s.pr = pst N (l ++ [d] ++ rest) ((l ++ [d]).length - (s.wt ++ [d]).length)
    have ea : l ++ [d] ++ rest = l ++ ([d] ++ rest) := List.append_assoc _ _ _
    rw [e0, ea]
    exact h.pr ([d] ++ rest) (by rw [← ea]; exact hf)

theorem settk_len (tot e : Int) (m : Pm) (rl : List Nat) : (settk tot e m rl).2.length ≤ rl.length := by
  unfold settk
  split
  · exact Nat.le_refl _
  · have : ∀ (rl : List Nat) (m : Pm), (sett tot e m rl).2.length ≤ rl.length := by
      intro rl
      induction rl with
      | nil => intro m; exact Nat.le_refl _
      | cons b r ih =>
        intro m
        rw [sett]
        cases m b with
        | none => exact Nat.le_refl _
        | some x =>
          simp only
          split
          · exact Nat.le_trans (ih _) (by simp)
          · split
            · simp
            · exact Nat.le_refl _
    exact this rl m
/-- A piece is taken. -/
theorem take_t {own : Nat → Nat} {W V : World} {g N : Nat} {c : CS} (h : T9 own W V g N c) (d : Dc) (hrt : rt d = true) (h7 : ¬ (d.k = 7 ∧ c.op = 0)) (hopb : c.op ≤ 1000000000) (rl : List Nat) (hrl : c.wl = rl.reverse) (hm : ∀ b ∈ rl, ∃ x, c.m b = some x ∧ (x.d.k = 6 ∨ x.d.k = 3)) (hlen : rl.length ≤ 900000000) (hlh : c.hl.length ≤ 900000000) :
    Calls Tryz.prog 33 #[.pointer (some ⟨g, 0, none⟩), .agg #[.int .u8 d.k, .string d.t, .int .i64 d.b, .int .i64 d.i, .bool d.e]] V fun e w' => e = .returned (.tuple #[]) ∧ ∃ nb, c.m nb = none ∧ T9 own W w' g N { op := dn d.k c.op, tot := wr (c.tot + (pw d : Nat)), hl := c.hl ++ [nb], wl := (if lks d = true then nb :: (settk c.tot d.k c.m rl).2 else (settk c.tot d.k c.m rl).2).reverse, m := upx (settk c.tot d.k c.m rl).1 nb ⟨d, c.tot, false, 0⟩, pr := c.pr } := by
  obtain ⟨o, gs, qh, qw, v, csh, csw, k1, k2⟩ := h
  have hset := settk_len c.tot d.k c.m rl
  have hfresh : ∀ nb, V.heap.size ≤ nb → c.m nb = none := fun nb hnb => by
    cases hx : c.m nb with
    | none => rfl
    | some x => have := blk_lt (k1.pm nb x hx).1; omega
  have hkr : 1 ≤ d.k ∧ d.k ≤ 7 := by cases rt_of hrt <;> simp
  obtain ⟨dk, dt, db, di, de⟩ := d
  simp only at hset h7 hkr
  by_cases e6 : dk = 6
  · subst e6
    refine (take_beg k1.t9 dt db di de hrt hopb rl hrl hm hlen hlh hset).mono ?_
    rintro e w' ⟨rfl, nb, hnb, ht⟩
    exact ⟨rfl, nb, hfresh nb hnb, ht.step k2⟩
  · by_cases e7 : dk = 7
    · subst e7
      refine (take_end k1.t9 dt db di de hrt (Nat.pos_of_ne_zero fun e => h7 ⟨rfl, e⟩) hopb rl hrl hm hlen hlh hset).mono ?_
      rintro e w' ⟨rfl, nb, hnb, ht⟩
      exact ⟨rfl, nb, hfresh nb hnb, ht.step k2⟩
    · by_cases e3 : dk = 3
      · subst e3
        refine (take_brk k1.t9 dt db di de hrt hopb rl hrl hm hlen hlh hset).mono ?_
        rintro e w' ⟨rfl, nb, hnb, ht⟩
        exact ⟨rfl, nb, hfresh nb hnb, ht.step k2⟩
      · refine (take_oth k1.t9 dk e6 e7 e3 hkr.1 hkr.2 dt db di de hrt hopb rl hrl hm hlen hlh hset).mono ?_
        rintro e w' ⟨rfl, nb, hnb, ht⟩
        refine ⟨rfl, nb, hfresh nb hnb, ?_⟩
        have e1 : dn dk c.op = c.op := by unfold dn; rw [if_neg e6, if_neg e7]
        have e2 : lks ⟨dk, dt, db, di, de⟩ = false := decide_eq_false (by simp only; omega)
        rw [e1, e2]
        exact ht.step k2
/-- The rings that a printer wants stay few. -/
theorem Bud.rings {m : Pm} {tot : Int} {hl rl : List Nat} {s : S9} {T C : Nat} (h : Bud s T C) (hw : WI m tot hl rl s.wt s.dp) (hC : C ≤ 100000000) : rl.length ≤ 300000000 ∧ hl.length ≤ 100000000 ∧ s.dp ≤ 100000000 := by
  have h1 := hw.wr.le.2.1
  have h2 := h.dpb
  have h3 := hw.hi.len
  obtain ⟨_, _, _, _, h4⟩ := h
  omega
end Go.Proofs.YtmjhfabdbajchaaGreatDoor
set_option linter.unusedVariables false
set_option linter.unusedSimpArgs false
namespace Go.Proofs.YtmjhfabdbajchaaGreatDoor
open Go.RowKit

/-! The printer's functions. -/
theorem ready_t {own : Nat → Nat} {W V : World} {g N : Nat} {c : CS} (h : T9 own W V g N c) : Calls Tryz.prog 31 #[.pointer (some ⟨g, 0, none⟩)] V fun e w' => e = .returned (.int .i64 0) ∧ w' = V := ready_any g false V h.cc.1
set_option maxHeartbeats 1000000 in
theorem sput_nil (d : Dc) (W : World) : Calls Tryz.prog 15 #[.pointer none, .agg #[.int .u8 d.k, .string d.t, .int .i64 d.b, .int .i64 d.i, .bool d.e]] W fun e w' => e = .returned (.tuple #[.string ⟨#[]⟩, .int .i64 3]) ∧ Below W.heap.size W w' := by
  obtain ⟨dk, dt, db, di, de⟩ := d
  dsimp only
  have HAL : Hid (∀ o, Below W.heap.size W (W.alloc o)) := fun o => (Below.refl _ _).alloc (Nat.le_refl _) _
  go_enter Tryz.func15, Tryz.ntmps15
  go_wp2_with fail
  refine (ready_nil _).mono ?_
  rintro e w1 ⟨rfl, rfl⟩
  go_wp2_with fail
  go_ret2
  exact ⟨rfl, HAL.out _⟩
set_option maxHeartbeats 1000000 in
theorem sput_done (d : Dc) (g : Nat) (W : World) (h : W.cell? ⟨g, 0, none⟩ = some (.bool true)) : Calls Tryz.prog 15 #[.pointer (some ⟨g, 0, none⟩), .agg #[.int .u8 d.k, .string d.t, .int .i64 d.b, .int .i64 d.i, .bool d.e]] W fun e w' => e = .returned (.tuple #[.string ⟨#[]⟩, .int .i64 4]) ∧ Below W.heap.size W w' := by
  obtain ⟨dk, dt, db, di, de⟩ := d
  dsimp only
  have HAL : Hid (∀ o, Below W.heap.size W (W.alloc o)) := fun o => (Below.refl _ _).alloc (Nat.le_refl _) _
  have HR : Hid (∀ o, Calls Tryz.prog 31 #[.pointer (some ⟨g, 0, none⟩)] (W.alloc o) fun e w' => e = .returned (.int .i64 4) ∧ w' = W.alloc o) := fun o => ready_any g true _ (((Below.refl W.heap.size W).alloc (Nat.le_refl _) o).cell (p := ⟨g, 0, none⟩) (World.block_lt_of_cell? _ _ h) |>.trans h)
  clear h
  go_enter Tryz.func15, Tryz.ntmps15
  go_wp2_with fail
  refine (HR.out _).mono ?_
  rintro e w1 ⟨rfl, rfl⟩
  go_wp2_with fail
  go_ret2
  exact ⟨rfl, HAL.out _⟩
section
variable {own : Nat → Nat} {W : World} {g N gs qh qw : Nat} {v : Value} {csh csw : List (Nat × List Nat)} {c : CS}
set_option maxHeartbeats 1000000 in
/-- A piece that may not be. -/
theorem sput_bad (h : ST own W g N gs qh qw v csh csw c) (d : Dc) (hds : d.t.size ≤ 9223372036854775807) (hbad : ¬ (rt d = true ∧ ¬ (d.k = 7 ∧ c.op = 0))) :
    Calls Tryz.prog 15 #[.pointer (some ⟨g, 0, none⟩), .agg #[.int .u8 d.k, .string d.t, .int .i64 d.b, .int .i64 d.i, .bool d.e]] W fun e w' => e = .returned (.tuple #[.string ⟨#[]⟩, .int .i64 70]) ∧ Below W.heap.size W w' := by
  obtain ⟨W1, hW1⟩ : ∃ W1, W.alloc (.cells #[.int .u8 d.k, .string d.t, .int .i64 d.b, .int .i64 d.i, .bool d.e] 37) = W1 := ⟨_, rfl⟩
  have hb1 : Below W.heap.size W W1 := by rw [← hW1]; exact (Below.refl _ _).alloc (Nat.le_refl _) _
  have hx1 : W1.heap[W.heap.size]? = some (.cells #[.int .u8 d.k, .string d.t, .int .i64 d.b, .int .i64 d.i, .bool d.e] 37 (0, 0)) := by rw [← hW1]; exact new_at _ _
  have h1 := h.below hb1
  have HR : Hid (Calls Tryz.prog 31 #[.pointer (some ⟨g, 0, none⟩)] W1 fun e w' => e = .returned (.int .i64 0) ∧ w' = W1) := ready_t h1.t9
  obtain ⟨x0, x1, x2, x3, x4⟩ := dv_cells hx1
  have HRT : Hid (Calls Tryz.prog 32 #[d.v] W1 fun e w' => e = .returned (.bool (rt d)) ∧ Hid (Below W.heap.size W w') ∧ w'.cell? ⟨W.heap.size, 0, none⟩ = some (.int .u8 d.k) ∧ w'.cell? ⟨g, 1, none⟩ = some (.int .i64 (c.op : Nat))) := by
    refine (sright_any d hds W1).mono ?_
    rintro e w' ⟨rfl, hb⟩
    exact ⟨rfl, hb1.trans (hb.mono hb1.size), blk_cell (blk_below hx1 hb) rfl, (h1.below hb).c1⟩
  have HW1 : Hid (W.alloc (.cells #[.int .u8 d.k, .string d.t, .int .i64 d.b, .int .i64 d.i, .bool d.e] 37) = W1) := hW1
  clear hW1 h h1 hb1 hx1 hds
  cases hrt : rt d
  · rw [hrt] at HRT
    clear hbad hrt
    obtain ⟨dk, dt, db, di, de⟩ := d
    dsimp only [Dc.v] at *
    go_enter Tryz.func15, Tryz.ntmps15
    go_wp2_with fail
    rw [HW1.out]
    refine HR.out.mono ?_
    rintro e w1 ⟨rfl, rfl⟩
    go_wp2_with fail
    refine HRT.out.mono ?_
    rintro e w2 ⟨rfl, HB2, y0, y1⟩
    go_wp2_with fail
    go_ret2
    exact ⟨rfl, HB2.out⟩
  · have h7 : d.k = 7 ∧ c.op = 0 := Decidable.byContradiction fun hn => hbad ⟨hrt, hn⟩
    obtain ⟨h7, h0⟩ := h7
    rw [hrt] at HRT
    rw [h0] at HRT
    clear hbad hrt h0
    obtain ⟨dk, dt, db, di, de⟩ := d
    dsimp only [Dc.v] at *
    subst h7
    go_enter Tryz.func15, Tryz.ntmps15
    go_wp2_with fail
    rw [HW1.out]
    refine HR.out.mono ?_
    rintro e w1 ⟨rfl, rfl⟩
    go_wp2_with fail
    refine HRT.out.mono ?_
    rintro e w2 ⟨rfl, HB2, y0, y1⟩
    go_wp2_with fail
    go_ret2
    exact ⟨rfl, HB2.out⟩
set_option maxHeartbeats 1000000 in
/-- A piece is put. -/
theorem sput_good (h : ST own W g N gs qh qw v csh csw c) (d : Dc) (hds : d.t.size ≤ 9223372036854775807) (hgood : rt d = true ∧ ¬ (d.k = 7 ∧ c.op = 0)) {s : S9} {T C : Nat} {rl : List Nat} (hrl : c.wl = rl.reverse) (hw : WI c.m c.tot c.hl rl s.wt s.dp) (hop : c.op = s.dp) (hpr : c.pr = cutP s.pr) (hb : Bud s T C) (hT : T + ud d ≤ 268435456) (hC : C + 1 ≤ 100000000) (hN : N ≤ 4096)
    {l : List Dc} (hS : Sin N l s) (hFe : Fe s.pr s.wt) :
    Calls Tryz.prog 15 #[.pointer (some ⟨g, 0, none⟩), .agg #[.int .u8 d.k, .string d.t, .int .i64 d.b, .int .i64 d.i, .bool d.e]] W fun e w' => e = .returned (.tuple #[.string ⟨(s.told (s.put N d).1).toArray⟩, .int .i64 0]) ∧ ∃ c', T9 own W w' g N c' ∧ (∃ rl', c'.wl = rl'.reverse ∧ WI c'.m c'.tot c'.hl rl' (s.put N d).1.wt (s.put N d).1.dp) ∧ c'.op = (s.put N d).1.dp ∧ c'.pr = cutP (s.put N d).1.pr ∧ Sin N (l ++ [d]) (s.put N d).1 ∧ Fe (s.put N d).1.pr (s.put N d).1.wt := by
  have hgood' : rt d = true ∧ ¬ (d.k = 7 ∧ s.dp = 0) := by rw [← hop]; exact hgood
  obtain ⟨hr1, hr2, hr3⟩ := hb.rings hw (by omega)
  have hbp := hb.push hgood' false
  have hrt1 := hbp.rt
  have hpb : pws (s.wt ++ [d]) ≤ 1000000000000000 := by
    have h1 := pws_uds (s.wt ++ [d]) hrt1
    obtain ⟨U, _, h2, _, h4⟩ := hbp
    simp only at h2 h4
    omega
  have hpb2 : pws s.wt + pw d < 4611686018427387904 := by rw [pws_snoc] at hpb; omega
  -- the state behind take
  have hput : s.put N d = (⟨(drn N s.pr (s.wt ++ [d])).1, (drn N s.pr (s.wt ++ [d])).2, dn d.k s.dp, false⟩, 0) := by
    unfold S9.put; rw [if_neg (by rw [hS.cl]; simp), if_pos hgood']
  rw [hput]
  obtain ⟨W1, hW1⟩ : ∃ W1, W.alloc (.cells #[.int .u8 d.k, .string d.t, .int .i64 d.b, .int .i64 d.i, .bool d.e] 37) = W1 := ⟨_, rfl⟩
  have hb1 : Below W.heap.size W W1 := by rw [← hW1]; exact (Below.refl _ _).alloc (Nat.le_refl _) _
  have hx1 : W1.heap[W.heap.size]? = some (.cells #[.int .u8 d.k, .string d.t, .int .i64 d.b, .int .i64 d.i, .bool d.e] 37 (0, 0)) := by rw [← hW1]; exact new_at _ _
  have h1 := h.below hb1
  have hT1 : T9 own W W1 g N c := h.t9.below hb1
  have HR : Hid (Calls Tryz.prog 31 #[.pointer (some ⟨g, 0, none⟩)] W1 fun e w' => e = .returned (.int .i64 0) ∧ w' = W1) := ready_t hT1
  have HRT : Hid (Calls Tryz.prog 32 #[d.v] W1 fun e w' => e = .returned (.bool true) ∧ Hid (T9 own W w' g N c) ∧ w'.heap[W.heap.size]? = some (.cells #[.int .u8 d.k, .string d.t, .int .i64 d.b, .int .i64 d.i, .bool d.e] 37 (0, 0)) ∧ w'.cell? ⟨g, 1, none⟩ = some (.int .i64 (c.op : Nat))) := by
    have := sright_any d hds W1
    rw [hgood.1] at this
    refine this.mono ?_
    rintro e w' ⟨rfl, hb⟩
    exact ⟨rfl, hT1.below hb, blk_below hx1 hb, (h1.below hb).c1⟩
  have HTK : Hid (∀ V, T9 own W V g N c → Calls Tryz.prog 33 #[.pointer (some ⟨g, 0, none⟩), .agg #[.int .u8 d.k, .string d.t, .int .i64 d.b, .int .i64 d.i, .bool d.e]] V fun e w' => e = .returned (.tuple #[]) ∧ Hid (∃ c1 rl1, T9 own W w' g N c1 ∧ c1.wl = rl1.reverse ∧ WI c1.m c1.tot c1.hl rl1 (s.wt ++ [d]) (dn d.k s.dp) ∧ c1.op = dn d.k s.dp ∧ c1.pr = cutP s.pr)) := fun V hV => by
    refine (take_t hV d hgood.1 hgood.2 (by omega) rl hrl (fun b hb => ?_) (by omega) (by omega)).mono ?_
    · obtain ⟨x, e1, _, e3, _⟩ := hw.wr.mem b hb
      exact ⟨x, e1, e3⟩
    rintro e w' ⟨rfl, nb, hnb, ht⟩
    have := hw.take hgood'.1 hgood'.2 hnb hpb2
    exact ⟨rfl, _, _, ht, rfl, this, by rw [hop], hpr⟩
  have HPS : Hid (∀ V, (∃ c1 rl1, T9 own W V g N c1 ∧ c1.wl = rl1.reverse ∧ WI c1.m c1.tot c1.hl rl1 (s.wt ++ [d]) (dn d.k s.dp) ∧ c1.op = dn d.k s.dp ∧ c1.pr = cutP s.pr) → Calls Tryz.prog 34 #[.pointer (some ⟨g, 0, none⟩)] V fun e w' => e = .returned (.tuple #[]) ∧ Hid (∃ c2 rl2, T9 own W w' g N c2 ∧ c2.wl = rl2.reverse ∧ WI c2.m c2.tot c2.hl rl2 (drn N s.pr (s.wt ++ [d])).2 (dn d.k s.dp) ∧ c2.op = dn d.k s.dp ∧ pre s.pr.sk.out c2.pr = (drn N s.pr (s.wt ++ [d])).1 ∧ (∃ U, Bp c2.pr U ∧ U ≤ 268435456)) ∧ (∀ k, w'.frozen? ⟨g, k, none⟩ = false)) := fun V ⟨c1, rl1, t1, t2, t3, t4, t5⟩ => by
    have hbc : Bud ⟨c1.pr, s.wt ++ [d], dn d.k s.dp, false⟩ (T + ud d) (C + 1) := by rw [t5]; exact hbp.cut
    refine (printSure_t t1 (t3.hi.it hpb) hbc hT hC hN).mono ?_
    rintro e w' ⟨rfl, ht⟩
    obtain ⟨q1, q2, q3, q4⟩ := cdr_drn hN c1.hl (s.wt ++ [d]) s.pr t3 (sin_add hS hgood') (hFe.app [d])
    have hpc := pre_cdr s.pr.sk.out N c1.tot c1.m c1.hl (cutP s.pr)
    rw [pre_cut] at hpc
    rw [hpc] at q1 q2
    refine ⟨rfl, ⟨_, rl1, ht, t2, ?_, t4, ?_, ?_⟩, ht.cc.2.2.2.2.2.1⟩
    · simp only [t5]; exact q2
    · simp only [t5]; exact q1
    · have hdd := Bud.drn N _ _ hbp
      obtain ⟨U, u1, u2, _⟩ := hdd
      simp only at u1 u2
      refine ⟨U, ?_, by omega⟩
      simp only [t5]
      have u3 := u1.cut
      rw [← q1, cut_pre] at u3
      have u4 := u1.out
      rw [← q1] at u4
      have u5 : ((pre s.pr.sk.out (cdr N c1.tot c1.m (cutP s.pr) c1.hl).1).sk.out).length = s.pr.sk.out.length + (cdr N c1.tot c1.m (cutP s.pr) c1.hl).1.sk.out.length := by simp [pre]
      rw [u5] at u4
      refine ⟨?_, u3.col, u3.ind, u3.ar, u3.wt⟩
      have u6 : (pre s.pr.sk.out (cdr N c1.tot c1.m (cutP s.pr) c1.hl).1).sk.wait = (cdr N c1.tot c1.m (cutP s.pr) c1.hl).1.sk.wait := rfl
      have u7 : (pre s.pr.sk.out (cdr N c1.tot c1.m (cutP s.pr) c1.hl).1).sk.fresh = (cdr N c1.tot c1.m (cutP s.pr) c1.hl).1.sk.fresh := rfl
      have u8 : (pre s.pr.sk.out (cdr N c1.tot c1.m (cutP s.pr) c1.hl).1).sk.col = (cdr N c1.tot c1.m (cutP s.pr) c1.hl).1.sk.col := rfl
      rw [u6, u7, u8] at u4
      omega
  have HTO : Hid (∀ V, (∃ c2 rl2, T9 own W V g N c2 ∧ c2.wl = rl2.reverse ∧ WI c2.m c2.tot c2.hl rl2 (drn N s.pr (s.wt ++ [d])).2 (dn d.k s.dp) ∧ c2.op = dn d.k s.dp ∧ pre s.pr.sk.out c2.pr = (drn N s.pr (s.wt ++ [d])).1 ∧ (∃ U, Bp c2.pr U ∧ U ≤ 268435456)) → Calls Tryz.prog 35 #[.pointer (some ⟨g, 7, none⟩)] V fun e w' => e = .returned (.string ⟨((drn N s.pr (s.wt ++ [d])).1.sk.out.drop s.pr.sk.out.length).toArray⟩) ∧ Hid (∃ c', T9 own W w' g N c' ∧ (∃ rl', c'.wl = rl'.reverse ∧ WI c'.m c'.tot c'.hl rl' (drn N s.pr (s.wt ++ [d])).2 (dn d.k s.dp)) ∧ c'.op = dn d.k s.dp ∧ c'.pr = cutP (drn N s.pr (s.wt ++ [d])).1)) := fun V ⟨c2, rl2, t1, t2, t3, t4, t5, U, t6, t7⟩ => by
    refine (told_t t1 t6 t7).mono ?_
    rintro e w' ⟨rfl, ht⟩
    refine ⟨?_, _, ht, ⟨rl2, t2, t3⟩, t4, ?_⟩
    · rw [← t5]
      have : (pre s.pr.sk.out c2.pr).sk.out = s.pr.sk.out ++ c2.pr.sk.out := rfl
      rw [this, List.drop_left]
    · rw [← t5, cut_pre]; rfl
  have HFIN : Hid (Sin N (l ++ [d]) ⟨(drn N s.pr (s.wt ++ [d])).1, (drn N s.pr (s.wt ++ [d])).2, dn d.k s.dp, false⟩ ∧ Fe (drn N s.pr (s.wt ++ [d])).1 (drn N s.pr (s.wt ++ [d])).2) := by
    have hp := sin_put hN hS hgood'
    rw [hput] at hp
    refine ⟨hp.2, ?_⟩
    have : ∀ (v : List Dc) (p : Pr), Sin N (l ++ [d]) ⟨p, v, dn d.k s.dp, false⟩ → Fe p v → Fe (drn N p v).1 (drn N p v).2 := by
      intro v
      induction v with
      | nil => intro p _ hF; exact hF
      | cons x r ih =>
        intro p hS hF
        rw [drn]
        split
        · rename_i hs
          obtain ⟨rest, hft, hrt, h7⟩ := sin_ft hN hS
          have hp := put_csr hN (r := r) (rest := rest) hft hF
          refine ih _ (sin_step hN hS hs) ?_
          rw [← hp]
          refine fe_put hF (hrt x List.mem_cons_self) (h7 x r rfl) (fun h6 hfit => ?_)
          have hc := (sur_csr (N := N) hF).symm.trans hs
          unfold csr at hc
          have h3 : ¬ x.k = 3 := by omega
          simp [hfit, h6] at hc
          have es : sc x r = r.foldl stB ⟨0, 1, false⟩ := by unfold sc; rw [if_pos h6]
          rw [es] at hc
          exact hit_B r 0 1 hc
        · exact hF
    exact this _ _ (sin_add hS hgood') (hFe.app [d])
  have HW1 : Hid (W.alloc (.cells #[.int .u8 d.k, .string d.t, .int .i64 d.b, .int .i64 d.i, .bool d.e] 37) = W1) := hW1
  have HOUT : Hid (s.told ⟨(drn N s.pr (s.wt ++ [d])).1, (drn N s.pr (s.wt ++ [d])).2, dn d.k s.dp, false⟩ = (drn N s.pr (s.wt ++ [d])).1.sk.out.drop s.pr.sk.out.length) := rfl
  obtain ⟨y0, y1, y2, y3, y4⟩ := dv_cells hx1
  have h70 : d.k = 7 → ¬ (c.op = 0) := fun e e2 => hgood.2 ⟨e, e2⟩
  clear hW1 h h1 hb1 hx1 hds hT1 hput hw hrl hop hpr hb hS hFe hgood hgood' hbp hrt1 hpb hpb2 hr1 hr2 hr3
  generalize (drn N s.pr (s.wt ++ [d])).1.sk.out.drop s.pr.sk.out.length = OO at *
  by_cases h7 : d.k = 7
  · have q0 : ((c.op : Int) == 0) = false := by have := h70 h7; simp; omega
    obtain ⟨dk, dt, db, di, de⟩ := d
    dsimp only [Dc.v] at *
    subst h7
    clear h70
    go_enter Tryz.func15, Tryz.ntmps15
    go_wp2_with fail
    rw [HW1.out]
    refine HR.out.mono ?_
    rintro e w1 ⟨rfl, rfl⟩
    go_wp2_with fail
    refine HRT.out.mono ?_
    rintro e w2 ⟨rfl, H2, b2, t2⟩
    clear y0 y1 y2 y3 y4
    obtain ⟨y0, y1, y2, y3, y4⟩ := dv_cells b2
    clear b2
    go_wp2_with fail
    refine (HTK.out _ H2.out).mono ?_
    rintro e w3 ⟨rfl, H3⟩
    clear y0 y1 y2 y3 y4
    go_wp2_with fail
    refine (HPS.out _ H3.out).mono ?_
    rintro e w4 ⟨rfl, H4, f4⟩
    go_wp2_with fail
    refine (HTO.out _ H4.out).mono ?_
    rintro e w5 ⟨rfl, H5⟩
    go_wp2_with fail
    go_ret2
    obtain ⟨c', r1, r2, r3, r4⟩ := H5.out
    exact ⟨by rw [HOUT.out]; rfl, c', r1, r2, r3, r4, HFIN.out⟩
  · have q7 : (d.k == 7) = false := by simpa using h7
    obtain ⟨dk, dt, db, di, de⟩ := d
    dsimp only [Dc.v] at *
    clear h70
    go_enter Tryz.func15, Tryz.ntmps15
    go_wp2_with fail
    rw [HW1.out]
    refine HR.out.mono ?_
    rintro e w1 ⟨rfl, rfl⟩
    go_wp2_with fail
    refine HRT.out.mono ?_
    rintro e w2 ⟨rfl, H2, b2, t2⟩
    clear y0 y1 y2 y3 y4
    obtain ⟨y0, y1, y2, y3, y4⟩ := dv_cells b2
    clear b2
    go_wp2_with fail
    refine (HTK.out _ H2.out).mono ?_
    rintro e w3 ⟨rfl, H3⟩
    clear y0 y1 y2 y3 y4
    go_wp2_with fail
    refine (HPS.out _ H3.out).mono ?_
    rintro e w4 ⟨rfl, H4, f4⟩
    go_wp2_with fail
    refine (HTO.out _ H4.out).mono ?_
    rintro e w5 ⟨rfl, H5⟩
    go_wp2_with fail
    go_ret2
    obtain ⟨c', r1, r2, r3, r4⟩ := H5.out
    exact ⟨by rw [HOUT.out]; rfl, c', r1, r2, r3, r4, HFIN.out⟩
end
end Go.Proofs.YtmjhfabdbajchaaGreatDoor
set_option linter.unusedVariables false
set_option linter.unusedSimpArgs false
namespace Go.Proofs.YtmjhfabdbajchaaGreatDoor
open Go.RowKit

/-! Close. -/
def dn9 : Array Value := #[.bool true, .int .i64 0, .int .i64 0, .pointer none, .int .i64 0, .pointer none, .int .i64 0, .int .i64 0, .pointer none, .int .i64 0, .bool false, .bool false, .slice none 0 0, .bool false]
def wipe (w : World) (g : Nat) : World := (((((((((((((w.setCell ⟨g, 0, none⟩ (.bool true)).setCell ⟨g, 1, none⟩ (.int .i64 0)).setCell ⟨g, 2, none⟩ (.int .i64 0)).setCell ⟨g, 3, none⟩ (.pointer none)).setCell ⟨g, 4, none⟩ (.int .i64 0)).setCell ⟨g, 5, none⟩ (.pointer none)).setCell ⟨g, 6, none⟩ (.int .i64 0)).setCell ⟨g, 7, none⟩ (.int .i64 0)).setCell ⟨g, 8, none⟩ (.pointer none)).setCell ⟨g, 9, none⟩ (.int .i64 0)).setCell ⟨g, 10, none⟩ (.bool false)).setCell ⟨g, 11, none⟩ (.bool false)).setCell ⟨g, 12, none⟩ (.slice none 0 0)).setCell ⟨g, 13, none⟩ (.bool false)
theorem wipe_blk (w : World) (g T : Nat) (a0 a1 a2 a3 a4 a5 a6 a7 a8 a9 a10 a11 a12 a13 : Value) (h : w.heap[g]? = some (.cells #[a0, a1, a2, a3, a4, a5, a6, a7, a8, a9, a10, a11, a12, a13] T (0, 0))) : (wipe w g).heap[g]? = some (.cells dn9 T (0, 0)) := by
  have h0 : (w.setCell ⟨g, 0, none⟩ (.bool true)).heap[g]? = some (.cells #[.bool true, a1, a2, a3, a4, a5, a6, a7, a8, a9, a10, a11, a12, a13] T (0, 0)) := blk_set h 0 _
  have h1 : ((w.setCell ⟨g, 0, none⟩ (.bool true)).setCell ⟨g, 1, none⟩ (.int .i64 0)).heap[g]? = some (.cells #[.bool true, .int .i64 0, a2, a3, a4, a5, a6, a7, a8, a9, a10, a11, a12, a13] T (0, 0)) := blk_set h0 1 _
  have h2 : (((w.setCell ⟨g, 0, none⟩ (.bool true)).setCell ⟨g, 1, none⟩ (.int .i64 0)).setCell ⟨g, 2, none⟩ (.int .i64 0)).heap[g]? = some (.cells #[.bool true, .int .i64 0, .int .i64 0, a3, a4, a5, a6, a7, a8, a9, a10, a11, a12, a13] T (0, 0)) := blk_set h1 2 _
  have h3 : ((((w.setCell ⟨g, 0, none⟩ (.bool true)).setCell ⟨g, 1, none⟩ (.int .i64 0)).setCell ⟨g, 2, none⟩ (.int .i64 0)).setCell ⟨g, 3, none⟩ (.pointer none)).heap[g]? = some (.cells #[.bool true, .int .i64 0, .int .i64 0, .pointer none, a4, a5, a6, a7, a8, a9, a10, a11, a12, a13] T (0, 0)) := blk_set h2 3 _
  have h4 : (((((w.setCell ⟨g, 0, none⟩ (.bool true)).setCell ⟨g, 1, none⟩ (.int .i64 0)).setCell ⟨g, 2, none⟩ (.int .i64 0)).setCell ⟨g, 3, none⟩ (.pointer none)).setCell ⟨g, 4, none⟩ (.int .i64 0)).heap[g]? = some (.cells #[.bool true, .int .i64 0, .int .i64 0, .pointer none, .int .i64 0, a5, a6, a7, a8, a9, a10, a11, a12, a13] T (0, 0)) := blk_set h3 4 _
  have h5 : ((((((w.setCell ⟨g, 0, none⟩ (.bool true)).setCell ⟨g, 1, none⟩ (.int .i64 0)).setCell ⟨g, 2, none⟩ (.int .i64 0)).setCell ⟨g, 3, none⟩ (.pointer none)).setCell ⟨g, 4, none⟩ (.int .i64 0)).setCell ⟨g, 5, none⟩ (.pointer none)).heap[g]? = some (.cells #[.bool true, .int .i64 0, .int .i64 0, .pointer none, .int .i64 0, .pointer none, a6, a7, a8, a9, a10, a11, a12, a13] T (0, 0)) := blk_set h4 5 _
  have h6 : (((((((w.setCell ⟨g, 0, none⟩ (.bool true)).setCell ⟨g, 1, none⟩ (.int .i64 0)).setCell ⟨g, 2, none⟩ (.int .i64 0)).setCell ⟨g, 3, none⟩ (.pointer none)).setCell ⟨g, 4, none⟩ (.int .i64 0)).setCell ⟨g, 5, none⟩ (.pointer none)).setCell ⟨g, 6, none⟩ (.int .i64 0)).heap[g]? = some (.cells #[.bool true, .int .i64 0, .int .i64 0, .pointer none, .int .i64 0, .pointer none, .int .i64 0, a7, a8, a9, a10, a11, a12, a13] T (0, 0)) := blk_set h5 6 _
  have h7 : ((((((((w.setCell ⟨g, 0, none⟩ (.bool true)).setCell ⟨g, 1, none⟩ (.int .i64 0)).setCell ⟨g, 2, none⟩ (.int .i64 0)).setCell ⟨g, 3, none⟩ (.pointer none)).setCell ⟨g, 4, none⟩ (.int .i64 0)).setCell ⟨g, 5, none⟩ (.pointer none)).setCell ⟨g, 6, none⟩ (.int .i64 0)).setCell ⟨g, 7, none⟩ (.int .i64 0)).heap[g]? = some (.cells #[.bool true, .int .i64 0, .int .i64 0, .pointer none, .int .i64 0, .pointer none, .int .i64 0, .int .i64 0, a8, a9, a10, a11, a12, a13] T (0, 0)) := blk_set h6 7 _
  have h8 : (((((((((w.setCell ⟨g, 0, none⟩ (.bool true)).setCell ⟨g, 1, none⟩ (.int .i64 0)).setCell ⟨g, 2, none⟩ (.int .i64 0)).setCell ⟨g, 3, none⟩ (.pointer none)).setCell ⟨g, 4, none⟩ (.int .i64 0)).setCell ⟨g, 5, none⟩ (.pointer none)).setCell ⟨g, 6, none⟩ (.int .i64 0)).setCell ⟨g, 7, none⟩ (.int .i64 0)).setCell ⟨g, 8, none⟩ (.pointer none)).heap[g]? = some (.cells #[.bool true, .int .i64 0, .int .i64 0, .pointer none, .int .i64 0, .pointer none, .int .i64 0, .int .i64 0, .pointer none, a9, a10, a11, a12, a13] T (0, 0)) := blk_set h7 8 _
  have h9 : ((((((((((w.setCell ⟨g, 0, none⟩ (.bool true)).setCell ⟨g, 1, none⟩ (.int .i64 0)).setCell ⟨g, 2, none⟩ (.int .i64 0)).setCell ⟨g, 3, none⟩ (.pointer none)).setCell ⟨g, 4, none⟩ (.int .i64 0)).setCell ⟨g, 5, none⟩ (.pointer none)).setCell ⟨g, 6, none⟩ (.int .i64 0)).setCell ⟨g, 7, none⟩ (.int .i64 0)).setCell ⟨g, 8, none⟩ (.pointer none)).setCell ⟨g, 9, none⟩ (.int .i64 0)).heap[g]? = some (.cells #[.bool true, .int .i64 0, .int .i64 0, .pointer none, .int .i64 0, .pointer none, .int .i64 0, .int .i64 0, .pointer none, .int .i64 0, a10, a11, a12, a13] T (0, 0)) := blk_set h8 9 _
  have h10 : (((((((((((w.setCell ⟨g, 0, none⟩ (.bool true)).setCell ⟨g, 1, none⟩ (.int .i64 0)).setCell ⟨g, 2, none⟩ (.int .i64 0)).setCell ⟨g, 3, none⟩ (.pointer none)).setCell ⟨g, 4, none⟩ (.int .i64 0)).setCell ⟨g, 5, none⟩ (.pointer none)).setCell ⟨g, 6, none⟩ (.int .i64 0)).setCell ⟨g, 7, none⟩ (.int .i64 0)).setCell ⟨g, 8, none⟩ (.pointer none)).setCell ⟨g, 9, none⟩ (.int .i64 0)).setCell ⟨g, 10, none⟩ (.bool false)).heap[g]? = some (.cells #[.bool true, .int .i64 0, .int .i64 0, .pointer none, .int .i64 0, .pointer none, .int .i64 0, .int .i64 0, .pointer none, .int .i64 0, .bool false, a11, a12, a13] T (0, 0)) := blk_set h9 10 _
  have h11 : ((((((((((((w.setCell ⟨g, 0, none⟩ (.bool true)).setCell ⟨g, 1, none⟩ (.int .i64 0)).setCell ⟨g, 2, none⟩ (.int .i64 0)).setCell ⟨g, 3, none⟩ (.pointer none)).setCell ⟨g, 4, none⟩ (.int .i64 0)).setCell ⟨g, 5, none⟩ (.pointer none)).setCell ⟨g, 6, none⟩ (.int .i64 0)).setCell ⟨g, 7, none⟩ (.int .i64 0)).setCell ⟨g, 8, none⟩ (.pointer none)).setCell ⟨g, 9, none⟩ (.int .i64 0)).setCell ⟨g, 10, none⟩ (.bool false)).setCell ⟨g, 11, none⟩ (.bool false)).heap[g]? = some (.cells #[.bool true, .int .i64 0, .int .i64 0, .pointer none, .int .i64 0, .pointer none, .int .i64 0, .int .i64 0, .pointer none, .int .i64 0, .bool false, .bool false, a12, a13] T (0, 0)) := blk_set h10 11 _
  have h12 : (((((((((((((w.setCell ⟨g, 0, none⟩ (.bool true)).setCell ⟨g, 1, none⟩ (.int .i64 0)).setCell ⟨g, 2, none⟩ (.int .i64 0)).setCell ⟨g, 3, none⟩ (.pointer none)).setCell ⟨g, 4, none⟩ (.int .i64 0)).setCell ⟨g, 5, none⟩ (.pointer none)).setCell ⟨g, 6, none⟩ (.int .i64 0)).setCell ⟨g, 7, none⟩ (.int .i64 0)).setCell ⟨g, 8, none⟩ (.pointer none)).setCell ⟨g, 9, none⟩ (.int .i64 0)).setCell ⟨g, 10, none⟩ (.bool false)).setCell ⟨g, 11, none⟩ (.bool false)).setCell ⟨g, 12, none⟩ (.slice none 0 0)).heap[g]? = some (.cells #[.bool true, .int .i64 0, .int .i64 0, .pointer none, .int .i64 0, .pointer none, .int .i64 0, .int .i64 0, .pointer none, .int .i64 0, .bool false, .bool false, .slice none 0 0, a13] T (0, 0)) := blk_set h11 12 _
  have h13 : ((((((((((((((w.setCell ⟨g, 0, none⟩ (.bool true)).setCell ⟨g, 1, none⟩ (.int .i64 0)).setCell ⟨g, 2, none⟩ (.int .i64 0)).setCell ⟨g, 3, none⟩ (.pointer none)).setCell ⟨g, 4, none⟩ (.int .i64 0)).setCell ⟨g, 5, none⟩ (.pointer none)).setCell ⟨g, 6, none⟩ (.int .i64 0)).setCell ⟨g, 7, none⟩ (.int .i64 0)).setCell ⟨g, 8, none⟩ (.pointer none)).setCell ⟨g, 9, none⟩ (.int .i64 0)).setCell ⟨g, 10, none⟩ (.bool false)).setCell ⟨g, 11, none⟩ (.bool false)).setCell ⟨g, 12, none⟩ (.slice none 0 0)).setCell ⟨g, 13, none⟩ (.bool false)).heap[g]? = some (.cells #[.bool true, .int .i64 0, .int .i64 0, .pointer none, .int .i64 0, .pointer none, .int .i64 0, .int .i64 0, .pointer none, .int .i64 0, .bool false, .bool false, .slice none 0 0, .bool false] T (0, 0)) := blk_set h12 13 _
  exact h13
theorem wipe_fr {own : Nat → Nat} {w : World} {g : Nat} (h : own g = 2) : FrP (fun i => i = 2) own own w (wipe w g) := by
  have f0 : FrP (fun i => i = 2) own own w w := FrP.refl _ _ _
  have f1 := f0.trans (FrP.set (P := fun i => i = 2) (W := w) (own := own) h 0 (.bool true))
  have f2 := f1.trans (FrP.set (P := fun i => i = 2) (W := (w.setCell ⟨g, 0, none⟩ (.bool true))) (own := own) h 1 (.int .i64 0))
  have f3 := f2.trans (FrP.set (P := fun i => i = 2) (W := ((w.setCell ⟨g, 0, none⟩ (.bool true)).setCell ⟨g, 1, none⟩ (.int .i64 0))) (own := own) h 2 (.int .i64 0))
  have f4 := f3.trans (FrP.set (P := fun i => i = 2) (W := (((w.setCell ⟨g, 0, none⟩ (.bool true)).setCell ⟨g, 1, none⟩ (.int .i64 0)).setCell ⟨g, 2, none⟩ (.int .i64 0))) (own := own) h 3 (.pointer none))
  have f5 := f4.trans (FrP.set (P := fun i => i = 2) (W := ((((w.setCell ⟨g, 0, none⟩ (.bool true)).setCell ⟨g, 1, none⟩ (.int .i64 0)).setCell ⟨g, 2, none⟩ (.int .i64 0)).setCell ⟨g, 3, none⟩ (.pointer none))) (own := own) h 4 (.int .i64 0))
  have f6 := f5.trans (FrP.set (P := fun i => i = 2) (W := (((((w.setCell ⟨g, 0, none⟩ (.bool true)).setCell ⟨g, 1, none⟩ (.int .i64 0)).setCell ⟨g, 2, none⟩ (.int .i64 0)).setCell ⟨g, 3, none⟩ (.pointer none)).setCell ⟨g, 4, none⟩ (.int .i64 0))) (own := own) h 5 (.pointer none))
  have f7 := f6.trans (FrP.set (P := fun i => i = 2) (W := ((((((w.setCell ⟨g, 0, none⟩ (.bool true)).setCell ⟨g, 1, none⟩ (.int .i64 0)).setCell ⟨g, 2, none⟩ (.int .i64 0)).setCell ⟨g, 3, none⟩ (.pointer none)).setCell ⟨g, 4, none⟩ (.int .i64 0)).setCell ⟨g, 5, none⟩ (.pointer none))) (own := own) h 6 (.int .i64 0))
  have f8 := f7.trans (FrP.set (P := fun i => i = 2) (W := (((((((w.setCell ⟨g, 0, none⟩ (.bool true)).setCell ⟨g, 1, none⟩ (.int .i64 0)).setCell ⟨g, 2, none⟩ (.int .i64 0)).setCell ⟨g, 3, none⟩ (.pointer none)).setCell ⟨g, 4, none⟩ (.int .i64 0)).setCell ⟨g, 5, none⟩ (.pointer none)).setCell ⟨g, 6, none⟩ (.int .i64 0))) (own := own) h 7 (.int .i64 0))
  have f9 := f8.trans (FrP.set (P := fun i => i = 2) (W := ((((((((w.setCell ⟨g, 0, none⟩ (.bool true)).setCell ⟨g, 1, none⟩ (.int .i64 0)).setCell ⟨g, 2, none⟩ (.int .i64 0)).setCell ⟨g, 3, none⟩ (.pointer none)).setCell ⟨g, 4, none⟩ (.int .i64 0)).setCell ⟨g, 5, none⟩ (.pointer none)).setCell ⟨g, 6, none⟩ (.int .i64 0)).setCell ⟨g, 7, none⟩ (.int .i64 0))) (own := own) h 8 (.pointer none))
  have f10 := f9.trans (FrP.set (P := fun i => i = 2) (W := (((((((((w.setCell ⟨g, 0, none⟩ (.bool true)).setCell ⟨g, 1, none⟩ (.int .i64 0)).setCell ⟨g, 2, none⟩ (.int .i64 0)).setCell ⟨g, 3, none⟩ (.pointer none)).setCell ⟨g, 4, none⟩ (.int .i64 0)).setCell ⟨g, 5, none⟩ (.pointer none)).setCell ⟨g, 6, none⟩ (.int .i64 0)).setCell ⟨g, 7, none⟩ (.int .i64 0)).setCell ⟨g, 8, none⟩ (.pointer none))) (own := own) h 9 (.int .i64 0))
  have f11 := f10.trans (FrP.set (P := fun i => i = 2) (W := ((((((((((w.setCell ⟨g, 0, none⟩ (.bool true)).setCell ⟨g, 1, none⟩ (.int .i64 0)).setCell ⟨g, 2, none⟩ (.int .i64 0)).setCell ⟨g, 3, none⟩ (.pointer none)).setCell ⟨g, 4, none⟩ (.int .i64 0)).setCell ⟨g, 5, none⟩ (.pointer none)).setCell ⟨g, 6, none⟩ (.int .i64 0)).setCell ⟨g, 7, none⟩ (.int .i64 0)).setCell ⟨g, 8, none⟩ (.pointer none)).setCell ⟨g, 9, none⟩ (.int .i64 0))) (own := own) h 10 (.bool false))
  have f12 := f11.trans (FrP.set (P := fun i => i = 2) (W := (((((((((((w.setCell ⟨g, 0, none⟩ (.bool true)).setCell ⟨g, 1, none⟩ (.int .i64 0)).setCell ⟨g, 2, none⟩ (.int .i64 0)).setCell ⟨g, 3, none⟩ (.pointer none)).setCell ⟨g, 4, none⟩ (.int .i64 0)).setCell ⟨g, 5, none⟩ (.pointer none)).setCell ⟨g, 6, none⟩ (.int .i64 0)).setCell ⟨g, 7, none⟩ (.int .i64 0)).setCell ⟨g, 8, none⟩ (.pointer none)).setCell ⟨g, 9, none⟩ (.int .i64 0)).setCell ⟨g, 10, none⟩ (.bool false))) (own := own) h 11 (.bool false))
  have f13 := f12.trans (FrP.set (P := fun i => i = 2) (W := ((((((((((((w.setCell ⟨g, 0, none⟩ (.bool true)).setCell ⟨g, 1, none⟩ (.int .i64 0)).setCell ⟨g, 2, none⟩ (.int .i64 0)).setCell ⟨g, 3, none⟩ (.pointer none)).setCell ⟨g, 4, none⟩ (.int .i64 0)).setCell ⟨g, 5, none⟩ (.pointer none)).setCell ⟨g, 6, none⟩ (.int .i64 0)).setCell ⟨g, 7, none⟩ (.int .i64 0)).setCell ⟨g, 8, none⟩ (.pointer none)).setCell ⟨g, 9, none⟩ (.int .i64 0)).setCell ⟨g, 10, none⟩ (.bool false)).setCell ⟨g, 11, none⟩ (.bool false))) (own := own) h 12 (.slice none 0 0))
  have f14 := f13.trans (FrP.set (P := fun i => i = 2) (W := (((((((((((((w.setCell ⟨g, 0, none⟩ (.bool true)).setCell ⟨g, 1, none⟩ (.int .i64 0)).setCell ⟨g, 2, none⟩ (.int .i64 0)).setCell ⟨g, 3, none⟩ (.pointer none)).setCell ⟨g, 4, none⟩ (.int .i64 0)).setCell ⟨g, 5, none⟩ (.pointer none)).setCell ⟨g, 6, none⟩ (.int .i64 0)).setCell ⟨g, 7, none⟩ (.int .i64 0)).setCell ⟨g, 8, none⟩ (.pointer none)).setCell ⟨g, 9, none⟩ (.int .i64 0)).setCell ⟨g, 10, none⟩ (.bool false)).setCell ⟨g, 11, none⟩ (.bool false)).setCell ⟨g, 12, none⟩ (.slice none 0 0))) (own := own) h 13 (.bool false))
  exact f14
theorem sclose_nil (W : World) : Calls Tryz.prog 17 #[.pointer none] W fun e w' => e = .returned (.tuple #[.string ⟨#[]⟩, .int .i64 3]) ∧ Below W.heap.size W w' := by
  go_enter Tryz.func17, Tryz.ntmps17
  go_wp2_with fail
  refine (ready_nil _).mono ?_
  rintro e w1 ⟨rfl, rfl⟩
  go_wp2_with fail
  go_ret2
  exact ⟨rfl, Below.refl _ _⟩
theorem sclose_done (g : Nat) (W : World) (h : W.cell? ⟨g, 0, none⟩ = some (.bool true)) : Calls Tryz.prog 17 #[.pointer (some ⟨g, 0, none⟩)] W fun e w' => e = .returned (.tuple #[.string ⟨#[]⟩, .int .i64 4]) ∧ w' = W := by
  have HR : Hid (Calls Tryz.prog 31 #[.pointer (some ⟨g, 0, none⟩)] W fun e w' => e = .returned (.int .i64 4) ∧ w' = W) := ready_any g true _ h
  clear h
  go_enter Tryz.func17, Tryz.ntmps17
  go_wp2_with fail
  refine HR.out.mono ?_
  rintro e w1 ⟨rfl, rfl⟩
  go_wp2_with fail
  go_ret2
  exact ⟨rfl, rfl⟩
section
variable {own : Nat → Nat} {W : World} {g N gs qh qw : Nat} {v : Value} {csh csw : List (Nat × List Nat)} {c : CS}
theorem sclose_open (h : ST own W g N gs qh qw v csh csw c) (ho : 0 < c.op) : Calls Tryz.prog 17 #[.pointer (some ⟨g, 0, none⟩)] W fun e w' => e = .returned (.tuple #[.string ⟨#[]⟩, .int .i64 70]) ∧ w' = W := by
  have HR : Hid (Calls Tryz.prog 31 #[.pointer (some ⟨g, 0, none⟩)] W fun e w' => e = .returned (.int .i64 0) ∧ w' = W) := ready_t h.t9
  have c1 := h.c1
  have q1 : (0 : Int) < (c.op : Int) := by omega
  clear h
  go_enter Tryz.func17, Tryz.ntmps17
  go_wp2_with fail
  refine HR.out.mono ?_
  rintro e w1 ⟨rfl, rfl⟩
  go_wp2_with fail
  go_ret2
  exact ⟨rfl, rfl⟩
theorem T9.wipe {V : World} {c : CS} (h : T9 own W V g N c) : ∃ n gs qh qw tot i ev ft v en hc wc o, (V.cell? ⟨g, 0, none⟩ = some (.bool false) ∧ V.cell? ⟨g, 1, none⟩ = some (.int .i64 o) ∧ V.cell? ⟨g, 2, none⟩ = some (.int .i64 tot) ∧ V.cell? ⟨g, 3, none⟩ = some (.pointer qh) ∧ V.cell? ⟨g, 4, none⟩ = some (.int .i64 hc) ∧ V.cell? ⟨g, 5, none⟩ = some (.pointer qw) ∧ V.cell? ⟨g, 6, none⟩ = some (.int .i64 wc) ∧ V.cell? ⟨g, 7, none⟩ = some (.int .i64 n) ∧ V.cell? ⟨g, 8, none⟩ = some (.pointer gs) ∧ V.cell? ⟨g, 9, none⟩ = some (.int .i64 i) ∧ V.cell? ⟨g, 10, none⟩ = some (.bool ev) ∧ V.cell? ⟨g, 11, none⟩ = some (.bool ft) ∧ V.cell? ⟨g, 12, none⟩ = some v ∧ V.cell? ⟨g, 13, none⟩ = some (.bool en)) ∧ V.heap[g]? = some (.cells #[.bool false, .int .i64 o, .int .i64 tot, .pointer qh, .int .i64 hc, .pointer qw, .int .i64 wc, .int .i64 n, .pointer gs, .int .i64 i, .bool ev, .bool ft, v, .bool en] 67 (0, 0)) ∧ (∃ p l k, v = .slice p l k) := by
  obtain ⟨o, gs, qh, qw, v, csh, csw, k1, k2⟩ := h
  have hb := k1.blk
  obtain ⟨p, k, e, _, _⟩ := row_shape k1.ar.1
  exact ⟨_, _, _, _, _, _, _, _, _, _, _, _, _, ⟨blk_cell hb rfl, blk_cell hb rfl, blk_cell hb rfl, blk_cell hb rfl, blk_cell hb rfl, blk_cell hb rfl, blk_cell hb rfl, blk_cell hb rfl, blk_cell hb rfl, blk_cell hb rfl, blk_cell hb rfl, blk_cell hb rfl, blk_cell hb rfl, blk_cell hb rfl⟩, hb, p, _, k, e⟩
set_option maxHeartbeats 2000000 in
set_option maxRecDepth 100000 in
theorem sclose_good (h : ST own W g N gs qh qw v csh csw c) {s : S9} {T C : Nat} {rl : List Nat} (hrl : c.wl = rl.reverse) (hw : WI c.m c.tot c.hl rl s.wt s.dp) (hop : c.op = s.dp) (h0 : s.dp = 0) (hpr : c.pr = cutP s.pr) (hb : Bud s T C) (hT : T ≤ 268435456) (hC : C ≤ 100000000) (hN : N ≤ 4096)
    {l : List Dc} (hS : Sin N l s) (hFe : Fe s.pr s.wt) :
    Calls Tryz.prog 17 #[.pointer (some ⟨g, 0, none⟩)] W fun e w' => e = .returned (.tuple #[.string ⟨(s.told (s.close N).1).toArray⟩, .int .i64 0]) ∧ w'.heap[g]? = some (.cells dn9 67 (0, 0)) ∧ ∃ own', Fz own own' W w' := by
  obtain ⟨hr1, hr2, hr3⟩ := hb.rings hw hC
  have hcl : s.close N = (⟨cls N s.pr s.wt, [], s.dp, true⟩, 0) := by
    unfold S9.close; rw [if_neg (by rw [hS.cl]; simp), if_neg (by omega)]
  rw [hcl]
  have hpb : pws s.wt ≤ 1000000000000000 := by
    have h1 := pws_uds s.wt hb.rt
    obtain ⟨U, _, h2, _, h4⟩ := hb
    omega
  have hfl : frm 0 0 l = none := by
    have := frm_app l [] 0 _ 0 hS.op
    rw [List.append_nil] at this
    rw [this, h0]; rfl
  have hsp : s.pr = pst N l (l.length - s.wt.length) := by
    have := hS.pr [] (by rw [List.append_nil]; exact hfl)
    rw [List.append_nil] at this; exact this
  rw [h0] at hw
  obtain ⟨hHC, hnil⟩ := hw.close
  have hm : ∀ b ∈ rl, ∃ x, c.m b = some x ∧ (x.d.k = 6 ∨ x.d.k = 3) := fun b hb => by
    obtain ⟨x, e1, _, e3, _⟩ := hw.wr.mem b hb
    exact ⟨x, e1, e3⟩
  have HR : Hid (Calls Tryz.prog 31 #[.pointer (some ⟨g, 0, none⟩)] W fun e w' => e = .returned (.int .i64 0) ∧ w' = W) := ready_t h.t9
  have c1 := h.c1
  rw [hop, h0] at c1
  have HSE : Hid (Calls Tryz.prog 36 #[.pointer (some ⟨g, 0, none⟩), .int .u8 7] W fun x w' => x = .returned (.tuple #[]) ∧ Hid (T9 own W w' g N { c with m := (settk c.tot 7 c.m rl).1, wl := (settk c.tot 7 c.m rl).2.reverse })) := settle_t rl h.t9 hrl hm (by omega) 7 (by omega)
  have hsk : settk c.tot 7 c.m rl = sett c.tot 7 c.m rl := by unfold settk; rw [if_neg (by omega)]
  have hcd : cdr N c.tot (sett c.tot 7 c.m rl).1 s.pr c.hl = (cls N s.pr s.wt, []) := by
    have := cdr_cls hN hfl (tot := c.tot) c.hl s.wt (l.length - s.wt.length) hHC (by omega) hS.wt.symm (by rw [← hsp]; exact hFe)
    rw [← hsp] at this; exact this
  have hpc := pre_cdr s.pr.sk.out N c.tot (sett c.tot 7 c.m rl).1 c.hl (cutP s.pr)
  rw [pre_cut, hcd] at hpc
  have hb0 : Bud ⟨cutP s.pr, s.wt, s.dp, false⟩ T C := by
    have : Bud ⟨s.pr, s.wt, s.dp, false⟩ T C := hb
    exact this.cut
  have HPS : Hid (∀ V, T9 own W V g N { c with m := (settk c.tot 7 c.m rl).1, wl := (settk c.tot 7 c.m rl).2.reverse } → Calls Tryz.prog 34 #[.pointer (some ⟨g, 0, none⟩)] V fun e w' => e = .returned (.tuple #[]) ∧ Hid (∃ c2, T9 own W w' g N c2 ∧ pre s.pr.sk.out c2.pr = cls N s.pr s.wt ∧ (∃ U, Bp c2.pr U ∧ U ≤ 268435456))) := fun V hV => by
    rw [hsk] at hV
    refine (printSure_t hV (hHC.it hpb) (by rw [hpr]; exact hb0) hT hC hN).mono ?_
    rintro e w' ⟨rfl, ht⟩
    refine ⟨rfl, _, ht, ?_, ?_⟩
    · simp only [hpr]
      exact (congrArg Prod.fst hpc).symm
    · simp only [hpr]
      have hcut : ∀ (hl : List Nat) (v : List Dc) (p : Pr), HC (sett c.tot 7 c.m rl).1 hl v → Bud ⟨p, v, s.dp, false⟩ T C → ∃ U, Bp (cdr N c.tot (sett c.tot 7 c.m rl).1 p hl).1 U ∧ U ≤ 268435456 := by
        intro hl
        induction hl with
        | nil =>
          intro v p _ hbb
          obtain ⟨U, u1, u2, _⟩ := hbb
          simp only at u1 u2
          exact ⟨U, u1, by omega⟩
        | cons b bs ih =>
          intro v p hh hbb
          cases v with
          | nil => exact hh.elim
          | cons d r =>
            obtain ⟨⟨ah, st, e1, e2⟩, e3⟩ := hh
            rw [cdr, e1]
            simp only
            split
            · exact ih r _ e3 (hbb.step N _).2.2.2.2
            · obtain ⟨U, u1, u2, _⟩ := hbb
              simp only at u1 u2
              exact ⟨U, u1, by omega⟩
      exact hcut c.hl s.wt (cutP s.pr) hHC hb0
  have HTO : Hid (∀ V, (∃ c2, T9 own W V g N c2 ∧ pre s.pr.sk.out c2.pr = cls N s.pr s.wt ∧ (∃ U, Bp c2.pr U ∧ U ≤ 268435456)) → Calls Tryz.prog 35 #[.pointer (some ⟨g, 7, none⟩)] V fun e w' => e = .returned (.string ⟨((cls N s.pr s.wt).sk.out.drop s.pr.sk.out.length).toArray⟩) ∧ Hid (∃ c', T9 own W w' g N c')) := fun V ⟨c2, t1, t5, U, t6, t7⟩ => by
    refine (told_t t1 t6 t7).mono ?_
    rintro e w' ⟨rfl, ht⟩
    refine ⟨?_, _, ht⟩
    rw [← t5]
    have : (pre s.pr.sk.out c2.pr).sk.out = s.pr.sk.out ++ c2.pr.sk.out := rfl
    rw [this, List.drop_left]
  have HOUT : Hid (s.told ⟨cls N s.pr s.wt, [], s.dp, true⟩ = (cls N s.pr s.wt).sk.out.drop s.pr.sk.out.length) := rfl
  clear h hw hrl hop hpr hb hS hFe hcl hpb hfl hsp hHC hnil hm hsk hcd hpc hb0 hr1 hr2 hr3
  generalize (cls N s.pr s.wt).sk.out.drop s.pr.sk.out.length = OO at *
  go_enter Tryz.func17, Tryz.ntmps17
  go_wp2_with fail
  refine HR.out.mono ?_
  rintro e w1 ⟨rfl, rfl⟩
  go_wp2_with fail
  refine HSE.out.mono ?_
  rintro e w2 ⟨rfl, H2⟩
  go_wp2_with fail
  refine (HPS.out _ H2.out).mono ?_
  rintro e w3 ⟨rfl, H3⟩
  go_wp2_with fail
  refine (HTO.out _ H3.out).mono ?_
  rintro e w4 ⟨rfl, H4⟩
  obtain ⟨c', h4⟩ := H4.out
  obtain ⟨zn, zgs, zqh, zqw, ztot, zi, zev, zft, zv, zen, zhc, zwc, zo, ⟨z0, z1, z2, z3, z4, z5, z6, z7, z8, z9, z10, z11, z12, z13⟩, zb, zp, zl, zk, rfl⟩ := h4.wipe
  have zf : ∀ k, w4.frozen? ⟨g, k, none⟩ = false := h4.cc.2.2.2.2.2.1
  have y0 := zf 0
  have y1 := zf 1
  have y2 := zf 2
  have y3 := zf 3
  have y4 := zf 4
  have y5 := zf 5
  have y6 := zf 6
  have y7 := zf 7
  have y8 := zf 8
  have y9 := zf 9
  have y10 := zf 10
  have y11 := zf 11
  have y12 := zf 12
  have y13 := zf 13
  have HB := hide9 zb
  have HF : Hid (∃ own', Fz own own' w1 w4 ∧ own' g = 2) := by
    obtain ⟨o', _, _, _, _, _, _, k1, k2⟩ := h4
    exact ⟨o', k2, k1.lab⟩
  clear zf zb h4 H4
  go_wp2_with fail
  go_ret2
  have E1 := wipe_blk w4 g _ _ _ _ _ _ _ _ _ _ _ _ _ _ _ HB.out
  obtain ⟨o', q1, q2⟩ := HF.out
  have E2 : Fz own o' w1 (wipe w4 g) := q1.trans ((wipe_fr q2).fz (by omega))
  exact ⟨by rw [HOUT.out]; rfl, E1, o', E2⟩
end

/-! New. -/
set_option maxHeartbeats 1000000 in
theorem newRow_any (w : World) : Calls Tryz.prog 19 #[] w fun e w' => ∃ q, e = .returned (.agg #[.pointer (some ⟨q, 0, none⟩), .int .i64 0]) ∧ w.heap.size ≤ q ∧ w'.heap[q]? = some (.cells #[.int .i64 2097152, .slice none 0 0, .int .i64 0, .int .i64 0] 133 (0, 0)) ∧ Below w.heap.size w w' := by
  have HN : Hid (∀ V, Calls Tryz.prog 37 #[.int .i64 2097152] V fun e w' => e = .returned (.tuple #[.pointer (some ⟨V.heap.size, 0, none⟩), .int .i64 0]) ∧ w' = V.alloc (.cells #[.int .i64 2097152, .slice none 0 0, .int .i64 0, .int .i64 0] 133)) := fun V => newQ 2097152 V (by omega) (by omega)
  go_enter Tryz.func19, Tryz.ntmps19
  go_wp2_with (go_at_call 37; refine (HN.out _).mono ?_; rintro e w1 ⟨rfl, rfl⟩)
  refine bodyPost_ret (v := .agg #[.pointer (some ⟨w.heap.size + 1, 0, none⟩), .int .i64 0]) (by simp [results, Tryz.f19, go_sem]) rfl ?_
  have hb := ((Below.refl w.heap.size w).alloc (Nat.le_refl _) (.cells #[.pointer (some ⟨w.heap.size + 1, 0, none⟩), .int .i64 0] 56)).alloc (by rw [World.size_alloc]; omega) (.cells #[.int .i64 2097152, .slice none 0 0, .int .i64 0, .int .i64 0] 133)
  have hn := new_at (w.alloc (.cells #[.pointer (some ⟨w.heap.size + 1, 0, none⟩), .int .i64 0] 56)) (.cells #[.int .i64 2097152, .slice none 0 0, .int .i64 0, .int .i64 0] 133)
  rw [World.size_alloc] at hn
  exact ⟨w.heap.size + 1, rfl, by omega, hn, hb⟩
set_option maxHeartbeats 1000000 in
theorem newPage_any (n : Int) (w : World) : Calls Tryz.prog 20 #[.int .i64 n] w fun e w' => ∃ q, e = .returned (.agg #[.int .i64 n, .pointer (some ⟨q, 0, none⟩), .int .i64 0, .bool false, .bool false, .slice none 0 0, .bool false]) ∧ w.heap.size ≤ q ∧ w'.heap[q]? = some (.cells (sk false 0 0 (.slice none 0 0) (.slice none 0 0)) 105 (0, 0)) ∧ Below w.heap.size w w' := by
  have HN : Hid (∀ V, Calls Tryz.prog 28 #[] V fun e w' => e = .returned (.pointer (some ⟨V.heap.size, 0, none⟩)) ∧ w' = V.alloc (.cells (sk false 0 0 (.slice none 0 0) (.slice none 0 0)) 105)) := fun V => new_any V
  generalize hsk : sk false 0 0 (.slice none 0 0) (.slice none 0 0) = K at *
  go_enter Tryz.func20, Tryz.ntmps20
  go_wp2_with (go_at_call 28; refine (HN.out _).mono ?_; rintro e w1 ⟨rfl, rfl⟩)
  refine bodyPost_ret (v := .agg #[.int .i64 n, .pointer (some ⟨w.heap.size + 1, 0, none⟩), .int .i64 0, .bool false, .bool false, .slice none 0 0, .bool false]) (by simp [results, Tryz.f20, go_sem]) rfl ?_
  have hb := ((Below.refl w.heap.size w).alloc (Nat.le_refl _) (.cells #[.int .i64 n, .pointer (some ⟨w.heap.size + 1, 0, none⟩), .int .i64 0, .bool false, .bool false, .slice none 0 0, .bool false] 64)).alloc (by rw [World.size_alloc]; omega) (.cells K 105)
  have hn := new_at (w.alloc (.cells #[.int .i64 n, .pointer (some ⟨w.heap.size + 1, 0, none⟩), .int .i64 0, .bool false, .bool false, .slice none 0 0, .bool false] 64)) (.cells K 105)
  rw [World.size_alloc] at hn
  exact ⟨w.heap.size + 1, rfl, by omega, hn, hb⟩
end Go.Proofs.YtmjhfabdbajchaaGreatDoor
