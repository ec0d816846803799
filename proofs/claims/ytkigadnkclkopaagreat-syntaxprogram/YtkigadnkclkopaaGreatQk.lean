import Derived.Test.YtkigadnkclkopaaGreatQ2
set_option linter.unusedVariables false
set_option linter.unusedSimpArgs false
namespace Go.Proofs.YtkigadnkclkopaaGreat
open Go.RowKit

set_option maxHeartbeats 400000 in
theorem pickRow_any {g : Nat} {D : Nat → Prop} {W : World} {b1 b2 b3 : Nat} {r : List Fl} (h : RowB g D W b3 b1 r) (h2 : W.heap[b2]? = some (.cells #[alV b3 b1] 88 (0, 0))) (hr : ∃ k ts rest, r = Fl.wd k ts :: rest) (t : Tv) :
    Calls Tryz.prog 141 #[t.v, pt b1, pt b2] W fun e w' => ∃ u, e = .returned u ∧ PV g D W u (Pk.pick t (.row r)) ∧ Below W.heap.size W w' := by
  obtain ⟨k, ts, rest, hrr⟩ := hr
  have HG : Hid (Rep g D W (alV b3 b1) (.all r)) := .all h
  obtain ⟨ao, cap, xs, x1, x2, x3, x4⟩ := h.ex
  rw [hrr] at x3
  obtain ⟨v0, xs', rfl, hv0, _⟩ : ∃ v0 xs', xs = v0 :: xs' ∧ RepF g D W v0 (.wd k ts) ∧ True := by
    cases x3 with
    | cons hv hl => exact ⟨_, _, rfl, hv, trivial⟩
  obtain ⟨_, b, off, rfl, c0⟩ := x2 0 v0 rfl
  obtain ⟨ao, cp, rfl, hl, hlen⟩ : ∃ ao cp, v0 = wdV k (.slice ao ts.length cp) ∧ Ls W ao ts ∧ ts.length ≤ 1000 := by
    cases hv0 with
    | wd hl hd hlen => exact ⟨_, _, rfl, hl, hlen⟩
  · clear hv0
    have HS : Hid (∀ V, Below W.heap.size W V → Calls Tryz.prog 63 #[.agg #[.int .u8 k, .slice ao ts.length cp], .agg #[.int .u8 t.k, .string t.t, .int .i64 t.a, .int .i64 t.l, .int .i64 t.c, .int .i64 t.f]] V fun r w' => r = .returned (.int .i64 (dd (t.k == k && has ts t.t))) ∧ Below V.heap.size V w') := fun V hb => stand_any k ao ts cp t V (hl.below hb) hlen
    have hp : Pk.pick t (.row r) = if (t.k == k && has ts t.t) then some (.all r) else none := by rw [hrr]; rfl
    rw [hp]
    generalize (t.k == k && has ts t.t) = cb at *
    have y1 : W.cell? ⟨b1, 0, none⟩ = _ := blk_cell x1 rfl
    have y2 : W.cell? ⟨b2, 0, none⟩ = _ := blk_cell h2 rfl
    have z1 := blk_lt x1
    have z2 := blk_lt h2
    have z3 : b < W.heap.size := World.block_lt_of_cell? _ _ c0
    have HY2 : Hid (W.heap[b2]? = some (.cells #[alV b3 b1] 88 (0, 0))) := h2
    have q1 : (0 : Int) < (xs'.length : Int) + 1 := by omega
    clear h h2 hrr x1 x2 x3 x4 hl hp
    have HA : Hid (Below W.heap.size W (W.alloc (.cells #[.int .u8 t.k, .string t.t, .int .i64 t.a, .int .i64 t.l, .int .i64 t.c, .int .i64 t.f] 28)).drew) := (tok_below W t).drew
    rw [Nat.add_zero] at c0
    dsimp only [wdV] at c0
    dsimp only [Tv.v, List.length_cons] at *
    cases cb
    · have e0 : dd false = 0 := rfl
      rw [e0] at HS
      clear e0
      go_enter Tryz.func141, Tryz.ntmps141
      go_wp2_with fail
      go_region_with (go_at_call 63; refine (HS.out _ HA.out).mono ?_; rintro r w1 ⟨rfl, hb1⟩; have HB : Hid (Below W.heap.size W w1) := HA.out.trans (hb1.mono HA.out.size); clear hb1)
      all_goals (
        go_wp2_with fail
        go_ret
        exact ⟨_, rfl, rfl, HB.out⟩)
    · have e0 : dd true = 2 := rfl
      rw [e0] at HS
      clear e0
      go_enter Tryz.func141, Tryz.ntmps141
      go_wp2_with fail
      go_region_with (go_at_call 63; refine (HS.out _ HA.out).mono ?_; rintro r w1 ⟨rfl, hb1⟩; have HB : Hid (Below W.heap.size W w1) := HA.out.trans (hb1.mono HA.out.size); have y5 : w1.cell? ⟨b2, 0, none⟩ = some (alV b3 b1) := blk_cell (blk_below HY2.out (HA.out.trans (hb1.mono HA.out.size))) rfl; clear hb1)
      all_goals (
        go_wp2_with fail
        go_ret
        exact ⟨_, rfl, HG.out, HB.out⟩)

set_option maxHeartbeats 400000 in
theorem pickEx_any {g : Nat} {D : Nat → Prop} {W : World} {b : Nat} {m : M} (h2 : W.heap[b]? = some (.cells #[mtV g m.id] 89 (0, 0))) (t : Tv) :
    Calls Tryz.prog 153 #[t.v, pt b] W fun e w' => ∃ u, e = .returned u ∧ PV g D W u (Pk.pick t (.ex m)) ∧ Below W.heap.size W w' := by
  have HF : Hid (∀ V, Calls Tryz.prog 154 #[.agg #[.int .u8 t.k, .string t.t, .int .i64 t.a, .int .i64 t.l, .int .i64 t.c, .int .i64 t.f]] V fun r w' => r = .returned (.int .u8 (facN t)) ∧ Below V.heap.size V w') := fun V => factorN_any t V
  have HA : Hid (Below W.heap.size W (W.alloc (.cells #[.int .u8 t.k, .string t.t, .int .i64 t.a, .int .i64 t.l, .int .i64 t.c, .int .i64 t.f] 28))) := tok_below W t
  have HY : Hid (W.heap[b]? = some (.cells #[mtV g m.id] 89 (0, 0))) := h2
  have HP : Hid (Pk.pick t (.ex m) = if facN t == 0 then none else some (.fl (.mt m))) := rfl
  rw [HP.out]
  generalize facN t = z at *
  clear HP h2
  dsimp only [Tv.v]
  by_cases hz : (z == 0) = true
  · rw [hz]
    go_enter Tryz.func153, Tryz.ntmps153
    go_wp2_with (go_at_call 154; refine (HF.out _).mono ?_; rintro r w1 ⟨rfl, hb1⟩; have HB : Hid (Below W.heap.size W w1) := HA.out.trans (hb1.mono HA.out.size); clear hb1)
    go_ret
    exact ⟨_, rfl, rfl, HB.out⟩
  · have hz' : (z == 0) = false := by simpa using hz
    clear hz
    rw [hz']
    go_enter Tryz.func153, Tryz.ntmps153
    go_wp2_with (go_at_call 154; refine (HF.out _).mono ?_; rintro r w1 ⟨rfl, hb1⟩; have HB : Hid (Below W.heap.size W w1) := HA.out.trans (hb1.mono HA.out.size); have y5 : w1.cell? ⟨b, 0, none⟩ = some (mtV g m.id) := blk_cell (blk_below HY.out (HA.out.trans (hb1.mono HA.out.size))) rfl; clear hb1)
    go_ret
    exact ⟨_, rfl, .fl (.mt m), HB.out⟩

/-- A function that is entered by a call through its value. -/
abbrev Ent (f : Nat) : Prop := ∀ (args : Array Value) (w : World), (callFunc f args).run Tryz.prog w = .ok (.enter f args) w
/-- x.pick(t). -/
theorem pick_any {g : Nat} {D : Nat → Prop} {W : World} {v : Value} {p : Pk} (h : RepP g D W v p) (t : Tv) : ∃ f fi ca, v = .func (.func f) fi ca ∧ Ent f ∧ ∀ V, Below W.heap.size W V → Calls Tryz.prog f (fi.push t.v ++ ca) V fun e w' => ∃ u, e = .returned u ∧ PV g D V u (Pk.pick t p) ∧ Below V.heap.size V w' := by
  cases h with
  | fn d =>
    cases d with
    | declaration => exact ⟨_, _, _, rfl, enters_of Tryz.func65 (by kernel_rfl) rfl, fun V hb => pdeclaration_any g D t V⟩
    | bracket => exact ⟨_, _, _, rfl, enters_of Tryz.func117 (by kernel_rfl) rfl, fun V hb => bracket_any g D t V⟩
    | detail => exact ⟨_, _, _, rfl, enters_of Tryz.func138 (by kernel_rfl) rfl, fun V hb => pdetail_any g D t V⟩
  | row h1 h2 h3 h4 => exact ⟨_, _, _, rfl, enters_of Tryz.func141 (by kernel_rfl) rfl, fun V hb => pickRow_any (h1.turn (fun _ h => h) (fun k o _ ho => blk_below ho hb)) (blk_below h2 hb) h4 t⟩
  | ex h1 h2 => exact ⟨_, _, _, rfl, enters_of Tryz.func153 (by kernel_rfl) rfl, fun V hb => pickEx_any (blk_below h1 hb) t⟩

end Go.Proofs.YtkigadnkclkopaaGreat
