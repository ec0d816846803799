import Derived.Test.YtkglkhijngpgiaaGreatZx
import Derived.WalkMore
set_option linter.unusedVariables false
set_option linter.unusedSimpArgs false
namespace Go.Proofs.YtkglkhijngpgiaaGreat
open Go.RowKit

theorem ev_cells {W : World} {v : Value} {E : List Ev} (h : Re W v E) {i : Nat} {e : Ev} (hi : E[i]? = some e) : ∃ b cap, v = .slice (some ⟨b, 0, none⟩) E.length cap ∧ b < W.heap.size ∧ W.cell? ⟨b, i * 8, none⟩ = some (.int .u8 e.k) ∧ W.cell? ⟨b, i * 8 + 1, none⟩ = some (.int .u8 e.n) ∧ W.cell? ⟨b, i * 8 + 2, none⟩ = some (.int .u8 e.d.k) ∧ W.cell? ⟨b, i * 8 + 3, none⟩ = some (.string e.d.t) ∧ W.cell? ⟨b, i * 8 + 4, none⟩ = some (.int .i64 e.d.a) ∧ W.cell? ⟨b, i * 8 + 5, none⟩ = some (.int .i64 e.d.l) ∧ W.cell? ⟨b, i * 8 + 6, none⟩ = some (.int .i64 e.d.c) ∧ W.cell? ⟨b, i * 8 + 7, none⟩ = some (.int .i64 e.d.f) := by
  have hil := (List.getElem?_eq_some_iff.1 hi).1
  rcases h.2 with ⟨_, h0⟩ | ⟨b, cap, cur, rfl, _, h2, _⟩
  · omega
  · have hc : ∀ (k : Nat) (u : Value), (ecs E)[k]? = some u → W.cell? ⟨b, k, none⟩ = some u := fun k u hu => by
      have := World.ownsRow.cells h (g := b) rfl k u hu
      rw [Addr.add_lit, Nat.zero_add] at this
      exact this
    exact ⟨b, cap, rfl, blk_lt h2, hc _ _ (flat_at Ev.cs 8 Ev.cs_len E i 0 e _ hi rfl), hc _ _ (flat_at Ev.cs 8 Ev.cs_len E i 1 e _ hi rfl), hc _ _ (flat_at Ev.cs 8 Ev.cs_len E i 2 e _ hi rfl), hc _ _ (flat_at Ev.cs 8 Ev.cs_len E i 3 e _ hi rfl), hc _ _ (flat_at Ev.cs 8 Ev.cs_len E i 4 e _ hi rfl), hc _ _ (flat_at Ev.cs 8 Ev.cs_len E i 5 e _ hi rfl), hc _ _ (flat_at Ev.cs 8 Ev.cs_len E i 6 e _ hi rfl), hc _ _ (flat_at Ev.cs 8 Ev.cs_len E i 7 e _ hi rfl)⟩


set_option maxHeartbeats 2000000 in
set_option maxRecDepth 100000 in
theorem same_ev (va vb : Value) (a : List Ev) (w : World) (hA : Re w va a) (hB : Re w vb a) (ha : a.length ≤ 1000000000000) :
    Calls Tryz.prog 16 #[va, vb] w fun e w' => e = .returned (.bool true) ∧ Below w.heap.size w w' := by
  have HA : Hid (Re w va a) := hA
  have HB : Hid (Re w vb a) := hB
  obtain ⟨ao, ca, hva, _⟩ := hA.shape
  obtain ⟨bo, cb, hvb, _⟩ := hB.shape
  subst hva hvb
  clear hA hB
  go_enter Tryz.func16, Tryz.ntmps16
  go_wp2_with fail
  go_loopw [5] (fun i wr => ∃ k : Nat, k ≤ a.length ∧ i = .int .i64 k ∧ Hid (Below w.heap.size w wr)) (fun i _ => a.length - (intOf i).toNat)
  case atStart => exact ⟨0, by omega, rfl, Below.refl _ _⟩
  case round =>
    obtain ⟨k, hk, rfl, HW⟩ := hrel
    by_cases hlt : k < a.length
    · have q1 : (k : Int) < a.length := by omega
      have q3 : (0 : Int) ≤ k := by omega
      obtain ⟨d, hd⟩ : ∃ d, a[k]? = some d := ⟨_, List.getElem?_eq_getElem hlt⟩
      obtain ⟨ba, oa, ea, ga, c0, c1, c2, c3, c4, c5, c6, c7⟩ := ev_cells (HA.out.below HW.out) hd
      obtain ⟨bb, ob, eb, gb, e0, e1, e2, e3, e4, e5, e6, e7⟩ := ev_cells (HB.out.below HW.out) hd
      cases ea
      cases eb
      clear hd
      obtain ⟨dk, dn, dd, dt, da, dl, dc, df⟩ := d
      simp only at c0 c1 c2 c3 c4 c5 c6 c7 e0 e1 e2 e3 e4 e5 e6 e7
      go_wp2_with fail
      go_quiet (fail)
      go_wp2_with fail
      exact ⟨⟨k + 1, hlt, by go_num, below_dn HW.out _⟩, by simp [intOf]; omega⟩
    · obtain rfl : k = a.length := by omega
      have q1 : ¬ ((a.length : Int) < a.length) := by omega
      go_wp2_with fail
      go_ret
      exact ⟨rfl, HW.out⟩

def Orw (B : Nat) (W : World) (v : Value) (n : Nat) : Prop := ∃ xs, W.ownsRow B 59 8 v n xs
theorem Orw.below {B : Nat} {w w' : World} {v : Value} {n : Nat} (h : Orw B w v n) (hb : Below w.heap.size w w') : Orw B w' v n := by
  obtain ⟨xs, h⟩ := h
  refine ⟨xs, h.1, ?_⟩
  rcases h.2 with h1 | ⟨g, cap, cur, rfl, h2, h3, h4⟩
  · exact .inl h1
  · exact .inr ⟨g, cap, cur, rfl, h2, blk_below h3 hb, h4⟩
theorem Orw.shape {B : Nat} {w : World} {v : Value} {n : Nat} (h : Orw B w v n) : ∃ p cap, v = .slice p n cap ∧ n ≤ cap ∧ cap ≤ maxLen := by
  obtain ⟨xs, h⟩ := h
  rcases h.2 with ⟨rfl, h0⟩ | ⟨b, cap, cur, rfl, _, h3, h4, h5, _⟩
  · exact ⟨none, 0, by rw [h0], by omega, Nat.zero_le _⟩
  · exact ⟨_, cap, rfl, h4, h5⟩
theorem Orw.set {B : Nat} {W : World} {g n cap : Nat} (h : Orw B W (.slice (some ⟨g, 0, none⟩) n cap) n) (k : Nat) (u : Value) : Orw B (W.setCell ⟨g, k, none⟩ u) (.slice (some ⟨g, 0, none⟩) n cap) n := by
  obtain ⟨xs, hx1, hx2⟩ := h
  rcases hx2 with ⟨hv, _⟩ | ⟨g', cap', cur, hv, h1, h2, h3, h4, h5, h6⟩
  · cases hv
  · cases hv
    refine ⟨(cur.setIfInBounds k u).toList.take (n * 8), ?_, .inr ⟨g, cap, _, rfl, h1, blk_set h2 k u, h3, h4, by simpa using h5, rfl⟩⟩
    rw [List.length_take]
    simp
    have := Nat.mul_le_mul_right 8 h3
    omega
/-- What the owner of a row turns. -/
structure Sp (w W : World) (v : Value) (n : Nat) (r : Option Nat) : Prop where
  row : Orw 0 W v n
  kp : Kp (fun k => some k = r) w W
theorem Sp.set {w W : World} {g n cap : Nat} {r : Option Nat} (h : Sp w W (.slice (some ⟨g, 0, none⟩) n cap) n r) (hr : w.heap.size ≤ g ∨ r = some g) (k : Nat) (u : Value) : Sp w (W.setCell ⟨g, k, none⟩ u) (.slice (some ⟨g, 0, none⟩) n cap) n r := by
  refine ⟨h.row.set k u, h.kp.step (Kp.set W g k u) ?_⟩
  rintro j hj rfl
  rcases hr with hr | hr
  · omega
  · exact hr.symm
theorem Sp.cells {w W : World} {g n cap k : Nat} {r : Option Nat} (h : Sp w W (.slice (some ⟨g, 0, none⟩) n cap) n r) (hk : k < n) : (∃ u0 u1 u2 u3 u4 u5 u6 u7, W.cell? ⟨g, k * 8, none⟩ = some u0 ∧ W.cell? ⟨g, k * 8 + 1, none⟩ = some u1 ∧ W.cell? ⟨g, k * 8 + 2, none⟩ = some u2 ∧ W.cell? ⟨g, k * 8 + 3, none⟩ = some u3 ∧ W.cell? ⟨g, k * 8 + 4, none⟩ = some u4 ∧ W.cell? ⟨g, k * 8 + 5, none⟩ = some u5 ∧ W.cell? ⟨g, k * 8 + 6, none⟩ = some u6 ∧ W.cell? ⟨g, k * 8 + 7, none⟩ = some u7) ∧ (∀ j, W.frozen? ⟨g, j, none⟩ = false) := by
  obtain ⟨xs, hx1, hx2⟩ := h.row
  rcases hx2 with ⟨hv, _⟩ | ⟨g', cap', cur, hv, h1, h2, h3, h4, h5, h6⟩
  · cases hv
  · cases hv
    have hin : ∀ j, j < 8 → ∃ u, cur[k * 8 + j]? = some u := fun j hj => ⟨_, Array.getElem?_eq_getElem (by have := Nat.mul_le_mul_right 8 (Nat.le_trans hk h3); omega)⟩
    obtain ⟨u0, e0⟩ := hin 0 (by omega)
    obtain ⟨u1, e1⟩ := hin 1 (by omega)
    obtain ⟨u2, e2⟩ := hin 2 (by omega)
    obtain ⟨u3, e3⟩ := hin 3 (by omega)
    obtain ⟨u4, e4⟩ := hin 4 (by omega)
    obtain ⟨u5, e5⟩ := hin 5 (by omega)
    obtain ⟨u6, e6⟩ := hin 6 (by omega)
    obtain ⟨u7, e7⟩ := hin 7 (by omega)
    exact ⟨⟨u0, u1, u2, u3, u4, u5, u6, u7, blk_cell h2 e0, blk_cell h2 e1, blk_cell h2 e2, blk_cell h2 e3, blk_cell h2 e4, blk_cell h2 e5, blk_cell h2 e6, blk_cell h2 e7⟩, fun j => blk_frozen h2⟩
theorem Sp.some {w W : World} {v : Value} {n k : Nat} {r : Option Nat} (h : Sp w W v n r) (hk : k < n) : ∃ g cap, v = .slice (some ⟨g, 0, none⟩) n cap ∧ g < W.heap.size ∧ n ≤ cap ∧ cap ≤ maxLen := by
  obtain ⟨xs, hx1, hx2⟩ := h.row
  rcases hx2 with ⟨hv, h0⟩ | ⟨g', cap', cur, hv, h1, h2, h3, h4, h5, h6⟩
  · omega
  · exact ⟨g', cap', hv, blk_lt h2, h3, h4⟩
abbrev AS (w W : World) (v : Value) (n : Nat) : Prop :=
    ∀ {ops : Array Oper} {rest : List Oper} {o : Oper} {a : Act} {Q : Exit → Act → World → Prop} (hgd : o.guard = none) (sO xO : Operand) (ho : o.op = .call { callee := .builtin .append, args := #[sO, xO], argTypes := #[38, 38] }) (hs : a.eval sO = v) (hx : a.eval xO = .slice (some ⟨W.heap.size, 0, none⟩) 1 1)
    (h : ∀ g cap w', Sp w w' (.slice (some ⟨g, 0, none⟩) (n + 1) cap) (n + 1) v.ownBlock → (w.heap.size ≤ g ∨ v.ownBlock = some g) → n + 1 ≤ cap → cap ≤ maxLen → g < w'.heap.size → wpList Tryz.prog ops Q rest (a.put o.dst (.slice (some ⟨g, 0, none⟩) (n + 1) cap)) w'),
    wpList Tryz.prog ops Q (o :: rest) a (W.alloc (.cells #[.int .u8 78, .int .u8 0, .int .u8 0, .string ⟨#[]⟩, .int .i64 0, .int .i64 0, .int .i64 0, .int .i64 0] 59))
theorem app_spoil {w W : World} {v : Value} {n : Nat} (H : Sp w W v n v.ownBlock) (hl : n ≤ 1000000000) : AS w W v n := by
  intro ops rest o a Q hgd sO xO ho hs hx h
  obtain ⟨i0, hi, hz0, hz1, hz2⟩ := info_parts Tryz.info59
  have hb : Below W.heap.size W (W.alloc (.cells #[.int .u8 78, .int .u8 0, .int .u8 0, .string ⟨#[]⟩, .int .i64 0, .int .i64 0, .int .i64 0, .int .i64 0] 59)) := (Below.refl _ _).alloc (Nat.le_refl _) _
  obtain ⟨xs, hr⟩ := H.row.below hb
  refine wpList_append_own_at (P := Tryz.prog) (w := W.alloc (.cells #[.int .u8 78, .int .u8 0, .int .u8 0, .string ⟨#[]⟩, .int .i64 0, .int .i64 0, .int .i64 0, .int .i64 0] 59)) hgd sO xO 38 ho 0 59 i0 _ 8 64 Tryz.underlying38 hi hz0 hz1 hz2 rfl (by decide) v _ _ hs hr ⟨W.heap.size, 0, none⟩ 1 1 (ecs [⟨78, 0, ⟨0, ⟨#[]⟩, 0, 0, 0, 0⟩⟩]) hx (by rw [ecs_len]; rfl) ?_ (ecs_one _) (by unfold maxLen; omega) (by omega) (Nat.zero_le _) ?_
  · intro j u hu
    refine World.news_of_block (World.alloc_heap_new _ _) j u ?_
    have e : ecs [⟨78, 0, ⟨0, ⟨#[]⟩, 0, 0, 0, 0⟩⟩] = [.int .u8 78, .int .u8 0, .int .u8 0, .string ⟨#[]⟩, .int .i64 0, .int .i64 0, .int .i64 0, .int .i64 0] := by simp [ecs, flat, Ev.cs]
    rw [e] at hu
    simpa using hu
  · intro v' w' h1 h2 _ h4
    have hk := (H.kp.step (Kp.of_below hb) (fun _ _ h => h)).step (Kp.of_grown h2) (fun _ _ h => h)
    have hS : Sp w w' v' (n + 1) v.ownBlock := ⟨⟨_, h1⟩, hk⟩
    obtain ⟨g, cap, rfl, q1, q2, q3⟩ := hS.some (k := 0) (by omega)
    refine h g cap w' hS ?_ q2 q3 q1
    rcases h4 with h4 | h4
    · right; rw [← h4]; rfl
    · left
      have e : g = (W.alloc (.cells #[.int .u8 78, .int .u8 0, .int .u8 0, .string ⟨#[]⟩, .int .i64 0, .int .i64 0, .int .i64 0, .int .i64 0] 59)).heap.size := by simpa [Value.ownBlock] using h4
      rw [e, World.size_alloc]
      have := H.kp.size
      omega

set_option maxRecDepth 100000 in
set_option maxHeartbeats 1000000 in
theorem spoil_ev (v : Value) (n : Nat) (w : World) (h : Orw 0 w v n) (hl : n ≤ 1000000000) :
    Calls Tryz.prog 17 #[v] w fun e w' => e = .returned (.tuple #[]) ∧ Kp (fun k => some k = v.ownBlock) w w' := by
  have H0 : Hid (Sp w w v n v.ownBlock) := ⟨h, Kp.refl _ _⟩
  obtain ⟨p, c, rfl, hc1, hc2⟩ := h.shape
  clear h
  go_enter Tryz.func17, Tryz.ntmps17
  go_wp2_with fail
  go_loopw [2] (fun i wr => ∃ k : Nat, k ≤ n ∧ i = .int .i64 k ∧ Hid (Sp w wr (.slice p n c) n (Value.slice p n c).ownBlock)) (fun i _ => n - (intOf i).toNat)
  case atStart => exact ⟨0, by omega, rfl, H0⟩
  case round =>
    obtain ⟨k, hk, rfl, HI⟩ := hrel
    by_cases hlt : k < n
    · have q1 : (k : Int) < n := by omega
      have q0 : (0 : Int) ≤ k := by omega
      obtain ⟨g, cap, hv, g1, g2, g3⟩ := HI.out.some hlt
      cases hv
      obtain ⟨⟨u0, u1, u2, u3, u4, u5, u6, u7, x0, x1, x2, x3, x4, x5, x6, x7⟩, hf⟩ := HI.out.cells hlt
      have y0 := hf (k * 8)
      have y1 := hf (k * 8 + 1)
      have y2 := hf (k * 8 + 2)
      have y3 := hf (k * 8 + 3)
      have y4 := hf (k * 8 + 4)
      have y5 := hf (k * 8 + 5)
      have y6 := hf (k * 8 + 6)
      have y7 := hf (k * 8 + 7)
      clear hf
      have HZ : Hid (Sp w ((((((((wr.setCell ⟨g, k * 8, none⟩ (.int .u8 77)).setCell ⟨g, k * 8 + 1, none⟩ (.int .u8 0)).setCell ⟨g, k * 8 + 2, none⟩ (.int .u8 0)).setCell ⟨g, k * 8 + 3, none⟩ (.string ⟨#[]⟩)).setCell ⟨g, k * 8 + 4, none⟩ (.int .i64 0)).setCell ⟨g, k * 8 + 5, none⟩ (.int .i64 0)).setCell ⟨g, k * 8 + 6, none⟩ (.int .i64 0)).setCell ⟨g, k * 8 + 7, none⟩ (.int .i64 0)) (.slice (some ⟨g, 0, none⟩) n c) n (Value.slice (some ⟨g, 0, none⟩) n c).ownBlock) := ((((((((HI.out.set (.inr rfl) _ _).set (.inr rfl) _ _).set (.inr rfl) _ _).set (.inr rfl) _ _).set (.inr rfl) _ _).set (.inr rfl) _ _).set (.inr rfl) _ _).set (.inr rfl) _ _)
      go_wp2_with fail
      exact ⟨⟨k + 1, hlt, by go_num, HZ⟩, by simp [intOf]; omega⟩
    · obtain rfl : k = n := by omega
      have q1 : ¬ ((k : Int) < k) := by omega
      have HAP : Hid (AS w wr (.slice p k c) k) := app_spoil HI.out hl
      have qk : (0 : Int) ≤ k := by omega
      have wk : IntKind.i64.wrap (((k + 1 : Nat) : Int) - 1) = (k : Int) := by rw [IntKind.wrap_i64]; omega
      go_wp2_with (first | (at_builtin; refine HAP.out (by rfl) _ _ (by rfl) (by rfl) (by rfl) ?_; intro g cap w10 HS hg hc3 hc4 hlt; obtain ⟨⟨u0, u1, u2, u3, u4, u5, u6, u7, x0, x1, x2, x3, x4, x5, x6, x7⟩, hf⟩ := HS.cells (k := k) (by omega); have y1 := hf (k * 8 + 1); have HZ : Hid (Sp w (w10.setCell ⟨g, k * 8 + 1, none⟩ (.int .u8 79)) (.slice (some ⟨g, 0, none⟩) (k + 1) cap) (k + 1) (Value.slice p k c).ownBlock) := HS.set hg _ _; clear hf HS))
      go_end0
      exact ⟨rfl, HZ.out.kp⟩

end Go.Proofs.YtkglkhijngpgiaaGreat
