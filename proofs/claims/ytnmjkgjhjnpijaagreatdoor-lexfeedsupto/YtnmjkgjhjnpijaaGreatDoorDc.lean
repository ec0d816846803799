import Derived.Test.YtnmjkgjhjnpijaaGreatDoorDb
set_option linter.unusedVariables false
set_option linter.unusedSimpArgs false
namespace Go.Proofs.YtnmjkgjhjnpijaaGreatDoor
open Go.RowKit

theorem Rt.low {A B : Nat} {w : World} {v : Value} {l : List Tv} (h : Rt B w v l) (hA : A ≤ B) : Rt A w v l := by
  refine ⟨h.1, ?_⟩
  rcases h.2 with h1 | ⟨g, cap, cur, rfl, h2, h3, h4⟩
  · exact .inl h1
  · exact .inr ⟨g, cap, cur, rfl, Nat.le_trans hA h2, h3, h4⟩
theorem at_zero (s : ByteArray) (n : Nat) (hn : n ≤ s.size) (hs : s.size ≤ 2147483647) : aAt 0 (s.extract 0 n) = n := by unfold aAt; rw [size_ext s 0 n hn]; unfold wrap64; omega

/-! spoil. -/
def Orw (B : Nat) (W : World) (v : Value) (n : Nat) : Prop := ∃ xs, W.ownsRow B 43 6 v n xs
theorem Orw.below {B : Nat} {w w' : World} {v : Value} {n : Nat} (h : Orw B w v n) (hb : Below w.heap.size w w') : Orw B w' v n := by
  obtain ⟨xs, h⟩ := h
  refine ⟨xs, h.1, ?_⟩
  rcases h.2 with h1 | ⟨g, cap, cur, rfl, h2, h3, h4⟩
  · exact .inl h1
  · exact .inr ⟨g, cap, cur, rfl, h2, blk_below h3 hb, h4⟩
theorem Orw.shape {B : Nat} {w : World} {v : Value} {n : Nat} (h : Orw B w v n) : ∃ p cap, v = .slice p n cap ∧ n ≤ cap ∧ cap ≤ maxLen := by
  obtain ⟨xs, h⟩ := h
  rcases h.2 with ⟨rfl, h0⟩ | ⟨b, cap, cur, rfl, _, h3, h4, h5, _⟩
  · exact ⟨none, 0, by rw [h0], by omega, Nat.zero_le _⟩
  · exact ⟨_, cap, rfl, h4, h5⟩
theorem Orw.set {B : Nat} {W : World} {g n cap : Nat} (h : Orw B W (.slice (some ⟨g, 0, none⟩) n cap) n) (k : Nat) (u : Value) : Orw B (W.setCell ⟨g, k, none⟩ u) (.slice (some ⟨g, 0, none⟩) n cap) n := by
  obtain ⟨xs, hx1, hx2⟩ := h
  rcases hx2 with ⟨hv, _⟩ | ⟨g', cap', cur, hv, h1, h2, h3, h4, h5, h6⟩
  · cases hv
  · cases hv
    refine ⟨(cur.setIfInBounds k u).toList.take (n * 6), ?_, .inr ⟨g, cap, _, rfl, h1, blk_set h2 k u, h3, h4, by simpa using h5, rfl⟩⟩
    rw [List.length_take]
    simp
    have := Nat.mul_le_mul_right 6 h3
    omega
/-- What the owner of a row turns. -/
structure Sp (w W : World) (v : Value) (n : Nat) (r : Option Nat) : Prop where
  row : Orw 0 W v n
  kp : Kp (fun k => some k = r) w W
theorem Sp.set {w W : World} {g n cap : Nat} {r : Option Nat} (h : Sp w W (.slice (some ⟨g, 0, none⟩) n cap) n r) (hr : w.heap.size ≤ g ∨ r = some g) (k : Nat) (u : Value) : Sp w (W.setCell ⟨g, k, none⟩ u) (.slice (some ⟨g, 0, none⟩) n cap) n r := by
  refine ⟨h.row.set k u, h.kp.step (Kp.set W g k u) ?_⟩
  rintro j hj rfl
  rcases hr with hr | hr
  · omega
  · exact hr.symm
theorem Sp.cells {w W : World} {g n cap k : Nat} {r : Option Nat} (h : Sp w W (.slice (some ⟨g, 0, none⟩) n cap) n r) (hk : k < n) : (∃ u0 u1 u2 u3 u4 u5, W.cell? ⟨g, k * 6, none⟩ = some u0 ∧ W.cell? ⟨g, k * 6 + 1, none⟩ = some u1 ∧ W.cell? ⟨g, k * 6 + 2, none⟩ = some u2 ∧ W.cell? ⟨g, k * 6 + 3, none⟩ = some u3 ∧ W.cell? ⟨g, k * 6 + 4, none⟩ = some u4 ∧ W.cell? ⟨g, k * 6 + 5, none⟩ = some u5) ∧ (∀ j, W.frozen? ⟨g, j, none⟩ = false) := by
  obtain ⟨xs, hx1, hx2⟩ := h.row
  rcases hx2 with ⟨hv, _⟩ | ⟨g', cap', cur, hv, h1, h2, h3, h4, h5, h6⟩
  · cases hv
  · cases hv
    have hin : ∀ j, j < 6 → ∃ u, cur[k * 6 + j]? = some u := fun j hj => ⟨_, Array.getElem?_eq_getElem (by have := Nat.mul_le_mul_right 6 (Nat.le_trans hk h3); omega)⟩
    obtain ⟨u0, e0⟩ := hin 0 (by omega)
    obtain ⟨u1, e1⟩ := hin 1 (by omega)
    obtain ⟨u2, e2⟩ := hin 2 (by omega)
    obtain ⟨u3, e3⟩ := hin 3 (by omega)
    obtain ⟨u4, e4⟩ := hin 4 (by omega)
    obtain ⟨u5, e5⟩ := hin 5 (by omega)
    exact ⟨⟨u0, u1, u2, u3, u4, u5, blk_cell h2 e0, blk_cell h2 e1, blk_cell h2 e2, blk_cell h2 e3, blk_cell h2 e4, blk_cell h2 e5⟩, fun j => blk_frozen h2⟩
theorem Sp.some {w W : World} {v : Value} {n k : Nat} {r : Option Nat} (h : Sp w W v n r) (hk : k < n) : ∃ g cap, v = .slice (some ⟨g, 0, none⟩) n cap ∧ g < W.heap.size ∧ n ≤ cap ∧ cap ≤ maxLen := by
  obtain ⟨xs, hx1, hx2⟩ := h.row
  rcases hx2 with ⟨hv, h0⟩ | ⟨g', cap', cur, hv, h1, h2, h3, h4, h5, h6⟩
  · omega
  · exact ⟨g', cap', hv, blk_lt h2, h3, h4⟩
abbrev AS (w W : World) (v : Value) (n : Nat) : Prop :=
    ∀ {ops : Array Oper} {rest : List Oper} {o : Oper} {a : Act} {Q : Exit → Act → World → Prop} (hgd : o.guard = none) (sO xO : Operand) (ho : o.op = .call { callee := .builtin .append, args := #[sO, xO], argTypes := #[33, 33] }) (hs : a.eval sO = v) (hx : a.eval xO = .slice (some ⟨W.heap.size, 0, none⟩) 1 1)
    (h : ∀ g cap w', Sp w w' (.slice (some ⟨g, 0, none⟩) (n + 1) cap) (n + 1) v.ownBlock → (w.heap.size ≤ g ∨ v.ownBlock = some g) → n + 1 ≤ cap → cap ≤ maxLen → g < w'.heap.size → wpList Tryz.prog ops Q rest (a.put o.dst (.slice (some ⟨g, 0, none⟩) (n + 1) cap)) w'),
    wpList Tryz.prog ops Q (o :: rest) a (W.alloc (.cells #[.int .u8 0, .string ⟨#[98, 101, 104, 105, 110, 100]⟩, .int .i64 0, .int .i64 0, .int .i64 0, .int .i64 0] 43))
theorem app_spoil {w W : World} {v : Value} {n : Nat} (H : Sp w W v n v.ownBlock) (hl : n ≤ 1000000000) : AS w W v n := by
  intro ops rest o a Q hgd sO xO ho hs hx h
  obtain ⟨i0, hi, hz0, hz1, hz2⟩ := info_parts Tryz.info43
  have hb : Below W.heap.size W (W.alloc (.cells #[.int .u8 0, .string ⟨#[98, 101, 104, 105, 110, 100]⟩, .int .i64 0, .int .i64 0, .int .i64 0, .int .i64 0] 43)) := (Below.refl _ _).alloc (Nat.le_refl _) _
  obtain ⟨xs, hr⟩ := H.row.below hb
  refine wpList_append_own_at (P := Tryz.prog) (w := W.alloc (.cells #[.int .u8 0, .string ⟨#[98, 101, 104, 105, 110, 100]⟩, .int .i64 0, .int .i64 0, .int .i64 0, .int .i64 0] 43)) hgd sO xO 33 ho 0 43 i0 _ 6 56 Tryz.underlying33 hi hz0 hz1 hz2 rfl (by decide) v _ _ hs hr ⟨W.heap.size, 0, none⟩ 1 1 (tcs [⟨0, ⟨#[98, 101, 104, 105, 110, 100]⟩, 0, 0, 0, 0⟩]) hx (by rw [tcs_len]; rfl) ?_ (tcs_one _) (by unfold maxLen; omega) (by omega) (Nat.zero_le _) ?_
  · intro j u hu
    refine World.news_of_block (World.alloc_heap_new _ _) j u ?_
    have e : tcs [⟨0, ⟨#[98, 101, 104, 105, 110, 100]⟩, 0, 0, 0, 0⟩] = [.int .u8 0, .string ⟨#[98, 101, 104, 105, 110, 100]⟩, .int .i64 0, .int .i64 0, .int .i64 0, .int .i64 0] := by simp [tcs, flat, Tv.cs]
    rw [e] at hu
    simpa using hu
  · intro v' w' h1 h2 _ h4
    have hk := (H.kp.step (Kp.of_below hb) (fun _ _ h => h)).step (Kp.of_grown h2) (fun _ _ h => h)
    have hS : Sp w w' v' (n + 1) v.ownBlock := ⟨⟨_, h1⟩, hk⟩
    obtain ⟨g, cap, rfl, q1, q2, q3⟩ := hS.some (k := 0) (by omega)
    refine h g cap w' hS ?_ q2 q3 q1
    rcases h4 with h4 | h4
    · right; rw [← h4]; rfl
    · left
      have e : g = (W.alloc (.cells #[.int .u8 0, .string ⟨#[98, 101, 104, 105, 110, 100]⟩, .int .i64 0, .int .i64 0, .int .i64 0, .int .i64 0] 43)).heap.size := by simpa [Value.ownBlock] using h4
      rw [e, World.size_alloc]
      have := H.kp.size
      omega

set_option maxRecDepth 100000 in
set_option maxHeartbeats 1000000 in
theorem spoil_any (v : Value) (n : Nat) (w : World) (h : Orw 0 w v n) (hl : n ≤ 1000000000) :
    Calls Tryz.prog 16 #[v] w fun e w' => e = .returned (.tuple #[]) ∧ Kp (fun k => some k = v.ownBlock) w w' := by
  have H0 : Hid (Sp w w v n v.ownBlock) := ⟨h, Kp.refl _ _⟩
  obtain ⟨p, c, rfl, hc1, hc2⟩ := h.shape
  clear h
  go_enter Tryz.func16, Tryz.ntmps16
  go_wp2_with fail
  go_loopw [2] (fun i wr => ∃ k : Nat, k ≤ n ∧ i = .int .i64 k ∧ Hid (Sp w wr (.slice p n c) n (Value.slice p n c).ownBlock)) (fun i _ => n - (intOf i).toNat)
  case atStart => exact ⟨0, by omega, rfl, H0⟩
  case round =>
    obtain ⟨k, hk, rfl, HI⟩ := hrel
    by_cases hlt : k < n
    · have q1 : (k : Int) < n := by omega
      have q0 : (0 : Int) ≤ k := by omega
      obtain ⟨g, cap, hv, g1, g2, g3⟩ := HI.out.some hlt
      cases hv
      obtain ⟨⟨u0, u1, u2, u3, u4, u5, x0, x1, x2, x3, x4, x5⟩, hf⟩ := HI.out.cells hlt
      have y0 := hf (k * 6)
      have y1 := hf (k * 6 + 1)
      have y2 := hf (k * 6 + 2)
      have y3 := hf (k * 6 + 3)
      have y4 := hf (k * 6 + 4)
      have y5 := hf (k * 6 + 5)
      clear hf
      have HZ : Hid (Sp w ((((((wr.setCell ⟨g, k * 6, none⟩ (.int .u8 0)).setCell ⟨g, k * 6 + 1, none⟩ (.string ⟨#[119, 114, 105, 116, 116, 101, 110]⟩)).setCell ⟨g, k * 6 + 2, none⟩ (.int .i64 0)).setCell ⟨g, k * 6 + 3, none⟩ (.int .i64 0)).setCell ⟨g, k * 6 + 4, none⟩ (.int .i64 0)).setCell ⟨g, k * 6 + 5, none⟩ (.int .i64 0)) (.slice (some ⟨g, 0, none⟩) n c) n (Value.slice (some ⟨g, 0, none⟩) n c).ownBlock) :=
        (((((HI.out.set (.inr rfl) _ _).set (.inr rfl) _ _).set (.inr rfl) _ _).set (.inr rfl) _ _).set (.inr rfl) _ _).set (.inr rfl) _ _
      go_wp2_with fail
      exact ⟨⟨k + 1, hlt, by go_num, HZ⟩, by simp [intOf]; omega⟩
    · obtain rfl : k = n := by omega
      have q1 : ¬ ((k : Int) < k) := by omega
      have HAP : Hid (AS w wr (.slice p k c) k) := app_spoil HI.out hl
      have qk : (0 : Int) ≤ k := by omega
      have wk : IntKind.i64.wrap (((k + 1 : Nat) : Int) - 1) = (k : Int) := by rw [IntKind.wrap_i64]; omega
      go_wp2_with (first | (at_builtin; refine HAP.out (by rfl) _ _ (by rfl) (by rfl) (by rfl) ?_; intro g cap w10 HS hg hc3 hc4 hlt; obtain ⟨⟨u0, u1, u2, u3, u4, u5, x0, x1, x2, x3, x4, x5⟩, hf⟩ := HS.cells (k := k) (by omega); have y5 := hf (k * 6 + 5); have HZ : Hid (Sp w (w10.setCell ⟨g, k * 6 + 5, none⟩ (.int .i64 (-1))) (.slice (some ⟨g, 0, none⟩) (k + 1) cap) (k + 1) (Value.slice p k c).ownBlock) := HS.set hg _ _; clear hf HS))
      go_end0
      exact ⟨rfl, HZ.out.kp⟩

end Go.Proofs.YtnmjkgjhjnpijaaGreatDoor
