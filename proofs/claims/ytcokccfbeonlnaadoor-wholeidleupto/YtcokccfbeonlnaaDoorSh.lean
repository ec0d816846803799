import Derived.Test.YtcokccfbeonlnaaDoorSg
set_option linter.unusedVariables false
set_option linter.unusedSimpArgs false
namespace Go.Proofs.YtcokccfbeonlnaaDoor
open Go.RowKit
open Go.Lib (strCells strCells_length)

def St6.feed (s : St6) (c : Nat) : St6 := ⟨true, c, 0, s.out ++ [10]⟩

/-- The deferred end of a call that gathers. -/
theorem ga_end {own : Nat → Nat} {i : Nat} {w0 w : World} {g c d h : Nat} {b : Bool} {col wait : Int} {tv0 gv0 : Value} {text : List UInt8} {gs : List (Nat × Nat)} (H : Ga own i w0 g c d h (sk b col wait tv0 gv0) w text gs) (htv0 : ∃ p n cap, tv0 = .slice p n cap) (hgv0 : ∃ p n cap, gv0 = .slice p n cap) (hn : Nf own w0) (hlab : own g = i) (hg0 : g < w0.heap.size)
    (u : FrameMode) (s : St6) (hu : Ups 0 gs text.length) (ho : s.out = weave 0 gs text) (hgs : gs.length ≤ sums gs ∧ ∀ x ∈ gs, x.1 < text.length) :
    CallsD Tryd.prog 78 #[.agg #[.bool (!s.fresh), .int .i64 s.col, .int .i64 s.wait], .pointer (some ⟨c, 0, none⟩), .pointer (some ⟨d, 0, none⟩), .pointer (some ⟨h, 0, none⟩)] u w fun e u' w' => u' = u ∧ (e = .returned (.tuple #[]) ∧ Af own i w0 w' g s) := by
  obtain ⟨tv, h1, h2, h3⟩ := H.hc
  obtain ⟨gv, k1, k2, k3⟩ := H.hd
  obtain ⟨p1, c1, e1, _, _⟩ := row_shape h2
  obtain ⟨p2, c2, e2, _, _⟩ := row_shape k2
  refine (cl_end u b (!s.fresh) col wait s.col s.wait c d h g tv0 gv0 tv gv w H.hg h1 k1 H.hh htv0 hgv0 ⟨_, _, _, e1⟩ ⟨_, _, _, e2⟩).mono ?_
  rintro e u' w' ⟨rfl, rfl, a1, a2⟩
  exact ⟨rfl, rfl, H.fin hn hlab hg0 tv gv h2 h3 k2 k3 s a1 a2 hu ho hgs⟩

theorem ga_start {own : Nat → Nat} {i : Nat} {w w' : World} {g c d h : Nat} {sv : Array Value} {tv gv : Value} {text : List UInt8} {gs : List (Nat × Nat)} (hg : w.heap[g]? = some (.cells sv 78 (0, 0))) (h1 : w.ownsRow 0 5 1 tv text.length (bc text) ∧ ∀ k, tv.ownBlock = some k → own k = i) (h2 : w.ownsRow 0 89 2 gv gs.length (flat eg gs) ∧ ∀ k, gv.ownBlock = some k → own k = i)
    (hB : (w'.heap[c]? = some (.cells #[tv] 32 (0, 0)) ∧ w'.heap[d]? = some (.cells #[gv] 76 (0, 0)) ∧ w'.heap[h]? = some (.cells #[.pointer (some ⟨g, 0, none⟩)] 49 (0, 0)) ∧ w.heap.size ≤ c ∧ w.heap.size ≤ d ∧ w.heap.size ≤ h) ∧ Below w.heap.size w w') : Ga own i w g c d h sv w' text gs := by
  obtain ⟨⟨b1, b2, b3, b4, b5, _⟩, hb⟩ := hB
  exact ⟨blk_below hg hb, ⟨tv, b1, row_below h1.1 hb, fun k hk => .inl (h1.2 k hk)⟩, ⟨gv, b2, row_below h2.1 hb, fun k hk => .inl (h2.2 k hk)⟩, b3, Kp.of_below hb, b4, b5⟩

set_option maxHeartbeats 1000000 in
theorem next_any (own : Nat → Nat) (i g : Nat) (s : St6) (c : Nat) (w : World) (h : SK own i w g s) (hn : Nf own w) (hb : s.out.length ≤ 1073741824) :
    Calls Tryd.prog 66 #[.pointer (some ⟨g, 0, none⟩), .int .i64 c] w fun e w' => e = .returned (.tuple #[]) ∧ Af own i w w' g (s.feed c) := by
  have hlt := h.len
  have hlab := h.lab
  obtain ⟨tv, gv, text, gs, h1, h2, h3, h4, h5, h6⟩ := h.ex
  obtain ⟨p1, c1, e1, _, _⟩ := row_shape h2.1
  obtain ⟨p2, c2, e2, _, _⟩ := row_shape h3.1
  have hwl := weave_len h4
  rw [← h5] at hwl
  have h61 := h6.1
  have HG := gather_any g (!s.fresh) s.col s.wait tv gv w h1 ⟨_, _, _, e1⟩ ⟨_, _, _, e2⟩
  have HS : Hid (∀ (w' : World) (c d h : Nat), ((w'.heap[c]? = some (.cells #[tv] 32 (0, 0)) ∧ w'.heap[d]? = some (.cells #[gv] 76 (0, 0)) ∧ w'.heap[h]? = some (.cells #[.pointer (some ⟨g, 0, none⟩)] 49 (0, 0)) ∧ w.heap.size ≤ c ∧ w.heap.size ≤ d ∧ w.heap.size ≤ h) ∧ Below w.heap.size w w') → Ga own i w g c d h (sk (!s.fresh) s.col s.wait tv gv) w' text gs) := fun w' c d h hB => ga_start h1 h2 h3 hB
  have HE : Hid (∀ (w' : World) (cb d h : Nat) (u : FrameMode), Ga own i w g cb d h (sk (!s.fresh) s.col s.wait tv gv) w' (text ++ [10]) gs → CallsD Tryd.prog 78 #[.agg #[.bool false, .int .i64 c, .int .i64 0], .pointer (some ⟨cb, 0, none⟩), .pointer (some ⟨d, 0, none⟩), .pointer (some ⟨h, 0, none⟩)] u w' fun e u' w' => u' = u ∧ (e = .returned (.tuple #[]) ∧ Af own i w w' g (s.feed c))) := fun w' cb d h u H =>
    ga_end H ⟨_, _, _, e1⟩ ⟨_, _, _, e2⟩ hn hlab hlt u (s.feed c) (h4.more (by simp)) (by show s.out ++ [10] = _; rw [h5, weave_app [10] h4]) ⟨h6.1, fun x hx => by have := h6.2 x hx; simp; omega⟩
  have HGH : Hid (Calls Tryd.prog 61 #[.pointer (some ⟨g, 0, none⟩)] w fun e w' => ∃ c d h, e = .returned (.tuple #[.func (.func 76) #[] #[.pointer (some ⟨d, 0, none⟩), .pointer (some ⟨c, 0, none⟩)], .func (.func 77) #[] #[.pointer (some ⟨c, 0, none⟩)], .func (.func 78) #[] #[.pointer (some ⟨c, 0, none⟩), .pointer (some ⟨d, 0, none⟩), .pointer (some ⟨h, 0, none⟩)]]) ∧ Ga own i w g c d h (sk (!s.fresh) s.col s.wait tv gv) w' text gs) := by
    refine HG.mono ?_
    rintro e w' ⟨c, d, h, rfl, hB⟩
    exact ⟨c, d, h, rfl, HS.out _ _ _ _ hB⟩
  have HL : Hid (text.length + 1 ≤ 70368744177664) := by show _ ≤ _; omega
  clear HG HS hn hlab hlt h h1 h2 h3 h4 h5 h6 h61 hwl e1 e2 hb
  go_enter_defers Tryd.func66, Tryd.ntmps66
  go_wp2_with (go_at_call 61; refine HGH.out.mono ?_; rintro e w1 ⟨cb, d, h, rfl, H⟩)
  have HH : Hid (Ga own i w g cb d h (sk (!s.fresh) s.col s.wait tv gv) w1 text gs) := H
  clear H
  refine (HH.out.text ⟨#[10]⟩ HL.out).mono ?_
  rintro e w2 ⟨rfl, H2⟩
  have HD : Hid (Ga own i w g cb d h (sk (!s.fresh) s.col s.wait tv gv) w2 (text ++ [10]) gs) := H2
  clear HH H2
  go_wp2_with fail
  refine leaves_cons (f := 78) (args := #[.agg #[.bool false, .int .i64 c, .int .i64 0], .pointer (some ⟨cb, 0, none⟩), .pointer (some ⟨d, 0, none⟩), .pointer (some ⟨h, 0, none⟩)]) (by simp) (by simp [go_sem]) ?_
  refine (HE.out _ _ _ _ .returning HD.out).mono ?_
  rintro e u' w'' ⟨rfl, rfl, hA⟩
  exact ⟨_, results_none rfl _ _ _, rfl, hA⟩
end Go.Proofs.YtcokccfbeonlnaaDoor
