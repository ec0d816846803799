import Derived.Test.YtcokccfbeonlnaaDoorGa3
import Derived.Laws.AppendOwnNone
import Derived.Lib.RepeatB
import Derived.Deep.RegionHeld3
set_option linter.unusedVariables false
set_option linter.unusedSimpArgs false
namespace Go.Proofs.YtcokccfbeonlnaaDoor
open Go.RowKit
open Go.Lib (strCells strCells_length)

theorem bcheck2 (b : Nat) (w : World) (h0 : w.cell? ⟨b, 0, none⟩ = some (.pointer (some ⟨b, 0, none⟩))) : Calls Tryd.prog 68 #[.pointer (some ⟨b, 0, none⟩)] w fun e w' => e = .returned (.tuple #[]) ∧ w = w' :=
  (bcheck b w h0).mono fun e w' h => ⟨h.1, h.2.symm⟩

/-- The builder at block b. -/
structure Bd (b : Nat) (v : Value) (bs : List UInt8) (w : World) : Prop where
  blk : w.heap[b]? = some (.cells #[.pointer (some ⟨b, 0, none⟩), v] 86 (0, 0))
  row : w.ownsRow 0 5 1 v bs.length (bc bs)

/-- Behind a writing: the builder, and what stands as it stood. -/
def Bw (b : Nat) (v : Value) (bs : List UInt8) (w w' : World) : Prop := ∃ v', Bd b v' bs w' ∧ (v'.ownBlock = v.ownBlock ∨ v'.ownBlock = some w.heap.size) ∧ Kp (fun k => k = b ∨ some k = v.ownBlock) w w'

theorem Bd.put {b : Nat} {v v2 : Value} {bs l : List UInt8} {w w2 : World} (h : Bd b v bs w) (hg : w.grownBy w2 v.ownBlock) (ho : w2.ownsRow 0 5 1 v2 (bs.length + l.length) (bc bs ++ bc l)) (hat : v2.ownBlock = v.ownBlock ∨ v2.ownBlock = some w.heap.size) : Bw b v (bs ++ l) w (w2.setCell ⟨b, 1, none⟩ v2) := by
  have hk := Kp.of_grown hg
  have hne := row_ne h.row h.blk (by decide)
  have hb2 := hk.blk h.blk (fun e => hne e.symm)
  have hne2 := row_ne ho hb2 (by decide)
  refine ⟨v2, ⟨blk_set hb2 1 v2, ?_⟩, hat, ?_⟩
  · rw [List.length_append, bc_app]
    exact (Kp.set w2 b 1 v2).row ho (fun k e1 e2 => hne2 (by rw [e1, e2]))
  · exact (Kp.step (S := fun k => k = b ∨ some k = v.ownBlock) (Kp.refl _ _) hk (fun _ _ h => .inr h)).step (Kp.set w2 b 1 v2) (fun _ _ h => .inl h)

set_option maxHeartbeats 1000000 in
theorem bwrite (b : Nat) (v : Value) (bs l : List UInt8) (ad : Addr) (m c : Nat) (w : World) (h : Bd b v bs w) (hl : l.length = m) (hsrc : ∀ j u, (bc l)[j]? = some u → w.cell? (ad.add j) = some u) (hn : bs.length + m ≤ 70368744177664) :
    Calls Tryd.prog 43 #[.pointer (some ⟨b, 0, none⟩), .slice (some ad) m c] w fun e w' => e = .returned (.tuple #[.int .i64 m, .nilIface]) ∧ Bw b v (bs ++ l) w w' := by
  obtain ⟨i0, hi, hz0, hz1, hz2⟩ := info_parts Tryd.info5
  have c0 : w.cell? ⟨b, 0, none⟩ = some (.pointer (some ⟨b, 0, none⟩)) := blk_cell h.blk rfl
  have c1 : w.cell? ⟨b, 1, none⟩ = some v := blk_cell h.blk rfl
  have hbl := blk_lt h.blk
  obtain ⟨p, cap, rfl, _, _⟩ := row_shape h.row
  have HH : Hid (Bd b (.slice p bs.length cap) bs w) := h
  clear h
  go_enter Tryd.func43, Tryd.ntmps43
  go_wp2_with (first | (go_at_call 68; refine (bcheck2 b w c0).mono ?_; rintro e w1 ⟨rfl, rfl⟩) | (at_builtin; refine wpList_append_own_at (P := Tryd.prog) (w := w) rfl _ _ 32 rfl 0 5 i0 (.int .u8 0) 1 1 Tryd.underlying32 hi hz0 hz1 hz2 rfl (by decide) _ _ _ rfl HH.out.row ad m c (bc l) rfl ?c0 hsrc (bc_one l) ?c3 ?c4 ?c5 ?_))
  case c0 => rw [bc_len, hl, Nat.mul_one]
  case c3 => unfold maxLen; omega
  case c4 => omega
  case c5 => omega
  intro v2 w2 ho2 hg2 _ hat
  have HE : Hid (Bw b (.slice p bs.length cap) (bs ++ l) w (w2.setCell ⟨b, 1, none⟩ v2)) := HH.out.put hg2 (by rw [hl]; exact ho2) hat
  have hb2 := (Kp.of_grown hg2).blk HH.out.blk (fun e => row_ne HH.out.row HH.out.blk (by decide) e.symm)
  have d0 : w2.cell? ⟨b, 0, none⟩ = some (.pointer (some ⟨b, 0, none⟩)) := blk_cell hb2 rfl
  have d1 : w2.cell? ⟨b, 1, none⟩ = some (.slice p bs.length cap) := blk_cell hb2 rfl
  have f1 : w2.frozen? ⟨b, 1, none⟩ = false := blk_frozen hb2
  obtain ⟨p2, cap2, rfl, _, _⟩ := row_shape ho2
  clear ho2 hg2 hat hb2
  go_wp2_with fail
  go_ret2
  exact ⟨rfl, HE.out⟩

set_option maxHeartbeats 1000000 in
theorem bwrite_none (b : Nat) (v : Value) (bs : List UInt8) (w : World) (h : Bd b v bs w) :
    Calls Tryd.prog 43 #[.pointer (some ⟨b, 0, none⟩), .slice none 0 0] w fun e w' => e = .returned (.tuple #[.int .i64 0, .nilIface]) ∧ Bw b v (bs ++ []) w w' := by
  obtain ⟨i0, hi, hz0, hz1, hz2⟩ := info_parts Tryd.info5
  have c0 : w.cell? ⟨b, 0, none⟩ = some (.pointer (some ⟨b, 0, none⟩)) := blk_cell h.blk rfl
  have c1 : w.cell? ⟨b, 1, none⟩ = some v := blk_cell h.blk rfl
  have hbl := blk_lt h.blk
  have f1 : w.frozen? ⟨b, 1, none⟩ = false := blk_frozen h.blk
  have HE : Hid (Bw b v (bs ++ []) w (w.setCell ⟨b, 1, none⟩ v)) := h.put ⟨rfl, rfl, rfl, Nat.le_refl _, fun _ _ _ => rfl⟩ (by simpa [bc] using h.row) (.inl rfl)
  obtain ⟨p, cap, rfl, _, _⟩ := row_shape h.row
  have HH : Hid (Bd b (.slice p bs.length cap) bs w) := h
  clear h
  go_enter Tryd.func43, Tryd.ntmps43
  go_wp2_with (first | (go_at_call 68; refine (bcheck2 b w c0).mono ?_; rintro e w1 ⟨rfl, rfl⟩) | (at_builtin; refine wpList_append_own_none (P := Tryd.prog) (w := w) rfl _ _ 32 rfl 0 5 i0 1 Tryd.underlying32 hi _ _ _ rfl HH.out.row rfl ?_))
  go_ret2
  exact ⟨rfl, HE.out⟩

set_option maxHeartbeats 1000000 in
theorem bwstr (b : Nat) (v : Value) (bs : List UInt8) (t : ByteArray) (w : World) (h : Bd b v bs w) (hn : bs.length + t.size ≤ 70368744177664) :
    Calls Tryd.prog 44 #[.pointer (some ⟨b, 0, none⟩), .string t] w fun e w' => e = .returned (.tuple #[.int .i64 t.size, .nilIface]) ∧ Bw b v (bs ++ t.data.toList) w w' := by
  obtain ⟨i0, hi, hz0, hz1, hz2⟩ := info_parts Tryd.info5
  have c0 : w.cell? ⟨b, 0, none⟩ = some (.pointer (some ⟨b, 0, none⟩)) := blk_cell h.blk rfl
  have c1 : w.cell? ⟨b, 1, none⟩ = some v := blk_cell h.blk rfl
  have hbl := blk_lt h.blk
  obtain ⟨p, cap, rfl, _, _⟩ := row_shape h.row
  have HH : Hid (Bd b (.slice p bs.length cap) bs w) := h
  clear h
  go_enter Tryd.func44, Tryd.ntmps44
  go_wp2_with (first | (go_at_call 68; refine (bcheck2 b w c0).mono ?_; rintro e w1 ⟨rfl, rfl⟩) | (at_builtin; refine wpList_append_string_at (P := Tryd.prog) (w := w) rfl _ _ 32 9 rfl 0 5 i0 Tryd.underlying32 Tryd.underlying9 hi hz0 hz1 hz2 _ _ _ rfl HH.out.row t rfl ?c3 ?c4 ?c5 ?_))
  case c3 => unfold maxLen; omega
  case c4 => omega
  case c5 => omega
  intro v2 w2 ho2 hg2 hat
  have HE : Hid (Bw b (.slice p bs.length cap) (bs ++ t.data.toList) w (w2.setCell ⟨b, 1, none⟩ v2)) := HH.out.put hg2 ho2 hat
  have hb2 := (Kp.of_grown hg2).blk HH.out.blk (fun e => row_ne HH.out.row HH.out.blk (by decide) e.symm)
  have d0 : w2.cell? ⟨b, 0, none⟩ = some (.pointer (some ⟨b, 0, none⟩)) := blk_cell hb2 rfl
  have d1 : w2.cell? ⟨b, 1, none⟩ = some (.slice p bs.length cap) := blk_cell hb2 rfl
  have f1 : w2.frozen? ⟨b, 1, none⟩ = false := blk_frozen hb2
  obtain ⟨p2, cap2, rfl, _, _⟩ := row_shape ho2
  clear ho2 hg2 hat hb2
  go_wp2_with fail
  go_ret2
  exact ⟨rfl, HE.out⟩

/-- The closure that clears the sink. -/
theorem cl_clear (u : FrameMode) (b : Bool) (col wait : Int) (h g : Nat) (tv gv : Value) (w : World) (hg : w.heap[g]? = some (.cells (sk b col wait tv gv) 78 (0, 0))) (hh : w.heap[h]? = some (.cells #[.pointer (some ⟨g, 0, none⟩)] 49 (0, 0))) (htv : ∃ p n cap, tv = .slice p n cap) (hgv : ∃ p n cap, gv = .slice p n cap) :
    CallsD Tryd.prog 40 #[.pointer (some ⟨h, 0, none⟩)] u w fun e u' w' => u' = u ∧ (e = .returned (.tuple #[]) ∧ w' = (w.setCell ⟨g, 3, none⟩ (.slice none 0 0)).setCell ⟨g, 4, none⟩ (.slice none 0 0)) := by
  have g3 : w.cell? ⟨g, 3, none⟩ = some tv := blk_cell hg rfl
  have g4 : w.cell? ⟨g, 4, none⟩ = some gv := blk_cell hg rfl
  have f3 : w.frozen? ⟨g, 3, none⟩ = false := blk_frozen hg
  have f4 : w.frozen? ⟨g, 4, none⟩ = false := blk_frozen hg
  have h0 : w.cell? ⟨h, 0, none⟩ = some (.pointer (some ⟨g, 0, none⟩)) := blk_cell hh rfl
  obtain ⟨p1, n1, k1, rfl⟩ := htv
  obtain ⟨p2, n2, k2, rfl⟩ := hgv
  go_enter_d Tryd.func40, Tryd.ntmps40
  go_wp2_with fail
  go_end0
  exact ⟨rfl, rfl⟩
end Go.Proofs.YtcokccfbeonlnaaDoor
set_option linter.unusedVariables false
set_option linter.unusedSimpArgs false
namespace Go.Proofs.YtcokccfbeonlnaaDoor
open Go.RowKit
open Go.Lib (strCells strCells_length)

theorem add0 (g j : Nat) : (⟨g, 0, none⟩ : Addr).add j = ⟨g, j, none⟩ := by
  unfold Addr.add
  split <;> simp_all

theorem gap_cells {w : World} {gv : Value} {gs : List (Nat × Nat)} (h : w.ownsRow 0 89 2 gv gs.length (flat eg gs)) (k : Nat) (x : Nat × Nat) (hk : gs[k]? = some x) : ∃ tb cap, gv = .slice (some ⟨tb, 0, none⟩) gs.length cap ∧ gs.length ≤ cap ∧ w.cell? ⟨tb, k * 2, none⟩ = some (.int .i64 x.1) ∧ w.cell? ⟨tb, k * 2 + 1, none⟩ = some (.int .i64 x.2) := by
  have hkl := (List.getElem?_eq_some_iff.1 hk).1
  rcases h.2 with ⟨_, h0⟩ | ⟨tb, cap, cur, rfl, _, _, hc, _⟩
  · omega
  · have hcs := h.cells (g := tb) rfl
    refine ⟨tb, cap, rfl, hc, ?_, ?_⟩
    · have := hcs (k * 2 + 0) (.int .i64 x.1) (flat_at eg 2 eg_len gs k 0 x _ hk rfl)
      rw [add0] at this; exact this
    · have := hcs (k * 2 + 1) (.int .i64 x.2) (flat_at eg 2 eg_len gs k 1 x _ hk rfl)
      rw [add0] at this; exact this

theorem sums_take (gs : List (Nat × Nat)) (k : Nat) (x : Nat × Nat) (hk : gs[k]? = some x) : sums (gs.take (k + 1)) = sums (gs.take k) + x.2 := by
  induction gs generalizing k with
  | nil => simp at hk
  | cons y r ih =>
    obtain ⟨a, n⟩ := y
    cases k with
    | zero => simp at hk; subst hk; simp [sums]
    | succ k => simp only [List.take_succ_cons, sums]; rw [ih k (by simpa using hk)]; omega
theorem sums_le (gs : List (Nat × Nat)) (k : Nat) : sums (gs.take k) ≤ sums gs := by
  induction gs generalizing k with
  | nil => simp
  | cons y r ih =>
    obtain ⟨a, n⟩ := y
    cases k with
    | zero => simp [sums]
    | succ k => simp only [List.take_succ_cons, sums]; have := ih k; omega

set_option maxHeartbeats 1000000 in
theorem size_any (g : Nat) (b : Bool) (col wait : Int) (tv gv : Value) (n : Nat) (xs : List Value) (gs : List (Nat × Nat)) (w : World) (hg : w.heap[g]? = some (.cells (sk b col wait tv gv) 78 (0, 0))) (ht : w.ownsRow 0 5 1 tv n xs) (hr : w.ownsRow 0 89 2 gv gs.length (flat eg gs)) (hn : n ≤ 1073741824) (hs : sums gs ≤ 1073741824) (hl : gs.length ≤ 1073741824) :
    Calls Tryd.prog 42 #[.pointer (some ⟨g, 0, none⟩)] w fun e w' => e = .returned (.int .i64 (n + sums gs : Nat)) ∧ Below w.heap.size w w' := by
  have g3 : w.cell? ⟨g, 3, none⟩ = some tv := blk_cell hg rfl
  have g4 : w.cell? ⟨g, 4, none⟩ = some gv := blk_cell hg rfl
  obtain ⟨p1, c1, rfl, _, _⟩ := row_shape ht
  obtain ⟨p2, c2, rfl, _, _⟩ := row_shape hr
  have HR : Hid (w.ownsRow 0 89 2 (.slice p2 gs.length c2) gs.length (flat eg gs)) := hr
  clear ht hr hg
  go_enter Tryd.func42, Tryd.ntmps42
  go_wp2_with fail
  go_loopw [3, 16] (fun m i wr => ∃ k : Nat, k ≤ gs.length ∧ m = .int .i64 (n + sums (gs.take k) : Nat) ∧ i = .int .i64 k ∧ Below w.heap.size w wr) (fun _ i _ => gs.length - (intOf i).toNat)
  case atStart => exact ⟨0, by omega, by simp [sums], rfl, Below.refl _ _⟩
  case round =>
    obtain ⟨k, hk, rfl, rfl, hb⟩ := hrel
    have hsl := sums_le gs k
    by_cases hlt : k < gs.length
    · obtain ⟨x, hx⟩ : ∃ x, gs[k]? = some x := ⟨gs[k], List.getElem?_eq_getElem hlt⟩
      obtain ⟨tb, cap, he, hc, x1, x2⟩ := gap_cells HR.out k x hx
      injection he with e1 e2 e3
      subst e1
      have y1 := (hb.cell (p := ⟨tb, k * 2, none⟩) (World.block_lt_of_cell? _ _ x1)).trans x1
      have y2 := (hb.cell (p := ⟨tb, k * 2 + 1, none⟩) (World.block_lt_of_cell? _ _ x2)).trans x2
      have hst := sums_take gs k x hx
      have hsl2 := sums_le gs (k + 1)
      obtain ⟨a, z⟩ := x
      simp only at y1 y2 hst
      have q1 : (k : Int) < gs.length := by omega
      have HS : Hid (sums (gs.take (k + 1)) = sums (gs.take k) + z) := hst
      have hz : sums (gs.take k) + z ≤ 1073741824 := by omega
      clear x1 x2 hx hst hsl2 e3
      obtain ⟨S, hS⟩ : ∃ S, sums (gs.take k) = S := ⟨_, rfl⟩
      rw [hS] at hsl hz HS ⊢
      clear hS
      go_wp2_with fail
      exact ⟨⟨k + 1, hlt, by rw [HS.out]; go_num, by go_num, hb.alloc hb.size _⟩, by simp [intOf]; omega⟩
    · obtain rfl : k = gs.length := by omega
      have HS : Hid (sums (gs.take gs.length) = sums gs) := by rw [List.take_length]; rfl
      have q1 : ¬ ((gs.length : Int) < gs.length) := by omega
      obtain ⟨S, hS⟩ : ∃ S, sums (gs.take gs.length) = S := ⟨_, rfl⟩
      rw [hS] at hsl HS ⊢
      clear hS
      have HF : Hid ((n : Int) + (S : Int) = (n : Int) + (sums gs : Nat)) := by rw [HS.out]; rfl
      clear HS
      go_wp2_with fail
      go_ret
      exact ⟨congrArg (fun z => Ending.returned (.int .i64 z)) HF.out, hb⟩
end Go.Proofs.YtcokccfbeonlnaaDoor
set_option linter.unusedVariables false
set_option linter.unusedSimpArgs false
namespace Go.Proofs.YtcokccfbeonlnaaDoor
open Go.RowKit
open Go.Lib (strCells strCells_length)

theorem rep_list (n : Nat) : Lib.repeatL [32] n = List.replicate n 32 := by
  induction n with
  | zero => rfl
  | succ n ih => show [32] ++ Lib.repeatL [32] n = _; rw [ih]; rfl
def blanksB (n : Nat) : ByteArray := ⟨(List.replicate n 32).toArray⟩
theorem blanksB_list (n : Nat) : (blanksB n).data.toList = List.replicate n 32 := rfl
theorem blanksB_size (n : Nat) : (blanksB n).size = n := by show (List.replicate n (32 : UInt8)).toArray.size = n; simp
theorem rep_any (n : Nat) (w : World) (hn : n ≤ 1073741824) : Calls Tryd.prog 45 #[.string ⟨#[32]⟩, .int .i64 n] w fun e w' => e = .returned (.string (blanksB n)) ∧ Below w.heap.size w w' := by
  refine (repeat_any ⟨#[32]⟩ n w (by omega) (by show 1 * n ≤ _; omega)).mono ?_
  rintro e w' ⟨rfl, hb⟩
  refine ⟨?_, hb⟩
  show Ending.returned (.string ⟨(Lib.repeatL [32] n).toArray⟩) = _
  rw [rep_list]; rfl

/-- Take's world. -/
structure Tk (w0 : World) (g b : Nat) (bs : List UInt8) (W : World) : Prop where
  lo : Below w0.heap.size w0 W
  hb : W.heap[w0.heap.size]? = some (.cells #[.pointer (some ⟨g, 0, none⟩)] 49 (0, 0))
  bd : ∃ v, Bd b v bs W ∧ ∀ k, v.ownBlock = some k → w0.heap.size ≤ k
  bl : w0.heap.size ≤ b

/-- Blocks of other types than the builder's stand. -/
def Kt (W W' : World) : Prop := ∀ (k : Nat) (cs : Array Value) (T : TypeId) (f : Nat × Nat), W.heap[k]? = some (.cells cs T f) → T ≠ 86 → T ≠ 5 → W'.heap[k]? = some (.cells cs T f)

theorem Tk.below {w0 : World} {g b : Nat} {bs : List UInt8} {W W' : World} (h : Tk w0 g b bs W) (hb : Below W.heap.size W W') : Tk w0 g b bs W' := by
  obtain ⟨v, ⟨h1, h2⟩, h3⟩ := h.bd
  exact ⟨h.lo.trans (hb.mono h.lo.size), blk_below h.hb hb, ⟨v, ⟨blk_below h1 hb, row_below h2 hb⟩, h3⟩, h.bl⟩

theorem Tk.wrote {w0 : World} {g b : Nat} {bs bs' : List UInt8} {W W' : World} {v : Value} (h : Tk w0 g b bs W) (hbd : Bd b v bs W) (hv : ∀ k, v.ownBlock = some k → w0.heap.size ≤ k) (hw : Bw b v bs' W W') : Tk w0 g b bs' W' ∧ Kt W W' := by
  obtain ⟨v', h1, h2, h3⟩ := hw
  have hne : ∀ {x : Array Value} {k : Nat} {T : TypeId} {f : Nat × Nat}, W.heap[k]? = some (.cells x T f) → T ≠ 86 → T ≠ 5 → ¬ (k = b ∨ some k = v.ownBlock) := by
    intro x k T f hk t1 t2 hh
    rcases hh with hh | hh
    · exact ne_of_blk hk hbd.blk t1 hh
    · exact row_ne hbd.row hk t2 hh.symm
  refine ⟨⟨?_, h3.blk h.hb (hne h.hb (by decide) (by decide)), ⟨v', h1, ?_⟩, h.bl⟩, fun k cs T f hk t1 t2 => h3.blk hk (hne hk t1 t2)⟩
  · refine ⟨h3.os.trans h.lo.os, h3.tape.trans h.lo.tape, h3.output.trans h.lo.output, Nat.le_trans h.lo.size h3.size, fun k hk => (h3.block k (Nat.lt_of_lt_of_le hk h.lo.size) ?_).trans (h.lo.block k hk)⟩
    rintro (e | e)
    · have := h.bl; omega
    · have := hv k e.symm; omega
  · intro k hk
    rcases h2 with h2 | h2
    · exact hv k (by rw [← h2]; exact hk)
    · rw [h2] at hk; injection hk with hk; subst hk; exact h.lo.size

theorem Tk.write {w0 : World} {g b : Nat} {bs : List UInt8} {W : World} (h : Tk w0 g b bs W) (l : List UInt8) (ad : Addr) (m c : Nat) (hl : l.length = m) (hsrc : ∀ j u, (bc l)[j]? = some u → W.cell? (ad.add j) = some u) (hn : bs.length + m ≤ 70368744177664) :
    Calls Tryd.prog 43 #[.pointer (some ⟨b, 0, none⟩), .slice (some ad) m c] W fun e w' => e = .returned (.tuple #[.int .i64 m, .nilIface]) ∧ Tk w0 g b (bs ++ l) w' ∧ Kt W w' := by
  obtain ⟨v, h1, h2⟩ := h.bd
  refine (bwrite b v bs l ad m c W h1 hl hsrc hn).mono ?_
  rintro e w' ⟨rfl, hw⟩
  exact ⟨rfl, h.wrote h1 h2 hw⟩
theorem Tk.write_none {w0 : World} {g b : Nat} {bs : List UInt8} {W : World} (h : Tk w0 g b bs W) :
    Calls Tryd.prog 43 #[.pointer (some ⟨b, 0, none⟩), .slice none 0 0] W fun e w' => e = .returned (.tuple #[.int .i64 0, .nilIface]) ∧ Tk w0 g b (bs ++ []) w' ∧ Kt W w' := by
  obtain ⟨v, h1, h2⟩ := h.bd
  refine (bwrite_none b v bs W h1).mono ?_
  rintro e w' ⟨rfl, hw⟩
  exact ⟨rfl, h.wrote h1 h2 hw⟩
theorem Tk.wstr {w0 : World} {g b : Nat} {bs : List UInt8} {W : World} (h : Tk w0 g b bs W) (t : ByteArray) (hn : bs.length + t.size ≤ 70368744177664) :
    Calls Tryd.prog 44 #[.pointer (some ⟨b, 0, none⟩), .string t] W fun e w' => e = .returned (.tuple #[.int .i64 t.size, .nilIface]) ∧ Tk w0 g b (bs ++ t.data.toList) w' ∧ Kt W w' := by
  obtain ⟨v, h1, h2⟩ := h.bd
  refine (bwstr b v bs t W h1 hn).mono ?_
  rintro e w' ⟨rfl, hw⟩
  exact ⟨rfl, h.wrote h1 h2 hw⟩
/-- The bytes of a text's row, from a place on. -/
theorem text_src {w0 W : World} {tv : Value} {text : List UInt8} {tb cap : Nat} (hr : w0.ownsRow 0 5 1 tv text.length (bc text)) (he : tv = .slice (some ⟨tb, 0, none⟩) text.length cap) (hb : Below w0.heap.size w0 W) (f m : Nat) : ∀ j u, (bc ((text.drop f).take m))[j]? = some u → W.cell? ((⟨tb, f, none⟩ : Addr).add j) = some u := by
  intro j u hj
  have h1 : (bc text)[f + j]? = some u := by
    have : (bc ((text.drop f).take m))[j]? = ((bc text).drop f |>.take m)[j]? := by rw [bc_drop, bc_take]
    rw [this] at hj
    have hjm : j < m := by
      have := (List.getElem?_eq_some_iff.1 hj).1
      rw [List.length_take] at this; omega
    rw [List.getElem?_take, if_pos hjm, List.getElem?_drop] at hj
    exact hj
  have h2 := hr.cells (g := tb) (by rw [he]; rfl) (f + j) u h1
  rw [add0] at h2
  have h3 := (hb.cell (p := ⟨tb, f + j, none⟩) (World.block_lt_of_cell? _ _ h2)).trans h2
  have h4 : (⟨tb, f, none⟩ : Addr).add j = ⟨tb, f + j, none⟩ := by
    unfold Addr.add
    split <;> simp_all
  rw [h4]; exact h3
end Go.Proofs.YtcokccfbeonlnaaDoor
set_option linter.unusedVariables false
set_option linter.unusedSimpArgs false
namespace Go.Proofs.YtcokccfbeonlnaaDoor
open Go.RowKit
open Go.Lib (strCells strCells_length)

def St6.take (s : St6) : St6 := ⟨s.fresh, s.col, s.wait, []⟩

theorem take_nil (w : World) : Calls Tryd.prog 24 #[.pointer none] w fun e w' => e = .returned (.string ⟨#[]⟩) ∧ Below w.heap.size w w' := by
  go_enter_defers Tryd.func24, Tryd.ntmps24
  go_wp2_with fail
  exact ⟨_, results_tmp rfl _ _ _, rfl, (Below.refl _ w).alloc (Nat.le_refl _) _⟩

/-- Where the k-th gap stands ahead of. -/
def frmG (gs : List (Nat × Nat)) : Nat → Nat
  | 0 => 0
  | k + 1 => (gs.getD k (0, 0)).1

theorem Ups.drop {gs : List (Nat × Nat)} {n : Nat} {f : Nat} (h : Ups f gs n) : ∀ k, k ≤ gs.length → Ups (if k = 0 then f else frmG gs k) (gs.drop k) n := by
  induction gs generalizing f with
  | nil => intro k hk; obtain rfl : k = 0 := by simpa using hk
           exact h
  | cons x r ih =>
    obtain ⟨a, m⟩ := x
    intro k hk
    cases k with
    | zero => exact h
    | succ k =>
      have := ih h.2 k (by simpa using hk)
      simp only [List.drop_succ_cons]
      cases k with
      | zero => exact this
      | succ k => exact this

theorem weave_step {gs : List (Nat × Nat)} {k a n f : Nat} {t : List UInt8} (h : gs[k]? = some (a, n)) : weave f (gs.drop k) t = (t.drop f).take (a - f) ++ (List.replicate n 32 ++ weave a (gs.drop (k + 1)) t) := by
  obtain ⟨hl, he⟩ := List.getElem?_eq_some_iff.1 h
  rw [List.drop_eq_getElem_cons hl, he]
  rfl
theorem frmG_succ {gs : List (Nat × Nat)} {k a n : Nat} (h : gs[k]? = some (a, n)) : frmG gs (k + 1) = a := by
  show (gs.getD k (0, 0)).1 = a
  rw [List.getD, h]; rfl
theorem frmG_le {gs : List (Nat × Nat)} {k a n m : Nat} (hu : Ups 0 gs m) (h : gs[k]? = some (a, n)) : frmG gs k ≤ a := by
  obtain ⟨hl, he⟩ := List.getElem?_eq_some_iff.1 h
  have := hu.drop k (by omega)
  rw [List.drop_eq_getElem_cons hl, he] at this
  have h1 := this.1
  cases k with
  | zero => exact Nat.zero_le _
  | succ k => simpa using h1
theorem Tk.piece {w0 : World} {g b : Nat} {bs : List UInt8} {W : World} (h : Tk w0 g b bs W) {text : List UInt8} {tb cap : Nat} (hr : w0.ownsRow 0 5 1 (.slice (some ⟨tb, 0, none⟩) text.length cap) text.length (bc text)) (f m c q : Nat) (x y : Value) (hq : W.heap[q]? = some (.cells #[x, y] 89 (0, 0))) (hm : f + m ≤ text.length) (hn : bs.length + m ≤ 70368744177664) :
    Calls Tryd.prog 43 #[.pointer (some ⟨b, 0, none⟩), .slice (some ⟨tb, f, none⟩) m c] W fun e w' => e = .returned (.tuple #[.int .i64 m, .nilIface]) ∧ Hid (Tk w0 g b (bs ++ (text.drop f).take m) w' ∧ w'.heap[q]? = some (.cells #[x, y] 89 (0, 0))) ∧ w'.cell? ⟨q, 0, none⟩ = some x ∧ w'.cell? ⟨q, 1, none⟩ = some y := by
  refine (h.write ((text.drop f).take m) ⟨tb, f, none⟩ m c (by rw [List.length_take, List.length_drop]; omega) (text_src hr rfl h.lo f m) hn).mono ?_
  rintro e w' ⟨rfl, h1, h2⟩
  have := h2 q _ _ _ hq (by decide) (by decide)
  exact ⟨rfl, ⟨h1, this⟩, blk_cell this rfl, blk_cell this rfl⟩

theorem Tk.builder {w0 : World} {g b : Nat} {bs : List UInt8} {W : World} (h : Tk w0 g b bs W) (hb : w0.heap.size + 1 ≤ b) : Lib.IsBuilder 86 5 (w0.heap.size + 1) b (Lib.byteCells bs) W := by
  obtain ⟨v, h1, h2⟩ := h.bd
  refine .inr ⟨hb, v, h1.blk, ?_, row_ne h1.row h1.blk (by decide)⟩
  have hne := row_ne h1.row h.hb (by decide)
  have hr := h1.row
  refine ⟨by rw [Lib.byteCells_length]; simp, ?_⟩
  rw [Lib.byteCells_length]
  rcases hr.2 with h3 | ⟨gg, cap, cur, rfl, _, h4⟩
  · exact .inl h3
  · have h5 := h2 gg rfl
    refine .inr ⟨gg, cap, cur, rfl, ?_, h4⟩
    rcases Nat.eq_or_lt_of_le h5 with h6 | h6
    · exfalso; apply hne; rw [h6]; rfl
    · exact h6

/-- Behind Take the sink holds nothing. -/
theorem taken {own : Nat → Nat} {i : Nat} {w W : World} {g : Nat} {s : St6} {tv gv : Value} (hg : W.heap[g]? = some (.cells (sk (!s.fresh) s.col s.wait tv gv) 78 (0, 0))) (hlab : own g = i) (hn : Nf own w) (hb : Below w.heap.size w W) (hlt : g < w.heap.size) : Af own i w ((W.setCell ⟨g, 3, none⟩ (.slice none 0 0)).setCell ⟨g, 4, none⟩ (.slice none 0 0)) g s.take := by
  have hk : Kp (fun k => k = g) w ((W.setCell ⟨g, 3, none⟩ (.slice none 0 0)).setCell ⟨g, 4, none⟩ (.slice none 0 0)) := ((Kp.of_below hb).step (Kp.set W g 3 (.slice none 0 0)) (fun _ _ h => h)).step (Kp.set _ g 4 (.slice none 0 0)) (fun _ _ h => h)
  refine ⟨own, hn.below hk.size, hk.fr (fun k _ e => by subst e; exact hlab) (fun _ _ => rfl), hlab, .slice none 0 0, .slice none 0 0, [], [], blk_set (blk_set hg 3 _) 4 _, ⟨World.ownsRow_nil _ _ _ _, fun k h => by cases h⟩, ⟨World.ownsRow_nil _ _ _ _, fun k h => by cases h⟩, Nat.zero_le _, rfl, Nat.le_refl _, fun x h => by cases h⟩

theorem row_zero {w : World} {B e sz n : Nat} {v : Value} {xs : List Value} (h : w.ownsRow B e sz v n xs) : w.ownsRow 0 e sz v n xs := by
  refine ⟨h.1, ?_⟩
  rcases h.2 with h1 | ⟨g, cap, cur, rfl, _, h3⟩
  · exact .inl h1
  · exact .inr ⟨g, cap, cur, rfl, Nat.zero_le _, h3⟩

theorem Tk.start {w w1 w2 : World} {g : Nat} (hb1 : Below ((w.alloc (.cells #[.pointer (some ⟨g, 0, none⟩)] 49)).alloc (.cells #[.pointer none, .slice none 0 0] 86)).heap.size ((w.alloc (.cells #[.pointer (some ⟨g, 0, none⟩)] 49)).alloc (.cells #[.pointer none, .slice none 0 0] 86)) w1)
    (hB : Lib.BuilderAt 86 5 (w.heap.size + 1) (w.heap.size + 1) (.pointer (some ⟨w.heap.size + 1, 0, none⟩)) [] w2) (hb2 : Below (w.heap.size + 1) w1 w2) : Tk w g (w.heap.size + 1) [] w2 := by
  have s1 : (w.alloc (.cells #[.pointer (some ⟨g, 0, none⟩)] 49)).heap.size = w.heap.size + 1 := World.size_alloc _ _
  have hbW : Below w.heap.size w ((w.alloc (.cells #[.pointer (some ⟨g, 0, none⟩)] 49)).alloc (.cells #[.pointer none, .slice none 0 0] 86)) := ((Below.refl _ w).alloc (Nat.le_refl _) _).alloc (by omega) _
  have b1 : ((w.alloc (.cells #[.pointer (some ⟨g, 0, none⟩)] 49)).alloc (.cells #[.pointer none, .slice none 0 0] 86)).heap[w.heap.size]? = some (.cells #[.pointer (some ⟨g, 0, none⟩)] 49 (0, 0)) := alloc_at _ _ _ _ (new_at _ _)
  obtain ⟨_, v, h1, h2, h3⟩ := hB
  refine ⟨(hbW.trans (hb1.mono hbW.size)).trans (hb2.mono (by omega)), (hb2.block _ (by omega)).trans (blk_below b1 hb1), ⟨v, ⟨h1, row_zero h2⟩, fun k hk => ?_⟩, by omega⟩
  have := (h2.lt k hk).1
  omega

set_option maxHeartbeats 1000000 in
theorem take_any (own : Nat → Nat) (i g : Nat) (s : St6) (w : World) (h : SK own i w g s) (hn : Nf own w) (hb : s.out.length ≤ 1073741824) :
    Calls Tryd.prog 24 #[.pointer (some ⟨g, 0, none⟩)] w fun e w' => e = .returned (.string ⟨s.out.toArray⟩) ∧ Af own i w w' g s.take := by
  have hlt := h.len
  have hlab := h.lab
  obtain ⟨tv, gv, text, gs, h1, h2, h3, h4, h5, h6, h7⟩ := h.ex
  have hwl := weave_len h4
  rw [← h5] at hwl
  have hr2 := h2.1
  have hr3 := h3.1
  obtain ⟨p1, c1, e1, hc1, hm1⟩ := row_shape hr2
  obtain ⟨p2, c2, e2, hc2, hm2⟩ := row_shape hr3
  obtain ⟨fr, col, wait, out⟩ := s
  simp only at *
  have HSZ : Hid (∀ W, Below w.heap.size w W → Calls Tryd.prog 42 #[.pointer (some ⟨g, 0, none⟩)] W fun e w' => e = .returned (.int .i64 (out.length : Nat)) ∧ Below W.heap.size W w') := by
    intro W hW
    have := size_any g (!fr) col wait tv gv text.length (bc text) gs W ((hW.block g hlt).trans h1) (row_below hr2 hW) (row_below hr3 hW) (by omega) (by omega) (by omega)
    rw [show out.length = text.length + sums gs by omega]
    exact this
  have G3 : Hid (∀ W, Below w.heap.size w W → W.cell? ⟨g, 3, none⟩ = some tv ∧ W.cell? ⟨g, 4, none⟩ = some gv) := fun W hW => ⟨blk_cell ((hW.block g hlt).trans h1) rfl, blk_cell ((hW.block g hlt).trans h1) rfl⟩
  have hmf : ∀ (fn : Fn) (first cap : Array Value) (w : World), (Instr.makeFunc fn first cap).run Tryd.prog w = .ok (.func fn first cap) w := fun _ _ _ _ => rfl
  subst e1 e2
  have HR3 : Hid (w.ownsRow 0 89 2 (.slice p2 gs.length c2) gs.length (flat eg gs)) := hr3
  have HR2 : Hid (w.ownsRow 0 5 1 (.slice p1 text.length c1) text.length (bc text)) := hr2
  have HU : Hid (Ups 0 gs text.length ∧ out = weave 0 gs text ∧ ∀ x ∈ gs, x.1 < text.length) := ⟨h4, h5, h7⟩
  have HFIN : Hid (∀ (W : World), Below w.heap.size w W → W.heap[w.heap.size]? = some (.cells #[.pointer (some ⟨g, 0, none⟩)] 49 (0, 0)) → CallsD Tryd.prog 40 #[.pointer (some ⟨w.heap.size, 0, none⟩)] .returning W fun e u' w' => u' = .returning ∧ (e = .returned (.tuple #[]) ∧ Af own i w w' g (St6.take ⟨fr, col, wait, out⟩))) := by
    intro W hW hh
    have hgW := (hW.block g hlt).trans h1
    refine (cl_clear .returning (!fr) col wait w.heap.size g _ _ W hgW hh ⟨_, _, _, rfl⟩ ⟨_, _, _, rfl⟩).mono ?_
    rintro e u' w' ⟨rfl, rfl, rfl⟩
    exact ⟨rfl, rfl, taken (s := ⟨fr, col, wait, out⟩) hgW hlab hn hW hlt⟩
  have hgl : gs.length ≤ 1073741824 := by omega
  have HWL : Hid (out.length = text.length + sums gs ∧ gs.length ≤ sums gs) := ⟨by omega, h6⟩
  clear h h1 h2 h3 h4 h5 h6 h7 hr2 hr3 hwl hn hlab
  go_enter_defers Tryd.func24, Tryd.ntmps24
  go_wp2_with fail
  have s1 : (w.alloc (.cells #[.pointer (some ⟨g, 0, none⟩)] 49)).heap.size = w.heap.size + 1 := World.size_alloc _ _
  have s2 : ((w.alloc (.cells #[.pointer (some ⟨g, 0, none⟩)] 49)).alloc (.cells #[.pointer none, .slice none 0 0] 86)).heap.size = w.heap.size + 1 + 1 := by rw [World.size_alloc, s1]
  have hbW : Below w.heap.size w ((w.alloc (.cells #[.pointer (some ⟨g, 0, none⟩)] 49)).alloc (.cells #[.pointer none, .slice none 0 0] 86)) := ((Below.refl _ w).alloc (Nat.le_refl _) _).alloc (by omega) _
  have b2 : ((w.alloc (.cells #[.pointer (some ⟨g, 0, none⟩)] 49)).alloc (.cells #[.pointer none, .slice none 0 0] 86)).heap[w.heap.size + 1]? = some (.cells #[.pointer none, .slice none 0 0] 86 (0, 0)) := by rw [← s1]; exact new_at _ _
  refine (HSZ.out _ hbW).mono ?_
  rintro e w1 ⟨rfl, hb1⟩
  have HB1 : Hid (∀ w2, Lib.BuilderAt 86 5 (w.heap.size + 1) (w.heap.size + 1) (.pointer (some ⟨w.heap.size + 1, 0, none⟩)) [] w2 → Below (w.heap.size + 1) w1 w2 → Tk w g (w.heap.size + 1) [] w2) := fun w2 a b => Tk.start hb1 a b
  have HG : Hid (Calls Tryd.prog 41 #[.pointer (some ⟨w.heap.size + 1, 0, none⟩), .int .i64 out.length] w1 fun e w' => e = .returned (.tuple #[]) ∧ (Lib.BuilderAt 86 5 (w.heap.size + 1) (w.heap.size + 1) (.pointer (some ⟨w.heap.size + 1, 0, none⟩)) [] w' ∧ Below (w.heap.size + 1) w1 w')) :=
    bgrow _ _ _ w1 (Nat.le_refl _) (blk_below b2 hb1) (by have := hb1.size; omega) (by omega)
  clear s1 s2 hbW b2 hb1 HSZ
  go_wp2_with fail
  refine HG.out.mono ?_
  rintro e w2 ⟨rfl, hB, hb2⟩
  have HT : Hid (Tk w g (w.heap.size + 1) [] w2) := HB1.out w2 hB hb2
  clear HB1 HG hB hb2
  have g4 := (G3.out w2 HT.out.lo).2
  have g5 : w2.cell? ⟨w.heap.size, 0, none⟩ = some (.pointer (some ⟨g, 0, none⟩)) := blk_cell HT.out.hb rfl
  go_wp2_with fail
  go_loopw [4, 18] (fun f j wr => ∃ k : Nat, k ≤ gs.length ∧ f = .int .i64 (frmG gs k) ∧ j = .int .i64 k ∧ Hid (∃ bs, Tk w g (w.heap.size + 1) bs wr ∧ bs ++ weave (frmG gs k) (gs.drop k) text = out)) (fun _ j _ => gs.length - (intOf j).toNat)
  case atStart => exact ⟨0, by omega, rfl, rfl, [], HT.out, HU.out.2.1.symm⟩
  case round =>
    obtain ⟨k, hk, rfl, rfl, HI⟩ := hrel
    clear HT g4 g5
    by_cases hlt : k < gs.length
    · obtain ⟨⟨a, z⟩, hx⟩ : ∃ x, gs[k]? = some x := ⟨gs[k], List.getElem?_eq_getElem hlt⟩
      obtain ⟨gb, gcap, he, hgc, x1, x2⟩ := gap_cells HR3.out k (a, z) hx
      injection he with e1 e2 e3
      subst e1
      have hal := HU.out.2.2 (a, z) (List.mem_of_getElem? hx)
      simp only at x1 x2 hal
      have hfa := frmG_le HU.out.1 hx
      have hfs := frmG_succ hx
      obtain ⟨tb, rfl⟩ : ∃ tb, p1 = some ⟨tb, 0, none⟩ := by
        rcases HR2.out.2 with ⟨h, h0⟩ | ⟨tb, cap, cur, h, _⟩
        · omega
        · injection h with h _ _; exact ⟨tb, h⟩
      obtain ⟨bs, hTk, hbs⟩ := HI.out
      rw [weave_step hx] at hbs
      have y1 := (hTk.lo.cell (p := ⟨gb, k * 2, none⟩) (World.block_lt_of_cell? _ _ x1)).trans x1
      have y2 := (hTk.lo.cell (p := ⟨gb, k * 2 + 1, none⟩) (World.block_lt_of_cell? _ _ x2)).trans x2
      have q1 : (k : Int) < gs.length := by omega
      obtain ⟨f, hf⟩ : ∃ f, frmG gs k = f := ⟨_, rfl⟩
      rw [hf] at hfa hbs ⊢
      obtain ⟨V, hV⟩ : ∃ V, V = wr.alloc (.cells #[.int .i64 a, .int .i64 z] 89) := ⟨_, rfl⟩
      have hVq : V.heap[wr.heap.size]? = some (.cells #[.int .i64 a, .int .i64 z] 89 (0, 0)) := by rw [hV]; exact new_at _ _
      have hTV : Tk w g (w.heap.size + 1) bs V := hTk.below (by rw [hV]; exact (Below.refl _ _).alloc (Nat.le_refl _) _)
      have hlen : out.length = bs.length + (a - f) + z + (weave a (gs.drop (k + 1)) text).length := by
        rw [← hbs]
        simp only [List.length_append, List.length_take, List.length_drop, List.length_replicate]; omega
      have HP : Hid (Calls Tryd.prog 43 #[.pointer (some ⟨w.heap.size + 1, 0, none⟩), .slice (some ⟨tb, f, none⟩) (a - f) (c1 - f)] V.drew fun e w' => e = .returned (.tuple #[.int .i64 (a - f : Nat), .nilIface]) ∧ Hid (Tk w g (w.heap.size + 1) (bs ++ (text.drop f).take (a - f)) w' ∧ w'.heap[wr.heap.size]? = some (.cells #[.int .i64 a, .int .i64 z] 89 (0, 0))) ∧ (w'.cell? ⟨w.heap.size, 0, none⟩ = some (.pointer (some ⟨g, 0, none⟩)) ∧ w'.cell? ⟨g, 3, none⟩ = some (.slice (some ⟨tb, 0, none⟩) text.length c1) ∧ w'.cell? ⟨wr.heap.size, 0, none⟩ = some (.int .i64 a)) ∧ w'.cell? ⟨wr.heap.size, 1, none⟩ = some (.int .i64 z)) := by
        refine (Tk.piece (W := V.drew) (hTV.below (Below.drew (Below.refl _ _))) HR2.out f (a - f) (c1 - f) wr.heap.size _ _ hVq (by omega) (by omega)).mono ?_
        rintro e w' ⟨rfl, HK, k0, k1⟩
        exact ⟨rfl, HK, ⟨blk_cell HK.out.1.hb rfl, (G3.out w' HK.out.1.lo).1, k0⟩, k1⟩
      have v1 : V.cell? ⟨w.heap.size, 0, none⟩ = some (.pointer (some ⟨g, 0, none⟩)) := blk_cell hTV.hb rfl
      have v2 := (G3.out V hTV.lo).1
      have v3 : V.cell? ⟨wr.heap.size, 0, none⟩ = some (.int .i64 a) := blk_cell hVq rfl
      have HBS : Hid (bs ++ (List.take (a - f) (List.drop f text) ++ (List.replicate z 32 ++ weave a (List.drop (k + 1) gs) text)) = out ∧ out.length = bs.length + (a - f) + z + (weave a (gs.drop (k + 1)) text).length ∧ frmG gs (k + 1) = a) := ⟨hbs, hlen, hfs⟩
      have HVV : Hid (V = wr.alloc (.cells #[.int .i64 a, .int .i64 z] 89)) := hV
      clear hV hVq hTV hTk hbs hlen HI x1 x2 hx hf hfs e3
      go_wp2_with fail
      rw [← HVV.out]
      have i1 : (f : Int) ≤ a := by omega
      have i2 : (a : Int) ≤ c1 := by omega
      have i3 : f < c1 := by omega
      have i4 : a ≤ c1 := by omega
      have i5 : ¬ (c1 - f = 0) := by omega
      have i6 : (0 : Int) ≤ f := by omega
      have i7 : ¬ (c1 = f) := by omega
      go_region_held3 (fun w' => w'.cell? ⟨w.heap.size, 0, none⟩ = some (.pointer (some ⟨g, 0, none⟩)) ∧ w'.cell? ⟨g, 3, none⟩ = some (.slice (some ⟨tb, 0, none⟩) text.length c1) ∧ w'.cell? ⟨wr.heap.size, 0, none⟩ = some (.int .i64 a)) (first | assumption | (exact ⟨v1, v2, v3⟩) | go_keep) (first | (go_at_call 43; (try rw [if_neg i7]); refine HP.out.mono ?_; rintro e w3 ⟨rfl, HT3, z0, z1⟩))
      clear HP v1 v2 v3 z0 HVV
      have hz : z ≤ 1073741824 := by have := HBS.out.2.1; omega
      go_wp2_with fail
      refine (rep_any z w3 hz).mono ?_
      rintro e w4 ⟨rfl, hb4⟩
      have HT4 : Hid (Tk w g (w.heap.size + 1) (bs ++ (text.drop f).take (a - f)) w4 ∧ w4.heap[wr.heap.size]? = some (.cells #[.int .i64 a, .int .i64 z] 89 (0, 0))) := ⟨HT3.out.1.below hb4, blk_below HT3.out.2 hb4⟩
      have HW : Hid (Calls Tryd.prog 44 #[.pointer (some ⟨w.heap.size + 1, 0, none⟩), .string (blanksB z)] w4 fun e w' => e = .returned (.tuple #[.int .i64 z, .nilIface]) ∧ Hid (Tk w g (w.heap.size + 1) ((bs ++ (text.drop f).take (a - f)) ++ List.replicate z 32) w') ∧ w'.cell? ⟨wr.heap.size, 0, none⟩ = some (.int .i64 a)) := by
        refine (HT4.out.1.wstr (blanksB z) (by rw [blanksB_size, List.length_append, List.length_take]; have := HBS.out.2.1; omega)).mono ?_
        rintro e w' ⟨rfl, h1, h2⟩
        exact ⟨by rw [blanksB_size], h1, blk_cell (h2 _ _ _ _ HT4.out.2 (by decide) (by decide)) rfl⟩
      clear hb4 HT3 z1 HT4
      go_wp2_with fail
      refine HW.out.mono ?_
      rintro e w5 ⟨rfl, HT5, u0⟩
      clear HW
      go_wp2_with fail
      refine ⟨⟨k + 1, hlt, by rw [HBS.out.2.2], by go_num, _, HT5.out, ?_⟩, by simp [intOf]; omega⟩
      rw [HBS.out.2.2]
      have := HBS.out.1
      simp only [List.append_assoc] at this ⊢
      exact this
    · obtain rfl : k = gs.length := by omega
      obtain ⟨bs, hTk, hbs⟩ := HI.out
      have hfl : frmG gs gs.length ≤ text.length := by
        have := (HU.out.1.drop gs.length (Nat.le_refl _)).le
        split at this
        · rename_i h0; rw [h0]; exact Nat.zero_le _
        · exact this
      rw [List.drop_length] at hbs
      have q1 : ¬ ((gs.length : Int) < gs.length) := by omega
      obtain ⟨f, hf⟩ : ∃ f, frmG gs gs.length = f := ⟨_, rfl⟩
      rw [hf] at hfl hbs ⊢
      have HBS : Hid (bs ++ text.drop f = out) := hbs
      have v1 : wr.cell? ⟨w.heap.size, 0, none⟩ = some (.pointer (some ⟨g, 0, none⟩)) := blk_cell hTk.hb rfl
      have v2 := (G3.out wr hTk.lo).1
      have HTK : Hid (Tk w g (w.heap.size + 1) bs wr) := hTk
      clear hTk HI hbs hf
      have KEND : Hid (∀ W, Tk w g (w.heap.size + 1) out W → Calls Tryd.prog 46 #[.pointer (some ⟨w.heap.size + 1, 0, none⟩)] W fun e w' => e = .returned (.string ⟨out.toArray⟩) ∧ Hid (Below w.heap.size w w' ∧ w'.heap[w.heap.size]? = some (.cells #[.pointer (some ⟨g, 0, none⟩)] 49 (0, 0)))) := by
        intro W hW
        have hsz := blk_lt hW.hb
        refine (bstring (w.heap.size + 1) (w.heap.size + 1) out W (hW.builder (Nat.le_refl _)) (by omega)).mono ?_
        rintro e w' ⟨rfl, hb⟩
        exact ⟨rfl, hW.lo.trans (hb.mono (by omega)), (hb.block _ (by omega)).trans hW.hb⟩
      rcases HR2.out.2 with ⟨h, h0⟩ | ⟨tb, cap, cur, h, _⟩
      · injection h with h1 h2 h3
        subst h1
        subst h3
        obtain rfl : f = 0 := by omega
        have KW : Hid (Calls Tryd.prog 43 #[.pointer (some ⟨w.heap.size + 1, 0, none⟩), .slice none 0 0] wr fun e w' => e = .returned (.tuple #[.int .i64 0, .nilIface]) ∧ Hid (Tk w g (w.heap.size + 1) out w')) := by
          refine HTK.out.write_none.mono ?_
          rintro e w' ⟨rfl, h4, _⟩
          have : bs ++ [] = out := by rw [← HBS.out, List.eq_nil_of_length_eq_zero h0]; rfl
          rw [this] at h4
          exact ⟨rfl, h4⟩
        rw [h0] at v2
        go_wp2_with fail
        refine KW.out.mono ?_
        rintro e w5 ⟨rfl, HT5⟩
        clear v1 v2 KW
        go_wp2_with fail
        refine (KEND.out w5 HT5.out).mono ?_
        rintro e w6 ⟨rfl, H6⟩
        go_wp2_with fail
        refine leaves_cons (f := 40) (args := #[.pointer (some ⟨w.heap.size, 0, none⟩)]) (by simp) (by simp [go_sem]) ?_
        refine (HFIN.out w6 H6.out.1 H6.out.2).mono ?_
        rintro e u' w'' ⟨rfl, rfl, hA⟩
        exact ⟨_, results_tmp rfl _ _ _, rfl, hA⟩
      · injection h with h1 h2 h3
        subst h1
        clear h2 h3
        have i1 : (f : Int) ≤ text.length := by omega
        have i2 : (text.length : Int) ≤ c1 := by omega
        have i3 : f ≤ c1 := by omega
        have hl2 : bs.length + (text.length - f) ≤ 1073741824 := by
          have : (bs ++ text.drop f).length = out.length := by rw [HBS.out]
          rw [List.length_append, List.length_drop] at this; omega
        by_cases hc : c1 = f
        · have KW : Hid (Calls Tryd.prog 43 #[.pointer (some ⟨w.heap.size + 1, 0, none⟩), .slice (some ⟨tb, 0, none⟩) (text.length - f) 0] wr fun e w' => e = .returned (.tuple #[.int .i64 (text.length - f : Nat), .nilIface]) ∧ Hid (Tk w g (w.heap.size + 1) out w')) := by
            obtain rfl : f = text.length := by omega
            refine (HTK.out.write [] ⟨tb, 0, none⟩ (text.length - text.length) 0 (by simp) (fun j u h => by simp [bc] at h) (by omega)).mono ?_
            rintro e w' ⟨rfl, h4, _⟩
            have h5 := HBS.out
            rw [List.drop_length] at h5
            rw [h5] at h4
            exact ⟨rfl, h4⟩
          go_wp2_with fail
          refine KW.out.mono ?_
          rintro e w5 ⟨rfl, HT5⟩
          clear v1 v2 KW
          go_wp2_with fail
          refine (KEND.out w5 HT5.out).mono ?_
          rintro e w6 ⟨rfl, H6⟩
          go_wp2_with fail
          refine leaves_cons (f := 40) (args := #[.pointer (some ⟨w.heap.size, 0, none⟩)]) (by simp) (by simp [go_sem]) ?_
          refine (HFIN.out w6 H6.out.1 H6.out.2).mono ?_
          rintro e u' w'' ⟨rfl, rfl, hA⟩
          exact ⟨_, results_tmp rfl _ _ _, rfl, hA⟩
        · have KW : Hid (Calls Tryd.prog 43 #[.pointer (some ⟨w.heap.size + 1, 0, none⟩), .slice (some ⟨tb, f, none⟩) (text.length - f) (c1 - f)] wr fun e w' => e = .returned (.tuple #[.int .i64 (text.length - f : Nat), .nilIface]) ∧ Hid (Tk w g (w.heap.size + 1) out w')) := by
            have hsrc := text_src HR2.out rfl HTK.out.lo f (text.length - f)
            rw [List.take_of_length_le (by rw [List.length_drop]; omega)] at hsrc
            refine (HTK.out.write (text.drop f) ⟨tb, f, none⟩ (text.length - f) (c1 - f) (by rw [List.length_drop]) hsrc (by omega)).mono ?_
            rintro e w' ⟨rfl, h4, _⟩
            rw [HBS.out] at h4
            exact ⟨rfl, h4⟩
          go_wp2_with fail
          refine KW.out.mono ?_
          rintro e w5 ⟨rfl, HT5⟩
          clear v1 v2 KW
          go_wp2_with fail
          refine (KEND.out w5 HT5.out).mono ?_
          rintro e w6 ⟨rfl, H6⟩
          go_wp2_with fail
          refine leaves_cons (f := 40) (args := #[.pointer (some ⟨w.heap.size, 0, none⟩)]) (by simp) (by simp [go_sem]) ?_
          refine (HFIN.out w6 H6.out.1 H6.out.2).mono ?_
          rintro e u' w'' ⟨rfl, rfl, hA⟩
          exact ⟨_, results_tmp rfl _ _ _, rfl, hA⟩
end Go.Proofs.YtcokccfbeonlnaaDoor
set_option linter.unusedVariables false
set_option linter.unusedSimpArgs false
namespace Go.Proofs.YtcokccfbeonlnaaDoor
open Go.RowKit
open Go.Lib (strCells strCells_length)

def St6.blanks (s : St6) (n : Nat) : St6 := { s with wait := s.wait + n }
theorem push_bytes (l : List UInt8) : ∀ s : ByteArray, (l.map (fun b : UInt8 => (b.toNat : Int))).foldl (fun r n => r.push (UInt8.ofNat n.toNat)) s = ⟨(s.data.toList ++ l).toArray⟩ := by
  induction l with
  | nil => intro s; simp
  | cons b l ih =>
    intro s
    rw [List.map_cons, List.foldl_cons, ih]
    simp
theorem conv_bytes (w : World) (B : Nat) (v : Value) (l : List UInt8) (hv : w.ownsRow B 5 1 v l.length (bc l)) : (convert 32 9 v).run Tryd.prog w = .ok (.string ⟨l.toArray⟩) w := by
  have hv0 := row_zero hv
  rcases hv.2 with ⟨rfl, h0⟩ | ⟨g, cp, cur, rfl, h2⟩
  · have e : l = [] := List.eq_nil_of_length_eq_zero h0
    rw [run_convert_bytes_string (P := Tryd.prog) w 32 9 5 _ _ _ Tryd.underlying32 Tryd.underlying5 Tryd.underlying9, e]
    rfl
  · rw [run_convert_bytes_string (P := Tryd.prog) w 32 9 5 _ _ _ Tryd.underlying32 Tryd.underlying5 Tryd.underlying9]
    have hload := run_loadCells_list (P := Tryd.prog) w ⟨g, 0, none⟩ (bc l) (hv.cells rfl)
    rw [bc_len] at hload
    rw [run_bytesToString (P := Tryd.prog) w ⟨g, 0, none⟩ l.length cp (l.map (fun b : UInt8 => (b.toNat : Int))) (by rw [hload]; simp [bc, List.map_map, Function.comp_def]), push_bytes]
    rfl

end Go.Proofs.YtcokccfbeonlnaaDoor
set_option linter.unusedVariables false
set_option linter.unusedSimpArgs false
namespace Go.Proofs.YtcokccfbeonlnaaDoor
open Go.RowKit
open Go.Lib (strCells strCells_length)

/-- What the walks of the laws want of the world and its labels. -/
structure En (own : Nat → Nat) (w : World) : Prop where
  nf : Nf own w
  tab : Tab w
  z : own 0 = 0
theorem Tab.pos {w : World} (h : Tab w) : 0 < w.heap.size := World.block_lt_of_cell? w _ (h 0 (by omega)).1
theorem En.fr {own own' : Nat → Nat} {w w' : World} {i : Nat} (h : En own w) (hi : i ≠ 0) (hn : Nf own' w') (hf : Fr i own own' w w') : En own' w' :=
  ⟨hn, hf.tab h.tab (by rw [h.z]; exact fun e => hi e.symm), (hf.old 0 h.tab.pos).trans h.z⟩
theorem En.below {own : Nat → Nat} {w w' : World} (h : En own w) (hb : Below w.heap.size w w') : En own w' := ⟨h.nf.below hb.size, h.tab.below hb, h.z⟩

/-- Behind a call on the code's sink. -/
def Ae (own : Nat → Nat) (i : Nat) (w w' : World) (g : Nat) (s : St6) : Prop := ∃ own', En own' w' ∧ Fr i own own' w w' ∧ SK own' i w' g s
theorem Af.ae {own : Nat → Nat} {i : Nat} {w w' : World} {g : Nat} {s : St6} (h : Af own i w w' g s) (hE : En own w) (hi : i ≠ 0) : Ae own i w w' g s := by
  obtain ⟨own', h1, h2, h3⟩ := h
  exact ⟨own', hE.fr hi h1 h2, h2, h3⟩

def st0 : St6 := ⟨true, 0, 0, []⟩

theorem new_st (own : Nat → Nat) (i : Nat) (w : World) (hE : En own w) (hi : i ≠ 0) : Calls Tryd.prog 22 #[] w fun e w' => e = .returned (.pointer (some ⟨w.heap.size, 0, none⟩)) ∧ Ae own i w w' w.heap.size st0 := by
  refine (new_any w).mono ?_
  rintro e w' ⟨rfl, rfl⟩
  have hb : Below w.heap.size w (w.alloc (.cells (sk false 0 0 (.slice none 0 0) (.slice none 0 0)) 78)) := (Below.refl _ _).alloc (Nat.le_refl _) _
  have hs : (w.alloc (.cells (sk false 0 0 (.slice none 0 0) (.slice none 0 0)) 78)).heap.size = w.heap.size + 1 := World.size_alloc _ _
  have hf : Fr i own (fun k => if k = w.heap.size then i else own k) w (w.alloc (.cells (sk false 0 0 (.slice none 0 0) (.slice none 0 0)) 78)) := ⟨hb.os, hb.tape, hb.output, hb.size, fun k hk _ => hb.block k hk, fun k hk => if_neg (by omega)⟩
  refine ⟨rfl, _, hE.fr hi ?_ hf, hf, if_pos rfl, .slice none 0 0, .slice none 0 0, [], [], new_at _ _, ⟨World.ownsRow_nil _ _ _ _, fun k h => by cases h⟩, ⟨World.ownsRow_nil _ _ _ _, fun k h => by cases h⟩, Nat.zero_le _, rfl, Nat.le_refl _, fun x h => by cases h⟩
  intro k hk
  rw [hs] at hk
  show (if k = w.heap.size then i else own k) = 0
  rw [if_neg (by omega)]; exact hE.nf k (by omega)

section
variable {own : Nat → Nat} {i : Nat} {g : Nat} {s : St6} {w : World}
theorem text_st (h : SK own i w g s) (hE : En own w) (hi : i ≠ 0) (t : ByteArray) (hb : s.out.length + s.col + s.wait + t.size ≤ 1073741824) :
    Calls Tryd.prog 34 #[.pointer (some ⟨g, 0, none⟩), .string t] w fun e w' => e = .returned (.int .i64 0) ∧ Ae own i w w' g (s.text t) :=
  (text_any own i g s t w h hE.nf hE.tab hb).mono fun e w' ⟨h1, h2⟩ => ⟨h1, h2.ae hE hi⟩
theorem feed_st (h : SK own i w g s) (hE : En own w) (hi : i ≠ 0) (c : Nat) (hc : c ≤ 1048576) (hb : s.out.length ≤ 1073741824) :
    Calls Tryd.prog 65 #[.pointer (some ⟨g, 0, none⟩), .int .i64 c] w fun e w' => e = .returned (.int .i64 0) ∧ Ae own i w w' g (s.feed c) :=
  (feed_any own i g s c w h hE.nf hc hb).mono fun e w' ⟨h1, h2⟩ => ⟨h1, h2.ae hE hi⟩
theorem empty_st (h : SK own i w g s) (hE : En own w) (hi : i ≠ 0) (hb : s.out.length ≤ 1073741824) :
    Calls Tryd.prog 38 #[.pointer (some ⟨g, 0, none⟩)] w fun e w' => e = .returned (.int .i64 0) ∧ Ae own i w w' g s.empty :=
  (empty_any own i g s w h hE.nf hb).mono fun e w' ⟨h1, h2⟩ => ⟨h1, h2.ae hE hi⟩
theorem take_st (h : SK own i w g s) (hE : En own w) (hi : i ≠ 0) (hb : s.out.length ≤ 1073741824) :
    Calls Tryd.prog 24 #[.pointer (some ⟨g, 0, none⟩)] w fun e w' => e = .returned (.string ⟨s.out.toArray⟩) ∧ Ae own i w w' g s.take :=
  (take_any own i g s w h hE.nf hb).mono fun e w' ⟨h1, h2⟩ => ⟨h1, h2.ae hE hi⟩
theorem blanks_st (h : SK own i w g s) (hE : En own w) (hi : i ≠ 0) (n : Nat) (hn : n ≤ 1048576) (hb : s.wait ≤ 1073741824) :
    Calls Tryd.prog 64 #[.pointer (some ⟨g, 0, none⟩), .int .i64 n] w fun e w' => e = .returned (.int .i64 0) ∧ Ae own i w w' g (s.blanks n) := by
  obtain ⟨tv, gv, text, gs, h1, h2, h3, h4⟩ := h.ex
  refine (blanks_any g (!s.fresh) s.col s.wait n tv gv w h1 (by omega) (by omega) (by omega) (by omega)).mono ?_
  rintro e w' ⟨rfl, rfl⟩
  have hk := Kp.set w g 2 (.int .i64 ((s.wait : Int) + n))
  have hf : Fr i own own w (w.setCell ⟨g, 2, none⟩ (.int .i64 ((s.wait : Int) + n))) := hk.fr (fun k _ e => by subst e; exact h.lab) (fun _ _ => rfl)
  have r1 := row_ne h2.1 h1 (by decide)
  have r2 := row_ne h3.1 h1 (by decide)
  refine ⟨rfl, own, hE.fr hi (hE.nf.below hk.size) hf, hf, h.lab, tv, gv, text, gs, ?_, ⟨hk.row h2.1 (fun k e1 e2 => r1 (by rw [e1, e2])), h2.2⟩, ⟨hk.row h3.1 (fun k e1 e2 => r2 (by rw [e1, e2])), h3.2⟩, h4⟩
  exact blk_set h1 2 _
theorem column_st (h : SK own i w g s) (h1 : s.col ≤ 1073741824) (h2 : s.wait ≤ 1073741824) :
    Calls Tryd.prog 67 #[.pointer (some ⟨g, 0, none⟩)] w fun e w' => e = .returned (.int .i64 ((s.col : Int) + s.wait)) ∧ Below w.heap.size w w' := by
  obtain ⟨tv, gv, text, gs, a1, _⟩ := h.ex
  exact column_any g (!s.fresh) s.col s.wait tv gv w a1 (by omega) (by omega) (by omega) (by omega)
theorem fresh_st (h : SK own i w g s) :
    Calls Tryd.prog 63 #[.pointer (some ⟨g, 0, none⟩)] w fun e w' => e = .returned (.bool s.fresh) ∧ w' = w := by
  obtain ⟨tv, gv, text, gs, a1, _⟩ := h.ex
  have := fresh_any g (!s.fresh) s.col s.wait tv gv w a1
  simpa using this
end

theorem aw_a : St6.text st0 ⟨#[97]⟩ = ⟨false, 1, 0, [97]⟩ := by
  have h : ncol ((0 : Nat) : Int) ((0 : Nat) : Int) ⟨#[97]⟩ = 1 := by decide +kernel
  show (⟨false, (ncol ((0 : Nat) : Int) ((0 : Nat) : Int) ⟨#[97]⟩).toNat, 0, [97]⟩ : St6) = _
  rw [h]; rfl
theorem aw_b : St6.text ⟨true, 3, 0, [97, 10]⟩ ⟨#[98]⟩ = ⟨false, 4, 0, [97, 10, 32, 32, 32, 98]⟩ := by
  have h : ncol ((3 : Nat) : Int) ((0 : Nat) : Int) ⟨#[98]⟩ = 4 := by decide +kernel
  show (⟨false, (ncol ((3 : Nat) : Int) ((0 : Nat) : Int) ⟨#[98]⟩).toNat, 0, [97, 10, 32, 32, 32, 98]⟩ : St6) = _
  rw [h]; rfl

end Go.Proofs.YtcokccfbeonlnaaDoor
