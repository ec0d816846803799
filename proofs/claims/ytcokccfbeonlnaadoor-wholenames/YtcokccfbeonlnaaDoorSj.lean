import Derived.Test.YtcokccfbeonlnaaDoorSi
import Derived.Laws.AppendOwnNone
set_option linter.unusedVariables false
set_option linter.unusedSimpArgs false
namespace Go.Proofs.YtcokccfbeonlnaaDoor
open Go.RowKit
open Go.Lib (strCells strCells_length)

theorem bcheck2 (b : Nat) (w : World) (h0 : w.cell? ⟨b, 0, none⟩ = some (.pointer (some ⟨b, 0, none⟩))) : Calls Tryd.prog 68 #[.pointer (some ⟨b, 0, none⟩)] w fun e w' => e = .returned (.tuple #[]) ∧ w = w' :=
  (bcheck b w h0).mono fun e w' h => ⟨h.1, h.2.symm⟩

/-- The builder at block b. -/
structure Bd (b : Nat) (v : Value) (bs : List UInt8) (w : World) : Prop where
  blk : w.heap[b]? = some (.cells #[.pointer (some ⟨b, 0, none⟩), v] 86 (0, 0))
  row : w.ownsRow 0 5 1 v bs.length (bc bs)

/-- Behind a writing: the builder, and what stands as it stood. -/
def Bw (b : Nat) (v : Value) (bs : List UInt8) (w w' : World) : Prop := ∃ v', Bd b v' bs w' ∧ (v'.ownBlock = v.ownBlock ∨ v'.ownBlock = some w.heap.size) ∧ Kp (fun k => k = b ∨ some k = v.ownBlock) w w'

theorem Bd.put {b : Nat} {v v2 : Value} {bs l : List UInt8} {w w2 : World} (h : Bd b v bs w) (hg : w.grownBy w2 v.ownBlock) (ho : w2.ownsRow 0 5 1 v2 (bs.length + l.length) (bc bs ++ bc l)) (hat : v2.ownBlock = v.ownBlock ∨ v2.ownBlock = some w.heap.size) : Bw b v (bs ++ l) w (w2.setCell ⟨b, 1, none⟩ v2) := by
  have hk := Kp.of_grown hg
  have hne := row_ne h.row h.blk (by decide)
  have hb2 := hk.blk h.blk (fun e => hne e.symm)
  have hne2 := row_ne ho hb2 (by decide)
  refine ⟨v2, ⟨blk_set hb2 1 v2, ?_⟩, hat, ?_⟩
  · rw [List.length_append, bc_app]
    exact (Kp.set w2 b 1 v2).row ho (fun k e1 e2 => hne2 (by rw [e1, e2]))
  · exact (Kp.step (S := fun k => k = b ∨ some k = v.ownBlock) (Kp.refl _ _) hk (fun _ _ h => .inr h)).step (Kp.set w2 b 1 v2) (fun _ _ h => .inl h)

set_option maxHeartbeats 1000000 in
theorem bwrite (b : Nat) (v : Value) (bs l : List UInt8) (ad : Addr) (m c : Nat) (w : World) (h : Bd b v bs w) (hl : l.length = m) (hsrc : ∀ j u, (bc l)[j]? = some u → w.cell? (ad.add j) = some u) (hn : bs.length + m ≤ 70368744177664) :
    Calls Tryd.prog 43 #[.pointer (some ⟨b, 0, none⟩), .slice (some ad) m c] w fun e w' => e = .returned (.tuple #[.int .i64 m, .nilIface]) ∧ Bw b v (bs ++ l) w w' := by
  obtain ⟨i0, hi, hz0, hz1, hz2⟩ := info_parts Tryd.info5
  have c0 : w.cell? ⟨b, 0, none⟩ = some (.pointer (some ⟨b, 0, none⟩)) := blk_cell h.blk rfl
  have c1 : w.cell? ⟨b, 1, none⟩ = some v := blk_cell h.blk rfl
  have hbl := blk_lt h.blk
  obtain ⟨p, cap, rfl, _, _⟩ := row_shape h.row
  have HH : Hid (Bd b (.slice p bs.length cap) bs w) := h
  clear h
  go_enter Tryd.func43, Tryd.ntmps43
  go_wp2_with (first | (go_at_call 68; refine (bcheck2 b w c0).mono ?_; rintro e w1 ⟨rfl, rfl⟩) | (at_builtin; refine wpList_append_own_at (P := Tryd.prog) (w := w) rfl _ _ 32 rfl 0 5 i0 (.int .u8 0) 1 1 Tryd.underlying32 hi hz0 hz1 hz2 rfl (by decide) _ _ _ rfl HH.out.row ad m c (bc l) rfl ?c0 hsrc (bc_one l) ?c3 ?c4 ?c5 ?_))
  case c0 => rw [bc_len, hl, Nat.mul_one]
  case c3 => unfold maxLen; omega
  case c4 => omega
  case c5 => omega
  intro v2 w2 ho2 hg2 _ hat
  have HE : Hid (Bw b (.slice p bs.length cap) (bs ++ l) w (w2.setCell ⟨b, 1, none⟩ v2)) := HH.out.put hg2 (by rw [hl]; exact ho2) hat
  have hb2 := (Kp.of_grown hg2).blk HH.out.blk (fun e => row_ne HH.out.row HH.out.blk (by decide) e.symm)
  have d0 : w2.cell? ⟨b, 0, none⟩ = some (.pointer (some ⟨b, 0, none⟩)) := blk_cell hb2 rfl
  have d1 : w2.cell? ⟨b, 1, none⟩ = some (.slice p bs.length cap) := blk_cell hb2 rfl
  have f1 : w2.frozen? ⟨b, 1, none⟩ = false := blk_frozen hb2
  obtain ⟨p2, cap2, rfl, _, _⟩ := row_shape ho2
  clear ho2 hg2 hat hb2
  go_wp2_with fail
  go_ret2
  exact ⟨rfl, HE.out⟩

set_option maxHeartbeats 1000000 in
theorem bwrite_none (b : Nat) (v : Value) (bs : List UInt8) (w : World) (h : Bd b v bs w) :
    Calls Tryd.prog 43 #[.pointer (some ⟨b, 0, none⟩), .slice none 0 0] w fun e w' => e = .returned (.tuple #[.int .i64 0, .nilIface]) ∧ Bw b v (bs ++ []) w w' := by
  obtain ⟨i0, hi, hz0, hz1, hz2⟩ := info_parts Tryd.info5
  have c0 : w.cell? ⟨b, 0, none⟩ = some (.pointer (some ⟨b, 0, none⟩)) := blk_cell h.blk rfl
  have c1 : w.cell? ⟨b, 1, none⟩ = some v := blk_cell h.blk rfl
  have hbl := blk_lt h.blk
  have f1 : w.frozen? ⟨b, 1, none⟩ = false := blk_frozen h.blk
  have HE : Hid (Bw b v (bs ++ []) w (w.setCell ⟨b, 1, none⟩ v)) := h.put ⟨rfl, rfl, rfl, Nat.le_refl _, fun _ _ _ => rfl⟩ (by simpa [bc] using h.row) (.inl rfl)
  obtain ⟨p, cap, rfl, _, _⟩ := row_shape h.row
  have HH : Hid (Bd b (.slice p bs.length cap) bs w) := h
  clear h
  go_enter Tryd.func43, Tryd.ntmps43
  go_wp2_with (first | (go_at_call 68; refine (bcheck2 b w c0).mono ?_; rintro e w1 ⟨rfl, rfl⟩) | (at_builtin; refine wpList_append_own_none (P := Tryd.prog) (w := w) rfl _ _ 32 rfl 0 5 i0 1 Tryd.underlying32 hi _ _ _ rfl HH.out.row rfl ?_))
  go_ret2
  exact ⟨rfl, HE.out⟩

set_option maxHeartbeats 1000000 in
theorem bwstr (b : Nat) (v : Value) (bs : List UInt8) (t : ByteArray) (w : World) (h : Bd b v bs w) (hn : bs.length + t.size ≤ 70368744177664) :
    Calls Tryd.prog 44 #[.pointer (some ⟨b, 0, none⟩), .string t] w fun e w' => e = .returned (.tuple #[.int .i64 t.size, .nilIface]) ∧ Bw b v (bs ++ t.data.toList) w w' := by
  obtain ⟨i0, hi, hz0, hz1, hz2⟩ := info_parts Tryd.info5
  have c0 : w.cell? ⟨b, 0, none⟩ = some (.pointer (some ⟨b, 0, none⟩)) := blk_cell h.blk rfl
  have c1 : w.cell? ⟨b, 1, none⟩ = some v := blk_cell h.blk rfl
  have hbl := blk_lt h.blk
  obtain ⟨p, cap, rfl, _, _⟩ := row_shape h.row
  have HH : Hid (Bd b (.slice p bs.length cap) bs w) := h
  clear h
  go_enter Tryd.func44, Tryd.ntmps44
  go_wp2_with (first | (go_at_call 68; refine (bcheck2 b w c0).mono ?_; rintro e w1 ⟨rfl, rfl⟩) | (at_builtin; refine wpList_append_string_at (P := Tryd.prog) (w := w) rfl _ _ 32 9 rfl 0 5 i0 Tryd.underlying32 Tryd.underlying9 hi hz0 hz1 hz2 _ _ _ rfl HH.out.row t rfl ?c3 ?c4 ?c5 ?_))
  case c3 => unfold maxLen; omega
  case c4 => omega
  case c5 => omega
  intro v2 w2 ho2 hg2 hat
  have HE : Hid (Bw b (.slice p bs.length cap) (bs ++ t.data.toList) w (w2.setCell ⟨b, 1, none⟩ v2)) := HH.out.put hg2 ho2 hat
  have hb2 := (Kp.of_grown hg2).blk HH.out.blk (fun e => row_ne HH.out.row HH.out.blk (by decide) e.symm)
  have d0 : w2.cell? ⟨b, 0, none⟩ = some (.pointer (some ⟨b, 0, none⟩)) := blk_cell hb2 rfl
  have d1 : w2.cell? ⟨b, 1, none⟩ = some (.slice p bs.length cap) := blk_cell hb2 rfl
  have f1 : w2.frozen? ⟨b, 1, none⟩ = false := blk_frozen hb2
  obtain ⟨p2, cap2, rfl, _, _⟩ := row_shape ho2
  clear ho2 hg2 hat hb2
  go_wp2_with fail
  go_ret2
  exact ⟨rfl, HE.out⟩

/-- The closure that clears the sink. -/
theorem cl_clear (u : FrameMode) (b : Bool) (col wait : Int) (h g : Nat) (tv gv : Value) (w : World) (hg : w.heap[g]? = some (.cells (sk b col wait tv gv) 78 (0, 0))) (hh : w.heap[h]? = some (.cells #[.pointer (some ⟨g, 0, none⟩)] 49 (0, 0))) (htv : ∃ p n cap, tv = .slice p n cap) (hgv : ∃ p n cap, gv = .slice p n cap) :
    CallsD Tryd.prog 40 #[.pointer (some ⟨h, 0, none⟩)] u w fun e u' w' => u' = u ∧ (e = .returned (.tuple #[]) ∧ w' = (w.setCell ⟨g, 3, none⟩ (.slice none 0 0)).setCell ⟨g, 4, none⟩ (.slice none 0 0)) := by
  have g3 : w.cell? ⟨g, 3, none⟩ = some tv := blk_cell hg rfl
  have g4 : w.cell? ⟨g, 4, none⟩ = some gv := blk_cell hg rfl
  have f3 : w.frozen? ⟨g, 3, none⟩ = false := blk_frozen hg
  have f4 : w.frozen? ⟨g, 4, none⟩ = false := blk_frozen hg
  have h0 : w.cell? ⟨h, 0, none⟩ = some (.pointer (some ⟨g, 0, none⟩)) := blk_cell hh rfl
  obtain ⟨p1, n1, k1, rfl⟩ := htv
  obtain ⟨p2, n2, k2, rfl⟩ := hgv
  go_enter_d Tryd.func40, Tryd.ntmps40
  go_wp2_with fail
  go_end0
  exact ⟨rfl, rfl⟩
end Go.Proofs.YtcokccfbeonlnaaDoor
