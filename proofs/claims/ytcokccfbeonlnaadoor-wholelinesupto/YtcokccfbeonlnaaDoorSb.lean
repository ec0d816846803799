import Derived.Test.YtcokccfbeonlnaaDoorSa
import Derived.BigQuiet
set_option linter.unusedVariables false
set_option linter.unusedSimpArgs false
namespace Go.Proofs.YtcokccfbeonlnaaDoor
open Go.RowKit
open Go.Lib (strCells strCells_length)

theorem Tryd.info5 : (Tryd.prog.info? 5).map (fun i => (i.zero, i.size, i.bytes)) = some (some (.int .u8 0), 1, 1) := by kernel_rfl
theorem Tryd.info89 : (Tryd.prog.info? 89).map (fun i => (i.zero, i.size, i.bytes)) = some (some (.agg #[.int .i64 0, .int .i64 0]), 2, 16) := by kernel_rfl

def eg (x : Nat × Nat) : List Value := [.int .i64 x.1, .int .i64 x.2]
theorem eg_len (x : Nat × Nat) : (eg x).length = 2 := rfl

/-- The closure that gathers a text. -/
theorem cl_text (c : Nat) (v : Value) (n : Nat) (xs : List Value) (t : ByteArray) (w : World) (hc : w.heap[c]? = some (.cells #[v] 32 (0, 0))) (ho : w.ownsRow 0 5 1 v n xs) (hn : n + t.size ≤ 70368744177664) :
    Calls Tryd.prog 77 #[.string t, .pointer (some ⟨c, 0, none⟩)] w fun e w' => e = .returned (.tuple #[]) ∧ ∃ v', w'.heap[c]? = some (.cells #[v'] 32 (0, 0)) ∧ w'.ownsRow 0 5 1 v' (n + t.size) (xs ++ strCells t) ∧ (v'.ownBlock = v.ownBlock ∨ v'.ownBlock = some w.heap.size) ∧ Kp (fun k => k = c ∨ some k = v.ownBlock) w w' := by
  obtain ⟨i0, hi, hz0, hz1, hz2⟩ := info_parts Tryd.info5
  have hne := row_ne ho hc (by decide)
  have hcl := blk_lt hc
  have c0 : w.cell? ⟨c, 0, none⟩ = some v := blk_cell hc rfl
  obtain ⟨p, cap, rfl, _, _⟩ := row_shape ho
  go_enter Tryd.func77, Tryd.ntmps77
  go_wp2_with (first | (at_builtin; refine wpList_append_string_at (P := Tryd.prog) (w := w) rfl _ _ 32 9 rfl 0 5 i0 Tryd.underlying32 Tryd.underlying9 hi hz0 hz1 hz2 _ _ _ rfl ho t rfl ?c3 ?c4 ?c5 ?_))
  case c3 => unfold maxLen; omega
  case c4 => omega
  case c5 => omega
  intro v2 w2 ho2 hg2 hat
  have hk := Kp.of_grown hg2
  have hc2 : w2.heap[c]? = some (.cells #[.slice p n cap] 32 (0, 0)) := hk.blk hc (fun h => hne h.symm)
  have d0 : w2.cell? ⟨c, 0, none⟩ = some (.slice p n cap) := blk_cell hc2 rfl
  have f0 : w2.frozen? ⟨c, 0, none⟩ = false := blk_frozen hc2
  have hne2 := row_ne ho2 hc2 (by decide)
  obtain ⟨p2, cap2, rfl, _, _⟩ := row_shape ho2
  have HE : Hid ((w2.setCell ⟨c, 0, none⟩ (.slice p2 (n + t.size) cap2)).heap[c]? = some (.cells #[.slice p2 (n + t.size) cap2] 32 (0, 0)) ∧ (w2.setCell ⟨c, 0, none⟩ (.slice p2 (n + t.size) cap2)).ownsRow 0 5 1 (.slice p2 (n + t.size) cap2) (n + t.size) (xs ++ strCells t) ∧ ((Value.slice p2 (n + t.size) cap2).ownBlock = (Value.slice p n cap).ownBlock ∨ (Value.slice p2 (n + t.size) cap2).ownBlock = some w.heap.size) ∧ Kp (fun k => k = c ∨ some k = (Value.slice p n cap).ownBlock) w (w2.setCell ⟨c, 0, none⟩ (.slice p2 (n + t.size) cap2))) := by
    refine ⟨blk_set hc2 0 _, (Kp.set w2 c 0 _).row ho2 (fun k h1 h2 => hne2 (by rw [h1, h2])), hat, ?_⟩
    exact (Kp.step (S := fun k => k = c ∨ some k = (Value.slice p n cap).ownBlock) (Kp.refl _ _) hk (fun j _ h => .inr h)).step (Kp.set w2 c 0 _) (fun j _ h => .inl h)
  clear hk hg2 ho2 hat hne hne2 hc2
  go_wp2_with fail
  go_end0
  exact ⟨rfl, _, HE.out⟩

/-- The closure that gathers blanks. -/
theorem cl_none (m : Int) (d c : Nat) (w : World) (hm : m ≤ 0) :
    Calls Tryd.prog 76 #[.int .i64 m, .pointer (some ⟨d, 0, none⟩), .pointer (some ⟨c, 0, none⟩)] w fun e w' => e = .returned (.tuple #[]) ∧ w' = w := by
  have q : decide (0 < m) = false := by simp; omega
  go_enter Tryd.func76, Tryd.ntmps76
  go_wp2_with fail
  go_end0
  exact ⟨rfl, rfl⟩

theorem two_new (W : World) (a b : Value) (t n : Nat) (h : n = W.heap.size) : ∀ j u, [a, b][j]? = some u → (W.alloc (.cells #[a, b] t)).cell? ((⟨n, 0, none⟩ : Addr).add j) = some u := by
  subst h
  intro j u hj
  match j, hj with
  | 0, hj => simp at hj; subst hj; simp [Addr.add]
  | 1, hj => simp at hj; subst hj; simp [Addr.add]

theorem cl_blanks (m : Nat) (d c : Nat) (v : Value) (tv : Value) (n l : Nat) (xs : List Value) (w : World) (hc : w.heap[c]? = some (.cells #[tv] 32 (0, 0))) (htv : ∃ p cap, tv = .slice p l cap) (hd : w.heap[d]? = some (.cells #[v] 76 (0, 0))) (ho : w.ownsRow 0 89 2 v n xs) (hn : n ≤ 1073741824) (hm : 0 < m) (hm2 : m ≤ 9223372036854775807) (hl : l ≤ 9223372036854775807) :
    Calls Tryd.prog 76 #[.int .i64 m, .pointer (some ⟨d, 0, none⟩), .pointer (some ⟨c, 0, none⟩)] w fun e w' => e = .returned (.tuple #[]) ∧ ∃ v', w'.heap[d]? = some (.cells #[v'] 76 (0, 0)) ∧ w'.ownsRow 0 89 2 v' (n + 1) (xs ++ eg (l, m)) ∧ (v'.ownBlock = v.ownBlock ∨ ∃ b, w.heap.size ≤ b ∧ v'.ownBlock = some b) ∧ Kp (fun k => k = d ∨ some k = v.ownBlock) w w' := by
  obtain ⟨i0, hi, hz0, hz1, hz2⟩ := info_parts Tryd.info89
  have q : decide (0 < (m : Int)) = true := by simp; omega
  have hne := row_ne ho hd (by decide)
  have hdl := blk_lt hd
  have c0 : w.cell? ⟨c, 0, none⟩ = some tv := blk_cell hc rfl
  have d0 : w.cell? ⟨d, 0, none⟩ = some v := blk_cell hd rfl
  have hcl := blk_lt hc
  obtain ⟨tp, tcap, rfl⟩ := htv
  obtain ⟨p, cap, rfl, _, _⟩ := row_shape ho
  go_enter Tryd.func76, Tryd.ntmps76
  go_wp2_with (first | (at_builtin; refine wpList_append_own_at (P := Tryd.prog) (w := w.alloc (.cells #[.int .i64 l, .int .i64 m] 89)) rfl _ _ 76 rfl 0 89 i0 (.agg #[.int .i64 0, .int .i64 0]) 2 16 Tryd.underlying76 hi hz0 hz1 hz2 rfl (by decide) _ _ _ rfl (row_below ho ((Below.refl _ _).alloc (Nat.le_refl _) _)) ⟨w.heap.size, 0, none⟩ 1 1 (eg (l, m)) rfl rfl ?c1 ?c2 ?c3 ?c4 ?c5 ?_))
  case c1 => exact two_new _ _ _ _ _ rfl
  case c2 => intro u hu; simp [eg] at hu; rcases hu with rfl | rfl <;> rfl
  case c3 => unfold maxLen; omega
  case c4 => omega
  case c5 => omega
  intro v2 w2 ho2 hg2 _ hat
  have hk := Kp.step (S := fun k => k = d ∨ some k = (Value.slice p n cap).ownBlock) ((Kp.refl _ _).alloc (.cells #[.int .i64 l, .int .i64 m] 89)) (Kp.of_grown hg2) (fun j _ h => .inr h)
  have hk' := Kp.step (S := fun k => some k = (Value.slice p n cap).ownBlock) ((Kp.refl _ _).alloc (.cells #[.int .i64 l, .int .i64 m] 89)) (Kp.of_grown hg2) (fun j _ h => h)
  have hd2 : w2.heap[d]? = some (.cells #[.slice p n cap] 76 (0, 0)) := hk'.blk hd (fun h => hne h.symm)
  have e0 : w2.cell? ⟨d, 0, none⟩ = some (.slice p n cap) := blk_cell hd2 rfl
  have f0 : w2.frozen? ⟨d, 0, none⟩ = false := blk_frozen hd2
  have hne2 := row_ne ho2 hd2 (by decide)
  obtain ⟨p2, cap2, rfl, _, _⟩ := row_shape ho2
  have HE : Hid ((w2.setCell ⟨d, 0, none⟩ (.slice p2 (n + 1) cap2)).heap[d]? = some (.cells #[.slice p2 (n + 1) cap2] 76 (0, 0)) ∧ (w2.setCell ⟨d, 0, none⟩ (.slice p2 (n + 1) cap2)).ownsRow 0 89 2 (.slice p2 (n + 1) cap2) (n + 1) (xs ++ eg (l, m)) ∧ ((Value.slice p2 (n + 1) cap2).ownBlock = (Value.slice p n cap).ownBlock ∨ ∃ b, w.heap.size ≤ b ∧ (Value.slice p2 (n + 1) cap2).ownBlock = some b) ∧ Kp (fun k => k = d ∨ some k = (Value.slice p n cap).ownBlock) w (w2.setCell ⟨d, 0, none⟩ (.slice p2 (n + 1) cap2))) := by
    refine ⟨blk_set hd2 0 _, (Kp.set w2 d 0 _).row ho2 (fun k h1 h2 => hne2 (by rw [h1, h2])), ?_, ?_⟩
    · rcases hat with h | h
      · exact .inl h
      · exact .inr ⟨_, by have := World.size_alloc w (.cells #[.int .i64 l, .int .i64 m] 89); omega, h⟩
    · exact hk.step (Kp.set w2 d 0 _) (fun j _ h => .inl h)
  clear hk hk' hg2 ho2 hat hne hne2 hd2
  go_wp2_with fail
  go_end0
  exact ⟨rfl, _, HE.out⟩
end Go.Proofs.YtcokccfbeonlnaaDoor
