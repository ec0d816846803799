import Derived.Test.YtcokccfbeonlnaaDoorHd
set_option linter.unusedVariables false
set_option linter.unusedSimpArgs false
namespace Go.Proofs.YtcokccfbeonlnaaDoor
open Go.RowKit

set_option maxHeartbeats 2000000 in
set_option maxRecDepth 100000 in
theorem tell_beg {B : Nat} {w : World} {gb ga : Nat} {s x : Sp} {r : List Sp} (h : TL B w gb ga s (x :: r)) (hs : Sb s) (hx : Sb x) (hB : B ≤ w.heap.size) (hn : r.length ≤ 1000000000) (i : Int) (e : Bool) :
    Calls Tryd.prog 57 #[.agg #[.int .u8 6, .string ⟨#[]⟩, .int .i64 0, .int .i64 i, .bool e], .pointer (some ⟨ga, 0, none⟩), .pointer (some ⟨gb, 0, none⟩)] w fun e w' => TA B w gb ga (s.all, x.wid s.all, r) e w' := by
  have hnab := h.ne
  have gbl := blk_lt h.hb
  have gal : ga < w.heap.size := by obtain ⟨v, h1, _⟩ := h.ha; exact blk_lt h1
  have b0 : w.cell? ⟨gb, 0, none⟩ = some (.int .i64 s.all) := blk_cell h.hb rfl
  have b1 : w.cell? ⟨gb, 1, none⟩ = some (.int .i64 s.hang) := blk_cell h.hb rfl
  have fb0 : w.frozen? ⟨gb, 0, none⟩ = false := blk_frozen h.hb
  have fb1 : w.frozen? ⟨gb, 1, none⟩ = false := blk_frozen h.hb
  have fa0 : w.frozen? ⟨ga, 0, none⟩ = false := by obtain ⟨v, h1, _⟩ := h.ha; exact blk_frozen h1
  obtain ⟨b, cap, c1, c2, c3, c4, c5, ⟨c6, c7, c8⟩, hp1, hp2⟩ := h.pop (Below.refl _ _) hB
  obtain ⟨W1, hW1⟩ : ∃ W1, ((w.setCell ⟨gb, 0, none⟩ (.int .i64 x.all)).setCell ⟨gb, 1, none⟩ (.int .i64 x.hang)).setCell ⟨ga, 0, none⟩ (.slice (some ⟨b, 0, none⟩) r.length cap) = W1 := ⟨_, rfl⟩
  have HP : Hid (∀ o, TL B (W1.alloc o).drew gb ga x r ∧ Bo B gb ga w (W1.alloc o).drew) := by
    intro o
    rw [hW1] at hp1 hp2
    exact ⟨hp1.below ((Below.refl _ _).alloc (Nat.le_refl _) _).drew, hp2.trans (Bo.of_below ((Below.refl _ _).alloc (Nat.le_refl _) _).drew)⟩
  have HW : Hid (∀ W, Bo B gb ga w W → TL B W gb ga x r → Calls Tryd.prog 58 #[.pointer (some ⟨gb, 0, none⟩), .int .i64 s.all] W fun e w' => e = .returned (.tuple #[]) ∧ TL B w' gb ga (x.wid s.all) r ∧ Bo B gb ga W w') := fun W hW hL => widen_tl hL hx _ (by have := hs.1; omega) (Nat.le_trans hB hW.size)
  have hsa : s.all ≤ 4097 := hs.1
  clear h hs hx hB
  have c3' : cap ≤ 9223372036854775807 := c3
  go_enter Tryd.func57, Tryd.ntmps57
  go_wp2_with fail
  go_region
  all_goals go_wp2_with fail
  refine (HW.out _ (HP.out _).2 (HP.out _).1).mono ?_
  rintro e w2 ⟨rfl, h2, hb2⟩
  have H2 : Hid (TL B w2 gb ga (x.wid s.all) r ∧ Bo B gb ga w w2) := ⟨h2, (HP.out _).2.trans hb2⟩
  clear h2 hb2
  go_wp2_with fail
  go_ret
  exact ⟨rfl, H2.out.1, H2.out.2⟩

/-- What the teller tells of a piece. -/
theorem tell_any {B : Nat} {w : World} {gb ga : Nat} {s : Sp} {st : List Sp} (h : TL B w gb ga s st) (hs : Sb s) (hst : ∀ x ∈ st, Sb x) (hB : B ≤ w.heap.size) (hT : ∀ W, Kp (Sx B gb ga) w W → Tab W) (hn : st.length ≤ 1000000000) (d : Dc) (hd : rt d = true) (h6 : d.k = 6 → st ≠ []) :
    Calls Tryd.prog 57 #[d.v, .pointer (some ⟨ga, 0, none⟩), .pointer (some ⟨gb, 0, none⟩)] w fun e w' => TA B w gb ga (tell d (s, st)) e w' := by
  cases rt_of hd with
  | text t hq => exact tell_text h hs hB hT t (rtT_len hq).2
  | brk m hq =>
    obtain ⟨q1, q2⟩ := rtN_of hq
    have := tell_brk h hs hB m.toNat (by omega)
    rw [show ((m.toNat : Nat) : Int) = m by omega] at this
    exact this
  | beg m e hq =>
    cases st with
    | nil => exact absurd rfl (h6 rfl)
    | cons x r => exact tell_beg h hs (hst x List.mem_cons_self) hB (by simp at hn; omega) m e
  | blank => exact tell_blank h hs hB
  | hard => exact tell_hard h hs hB 4 (.inl rfl)
  | empty => exact tell_hard h hs hB 5 (.inr rfl)
  | «end» => exact tell_end h hs hB hn
end Go.Proofs.YtcokccfbeonlnaaDoor
