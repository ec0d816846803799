import Derived.Test.YtaldkkeghackfaaDoorEb
set_option linter.unusedVariables false
set_option linter.unusedSimpArgs false
namespace Go.Proofs.YtaldkkeghackfaaDoor
open Go.RowKit

/-- A row of numbers, as a reader sees it. -/
def Nr (W : World) (b N : Nat) (f : Nat → Nat) : Prop := ∀ k, k < N → W.cell? ⟨b, k, none⟩ = some (.int .i64 (f k : Nat))
theorem Nr.below {W W' : World} {b N : Nat} {f : Nat → Nat} (h : Nr W b N f) (hb : Below W.heap.size W W') : Nr W' b N f := fun k hk => by
  have h1 := h k hk
  have hlt := World.block_lt_of_cell? _ _ h1
  exact (World.cell?_of_block (a := ⟨b, k, none⟩) (hb.block b hlt)).trans h1
theorem nr_of {W : World} {B b N cap : Nat} {l : List Nat} {f : Nat → Nat} (h : W.ownsRow B 3 1 (.slice (some ⟨b, 0, none⟩) N cap) N (ivs l)) (hf : ∀ k, k < N → l[k]? = some (f k)) : Nr W b N f := fun k hk => by
  have := h.cells (g := b) rfl k (.int .i64 (f k : Nat)) (by unfold ivs; rw [List.getElem?_map, hf k hk]; rfl)
  rw [Addr.add_lit, Nat.zero_add] at this
  exact this
theorem chars_all (s : ByteArray) (hs : s.size ≤ 2147483647) : ∃ (N : Nat) (F G D : Nat → Nat) (B : Nat → Bool), N ≤ s.size ∧ F 0 = 0 ∧ F N = s.size ∧
    (∀ k, k < N → F k < s.size ∧ 1 ≤ D k ∧ F (k + 1) = F k + D k ∧ F (k + 1) ≤ s.size ∧ ∀ V, Calls Tryd.prog 23 #[.string s, .int .i64 (F k : Nat)] V fun e w' => e = .returned (.tuple #[.int .i64 (G k : Nat), .int .i64 (D k : Nat), .bool (B k)]) ∧ Below V.heap.size V w') ∧
    (∀ V, Calls Tryd.prog 21 #[.string s] V fun e w' => ∃ b, e = .returned (.slice (some ⟨b, 0, none⟩) N N) ∧ Nr w' b N F ∧ Below V.heap.size V w') ∧
    (∀ V, Calls Tryd.prog 22 #[.string s] V fun e w' => ∃ b, e = .returned (.slice (some ⟨b, 0, none⟩) N N) ∧ Nr w' b N G ∧ Below V.heap.size V w') := by
  refine ⟨(P s).length, st s, fun k => dp s (st s k), fun k => dw s (st s k), fun k => gd s (st s k), P_len s, rfl, st_end s _ (Nat.le_refl _), ?_, ?_, ?_⟩
  · intro k hk
    have h1 := (st_lt s k).2 hk
    have h2 := dw_facts s (st s k) h1
    refine ⟨h1, h2.1, st_succ s k hk, st_le s _, fun V => ?_⟩
    have := next_in s (st s k : Nat) V (by unfold maxLen; omega) (by omega) (by omega)
    rw [Int.toNat_natCast] at this
    exact this
  · intro V
    refine (places_any s V hs).mono ?_
    rintro e w' ⟨rfl, hr, hb⟩
    exact ⟨_, rfl, nr_of hr (fun k hk => P_at s k hk), hb⟩
  · intro V
    refine (points_any s V hs).mono ?_
    rintro e w' ⟨rfl, hr, hb⟩
    exact ⟨_, rfl, nr_of hr (fun k hk => by rw [List.getElem?_map, P_at s k hk]; rfl), hb⟩

end Go.Proofs.YtaldkkeghackfaaDoor
