import Derived.Test.YtmjhfabdbajchaaGreatDoorCg
set_option linter.unusedVariables false
set_option linter.unusedSimpArgs false
namespace Go.Proofs.YtmjhfabdbajchaaGreatDoor
open Go.RowKit

section
variable {R : (Nat → Prop) → World → Nat → Nat → S9 → Prop} {W0 V : World} {own : Nat → Nat} {gs Ns : Nat → Nat} {ss : Nat → S9} {m : Nat}
theorem D9.newP (hC : Ctr R) (h : D9 R W0 V own gs Ns ss m) {i : Nat} (hi : (m = 0 ∧ i = 1) ∨ (m = 2 ∧ i = 2)) (n : Nat) (h1 : 1 ≤ n) (h2 : n ≤ 4096) :
    Calls Tryz.prog 10 #[.int .i64 (n : Int)] V fun e w' => ∃ g own', e = .returned (.tuple #[.pointer (some ⟨g, 0, none⟩), .int .i64 0]) ∧ D9 R W0 w' own' (upd gs i g) (upd Ns i n) (upd ss i s90) (m + 1) ∧ Sd own own' V w' ∧ V.heap.size ≤ w'.heap.size := by
  have hi2 : 1 ≤ i ∧ i ≤ 2 := by omega
  have er : RR R i = R := if_pos hi2.2
  refine (hC.new (fun k => own k = i ∨ V.heap.size ≤ k) n V h1 h2 (nwI i own V) h.en.tab).mono ?_
  rintro e w' ⟨g, rfl, a1, a2⟩
  obtain ⟨own', b1, b2, b3⟩ := h.next hC (m' := m + 1) hi2.1 (by omega) (fun j hj => by
    rcases hi with ⟨rfl, rfl⟩ | ⟨rfl, rfl⟩
    · simp at hj; exact .inl hj
    · simp at hj ⊢; omega) (by rw [er]; exact a1) (Kp.of_below a2)
  exact ⟨g, own', rfl, b1, b2, b3⟩
theorem D9.newQ (hC : Ctr R) (h : D9 R W0 V own gs Ns ss m) {i : Nat} (hi : (m = 1 ∧ i = 3) ∨ (m = 3 ∧ i = 4)) (n : Nat) (h1 : 1 ≤ n) (h2 : n ≤ 4096) :
    Calls Tryz.prog 11 #[.int .i64 (n : Int)] V fun e w' => ∃ g own', e = .returned (.tuple #[.pointer (some ⟨g, 0, none⟩), .int .i64 0]) ∧ D9 R W0 w' own' (upd gs i g) (upd Ns i n) (upd ss i s90) (m + 1) ∧ Sd own own' V w' ∧ V.heap.size ≤ w'.heap.size := by
  have hi2 : 3 ≤ i ∧ i ≤ 4 := by omega
  have er : RR R i = R9 := if_neg (by omega)
  refine (R9.new (fun k => own k = i ∨ V.heap.size ≤ k) n h1 h2 V (nwI i own V)).mono ?_
  rintro e w' ⟨g, rfl, a1, a2⟩
  obtain ⟨own', b1, b2, b3⟩ := h.next hC (m' := m + 1) (by omega) hi2.2 (fun j hj => by
    rcases hi with ⟨rfl, rfl⟩ | ⟨rfl, rfl⟩
    · simp at hj ⊢; omega
    · simp at hj ⊢; omega) (by rw [er]; exact a1) (Kp.of_below a2)
  exact ⟨g, own', rfl, b1, b2, b3⟩
theorem D9.zero (W0 V : World) (hT : Tab W0) (hb : Below W0.heap.size W0 V) (gs Ns : Nat → Nat) (ss : Nat → S9) : D9 R W0 V (fun _ => 0) gs Ns ss 0 :=
  ⟨⟨fun _ _ => rfl, hT.below hb, rfl⟩, fun _ _ => rfl, hb, fun i _ _ _ h => by simp at h⟩
end
end Go.Proofs.YtmjhfabdbajchaaGreatDoor
