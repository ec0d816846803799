import Derived.Test.YtmjhfabdbajchaaGreatDoorCf
set_option linter.unusedVariables false
set_option linter.unusedSimpArgs false
namespace Go.Proofs.YtmjhfabdbajchaaGreatDoor
open Go.RowKit

section
variable {R : (Nat → Prop) → World → Nat → Nat → S9 → Prop} {W0 V : World} {own : Nat → Nat} {gs Ns : Nat → Nat} {ss : Nat → S9}
theorem in4 {i : Nat} (h1 : 1 ≤ i) (h4 : i ≤ 4) : i ∈ [1, 3, 2, 4].take 4 := by
  have : i = 1 ∨ i = 2 ∨ i = 3 ∨ i = 4 := by omega
  rcases this with rfl | rfl | rfl | rfl <;> decide
theorem D9.step (hC : Ctr R) (h : D9 R W0 V own gs Ns ss 4) {i : Nat} (hi1 : 1 ≤ i) (hi4 : i ≤ 4) {w' : World} {s : S9} (hr : RR R i (fun k => own k = i ∨ V.heap.size ≤ k) w' (gs i) (Ns i) s) (hk : Kp (fun k => own k = i ∨ V.heap.size ≤ k) V w') : ∃ own', D9 R W0 w' own' gs Ns (upd ss i s) 4 ∧ Sd own own' V w' ∧ V.heap.size ≤ w'.heap.size := by
  obtain ⟨own', h1, h2, h3⟩ := h.next hC (m' := 4) hi1 hi4 (fun j hj => .inr hj) hr hk
  rw [upd_self, upd_self] at h1
  exact ⟨own', h1, h2, h3⟩
theorem D9.putP (hC : Ctr R) (h : D9 R W0 V own gs Ns ss 4) {i : Nat} (hi1 : 1 ≤ i) (hi2 : i ≤ 2) (hN : Ns i ≤ 4096) {T C : Nat} (hb : Bud (ss i) T C) (d : Dc) (hd : d.t.size ≤ 9223372036854775807) (hT : T + ud d ≤ 268435456) (hCC : C + 1 ≤ 100000000) :
    Calls Tryz.prog 15 #[.pointer (some ⟨gs i, 0, none⟩), .agg #[.int .u8 d.k, .string d.t, .int .i64 d.b, .int .i64 d.i, .bool d.e]] V fun e w' => e = .returned (.tuple #[.string ⟨((ss i).told ((ss i).put (Ns i) d).1).toArray⟩, .int .i64 ((ss i).put (Ns i) d).2]) ∧ ∃ own', D9 R W0 w' own' gs Ns (upd ss i ((ss i).put (Ns i) d).1) 4 ∧ Sd own own' V w' ∧ V.heap.size ≤ w'.heap.size := by
  have hr := h.rS hC hi1 (by omega) (in4 hi1 (by omega))
  have er : RR R i = R := if_pos hi2
  rw [er] at hr
  refine (hC.put _ V _ _ _ d T C hr (nwI i own V) h.en.tab hN hb hd hT hCC).mono ?_
  rintro e w' ⟨rfl, h1, h2⟩
  exact ⟨rfl, h.step hC hi1 (by omega) (by rw [er]; exact h1) h2⟩
theorem D9.putQ (hC : Ctr R) (h : D9 R W0 V own gs Ns ss 4) {i : Nat} (hi1 : 3 ≤ i) (hi4 : i ≤ 4) (hN : Ns i ≤ 4096) {T C : Nat} (hb : Bud (ss i) T C) (d : Dc) (hd : d.t.size ≤ 9223372036854775807) (hT : T + ud d ≤ 268435456) (hCC : C + 1 ≤ 100000000) :
    Calls Tryz.prog 24 #[.pointer (some ⟨gs i, 0, none⟩), .agg #[.int .u8 d.k, .string d.t, .int .i64 d.b, .int .i64 d.i, .bool d.e]] V fun e w' => e = .returned (.tuple #[.string ⟨((ss i).told ((ss i).put (Ns i) d).1).toArray⟩, .int .i64 ((ss i).put (Ns i) d).2]) ∧ ∃ own', D9 R W0 w' own' gs Ns (upd ss i ((ss i).put (Ns i) d).1) 4 ∧ Sd own own' V w' ∧ V.heap.size ≤ w'.heap.size := by
  have hr := h.rS hC (by omega) hi4 (in4 (by omega) hi4)
  have er : RR R i = R9 := if_neg (by omega)
  rw [er] at hr
  refine (R9.put hr (nwI i own V) hN hb d hd hT hCC).mono ?_
  rintro e w' ⟨rfl, h1, h2⟩
  exact ⟨rfl, h.step hC (by omega) hi4 (by rw [er]; exact h1) h2⟩
theorem D9.closeP (hC : Ctr R) (h : D9 R W0 V own gs Ns ss 4) {i : Nat} (hi1 : 1 ≤ i) (hi2 : i ≤ 2) (hN : Ns i ≤ 4096) {T C : Nat} (hb : Bud (ss i) T C) (hT : T ≤ 268435456) (hCC : C ≤ 100000000) :
    Calls Tryz.prog 17 #[.pointer (some ⟨gs i, 0, none⟩)] V fun e w' => e = .returned (.tuple #[.string ⟨((ss i).told ((ss i).close (Ns i)).1).toArray⟩, .int .i64 ((ss i).close (Ns i)).2]) ∧ ∃ own', D9 R W0 w' own' gs Ns (upd ss i ((ss i).close (Ns i)).1) 4 ∧ Sd own own' V w' ∧ V.heap.size ≤ w'.heap.size := by
  have hr := h.rS hC hi1 (by omega) (in4 hi1 (by omega))
  have er : RR R i = R := if_pos hi2
  rw [er] at hr
  refine (hC.close _ V _ _ _ T C hr (nwI i own V) h.en.tab hN hb hT hCC).mono ?_
  rintro e w' ⟨rfl, h1, h2⟩
  exact ⟨rfl, h.step hC hi1 (by omega) (by rw [er]; exact h1) h2⟩
theorem D9.closeQ (hC : Ctr R) (h : D9 R W0 V own gs Ns ss 4) {i : Nat} (hi1 : 3 ≤ i) (hi4 : i ≤ 4) (hN : Ns i ≤ 4096) {T C : Nat} (hb : Bud (ss i) T C) (hT : T ≤ 268435456) (hCC : C ≤ 100000000) :
    Calls Tryz.prog 22 #[.pointer (some ⟨gs i, 0, none⟩)] V fun e w' => e = .returned (.tuple #[.string ⟨((ss i).told ((ss i).close (Ns i)).1).toArray⟩, .int .i64 ((ss i).close (Ns i)).2]) ∧ ∃ own', D9 R W0 w' own' gs Ns (upd ss i ((ss i).close (Ns i)).1) 4 ∧ Sd own own' V w' ∧ V.heap.size ≤ w'.heap.size := by
  have hr := h.rS hC (by omega) hi4 (in4 (by omega) hi4)
  have er : RR R i = R9 := if_neg (by omega)
  rw [er] at hr
  refine (R9.close hr (nwI i own V) hN hb hT hCC).mono ?_
  rintro e w' ⟨rfl, h1, h2⟩
  exact ⟨rfl, h.step hC (by omega) hi4 (by rw [er]; exact h1) h2⟩
theorem D9.heldP (hC : Ctr R) (h : D9 R W0 V own gs Ns ss 4) {i : Nat} (hi1 : 1 ≤ i) (hi2 : i ≤ 2) (hl : (ss i).wt.length ≤ 100000000) :
    Calls Tryz.prog 16 #[.pointer (some ⟨gs i, 0, none⟩)] V fun e w' => e = .returned (.int .i64 ((ss i).wt.length : Nat)) ∧ D9 R W0 w' own gs Ns ss 4 ∧ Below V.heap.size V w' := by
  have hr := h.rr i hi1 (by omega) (by omega) (in4 hi1 (by omega))
  have er : RR R i = R := if_pos hi2
  rw [er] at hr
  refine (hC.held _ V _ _ _ hr hl h.en.tab).mono ?_
  rintro e w' ⟨rfl, h1⟩
  exact ⟨rfl, h.below hC h1, h1⟩
theorem D9.heldQ (hC : Ctr R) (h : D9 R W0 V own gs Ns ss 4) {i : Nat} (hi1 : 3 ≤ i) (hi4 : i ≤ 4) :
    Calls Tryz.prog 23 #[.pointer (some ⟨gs i, 0, none⟩)] V fun e w' => e = .returned (.int .i64 ((ss i).wt.length : Nat)) ∧ D9 R W0 w' own gs Ns ss 4 ∧ Below V.heap.size V w' := by
  have hr := h.rr i (by omega) hi4 (by omega) (in4 (by omega) hi4)
  have er : RR R i = R9 := if_neg (by omega)
  rw [er] at hr
  refine (R9.held hr).mono ?_
  rintro e w' ⟨rfl, rfl⟩
  exact ⟨rfl, h, Below.refl _ _⟩
end
end Go.Proofs.YtmjhfabdbajchaaGreatDoor
