import Derived.Test.YtkmmcpkakpglkaaDoorUb
set_option linter.unusedVariables false
set_option linter.unusedSimpArgs false
namespace Go.Proofs.YtkmmcpkakpglkaaDoor
open Go.RowKit

/-- What the last look at a text of such a sink meets. -/
structure Lk (s : St6) (T : ByteArray) (fr : Nat → Nat) : Prop where
  f0 : fr 0 = 0
  le : ∀ j, fr j ≤ j
  hit : ∀ j (h : j < T.size), ((T[j]'h).toNat : Int) = 10 → fr (j + 1) = j + 1
  miss : ∀ j (h : j < T.size), ((T[j]'h).toNat : Int) ≠ 10 → fr (j + 1) = fr j
  prev : ∀ j (h : j + 1 < T.size), ((T[j + 1]'h).toNat : Int) = 10 → ((T[j]'(by omega)).toNat : Int) ≠ 32
  last : ∀ j (h : j < T.size), j + 1 = T.size → ((T[j]'h).toNat : Int) ≠ 32
  fin : s.fresh = true → fr T.size = T.size
  col : s.fresh = false → tw (T.extract (fr T.size) T.size) = s.col

theorem byte_ten (x : UInt8) : (x.toNat : Int) = 10 ↔ x = 10 := by
  constructor
  · intro h; apply UInt8.toNat_inj.1; show x.toNat = 10; omega
  · rintro rfl; rfl
theorem byte_blank (x : UInt8) : (x.toNat : Int) = 32 ↔ x = 32 := by
  constructor
  · intro h; apply UInt8.toNat_inj.1; show x.toNat = 32; omega
  · rintro rfl; rfl

theorem seg_as {l : List UInt8} (h : ∀ x ∈ l, x = 10 ∨ (32 ≤ x.toNat ∧ x.toNat ≤ 126)) : As (seg l) := by
  have key : ∀ (l acc : List UInt8), As acc → (∀ x ∈ l, x = 10 ∨ (32 ≤ x.toNat ∧ x.toNat ≤ 126)) → As (l.foldl (fun a x => if x = 10 then [] else a ++ [x]) acc) := by
    intro l
    induction l with
    | nil => intro acc h _; exact h
    | cons x r ih =>
      intro acc ha hl
      rw [List.foldl_cons]
      refine ih _ ?_ (fun y hy => hl y (List.mem_cons_of_mem _ hy))
      split
      · intro y hy; cases hy
      · rename_i hx
        refine ha.app (fun y hy => ?_)
        simp at hy; subst hy
        rcases hl y (List.mem_cons_self ..) with h1 | h1
        · exact absurd h1 hx
        · exact h1
  exact key l [] (fun y hy => by cases hy) h

theorem Bl.look {s : St6} (h : Bl s) : Lk s ⟨s.out.toArray⟩ (fun j => j - (seg (s.out.take j)).length) := by
  have hsz := text_size s.out
  refine ⟨rfl, fun j => by show j - _ ≤ j; omega, ?_, ?_, ?_, ?_, ?_, ?_⟩
  · intro j hj e
    have hj' : j < s.out.length := by omega
    rw [text_byte _ _ hj hj', byte_ten] at e
    show j + 1 - (seg (s.out.take (j + 1))).length = j + 1
    rw [seg_take _ _ hj', if_pos e]; rfl
  · intro j hj e
    have hj' : j < s.out.length := by omega
    rw [text_byte _ _ hj hj', Ne, byte_ten] at e
    show j + 1 - (seg (s.out.take (j + 1))).length = j - (seg (s.out.take j)).length
    rw [seg_take _ _ hj', if_neg e, List.length_append]
    simp
  · intro j hj e e2
    have hj' : j + 1 < s.out.length := by omega
    rw [text_byte _ _ hj hj', byte_ten] at e
    rw [text_byte _ _ (by omega) (by omega : j < s.out.length), byte_blank] at e2
    refine h.b2 j ?_ ?_
    · rw [List.getElem?_eq_getElem (by omega), e2]
    · rw [List.getElem?_eq_getElem hj', e]
  · intro j hj e e2
    have hj' : j < s.out.length := by omega
    rw [text_byte _ _ hj hj', byte_blank] at e2
    apply h.b3
    rw [List.getLast?_eq_getElem?, show s.out.length - 1 = j by omega, List.getElem?_eq_getElem hj', e2]
  · intro hf
    show (⟨s.out.toArray⟩ : ByteArray).size - _ = _
    rw [hsz, List.take_length, h.b4 hf]; rfl
  · intro hf
    have h1 := seg_le s.out
    show tw ((⟨s.out.toArray⟩ : ByteArray).extract ((⟨s.out.toArray⟩ : ByteArray).size - _) _) = _
    rw [text_cut]
    rw [hsz, List.take_length, h1.2, tw_ascii _ (seg_as h.b1), h.b5 hf]
end Go.Proofs.YtkmmcpkakpglkaaDoor
