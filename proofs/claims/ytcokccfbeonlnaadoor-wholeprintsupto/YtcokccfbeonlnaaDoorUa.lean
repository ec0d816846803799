import Derived.Test.YtcokccfbeonlnaaDoorGa4
set_option linter.unusedVariables false
set_option linter.unusedSimpArgs false
namespace Go.Proofs.YtcokccfbeonlnaaDoor
open Go.RowKit
open Go.Lib (strCells strCells_length lastIdx lastIdx_spec)

/-- Bytes of one column, blanks among them. -/
def As (l : List UInt8) : Prop := ∀ x ∈ l, 32 ≤ x.toNat ∧ x.toNat ≤ 126
/-- .. without blanks. -/
def Pn (l : List UInt8) : Prop := ∀ x ∈ l, 33 ≤ x.toNat ∧ x.toNat ≤ 126
theorem Pn.as {l : List UInt8} (h : Pn l) : As l := fun x hx => ⟨by have := (h x hx).1; omega, (h x hx).2⟩
theorem As.app {a b : List UInt8} (h : As a) (k : As b) : As (a ++ b) := fun x hx => by
  rcases List.mem_append.1 hx with h1 | h1
  · exact h x h1
  · exact k x h1
theorem As.rep (n : Nat) : As (List.replicate n 32) := fun x hx => by rw [List.eq_of_mem_replicate hx]; decide

theorem one_byte : ∀ i : Fin 95, tw ⟨#[UInt8.ofNat (i.val + 32)]⟩ = 1 ∧ wh ⟨#[UInt8.ofNat (i.val + 32)]⟩ = 1 := by decide +kernel
theorem one_byte' (x : UInt8) (h : 32 ≤ x.toNat ∧ x.toNat ≤ 126) : tw ⟨#[x]⟩ = 1 ∧ wh ⟨#[x]⟩ = 1 := by
  have := one_byte ⟨x.toNat - 32, by omega⟩
  have e : UInt8.ofNat (x.toNat - 32 + 32) = x := by rw [show x.toNat - 32 + 32 = x.toNat by omega]; exact UInt8.ofNat_toNat
  simp only [e] at this
  exact this
theorem tw_nil : tw ⟨#[]⟩ = 0 := by decide +kernel
theorem tw_ascii (l : List UInt8) (h : As l) : tw ⟨l.toArray⟩ = l.length := by
  induction l with
  | nil => exact tw_nil
  | cons x r ih =>
    have hx := one_byte' x (h x (List.mem_cons_self ..))
    have e : (⟨(x :: r).toArray⟩ : ByteArray) = ⟨#[x]⟩ ++ ⟨r.toArray⟩ := by
      apply ByteArray.ext
      apply Array.ext'
      show x :: r = ((⟨#[x]⟩ : ByteArray) ++ ⟨r.toArray⟩).data.toList
      rw [ByteArray.data_append]
      simp
    rw [e, tw_app _ _ (by rw [hx.2]; rfl), hx.1, ih (fun y hy => h y (List.mem_cons_of_mem _ hy))]
    simp; omega

theorem lf_none (l : List UInt8) (h : As l) : lf ⟨l.toArray⟩ < 0 := by
  unfold lf Lib.lastIndexByte
  rcases lastIdx_spec ⟨l.toArray⟩ 10 (⟨l.toArray⟩ : ByteArray).size with ⟨h1, _⟩ | ⟨i, hi, _, h2, _⟩
  · rw [h1]; omega
  · exfalso
    have hi' : i < l.length := by
      have : (⟨l.toArray⟩ : ByteArray).size = l.length := by show l.toArray.size = _; simp
      omega
    have e : (⟨l.toArray⟩ : ByteArray).data[i]! = l[i] := by
      show l.toArray[i]! = _
      rw [getElem!_pos l.toArray i (by simpa using hi')]; simp
    rw [e] at h2
    have := h l[i] (List.getElem_mem ..)
    omega

/-! What stands behind the last line feed. -/
end Go.Proofs.YtcokccfbeonlnaaDoor
