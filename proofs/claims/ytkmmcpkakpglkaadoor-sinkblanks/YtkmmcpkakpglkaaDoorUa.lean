import Derived.Test.YtkmmcpkakpglkaaDoorSy
set_option linter.unusedVariables false
set_option linter.unusedSimpArgs false
namespace Go.Proofs.YtkmmcpkakpglkaaDoor
open Go.RowKit
open Go.Lib (strCells strCells_length lastIdx lastIdx_spec)

/-- Bytes of one column, blanks among them. -/
def As (l : List UInt8) : Prop := ∀ x ∈ l, 32 ≤ x.toNat ∧ x.toNat ≤ 126
/-- .. without blanks. -/
def Pn (l : List UInt8) : Prop := ∀ x ∈ l, 33 ≤ x.toNat ∧ x.toNat ≤ 126
theorem Pn.as {l : List UInt8} (h : Pn l) : As l := fun x hx => ⟨by have := (h x hx).1; omega, (h x hx).2⟩
theorem As.app {a b : List UInt8} (h : As a) (k : As b) : As (a ++ b) := fun x hx => by
  rcases List.mem_append.1 hx with h1 | h1
  · exact h x h1
  · exact k x h1
theorem As.rep (n : Nat) : As (List.replicate n 32) := fun x hx => by rw [List.eq_of_mem_replicate hx]; decide

theorem one_byte : ∀ i : Fin 95, tw ⟨#[UInt8.ofNat (i.val + 32)]⟩ = 1 ∧ wh ⟨#[UInt8.ofNat (i.val + 32)]⟩ = 1 := by decide +kernel
theorem one_byte' (x : UInt8) (h : 32 ≤ x.toNat ∧ x.toNat ≤ 126) : tw ⟨#[x]⟩ = 1 ∧ wh ⟨#[x]⟩ = 1 := by
  have := one_byte ⟨x.toNat - 32, by omega⟩
  have e : UInt8.ofNat (x.toNat - 32 + 32) = x := by rw [show x.toNat - 32 + 32 = x.toNat by omega]; exact UInt8.ofNat_toNat
  simp only [e] at this
  exact this
theorem tw_nil : tw ⟨#[]⟩ = 0 := by decide +kernel
theorem tw_ascii (l : List UInt8) (h : As l) : tw ⟨l.toArray⟩ = l.length := by
  induction l with
  | nil => exact tw_nil
  | cons x r ih =>
    have hx := one_byte' x (h x (List.mem_cons_self ..))
    have e : (⟨(x :: r).toArray⟩ : ByteArray) = ⟨#[x]⟩ ++ ⟨r.toArray⟩ := by
      apply ByteArray.ext
      apply Array.ext'
      show x :: r = ((⟨#[x]⟩ : ByteArray) ++ ⟨r.toArray⟩).data.toList
      rw [ByteArray.data_append]
      simp
    rw [e, tw_app _ _ (by rw [hx.2]; rfl), hx.1, ih (fun y hy => h y (List.mem_cons_of_mem _ hy))]
    simp; omega

theorem lf_none (l : List UInt8) (h : As l) : lf ⟨l.toArray⟩ < 0 := by
  unfold lf Lib.lastIndexByte
  rcases lastIdx_spec ⟨l.toArray⟩ 10 (⟨l.toArray⟩ : ByteArray).size with ⟨h1, _⟩ | ⟨i, hi, _, h2, _⟩
  · rw [h1]; omega
  · exfalso
    have hi' : i < l.length := by
      have : (⟨l.toArray⟩ : ByteArray).size = l.length := by show l.toArray.size = _; simp
      omega
    have e : (⟨l.toArray⟩ : ByteArray).data[i]! = l[i] := by
      show l.toArray[i]! = _
      rw [getElem!_pos l.toArray i (by simpa using hi')]; simp
    rw [e] at h2
    have := h l[i] (List.getElem_mem ..)
    omega

/-! What stands behind the last line feed. -/
def seg (l : List UInt8) : List UInt8 := l.foldl (fun a x => if x = 10 then [] else a ++ [x]) []
theorem seg_snoc (l : List UInt8) (x : UInt8) : seg (l ++ [x]) = if x = 10 then [] else seg l ++ [x] := by
  unfold seg; rw [List.foldl_append]; rfl
theorem seg_nl (l : List UInt8) : seg (l ++ [10]) = [] := by rw [seg_snoc]; rfl
theorem seg_app (l m : List UInt8) (h : As m) : seg (l ++ m) = seg l ++ m := by
  induction m generalizing l with
  | nil => simp
  | cons x r ih =>
    have hx := h x (List.mem_cons_self ..)
    have : l ++ x :: r = (l ++ [x]) ++ r := by simp
    rw [this, ih _ (fun y hy => h y (List.mem_cons_of_mem _ hy)), seg_snoc, if_neg]
    · simp
    · rintro rfl; simp at hx
theorem seg_le_snoc (l : List UInt8) (x : UInt8) (ih : (seg l).length ≤ l.length ∧ l.drop (l.length - (seg l).length) = seg l) : (seg (l ++ [x])).length ≤ (l ++ [x]).length ∧ (l ++ [x]).drop ((l ++ [x]).length - (seg (l ++ [x])).length) = seg (l ++ [x]) := by
  rw [seg_snoc]
  split
  · refine ⟨Nat.zero_le _, ?_⟩
    show (l ++ [x]).drop ((l ++ [x]).length - 0) = []
    rw [Nat.sub_zero, List.drop_length]
  · refine ⟨by simp; omega, ?_⟩
    rw [show (l ++ [x]).length - (seg l ++ [x]).length = l.length - (seg l).length by simp, List.drop_append_of_le_length (by omega), ih.2]
theorem seg_le' (r : List UInt8) : (seg r.reverse).length ≤ r.reverse.length ∧ r.reverse.drop (r.reverse.length - (seg r.reverse).length) = seg r.reverse := by
  induction r with
  | nil => simp [seg]
  | cons x r ih => rw [List.reverse_cons]; exact seg_le_snoc _ x ih
theorem seg_le (l : List UInt8) : (seg l).length ≤ l.length ∧ l.drop (l.length - (seg l).length) = seg l := by
  have := seg_le' l.reverse
  rw [List.reverse_reverse] at this
  exact this

theorem last_app (a : List UInt8) {b : List UInt8} (h : b ≠ []) : (a ++ b).getLast? = b.getLast? := by
  rw [List.getLast?_append]
  cases hb : b.getLast? with
  | none => exact absurd (List.getLast?_eq_none_iff.1 hb) h
  | some x => rfl

/-- What a sink of plain texts has written. -/
structure Bl (s : St6) : Prop where
  b1 : ∀ x ∈ s.out, x = 10 ∨ (32 ≤ x.toNat ∧ x.toNat ≤ 126)
  b2 : ∀ i : Nat, s.out[i]? = some 32 → s.out[i + 1]? ≠ some 10
  b3 : s.out.getLast? ≠ some 32
  b4 : s.fresh = true → seg s.out = []
  b5 : s.fresh = false → s.col = (seg s.out).length
theorem Bl.zero : Bl st0 := ⟨(fun x h => by cases h), (fun i h => by simp [st0] at h), by simp [st0], (fun _ => rfl), (fun h => by cases h)⟩
theorem Bl.feed {s : St6} (h : Bl s) (c : Nat) : Bl (s.feed c) := by
  refine ⟨?_, ?_, ?_, (fun _ => seg_nl _), (fun h => by cases h)⟩
  · intro x hx
    rcases List.mem_append.1 hx with h1 | h1
    · exact h.b1 x h1
    · simp at h1; exact .inl h1
  · intro i hi
    show (s.out ++ [10])[i + 1]? ≠ some 10
    have hi' : (s.out ++ [10])[i]? = some 32 := hi
    by_cases h1 : i < s.out.length
    · rw [List.getElem?_append_left h1] at hi'
      by_cases h2 : i + 1 < s.out.length
      · rw [List.getElem?_append_left h2]; exact h.b2 i hi'
      · exfalso
        apply h.b3
        rw [List.getLast?_eq_getElem?, show s.out.length - 1 = i by omega]; exact hi'
    · exfalso
      have := (List.getElem?_eq_some_iff.1 hi').1
      simp at this
      have : i = s.out.length := by omega
      subst this
      simp at hi'
  · show (s.out ++ [10]).getLast? ≠ some 32
    simp
theorem Bl.blanks {s : St6} (h : Bl s) (n : Nat) : Bl (s.blanks n) := ⟨h.b1, h.b2, h.b3, h.b4, h.b5⟩
theorem Bl.empty {s : St6} (h : Bl s) : Bl s.empty := by
  unfold St6.empty
  split
  · exact h.feed _
  · exact h
theorem Bl.text {s : St6} (h : Bl s) (l : List UInt8) (hl : Pn l) : Bl (s.text ⟨l.toArray⟩) := by
  have hsz : (⟨l.toArray⟩ : ByteArray).size = l.length := by show l.toArray.size = _; simp
  by_cases h0 : l.length = 0
  · have : s.text ⟨l.toArray⟩ = s := if_pos (by rw [hsz]; exact h0)
    rw [this]; exact h
  have hst : s.text ⟨l.toArray⟩ = ⟨false, (ncol s.col s.wait ⟨l.toArray⟩).toNat, 0, s.out ++ ((if s.fresh then List.replicate s.col 32 else []) ++ (List.replicate s.wait 32 ++ l))⟩ := if_neg (by rw [hsz]; exact h0)
  have hnc : ncol s.col s.wait ⟨l.toArray⟩ = s.col + s.wait + l.length := by
    unfold ncol; rw [if_pos (lf_none l hl.as), tw_ascii l hl.as]
  rw [hst, hnc]
  obtain ⟨m, hm⟩ : ∃ m, (if s.fresh then List.replicate s.col 32 else []) ++ (List.replicate s.wait (32 : UInt8) ++ l) = m := ⟨_, rfl⟩
  have hma : As m := by
    rw [← hm]
    refine As.app ?_ ((As.rep _).app hl.as)
    split
    · exact As.rep _
    · intro x hx; cases hx
  have hml : m.getLast? = l.getLast? ∧ m ≠ [] := by
    have hne : l ≠ [] := fun e => h0 (by rw [e]; rfl)
    rw [← hm, ← List.append_assoc]
    exact ⟨last_app _ hne, by simp [hne]⟩
  rw [hm]
  refine ⟨?_, ?_, ?_, (fun h => by cases h), ?_⟩
  · intro x hx
    rcases List.mem_append.1 hx with h1 | h1
    · exact h.b1 x h1
    · exact .inr (hma x h1)
  · intro i hi
    show (s.out ++ m)[i + 1]? ≠ some 10
    have hi' : (s.out ++ m)[i]? = some 32 := hi
    by_cases h2 : i + 1 < s.out.length
    · rw [List.getElem?_append_left (by omega)] at hi'
      rw [List.getElem?_append_left h2]; exact h.b2 i hi'
    · rw [List.getElem?_append_right (by omega)]
      intro e
      have := hma 10 (List.mem_of_getElem? e)
      simp at this
  · show (s.out ++ m).getLast? ≠ some 32
    rw [last_app _ hml.2, hml.1]
    intro e
    have := hl 32 (List.mem_of_getLast? e)
    simp at this
  · intro _
    show (s.col + s.wait + l.length : Int).toNat = (seg (s.out ++ m)).length
    rw [seg_app _ _ hma, List.length_append, ← hm]
    cases hf : s.fresh
    · have := h.b5 hf
      simp; omega
    · have := h.b4 hf
      rw [this]; simp; omega
theorem Bl.step {s : St6} (h : Bl s) (k : Int) (t : ByteArray) (n : Int) (l : List UInt8) (hl : Pn l) (ht : k = 1 → t = ⟨l.toArray⟩) : Bl (s.step k t n) := by
  unfold St6.step
  by_cases k1 : k = 1
  · rw [if_pos k1, ht k1]; exact h.text l hl
  rw [if_neg k1]
  by_cases k2 : k = 2
  · rw [if_pos k2]; split
    · exact h.blanks _
    · exact h
  rw [if_neg k2]
  by_cases k3 : k = 3
  · rw [if_pos k3]; split
    · exact h.feed _
    · exact h
  rw [if_neg k3]
  split
  · exact h.empty
  · exact h
end Go.Proofs.YtkmmcpkakpglkaaDoor
