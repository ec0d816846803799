import Derived.Lib.ItoaNum
import Derived.Lib.ItoaMem
import Derived.Lib.AtoiAll
import Derived.Lib.AtoiAllCases
import Derived.Lib.Bytealg
import Derived.Lib.Strings
set_option linter.unusedVariables false
set_option linter.unusedSimpArgs false
namespace Go.Proofs.YtlpmnkiieibipaaDoor
open Go.Lib (itoa decDigits atoiAll)

/-! A byte, escaped. -/
def hxs : List UInt8 := [48, 49, 50, 51, 52, 53, 54, 55, 56, 57, 97, 98, 99, 100, 101, 102]
def hx (n : Nat) : UInt8 := hxs.getD n 0
/-- By how many bytes a byte is told. -/
def fm (c : UInt8) : Nat := if c.toNat ≤ 31 then 4 else if c.toNat ≤ 91 then 1 else if c.toNat ≤ 92 then 2 else if c.toNat ≤ 126 then 1 else 4
def esc1 (c : UInt8) : List UInt8 := if fm c = 1 then [c] else if fm c = 2 then [92, c] else [92, 120, hx (c.toNat / 16), hx (c.toNat % 16)]
def esc (l : List UInt8) : List UInt8 := l.flatMap esc1

theorem all8 {P : UInt8 → Prop} (h : ∀ n : Fin 256, P (UInt8.ofNat n.val)) (c : UInt8) : P c := by
  have := h ⟨c.toNat, c.toNat_lt⟩
  simpa using this
theorem esc_nil : esc [] = [] := rfl
theorem esc_cons (c : UInt8) (l : List UInt8) : esc (c :: l) = esc1 c ++ esc l := rfl
theorem esc_app (a b : List UInt8) : esc (a ++ b) = esc a ++ esc b := by unfold esc; exact List.flatMap_append
theorem fm_cases (c : UInt8) : fm c = 1 ∨ fm c = 2 ∨ fm c = 4 := by revert c; exact all8 (by decide +kernel)
theorem fm_pos (c : UInt8) : 1 ≤ fm c := by rcases fm_cases c with h | h | h <;> omega
theorem fm_two {c : UInt8} (h : fm c = 2) : c = 92 := by
  unfold fm at h
  repeat' split at h
  all_goals first | omega | (apply UInt8.toNat_inj.1; show c.toNat = 92; omega)
theorem fm_one {c : UInt8} (h : fm c = 1) : c ≠ 92 := by rintro rfl; exact absurd h (by decide)
theorem esc1_len (c : UInt8) : (esc1 c).length = fm c := by rcases fm_cases c with h | h | h <;> simp [esc1, h]
theorem esc1_one {c : UInt8} (h : fm c = 1) : esc1 c = [c] := by simp [esc1, h]
theorem esc1_two {c : UInt8} (h : fm c = 2) : esc1 c = [92, 92] := by rw [fm_two h]; rfl
theorem esc1_four {c : UInt8} (h : fm c = 4) : esc1 c = [92, 120, hx (c.toNat / 16), hx (c.toNat % 16)] := by simp [esc1, h]
theorem esc_len (l : List UInt8) : l.length ≤ (esc l).length ∧ (esc l).length ≤ 4 * l.length := by
  induction l with
  | nil => simp [esc]
  | cons c r ih =>
    rw [esc_cons, List.length_append, esc1_len, List.length_cons]
    rcases fm_cases c with h | h | h <;> omega

/-- What one of sixteen is worth. -/
def dgt (b : UInt8) : Nat := if 48 ≤ b.toNat ∧ b.toNat ≤ 57 then b.toNat - 48 else if 97 ≤ b.toNat ∧ b.toNat ≤ 102 then b.toNat - 97 + 10 else 16
def hxI (b : UInt8) : Int := Lib.indexByte hxs b
theorem hxI_dgt (b : UInt8) : hxI b = if dgt b < 16 then (dgt b : Int) else -1 := by
  revert b; exact all8 (by decide +kernel)
theorem hx_dgt (b : UInt8) (h : dgt b < 16) : hx (dgt b) = b := by
  revert h; revert b; exact all8 (by decide +kernel)
theorem dgt_hx (n : Nat) (h : n < 16) : dgt (hx n) = n := by
  have : ∀ m : Fin 16, dgt (hx m.val) = m.val := by decide
  exact this ⟨n, h⟩
theorem hx_ne (n : Nat) (h : n < 16) : hx n ≠ 10 ∧ hx n ≠ 32 := by
  have : ∀ m : Fin 16, hx m.val ≠ 10 ∧ hx m.val ≠ 32 := by decide
  exact this ⟨n, h⟩
theorem of16 (c : UInt8) : UInt8.ofNat (16 * (c.toNat / 16) + c.toNat % 16) = c := by
  rw [Nat.div_add_mod]; simp

/-- The byte that is told at the beginning, and in which form (0: none). -/
def fb (s : List UInt8) : UInt8 × Nat :=
  if s.headD 0 ≠ 92 then (s.headD 0, 1)
  else if [92, 92].isPrefixOf s then (92, 2)
  else if s.length < 4 ∨ s.getD 1 0 ≠ 120 then (0, 0)
  else if dgt (s.getD 2 0) < 16 ∧ dgt (s.getD 3 0) < 16 then (UInt8.ofNat (16 * dgt (s.getD 2 0) + dgt (s.getD 3 0)), 4)
  else (0, 0)

theorem fb_esc (c : UInt8) (r : List UInt8) : fb (esc1 c ++ r) = (c, fm c) := by
  rcases fm_cases c with h | h | h
  · rw [esc1_one h, h]; simp [fb, fm_one h]
  · rw [esc1_two h, h, fm_two h]; simp [fb]
  · rw [esc1_four h, h]
    have h1 := dgt_hx (c.toNat / 16) (by have := c.toNat_lt; omega)
    have h2 := dgt_hx (c.toNat % 16) (by omega)
    have h3 := of16 c
    have h4 : c.toNat / 16 < 16 := by have := c.toNat_lt; omega
    have h5 : c.toNat % 16 < 16 := by omega
    simp [fb, h1, h2, h3, h4, h5]
theorem fb_back (s : List UInt8) (hs : s ≠ []) (h : (fb s).2 = fm (fb s).1) : s = esc1 (fb s).1 ++ s.drop (fb s).2 := by
  unfold fb at h ⊢
  obtain ⟨a, r, rfl⟩ := List.exists_cons_of_ne_nil hs
  split at h
  · rename_i h1
    rw [if_pos h1]
    simp only at h ⊢
    rw [esc1_one h.symm]; simp
  · rename_i h1
    rw [if_neg h1]
    have ha : a = 92 := by simpa using h1
    subst ha
    split at h
    · rename_i h2
      rw [if_pos h2]
      simp at h2
      obtain ⟨r', rfl⟩ := h2
      rfl
    · rename_i h2
      rw [if_neg h2]
      split at h
      · exact absurd h (by decide)
      · rename_i h3
        rw [if_neg h3]
        split at h
        · rename_i h4
          rw [if_pos h4]
          simp only at h ⊢
          have hl : 4 ≤ (92 :: r).length := by omega
          match r, hl with
          | x :: y :: z :: r', _ =>
            simp only [List.getD_cons_succ, List.getD_cons_zero] at h3 h4 h ⊢
            have hx1 : x = 120 := by simpa using (not_or.1 h3).2
            have e : (UInt8.ofNat (16 * dgt y + dgt z)).toNat = 16 * dgt y + dgt z := by
              rw [UInt8.toNat_ofNat']; omega
            rw [esc1_four h.symm, e, show (16 * dgt y + dgt z) / 16 = dgt y by omega, show (16 * dgt y + dgt z) % 16 = dgt z by omega, hx_dgt y h4.1, hx_dgt z h4.2, hx1]
            rfl
        · exact absurd h (by decide)
theorem fb_len (s : List UInt8) (hs : s ≠ []) (h : (fb s).2 = fm (fb s).1) : (fb s).2 ≤ s.length := by
  have := congrArg List.length (fb_back s hs h)
  rw [List.length_append, esc1_len, ← h, List.length_drop] at this
  omega

/-- The text that is told. -/
def une (s : List UInt8) : Option (List UInt8) :=
  if hs : s = [] then some []
  else if h : (fb s).2 = fm (fb s).1 then (une (s.drop (fb s).2)).map ((fb s).1 :: ·) else none
  termination_by s.length
  decreasing_by
  have := fm_pos (fb s).1
  have h0 : 0 < s.length := List.length_pos_iff.2 hs
  rw [List.length_drop]; omega
theorem une_nil : une [] = some [] := by rw [une]; simp
theorem une_bad {s : List UInt8} (hs : s ≠ []) (h : (fb s).2 ≠ fm (fb s).1) : une s = none := by rw [une, dif_neg hs, dif_neg h]
theorem une_good {s : List UInt8} (hs : s ≠ []) (h : (fb s).2 = fm (fb s).1) : une s = (une (s.drop (fb s).2)).map ((fb s).1 :: ·) := by rw [une, dif_neg hs, dif_pos h]
theorem une_esc (t : List UInt8) : une (esc t) = some t := by
  induction t with
  | nil => exact une_nil
  | cons c r ih =>
    rw [esc_cons]
    have h1 := fb_esc c (esc r)
    have hne : esc1 c ++ esc r ≠ [] := by
      intro h
      have := congrArg List.length h
      rw [List.length_append, esc1_len] at this
      have := fm_pos c
      simp at *; omega
    rw [une_good hne (by rw [h1]), h1]
    simp only
    rw [← esc1_len c, List.drop_left, ih]; rfl
theorem une_back : ∀ (n : Nat) (s t : List UInt8), s.length ≤ n → une s = some t → esc t = s
  | 0, s, t, hn, h => by
    obtain rfl : s = [] := List.eq_nil_of_length_eq_zero (by omega)
    rw [une_nil] at h; cases h; rfl
  | n + 1, s, t, hn, h => by
    by_cases hs : s = []
    · subst hs; rw [une_nil] at h; cases h; rfl
    · by_cases hf : (fb s).2 = fm (fb s).1
      · rw [une_good hs hf] at h
        cases hu : une (s.drop (fb s).2) with
        | none => rw [hu] at h; cases h
        | some u =>
          rw [hu] at h; cases h
          have := fm_pos (fb s).1
          have h0 : 0 < s.length := List.length_pos_iff.2 hs
          have := une_back n _ u (by rw [List.length_drop]; omega) hu
          rw [esc_cons, this]
          exact (fb_back s hs hf).symm
      · rw [une_bad hs hf] at h; cases h

/-! The document's way back. -/
def ps (s : List UInt8) : UInt8 × Nat :=
  if s.getD 0 0 = 92 ∧ 3 < s.length ∧ s.getD 1 0 = 120 ∧ dgt (s.getD 2 0) < 16 ∧ dgt (s.getD 3 0) < 16 then (UInt8.ofNat (16 * dgt (s.getD 2 0) + dgt (s.getD 3 0)), 4)
  else if s.getD 0 0 = 92 ∧ 1 < s.length then (s.getD 1 0, 2) else (s.getD 0 0, 1)
theorem ps_pos (s : List UInt8) : 1 ≤ (ps s).2 := by unfold ps; repeat' split <;> simp
theorem ps_le (s : List UInt8) (h : s ≠ []) : (ps s).2 ≤ s.length := by
  have : 0 < s.length := List.length_pos_iff.2 h
  unfold ps
  split
  · simp only; omega
  · split
    · simp only; omega
    · simp only; omega
def pln (s : List UInt8) : List UInt8 := if hs : s = [] then [] else (ps s).1 :: pln (s.drop (ps s).2)
  termination_by s.length
  decreasing_by
  have := ps_pos s
  have h0 : 0 < s.length := List.length_pos_iff.2 hs
  rw [List.length_drop]; omega
theorem pln_nil : pln [] = [] := by rw [pln]; simp
theorem pln_step {s : List UInt8} (hs : s ≠ []) : pln s = (ps s).1 :: pln (s.drop (ps s).2) := by rw [pln, dif_neg hs]
theorem ps_esc (c : UInt8) (r : List UInt8) : ps (esc1 c ++ r) = (c, fm c) := by
  rcases fm_cases c with h | h | h
  · rw [esc1_one h, h]; simp [ps, fm_one h]
  · rw [esc1_two h, h, fm_two h]; simp [ps]
  · rw [esc1_four h, h]
    have h1 := dgt_hx (c.toNat / 16) (by have := c.toNat_lt; omega)
    have h2 := dgt_hx (c.toNat % 16) (by omega)
    have h3 := of16 c
    have h4 : c.toNat / 16 < 16 := by have := c.toNat_lt; omega
    have h5 : c.toNat % 16 < 16 := by omega
    simp [ps, h1, h2, h3, h4, h5]
theorem pln_len : ∀ (n : Nat) (s : List UInt8), s.length ≤ n → (pln s).length ≤ s.length
  | 0, s, hn => by
    obtain rfl : s = [] := List.eq_nil_of_length_eq_zero (by omega)
    rw [pln_nil]; exact Nat.le_refl _
  | n + 1, s, hn => by
    by_cases hs : s = []
    · subst hs; rw [pln_nil]; exact Nat.le_refl _
    · have h1 := ps_pos s
      have h2 := ps_le s hs
      rw [pln_step hs, List.length_cons]
      have := pln_len n (s.drop (ps s).2) (by rw [List.length_drop]; omega)
      rw [List.length_drop] at this
      omega
theorem pln_esc (t : List UInt8) : pln (esc t) = t := by
  induction t with
  | nil => exact pln_nil
  | cons c r ih =>
    rw [esc_cons]
    have h1 := ps_esc c (esc r)
    have hne : esc1 c ++ esc r ≠ [] := by
      intro h
      have := congrArg List.length h
      rw [List.length_append, esc1_len] at this
      have := fm_pos c
      simp at *; omega
    rw [pln_step hne, h1]
    simp only
    rw [← esc1_len c, List.drop_left, ih]
theorem esc_inj {a b : List UInt8} (h : esc a = esc b) : a = b := by
  have := congrArg pln h
  rwa [pln_esc, pln_esc] at this
theorem esc_ne10 (l : List UInt8) : ∀ x ∈ esc l, x ≠ 10 := by
  induction l with
  | nil => simp [esc]
  | cons c r ih =>
    intro x hx'
    rw [esc_cons, List.mem_append] at hx'
    rcases hx' with h | h
    · rcases fm_cases c with h1 | h1 | h1
      · rw [esc1_one h1] at h
        simp at h; subst h
        rintro rfl; exact absurd h1 (by decide)
      · rw [esc1_two h1] at h
        simp at h; subst h; decide
      · rw [esc1_four h1] at h
        have a1 := (hx_ne (c.toNat / 16) (by have := c.toNat_lt; omega)).1
        have a2 := (hx_ne (c.toNat % 16) (by omega)).1
        simp only [List.mem_cons, List.not_mem_nil, or_false] at h
        rcases h with rfl | rfl | rfl | rfl
        · decide
        · decide
        · exact a1
        · exact a2
    · exact ih x h

/-! Numbers of 0 to 1000. -/
def dd (n : Nat) : List UInt8 :=
  if n < 10 then [UInt8.ofNat (48 + n)] else if n < 100 then [UInt8.ofNat (48 + n / 10), UInt8.ofNat (48 + n % 10)]
  else if n < 1000 then [UInt8.ofNat (48 + n / 100), UInt8.ofNat (48 + n / 10 % 10), UInt8.ofNat (48 + n % 10)] else [49, 48, 48, 48]
theorem dd_eq (n : Nat) (h : n ≤ 1000) : decDigits n = dd n := by
  unfold dd
  split
  · rename_i h1; exact Lib.decDigits_one h1
  · split
    · rename_i h1 h2; exact Lib.decDigits_two h1 h2
    · split
      · rename_i h1 h2 h3
        rw [decDigits, dif_neg h1, Lib.decDigits_two (by omega) (by omega)]
        simp only [List.cons_append, List.nil_append]
        rw [show n / 10 / 10 = n / 100 by omega]
      · rename_i h1 h2 h3
        obtain rfl : n = 1000 := by omega
        rw [decDigits, dif_neg (by omega), decDigits, dif_neg (by omega), Lib.decDigits_two (by omega) (by omega)]
        rfl
def itn (n : Int) : List UInt8 := dd n.toNat
theorem itoa_eq (n : Int) (h0 : 0 ≤ n) (h1 : n ≤ 1000) : itoa n = dd n.toNat := by
  unfold itoa
  rw [if_neg (by omega), dd_eq _ (by omega)]
theorem itoa_len {n : Int} (h0 : 0 ≤ n) (h1 : n ≤ 1000) : 1 ≤ (itoa n).length ∧ (itoa n).length ≤ 4 := by
  rw [itoa_eq n h0 h1]
  have : ∀ m : Fin 1001, 1 ≤ (dd m.val).length ∧ (dd m.val).length ≤ 4 := by decide +kernel
  exact this ⟨n.toNat, by omega⟩
theorem itoa_dig {n : Int} (h0 : 0 ≤ n) (h1 : n ≤ 1000) : ∀ x ∈ itoa n, 48 ≤ x.toNat ∧ x.toNat ≤ 57 := by
  rw [itoa_eq n h0 h1]
  have : ∀ m : Fin 1001, ∀ x ∈ dd m.val, 48 ≤ x.toNat ∧ x.toNat ≤ 57 := by decide +kernel
  exact this ⟨n.toNat, by omega⟩
theorem atoi_itoa {n : Int} (h0 : 0 ≤ n) (h1 : n ≤ 1000) : atoiAll (itoa n) = .ok n := by
  rw [itoa_eq n h0 h1]
  have : ∀ m : Fin 1001, atoiAll (dd m.val) = .ok (m.val : Int) := by decide +kernel
  have := this ⟨n.toNat, by omega⟩
  simp only at this
  rw [this, Int.toNat_of_nonneg h0]
theorem itoa_ne (n : Int) : itoa n ≠ [] := by
  unfold itoa
  split
  · simp
  · rw [decDigits]; split <;> simp
def even5 : List UInt8 := [32, 101, 118, 101, 110]
def evn (e : Bool) : List UInt8 := if e then even5 else []
/-- The digits of the first four, as the document reads them. -/
def nm4 : Nat → Nat → List UInt8 → Nat
  | 0, n, _ => n
  | _ + 1, n, [] => n
  | f + 1, n, c :: r => if 48 ≤ c.toNat ∧ c.toNat ≤ 57 then nm4 f (10 * n + (c.toNat - 48)) r else nm4 f n r
theorem nm4_itoa {n : Int} (h0 : 0 ≤ n) (h1 : n ≤ 1000) (e : Bool) : nm4 4 0 (itoa n ++ evn e) = n.toNat := by
  rw [itoa_eq n h0 h1]
  have : ∀ m : Fin 1001, nm4 4 0 (dd m.val ++ evn false) = m.val ∧ nm4 4 0 (dd m.val ++ evn true) = m.val := by decide +kernel
  have := this ⟨n.toNat, by omega⟩
  cases e
  · exact this.1
  · exact this.2
theorem nm4_lt : ∀ (f n : Nat) (l : List UInt8), nm4 f n l ≤ (n + 1) * 10 ^ f - 1
  | 0, n, _ => by simp [nm4]
  | f + 1, n, [] => by
    simp only [nm4]
    have : 1 ≤ 10 ^ (f + 1) := Nat.pow_pos (by omega)
    have := Nat.mul_le_mul_left (n + 1) this
    omega
  | f + 1, n, c :: r => by
    simp only [nm4]
    have hp : (n + 1) * 10 ^ (f + 1) = (10 * n + 10) * 10 ^ f := by rw [Nat.pow_succ]; rw [Nat.mul_comm (10 ^ f) 10, ← Nat.mul_assoc]; congr 1; omega
    split
    · have h1 := nm4_lt f (10 * n + (c.toNat - 48)) r
      have h2 : (10 * n + (c.toNat - 48) + 1) * 10 ^ f ≤ (10 * n + 10) * 10 ^ f := Nat.mul_le_mul_right _ (by omega)
      omega
    · have h1 := nm4_lt f n r
      have h2 : (n + 1) * 10 ^ f ≤ (10 * n + 10) * 10 ^ f := Nat.mul_le_mul_right _ (by omega)
      omega
end Go.Proofs.YtlpmnkiieibipaaDoor
