/-
  The plain mathematics of layer 1: characters by the model's decoding.
-/
import Derived.Laws.RangeAny
set_option linter.unusedVariables false
set_option linter.unusedSimpArgs false
namespace Go.Proofs.YtfkegaencoodbaaDoor

/-- The point and the width of the character at a place. -/
def dp (s : ByteArray) (i : Nat) : Nat := (Utf8.decode s i).1
def dw (s : ByteArray) (i : Nat) : Nat := (Utf8.decode s i).2

theorem at_big (s : ByteArray) (i : Nat) (h : s.size ≤ i) : (s.get! i).toNat = 0 := by
  have e : s.get! i = default := by
    show s.data[i]! = default
    exact getElem!_neg _ _ (by show ¬ i < s.data.size; have : s.data.size = s.size := rfl; omega)
  rw [e]; rfl

theorem dw_facts (s : ByteArray) (i : Nat) (h : i < s.size) : 1 ≤ dw s i ∧ dw s i ≤ 4 ∧ i + dw s i ≤ s.size := by
  unfold dw Utf8.decode
  simp only []
  repeat' split
  all_goals simp_all
  all_goals omega

theorem dp_le (s : ByteArray) (i : Nat) : dp s i ≤ 1114111 := by
  have hb : ∀ k, (s.get! (i + k)).toNat < 256 := fun k => (s.get! (i + k)).toNat_lt
  have h0 := hb 0; have h1 := hb 1; have h2 := hb 2; have h3 := hb 3
  unfold dp Utf8.decode
  simp only []
  repeat' split
  all_goals simp_all [Utf8.runeError, Utf8.valid]
  all_goals omega

theorem decode_congr (s t : ByteArray) (i j : Nat) (h : ∀ k, k < 4 → t.get! (j + k) = s.get! (i + k)) (hz : ∀ k, k < 4 → (j + k < t.size ↔ i + k < s.size)) : Utf8.decode t j = Utf8.decode s i := by
  unfold Utf8.decode
  simp only [h 0 (by omega), h 1 (by omega), h 2 (by omega), h 3 (by omega), hz 1 (by omega), hz 2 (by omega), hz 3 (by omega)]

theorem get_ext (s : ByteArray) (a b i : Nat) : (s.extract a b).get! i = if a + i < b then s.get! (a + i) else default := by
  have e : ∀ (x : ByteArray) (k : Nat), x.get! k = x.data.toList[k]?.getD default := by
    intro x k
    show x.data[k]! = _
    rw [Array.getElem!_eq_getD, Array.getD_eq_getD_getElem?, Array.getElem?_toList]
  rw [e, e, ByteArray.data_extract, Array.toList_extract]
  simp only [List.extract_eq_take_drop, List.getElem?_take, List.getElem?_drop]
  by_cases h : a + i < b
  · rw [if_pos h, if_pos (by omega)]
  · rw [if_neg h, if_neg (by omega)]; rfl

theorem size_ext (s : ByteArray) (a b : Nat) (h : b ≤ s.size) : (s.extract a b).size = b - a := by
  rw [ByteArray.size_extract]; omega

theorem decode_tail (s : ByteArray) (a i : Nat) (h : a ≤ s.size) : Utf8.decode (s.extract a s.size) i = Utf8.decode s (a + i) := by
  refine decode_congr _ _ _ _ (fun k _ => ?_) (fun k _ => by rw [size_ext s a _ (Nat.le_refl _)]; omega)
  rw [get_ext]
  by_cases hk : a + (i + k) < s.size
  · rw [if_pos hk, Nat.add_assoc]
  · rw [if_neg hk]
    show _ = s.data[a + i + k]!
    exact (getElem!_neg _ _ (by show ¬ _ < s.data.size; have : s.data.size = s.size := rfl; omega)).symm

/-- Whether a character is good, by its point and its width. -/
def gdb (p n : Int) : Bool := (p != 65533) || decide (1 < n)
def gd (s : ByteArray) (i : Nat) : Bool := gdb (dp s i) (dw s i)

/-- Whether a text, with that behind it, begins a character that needs some of it. -/
def goB (s t : ByteArray) : Bool := gd (s ++ t) 0 && decide (s.size < dw (s ++ t) 0)
def opn (s : ByteArray) : Bool := goB s ⟨#[128, 128, 128]⟩ || goB s ⟨#[191, 191, 191]⟩
def whF (s : ByteArray) : Nat → Nat → Nat
  | 0, _ => s.size
  | f + 1, n => if n ≤ s.size then (if opn (s.extract (s.size - n) s.size) = true then s.size - n else whF s f (n + 1)) else s.size
def wh (s : ByteArray) : Nat := whF s 3 1

/-- The last character of a text that is not empty. -/
def lsF (h : ByteArray) : Nat → Nat → Nat × Nat × Bool
  | 0, _ => (65533, 1, false)
  | f + 1, n => if n ≤ h.size then (if gd h (h.size - n) = true ∧ dw h (h.size - n) = n then (dp h (h.size - n), n, true) else lsF h f (n + 1)) else (65533, 1, false)
def ls (h : ByteArray) : Nat × Nat × Bool := lsF h 4 1

/-- Where the characters begin, from a place on. -/
def plc (s : ByteArray) : Nat → Nat → List Nat
  | 0, _ => []
  | f + 1, i => if i < s.size then i :: plc s f (i + dw s i) else []

theorem plc_fuel (s : ByteArray) : ∀ (f g i : Nat), s.size ≤ i + f → s.size ≤ i + g → plc s f i = plc s g i
  | 0, 0, _, _, _ => rfl
  | 0, g + 1, i, h, _ => by unfold plc; rw [if_neg (by omega)]
  | f + 1, 0, i, _, h => by unfold plc; rw [if_neg (by omega)]
  | f + 1, g + 1, i, hf, hg => by
    unfold plc
    split
    · rename_i hi
      have := (dw_facts s i hi).1
      rw [plc_fuel s f g (i + dw s i) (by omega) (by omega)]
    · rfl

/-- From a place on, all the way. -/
def pl (s : ByteArray) (i : Nat) : List Nat := plc s (s.size - i) i
def P (s : ByteArray) : List Nat := pl s 0

theorem pl_lt (s : ByteArray) (i : Nat) (h : i < s.size) : pl s i = i :: pl s (i + dw s i) := by
  have hw := dw_facts s i h
  unfold pl
  obtain ⟨f, hf⟩ : ∃ f, s.size - i = f + 1 := ⟨s.size - i - 1, by omega⟩
  rw [hf]
  show (if i < s.size then i :: plc s f (i + dw s i) else []) = _
  rw [if_pos h, plc_fuel s f (s.size - (i + dw s i)) _ (by omega) (by omega)]

theorem pl_ge (s : ByteArray) (i : Nat) (h : s.size ≤ i) : pl s i = [] := by
  unfold pl
  rw [show s.size - i = 0 by omega]; rfl

theorem pl_len (s : ByteArray) : ∀ (f i : Nat), (plc s f i).length ≤ f
  | 0, _ => by simp [plc]
  | f + 1, i => by
    unfold plc
    split
    · simp; exact pl_len s f _
    · simp

theorem P_len (s : ByteArray) : (P s).length ≤ s.size := by
  unfold P pl; exact Nat.le_trans (pl_len s _ _) (by omega)

end Go.Proofs.YtfkegaencoodbaaDoor
