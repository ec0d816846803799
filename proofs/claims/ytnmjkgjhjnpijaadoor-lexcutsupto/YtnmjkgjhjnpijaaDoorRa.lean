import Derived.Test.YtnmjkgjhjnpijaaDoorG2
set_option linter.unusedVariables false
set_option linter.unusedSimpArgs false
namespace Go.Proofs.YtnmjkgjhjnpijaaDoor
open Go.RowKit

/-! ### The reference: bytes and characters -/

def secLo (f : Int) : Int := if f = 224 then 160 else if f = 240 then 144 else 128
def secHi (f : Int) : Int := if f = 237 then 159 else if f = 244 then 143 else 191
def sec (f b : Int) : Bool := decide (secLo f ≤ b) && decide (b ≤ secHi f)

theorem ret_bool {a b : Bool} (h : a = b) : Ending.returned (.bool a) = .returned (.bool b) := by rw [h]

def lng (f : Int) : Int := if f ≤ 127 then 1 else if 194 ≤ f ∧ f ≤ 223 then 2 else if 224 ≤ f ∧ f ≤ 239 then 3 else if 240 ≤ f ∧ f ≤ 244 then 4 else 0

theorem by8_get (s : ByteArray) (n : Nat) (h : n < s.size) : (s[n]'h).toNat = by8 s n := by
  unfold by8
  have := get_at s n h
  rw [Nat.add_zero] at this
  rw [this]

/-- Whether the byte i behind a first one may stand there. -/
def okb (s : ByteArray) (a i : Nat) : Bool := decide (128 ≤ by8 s (a + i)) && decide (by8 s (a + i) ≤ 191) && (i != 1 || sec (by8 s a) (by8 s (a + i)))
def fitF (s : ByteArray) (a n : Nat) : Nat → Nat → Bool
  | 0, _ => true
  | f + 1, i => if i < n ∧ a + i < s.size then (if okb s a i = true then fitF s a n f (i + 1) else false) else true
def fit (s : ByteArray) (a n : Nat) : Bool := fitF s a n 4 1

end Go.Proofs.YtnmjkgjhjnpijaaDoor
