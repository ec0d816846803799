import Derived.Test.YtnmjkgjhjnpijaaDoorRa
set_option linter.unusedVariables false
set_option linter.unusedSimpArgs false
namespace Go.Proofs.YtnmjkgjhjnpijaaDoor
open Go.RowKit

theorem fitF_pos (s : ByteArray) (a n f i : Nat) (h : i < n ∧ a + i < s.size) : fitF s a n (f + 1) i = (okb s a i && fitF s a n f (i + 1)) := by
  show (if i < n ∧ a + i < s.size then (if okb s a i = true then fitF s a n f (i + 1) else false) else true) = _
  rw [if_pos h]
  cases okb s a i <;> simp
theorem fitF_neg (s : ByteArray) (a n f i : Nat) (h : ¬ (i < n ∧ a + i < s.size)) : fitF s a n f i = true := by
  cases f with
  | zero => rfl
  | succ f =>
    show (if i < n ∧ a + i < s.size then (if okb s a i = true then fitF s a n f (i + 1) else false) else true) = _
    rw [if_neg h]
theorem fit1 (s : ByteArray) (a : Nat) : fit s a 1 = true := fitF_neg s a 1 4 1 (by omega)
theorem fit2 (s : ByteArray) (a : Nat) (h : a + 2 ≤ s.size) : fit s a 2 = okb s a 1 := by
  unfold fit
  rw [fitF_pos s a 2 3 1 (by omega), fitF_neg s a 2 3 _ (by omega)]; simp
theorem fit3 (s : ByteArray) (a : Nat) (h : a + 3 ≤ s.size) : fit s a 3 = (okb s a 1 && okb s a 2) := by
  unfold fit
  rw [fitF_pos s a 3 3 1 (by omega), fitF_pos s a 3 2 _ (by omega), fitF_neg s a 3 2 _ (by omega)]; simp
theorem fit4 (s : ByteArray) (a : Nat) (h : a + 4 ≤ s.size) : fit s a 4 = (okb s a 1 && okb s a 2 && okb s a 3) := by
  unfold fit
  rw [fitF_pos s a 4 3 1 (by omega), fitF_pos s a 4 2 _ (by omega), fitF_pos s a 4 1 _ (by omega), fitF_neg s a 4 1 _ (by omega)]; simp [Bool.and_assoc]

theorem okb1 (s : ByteArray) (a : Nat) : okb s a 1 = true ↔ (128 ≤ by8 s (a + 1) ∧ by8 s (a + 1) ≤ 191) ∧ (secLo (by8 s a) ≤ by8 s (a + 1) ∧ (by8 s (a + 1) : Int) ≤ secHi (by8 s a)) := by
  unfold okb sec
  simp
theorem okb2 (s : ByteArray) (a i : Nat) (h : i ≠ 1) : okb s a i = true ↔ (128 ≤ by8 s (a + i) ∧ by8 s (a + i) ≤ 191) := by
  unfold okb
  have : (i != 1) = true := by simp [h]
  rw [this]
  simp

theorem ct_ob (s : ByteArray) (i : Nat) : ct (ob s i) = true ↔ (i < s.size ∧ by8 s i / 64 = 2) := by
  unfold ct ob
  by_cases h : i < s.size <;> simp [h]

theorem vv_in (s : ByteArray) (i : Nat) (h : i < s.size) : vv (ob s i) = by8 s i % 64 := by
  rw [ob_in s i h]; rfl

/-- What the reference tells of a character. -/
def rv (s : ByteArray) (a : Nat) : Nat → Nat
  | 1 => by8 s a
  | 2 => by8 s a % 32 * 64 + by8 s (a + 1) % 64
  | 3 => by8 s a % 16 * 4096 + by8 s (a + 1) % 64 * 64 + by8 s (a + 2) % 64
  | _ => by8 s a % 8 * 262144 + by8 s (a + 1) % 64 * 4096 + by8 s (a + 2) % 64 * 64 + by8 s (a + 3) % 64

theorem c3 (b c d : Nat) (hb : 224 ≤ b ∧ b ≤ 239) (hc : 128 ≤ c ∧ c ≤ 191) (h1 : secLo b ≤ c) (h2 : (c : Int) ≤ secHi b) : 2048 ≤ b % 16 * 4096 + c % 64 * 64 + d % 64 ∧ (b % 16 * 4096 + c % 64 * 64 + d % 64 < 55296 ∨ 57344 ≤ b % 16 * 4096 + c % 64 * 64 + d % 64) := by
  unfold secLo at h1
  unfold secHi at h2
  split at h1 <;> split at h2 <;> omega
theorem c4 (b c d e : Nat) (hb : 240 ≤ b ∧ b ≤ 244) (hc : 128 ≤ c ∧ c ≤ 191) (h1 : secLo b ≤ c) (h2 : (c : Int) ≤ secHi b) : 65536 ≤ b % 8 * 262144 + c % 64 * 4096 + d % 64 * 64 + e % 64 ∧ b % 8 * 262144 + c % 64 * 4096 + d % 64 * 64 + e % 64 ≤ 1114111 := by
  unfold secLo at h1
  unfold secHi at h2
  split at h1
  · omega
  · split at h1
    · split at h2
      · omega
      · split at h2 <;> omega
    · split at h2
      · omega
      · split at h2 <;> omega
theorem e2 (b c : Nat) (hb : b / 32 = 6) (hc : c / 64 = 2) (h : 128 ≤ b % 32 * 64 + c % 64) (h2 : b < 256) : lng b = 2 ∧ secLo b ≤ c ∧ (c : Int) ≤ secHi b := by
  unfold lng secLo secHi
  refine ⟨?_, ?_, ?_⟩
  · rw [if_neg (by omega), if_pos (by omega)]
  · rw [if_neg (by omega), if_neg (by omega)]; omega
  · rw [if_neg (by omega), if_neg (by omega)]; omega
theorem e3 (b c d : Nat) (hb : b / 16 = 14) (hc : c / 64 = 2) (h : 2048 ≤ b % 16 * 4096 + c % 64 * 64 + d % 64) (h2 : b % 16 * 4096 + c % 64 * 64 + d % 64 < 55296 ∨ 57344 ≤ b % 16 * 4096 + c % 64 * 64 + d % 64) : lng b = 3 ∧ secLo b ≤ c ∧ (c : Int) ≤ secHi b := by
  unfold lng secLo secHi
  refine ⟨?_, ?_, ?_⟩
  · rw [if_neg (by omega), if_neg (by omega), if_pos (by omega)]
  · split
    · omega
    · rw [if_neg (by omega)]; omega
  · split
    · omega
    · rw [if_neg (by omega)]; omega
theorem e4 (b c d e : Nat) (hb : b / 8 = 30) (hc : c / 64 = 2) (h : 65536 ≤ b % 8 * 262144 + c % 64 * 4096 + d % 64 * 64 + e % 64) (h2 : b % 8 * 262144 + c % 64 * 4096 + d % 64 * 64 + e % 64 ≤ 1114111) : lng b = 4 ∧ secLo b ≤ c ∧ (c : Int) ≤ secHi b := by
  unfold lng secLo secHi
  refine ⟨?_, ?_, ?_⟩
  · rw [if_neg (by omega), if_neg (by omega), if_neg (by omega), if_pos (by omega)]
  · rw [if_neg (by omega)]
    split <;> omega
  · rw [if_neg (by omega)]
    split <;> omega

theorem lng_cases (b : Nat) : (lng b = 1 ∧ b ≤ 127) ∨ (lng b = 2 ∧ 194 ≤ b ∧ b ≤ 223) ∨ (lng b = 3 ∧ 224 ≤ b ∧ b ≤ 239) ∨ (lng b = 4 ∧ 240 ≤ b ∧ b ≤ 244) ∨ lng b = 0 := by
  unfold lng
  repeat' split
  all_goals omega

theorem d64 (c : Nat) (h : 128 ≤ c ∧ c ≤ 191) : c / 64 = 2 := by omega
theorem d64' (c : Nat) (h : c / 64 = 2) : 128 ≤ c ∧ c ≤ 191 := by omega

theorem ref_good (s : ByteArray) (a n : Nat) (hn : lng (by8 s a) = n) (h0 : n ≠ 0) (hz : a + n ≤ s.size) (hf : fit s a n = true) : Utf8.decode s a = (rv s a n, n) := by
  rw [decode_eq]
  rcases lng_cases (by8 s a) with ⟨h, hb⟩ | ⟨h, hb⟩ | ⟨h, hb⟩ | ⟨h, hb⟩ | h
  · obtain rfl : n = 1 := by omega
    unfold D
    rw [if_pos (by omega)]; rfl
  · obtain rfl : n = 2 := by omega
    rw [fit2 s a hz, okb1] at hf
    obtain ⟨f1, f2, f3⟩ := hf
    have k := vv_in s (a + 1) (by omega)
    rw [D_v2 _ _ _ _ (by omega) ((ct_ob s _).2 ⟨by omega, d64 _ f1⟩) (by rw [k]; omega), k]; rfl
  · obtain rfl : n = 3 := by omega
    rw [fit3 s a hz, Bool.and_eq_true, okb1, okb2 s a 2 (by omega)] at hf
    obtain ⟨⟨f1, f2, f3⟩, g1⟩ := hf
    have k1 := vv_in s (a + 1) (by omega)
    have k2 := vv_in s (a + 2) (by omega)
    have c := c3 _ _ (by8 s (a + 2)) hb f1 f2 f3
    rw [D_v3 _ _ _ _ (by omega) ((ct_ob s _).2 ⟨by omega, d64 _ f1⟩) ((ct_ob s _).2 ⟨by omega, d64 _ g1⟩) (by rw [k1, k2]; exact c.1) (by rw [k1, k2]; exact c.2), k1, k2]; rfl
  · obtain rfl : n = 4 := by omega
    rw [fit4 s a hz, Bool.and_eq_true, Bool.and_eq_true, okb1, okb2 s a 2 (by omega), okb2 s a 3 (by omega)] at hf
    obtain ⟨⟨⟨f1, f2, f3⟩, g1⟩, g2⟩ := hf
    have k1 := vv_in s (a + 1) (by omega)
    have k2 := vv_in s (a + 2) (by omega)
    have k3 := vv_in s (a + 3) (by omega)
    have c := c4 _ _ (by8 s (a + 2)) (by8 s (a + 3)) hb f1 f2 f3
    rw [D_v4 _ _ _ _ (by omega) ((ct_ob s _).2 ⟨by omega, d64 _ f1⟩) ((ct_ob s _).2 ⟨by omega, d64 _ g1⟩) ((ct_ob s _).2 ⟨by omega, d64 _ g2⟩) (by rw [k1, k2, k3]; exact c.1) (by rw [k1, k2, k3]; exact c.2), k1, k2, k3]; rfl
  · omega

theorem ref_bad (s : ByteArray) (a n : Nat) (hn : lng (by8 s a) = n) (ha : a < s.size) (h : n = 0 ∨ s.size < a + n ∨ fit s a n = false) : Utf8.decode s a = (65533, 1) := by
  rw [decode_eq]
  rcases D_ways (by8 s a) (ob s (a + 1)) (ob s (a + 2)) (ob s (a + 3)) with e | ⟨e1, _⟩ | ⟨_, _, w, _⟩ | ⟨_, _, _, w, _⟩ | ⟨_, _, _, _, w⟩
  · exact e
  · exfalso
    have : lng (by8 s a) = 1 := by unfold lng; rw [if_pos (by omega)]
    obtain rfl : n = 1 := by omega
    rw [fit1] at h
    rcases h with h | h | h
    · omega
    · omega
    · cases h
  · exfalso
    obtain ⟨q1, q2, q3⟩ := (D_w2 _ _ _ _).1 w
    obtain ⟨z1, y1⟩ := (ct_ob s _).1 q2
    rw [vv_in s _ z1] at q3
    obtain ⟨l1, l2, l3⟩ := e2 _ _ q1 y1 q3 (by8_lt s a)
    obtain rfl : n = 2 := by omega
    rcases h with h | h | h
    · omega
    · omega
    · rw [fit2 s a (by omega), (okb1 s a).2 ⟨d64' _ y1, l2, l3⟩] at h; cases h
  · exfalso
    obtain ⟨q1, q2, q2', q3, q4⟩ := (D_w3 _ _ _ _).1 w
    obtain ⟨z1, y1⟩ := (ct_ob s _).1 q2
    obtain ⟨z2, y2⟩ := (ct_ob s _).1 q2'
    rw [vv_in s _ z1, vv_in s _ z2] at q3 q4
    obtain ⟨l1, l2, l3⟩ := e3 _ _ _ q1 y1 q3 q4
    obtain rfl : n = 3 := by omega
    rcases h with h | h | h
    · omega
    · omega
    · rw [fit3 s a (by omega), (okb1 s a).2 ⟨d64' _ y1, l2, l3⟩, (okb2 s a 2 (by omega)).2 (d64' _ y2)] at h; cases h
  · exfalso
    obtain ⟨q1, q2, q2', q2'', q3, q4⟩ := (D_w4 _ _ _ _).1 w
    obtain ⟨z1, y1⟩ := (ct_ob s _).1 q2
    obtain ⟨z2, y2⟩ := (ct_ob s _).1 q2'
    obtain ⟨z3, y3⟩ := (ct_ob s _).1 q2''
    rw [vv_in s _ z1, vv_in s _ z2, vv_in s _ z3] at q3 q4
    obtain ⟨l1, l2, l3⟩ := e4 _ _ _ _ q1 y1 q3 q4
    obtain rfl : n = 4 := by omega
    rcases h with h | h | h
    · omega
    · omega
    · rw [fit4 s a (by omega), (okb1 s a).2 ⟨d64' _ y1, l2, l3⟩, (okb2 s a 2 (by omega)).2 (d64' _ y2), (okb2 s a 3 (by omega)).2 (d64' _ y3)] at h; cases h

def pv (s : ByteArray) (a m : Nat) : Nat → Nat
  | 0 => by8 s a % m
  | k + 1 => 64 * pv s a m k + by8 s (a + k + 1) % 64

theorem pv_bd (s : ByteArray) (a m : Nat) (hm : 0 < m) (hm2 : m ≤ 32) : ∀ k, k ≤ 3 → pv s a m k < 8388608
  | 0, _ => by have := Nat.mod_lt (by8 s a) hm; unfold pv; omega
  | 1, _ => by have := Nat.mod_lt (by8 s a) hm; unfold pv pv; omega
  | 2, _ => by have := Nat.mod_lt (by8 s a) hm; unfold pv pv pv; omega
  | 3, _ => by have := Nat.mod_lt (by8 s a) hm; unfold pv pv pv pv; omega
  | k + 4, h => by omega

theorem pv2 (s : ByteArray) (a : Nat) : pv s a 32 1 = rv s a 2 := by
  show 64 * (by8 s a % 32) + by8 s (a + 0 + 1) % 64 = by8 s a % 32 * 64 + by8 s (a + 1) % 64
  rw [Nat.add_zero]; omega
theorem pv3 (s : ByteArray) (a : Nat) : pv s a 16 2 = rv s a 3 := by
  show 64 * (64 * (by8 s a % 16) + by8 s (a + 0 + 1) % 64) + by8 s (a + 1 + 1) % 64 = by8 s a % 16 * 4096 + by8 s (a + 1) % 64 * 64 + by8 s (a + 2) % 64
  rw [Nat.add_zero, Nat.add_assoc a 1 1]; omega
theorem pv4 (s : ByteArray) (a : Nat) : pv s a 8 3 = rv s a 4 := by
  show 64 * (64 * (64 * (by8 s a % 8) + by8 s (a + 0 + 1) % 64) + by8 s (a + 1 + 1) % 64) + by8 s (a + 2 + 1) % 64 = by8 s a % 8 * 262144 + by8 s (a + 1) % 64 * 4096 + by8 s (a + 2) % 64 * 64 + by8 s (a + 3) % 64
  rw [Nat.add_zero, Nat.add_assoc a 1 1, Nat.add_assoc a 2 1]; omega

end Go.Proofs.YtnmjkgjhjnpijaaDoor
