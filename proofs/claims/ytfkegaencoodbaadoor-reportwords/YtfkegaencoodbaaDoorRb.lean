import Derived.Test.YtfkegaencoodbaaDoorRa
set_option linter.unusedVariables false
set_option linter.unusedSimpArgs false
namespace Go.Proofs.YtfkegaencoodbaaDoor
open Go.RowKit

theorem fitF_pos (s : ByteArray) (a n f i : Nat) (h : i < n ∧ a + i < s.size) : fitF s a n (f + 1) i = (okb s a i && fitF s a n f (i + 1)) := by
  show (if i < n ∧ a + i < s.size then (if okb s a i = true then fitF s a n f (i + 1) else false) else true) = _
  rw [if_pos h]
  cases okb s a i <;> simp
theorem fitF_neg (s : ByteArray) (a n f i : Nat) (h : ¬ (i < n ∧ a + i < s.size)) : fitF s a n f i = true := by
  cases f with
  | zero => rfl
  | succ f =>
    show (if i < n ∧ a + i < s.size then (if okb s a i = true then fitF s a n f (i + 1) else false) else true) = _
    rw [if_neg h]
theorem fit1 (s : ByteArray) (a : Nat) : fit s a 1 = true := fitF_neg s a 1 4 1 (by omega)
theorem fit2 (s : ByteArray) (a : Nat) (h : a + 2 ≤ s.size) : fit s a 2 = okb s a 1 := by
  unfold fit
  rw [fitF_pos s a 2 3 1 (by omega), fitF_neg s a 2 3 _ (by omega)]; simp
theorem fit3 (s : ByteArray) (a : Nat) (h : a + 3 ≤ s.size) : fit s a 3 = (okb s a 1 && okb s a 2) := by
  unfold fit
  rw [fitF_pos s a 3 3 1 (by omega), fitF_pos s a 3 2 _ (by omega), fitF_neg s a 3 2 _ (by omega)]; simp
theorem fit4 (s : ByteArray) (a : Nat) (h : a + 4 ≤ s.size) : fit s a 4 = (okb s a 1 && okb s a 2 && okb s a 3) := by
  unfold fit
  rw [fitF_pos s a 4 3 1 (by omega), fitF_pos s a 4 2 _ (by omega), fitF_pos s a 4 1 _ (by omega), fitF_neg s a 4 1 _ (by omega)]; simp [Bool.and_assoc]

theorem okb1 (s : ByteArray) (a : Nat) : okb s a 1 = true ↔ (128 ≤ by8 s (a + 1) ∧ by8 s (a + 1) ≤ 191) ∧ (secLo (by8 s a) ≤ by8 s (a + 1) ∧ (by8 s (a + 1) : Int) ≤ secHi (by8 s a)) := by
  unfold okb sec
  simp
theorem okb2 (s : ByteArray) (a i : Nat) (h : i ≠ 1) : okb s a i = true ↔ (128 ≤ by8 s (a + i) ∧ by8 s (a + i) ≤ 191) := by
  unfold okb
  have : (i != 1) = true := by simp [h]
  rw [this]
  simp

theorem ct_ob (s : ByteArray) (i : Nat) : ct (ob s i) = true ↔ (i < s.size ∧ by8 s i / 64 = 2) := by
  unfold ct ob
  by_cases h : i < s.size <;> simp [h]

theorem vv_in (s : ByteArray) (i : Nat) (h : i < s.size) : vv (ob s i) = by8 s i % 64 := by
  rw [ob_in s i h]; rfl

/-- What the reference tells of a character. -/
def rv (s : ByteArray) (a : Nat) : Nat → Nat
  | 1 => by8 s a
  | 2 => by8 s a % 32 * 64 + by8 s (a + 1) % 64
  | 3 => by8 s a % 16 * 4096 + by8 s (a + 1) % 64 * 64 + by8 s (a + 2) % 64
  | _ => by8 s a % 8 * 262144 + by8 s (a + 1) % 64 * 4096 + by8 s (a + 2) % 64 * 64 + by8 s (a + 3) % 64

theorem c3 (b c d : Nat) (hb : 224 ≤ b ∧ b ≤ 239) (hc : 128 ≤ c ∧ c ≤ 191) (h1 : secLo b ≤ c) (h2 : (c : Int) ≤ secHi b) : 2048 ≤ b % 16 * 4096 + c % 64 * 64 + d % 64 ∧ (b % 16 * 4096 + c % 64 * 64 + d % 64 < 55296 ∨ 57344 ≤ b % 16 * 4096 + c % 64 * 64 + d % 64) := by
  unfold secLo at h1
  unfold secHi at h2
  split at h1 <;> split at h2 <;> omega
theorem c4 (b c d e : Nat) (hb : 240 ≤ b ∧ b ≤ 244) (hc : 128 ≤ c ∧ c ≤ 191) (h1 : secLo b ≤ c) (h2 : (c : Int) ≤ secHi b) : 65536 ≤ b % 8 * 262144 + c % 64 * 4096 + d % 64 * 64 + e % 64 ∧ b % 8 * 262144 + c % 64 * 4096 + d % 64 * 64 + e % 64 ≤ 1114111 := by
  unfold secLo at h1
  unfold secHi at h2
  split at h1
  · omega
  · split at h1
    · split at h2
      · omega
      · split at h2 <;> omega
    · split at h2
      · omega
      · split at h2 <;> omega
theorem e2 (b c : Nat) (hb : b / 32 = 6) (hc : c / 64 = 2) (h : 128 ≤ b % 32 * 64 + c % 64) (h2 : b < 256) : lng b = 2 ∧ secLo b ≤ c ∧ (c : Int) ≤ secHi b := by
  unfold lng secLo secHi
  refine ⟨?_, ?_, ?_⟩
  · rw [if_neg (by omega), if_pos (by omega)]
  · rw [if_neg (by omega), if_neg (by omega)]; omega
  · rw [if_neg (by omega), if_neg (by omega)]; omega
theorem e3 (b c d : Nat) (hb : b / 16 = 14) (hc : c / 64 = 2) (h : 2048 ≤ b % 16 * 4096 + c % 64 * 64 + d % 64) (h2 : b % 16 * 4096 + c % 64 * 64 + d % 64 < 55296 ∨ 57344 ≤ b % 16 * 4096 + c % 64 * 64 + d % 64) : lng b = 3 ∧ secLo b ≤ c ∧ (c : Int) ≤ secHi b := by
  unfold lng secLo secHi
  refine ⟨?_, ?_, ?_⟩
  · rw [if_neg (by omega), if_neg (by omega), if_pos (by omega)]
  · split
    · omega
    · rw [if_neg (by omega)]; omega
  · split
    · omega
    · rw [if_neg (by omega)]; omega
theorem e4 (b c d e : Nat) (hb : b / 8 = 30) (hc : c / 64 = 2) (h : 65536 ≤ b % 8 * 262144 + c % 64 * 4096 + d % 64 * 64 + e % 64) (h2 : b % 8 * 262144 + c % 64 * 4096 + d % 64 * 64 + e % 64 ≤ 1114111) : lng b = 4 ∧ secLo b ≤ c ∧ (c : Int) ≤ secHi b := by
  unfold lng secLo secHi
  refine ⟨?_, ?_, ?_⟩
  · rw [if_neg (by omega), if_neg (by omega), if_neg (by omega), if_pos (by omega)]
  · rw [if_neg (by omega)]
    split <;> omega
  · rw [if_neg (by omega)]
    split <;> omega

theorem lng_cases (b : Nat) : (lng b = 1 ∧ b ≤ 127) ∨ (lng b = 2 ∧ 194 ≤ b ∧ b ≤ 223) ∨ (lng b = 3 ∧ 224 ≤ b ∧ b ≤ 239) ∨ (lng b = 4 ∧ 240 ≤ b ∧ b ≤ 244) ∨ lng b = 0 := by
  unfold lng
  repeat' split
  all_goals omega

theorem d64 (c : Nat) (h : 128 ≤ c ∧ c ≤ 191) : c / 64 = 2 := by omega
theorem d64' (c : Nat) (h : c / 64 = 2) : 128 ≤ c ∧ c ≤ 191 := by omega

theorem ref_good (s : ByteArray) (a n : Nat) (hn : lng (by8 s a) = n) (h0 : n ≠ 0) (hz : a + n ≤ s.size) (hf : fit s a n = true) : Utf8.decode s a = (rv s a n, n) := by
  rw [decode_eq]
  rcases lng_cases (by8 s a) with ⟨h, hb⟩ | ⟨h, hb⟩ | ⟨h, hb⟩ | ⟨h, hb⟩ | h
  · obtain rfl : n = 1 := by omega
    unfold D
    rw [if_pos (by omega)]; rfl
  · obtain rfl : n = 2 := by omega
    rw [fit2 s a hz, okb1] at hf
    obtain ⟨f1, f2, f3⟩ := hf
    have k := vv_in s (a + 1) (by omega)
    rw [D_v2 _ _ _ _ (by omega) ((ct_ob s _).2 ⟨by omega, d64 _ f1⟩) (by rw [k]; omega), k]; rfl
  · obtain rfl : n = 3 := by omega
    rw [fit3 s a hz, Bool.and_eq_true, okb1, okb2 s a 2 (by omega)] at hf
    obtain ⟨⟨f1, f2, f3⟩, g1⟩ := hf
    have k1 := vv_in s (a + 1) (by omega)
    have k2 := vv_in s (a + 2) (by omega)
    have c := c3 _ _ (by8 s (a + 2)) hb f1 f2 f3
    rw [D_v3 _ _ _ _ (by omega) ((ct_ob s _).2 ⟨by omega, d64 _ f1⟩) ((ct_ob s _).2 ⟨by omega, d64 _ g1⟩) (by rw [k1, k2]; exact c.1) (by rw [k1, k2]; exact c.2), k1, k2]; rfl
  · obtain rfl : n = 4 := by omega
    rw [fit4 s a hz, Bool.and_eq_true, Bool.and_eq_true, okb1, okb2 s a 2 (by omega), okb2 s a 3 (by omega)] at hf
    obtain ⟨⟨⟨f1, f2, f3⟩, g1⟩, g2⟩ := hf
    have k1 := vv_in s (a + 1) (by omega)
    have k2 := vv_in s (a + 2) (by omega)
    have k3 := vv_in s (a + 3) (by omega)
    have c := c4 _ _ (by8 s (a + 2)) (by8 s (a + 3)) hb f1 f2 f3
    rw [D_v4 _ _ _ _ (by omega) ((ct_ob s _).2 ⟨by omega, d64 _ f1⟩) ((ct_ob s _).2 ⟨by omega, d64 _ g1⟩) ((ct_ob s _).2 ⟨by omega, d64 _ g2⟩) (by rw [k1, k2, k3]; exact c.1) (by rw [k1, k2, k3]; exact c.2), k1, k2, k3]; rfl
  · omega

theorem ref_bad (s : ByteArray) (a n : Nat) (hn : lng (by8 s a) = n) (ha : a < s.size) (h : n = 0 ∨ s.size < a + n ∨ fit s a n = false) : Utf8.decode s a = (65533, 1) := by
  rw [decode_eq]
  rcases D_ways (by8 s a) (ob s (a + 1)) (ob s (a + 2)) (ob s (a + 3)) with e | ⟨e1, _⟩ | ⟨_, _, w, _⟩ | ⟨_, _, _, w, _⟩ | ⟨_, _, _, _, w⟩
  · exact e
  · exfalso
    have : lng (by8 s a) = 1 := by unfold lng; rw [if_pos (by omega)]
    obtain rfl : n = 1 := by omega
    rw [fit1] at h
    rcases h with h | h | h
    · omega
    · omega
    · cases h
  · exfalso
    obtain ⟨q1, q2, q3⟩ := (D_w2 _ _ _ _).1 w
    obtain ⟨z1, y1⟩ := (ct_ob s _).1 q2
    rw [vv_in s _ z1] at q3
    obtain ⟨l1, l2, l3⟩ := e2 _ _ q1 y1 q3 (by8_lt s a)
    obtain rfl : n = 2 := by omega
    rcases h with h | h | h
    · omega
    · omega
    · rw [fit2 s a (by omega), (okb1 s a).2 ⟨d64' _ y1, l2, l3⟩] at h; cases h
  · exfalso
    obtain ⟨q1, q2, q2', q3, q4⟩ := (D_w3 _ _ _ _).1 w
    obtain ⟨z1, y1⟩ := (ct_ob s _).1 q2
    obtain ⟨z2, y2⟩ := (ct_ob s _).1 q2'
    rw [vv_in s _ z1, vv_in s _ z2] at q3 q4
    obtain ⟨l1, l2, l3⟩ := e3 _ _ _ q1 y1 q3 q4
    obtain rfl : n = 3 := by omega
    rcases h with h | h | h
    · omega
    · omega
    · rw [fit3 s a (by omega), (okb1 s a).2 ⟨d64' _ y1, l2, l3⟩, (okb2 s a 2 (by omega)).2 (d64' _ y2)] at h; cases h
  · exfalso
    obtain ⟨q1, q2, q2', q2'', q3, q4⟩ := (D_w4 _ _ _ _).1 w
    obtain ⟨z1, y1⟩ := (ct_ob s _).1 q2
    obtain ⟨z2, y2⟩ := (ct_ob s _).1 q2'
    obtain ⟨z3, y3⟩ := (ct_ob s _).1 q2''
    rw [vv_in s _ z1, vv_in s _ z2, vv_in s _ z3] at q3 q4
    obtain ⟨l1, l2, l3⟩ := e4 _ _ _ _ q1 y1 q3 q4
    obtain rfl : n = 4 := by omega
    rcases h with h | h | h
    · omega
    · omega
    · rw [fit4 s a (by omega), (okb1 s a).2 ⟨d64' _ y1, l2, l3⟩, (okb2 s a 2 (by omega)).2 (d64' _ y2), (okb2 s a 3 (by omega)).2 (d64' _ y3)] at h; cases h

set_option maxHeartbeats 400000 in
theorem rnext_out (s : ByteArray) (a : Int) (w : World) (hs : s.size ≤ maxLen) (h1 : a < 0 ∨ s.size ≤ a) :
    Calls Tryd.prog 28 #[.string s, .int .i64 a] w fun e w' => e = .returned (.tuple #[.int .i64 0, .int .i64 0, .bool false]) ∧ w' = w := by
  unfold maxLen at hs
  rcases h1 with h1 | h1
  · go_enter Tryd.func28, Tryd.ntmps28
    go_wp2_with fail
    go_ret3
    exact ⟨rfl, rfl⟩
  · have h2 : ¬ a < 0 := by omega
    go_enter Tryd.func28, Tryd.ntmps28
    go_wp2_with fail
    go_ret3
    exact ⟨rfl, rfl⟩

def pv (s : ByteArray) (a m : Nat) : Nat → Nat
  | 0 => by8 s a % m
  | k + 1 => 64 * pv s a m k + by8 s (a + k + 1) % 64

theorem pv_bd (s : ByteArray) (a m : Nat) (hm : 0 < m) (hm2 : m ≤ 32) : ∀ k, k ≤ 3 → pv s a m k < 8388608
  | 0, _ => by have := Nat.mod_lt (by8 s a) hm; unfold pv; omega
  | 1, _ => by have := Nat.mod_lt (by8 s a) hm; unfold pv pv; omega
  | 2, _ => by have := Nat.mod_lt (by8 s a) hm; unfold pv pv pv; omega
  | 3, _ => by have := Nat.mod_lt (by8 s a) hm; unfold pv pv pv pv; omega
  | k + 4, h => by omega

theorem pv2 (s : ByteArray) (a : Nat) : pv s a 32 1 = rv s a 2 := by
  show 64 * (by8 s a % 32) + by8 s (a + 0 + 1) % 64 = by8 s a % 32 * 64 + by8 s (a + 1) % 64
  rw [Nat.add_zero]; omega
theorem pv3 (s : ByteArray) (a : Nat) : pv s a 16 2 = rv s a 3 := by
  show 64 * (64 * (by8 s a % 16) + by8 s (a + 0 + 1) % 64) + by8 s (a + 1 + 1) % 64 = by8 s a % 16 * 4096 + by8 s (a + 1) % 64 * 64 + by8 s (a + 2) % 64
  rw [Nat.add_zero, Nat.add_assoc a 1 1]; omega
theorem pv4 (s : ByteArray) (a : Nat) : pv s a 8 3 = rv s a 4 := by
  show 64 * (64 * (64 * (by8 s a % 8) + by8 s (a + 0 + 1) % 64) + by8 s (a + 1 + 1) % 64) + by8 s (a + 2 + 1) % 64 = by8 s a % 8 * 262144 + by8 s (a + 1) % 64 * 4096 + by8 s (a + 2) % 64 * 64 + by8 s (a + 3) % 64
  rw [Nat.add_zero, Nat.add_assoc a 1 1, Nat.add_assoc a 2 1]; omega

set_option maxRecDepth 100000 in
set_option maxHeartbeats 1000000 in
theorem rnext_wide (s : ByteArray) (a n m : Nat) (w : World) (hs : s.size ≤ 2147483647) (hz : a + n ≤ s.size) (hn : (n = 2 ∧ m = 32) ∨ (n = 3 ∧ m = 16) ∨ (n = 4 ∧ m = 8)) (hl : lng (by8 s a) = n) (hf : fit s a n = true) :
    Calls Tryd.prog 28 #[.string s, .int .i64 a] w fun e w' => e = .returned (.tuple #[.int .i64 (pv s a m (n - 1)), .int .i64 n, .bool true]) ∧ w' = w := by
  have ha : a < s.size := by omega
  have hb0 := by8_get s a ha
  have hl0 := by8_lt s a
  have hlong := long_any (by8 s a)
  rw [hl] at hlong
  have HL : Hid _ := hlong
  have hfit := fits_any s a n
  rw [hf] at hfit
  have HF : Hid _ := hfit
  have hpv : pv s a m 0 = by8 s a % m := rfl
  have HPB : Hid _ := pv_bd s a m (by omega) (by omega)
  clear hlong hfit hl hf
  generalize hB0 : by8 s a = b0 at *
  have HPV : Hid (pv s a m 0 = b0 % m) := hpv
  clear hpv hB0
  go_enter Tryd.func28, Tryd.ntmps28
  go_wp2_with fail
  refine (HL.out _).mono ?_
  rintro e w1 ⟨rfl, rfl⟩
  have hn0 : ((n : Int) == 0) = false := by simp; omega
  have hn1 : ((n : Int) == 1) = false := by simp; omega
  go_wp2_with fail
  refine (HF.out _ hs ha (by omega)).mono ?_
  rintro e w2 ⟨rfl, rfl⟩
  clear HL HF
  rcases hn with ⟨rfl, rfl⟩ | ⟨rfl, rfl⟩ | ⟨rfl, rfl⟩
  · skip
    go_wp2_with fail
    go_loopw [9, 10] (fun p i wr => ∃ k : Nat, k ≤ 1 ∧ i = .int .i64 ((k + 1 : Nat) : Int) ∧ p = .int .i64 (pv s a 32 k) ∧ wr = w2) (fun _ i _ => 5 - (intOf i).toNat)
    case atStart => exact ⟨0, by omega, rfl, by rw [HPV.out]; go_num, rfl⟩
    case round =>
      obtain ⟨k, hk, rfl, rfl, rfl⟩ := hrel
      by_cases hlt : k < 1
      · have h2 : a + (k + 1) < s.size := by omega
        have h3 := by8_get s (a + (k + 1)) h2
        have h4 := by8_lt s (a + (k + 1))
        have hp := HPB.out k (by omega)
        have HS : Hid (pv s a 32 (k + 1) = 64 * pv s a 32 k + by8 s (a + (k + 1)) % 64) := rfl
        clear HPV
        generalize pv s a 32 k = p at *
        generalize by8 s (a + (k + 1)) = b at *
        go_wp2_with fail
        exact ⟨⟨k + 1, by omega, by go_num, by rw [HS.out]; go_num, trivial⟩, by simp [intOf]; omega⟩
      · have hk2 : k = 1 := by omega
        subst hk2
        go_wp2_with fail
        go_ret3
        exact ⟨rfl, rfl⟩
  · skip
    go_wp2_with fail
    go_loopw [9, 10] (fun p i wr => ∃ k : Nat, k ≤ 2 ∧ i = .int .i64 ((k + 1 : Nat) : Int) ∧ p = .int .i64 (pv s a 16 k) ∧ wr = w2) (fun _ i _ => 5 - (intOf i).toNat)
    case atStart => exact ⟨0, by omega, rfl, by rw [HPV.out]; go_num, rfl⟩
    case round =>
      obtain ⟨k, hk, rfl, rfl, rfl⟩ := hrel
      by_cases hlt : k < 2
      · have h2 : a + (k + 1) < s.size := by omega
        have h3 := by8_get s (a + (k + 1)) h2
        have h4 := by8_lt s (a + (k + 1))
        have hp := HPB.out k (by omega)
        have HS : Hid (pv s a 16 (k + 1) = 64 * pv s a 16 k + by8 s (a + (k + 1)) % 64) := rfl
        clear HPV
        generalize pv s a 16 k = p at *
        generalize by8 s (a + (k + 1)) = b at *
        go_wp2_with fail
        exact ⟨⟨k + 1, by omega, by go_num, by rw [HS.out]; go_num, trivial⟩, by simp [intOf]; omega⟩
      · have hk2 : k = 2 := by omega
        subst hk2
        go_wp2_with fail
        go_ret3
        exact ⟨rfl, rfl⟩
  · skip
    go_wp2_with fail
    go_loopw [9, 10] (fun p i wr => ∃ k : Nat, k ≤ 3 ∧ i = .int .i64 ((k + 1 : Nat) : Int) ∧ p = .int .i64 (pv s a 8 k) ∧ wr = w2) (fun _ i _ => 5 - (intOf i).toNat)
    case atStart => exact ⟨0, by omega, rfl, by rw [HPV.out]; go_num, rfl⟩
    case round =>
      obtain ⟨k, hk, rfl, rfl, rfl⟩ := hrel
      by_cases hlt : k < 3
      · have h2 : a + (k + 1) < s.size := by omega
        have h3 := by8_get s (a + (k + 1)) h2
        have h4 := by8_lt s (a + (k + 1))
        have hp := HPB.out k (by omega)
        have HS : Hid (pv s a 8 (k + 1) = 64 * pv s a 8 k + by8 s (a + (k + 1)) % 64) := rfl
        clear HPV
        generalize pv s a 8 k = p at *
        generalize by8 s (a + (k + 1)) = b at *
        go_wp2_with fail
        exact ⟨⟨k + 1, by omega, by go_num, by rw [HS.out]; go_num, trivial⟩, by simp [intOf]; omega⟩
      · have hk2 : k = 3 := by omega
        subst hk2
        go_wp2_with fail
        go_ret3
        exact ⟨rfl, rfl⟩

set_option maxRecDepth 100000 in
set_option maxHeartbeats 1000000 in
theorem rnext_one (s : ByteArray) (a : Nat) (w : World) (hs : s.size ≤ 2147483647) (ha : a < s.size) (hl : lng (by8 s a) = 1) :
    Calls Tryd.prog 28 #[.string s, .int .i64 a] w fun e w' => e = .returned (.tuple #[.int .i64 (by8 s a), .int .i64 1, .bool true]) ∧ w' = w := by
  have hb0 := by8_get s a ha
  have hl0 := by8_lt s a
  have hlong := long_any (by8 s a)
  rw [hl] at hlong
  have HL : Hid _ := hlong
  have hfit := fits_any s a 1
  rw [fit1] at hfit
  have HF : Hid _ := hfit
  clear hlong hfit hl
  generalize by8 s a = b0 at *
  go_enter Tryd.func28, Tryd.ntmps28
  go_wp2_with fail
  refine (HL.out _).mono ?_
  rintro e w1 ⟨rfl, rfl⟩
  go_wp2_with fail
  refine (HF.out _ hs ha (by omega)).mono ?_
  rintro e w2 ⟨rfl, rfl⟩
  go_wp2_with fail
  go_ret3
  exact ⟨rfl, rfl⟩

set_option maxRecDepth 100000 in
set_option maxHeartbeats 1000000 in
theorem rnext_bad (s : ByteArray) (a n : Nat) (w : World) (hs : s.size ≤ 2147483647) (ha : a < s.size) (hl : lng (by8 s a) = n) (hn : n ≤ 4) (h : n = 0 ∨ s.size < a + n ∨ fit s a n = false) :
    Calls Tryd.prog 28 #[.string s, .int .i64 a] w fun e w' => e = .returned (.tuple #[.int .i64 65533, .int .i64 1, .bool false]) ∧ w' = w := by
  have hb0 := by8_get s a ha
  have hl0 := by8_lt s a
  have hlong := long_any (by8 s a)
  rw [hl] at hlong
  have HL : Hid _ := hlong
  have HF : Hid _ := fits_any s a n
  clear hlong hl
  generalize by8 s a = b0 at *
  by_cases h0 : n = 0
  · subst h0
    clear h HF
    go_enter Tryd.func28, Tryd.ntmps28
    go_wp2_with fail
    refine (HL.out _).mono ?_
    rintro e w1 ⟨rfl, rfl⟩
    go_wp2_with fail
    go_ret3
    exact ⟨rfl, rfl⟩
  · have hn0 : ((n : Int) == 0) = false := by simp; omega
    by_cases h1 : s.size < a + n
    · clear h HF
      go_enter Tryd.func28, Tryd.ntmps28
      go_wp2_with fail
      refine (HL.out _).mono ?_
      rintro e w1 ⟨rfl, rfl⟩
      go_wp2_with fail
      go_ret3
      exact ⟨rfl, rfl⟩
    · have hf : fit s a n = false := by
        rcases h with h | h | h
        · exact absurd h h0
        · exact absurd h h1
        · exact h
      have hfit := HF.out
      rw [hf] at hfit
      have HF2 : Hid _ := hfit
      clear hfit HF h hf
      go_enter Tryd.func28, Tryd.ntmps28
      go_wp2_with fail
      refine (HL.out _).mono ?_
      rintro e w1 ⟨rfl, rfl⟩
      go_wp2_with fail
      refine (HF2.out _ hs ha (by omega)).mono ?_
      rintro e w2 ⟨rfl, rfl⟩
      go_wp2_with fail
      go_ret3
      exact ⟨rfl, rfl⟩

theorem rnext_in (s : ByteArray) (a : Int) (w : World) (hs : s.size ≤ 2147483647) (h0 : 0 ≤ a) (h1 : a < s.size) :
    Calls Tryd.prog 28 #[.string s, .int .i64 a] w fun e w' => e = .returned (.tuple #[.int .i64 (dp s a.toNat), .int .i64 (dw s a.toNat), .bool (gd s a.toNat)]) ∧ w' = w := by
  obtain ⟨n, rfl⟩ := Int.eq_ofNat_of_zero_le h0
  rw [Int.toNat_natCast]
  have ha : n < s.size := by omega
  obtain ⟨m, hm, hm4⟩ : ∃ m : Nat, lng (by8 s n) = m ∧ m ≤ 4 := by
    rcases lng_cases (by8 s n) with ⟨h, _⟩ | ⟨h, _⟩ | ⟨h, _⟩ | ⟨h, _⟩ | h
    · exact ⟨1, h, by omega⟩
    · exact ⟨2, h, by omega⟩
    · exact ⟨3, h, by omega⟩
    · exact ⟨4, h, by omega⟩
    · exact ⟨0, h, by omega⟩
  by_cases hb : m = 0 ∨ s.size < n + m ∨ fit s n m = false
  · have hd := ref_bad s n m hm ha hb
    have e1 : dp s n = 65533 := by unfold dp; rw [hd]
    have e2 : dw s n = 1 := by unfold dw; rw [hd]
    have e3 : gd s n = false := by unfold gd; rw [e1, e2]; decide
    rw [e1, e2, e3]
    exact rnext_bad s n m w hs ha hm hm4 hb
  · have hf : fit s n m = true := by
      cases hc : fit s n m with
      | true => rfl
      | false => exact absurd (.inr (.inr hc)) hb
    have hd := ref_good s n m hm (by omega) (by omega) hf
    have e1 : dp s n = rv s n m := by unfold dp; rw [hd]
    have e2 : dw s n = m := by unfold dw; rw [hd]
    have e3 : gd s n = true := by
      by_cases h1 : m = 1
      · subst h1
        rcases lng_cases (by8 s n) with ⟨_, h⟩ | ⟨h, _⟩ | ⟨h, _⟩ | ⟨h, _⟩ | h
        · rw [gd_iff, hd]; left; show by8 s n ≠ 65533; omega
        · omega
        · omega
        · omega
        · omega
      · exact (by unfold gd gdb; rw [e2]; simp; omega)
    rw [e1, e2, e3]
    rcases (show m = 1 ∨ m = 2 ∨ m = 3 ∨ m = 4 by omega) with rfl | rfl | rfl | rfl
    · exact rnext_one s n w hs ha hm
    · rw [← pv2]; exact rnext_wide s n 2 32 w hs (by omega) (.inl ⟨rfl, rfl⟩) hm hf
    · rw [← pv3]; exact rnext_wide s n 3 16 w hs (by omega) (.inr (.inl ⟨rfl, rfl⟩)) hm hf
    · rw [← pv4]; exact rnext_wide s n 4 8 w hs (by omega) (.inr (.inr ⟨rfl, rfl⟩)) hm hf
end Go.Proofs.YtfkegaencoodbaaDoor
