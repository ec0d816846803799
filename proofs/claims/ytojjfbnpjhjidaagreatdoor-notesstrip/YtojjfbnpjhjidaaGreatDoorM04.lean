import Derived.Test.YtojjfbnpjhjidaaGreatDoorM03
set_option linter.unusedVariables false
set_option linter.unusedSimpArgs false
namespace Go.Proofs.YtojjfbnpjhjidaaGreatDoor.Lx
def by8 (s : ByteArray) (i : Nat) : Nat := (s.get! i).toNat
def ob (s : ByteArray) (i : Nat) : Option Nat := if i < s.size then some (by8 s i) else none
theorem by8_lt (s : ByteArray) (i : Nat) : by8 s i < 256 := (s.get! i).toNat_lt
def ct (c : Option Nat) : Bool := match c with | some b => b / 64 == 2 | none => false
def vv (c : Option Nat) : Nat := c.getD 0 % 64
def D (b0 : Nat) (c1 c2 c3 : Option Nat) : Nat × Nat :=
  if b0 < 128 then (b0, 1)
  else if b0 / 32 == 6 && ct c1 then (if b0 % 32 * 64 + vv c1 ≥ 128 then (b0 % 32 * 64 + vv c1, 2) else (65533, 1))
  else if b0 / 16 == 14 && ct c1 && ct c2 then
    (if b0 % 16 * 4096 + vv c1 * 64 + vv c2 ≥ 2048 && Utf8.valid (b0 % 16 * 4096 + vv c1 * 64 + vv c2 : Nat) then (b0 % 16 * 4096 + vv c1 * 64 + vv c2, 3) else (65533, 1))
  else if b0 / 8 == 30 && ct c1 && ct c2 && ct c3 then
    (if b0 % 8 * 262144 + vv c1 * 4096 + vv c2 * 64 + vv c3 ≥ 65536 && Utf8.valid (b0 % 8 * 262144 + vv c1 * 4096 + vv c2 * 64 + vv c3 : Nat) then (b0 % 8 * 262144 + vv c1 * 4096 + vv c2 * 64 + vv c3, 4) else (65533, 1))
  else (65533, 1)
theorem ob_ct (s : ByteArray) (i : Nat) : (decide (i < s.size) && (s.get! i).toNat / 64 == 2) = ct (ob s i) := by
  unfold ob ct by8
  by_cases h : i < s.size <;> simp [h]
theorem ob_vv (s : ByteArray) (i : Nat) : vv (ob s i) = (s.get! i).toNat % 64 := by
  unfold ob vv by8
  by_cases h : i < s.size
  · simp [h]
  · simp [h, at_big s i (by omega)]
theorem decode_eq (s : ByteArray) (i : Nat) : Utf8.decode s i = D (by8 s i) (ob s (i + 1)) (ob s (i + 2)) (ob s (i + 3)) := by
  unfold Utf8.decode D
  simp only [Nat.add_zero, ob_ct, ob_vv, by8, Utf8.runeError]
def gD (x : Nat × Nat) : Prop := x.1 ≠ 65533 ∨ 1 < x.2
theorem not_gD : ¬ gD (65533, 1) := by unfold gD; simp
theorem D_ways (b0 : Nat) (c1 c2 c3 : Option Nat) :
    (D b0 c1 c2 c3 = (65533, 1)) ∨ (b0 < 128 ∧ D b0 c1 c2 c3 = (b0, 1)) ∨
    (b0 / 32 = 6 ∧ ct c1 = true ∧ (D b0 c1 c2 c3).2 = 2 ∧ ∀ d2 d3, D b0 c1 d2 d3 = D b0 c1 c2 c3) ∨
    (b0 / 16 = 14 ∧ ct c1 = true ∧ ct c2 = true ∧ (D b0 c1 c2 c3).2 = 3 ∧ ∀ d3, D b0 c1 c2 d3 = D b0 c1 c2 c3) ∨
    (b0 / 8 = 30 ∧ ct c1 = true ∧ ct c2 = true ∧ ct c3 = true ∧ (D b0 c1 c2 c3).2 = 4) := by
  by_cases h1 : b0 < 128
  · exact .inr (.inl ⟨h1, by unfold D; rw [if_pos h1]⟩)
  · have e : ∀ x1 x2 x3, D b0 x1 x2 x3 = _ := fun x1 x2 x3 => by unfold D; rw [if_neg h1]
    by_cases h2 : (b0 / 32 == 6 && ct c1) = true
    · grind
    · by_cases h4 : (b0 / 16 == 14 && ct c1 && ct c2) = true
      · grind
      · by_cases h6 : (b0 / 8 == 30 && ct c1 && ct c2 && ct c3) = true
        · grind
        · exact .inl (by rw [e, if_neg h2, if_neg h4, if_neg h6])
theorem D_notgood (b0 : Nat) (c1 c2 c3 : Option Nat) (h : ¬ gD (D b0 c1 c2 c3)) : D b0 c1 c2 c3 = (65533, 1) := by
  unfold gD at h
  rcases D_ways b0 c1 c2 c3 with h1 | ⟨h1, h2⟩ | ⟨_, _, h2, _⟩ | ⟨_, _, _, h2, _⟩ | ⟨_, _, _, _, h2⟩
  · exact h1
  · rw [h2] at h; simp at h; omega
  · rw [h2] at h; simp at h
  · rw [h2] at h; simp at h
  · rw [h2] at h; simp at h
theorem ct_less {c c' : Option Nat} (h : c' = c ∨ c' = none) (hc : ct c' = true) : c' = c := by
  rcases h with h | h
  · exact h
  · rw [h] at hc; cases hc
theorem D_more (b0 : Nat) {c1 c2 c3 c1' c2' c3' : Option Nat} (h1 : c1' = c1 ∨ c1' = none) (h2 : c2' = c2 ∨ c2' = none) (h3 : c3' = c3 ∨ c3' = none) (hg : gD (D b0 c1' c2' c3')) : D b0 c1 c2 c3 = D b0 c1' c2' c3' := by
  rcases D_ways b0 c1' c2' c3' with e | ⟨e1, e2⟩ | ⟨_, e1, _, e2⟩ | ⟨_, e1, e2, _, e3⟩ | ⟨_, e1, e2, e3, _⟩
  · rw [e] at hg; exact absurd hg not_gD
  · rw [e2]; unfold D; rw [if_pos e1]
  · obtain rfl := ct_less h1 e1
    exact e2 _ _
  · obtain rfl := ct_less h1 e1
    obtain rfl := ct_less h2 e2
    exact e3 _
  · obtain rfl := ct_less h1 e1
    obtain rfl := ct_less h2 e2
    obtain rfl := ct_less h3 e3
    rfl
theorem D_same (b0 : Nat) {c1 c2 c3 c1' c2' c3' : Option Nat} (h1 : c1' = c1 ∨ c1' = none) (h2 : c2' = c2 ∨ c2' = none) (h3 : c3' = c3 ∨ c3' = none)
    (k1 : 1 < (D b0 c1 c2 c3).2 → c1' = c1) (k2 : 2 < (D b0 c1 c2 c3).2 → c2' = c2) (k3 : 3 < (D b0 c1 c2 c3).2 → c3' = c3) : D b0 c1' c2' c3' = D b0 c1 c2 c3 := by
  rcases D_ways b0 c1 c2 c3 with e | ⟨e1, e2⟩ | ⟨_, e1, e0, e2⟩ | ⟨_, e1, e2, e0, e3⟩ | ⟨_, e1, e2, e3, e0⟩
  · rw [e]
    refine D_notgood _ _ _ _ (fun hg => ?_)
    rw [← D_more b0 h1 h2 h3 hg, e] at hg
    exact not_gD hg
  · rw [e2]; unfold D; rw [if_pos e1]
  · obtain rfl := k1 (by omega)
    exact e2 _ _
  · grind
  · grind
theorem gd_iff (s : ByteArray) (i : Nat) : gd s i = true ↔ gD (Utf8.decode s i) := by
  unfold gd gdb gD dp dw
  simp
  omega
theorem gd_not (s : ByteArray) (i : Nat) (h : gd s i = false) : Utf8.decode s i = (65533, 1) := by
  rw [decode_eq]
  apply D_notgood
  rw [← decode_eq, ← gd_iff, h]
  simp
theorem ct_some {c : Option Nat} (h : ct c = true) : ∃ b, c = some b ∧ b / 64 = 2 := by
  cases c with
  | none => cases h
  | some b => exact ⟨b, rfl, by simpa [ct] using h⟩
theorem ob_some {s : ByteArray} {i b : Nat} (h : ob s i = some b) : i < s.size ∧ by8 s i = b := by
  unfold ob at h
  split at h
  · exact ⟨‹_›, by simpa using h⟩
  · cases h
theorem dec_inner (s : ByteArray) (i k : Nat) (h1 : 1 ≤ k) (h2 : k < dw s i) : i + k < s.size ∧ by8 s (i + k) / 64 = 2 := by
  have hh : ∀ j, ct (ob s j) = true → j < s.size ∧ by8 s j / 64 = 2 := by
    intro j hj
    obtain ⟨b, hb, hb2⟩ := ct_some hj
    obtain ⟨g1, g2⟩ := ob_some hb
    exact ⟨g1, by rw [g2]; exact hb2⟩
  unfold dw at h2
  rw [decode_eq] at h2
  rcases D_ways (by8 s i) (ob s (i + 1)) (ob s (i + 2)) (ob s (i + 3)) with e | ⟨_, e⟩ | ⟨_, e1, e0, _⟩ | ⟨_, e1, e2, e0, _⟩ | ⟨_, e1, e2, e3, e0⟩
  · rw [e] at h2; simp at h2; omega
  · rw [e] at h2; simp at h2; omega
  · grind
  · grind
  · grind
theorem by8_head (s : ByteArray) (a i : Nat) (h : i < a) : by8 (s.extract 0 a) i = by8 s i := by
  unfold by8
  rw [get_ext, if_pos (by omega), Nat.zero_add]
theorem ob_head (s : ByteArray) (a i : Nat) (ha : a ≤ s.size) : ob (s.extract 0 a) i = if i < a then ob s i else none := by
  unfold ob
  rw [size_ext s 0 a ha]
  by_cases h : i < a
  · rw [if_pos (by omega), if_pos h, if_pos (by omega), by8_head s a i h]
  · rw [if_neg (by omega), if_neg h]
theorem dec_head (s : ByteArray) (a i : Nat) (ha : a ≤ s.size) (hi : i < a) (hd : i + dw s i ≤ a) : Utf8.decode (s.extract 0 a) i = Utf8.decode s i := by
  unfold dw at hd
  rw [decode_eq] at hd
  rw [decode_eq, decode_eq, by8_head s a i hi, ob_head s a _ ha, ob_head s a _ ha, ob_head s a _ ha]
  refine D_same _ ?_ ?_ ?_ (fun h => if_pos (by omega)) (fun h => if_pos (by omega)) (fun h => if_pos (by omega))
  all_goals split <;> simp
def st (s : ByteArray) : Nat → Nat
  | 0 => 0
  | n + 1 => if st s n < s.size then st s n + dw s (st s n) else st s n
theorem st_le (s : ByteArray) : ∀ n, st s n ≤ s.size
  | 0 => Nat.zero_le _
  | n + 1 => by
    unfold st
    split
    · exact (dw_facts s _ ‹_›).2.2
    · exact st_le s n
theorem pl_st (s : ByteArray) : ∀ n, pl s (st s n) = (P s).drop n
  | 0 => rfl
  | n + 1 => by
    have ih := pl_st s n
    unfold st
    split
    · rename_i h
      rw [pl_lt s _ h] at ih
      rw [← List.drop_drop, ← ih]; rfl
    · rename_i h
      rw [ih]
      rw [pl_ge s _ (by omega)] at ih
      rw [← ih, ← List.drop_drop, ← ih]; rfl
theorem st_lt (s : ByteArray) (k : Nat) : st s k < s.size ↔ k < (P s).length := by
  have h := pl_st s k
  constructor
  · intro hk
    rw [pl_lt s _ hk] at h
    have := congrArg List.length h
    simp at this; omega
  · intro hk
    apply Classical.byContradiction
    intro hn
    rw [pl_ge s _ (by omega)] at h
    have := congrArg List.length h
    simp at this; omega
theorem P_at (s : ByteArray) (k : Nat) (h : k < (P s).length) : (P s)[k]? = some (st s k) := by
  have h1 := pl_st s k
  rw [pl_lt s _ ((st_lt s k).2 h)] at h1
  have := congrArg (fun l : List Nat => l[0]?) h1
  simp at this
  exact this.symm
theorem st_end (s : ByteArray) (k : Nat) (h : (P s).length ≤ k) : st s k = s.size := by
  have h1 := st_le s k
  have h2 := st_lt s k
  omega
theorem st_succ (s : ByteArray) (k : Nat) (h : k < (P s).length) : st s (k + 1) = st s k + dw s (st s k) := by
  show (if st s k < s.size then st s k + dw s (st s k) else st s k) = _
  rw [if_pos ((st_lt s k).2 h)]
theorem st_cover (s : ByteArray) (j : Nat) : ∀ n, j < st s n → ∃ m, m < n ∧ m < (P s).length ∧ st s m ≤ j ∧ j < st s m + dw s (st s m) ∧ st s m + dw s (st s m) ≤ st s n
  | 0, h => by simp [st] at h
  | n + 1, h => by
    by_cases hn : st s n < s.size
    · have e := st_succ s n ((st_lt s n).1 hn)
      by_cases hj : j < st s n
      · obtain ⟨m, h1, h2, h3, h4, h5⟩ := st_cover s j n hj
        exact ⟨m, by omega, h2, h3, h4, by omega⟩
      · exact ⟨n, by omega, (st_lt s n).1 hn, by omega, by omega, by omega⟩
    · have e : st s (n + 1) = st s n := by
        show (if st s n < s.size then st s n + dw s (st s n) else st s n) = _
        rw [if_neg hn]
      rw [e] at h
      obtain ⟨m, h1, h2, h3, h4, h5⟩ := st_cover s j n h
      exact ⟨m, by omega, h2, h3, h4, by omega⟩
theorem vv_lt (c : Option Nat) : vv c < 64 := Nat.mod_lt _ (by omega)
theorem D_w2 (b0 : Nat) (c1 c2 c3 : Option Nat) : (D b0 c1 c2 c3).2 = 2 ↔ b0 / 32 = 6 ∧ ct c1 = true ∧ 128 ≤ b0 % 32 * 64 + vv c1 := by
  have := vv_lt c1
  unfold D
  generalize vv c1 = v1 at *
  generalize vv c2 = v2 at *
  generalize vv c3 = v3 at *
  generalize ct c1 = t1 at *
  generalize ct c2 = t2 at *
  generalize ct c3 = t3 at *
  by_cases h1 : b0 < 128
  · rw [if_pos h1]; simp; omega
  · grind
theorem D_w3 (b0 : Nat) (c1 c2 c3 : Option Nat) : (D b0 c1 c2 c3).2 = 3 ↔ b0 / 16 = 14 ∧ ct c1 = true ∧ ct c2 = true ∧ 2048 ≤ b0 % 16 * 4096 + vv c1 * 64 + vv c2 ∧
    (b0 % 16 * 4096 + vv c1 * 64 + vv c2 < 55296 ∨ 57344 ≤ b0 % 16 * 4096 + vv c1 * 64 + vv c2) := by
  have h1 := vv_lt c1
  have h2 := vv_lt c2
  unfold D Utf8.valid
  generalize vv c1 = v1 at *
  generalize vv c2 = v2 at *
  generalize vv c3 = v3 at *
  generalize ct c1 = t1 at *
  generalize ct c2 = t2 at *
  generalize ct c3 = t3 at *
  by_cases h1 : b0 < 128
  · rw [if_pos h1]; simp; omega
  · grind
theorem D_w4 (b0 : Nat) (c1 c2 c3 : Option Nat) : (D b0 c1 c2 c3).2 = 4 ↔ b0 / 8 = 30 ∧ ct c1 = true ∧ ct c2 = true ∧ ct c3 = true ∧ 65536 ≤ b0 % 8 * 262144 + vv c1 * 4096 + vv c2 * 64 + vv c3 ∧
    b0 % 8 * 262144 + vv c1 * 4096 + vv c2 * 64 + vv c3 ≤ 1114111 := by
  have h1 := vv_lt c1
  have h2 := vv_lt c2
  have h3 := vv_lt c3
  unfold D Utf8.valid
  generalize vv c1 = v1 at *
  generalize vv c2 = v2 at *
  generalize vv c3 = v3 at *
  generalize ct c1 = t1 at *
  generalize ct c2 = t2 at *
  generalize ct c3 = t3 at *
  by_cases h1 : b0 < 128
  · rw [if_pos h1]; simp; omega
  · grind
theorem extract_all (a : ByteArray) : a.extract 0 a.size = a := by
  apply ByteArray.ext
  rw [ByteArray.data_extract]
  exact Array.extract_size
theorem ba_ext (a b : ByteArray) (hz : a.size = b.size) (h : ∀ i, i < a.size → a.get! i = b.get! i) : a = b := by
  apply ByteArray.ext
  apply Array.ext
  · exact hz
  · intro i h1 h2
    have := h i h1
    have e : ∀ (x : ByteArray) (hx : i < x.data.size), x.get! i = x.data[i] := by
      intro x hx
      show x.data[i]! = _
      exact getElem!_pos x.data i hx
    rw [e a h1, e b h2] at this
    exact this
theorem by8_ext (a b : ByteArray) (hz : a.size = b.size) (h : ∀ i, i < a.size → by8 a i = by8 b i) : a = b :=
  ba_ext a b hz (fun i hi => UInt8.toNat_inj.1 (h i hi))
theorem D_v2 (b0 : Nat) (c1 c2 c3 : Option Nat) (h1 : b0 / 32 = 6) (h2 : ct c1 = true) (h3 : 128 ≤ b0 % 32 * 64 + vv c1) : D b0 c1 c2 c3 = (b0 % 32 * 64 + vv c1, 2) := by
  unfold D
  rw [if_neg (by omega), if_pos (by rw [h2]; simp; omega), if_pos h3]
theorem D_v3 (b0 : Nat) (c1 c2 c3 : Option Nat) (h1 : b0 / 16 = 14) (h2 : ct c1 = true) (h2' : ct c2 = true) (h3 : 2048 ≤ b0 % 16 * 4096 + vv c1 * 64 + vv c2)
    (h4 : b0 % 16 * 4096 + vv c1 * 64 + vv c2 < 55296 ∨ 57344 ≤ b0 % 16 * 4096 + vv c1 * 64 + vv c2) : D b0 c1 c2 c3 = (b0 % 16 * 4096 + vv c1 * 64 + vv c2, 3) := by
  have hw := (D_w3 b0 c1 c2 c3).2 ⟨h1, h2, h2', h3, h4⟩
  unfold D at hw ⊢
  have e1 : (b0 / 32 == 6) = false := by simp; omega
  have e2 : (b0 / 16 == 14) = true := by simp; omega
  rw [if_neg (by omega), e1, h2, h2', e2] at hw ⊢
  simp only [Bool.false_and, Bool.true_and, Bool.and_true, if_true, if_false, Bool.false_eq_true] at hw ⊢
  split
  · rfl
  · rename_i hn; rw [if_neg hn] at hw; cases hw
theorem D_v4 (b0 : Nat) (c1 c2 c3 : Option Nat) (h1 : b0 / 8 = 30) (h2 : ct c1 = true) (h2' : ct c2 = true) (h2'' : ct c3 = true) (h3 : 65536 ≤ b0 % 8 * 262144 + vv c1 * 4096 + vv c2 * 64 + vv c3)
    (h4 : b0 % 8 * 262144 + vv c1 * 4096 + vv c2 * 64 + vv c3 ≤ 1114111) : D b0 c1 c2 c3 = (b0 % 8 * 262144 + vv c1 * 4096 + vv c2 * 64 + vv c3, 4) := by
  have hw := (D_w4 b0 c1 c2 c3).2 ⟨h1, h2, h2', h2'', h3, h4⟩
  unfold D at hw ⊢
  have e1 : (b0 / 32 == 6) = false := by simp; omega
  have e2 : (b0 / 16 == 14) = false := by simp; omega
  have e3 : (b0 / 8 == 30) = true := by simp; omega
  rw [if_neg (by omega), e1, h2, h2', h2'', e2, e3] at hw ⊢
  simp only [Bool.false_and, Bool.true_and, Bool.and_true, if_true, if_false, Bool.false_eq_true] at hw ⊢
  split
  · rfl
  · rename_i hn; rw [if_neg hn] at hw; cases hw
theorem ob_in (s : ByteArray) (i : Nat) (h : i < s.size) : ob s i = some (by8 s i) := by unfold ob; rw [if_pos h]
theorem by8_ext' (s : ByteArray) (a b i : Nat) (h : a + i < b) : by8 (s.extract a b) i = by8 s (a + i) := by
  unfold by8
  rw [get_ext, if_pos h]
end Go.Proofs.YtojjfbnpjhjidaaGreatDoor.Lx
