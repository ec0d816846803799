import Derived.Test.YtfkegaencoodbaaDoorMath
set_option linter.unusedVariables false
set_option linter.unusedSimpArgs false
namespace Go.Proofs.YtfkegaencoodbaaDoor

/-- The byte at a place, as a number. -/
def by8 (s : ByteArray) (i : Nat) : Nat := (s.get! i).toNat
/-- .., or none, behind the end. -/
def ob (s : ByteArray) (i : Nat) : Option Nat := if i < s.size then some (by8 s i) else none

theorem by8_lt (s : ByteArray) (i : Nat) : by8 s i < 256 := (s.get! i).toNat_lt

def ct (c : Option Nat) : Bool := match c with | some b => b / 64 == 2 | none => false
def vv (c : Option Nat) : Nat := c.getD 0 % 64

/-- The character that a first byte begins, with what may stand behind it. -/
def D (b0 : Nat) (c1 c2 c3 : Option Nat) : Nat × Nat :=
  if b0 < 128 then (b0, 1)
  else if b0 / 32 == 6 && ct c1 then (if b0 % 32 * 64 + vv c1 ≥ 128 then (b0 % 32 * 64 + vv c1, 2) else (65533, 1))
  else if b0 / 16 == 14 && ct c1 && ct c2 then
    (if b0 % 16 * 4096 + vv c1 * 64 + vv c2 ≥ 2048 && Utf8.valid (b0 % 16 * 4096 + vv c1 * 64 + vv c2 : Nat) then (b0 % 16 * 4096 + vv c1 * 64 + vv c2, 3) else (65533, 1))
  else if b0 / 8 == 30 && ct c1 && ct c2 && ct c3 then
    (if b0 % 8 * 262144 + vv c1 * 4096 + vv c2 * 64 + vv c3 ≥ 65536 && Utf8.valid (b0 % 8 * 262144 + vv c1 * 4096 + vv c2 * 64 + vv c3 : Nat) then (b0 % 8 * 262144 + vv c1 * 4096 + vv c2 * 64 + vv c3, 4) else (65533, 1))
  else (65533, 1)

theorem ob_ct (s : ByteArray) (i : Nat) : (decide (i < s.size) && (s.get! i).toNat / 64 == 2) = ct (ob s i) := by
  unfold ob ct by8
  by_cases h : i < s.size <;> simp [h]

theorem ob_vv (s : ByteArray) (i : Nat) : vv (ob s i) = (s.get! i).toNat % 64 := by
  unfold ob vv by8
  by_cases h : i < s.size
  · simp [h]
  · simp [h, at_big s i (by omega)]

theorem decode_eq (s : ByteArray) (i : Nat) : Utf8.decode s i = D (by8 s i) (ob s (i + 1)) (ob s (i + 2)) (ob s (i + 3)) := by
  unfold Utf8.decode D
  simp only [Nat.add_zero, ob_ct, ob_vv, by8, Utf8.runeError]

theorem D_bad (b0 : Nat) (c1 c2 c3 : Option Nat) (h : b0 / 64 = 2) : D b0 c1 c2 c3 = (65533, 1) := by
  unfold D
  have h1 : ¬ b0 < 128 := by omega
  have h2 : (b0 / 32 == 6) = false := by simp; omega
  have h3 : (b0 / 16 == 14) = false := by simp; omega
  have h4 : (b0 / 8 == 30) = false := by simp; omega
  rw [if_neg h1, h2, h3, h4]
  rfl

/-- Whether it is good. -/
def gD (x : Nat × Nat) : Prop := x.1 ≠ 65533 ∨ 1 < x.2

theorem not_gD : ¬ gD (65533, 1) := by unfold gD; simp

/-- The ways that a character can be. -/
theorem D_ways (b0 : Nat) (c1 c2 c3 : Option Nat) :
    (D b0 c1 c2 c3 = (65533, 1)) ∨ (b0 < 128 ∧ D b0 c1 c2 c3 = (b0, 1)) ∨
    (b0 / 32 = 6 ∧ ct c1 = true ∧ (D b0 c1 c2 c3).2 = 2 ∧ ∀ d2 d3, D b0 c1 d2 d3 = D b0 c1 c2 c3) ∨
    (b0 / 16 = 14 ∧ ct c1 = true ∧ ct c2 = true ∧ (D b0 c1 c2 c3).2 = 3 ∧ ∀ d3, D b0 c1 c2 d3 = D b0 c1 c2 c3) ∨
    (b0 / 8 = 30 ∧ ct c1 = true ∧ ct c2 = true ∧ ct c3 = true ∧ (D b0 c1 c2 c3).2 = 4) := by
  by_cases h1 : b0 < 128
  · exact .inr (.inl ⟨h1, by unfold D; rw [if_pos h1]⟩)
  · have e : ∀ x1 x2 x3, D b0 x1 x2 x3 = _ := fun x1 x2 x3 => by unfold D; rw [if_neg h1]
    by_cases h2 : (b0 / 32 == 6 && ct c1) = true
    · grind
    · by_cases h4 : (b0 / 16 == 14 && ct c1 && ct c2) = true
      · grind
      · by_cases h6 : (b0 / 8 == 30 && ct c1 && ct c2 && ct c3) = true
        · grind
        · exact .inl (by rw [e, if_neg h2, if_neg h4, if_neg h6])

theorem D_notgood (b0 : Nat) (c1 c2 c3 : Option Nat) (h : ¬ gD (D b0 c1 c2 c3)) : D b0 c1 c2 c3 = (65533, 1) := by
  unfold gD at h
  rcases D_ways b0 c1 c2 c3 with h1 | ⟨h1, h2⟩ | ⟨_, _, h2, _⟩ | ⟨_, _, _, h2, _⟩ | ⟨_, _, _, _, h2⟩
  · exact h1
  · rw [h2] at h; simp at h; omega
  · rw [h2] at h; simp at h
  · rw [h2] at h; simp at h
  · rw [h2] at h; simp at h

theorem ct_less {c c' : Option Nat} (h : c' = c ∨ c' = none) (hc : ct c' = true) : c' = c := by
  rcases h with h | h
  · exact h
  · rw [h] at hc; cases hc

/-- A good one stays, whatever else is known. -/
theorem D_more (b0 : Nat) {c1 c2 c3 c1' c2' c3' : Option Nat} (h1 : c1' = c1 ∨ c1' = none) (h2 : c2' = c2 ∨ c2' = none) (h3 : c3' = c3 ∨ c3' = none) (hg : gD (D b0 c1' c2' c3')) : D b0 c1 c2 c3 = D b0 c1' c2' c3' := by
  rcases D_ways b0 c1' c2' c3' with e | ⟨e1, e2⟩ | ⟨_, e1, _, e2⟩ | ⟨_, e1, e2, _, e3⟩ | ⟨_, e1, e2, e3, _⟩
  · rw [e] at hg; exact absurd hg not_gD
  · rw [e2]; unfold D; rw [if_pos e1]
  · obtain rfl := ct_less h1 e1
    exact e2 _ _
  · obtain rfl := ct_less h1 e1
    obtain rfl := ct_less h2 e2
    exact e3 _
  · obtain rfl := ct_less h1 e1
    obtain rfl := ct_less h2 e2
    obtain rfl := ct_less h3 e3
    rfl

/-- One stays where all its bytes are known. -/
theorem D_same (b0 : Nat) {c1 c2 c3 c1' c2' c3' : Option Nat} (h1 : c1' = c1 ∨ c1' = none) (h2 : c2' = c2 ∨ c2' = none) (h3 : c3' = c3 ∨ c3' = none)
    (k1 : 1 < (D b0 c1 c2 c3).2 → c1' = c1) (k2 : 2 < (D b0 c1 c2 c3).2 → c2' = c2) (k3 : 3 < (D b0 c1 c2 c3).2 → c3' = c3) : D b0 c1' c2' c3' = D b0 c1 c2 c3 := by
  rcases D_ways b0 c1 c2 c3 with e | ⟨e1, e2⟩ | ⟨_, e1, e0, e2⟩ | ⟨_, e1, e2, e0, e3⟩ | ⟨_, e1, e2, e3, e0⟩
  · rw [e]
    refine D_notgood _ _ _ _ (fun hg => ?_)
    rw [← D_more b0 h1 h2 h3 hg, e] at hg
    exact not_gD hg
  · rw [e2]; unfold D; rw [if_pos e1]
  · obtain rfl := k1 (by omega)
    exact e2 _ _
  · grind
  · grind

theorem gd_iff (s : ByteArray) (i : Nat) : gd s i = true ↔ gD (Utf8.decode s i) := by
  unfold gd gdb gD dp dw
  simp
  omega

theorem gd_not (s : ByteArray) (i : Nat) (h : gd s i = false) : Utf8.decode s i = (65533, 1) := by
  rw [decode_eq]
  apply D_notgood
  rw [← decode_eq, ← gd_iff, h]
  simp

theorem ct_some {c : Option Nat} (h : ct c = true) : ∃ b, c = some b ∧ b / 64 = 2 := by
  cases c with
  | none => cases h
  | some b => exact ⟨b, rfl, by simpa [ct] using h⟩

theorem ob_some {s : ByteArray} {i b : Nat} (h : ob s i = some b) : i < s.size ∧ by8 s i = b := by
  unfold ob at h
  split at h
  · exact ⟨‹_›, by simpa using h⟩
  · cases h

/-- Behind a character's first byte there are later ones. -/
theorem dec_inner (s : ByteArray) (i k : Nat) (h1 : 1 ≤ k) (h2 : k < dw s i) : i + k < s.size ∧ by8 s (i + k) / 64 = 2 := by
  have hh : ∀ j, ct (ob s j) = true → j < s.size ∧ by8 s j / 64 = 2 := by
    intro j hj
    obtain ⟨b, hb, hb2⟩ := ct_some hj
    obtain ⟨g1, g2⟩ := ob_some hb
    exact ⟨g1, by rw [g2]; exact hb2⟩
  unfold dw at h2
  rw [decode_eq] at h2
  rcases D_ways (by8 s i) (ob s (i + 1)) (ob s (i + 2)) (ob s (i + 3)) with e | ⟨_, e⟩ | ⟨_, e1, e0, _⟩ | ⟨_, e1, e2, e0, _⟩ | ⟨_, e1, e2, e3, e0⟩
  · rw [e] at h2; simp at h2; omega
  · rw [e] at h2; simp at h2; omega
  · grind
  · grind
  · grind

theorem later_bad (s : ByteArray) (i : Nat) (h : by8 s i / 64 = 2) : Utf8.decode s i = (65533, 1) := by
  rw [decode_eq]; exact D_bad _ _ _ _ h

theorem later_ngd (s : ByteArray) (i : Nat) (h : by8 s i / 64 = 2) : gd s i = false := by
  unfold gd gdb dp dw
  rw [later_bad s i h]
  decide

/-- A text's beginning. -/
theorem by8_head (s : ByteArray) (a i : Nat) (h : i < a) : by8 (s.extract 0 a) i = by8 s i := by
  unfold by8
  rw [get_ext, if_pos (by omega), Nat.zero_add]

theorem ob_head (s : ByteArray) (a i : Nat) (ha : a ≤ s.size) : ob (s.extract 0 a) i = if i < a then ob s i else none := by
  unfold ob
  rw [size_ext s 0 a ha]
  by_cases h : i < a
  · rw [if_pos (by omega), if_pos h, if_pos (by omega), by8_head s a i h]
  · rw [if_neg (by omega), if_neg h]

theorem dec_head (s : ByteArray) (a i : Nat) (ha : a ≤ s.size) (hi : i < a) (hd : i + dw s i ≤ a) : Utf8.decode (s.extract 0 a) i = Utf8.decode s i := by
  unfold dw at hd
  rw [decode_eq] at hd
  rw [decode_eq, decode_eq, by8_head s a i hi, ob_head s a _ ha, ob_head s a _ ha, ob_head s a _ ha]
  refine D_same _ ?_ ?_ ?_ (fun h => if_pos (by omega)) (fun h => if_pos (by omega)) (fun h => if_pos (by omega))
  all_goals split <;> simp

theorem dec_good (s : ByteArray) (a i : Nat) (ha : a ≤ s.size) (hi : i < a) (hg : gd (s.extract 0 a) i = true) : Utf8.decode s i = Utf8.decode (s.extract 0 a) i := by
  rw [gd_iff] at hg
  rw [decode_eq, by8_head s a i hi, ob_head s a _ ha, ob_head s a _ ha, ob_head s a _ ha] at hg
  rw [decode_eq, decode_eq (s.extract 0 a), by8_head s a i hi, ob_head s a _ ha, ob_head s a _ ha, ob_head s a _ ha]
  refine D_more _ ?_ ?_ ?_ hg
  all_goals split <;> simp

/-! ### Where the characters begin, by number -/

def st (s : ByteArray) : Nat → Nat
  | 0 => 0
  | n + 1 => if st s n < s.size then st s n + dw s (st s n) else st s n

theorem st_le (s : ByteArray) : ∀ n, st s n ≤ s.size
  | 0 => Nat.zero_le _
  | n + 1 => by
    unfold st
    split
    · exact (dw_facts s _ ‹_›).2.2
    · exact st_le s n

theorem pl_st (s : ByteArray) : ∀ n, pl s (st s n) = (P s).drop n
  | 0 => rfl
  | n + 1 => by
    have ih := pl_st s n
    unfold st
    split
    · rename_i h
      rw [pl_lt s _ h] at ih
      rw [← List.drop_drop, ← ih]; rfl
    · rename_i h
      rw [ih]
      rw [pl_ge s _ (by omega)] at ih
      rw [← ih, ← List.drop_drop, ← ih]; rfl

theorem st_lt (s : ByteArray) (k : Nat) : st s k < s.size ↔ k < (P s).length := by
  have h := pl_st s k
  constructor
  · intro hk
    rw [pl_lt s _ hk] at h
    have := congrArg List.length h
    simp at this; omega
  · intro hk
    apply Classical.byContradiction
    intro hn
    rw [pl_ge s _ (by omega)] at h
    have := congrArg List.length h
    simp at this; omega

theorem P_at (s : ByteArray) (k : Nat) (h : k < (P s).length) : (P s)[k]? = some (st s k) := by
  have h1 := pl_st s k
  rw [pl_lt s _ ((st_lt s k).2 h)] at h1
  have := congrArg (fun l : List Nat => l[0]?) h1
  simp at this
  exact this.symm

theorem st_end (s : ByteArray) (k : Nat) (h : (P s).length ≤ k) : st s k = s.size := by
  have h1 := st_le s k
  have h2 := st_lt s k
  omega

theorem st_succ (s : ByteArray) (k : Nat) (h : k < (P s).length) : st s (k + 1) = st s k + dw s (st s k) := by
  show (if st s k < s.size then st s k + dw s (st s k) else st s k) = _
  rw [if_pos ((st_lt s k).2 h)]

/-- Each byte ahead of a place lies in a character ahead of it. -/
theorem st_cover (s : ByteArray) (j : Nat) : ∀ n, j < st s n → ∃ m, m < n ∧ m < (P s).length ∧ st s m ≤ j ∧ j < st s m + dw s (st s m) ∧ st s m + dw s (st s m) ≤ st s n
  | 0, h => by simp [st] at h
  | n + 1, h => by
    by_cases hn : st s n < s.size
    · have e := st_succ s n ((st_lt s n).1 hn)
      by_cases hj : j < st s n
      · obtain ⟨m, h1, h2, h3, h4, h5⟩ := st_cover s j n hj
        exact ⟨m, by omega, h2, h3, h4, by omega⟩
      · exact ⟨n, by omega, (st_lt s n).1 hn, by omega, by omega, by omega⟩
    · have e : st s (n + 1) = st s n := by
        show (if st s n < s.size then st s n + dw s (st s n) else st s n) = _
        rw [if_neg hn]
      rw [e] at h
      obtain ⟨m, h1, h2, h3, h4, h5⟩ := st_cover s j n h
      exact ⟨m, by omega, h2, h3, h4, by omega⟩

/-- A good character that begins ahead of a place ends ahead of it. -/
theorem good_ends (s : ByteArray) (j n : Nat) (h : j < st s n) (hg : gd s j = true) : j + dw s j ≤ st s n := by
  obtain ⟨m, h1, h2, h3, h4, h5⟩ := st_cover s j n h
  by_cases e : j = st s m
  · rw [e]; exact h5
  · have hin := dec_inner s (st s m) (j - st s m) (by omega) (by omega)
    rw [show st s m + (j - st s m) = j by omega] at hin
    rw [later_ngd s j hin.2] at hg
    cases hg

theorem lsF_skip (h : ByteArray) (f n : Nat) (hn : ¬ (gd h (h.size - n) = true ∧ dw h (h.size - n) = n)) (hs : n ≤ h.size) : lsF h (f + 1) n = lsF h f (n + 1) := by
  show (if n ≤ h.size then (if gd h (h.size - n) = true ∧ dw h (h.size - n) = n then (dp h (h.size - n), n, true) else lsF h f (n + 1)) else (65533, 1, false)) = _
  rw [if_pos hs, if_neg hn]

theorem lsF_hit (h : ByteArray) (f n : Nat) (hn : gd h (h.size - n) = true ∧ dw h (h.size - n) = n) (hs : n ≤ h.size) : lsF h (f + 1) n = (dp h (h.size - n), n, true) := by
  show (if n ≤ h.size then (if gd h (h.size - n) = true ∧ dw h (h.size - n) = n then (dp h (h.size - n), n, true) else lsF h f (n + 1)) else (65533, 1, false)) = _
  rw [if_pos hs, if_pos hn]

theorem lsF_none (h : ByteArray) : ∀ f n, (∀ m, n ≤ m → m ≤ h.size → ¬ (gd h (h.size - m) = true ∧ dw h (h.size - m) = m)) → lsF h f n = (65533, 1, false)
  | 0, _, _ => rfl
  | f + 1, n, hh => by
    by_cases hs : n ≤ h.size
    · rw [lsF_skip h f n (hh n (Nat.le_refl _) hs) hs]
      exact lsF_none h f (n + 1) (fun m h1 h2 => hh m (by omega) h2)
    · show (if n ≤ h.size then (if gd h (h.size - n) = true ∧ dw h (h.size - n) = n then (dp h (h.size - n), n, true) else lsF h f (n + 1)) else (65533, 1, false)) = _
      rw [if_neg hs]

theorem lsF_find (h : ByteArray) (d : Nat) (hd : d ≤ h.size) (hg : gd h (h.size - d) = true ∧ dw h (h.size - d) = d) : ∀ f n, n ≤ d → d < n + f → (∀ m, n ≤ m → m < d → ¬ (gd h (h.size - m) = true ∧ dw h (h.size - m) = m)) → lsF h f n = (dp h (h.size - d), d, true)
  | 0, n, h1, h2, _ => by omega
  | f + 1, n, h1, h2, hh => by
    by_cases e : n = d
    · subst e; exact lsF_hit h f n hg hd
    · rw [lsF_skip h f n (hh n (Nat.le_refl _) (by omega)) (by omega)]
      exact lsF_find h d hd hg f (n + 1) (by omega) (by omega) (fun m h3 h4 => hh m (by omega) h4)

/-- The last character ahead of a place is the one that begins at the place ahead. -/
theorem ls_st (s : ByteArray) (k : Nat) (hk : k < (P s).length) : ls (s.extract 0 (st s (k + 1))) = (dp s (st s k), dw s (st s k), gd s (st s k)) := by
  have hi := (st_lt s k).2 hk
  have hw := dw_facts s (st s k) hi
  have ha := st_le s (k + 1)
  have e := st_succ s k hk
  have hz := size_ext s 0 (st s (k + 1)) ha
  rw [Nat.sub_zero] at hz
  have hd : Utf8.decode (s.extract 0 (st s (k + 1))) (st s k) = Utf8.decode s (st s k) := dec_head s _ _ ha (by omega) (by omega)
  have gdh : gd (s.extract 0 (st s (k + 1))) (st s k) = gd s (st s k) := by unfold gd dp dw; rw [hd]
  have dwh : dw (s.extract 0 (st s (k + 1))) (st s k) = dw s (st s k) := by unfold dw; rw [hd]
  have dph : dp (s.extract 0 (st s (k + 1))) (st s k) = dp s (st s k) := by unfold dp; rw [hd]
  unfold ls
  by_cases hg : gd s (st s k) = true
  · rw [lsF_find (s.extract 0 (st s (k + 1))) (dw s (st s k)) (by omega) (by rw [hz, show st s (k + 1) - dw s (st s k) = st s k by omega, gdh, dwh]; exact ⟨hg, rfl⟩) 4 1 hw.1 (by omega) (fun m h1 h2 => ?_)]
    · rw [hz, show st s (k + 1) - dw s (st s k) = st s k by omega, dph, hg]
    · intro hh
      rw [hz] at hh
      have hin := dec_inner s (st s k) (dw s (st s k) - m) (by omega) (by omega)
      rw [show st s k + (dw s (st s k) - m) = st s (k + 1) - m by omega] at hin
      rw [later_ngd _ _ (by rw [by8_head s _ _ (by omega)]; exact hin.2)] at hh
      cases hh.1
  · have hg' : gd s (st s k) = false := by simpa using hg
    have hb := gd_not s _ hg'
    have e1 : dp s (st s k) = 65533 := by unfold dp; rw [hb]
    have e2 : dw s (st s k) = 1 := by unfold dw; rw [hb]
    rw [e1, e2, hg']
    refine lsF_none _ 4 1 (fun m h1 h2 => ?_)
    intro hh
    rw [hz] at hh h2
    by_cases hm : m = 1
    · subst hm
      rw [show st s (k + 1) - 1 = st s k by omega, gdh, hg'] at hh
      cases hh.1
    · have hj : st s (k + 1) - m < st s k := by omega
      have hdg := dec_good s _ _ ha (by omega) hh.1
      have hg2 : gd s (st s (k + 1) - m) = true := by rw [gd_iff, hdg, ← gd_iff]; exact hh.1
      have := good_ends s _ k hj hg2
      have e3 : dw s (st s (k + 1) - m) = m := by unfold dw; rw [hdg]; exact hh.2
      omega

end Go.Proofs.YtfkegaencoodbaaDoor
