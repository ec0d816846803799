import Derived.Test.YtnmjkgjhjnpijaaGreatDoorRc
set_option linter.unusedVariables false
set_option linter.unusedSimpArgs false
namespace Go.Proofs.YtnmjkgjhjnpijaaGreatDoor
open Go.RowKit

def ro (s : ByteArray) (k : Nat) : Bool := decide (k ≤ s.size) && (decide ((k : Int) < lng (by8 s (s.size - k))) && fit s (s.size - k) (lng (by8 s (s.size - k))).toNat)
def rwF (s : ByteArray) : Nat → Nat
  | 0 => s.size
  | k + 1 => if ro s (k + 1) = true then s.size - (k + 1) else rwF s k

theorem lng_bd (f : Int) : 0 ≤ lng f ∧ lng f ≤ 4 := by
  unfold lng
  repeat' split
  all_goals omega

theorem lng_later (b : Nat) (h : 128 ≤ b ∧ b ≤ 191) : lng b = 0 := by
  unfold lng
  rw [if_neg (by omega), if_neg (by omega), if_neg (by omega), if_neg (by omega)]

theorem fitF_all (s : ByteArray) (a n : Nat) : ∀ f i, (∀ j, i ≤ j → j < i + f → j < n → a + j < s.size → okb s a j = true) → fitF s a n f i = true
  | 0, _, _ => rfl
  | f + 1, i, h => by
    by_cases hc : i < n ∧ a + i < s.size
    · rw [fitF_pos s a n f i hc, h i (Nat.le_refl _) (by omega) hc.1 hc.2, Bool.true_and]
      exact fitF_all s a n f (i + 1) (fun j h1 h2 => h j (by omega) (by omega))
    · exact fitF_neg s a n (f + 1) i hc

theorem fitF_at (s : ByteArray) (a n : Nat) : ∀ f i, fitF s a n f i = true → ∀ j, i ≤ j → j < i + f → j < n → a + j < s.size → okb s a j = true
  | 0, i, _, j, h1, h2, _, _ => by omega
  | f + 1, i, h, j, h1, h2, h3, h4 => by
    rw [fitF_pos s a n f i (by omega), Bool.and_eq_true] at h
    by_cases e : j = i
    · rw [e]; exact h.1
    · exact fitF_at s a n f (i + 1) h.2 j (by omega) (by omega) h3 h4

theorem fit_iff (s : ByteArray) (a n : Nat) (hn : n ≤ 4) : fit s a n = true ↔ ∀ j, 1 ≤ j → j < n → a + j < s.size → okb s a j = true :=
  ⟨fun h j h1 h2 h3 => fitF_at s a n 4 1 h j h1 (by omega) h2 h3, fun h => fitF_all s a n 4 1 (fun j h1 _ h3 h4 => h j h1 h3 h4)⟩

theorem okb_same (s t : ByteArray) (a b j : Nat) (h0 : by8 s a = by8 t b) (hj : by8 s (a + j) = by8 t (b + j)) : okb s a j = okb t b j := by
  unfold okb; rw [h0, hj]

theorem by8_tail (s : ByteArray) (k i : Nat) (hk : k ≤ s.size) (hi : i < k) : by8 (s.extract (s.size - k) s.size) i = by8 s (s.size - k + i) := by8_ext' s _ _ i (by omega)

/-- An open end, by the reference, is one. -/
theorem ro_opn (s : ByteArray) (k : Nat) (h1 : 1 ≤ k) (h3 : k ≤ 3) (h : ro s k = true) : opn (s.extract (s.size - k) s.size) = true := by
  unfold ro at h
  simp only [Bool.and_eq_true, decide_eq_true_eq] at h
  obtain ⟨hk, hl, hf⟩ := h
  have hz := size_ext s (s.size - k) s.size (Nat.le_refl _)
  obtain ⟨n, hn, hn4⟩ : ∃ n : Nat, lng (by8 s (s.size - k)) = n ∧ n ≤ 4 := ⟨(lng (by8 s (s.size - k))).toNat, by have := lng_bd (by8 s (s.size - k)); omega, by have := lng_bd (by8 s (s.size - k)); omega⟩
  rw [hn] at hl hf
  rw [Int.toNat_natCast, fit_iff s _ n hn4] at hf
  have hsec : 128 ≤ secLo (by8 s (s.size - k)) ∧ secLo (by8 s (s.size - k)) ≤ 160 ∧ secLo (by8 s (s.size - k)) ≤ secHi (by8 s (s.size - k)) ∧ secHi (by8 s (s.size - k)) ≤ 191 := by
    unfold secLo secHi
    repeat' split
    all_goals omega
  refine opn_of (s.extract (s.size - k) s.size) ⟨#[UInt8.ofNat (if k = 1 then (secLo (by8 s (s.size - k))).toNat else 128), 128, 128]⟩ (by omega) ?_
  generalize hT : s.extract (s.size - k) s.size = T at *
  generalize hB : (⟨#[UInt8.ofNat (if k = 1 then (secLo (by8 s (s.size - k))).toNat else 128), 128, 128]⟩ : ByteArray) = B at *
  have b0 : by8 (T ++ B) 0 = by8 s (s.size - k) := by rw [by8_app, if_pos (by omega), ← hT, by8_tail s k 0 hk (by omega), Nat.add_zero]
  have bt : ∀ j, j < k → by8 (T ++ B) (0 + j) = by8 s (s.size - k + j) := fun j hj => by rw [by8_app, if_pos (by omega), ← hT, by8_tail s k _ hk (by omega), Nat.zero_add]
  have bB0 : by8 B 0 = if k = 1 then (secLo (by8 s (s.size - k))).toNat else 128 := by
    rw [← hB]
    show (UInt8.ofNat _).toNat = _
    simp
    split <;> omega
  have bB1 : by8 B 1 = 128 := by rw [← hB]; rfl
  have bB2 : by8 B 2 = 128 := by rw [← hB]; rfl
  have zB : B.size = 3 := by rw [← hB]; rfl
  have hTz : T.size = k := by omega
  have hd : Utf8.decode (T ++ B) 0 = (rv (T ++ B) 0 n, n) := by
    refine ref_good (T ++ B) 0 n (by rw [b0]; exact hn) (by omega) (by rw [size_app]; omega) ?_
    rw [fit_iff _ _ n hn4]
    intro j j1 j2 j3
    by_cases hjk : j < k
    · rw [okb_same (T ++ B) s 0 (s.size - k) j b0 (bt j hjk)]
      exact hf j j1 j2 (by omega)
    · have e : by8 (T ++ B) (0 + j) = by8 B (j - k) := by rw [by8_app, if_neg (by omega), hTz, Nat.zero_add]
      by_cases j1' : j = 1
      · subst j1'
        rw [okb1, b0]
        have k1 : k = 1 := by omega
        have e' : by8 (T ++ B) (0 + 1) = (secLo (by8 s (s.size - k))).toNat := by rw [e, k1]; rw [k1] at bB0; rw [bB0, if_pos rfl]
        rw [e']
        omega
      · rw [okb2 _ _ j j1', e]
        rcases (show j - k = 0 ∨ j - k = 1 ∨ j - k = 2 by omega) with q | q | q
        · rw [q, bB0]
          by_cases hk1 : k = 1
          · omega
          · rw [if_neg hk1]; omega
        · rw [q, bB1]; omega
        · rw [q, bB2]; omega
  unfold dw
  rw [hd]
  show T.size < n
  omega

theorem opn_ro (s : ByteArray) (k : Nat) (h1 : 1 ≤ k) (h3 : k ≤ 3) (hk : k ≤ s.size) (h : opn (s.extract (s.size - k) s.size) = true) : ro s k = true := by
  have hz := size_ext s (s.size - k) s.size (Nat.le_refl _)
  generalize hT : s.extract (s.size - k) s.size = T at *
  have hTz : T.size = k := by omega
  obtain ⟨B, hB⟩ : ∃ B, goB T B = true := by
    unfold opn at h
    rw [Bool.or_eq_true] at h
    rcases h with h | h
    · exact ⟨_, h⟩
    · exact ⟨_, h⟩
  unfold goB at hB
  simp only [Bool.and_eq_true, decide_eq_true_eq] at hB
  obtain ⟨hg, hw⟩ := hB
  have b0 : by8 (T ++ B) 0 = by8 s (s.size - k) := by rw [by8_app, if_pos (by omega), ← hT, by8_tail s k 0 hk (by omega), Nat.add_zero]
  have bt : ∀ j, j < k → by8 (T ++ B) (0 + j) = by8 s (s.size - k + j) := fun j hj => by rw [by8_app, if_pos (by omega), ← hT, by8_tail s k _ hk (by omega), Nat.zero_add]
  have hz2 : 0 < (T ++ B).size := by rw [size_app]; omega
  obtain ⟨n, hn, hn4⟩ : ∃ n : Nat, lng (by8 s (s.size - k)) = n ∧ n ≤ 4 := ⟨(lng (by8 s (s.size - k))).toNat, by have := lng_bd (by8 s (s.size - k)); omega, by have := lng_bd (by8 s (s.size - k)); omega⟩
  have hok : ¬ (n = 0 ∨ (T ++ B).size < 0 + n ∨ fit (T ++ B) 0 n = false) := by
    intro hb
    have := ref_bad (T ++ B) 0 n (by rw [b0]; exact hn) hz2 hb
    unfold dw at hw
    rw [this] at hw
    have : T.size < 1 := hw
    omega
  have hfit : fit (T ++ B) 0 n = true := by
    cases hc : fit (T ++ B) 0 n with
    | true => rfl
    | false => exact absurd (.inr (.inr hc)) hok
  have hd := ref_good (T ++ B) 0 n (by rw [b0]; exact hn) (by omega) (by omega) hfit
  unfold dw at hw
  rw [hd] at hw
  have hw' : T.size < n := hw
  rw [fit_iff _ _ n hn4] at hfit
  unfold ro
  simp only [Bool.and_eq_true, decide_eq_true_eq]
  refine ⟨hk, by omega, ?_⟩
  rw [hn, Int.toNat_natCast, fit_iff s _ n hn4]
  intro j j1 j2 j3
  rw [← okb_same (T ++ B) s 0 (s.size - k) j b0 (bt j (by omega))]
  exact hfit j j1 j2 (by omega)

/-- There is one open end at most. -/
theorem ro_one (s : ByteArray) (j k : Nat) (h1 : 1 ≤ j) (hjk : j < k) (h3 : k ≤ 3) (h : ro s k = true) : ro s j = false := by
  unfold ro at h
  simp only [Bool.and_eq_true, decide_eq_true_eq] at h
  obtain ⟨hk, hl, hf⟩ := h
  obtain ⟨n, hn, hn4⟩ : ∃ n : Nat, lng (by8 s (s.size - k)) = n ∧ n ≤ 4 := ⟨(lng (by8 s (s.size - k))).toNat, by have := lng_bd (by8 s (s.size - k)); omega, by have := lng_bd (by8 s (s.size - k)); omega⟩
  rw [hn] at hl hf
  rw [Int.toNat_natCast, fit_iff s _ n hn4] at hf
  have ho := hf (k - j) (by omega) (by omega) (by omega)
  have hb : 128 ≤ by8 s (s.size - j) ∧ by8 s (s.size - j) ≤ 191 := by
    by_cases e : k - j = 1
    · rw [e, okb1] at ho
      rw [show s.size - k + 1 = s.size - j by omega] at ho
      exact ho.1
    · rw [okb2 _ _ _ e] at ho
      rw [show s.size - k + (k - j) = s.size - j by omega] at ho
      exact ho
  unfold ro
  rw [lng_later _ hb]
  have : decide ((j : Int) < 0) = false := decide_eq_false (by omega)
  rw [this]; simp

theorem rw_wh (s : ByteArray) : rwF s 3 = wh s := by
  rcases wh_facts s with ⟨h1, h2⟩ | ⟨m, h1, h2, h3, h4, h5⟩
  · have key : ∀ k, 1 ≤ k → k ≤ 3 → ¬ ro s k = true := by
      intro k k1 k3 hr
      have hk : k ≤ s.size := by
        unfold ro at hr
        simp only [Bool.and_eq_true, decide_eq_true_eq] at hr
        exact hr.1
      have := ro_opn s k k1 k3 hr
      rw [h2 k k1 k3 hk] at this
      cases this
    rw [h1]
    show (if ro s 3 = true then _ else if ro s 2 = true then _ else if ro s 1 = true then _ else s.size) = _
    rw [if_neg (key 3 (by omega) (by omega)), if_neg (key 2 (by omega) (by omega)), if_neg (key 1 (by omega) (by omega))]
  · have hm := opn_ro s m h1 h2 h3 h5
    have hless : ∀ k, m < k → k ≤ 3 → ¬ ro s k = true := by
      intro k k1 k3 hr
      rw [ro_one s m k h1 k1 k3 hr] at hm
      cases hm
    rw [h4]
    show (if ro s 3 = true then s.size - 3 else if ro s 2 = true then s.size - 2 else if ro s 1 = true then s.size - 1 else s.size) = _
    rcases (show m = 1 ∨ m = 2 ∨ m = 3 by omega) with rfl | rfl | rfl
    · rw [if_neg (hless 3 (by omega) (by omega)), if_neg (hless 2 (by omega) (by omega)), if_pos hm]
    · rw [if_neg (hless 3 (by omega) (by omega)), if_pos hm]
    · rw [if_pos hm]
end Go.Proofs.YtnmjkgjhjnpijaaGreatDoor

set_option linter.unusedVariables false
set_option linter.unusedSimpArgs false
namespace Go.Proofs.YtnmjkgjhjnpijaaGreatDoor
open Go.RowKit

set_option maxRecDepth 100000 in
set_option maxHeartbeats 1000000 in
theorem rwhole_any (s : ByteArray) (w : World) (hs : s.size ≤ 2147483647) :
    Calls Tryz.prog 25 #[.string s] w fun e w' => e = .returned (.int .i64 (wh s)) ∧ w' = w := by
  have H0 : Hid (rwF s 3 = wh s) := rw_wh s
  go_enter Tryz.func25, Tryz.ntmps25
  go_wp2_with fail
  go_loopw [3] (fun i wr => ∃ k : Nat, k ≤ 3 ∧ i = .int .i64 k ∧ rwF s k = wh s ∧ wr = w) (fun i _ => (intOf i).toNat)
  case atStart => exact ⟨3, by omega, rfl, H0.out, rfl⟩
  case round =>
    clear H0
    obtain ⟨k, hk, rfl, hr, rfl⟩ := hrel
    cases k with
    | zero =>
      have HR : Hid (s.size = wh s) := hr
      clear hr
      go_wp2_with fail
      go_ret
      exact ⟨ret_int (by rw [HR.out]), rfl⟩
    | succ j =>
      have HR : Hid ((if ro s (j + 1) = true then s.size - (j + 1) else rwF s j) = wh s) := hr
      clear hr
      by_cases hsz : j + 1 ≤ s.size
      · obtain ⟨a, ha⟩ : ∃ a, s.size = a + (j + 1) := ⟨s.size - (j + 1), by omega⟩
        have ea : s.size - (j + 1) = a := by omega
        have hlt : a < s.size := by omega
        have ei : (s.size : Int) - ((j : Int) + 1) = (a : Int) := by omega
        have hb0 := by8_get s a hlt
        have hl0 := by8_lt s a
        have hbd := lng_bd (by8 s a)
        have HL : Hid _ := long_any (by8 s a)
        have hro : ro s (j + 1) = (decide (((j + 1 : Nat) : Int) < lng (by8 s a)) && fit s a (lng (by8 s a)).toNat) := by
          unfold ro
          rw [ea, decide_eq_true hsz, Bool.true_and]
        have HR2 : Hid _ := HR.out
        rw [hro, ea] at HR2
        obtain ⟨n, hn⟩ : ∃ n : Nat, lng (by8 s a) = n := ⟨(lng (by8 s a)).toNat, by omega⟩
        rw [hn] at HR2 HL hbd
        rw [Int.toNat_natCast] at HR2
        have HF : Hid _ := fits_any s a n
        have HA : Hid (s.size = a + (j + 1)) := ha
        clear HR hro hn ha ea
        generalize by8 s a = b0 at *
        go_wp2_with fail
        refine (HL.out _).mono ?_
        rintro e w1 ⟨rfl, rfl⟩
        clear HL
        by_cases hkn : j + 1 < n
        · have hd1 : decide (((j + 1 : Nat) : Int) < (n : Int)) = true := decide_eq_true (by omega)
          have hr3 := HR2.out
          rw [hd1, Bool.true_and] at hr3
          have HR3 : Hid _ := hr3
          clear hr3 HR2 hd1
          go_wp2_with fail
          refine (HF.out _ hs hlt (by omega)).mono ?_
          rintro e w2 ⟨rfl, rfl⟩
          clear HF
          generalize fit s a n = g at *
          cases g with
          | true =>
            have HE : Hid (a = wh s) := by
              show _ = _
              rw [← HR3.out, if_pos rfl]
            clear HR3
            go_wp2_with fail
            go_ret
            exact ⟨ret_int (by rw [HE.out]), rfl⟩
          | false =>
            have HE : Hid (rwF s j = wh s) := by
              show _ = _
              rw [← HR3.out, if_neg (by simp)]
            clear HR3
            go_wp2_with fail
            exact ⟨⟨j, by omega, by go_num, HE.out, trivial⟩, by simp [intOf]⟩
        · have hd1 : decide (((j + 1 : Nat) : Int) < (n : Int)) = false := decide_eq_false (by omega)
          have hr3 := HR2.out
          rw [hd1, Bool.false_and, if_neg (by simp)] at hr3
          have HR3 : Hid _ := hr3
          clear hr3 HR2 hd1 HF
          go_wp2_with fail
          exact ⟨⟨j, by omega, by go_num, HR3.out, trivial⟩, by simp [intOf]⟩
      · have hro : ro s (j + 1) = false := by
          unfold ro
          rw [decide_eq_false hsz, Bool.false_and]
        have hr3 := HR.out
        rw [hro, if_neg (by simp)] at hr3
        have HR3 : Hid _ := hr3
        clear hr3 HR hro
        go_wp2_with fail
        exact ⟨⟨j, by omega, by go_num, HR3.out, trivial⟩, by simp [intOf]⟩
end Go.Proofs.YtnmjkgjhjnpijaaGreatDoor
