import Derived.Test.YtfkegaencoodbaaDoorJoin0
set_option linter.unusedVariables false
set_option linter.unusedSimpArgs false
namespace Go.Proofs.YtfkegaencoodbaaDoor

theorem ba_ext (a b : ByteArray) (hz : a.size = b.size) (h : ∀ i, i < a.size → a.get! i = b.get! i) : a = b := by
  apply ByteArray.ext
  apply Array.ext
  · exact hz
  · intro i h1 h2
    have := h i h1
    have e : ∀ (x : ByteArray) (hx : i < x.data.size), x.get! i = x.data[i] := by
      intro x hx
      show x.data[i]! = _
      exact getElem!_pos x.data i hx
    rw [e a h1, e b h2] at this
    exact this

theorem by8_ext (a b : ByteArray) (hz : a.size = b.size) (h : ∀ i, i < a.size → by8 a i = by8 b i) : a = b :=
  ba_ext a b hz (fun i hi => UInt8.toNat_inj.1 (h i hi))

theorem D_v2 (b0 : Nat) (c1 c2 c3 : Option Nat) (h1 : b0 / 32 = 6) (h2 : ct c1 = true) (h3 : 128 ≤ b0 % 32 * 64 + vv c1) : D b0 c1 c2 c3 = (b0 % 32 * 64 + vv c1, 2) := by
  unfold D
  rw [if_neg (by omega), if_pos (by rw [h2]; simp; omega), if_pos h3]

theorem D_v3 (b0 : Nat) (c1 c2 c3 : Option Nat) (h1 : b0 / 16 = 14) (h2 : ct c1 = true) (h2' : ct c2 = true) (h3 : 2048 ≤ b0 % 16 * 4096 + vv c1 * 64 + vv c2)
    (h4 : b0 % 16 * 4096 + vv c1 * 64 + vv c2 < 55296 ∨ 57344 ≤ b0 % 16 * 4096 + vv c1 * 64 + vv c2) : D b0 c1 c2 c3 = (b0 % 16 * 4096 + vv c1 * 64 + vv c2, 3) := by
  have hw := (D_w3 b0 c1 c2 c3).2 ⟨h1, h2, h2', h3, h4⟩
  unfold D at hw ⊢
  have e1 : (b0 / 32 == 6) = false := by simp; omega
  have e2 : (b0 / 16 == 14) = true := by simp; omega
  rw [if_neg (by omega), e1, h2, h2', e2] at hw ⊢
  simp only [Bool.false_and, Bool.true_and, Bool.and_true, if_true, if_false, Bool.false_eq_true] at hw ⊢
  split
  · rfl
  · rename_i hn; rw [if_neg hn] at hw; cases hw

theorem D_v4 (b0 : Nat) (c1 c2 c3 : Option Nat) (h1 : b0 / 8 = 30) (h2 : ct c1 = true) (h2' : ct c2 = true) (h2'' : ct c3 = true) (h3 : 65536 ≤ b0 % 8 * 262144 + vv c1 * 4096 + vv c2 * 64 + vv c3)
    (h4 : b0 % 8 * 262144 + vv c1 * 4096 + vv c2 * 64 + vv c3 ≤ 1114111) : D b0 c1 c2 c3 = (b0 % 8 * 262144 + vv c1 * 4096 + vv c2 * 64 + vv c3, 4) := by
  have hw := (D_w4 b0 c1 c2 c3).2 ⟨h1, h2, h2', h2'', h3, h4⟩
  unfold D at hw ⊢
  have e1 : (b0 / 32 == 6) = false := by simp; omega
  have e2 : (b0 / 16 == 14) = false := by simp; omega
  have e3 : (b0 / 8 == 30) = true := by simp; omega
  rw [if_neg (by omega), e1, h2, h2', h2'', e2, e3] at hw ⊢
  simp only [Bool.false_and, Bool.true_and, Bool.and_true, if_true, if_false, Bool.false_eq_true] at hw ⊢
  split
  · rfl
  · rename_i hn; rw [if_neg hn] at hw; cases hw

/-- A point. -/
def pt (c : Nat) : Prop := c < 55296 ∨ (57344 ≤ c ∧ c ≤ 1114111)

theorem pt_valid (c : Nat) (h : pt c) : Utf8.valid (c : Int) = true := by
  unfold pt at h
  unfold Utf8.valid
  rcases h with h | h
  · simp; omega
  · simp; omega

theorem enc_eq (c : Nat) (h : pt c) : Utf8.encode (c : Int) =
    if c < 0x80 then ⟨#[UInt8.ofNat c]⟩
    else if c < 0x800 then ⟨#[UInt8.ofNat (0xC0 + c / 64), UInt8.ofNat (0x80 + c % 64)]⟩
    else if c < 0x10000 then ⟨#[UInt8.ofNat (0xE0 + c / 4096), UInt8.ofNat (0x80 + c / 64 % 64), UInt8.ofNat (0x80 + c % 64)]⟩
    else ⟨#[UInt8.ofNat (0xF0 + c / 262144), UInt8.ofNat (0x80 + c / 4096 % 64), UInt8.ofNat (0x80 + c / 64 % 64), UInt8.ofNat (0x80 + c % 64)]⟩ := by
  unfold Utf8.encode
  simp only [pt_valid c h, if_true, Int.toNat_natCast]

/-- A character's bytes, by its width. -/
theorem enc_size (c : Nat) (h : pt c) : (Utf8.encode (c : Int)).size = if c < 128 then 1 else if c < 2048 then 2 else if c < 65536 then 3 else 4 := by
  rw [enc_eq c h]
  repeat' split
  all_goals rfl

theorem enc_b0 (c : Nat) (h : pt c) : by8 (Utf8.encode (c : Int)) 0 = if c < 128 then c else if c < 2048 then 192 + c / 64 else if c < 65536 then 224 + c / 4096 else 240 + c / 262144 := by
  rw [enc_eq c h]
  unfold pt at h
  repeat' split
  all_goals (show (UInt8.ofNat _).toNat = _; simp; omega)

theorem enc_b1 (c : Nat) (h : pt c) (h2 : 128 ≤ c) : by8 (Utf8.encode (c : Int)) 1 = if c < 2048 then 128 + c % 64 else if c < 65536 then 128 + c / 64 % 64 else 128 + c / 4096 % 64 := by
  rw [enc_eq c h, if_neg (by omega)]
  repeat' split
  all_goals (show (UInt8.ofNat _).toNat = _; simp; omega)

theorem enc_b2 (c : Nat) (h : pt c) (h2 : 2048 ≤ c) : by8 (Utf8.encode (c : Int)) 2 = if c < 65536 then 128 + c % 64 else 128 + c / 64 % 64 := by
  rw [enc_eq c h, if_neg (by omega), if_neg (by omega)]
  repeat' split
  all_goals (show (UInt8.ofNat _).toNat = _; simp; omega)

theorem enc_b3 (c : Nat) (h : pt c) (h2 : 65536 ≤ c) : by8 (Utf8.encode (c : Int)) 3 = 128 + c % 64 := by
  rw [enc_eq c h, if_neg (by omega), if_neg (by omega), if_neg (by omega)]
  show (UInt8.ofNat _).toNat = _
  simp; omega

theorem ct_mk (n : Nat) : ct (some (128 + n % 64)) = true := by unfold ct; simp; omega
theorem vv_mk (n : Nat) : vv (some (128 + n % 64)) = n % 64 := by unfold vv; simp; omega

theorem ob_in (s : ByteArray) (i : Nat) (h : i < s.size) : ob s i = some (by8 s i) := by unfold ob; rw [if_pos h]

theorem enc_pos (c : Nat) (h : pt c) : 0 < (Utf8.encode (c : Int)).size := by
  rw [enc_size c h]; repeat' split
  all_goals omega

theorem m2 (c : Nat) (h : c < 2048) : (192 + c / 64) % 32 * 64 + c % 64 = c := by omega
theorem m3 (c : Nat) (h : c < 65536) : (224 + c / 4096) % 16 * 4096 + c / 64 % 64 * 64 + c % 64 = c := by omega
theorem m4 (c : Nat) (h : c ≤ 1114111) : (240 + c / 262144) % 8 * 262144 + c / 4096 % 64 * 4096 + c / 64 % 64 * 64 + c % 64 = c := by omega

/-- What a point's bytes begin. -/
theorem dec_enc (c : Nat) (h : pt c) (x : ByteArray) : Utf8.decode (Utf8.encode (c : Int) ++ x) 0 = (c, (Utf8.encode (c : Int)).size) := by
  have hz := enc_size c h
  have g0 := enc_b0 c h
  have h' := h
  unfold pt at h'
  rw [decode_eq, by8_app, if_pos (enc_pos c h)]
  by_cases h1 : c < 128
  · rw [if_pos h1] at hz g0
    rw [g0, hz]
    unfold D
    rw [if_pos h1]
  · have g1 := enc_b1 c h (by omega)
    rw [if_neg h1] at hz g0
    by_cases h2 : c < 2048
    · rw [if_pos h2] at hz g0 g1
      rw [g0, hz, ob_app, if_pos (by omega), ob_in _ _ (by omega), g1]
      rw [D_v2 _ _ _ _ (by omega) (ct_mk _) (by rw [vv_mk, m2 c h2]; omega), vv_mk, m2 c h2]
    · have g2 := enc_b2 c h (by omega)
      rw [if_neg h2] at hz g0 g1
      by_cases h3 : c < 65536
      · rw [if_pos h3] at hz g0 g1 g2
        rw [g0, hz, ob_app, if_pos (by omega), ob_in _ _ (by omega), g1, ob_app, if_pos (by omega), ob_in _ _ (by omega), g2]
        rw [D_v3 _ _ _ _ (by omega) (ct_mk _) (ct_mk _) (by rw [vv_mk, vv_mk, m3 c h3]; omega) (by rw [vv_mk, vv_mk, m3 c h3]; omega), vv_mk, vv_mk, m3 c h3]
      · have g3 := enc_b3 c h (by omega)
        rw [if_neg h3] at hz g0 g1 g2
        rw [g0, hz, ob_app, if_pos (by omega), ob_in _ _ (by omega), g1, ob_app, if_pos (by omega), ob_in _ _ (by omega), g2, ob_app, if_pos (by omega), ob_in _ _ (by omega), g3]
        rw [D_v4 _ _ _ _ (by omega) (ct_mk _) (ct_mk _) (ct_mk _) (by rw [vv_mk, vv_mk, vv_mk, m4 c (by omega)]; omega) (by rw [vv_mk, vv_mk, vv_mk, m4 c (by omega)]; omega), vv_mk, vv_mk, vv_mk, m4 c (by omega)]


/-- The point of a character is a point. -/
theorem dp_pt (s : ByteArray) (i : Nat) : pt (dp s i) := by
  unfold dp pt
  rw [decode_eq]
  have hv1 := vv_lt (ob s (i + 1))
  have hv2 := vv_lt (ob s (i + 2))
  rcases D_ways (by8 s i) (ob s (i + 1)) (ob s (i + 2)) (ob s (i + 3)) with h1 | ⟨h1, h2⟩ | ⟨_, _, h2, _⟩ | ⟨_, _, _, h2, _⟩ | ⟨_, _, _, _, h2⟩
  · rw [h1]; simp
  · rw [h2]; left; show by8 s i < _; omega
  · obtain ⟨q1, q2, q3⟩ := (D_w2 _ _ _ _).1 h2
    rw [D_v2 _ _ _ _ q1 q2 q3]; left; show by8 s i % 32 * 64 + _ < _; omega
  · obtain ⟨q1, q2, q3, q4, q5⟩ := (D_w3 _ _ _ _).1 h2
    rw [D_v3 _ _ _ _ q1 q2 q3 q4 q5]
    show (by8 s i % 16 * 4096 + _ + _ < _ ∨ _ ≤ by8 s i % 16 * 4096 + _ + _ ∧ by8 s i % 16 * 4096 + _ + _ ≤ _)
    omega
  · obtain ⟨q1, q2, q3, q4, q5, q6⟩ := (D_w4 _ _ _ _).1 h2
    rw [D_v4 _ _ _ _ q1 q2 q3 q4 q5 q6]
    right
    exact ⟨Nat.le_trans (by omega) q5, q6⟩

theorem k1 (b v : Nat) (hb : b / 32 = 6) (hv : v / 64 = 2) : 192 + (b % 32 * 64 + v % 64) / 64 = b ∧ 128 + (b % 32 * 64 + v % 64) % 64 = v ∧ b % 32 * 64 + v % 64 < 2048 := by omega
theorem k2 (b v u : Nat) (hb : b / 16 = 14) (hv : v / 64 = 2) (hu : u / 64 = 2) : 224 + (b % 16 * 4096 + v % 64 * 64 + u % 64) / 4096 = b ∧ 128 + (b % 16 * 4096 + v % 64 * 64 + u % 64) / 64 % 64 = v ∧ 128 + (b % 16 * 4096 + v % 64 * 64 + u % 64) % 64 = u ∧ b % 16 * 4096 + v % 64 * 64 + u % 64 < 65536 := by omega
theorem k3 (b v u t : Nat) (hb : b / 8 = 30) (hv : v / 64 = 2) (hu : u / 64 = 2) (ht : t / 64 = 2) : 240 + (b % 8 * 262144 + v % 64 * 4096 + u % 64 * 64 + t % 64) / 262144 = b ∧ 128 + (b % 8 * 262144 + v % 64 * 4096 + u % 64 * 64 + t % 64) / 4096 % 64 = v ∧ 128 + (b % 8 * 262144 + v % 64 * 4096 + u % 64 * 64 + t % 64) / 64 % 64 = u ∧ 128 + (b % 8 * 262144 + v % 64 * 4096 + u % 64 * 64 + t % 64) % 64 = t := by omega

theorem vv_ob {s : ByteArray} {i : Nat} (h : ct (ob s i) = true) : vv (ob s i) = by8 s i % 64 ∧ by8 s i / 64 = 2 := by
  obtain ⟨b, hb, hb2⟩ := ct_some h
  obtain ⟨g1, g2⟩ := ob_some hb
  rw [hb, g2]
  exact ⟨rfl, hb2⟩

theorem by8_ext' (s : ByteArray) (a b i : Nat) (h : a + i < b) : by8 (s.extract a b) i = by8 s (a + i) := by
  unfold by8
  rw [get_ext, if_pos h]

/-- A good character's bytes are those of its point. -/
theorem enc_dec (s : ByteArray) (i : Nat) (hi : i < s.size) (hg : gd s i = true) : Utf8.encode (dp s i : Int) = s.extract i (i + dw s i) := by
  have hw := dw_facts s i hi
  have hp := dp_pt s i
  have hz := enc_size _ hp
  have g0 := enc_b0 _ hp
  have g1 := enc_b1 _ hp
  have g2 := enc_b2 _ hp
  have g3 := enc_b3 _ hp
  have hzx := size_ext s i (i + dw s i) hw.2.2
  rw [gd_iff] at hg
  generalize hd : dw s i = d at *
  generalize hc : dp s i = c at *
  have hde : Utf8.decode s i = (c, d) := by rw [← hd, ← hc]; rfl
  rw [hde] at hg
  rw [decode_eq] at hde
  rcases D_ways (by8 s i) (ob s (i + 1)) (ob s (i + 2)) (ob s (i + 3)) with h1 | ⟨h1, h2⟩ | ⟨_, _, h2, _⟩ | ⟨_, _, _, h2, _⟩ | ⟨_, _, _, _, h2⟩
  · rw [hde] at h1; rw [h1] at hg; exact absurd hg not_gD
  · rw [hde] at h2
    cases h2
    rw [if_pos h1] at hz g0
    refine by8_ext _ _ (by omega) (fun k hk => ?_)
    obtain rfl : k = 0 := by omega
    rw [g0, by8_ext' s i _ 0 (by omega), Nat.add_zero]
  · obtain ⟨q1, q2, q3⟩ := (D_w2 _ _ _ _).1 h2
    obtain ⟨r1, r2⟩ := vv_ob q2
    rw [D_v2 _ _ _ _ q1 q2 q3, r1] at hde
    rw [r1] at q3
    cases hde
    obtain ⟨e1, e2, e3⟩ := k1 _ _ q1 r2
    rw [if_neg (by omega), if_pos e3] at hz g0
    have g1 := g1 q3
    rw [if_pos e3] at g1
    refine by8_ext _ _ (by omega) (fun k hk => ?_)
    rcases (show k = 0 ∨ k = 1 by omega) with rfl | rfl
    · rw [g0, by8_ext' s i _ 0 (by omega), e1, Nat.add_zero]
    · rw [g1, by8_ext' s i _ 1 (by omega), e2]
  · obtain ⟨q1, q2, q3, q4, q5⟩ := (D_w3 _ _ _ _).1 h2
    obtain ⟨r1, r2⟩ := vv_ob q2
    obtain ⟨s1, s2⟩ := vv_ob q3
    rw [D_v3 _ _ _ _ q1 q2 q3 q4 q5, r1, s1] at hde
    rw [r1, s1] at q4
    cases hde
    obtain ⟨e1, e2, e3, e4⟩ := k2 _ _ _ q1 r2 s2
    rw [if_neg (by omega), if_neg (by omega), if_pos e4] at hz g0
    have g1 := g1 (by omega)
    rw [if_neg (by omega), if_pos e4] at g1
    have g2 := g2 q4
    rw [if_pos e4] at g2
    refine by8_ext _ _ (by omega) (fun k hk => ?_)
    rcases (show k = 0 ∨ k = 1 ∨ k = 2 by omega) with rfl | rfl | rfl
    · rw [g0, by8_ext' s i _ 0 (by omega), e1, Nat.add_zero]
    · rw [g1, by8_ext' s i _ 1 (by omega), e2]
    · rw [g2, by8_ext' s i _ 2 (by omega), e3]
  · obtain ⟨q1, q2, q3, q4, q5, q6⟩ := (D_w4 _ _ _ _).1 h2
    obtain ⟨r1, r2⟩ := vv_ob q2
    obtain ⟨s1, s2⟩ := vv_ob q3
    obtain ⟨t1, t2⟩ := vv_ob q4
    rw [D_v4 _ _ _ _ q1 q2 q3 q4 q5 q6, r1, s1, t1] at hde
    rw [r1, s1, t1] at q5
    cases hde
    obtain ⟨e1, e2, e3, e4⟩ := k3 _ _ _ _ q1 r2 s2 t2
    rw [if_neg (by omega), if_neg (by omega), if_neg (by omega)] at hz g0
    have g1 := g1 (by omega)
    rw [if_neg (by omega), if_neg (by omega)] at g1
    have g2 := g2 (by omega)
    rw [if_neg (by omega)] at g2
    have g3 := g3 q5
    refine by8_ext _ _ (by omega) (fun k hk => ?_)
    rcases (show k = 0 ∨ k = 1 ∨ k = 2 ∨ k = 3 by omega) with rfl | rfl | rfl | rfl
    · rw [g0, by8_ext' s i _ 0 (by omega), e1, Nat.add_zero]
    · rw [g1, by8_ext' s i _ 1 (by omega), e2]
    · rw [g2, by8_ext' s i _ 2 (by omega), e3]
    · rw [g3, by8_ext' s i _ 3 (by omega), e4]

/-! ### Texts of points -/

end Go.Proofs.YtfkegaencoodbaaDoor
