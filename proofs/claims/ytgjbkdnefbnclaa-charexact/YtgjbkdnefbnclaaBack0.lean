import Derived.Test.YtgjbkdnefbnclaaJoin0
import Derived.Test.YtgjbkdnefbnclaaWc
set_option linter.unusedVariables false
set_option linter.unusedSimpArgs false
namespace Go.Proofs.Ytgjbkdnefbnclaa

theorem ba_ext (a b : ByteArray) (hz : a.size = b.size) (h : ∀ i, i < a.size → a.get! i = b.get! i) : a = b := by
  apply ByteArray.ext
  apply Array.ext
  · exact hz
  · intro i h1 h2
    have := h i h1
    have e : ∀ (x : ByteArray) (hx : i < x.data.size), x.get! i = x.data[i] := by
      intro x hx
      show x.data[i]! = _
      exact getElem!_pos x.data i hx
    rw [e a h1, e b h2] at this
    exact this

theorem by8_ext (a b : ByteArray) (hz : a.size = b.size) (h : ∀ i, i < a.size → by8 a i = by8 b i) : a = b :=
  ba_ext a b hz (fun i hi => UInt8.toNat_inj.1 (h i hi))

theorem D_v2 (b0 : Nat) (c1 c2 c3 : Option Nat) (h1 : b0 / 32 = 6) (h2 : ct c1 = true) (h3 : 128 ≤ b0 % 32 * 64 + vv c1) : D b0 c1 c2 c3 = (b0 % 32 * 64 + vv c1, 2) := by
  unfold D
  rw [if_neg (by omega), if_pos (by rw [h2]; simp; omega), if_pos h3]

theorem D_v3 (b0 : Nat) (c1 c2 c3 : Option Nat) (h1 : b0 / 16 = 14) (h2 : ct c1 = true) (h2' : ct c2 = true) (h3 : 2048 ≤ b0 % 16 * 4096 + vv c1 * 64 + vv c2)
    (h4 : b0 % 16 * 4096 + vv c1 * 64 + vv c2 < 55296 ∨ 57344 ≤ b0 % 16 * 4096 + vv c1 * 64 + vv c2) : D b0 c1 c2 c3 = (b0 % 16 * 4096 + vv c1 * 64 + vv c2, 3) := by
  have hw := (D_w3 b0 c1 c2 c3).2 ⟨h1, h2, h2', h3, h4⟩
  unfold D at hw ⊢
  have e1 : (b0 / 32 == 6) = false := by simp; omega
  have e2 : (b0 / 16 == 14) = true := by simp; omega
  rw [if_neg (by omega), e1, h2, h2', e2] at hw ⊢
  simp only [Bool.false_and, Bool.true_and, Bool.and_true, if_true, if_false, Bool.false_eq_true] at hw ⊢
  split
  · rfl
  · rename_i hn; rw [if_neg hn] at hw; cases hw

theorem D_v4 (b0 : Nat) (c1 c2 c3 : Option Nat) (h1 : b0 / 8 = 30) (h2 : ct c1 = true) (h2' : ct c2 = true) (h2'' : ct c3 = true) (h3 : 65536 ≤ b0 % 8 * 262144 + vv c1 * 4096 + vv c2 * 64 + vv c3)
    (h4 : b0 % 8 * 262144 + vv c1 * 4096 + vv c2 * 64 + vv c3 ≤ 1114111) : D b0 c1 c2 c3 = (b0 % 8 * 262144 + vv c1 * 4096 + vv c2 * 64 + vv c3, 4) := by
  have hw := (D_w4 b0 c1 c2 c3).2 ⟨h1, h2, h2', h2'', h3, h4⟩
  unfold D at hw ⊢
  have e1 : (b0 / 32 == 6) = false := by simp; omega
  have e2 : (b0 / 16 == 14) = false := by simp; omega
  have e3 : (b0 / 8 == 30) = true := by simp; omega
  rw [if_neg (by omega), e1, h2, h2', h2'', e2, e3] at hw ⊢
  simp only [Bool.false_and, Bool.true_and, Bool.and_true, if_true, if_false, Bool.false_eq_true] at hw ⊢
  split
  · rfl
  · rename_i hn; rw [if_neg hn] at hw; cases hw

/-- A point. -/
def pt (c : Nat) : Prop := c < 55296 ∨ (57344 ≤ c ∧ c ≤ 1114111)

theorem pt_valid (c : Nat) (h : pt c) : Utf8.valid (c : Int) = true := by
  unfold pt at h
  unfold Utf8.valid
  rcases h with h | h
  · simp; omega
  · simp; omega

theorem enc_eq (c : Nat) (h : pt c) : Utf8.encode (c : Int) =
    if c < 0x80 then ⟨#[UInt8.ofNat c]⟩
    else if c < 0x800 then ⟨#[UInt8.ofNat (0xC0 + c / 64), UInt8.ofNat (0x80 + c % 64)]⟩
    else if c < 0x10000 then ⟨#[UInt8.ofNat (0xE0 + c / 4096), UInt8.ofNat (0x80 + c / 64 % 64), UInt8.ofNat (0x80 + c % 64)]⟩
    else ⟨#[UInt8.ofNat (0xF0 + c / 262144), UInt8.ofNat (0x80 + c / 4096 % 64), UInt8.ofNat (0x80 + c / 64 % 64), UInt8.ofNat (0x80 + c % 64)]⟩ := by
  unfold Utf8.encode
  simp only [pt_valid c h, if_true, Int.toNat_natCast]

/-- A character's bytes, by its width. -/
theorem enc_size (c : Nat) (h : pt c) : (Utf8.encode (c : Int)).size = if c < 128 then 1 else if c < 2048 then 2 else if c < 65536 then 3 else 4 := by
  rw [enc_eq c h]
  repeat' split
  all_goals rfl

theorem enc_b0 (c : Nat) (h : pt c) : by8 (Utf8.encode (c : Int)) 0 = if c < 128 then c else if c < 2048 then 192 + c / 64 else if c < 65536 then 224 + c / 4096 else 240 + c / 262144 := by
  rw [enc_eq c h]
  unfold pt at h
  repeat' split
  all_goals (show (UInt8.ofNat _).toNat = _; simp; omega)

theorem enc_b1 (c : Nat) (h : pt c) (h2 : 128 ≤ c) : by8 (Utf8.encode (c : Int)) 1 = if c < 2048 then 128 + c % 64 else if c < 65536 then 128 + c / 64 % 64 else 128 + c / 4096 % 64 := by
  rw [enc_eq c h, if_neg (by omega)]
  repeat' split
  all_goals (show (UInt8.ofNat _).toNat = _; simp; omega)

theorem enc_b2 (c : Nat) (h : pt c) (h2 : 2048 ≤ c) : by8 (Utf8.encode (c : Int)) 2 = if c < 65536 then 128 + c % 64 else 128 + c / 64 % 64 := by
  rw [enc_eq c h, if_neg (by omega), if_neg (by omega)]
  repeat' split
  all_goals (show (UInt8.ofNat _).toNat = _; simp; omega)

theorem enc_b3 (c : Nat) (h : pt c) (h2 : 65536 ≤ c) : by8 (Utf8.encode (c : Int)) 3 = 128 + c % 64 := by
  rw [enc_eq c h, if_neg (by omega), if_neg (by omega), if_neg (by omega)]
  show (UInt8.ofNat _).toNat = _
  simp; omega

theorem ct_mk (n : Nat) : ct (some (128 + n % 64)) = true := by unfold ct; simp; omega
theorem vv_mk (n : Nat) : vv (some (128 + n % 64)) = n % 64 := by unfold vv; simp; omega

theorem ob_in (s : ByteArray) (i : Nat) (h : i < s.size) : ob s i = some (by8 s i) := by unfold ob; rw [if_pos h]

theorem enc_pos (c : Nat) (h : pt c) : 0 < (Utf8.encode (c : Int)).size := by
  rw [enc_size c h]; repeat' split
  all_goals omega

theorem m2 (c : Nat) (h : c < 2048) : (192 + c / 64) % 32 * 64 + c % 64 = c := by omega
theorem m3 (c : Nat) (h : c < 65536) : (224 + c / 4096) % 16 * 4096 + c / 64 % 64 * 64 + c % 64 = c := by omega
theorem m4 (c : Nat) (h : c ≤ 1114111) : (240 + c / 262144) % 8 * 262144 + c / 4096 % 64 * 4096 + c / 64 % 64 * 64 + c % 64 = c := by omega

/-- What a point's bytes begin. -/
theorem dec_enc (c : Nat) (h : pt c) (x : ByteArray) : Utf8.decode (Utf8.encode (c : Int) ++ x) 0 = (c, (Utf8.encode (c : Int)).size) := by
  have hz := enc_size c h
  have g0 := enc_b0 c h
  have h' := h
  unfold pt at h'
  rw [decode_eq, by8_app, if_pos (enc_pos c h)]
  by_cases h1 : c < 128
  · rw [if_pos h1] at hz g0
    rw [g0, hz]
    unfold D
    rw [if_pos h1]
  · have g1 := enc_b1 c h (by omega)
    rw [if_neg h1] at hz g0
    by_cases h2 : c < 2048
    · rw [if_pos h2] at hz g0 g1
      rw [g0, hz, ob_app, if_pos (by omega), ob_in _ _ (by omega), g1]
      rw [D_v2 _ _ _ _ (by omega) (ct_mk _) (by rw [vv_mk, m2 c h2]; omega), vv_mk, m2 c h2]
    · have g2 := enc_b2 c h (by omega)
      rw [if_neg h2] at hz g0 g1
      by_cases h3 : c < 65536
      · rw [if_pos h3] at hz g0 g1 g2
        rw [g0, hz, ob_app, if_pos (by omega), ob_in _ _ (by omega), g1, ob_app, if_pos (by omega), ob_in _ _ (by omega), g2]
        rw [D_v3 _ _ _ _ (by omega) (ct_mk _) (ct_mk _) (by rw [vv_mk, vv_mk, m3 c h3]; omega) (by rw [vv_mk, vv_mk, m3 c h3]; omega), vv_mk, vv_mk, m3 c h3]
      · have g3 := enc_b3 c h (by omega)
        rw [if_neg h3] at hz g0 g1 g2
        rw [g0, hz, ob_app, if_pos (by omega), ob_in _ _ (by omega), g1, ob_app, if_pos (by omega), ob_in _ _ (by omega), g2, ob_app, if_pos (by omega), ob_in _ _ (by omega), g3]
        rw [D_v4 _ _ _ _ (by omega) (ct_mk _) (ct_mk _) (ct_mk _) (by rw [vv_mk, vv_mk, vv_mk, m4 c (by omega)]; omega) (by rw [vv_mk, vv_mk, vv_mk, m4 c (by omega)]; omega), vv_mk, vv_mk, vv_mk, m4 c (by omega)]


/-- The point of a character is a point. -/
theorem dp_pt (s : ByteArray) (i : Nat) : pt (dp s i) := by
  unfold dp pt
  rw [decode_eq]
  have hv1 := vv_lt (ob s (i + 1))
  have hv2 := vv_lt (ob s (i + 2))
  rcases D_ways (by8 s i) (ob s (i + 1)) (ob s (i + 2)) (ob s (i + 3)) with h1 | ⟨h1, h2⟩ | ⟨_, _, h2, _⟩ | ⟨_, _, _, h2, _⟩ | ⟨_, _, _, _, h2⟩
  · rw [h1]; simp
  · rw [h2]; left; show by8 s i < _; omega
  · obtain ⟨q1, q2, q3⟩ := (D_w2 _ _ _ _).1 h2
    rw [D_v2 _ _ _ _ q1 q2 q3]; left; show by8 s i % 32 * 64 + _ < _; omega
  · obtain ⟨q1, q2, q3, q4, q5⟩ := (D_w3 _ _ _ _).1 h2
    rw [D_v3 _ _ _ _ q1 q2 q3 q4 q5]
    show (by8 s i % 16 * 4096 + _ + _ < _ ∨ _ ≤ by8 s i % 16 * 4096 + _ + _ ∧ by8 s i % 16 * 4096 + _ + _ ≤ _)
    omega
  · obtain ⟨q1, q2, q3, q4, q5, q6⟩ := (D_w4 _ _ _ _).1 h2
    rw [D_v4 _ _ _ _ q1 q2 q3 q4 q5 q6]
    right
    exact ⟨Nat.le_trans (by omega) q5, q6⟩

theorem k1 (b v : Nat) (hb : b / 32 = 6) (hv : v / 64 = 2) : 192 + (b % 32 * 64 + v % 64) / 64 = b ∧ 128 + (b % 32 * 64 + v % 64) % 64 = v ∧ b % 32 * 64 + v % 64 < 2048 := by omega
theorem k2 (b v u : Nat) (hb : b / 16 = 14) (hv : v / 64 = 2) (hu : u / 64 = 2) : 224 + (b % 16 * 4096 + v % 64 * 64 + u % 64) / 4096 = b ∧ 128 + (b % 16 * 4096 + v % 64 * 64 + u % 64) / 64 % 64 = v ∧ 128 + (b % 16 * 4096 + v % 64 * 64 + u % 64) % 64 = u ∧ b % 16 * 4096 + v % 64 * 64 + u % 64 < 65536 := by omega
theorem k3 (b v u t : Nat) (hb : b / 8 = 30) (hv : v / 64 = 2) (hu : u / 64 = 2) (ht : t / 64 = 2) : 240 + (b % 8 * 262144 + v % 64 * 4096 + u % 64 * 64 + t % 64) / 262144 = b ∧ 128 + (b % 8 * 262144 + v % 64 * 4096 + u % 64 * 64 + t % 64) / 4096 % 64 = v ∧ 128 + (b % 8 * 262144 + v % 64 * 4096 + u % 64 * 64 + t % 64) / 64 % 64 = u ∧ 128 + (b % 8 * 262144 + v % 64 * 4096 + u % 64 * 64 + t % 64) % 64 = t := by omega

theorem vv_ob {s : ByteArray} {i : Nat} (h : ct (ob s i) = true) : vv (ob s i) = by8 s i % 64 ∧ by8 s i / 64 = 2 := by
  obtain ⟨b, hb, hb2⟩ := ct_some h
  obtain ⟨g1, g2⟩ := ob_some hb
  rw [hb, g2]
  exact ⟨rfl, hb2⟩

theorem by8_ext' (s : ByteArray) (a b i : Nat) (h : a + i < b) : by8 (s.extract a b) i = by8 s (a + i) := by
  unfold by8
  rw [get_ext, if_pos h]

/-- A good character's bytes are those of its point. -/
theorem enc_dec (s : ByteArray) (i : Nat) (hi : i < s.size) (hg : gd s i = true) : Utf8.encode (dp s i : Int) = s.extract i (i + dw s i) := by
  have hw := dw_facts s i hi
  have hp := dp_pt s i
  have hz := enc_size _ hp
  have g0 := enc_b0 _ hp
  have g1 := enc_b1 _ hp
  have g2 := enc_b2 _ hp
  have g3 := enc_b3 _ hp
  have hzx := size_ext s i (i + dw s i) hw.2.2
  rw [gd_iff] at hg
  generalize hd : dw s i = d at *
  generalize hc : dp s i = c at *
  have hde : Utf8.decode s i = (c, d) := by rw [← hd, ← hc]; rfl
  rw [hde] at hg
  rw [decode_eq] at hde
  rcases D_ways (by8 s i) (ob s (i + 1)) (ob s (i + 2)) (ob s (i + 3)) with h1 | ⟨h1, h2⟩ | ⟨_, _, h2, _⟩ | ⟨_, _, _, h2, _⟩ | ⟨_, _, _, _, h2⟩
  · rw [hde] at h1; rw [h1] at hg; exact absurd hg not_gD
  · rw [hde] at h2
    cases h2
    rw [if_pos h1] at hz g0
    refine by8_ext _ _ (by omega) (fun k hk => ?_)
    obtain rfl : k = 0 := by omega
    rw [g0, by8_ext' s i _ 0 (by omega), Nat.add_zero]
  · obtain ⟨q1, q2, q3⟩ := (D_w2 _ _ _ _).1 h2
    obtain ⟨r1, r2⟩ := vv_ob q2
    rw [D_v2 _ _ _ _ q1 q2 q3, r1] at hde
    rw [r1] at q3
    cases hde
    obtain ⟨e1, e2, e3⟩ := k1 _ _ q1 r2
    rw [if_neg (by omega), if_pos e3] at hz g0
    have g1 := g1 q3
    rw [if_pos e3] at g1
    refine by8_ext _ _ (by omega) (fun k hk => ?_)
    rcases (show k = 0 ∨ k = 1 by omega) with rfl | rfl
    · rw [g0, by8_ext' s i _ 0 (by omega), e1, Nat.add_zero]
    · rw [g1, by8_ext' s i _ 1 (by omega), e2]
  · obtain ⟨q1, q2, q3, q4, q5⟩ := (D_w3 _ _ _ _).1 h2
    obtain ⟨r1, r2⟩ := vv_ob q2
    obtain ⟨s1, s2⟩ := vv_ob q3
    rw [D_v3 _ _ _ _ q1 q2 q3 q4 q5, r1, s1] at hde
    rw [r1, s1] at q4
    cases hde
    obtain ⟨e1, e2, e3, e4⟩ := k2 _ _ _ q1 r2 s2
    rw [if_neg (by omega), if_neg (by omega), if_pos e4] at hz g0
    have g1 := g1 (by omega)
    rw [if_neg (by omega), if_pos e4] at g1
    have g2 := g2 q4
    rw [if_pos e4] at g2
    refine by8_ext _ _ (by omega) (fun k hk => ?_)
    rcases (show k = 0 ∨ k = 1 ∨ k = 2 by omega) with rfl | rfl | rfl
    · rw [g0, by8_ext' s i _ 0 (by omega), e1, Nat.add_zero]
    · rw [g1, by8_ext' s i _ 1 (by omega), e2]
    · rw [g2, by8_ext' s i _ 2 (by omega), e3]
  · obtain ⟨q1, q2, q3, q4, q5, q6⟩ := (D_w4 _ _ _ _).1 h2
    obtain ⟨r1, r2⟩ := vv_ob q2
    obtain ⟨s1, s2⟩ := vv_ob q3
    obtain ⟨t1, t2⟩ := vv_ob q4
    rw [D_v4 _ _ _ _ q1 q2 q3 q4 q5 q6, r1, s1, t1] at hde
    rw [r1, s1, t1] at q5
    cases hde
    obtain ⟨e1, e2, e3, e4⟩ := k3 _ _ _ _ q1 r2 s2 t2
    rw [if_neg (by omega), if_neg (by omega), if_neg (by omega)] at hz g0
    have g1 := g1 (by omega)
    rw [if_neg (by omega), if_neg (by omega)] at g1
    have g2 := g2 (by omega)
    rw [if_neg (by omega)] at g2
    have g3 := g3 q5
    refine by8_ext _ _ (by omega) (fun k hk => ?_)
    rcases (show k = 0 ∨ k = 1 ∨ k = 2 ∨ k = 3 by omega) with rfl | rfl | rfl | rfl
    · rw [g0, by8_ext' s i _ 0 (by omega), e1, Nat.add_zero]
    · rw [g1, by8_ext' s i _ 1 (by omega), e2]
    · rw [g2, by8_ext' s i _ 2 (by omega), e3]
    · rw [g3, by8_ext' s i _ 3 (by omega), e4]

/-! ### Texts of points -/

def rb : List Nat → ByteArray
  | [] => ByteArray.empty
  | c :: l => Utf8.encode (c : Int) ++ rb l

theorem foldl_rb (l : List Nat) : ∀ acc : ByteArray, (l.map (fun i : Nat => (i : Int))).foldl (fun r n => r ++ Utf8.encode n) acc = acc ++ rb l := by
  induction l with
  | nil => intro acc; simp [rb]
  | cons c l ih =>
    intro acc
    simp only [List.map_cons, List.foldl_cons]
    rw [ih, rb, ByteArray.append_assoc]

theorem runes_rb (l : List Nat) : runesBytes (l.map (fun i : Nat => (i : Int))) = rb l := by
  unfold runesBytes
  rw [foldl_rb]
  simp

theorem plc_shift (a b : ByteArray) : ∀ f i, plc (a ++ b) f (a.size + i) = (plc b f i).map (fun k => a.size + k)
  | 0, _ => rfl
  | f + 1, i => by
    unfold plc
    rw [size_app]
    by_cases h : i < b.size
    · rw [if_pos (by omega), if_pos h, List.map_cons]
      have e : dw (a ++ b) (a.size + i) = dw b i := by unfold dw; rw [dec_second]
      rw [e, Nat.add_assoc, plc_shift a b f (i + dw b i)]
    · rw [if_neg (by omega), if_neg h]; rfl

theorem pl_shift (a b : ByteArray) (i : Nat) : pl (a ++ b) (a.size + i) = (pl b i).map (fun k => a.size + k) := by
  unfold pl
  rw [size_app, show a.size + b.size - (a.size + i) = b.size - i by omega]
  exact plc_shift a b _ i

theorem gD_enc (c : Nat) (hc : pt c) : gD (c, (Utf8.encode (c : Int)).size) := by
  have hz := enc_size c hc
  generalize (Utf8.encode (c : Int)).size = n at *
  unfold gD
  show c ≠ 65533 ∨ 1 < n
  by_cases hq : c < 128
  · left; omega
  · right
    rw [hz]
    repeat' split
    all_goals omega

theorem cons_P (E b : ByteArray) (c : Nat) (hd : Utf8.decode (E ++ b) 0 = (c, E.size)) (hpos : 0 < E.size) : P (E ++ b) = 0 :: (P b).map (fun k => E.size + k) := by
  have ew : dw (E ++ b) 0 = E.size := by unfold dw; rw [hd]
  have h1 := pl_lt (E ++ b) 0 (by rw [size_app]; omega)
  rw [ew, Nat.zero_add] at h1
  have h2 := pl_shift E b 0
  rw [Nat.add_zero] at h2
  rw [h2] at h1
  exact h1

theorem cons_dp (E b : ByteArray) (c : Nat) (hd : Utf8.decode (E ++ b) 0 = (c, E.size)) (hpos : 0 < E.size) : (P (E ++ b)).map (dp (E ++ b)) = c :: (P b).map (dp b) := by
  have d0 : dp (E ++ b) 0 = c := by unfold dp; rw [hd]
  have ed : ∀ k, dp (E ++ b) (E.size + k) = dp b k := fun k => by unfold dp; rw [dec_second]
  rw [cons_P E b c hd hpos, List.map_cons, d0, List.map_map]
  refine congrArg (fun x => c :: x) (List.map_congr_left (fun k _ => ?_))
  rw [Function.comp_apply, ed]

theorem all_shift (f g : Nat → Bool) (l : List Nat) (n : Nat) (h : ∀ k, f (n + k) = g k) : (l.map (fun k => n + k)).all f = l.all g := by
  induction l with
  | nil => rfl
  | cons a l ih => rw [List.map_cons, List.all_cons, List.all_cons, h, ih]

theorem cons_gd (E b : ByteArray) (c : Nat) (hd : Utf8.decode (E ++ b) 0 = (c, E.size)) (hpos : 0 < E.size) (hg : gD (c, E.size)) : (P (E ++ b)).all (gd (E ++ b)) = (P b).all (gd b) := by
  have g0 : gd (E ++ b) 0 = true := by
    rw [gd_iff, hd]
    exact hg
  have eg : ∀ k, gd (E ++ b) (E.size + k) = gd b k := fun k => by unfold gd dp dw; rw [dec_second]
  rw [cons_P E b c hd hpos, List.all_cons, g0, Bool.true_and, all_shift _ _ _ _ eg]

theorem rb_cons (c : Nat) (l : List Nat) : rb (c :: l) = Utf8.encode (c : Int) ++ rb l := rfl

theorem rb_points (l : List Nat) (h : ∀ c ∈ l, pt c) : (P (rb l)).map (dp (rb l)) = l ∧ (P (rb l)).all (gd (rb l)) = true := by
  induction l with
  | nil =>
    have e : P (rb []) = [] := pl_ge _ 0 (Nat.zero_le _)
    rw [e]
    exact ⟨List.map_nil, List.all_nil⟩
  | cons c l ih =>
    obtain ⟨i1, i2⟩ := ih (fun x hx => h x (by simp [hx]))
    have hc := h c (by simp)
    rw [rb_cons, cons_dp _ _ c (dec_enc c hc _) (enc_pos c hc), cons_gd _ _ c (dec_enc c hc _) (enc_pos c hc) (gD_enc c hc), i1, i2]
    exact ⟨rfl, rfl⟩

theorem ext_split (s : ByteArray) (i d : Nat) (h : i + d ≤ s.size) : s.extract i (i + d) ++ s.extract (i + d) s.size = s.extract i s.size := by
  have z1 := size_ext s i (i + d) h
  have z2 := size_ext s (i + d) s.size (Nat.le_refl _)
  have z3 := size_ext s i s.size (Nat.le_refl _)
  apply ba_ext
  · rw [size_app]; omega
  · intro k hk
    rw [size_app] at hk
    rw [get_app, z1, get_ext, get_ext, get_ext]
    by_cases hkd : k < d
    · rw [if_pos (by omega), if_pos (by omega), if_pos (by omega)]
    · rw [if_neg (by omega), if_pos (by omega), if_pos (by omega)]
      congr 1; omega

theorem rb_good (s : ByteArray) : ∀ f i, i ≤ s.size → s.size ≤ i + f → (pl s i).all (gd s) = true → rb ((pl s i).map (dp s)) = s.extract i s.size
  | 0, i, h1, h2, _ => by
    rw [pl_ge s i (by omega)]
    apply ba_ext
    · rw [size_ext s i _ (Nat.le_refl _)]; show 0 = _; omega
    · intro k hk
      exact absurd hk (by show ¬ k < 0; omega)
  | f + 1, i, h1, h2, h => by
    by_cases hi : i < s.size
    · have hw := dw_facts s i hi
      rw [pl_lt s i hi, List.all_cons, Bool.and_eq_true] at h
      rw [pl_lt s i hi, List.map_cons, rb, rb_good s f (i + dw s i) hw.2.2 (by omega) h.2, enc_dec s i hi h.1, ext_split s i _ hw.2.2]
    · rw [pl_ge s i (by omega)]
      apply ba_ext
      · rw [size_ext s i _ (Nat.le_refl _)]; show 0 = _; omega
      · intro k hk
        exact absurd hk (by show ¬ k < 0; omega)

theorem rb_bad (s : ByteArray) : ∀ f i, i ≤ s.size → s.size ≤ i + f → s.size - i ≤ (rb ((pl s i).map (dp s))).size ∧ ((pl s i).all (gd s) = false → s.size - i < (rb ((pl s i).map (dp s))).size)
  | 0, i, h1, h2 => by
    rw [pl_ge s i (by omega)]
    exact ⟨by omega, fun h => by cases h⟩
  | f + 1, i, h1, h2 => by
    by_cases hi : i < s.size
    · have hw := dw_facts s i hi
      obtain ⟨q1, q2⟩ := rb_bad s f (i + dw s i) hw.2.2 (by omega)
      rw [pl_lt s i hi, List.map_cons, rb, size_app, List.all_cons]
      by_cases hg : gd s i = true
      · have ee := enc_dec s i hi hg
        have es : (Utf8.encode (dp s i : Int)).size = dw s i := by rw [ee, size_ext s i _ hw.2.2]; omega
        rw [es, hg, Bool.true_and]
        exact ⟨by omega, fun h => by have := q2 h; omega⟩
      · have hb := gd_not s i (by simpa using hg)
        have e1 : dp s i = 65533 := by unfold dp; rw [hb]
        have e2 : dw s i = 1 := by unfold dw; rw [hb]
        have es : (Utf8.encode (dp s i : Int)).size = 3 := by rw [e1]; decide
        rw [es]
        rw [e2] at q1 ⊢
        exact ⟨by omega, fun _ => by omega⟩
    · rw [pl_ge s i (by omega)]
      exact ⟨by omega, fun h => by cases h⟩

/-- A text of a text's points is it just if all of it is good. -/
theorem rb_iff (s : ByteArray) : (rb ((P s).map (dp s)) = s) ↔ (P s).all (gd s) = true := by
  constructor
  · intro h
    cases hb : (P s).all (gd s) with
    | true => rfl
    | false =>
      have := (rb_bad s s.size 0 (Nat.zero_le _) (by omega)).2 hb
      have e : rb ((pl s 0).map (dp s)) = s := h
      rw [e] at this
      omega
  · intro h
    have := rb_good s s.size 0 (Nat.zero_le _) (by omega) h
    rw [extract_all] at this
    exact this

end Go.Proofs.Ytgjbkdnefbnclaa
