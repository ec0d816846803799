import Derived.Test.YtfkegaencoodbaaDoorSteps0
set_option linter.unusedVariables false
set_option linter.unusedSimpArgs false
namespace Go.Proofs.YtfkegaencoodbaaDoor

theorem vv_lt (c : Option Nat) : vv c < 64 := Nat.mod_lt _ (by omega)

theorem D_w2 (b0 : Nat) (c1 c2 c3 : Option Nat) : (D b0 c1 c2 c3).2 = 2 ↔ b0 / 32 = 6 ∧ ct c1 = true ∧ 128 ≤ b0 % 32 * 64 + vv c1 := by
  have := vv_lt c1
  unfold D
  generalize vv c1 = v1 at *
  generalize vv c2 = v2 at *
  generalize vv c3 = v3 at *
  generalize ct c1 = t1 at *
  generalize ct c2 = t2 at *
  generalize ct c3 = t3 at *
  by_cases h1 : b0 < 128
  · rw [if_pos h1]; simp; omega
  · grind

theorem D_w3 (b0 : Nat) (c1 c2 c3 : Option Nat) : (D b0 c1 c2 c3).2 = 3 ↔ b0 / 16 = 14 ∧ ct c1 = true ∧ ct c2 = true ∧ 2048 ≤ b0 % 16 * 4096 + vv c1 * 64 + vv c2 ∧
    (b0 % 16 * 4096 + vv c1 * 64 + vv c2 < 55296 ∨ 57344 ≤ b0 % 16 * 4096 + vv c1 * 64 + vv c2) := by
  have h1 := vv_lt c1
  have h2 := vv_lt c2
  unfold D Utf8.valid
  generalize vv c1 = v1 at *
  generalize vv c2 = v2 at *
  generalize vv c3 = v3 at *
  generalize ct c1 = t1 at *
  generalize ct c2 = t2 at *
  generalize ct c3 = t3 at *
  by_cases h1 : b0 < 128
  · rw [if_pos h1]; simp; omega
  · grind

theorem D_w4 (b0 : Nat) (c1 c2 c3 : Option Nat) : (D b0 c1 c2 c3).2 = 4 ↔ b0 / 8 = 30 ∧ ct c1 = true ∧ ct c2 = true ∧ ct c3 = true ∧ 65536 ≤ b0 % 8 * 262144 + vv c1 * 4096 + vv c2 * 64 + vv c3 ∧
    b0 % 8 * 262144 + vv c1 * 4096 + vv c2 * 64 + vv c3 ≤ 1114111 := by
  have h1 := vv_lt c1
  have h2 := vv_lt c2
  have h3 := vv_lt c3
  unfold D Utf8.valid
  generalize vv c1 = v1 at *
  generalize vv c2 = v2 at *
  generalize vv c3 = v3 at *
  generalize ct c1 = t1 at *
  generalize ct c2 = t2 at *
  generalize ct c3 = t3 at *
  by_cases h1 : b0 < 128
  · rw [if_pos h1]; simp; omega
  · grind

theorem D_le4 (b0 : Nat) (c1 c2 c3 : Option Nat) : (D b0 c1 c2 c3).2 ≤ 4 := by
  rcases D_ways b0 c1 c2 c3 with h1 | ⟨h1, h2⟩ | ⟨_, _, h2, _⟩ | ⟨_, _, _, h2, _⟩ | ⟨_, _, _, _, h2⟩
  · rw [h1]; decide
  · rw [h2]; show 1 ≤ 4; omega
  · omega
  · omega
  · omega

theorem n2 (b v : Nat) (h : 128 ≤ b % 32 * 64 + v) (hv : v < 64) : 128 ≤ b % 32 * 64 + 0 := by omega
theorem n3a (b : Nat) (hb : b % 16 = 0) : 2048 ≤ b % 16 * 4096 + 63 * 64 + 63 ∧ (b % 16 * 4096 + 63 * 64 + 63 < 55296 ∨ 57344 ≤ b % 16 * 4096 + 63 * 64 + 63) := by omega
theorem n3b (b : Nat) (hb : ¬ b % 16 = 0) : 2048 ≤ b % 16 * 4096 + 0 * 64 + 0 ∧ (b % 16 * 4096 + 0 * 64 + 0 < 55296 ∨ 57344 ≤ b % 16 * 4096 + 0 * 64 + 0) := by omega
theorem n3c (b v w : Nat) (hw : w < 64) (h : 2048 ≤ b % 16 * 4096 + v * 64 + w) (h2 : b % 16 * 4096 + v * 64 + w < 55296 ∨ 57344 ≤ b % 16 * 4096 + v * 64 + w) :
    2048 ≤ b % 16 * 4096 + v * 64 + 0 ∧ (b % 16 * 4096 + v * 64 + 0 < 55296 ∨ 57344 ≤ b % 16 * 4096 + v * 64 + 0) := by omega
theorem n4a (b : Nat) (hb : b % 8 = 0) : 65536 ≤ b % 8 * 262144 + 63 * 4096 + 63 * 64 + 63 ∧ b % 8 * 262144 + 63 * 4096 + 63 * 64 + 63 ≤ 1114111 := by omega
theorem n4b (b v1 v2 v3 : Nat) (hb : ¬ b % 8 = 0) (h : b % 8 * 262144 + v1 * 4096 + v2 * 64 + v3 ≤ 1114111) : 65536 ≤ b % 8 * 262144 + 0 * 4096 + 0 * 64 + 0 ∧ b % 8 * 262144 + 0 * 4096 + 0 * 64 + 0 ≤ 1114111 := by omega
theorem n4c (b v1 v2 v3 : Nat) (h2 : v2 < 64) (h3 : v3 < 64) (h0 : 65536 ≤ b % 8 * 262144 + v1 * 4096 + v2 * 64 + v3) (h : b % 8 * 262144 + v1 * 4096 + v2 * 64 + v3 ≤ 1114111) : 65536 ≤ b % 8 * 262144 + v1 * 4096 + 0 * 64 + 0 ∧ b % 8 * 262144 + v1 * 4096 + 0 * 64 + 0 ≤ 1114111 := by omega
theorem n4d (b v1 v2 v3 : Nat) (h3 : v3 < 64) (h0 : 65536 ≤ b % 8 * 262144 + v1 * 4096 + v2 * 64 + v3) (h : b % 8 * 262144 + v1 * 4096 + v2 * 64 + v3 ≤ 1114111) : 65536 ≤ b % 8 * 262144 + v1 * 4096 + v2 * 64 + 0 ∧ b % 8 * 262144 + v1 * 4096 + v2 * 64 + 0 ≤ 1114111 := by omega

theorem two3 (n : Nat) (h : 2 < n) (h4 : n ≤ 4) : n = 3 ∨ n = 4 := by omega
theorem one3 (n : Nat) (h : 1 < n) (h4 : n ≤ 4) : n = 2 ∨ n = 3 ∨ n = 4 := by omega

/-- What begins one goes on with the least bytes or with the greatest. -/
theorem D_open (b0 : Nat) (c1 c2 c3 x y : Option Nat) (a0 : ct x = true) (a1 : ct y = true) (v0 : vv x = 0) (v1 : vv y = 63) :
    (1 < (D b0 c1 c2 c3).2 → 1 < (D b0 x x x).2 ∨ 1 < (D b0 y y y).2) ∧
    (2 < (D b0 c1 c2 c3).2 → 2 < (D b0 c1 x x).2) ∧
    (3 < (D b0 c1 c2 c3).2 → 3 < (D b0 c1 c2 x).2) := by
  have h4 := D_le4 b0 c1 c2 c3
  refine ⟨fun h => ?_, fun h => ?_, fun h => ?_⟩
  · rcases one3 _ h h4 with e | e | e
    · obtain ⟨q1, q2, q3⟩ := (D_w2 _ _ _ _).1 e
      left
      rw [(D_w2 b0 x x x).2 ⟨q1, a0, by rw [v0]; exact n2 _ _ q3 (vv_lt _)⟩]; decide
    · obtain ⟨q1, q2, q3, q4, q5⟩ := (D_w3 _ _ _ _).1 e
      by_cases hb : b0 % 16 = 0
      · right
        rw [(D_w3 b0 y y y).2 ⟨q1, a1, a1, by rw [v1]; exact n3a _ hb⟩]; decide
      · left
        rw [(D_w3 b0 x x x).2 ⟨q1, a0, a0, by rw [v0]; exact n3b _ hb⟩]; decide
    · obtain ⟨q1, q2, q3, q4, q5, q6⟩ := (D_w4 _ _ _ _).1 e
      by_cases hb : b0 % 8 = 0
      · right
        rw [(D_w4 b0 y y y).2 ⟨q1, a1, a1, a1, by rw [v1]; exact n4a _ hb⟩]; decide
      · left
        rw [(D_w4 b0 x x x).2 ⟨q1, a0, a0, a0, by rw [v0]; exact n4b _ _ _ _ hb q6⟩]; decide
  · rcases two3 _ h h4 with e | e
    · obtain ⟨q1, q2, q3, q4, q5⟩ := (D_w3 _ _ _ _).1 e
      rw [(D_w3 b0 c1 x x).2 ⟨q1, q2, a0, by rw [v0]; exact n3c _ _ _ (vv_lt _) q4 q5⟩]; decide
    · obtain ⟨q1, q2, q3, q4, q5, q6⟩ := (D_w4 _ _ _ _).1 e
      rw [(D_w4 b0 c1 x x).2 ⟨q1, q2, a0, a0, by rw [v0]; exact n4c _ _ _ _ (vv_lt _) (vv_lt _) q5 q6⟩]; decide
  · obtain ⟨q1, q2, q3, q4, q5, q6⟩ := (D_w4 _ _ _ _).1 (Nat.le_antisymm h4 h)
    rw [(D_w4 b0 c1 c2 x).2 ⟨q1, q2, q3, a0, by rw [v0]; exact n4d _ _ _ _ (vv_lt _) q5 q6⟩]; decide

/-! ### Texts, joined -/

theorem get_app (a b : ByteArray) (i : Nat) : (a ++ b).get! i = if i < a.size then a.get! i else b.get! (i - a.size) := by
  have e : ∀ (x : ByteArray) (k : Nat), x.get! k = x.data.toList[k]?.getD default := by
    intro x k
    show x.data[k]! = _
    rw [Array.getElem!_eq_getD, Array.getD_eq_getD_getElem?, Array.getElem?_toList]
  have hz : a.data.toList.length = a.size := by simp
  rw [e, e, e, ByteArray.data_append, Array.toList_append]
  by_cases h : i < a.size
  · rw [if_pos h, List.getElem?_append_left (by omega)]
  · rw [if_neg h, List.getElem?_append_right (by omega), hz]

theorem size_app (a b : ByteArray) : (a ++ b).size = a.size + b.size := by simp [ByteArray.size_append]

theorem ob_app (a b : ByteArray) (i : Nat) : ob (a ++ b) i = if i < a.size then ob a i else ob b (i - a.size) := by
  unfold ob by8
  rw [size_app, get_app]
  by_cases h : i < a.size
  · rw [if_pos h, if_pos (by omega), if_pos h, if_pos h]
  · grind

theorem by8_app (a b : ByteArray) (i : Nat) : by8 (a ++ b) i = if i < a.size then by8 a i else by8 b (i - a.size) := by
  unfold by8
  rw [get_app]
  split <;> rfl

theorem dec_second (a b : ByteArray) (i : Nat) : Utf8.decode (a ++ b) (a.size + i) = Utf8.decode b i := by
  rw [decode_eq, decode_eq, by8_app, ob_app, ob_app, ob_app, if_neg (by omega), if_neg (by omega), if_neg (by omega), if_neg (by omega)]
  rw [show a.size + i - a.size = i by omega, show a.size + i + 1 - a.size = i + 1 by omega, show a.size + i + 2 - a.size = i + 2 by omega, show a.size + i + 3 - a.size = i + 3 by omega]

/-- A text that goes on as a character is open. -/
theorem opn_of (t b : ByteArray) (h0 : 0 < t.size) (h : t.size < dw (t ++ b) 0) : opn t = true := by
  have key : ∀ x : ByteArray, x.size = 3 → t.size < dw (t ++ x) 0 → goB t x = true := by
    intro x hx hd
    unfold goB
    have : gd (t ++ x) 0 = true := by unfold gd gdb; simp; omega
    rw [this]; simpa using hd
  unfold dw at h
  rw [decode_eq] at h
  have hle := D_le4 (by8 (t ++ b) 0) (ob (t ++ b) (0 + 1)) (ob (t ++ b) (0 + 2)) (ob (t ++ b) (0 + 3))
  have ho := D_open (by8 (t ++ b) 0) (ob (t ++ b) (0 + 1)) (ob (t ++ b) (0 + 2)) (ob (t ++ b) (0 + 3)) (some 128) (some 191) (by decide) (by decide) (by decide) (by decide)
  have b0 : ∀ x, by8 (t ++ x) 0 = by8 t 0 := fun x => by rw [by8_app, if_pos h0]
  have o8 : ∀ k, k < 3 → ob ⟨#[128, 128, 128]⟩ k = some 128 := by
    intro k hk
    match k, hk with
    | 0, _ => decide
    | 1, _ => decide
    | 2, _ => decide
  have oB : ∀ k, k < 3 → ob ⟨#[191, 191, 191]⟩ k = some 191 := by
    intro k hk
    match k, hk with
    | 0, _ => decide
    | 1, _ => decide
    | 2, _ => decide
  have w8 : t.size < (D (by8 t 0) (ob (t ++ ⟨#[128, 128, 128]⟩) (0 + 1)) (ob (t ++ ⟨#[128, 128, 128]⟩) (0 + 2)) (ob (t ++ ⟨#[128, 128, 128]⟩) (0 + 3))).2 → opn t = true := by
    intro hq
    unfold opn
    rw [key ⟨#[128, 128, 128]⟩ rfl (by unfold dw; rw [decode_eq, b0]; exact hq)]; rfl
  have wB : t.size < (D (by8 t 0) (ob (t ++ ⟨#[191, 191, 191]⟩) (0 + 1)) (ob (t ++ ⟨#[191, 191, 191]⟩) (0 + 2)) (ob (t ++ ⟨#[191, 191, 191]⟩) (0 + 3))).2 → opn t = true := by
    intro hq
    unfold opn
    rw [key ⟨#[191, 191, 191]⟩ rfl (by unfold dw; rw [decode_eq, b0]; exact hq)]; simp
  rw [b0] at h hle ho
  obtain ⟨ho1, ho2, ho3⟩ := ho
  rcases (show t.size = 1 ∨ t.size = 2 ∨ t.size = 3 by omega) with e | e | e
  · rcases ho1 (by omega) with q | q
    · apply w8
      rw [ob_app, ob_app, ob_app, if_neg (by omega), if_neg (by omega), if_neg (by omega), o8 _ (by omega), o8 _ (by omega), o8 _ (by omega), e]
      exact q
    · apply wB
      rw [ob_app, ob_app, ob_app, if_neg (by omega), if_neg (by omega), if_neg (by omega), oB _ (by omega), oB _ (by omega), oB _ (by omega), e]
      exact q
  · have q := ho2 (by omega)
    apply w8
    rw [ob_app, if_pos (by omega)] at q
    rw [ob_app, ob_app, ob_app, if_pos (by omega), if_neg (by omega), if_neg (by omega), o8 _ (by omega), o8 _ (by omega), e]
    exact q
  · have q := ho3 (by omega)
    apply w8
    rw [ob_app, ob_app, if_pos (by omega), if_pos (by omega)] at q
    rw [ob_app, ob_app, ob_app, if_pos (by omega), if_pos (by omega), if_neg (by omega), o8 _ (by omega), e]
    exact q

/-- What is open begins with a first byte. -/
theorem opn_first (t : ByteArray) (h0 : 0 < t.size) (h : opn t = true) : ¬ by8 t 0 / 64 = 2 := by
  intro hb
  have key : ∀ x : ByteArray, goB t x = false := by
    intro x
    have e : dw (t ++ x) 0 = 1 := by
      unfold dw
      rw [later_bad (t ++ x) 0 (by rw [by8_app, if_pos h0]; exact hb)]
    unfold goB
    rw [e]
    have : decide (t.size < 1) = false := decide_eq_false (by omega)
    rw [this]; simp
  unfold opn at h
  rw [key, key] at h
  cases h

theorem whF_facts (s : ByteArray) : ∀ f n, 1 ≤ n → (whF s f n = s.size ∧ ∀ m, n ≤ m → m < n + f → m ≤ s.size → opn (s.extract (s.size - m) s.size) = false) ∨
    (∃ m, n ≤ m ∧ m < n + f ∧ m ≤ s.size ∧ whF s f n = s.size - m ∧ opn (s.extract (s.size - m) s.size) = true)
  | 0, n, _ => .inl ⟨rfl, fun m h1 h2 => by omega⟩
  | f + 1, n, hn => by
    unfold whF
    by_cases hs : n ≤ s.size
    · rw [if_pos hs]
      by_cases ho : opn (s.extract (s.size - n) s.size) = true
      · rw [if_pos ho]
        exact .inr ⟨n, by omega, by omega, hs, rfl, ho⟩
      · rw [if_neg ho]
        rcases whF_facts s f (n + 1) (by omega) with ⟨h1, h2⟩ | ⟨m, h1, h2, h3, h4, h5⟩
        · refine .inl ⟨h1, fun m g1 g2 g3 => ?_⟩
          by_cases e : m = n
          · subst e; simpa using ho
          · exact h2 m (by omega) (by omega) g3
        · exact .inr ⟨m, by omega, by omega, h3, h4, h5⟩
    · rw [if_neg hs]
      exact .inl ⟨rfl, fun m g1 g2 g3 => by omega⟩

theorem wh_facts (s : ByteArray) : (wh s = s.size ∧ ∀ m, 1 ≤ m → m ≤ 3 → m ≤ s.size → opn (s.extract (s.size - m) s.size) = false) ∨
    (∃ m, 1 ≤ m ∧ m ≤ 3 ∧ m ≤ s.size ∧ wh s = s.size - m ∧ opn (s.extract (s.size - m) s.size) = true) := by
  rcases whF_facts s 3 1 (by omega) with ⟨h1, h2⟩ | ⟨m, h1, h2, h3, h4, h5⟩
  · exact .inl ⟨h1, fun m g1 g2 g3 => h2 m g1 (by omega) g3⟩
  · exact .inr ⟨m, h1, by omega, h3, h4, h5⟩

theorem wh_bd (s : ByteArray) : wh s ≤ s.size ∧ s.size ≤ wh s + 3 := by
  rcases wh_facts s with ⟨h1, _⟩ | ⟨m, h1, h2, h3, h4, _⟩ <;> omega

theorem app_tail (a b : ByteArray) (i : Nat) (hi : i ≤ a.size) : Utf8.decode (a.extract i a.size ++ b) 0 = Utf8.decode (a ++ b) i := by
  have hz := size_ext a i a.size (Nat.le_refl _)
  refine decode_congr _ _ _ _ (fun k _ => ?_) (fun k _ => by rw [size_app, size_app, hz]; omega)
  rw [get_app, get_app, hz, get_ext]
  by_cases h : i + k < a.size
  · rw [if_pos (by omega), if_pos (by omega), if_pos h, Nat.zero_add]
  · rw [if_neg (by omega), if_neg h, show 0 + k - (a.size - i) = i + k - a.size by omega]

/-- Ahead of an open end nothing hangs on what comes. -/
theorem dec_whole (a b : ByteArray) (i : Nat) (hi : i < wh a) : Utf8.decode (a ++ b) i = Utf8.decode (a.extract 0 (wh a)) i := by
  have hwb := wh_bd a
  have hhead : ∀ k, ob (a.extract 0 (wh a)) k = if k < wh a then ob (a ++ b) k else none := by
    intro k
    rw [ob_head a _ _ hwb.1]
    by_cases h : k < wh a
    · rw [if_pos h, if_pos h, ob_app, if_pos (by omega)]
    · rw [if_neg h, if_neg h]
  have h8 : by8 (a.extract 0 (wh a)) i = by8 (a ++ b) i := by rw [by8_head a _ _ hi, by8_app, if_pos (by omega)]
  have hless : ∀ k, ob (a.extract 0 (wh a)) k = ob (a ++ b) k ∨ ob (a.extract 0 (wh a)) k = none := by
    intro k
    rw [hhead]
    split <;> simp
  by_cases hg : gD (Utf8.decode (a.extract 0 (wh a)) i)
  · have e := hg
    rw [decode_eq, h8] at e
    rw [decode_eq, decode_eq (a.extract 0 (wh a)), h8]
    exact D_more _ (hless _) (hless _) (hless _) e
  · have e2 : Utf8.decode (a.extract 0 (wh a)) i = (65533, 1) := by
      rw [decode_eq]; apply D_notgood; rw [← decode_eq]; exact hg
    rw [e2]
    by_cases hgc : gD (Utf8.decode (a ++ b) i)
    · exfalso
      by_cases hcr : i + dw (a ++ b) i ≤ wh a
      · apply hg
        have : Utf8.decode (a.extract 0 (wh a)) i = Utf8.decode (a ++ b) i := by
          unfold dw at hcr
          rw [decode_eq] at hcr
          rw [decode_eq, decode_eq (a ++ b), h8]
          refine D_same _ (hless _) (hless _) (hless _) (fun h => ?_) (fun h => ?_) (fun h => ?_)
          all_goals rw [hhead, if_pos (by omega)]
        rw [this]; exact hgc
      · rcases wh_facts a with ⟨w1, w2⟩ | ⟨m, m1, m2, m3, w1, w2⟩
        · have h4 : dw (a ++ b) i ≤ 4 := by unfold dw; rw [decode_eq]; exact D_le4 _ _ _ _
          have := w2 (a.size - i) (by omega) (by omega) (by omega)
          rw [show a.size - (a.size - i) = i by omega] at this
          rw [opn_of (a.extract i a.size) b (by rw [size_ext a i _ (Nat.le_refl _)]; omega) (by
            unfold dw; rw [app_tail a b i (by omega), size_ext a i _ (Nat.le_refl _)]
            show _ < dw (a ++ b) i
            omega)] at this
          cases this
        · have hin := dec_inner (a ++ b) i (wh a - i) (by omega) (by omega)
          rw [show i + (wh a - i) = wh a by omega, by8_app, if_pos (by omega)] at hin
          apply opn_first _ (by rw [size_ext a _ _ (Nat.le_refl _)]; omega) w2
          rw [← w1]
          unfold by8
          rw [get_ext, if_pos (by omega), Nat.add_zero]
          exact hin.2
    · rw [decode_eq]; apply D_notgood; rw [← decode_eq]; exact hgc

theorem st_whole (a b : ByteArray) : ∀ k, k ≤ (P (a.extract 0 (wh a))).length → st (a ++ b) k = st (a.extract 0 (wh a)) k
  | 0, _ => rfl
  | k + 1, h => by
    have ih := st_whole a b k (by omega)
    have hz := size_ext a 0 (wh a) (wh_bd a).1
    have h1 := (st_lt (a.extract 0 (wh a)) k).2 (by omega)
    have h2 : st (a ++ b) k < (a ++ b).size := by rw [ih, size_app]; have := (wh_bd a).1; omega
    rw [st_succ (a ++ b) k ((st_lt _ k).1 h2), st_succ (a.extract 0 (wh a)) k (by omega), ih]
    unfold dw
    rw [dec_whole a b _ (by omega)]

/-- The points ahead of an open end are the first ones of the joined text. -/
theorem points_whole (a b : ByteArray) : ∃ m, m = (P (a.extract 0 (wh a))).length ∧ m ≤ (P (a ++ b)).length ∧ ((P (a ++ b)).map (dp (a ++ b))).take m = (P (a.extract 0 (wh a))).map (dp (a.extract 0 (wh a))) := by
  have hz := size_ext a 0 (wh a) (wh_bd a).1
  have hm : (P (a.extract 0 (wh a))).length ≤ (P (a ++ b)).length := by
    apply Nat.le_of_not_lt
    intro hlt
    have h1 := (st_lt (a.extract 0 (wh a)) (P (a ++ b)).length).2 hlt
    have h2 := st_whole a b (P (a ++ b)).length (by omega)
    have h3 := st_end (a ++ b) _ (Nat.le_refl _)
    rw [size_app] at h3
    have := (wh_bd a).1
    omega
  refine ⟨_, rfl, hm, ?_⟩
  apply List.ext_getElem?
  intro k
  rw [List.getElem?_take]
  by_cases hk : k < (P (a.extract 0 (wh a))).length
  · have h1 := (st_lt (a.extract 0 (wh a)) k).2 hk
    rw [if_pos hk, List.getElem?_map, List.getElem?_map, P_at _ k hk, P_at _ k (by omega), st_whole a b k (by omega)]
    simp only [Option.map_some]
    unfold dp
    rw [dec_whole a b _ (by omega)]
  · rw [if_neg hk, List.getElem?_map, List.getElem?_eq_none (by omega), Option.map_none]

theorem st_second (a b : ByteArray) (h : wh a = a.size) (he : a.extract 0 (wh a) = a) : ∀ k, st (a ++ b) ((P a).length + k) = a.size + st b k
  | 0 => by
    have := st_whole a b (P (a.extract 0 (wh a))).length (Nat.le_refl _)
    rw [he] at this
    rw [Nat.add_zero, this, st_end a _ (Nat.le_refl _)]; rfl
  | k + 1 => by
    have ih := st_second a b h he k
    by_cases hk : st b k < b.size
    · have h2 : st (a ++ b) ((P a).length + k) < (a ++ b).size := by rw [ih, size_app]; omega
      rw [← Nat.add_assoc, st_succ _ _ ((st_lt _ _).1 h2), ih, st_succ b k ((st_lt b k).1 hk)]
      unfold dw
      rw [dec_second]; omega
    · have h2 : ¬ st (a ++ b) ((P a).length + k) < (a ++ b).size := by rw [ih, size_app]; omega
      rw [← Nat.add_assoc]
      show (if st (a ++ b) ((P a).length + k) < (a ++ b).size then _ else st (a ++ b) ((P a).length + k)) = _
      rw [if_neg h2, ih]
      show _ = a.size + (if st b k < b.size then _ else st b k)
      rw [if_neg hk]

theorem len_sum (A B C : Nat) (h1 : A + B < C ↔ B < B) (h2 : A + (C - A) < C ↔ C - A < B) (h : A ≤ C) : C = A + B := by omega

theorem points_second (a b : ByteArray) (h : wh a = a.size) (he : a.extract 0 (wh a) = a) : (P (a ++ b)).length = (P a).length + (P b).length ∧ ((P (a ++ b)).map (dp (a ++ b))).drop (P a).length = (P b).map (dp b) := by
  have hlt : ∀ k, (P a).length + k < (P (a ++ b)).length ↔ k < (P b).length := by
    intro k
    rw [← st_lt, ← st_lt, st_second a b h he, size_app]; omega
  have hge : (P a).length ≤ (P (a ++ b)).length := by
    obtain ⟨m, h1, h2, _⟩ := points_whole a b
    rw [he] at h1; omega
  have hlen : (P (a ++ b)).length = (P a).length + (P b).length :=
    len_sum _ _ _ (hlt (P b).length) (hlt ((P (a ++ b)).length - (P a).length)) hge
  refine ⟨hlen, ?_⟩
  apply List.ext_getElem?
  intro k
  rw [List.getElem?_drop, List.getElem?_map, List.getElem?_map]
  by_cases hk : k < (P b).length
  · rw [P_at b k hk, P_at _ _ ((hlt k).2 hk), st_second a b h he]
    simp only [Option.map_some]
    unfold dp
    rw [dec_second]
  · rw [List.getElem?_eq_none (by omega), List.getElem?_eq_none (by omega), Option.map_none, Option.map_none]

theorem extract_all (a : ByteArray) : a.extract 0 a.size = a := by
  apply ByteArray.ext
  rw [ByteArray.data_extract]
  exact Array.extract_size

end Go.Proofs.YtfkegaencoodbaaDoor
