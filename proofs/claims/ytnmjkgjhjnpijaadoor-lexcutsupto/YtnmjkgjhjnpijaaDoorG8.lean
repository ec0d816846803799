import Derived.Test.YtnmjkgjhjnpijaaDoorG4
set_option linter.unusedVariables false
set_option linter.unusedSimpArgs false
namespace Go.Proofs.YtnmjkgjhjnpijaaDoor
open Go.RowKit

theorem D_cut1 (b0 : Nat) {c1 c2 c3 c1' c2' c3' : Option Nat} (h : ct c1 = false) (h' : ct c1' = false) : D b0 c1 c2 c3 = D b0 c1' c2' c3' := by unfold D; simp [h, h']
theorem D_cut2 (b0 : Nat) {c1 c2 c3 c2' c3' : Option Nat} (h : ct c2 = false) (h' : ct c2' = false) : D b0 c1 c2 c3 = D b0 c1 c2' c3' := by unfold D; simp [h, h']
theorem D_cut3 (b0 : Nat) {c1 c2 c3 c3' : Option Nat} (h : ct c3 = false) (h' : ct c3' = false) : D b0 c1 c2 c3 = D b0 c1 c2 c3' := by unfold D; simp [h, h']

/-- A text that is followed by no byte that goes on with a character is read as it is read alone. -/
theorem dec_first (a c : ByteArray) (h : ct (ob c 0) = false) (i : Nat) (hi : i < a.size) : Utf8.decode (a ++ c) i = Utf8.decode a i := by
  have hin : ∀ j, j < a.size → ob (a ++ c) j = ob a j := fun j hj => by rw [ob_app, if_pos hj]
  have hat : ob (a ++ c) a.size = ob c 0 := by rw [ob_app, if_neg (by omega), Nat.sub_self]
  have hno : ct (ob a a.size) = false := by unfold ob; rw [if_neg (by omega)]; rfl
  rw [decode_eq, decode_eq, by8_app, if_pos hi]
  by_cases h1 : i + 1 = a.size
  · exact D_cut1 _ (by rw [h1, hat]; exact h) (by rw [h1]; exact hno)
  · rw [hin (i + 1) (by omega)]
    by_cases h2 : i + 2 = a.size
    · exact D_cut2 _ (by rw [h2, hat]; exact h) (by rw [h2]; exact hno)
    · rw [hin (i + 2) (by omega)]
      by_cases h3 : i + 3 = a.size
      · exact D_cut3 _ (by rw [h3, hat]; exact h) (by rw [h3]; exact hno)
      · rw [hin (i + 3) (by omega)]

/-- The same of what stands behind. -/
theorem gd_first (a c : ByteArray) (h : ct (ob c 0) = false) (i : Nat) (hi : i < a.size) : gd (a ++ c) i = gd a i ∧ dp (a ++ c) i = dp a i ∧ dw (a ++ c) i = dw a i := by
  unfold gd dp dw
  rw [dec_first a c h i hi]
  exact ⟨rfl, rfl, rfl⟩
theorem gd_second (a c : ByteArray) (i : Nat) : gd (a ++ c) (a.size + i) = gd c i ∧ dp (a ++ c) (a.size + i) = dp c i ∧ dw (a ++ c) (a.size + i) = dw c i := by
  unfold gd dp dw
  rw [dec_second a c i]
  exact ⟨rfl, rfl, rfl⟩

/-- A sign stands at a place behind as it stands alone. -/
theorem pre_second (a c t : ByteArray) (i : Nat) : pre (a ++ c) (a.size + i) t = pre c i t := by
  have hz := size_app a c
  by_cases h : i + t.size ≤ c.size
  · rw [pre_in (by omega), pre_in h]
    have : (a ++ c).extract (a.size + i) (a.size + i + t.size) = c.extract i (i + t.size) := by
      refine by8_ext _ _ (by rw [size_ext _ _ _ (by omega), size_ext _ _ _ h]; omega) (fun j hj => ?_)
      rw [size_ext _ _ _ (by omega)] at hj
      rw [by8_ext' _ _ _ _ (by omega), by8_ext' _ _ _ _ (by omega), by8_app, if_neg (by omega)]
      congr 1; omega
    rw [this]
  · rw [pre_out (by omega), pre_out h]
theorem sg_second (a c : ByteArray) (i : Nat) : sg (a ++ c) (a.size + i) = sg c i := by
  unfold sg
  rw [show pre (a ++ c) (a.size + i) = pre c i from funext (pre_second a c · i)]

theorem by8_second (a c : ByteArray) (i : Nat) : by8 (a ++ c) (a.size + i) = by8 c i := by
  rw [by8_app, if_neg (by omega)]; congr 1; omega

theorem bgn_second (a c : ByteArray) (i : Nat) : tkBgn (a ++ c) (a.size + i) = tkBgn c i := by
  have hz := size_app a c
  unfold tkBgn
  rw [(gd_second a c i).1, (gd_second a c i).2.1, by8_second, sg_second, show a.size + i + 1 = a.size + (i + 1) by omega, by8_second]
  have : (by8 c i = 47 ∧ a.size + (i + 1) < (a ++ c).size ∧ by8 c (i + 1) = 47) ↔ (by8 c i = 47 ∧ i + 1 < c.size ∧ by8 c (i + 1) = 47) := by rw [hz]; constructor <;> rintro ⟨h1, h2, h3⟩ <;> exact ⟨h1, by omega, h3⟩
  simp only [this]

/-- The rounds behind are the rounds alone, so many bytes on. -/
def Rd.up (n : Nat) : Rd → Rd
  | .out p e => .out (n + p) e
  | .on k => .on k
theorem run_up {g g' : Nat → Nat → Rd} {z n : Nat} (hg : GoesOn g z) (hg' : GoesOn g' (n + z)) (h : ∀ b k, b ≤ z → g' (n + b) k = (g b k).up n) :
    ∀ (d a m : Nat), z - a ≤ d → a ≤ z → run g' (n + z) (n + a) m = (n + (run g z a m).1, (run g z a m).2)
  | d, a, m, hd, ha => by
    have e0 := h a m ha
    cases e : g a m with
    | out p q =>
      rw [e] at e0
      rw [run_out ha e, run_out (by omega) e0]
    | on k =>
      rw [e] at e0
      obtain ⟨h3, h4⟩ := hg a m k e
      rw [run_on hg ha e, run_on hg' (by omega) e0, Nat.add_assoc]
      cases d with
      | zero => omega
      | succ d => exact run_up hg hg' h d (a + k) (m + 1) (by omega) h4

theorem end_second (a c : ByteArray) (i k : Nat) (hi : i < c.size) : tkEnd (a ++ c) (a.size + i) k = (a.size + (tkEnd c i k).1, (tkEnd c i k).2) := by
  have hz := size_app a c
  have hQ : ∀ q o, run (gQuo (a ++ c) (a.size + i) q o) (a ++ c).size (a.size + i + 1) 0 = (a.size + (run (gQuo c i q o) c.size (i + 1) 0).1, (run (gQuo c i q o) c.size (i + 1) 0).2) := by
    intro q o
    have h1 := gQuo_on (a ++ c) (a.size + i) q o
    rw [hz] at h1 ⊢
    refine run_up (gQuo_on c i q o) h1 (fun b m hb => ?_) _ (i + 1) 0 (Nat.le_refl _) hi
    unfold gQuo tkCtl
    rw [by8_second, (gd_second a c b).1, (gd_second a c b).2.1, (gd_second a c b).2.2, hz]
    rw [show a.size + b + dw c b - (a.size + i) = b + dw c b - i by omega]
    simp only [Nat.add_le_add_iff_left]
    repeat' split
    all_goals rfl
  have hC : ∀ o, run (gCom (a ++ c) (a.size + i) o) (a ++ c).size (a.size + i) 0 = (a.size + (run (gCom c i o) c.size i 0).1, (run (gCom c i o) c.size i 0).2) := by
    intro o
    have h1 := gCom_on (a ++ c) (a.size + i) o
    rw [hz] at h1 ⊢
    refine run_up (gCom_on c i o) h1 (fun b m hb => ?_) _ i 0 (Nat.le_refl _) (Nat.le_of_lt hi)
    unfold gCom
    rw [by8_second, hz]
    rw [show a.size + b + 1 - (a.size + i) = b + 1 - i by omega]
    simp only [Nat.add_le_add_iff_left]
    repeat' split
    all_goals rfl
  have hR : run (gRow (a ++ c) (a.size + i) k) (a ++ c).size (a.size + i) 0 = (a.size + (run (gRow c i k) c.size i 0).1, (run (gRow c i k) c.size i 0).2) := by
    have h1 := gRow_on (a ++ c) (a.size + i) k
    rw [hz] at h1 ⊢
    refine run_up (gRow_on c i k) h1 (fun b m hb => ?_) _ i 0 (Nat.le_refl _) (Nat.le_of_lt hi)
    unfold gRow
    rw [by8_second, (gd_second a c b).1, (gd_second a c b).2.1, (gd_second a c b).2.2, hz]
    rw [show a.size + b + dw c b - (a.size + i) = b + dw c b - i by omega]
    simp only [Nat.add_le_add_iff_left]
    repeat' split
    all_goals rfl
  unfold tkEnd
  rw [hQ, hQ, hC, hC, hR, sg_second]
  repeat' split
  all_goals first | rfl | (rw [Nat.add_assoc])

end Go.Proofs.YtnmjkgjhjnpijaaDoor

set_option linter.unusedVariables false
set_option linter.unusedSimpArgs false
namespace Go.Proofs.YtnmjkgjhjnpijaaDoor
open Go.RowKit

theorem ext_second (a c : ByteArray) (i p : Nat) (hp : p ≤ c.size) : (a ++ c).extract (a.size + i) (a.size + p) = c.extract i p := by
  have hz := size_app a c
  refine by8_ext _ _ (by rw [size_ext _ _ _ (by omega), size_ext _ _ _ hp]; omega) (fun j hj => ?_)
  rw [size_ext _ _ _ (by omega)] at hj
  rw [by8_ext' _ _ _ _ (by omega), by8_ext' _ _ _ _ (by omega), by8_app, if_neg (by omega)]
  congr 1; omega

theorem trim_second (a c : ByteArray) (j : Nat) (hj : tkBl (by8 c j) = false) : ∀ p, j < p → tkTrim (a ++ c) (a.size + p) = a.size + tkTrim c p
  | 0, h => by omega
  | p + 1, h => by
    rw [show a.size + (p + 1) = (a.size + p) + 1 by omega]
    unfold tkTrim
    rw [by8_second]
    by_cases e : tkBl (by8 c p) = true
    · rw [if_pos e, if_pos e]
      refine trim_second a c j hj p ?_
      rcases Nat.lt_or_ge j p with h2 | h2
      · exact h2
      · rw [show j = p by omega, e] at hj; cases hj
    · rw [if_neg e, if_neg e]; omega

/-- A token, so many bytes on. -/
def Tk.up (n : Nat) (t : Tk) : Tk := ⟨t.k, n + t.a, n + t.e, t.f⟩

theorem tok_second (a c : ByteArray) (k i p f : Nat) (hi : tkBl (by8 c i) = false) (hp : i < p) (hz : p ≤ c.size) : tkTok (a ++ c) k (a.size + i) (a.size + p) f = (tkTok c k i p f).up a.size := by
  unfold tkTok Tk.up
  rw [ext_second a c i p hz, trim_second a c i hi p hp]
  congr 1
  split <;> rfl

/-- What a source has that stands behind another one: the same, so many bytes on. -/
theorem fnd_second (a c : ByteArray) : ∀ (d i f : Nat), c.size - i ≤ d → fnd (a ++ c) (a.size + i) f = ((fnd c i f).1.map (Tk.up a.size), (fnd c i f).2.1, if (fnd c i f).2.1 = 0 then 0 else a.size + (fnd c i f).2.2)
  | d, i, f, hd => by
    have hz := size_app a c
    by_cases h : i < c.size
    · cases d with
      | zero => omega
      | succ d =>
        rw [fnd_step (a ++ c) (a.size + i) f (by omega), fnd_step c i f h, by8_second, bgn_second, end_second a c i _ h]
        by_cases h1 : by8 c i = 10
        · rw [if_pos h1, if_pos h1, Nat.add_assoc]
          exact fnd_second a c d (i + 1) (f + 1) (by omega)
        · rw [if_neg h1, if_neg h1]
          by_cases h2 : tkBl (by8 c i) = true
          · rw [if_pos h2, if_pos h2, Nat.add_assoc]
            exact fnd_second a c d (i + 1) f (by omega)
          · rw [if_neg h2, if_neg h2]
            by_cases h3 : tkBgn c i = 0
            · rw [if_pos h3, if_pos h3]; rfl
            · rw [if_neg h3, if_neg h3]
              by_cases h4 : (tkEnd c i (tkBgn c i)).2 ≠ 0
              · rw [if_pos h4, if_pos h4]
                show _ = (_, _, if (tkEnd c i (tkBgn c i)).2 = 0 then 0 else _)
                rw [if_neg h4]; rfl
              · rw [if_neg h4, if_neg h4]
                have h5 := tkEnd_ok c i (tkBgn c i) (tkEnd c i (tkBgn c i)).1 h rfl h3 (Prod.ext rfl (by simpa using h4))
                have h6 := fnd_second a c d (tkEnd c i (tkBgn c i)).1 0 (by omega)
                show (tkTok (a ++ c) _ _ (a.size + (tkEnd c i (tkBgn c i)).1) f :: (fnd (a ++ c) (a.size + (tkEnd c i (tkBgn c i)).1) 0).1, (fnd (a ++ c) (a.size + (tkEnd c i (tkBgn c i)).1) 0).2) = _
                rw [h6, tok_second a c _ i _ f (by simpa using h2) h5.1 h5.2]
                rfl
    · rw [fnd_end (a ++ c) (a.size + i) f (by omega), fnd_end c i f (by omega)]; rfl

/-- How many line ends stand ahead touches the first token alone. -/
theorem fnd_feeds (s : ByteArray) : ∀ (d a f f' : Nat), s.size - a ≤ d → (fnd s a f).2 = (fnd s a f').2 ∧ (fnd s a f).1.length = (fnd s a f').1.length ∧
    ∀ j x y, (fnd s a f).1[j]? = some x → (fnd s a f').1[j]? = some y → x.k = y.k ∧ x.a = y.a ∧ x.e = y.e ∧ (0 < j → x.f = y.f)
  | d, a, f, f', hd => by
    by_cases h : a < s.size
    · cases d with
      | zero => omega
      | succ d =>
        rw [fnd_step s a f h, fnd_step s a f' h]
        by_cases h1 : by8 s a = 10
        · rw [if_pos h1, if_pos h1]; exact fnd_feeds s d (a + 1) (f + 1) (f' + 1) (by omega)
        · rw [if_neg h1, if_neg h1]
          by_cases h2 : tkBl (by8 s a) = true
          · rw [if_pos h2, if_pos h2]; exact fnd_feeds s d (a + 1) f f' (by omega)
          · rw [if_neg h2, if_neg h2]
            by_cases h3 : tkBgn s a = 0
            · rw [if_pos h3, if_pos h3]; exact ⟨rfl, rfl, fun j x y hx => by cases hx⟩
            · rw [if_neg h3, if_neg h3]
              by_cases h4 : (tkEnd s a (tkBgn s a)).2 ≠ 0
              · rw [if_pos h4, if_pos h4]; exact ⟨rfl, rfl, fun j x y hx => by cases hx⟩
              · rw [if_neg h4, if_neg h4]
                refine ⟨rfl, rfl, fun j x y hx hy => ?_⟩
                cases j with
                | zero => cases hx; cases hy; exact ⟨rfl, rfl, rfl, fun h => absurd h (Nat.lt_irrefl _)⟩
                | succ j =>
                  have e : some x = some y := hx.symm.trans hy
                  cases e
                  exact ⟨rfl, rfl, rfl, fun _ => rfl⟩
    · rw [fnd_end s a f (by omega), fnd_end s a f' (by omega)]; exact ⟨rfl, rfl, fun j x y hx => by cases hx⟩

end Go.Proofs.YtnmjkgjhjnpijaaDoor

set_option linter.unusedVariables false
set_option linter.unusedSimpArgs false
namespace Go.Proofs.YtnmjkgjhjnpijaaDoor
open Go.RowKit

theorem find_congr {f g : ByteArray → Bool} : ∀ l : List ByteArray, (∀ x ∈ l, f x = g x) → l.find? f = l.find? g
  | [], _ => rfl
  | x :: l, h => by
    rw [List.find?_cons, List.find?_cons, h x (List.mem_cons_self ..), find_congr l (fun y hy => h y (List.mem_cons_of_mem _ hy))]

theorem sign_ten : ∀ x ∈ signL, x.size = 1 ∨ (x.size = 2 ∧ by8 x 1 ≠ 10) := by decide

theorem ext_first (a c : ByteArray) (i p : Nat) (hp : p ≤ a.size) : (a ++ c).extract i p = a.extract i p := by
  have hz := size_app a c
  refine by8_ext _ _ (by rw [size_ext _ _ _ (by omega), size_ext _ _ _ hp]) (fun j hj => ?_)
  rw [size_ext _ _ _ (by omega)] at hj
  rw [by8_ext' _ _ _ _ (by omega), by8_ext' _ _ _ _ (by omega), by8_app, if_pos (by omega)]

theorem pre_first (a c t : ByteArray) (ht : t ∈ signL) (hc : 0 < c.size) (h10 : by8 c 0 = 10) (i : Nat) (hi : i < a.size) : pre (a ++ c) i t = pre a i t := by
  have hz := size_app a c
  by_cases h : i + t.size ≤ a.size
  · rw [pre_in (by omega), pre_in h, ext_first a c _ _ h]
  · rcases sign_ten t ht with h1 | ⟨h1, h2⟩
    · omega
    · rw [pre_out h, pre_in (by omega)]
      refine decide_eq_false (fun e => h2 ?_)
      rw [← e, by8_ext' _ _ _ _ (by omega), by8_app, if_neg (by omega), show i + 1 - a.size = 0 by omega, h10]

theorem sg_first (a c : ByteArray) (hc : 0 < c.size) (h10 : by8 c 0 = 10) (i : Nat) (hi : i < a.size) : sg (a ++ c) i = sg a i := by
  unfold sg
  rw [find_congr signL (fun x hx => pre_first a c x hx hc h10 i hi)]

theorem ct_ten {c : ByteArray} (hc : 0 < c.size) (h10 : by8 c 0 = 10) : ct (ob c 0) = false := by unfold ob; rw [if_pos hc, h10]; rfl

theorem by8_first (a c : ByteArray) (i : Nat) (hi : i < a.size) : by8 (a ++ c) i = by8 a i := by rw [by8_app, if_pos hi]

theorem bgn_first (a c : ByteArray) (hc : 0 < c.size) (h10 : by8 c 0 = 10) (i : Nat) (hi : i < a.size) : tkBgn (a ++ c) i = tkBgn a i := by
  have hz := size_app a c
  obtain ⟨g1, g2, g3⟩ := gd_first a c (ct_ten hc h10) i hi
  unfold tkBgn
  rw [g1, g2, by8_first a c i hi, sg_first a c hc h10 i hi]
  have : (by8 a i = 47 ∧ i + 1 < (a ++ c).size ∧ by8 (a ++ c) (i + 1) = 47) ↔ (by8 a i = 47 ∧ i + 1 < a.size ∧ by8 a (i + 1) = 47) := by
    by_cases h : i + 1 < a.size
    · rw [by8_first a c _ h, hz]; constructor <;> rintro ⟨h1, h2, h3⟩ <;> exact ⟨h1, by omega, h3⟩
    · constructor
      · rintro ⟨h1, h2, h3⟩
        rw [by8_app, if_neg h, show i + 1 - a.size = 0 by omega, h10] at h3
        cases h3
      · rintro ⟨h1, h2, h3⟩; exact absurd h2 h
  simp only [this]

theorem dp_ten (s : ByteArray) (i : Nat) (h : by8 s i = 10) : dp s i = 10 := by
  unfold dp; rw [decode_eq, h]; rfl

theorem row_first (a c : ByteArray) (hc : 0 < c.size) (h10 : by8 c 0 = 10) (f k : Nat) (hk : k = 1 ∨ k = 3) (b m : Nat) (hb : b ≤ a.size) : gRow (a ++ c) f k b m = gRow a f k b m := by
  have hz := size_app a c
  unfold gRow
  by_cases h : b < a.size
  · obtain ⟨g1, g2, g3⟩ := gd_first a c (ct_ten hc h10) b h
    rw [if_neg (show ¬ (a ++ c).size ≤ b by omega), if_neg (show ¬ a.size ≤ b by omega), g1, g2, g3, by8_first a c b h]
  · obtain rfl : b = a.size := by omega
    have e0 := by8_second a c 0
    obtain ⟨g1, g2, g3⟩ := gd_second a c 0
    rw [Nat.add_zero] at e0 g1 g2 g3
    rw [if_neg (by omega), if_pos (Nat.le_refl _), g1, g2, e0, h10, dp_ten c 0 h10, if_pos]
    rcases hk with rfl | rfl
    · left
      refine ⟨rfl, ?_⟩
      rw [show pr' ((10 : Nat) : Int) = false by decide]
      exact Bool.and_false _
    · right; exact ⟨rfl, rfl⟩

theorem quo_first (a c : ByteArray) (hc : 0 < c.size) (h10 : by8 c 0 = 10) (f q : Nat) (o : Bool) (b m : Nat) (hb : b ≤ a.size) : gQuo (a ++ c) f q o b m = gQuo a f q o b m := by
  have hz := size_app a c
  unfold gQuo tkCtl
  by_cases h : b < a.size
  · obtain ⟨g1, g2, g3⟩ := gd_first a c (ct_ten hc h10) b h
    rw [g1, g2, g3, by8_first a c b h]
    by_cases h2 : by8 a b = 10
    · rw [if_pos (.inr h2), if_pos (.inr h2)]
    · rw [if_neg (show ¬ ((a ++ c).size ≤ b ∨ by8 a b = 10) by omega), if_neg (show ¬ (a.size ≤ b ∨ by8 a b = 10) by omega)]
  · obtain rfl : b = a.size := by omega
    have e0 := by8_second a c 0
    rw [Nat.add_zero] at e0
    rw [if_pos (.inr (by rw [e0, h10])), if_pos (.inl (Nat.le_refl _))]

theorem com_first (a c : ByteArray) (hc : 0 < c.size) (h10 : by8 c 0 = 10) (f : Nat) (o : Bool) (b m : Nat) (hb : b ≤ a.size) (ho : o = true → b < a.size) : gCom (a ++ c) f o b m = gCom a f o b m := by
  have hz := size_app a c
  unfold gCom
  by_cases h : b < a.size
  · rw [if_neg (show ¬ (a ++ c).size ≤ b by omega), if_neg (show ¬ a.size ≤ b by omega), by8_first a c b h]
  · obtain rfl : b = a.size := by omega
    have e0 := by8_second a c 0
    rw [Nat.add_zero] at e0
    cases o with
    | true => exact absurd (ho rfl) (Nat.lt_irrefl _)
    | false => rw [if_neg (by omega), if_pos ⟨rfl, by rw [e0, h10]⟩, if_pos (Nat.le_refl _), if_neg (by decide)]

/-- As run_same, of a loop that ends well ahead of the source's end. -/
theorem run_well {g g' : Nat → Nat → Rd} {z z' : Nat} (hg : GoesOn g z) (hg' : GoesOn g' z') (hz : z ≤ z') (hN : ∀ m, ∃ p e, g z m = .out p e ∧ e ≠ 0) :
    ∀ (d a m : Nat), z - a ≤ d → a ≤ z → (∀ b k, a ≤ b → b < z → g' b k = g b k) → (run g z a m).2 = 0 → run g' z' a m = run g z a m
  | d, a, m, hd, ha, h, h0 => by
    by_cases hlt : a < z
    · cases e : g a m with
      | out p q => rw [run_out ha e, run_out (by omega) (by rw [h a m (Nat.le_refl _) hlt]; exact e)]
      | on n =>
        obtain ⟨h3, h4⟩ := hg a m n e
        have e' : g' a m = .on n := by rw [h a m (Nat.le_refl _) hlt]; exact e
        rw [run_on hg ha e] at h0 ⊢
        rw [run_on hg' (by omega) e']
        cases d with
        | zero => omega
        | succ d => exact run_well hg hg' hz hN d (a + n) (m + 1) (by omega) h4 (fun b k hb => h b k (by omega)) h0
    · obtain rfl : a = z := by omega
      obtain ⟨p, e, h1, h2⟩ := hN m
      rw [run_out ha h1] at h0
      exact absurd h0 h2

/-- Of a token that ends well: a line end behind the source turns nothing. -/
theorem end_first (a c : ByteArray) (hc : 0 < c.size) (h10 : by8 c 0 = 10) (i k : Nat) (hi : i < a.size) (hk : tkBgn a i = k) (hk0 : k ≠ 0) (h0 : k = 8 → (tkEnd a i k).2 = 0) : tkEnd (a ++ c) i k = tkEnd a i k := by
  have hz := size_app a c
  have hQ : ∀ q o, run (gQuo (a ++ c) i q o) (a ++ c).size (i + 1) 0 = run (gQuo a i q o) a.size (i + 1) 0 := fun q o =>
    run_same (gQuo_on a i q o) (gQuo_on (a ++ c) i q o) _ (i + 1) 0 (Nat.le_refl _) hi (by omega) (fun b m _ hb => quo_first a c hc h10 i q o b m hb)
  have hC : run (gCom (a ++ c) i false) (a ++ c).size i 0 = run (gCom a i false) a.size i 0 :=
    run_same (gCom_on a i false) (gCom_on (a ++ c) i false) _ i 0 (Nat.le_refl _) (by omega) (by omega) (fun b m _ hb => com_first a c hc h10 i false b m hb (fun h => by cases h))
  have hR : k = 1 ∨ k = 3 → run (gRow (a ++ c) i k) (a ++ c).size i 0 = run (gRow a i k) a.size i 0 := fun hk =>
    run_same (gRow_on a i k) (gRow_on (a ++ c) i k) _ i 0 (Nat.le_refl _) (by omega) (by omega) (fun b m _ hb => row_first a c hc h10 i k hk b m hb)
  have hkk : k = 1 ∨ k = 3 ∨ k = 4 ∨ k = 5 ∨ k = 6 ∨ k = 7 ∨ k = 8 := by
    rw [← hk] at hk0 ⊢
    unfold tkBgn at hk0 ⊢
    revert hk0
    repeat' split
    all_goals simp
  unfold tkEnd at h0 ⊢
  rcases hkk with rfl | rfl | rfl | rfl | rfl | rfl | rfl
  · exact hR (.inl rfl)
  · exact hR (.inr rfl)
  · exact hQ _ _
  · exact hQ _ _
  · show (i + (sg (a ++ c) i).size, 0) = (i + (sg a i).size, 0)
    rw [sg_first a c hc h10 i hi]
  · exact hC
  · exact run_well (gCom_on a i true) (gCom_on (a ++ c) i true) (by omega) (fun m => ⟨i, 101, by unfold gCom; rw [if_pos (Nat.le_refl _), if_pos rfl], by decide⟩) _ i 0 (Nat.le_refl _) (by omega)
      (fun b m _ hb => com_first a c hc h10 i true b m (by omega) (fun _ => hb)) (h0 rfl)

end Go.Proofs.YtnmjkgjhjnpijaaDoor

set_option linter.unusedVariables false
set_option linter.unusedSimpArgs false
namespace Go.Proofs.YtnmjkgjhjnpijaaDoor
open Go.RowKit

theorem trim_first (a c : ByteArray) : ∀ p, p ≤ a.size → tkTrim (a ++ c) p = tkTrim a p
  | 0, _ => rfl
  | p + 1, h => by
    unfold tkTrim
    rw [by8_first a c p (by omega), trim_first a c p (by omega)]

theorem tok_first (a c : ByteArray) (k i p f : Nat) (hp : p ≤ a.size) : tkTok (a ++ c) k i p f = tkTok a k i p f := by
  unfold tkTok
  rw [ext_first a c i p hp, trim_first a c p hp]

/-- What a source that is read has, a line end behind it: its tokens, and then what stands behind. -/
theorem fnd_first (a c : ByteArray) (hc : 0 < c.size) (h10 : by8 c 0 = 10) : ∀ (d i f : Nat), a.size - i ≤ d → i ≤ a.size → (fnd a i f).2.1 = 0 →
    ∃ f', fnd (a ++ c) i f = ((fnd a i f).1 ++ (fnd (a ++ c) a.size f').1, (fnd (a ++ c) a.size f').2)
  | d, i, f, hd, hi, h0 => by
    have hz := size_app a c
    by_cases h : i < a.size
    · cases d with
      | zero => omega
      | succ d =>
        rw [fnd_step a i f h] at h0 ⊢
        rw [fnd_step (a ++ c) i f (by omega), by8_first a c i h, bgn_first a c hc h10 i h]
        by_cases h1 : by8 a i = 10
        · rw [if_pos h1] at h0
          rw [if_pos h1, if_pos h1]
          exact fnd_first a c hc h10 d (i + 1) (f + 1) (by omega) h h0
        · rw [if_neg h1] at h0
          rw [if_neg h1, if_neg h1]
          by_cases h2 : tkBl (by8 a i) = true
          · rw [if_pos h2] at h0
            rw [if_pos h2, if_pos h2]
            exact fnd_first a c hc h10 d (i + 1) f (by omega) h h0
          · rw [if_neg h2] at h0
            rw [if_neg h2, if_neg h2]
            by_cases h3 : tkBgn a i = 0
            · rw [if_pos h3] at h0; cases h0
            · rw [if_neg h3] at h0
              rw [if_neg h3, if_neg h3]
              by_cases h4 : (tkEnd a i (tkBgn a i)).2 ≠ 0
              · rw [if_pos h4] at h0; exact absurd h0 h4
              · rw [if_neg h4] at h0
                have h5 := tkEnd_ok a i (tkBgn a i) (tkEnd a i (tkBgn a i)).1 h rfl h3 (Prod.ext rfl (by simpa using h4))
                rw [end_first a c hc h10 i _ h rfl h3 (fun _ => by simpa using h4), if_neg h4, if_neg h4]
                obtain ⟨f', h6⟩ := fnd_first a c hc h10 d (tkEnd a i (tkBgn a i)).1 0 (by omega) h5.2 h0
                refine ⟨f', ?_⟩
                rw [h6, tok_first a c _ i _ f h5.2]
                rfl
    · obtain rfl : i = a.size := by omega
      exact ⟨f, by rw [fnd_end a a.size f (Nat.le_refl _)]; rfl⟩

def lfB : ByteArray := ⟨#[10]⟩

/-- P10.2's theorem of the document's answer: of two sources with a line end between. -/
theorem scn_join (a b : ByteArray) (h : (scn a).2.1 = 0) : ∃ f, scn (a ++ (lfB ++ b)) = ((scn a).1 ++ (fnd b 0 f).1.map (Tk.up (a.size + 1)), (fnd b 0 f).2.1, if (fnd b 0 f).2.1 = 0 then 0 else a.size + 1 + (fnd b 0 f).2.2) := by
  have hz := size_app lfB b
  have hl : lfB.size = 1 := rfl
  have h10 : by8 (lfB ++ b) 0 = 10 := by rw [by8_app, if_pos (by decide)]; rfl
  obtain ⟨f', h1⟩ := fnd_first a (lfB ++ b) (by omega) h10 _ 0 0 (Nat.le_refl _) (Nat.zero_le _) h
  have h2 := fnd_second a (lfB ++ b) _ 0 f' (Nat.le_refl _)
  rw [Nat.add_zero] at h2
  have h3 : fnd (lfB ++ b) 0 f' = fnd (lfB ++ b) (lfB.size + 0) (f' + 1) := by rw [fnd_step _ 0 f' (by omega), if_pos h10]; rfl
  have h4 := fnd_second lfB b _ 0 (f' + 1) (Nat.le_refl _)
  rw [h3, h4] at h2
  refine ⟨f' + 1, ?_⟩
  unfold scn at h ⊢
  rw [h1, h2]
  generalize fnd b 0 (f' + 1) = r
  obtain ⟨ts, e, p⟩ := r
  refine Prod.ext ?_ (Prod.ext rfl ?_)
  · show _ ++ List.map _ (List.map _ ts) = _ ++ List.map _ ts
    rw [List.map_map]
    congr 1
    refine List.map_congr_left (fun t _ => ?_)
    show Tk.up a.size (Tk.up lfB.size t) = _
    unfold Tk.up
    rw [hl, Nat.add_assoc, Nat.add_assoc]
  · show (if e = 0 then 0 else a.size + if e = 0 then 0 else lfB.size + p) = if e = 0 then 0 else a.size + 1 + p
    by_cases he : e = 0
    · rw [if_pos he, if_pos he]
    · rw [if_neg he, if_neg he, if_neg he, hl, Nat.add_assoc]

end Go.Proofs.YtnmjkgjhjnpijaaDoor

set_option linter.unusedVariables false
set_option linter.unusedSimpArgs false
namespace Go.Proofs.YtnmjkgjhjnpijaaDoor
open Go.RowKit

/-- A loop that ends well ahead of a place ends so, too, where the rounds ahead of that place are the same. -/
theorem run_upto {g g' : Nat → Nat → Rd} {z z' y : Nat} (hg : GoesOn g z) (hg' : GoesOn g' z') (hy : y ≤ z') (hout : ∀ b m p, g b m = .out p 0 → b ≤ p) (h : ∀ b k, b < y → g' b k = g b k) (p : Nat) (hp : p < y) :
    ∀ (d a m : Nat), z - a ≤ d → a ≤ z → run g z a m = (p, 0) → a ≤ p ∧ run g' z' a m = (p, 0)
  | d, a, m, hd, ha, hr => by
    cases e : g a m with
    | out q r =>
      rw [run_out ha e] at hr
      cases hr
      have h1 := hout a m p e
      exact ⟨h1, run_out (by omega) (by rw [h a m (by omega)]; exact e)⟩
    | on n =>
      obtain ⟨h3, h4⟩ := hg a m n e
      rw [run_on hg ha e] at hr
      cases d with
      | zero => omega
      | succ d =>
        obtain ⟨h5, h6⟩ := run_upto hg hg' hy hout h p hp d (a + n) (m + 1) (by omega) h4 hr
        exact ⟨by omega, by rw [run_on hg' (by omega) (by rw [h a m (by omega)]; exact e)]; exact h6⟩

theorem row_out (s : ByteArray) (f k b m p : Nat) (h : gRow s f k b m = .out p 0) : b ≤ p := by
  unfold gRow at h
  repeat' split at h
  all_goals cases h
  all_goals exact Nat.le_refl _
theorem quo_out (s : ByteArray) (f q : Nat) (o : Bool) (b m p : Nat) (h : gQuo s f q o b m = .out p 0) : b ≤ p := by
  unfold gQuo at h
  repeat' split at h
  all_goals cases h
  all_goals omega
theorem com_out (s : ByteArray) (f : Nat) (o : Bool) (b m p : Nat) (h : gCom s f o b m = .out p 0) : b ≤ p := by
  unfold gCom at h
  repeat' split at h
  all_goals cases h
  all_goals omega

/-- A beginning, up to a place: characters ahead of it are read alike, behind it no token begins. -/
structure Bgs (b c : ByteArray) (y : Nat) : Prop where
  le : y ≤ b.size
  same : ∀ i, i < y → Utf8.decode (b ++ c) i = Utf8.decode b i
  none : ∀ i, y ≤ i → i < b.size → tkBgn b i = 0

theorem Bgs.chr {b c : ByteArray} {y : Nat} (h : Bgs b c y) (i : Nat) (hi : i < y) : gd (b ++ c) i = gd b i ∧ dp (b ++ c) i = dp b i ∧ dw (b ++ c) i = dw b i := by
  unfold gd dp dw
  rw [h.same i hi]
  exact ⟨rfl, rfl, rfl⟩

theorem Bgs.bgn {b c : ByteArray} {y : Nat} (h : Bgs b c y) (i : Nat) (hi : i < y) (h1 : i + 1 < b.size) : sg (b ++ c) i = sg b i ∧ tkBgn (b ++ c) i = tkBgn b i := by
  have hz := size_app b c
  have hs : sg (b ++ c) i = sg b i := by
    unfold sg
    rw [find_congr signL (fun x hx => ?_)]
    have hx2 : i + x.size ≤ b.size := by rcases sign_ten x hx with h | ⟨h, _⟩ <;> omega
    rw [pre_in (by omega), pre_in hx2, ext_first b c _ _ hx2]
  obtain ⟨g1, g2, g3⟩ := h.chr i hi
  refine ⟨hs, ?_⟩
  unfold tkBgn
  rw [g1, g2, by8_first b c i (by omega), by8_first b c (i + 1) h1, hs]
  have : (by8 b i = 47 ∧ i + 1 < (b ++ c).size ∧ by8 b (i + 1) = 47) ↔ (by8 b i = 47 ∧ i + 1 < b.size ∧ by8 b (i + 1) = 47) := by rw [hz]; constructor <;> rintro ⟨h1, h2, h3⟩ <;> exact ⟨h1, by omega, h3⟩
  simp only [this]

theorem Bgs.fin {b c : ByteArray} {y : Nat} (h : Bgs b c y) (i k p : Nat) (hi : i < y) (h1 : i + 1 < b.size) (hp : p < y) (he : tkEnd b i k = (p, 0)) : tkEnd (b ++ c) i k = (p, 0) := by
  have hz := size_app b c
  have hl := h.le
  have hQ : ∀ q o, run (gQuo b i q o) b.size (i + 1) 0 = (p, 0) → run (gQuo (b ++ c) i q o) (b ++ c).size (i + 1) 0 = (p, 0) := fun q o hr =>
    (run_upto (gQuo_on b i q o) (gQuo_on (b ++ c) i q o) (y := y) (by omega) (quo_out b i q o) (fun d m hd => by
      obtain ⟨g1, g2, g3⟩ := h.chr d hd
      unfold gQuo tkCtl
      rw [g1, g2, g3, by8_first b c d (by omega)]
      by_cases h2 : by8 b d = 10
      · rw [if_pos (.inr h2), if_pos (.inr h2)]
      · rw [if_neg (show ¬ ((b ++ c).size ≤ d ∨ by8 b d = 10) by omega), if_neg (show ¬ (b.size ≤ d ∨ by8 b d = 10) by omega)]) p hp _ (i + 1) 0 (Nat.le_refl _) (by omega) hr).2
  have hC : ∀ o, run (gCom b i o) b.size i 0 = (p, 0) → run (gCom (b ++ c) i o) (b ++ c).size i 0 = (p, 0) := fun o hr =>
    (run_upto (gCom_on b i o) (gCom_on (b ++ c) i o) (y := y) (by omega) (com_out b i o) (fun d m hd => by
      unfold gCom
      rw [if_neg (show ¬ (b ++ c).size ≤ d by omega), if_neg (show ¬ b.size ≤ d by omega), by8_first b c d (by omega)]) p hp _ i 0 (Nat.le_refl _) (by omega) hr).2
  have hR : run (gRow b i k) b.size i 0 = (p, 0) → run (gRow (b ++ c) i k) (b ++ c).size i 0 = (p, 0) := fun hr =>
    (run_upto (gRow_on b i k) (gRow_on (b ++ c) i k) (y := y) (by omega) (row_out b i k) (fun d m hd => by
      obtain ⟨g1, g2, g3⟩ := h.chr d hd
      unfold gRow
      rw [if_neg (show ¬ (b ++ c).size ≤ d by omega), if_neg (show ¬ b.size ≤ d by omega), g1, g2, g3, by8_first b c d (by omega)]) p hp _ i 0 (Nat.le_refl _) (by omega) hr).2
  unfold tkEnd at he ⊢
  rw [(h.bgn i hi h1).1]
  by_cases k4 : k = 4
  · rw [if_pos k4] at he ⊢; exact hQ _ _ he
  · rw [if_neg k4] at he ⊢
    by_cases k5 : k = 5
    · rw [if_pos k5] at he ⊢; exact hQ _ _ he
    · rw [if_neg k5] at he ⊢
      by_cases k7 : k = 7
      · rw [if_pos k7] at he ⊢; exact hC _ he
      · rw [if_neg k7] at he ⊢
        by_cases k8 : k = 8
        · rw [if_pos k8] at he ⊢; exact hC _ he
        · rw [if_neg k8] at he ⊢
          by_cases k6 : k = 6
          · rw [if_pos k6] at he ⊢; exact he
          · rw [if_neg k6] at he ⊢; exact hR he

/-- Each token begins where one begins. -/
theorem fnd_bgn (s : ByteArray) : ∀ (d a f : Nat), s.size - a ≤ d → ∀ t ∈ (fnd s a f).1, tkBgn s t.a ≠ 0
  | d, a, f, hd, t, ht => by
    by_cases h : a < s.size
    · rw [fnd_step s a f h] at ht
      cases d with
      | zero => omega
      | succ d =>
        by_cases h1 : by8 s a = 10
        · rw [if_pos h1] at ht; exact fnd_bgn s d (a + 1) (f + 1) (by omega) t ht
        · rw [if_neg h1] at ht
          by_cases h2 : tkBl (by8 s a) = true
          · rw [if_pos h2] at ht; exact fnd_bgn s d (a + 1) f (by omega) t ht
          · rw [if_neg h2] at ht
            by_cases h3 : tkBgn s a = 0
            · rw [if_pos h3] at ht; cases ht
            · rw [if_neg h3] at ht
              by_cases h4 : (tkEnd s a (tkBgn s a)).2 ≠ 0
              · rw [if_pos h4] at ht; cases ht
              · rw [if_neg h4] at ht
                have h5 := tkEnd_ok s a (tkBgn s a) (tkEnd s a (tkBgn s a)).1 h rfl h3 (Prod.ext rfl (by simpa using h4))
                rcases List.mem_cons.1 ht with rfl | ht
                · exact h3
                · exact fnd_bgn s d _ 0 (by omega) t ht
    · rw [fnd_end s a f (by omega)] at ht; cases ht

/-- P10.3's theorem of what Find answers: all tokens of a beginning but the last one are the whole's first ones. -/
theorem fnd_begins {b c : ByteArray} {y : Nat} (h : Bgs b c y) : ∀ (d i f : Nat), b.size - i ≤ d → (fnd b i f).2.1 = 0 → ∃ r, (fnd (b ++ c) i f).1 = (fnd b i f).1.dropLast ++ r
  | d, i, f, hd, h0 => by
    have hz := size_app b c
    have hl := h.le
    by_cases hi : i < b.size
    · cases d with
      | zero => omega
      | succ d =>
        have hS := fnd_step (b ++ c) i f (by omega)
        rw [by8_first b c i hi] at hS
        rw [fnd_step b i f hi] at h0 ⊢
        by_cases h1 : by8 b i = 10
        · rw [if_pos h1] at h0 hS ⊢
          rw [hS]; exact fnd_begins h d (i + 1) (f + 1) (by omega) h0
        · rw [if_neg h1] at h0 hS ⊢
          by_cases h2 : tkBl (by8 b i) = true
          · rw [if_pos h2] at h0 hS ⊢
            rw [hS]; exact fnd_begins h d (i + 1) f (by omega) h0
          · rw [if_neg h2] at h0 hS ⊢
            by_cases h3 : tkBgn b i = 0
            · rw [if_pos h3] at h0; cases h0
            · rw [if_neg h3] at h0 ⊢
              by_cases h4 : (tkEnd b i (tkBgn b i)).2 ≠ 0
              · rw [if_pos h4] at h0; exact absurd h0 h4
              · rw [if_neg h4] at h0 ⊢
                obtain ⟨p, hp⟩ : ∃ p, tkEnd b i (tkBgn b i) = (p, 0) := ⟨_, Prod.ext rfl (by simpa using h4)⟩
                have h5 := tkEnd_ok b i (tkBgn b i) p hi rfl h3 hp
                rw [hp] at h0 ⊢
                cases hr : (fnd b p 0).1 with
                | nil => exact ⟨(fnd (b ++ c) i f).1, rfl⟩
                | cons t l =>
                  have ht : t ∈ (fnd b p 0).1 := by rw [hr]; exact List.mem_cons_self ..
                  have h6 := fnd_toks b _ p 0 (Nat.le_refl _) t ht
                  have h7 := fnd_bgn b _ p 0 (Nat.le_refl _) t ht
                  have h8 : t.a < y := by
                    rcases Nat.lt_or_ge t.a y with h | h9
                    · exact h
                    · exact absurd (h.none t.a h9 (by omega)) h7
                  obtain ⟨r, h9⟩ := fnd_begins h d p 0 (by omega) h0
                  rw [(h.bgn i (by omega) (by omega)).2, if_neg h3, h.fin i _ p (by omega) (by omega) (by omega) hp, if_neg (by simp)] at hS
                  refine ⟨r, ?_⟩
                  rw [hS]
                  show tkTok (b ++ c) (tkBgn b i) i p f :: (fnd (b ++ c) p 0).1 = List.dropLast (tkTok b (tkBgn b i) i p f :: t :: l) ++ r
                  rw [h9, hr, tok_first b c _ i p f h5.2]
                  rfl
    · rw [fnd_end b i f (by omega)]
      exact ⟨_, rfl⟩

end Go.Proofs.YtnmjkgjhjnpijaaDoor

set_option linter.unusedVariables false
set_option linter.unusedSimpArgs false
namespace Go.Proofs.YtnmjkgjhjnpijaaDoor
open Go.RowKit

theorem sign_low8 : ∀ x ∈ signL, by8 x 0 < 128 := by decide

/-- A byte of a character that is cut begins nothing. -/
theorem bgn_none (b : ByteArray) (i : Nat) (h8 : 128 ≤ by8 b i) (hg : gd b i = false) : tkBgn b i = 0 := by
  have hs : (sg b i).size = 0 := by
    by_cases h : (sg b i).size = 0
    · exact h
    · obtain ⟨h1, h2, h3⟩ := sg_in b i h
      have h4 := sign_low8 _ h3
      have h5 : by8 (sg b i) 0 = by8 b i := by rw [← h2, by8_ext' _ _ _ _ (by omega), Nat.add_zero]
      omega
  have hd : tkDg (by8 b i) = false := by unfold tkDg; simp; omega
  unfold tkBgn
  rw [hg, hd, if_neg (by simp), if_neg (by decide), if_neg (by omega), if_neg (by omega), if_neg (by omega), if_neg (by omega), if_neg (by omega)]

/-- The bytes of a text that a character may go on from. -/
theorem opn_bytes (t : ByteArray) (h0 : 0 < t.size) (h : opn t = true) : gd t 0 = false ∧ 128 ≤ by8 t 0 ∧ ∀ j, 1 ≤ j → j < t.size → by8 t j / 64 = 2 := by
  have hx : ∃ x, gd (t ++ x) 0 = true ∧ t.size < dw (t ++ x) 0 := by
    unfold opn at h
    rw [Bool.or_eq_true] at h
    rcases h with h | h <;> (unfold goB at h; rw [Bool.and_eq_true] at h; exact ⟨_, h.1, of_decide_eq_true h.2⟩)
  obtain ⟨x, h1, h2⟩ := hx
  have hob : ∀ j, j < t.size → ob (t ++ x) j = ob t j := fun j hj => by rw [ob_app, if_pos hj]
  have hct : ∀ j, j < t.size → ct (ob (t ++ x) j) = true → by8 t j / 64 = 2 := fun j hj hc => by
    rw [hob j hj] at hc
    unfold ob at hc
    rw [if_pos hj] at hc
    simpa [ct] using hc
  have hb0 : by8 (t ++ x) 0 = by8 t 0 := by rw [by8_app, if_pos h0]
  have hD : Utf8.decode (t ++ x) 0 = D (by8 t 0) (ob (t ++ x) 1) (ob (t ++ x) 2) (ob (t ++ x) 3) := by rw [decode_eq, hb0]
  refine ⟨?_, ?_⟩
  · cases hg : gd t 0 with
    | false => rfl
    | true =>
      have h3 := (gd_iff t 0).1 hg
      rw [decode_eq] at h3
      have hn : ∀ j, ob t j = ob (t ++ x) j ∨ ob t j = none := fun j => by
        by_cases hj : j < t.size
        · exact .inl (hob j hj).symm
        · right; unfold ob; rw [if_neg hj]
      have h4 := D_more (by8 t 0) (hn 1) (hn 2) (hn 3) h3
      have h5 := (dw_facts t 0 h0).2.2
      have h6 : dw (t ++ x) 0 = dw t 0 := by unfold dw; rw [hD, decode_eq t 0]; exact congrArg Prod.snd h4
      omega
  · have h3 : dw (t ++ x) 0 = (D (by8 t 0) (ob (t ++ x) 1) (ob (t ++ x) 2) (ob (t ++ x) 3)).2 := by unfold dw; rw [hD]
    have h4 := D_le4 (by8 t 0) (ob (t ++ x) 1) (ob (t ++ x) 2) (ob (t ++ x) 3)
    rcases one3 (dw (t ++ x) 0) (by omega) (by omega) with e | e | e
    · have h5 := (D_w2 _ _ _ _).1 (h3.symm.trans e)
      exact ⟨by omega, fun j hj1 hj => by omega⟩
    · have h5 := (D_w3 _ _ _ _).1 (h3.symm.trans e)
      refine ⟨by omega, fun j hj1 hj => ?_⟩
      obtain rfl : j = 1 := by omega
      exact hct 1 hj h5.2.1
    · have h5 := (D_w4 _ _ _ _).1 (h3.symm.trans e)
      refine ⟨by omega, fun j hj1 hj => ?_⟩
      rcases (show j = 1 ∨ j = 2 by omega) with rfl | rfl
      · exact hct 1 hj h5.2.1
      · exact hct 2 hj h5.2.2.1

theorem bgs_wh (b c : ByteArray) : Bgs b c (wh b) := by
  refine ⟨(wh_bd b).1, fun i hi => ?_, fun i h1 h2 => ?_⟩
  · have e : b ++ ByteArray.empty = b := by8_ext _ _ (by rw [size_app]; rfl) (fun j hj => by rw [size_app] at hj; rw [by8_app, if_pos (by simpa using hj)])
    have h1 := dec_whole b ByteArray.empty i hi
    rw [e] at h1
    rw [dec_whole b c i hi, h1]
  · rcases wh_facts b with ⟨h3, _⟩ | ⟨m, m1, m3, mz, h3, h4⟩
    · omega
    · have hz := size_ext b (b.size - m) b.size (Nat.le_refl _)
      obtain ⟨o1, o2, o3⟩ := opn_bytes _ (by omega) h4
      have h5 : ∀ j, j < m → by8 (b.extract (b.size - m) b.size) j = by8 b (b.size - m + j) := fun j hj => by8_ext' _ _ _ _ (by omega)
      obtain ⟨j, rfl⟩ : ∃ j, i = b.size - m + j := ⟨i - (b.size - m), by omega⟩
      cases j with
      | zero =>
        rw [h5 0 (by omega)] at o2
        refine bgn_none b _ o2 ?_
        have h6 : gd (b.extract (b.size - m) b.size) 0 = gd b (b.size - m + 0) := by unfold gd dp dw; rw [decode_tail b (b.size - m) 0 (by omega)]
        rw [← h6]; exact o1
      | succ j =>
        have h6 := o3 (j + 1) (by omega) (by omega)
        rw [h5 (j + 1) (by omega)] at h6
        refine bgn_none b _ (by omega) ?_
        cases hg : gd b (b.size - m + (j + 1)) with
        | false => rfl
        | true =>
          have h7 := (gd_iff b _).1 hg
          rw [decode_eq, D_bad _ _ _ _ h6] at h7
          exact absurd h7 not_gD

/-- P10.3's theorem of what Find answers, of any beginning. -/
theorem scn_begins (b c : ByteArray) (h : (scn b).2.1 = 0) : ∃ r, (scn (b ++ c)).1 = (scn b).1.dropLast ++ r :=
  fnd_begins (bgs_wh b c) _ 0 0 (Nat.le_refl _) h

end Go.Proofs.YtnmjkgjhjnpijaaDoor
