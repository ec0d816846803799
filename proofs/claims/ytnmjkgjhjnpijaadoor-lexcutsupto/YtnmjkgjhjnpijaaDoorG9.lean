import Derived.Test.YtnmjkgjhjnpijaaDoorG8
import Derived.Test.YtnmjkgjhjnpijaaDoorG5
set_option linter.unusedVariables false
set_option linter.unusedSimpArgs false
namespace Go.Proofs.YtnmjkgjhjnpijaaDoor
open Go.RowKit

/-! What is sure of a whole beginning (layer 11; none of a dump). -/
/-- A loop whose end is met ahead of a place ends so, too, where the rounds ahead of that place are the same. -/
theorem run_ahead {g g' : Nat → Nat → Rd} {z z' y : Nat} (hg : GoesOn g z) (hg' : GoesOn g' z') (hy : z ≤ z') (h : ∀ b k, b < y → g' b k = g b k) (I : Nat → Prop) (p e : Nat)
    (hI : ∀ b m n, I b → g b m = .on n → b < y ∧ I (b + n)) (hO : ∀ b m, I b → g b m = .out p e → b < y) :
    ∀ (d a m : Nat), z - a ≤ d → a ≤ z → I a → run g z a m = (p, e) → run g' z' a m = (p, e)
  | d, a, m, hd, ha, hi, hr => by
    cases e' : g a m with
    | out q r =>
      rw [run_out ha e'] at hr
      cases hr
      exact run_out (by omega) (by rw [h a m (hO a m hi e')]; exact e')
    | on n =>
      obtain ⟨h3, h4⟩ := hg a m n e'
      obtain ⟨h5, h6⟩ := hI a m n hi e'
      rw [run_on hg ha e'] at hr
      cases d with
      | zero => omega
      | succ d =>
        rw [run_on hg' (by omega) (by rw [h a m h5]; exact e')]
        exact run_ahead hg hg' hy h I p e hI hO d (a + n) (m + 1) (by omega) h4 h6 hr

theorem quo_same {b c : ByteArray} (h : Bgs b c b.size) (f q : Nat) (o : Bool) (d m : Nat) (hd : d < b.size) : gQuo (b ++ c) f q o d m = gQuo b f q o d m := by
  have hz := size_app b c
  obtain ⟨g1, g2, g3⟩ := h.chr d hd
  unfold gQuo tkCtl
  rw [g1, g2, g3, by8_first b c d (by omega)]
  by_cases h2 : by8 b d = 10
  · rw [if_pos (.inr h2), if_pos (.inr h2)]
  · rw [if_neg (show ¬ ((b ++ c).size ≤ d ∨ by8 b d = 10) by omega), if_neg (show ¬ (b.size ≤ d ∨ by8 b d = 10) by omega)]
theorem com_same (b c : ByteArray) (f : Nat) (o : Bool) (d m : Nat) (hd : d < b.size) : gCom (b ++ c) f o d m = gCom b f o d m := by
  have hz := size_app b c
  unfold gCom
  rw [if_neg (show ¬ (b ++ c).size ≤ d by omega), if_neg (show ¬ b.size ≤ d by omega), by8_first b c d (by omega)]
theorem row_same {b c : ByteArray} (h : Bgs b c b.size) (f k : Nat) (d m : Nat) (hd : d < b.size) : gRow (b ++ c) f k d m = gRow b f k d m := by
  have hz := size_app b c
  obtain ⟨g1, g2, g3⟩ := h.chr d hd
  unfold gRow
  rw [if_neg (show ¬ (b ++ c).size ≤ d by omega), if_neg (show ¬ b.size ≤ d by omega), g1, g2, g3, by8_first b c d (by omega)]

theorem quo_on_lt {b : ByteArray} {f q : Nat} {o : Bool} {d m n : Nat} (h : gQuo b f q o d m = .on n) : d < b.size ∧ by8 b d ≠ 10 ∧ n = dw b d := by
  unfold gQuo at h
  split at h
  · cases h
  · rename_i h1
    split at h
    · cases h
    · split at h
      · cases h
      · split at h
        · cases h
        · cases h; exact ⟨by omega, by omega, rfl⟩
theorem com_on_lt {b : ByteArray} {f : Nat} {o : Bool} {d m n : Nat} (h : gCom b f o d m = .on n) : d < b.size := by
  unfold gCom at h
  split at h
  · split at h <;> cases h
  · omega
theorem row_on_lt {b : ByteArray} {f k : Nat} {d m n : Nat} (h : gRow b f k d m = .on n) : d < b.size := by
  unfold gRow at h
  split at h
  · cases h
  · omega

/-- A text or char that ends, or in which something is wrong that is met ahead of the end. -/
theorem quo_sure {b c : ByteArray} (h : Bgs b c b.size) (f q : Nat) (o : Bool) (p e : Nat) (hf : f < b.size) (h10 : by8 b f ≠ 10) (he : e ≠ 101 ∨ ∃ j, f ≤ j ∧ j < b.size ∧ by8 b j = 10)
    (hr : run (gQuo b f q o) b.size (f + 1) 0 = (p, e)) : run (gQuo (b ++ c) f q o) (b ++ c).size (f + 1) 0 = (p, e) := by
  have hz := size_app b c
  refine run_ahead (gQuo_on b f q o) (gQuo_on (b ++ c) f q o) (y := b.size) (by omega) (fun d k hd => quo_same h f q o d k hd) (fun d => f < d ∧ ∀ j, f ≤ j → j < d → by8 b j ≠ 10) p e ?_ ?_ _ (f + 1) 0 (Nat.le_refl _) (by omega) ⟨by omega, fun j j1 j2 => by rw [show j = f by omega]; exact h10⟩ hr
  · rintro d m n ⟨hd, hI⟩ hx
    obtain ⟨h1, h2, rfl⟩ := quo_on_lt hx
    refine ⟨h1, by omega, fun j j1 j2 => ?_⟩
    rcases Nat.lt_or_ge j d with h3 | h3
    · exact hI j j1 h3
    · by_cases h4 : j = d
      · rw [h4]; exact h2
      · have := (dec_inner b d (j - d) (by omega) (by omega)).2
        rw [show d + (j - d) = j by omega] at this
        omega
  · rintro d m ⟨hd, hI⟩ hx
    apply Classical.byContradiction
    intro hn
    unfold gQuo at hx
    rw [if_pos (.inl (by omega))] at hx
    cases hx
    rcases he with he | ⟨j, j1, j2, j3⟩
    · exact he rfl
    · exact hI j j1 (by omega) j3
theorem com_sure (b c : ByteArray) (f : Nat) (o : Bool) (p e : Nat) (hf : f < b.size) (he : e = 103 ∨ (e = 0 ∧ (o = true ∨ p < b.size))) (hr : run (gCom b f o) b.size f 0 = (p, e)) : run (gCom (b ++ c) f o) (b ++ c).size f 0 = (p, e) := by
  have hz := size_app b c
  refine run_ahead (gCom_on b f o) (gCom_on (b ++ c) f o) (y := b.size) (by omega) (fun d k hd => com_same b c f o d k hd) (fun d => True) p e (fun d m n _ hx => ⟨com_on_lt hx, trivial⟩) ?_ _ f 0 (Nat.le_refl _) (by omega) trivial hr
  intro d m _ hx
  apply Classical.byContradiction
  intro hn
  unfold gCom at hx
  rw [if_pos (by omega)] at hx
  by_cases ho : o = true
  · rw [if_pos ho] at hx
    cases hx
    rcases he with he | ⟨he, _⟩
    · cases he
    · cases he
  · rw [if_neg ho] at hx
    cases hx
    rcases he with he | ⟨_, he | he⟩
    · cases he
    · exact ho he
    · omega
theorem row_sure {b c : ByteArray} (h : Bgs b c b.size) (f k : Nat) (p e : Nat) (hf : f < b.size) (he : e = 103 ∨ p < b.size) (hr : run (gRow b f k) b.size f 0 = (p, e)) : run (gRow (b ++ c) f k) (b ++ c).size f 0 = (p, e) := by
  have hz := size_app b c
  refine run_ahead (gRow_on b f k) (gRow_on (b ++ c) f k) (y := b.size) (by omega) (fun d m hd => row_same h f k d m hd) (fun d => True) p e (fun d m n _ hx => ⟨row_on_lt hx, trivial⟩) ?_ _ f 0 (Nat.le_refl _) (by omega) trivial hr
  intro d m _ hx
  apply Classical.byContradiction
  intro hn
  unfold gRow at hx
  rw [if_pos (by omega)] at hx
  cases hx
  rcases he with he | he
  · cases he
  · omega

theorem sign_one : ∀ x ∈ signL, ∃ y ∈ signL, y.size = 1 ∧ by8 y 0 = by8 x 0 := by decide
/-- Where no sign stands none comes to stand. -/
theorem sg_none (b c : ByteArray) (i : Nat) (hi : i < b.size) (h : (sg b i).size = 0) : (sg (b ++ c) i).size = 0 := by
  apply Classical.byContradiction
  intro hne
  obtain ⟨g1, g2, g3⟩ := sg_in (b ++ c) i hne
  obtain ⟨y, y1, y2, y3⟩ := sign_one _ g3
  have hz : 0 < (sg (b ++ c) i).size := by omega
  have e1 : by8 y 0 = by8 b i := by
    rw [y3, ← g2, by8_ext' (b ++ c) i _ 0 (by omega), Nat.add_zero, by8_first b c i hi]
  have hp : pre b i y = true := by
    unfold pre
    refine decide_eq_true ⟨by omega, ?_⟩
    refine by8_ext _ _ (by rw [size_ext b i _ (by omega)]; omega) (fun j hj => ?_)
    rw [size_ext b i _ (by omega)] at hj
    obtain rfl : j = 0 := by omega
    rw [by8_ext' b i _ 0 (by omega), Nat.add_zero, e1]
  have : (signL.find? (pre b i)).isSome = true := List.find?_isSome.2 ⟨y, y1, hp⟩
  obtain ⟨x, hx⟩ := Option.isSome_iff_exists.1 this
  have hxm := List.mem_of_find?_eq_some hx
  unfold sg at h
  rw [hx] at h
  have h9 : x.size = 0 := h
  rcases sign_ten x hxm with h8 | ⟨h8, _⟩ <;> omega

/-- What begins at a place of whole bytes: the same, whatever comes, but for what a sign at the end may become. -/
theorem bgn_sure {b c : ByteArray} (h : Bgs b c b.size) (i : Nat) (hi : i < b.size) (hk : i + 1 < b.size ∨ (tkBgn b i ≠ 6 ∧ tkBgn b i ≠ 7)) : tkBgn (b ++ c) i = tkBgn b i := by
  by_cases h1 : i + 1 < b.size
  · exact (h.bgn i hi h1).2
  · rcases hk with hk | ⟨hk6, hk7⟩
    · exact absurd hk h1
    · obtain ⟨g1, g2, g3⟩ := h.chr i hi
      unfold tkBgn at hk6 hk7 ⊢
      rw [g1, g2, by8_first b c i hi]
      by_cases c1 : (gd b i && lt' (dp b i)) = true
      · rw [if_pos c1, if_pos c1]
      · rw [if_neg c1] at hk6 hk7 ⊢
        rw [if_neg c1]
        by_cases c2 : tkDg (by8 b i) = true
        · rw [if_pos c2, if_pos c2]
        · rw [if_neg c2] at hk6 hk7 ⊢
          rw [if_neg c2]
          by_cases c3 : by8 b i = 34
          · rw [if_pos c3, if_pos c3]
          · rw [if_neg c3] at hk6 hk7 ⊢
            rw [if_neg c3]
            by_cases c4 : by8 b i = 39
            · rw [if_pos c4, if_pos c4]
            · rw [if_neg c4] at hk6 hk7 ⊢
              rw [if_neg c4]
              have c5 : ¬ (by8 b i = 47 ∧ i + 1 < b.size ∧ by8 b (i + 1) = 47) := fun h => h1 h.2.1
              rw [if_neg c5] at hk6 hk7 ⊢
              by_cases c6 : by8 b i = 123
              · rw [if_neg (fun h => by omega), if_pos c6, if_pos c6]
              · rw [if_neg c6] at hk6 hk7 ⊢
                have c7 : ¬ (sg b i).size ≠ 0 := fun h => hk6 (if_pos h)
                rw [if_neg c7]
                have c8 : by8 b i ≠ 47 := by
                  intro h47
                  apply c7
                  have hp : pre b i ⟨#[47]⟩ = true := by
                    unfold pre
                    refine decide_eq_true ⟨by show i + 1 ≤ _; omega, ?_⟩
                    refine by8_ext _ _ (by rw [size_ext b i _ (by show i + 1 ≤ _; omega)]; show i + 1 - i = 1; omega) (fun j hj => ?_)
                    rw [size_ext b i _ (by show i + 1 ≤ _; omega)] at hj
                    have hj' : j < i + 1 - i := hj
                    obtain rfl : j = 0 := by omega
                    rw [by8_ext' b i _ 0 (by show i + 0 < i + 1; omega), Nat.add_zero, h47]
                    rfl
                  have : (signL.find? (pre b i)).isSome = true := List.find?_isSome.2 ⟨_, by unfold signL; repeat (first | exact List.mem_cons_self .. | apply List.mem_cons_of_mem), hp⟩
                  obtain ⟨x, hx⟩ := Option.isSome_iff_exists.1 this
                  have hxm := List.mem_of_find?_eq_some hx
                  unfold sg
                  rw [hx]
                  show x.size ≠ 0
                  rcases sign_ten x hxm with h8 | ⟨h8, _⟩ <;> omega
                rw [if_neg (fun h => c8 h.1), if_neg c6, if_neg (by rw [sg_none b c i hi (by omega)]; simp)]

end Go.Proofs.YtnmjkgjhjnpijaaDoor

set_option linter.unusedVariables false
set_option linter.unusedSimpArgs false
namespace Go.Proofs.YtnmjkgjhjnpijaaDoor
open Go.RowKit

/-- A line end stands at a place or behind it. -/
def lfAt (s : ByteArray) (a : Nat) : Prop := ∃ j, a ≤ j ∧ j < s.size ∧ by8 s j = 10
/-- What is wrong is met at the end alone. -/
def Early (s : ByteArray) (e a : Nat) : Prop := e = 101 ∧ (by8 s a = 123 ∨ ¬ lfAt s a)
/-- The last token of whole bytes is sure. -/
def sureK (s : ByteArray) (t : Tk) : Prop := t.k = 4 ∨ t.k = 5 ∨ t.k = 8 ∨ (t.k = 7 ∧ lfAt s t.e) ∨ (t.k ≠ 7 ∧ t.e < s.size)

theorem com_err (b : ByteArray) (f : Nat) (o : Bool) (p e : Nat) (hf : f ≤ b.size) (hr : run (gCom b f o) b.size f 0 = (p, e)) : e = 0 ∨ e = 103 ∨ (e = 101 ∧ o = true) := by
  have := run_ind (gCom_on b f o) (fun _ _ => True) (fun r => r.2 = 0 ∨ r.2 = 103 ∨ (r.2 = 101 ∧ o = true)) (by
    intro b' m' x e hb' hI hx
    unfold gCom at hx
    split at hx
    · by_cases ho : o = true
      · rw [if_pos ho] at hx; cases hx; exact .inr (.inr ⟨rfl, ho⟩)
      · rw [if_neg ho] at hx; cases hx; exact .inl rfl
    · split at hx
      · cases hx; exact .inl rfl
      · split at hx
        · cases hx; exact .inr (.inl rfl)
        · split at hx
          · cases hx; exact .inl rfl
          · cases hx) (by intros; trivial) _ f 0 (Nat.le_refl _) hf trivial
  rw [hr] at this
  exact this
theorem row_err (b : ByteArray) (f k : Nat) (p e : Nat) (hf : f ≤ b.size) (hr : run (gRow b f k) b.size f 0 = (p, e)) : e = 0 ∨ e = 103 := by
  have := run_ind (gRow_on b f k) (fun _ _ => True) (fun r => r.2 = 0 ∨ r.2 = 103) (by
    intro b' m' x e hb' hI hx
    unfold gRow at hx
    split at hx
    · cases hx; exact .inl rfl
    · split at hx
      · cases hx; exact .inl rfl
      · split at hx
        · cases hx; exact .inr rfl
        · cases hx) (by intros; trivial) _ f 0 (Nat.le_refl _) hf trivial
  rw [hr] at this
  exact this
theorem bgn_byte (b : ByteArray) (i : Nat) : (tkBgn b i = 4 → by8 b i = 34) ∧ (tkBgn b i = 5 → by8 b i = 39) ∧ (tkBgn b i = 8 → by8 b i = 123) ∧ (tkBgn b i = 7 → i + 1 < b.size) := by
  unfold tkBgn
  repeat' split
  all_goals (refine ⟨fun h => ?_, fun h => ?_, fun h => ?_, fun h => ?_⟩ <;> first | (cases h; done) | assumption | (rename_i h1; exact h1.2.1))

/-- A token that is sure ends so, whatever comes. -/
theorem tok_sure {b c : ByteArray} (h : Bgs b c b.size) (i p : Nat) (hi : i < b.size) (h3 : tkBgn b i ≠ 0) (hp : tkEnd b i (tkBgn b i) = (p, 0)) (hs : p < b.size ∨ tkBgn b i = 4 ∨ tkBgn b i = 5 ∨ tkBgn b i = 8) :
    tkBgn (b ++ c) i = tkBgn b i ∧ tkEnd (b ++ c) i (tkBgn b i) = (p, 0) := by
  have h5 := tkEnd_ok b i (tkBgn b i) p hi rfl h3 hp
  rcases hs with hs | hs
  · exact ⟨(h.bgn i hi (by omega)).2, h.fin i _ p hi (by omega) hs hp⟩
  · obtain ⟨e4, e5, e8, e7⟩ := bgn_byte b i
    refine ⟨bgn_sure h i hi (.inr (by omega)), ?_⟩
    rcases hs with hs | hs | hs
    · have := e4 hs
      rw [hs] at hp ⊢
      unfold tkEnd at hp ⊢
      rw [if_pos rfl] at hp ⊢
      exact quo_sure h i 34 false p 0 hi (by omega) (.inl (by decide)) hp
    · have := e5 hs
      rw [hs] at hp ⊢
      unfold tkEnd at hp ⊢
      rw [if_neg (by decide), if_pos rfl] at hp ⊢
      exact quo_sure h i 39 true p 0 hi (by omega) (.inl (by decide)) hp
    · rw [hs] at hp ⊢
      unfold tkEnd at hp ⊢
      rw [if_neg (by decide), if_neg (by decide), if_neg (by decide), if_pos rfl] at hp ⊢
      exact com_sure b c i true p 0 hi (.inr ⟨rfl, .inl rfl⟩) hp

/-- What is wrong and met ahead of the end is so, whatever comes. -/
theorem err_sure {b c : ByteArray} (h : Bgs b c b.size) (i q e : Nat) (hi : i < b.size) (h3 : tkBgn b i ≠ 0) (hp : tkEnd b i (tkBgn b i) = (q, e)) (he : e ≠ 0) (hn : ¬ Early b e q) :
    tkBgn (b ++ c) i = tkBgn b i ∧ tkEnd (b ++ c) i (tkBgn b i) = (q, e) := by
  obtain ⟨e4, e5, e8, e7⟩ := bgn_byte b i
  have hq := end_err (p := q) (e := e) hi hp he
  obtain ⟨k, hk⟩ : ∃ k, tkBgn b i = k := ⟨_, rfl⟩
  rw [hk] at hp e4 e5 e8 e7 h3 ⊢
  have hk6 : k ≠ 6 := by
    intro e
    rw [e] at hp
    unfold tkEnd at hp
    rw [if_neg (by decide), if_neg (by decide), if_neg (by decide), if_neg (by decide), if_pos rfl] at hp
    cases hp
    exact he rfl
  refine ⟨by rw [← hk]; exact bgn_sure h i hi (by
    by_cases h7 : k = 7
    · exact .inl (e7 h7)
    · exact .inr (by rw [hk]; exact ⟨hk6, h7⟩)), ?_⟩
  have hQ : by8 b i ≠ 10 → by8 b i ≠ 123 → e ≠ 101 ∨ ∃ j, i ≤ j ∧ j < b.size ∧ by8 b j = 10 := by
    intro _ h123
    by_cases h1 : e = 101
    · right
      have hqi : q = i := by
        rcases hq with ⟨h9, _⟩ | ⟨h9, _⟩
        · exact h9
        · omega
      apply Classical.byContradiction
      intro h2
      exact hn ⟨h1, .inr (by rw [hqi]; exact h2)⟩
    · exact .inl h1
  unfold tkEnd at hp ⊢
  by_cases k4 : k = 4
  · have := e4 k4
    rw [if_pos k4] at hp ⊢
    exact quo_sure h i 34 false q e hi (by omega) (hQ (by omega) (by omega)) hp
  · rw [if_neg k4] at hp ⊢
    by_cases k5 : k = 5
    · have := e5 k5
      rw [if_pos k5] at hp ⊢
      exact quo_sure h i 39 true q e hi (by omega) (hQ (by omega) (by omega)) hp
    · rw [if_neg k5] at hp ⊢
      by_cases k7 : k = 7
      · rw [if_pos k7] at hp ⊢
        rcases com_err b i false q e (by omega) hp with h1 | h1 | ⟨_, h1⟩
        · exact absurd h1 he
        · exact com_sure b c i false q e hi (.inl h1) hp
        · cases h1
      · rw [if_neg k7] at hp ⊢
        by_cases k8 : k = 8
        · rw [if_pos k8] at hp ⊢
          rcases com_err b i true q e (by omega) hp with h1 | h1 | ⟨h1, _⟩
          · exact absurd h1 he
          · exact com_sure b c i true q e hi (.inl h1) hp
          · exfalso
            have hqi : q = i := by
              rcases hq with ⟨h9, _⟩ | ⟨h9, _⟩
              · exact h9
              · omega
            exact hn ⟨h1, .inl (by rw [hqi]; exact e8 k8)⟩
        · rw [if_neg k8] at hp ⊢
          rw [if_neg hk6] at hp ⊢
          rcases row_err b i k q e (by omega) hp with h1 | h1
          · exact absurd h1 he
          · exact row_sure h i k q e hi (.inl h1) hp

/-- A line comment that ends with its source has no line end behind its text. -/
theorem com_end (b : ByteArray) (f p : Nat) (hf : f ≤ b.size) (hr : run (gCom b f false) b.size f 0 = (p, 0)) : p ≤ b.size := by
  have := run_ind (gCom_on b f false) (fun _ _ => True) (fun r => r.2 = 0 → r.1 ≤ b.size) (by
    intro b' m' x e hb' hI hx he
    unfold gCom at hx
    split at hx
    · rw [if_neg (by decide)] at hx; cases hx; exact hb'
    · split at hx
      · cases hx; exact hb'
      · split at hx
        · cases hx; cases he
        · split at hx
          · rename_i h9; cases h9.1
          · cases hx) (by intros; trivial) _ f 0 (Nat.le_refl _) hf trivial
  rw [hr] at this
  exact this rfl

theorem fnd_sure {b c : ByteArray} (h : Bgs b c b.size) : ∀ (d i f : Nat), b.size - i ≤ d →
    ((fnd b i f).2.1 ≠ 0 → ¬ Early b (fnd b i f).2.1 (fnd b i f).2.2 → fnd (b ++ c) i f = fnd b i f) ∧
    ((fnd b i f).2.1 ≠ 0 → ∃ r, (fnd (b ++ c) i f).1 = (fnd b i f).1 ++ r) ∧
    ((fnd b i f).2.1 = 0 → (∀ t, (fnd b i f).1.getLast? = some t → sureK b t) → ∃ r, (fnd (b ++ c) i f).1 = (fnd b i f).1 ++ r)
  | d, i, f, hd => by
    have hz := size_app b c
    by_cases hi : i < b.size
    · cases d with
      | zero => omega
      | succ d =>
        have hS := fnd_step (b ++ c) i f (by omega)
        rw [by8_first b c i hi] at hS
        rw [fnd_step b i f hi]
        by_cases h1 : by8 b i = 10
        · rw [if_pos h1] at hS ⊢
          rw [hS]; exact fnd_sure h d (i + 1) (f + 1) (by omega)
        · rw [if_neg h1] at hS ⊢
          by_cases h2 : tkBl (by8 b i) = true
          · rw [if_pos h2] at hS ⊢
            rw [hS]; exact fnd_sure h d (i + 1) f (by omega)
          · rw [if_neg h2] at hS ⊢
            by_cases h3 : tkBgn b i = 0
            · rw [if_pos h3]
              have e := bgn_sure (c := c) h i hi (.inr (by omega))
              rw [e, if_pos h3] at hS
              refine ⟨fun _ _ => hS, fun _ => ⟨[], by rw [hS]; rfl⟩, fun h => by cases h⟩
            · rw [if_neg h3]
              by_cases h4 : (tkEnd b i (tkBgn b i)).2 ≠ 0
              · rw [if_pos h4]
                refine ⟨fun _ hn => ?_, fun _ => ⟨_, rfl⟩, fun h => absurd h h4⟩
                obtain ⟨x1, x2⟩ := err_sure (c := c) h i (tkEnd b i (tkBgn b i)).1 (tkEnd b i (tkBgn b i)).2 hi h3 rfl h4 hn
                rw [x1, if_neg h3, x2] at hS
                dsimp only at hS
                rw [if_pos h4] at hS
                exact hS
              · rw [if_neg h4]
                obtain ⟨p, hp⟩ : ∃ p, tkEnd b i (tkBgn b i) = (p, 0) := ⟨_, Prod.ext rfl (by simpa using h4)⟩
                have h5 := tkEnd_ok b i (tkBgn b i) p hi rfl h3 hp
                rw [hp]
                obtain ⟨i1, i2, i3⟩ := fnd_sure h d p 0 (by omega)
                have key : (p < b.size ∨ tkBgn b i = 4 ∨ tkBgn b i = 5 ∨ tkBgn b i = 8) → fnd (b ++ c) i f = (tkTok b (tkBgn b i) i p f :: (fnd (b ++ c) p 0).1, (fnd (b ++ c) p 0).2) := by
                  intro hs
                  obtain ⟨x1, x2⟩ := tok_sure (c := c) h i p hi h3 hp hs
                  rw [x1, if_neg h3, x2, if_neg (by simp), tok_first b c _ i p f h5.2] at hS
                  exact hS
                have hE : (fnd b p 0).2.1 ≠ 0 → p < b.size := by
                  intro h0
                  apply Classical.byContradiction
                  intro h9
                  rw [fnd_end b p 0 (by omega)] at h0
                  exact h0 rfl
                refine ⟨fun h0 hn => ?_, fun h0 => ?_, fun h0 hl => ?_⟩
                · rw [key (.inl (hE h0)), i1 h0 hn]
                · obtain ⟨r, hr⟩ := i2 h0
                  exact ⟨r, by rw [key (.inl (hE h0)), hr]; rfl⟩
                · have hs : p < b.size ∨ tkBgn b i = 4 ∨ tkBgn b i = 5 ∨ tkBgn b i = 8 := by
                    cases hr : (fnd b p 0).1 with
                    | cons t l =>
                      have h6 := fnd_toks b _ p 0 (Nat.le_refl _) t (by rw [hr]; exact List.mem_cons_self ..)
                      exact .inl (by omega)
                    | nil =>
                      have ht := hl (tkTok b (tkBgn b i) i p f) (by show List.getLast? (_ :: (fnd b p 0).1) = _; rw [hr]; rfl)
                      unfold sureK tkTok at ht
                      simp only at ht
                      by_cases k7 : tkBgn b i = 7
                      · left
                        have hk : ¬ (tkBgn b i = 1 ∧ ky (b.extract i p) = true) := fun h => by omega
                        rw [if_neg hk, if_pos k7] at ht
                        rcases ht with ht | ht | ht | ⟨_, j, j1, j2, j3⟩ | ⟨ht, _⟩
                        · omega
                        · omega
                        · omega
                        · apply Classical.byContradiction
                          intro h9
                          have := tkTrim_gap b p j j1 (by omega)
                          rw [j3] at this
                          exact absurd this (by decide)
                        · exact absurd k7 ht
                      · rw [if_neg k7] at ht
                        by_cases hk : tkBgn b i = 1 ∧ ky (b.extract i p) = true
                        · rw [if_pos hk] at ht
                          omega
                        · rw [if_neg hk] at ht
                          omega
                  obtain ⟨r, hr⟩ := i3 h0 (fun t ht => hl t (by
                    show List.getLast? (_ :: (fnd b p 0).1) = _
                    rw [List.getLast?_cons, ht]; rfl))
                  exact ⟨r, by rw [key hs, hr]; rfl⟩
    · rw [fnd_end b i f (by omega)]
      exact ⟨fun h => absurd rfl h, fun h => absurd rfl h, fun _ _ => ⟨_, rfl⟩⟩

end Go.Proofs.YtnmjkgjhjnpijaaDoor

set_option linter.unusedVariables false
set_option linter.unusedSimpArgs false
namespace Go.Proofs.YtnmjkgjhjnpijaaDoor
open Go.RowKit

/-- What is whole of what has come. -/
def whl (b : ByteArray) : ByteArray := b.extract 0 (wh b)
theorem whl_size (b : ByteArray) : (whl b).size = wh b := by unfold whl; rw [size_ext b 0 _ (wh_bd b).1]; omega
theorem whl_app (b : ByteArray) : b = whl b ++ b.extract (wh b) b.size := by
  have hz := (wh_bd b).1
  refine by8_ext _ _ (by rw [size_app, whl_size, size_ext b _ _ (Nat.le_refl _)]; omega) (fun j hj => ?_)
  rw [by8_app, whl_size]
  split
  · unfold whl; rw [by8_head b _ j (by assumption)]
  · rw [by8_ext' b _ b.size _ (by omega)]; congr 1; omega
theorem app_assoc (a b c : ByteArray) : (a ++ b) ++ c = a ++ (b ++ c) := by
  refine by8_ext _ _ (by simp only [size_app]; omega) (fun j hj => ?_)
  simp only [by8_app, size_app]
  by_cases h1 : j < a.size
  · rw [if_pos (by omega), if_pos h1, if_pos h1]
  · rw [if_neg h1]
    by_cases h2 : j < a.size + b.size
    · rw [if_pos h2, if_neg h1, if_pos (by omega)]
    · rw [if_neg h2]
      rw [if_neg (show ¬ j - a.size < b.size by omega), show j - (a.size + b.size) = j - a.size - b.size by omega, if_neg h1]
theorem bgs_whl (b c : ByteArray) : Bgs (whl b) (b.extract (wh b) b.size ++ c) (whl b).size := by
  refine ⟨Nat.le_refl _, fun i hi => ?_, fun i h1 h2 => by omega⟩
  rw [whl_size] at hi
  rw [← app_assoc, ← whl_app]
  exact dec_whole b c i hi
theorem whl_with (b c : ByteArray) : b ++ c = whl b ++ (b.extract (wh b) b.size ++ c) := by rw [← app_assoc, ← whl_app]

/-- What is wrong, and not met at the end alone, is wrong whatever comes. -/
theorem err_first (b c : ByteArray) (h0 : (scn (whl b)).2.1 ≠ 0) (hn : ¬ Early (whl b) (scn (whl b)).2.1 (scn (whl b)).2.2) : scn (b ++ c) = scn (whl b) := by
  rw [whl_with b c]
  exact (fnd_sure (bgs_whl b c) (whl b).size 0 0 (by omega)).1 h0 hn

theorem com_len (b : ByteArray) (f : Nat) (o : Bool) (p e : Nat) (hf : f ≤ b.size) (hr : run (gCom b f o) b.size f 0 = (p, e)) :
    (e = 0 → o = false → p ≤ f + 65535 ∧ (b.size ≤ p ∨ by8 b p = 10)) ∧ (e = 101 → b.size ≤ f + 65535) := by
  have := run_ind (gCom_on b f o) (fun d _ => d ≤ f + 65535) (fun r => (r.2 = 0 → o = false → r.1 ≤ f + 65535 ∧ (b.size ≤ r.1 ∨ by8 b r.1 = 10)) ∧ (r.2 = 101 → b.size ≤ f + 65535)) (by
    intro d m x e hd hI hx
    unfold gCom at hx
    split at hx
    · by_cases ho : o = true
      · rw [if_pos ho] at hx; cases hx
        exact ⟨fun h => (by cases h), fun _ => by omega⟩
      · rw [if_neg ho] at hx; cases hx
        exact ⟨fun _ _ => ⟨hI, .inl (by omega)⟩, fun h => by cases h⟩
    · split at hx
      · rename_i h9
        cases hx
        exact ⟨fun _ _ => ⟨hI, .inr h9.2⟩, fun h => by cases h⟩
      · split at hx
        · cases hx; exact ⟨fun h => (by cases h), fun h => by cases h⟩
        · split at hx
          · rename_i h9
            cases hx
            exact ⟨fun _ ho => (by rw [ho] at h9; cases h9.1), fun h => by cases h⟩
          · cases hx) (by
    intro d m n hd hI hx
    unfold gCom at hx
    split at hx
    · split at hx <;> cases hx
    · split at hx
      · cases hx
      · split at hx
        · cases hx
        · split at hx
          · cases hx
          · cases hx; omega) _ f 0 (Nat.le_refl _) hf (by omega)
  rw [hr] at this
  exact this

end Go.Proofs.YtnmjkgjhjnpijaaDoor
