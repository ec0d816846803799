import Derived.Test.YtfkegaencoodbaaDoorTd
import Derived.Test.YtfkegaencoodbaaDoorEnc0
import Derived.WalkKit
set_option linter.unusedVariables false
set_option linter.unusedSimpArgs false
namespace Go.Proofs.YtfkegaencoodbaaDoor
open Go.RowKit

/-- The first line feed at a place or behind it; the text's length where there is none. -/
def nlF (s : ByteArray) : Nat → Nat → Nat
  | 0, i => i
  | f + 1, i => if by8 s i = 10 then i else nlF s f (i + 1)
def nl (s : ByteArray) (i : Nat) : Nat := nlF s (s.size - i) i

theorem nlF_facts (s : ByteArray) : ∀ f i, i ≤ nlF s f i ∧ nlF s f i ≤ i + f ∧ (∀ j, i ≤ j → j < nlF s f i → by8 s j ≠ 10) ∧ (nlF s f i < i + f → by8 s (nlF s f i) = 10)
  | 0, i => by
    show i ≤ i ∧ i ≤ i + 0 ∧ _ ∧ _
    exact ⟨Nat.le_refl _, Nat.le_refl _, fun j h1 h2 => by unfold nlF at h2; omega, fun h => by unfold nlF at h; omega⟩
  | f + 1, i => by
    unfold nlF
    by_cases h : by8 s i = 10
    · grind
    · rw [if_neg h]
      obtain ⟨h1, h2, h3, h4⟩ := nlF_facts s f (i + 1)
      refine ⟨by omega, by omega, fun j h5 h6 => ?_, fun h5 => h4 (by omega)⟩
      by_cases e : j = i
      · rw [e]; exact h
      · exact h3 j (by omega) h6

theorem nl_facts (s : ByteArray) (i : Nat) (h : i ≤ s.size) : i ≤ nl s i ∧ nl s i ≤ s.size ∧ (∀ j, i ≤ j → j < nl s i → by8 s j ≠ 10) ∧ (nl s i < s.size → by8 s (nl s i) = 10) := by
  obtain ⟨h1, h2, h3, h4⟩ := nlF_facts s (s.size - i) i
  exact ⟨h1, by unfold nl; omega, h3, fun h5 => h4 (by unfold nl at h5; omega)⟩

theorem nl_eq (s : ByteArray) (i j : Nat) (h : i ≤ j) (hj : j ≤ s.size) (hn : ∀ k, i ≤ k → k < j → by8 s k ≠ 10) (he : j = s.size ∨ by8 s j = 10) : nl s i = j := by
  obtain ⟨h1, h2, h3, h4⟩ := nl_facts s i (by omega)
  rcases Nat.lt_trichotomy (nl s i) j with hl | hl | hl
  · exact absurd (h4 (by omega)) (hn _ h1 hl)
  · exact hl
  · rcases he with he | he
    · omega
    · exact absurd he (h3 j h hl)

/-- How many line feeds stand ahead; where the last line ahead begins; where a line begins. -/
def cn (s : ByteArray) : Nat → Nat
  | 0 => 0
  | i + 1 => cn s i + (if by8 s i = 10 then 1 else 0)
def lf (s : ByteArray) : Nat → Nat
  | 0 => 0
  | i + 1 => if by8 s i = 10 then i + 1 else lf s i
def bg (s : ByteArray) : Nat → Nat
  | 0 => 0
  | k + 1 => nl s (bg s k) + 1

theorem cn_step (s : ByteArray) (i : Nat) : (by8 s i = 10 ∧ cn s (i + 1) = cn s i + 1) ∨ (by8 s i ≠ 10 ∧ cn s (i + 1) = cn s i) := by
  show (_ ∧ cn s i + _ = _) ∨ (_ ∧ cn s i + _ = _)
  by_cases h : by8 s i = 10
  · rw [if_pos h]; exact .inl ⟨h, rfl⟩
  · rw [if_neg h]; exact .inr ⟨h, rfl⟩

theorem cn_mono (s : ByteArray) (i : Nat) : ∀ d, cn s i ≤ cn s (i + d)
  | 0 => Nat.le_refl _
  | d + 1 => by
    have h := cn_mono s i d
    have := cn_step s (i + d)
    rw [← Nat.add_assoc]; omega
theorem cn_mono' (s : ByteArray) {i j : Nat} (h : i ≤ j) : cn s i ≤ cn s j := by
  have := cn_mono s i (j - i); rw [show i + (j - i) = j by omega] at this; exact this

theorem cn_le (s : ByteArray) : ∀ i, cn s i ≤ i
  | 0 => Nat.le_refl _
  | i + 1 => by have := cn_le s i; have := cn_step s i; omega

theorem cn_const (s : ByteArray) (i : Nat) : ∀ d, (∀ k, i ≤ k → k < i + d → by8 s k ≠ 10) → cn s (i + d) = cn s i
  | 0, _ => rfl
  | d + 1, h => by
    have ih := cn_const s i d (fun k h1 h2 => h k h1 (by omega))
    rcases cn_step s (i + d) with ⟨h1, _⟩ | ⟨_, h2⟩
    · exact absurd h1 (h _ (by omega) (by omega))
    · rw [← Nat.add_assoc]; omega
theorem cn_const' (s : ByteArray) {i j : Nat} (h : i ≤ j) (hn : ∀ k, i ≤ k → k < j → by8 s k ≠ 10) : cn s j = cn s i := by
  have := cn_const s i (j - i) (fun k h1 h2 => hn k h1 (by omega)); rw [show i + (j - i) = j by omega] at this; exact this

theorem lf_facts (s : ByteArray) : ∀ i, lf s i ≤ i ∧ (∀ j, lf s i ≤ j → j < i → by8 s j ≠ 10) ∧ (lf s i = 0 ∨ (1 ≤ lf s i ∧ by8 s (lf s i - 1) = 10))
  | 0 => ⟨Nat.le_refl _, fun j _ h => by omega, .inl rfl⟩
  | i + 1 => by
    unfold lf
    by_cases h : by8 s i = 10
    · grind
    · rw [if_neg h]
      obtain ⟨h1, h2, h3⟩ := lf_facts s i
      refine ⟨by omega, fun j h4 h5 => ?_, h3⟩
      by_cases e : j = i
      · rw [e]; exact h
      · exact h2 j h4 (by omega)

theorem lf_step (s : ByteArray) (i : Nat) : lf s (i + 1) = if by8 s i = 10 then i + 1 else lf s i := rfl

theorem lf_const (s : ByteArray) (i : Nat) : ∀ d, (∀ k, i ≤ k → k < i + d → by8 s k ≠ 10) → lf s (i + d) = lf s i
  | 0, _ => rfl
  | d + 1, h => by
    have ih := lf_const s i d (fun k h1 h2 => h k h1 (by omega))
    rw [← Nat.add_assoc, lf_step, if_neg (h _ (by omega) (by omega)), ih]

theorem lf_zero (s : ByteArray) : ∀ i, cn s i = 0 → lf s i = 0
  | 0, _ => rfl
  | i + 1, h => by
    rcases cn_step s i with ⟨_, h2⟩ | ⟨h1, h2⟩
    · omega
    · rw [lf_step, if_neg h1]; exact lf_zero s i (by omega)

theorem bg_lf (s : ByteArray) : ∀ i, i ≤ s.size → bg s (cn s i) = lf s i
  | 0, _ => rfl
  | i + 1, h => by
    have ih := bg_lf s i (by omega)
    rw [lf_step]
    rcases cn_step s i with ⟨h1, h2⟩ | ⟨h1, h2⟩
    · rw [h2, if_pos h1]
      show nl s (bg s (cn s i)) + 1 = _
      obtain ⟨f1, f2, _⟩ := lf_facts s i
      rw [ih, nl_eq s (lf s i) i f1 (by omega) f2 (.inr h1)]
    · rw [h2, if_neg h1, ih]

theorem nl_lf (s : ByteArray) (i : Nat) (h : i ≤ s.size) : nl s (lf s i) = nl s i := by
  obtain ⟨f1, f2, _⟩ := lf_facts s i
  obtain ⟨h1, h2, h3, h4⟩ := nl_facts s i h
  refine nl_eq s _ _ (by omega) h2 (fun k hk1 hk2 => ?_) ?_
  · grind
  · grind

theorem nl_more (s : ByteArray) (i : Nat) (hi : i ≤ s.size) : (nl s i < s.size ∧ cn s i < cn s s.size ∧ cn s (nl s i + 1) = cn s i + 1 ∧ cn s (nl s i) = cn s i) ∨ (nl s i = s.size ∧ cn s i = cn s s.size) := by
  obtain ⟨h1, h2, h3, h4⟩ := nl_facts s i hi
  have hc := cn_const' s h1 h3
  by_cases h : nl s i < s.size
  · have e := h4 h
    rcases cn_step s (nl s i) with ⟨_, h5⟩ | ⟨h5, _⟩
    · have := cn_mono' s (i := nl s i + 1) (j := s.size) (by omega)
      exact .inl ⟨h, by omega, by omega, hc⟩
    · exact absurd e h5
  · grind

theorem bg_facts (s : ByteArray) : ∀ k, k ≤ cn s s.size → bg s k ≤ s.size ∧ cn s (bg s k) = k
  | 0, _ => ⟨Nat.zero_le _, rfl⟩
  | k + 1, h => by
    obtain ⟨h1, h2⟩ := bg_facts s k (by omega)
    show nl s (bg s k) + 1 ≤ _ ∧ cn s (nl s (bg s k) + 1) = _
    rcases nl_more s (bg s k) h1 with ⟨a, b, c, _⟩ | ⟨a, b⟩
    · exact ⟨by omega, by omega⟩
    · omega

theorem nl_bg (s : ByteArray) (k : Nat) (h : k ≤ cn s s.size) : bg s k ≤ nl s (bg s k) ∧ nl s (bg s k) ≤ s.size ∧ (nl s (bg s k) < s.size ↔ k < cn s s.size) := by
  obtain ⟨h1, h2⟩ := bg_facts s k h
  obtain ⟨h3, h4, _⟩ := nl_facts s (bg s k) h1
  refine ⟨h3, h4, ?_⟩
  rcases nl_more s (bg s k) h1 with ⟨a, b, c, _⟩ | ⟨a, b⟩
  · omega
  · omega

/-- A line, the first being 0. -/
def ln (s : ByteArray) (k : Nat) : ByteArray := s.extract (bg s k) (nl s (bg s k))

theorem ln_size (s : ByteArray) (k : Nat) (h : k ≤ cn s s.size) : (ln s k).size ≤ s.size := by
  have := nl_bg s k h
  unfold ln; rw [size_ext _ _ _ this.2.1]; omega

theorem bg_last (s : ByteArray) : bg s (cn s s.size) = lf s s.size := bg_lf s _ (Nat.le_refl _)

theorem ln_last (s : ByteArray) : ln s (cn s s.size) = s.extract (lf s s.size) s.size := by
  unfold ln
  rw [bg_last]
  obtain ⟨f1, f2, _⟩ := lf_facts s s.size
  rw [nl_eq s (lf s s.size) s.size f1 (Nat.le_refl _) f2 (.inl rfl)]

theorem st_strict (s : ByteArray) (i j : Nat) (h : i < j) (hj : j ≤ (P s).length) : st s i < st s j := by
  have e := st_succ s i (by omega)
  have hw := dw_facts s (st s i) ((st_lt s i).2 (by omega))
  have := st_mono s (i + 1) j h
  omega

theorem plc_tail (s : ByteArray) (a : Nat) (ha : a ≤ s.size) : ∀ f i, plc s f (a + i) = (plc (s.extract a s.size) f i).map (fun k => a + k)
  | 0, _ => rfl
  | f + 1, i => by
    unfold plc
    rw [size_ext s a _ (Nat.le_refl _)]
    by_cases h : a + i < s.size
    · rw [if_pos h, if_pos (by omega), List.map_cons]
      have e : dw (s.extract a s.size) i = dw s (a + i) := by unfold dw; rw [decode_tail s a i ha]
      rw [e, Nat.add_assoc, plc_tail s a ha f (i + dw s (a + i))]
    · rw [if_neg h, if_neg (by omega)]; rfl

theorem P_tail (s : ByteArray) (k : Nat) (hk : k ≤ (P s).length) : (P (s.extract (st s k) s.size)).length = (P s).length - k := by
  have h := plc_tail s (st s k) (st_le s k) (s.size - st s k) 0
  have e : pl s (st s k) = (P (s.extract (st s k) s.size)).map (fun j => st s k + j) := by
    unfold P pl
    rw [size_ext s _ _ (Nat.le_refl _)]
    exact h
  rw [pl_st] at e
  have := congrArg List.length e
  simp at this
  omega

theorem ext_ext (s : ByteArray) (a b c d : Nat) (hb : b ≤ s.size) (hd : a + d ≤ b) (hc : c ≤ d) : (s.extract a b).extract c d = s.extract (a + c) (a + d) := by
  have z1 := size_ext s a b hb
  have z2 := size_ext (s.extract a b) c d (by omega)
  have z3 := size_ext s (a + c) (a + d) (by omega)
  refine ba_ext _ _ (by omega) fun k hk => ?_
  rw [get_ext, if_pos (by omega), get_ext, if_pos (by omega), get_ext, if_pos (by omega), Nat.add_assoc]

theorem P_mid (s : ByteArray) (a b : Nat) (hab : a ≤ b) (hb : b ≤ (P s).length) : (P (s.extract (st s a) (st s b))).length = b - a := by
  have h1 := P_hd s b hb
  have h2 := st_hd s b hb a hab
  have h3 := P_tail (hd s b) a (by omega)
  rw [h1, h2, hd_size] at h3
  have hm := st_mono s a b hab
  have e : (hd s b).extract (st s a) (st s b) = s.extract (st s a) (st s b) := by
    unfold hd
    rw [ext_ext s 0 (st s b) _ _ (st_le s b) (by omega) hm, Nat.zero_add, Nat.zero_add]
  rw [e] at h3
  exact h3

def bd (s : ByteArray) (b : Nat) : Prop := ∃ k, k ≤ (P s).length ∧ st s k = b
theorem bd_zero (s : ByteArray) : bd s 0 := ⟨0, Nat.zero_le _, rfl⟩
theorem bd_size (s : ByteArray) : bd s s.size := ⟨_, Nat.le_refl _, st_end s _ (Nat.le_refl _)⟩
theorem bd_st (s : ByteArray) (k : Nat) (h : k ≤ (P s).length) : bd s (st s k) := ⟨k, h, rfl⟩
theorem bd_le {s : ByteArray} {b : Nat} (h : bd s b) : b ≤ s.size := by obtain ⟨k, _, rfl⟩ := h; exact st_le s k

theorem cnt_join {s : ByteArray} {a b c : Nat} (ha : bd s a) (hb : bd s b) (hc : bd s c) (hab : a ≤ b) (hbc : b ≤ c) :
    (P (s.extract a b)).length + (P (s.extract b c)).length = (P (s.extract a c)).length := by
  obtain ⟨i, hi, rfl⟩ := ha
  obtain ⟨j, hj, rfl⟩ := hb
  obtain ⟨k, hk, rfl⟩ := hc
  have h1 : i ≤ j := by
    apply Classical.byContradiction; intro h
    have := st_strict s j i (by omega) hi; omega
  have h2 : j ≤ k := by
    apply Classical.byContradiction; intro h
    have := st_strict s k j (by omega) hj; omega
  rw [P_mid s i j h1 hj, P_mid s j k h2 hk, P_mid s i k (by omega) hk]; omega

theorem dw_ten (s : ByteArray) (i : Nat) (h : by8 s i = 10) : dw s i = 1 := by
  unfold dw; rw [decode_eq, h]; rfl

theorem lt_of_ten (s : ByteArray) (j : Nat) (h : by8 s j = 10) : j < s.size := by
  apply Classical.byContradiction; intro hn
  have : by8 s j = 0 := at_big s j (by omega)
  omega

theorem bd_ten (s : ByteArray) (j : Nat) (h : by8 s j = 10) : bd s j ∧ bd s (j + 1) := by
  have hj := lt_of_ten s j h
  obtain ⟨m, h1, h2, h3, h4, h5⟩ := st_cover s j (P s).length (by rw [st_end s _ (Nat.le_refl _)]; exact hj)
  have e : st s m = j := by
    apply Classical.byContradiction; intro hne
    have := (dec_inner s (st s m) (j - st s m) (by omega) (by omega)).2
    rw [show st s m + (j - st s m) = j by omega, h] at this
    omega
  refine ⟨⟨m, by omega, e⟩, ⟨m + 1, by omega, ?_⟩⟩
  rw [st_succ s m h2, e, dw_ten s j h]

theorem bd_lf (s : ByteArray) (i : Nat) : bd s (lf s i) := by
  rcases (lf_facts s i).2.2 with h | ⟨h1, h2⟩
  · rw [h]; exact bd_zero s
  · have := (bd_ten s _ h2).2
    rw [show lf s i - 1 + 1 = lf s i by omega] at this
    exact this

theorem bd_nl (s : ByteArray) (i : Nat) (h : i ≤ s.size) : bd s (nl s i) := by
  obtain ⟨h1, h2, h3, h4⟩ := nl_facts s i h
  by_cases e : nl s i = s.size
  · rw [e]; exact bd_size s
  · exact (bd_ten s _ (h4 (by omega))).1

/-- How the counts of a part are those of the whole. -/
theorem by8_head' (s : ByteArray) (a i : Nat) (h : i < a) : by8 (s.extract 0 a) i = by8 s i := by8_head s a i h

theorem cn_head (s : ByteArray) (a : Nat) : ∀ i, i ≤ a → cn (s.extract 0 a) i = cn s i
  | 0, _ => rfl
  | i + 1, h => by
    show cn _ i + _ = cn s i + _
    rw [cn_head s a i (by omega), by8_head s a i (by omega)]
theorem lf_head (s : ByteArray) (a : Nat) : ∀ i, i ≤ a → lf (s.extract 0 a) i = lf s i
  | 0, _ => rfl
  | i + 1, h => by
    rw [lf_step, lf_step, lf_head s a i (by omega), by8_head s a i (by omega)]

theorem cn_tail (s : ByteArray) (a : Nat) : ∀ i, a + i ≤ s.size → cn s (a + i) = cn s a + cn (s.extract a s.size) i
  | 0, _ => rfl
  | i + 1, h => by
    show cn s (a + i) + _ = _ + (cn _ i + _)
    rw [cn_tail s a i (by omega), by8_ext' s a s.size i (by omega), Nat.add_assoc]; rfl
theorem lf_tail (s : ByteArray) (a : Nat) : ∀ i, a + i ≤ s.size → lf s (a + i) = if cn (s.extract a s.size) i = 0 then lf s a else a + lf (s.extract a s.size) i
  | 0, _ => rfl
  | i + 1, h => by
    have ih := lf_tail s a i (by omega)
    have e := by8_ext' s a s.size i (by omega)
    rw [← Nat.add_assoc, lf_step, lf_step, e]
    rcases cn_step (s.extract a s.size) i with ⟨h1, h2⟩ | ⟨h1, h2⟩
    · rw [e] at h1
      rw [if_pos h1, if_pos h1, if_neg (by omega)]; rfl
    · rw [e] at h1
      rw [if_neg h1, if_neg h1, h2, ih]

/-- The place behind a text. -/
def aLine (l : Int) (s : ByteArray) : Int := wrap64 (l + cn s s.size)
def aCol (c : Int) (s : ByteArray) : Int := wrap64 ((if cn s s.size = 0 then c else 1) + (P (s.extract (lf s s.size) s.size)).length)
def aAt (a : Int) (s : ByteArray) : Int := wrap64 (a + s.size)

theorem wrap_add (a b : Int) : wrap64 (wrap64 a + b) = wrap64 (a + b) := by unfold wrap64; omega

theorem line_join (s : ByteArray) (w : Nat) (hw : w ≤ s.size) (l : Int) : aLine (aLine l (s.extract 0 w)) (s.extract w s.size) = aLine l s := by
  unfold aLine
  have z1 := size_ext s 0 w hw
  have z2 := size_ext s w s.size (Nat.le_refl _)
  have h := cn_tail s w (s.size - w) (by omega)
  rw [show w + (s.size - w) = s.size by omega] at h
  rw [z1, z2, h, cn_head s w _ (by omega), Nat.sub_zero, wrap_add]
  congr 1; omega

theorem at_join (s : ByteArray) (w : Nat) (hw : w ≤ s.size) (l : Int) : aAt (aAt l (s.extract 0 w)) (s.extract w s.size) = aAt l s := by
  unfold aAt
  have z1 := size_ext s 0 w hw
  have z2 := size_ext s w s.size (Nat.le_refl _)
  rw [z1, z2, wrap_add]
  congr 1; omega

theorem col_join (s : ByteArray) (w : Nat) (hw : bd s w) (c : Int) : aCol (aCol c (s.extract 0 w)) (s.extract w s.size) = aCol c s := by
  have hws := bd_le hw
  have z1 := size_ext s 0 w hws
  have z2 := size_ext s w s.size (Nat.le_refl _)
  have h := cn_tail s w (s.size - w) (by omega)
  have hl := lf_tail s w (s.size - w) (by omega)
  rw [show w + (s.size - w) = s.size by omega] at h hl
  have f := lf_facts s w
  have f2 := lf_facts (s.extract w s.size) (s.size - w)
  unfold aCol
  rw [z1, z2, cn_head s w _ (by omega), lf_head s w _ (by omega), Nat.sub_zero]
  rw [ext_ext s 0 w _ _ hws (by omega) f.1, Nat.zero_add, Nat.zero_add]
  rw [ext_ext s w s.size _ _ (Nat.le_refl _) (by omega) f2.1, show w + (s.size - w) = s.size by omega]
  by_cases hz : cn (s.extract w s.size) (s.size - w) = 0
  · rw [if_pos hz] at hl ⊢
    rw [hl, h, hz, Nat.add_zero, lf_zero _ _ hz, Nat.add_zero, wrap_add, ← cnt_join (bd_lf s w) hw (bd_size s) f.1 hws]
    congr 1; omega
  · rw [if_neg hz] at hl ⊢
    rw [hl, h, if_neg (by omega)]

theorem ext_app_head (a b : ByteArray) (w : Nat) (h : w ≤ a.size) : a.extract 0 w = (a ++ b).extract 0 w := by
  have z := size_app a b
  refine ba_ext _ _ (by rw [size_ext _ _ _ h, size_ext _ _ _ (by omega)]) fun i hi => ?_
  rw [size_ext _ _ _ h] at hi
  rw [get_ext, get_ext, if_pos (by omega), if_pos (by omega), get_app, if_pos (by omega)]

theorem ext_app_tail (a b : ByteArray) (w : Nat) (h : w ≤ a.size) : a.extract w a.size ++ b = (a ++ b).extract w (a ++ b).size := by
  have z := size_app a b
  have z1 := size_ext a w a.size (Nat.le_refl _)
  have z2 := size_app (a.extract w a.size) b
  refine ba_ext _ _ (by rw [size_ext _ _ _ (Nat.le_refl _)]; omega) fun i hi => ?_
  rw [get_app, z1, get_ext, get_ext, get_app]
  by_cases hi2 : i < a.size - w
  · rw [if_pos hi2, if_pos (by omega), if_pos (by omega), if_pos (by omega)]
  · rw [if_neg hi2, if_pos (by omega), if_neg (by omega)]; congr 1; omega

theorem bd_wh (a b : ByteArray) : bd (a ++ b) (wh a) := by
  obtain ⟨m, hm, hl, _⟩ := points_whole a b
  refine ⟨m, hl, ?_⟩
  rw [st_whole a b m (by omega), hm, st_end _ _ (Nat.le_refl _), size_ext _ _ _ (wh_bd a).1, Nat.sub_zero]

theorem P_pos (s : ByteArray) (h : 0 < s.size) : 1 ≤ (P s).length := by
  unfold P; rw [pl_lt s 0 h]; simp

end Go.Proofs.YtfkegaencoodbaaDoor
