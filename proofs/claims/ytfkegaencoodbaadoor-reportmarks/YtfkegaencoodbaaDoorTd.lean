import Derived.Test.YtfkegaencoodbaaDoorTb
import Derived.Test.YtfkegaencoodbaaDoorRc
import Derived.Test.YtfkegaencoodbaaDoorEnc0
set_option linter.unusedVariables false
set_option linter.unusedSimpArgs false
namespace Go.Proofs.YtfkegaencoodbaaDoor

/-! ### Columns of texts -/

def cl : List Nat → Int
  | [] => 0
  | p :: r => wd (p : Int) + cl r

theorem cl_app (a b : List Nat) : cl (a ++ b) = cl a + cl b := by
  induction a with
  | nil => simp [cl]
  | cons x r ih => simp only [List.cons_append, cl, ih]; omega

theorem cl_bd (l : List Nat) : 0 ≤ cl l ∧ cl l ≤ 2 * l.length := by
  induction l with
  | nil => simp [cl]
  | cons x r ih =>
    have := wd_bd (x : Int)
    simp only [cl, List.length_cons]; omega

/-- Columns of the first characters, and of all. -/
def cw (s : ByteArray) (k : Nat) : Int := cl ((pts s).take k)
def tw (s : ByteArray) : Int := cl (pts s)

theorem cw_zero (s : ByteArray) : cw s 0 = 0 := rfl
theorem cw_succ (s : ByteArray) (k : Nat) (h : k < (P s).length) : cw s (k + 1) = cw s k + wd (dp s (st s k)) := by
  unfold cw
  rw [pts_take s k h, cl_app]; simp [cl]
theorem cw_end (s : ByteArray) (k : Nat) (h : (P s).length ≤ k) : cw s k = tw s := by
  unfold cw tw
  rw [List.take_of_length_le (by rw [pts_len]; omega)]
theorem cw_bd (s : ByteArray) (k : Nat) : 0 ≤ cw s k ∧ cw s k ≤ 2 * s.size := by
  have h := cl_bd ((pts s).take k)
  have h2 := P_len s
  have h3 : ((pts s).take k).length ≤ (P s).length := by rw [List.length_take, pts_len]; omega
  unfold cw; omega
theorem tw_bd (s : ByteArray) : 0 ≤ tw s ∧ tw s ≤ 2 * s.size := by
  rw [← cw_end s _ (Nat.le_refl _)]; exact cw_bd s _
theorem cw_step (s : ByteArray) (k : Nat) : cw s k ≤ cw s (k + 1) := by
  by_cases h : k < (P s).length
  · have := cw_succ s k h
    have := wd_bd (dp s (st s k))
    omega
  · rw [cw_end s k (by omega), cw_end s (k + 1) (by omega)]; omega
theorem cw_mono (s : ByteArray) (i j : Nat) (h : i ≤ j) : cw s i ≤ cw s j := by
  obtain ⟨d, rfl⟩ : ∃ d, j = i + d := ⟨j - i, by omega⟩
  clear h
  induction d with
  | zero => exact Int.le_refl _
  | succ d ih => have := cw_step s (i + d); rw [← Nat.add_assoc]; omega

theorem st_step (s : ByteArray) (k : Nat) : st s k ≤ st s (k + 1) := by
  by_cases h : k < (P s).length
  · have := st_succ s k h; omega
  · rw [st_end s k (by omega), st_end s (k + 1) (by omega)]; omega
theorem st_mono (s : ByteArray) (i j : Nat) (h : i ≤ j) : st s i ≤ st s j := by
  obtain ⟨d, rfl⟩ : ∃ d, j = i + d := ⟨j - i, by omega⟩
  clear h
  induction d with
  | zero => exact Nat.le_refl _
  | succ d ih => have := st_step s (i + d); rw [← Nat.add_assoc]; omega

/-- Where a text is cut: after so many characters. -/
structure IsCut (s : ByteArray) (m : Int) (k : Nat) : Prop where
  le : k ≤ (P s).length
  fit : ∀ j, 1 ≤ j → j ≤ k → cw s j ≤ m
  stop : k < (P s).length → m < cw s (k + 1)

theorem cut_from (s : ByteArray) (m : Int) : ∀ f k, k + f = (P s).length → (∀ j, 1 ≤ j → j ≤ k → cw s j ≤ m) → ∃ k', IsCut s m k'
  | 0, k, h, hf => ⟨k, by omega, hf, fun h' => by omega⟩
  | f + 1, k, h, hf => by
    by_cases hc : cw s (k + 1) ≤ m
    · refine cut_from s m f (k + 1) (by omega) fun j h1 h2 => ?_
      by_cases e : j = k + 1
      · rw [e]; exact hc
      · exact hf j h1 (by omega)
    · exact ⟨k, by omega, hf, fun _ => by omega⟩
theorem cut_ex (s : ByteArray) (m : Int) : ∃ k, IsCut s m k := cut_from s m _ 0 (Nat.zero_add _) (fun j h1 h2 => by omega)

theorem cut_mono {s : ByteArray} {m m' : Int} {k k' : Nat} (h : IsCut s m k) (h' : IsCut s m' k') (hm : m ≤ m') : k ≤ k' := by
  apply Classical.byContradiction
  intro hn
  have h1 := h.le
  have h2 := h.fit (k' + 1) (by omega) (by omega)
  have h3 := h'.stop (by omega)
  omega
theorem cut_all {s : ByteArray} {k : Nat} (h : IsCut s (tw s) k) : k = (P s).length := by
  have h1 := h.le
  apply Classical.byContradiction
  intro hn
  have h3 := h.stop (by omega)
  have h4 := cw_mono s (k + 1) (P s).length (by omega)
  rw [cw_end s _ (Nat.le_refl _)] at h4
  omega
theorem cut_neg {s : ByteArray} {m : Int} {k : Nat} (h : IsCut s m k) (hm : m < 0) : k = 0 := by
  apply Classical.byContradiction
  intro hn
  have h2 := h.fit 1 (by omega) (by omega)
  have := (cw_bd s 1).1
  omega
theorem cut_le {s : ByteArray} {m : Int} {k : Nat} (h : IsCut s m k) (hm : 0 ≤ m) : cw s k ≤ m := by
  by_cases hk : k = 0
  · rw [hk, cw_zero]; exact hm
  · exact h.fit k (by omega) (by omega)

/-- The beginning of so many characters. -/
def hd (s : ByteArray) (k : Nat) : ByteArray := s.extract 0 (st s k)
theorem hd_size (s : ByteArray) (k : Nat) : (hd s k).size = st s k := by
  unfold hd; rw [size_ext s 0 _ (st_le s k)]; omega
theorem hd_all (s : ByteArray) (k : Nat) (h : (P s).length ≤ k) : hd s k = s := by
  unfold hd; rw [st_end s k h, extract_all]
theorem hd_zero (s : ByteArray) : hd s 0 = ⟨#[]⟩ := by
  have : (hd s 0).size = 0 := by rw [hd_size]; rfl
  exact ba_ext _ _ (by rw [this]; rfl) (fun i hi => by omega)
theorem hd_hd (s : ByteArray) (i j : Nat) (h : i ≤ j) : (hd s j).extract 0 (st s i) = hd s i := by
  have hz := st_mono s i j h
  have h1 := hd_size s j
  have h2 := hd_size s i
  have h3 : ((hd s j).extract 0 (st s i)).size = st s i := by rw [size_ext _ 0 _ (by omega)]; omega
  refine ba_ext _ _ (by omega) fun k hk => ?_
  rw [get_ext, if_pos (by omega)]
  unfold hd
  rw [get_ext, if_pos (by omega), get_ext, if_pos (by omega)]
  simp

theorem st_hd (s : ByteArray) (k : Nat) (hk : k ≤ (P s).length) : ∀ j, j ≤ k → st (hd s k) j = st s j
  | 0, _ => rfl
  | j + 1, h => by
    have ih := st_hd s k hk j (by omega)
    have e := st_succ s j (by omega)
    have hw := dw_facts s (st s j) ((st_lt s j).2 (by omega))
    have hm := st_mono s (j + 1) k h
    have hd' : Utf8.decode (hd s k) (st s j) = Utf8.decode s (st s j) := dec_head s (st s k) (st s j) (st_le s k) (by omega) (by omega)
    have hl : j < (P (hd s k)).length := (st_lt _ j).1 (by rw [ih, hd_size]; omega)
    rw [st_succ _ j hl, ih, e]
    unfold dw
    rw [hd']

theorem P_hd (s : ByteArray) (k : Nat) (hk : k ≤ (P s).length) : (P (hd s k)).length = k := by
  have h1 : ¬ k < (P (hd s k)).length := by
    rw [← st_lt, st_hd s k hk k (Nat.le_refl _), hd_size]; omega
  by_cases h0 : k = 0
  · omega
  · have e := st_succ s (k - 1) (by omega)
    have hw := dw_facts s (st s (k - 1)) ((st_lt s _).2 (by omega))
    rw [show k - 1 + 1 = k by omega] at e
    have h2 : k - 1 < (P (hd s k)).length := by
      rw [← st_lt, st_hd s k hk _ (by omega), hd_size]; omega
    omega

theorem pts_at (s : ByteArray) (k : Nat) (h : k < (P s).length) : (pts s)[k]? = some (dp s (st s k)) := by
  unfold pts
  rw [List.getElem?_map, P_at s k h]; rfl

theorem pts_hd (s : ByteArray) (k : Nat) (hk : k ≤ (P s).length) : pts (hd s k) = (pts s).take k := by
  apply List.ext_getElem?
  intro j
  have hl := P_hd s k hk
  by_cases hj : j < k
  · rw [pts_at _ j (by omega), List.getElem?_take, if_pos hj, pts_at s j (by omega), st_hd s k hk j (by omega)]
    have e := st_succ s j (by omega)
    have hw := dw_facts s (st s j) ((st_lt s j).2 (by omega))
    have hm := st_mono s (j + 1) k (by omega)
    have hd' : Utf8.decode (hd s k) (st s j) = Utf8.decode s (st s j) := dec_head s (st s k) (st s j) (st_le s k) (by omega) (by omega)
    unfold dp
    rw [hd']
  · rw [List.getElem?_eq_none (by rw [pts_len]; omega), List.getElem?_eq_none (by rw [List.length_take]; omega)]

theorem tw_hd (s : ByteArray) (k : Nat) (hk : k ≤ (P s).length) : tw (hd s k) = cw s k := by
  unfold tw cw; rw [pts_hd s k hk]

theorem tw_app (a b : ByteArray) (h : wh a = a.size) : tw (a ++ b) = tw a + tw b := by
  have he : a.extract 0 (wh a) = a := by rw [h]; exact extract_all a
  obtain ⟨m, hm, hm2, h1⟩ := points_whole a b
  rw [he] at hm h1
  obtain ⟨h2, h3⟩ := points_second a b h he
  have : pts (a ++ b) = pts a ++ pts b := by
    rw [← List.take_append_drop m (pts (a ++ b))]
    unfold pts
    rw [h1, hm, h3]
  unfold tw
  rw [this, cl_app]
end Go.Proofs.YtfkegaencoodbaaDoor
