import Derived.Test.YtfkegaencoodbaaDoorPg
set_option linter.unusedVariables false
set_option linter.unusedSimpArgs false
namespace Go.Proofs.YtfkegaencoodbaaDoor
open Go.RowKit Go.Shelf

/-- The place of a source's character: its line, and how many characters stand ahead in it. -/
def pLn (s : ByteArray) (k : Nat) : Nat := 1 + cn s (st s k)
def pCl (s : ByteArray) (k : Nat) : Nat := 1 + (P (s.extract (lf s (st s k)) (st s k))).length

theorem cnt_le (s : ByteArray) (a b : Nat) (hb : b ≤ s.size) : (P (s.extract a b)).length ≤ s.size := by
  have h := P_len (s.extract a b)
  rw [size_ext _ _ _ hb] at h; omega

theorem place_at (s : ByteArray) (k : Nat) (hs : s.size ≤ 4000) : aAt 0 (s.extract 0 (st s k)) = (st s k : Int) ∧ aLine 1 (s.extract 0 (st s k)) = (pLn s k : Int) ∧ aCol 1 (s.extract 0 (st s k)) = (pCl s k : Int) := by
  have he := st_le s k
  have z := size_ext s 0 (st s k) he
  have hc := cn_le s (st s k)
  have hp := cnt_le s (lf s (st s k)) (st s k) he
  have f := lf_facts s (st s k)
  unfold aAt aLine aCol pLn pCl
  rw [z, Nat.sub_zero, cn_head s _ _ (Nat.le_refl _), lf_head s _ _ (Nat.le_refl _), ext_ext s 0 (st s k) _ _ he (by omega) f.1, Nat.zero_add, Nat.zero_add]
  refine ⟨?_, ?_, ?_⟩
  · rw [wrap_ok _ (by omega)]; simp
  · rw [wrap_ok _ (by omega)]; simp
  · have : (if cn s (st s k) = 0 then (1 : Int) else 1) = 1 := by split <;> rfl
    rw [this, wrap_ok _ (by omega)]; simp

theorem step_feed (s : ByteArray) (k : Nat) (hk : k < (P s).length) (h : by8 s (st s k) = 10) : pLn s (k + 1) = pLn s k + 1 ∧ pCl s (k + 1) = 1 := by
  have e : st s (k + 1) = st s k + 1 := by rw [st_succ s k hk, dw_ten s _ h]
  unfold pLn pCl
  rw [e, lf_step, if_pos h]
  constructor
  · rcases cn_step s (st s k) with ⟨_, h2⟩ | ⟨h1, _⟩
    · omega
    · exact absurd h h1
  · have hz : (s.extract (st s k + 1) (st s k + 1)).size = 0 := by
      rw [size_ext _ _ _ (by have := (st_lt s k).2 hk; omega)]; omega
    have := P_len (s.extract (st s k + 1) (st s k + 1))
    omega

theorem step_other (s : ByteArray) (k : Nat) (hk : k < (P s).length) (h : by8 s (st s k) ≠ 10) : pLn s (k + 1) = pLn s k ∧ pCl s (k + 1) = pCl s k + 1 := by
  have e := st_succ s k hk
  have hlt := (st_lt s k).2 hk
  have hw := dw_facts s (st s k) hlt
  have hno : ∀ j, st s k ≤ j → j < st s (k + 1) → by8 s j ≠ 10 := by
    intro j h1 h2
    by_cases hj : j = st s k
    · rw [hj]; exact h
    · have := (dec_inner s (st s k) (j - st s k) (by omega) (by omega)).2
      rw [show st s k + (j - st s k) = j by omega] at this
      omega
  have hl : lf s (st s (k + 1)) = lf s (st s k) := by
    have := lf_const s (st s k) (st s (k + 1) - st s k) (fun j h1 h2 => hno j h1 (by omega))
    rw [show st s k + (st s (k + 1) - st s k) = st s (k + 1) by omega] at this
    exact this
  unfold pLn pCl
  rw [cn_const' s (by omega : st s k ≤ st s (k + 1)) hno, hl]
  refine ⟨rfl, ?_⟩
  have h1 := cnt_join (bd_lf s (st s k)) (bd_st s k (by omega)) (bd_st s (k + 1) hk) (lf_facts s (st s k)).1 (by omega)
  have h2 := P_mid s k (k + 1) (by omega) hk
  omega

theorem line_of (s : ByteArray) (k : Nat) (hk : k < (P s).length) : lineB s (pLn s k : Int) = true ∧ (by8 s (st s k) ≠ 10 → pCl s k ≤ (P (lineS s (pLn s k : Int))).length) := by
  have he := st_le s k
  have hlt := (st_lt s k).2 hk
  have hc := cn_mono' s he
  have hb : 1 ≤ ((pLn s k : Nat) : Int) ∧ ((pLn s k : Nat) : Int) ≤ LN s := by unfold pLn LN; omega
  refine ⟨decide_eq_true hb, fun h => ?_⟩
  have hn := nl_facts s (st s k) he
  have hgt : st s k < nl s (st s k) := by
    rcases Nat.lt_or_ge (st s k) (nl s (st s k)) with hh | hh
    · exact hh
    · have heq : nl s (st s k) = st s k := by omega
      have := hn.2.2.2 (by omega)
      rw [heq] at this
      exact absurd this h
  have hls : lineS s (pLn s k : Int) = s.extract (lf s (st s k)) (nl s (st s k)) := by
    unfold lineS
    rw [if_pos hb, show (((pLn s k : Nat) : Int) - 1).toNat = cn s (st s k) by unfold pLn; omega]
    unfold ln
    rw [bg_lf s _ he, nl_lf s _ he]
  rw [hls]
  unfold pCl
  have h1 := cnt_join (bd_lf s (st s k)) (bd_st s k (by omega)) (bd_nl s (st s k) he) (lf_facts s (st s k)).1 (by omega)
  have h2 := P_pos (s.extract (st s k) (nl s (st s k))) (by rw [size_ext _ _ _ hn.2.1]; omega)
  omega

theorem lineS_size (s : ByteArray) (n : Int) : (lineS s n).size ≤ s.size := by
  unfold lineS
  by_cases h : 1 ≤ n ∧ n ≤ LN s
  · rw [if_pos h]; exact ln_size s _ (by unfold LN at h; omega)
  · rw [if_neg h]; exact Nat.zero_le _

end Go.Proofs.YtfkegaencoodbaaDoor
