import Derived.Test.YtaldkkeghackfaaDoorG5
import Derived.Test.YtaldkkeghackfaaDoorG3
set_option linter.unusedVariables false
set_option linter.unusedSimpArgs false
namespace Go.Proofs.YtaldkkeghackfaaDoor
open Go.RowKit

/-! Names are names, words are words. -/
theorem dec_mid (s : ByteArray) (a p i : Nat) (ha : a ≤ p) (hp : p ≤ s.size) (hi : a + i < p) (hd : a + i + dw s (a + i) ≤ p) : Utf8.decode (s.extract a p) i = Utf8.decode s (a + i) := by
  have z : (s.extract a s.size).size = s.size - a := size_ext s a _ (Nat.le_refl _)
  have t := decode_tail s a i (by omega)
  have e : s.extract a p = (s.extract a s.size).extract 0 (p - a) := by
    rw [ext_ext s a s.size 0 (p - a) (Nat.le_refl _) (by omega) (Nat.zero_le _), Nat.add_zero, show a + (p - a) = p by omega]
  have hw : dw (s.extract a s.size) i = dw s (a + i) := by unfold dw; rw [t]
  rw [e, dec_head (s.extract a s.size) (p - a) i (by omega) (by omega) (by rw [hw]; omega), t]

theorem row_le (s : ByteArray) (a b m p : Nat) (hb : b ≤ s.size) (h : run (gRow s a 1) s.size b m = (p, 0)) : b ≤ p := by
  have := run_ind (gRow_on s a 1) (fun b' _ => b ≤ b') (fun r => r.2 = 0 → b ≤ r.1) (by
    intro b' m' x e hb' hI hx he
    unfold gRow at hx
    split at hx
    · cases hx; exact hI
    · split at hx
      · cases hx; exact hI
      · split at hx
        · cases hx; cases he
        · cases hx) (by
    intro b' m' n hb' hI hx
    omega) _ b m (Nat.le_refl _) hb (Nat.le_refl _)
  rw [h] at this
  exact this rfl

theorem row_steps (s : ByteArray) (a b m p : Nat) (hb : b ≤ s.size) (hab : a ≤ b) (h : run (gRow s a 1) s.size b m = (p, 0)) :
    b = p ∨ (gd s b = true ∧ pr' (dp s b) = true ∧ b + dw s b ≤ p ∧ p ≤ s.size ∧ run (gRow s a 1) s.size (b + dw s b) (m + 1) = (p, 0)) := by
  have hon := gRow_on s a 1
  cases e : gRow s a 1 b m with
  | out x q =>
    rw [run_out hb e] at h
    cases h
    unfold gRow at e
    split at e
    · cases e; exact .inl rfl
    · split at e
      · cases e; exact .inl rfl
      · split at e
        · cases e
        · cases e
  | on n =>
    have h2 := h
    rw [run_on hon hb e] at h2
    obtain ⟨h3, h4⟩ := hon b m n e
    unfold gRow at e
    split at e
    · cases e
    · rename_i h5
      split at e
      · cases e
      · rename_i h6
        split at e
        · cases e
        · cases e
          have h7 : (gd s b && pr' (dp s b)) = true := by
            apply Classical.byContradiction
            intro h8
            exact h6 (.inl ⟨rfl, by simpa using h8⟩)
          rw [Bool.and_eq_true] at h7
          right
          have hp : p ≤ s.size := by
            have := run_ind hon (fun _ _ => True) (fun r => r.2 = 0 → r.1 ≤ s.size) (by
              intro b' m' x e hb' hI hx he
              unfold gRow at hx
              split at hx
              · cases hx; exact hb'
              · split at hx
                · cases hx; exact hb'
                · split at hx
                  · cases hx; cases he
                  · cases hx) (by intros; trivial) _ (b + dw s b) (m + 1) (Nat.le_refl _) h4 trivial
            rw [h2] at this
            exact this rfl
          refine ⟨h7.1, h7.2, ?_, hp, h2⟩
          exact row_le s a _ _ p h4 h2

theorem row_all (s : ByteArray) (a p : Nat) (ha : a ≤ s.size) (hap : a ≤ p) (hp : p ≤ s.size) (h : run (gRow s a 1) s.size a 0 = (p, 0)) :
    ∀ k, k ≤ (P (s.extract a p)).length → (∃ m, run (gRow s a 1) s.size (a + st (s.extract a p) k) m = (p, 0)) ∧ (k < (P (s.extract a p)).length → pr' (dp (s.extract a p) (st (s.extract a p) k)) = true ∧ dp (s.extract a p) (st (s.extract a p) k) = dp s (a + st (s.extract a p) k)) := by
  have z : (s.extract a p).size = p - a := size_ext s a p hp
  have key : ∀ k m, k < (P (s.extract a p)).length → run (gRow s a 1) s.size (a + st (s.extract a p) k) m = (p, 0) → (pr' (dp (s.extract a p) (st (s.extract a p) k)) = true ∧ dp (s.extract a p) (st (s.extract a p) k) = dp s (a + st (s.extract a p) k)) ∧ run (gRow s a 1) s.size (a + st (s.extract a p) (k + 1)) (m + 1) = (p, 0) := by
    intro k m hk hr
    have h1 := (st_lt (s.extract a p) k).2 hk
    rcases row_steps s a _ m p (by omega) (by omega) hr with h2 | ⟨h2, h3, h4, h5, h6⟩
    · omega
    · have hd := dec_mid s a p (st (s.extract a p) k) hap hp (by omega) h4
      have e1 : dp (s.extract a p) (st (s.extract a p) k) = dp s (a + st (s.extract a p) k) := by unfold dp; rw [hd]
      have e2 : dw (s.extract a p) (st (s.extract a p) k) = dw s (a + st (s.extract a p) k) := by unfold dw; rw [hd]
      refine ⟨⟨by rw [e1]; exact h3, e1⟩, ?_⟩
      rw [st_succ _ k hk, e2, ← Nat.add_assoc]
      exact h6
  intro k
  induction k with
  | zero =>
    intro hk
    refine ⟨⟨0, h⟩, fun hk2 => (key 0 0 hk2 h).1⟩
  | succ k ih =>
    intro hk
    obtain ⟨⟨m, hm⟩, _⟩ := ih (by omega)
    have h1 := (key k m (by omega) hm).2
    exact ⟨⟨_, h1⟩, fun hk2 => (key (k + 1) (m + 1) hk2 h1).1⟩

theorem name_is (s : ByteArray) (a p : Nat) (ha : a < s.size) (hb : tkBgn s a = 1) (h : tkEnd s a 1 = (p, 0)) (hk : ky (s.extract a p) = false) : nm (s.extract a p) = true := by
  obtain ⟨h1, h2⟩ := tkEnd_ok s a 1 p ha hb (by decide) h
  have hr : run (gRow s a 1) s.size a 0 = (p, 0) := by
    unfold tkEnd at h
    simpa using h
  have hlt : (gd s a && lt' (dp s a)) = true := by
    unfold tkBgn at hb
    split at hb
    · assumption
    · repeat' split at hb
      all_goals cases hb
  rw [Bool.and_eq_true] at hlt
  have z : (s.extract a p).size = p - a := size_ext s a p h2
  refine nm_hit _ (by omega) hk (fun j hj => ?_)
  have h3 := (row_all s a p (Nat.le_of_lt ha) (Nat.le_of_lt h1) h2 hr j (Nat.le_of_lt hj)).2 hj
  refine ⟨h3.1, fun e => ?_⟩
  subst e
  rw [h3.2]
  exact hlt.2

theorem tkBgn_kinds (s : ByteArray) (a : Nat) : tkBgn s a ≠ 2 := by
  unfold tkBgn
  repeat' split
  all_goals decide
/-- Each name is a name, each word a word. -/
theorem fnd_names (s : ByteArray) : ∀ (d a f : Nat), s.size - a ≤ d → ∀ t ∈ (fnd s a f).1, (t.k = 1 → nm (s.extract t.a t.e) = true) ∧ (t.k = 2 → ky (s.extract t.a t.e) = true)
  | d, a, f, hd, t, ht => by
    by_cases h : a < s.size
    · rw [fnd_step s a f h] at ht
      cases d with
      | zero => omega
      | succ d =>
        by_cases h1 : by8 s a = 10
        · rw [if_pos h1] at ht; exact fnd_names s d (a + 1) (f + 1) (by omega) t ht
        · rw [if_neg h1] at ht
          by_cases h2 : tkBl (by8 s a) = true
          · rw [if_pos h2] at ht; exact fnd_names s d (a + 1) f (by omega) t ht
          · rw [if_neg h2] at ht
            by_cases h3 : tkBgn s a = 0
            · rw [if_pos h3] at ht; cases ht
            · rw [if_neg h3] at ht
              by_cases h4 : (tkEnd s a (tkBgn s a)).2 ≠ 0
              · rw [if_pos h4] at ht; cases ht
              · rw [if_neg h4] at ht
                have h0 : (tkEnd s a (tkBgn s a)).2 = 0 := by simpa using h4
                have h5 := tkEnd_ok s a (tkBgn s a) (tkEnd s a (tkBgn s a)).1 h rfl h3 (Prod.ext rfl h0)
                rcases List.mem_cons.1 ht with rfl | ht
                · unfold tkTok
                  show ((if _ then _ else _) = 1 → _) ∧ ((if _ then _ else _) = 2 → _)
                  by_cases h6 : tkBgn s a = 1
                  · have e7 : (if tkBgn s a = 7 then tkTrim s (tkEnd s a (tkBgn s a)).1 else (tkEnd s a (tkBgn s a)).1) = (tkEnd s a (tkBgn s a)).1 := if_neg (by omega)
                    show (_ → nm (s.extract a (if tkBgn s a = 7 then _ else _)) = true) ∧ (_ → ky (s.extract a (if tkBgn s a = 7 then _ else _)) = true)
                    rw [e7]
                    by_cases h7 : ky (s.extract a (tkEnd s a (tkBgn s a)).1) = true
                    · rw [if_pos ⟨h6, h7⟩]
                      exact ⟨fun h => by omega, fun _ => h7⟩
                    · rw [if_neg (fun h => h7 h.2)]
                      refine ⟨fun _ => ?_, fun h => by omega⟩
                      rw [h6] at h0 h7 ⊢
                      exact name_is s a _ h h6 (Prod.ext rfl h0) (by simpa using h7)
                  · rw [if_neg (fun h => h6 h.1)]
                    refine ⟨fun h => absurd h h6, fun h => ?_⟩
                    have := tkBgn_kinds s a
                    omega
                · exact fnd_names s d _ 0 (by omega) t ht
    · rw [fnd_end s a f (by omega)] at ht; cases ht
theorem scn_names (s : ByteArray) : ∀ t ∈ (scn s).1, (t.k = 1 → nm (s.extract t.a t.e) = true) ∧ (t.k = 2 → ky (s.extract t.a t.e) = true) := fnd_names s _ 0 0 (Nat.le_refl _)

end Go.Proofs.YtaldkkeghackfaaDoor
