import Derived.Test.YtojjfbnpjhjidaaGreatDoorM08
import Derived.Test.YtojjfbnpjhjidaaGreatDoorM09
set_option linter.unusedVariables false
set_option linter.unusedSimpArgs false
namespace Go.Proofs.YtojjfbnpjhjidaaGreatDoor.Lx
open Go.RowKit
inductive Rd where
  | out (p e : Nat)
  | on (n : Nat)
def runF (g : Nat → Nat → Rd) : Nat → Nat → Nat → Nat × Nat
  | 0, a, _ => (a, 0)
  | f + 1, a, m => match g a m with
    | .out p e => (p, e)
    | .on n => runF g f (a + n) (m + 1)
def run (g : Nat → Nat → Rd) (z a m : Nat) : Nat × Nat := runF g (z + 1 - a) a m
def GoesOn (g : Nat → Nat → Rd) (z : Nat) : Prop := ∀ a m n, g a m = .on n → 1 ≤ n ∧ a + n ≤ z
theorem runF_fuel {g : Nat → Nat → Rd} {z : Nat} (hg : GoesOn g z) : ∀ (f f' a m : Nat), z + 1 ≤ a + f → z + 1 ≤ a + f' → a ≤ z → runF g f a m = runF g f' a m
  | 0, _, _, _, h, _, h2 => by omega
  | _ + 1, 0, _, _, _, h, h2 => by omega
  | f + 1, f' + 1, a, m, h, h1, h2 => by
    unfold runF
    cases e : g a m with
    | out p e => rfl
    | on n =>
      obtain ⟨h3, h4⟩ := hg a m n e
      exact runF_fuel hg f f' (a + n) (m + 1) (by omega) (by omega) h4
theorem run_out {g : Nat → Nat → Rd} {z a m p e : Nat} (ha : a ≤ z) (h : g a m = .out p e) : run g z a m = (p, e) := by
  unfold run
  rw [show z + 1 - a = (z - a) + 1 by omega]
  unfold runF
  rw [h]
theorem run_on {g : Nat → Nat → Rd} {z a m n : Nat} (hg : GoesOn g z) (ha : a ≤ z) (h : g a m = .on n) : run g z a m = run g z (a + n) (m + 1) := by
  obtain ⟨h1, h2⟩ := hg a m n h
  unfold run
  rw [show z + 1 - a = (z - a) + 1 by omega]
  rw [show runF g (z - a + 1) a m = runF g (z - a) (a + n) (m + 1) by rw [runF, h]]
  exact runF_fuel hg _ _ _ _ (by omega) (by omega) h2
theorem run_ind {g : Nat → Nat → Rd} {z : Nat} (hg : GoesOn g z) (I : Nat → Nat → Prop) (Q : Nat × Nat → Prop)
    (hO : ∀ a m p e, a ≤ z → I a m → g a m = .out p e → Q (p, e)) (hN : ∀ a m n, a ≤ z → I a m → g a m = .on n → I (a + n) (m + 1)) :
    ∀ (d a m : Nat), z - a ≤ d → a ≤ z → I a m → Q (run g z a m)
  | d, a, m, hd, ha, hI => by
    cases e : g a m with
    | out p q => rw [run_out ha e]; exact hO a m p q ha hI e
    | on n =>
      obtain ⟨h3, h4⟩ := hg a m n e
      rw [run_on hg ha e]
      cases d with
      | zero => omega
      | succ d => exact run_ind hg I Q hO hN d (a + n) (m + 1) (by omega) h4 (hN a m n ha hI e)
def tkBl (c : Nat) : Bool := c == 32 || c == 9 || c == 13
def tkCtl (s : ByteArray) (i : Nat) : Bool := gd s i && (decide (dp s i < 32) || dp s i == 127)
def tkDg (c : Nat) : Bool := decide (48 ≤ c) && decide (c ≤ 57)
def tkBgn (s : ByteArray) (a : Nat) : Nat :=
  if (gd s a && lt' (dp s a)) = true then 1 else if tkDg (by8 s a) = true then 3 else if by8 s a = 34 then 4 else if by8 s a = 39 then 5
  else if by8 s a = 47 ∧ a + 1 < s.size ∧ by8 s (a + 1) = 47 then 7 else if by8 s a = 123 then 8 else if (sg s a).size ≠ 0 then 6 else 0
def gRow (s : ByteArray) (f k : Nat) (a _ : Nat) : Rd :=
  if s.size ≤ a then .out a 0
  else if (k = 1 ∧ (gd s a && pr' (dp s a)) = false) ∨ (k = 3 ∧ tkDg (by8 s a) = false) then .out a 0
  else if 65535 < a + dw s a - f then .out f 103
  else .on (dw s a)
def gQuo (s : ByteArray) (f q : Nat) (only : Bool) (a m : Nat) : Rd :=
  if s.size ≤ a ∨ by8 s a = 10 then .out f 101
  else if 65535 < a + dw s a - f then .out f 103
  else if by8 s a = q ∧ (only = false ∨ m = 1) then .out (a + 1) 0
  else if tkCtl s a = true ∨ (only = true ∧ (m = 1 ∨ by8 s a = q)) then .out a 102
  else .on (dw s a)
def gCom (s : ByteArray) (f : Nat) (blk : Bool) (a _ : Nat) : Rd :=
  if s.size ≤ a then (if blk = true then .out f 101 else .out a 0)
  else if blk = false ∧ by8 s a = 10 then .out a 0
  else if 65535 < a + 1 - f then .out f 103
  else if blk = true ∧ by8 s a = 125 then .out (a + 1) 0
  else .on 1
theorem gRow_on (s : ByteArray) (f k : Nat) : GoesOn (gRow s f k) s.size := by
  intro a m n h
  unfold gRow at h
  split at h
  · cases h
  · rename_i h1
    obtain ⟨h2, h3, h4⟩ := dw_facts s a (by omega)
    split at h
    · cases h
    · split at h
      · cases h
      · cases h; exact ⟨h2, h4⟩
theorem gQuo_on (s : ByteArray) (f q : Nat) (o : Bool) : GoesOn (gQuo s f q o) s.size := by
  intro a m n h
  unfold gQuo at h
  split at h
  · cases h
  · rename_i h1
    obtain ⟨h2, h3, h4⟩ := dw_facts s a (by omega)
    split at h
    · cases h
    · split at h
      · cases h
      · split at h
        · cases h
        · cases h; exact ⟨h2, h4⟩
theorem gCom_on (s : ByteArray) (f : Nat) (o : Bool) : GoesOn (gCom s f o) s.size := by
  intro a m n h
  unfold gCom at h
  split at h
  · split at h <;> cases h
  · rename_i h1
    split at h
    · cases h
    · split at h
      · cases h
      · split at h
        · cases h
        · cases h; exact ⟨Nat.le_refl _, by omega⟩
def tkEnd (s : ByteArray) (a k : Nat) : Nat × Nat :=
  if k = 4 then run (gQuo s a 34 false) s.size (a + 1) 0
  else if k = 5 then run (gQuo s a 39 true) s.size (a + 1) 0
  else if k = 7 then run (gCom s a false) s.size a 0
  else if k = 8 then run (gCom s a true) s.size a 0
  else if k = 6 then (a + (sg s a).size, 0)
  else run (gRow s a k) s.size a 0
theorem sg_in (s : ByteArray) (a : Nat) (h : (sg s a).size ≠ 0) : a + (sg s a).size ≤ s.size ∧ s.extract a (a + (sg s a).size) = sg s a ∧ sg s a ∈ signL := by
  unfold sg at h ⊢
  cases e : signL.find? (pre s a) with
  | none => rw [e] at h; exact absurd rfl h
  | some x =>
    have h1 := List.find?_some e
    have h2 := List.mem_of_find?_eq_some e
    unfold pre at h1
    have h3 := of_decide_eq_true h1
    exact ⟨h3.1, h3.2, h2⟩
theorem sg_two (s : ByteArray) (a : Nat) : (sg s a).size ≤ 2 := by
  by_cases h : (sg s a).size ≠ 0
  · have h1 := (sg_in s a h).2.2
    have h2 : ∀ x ∈ signL, x.size ≤ 2 := by decide
    exact h2 _ h1
  · omega
theorem tkEnd_ok (s : ByteArray) (a k p : Nat) (ha : a < s.size) (hk : tkBgn s a = k) (h0 : k ≠ 0) (h : tkEnd s a k = (p, 0)) : a < p ∧ p ≤ s.size := by
  obtain ⟨d1, d2, d3⟩ := dw_facts s a ha
  have hQ : ∀ q o, run (gQuo s a q o) s.size (a + 1) 0 = (p, 0) → a < p ∧ p ≤ s.size := by
    intro q o h
    have := run_ind (gQuo_on s a q o) (fun b _ => a < b) (fun r => r.2 = 0 → a < r.1 ∧ r.1 ≤ s.size) (by
      intro b m x e hb hI hx he
      unfold gQuo at hx
      split at hx
      · cases hx; cases he
      · split at hx
        · cases hx; cases he
        · split at hx
          · cases hx; exact ⟨by show a < b + 1; omega, by show b + 1 ≤ s.size; omega⟩
          · split at hx
            · cases hx; cases he
            · cases hx) (by intro b m n hb hI hx; show a < b + n; omega) _ (a + 1) 0 (Nat.le_refl _) (by omega) (by show a < a + 1; omega)
    rw [h] at this
    exact this rfl
  have hC : ∀ o, (o = true → by8 s a ≠ 125) → (o = false → by8 s a ≠ 10) → run (gCom s a o) s.size a 0 = (p, 0) → a < p ∧ p ≤ s.size := by
    intro o h1 h2 h
    have := run_ind (gCom_on s a o) (fun b _ => a ≤ b) (fun r => r.2 = 0 → a < r.1 ∧ r.1 ≤ s.size) (by
      intro b m x e hb hI hx he
      unfold gCom at hx
      split at hx
      · split at hx
        · cases hx; cases he
        · cases hx; exact ⟨by show a < b; omega, hb⟩
      · split at hx
        · rename_i h3
          cases hx
          refine ⟨?_, hb⟩
          show a < b
          rcases Nat.lt_or_ge a b with h4 | h4
          · exact h4
          · exact absurd (by rw [show a = b by omega]; exact h3.2) (h2 h3.1)
        · split at hx
          · cases hx; cases he
          · split at hx
            · cases hx; exact ⟨by show a < b + 1; omega, by show b + 1 ≤ s.size; omega⟩
            · cases hx) (by intro b m n hb hI hx; show a ≤ b + n; omega) _ a 0 (Nat.le_refl _) (by omega) (Nat.le_refl _)
    rw [h] at this
    exact this rfl
  have hR : ((k = 1 ∧ (gd s a && pr' (dp s a)) = false) ∨ (k = 3 ∧ tkDg (by8 s a) = false) → False) → run (gRow s a k) s.size a 0 = (p, 0) → a < p ∧ p ≤ s.size := by
    intro h1 h
    have := run_ind (gRow_on s a k) (fun b _ => a ≤ b) (fun r => r.2 = 0 → a < r.1 ∧ r.1 ≤ s.size) (by
      intro b m x e hb hI hx he
      unfold gRow at hx
      split at hx
      · cases hx; exact ⟨by show a < b; omega, hb⟩
      · split at hx
        · rename_i h3
          cases hx
          refine ⟨?_, hb⟩
          show a < b
          rcases Nat.lt_or_ge a b with h4 | h4
          · exact h4
          · have : b = a := Nat.le_antisymm h4 hI
            rw [this] at h3
            exact absurd h3 h1
        · split at hx
          · cases hx; cases he
          · cases hx) (by intro b m n hb hI hx; show a ≤ b + n; omega) _ a 0 (Nat.le_refl _) (by omega) (Nat.le_refl _)
    rw [h] at this
    exact this rfl
  unfold tkEnd at h
  unfold tkBgn at hk
  by_cases c1 : (gd s a && lt' (dp s a)) = true
  · rw [if_pos c1] at hk
    subst hk
    simp only [show ¬ (1 : Nat) = 4 by decide, show ¬ (1 : Nat) = 5 by decide, show ¬ (1 : Nat) = 7 by decide, show ¬ (1 : Nat) = 8 by decide, show ¬ (1 : Nat) = 6 by decide, if_false] at h
    refine hR ?_ h
    rintro (⟨_, h3⟩ | ⟨h3, _⟩)
    · rw [Bool.and_eq_true] at c1
      rw [c1.1, pr_of_lt c1.2] at h3
      cases h3
    · cases h3
  · rw [if_neg c1] at hk
    by_cases c2 : tkDg (by8 s a) = true
    · rw [if_pos c2] at hk
      subst hk
      simp only [show ¬ (3 : Nat) = 4 by decide, show ¬ (3 : Nat) = 5 by decide, show ¬ (3 : Nat) = 7 by decide, show ¬ (3 : Nat) = 8 by decide, show ¬ (3 : Nat) = 6 by decide, if_false] at h
      refine hR ?_ h
      rintro (⟨h3, _⟩ | ⟨_, h3⟩)
      · cases h3
      · rw [c2] at h3; cases h3
    · rw [if_neg c2] at hk
      by_cases c3 : by8 s a = 34
      · rw [if_pos c3] at hk
        subst hk
        rw [if_pos rfl] at h
        exact hQ _ _ h
      · rw [if_neg c3] at hk
        by_cases c4 : by8 s a = 39
        · rw [if_pos c4] at hk
          subst hk
          rw [if_neg (by decide), if_pos rfl] at h
          exact hQ _ _ h
        · rw [if_neg c4] at hk
          by_cases c5 : by8 s a = 47 ∧ a + 1 < s.size ∧ by8 s (a + 1) = 47
          · rw [if_pos c5] at hk
            subst hk
            rw [if_neg (by decide), if_neg (by decide), if_pos rfl] at h
            exact hC false (by intro h; cases h) (by intro _; rw [c5.1]; decide) h
          · rw [if_neg c5] at hk
            by_cases c6 : by8 s a = 123
            · rw [if_pos c6] at hk
              subst hk
              rw [if_neg (by decide), if_neg (by decide), if_neg (by decide), if_pos rfl] at h
              exact hC true (by intro _; rw [c6]; decide) (by intro h; cases h) h
            · rw [if_neg c6] at hk
              by_cases c7 : (sg s a).size ≠ 0
              · rw [if_pos c7] at hk
                subst hk
                rw [if_neg (by decide), if_neg (by decide), if_neg (by decide), if_neg (by decide), if_pos rfl] at h
                cases h
                exact ⟨by omega, (sg_in s a c7).1⟩
              · rw [if_neg c7] at hk
                exact absurd hk.symm h0
structure Tk where
  k : Nat
  a : Nat
  e : Nat
  f : Nat
def tkTrim (s : ByteArray) : Nat → Nat
  | 0 => 0
  | p + 1 => if tkBl (by8 s p) = true then tkTrim s p else p + 1
def tkTok (s : ByteArray) (k a p f : Nat) : Tk := ⟨if k = 1 ∧ ky (s.extract a p) = true then 2 else k, a, if k = 7 then tkTrim s p else p, f⟩
def fndF (s : ByteArray) : Nat → Nat → Nat → List Tk × Nat × Nat
  | 0, _, _ => ([], 0, 0)
  | g + 1, a, f =>
    if s.size ≤ a then ([], 0, 0)
    else if by8 s a = 10 then fndF s g (a + 1) (f + 1)
    else if tkBl (by8 s a) = true then fndF s g (a + 1) f
    else if tkBgn s a = 0 then ([], 100, a)
    else if (tkEnd s a (tkBgn s a)).2 ≠ 0 then ([], (tkEnd s a (tkBgn s a)).2, (tkEnd s a (tkBgn s a)).1)
    else (tkTok s (tkBgn s a) a (tkEnd s a (tkBgn s a)).1 f :: (fndF s g (tkEnd s a (tkBgn s a)).1 0).1, (fndF s g (tkEnd s a (tkBgn s a)).1 0).2)
def fnd (s : ByteArray) (a f : Nat) : List Tk × Nat × Nat := fndF s (s.size - a) a f
theorem fndF_fuel (s : ByteArray) : ∀ (g g' a f : Nat), s.size ≤ a + g → s.size ≤ a + g' → fndF s g a f = fndF s g' a f
  | 0, 0, _, _, _, _ => rfl
  | 0, g' + 1, a, f, h, _ => by unfold fndF; rw [if_pos (by omega)]
  | g + 1, 0, a, f, _, h => by
    rw [show fndF s 0 a f = ([], 0, 0) from rfl]
    unfold fndF; rw [if_pos (by omega)]
  | g + 1, g' + 1, a, f, h, h' => by
    unfold fndF
    by_cases h1 : s.size ≤ a
    · rw [if_pos h1, if_pos h1]
    · rw [if_neg h1, if_neg h1, fndF_fuel s g g' (a + 1) (f + 1) (by omega) (by omega), fndF_fuel s g g' (a + 1) f (by omega) (by omega)]
      by_cases h2 : tkBgn s a = 0
      · rw [if_pos h2, if_pos h2]
      · by_cases h3 : (tkEnd s a (tkBgn s a)).2 ≠ 0
        · rw [if_pos h3, if_pos h3]
        · have h4 := tkEnd_ok s a (tkBgn s a) (tkEnd s a (tkBgn s a)).1 (by omega) rfl h2 (Prod.ext rfl (by simpa using h3))
          rw [fndF_fuel s g g' _ 0 (by omega) (by omega)]
theorem fnd_end (s : ByteArray) (a f : Nat) (h : s.size ≤ a) : fnd s a f = ([], 0, 0) := by
  unfold fnd; rw [show s.size - a = 0 by omega]; rfl
theorem fnd_step (s : ByteArray) (a f : Nat) (h : a < s.size) : fnd s a f =
    if by8 s a = 10 then fnd s (a + 1) (f + 1)
    else if tkBl (by8 s a) = true then fnd s (a + 1) f
    else if tkBgn s a = 0 then ([], 100, a)
    else if (tkEnd s a (tkBgn s a)).2 ≠ 0 then ([], (tkEnd s a (tkBgn s a)).2, (tkEnd s a (tkBgn s a)).1)
    else (tkTok s (tkBgn s a) a (tkEnd s a (tkBgn s a)).1 f :: (fnd s (tkEnd s a (tkBgn s a)).1 0).1, (fnd s (tkEnd s a (tkBgn s a)).1 0).2) := by
  have h0 : fnd s a f = fndF s ((s.size - (a + 1)) + 1) a f := by unfold fnd; rw [show s.size - a = (s.size - (a + 1)) + 1 by omega]
  rw [h0]
  unfold fndF
  rw [if_neg (by omega)]
  by_cases h2 : tkBgn s a = 0
  · simp only [if_pos h2]; rfl
  · by_cases h3 : (tkEnd s a (tkBgn s a)).2 ≠ 0
    · simp only [if_pos h3]; rfl
    · have h4 := tkEnd_ok s a (tkBgn s a) (tkEnd s a (tkBgn s a)).1 h rfl h2 (Prod.ext rfl (by simpa using h3))
      rw [fndF_fuel s (s.size - (a + 1)) (s.size - (tkEnd s a (tkBgn s a)).1) (tkEnd s a (tkBgn s a)).1 0 (by omega) (by omega)]
      rfl
def scn (s : ByteArray) : List Tk × Nat × Nat := fnd s 0 0
theorem tkTrim_le (s : ByteArray) : ∀ p, tkTrim s p ≤ p
  | 0 => Nat.le_refl _
  | p + 1 => by
    unfold tkTrim
    split
    · have := tkTrim_le s p; omega
    · exact Nat.le_refl _
theorem tkTrim_ge (s : ByteArray) (a : Nat) (h : tkBl (by8 s a) = false) : ∀ p, a < p → a < tkTrim s p
  | 0, h1 => by omega
  | p + 1, h1 => by
    unfold tkTrim
    by_cases e : tkBl (by8 s p) = true
    · rw [if_pos e]
      refine tkTrim_ge s a h p ?_
      rcases Nat.lt_or_ge a p with h2 | h2
      · exact h2
      · rw [show a = p by omega, e] at h; cases h
    · rw [if_neg e]; exact h1
theorem tkTrim_gap (s : ByteArray) : ∀ p i, tkTrim s p ≤ i → i < p → tkBl (by8 s i) = true
  | 0, _, _, h => by omega
  | p + 1, i, h, h1 => by
    unfold tkTrim at h
    by_cases e : tkBl (by8 s p) = true
    · rw [if_pos e] at h
      by_cases e2 : i = p
      · rw [e2]; exact e
      · exact tkTrim_gap s p i h (by omega)
    · rw [if_neg e] at h; omega
end Go.Proofs.YtojjfbnpjhjidaaGreatDoor.Lx
