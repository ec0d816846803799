import Derived.Test.YtkglkhijngpgiaaYd
set_option linter.unusedVariables false
set_option linter.unusedSimpArgs false
namespace Go.Proofs.Ytkglkhijngpgiaa
open Go.RowKit

/-! What ParseNests looks at (no memory): the nodes that are open (the innermost first), how many tokens were there. -/
def nchk (l : List Tv) (i : Nat) (x : Ev) (s : List Int × Nat) : Option (List Int × Nat) :=
  if x.k = 1 then (if x.d = tv0 ∧ (decide (i = 0) = decide (x.n = 1)) then some (x.n :: s.1, s.2) else none)
  else if x.k = 3 then (match s.1 with | n :: r => if n = x.n ∧ x.d = tv0 then some (r, s.2) else none | [] => none)
  else if x.k = 2 ∨ x.k = 4 then (match l[s.2]? with | some t => if x.d = t ∧ x.n = 0 ∧ (decide (x.k = 4) = (t.k == 7 || t.k == 8)) ∧ s.1 ≠ [] then some (s.1, s.2 + 1) else none | none => none)
  else none
def nrun (l : List Tv) : Nat → List Ev → List Int × Nat → Option (List Int × Nat)
  | i, [], s => some s
  | i, x :: E, s => match nchk l i x s with | some s' => if s'.1.length ≤ 1000 then nrun l (i + 1) E s' else none | none => none
theorem nrun_app (l : List Tv) : ∀ (a b : List Ev) (i : Nat) (s s' : List Int × Nat), nrun l i a s = some s' → nrun l i (a ++ b) s = nrun l (i + a.length) b s'
  | [], b, i, s, s', h => by cases h; rfl
  | x :: a, b, i, s, s', h => by
    simp only [nrun, List.cons_append] at h ⊢
    cases hc : nchk l i x s with
    | none => rw [hc] at h; cases h
    | some s1 =>
      rw [hc] at h
      simp only at h ⊢
      split
      · rename_i h1
        rw [if_pos h1] at h
        rw [nrun_app l a b (i + 1) s1 s' h, List.length_cons]
        congr 1
        omega
      · rename_i h1; rw [if_neg h1] at h; cases h
theorem nrun_closes (l : List Tv) : ∀ (c : List Ev) (i : Nat) (s s' : List Int) (k : Nat), (∀ e ∈ c, e.k = 3 ∧ e.d = tv0) → play s c = some s' → s.length ≤ 1000 → nrun l i c (s, k) = some (s', k) ∧ s'.length ≤ s.length
  | [], i, s, s', k, _, h, _ => by cases h; exact ⟨rfl, Nat.le_refl _⟩
  | e :: c, i, s, s', k, hc, h, hs => by
    obtain ⟨h3, hd⟩ := hc e (List.mem_cons_self ..)
    have h1 : ¬ e.k = 1 := by omega
    simp only [play, if_neg h1, if_pos h3] at h
    cases s with
    | nil => cases h
    | cons n s =>
      simp only at h
      split at h
      · rename_i hn
        have hs2 : s.length ≤ 1000 := by simp at hs; omega
        obtain ⟨a, b⟩ := nrun_closes l c (i + 1) s s' k (fun x hx => hc x (List.mem_cons_of_mem _ hx)) h hs2
        refine ⟨?_, by simp; omega⟩
        simp only [nrun, nchk, if_neg h1, if_pos h3, hn, hd, and_self, if_true, if_pos hs2]
        exact a
      · cases h
theorem nrun_opens (l : List Tv) : ∀ (o : List Ev) (i : Nat) (s s' : List Int) (k : Nat), (∀ e ∈ o, e.k = 1 ∧ e.d = tv0 ∧ e.n ≠ 1) → play s o = some s' → s'.length ≤ 1000 → 1 ≤ i → nrun l i o (s, k) = some (s', k) ∧ s.length ≤ s'.length
  | [], i, s, s', k, _, h, _, _ => by cases h; exact ⟨rfl, Nat.le_refl _⟩
  | e :: o, i, s, s', k, hc, h, hs, hi => by
    obtain ⟨h1, hd, hn⟩ := hc e (List.mem_cons_self ..)
    simp only [play, if_pos h1] at h
    obtain ⟨a, b⟩ := nrun_opens l o (i + 1) (e.n :: s) s' k (fun x hx => hc x (List.mem_cons_of_mem _ hx)) h hs (by omega)
    simp at b
    refine ⟨?_, by omega⟩
    have hi0 : ¬ i = 0 := by omega
    have hle : (e.n :: s).length ≤ 1000 := by simp; omega
    simp only [nrun, nchk, if_pos h1, hd, true_and, hi0, hn, decide_false, if_true, if_pos hle]
    exact a
theorem play_len {s s' : List Int} {a b : List Ev} (h : play s (a ++ b) = some s') : ∃ s1, play s a = some s1 := by
  induction a generalizing s with
  | nil => exact ⟨s, rfl⟩
  | cons e a ih =>
    simp only [play, List.cons_append] at h ⊢
    split
    · rename_i h1; rw [if_pos h1] at h; exact ih h
    · rename_i h1
      rw [if_neg h1] at h
      split
      · rename_i h2
        rw [if_pos h2] at h
        cases s with
        | nil => cases h
        | cons n s =>
          simp only at h ⊢
          split
          · rename_i h3; rw [if_pos h3] at h; exact ih h
          · rename_i h3; rw [if_neg h3] at h; cases h
      · rename_i h2; rw [if_neg h2] at h; exact ih h
/-- One token. -/
theorem nrun_put {l : List Tv} {st st' : St} {t : Tv} {ev : List Ev} {i k : Nat} (h : Good st) (hp : Putr t st ev 0 st') (ht : l[k]? = some t) (hi : i = 0 ↔ st.depth = 0) : nrun l i ev (st.path, k) = some (st'.path, k + 1) ∧ 1 ≤ ev.length ∧ st'.depth ≠ 0 := by
  obtain ⟨g1, g2, g3, g4⟩ := put_keep h hp
  have base : ∀ {K : List It} {n : Int}, Good (.live K n) → (i = 0 ↔ n = 0) → nrun l i (begE n) (lvs K, k) = some (lvs (beg K n), k) ∧ (1 ≤ i + (begE n).length) := by
    intro K n hg hin
    obtain ⟨b1, b2, b3, b4, b5, hbot, hbn, hbe⟩ := good_beg hg
    by_cases h0 : n = 0
    · subst h0
      obtain rfl : i = 0 := hin.2 rfl
      have hK : K = [] := by
        rcases hg.2 with h2 | h2
        · exact h2.2
        · have := bot_lv h2; have := hg.1.lv; omega
      subst hK
      exact ⟨by rfl, by decide⟩
    · have hb : (n == 0) = false := by simpa using h0
      have : i ≠ 0 := fun e => h0 (hin.1 e)
      simp only [beg, begE, hb, Bool.false_eq_true, if_false]
      exact ⟨rfl, by simp; omega⟩
  cases hp with
  | stuck => rcases h with h | h <;> cases h
  | note hc =>
    rename_i K n
    obtain ⟨a, a2⟩ := base h hi
    obtain ⟨b1, b2, b3, b4, b5, hbot, hbn, hbe⟩ := good_beg h
    have hl1 := bot_lv hbot
    have hne : lvs (beg K n) ≠ [] := fun e => by rw [e] at hl1; simp at hl1
    refine ⟨?_, by simp, fun e => by have e' : begN n = 0 := e; omega⟩
    show nrun l i (begE n ++ [⟨4, 0, t⟩]) (lvs K, k) = some (lvs (beg K n), k + 1)
    rw [nrun_app l _ _ _ _ _ a]
    have hle : (lvs (beg K n)).length ≤ 1000 := by omega
    simp [nrun, nchk, ht, hc, hne, hle]
  | yes hc hR hk hm =>
    rename_i K L n m E k'
    obtain ⟨a, a2⟩ := base h hi
    obtain ⟨b1, b2, b3, b4, b5, hbot, hbn, hbe⟩ := good_beg h
    obtain ⟨c1, c2, c3, o, c4, c5, c6, c7⟩ := ru_keep hR rfl b1 b2 b3
    obtain ⟨cc, oo, d1, d2, d3⟩ := ru_phase hR rfl b1
    have hL := ru_bot hR rfl hbot
    have hl1 := bot_lv hL
    have hne : lvs L ≠ [] := fun e => by rw [e] at hl1; simp at hl1
    obtain rfl : o = cc ++ oo := List.append_cancel_left (c4.symm.trans d1)
    obtain ⟨s1, p1⟩ := play_len c5
    have p2 : play s1 oo = some (lvs L) := by rw [← c5, play_app _ _ _ _ p1]
    obtain ⟨n1, n2⟩ := nrun_closes l cc (i + (begE n).length) (lvs (beg K n)) s1 k (fun e he => ⟨d2 e he, (c6 e (List.mem_append_left _ he)).1⟩) p1 (by omega)
    obtain ⟨n3, n4⟩ := nrun_opens l oo (i + (begE n).length + cc.length) s1 (lvs L) k (fun e he => ⟨d3 e he, (c6 e (List.mem_append_right _ he)).1, (c6 e (List.mem_append_right _ he)).2.2 (d3 e he)⟩) p2 (by omega) (by omega)
    refine ⟨?_, by simp, fun e => by have e' : m = 0 := e; omega⟩
    show nrun l i (E ++ [⟨2, 0, t⟩]) (lvs K, k) = some (lvs L, k + 1)
    rw [c4, List.append_assoc, nrun_app l _ _ _ _ _ a, List.append_assoc, nrun_app l _ _ _ _ _ n1, nrun_app l _ _ _ _ _ n3]
    have hle : (lvs L).length ≤ 1000 := by omega
    simp [nrun, nchk, ht, hc, hne, hle]

end Go.Proofs.Ytkglkhijngpgiaa
