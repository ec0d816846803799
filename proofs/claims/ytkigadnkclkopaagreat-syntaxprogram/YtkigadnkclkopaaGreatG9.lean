import Derived.Test.YtkigadnkclkopaaGreatG4
import Derived.Test.YtkigadnkclkopaaGreatG7
set_option linter.unusedVariables false
set_option linter.unusedSimpArgs false
namespace Go.Proofs.YtkigadnkclkopaaGreat
open Go.RowKit

/-! A concrete run (no memory). -/
def ruF (t : Tv) : Nat → List It → Int → List Ev → Option (Nat × Ro)
  | 0, _, _, _ => none
  | f + 1, [], n, E => some (0, .no)
  | f + 1, i :: K, n, E => match It.step t i with
    | .ref => some (0, .no)
    | .tk => some (0, .yes K n E)
    | .go d o r => match ruF t f (r ++ K) (n + d) (E ++ o) with
      | some (k, R) => some (k + 1, R)
      | none => none
theorem ruF_is {t : Tv} : ∀ (f : Nat) (K : List It) (n : Int) (E : List Ev) (k : Nat) (R : Ro), ruF t f K n E = some (k, R) → Ru t k K n E R
  | 0, _, _, _, _, _, h => by cases h
  | f + 1, [], n, E, k, R, h => by cases h; exact .nil
  | f + 1, i :: K, n, E, k, R, h => by
    simp only [ruF] at h
    cases hs : It.step t i with
    | ref => rw [hs] at h; cases h; exact .ref hs
    | tk => rw [hs] at h; cases h; exact .tk hs
    | go d o r =>
      rw [hs] at h
      simp only at h
      cases hr : ruF t f (r ++ K) (n + d) (E ++ o) with
      | none => rw [hr] at h; cases h
      | some x =>
        obtain ⟨k', R'⟩ := x
        rw [hr] at h
        cases h
        exact .go hs (ruF_is f _ _ _ _ _ hr)
/-- Put at a token that is no comment, for a concrete one. -/
def putF (t : Tv) : Pst → Option (List Ev × Int × Pst)
  | .live K n => if (t.k == 7 || t.k == 8) then none else match ruF t 20 (beg K n) (begN n) (begE n) with
    | some (k, .yes L m E) => if m ≤ 1000 then some (E ++ [⟨2, 0, t⟩], 0, .live L m) else none
    | some (k, .no) => some ([], 120, .stuck 120 n)
    | none => none
  | _ => none
theorem ruF_le {t : Tv} : ∀ (f : Nat) (K : List It) (n : Int) (E : List Ev) (k : Nat) (R : Ro), ruF t f K n E = some (k, R) → k + 1 ≤ f
  | 0, _, _, _, _, _, h => by cases h
  | f + 1, [], n, E, k, R, h => by cases h; omega
  | f + 1, i :: K, n, E, k, R, h => by
    simp only [ruF] at h
    cases hs : It.step t i with
    | ref => rw [hs] at h; cases h; omega
    | tk => rw [hs] at h; cases h; omega
    | go d o r =>
      rw [hs] at h
      simp only at h
      cases hr : ruF t f (r ++ K) (n + d) (E ++ o) with
      | none => rw [hr] at h; cases h
      | some x =>
        obtain ⟨k', R'⟩ := x
        rw [hr] at h
        cases h
        have := ruF_le f _ _ _ _ _ hr
        omega
theorem putF_is {t : Tv} {st : Pst} {x : List Ev × Int × Pst} (h : putF t st = some x) : Putr t st x.1 x.2.1 x.2.2 := by
  cases st with
  | live K n =>
    simp only [putF] at h
    split at h
    · cases h
    · rename_i hc
      have hc' : (t.k == 7 || t.k == 8) = false := by simpa using hc
      cases hr : ruF t 20 (beg K n) (begN n) (begE n) with
      | none => rw [hr] at h; cases h
      | some y =>
        obtain ⟨k, R⟩ := y
        have h1 := ruF_is _ _ _ _ _ _ hr
        have h2 := ruF_le _ _ _ _ _ _ hr
        rw [hr] at h
        cases R with
        | no => cases h; exact .no hc' h1 (by omega)
        | yes L m E =>
          simp only at h
          split at h
          · cases h; exact .yes hc' h1 (by omega) (by assumption)
          · cases h
  | stuck e n => cases h
  | shut => cases h
def alrF : List Tv → Pst → Option (List Ev × Int × Nat)
  | [], .live K n => if K.length = 1 then some ([⟨3, 1, tv0⟩], 0, 0) else some ([], 121, 0)
  | [], _ => none
  | t :: l, st => match putF t st with
    | some (ev, c, st') => if c = 0 then (match alrF l st' with | some (E, c', k) => some (ev ++ E, c', k + 1) | none => none) else some ([], c, 0)
    | none => none
theorem alrF_is : ∀ (l : List Tv) (st : Pst) (E : List Ev) (c : Int) (k : Nat), alrF l st = some (E, c, k) → Alr st l E c k
  | [], st, E, c, k, h => by
    cases st with
    | live K n =>
      simp only [alrF] at h
      split at h
      · rename_i h1; cases h; exact .nil (.all h1)
      · rename_i h1; cases h; exact .nil (.open h1)
    | stuck e n => cases h
    | shut => cases h
  | t :: l, st, E, c, k, h => by
    simp only [alrF] at h
    cases hp : putF t st with
    | none => rw [hp] at h; cases h
    | some x =>
      obtain ⟨ev, c1, st'⟩ := x
      have h1 := putF_is hp
      rw [hp] at h
      simp only at h h1
      split at h
      · rename_i hc
        subst hc
        cases hr : alrF l st' with
        | none => rw [hr] at h; cases h
        | some y =>
          obtain ⟨E2, c2, k2⟩ := y
          rw [hr] at h
          cases h
          exact .on h1 (alrF_is l st' _ _ _ hr)
      · rename_i hc
        cases h
        exact .err h1 hc
/-! What the events build (no memory). -/
theorem play_len {s s' : List Int} {a b : List Ev} (h : play s (a ++ b) = some s') : ∃ s1, play s a = some s1 := by
  induction a generalizing s with
  | nil => exact ⟨s, rfl⟩
  | cons e a ih =>
    simp only [play, List.cons_append] at h ⊢
    split
    · rename_i h1; rw [if_pos h1] at h; exact ih h
    · rename_i h1
      rw [if_neg h1] at h
      split
      · rename_i h2
        rw [if_pos h2] at h
        cases s with
        | nil => cases h
        | cons n s =>
          simp only at h ⊢
          split
          · rename_i h3; rw [if_pos h3] at h; exact ih h
          · rename_i h3; rw [if_neg h3] at h; cases h
      · rename_i h2; rw [if_neg h2] at h; exact ih h
mutual
def Ful : Nd → Prop
  | .mk k d c => if k = 0 then c = [] else c ≠ [] ∧ d = tv0 ∧ FulL c
def FulL : List Nd → Prop
  | [] => True
  | n :: r => Ful n ∧ FulL r
end
theorem fulL_app : ∀ (a b : List Nd), FulL a → FulL b → FulL (a ++ b)
  | [], b, _, h => h
  | n :: r, b, h, h' => by
    simp only [List.cons_append, FulL] at h ⊢
    exact ⟨h.1, fulL_app r b h.2 h'⟩
/-- The nodes that are open: the kids that were put into them are whole; none has kind 0. -/
def FS (S : List (Int × List Nd)) : Prop := ∀ x ∈ S, FulL x.2 ∧ x.1 ≠ 0
def TopNe (S : List (Int × List Nd)) : Prop := ∃ k c S', S = (k, c) :: S' ∧ c ≠ []
theorem bld_closes : ∀ (c : List Ev) (S : List (Int × List Nd)) (s' : List Int), (∀ e ∈ c, e.k = 3) → play (S.map (·.1)) c = some s' → s' ≠ [] → FS S → (c ≠ [] → TopNe S) → ∃ S', S'.map (·.1) = s' ∧ FS S' ∧ (c ≠ [] → TopNe S') ∧ (c = [] → S' = S) ∧ ∀ rest, bld (c ++ rest) S = bld rest S'
  | [], S, s', _, h, _, hF, hT => by cases h; exact ⟨S, rfl, hF, (fun h => absurd rfl h), fun _ => rfl, fun rest => rfl⟩
  | e :: c, S, s', hc, h, hs, hF, hT => by
    have h3 := hc e (List.mem_cons_self ..)
    have h1 : ¬ e.k = 1 := by omega
    obtain ⟨k, kids, S1, rfl, hne⟩ := hT (by simp)
    simp only [List.map_cons, play, if_neg h1, if_pos h3] at h
    split at h
    · rename_i hk
      obtain ⟨k', c', S2, rfl⟩ : ∃ k' c' S2, S1 = (k', c') :: S2 := by
        cases S1 with
        | nil =>
          exfalso
          cases c with
          | nil => simp [play] at h; exact hs h
          | cons e2 c2 =>
            have h3' := hc e2 (by simp)
            have h1' : ¬ e2.k = 1 := by omega
            simp [play, h1', h3'] at h
        | cons x S2 => exact ⟨x.1, x.2, S2, rfl⟩
      have hk0 : k ≠ 0 := (hF (k, kids) (by simp)).2
      have hful : Ful (.mk k tv0 kids) := by rw [Ful, if_neg hk0]; exact ⟨hne, rfl, (hF (k, kids) (by simp)).1⟩
      have hF2 : FS ((k', c' ++ [.mk k tv0 kids]) :: S2) := by
        intro x hx
        rcases List.mem_cons.1 hx with rfl | hx
        · have := hF (k', c') (by simp)
          exact ⟨fulL_app _ _ this.1 (by simp [FulL, hful]), this.2⟩
        · exact hF x (by simp [hx])
      have hT2 : TopNe ((k', c' ++ [.mk k tv0 kids]) :: S2) := ⟨k', _, S2, rfl, by simp⟩
      obtain ⟨S', a1, a2, a3, a4, a5⟩ := bld_closes c ((k', c' ++ [.mk k tv0 kids]) :: S2) s' (fun x hx => hc x (List.mem_cons_of_mem _ hx)) (by simpa using h) hs hF2 (fun _ => hT2)
      refine ⟨S', a1, a2, fun _ => ?_, (fun h => by cases h), fun rest => ?_⟩
      · by_cases hcn : c = []
        · rw [a4 hcn]; exact hT2
        · exact a3 hcn
      · rw [List.cons_append, ← a5 rest]
        simp only [bld, if_neg h1, if_pos h3, if_pos hk]
    · cases h
theorem bld_opens : ∀ (o : List Ev) (S : List (Int × List Nd)) (s' : List Int), (∀ e ∈ o, e.k = 1 ∧ e.n ≠ 0) → play (S.map (·.1)) o = some s' → s'.length ≤ 1000 → FS S → ∃ S', S'.map (·.1) = s' ∧ FS S' ∧ S.length ≤ S'.length ∧ (∀ rest, bld (o ++ rest) S = bld rest S')
  | [], S, s', _, h, _, hF => by cases h; exact ⟨S, rfl, hF, Nat.le_refl _, fun rest => rfl⟩
  | e :: o, S, s', hc, h, hs, hF => by
    obtain ⟨h1, hn⟩ := hc e (List.mem_cons_self ..)
    simp only [play, if_pos h1] at h
    have hF2 : FS ((e.n, []) :: S) := by
      intro x hx
      rcases List.mem_cons.1 hx with rfl | hx
      · exact ⟨trivial, hn⟩
      · exact hF x hx
    obtain ⟨S', a1, a2, a3, a4⟩ := bld_opens o ((e.n, []) :: S) s' (fun x hx => hc x (List.mem_cons_of_mem _ hx)) h hs hF2
    have hl : S'.length ≤ 1000 := by have := congrArg List.length a1; rw [List.length_map] at this; omega
    simp only [List.length_cons] at a3
    refine ⟨S', a1, a2, by omega, fun rest => ?_⟩
    rw [List.cons_append, ← a4 rest]
    simp only [bld, if_pos h1]
    rw [if_neg (by intro hh; rcases hh with hh | hh; exact hn hh; omega)]
theorem bld_tok {t : Tv} {S : List (Int × List Nd)} (hS : S ≠ []) (hF : FS S) : ∃ S', S'.map (·.1) = S.map (·.1) ∧ FS S' ∧ TopNe S' ∧ ∀ rest, bld ((if cm t then ⟨4, 0, t⟩ else ⟨2, 0, t⟩) :: rest) S = bld rest S' := by
  cases S with
  | nil => exact absurd rfl hS
  | cons x S1 =>
    obtain ⟨k, c⟩ := x
    refine ⟨(k, c ++ [.mk 0 t []]) :: S1, rfl, ?_, ⟨k, _, S1, rfl, by simp⟩, fun rest => ?_⟩
    · intro x hx
      rcases List.mem_cons.1 hx with rfl | hx
      · have := hF (k, c) (by simp)
        exact ⟨fulL_app _ _ this.1 (by simp [FulL, Ful]), this.2⟩
      · exact hF x (by simp [hx])
    · cases hc : cm t <;> simp [bld, hc]
theorem ru_nz {t : Tv} {k : Nat} {K : List It} {n : Int} {E : List Ev} {R : Ro} (h : Ru t k K n E R) : ∀ {L : List It} {m : Int} {F : List Ev}, R = .yes L m F → ∀ e ∈ F, e ∈ E ∨ (e.k = 1 → e.n ≠ 0) := by
  induction h with
  | nil => intro L m F h; cases h
  | ref _ => intro L m F h; cases h
  | tk hs => intro L m F h e he; cases h; exact .inl he
  | go hs hr ih =>
    rename_i k i K n d E o r R
    intro L m F h e he
    rcases ih h e he with h1 | h1
    · rcases List.mem_append.1 h1 with h2 | h2
      · exact .inl h2
      · refine .inr (fun hk => ?_)
        cases i with
        | fl x =>
          cases x with
          | mt mm =>
            have hro := row_ok t mm
            simp only [It.step, Fl.step] at hs
            cases hrow : M.row t mm with
            | ref => rw [hrow] at hs; cases hs
            | ex r' => rw [hrow] at hs; cases hs; cases h2
            | op nd r' =>
              rw [hrow] at hs hro
              cases hs
              simp at h2
              subst h2
              have := hro.2.2.2.1
              show nd ≠ 0
              omega
          | _ => simp only [It.step, Fl.step] at hs; split at hs <;> cases hs
        | lv nn => cases hs; simp at h2; subst h2; cases hk
        | once p => cases hs; cases h2
        | again p => cases hs; cases h2
        | all r' => cases hs; cases h2
    · exact .inr h1
/-- The parser's nodes and the tree's. -/
structure Tj (K : List It) (S : List (Int × List Nd)) : Prop where
  pa : S.map (·.1) = lvs K
  fs : FS S
  tn : TopNe S ∨ K = progR ++ [.lv 1]
theorem prog_take {t : Tv} {k : Nat} {n m : Int} {E F : List Ev} {L : List It} (h : Ru t k (progR ++ [.lv 1]) n E (.yes L m F)) : F = E := by
  cases h with
  | tk _ => rfl
  | go hs _ =>
    simp only [It.step, Fl.step] at hs
    split at hs <;> cases hs
theorem play_pos : ∀ (o : List Ev) (s s' : List Int), (∀ e ∈ o, e.k = 1 ∧ e.n ≠ 1) → play s o = some s' → s'.getLast? = some 1 → s ≠ []
  | [], s, s', _, h, hl => by cases h; intro e; subst e; cases hl
  | e :: o, s, s', ho, h, hl => by
    obtain ⟨h1, h2⟩ := ho e (by simp)
    simp only [play, if_pos h1] at h
    intro es
    subst es
    have key : ∀ (o : List Ev) (s s' : List Int) (x : Int), (∀ e ∈ o, e.k = 1) → play s o = some s' → s.getLast? = some x → s'.getLast? = some x := by
      intro o
      induction o with
      | nil => intro s s' x _ h hx; cases h; exact hx
      | cons e2 o ih =>
        intro s s' x ho h hx
        simp only [play, if_pos (ho e2 (by simp))] at h
        refine ih (e2.n :: s) s' x (fun y hy => ho y (by simp [hy])) h ?_
        cases s with
        | nil => cases hx
        | cons y s => simpa using hx
    have := key o [e.n] s' e.n (fun y hy => (ho y (by simp [hy])).1) h rfl
    rw [this] at hl
    exact h2 (by simpa using hl)
theorem tree_rest : ∀ (l : List Tv) (K : List It) (n : Int) (S : List (Int × List Nd)) (E : List Ev) (k : Nat), Good (.live K n) → Bo2 K → Tj K S → Alr (.live K n) l E 0 k → ∃ c, bld E S = some (.mk 1 tv0 c) ∧ c ≠ [] ∧ FulL c
  | [], K, n, S, E, k, hg, hb, hj, h => by
    obtain ⟨hc, rfl⟩ := h.end
    cases hc with
    | all hh =>
      have hK : K = [.lv 1] := by
        rcases hb with hb | ⟨X, hX⟩
        · exact hb
        · rw [hX] at hh; simp at hh
      subst hK
      have hp := hj.pa
      rcases hj.tn with ⟨k0, c, S', rfl, hne⟩ | ht
      · simp [lvs] at hp
        obtain ⟨rfl, rfl⟩ := hp
        refine ⟨c, ?_, hne, (hj.fs (1, c) (by simp)).1⟩
        simp [bld]
      · cases ht
  | t :: l, K, n, S, E, k, hg, hb, hj, h => by
    have hn := good_pos hg hb
    obtain ⟨b1, b2, b3⟩ := beg_self (K := K) hn
    obtain ⟨g1, g2, g3, g4, g5, gbot, gbn, gbe⟩ := good_beg hg
    have hSne : S ≠ [] := by
      intro e
      have := hj.pa
      rw [e] at this
      have h2 : 1 ≤ (lvs K).length := by
        rcases hb with rfl | ⟨X, rfl⟩
        · decide
        · rw [lvs_app]; simp [lvs]
      rw [← this] at h2
      simp at h2
    rcases h.inv with ⟨ev, st', hp, hcd, rfl, rfl⟩ | ⟨ev, st', E2, k2, hp, hR2, rfl, rfl⟩
    · exact absurd rfl hcd
    · have hgs := (put_keep hg hp).1
      cases hp with
      | note hh =>
        rw [b1, b2] at hR2 hgs
        obtain ⟨S', a1, a2, a3, a4⟩ := bld_tok (t := t) hSne hj.fs
        have hcm : cm t = true := hh
        rw [hcm] at a4
        obtain ⟨c, c1, c2, c3⟩ := tree_rest l K n S' E2 k2 hgs hb ⟨a1.trans hj.pa, a2, .inl a3⟩ hR2
        refine ⟨c, ?_, c2, c3⟩
        rw [b3, List.nil_append, List.singleton_append, ← c1]
        exact a4 E2
      | yes hh hR hk hm2 =>
        rename_i L m2 E1 k1
        obtain ⟨c1, c2, c3, o, c4, c5, c6, c7⟩ := ru_keep hR rfl g1 g2 g3
        obtain ⟨cc, oo, d1, d2, d3⟩ := ru_phase hR rfl g1
        have hnz := ru_nz hR rfl
        have hL := ru_bo2 hR rfl (by rw [b1]; exact hb)
        rw [b3, List.nil_append] at c4 d1
        obtain rfl : o = cc ++ oo := c4.symm.trans d1
        rw [b1] at c5 hR
        rw [b3] at hR hnz
        obtain ⟨s1, p1⟩ := play_len c5
        have p2 : play s1 oo = some (lvs L) := by rw [← c5, play_app _ _ _ _ p1]
        have hlast : (lvs L).getLast? = some 1 := by
          rcases hL with rfl | ⟨X, rfl⟩
          · rfl
          · rw [lvs_app]; simp [lvs]
        have hs1 := play_pos oo s1 _ (fun e he => ⟨d3 e he, (c6 e (List.mem_append_right _ he)).2.2 (d3 e he)⟩) p2 hlast
        have htop : cc ≠ [] → TopNe S := by
          intro hcc
          rcases hj.tn with ht | ht
          · exact ht
          · subst ht
            have := prog_take hR
            rw [c4] at this
            simp at this
            exact absurd this.1 hcc
        obtain ⟨S1, e1, e2, e3, e4, e5⟩ := bld_closes cc S s1 d2 (by rw [hj.pa]; exact p1) hs1 hj.fs htop
        obtain ⟨S2, f1, f2, f3, f4⟩ := bld_opens oo S1 (lvs L) (fun e he => ⟨d3 e he, by
          rcases hnz e (by rw [c4]; exact List.mem_append_right _ he) with h1 | h1
          · cases h1
          · exact h1 (d3 e he)⟩) (by rw [e1]; exact p2) (by omega) e2
        have hS2 : S2 ≠ [] := by
          intro e
          rw [e] at f1
          have f1' : lvs L = [] := f1.symm
          rw [f1'] at hlast
          cases hlast
        obtain ⟨S3, a1, a2, a3, a4⟩ := bld_tok (t := t) hS2 f2
        have hcm : cm t = false := hh
        rw [hcm] at a4
        obtain ⟨c, x1, x2, x3⟩ := tree_rest l L m2 S3 E2 k2 hgs hL ⟨a1.trans f1, a2, .inl a3⟩ hR2
        refine ⟨c, ?_, x2, x3⟩
        rw [c4, List.append_assoc, List.append_assoc, e5, f4, ← x1]
        exact a4 E2
theorem alr_tree {l : List Tv} {E : List Ev} {k : Nat} (h : Alr (.live [] 0) l E 0 k) : ∃ c, bld E [] = some (.mk 1 tv0 c) ∧ c ≠ [] ∧ FulL c := by
  by_cases hl : l = []
  · subst hl
    obtain ⟨hc, rfl⟩ := h.end
    cases hc with
    | all hh => simp at hh
  · obtain ⟨E1, h1, h2⟩ := alr_first h hl
    obtain ⟨c, c1, c2, c3⟩ := tree_rest l _ 1 [(1, [])] E1 k good_one bo2_prog ⟨rfl, (fun x hx => by simp at hx; subst hx; exact ⟨trivial, by decide⟩), .inr rfl⟩ h1
    refine ⟨c, ?_, c2, c3⟩
    rw [h2 rfl, ← c1]
    simp [bld]

end Go.Proofs.YtkigadnkclkopaaGreat

set_option linter.unusedVariables false
set_option linter.unusedSimpArgs false
namespace Go.Proofs.YtkigadnkclkopaaGreat
open Go.RowKit

/-! Beginnings (no memory). -/
/-- All of them stand. -/
inductive Alp : Pst → List Tv → List Ev → Pst → Prop
  | nil {st : Pst} : Alp st [] [] st
  | cons {st st' st2 : Pst} {t : Tv} {l : List Tv} {ev E : List Ev} : Putr t st ev 0 st' → Alp st' l E st2 → Alp st (t :: l) (ev ++ E) st2
theorem alr_split : ∀ (p q : List Tv) (st : Pst) (E : List Ev) (code : Int) (a : Nat), Alr st (p ++ q) E code a →
    (∃ E1 st' E2 a2, Alp st p E1 st' ∧ Alr st' q E2 code a2 ∧ a = p.length + a2 ∧ E = E1 ++ E2) ∨ (code ≠ 0 ∧ a < p.length ∧ ∀ q', ∃ E', Alr st (p ++ q') E' code a)
  | [], q, st, E, code, a, h => .inl ⟨[], st, E, a, .nil, h, by simp, rfl⟩
  | t :: p, q, st, E, code, a, h => by
    rcases h.inv with ⟨ev, st', hp, hcd, rfl, rfl⟩ | ⟨ev, st', E2, k2, hp, hR2, rfl, rfl⟩
    · exact .inr ⟨hcd, by simp, fun q' => ⟨[], .err hp hcd⟩⟩
    · rcases alr_split p q st' E2 code k2 hR2 with ⟨E1, st2, E3, a2, h1, h2, rfl, rfl⟩ | ⟨h1, h2, h3⟩
      · exact .inl ⟨ev ++ E1, st2, E3, a2, .cons hp h1, h2, by simp; omega, by simp⟩
      · refine .inr ⟨h1, by simp; omega, fun q' => ?_⟩
        obtain ⟨E', h4⟩ := h3 q'
        exact ⟨_, .on hp h4⟩
theorem alr_join : ∀ {p q : List Tv} {st st' : Pst} {E1 E2 : List Ev} {code : Int} {a : Nat}, Alp st p E1 st' → Alr st' q E2 code a → Alr st (p ++ q) (E1 ++ E2) code (p.length + a)
  | [], q, st, st', E1, E2, code, a, h, h' => by cases h; simpa using h'
  | t :: p, q, st, st', E1, E2, code, a, h, h' => by
    cases h with
    | cons hp hr =>
      have := alr_join hr h'
      rw [List.cons_append, List.append_assoc, List.length_cons, show p.length + 1 + a = (p.length + a) + 1 by omega]
      exact .on hp this
/-- At the beginning, or behind it. -/
def Ini (st : Pst) : Prop := st = .live [] 0 ∨ ∃ K n, st = .live K n ∧ Bo2 K ∧ n ≠ 0
theorem put_ini {st st' : Pst} {t : Tv} {ev : List Ev} (hg : Good st) (hi : Ini st) (hp : Putr t st ev 0 st') : Good st' ∧ Ini st' := by
  have hg' := (put_keep hg hp).1
  refine ⟨hg', ?_⟩
  have hb : ∀ K n, st = .live K n → Bo2 (beg K n) := by
    intro K n e
    rcases hi with hi | ⟨K', n', hi, hb, hn⟩
    · rw [hi] at e
      cases e
      exact bo2_prog
    · rw [hi] at e
      cases e
      rw [(beg_self hn).1]
      exact hb
  cases hp with
  | stuck => rcases hi with hi | ⟨_, _, hi, _⟩ <;> cases hi
  | note hh =>
    have hb2 := hb _ _ rfl
    exact .inr ⟨_, _, rfl, hb2, good_pos hg' hb2⟩
  | yes hh hR hk hm =>
    have hb2 := ru_bo2 hR rfl (hb _ _ rfl)
    exact .inr ⟨_, _, rfl, hb2, good_pos hg' hb2⟩
theorem alp_ini : ∀ {p : List Tv} {st st' : Pst} {E : List Ev}, Good st → Ini st → Alp st p E st' → Good st' ∧ Ini st'
  | [], st, st', E, hg, hi, h => by cases h; exact ⟨hg, hi⟩
  | t :: p, st, st', E, hg, hi, h => by
    cases h with
    | cons hp hr =>
      obtain ⟨h1, h2⟩ := put_ini hg hi hp
      exact alp_ini h1 h2 hr
theorem lead_all : ∀ (q : List Tv), (∀ t ∈ q, cmm t = true) → lead q = q ∧ bhd q = []
  | [], _ => ⟨rfl, rfl⟩
  | t :: q, h => by
    have h1 := h t (by simp)
    obtain ⟨a, b⟩ := lead_all q (fun x hx => h x (by simp [hx]))
    rw [lead, if_pos h1, bhd, if_pos h1]
    exact ⟨by rw [a], b⟩
theorem bhd_nil : ∀ (q : List Tv), bhd q = [] → ∀ t ∈ q, cmm t = true
  | [], _, t, h => by cases h
  | x :: q, hb, t, h => by
    cases hc : cmm x with
    | false => rw [bhd, if_neg (by simp [hc])] at hb; cases hb
    | true =>
      rw [bhd, if_pos hc] at hb
      rcases List.mem_cons.1 h with rfl | h
      · exact hc
      · exact bhd_nil q hb t h
/-- Comments alone are behind: it could have ended. -/
theorem notes_ok {st : Pst} {q : List Tv} {E : List Ev} {a : Nat} (hi : Ini st) (h : Alr st q E 0 a) (hq : ∀ t ∈ q, cmm t = true) : ∃ ev, Clor st ev 0 := by
  have go : ∀ K n, n ≠ 0 → ∀ E a, Alr (.live K n) q E 0 a → ∃ ev, Clor (.live K n) ev 0 := by
    intro K n hn E a h
    obtain ⟨E', k', _, _, h1⟩ := alr_notes hn q E 0 a h
    rw [(lead_all q hq).2] at h1
    exact ⟨_, h1.end.1⟩
  rcases hi with rfl | ⟨K, n, rfl, hb, hn⟩
  · by_cases hl : q = []
    · subst hl
      exact ⟨_, h.end.1⟩
    · obtain ⟨E1, h1, _⟩ := alr_first h hl
      obtain ⟨ev, h2⟩ := go _ _ (by decide) _ _ h1
      cases h2 with
      | all hh => exact absurd hh (by decide)
  · exact go K n hn E a h
/-- Behind a program: comments, or a token that can't stand. -/
theorem done_rest {n : Int} (hn : n ≠ 0) {q : List Tv} {E : List Ev} {code : Int} {a : Nat} (h : Alr (.live [.lv 1] n) q E code a) : (code = 0 ∧ ∀ t ∈ q, cmm t = true) ∨ code = 120 := by
  obtain ⟨E', k', _, _, h1⟩ := alr_notes hn q E code a h
  cases hb : bhd q with
  | nil =>
    rw [hb] at h1
    have h2 := h1.end.1
    cases h2 with
    | all hh => exact .inl ⟨rfl, bhd_nil q hb⟩
    | «open» hh => exact absurd rfl hh
  | cons t r =>
    rw [hb] at h1
    have hc : cmm t = false := by
      have := lead_bhd q
      rw [hb] at this
      cases hc : cmm t with
      | false => rfl
      | true => rw [lead, if_pos hc] at this; cases this
    have no : ∀ k L m F, ¬ Ru t k (beg [.lv 1] n) (begN n) (begE n) (.yes L m F) := by
      intro k L m F hR
      rw [(beg_self hn).1] at hR
      cases hR with
      | tk hs => cases hs
      | go hs hr =>
        cases hs
        cases hr
    rcases h1.inv with ⟨ev, st', hp, hcd, _⟩ | ⟨ev, st', E2, k2, hp, _⟩
    · cases hp with
      | note hh => exact absurd rfl hcd
      | no _ _ _ => exact .inr rfl
      | deep _ hR _ _ => exact absurd hR (no _ _ _ _)
      | yes _ _ _ _ => exact absurd rfl hcd
    · cases hp with
      | note hh => unfold cmm at hc; rw [hc] at hh; cases hh
      | yes _ hR _ _ => exact absurd hR (no _ _ _ _)
theorem ini_new : Ini (.live [] 0) := .inl rfl
theorem clor_live {st : Pst} {ev : List Ev} {c : Int} (hi : Ini st) (h : Clor st ev c) : (c = 0 ∧ ∃ n, st = .live [.lv 1] n ∧ n ≠ 0) ∨ c = 121 := by
  rcases hi with rfl | ⟨K, n, rfl, hb, hn⟩
  · cases h with
    | all hh => simp at hh
    | «open» hh => exact .inr rfl
  · cases h with
    | all hh =>
      refine .inl ⟨rfl, n, ?_, hn⟩
      rcases hb with rfl | ⟨X, rfl⟩
      · rfl
      · simp at hh
    | «open» hh => exact .inr rfl
theorem begins_math (l : List Tv) (k : Nat) (hk : k ≤ l.length) : ∃ E code a E' f b, Alr (.live [] 0) l E code a ∧ Alr (.live [] 0) (l.take k) E' f b ∧
    ((code ≠ 0 ∧ a < k ∧ f = code ∧ b = a) ∨ (¬ (code ≠ 0 ∧ a < k) ∧ ((code = 0 ∧ (∀ t ∈ l.drop k, cmm t = true) ∧ f = 0) ∨ (¬ (code = 0 ∧ ∀ t ∈ l.drop k, cmm t = true) ∧ ((f = 0 ∧ code = 120 ∧ k ≤ a) ∨ (f = 121 ∧ b = k)))))) := by
  obtain ⟨E, code, a, h⟩ := alr_ex l (.live [] 0) good_new
  have hlen : (l.take k).length = k := by rw [List.length_take]; omega
  have h0 : Alr (.live [] 0) (l.take k ++ l.drop k) E code a := by rw [List.take_append_drop]; exact h
  rcases alr_split _ _ _ _ _ _ h0 with ⟨E1, st, E2, a2, h1, h2, h3, _⟩ | ⟨h1, h2, h3⟩
  · obtain ⟨hg, hi⟩ := alp_ini good_new ini_new h1
    obtain ⟨ev, f, hc, _⟩ := close_ex st
    have hj := alr_join (q := []) h1 (.nil hc)
    rw [List.append_nil] at hj
    refine ⟨E, code, a, _, f, _, h, hj, .inr ⟨fun hh => by omega, ?_⟩⟩
    by_cases hq : code = 0 ∧ ∀ t ∈ l.drop k, cmm t = true
    · obtain ⟨rfl, hq2⟩ := hq
      refine .inl ⟨rfl, hq2, ?_⟩
      obtain ⟨ev2, hc2⟩ := notes_ok hi h2 hq2
      rcases clor_live hi hc2 with ⟨_, n, rfl, hn⟩ | h4
      · cases hc with
        | all _ => rfl
        | «open» hh => exact absurd rfl hh
      · cases h4
    · refine .inr ⟨hq, ?_⟩
      rcases clor_live hi hc with ⟨rfl, n, rfl, hn⟩ | rfl
      · refine .inl ⟨rfl, ?_, by omega⟩
        rcases done_rest hn h2 with h5 | h5
        · exact absurd h5 hq
        · exact h5
      · exact .inr ⟨rfl, by rw [hlen]; omega⟩
  · obtain ⟨E', h4⟩ := h3 []
    rw [List.append_nil] at h4
    exact ⟨E, code, a, E', code, a, h, h4, .inl ⟨h1, by omega, rfl, rfl⟩⟩

end Go.Proofs.YtkigadnkclkopaaGreat

set_option linter.unusedVariables false
set_option linter.unusedSimpArgs false
namespace Go.Proofs.YtkigadnkclkopaaGreat
open Go.RowKit

/-! How many events (no memory). -/
theorem ru_det {t : Tv} {k : Nat} {K : List It} {n : Int} {E : List Ev} {R : Ro} (h : Ru t k K n E R) : ∀ {k' : Nat} {R' : Ro}, Ru t k' K n E R' → k' = k ∧ R' = R := by
  induction h with
  | nil => intro k' R' h'; cases h'; exact ⟨rfl, rfl⟩
  | ref hs =>
    intro k' R' h'
    cases h' with
    | ref _ => exact ⟨rfl, rfl⟩
    | tk h => rw [hs] at h; cases h
    | go h _ => rw [hs] at h; cases h
  | tk hs =>
    intro k' R' h'
    cases h' with
    | ref h => rw [hs] at h; cases h
    | tk _ => exact ⟨rfl, rfl⟩
    | go h _ => rw [hs] at h; cases h
  | go hs hr ih =>
    intro k' R' h'
    cases h' with
    | ref h => rw [hs] at h; cases h
    | tk h => rw [hs] at h; cases h
    | go h hr' =>
      rw [hs] at h
      cases h
      obtain ⟨a, b⟩ := ih hr'
      exact ⟨by omega, b⟩
/-- Nodes that begin. -/
def ops (E : List Ev) : Nat := (E.filter (fun e => e.k == 1)).length
theorem ops_app (a b : List Ev) : ops (a ++ b) = ops a + ops b := by simp [ops]
theorem ops_le (a : List Ev) : ops a ≤ a.length := List.length_filter_le _ _
theorem ru_few {t : Tv} {k : Nat} {K : List It} {n : Int} {E : List Ev} {R : Ro} (h : Ru t k K n E R) : ∀ {L : List It} {m : Int} {F : List Ev}, R = .yes L m F → ∃ o, F = E ++ o ∧ o.length ≤ k := by
  induction h with
  | nil => intro L m F h; cases h
  | ref _ => intro L m F h; cases h
  | tk hs => intro L m F h; cases h; exact ⟨[], by simp, by simp⟩
  | go hs hr ih =>
    rename_i k i K n d E o r R
    intro L m F h
    obtain ⟨o2, e, hl⟩ := ih h
    refine ⟨o ++ o2, by rw [e, List.append_assoc], ?_⟩
    have : o.length ≤ 1 := by
      cases i with
      | fl x =>
        cases x with
        | mt mm =>
          simp only [It.step, Fl.step] at hs
          cases hrow : M.row t mm with
          | ref => rw [hrow] at hs; cases hs
          | ex r' => rw [hrow] at hs; cases hs; simp
          | op nd r' => rw [hrow] at hs; cases hs; simp
        | _ => simp only [It.step, Fl.step] at hs; split at hs <;> cases hs
      | lv nn => cases hs; simp
      | once p => cases hs; simp
      | again p => cases hs; simp
      | all r' => cases hs; simp
    simp
    omega
/-- A token opens few nodes. -/
theorem ru_ops (t : Tv) : ∀ (K : List It), wfs K → ∀ n E, ∃ k R, Ru t k K n E R ∧ ∀ L m F, R = .yes L m F → ∃ o, F = E ++ o ∧ ops o ≤ 10
  | [], _, n, E => ⟨0, _, .nil, fun L m F h => by cases h⟩
  | i :: K, hw, n, E => by
    have hi : i.wf := hw i (List.mem_cons_self ..)
    have hK : wfs K := fun j hj => hw j (List.mem_cons_of_mem _ hj)
    have pop : ∀ d o, ops o = 0 → It.step t i = .go d o [] → ∃ k R, Ru t k (i :: K) n E R ∧ ∀ L m F, R = .yes L m F → ∃ o, F = E ++ o ∧ ops o ≤ 10 := by
      intro d o ho h
      obtain ⟨k, R, hR, hx⟩ := ru_ops t K hK (n + d) (E ++ o)
      refine ⟨k + 1, R, .go h hR, fun L m F e => ?_⟩
      obtain ⟨o2, e2, h2⟩ := hx L m F e
      exact ⟨o ++ o2, by rw [e2, List.append_assoc], by rw [ops_app]; omega⟩
    have soon : ∀ c, c ≤ 10 → Soon t c i → ∃ k R, Ru t k (i :: K) n E R ∧ ∀ L m F, R = .yes L m F → ∃ o, F = E ++ o ∧ ops o ≤ 10 := by
      intro c hc h
      obtain ⟨k, R, hk, hR⟩ := h K n E
      refine ⟨k, R, hR, fun L m F e => ?_⟩
      obtain ⟨o, e2, h2⟩ := ru_few hR e
      exact ⟨o, e2, by have := ops_le o; omega⟩
    cases i with
    | fl x => exact soon 8 (by omega) (soon_flat t x)
    | lv nd => exact pop _ _ (by rfl) rfl
    | once p =>
      cases hp : Pk.pick t p with
      | none => exact pop 0 [] rfl (by simp [It.step, hp])
      | some j => exact soon 10 (by omega) (soon_go (r := []) (by simp [It.step, hp]; exact ⟨rfl, rfl⟩) (soon_pick hi hp))
    | again p =>
      cases hp : Pk.pick t p with
      | none => exact pop 0 [] rfl (by simp [It.step, hp, agR])
      | some j => exact soon 10 (by omega) (soon_go (r := [.again p]) (by simp [It.step, hp, agR]; exact ⟨rfl, rfl⟩) (soon_pick hi hp))
    | all r =>
      obtain ⟨⟨k, ts, rest, rfl⟩, _⟩ := hi
      exact soon 1 (by omega) (soon_go (r := rest.map It.fl) rfl (soon_fl t (.wd k ts) ne_wd 0))
theorem play_ops : ∀ (o : List Ev) (s s' : List Int), (∀ e ∈ o, e.k = 1 ∨ e.k = 3) → play s o = some s' → o.length + s'.length = s.length + 2 * ops o
  | [], s, s', _, h => by cases h; simp [ops]
  | e :: o, s, s', ho, h => by
    have h0 := ho e (by simp)
    have hr : ∀ x ∈ o, x.k = 1 ∨ x.k = 3 := fun x hx => ho x (by simp [hx])
    simp only [play] at h
    rcases h0 with h1 | h3
    · rw [if_pos h1] at h
      have := play_ops o _ _ hr h
      have e1 : ops (e :: o) = ops o + 1 := by simp [ops, h1]
      simp at this ⊢
      omega
    · have h1 : ¬ e.k = 1 := by omega
      rw [if_neg h1, if_pos h3] at h
      cases s with
      | nil => cases h
      | cons n s =>
        simp only at h
        split at h
        · have := play_ops o _ _ hr h
          have e1 : ops (e :: o) = ops o := by simp [ops, h1]
          simp at this ⊢
          omega
        · cases h
theorem len_rest : ∀ (l : List Tv) (K : List It) (n : Int) (E : List Ev) (k : Nat), Good (.live K n) → Bo2 K → Alr (.live K n) l E 0 k → E.length ≤ (lvs K).length + 21 * l.length
  | [], K, n, E, k, hg, hb, h => by
    obtain ⟨hc, rfl⟩ := h.end
    cases hc with
    | all hh =>
      have : 1 ≤ (lvs K).length := by
        rcases hb with rfl | ⟨X, rfl⟩
        · decide
        · rw [lvs_app]; simp [lvs]
      simp
      omega
  | t :: l, K, n, E, k, hg, hb, h => by
    have hn := good_pos hg hb
    obtain ⟨b1, b2, b3⟩ := beg_self (K := K) hn
    obtain ⟨g1, g2, g3, g4, g5, gbot, gbn, gbe⟩ := good_beg hg
    rcases h.inv with ⟨ev, st', hp, hcd, rfl, rfl⟩ | ⟨ev, st', E2, k2, hp, hR2, rfl, rfl⟩
    · exact absurd rfl hcd
    · have hgs := (put_keep hg hp).1
      cases hp with
      | note hh =>
        rw [b1, b2] at hR2 hgs
        have := len_rest l K n E2 k2 hgs hb hR2
        rw [b3]
        simp
        omega
      | yes hh hR hk hm2 =>
        rename_i L m2 E1 k1
        obtain ⟨c1, c2, c3, o, c4, c5, c6, c7⟩ := ru_keep hR rfl g1 g2 g3
        have hL := ru_bo2 hR rfl (by rw [b1]; exact hb)
        obtain ⟨k9, R9, h9, h9b⟩ := ru_ops t (beg K n) g1 (begN n) (begE n)
        obtain ⟨_, rfl⟩ := ru_det hR h9
        obtain ⟨o2, e2, h2⟩ := h9b _ _ _ rfl
        rw [c4] at e2
        obtain rfl := List.append_cancel_left e2
        rw [b1] at c5
        have hpl := play_ops o _ _ (fun e he => (c6 e he).2.1) c5
        have := len_rest l L m2 E2 k2 hgs hL hR2
        rw [c4, b3]
        simp
        omega
theorem alr_len {l : List Tv} {E : List Ev} {k : Nat} (h : Alr (.live [] 0) l E 0 k) : E.length ≤ 21 * l.length + 2 := by
  by_cases hl : l = []
  · subst hl
    obtain ⟨hc, rfl⟩ := h.end
    cases hc with
    | all hh => simp at hh
  · obtain ⟨E1, h1, h2⟩ := alr_first h hl
    have := len_rest l _ 1 E1 k good_one bo2_prog h1
    rw [h2 rfl]
    have e : (lvs (progR ++ [.lv 1])).length = 1 := rfl
    simp
    omega
/-! The tokens of the events. -/
def tokE (e : Ev) : Option Tv := if e.k = 2 ∨ e.k = 4 then some e.d else none
/-- Told as a tree's events are. -/
def nml (e : Ev) : Prop := nrm e = e
theorem nml_oc {e : Ev} (hk : e.k = 1 ∨ e.k = 3) (hd : e.d = tv0) : nml e ∧ tokE e = none := by
  obtain ⟨k, n, d⟩ := e
  simp only at hk hd
  subst hd
  refine ⟨by simp [nml, nrm, hk], ?_⟩
  unfold tokE
  rw [if_neg (by simp only; omega)]
theorem filt_none : ∀ (o : List Ev), (∀ e ∈ o, tokE e = none) → o.filterMap tokE = []
  | [], _ => rfl
  | e :: o, h => by rw [List.filterMap_cons_none (h e (by simp))]; exact filt_none o (fun x hx => h x (by simp [hx]))
theorem tok_rest : ∀ (l : List Tv) (K : List It) (n : Int) (E : List Ev) (k : Nat), Good (.live K n) → Bo2 K → Alr (.live K n) l E 0 k → E.filterMap tokE = l ∧ ∀ e ∈ E, nml e
  | [], K, n, E, k, hg, hb, h => by
    obtain ⟨hc, rfl⟩ := h.end
    cases hc with
    | all hh =>
      have := nml_oc (e := ⟨3, 1, tv0⟩) (.inr rfl) rfl
      exact ⟨filt_none _ (fun e he => by simp at he; subst he; exact this.2), fun e he => by simp at he; subst he; exact this.1⟩
  | t :: l, K, n, E, k, hg, hb, h => by
    have hn := good_pos hg hb
    obtain ⟨b1, b2, b3⟩ := beg_self (K := K) hn
    obtain ⟨g1, g2, g3, g4, g5, gbot, gbn, gbe⟩ := good_beg hg
    rcases h.inv with ⟨ev, st', hp, hcd, rfl, rfl⟩ | ⟨ev, st', E2, k2, hp, hR2, rfl, rfl⟩
    · exact absurd rfl hcd
    · have hgs := (put_keep hg hp).1
      cases hp with
      | note hh =>
        rw [b1, b2] at hR2 hgs
        obtain ⟨a1, a2⟩ := tok_rest l K n E2 k2 hgs hb hR2
        rw [b3]
        refine ⟨by simp [tokE, a1], fun e he => ?_⟩
        simp at he
        rcases he with rfl | he
        · rfl
        · exact a2 e he
      | yes hh hR hk hm2 =>
        rename_i L m2 E1 k1
        obtain ⟨c1, c2, c3, o, c4, c5, c6, c7⟩ := ru_keep hR rfl g1 g2 g3
        have hL := ru_bo2 hR rfl (by rw [b1]; exact hb)
        obtain ⟨a1, a2⟩ := tok_rest l L m2 E2 k2 hgs hL hR2
        rw [c4, b3]
        have ho := filt_none o (fun e he => (nml_oc (c6 e he).2.1 (c6 e he).1).2)
        refine ⟨by simp [tokE, a1, ho], fun e he => ?_⟩
        simp at he
        rcases he with he | rfl | he
        · exact (nml_oc (c6 e he).2.1 (c6 e he).1).1
        · rfl
        · exact a2 e he
theorem alr_toks {l : List Tv} {E : List Ev} {k : Nat} (h : Alr (.live [] 0) l E 0 k) : E.filterMap tokE = l ∧ E.map nrm = E := by
  have fin : ∀ E : List Ev, (∀ e ∈ E, nml e) → E.map nrm = E := by
    intro E
    induction E with
    | nil => intro _; rfl
    | cons e E ih => intro h; rw [List.map_cons, h e (by simp), ih (fun x hx => h x (by simp [hx]))]
  by_cases hl : l = []
  · subst hl
    obtain ⟨hc, rfl⟩ := h.end
    cases hc with
    | all hh => simp at hh
  · obtain ⟨E1, h1, h2⟩ := alr_first h hl
    obtain ⟨a1, a2⟩ := tok_rest l _ 1 E1 k good_one bo2_prog h1
    have hm := nml_oc (e := ⟨1, 1, tv0⟩) (.inl rfl) rfl
    rw [h2 rfl]
    exact ⟨by rw [List.filterMap_cons_none hm.2]; exact a1, by rw [List.map_cons, fin E1 a2, show nrm ⟨1, 1, tv0⟩ = ⟨1, 1, tv0⟩ from hm.1]⟩
mutual
theorem toks_evs : ∀ (n : Nd), (evs n).filterMap tokE = toks n
  | .mk k d c => by
    by_cases hk : k = 0
    · have e : evs (.mk k d c) = [tkE d] := by simp [evs, hk]
      have e2 : toks (.mk k d c) = [d] := by simp [toks, hk]
      rw [e, e2]
      unfold tkE
      split <;> simp [tokE]
    · have e : evs (.mk k d c) = ⟨1, k, tv0⟩ :: (evsL c ++ [⟨3, k, tv0⟩]) := by simp [evs, hk]
      have e2 : toks (.mk k d c) = toksL c := by simp [toks, hk]
      rw [e, e2, List.filterMap_cons_none (by simp [tokE]), List.filterMap_append, toksL_evs c]
      simp [tokE]
theorem toksL_evs : ∀ (c : List Nd), (evsL c).filterMap tokE = toksL c
  | [] => by simp [evsL, toksL]
  | n :: r => by simp only [evsL, toksL, List.filterMap_append, toks_evs n, toksL_evs r]
end
theorem bld_dpt {E : List Ev} {c : List Nd} (h : bld E [] = some (.mk 1 tv0 c)) (hE : E.map nrm = E) : dpt (.mk 1 tv0 c) ≤ 1000 := by
  obtain ⟨he, _⟩ := evs_build h
  have e : evs (.mk 1 tv0 c) = ⟨1, 1, tv0⟩ :: (evsL c ++ [⟨3, 1, tv0⟩]) := by simp [evs]
  rw [e, hE] at he
  rw [← he] at h
  have h1 : bld (evsL c ++ [⟨3, 1, tv0⟩]) [(1, [])] = some (.mk 1 tv0 c) := by simpa [bld] using h
  rw [bldL_evs c [⟨3, 1, tv0⟩] [(1, [])] (by simp)] at h1
  have e3 : dpt (.mk 1 tv0 c) = dptL c + 1 := by simp [dpt]
  rw [e3]
  split at h1
  · rename_i hd; simpa using hd
  · split at h1
    · rename_i hz; omega
    · cases h1

end Go.Proofs.YtkigadnkclkopaaGreat

set_option linter.unusedVariables false
set_option linter.unusedSimpArgs false
namespace Go.Proofs.YtkigadnkclkopaaGreat
open Go.RowKit

/-! Without comments, with other places (no memory). -/
def tsm (t t' : Tv) : Prop := t.k = t'.k ∧ t.t = t'.t
theorem takes_same {t t' : Tv} (h : tsm t t') (x : Fl) : x.takes t = x.takes t' := by
  obtain ⟨k, s, _, _, _, _⟩ := t
  obtain ⟨k', s', _, _, _, _⟩ := t'
  obtain ⟨h1, h2⟩ := h
  simp only at h1 h2
  subst h1 h2
  cases x <;> rfl
theorem facN_same {t t' : Tv} (h : tsm t t') : facN t = facN t' := by
  obtain ⟨k, s, _, _, _, _⟩ := t
  obtain ⟨k', s', _, _, _, _⟩ := t'
  obtain ⟨h1, h2⟩ := h
  simp only at h1 h2
  subst h1 h2
  rfl
theorem row_same {t t' : Tv} (h : tsm t t') (m : M) : M.row t m = M.row t' m := by
  obtain ⟨k, s, _, _, _, _⟩ := t
  obtain ⟨k', s', _, _, _, _⟩ := t'
  obtain ⟨h1, h2⟩ := h
  simp only at h1 h2
  subst h1 h2
  cases m <;> rfl
theorem pick_same' {t t' : Tv} (h : tsm t t') (p : Pk) : Pk.pick t p = Pk.pick t' p := by
  obtain ⟨k, s, _, _, _, _⟩ := t
  obtain ⟨k', s', _, _, _, _⟩ := t'
  obtain ⟨h1, h2⟩ := h
  simp only at h1 h2
  subst h1 h2
  cases p with
  | fn d => cases d <;> rfl
  | row r =>
    cases r with
    | nil => rfl
    | cons x r => cases x <;> rfl
  | ex m => rfl
theorem step_same {t t' : Tv} (h : tsm t t') (i : It) : It.step t i = It.step t' i := by
  cases i with
  | fl x =>
    cases x with
    | mt m => simp only [It.step, Fl.step, row_same h m]
    | wd k ts => have := takes_same h (.wd k ts); simp only [It.step, Fl.step]; rw [this]
    | nm => have := takes_same h .nm; simp only [It.step, Fl.step]; rw [this]
    | cs => have := takes_same h .cs; simp only [It.step, Fl.step]; rw [this]
  | once p => simp only [It.step, pick_same' h p]
  | again p => simp only [It.step, pick_same' h p]
  | _ => rfl
theorem ru_same {t t' : Tv} (hs : tsm t t') {k : Nat} {K : List It} {n : Int} {E : List Ev} {R : Ro} (h : Ru t k K n E R) : Ru t' k K n E R := by
  induction h with
  | nil => exact .nil
  | ref h => exact .ref (by rw [← step_same hs]; exact h)
  | tk h => exact .tk (by rw [← step_same hs]; exact h)
  | go h _ ih => exact .go (by rw [← step_same hs]; exact h) ih
/-- Events that are the same, but for comments and places. -/
inductive Es : List Ev → List Ev → Prop
  | nil : Es [] []
  | note {e : Ev} {E E' : List Ev} : e.k = 4 → Es E E' → Es (e :: E) E'
  | cons {e e' : Ev} {E E' : List Ev} : e.k ≠ 4 → e.k = e'.k → e.n = e'.n → tsm e.d e'.d → Es E E' → Es (e :: E) (e' :: E')
theorem es_app : ∀ (o : List Ev), (∀ e ∈ o, e.k ≠ 4) → ∀ {E E' : List Ev}, Es E E' → Es (o ++ E) (o ++ E')
  | [], _, _, _, h => h
  | e :: o, ho, E, E', h => .cons (ho e (by simp)) rfl rfl ⟨rfl, rfl⟩ (es_app o (fun x hx => ho x (by simp [hx])) h)
/-- The other tokens. -/
inductive Pls : List Tv → List Tv → Prop
  | nil : Pls [] []
  | com {t : Tv} {l l' : List Tv} : cmm t = true → Pls l l' → Pls (t :: l) l'
  | tok {t t' : Tv} {l l' : List Tv} : cmm t = false → tsm t t' → Pls l l' → Pls (t :: l) (t' :: l')
theorem cmm_same {t t' : Tv} (h : tsm t t') : cmm t = cmm t' := by unfold cmm; rw [h.1]
theorem plain_rest : ∀ {l l' : List Tv}, Pls l l' → ∀ (K : List It) (n : Int) (E : List Ev) (code : Int) (a : Nat), Good (.live K n) → Bo2 K → Alr (.live K n) l E code a → ∃ E', Alr (.live K n) l' E' code (tks (l.take a)).length ∧ (code = 0 → Es E E') := by
  intro l l' h
  induction h with
  | nil =>
    intro K n E code a hg hb h
    obtain ⟨hc, rfl⟩ := h.end
    refine ⟨E, .nil hc, fun h0 => ?_⟩
    subst h0
    cases hc with
    | all hh => exact .cons (by decide) rfl rfl ⟨rfl, rfl⟩ .nil
  | com hc _ ih =>
    rename_i t l l' hP
    intro K n E code a hg hb h
    have hn := good_pos hg hb
    obtain ⟨b1, b2, b3⟩ := beg_self (K := K) hn
    rcases h.inv with ⟨ev, st', hp, hcd, rfl, rfl⟩ | ⟨ev, st', E2, k2, hp, hR2, rfl, rfl⟩
    · cases hp with
      | note hh => exact absurd rfl hcd
      | no hh _ _ => unfold cmm at hc; rw [hc] at hh; cases hh
      | deep hh _ _ _ => unfold cmm at hc; rw [hc] at hh; cases hh
      | yes hh _ _ _ => exact absurd rfl hcd
    · cases hp with
      | yes hh _ _ _ => unfold cmm at hc; rw [hc] at hh; cases hh
      | note hh =>
        rw [b1, b2] at hR2
        obtain ⟨E', h1, h2⟩ := ih K n E2 code k2 hg hb hR2
        refine ⟨E', ?_, fun h0 => ?_⟩
        · rw [List.take_succ_cons, toks_c hc]; exact h1
        · rw [b3]; exact .note rfl (h2 h0)
  | tok hc hs _ ih =>
    rename_i t t' l l' hP
    intro K n E code a hg hb h
    have hn := good_pos hg hb
    obtain ⟨b1, b2, b3⟩ := beg_self (K := K) hn
    obtain ⟨g1, g2, g3, g4, g5, gbot, gbn, gbe⟩ := good_beg hg
    have hc' : (t'.k == 7 || t'.k == 8) = false := by have := cmm_same hs; unfold cmm at this hc; rw [← this]; exact hc
    rcases h.inv with ⟨ev, st', hp, hcd, rfl, rfl⟩ | ⟨ev, st', E2, k2, hp, hR2, rfl, rfl⟩
    · refine ⟨[], ?_, fun h0 => absurd h0 hcd⟩
      cases hp with
      | note hh => exact absurd rfl hcd
      | no hh hR hk => exact .err (.no hc' (ru_same hs hR) hk) hcd
      | deep hh hR hk hm => exact .err (.deep hc' (ru_same hs hR) hk hm) hcd
      | yes hh _ _ _ => exact absurd rfl hcd
    · have hgs := (put_keep hg hp).1
      cases hp with
      | note hh => unfold cmm at hc; rw [hc] at hh; cases hh
      | yes hh hR hk hm2 =>
        rename_i L m2 E1 k1
        obtain ⟨c1, c2, c3, o, c4, c5, c6, c7⟩ := ru_keep hR rfl g1 g2 g3
        have hL := ru_bo2 hR rfl (by rw [b1]; exact hb)
        obtain ⟨E', h1, h2⟩ := ih L m2 E2 code k2 hgs hL hR2
        refine ⟨(E1 ++ [⟨2, 0, t'⟩]) ++ E', ?_, fun h0 => ?_⟩
        · rw [List.take_succ_cons, toks_t hc, List.length_cons]
          exact .on (.yes hc' (ru_same hs hR) hk hm2) h1
        · rw [c4, b3, List.nil_append, List.append_assoc, List.append_assoc]
          refine es_app o (fun e he => ?_) ?_
          · have := (c6 e he).2.1
            omega
          · exact .cons (by show (2 : Int) ≠ 4; decide) rfl rfl hs (h2 h0)
theorem first_alr {l : List Tv} {E : List Ev} {code : Int} {k : Nat} (h : Alr (.live (progR ++ [.lv 1]) 1) l E code k) (hl : l ≠ []) : ∃ E', Alr (.live [] 0) l E' code k ∧ (code = 0 → E' = ⟨1, 1, tv0⟩ :: E) := by
  cases l with
  | nil => exact absurd rfl hl
  | cons t r =>
    rcases h.inv with ⟨ev, st', hp, hcd, rfl, rfl⟩ | ⟨ev, st', E2, k2, hp, hR2, rfl, rfl⟩
    · cases hp with
      | note hh => exact absurd rfl hcd
      | yes hh _ _ _ => exact absurd rfl hcd
      | no hh hR hk => exact ⟨[], .err (.no (K := []) (n := 0) hh ((ru_pre hR).1 rfl _) hk) hcd, fun e => absurd e hcd⟩
      | deep hh hR hk hm =>
        obtain ⟨o, _, h5⟩ := (ru_pre hR).2 _ _ _ rfl
        exact ⟨[], .err (.deep (K := []) (n := 0) hh (h5 _) hk hm) hcd, fun e => absurd e hcd⟩
    · cases hp with
      | note hh => exact ⟨_, .on (.note (K := []) (n := 0) hh) hR2, fun _ => rfl⟩
      | yes hh hR hk hm =>
        obtain ⟨o, e6, h5⟩ := (ru_pre hR).2 _ _ _ rfl
        have e7 : begE (1 : Int) = [] := rfl
        rw [e7, List.nil_append] at e6
        subst e6
        exact ⟨_, .on (.yes (K := []) (n := 0) hh (h5 [⟨1, 1, tv0⟩]) hk hm) hR2, fun _ => rfl⟩
theorem alr_plain {l l' : List Tv} (hP : Pls l l') {E : List Ev} {code : Int} {a : Nat} (h : Alr (.live [] 0) l E code a) : ∃ E', Alr (.live [] 0) l' E' code (tks (l.take a)).length ∧ (code = 0 → Es E E') := by
  by_cases hl : l = []
  · subst hl
    cases hP
    obtain ⟨hc, rfl⟩ := h.end
    refine ⟨E, .nil hc, fun h0 => ?_⟩
    subst h0
    cases hc with
    | all hh => exact .cons (by decide) rfl rfl ⟨rfl, rfl⟩ .nil
  · obtain ⟨E1, h1, h2⟩ := alr_first h hl
    obtain ⟨E2, h3, h4⟩ := plain_rest hP _ 1 E1 code a good_one bo2_prog h1
    by_cases hl' : l' = []
    · subst hl'
      obtain ⟨hc, hk⟩ := h3.end
      rw [hk]
      cases hc with
      | all hh => exact absurd hh (by decide)
      | «open» hh => exact ⟨[], .nil (.open (by decide)), fun h0 => by cases h0⟩
    · obtain ⟨E', h5, h6⟩ := first_alr h3 hl'
      refine ⟨E', h5, fun h0 => ?_⟩
      rw [h2 h0, h6 h0]
      exact .cons (by decide) rfl rfl ⟨rfl, rfl⟩ (h4 h0)
/-- Where it goes wrong. -/
theorem alr_at : ∀ {l : List Tv} {st : Pst} {E : List Ev} {code : Int} {a : Nat}, Good st → Ini st → Alr st l E code a → code ≠ 0 → ((code = 121 ↔ a = l.length) ∧ a ≤ l.length)
  | [], st, E, code, a, hg, hi, h, hc => by
    obtain ⟨h1, rfl⟩ := h.end
    rcases clor_live hi h1 with ⟨h2, _⟩ | h2
    · exact absurd h2 hc
    · exact ⟨⟨fun _ => rfl, fun _ => h2⟩, Nat.le_refl _⟩
  | t :: l, st, E, code, a, hg, hi, h, hc => by
    rcases h.inv with ⟨ev, st', hp, hcd, rfl, rfl⟩ | ⟨ev, st', E2, k2, hp, hR2, rfl, rfl⟩
    · have : code ≠ 121 := by
        rcases hi with rfl | ⟨K, n, rfl, _⟩
        · cases hp <;> simp_all
        · cases hp <;> simp_all
      exact ⟨⟨fun h => absurd h this, fun h => by simp at h⟩, Nat.zero_le _⟩
    · obtain ⟨h1, h2⟩ := put_ini hg hi hp
      obtain ⟨h3, h4⟩ := alr_at h1 h2 hR2 hc
      refine ⟨?_, by simp; omega⟩
      rw [h3]
      simp
/-! The same tree. -/
theorem canl_app (a b : List Nd) : canL (a ++ b) = canL a ++ canL b := by
  induction a with
  | nil => rfl
  | cons n r ih =>
    simp only [List.cons_append, canL]
    split
    · exact ih
    · rw [ih]; rfl
inductive SR : List (Int × List Nd) → List (Int × List Nd) → Prop
  | nil : SR [] []
  | cons {k : Int} {c c' : List Nd} {S S' : List (Int × List Nd)} : canL c = canL c' → SR S S' → SR ((k, c) :: S) ((k, c') :: S')
theorem SR.len {S S' : List (Int × List Nd)} (h : SR S S') : S.length = S'.length := by
  induction h with
  | nil => rfl
  | cons _ _ ih => simp [ih]
theorem bld_sim : ∀ {E E' : List Ev}, Es E E' → ∀ {S S' : List (Int × List Nd)} {n m : Nd}, SR S S' → bld E S = some n → bld E' S' = some m → can n = can m := by
  intro E E' h
  induction h with
  | nil => intro S S' n m hS h1 h2; simp [bld] at h1
  | note hk _ ih =>
    rename_i e E E' hE
    intro S S' n m hS h1 h2
    have k1 : ¬ e.k = 1 := by omega
    have k3 : ¬ e.k = 3 := by omega
    simp only [bld, if_neg k1, if_neg k3] at h1
    split at h1
    · rename_i hc
      have hcm : cm e.d = true := by
        rcases hc with ⟨h, _⟩ | ⟨_, h⟩
        · omega
        · exact h
      cases hS with
      | nil => cases h1
      | cons hcc hS =>
        rename_i k c c' S S'
        simp only at h1
        refine ih (.cons ?_ hS) h1 h2
        rw [canl_app, ← hcc]
        simp [canL, isN, Nd.k, Nd.d, hcm]
    · cases h1
  | cons hk he hn hd _ ih =>
    rename_i e e' E E' hE
    intro S S' n m hS h1 h2
    have hlen := hS.len
    by_cases k1 : e.k = 1
    · have k1' : e'.k = 1 := by omega
      simp only [bld, if_pos k1] at h1
      simp only [bld, if_pos k1'] at h2
      split at h1
      · cases h1
      · split at h2
        · cases h2
        · rw [hn] at h1
          exact ih (.cons rfl hS) h1 h2
    · have k1' : ¬ e'.k = 1 := by omega
      by_cases k3 : e.k = 3
      · have k3' : e'.k = 3 := by omega
        simp only [bld, if_neg k1, if_pos k3] at h1
        simp only [bld, if_neg k1', if_pos k3'] at h2
        cases hS with
        | nil => cases h1
        | cons hcc hS =>
          rename_i k c c' S S'
          simp only at h1 h2
          split at h1
          · split at h2
            · cases hS with
              | nil =>
                simp only at h1 h2
                split at h1
                · split at h2
                  · cases h1
                    cases h2
                    simp only [can, hcc]
                  · cases h2
                · cases h1
              | cons hcc2 hS2 =>
                rename_i k2 c2 c2' S2 S2'
                simp only at h1 h2
                refine ih (.cons ?_ hS2) h1 h2
                have hx : can (.mk k tv0 c) = can (.mk k tv0 c') := by simp only [can, hcc]
                have hy : isN (.mk k tv0 c) = isN (.mk k tv0 c') := rfl
                rw [canl_app, canl_app, hcc2]
                simp only [canL, hx, hy]
            · cases h2
          · cases h1
      · have k3' : ¬ e'.k = 3 := by omega
        simp only [bld, if_neg k1, if_neg k3] at h1
        simp only [bld, if_neg k1', if_neg k3'] at h2
        split at h1
        · split at h2
          · cases hS with
            | nil => cases h1
            | cons hcc hS =>
              simp only at h1 h2
              refine ih (.cons ?_ hS) h1 h2
              have hcm : cm e.d = cm e'.d := by unfold cm; rw [hd.1]
              have hx : can (.mk 0 e.d []) = can (.mk 0 e'.d []) := by simp only [can, hd.1, hd.2]
              have hy : isN (.mk 0 e.d []) = isN (.mk 0 e'.d []) := by simp only [isN, Nd.k, Nd.d, hcm]
              rw [canl_app, canl_app, hcc]
              simp only [canL, hx, hy]
          · cases h2
        · cases h1
theorem es_same {E E' : List Ev} {n m : Nd} (h : Es E E') (h1 : bld E [] = some n) (h2 : bld E' [] = some m) : same n m = true := (same_can n m).2 (bld_sim h .nil h1 h2)
/-- The law's own list. -/
def plT (i : Nat) (t : Tv) : Tv := { t with a := 5 * (i : Int), l := i, c := 0, f := 3 }
def plL : Nat → List Tv → List Tv
  | _, [] => []
  | i, t :: r => if cmm t then plL (i + 1) r else plT i t :: plL (i + 1) r
theorem plL_pls : ∀ (l : List Tv) (i : Nat), Pls l (plL i l)
  | [], i => .nil
  | t :: r, i => by
    cases h : cmm t with
    | true => rw [plL, if_pos h]; exact .com h (plL_pls r (i + 1))
    | false => rw [plL, if_neg (by simp [h])]; exact .tok h ⟨rfl, rfl⟩ (plL_pls r (i + 1))
theorem plL_app : ∀ (a b : List Tv) (i : Nat), plL i (a ++ b) = plL i a ++ plL (i + a.length) b
  | [], b, i => by simp [plL]
  | t :: a, b, i => by
    cases h : cmm t with
    | true => simp only [List.cons_append, plL, h, if_true, plL_app a b (i + 1), List.length_cons]; rw [show i + 1 + a.length = i + (a.length + 1) by omega]
    | false => simp only [List.cons_append, plL, h, Bool.false_eq_true, if_false, plL_app a b (i + 1), List.length_cons]; rw [show i + 1 + a.length = i + (a.length + 1) by omega]
theorem plL_len : ∀ (l : List Tv) (i : Nat), (plL i l).length ≤ l.length
  | [], i => Nat.le_refl _
  | t :: r, i => by
    have := plL_len r (i + 1)
    cases h : cmm t with
    | true => simp only [plL, h, if_true, List.length_cons]; omega
    | false => simp only [plL, h, Bool.false_eq_true, if_false, List.length_cons]; omega

end Go.Proofs.YtkigadnkclkopaaGreat
