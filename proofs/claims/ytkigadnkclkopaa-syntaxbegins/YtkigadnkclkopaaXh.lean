import Derived.Test.YtkigadnkclkopaaXg
import Derived.Test.YtkigadnkclkopaaXb
set_option linter.unusedVariables false
set_option linter.unusedSimpArgs false
namespace Go.Proofs.Ytkigadnkclkopaa
open Go.RowKit

/-! A concrete run (no memory). -/
def ruF (t : Tv) : Nat → List It → Int → List Ev → Option (Nat × Ro)
  | 0, _, _, _ => none
  | f + 1, [], n, E => some (0, .no)
  | f + 1, i :: K, n, E => match It.step t i with
    | .ref => some (0, .no)
    | .tk => some (0, .yes K n E)
    | .go d o r => match ruF t f (r ++ K) (n + d) (E ++ o) with
      | some (k, R) => some (k + 1, R)
      | none => none
theorem ruF_is {t : Tv} : ∀ (f : Nat) (K : List It) (n : Int) (E : List Ev) (k : Nat) (R : Ro), ruF t f K n E = some (k, R) → Ru t k K n E R
  | 0, _, _, _, _, _, h => by cases h
  | f + 1, [], n, E, k, R, h => by cases h; exact .nil
  | f + 1, i :: K, n, E, k, R, h => by
    simp only [ruF] at h
    cases hs : It.step t i with
    | ref => rw [hs] at h; cases h; exact .ref hs
    | tk => rw [hs] at h; cases h; exact .tk hs
    | go d o r =>
      rw [hs] at h
      simp only at h
      cases hr : ruF t f (r ++ K) (n + d) (E ++ o) with
      | none => rw [hr] at h; cases h
      | some x =>
        obtain ⟨k', R'⟩ := x
        rw [hr] at h
        cases h
        exact .go hs (ruF_is f _ _ _ _ _ hr)
/-- Put at a token that is no comment, for a concrete one. -/
def putF (t : Tv) : Pst → Option (List Ev × Int × Pst)
  | .live K n => if (t.k == 7 || t.k == 8) then none else match ruF t 20 (beg K n) (begN n) (begE n) with
    | some (k, .yes L m E) => if m ≤ 1000 then some (E ++ [⟨2, 0, t⟩], 0, .live L m) else none
    | some (k, .no) => some ([], 120, .stuck 120 n)
    | none => none
  | _ => none
theorem ruF_le {t : Tv} : ∀ (f : Nat) (K : List It) (n : Int) (E : List Ev) (k : Nat) (R : Ro), ruF t f K n E = some (k, R) → k + 1 ≤ f
  | 0, _, _, _, _, _, h => by cases h
  | f + 1, [], n, E, k, R, h => by cases h; omega
  | f + 1, i :: K, n, E, k, R, h => by
    simp only [ruF] at h
    cases hs : It.step t i with
    | ref => rw [hs] at h; cases h; omega
    | tk => rw [hs] at h; cases h; omega
    | go d o r =>
      rw [hs] at h
      simp only at h
      cases hr : ruF t f (r ++ K) (n + d) (E ++ o) with
      | none => rw [hr] at h; cases h
      | some x =>
        obtain ⟨k', R'⟩ := x
        rw [hr] at h
        cases h
        have := ruF_le f _ _ _ _ _ hr
        omega
theorem putF_is {t : Tv} {st : Pst} {x : List Ev × Int × Pst} (h : putF t st = some x) : Putr t st x.1 x.2.1 x.2.2 := by
  cases st with
  | live K n =>
    simp only [putF] at h
    split at h
    · cases h
    · rename_i hc
      have hc' : (t.k == 7 || t.k == 8) = false := by simpa using hc
      cases hr : ruF t 20 (beg K n) (begN n) (begE n) with
      | none => rw [hr] at h; cases h
      | some y =>
        obtain ⟨k, R⟩ := y
        have h1 := ruF_is _ _ _ _ _ _ hr
        have h2 := ruF_le _ _ _ _ _ _ hr
        rw [hr] at h
        cases R with
        | no => cases h; exact .no hc' h1 (by omega)
        | yes L m E =>
          simp only at h
          split at h
          · cases h; exact .yes hc' h1 (by omega) (by assumption)
          · cases h
  | stuck e n => cases h
  | shut => cases h
def alrF : List Tv → Pst → Option (List Ev × Int × Nat)
  | [], .live K n => if K.length = 1 then some ([⟨3, 1, tv0⟩], 0, 0) else some ([], 121, 0)
  | [], _ => none
  | t :: l, st => match putF t st with
    | some (ev, c, st') => if c = 0 then (match alrF l st' with | some (E, c', k) => some (ev ++ E, c', k + 1) | none => none) else some ([], c, 0)
    | none => none
theorem alrF_is : ∀ (l : List Tv) (st : Pst) (E : List Ev) (c : Int) (k : Nat), alrF l st = some (E, c, k) → Alr st l E c k
  | [], st, E, c, k, h => by
    cases st with
    | live K n =>
      simp only [alrF] at h
      split at h
      · rename_i h1; cases h; exact .nil (.all h1)
      · rename_i h1; cases h; exact .nil (.open h1)
    | stuck e n => cases h
    | shut => cases h
  | t :: l, st, E, c, k, h => by
    simp only [alrF] at h
    cases hp : putF t st with
    | none => rw [hp] at h; cases h
    | some x =>
      obtain ⟨ev, c1, st'⟩ := x
      have h1 := putF_is hp
      rw [hp] at h
      simp only at h h1
      split at h
      · rename_i hc
        subst hc
        cases hr : alrF l st' with
        | none => rw [hr] at h; cases h
        | some y =>
          obtain ⟨E2, c2, k2⟩ := y
          rw [hr] at h
          cases h
          exact .on h1 (alrF_is l st' _ _ _ hr)
      · rename_i hc
        cases h
        exact .err h1 hc
/-! What the events build (no memory). -/
theorem play_len {s s' : List Int} {a b : List Ev} (h : play s (a ++ b) = some s') : ∃ s1, play s a = some s1 := by
  induction a generalizing s with
  | nil => exact ⟨s, rfl⟩
  | cons e a ih =>
    simp only [play, List.cons_append] at h ⊢
    split
    · rename_i h1; rw [if_pos h1] at h; exact ih h
    · rename_i h1
      rw [if_neg h1] at h
      split
      · rename_i h2
        rw [if_pos h2] at h
        cases s with
        | nil => cases h
        | cons n s =>
          simp only at h ⊢
          split
          · rename_i h3; rw [if_pos h3] at h; exact ih h
          · rename_i h3; rw [if_neg h3] at h; cases h
      · rename_i h2; rw [if_neg h2] at h; exact ih h
mutual
def Ful : Nd → Prop
  | .mk k d c => if k = 0 then c = [] else c ≠ [] ∧ d = tv0 ∧ FulL c
def FulL : List Nd → Prop
  | [] => True
  | n :: r => Ful n ∧ FulL r
end
theorem fulL_app : ∀ (a b : List Nd), FulL a → FulL b → FulL (a ++ b)
  | [], b, _, h => h
  | n :: r, b, h, h' => by
    simp only [List.cons_append, FulL] at h ⊢
    exact ⟨h.1, fulL_app r b h.2 h'⟩
/-- The nodes that are open: the kids that were put into them are whole; none has kind 0. -/
def FS (S : List (Int × List Nd)) : Prop := ∀ x ∈ S, FulL x.2 ∧ x.1 ≠ 0
def TopNe (S : List (Int × List Nd)) : Prop := ∃ k c S', S = (k, c) :: S' ∧ c ≠ []
theorem bld_closes : ∀ (c : List Ev) (S : List (Int × List Nd)) (s' : List Int), (∀ e ∈ c, e.k = 3) → play (S.map (·.1)) c = some s' → s' ≠ [] → FS S → (c ≠ [] → TopNe S) → ∃ S', S'.map (·.1) = s' ∧ FS S' ∧ (c ≠ [] → TopNe S') ∧ (c = [] → S' = S) ∧ ∀ rest, bld (c ++ rest) S = bld rest S'
  | [], S, s', _, h, _, hF, hT => by cases h; exact ⟨S, rfl, hF, (fun h => absurd rfl h), fun _ => rfl, fun rest => rfl⟩
  | e :: c, S, s', hc, h, hs, hF, hT => by
    have h3 := hc e (List.mem_cons_self ..)
    have h1 : ¬ e.k = 1 := by omega
    obtain ⟨k, kids, S1, rfl, hne⟩ := hT (by simp)
    simp only [List.map_cons, play, if_neg h1, if_pos h3] at h
    split at h
    · rename_i hk
      obtain ⟨k', c', S2, rfl⟩ : ∃ k' c' S2, S1 = (k', c') :: S2 := by
        cases S1 with
        | nil =>
          exfalso
          cases c with
          | nil => simp [play] at h; exact hs h
          | cons e2 c2 =>
            have h3' := hc e2 (by simp)
            have h1' : ¬ e2.k = 1 := by omega
            simp [play, h1', h3'] at h
        | cons x S2 => exact ⟨x.1, x.2, S2, rfl⟩
      have hk0 : k ≠ 0 := (hF (k, kids) (by simp)).2
      have hful : Ful (.mk k tv0 kids) := by rw [Ful, if_neg hk0]; exact ⟨hne, rfl, (hF (k, kids) (by simp)).1⟩
      have hF2 : FS ((k', c' ++ [.mk k tv0 kids]) :: S2) := by
        intro x hx
        rcases List.mem_cons.1 hx with rfl | hx
        · have := hF (k', c') (by simp)
          exact ⟨fulL_app _ _ this.1 (by simp [FulL, hful]), this.2⟩
        · exact hF x (by simp [hx])
      have hT2 : TopNe ((k', c' ++ [.mk k tv0 kids]) :: S2) := ⟨k', _, S2, rfl, by simp⟩
      obtain ⟨S', a1, a2, a3, a4, a5⟩ := bld_closes c ((k', c' ++ [.mk k tv0 kids]) :: S2) s' (fun x hx => hc x (List.mem_cons_of_mem _ hx)) (by simpa using h) hs hF2 (fun _ => hT2)
      refine ⟨S', a1, a2, fun _ => ?_, (fun h => by cases h), fun rest => ?_⟩
      · by_cases hcn : c = []
        · rw [a4 hcn]; exact hT2
        · exact a3 hcn
      · rw [List.cons_append, ← a5 rest]
        simp only [bld, if_neg h1, if_pos h3, if_pos hk]
    · cases h
theorem bld_opens : ∀ (o : List Ev) (S : List (Int × List Nd)) (s' : List Int), (∀ e ∈ o, e.k = 1 ∧ e.n ≠ 0) → play (S.map (·.1)) o = some s' → s'.length ≤ 1000 → FS S → ∃ S', S'.map (·.1) = s' ∧ FS S' ∧ S.length ≤ S'.length ∧ (∀ rest, bld (o ++ rest) S = bld rest S')
  | [], S, s', _, h, _, hF => by cases h; exact ⟨S, rfl, hF, Nat.le_refl _, fun rest => rfl⟩
  | e :: o, S, s', hc, h, hs, hF => by
    obtain ⟨h1, hn⟩ := hc e (List.mem_cons_self ..)
    simp only [play, if_pos h1] at h
    have hF2 : FS ((e.n, []) :: S) := by
      intro x hx
      rcases List.mem_cons.1 hx with rfl | hx
      · exact ⟨trivial, hn⟩
      · exact hF x hx
    obtain ⟨S', a1, a2, a3, a4⟩ := bld_opens o ((e.n, []) :: S) s' (fun x hx => hc x (List.mem_cons_of_mem _ hx)) h hs hF2
    have hl : S'.length ≤ 1000 := by have := congrArg List.length a1; rw [List.length_map] at this; omega
    simp only [List.length_cons] at a3
    refine ⟨S', a1, a2, by omega, fun rest => ?_⟩
    rw [List.cons_append, ← a4 rest]
    simp only [bld, if_pos h1]
    rw [if_neg (by intro hh; rcases hh with hh | hh; exact hn hh; omega)]
theorem bld_tok {t : Tv} {S : List (Int × List Nd)} (hS : S ≠ []) (hF : FS S) : ∃ S', S'.map (·.1) = S.map (·.1) ∧ FS S' ∧ TopNe S' ∧ ∀ rest, bld ((if cm t then ⟨4, 0, t⟩ else ⟨2, 0, t⟩) :: rest) S = bld rest S' := by
  cases S with
  | nil => exact absurd rfl hS
  | cons x S1 =>
    obtain ⟨k, c⟩ := x
    refine ⟨(k, c ++ [.mk 0 t []]) :: S1, rfl, ?_, ⟨k, _, S1, rfl, by simp⟩, fun rest => ?_⟩
    · intro x hx
      rcases List.mem_cons.1 hx with rfl | hx
      · have := hF (k, c) (by simp)
        exact ⟨fulL_app _ _ this.1 (by simp [FulL, Ful]), this.2⟩
      · exact hF x (by simp [hx])
    · cases hc : cm t <;> simp [bld, hc]
theorem ru_nz {t : Tv} {k : Nat} {K : List It} {n : Int} {E : List Ev} {R : Ro} (h : Ru t k K n E R) : ∀ {L : List It} {m : Int} {F : List Ev}, R = .yes L m F → ∀ e ∈ F, e ∈ E ∨ (e.k = 1 → e.n ≠ 0) := by
  induction h with
  | nil => intro L m F h; cases h
  | ref _ => intro L m F h; cases h
  | tk hs => intro L m F h e he; cases h; exact .inl he
  | go hs hr ih =>
    rename_i k i K n d E o r R
    intro L m F h e he
    rcases ih h e he with h1 | h1
    · rcases List.mem_append.1 h1 with h2 | h2
      · exact .inl h2
      · refine .inr (fun hk => ?_)
        cases i with
        | fl x =>
          cases x with
          | mt mm =>
            have hro := row_ok t mm
            simp only [It.step, Fl.step] at hs
            cases hrow : M.row t mm with
            | ref => rw [hrow] at hs; cases hs
            | ex r' => rw [hrow] at hs; cases hs; cases h2
            | op nd r' =>
              rw [hrow] at hs hro
              cases hs
              simp at h2
              subst h2
              have := hro.2.2.2.1
              show nd ≠ 0
              omega
          | _ => simp only [It.step, Fl.step] at hs; split at hs <;> cases hs
        | lv nn => cases hs; simp at h2; subst h2; cases hk
        | once p => cases hs; cases h2
        | again p => cases hs; cases h2
        | all r' => cases hs; cases h2
    · exact .inr h1
/-- The parser's nodes and the tree's. -/
structure Tj (K : List It) (S : List (Int × List Nd)) : Prop where
  pa : S.map (·.1) = lvs K
  fs : FS S
  tn : TopNe S ∨ K = progR ++ [.lv 1]
theorem prog_take {t : Tv} {k : Nat} {n m : Int} {E F : List Ev} {L : List It} (h : Ru t k (progR ++ [.lv 1]) n E (.yes L m F)) : F = E := by
  cases h with
  | tk _ => rfl
  | go hs _ =>
    simp only [It.step, Fl.step] at hs
    split at hs <;> cases hs
theorem play_pos : ∀ (o : List Ev) (s s' : List Int), (∀ e ∈ o, e.k = 1 ∧ e.n ≠ 1) → play s o = some s' → s'.getLast? = some 1 → s ≠ []
  | [], s, s', _, h, hl => by cases h; intro e; subst e; cases hl
  | e :: o, s, s', ho, h, hl => by
    obtain ⟨h1, h2⟩ := ho e (by simp)
    simp only [play, if_pos h1] at h
    intro es
    subst es
    have key : ∀ (o : List Ev) (s s' : List Int) (x : Int), (∀ e ∈ o, e.k = 1) → play s o = some s' → s.getLast? = some x → s'.getLast? = some x := by
      intro o
      induction o with
      | nil => intro s s' x _ h hx; cases h; exact hx
      | cons e2 o ih =>
        intro s s' x ho h hx
        simp only [play, if_pos (ho e2 (by simp))] at h
        refine ih (e2.n :: s) s' x (fun y hy => ho y (by simp [hy])) h ?_
        cases s with
        | nil => cases hx
        | cons y s => simpa using hx
    have := key o [e.n] s' e.n (fun y hy => (ho y (by simp [hy])).1) h rfl
    rw [this] at hl
    exact h2 (by simpa using hl)
theorem tree_rest : ∀ (l : List Tv) (K : List It) (n : Int) (S : List (Int × List Nd)) (E : List Ev) (k : Nat), Good (.live K n) → Bo2 K → Tj K S → Alr (.live K n) l E 0 k → ∃ c, bld E S = some (.mk 1 tv0 c) ∧ c ≠ [] ∧ FulL c
  | [], K, n, S, E, k, hg, hb, hj, h => by
    obtain ⟨hc, rfl⟩ := h.end
    cases hc with
    | all hh =>
      have hK : K = [.lv 1] := by
        rcases hb with hb | ⟨X, hX⟩
        · exact hb
        · rw [hX] at hh; simp at hh
      subst hK
      have hp := hj.pa
      rcases hj.tn with ⟨k0, c, S', rfl, hne⟩ | ht
      · simp [lvs] at hp
        obtain ⟨rfl, rfl⟩ := hp
        refine ⟨c, ?_, hne, (hj.fs (1, c) (by simp)).1⟩
        simp [bld]
      · cases ht
  | t :: l, K, n, S, E, k, hg, hb, hj, h => by
    have hn := good_pos hg hb
    obtain ⟨b1, b2, b3⟩ := beg_self (K := K) hn
    obtain ⟨g1, g2, g3, g4, g5, gbot, gbn, gbe⟩ := good_beg hg
    have hSne : S ≠ [] := by
      intro e
      have := hj.pa
      rw [e] at this
      have h2 : 1 ≤ (lvs K).length := by
        rcases hb with rfl | ⟨X, rfl⟩
        · decide
        · rw [lvs_app]; simp [lvs]
      rw [← this] at h2
      simp at h2
    rcases h.inv with ⟨ev, st', hp, hcd, rfl, rfl⟩ | ⟨ev, st', E2, k2, hp, hR2, rfl, rfl⟩
    · exact absurd rfl hcd
    · have hgs := (put_keep hg hp).1
      cases hp with
      | note hh =>
        rw [b1, b2] at hR2 hgs
        obtain ⟨S', a1, a2, a3, a4⟩ := bld_tok (t := t) hSne hj.fs
        have hcm : cm t = true := hh
        rw [hcm] at a4
        obtain ⟨c, c1, c2, c3⟩ := tree_rest l K n S' E2 k2 hgs hb ⟨a1.trans hj.pa, a2, .inl a3⟩ hR2
        refine ⟨c, ?_, c2, c3⟩
        rw [b3, List.nil_append, List.singleton_append, ← c1]
        exact a4 E2
      | yes hh hR hk hm2 =>
        rename_i L m2 E1 k1
        obtain ⟨c1, c2, c3, o, c4, c5, c6, c7⟩ := ru_keep hR rfl g1 g2 g3
        obtain ⟨cc, oo, d1, d2, d3⟩ := ru_phase hR rfl g1
        have hnz := ru_nz hR rfl
        have hL := ru_bo2 hR rfl (by rw [b1]; exact hb)
        rw [b3, List.nil_append] at c4 d1
        obtain rfl : o = cc ++ oo := c4.symm.trans d1
        rw [b1] at c5 hR
        rw [b3] at hR hnz
        obtain ⟨s1, p1⟩ := play_len c5
        have p2 : play s1 oo = some (lvs L) := by rw [← c5, play_app _ _ _ _ p1]
        have hlast : (lvs L).getLast? = some 1 := by
          rcases hL with rfl | ⟨X, rfl⟩
          · rfl
          · rw [lvs_app]; simp [lvs]
        have hs1 := play_pos oo s1 _ (fun e he => ⟨d3 e he, (c6 e (List.mem_append_right _ he)).2.2 (d3 e he)⟩) p2 hlast
        have htop : cc ≠ [] → TopNe S := by
          intro hcc
          rcases hj.tn with ht | ht
          · exact ht
          · subst ht
            have := prog_take hR
            rw [c4] at this
            simp at this
            exact absurd this.1 hcc
        obtain ⟨S1, e1, e2, e3, e4, e5⟩ := bld_closes cc S s1 d2 (by rw [hj.pa]; exact p1) hs1 hj.fs htop
        obtain ⟨S2, f1, f2, f3, f4⟩ := bld_opens oo S1 (lvs L) (fun e he => ⟨d3 e he, by
          rcases hnz e (by rw [c4]; exact List.mem_append_right _ he) with h1 | h1
          · cases h1
          · exact h1 (d3 e he)⟩) (by rw [e1]; exact p2) (by omega) e2
        have hS2 : S2 ≠ [] := by
          intro e
          rw [e] at f1
          have f1' : lvs L = [] := f1.symm
          rw [f1'] at hlast
          cases hlast
        obtain ⟨S3, a1, a2, a3, a4⟩ := bld_tok (t := t) hS2 f2
        have hcm : cm t = false := hh
        rw [hcm] at a4
        obtain ⟨c, x1, x2, x3⟩ := tree_rest l L m2 S3 E2 k2 hgs hL ⟨a1.trans f1, a2, .inl a3⟩ hR2
        refine ⟨c, ?_, x2, x3⟩
        rw [c4, List.append_assoc, List.append_assoc, e5, f4, ← x1]
        exact a4 E2
theorem alr_tree {l : List Tv} {E : List Ev} {k : Nat} (h : Alr (.live [] 0) l E 0 k) : ∃ c, bld E [] = some (.mk 1 tv0 c) ∧ c ≠ [] ∧ FulL c := by
  by_cases hl : l = []
  · subst hl
    obtain ⟨hc, rfl⟩ := h.end
    cases hc with
    | all hh => simp at hh
  · obtain ⟨E1, h1, h2⟩ := alr_first h hl
    obtain ⟨c, c1, c2, c3⟩ := tree_rest l _ 1 [(1, [])] E1 k good_one bo2_prog ⟨rfl, (fun x hx => by simp at hx; subst hx; exact ⟨trivial, by decide⟩), .inr rfl⟩ h1
    refine ⟨c, ?_, c2, c3⟩
    rw [h2 rfl, ← c1]
    simp [bld]

end Go.Proofs.Ytkigadnkclkopaa
