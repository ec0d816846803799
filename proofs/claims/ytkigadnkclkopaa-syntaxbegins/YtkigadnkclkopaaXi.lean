import Derived.Test.YtkigadnkclkopaaXh
set_option linter.unusedVariables false
set_option linter.unusedSimpArgs false
namespace Go.Proofs.Ytkigadnkclkopaa
open Go.RowKit

/-! Beginnings (no memory). -/
/-- All of them stand. -/
inductive Alp : Pst → List Tv → List Ev → Pst → Prop
  | nil {st : Pst} : Alp st [] [] st
  | cons {st st' st2 : Pst} {t : Tv} {l : List Tv} {ev E : List Ev} : Putr t st ev 0 st' → Alp st' l E st2 → Alp st (t :: l) (ev ++ E) st2
theorem alr_split : ∀ (p q : List Tv) (st : Pst) (E : List Ev) (code : Int) (a : Nat), Alr st (p ++ q) E code a →
    (∃ E1 st' E2 a2, Alp st p E1 st' ∧ Alr st' q E2 code a2 ∧ a = p.length + a2 ∧ E = E1 ++ E2) ∨ (code ≠ 0 ∧ a < p.length ∧ ∀ q', ∃ E', Alr st (p ++ q') E' code a)
  | [], q, st, E, code, a, h => .inl ⟨[], st, E, a, .nil, h, by simp, rfl⟩
  | t :: p, q, st, E, code, a, h => by
    rcases h.inv with ⟨ev, st', hp, hcd, rfl, rfl⟩ | ⟨ev, st', E2, k2, hp, hR2, rfl, rfl⟩
    · exact .inr ⟨hcd, by simp, fun q' => ⟨[], .err hp hcd⟩⟩
    · rcases alr_split p q st' E2 code k2 hR2 with ⟨E1, st2, E3, a2, h1, h2, rfl, rfl⟩ | ⟨h1, h2, h3⟩
      · exact .inl ⟨ev ++ E1, st2, E3, a2, .cons hp h1, h2, by simp; omega, by simp⟩
      · refine .inr ⟨h1, by simp; omega, fun q' => ?_⟩
        obtain ⟨E', h4⟩ := h3 q'
        exact ⟨_, .on hp h4⟩
theorem alr_join : ∀ {p q : List Tv} {st st' : Pst} {E1 E2 : List Ev} {code : Int} {a : Nat}, Alp st p E1 st' → Alr st' q E2 code a → Alr st (p ++ q) (E1 ++ E2) code (p.length + a)
  | [], q, st, st', E1, E2, code, a, h, h' => by cases h; simpa using h'
  | t :: p, q, st, st', E1, E2, code, a, h, h' => by
    cases h with
    | cons hp hr =>
      have := alr_join hr h'
      rw [List.cons_append, List.append_assoc, List.length_cons, show p.length + 1 + a = (p.length + a) + 1 by omega]
      exact .on hp this
/-- At the beginning, or behind it. -/
def Ini (st : Pst) : Prop := st = .live [] 0 ∨ ∃ K n, st = .live K n ∧ Bo2 K ∧ n ≠ 0
theorem put_ini {st st' : Pst} {t : Tv} {ev : List Ev} (hg : Good st) (hi : Ini st) (hp : Putr t st ev 0 st') : Good st' ∧ Ini st' := by
  have hg' := (put_keep hg hp).1
  refine ⟨hg', ?_⟩
  have hb : ∀ K n, st = .live K n → Bo2 (beg K n) := by
    intro K n e
    rcases hi with hi | ⟨K', n', hi, hb, hn⟩
    · rw [hi] at e
      cases e
      exact bo2_prog
    · rw [hi] at e
      cases e
      rw [(beg_self hn).1]
      exact hb
  cases hp with
  | stuck => rcases hi with hi | ⟨_, _, hi, _⟩ <;> cases hi
  | note hh =>
    have hb2 := hb _ _ rfl
    exact .inr ⟨_, _, rfl, hb2, good_pos hg' hb2⟩
  | yes hh hR hk hm =>
    have hb2 := ru_bo2 hR rfl (hb _ _ rfl)
    exact .inr ⟨_, _, rfl, hb2, good_pos hg' hb2⟩
theorem alp_ini : ∀ {p : List Tv} {st st' : Pst} {E : List Ev}, Good st → Ini st → Alp st p E st' → Good st' ∧ Ini st'
  | [], st, st', E, hg, hi, h => by cases h; exact ⟨hg, hi⟩
  | t :: p, st, st', E, hg, hi, h => by
    cases h with
    | cons hp hr =>
      obtain ⟨h1, h2⟩ := put_ini hg hi hp
      exact alp_ini h1 h2 hr
theorem lead_all : ∀ (q : List Tv), (∀ t ∈ q, cmm t = true) → lead q = q ∧ bhd q = []
  | [], _ => ⟨rfl, rfl⟩
  | t :: q, h => by
    have h1 := h t (by simp)
    obtain ⟨a, b⟩ := lead_all q (fun x hx => h x (by simp [hx]))
    rw [lead, if_pos h1, bhd, if_pos h1]
    exact ⟨by rw [a], b⟩
theorem bhd_nil : ∀ (q : List Tv), bhd q = [] → ∀ t ∈ q, cmm t = true
  | [], _, t, h => by cases h
  | x :: q, hb, t, h => by
    cases hc : cmm x with
    | false => rw [bhd, if_neg (by simp [hc])] at hb; cases hb
    | true =>
      rw [bhd, if_pos hc] at hb
      rcases List.mem_cons.1 h with rfl | h
      · exact hc
      · exact bhd_nil q hb t h
/-- Comments alone are behind: it could have ended. -/
theorem notes_ok {st : Pst} {q : List Tv} {E : List Ev} {a : Nat} (hi : Ini st) (h : Alr st q E 0 a) (hq : ∀ t ∈ q, cmm t = true) : ∃ ev, Clor st ev 0 := by
  have go : ∀ K n, n ≠ 0 → ∀ E a, Alr (.live K n) q E 0 a → ∃ ev, Clor (.live K n) ev 0 := by
    intro K n hn E a h
    obtain ⟨E', k', _, _, h1⟩ := alr_notes hn q E 0 a h
    rw [(lead_all q hq).2] at h1
    exact ⟨_, h1.end.1⟩
  rcases hi with rfl | ⟨K, n, rfl, hb, hn⟩
  · by_cases hl : q = []
    · subst hl
      exact ⟨_, h.end.1⟩
    · obtain ⟨E1, h1, _⟩ := alr_first h hl
      obtain ⟨ev, h2⟩ := go _ _ (by decide) _ _ h1
      cases h2 with
      | all hh => exact absurd hh (by decide)
  · exact go K n hn E a h
/-- Behind a program: comments, or a token that can't stand. -/
theorem done_rest {n : Int} (hn : n ≠ 0) {q : List Tv} {E : List Ev} {code : Int} {a : Nat} (h : Alr (.live [.lv 1] n) q E code a) : (code = 0 ∧ ∀ t ∈ q, cmm t = true) ∨ code = 120 := by
  obtain ⟨E', k', _, _, h1⟩ := alr_notes hn q E code a h
  cases hb : bhd q with
  | nil =>
    rw [hb] at h1
    have h2 := h1.end.1
    cases h2 with
    | all hh => exact .inl ⟨rfl, bhd_nil q hb⟩
    | «open» hh => exact absurd rfl hh
  | cons t r =>
    rw [hb] at h1
    have hc : cmm t = false := by
      have := lead_bhd q
      rw [hb] at this
      cases hc : cmm t with
      | false => rfl
      | true => rw [lead, if_pos hc] at this; cases this
    have no : ∀ k L m F, ¬ Ru t k (beg [.lv 1] n) (begN n) (begE n) (.yes L m F) := by
      intro k L m F hR
      rw [(beg_self hn).1] at hR
      cases hR with
      | tk hs => cases hs
      | go hs hr =>
        cases hs
        cases hr
    rcases h1.inv with ⟨ev, st', hp, hcd, _⟩ | ⟨ev, st', E2, k2, hp, _⟩
    · cases hp with
      | note hh => exact absurd rfl hcd
      | no _ _ _ => exact .inr rfl
      | deep _ hR _ _ => exact absurd hR (no _ _ _ _)
      | yes _ _ _ _ => exact absurd rfl hcd
    · cases hp with
      | note hh => unfold cmm at hc; rw [hc] at hh; cases hh
      | yes _ hR _ _ => exact absurd hR (no _ _ _ _)
theorem ini_new : Ini (.live [] 0) := .inl rfl
theorem clor_live {st : Pst} {ev : List Ev} {c : Int} (hi : Ini st) (h : Clor st ev c) : (c = 0 ∧ ∃ n, st = .live [.lv 1] n ∧ n ≠ 0) ∨ c = 121 := by
  rcases hi with rfl | ⟨K, n, rfl, hb, hn⟩
  · cases h with
    | all hh => simp at hh
    | «open» hh => exact .inr rfl
  · cases h with
    | all hh =>
      refine .inl ⟨rfl, n, ?_, hn⟩
      rcases hb with rfl | ⟨X, rfl⟩
      · rfl
      · simp at hh
    | «open» hh => exact .inr rfl
theorem begins_math (l : List Tv) (k : Nat) (hk : k ≤ l.length) : ∃ E code a E' f b, Alr (.live [] 0) l E code a ∧ Alr (.live [] 0) (l.take k) E' f b ∧
    ((code ≠ 0 ∧ a < k ∧ f = code ∧ b = a) ∨ (¬ (code ≠ 0 ∧ a < k) ∧ ((code = 0 ∧ (∀ t ∈ l.drop k, cmm t = true) ∧ f = 0) ∨ (¬ (code = 0 ∧ ∀ t ∈ l.drop k, cmm t = true) ∧ ((f = 0 ∧ code = 120 ∧ k ≤ a) ∨ (f = 121 ∧ b = k)))))) := by
  obtain ⟨E, code, a, h⟩ := alr_ex l (.live [] 0) good_new
  have hlen : (l.take k).length = k := by rw [List.length_take]; omega
  have h0 : Alr (.live [] 0) (l.take k ++ l.drop k) E code a := by rw [List.take_append_drop]; exact h
  rcases alr_split _ _ _ _ _ _ h0 with ⟨E1, st, E2, a2, h1, h2, h3, _⟩ | ⟨h1, h2, h3⟩
  · obtain ⟨hg, hi⟩ := alp_ini good_new ini_new h1
    obtain ⟨ev, f, hc, _⟩ := close_ex st
    have hj := alr_join (q := []) h1 (.nil hc)
    rw [List.append_nil] at hj
    refine ⟨E, code, a, _, f, _, h, hj, .inr ⟨fun hh => by omega, ?_⟩⟩
    by_cases hq : code = 0 ∧ ∀ t ∈ l.drop k, cmm t = true
    · obtain ⟨rfl, hq2⟩ := hq
      refine .inl ⟨rfl, hq2, ?_⟩
      obtain ⟨ev2, hc2⟩ := notes_ok hi h2 hq2
      rcases clor_live hi hc2 with ⟨_, n, rfl, hn⟩ | h4
      · cases hc with
        | all _ => rfl
        | «open» hh => exact absurd rfl hh
      · cases h4
    · refine .inr ⟨hq, ?_⟩
      rcases clor_live hi hc with ⟨rfl, n, rfl, hn⟩ | rfl
      · refine .inl ⟨rfl, ?_, by omega⟩
        rcases done_rest hn h2 with h5 | h5
        · exact absurd h5 hq
        · exact h5
      · exact .inr ⟨rfl, by rw [hlen]; omega⟩
  · obtain ⟨E', h4⟩ := h3 []
    rw [List.append_nil] at h4
    exact ⟨E, code, a, E', code, a, h, h4, .inl ⟨h1, by omega, rfl, rfl⟩⟩

end Go.Proofs.Ytkigadnkclkopaa
