import Derived.Test.YtkigadnkclkopaaYd
set_option linter.unusedVariables false
set_option linter.unusedSimpArgs false
namespace Go.Proofs.Ytkigadnkclkopaa
open Go.RowKit

/-! Comments change no other event (no memory). -/
def cmm (t : Tv) : Bool := t.k == 7 || t.k == 8
def nn (e : Ev) : Bool := e.k != 4
/-- What was told ahead is not looked at. -/
theorem ru_pre {t : Tv} {k : Nat} {K : List It} {n : Int} {E : List Ev} {R : Ro} (h : Ru t k K n E R) :
    (R = .no → ∀ E', Ru t k K n E' .no) ∧ (∀ L m F, R = .yes L m F → ∃ o, F = E ++ o ∧ ∀ E', Ru t k K n E' (.yes L m (E' ++ o))) := by
  induction h with
  | nil => exact ⟨fun _ E' => .nil, fun L m F e => by cases e⟩
  | ref hs => exact ⟨fun _ E' => .ref hs, fun L m F e => by cases e⟩
  | tk hs =>
    refine ⟨(fun e => by cases e), fun L m F e => ?_⟩
    cases e
    exact ⟨[], by simp, fun E' => by simpa using Ru.tk hs⟩
  | go hs hr ih =>
    refine ⟨fun e E' => .go hs (ih.1 e _), fun L m F e => ?_⟩
    obtain ⟨o2, rfl, h2⟩ := ih.2 L m F e
    refine ⟨_, (List.append_assoc ..), fun E' => .go hs ?_⟩
    rw [← List.append_assoc]
    exact h2 _
/-- The parser once Program was told. -/
def Beg : Pst → Prop
  | .live K n => n ≠ 0
  | _ => False
theorem beg_of {st st' : Pst} {t : Tv} {ev : List Ev} (hg : Good st) (hp : Putr t st ev 0 st') : Beg st' := by
  obtain ⟨h1, h2, h3, h4⟩ := put_keep hg hp
  obtain ⟨K, n, rfl, hb⟩ := h3 rfl
  have := bot_lv hb
  have := h1.1.lv
  show n ≠ 0
  omega
theorem filt_ev {c o : List Ev} (hc : ∀ e ∈ c, e.k = 3) (ho : ∀ e ∈ o, e.k = 1) : (c ++ o).filter nn = c ++ o := by
  refine List.filter_eq_self.2 (fun e he => ?_)
  rcases List.mem_append.1 he with h | h
  · simp [nn, hc e h]
  · simp [nn, ho e h]
/-- A token that is no comment tells no Note. -/
theorem filt_put {st st' : Pst} {t : Tv} {ev : List Ev} (hg : Good st) (hc : cmm t = false) (hp : Putr t st ev 0 st') : ev.filter nn = ev := by
  cases hp with
  | stuck => rfl
  | note h => unfold cmm at hc; rw [hc] at h; cases h
  | yes h hR hk hm =>
    obtain ⟨b1, b2, b3, b4, b5, hbot, hbn, hbe⟩ := good_beg hg
    obtain ⟨c, o, e1, e2, e3⟩ := ru_phase hR rfl b1
    rw [e1, List.filter_append, List.filter_append, filt_ev e2 e3]
    rw [show ∀ n, (begE n).filter nn = begE n from fun n => by unfold begE; split <;> rfl]
    rfl
theorem notes_beg : ∀ (l : List Tv) (st : Pst) (E : List Ev) (code : Int) (k : Nat), Good st → Beg st → Alr st l E code k → ∃ k', Alr st (l.filter (fun t => !cmm t)) (E.filter nn) code k'
  | [], st, E, code, k, hg, hb, h => by
    have h1 := h.end.1
    refine ⟨0, .nil ?_⟩
    cases h1 with
    | shut => exact .shut
    | stuck => exact .stuck
    | all hh => exact .all hh
    | «open» hh => exact .open hh
  | t :: l, st, E, code, k, hg, hb, h => by
    cases hc : cmm t with
    | true =>
      rw [List.filter_cons_of_neg (by simp [hc])]
      rcases h.inv with ⟨ev, st', hp, hcd, rfl, rfl⟩ | ⟨ev, st', E2, k2, hp, hR2, rfl, rfl⟩
      · cases hp with
        | shut => exact hb.elim
        | stuck => exact hb.elim
        | note hh => exact absurd rfl hcd
        | no hh _ _ => unfold cmm at hc; rw [hc] at hh; cases hh
        | deep hh _ _ _ => unfold cmm at hc; rw [hc] at hh; cases hh
        | yes hh _ _ _ => exact absurd rfl hcd
      · cases hp with
        | stuck => exact hb.elim
        | yes hh _ _ _ => unfold cmm at hc; rw [hc] at hh; cases hh
        | note hh =>
          rename_i K n
          have hn : (n == 0) = false := by have hb' : n ≠ 0 := hb; simpa using hb'
          have e1 : beg K n = K := by simp [beg, hn]
          have e2 : begN n = n := by simp [begN, hn]
          have e3 : begE n = [] := by simp [begE, hn]
          rw [e1, e2] at hR2
          rw [e3]
          obtain ⟨k', h2⟩ := notes_beg l _ E2 code k2 hg hb hR2
          exact ⟨k', by simpa [nn, List.filter_cons] using h2⟩
    | false =>
      rw [List.filter_cons_of_pos (by simp [hc])]
      rcases h.inv with ⟨ev, st', hp, hcd, rfl, rfl⟩ | ⟨ev, st', E2, k2, hp, hR2, rfl, rfl⟩
      · exact ⟨_, .err hp hcd⟩
      · obtain ⟨k', h2⟩ := notes_beg l st' E2 code k2 (put_keep hg hp).1 (beg_of hg hp) hR2
        rw [List.filter_append, filt_put hg hc hp]
        exact ⟨_, .on hp h2⟩

/-- What ParseNotes looks for. -/
def Nts (E B : List Ev) : Prop := E.filter nn = B ∨ (B = [] ∧ ∃ ns, E = ⟨1, 1, tv0⟩ :: ns ∧ ns ≠ [] ∧ ∀ e ∈ ns, e.k = 4)
theorem all_notes {E : List Ev} (h : E.filter nn = []) : ∀ e ∈ E, e.k = 4 := by
  intro e he
  have := List.filter_eq_nil_iff.1 h e he
  simpa [nn] using this
theorem notes_top {l : List Tv} {E : List Ev} {code : Int} {k : Nat} (h : Alr (.live [] 0) l E code k) : ∃ B k', Alr (.live [] 0) (l.filter (fun t => !cmm t)) B code k' ∧ Nts E B := by
  cases l with
  | nil =>
    have h1 := h.end.1
    cases h1 with
    | all hh => simp at hh
    | «open» h2 => exact ⟨[], 0, .nil (.open h2), .inl rfl⟩
  | cons t l =>
    cases hc : cmm t with
    | false =>
      rw [List.filter_cons_of_pos (by simp [hc])]
      rcases h.inv with ⟨ev, st', hp, hcd, rfl, rfl⟩ | ⟨ev, st', E2, k2, hp, hR2, rfl, rfl⟩
      · exact ⟨[], _, .err hp hcd, .inl rfl⟩
      · obtain ⟨k', h2⟩ := notes_beg l st' E2 code k2 (put_keep good_new hp).1 (beg_of good_new hp) hR2
        refine ⟨_, _, .on hp h2, .inl ?_⟩
        rw [List.filter_append, filt_put good_new hc hp]
    | true =>
      rw [List.filter_cons_of_neg (by simp [hc])]
      rcases h.inv with ⟨ev, st', hp, hcd, rfl, rfl⟩ | ⟨ev, st', E2, k2, hp, hR2, rfl, rfl⟩
      · cases hp with
        | note hh => exact absurd rfl hcd
        | no hh _ _ => unfold cmm at hc; rw [hc] at hh; cases hh
        | deep hh _ _ _ => unfold cmm at hc; rw [hc] at hh; cases hh
        | yes hh _ _ _ => exact absurd rfl hcd
      · have hgs := (put_keep good_new hp).1
        have hbs := beg_of good_new hp
        cases hp with
        | yes hh _ _ _ => unfold cmm at hc; rw [hc] at hh; cases hh
        | note hh =>
          obtain ⟨k', h2⟩ := notes_beg l _ E2 code k2 hgs hbs hR2
          have e1 : beg [] 0 = progR ++ [.lv 1] := rfl
          have e1' : beg (progR ++ [.lv 1]) 1 = progR ++ [.lv 1] := rfl
          have none : (E2.filter nn) = [] → Nts (begE 0 ++ [⟨4, 0, t⟩] ++ E2) [] := fun e => .inr ⟨rfl, ⟨4, 0, t⟩ :: E2, rfl, by simp, by
            intro x hx
            rcases List.mem_cons.1 hx with rfl | hx
            · rfl
            · exact all_notes e x hx⟩
          cases hl : l.filter (fun t => !cmm t) with
          | nil =>
            rw [hl] at h2
            have h3 := h2.end.1
            have hE : E2.filter nn = [] ∧ code = 121 := by
              revert h3
              generalize E2.filter nn = F
              intro h3
              cases h3 with
              | all hh => exact absurd hh (by decide)
              | «open» hh => exact ⟨rfl, rfl⟩
            obtain ⟨hE, rfl⟩ := hE
            exact ⟨[], 0, .nil (.open (by decide)), none hE⟩
          | cons u m =>
            have hu : cmm u = false := by
              have : u ∈ l.filter (fun t => !cmm t) := by rw [hl]; exact List.mem_cons_self ..
              simpa using (List.mem_filter.1 this).2
            rw [hl] at h2
            rcases h2.inv with ⟨ev, st', hp, hcd, hE, rfl⟩ | ⟨ev, st', E3, k3, hp, hR3, hE, rfl⟩
            · refine ⟨[], 0, ?_, none hE⟩
              cases hp with
              | note hh => exact absurd rfl hcd
              | no hh hR hk => exact .err (.no hh ((ru_pre hR).1 rfl _) hk) hcd
              | deep hh hR hk hm =>
                obtain ⟨o, _, h5⟩ := (ru_pre hR).2 _ _ _ rfl
                exact .err (.deep hh (h5 _) hk hm) hcd
              | yes hh _ _ _ => exact absurd rfl hcd
            · refine ⟨⟨1, 1, tv0⟩ :: (ev ++ E3), k3 + 1, ?_, .inl ?_⟩
              · cases hp with
                | note hh => unfold cmm at hu; rw [hu] at hh; cases hh
                | yes hh hR hk hm =>
                  obtain ⟨o, e6, h5⟩ := (ru_pre hR).2 _ _ _ rfl
                  have e7 : begE (begN 0) = [] := rfl
                  rw [e7, List.nil_append] at e6
                  subst e6
                  exact Alr.on (st := .live [] 0) (Putr.yes (K := []) (n := 0) hh (h5 [⟨1, 1, tv0⟩]) hk hm) hR3
              · rw [List.filter_append, hE]
                rfl

end Go.Proofs.Ytkigadnkclkopaa
