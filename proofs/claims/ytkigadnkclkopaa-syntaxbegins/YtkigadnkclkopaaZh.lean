import Derived.Test.YtkigadnkclkopaaZa
set_option linter.unusedVariables false
set_option linter.unusedSimpArgs false
namespace Go.Proofs.Ytkigadnkclkopaa
open Go.RowKit

/-! What a run leaves of the nodes that are open (no memory). -/
def Pn (d : D) : Prop := d.e = 0 → d.p ≠ []
theorem opD_dead {n : Int} {d : D} (he : ¬ d.e = 0) : opD n d = d := by unfold opD; rw [if_neg he]
theorem clD_dead {n : Int} {d : D} (he : ¬ d.e = 0) : clD n d = d := by unfold clD; rw [if_neg he]
abbrev kd (k : Int) (t : Tv) : Bool := t.k == k
def tkI (L : List Tv) (x : Fl) (d : D) : D := tkD L (qn L d (fun t => x.takes t)) d
theorem takes_wd (k : Int) (s : ByteArray) : (fun t => Fl.takes t (.wd k [s])) = wk k s := by
  funext t
  simp [Fl.takes, wk, has]
theorem qn_or {L : List Tv} {d : D} {f g : Tv → Bool} : (qn L d f || qn L d g) = qn L d (fun t => f t || g t) := by
  unfold qn
  cases nxt L d <;> rfl
def tBeg (t : Tv) : Bool := !(facN t == 0)
theorem wk_is (k : Int) (s : ByteArray) (t : Tv) : wk k s t = (t.k == k && t.t.toList == s.toList) := by unfold wk; rw [btl_eq]
theorem drow_ok (o : Option Tv) (m : M) : (drow o m).ok := by
  cases m with
  | kind =>
    simp only [drow]
    repeat' split
    all_goals simp [Gw.ok, wfs, It.wf, Pk.wf, rwf, lvs]
  | statement =>
    cases o with
    | none => trivial
    | some t =>
      simp only [drow]
      split
      · simp [Gw.ok, wfs, It.wf, Pk.wf, rwf, lvs]
      · split
        · exact wordedR_ok _
        · trivial
  | factor =>
    cases o with
    | none => trivial
    | some t => exact row_ok t .factor
  | _ => simp only [drow]; exact row_ok tv0 _
theorem drow_lvs {o : Option Tv} {m : M} : (∀ r, drow o m = .ex r → lvs r = []) ∧ (∀ nd r, drow o m = .op nd r → lvs r = []) := by
  have h := drow_ok o m
  constructor
  · intro r e; rw [e] at h; exact h.2.2
  · intro nd r e; rw [e] at h; exact h.2.2.1
theorem dpick_lvs {o : Option Tv} {p : Pk} {i : It} (h : dpick o p = some i) : lvs [i] = [] := by
  cases o with
  | none => cases h
  | some t =>
    cases p with
    | fn d =>
      simp only [dpick] at h
      split at h
      · simp only [Option.map_eq_some_iff] at h
        obtain ⟨m, _, rfl⟩ := h
        rfl
      · cases h
    | row r =>
      simp only [dpick, Pk.pick] at h
      split at h
      · cases h; rfl
      · cases h
    | ex m =>
      simp only [dpick, Pk.pick] at h
      split at h
      · cases h
      · cases h; rfl
theorem tkD_live {L : List Tv} {b : Bool} {d : D} (h : (tkD L b d).e = 0) : b = true ∧ d.e = 0 ∧ (tkD L b d).p = d.p ∧ d.p.length ≤ 1000 := by
  unfold tkD at h ⊢
  cases b with
  | true =>
    simp only [if_true] at h ⊢
    split at h
    · cases h
    · rename_i hd
      rw [if_neg hd]
      exact ⟨trivial, h, rfl, by omega⟩
  | false =>
    simp only [Bool.false_eq_true, if_false] at h
    split at h
    · split at h <;> cases h
    · rename_i he; exact absurd h he
theorem opD_live {n : Int} {d : D} : (opD n d).e = d.e := by unfold opD; split <;> rfl
theorem clD_live {n : Int} {d : D} : (clD n d).e = d.e := by unfold clD; split <;> rfl
theorem dst_path {L : List Tv} {i : It} {d : D} (h : (dst L i d).2.e = 0) : d.e = 0 ∧ ∀ (K : List It) (base q : List (Int × Nat)), d.p = base ++ q → q.map (·.1) = (lvs (i :: K)).reverse → ∃ q', (dst L i d).2.p = base ++ q' ∧ q'.map (·.1) = (lvs ((dst L i d).1 ++ K)).reverse := by
  cases i with
  | fl x =>
    by_cases hx : ∃ m, x = .mt m
    · obtain ⟨m, rfl⟩ := hx
      obtain ⟨l1, l2⟩ := drow_lvs (o := nxt L d) (m := m)
      simp only [dst] at h ⊢
      cases hr : drow (nxt L d) m with
      | ref =>
        rw [hr] at h
        exact absurd (tkD_live h).1 (by decide)
      | ex r =>
        rw [hr] at h
        refine ⟨h, fun K base q e1 e2 => ⟨q, e1, ?_⟩⟩
        rw [lvs_app, l1 r hr]
        exact e2
      | op nd r =>
        rw [hr] at h
        simp only at h ⊢
        have he : d.e = 0 := by rw [← opD_live (n := nd)]; exact h
        refine ⟨he, fun K base q e1 e2 => ⟨q ++ [(nd, d.s + 1)], ?_, ?_⟩⟩
        · unfold opD
          rw [if_pos he]
          simp [e1]
        · rw [lvs_app, lvs_app, l2 nd r hr]
          simp only [lvs, List.map_append, e2]
          simp
    · have e : dst L (.fl x) d = ([], tkD L (qn L d (fun t => x.takes t)) d) := by
        cases x with
        | mt m => exact absurd ⟨m, rfl⟩ hx
        | _ => rfl
      rw [e] at h ⊢
      obtain ⟨_, he, hp, _⟩ := tkD_live h
      exact ⟨he, fun K base q e1 e2 => ⟨q, by rw [hp]; exact e1, e2⟩⟩
  | lv n =>
    simp only [dst] at h ⊢
    rw [clD_live] at h
    refine ⟨h, fun K base q e1 e2 => ⟨q.dropLast, ?_, ?_⟩⟩
    · unfold clD
      rw [if_pos h]
      have hq : q ≠ [] := by
        intro hq
        rw [hq] at e2
        simp [lvs] at e2
      show d.p.dropLast = _
      rw [e1, List.dropLast_append_of_ne_nil hq]
    · rw [List.map_dropLast, e2]
      simp [lvs]
  | once p =>
    simp only [dst] at h ⊢
    refine ⟨h, fun K base q e1 e2 => ⟨q, e1, ?_⟩⟩
    cases hp : dpick (nxt L d) p with
    | none => exact e2
    | some i =>
      show _ = (lvs ([i] ++ K)).reverse
      rw [lvs_app, dpick_lvs hp]
      exact e2
  | again p =>
    simp only [dst] at h ⊢
    refine ⟨h, fun K base q e1 e2 => ⟨q, e1, ?_⟩⟩
    cases hp : dpick (nxt L d) p with
    | none => exact e2
    | some i =>
      show _ = (lvs ([i] ++ (.again p :: K))).reverse
      rw [lvs_app, dpick_lvs hp]
      exact e2
  | all r =>
    simp only [dst] at h ⊢
    refine ⟨h, fun K base q e1 e2 => ⟨q, e1, ?_⟩⟩
    rw [lvs_app, lvs_fl]
    exact e2
theorem rch_path {L : List Tv} {K K' : List It} {d d' : D} (h : Rch L K d K' d') (hl : d'.e = 0) : d.e = 0 ∧ ∀ (base q : List (Int × Nat)), d.p = base ++ q → q.map (·.1) = (lvs K).reverse → ∃ q', d'.p = base ++ q' ∧ q'.map (·.1) = (lvs K').reverse := by
  induction h with
  | refl => exact ⟨hl, fun base q e1 e2 => ⟨q, e1, e2⟩⟩
  | step _ ih =>
    obtain ⟨h1, h2⟩ := ih hl
    obtain ⟨h3, h4⟩ := dst_path h1
    refine ⟨h3, fun base q e1 e2 => ?_⟩
    obtain ⟨q1, e3, e4⟩ := h4 _ base q e1 e2
    exact h2 base q1 e3 e4
theorem ib_path {L : List Tv} {i : It} {d d' : D} (hi : lvs [i] = []) (h : Ib L i d d') (hl : d'.e = 0) : d.e = 0 ∧ d'.p = d.p := by
  obtain ⟨h1, h2⟩ := rch_path (h []) hl
  obtain ⟨q, e1, e2⟩ := h2 d.p [] (by simp) (by rw [hi]; rfl)
  have : q = [] := by simpa [lvs] using e2
  exact ⟨h1, by rw [e1, this]; simp⟩
theorem pn_op {n : Int} {d : D} : Pn (opD n d) := by
  intro h
  unfold opD at h ⊢
  split
  · simp
  · rename_i he; rw [if_neg he] at h; exact absurd h he
theorem pn_tk {L : List Tv} {x : Fl} {d : D} (h : Pn d) : Pn (tkI L x d) := by
  intro he
  obtain ⟨_, h1, h2, _⟩ := tkD_live he
  show (tkD L (qn L d (fun t => x.takes t)) d).p ≠ []
  rw [h2]
  exact h h1
theorem pn_ib {L : List Tv} {i : It} {d d' : D} (h : Pn d) (hi : lvs [i] = []) (hb : Ib L i d d') : Pn d' := by
  intro he
  obtain ⟨h1, h2⟩ := ib_path hi hb he
  rw [h2]
  exact h h1
theorem dst_ms {L : List Tv} {i : It} {d : D} : ms L (dst L i d).2 ≤ ms L d := by
  have ref : ms L (tkD L false d) ≤ ms L d := by
    unfold tkD ms
    simp only [Bool.false_eq_true, if_false]
    by_cases he : d.e = 0
    · simp only [he, if_true]; split <;> simp
    · simp [he]
  cases i with
  | fl x =>
    by_cases hx : ∃ m, x = .mt m
    · obtain ⟨m, rfl⟩ := hx
      simp only [dst]
      cases drow (nxt L d) m with
      | ref => exact ref
      | ex r => exact Nat.le_refl _
      | op nd r => exact Nat.le_of_eq ms_op
    · have e : dst L (.fl x) d = ([], tkD L (qn L d (fun t => x.takes t)) d) := by
        cases x with
        | mt m => exact absurd ⟨m, rfl⟩ hx
        | _ => rfl
      rw [e]
      exact (ms_tk rfl).1
  | lv n => exact Nat.le_of_eq ms_cl
  | _ => exact Nat.le_refl _
theorem rch_ms {L : List Tv} {K K' : List It} {d d' : D} (h : Rch L K d K' d') : ms L d' ≤ ms L d := by
  induction h with
  | refl => exact Nat.le_refl _
  | step _ ih => exact Nat.le_trans ih dst_ms
theorem ms_ib {L : List Tv} {i : It} {d d' : D} (h : Ib L i d d') : ms L d' ≤ ms L d := rch_ms (h [])
theorem ms_tkI {L : List Tv} {x : Fl} {d : D} : ms L (tkI L x d) ≤ ms L d ∧ (0 < ms L d → ms L (tkI L x d) < ms L d) := ms_tk rfl
theorem ms_live {L : List Tv} {d : D} {f : Tv → Bool} (h : qn L d f = true) : 0 < ms L d := by
  unfold ms
  rw [if_pos (qn_live h).1]
  omega
theorem ib_w {L : List Tv} {d : D} {k : Int} {ts : List ByteArray} : Ib L (.fl (.wd k ts)) d (tkI L (.wd k ts) d) := ib_tk ne_wd
theorem ib_n {L : List Tv} {d : D} : Ib L (.fl .nm) d (tkI L .nm d) := ib_tk ne_nm
theorem ib_c {L : List Tv} {d : D} : Ib L (.fl .cs) d (tkI L .cs d) := ib_tk ne_cs
theorem pick_row1 {L : List Tv} {d : D} {x : Fl} {r : List Fl} (h : qn L d (fun t => Fl.takes t x) = true) : dpick (nxt L d) (.row (x :: r)) = some (.all (x :: r)) := by
  unfold qn at h
  cases hn : nxt L d with
  | none => rw [hn] at h; cases h
  | some t =>
    rw [hn] at h
    simp only [Option.elim] at h
    simp [dpick, Pk.pick, h]
theorem pick_row0 {L : List Tv} {d : D} {x : Fl} {r : List Fl} (h : qn L d (fun t => Fl.takes t x) = false) : dpick (nxt L d) (.row (x :: r)) = none := by
  unfold qn at h
  cases hn : nxt L d with
  | none => rfl
  | some t =>
    rw [hn] at h
    simp only [Option.elim] at h
    simp [dpick, Pk.pick, h]
/-- A loop goes on. -/
structure Lp (L : List Tv) (p : Pk) (d0 d : D) : Prop where
  go : ∀ d2, Ib L (.again p) d d2 → Ib L (.again p) d0 d2
  le : ms L d ≤ ms L d0
  pn : Pn d0 → Pn d
theorem Lp.refl {L : List Tv} {p : Pk} {d : D} : Lp L p d d := ⟨fun _ h => h, Nat.le_refl _, fun h => h⟩
theorem Lp.step {L : List Tv} {p : Pk} {d0 d d1 : D} {i : It} (h : Lp L p d0 d) (hp : dpick (nxt L d) p = some i) (hi : Ib L i d d1) : Lp L p d0 d1 :=
  ⟨fun d2 h2 => h.go d2 (ib_again1 hp hi h2), Nat.le_trans (ms_ib hi) h.le, fun hn => pn_ib (h.pn hn) (dpick_lvs hp) hi⟩
theorem Lp.fin {L : List Tv} {p : Pk} {d0 d : D} (h : Lp L p d0 d) (hp : dpick (nxt L d) p = none) : Ib L (.again p) d0 d := h.go d (ib_again0 hp)
theorem qn_wd {L : List Tv} {d : D} {k : Int} {s : ByteArray} {b : Bool} (h : qn L d (wk k s) = b) : qn L d (fun t => Fl.takes t (.wd k [s])) = b := by rw [takes_wd]; exact h
theorem qn_wd2 {L : List Tv} {d : D} {k : Int} {s1 s2 : ByteArray} {b1 b2 : Bool} (h1 : qn L d (wk k s1) = b1) (h2 : qn L d (wk k s2) = b2) : qn L d (fun t => Fl.takes t (.wd k [s1, s2])) = (b1 || b2) := by
  rw [← h1, ← h2, qn_or]
  congr 1
  funext t
  simp only [Fl.takes, wk, has, List.any_cons, List.any_nil, Bool.or_false]
  cases t.k == k <;> simp
theorem qn_wd3 {L : List Tv} {d : D} {k : Int} {s1 s2 s3 : ByteArray} {b1 b2 b3 : Bool} (h1 : qn L d (wk k s1) = b1) (h2 : qn L d (wk k s2) = b2) (h3 : qn L d (wk k s3) = b3) : qn L d (fun t => Fl.takes t (.wd k [s1, s2, s3])) = (b1 || b2 || b3) := by
  rw [← h1, ← h2, ← h3, qn_or, qn_or]
  congr 1
  funext t
  simp only [Fl.takes, wk, has, List.any_cons, List.any_nil, Bool.or_false]
  cases t.k == k <;> simp [Bool.or_assoc]

end Go.Proofs.Ytkigadnkclkopaa
