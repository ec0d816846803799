import Derived.Test.YtkigadnkclkopaaGreatG1
set_option linter.unusedVariables false
set_option linter.unusedSimpArgs false
namespace Go.Proofs.YtkigadnkclkopaaGreat
open Go.RowKit

/-! The document's reader (no memory): the same items, but each choice looks at a token's kind too; behind an error nothing changes. -/
/-- Where it is; the nodes that the next token stands in, each with its number; the last number; the nodes of the last token; what is wrong; what was told; what is told behind each token. -/
structure D where
  i : Nat
  p : List (Int × Nat)
  s : Nat
  l : List (Int × Nat)
  e : Int
  v : List Ev
  N : Nat → List Ev
def nxt (L : List Tv) (d : D) : Option Tv := if d.e = 0 then L[d.i]? else none
def qn (L : List Tv) (d : D) (f : Tv → Bool) : Bool := (nxt L d).elim false f
def opD (n : Int) (d : D) : D := if d.e = 0 then { d with p := d.p ++ [(n, d.s + 1)], s := d.s + 1, v := d.v ++ [⟨1, n, tv0⟩] } else d
def clD (n : Int) (d : D) : D := if d.e = 0 then { d with p := d.p.dropLast, v := d.v ++ [⟨3, n, tv0⟩] } else d
def tkD (L : List Tv) (r : Bool) (d : D) : D :=
  if r then (if 1000 < d.p.length then { d with e := 122 } else { d with i := d.i + 1, l := if d.i + 1 = L.length then d.p else d.l, v := d.v ++ ⟨2, 0, L[d.i]?.getD tv0⟩ :: d.N d.i })
  else if d.e = 0 then (if d.i < L.length then { d with e := 120 } else { d with e := 121 }) else d
def wk (k : Int) (s : ByteArray) (t : Tv) : Bool := t.k == k && decide (t.t = s)
def Dk.kd : Dk → Int
  | .declaration => 2
  | _ => 6
def drow (o : Option Tv) : M → Gw
  | .kind => if o.elim false (wk 2 ⟨#[97, 114, 114, 97, 121]⟩) then .op 9 [.fl (.wd 2 [⟨#[97, 114, 114, 97, 121]⟩]), .fl (.wd 6 [⟨#[91]⟩]), .fl (.mt .expr), .fl (.wd 6 [⟨#[46, 46]⟩]), .fl (.mt .expr), .fl (.wd 6 [⟨#[93]⟩]), .fl (.wd 2 [⟨#[111, 102]⟩]), .fl (.mt .kind)]
    else if o.elim false (wk 2 ⟨#[114, 101, 99, 111, 114, 100]⟩) then .op 10 [.fl (.wd 2 [⟨#[114, 101, 99, 111, 114, 100]⟩]), .fl (.mt .member), .again (.row [.wd 6 [⟨#[59]⟩], .mt .member]), .fl (.wd 2 [⟨#[101, 110, 100]⟩])] else .op 8 [.fl .nm]
  | .statement => match o with
    | none => .ref
    | some t => if t.k == 1 then .op 14 [.fl (.mt .object), .once (.row [.wd 6 [⟨#[58, 61]⟩], .mt .expr])] else if t.k == 2 then wordedR t.t else .ref
  | .factor => match o with
    | none => .ref
    | some t => M.row t .factor
  | m => M.row tv0 m
def dpick (o : Option Tv) (p : Pk) : Option It :=
  match o with
  | none => none
  | some t => match p with
    | .fn d => if t.k == d.kd then (d.pick t).map (fun m => .fl (.mt m)) else none
    | p => Pk.pick t p
/-- One step: what comes in an item's place, and the state. -/
def dst (L : List Tv) : It → D → List It × D
  | .fl (.mt m), d => match drow (nxt L d) m with
    | .ref => ([], tkD L false d)
    | .ex r => (r, d)
    | .op nd r => (r ++ [.lv nd], opD nd d)
  | .fl x, d => ([], tkD L (qn L d (fun t => x.takes t)) d)
  | .lv n, d => ([], clD n d)
  | .once p, d => ((dpick (nxt L d) p).toList, d)
  | .again p, d => (agR p (dpick (nxt L d) p), d)
  | .all r, d => (r.map It.fl, d)
inductive Rch (L : List Tv) : List It → D → List It → D → Prop
  | refl {K : List It} {d : D} : Rch L K d K d
  | step {i : It} {K K' : List It} {d d' : D} : Rch L ((dst L i d).1 ++ K) (dst L i d).2 K' d' → Rch L (i :: K) d K' d'
theorem Rch.trans {L : List Tv} {K K1 K2 : List It} {d d1 d2 : D} (h : Rch L K d K1 d1) (h' : Rch L K1 d1 K2 d2) : Rch L K d K2 d2 := by
  induction h with
  | refl => exact h'
  | step _ ih => exact .step (ih h')
theorem Rch.under {L : List Tv} {K K1 : List It} {d d1 : D} (h : Rch L K d K1 d1) (X : List It) : Rch L (K ++ X) d (K1 ++ X) d1 := by
  induction h with
  | refl => exact .refl
  | step _ ih => exact .step (by rw [List.append_assoc] at ih; exact ih)
/-- It goes one way. -/
theorem Rch.det {L : List Tv} {K K1 : List It} {d d1 d2 : D} (h : Rch L K d K1 d1) (h' : Rch L K d [] d2) : Rch L K1 d1 [] d2 := by
  induction h with
  | refl => exact h'
  | step _ ih =>
    cases h' with
    | step h2 => exact ih h2
/-- An item goes from a state to a state. -/
def Ib (L : List Tv) (i : It) (d d' : D) : Prop := ∀ K, Rch L (i :: K) d K d'
/-- So does a row. -/
def Rb (L : List Tv) (r : List It) (d d' : D) : Prop := ∀ K, Rch L (r ++ K) d K d'
theorem rb_nil {L : List Tv} {d : D} : Rb L [] d d := fun K => .refl
theorem rb_cons {L : List Tv} {i : It} {r : List It} {d d1 d2 : D} (h : Ib L i d d1) (h' : Rb L r d1 d2) : Rb L (i :: r) d d2 := fun K => (h (r ++ K)).trans (h' K)
theorem ib_tk {L : List Tv} {d : D} {x : Fl} (hx : ∀ m, x ≠ .mt m) : Ib L (.fl x) d (tkD L (qn L d (fun t => x.takes t)) d) := fun K => by
  refine .step ?_
  cases x with
  | mt m => exact absurd rfl (hx m)
  | _ => exact .refl
theorem ib_lv {L : List Tv} {d : D} {n : Int} : Ib L (.lv n) d (clD n d) := fun K => .step .refl
theorem ib_op {L : List Tv} {d d' : D} {m : M} {nd : Int} {r : List It} (h : drow (nxt L d) m = .op nd r) (h' : Rb L (r ++ [.lv nd]) (opD nd d) d') : Ib L (.fl (.mt m)) d d' := fun K => by
  refine .step ?_
  have e : dst L (.fl (.mt m)) d = (r ++ [.lv nd], opD nd d) := by simp only [dst, h]
  rw [e]
  exact h' K
theorem ib_ex {L : List Tv} {d d' : D} {m : M} {r : List It} (h : drow (nxt L d) m = .ex r) (h' : Rb L r d d') : Ib L (.fl (.mt m)) d d' := fun K => by
  refine .step ?_
  have e : dst L (.fl (.mt m)) d = (r, d) := by simp only [dst, h]
  rw [e]
  exact h' K
theorem ib_ref {L : List Tv} {d : D} {m : M} (h : drow (nxt L d) m = .ref) : Ib L (.fl (.mt m)) d (tkD L false d) := fun K => by
  refine .step ?_
  have e : dst L (.fl (.mt m)) d = ([], tkD L false d) := by simp only [dst, h]
  rw [e]
  exact .refl
theorem ib_all {L : List Tv} {d d' : D} {r : List Fl} (h : Rb L (r.map It.fl) d d') : Ib L (.all r) d d' := fun K => .step (h K)
theorem ib_once0 {L : List Tv} {d : D} {p : Pk} (h : dpick (nxt L d) p = none) : Ib L (.once p) d d := fun K => by
  refine .step ?_
  simp only [dst, h]
  exact .refl
theorem ib_once1 {L : List Tv} {d d' : D} {p : Pk} {i : It} (h : dpick (nxt L d) p = some i) (h' : Ib L i d d') : Ib L (.once p) d d' := fun K => by
  refine .step ?_
  simp only [dst, h]
  exact h' K
theorem ib_again0 {L : List Tv} {d : D} {p : Pk} (h : dpick (nxt L d) p = none) : Ib L (.again p) d d := fun K => by
  refine .step ?_
  simp only [dst, h]
  exact .refl
theorem ib_again1 {L : List Tv} {d d1 d2 : D} {p : Pk} {i : It} (h : dpick (nxt L d) p = some i) (h' : Ib L i d d1) (h2 : Ib L (.again p) d1 d2) : Ib L (.again p) d d2 := fun K => by
  refine .step ?_
  simp only [dst, h]
  exact (h' (.again p :: K)).trans (h2 K)

/-- How far it is from the end: less with each token, nothing behind an error. -/
def ms (L : List Tv) (d : D) : Nat := if d.e = 0 then L.length - d.i + 1 else 0
theorem ms_op {L : List Tv} {d : D} {n : Int} : ms L (opD n d) = ms L d := by unfold opD; split <;> rfl
theorem ms_cl {L : List Tv} {d : D} {n : Int} : ms L (clD n d) = ms L d := by unfold clD; split <;> rfl
theorem qn_live {L : List Tv} {d : D} {f : Tv → Bool} (h : qn L d f = true) : d.e = 0 ∧ d.i < L.length := by
  unfold qn nxt at h
  split at h
  · rename_i he
    refine ⟨he, ?_⟩
    cases hl : L[d.i]? with
    | none => rw [hl] at h; cases h
    | some t => exact (List.getElem?_eq_some_iff.1 hl).1
  · cases h
theorem ms_tk {L : List Tv} {d : D} {f : Tv → Bool} {r : Bool} (h : r = qn L d f) : ms L (tkD L r d) ≤ ms L d ∧ (0 < ms L d → ms L (tkD L r d) < ms L d) := by
  cases hr : r with
  | true =>
    rw [hr] at h
    obtain ⟨he, hi⟩ := qn_live h.symm
    unfold tkD ms
    simp only [if_true]
    split
    · simp [he]
    · simp only [he, if_true]
      omega
  | false =>
    unfold tkD ms
    simp only [Bool.false_eq_true, if_false]
    by_cases he : d.e = 0
    · simp only [he, if_true]
      split <;> simp
    · simp [he]

end Go.Proofs.YtkigadnkclkopaaGreat

set_option linter.unusedVariables false
set_option linter.unusedSimpArgs false
namespace Go.Proofs.YtkigadnkclkopaaGreat
open Go.RowKit

/-! What a run leaves of the nodes that are open (no memory). -/
def Pn (d : D) : Prop := d.e = 0 → d.p ≠ []
theorem opD_dead {n : Int} {d : D} (he : ¬ d.e = 0) : opD n d = d := by unfold opD; rw [if_neg he]
theorem clD_dead {n : Int} {d : D} (he : ¬ d.e = 0) : clD n d = d := by unfold clD; rw [if_neg he]
abbrev kd (k : Int) (t : Tv) : Bool := t.k == k
def tkI (L : List Tv) (x : Fl) (d : D) : D := tkD L (qn L d (fun t => x.takes t)) d
theorem takes_wd (k : Int) (s : ByteArray) : (fun t => Fl.takes t (.wd k [s])) = wk k s := by
  funext t
  simp [Fl.takes, wk, has]
theorem qn_or {L : List Tv} {d : D} {f g : Tv → Bool} : (qn L d f || qn L d g) = qn L d (fun t => f t || g t) := by
  unfold qn
  cases nxt L d <;> rfl
def tBeg (t : Tv) : Bool := !(facN t == 0)
theorem wk_is (k : Int) (s : ByteArray) (t : Tv) : wk k s t = (t.k == k && t.t.toList == s.toList) := by unfold wk; rw [btl_eq]
theorem drow_ok (o : Option Tv) (m : M) : (drow o m).ok := by
  cases m with
  | kind =>
    simp only [drow]
    repeat' split
    all_goals simp [Gw.ok, wfs, It.wf, Pk.wf, rwf, lvs]
  | statement =>
    cases o with
    | none => trivial
    | some t =>
      simp only [drow]
      split
      · simp [Gw.ok, wfs, It.wf, Pk.wf, rwf, lvs]
      · split
        · exact wordedR_ok _
        · trivial
  | factor =>
    cases o with
    | none => trivial
    | some t => exact row_ok t .factor
  | _ => simp only [drow]; exact row_ok tv0 _
theorem drow_lvs {o : Option Tv} {m : M} : (∀ r, drow o m = .ex r → lvs r = []) ∧ (∀ nd r, drow o m = .op nd r → lvs r = []) := by
  have h := drow_ok o m
  constructor
  · intro r e; rw [e] at h; exact h.2.2
  · intro nd r e; rw [e] at h; exact h.2.2.1
theorem dpick_lvs {o : Option Tv} {p : Pk} {i : It} (h : dpick o p = some i) : lvs [i] = [] := by
  cases o with
  | none => cases h
  | some t =>
    cases p with
    | fn d =>
      simp only [dpick] at h
      split at h
      · simp only [Option.map_eq_some_iff] at h
        obtain ⟨m, _, rfl⟩ := h
        rfl
      · cases h
    | row r =>
      simp only [dpick, Pk.pick] at h
      split at h
      · cases h; rfl
      · cases h
    | ex m =>
      simp only [dpick, Pk.pick] at h
      split at h
      · cases h
      · cases h; rfl
theorem tkD_live {L : List Tv} {b : Bool} {d : D} (h : (tkD L b d).e = 0) : b = true ∧ d.e = 0 ∧ (tkD L b d).p = d.p ∧ d.p.length ≤ 1000 := by
  unfold tkD at h ⊢
  cases b with
  | true =>
    simp only [if_true] at h ⊢
    split at h
    · cases h
    · rename_i hd
      rw [if_neg hd]
      exact ⟨trivial, h, rfl, by omega⟩
  | false =>
    simp only [Bool.false_eq_true, if_false] at h
    split at h
    · split at h <;> cases h
    · rename_i he; exact absurd h he
theorem opD_live {n : Int} {d : D} : (opD n d).e = d.e := by unfold opD; split <;> rfl
theorem clD_live {n : Int} {d : D} : (clD n d).e = d.e := by unfold clD; split <;> rfl
theorem dst_path {L : List Tv} {i : It} {d : D} (h : (dst L i d).2.e = 0) : d.e = 0 ∧ ∀ (K : List It) (base q : List (Int × Nat)), d.p = base ++ q → q.map (·.1) = (lvs (i :: K)).reverse → ∃ q', (dst L i d).2.p = base ++ q' ∧ q'.map (·.1) = (lvs ((dst L i d).1 ++ K)).reverse := by
  cases i with
  | fl x =>
    by_cases hx : ∃ m, x = .mt m
    · obtain ⟨m, rfl⟩ := hx
      obtain ⟨l1, l2⟩ := drow_lvs (o := nxt L d) (m := m)
      simp only [dst] at h ⊢
      cases hr : drow (nxt L d) m with
      | ref =>
        rw [hr] at h
        exact absurd (tkD_live h).1 (by decide)
      | ex r =>
        rw [hr] at h
        refine ⟨h, fun K base q e1 e2 => ⟨q, e1, ?_⟩⟩
        rw [lvs_app, l1 r hr]
        exact e2
      | op nd r =>
        rw [hr] at h
        simp only at h ⊢
        have he : d.e = 0 := by rw [← opD_live (n := nd)]; exact h
        refine ⟨he, fun K base q e1 e2 => ⟨q ++ [(nd, d.s + 1)], ?_, ?_⟩⟩
        · unfold opD
          rw [if_pos he]
          simp [e1]
        · rw [lvs_app, lvs_app, l2 nd r hr]
          simp only [lvs, List.map_append, e2]
          simp
    · have e : dst L (.fl x) d = ([], tkD L (qn L d (fun t => x.takes t)) d) := by
        cases x with
        | mt m => exact absurd ⟨m, rfl⟩ hx
        | _ => rfl
      rw [e] at h ⊢
      obtain ⟨_, he, hp, _⟩ := tkD_live h
      exact ⟨he, fun K base q e1 e2 => ⟨q, by rw [hp]; exact e1, e2⟩⟩
  | lv n =>
    simp only [dst] at h ⊢
    rw [clD_live] at h
    refine ⟨h, fun K base q e1 e2 => ⟨q.dropLast, ?_, ?_⟩⟩
    · unfold clD
      rw [if_pos h]
      have hq : q ≠ [] := by
        intro hq
        rw [hq] at e2
        simp [lvs] at e2
      show d.p.dropLast = _
      rw [e1, List.dropLast_append_of_ne_nil hq]
    · rw [List.map_dropLast, e2]
      simp [lvs]
  | once p =>
    simp only [dst] at h ⊢
    refine ⟨h, fun K base q e1 e2 => ⟨q, e1, ?_⟩⟩
    cases hp : dpick (nxt L d) p with
    | none => exact e2
    | some i =>
      show _ = (lvs ([i] ++ K)).reverse
      rw [lvs_app, dpick_lvs hp]
      exact e2
  | again p =>
    simp only [dst] at h ⊢
    refine ⟨h, fun K base q e1 e2 => ⟨q, e1, ?_⟩⟩
    cases hp : dpick (nxt L d) p with
    | none => exact e2
    | some i =>
      show _ = (lvs ([i] ++ (.again p :: K))).reverse
      rw [lvs_app, dpick_lvs hp]
      exact e2
  | all r =>
    simp only [dst] at h ⊢
    refine ⟨h, fun K base q e1 e2 => ⟨q, e1, ?_⟩⟩
    rw [lvs_app, lvs_fl]
    exact e2
theorem rch_path {L : List Tv} {K K' : List It} {d d' : D} (h : Rch L K d K' d') (hl : d'.e = 0) : d.e = 0 ∧ ∀ (base q : List (Int × Nat)), d.p = base ++ q → q.map (·.1) = (lvs K).reverse → ∃ q', d'.p = base ++ q' ∧ q'.map (·.1) = (lvs K').reverse := by
  induction h with
  | refl => exact ⟨hl, fun base q e1 e2 => ⟨q, e1, e2⟩⟩
  | step _ ih =>
    obtain ⟨h1, h2⟩ := ih hl
    obtain ⟨h3, h4⟩ := dst_path h1
    refine ⟨h3, fun base q e1 e2 => ?_⟩
    obtain ⟨q1, e3, e4⟩ := h4 _ base q e1 e2
    exact h2 base q1 e3 e4
theorem ib_path {L : List Tv} {i : It} {d d' : D} (hi : lvs [i] = []) (h : Ib L i d d') (hl : d'.e = 0) : d.e = 0 ∧ d'.p = d.p := by
  obtain ⟨h1, h2⟩ := rch_path (h []) hl
  obtain ⟨q, e1, e2⟩ := h2 d.p [] (by simp) (by rw [hi]; rfl)
  have : q = [] := by simpa [lvs] using e2
  exact ⟨h1, by rw [e1, this]; simp⟩
theorem pn_op {n : Int} {d : D} : Pn (opD n d) := by
  intro h
  unfold opD at h ⊢
  split
  · simp
  · rename_i he; rw [if_neg he] at h; exact absurd h he
theorem pn_tk {L : List Tv} {x : Fl} {d : D} (h : Pn d) : Pn (tkI L x d) := by
  intro he
  obtain ⟨_, h1, h2, _⟩ := tkD_live he
  show (tkD L (qn L d (fun t => x.takes t)) d).p ≠ []
  rw [h2]
  exact h h1
theorem pn_ib {L : List Tv} {i : It} {d d' : D} (h : Pn d) (hi : lvs [i] = []) (hb : Ib L i d d') : Pn d' := by
  intro he
  obtain ⟨h1, h2⟩ := ib_path hi hb he
  rw [h2]
  exact h h1
theorem dst_ms {L : List Tv} {i : It} {d : D} : ms L (dst L i d).2 ≤ ms L d := by
  have ref : ms L (tkD L false d) ≤ ms L d := by
    unfold tkD ms
    simp only [Bool.false_eq_true, if_false]
    by_cases he : d.e = 0
    · simp only [he, if_true]; split <;> simp
    · simp [he]
  cases i with
  | fl x =>
    by_cases hx : ∃ m, x = .mt m
    · obtain ⟨m, rfl⟩ := hx
      simp only [dst]
      cases drow (nxt L d) m with
      | ref => exact ref
      | ex r => exact Nat.le_refl _
      | op nd r => exact Nat.le_of_eq ms_op
    · have e : dst L (.fl x) d = ([], tkD L (qn L d (fun t => x.takes t)) d) := by
        cases x with
        | mt m => exact absurd ⟨m, rfl⟩ hx
        | _ => rfl
      rw [e]
      exact (ms_tk rfl).1
  | lv n => exact Nat.le_of_eq ms_cl
  | _ => exact Nat.le_refl _
theorem rch_ms {L : List Tv} {K K' : List It} {d d' : D} (h : Rch L K d K' d') : ms L d' ≤ ms L d := by
  induction h with
  | refl => exact Nat.le_refl _
  | step _ ih => exact Nat.le_trans ih dst_ms
theorem ms_ib {L : List Tv} {i : It} {d d' : D} (h : Ib L i d d') : ms L d' ≤ ms L d := rch_ms (h [])
theorem ms_tkI {L : List Tv} {x : Fl} {d : D} : ms L (tkI L x d) ≤ ms L d ∧ (0 < ms L d → ms L (tkI L x d) < ms L d) := ms_tk rfl
theorem ms_live {L : List Tv} {d : D} {f : Tv → Bool} (h : qn L d f = true) : 0 < ms L d := by
  unfold ms
  rw [if_pos (qn_live h).1]
  omega
theorem ib_w {L : List Tv} {d : D} {k : Int} {ts : List ByteArray} : Ib L (.fl (.wd k ts)) d (tkI L (.wd k ts) d) := ib_tk ne_wd
theorem ib_n {L : List Tv} {d : D} : Ib L (.fl .nm) d (tkI L .nm d) := ib_tk ne_nm
theorem ib_c {L : List Tv} {d : D} : Ib L (.fl .cs) d (tkI L .cs d) := ib_tk ne_cs
theorem pick_row1 {L : List Tv} {d : D} {x : Fl} {r : List Fl} (h : qn L d (fun t => Fl.takes t x) = true) : dpick (nxt L d) (.row (x :: r)) = some (.all (x :: r)) := by
  unfold qn at h
  cases hn : nxt L d with
  | none => rw [hn] at h; cases h
  | some t =>
    rw [hn] at h
    simp only [Option.elim] at h
    simp [dpick, Pk.pick, h]
theorem pick_row0 {L : List Tv} {d : D} {x : Fl} {r : List Fl} (h : qn L d (fun t => Fl.takes t x) = false) : dpick (nxt L d) (.row (x :: r)) = none := by
  unfold qn at h
  cases hn : nxt L d with
  | none => rfl
  | some t =>
    rw [hn] at h
    simp only [Option.elim] at h
    simp [dpick, Pk.pick, h]
/-- A loop goes on. -/
structure Lp (L : List Tv) (p : Pk) (d0 d : D) : Prop where
  go : ∀ d2, Ib L (.again p) d d2 → Ib L (.again p) d0 d2
  le : ms L d ≤ ms L d0
  pn : Pn d0 → Pn d
theorem Lp.refl {L : List Tv} {p : Pk} {d : D} : Lp L p d d := ⟨fun _ h => h, Nat.le_refl _, fun h => h⟩
theorem Lp.step {L : List Tv} {p : Pk} {d0 d d1 : D} {i : It} (h : Lp L p d0 d) (hp : dpick (nxt L d) p = some i) (hi : Ib L i d d1) : Lp L p d0 d1 :=
  ⟨fun d2 h2 => h.go d2 (ib_again1 hp hi h2), Nat.le_trans (ms_ib hi) h.le, fun hn => pn_ib (h.pn hn) (dpick_lvs hp) hi⟩
theorem Lp.fin {L : List Tv} {p : Pk} {d0 d : D} (h : Lp L p d0 d) (hp : dpick (nxt L d) p = none) : Ib L (.again p) d0 d := h.go d (ib_again0 hp)
theorem qn_wd {L : List Tv} {d : D} {k : Int} {s : ByteArray} {b : Bool} (h : qn L d (wk k s) = b) : qn L d (fun t => Fl.takes t (.wd k [s])) = b := by rw [takes_wd]; exact h
theorem qn_wd2 {L : List Tv} {d : D} {k : Int} {s1 s2 : ByteArray} {b1 b2 : Bool} (h1 : qn L d (wk k s1) = b1) (h2 : qn L d (wk k s2) = b2) : qn L d (fun t => Fl.takes t (.wd k [s1, s2])) = (b1 || b2) := by
  rw [← h1, ← h2, qn_or]
  congr 1
  funext t
  simp only [Fl.takes, wk, has, List.any_cons, List.any_nil, Bool.or_false]
  cases t.k == k <;> simp
theorem qn_wd3 {L : List Tv} {d : D} {k : Int} {s1 s2 s3 : ByteArray} {b1 b2 b3 : Bool} (h1 : qn L d (wk k s1) = b1) (h2 : qn L d (wk k s2) = b2) (h3 : qn L d (wk k s3) = b3) : qn L d (fun t => Fl.takes t (.wd k [s1, s2, s3])) = (b1 || b2 || b3) := by
  rw [← h1, ← h2, ← h3, qn_or, qn_or]
  congr 1
  funext t
  simp only [Fl.takes, wk, has, List.any_cons, List.any_nil, Bool.or_false]
  cases t.k == k <;> simp [Bool.or_assoc]

end Go.Proofs.YtkigadnkclkopaaGreat

set_option linter.unusedVariables false
set_option linter.unusedSimpArgs false
namespace Go.Proofs.YtkigadnkclkopaaGreat
open Go.RowKit

/-! The code's way of a token against the document's (no memory). -/
/-- What a token's events make of the nodes. -/
def pev : List Ev → List (Int × Nat) × Nat → List (Int × Nat) × Nat
  | [], x => x
  | e :: o, (p, s) => if e.k = 1 then pev o (p ++ [(e.n, s + 1)], s + 1) else if e.k = 3 then pev o (p.dropLast, s) else pev o (p, s)
theorem pev_app : ∀ (a b : List Ev) (x : List (Int × Nat) × Nat), pev (a ++ b) x = pev b (pev a x)
  | [], b, x => rfl
  | e :: a, b, (p, s) => by
    simp only [List.cons_append, pev]
    split
    · exact pev_app a b _
    · split
      · exact pev_app a b _
      · exact pev_app a b _
def putE (d : D) (o : List Ev) : D := { d with p := (pev o (d.p, d.s)).1, s := (pev o (d.p, d.s)).2, v := d.v ++ o }
theorem putE_nil (d : D) : putE d [] = d := by simp [putE, pev]
theorem putE_app (d : D) (a b : List Ev) : putE (putE d a) b = putE d (a ++ b) := by simp [putE, pev_app]
/-- A token that looks like a part's first one, but is of another kind. -/
def bad (k : Dk) (t : Tv) : Prop := (t.k == k.kd) = false ∧ (k = .detail → (t.is [91] || t.is [46] || t.is [40]) = true)
def okT (ts : List ByteArray) : Bool := ts.all (fun s => !(s.toList == [91] || s.toList == [46] || s.toList == [40]))
/-- Such a token stops there. -/
def blk (k : Dk) : It → Bool
  | .fl (.wd q ts) => match k with
    | .declaration => q == 2
    | .bracket => q == 6
    | .detail => q == 6 || okT ts
  | _ => false
/-- It goes by. -/
def trn (k : Dk) : It → Bool
  | .lv _ => match k with | .detail => true | _ => false
  | .once (.row (.wd q ts :: _)) => match k with
    | .declaration => false
    | .bracket => q == 6
    | .detail => q == 6 || okT ts
  | .again (.row (.wd q ts :: _)) => match k with
    | .detail => q == 6 || okT ts
    | _ => false
  | .once (.fn _) => match k with | .detail => true | _ => false
  | .again (.fn _) => match k with | .detail => true | _ => false
  | _ => false
def sgd (k : Dk) : List It → Bool
  | [] => true
  | i :: K => blk k i || (trn k i && sgd k K)
/-- It can't stand: an error, or nothing is to come. -/
def Refd (L : List Tv) (K : List It) (d : D) : Prop := ∃ K' d', Rch L K d K' d' ∧ d'.i = d.i ∧ (d'.e = 120 ∨ (K' = [] ∧ d'.e = 0))
theorem Refd.step {L : List Tv} {i : It} {K : List It} {d : D} (h : Refd L ((dst L i d).1 ++ K) (dst L i d).2) (hi : (dst L i d).2.i = d.i) : Refd L (i :: K) d := by
  obtain ⟨K', d', h1, h2, h3⟩ := h
  exact ⟨K', d', .step h1, h2.trans hi, h3⟩
theorem nxt_lt {L : List Tv} {d : D} {t : Tv} (h : nxt L d = some t) : d.e = 0 ∧ L[d.i]? = some t ∧ d.i < L.length := by
  unfold nxt at h
  split at h
  · rename_i he
    exact ⟨he, h, (List.getElem?_eq_some_iff.1 h).1⟩
  · cases h
theorem ref_tk {L : List Tv} {K : List It} {d : D} {t : Tv} (hn : nxt L d = some t) {x : Fl} (hx : ∀ m, x ≠ .mt m) (ht : x.takes t = false) : Refd L (.fl x :: K) d := by
  obtain ⟨he, _, hi⟩ := nxt_lt hn
  have hq : qn L d (fun t => x.takes t) = false := by unfold qn; rw [hn]; exact ht
  refine ⟨K, _, ib_tk hx K, ?_, .inl ?_⟩
  · rw [hq]
    simp [tkD, he, hi]
  · rw [hq]
    simp [tkD, he, hi]
theorem has_no {t : Tv} {ts : List ByteArray} (h : okT ts = true) (hb : (t.is [91] || t.is [46] || t.is [40]) = true) : has ts t.t = false := by
  refine List.any_eq_false.2 (fun s hs => ?_)
  have h1 := List.all_eq_true.1 h s hs
  simp only [decide_eq_true_eq]
  intro e
  subst e
  unfold Tv.is at hb
  rw [hb] at h1
  cases h1
theorem bad_wd {k : Dk} {t : Tv} {q : Int} {ts : List ByteArray} (hb : bad k t) (h : match k with | .declaration => q == 2 | .bracket => q == 6 | .detail => q == 6 || okT ts) : Fl.takes t (.wd q ts) = false := by
  obtain ⟨h1, h2⟩ := hb
  simp only [Fl.takes]
  cases k with
  | declaration =>
    simp only [beq_iff_eq] at h
    subst h
    simp only [Dk.kd] at h1
    rw [h1]; rfl
  | bracket =>
    simp only [beq_iff_eq] at h
    subst h
    simp only [Dk.kd] at h1
    rw [h1]; rfl
  | detail =>
    simp only [Bool.or_eq_true, beq_iff_eq] at h
    rcases h with rfl | h
    · simp only [Dk.kd] at h1
      rw [h1]; rfl
    · rw [has_no h (h2 rfl), Bool.and_false]
theorem sgd_ref {k : Dk} {t : Tv} (hb : bad k t) {L : List Tv} : ∀ (K : List It) (d : D), sgd k K = true → nxt L d = some t → Refd L K d
  | [], d, _, hn => ⟨[], d, .refl, rfl, .inr ⟨rfl, (nxt_lt hn).1⟩⟩
  | i :: K, d, h, hn => by
    have thru : (dst L i d).1 = [] → nxt L (dst L i d).2 = some t → (dst L i d).2.i = d.i → sgd k K = true → Refd L (i :: K) d := fun e1 e2 e3 e4 => by
      refine Refd.step ?_ e3
      rw [e1]
      exact sgd_ref hb K _ e4 e2
    simp only [sgd, Bool.or_eq_true, Bool.and_eq_true] at h
    rcases h with h | ⟨h, hK⟩
    · cases i with
      | fl x =>
        cases x with
        | wd q ts => exact ref_tk hn ne_wd (bad_wd hb (by cases k <;> exact h))
        | _ => cases h
      | _ => cases h
    · cases i with
      | fl x => cases h
      | lv n =>
        refine thru rfl ?_ ?_ hK
        · simp only [dst, clD, (nxt_lt hn).1, if_true]
          simpa [nxt, (nxt_lt hn).1] using hn
        · simp only [dst, clD, (nxt_lt hn).1, if_true]
      | once p =>
        have hp : dpick (nxt L d) p = none := by
          rw [hn]
          cases p with
          | fn q =>
            cases k with
            | detail =>
              have h2 := hb.2 rfl
              simp only [dpick]
              cases q with
              | declaration =>
                split
                · have hv : t.is [118, 97, 114] = false ∧ t.is [99, 111, 110, 115, 116] = false ∧ t.is [112, 114, 111, 99] = false := by
                    unfold Tv.is at h2 ⊢
                    simp only [Bool.or_eq_true, beq_iff_eq] at h2
                    rcases h2 with (e | e) | e <;> rw [e] <;> decide
                  simp [Dk.pick, hv.1, hv.2.1, hv.2.2]
                · rfl
              | bracket => rw [if_neg (by rw [show Dk.bracket.kd = Dk.detail.kd from rfl, hb.1]; decide)]
              | detail => rw [if_neg (by rw [hb.1]; decide)]
            | _ => cases h
          | row r =>
            cases r with
            | nil => rfl
            | cons x r =>
              cases x with
              | wd q ts =>
                have : Fl.takes t (.wd q ts) = false := bad_wd hb (by
                  cases k with
                  | declaration => cases h
                  | bracket => exact h
                  | detail => exact h)
                simp [dpick, Pk.pick, this]
              | _ => cases h
          | ex m => cases h
        refine thru ?_ ?_ rfl hK
        · simp only [dst, hp]; rfl
        · exact hn
      | again p =>
        have hp : dpick (nxt L d) p = none := by
          rw [hn]
          cases p with
          | fn q =>
            cases k with
            | detail =>
              have h2 := hb.2 rfl
              simp only [dpick]
              cases q with
              | declaration =>
                split
                · have hv : t.is [118, 97, 114] = false ∧ t.is [99, 111, 110, 115, 116] = false ∧ t.is [112, 114, 111, 99] = false := by
                    unfold Tv.is at h2 ⊢
                    simp only [Bool.or_eq_true, beq_iff_eq] at h2
                    rcases h2 with (e | e) | e <;> rw [e] <;> decide
                  simp [Dk.pick, hv.1, hv.2.1, hv.2.2]
                · rfl
              | bracket => rw [if_neg (by rw [show Dk.bracket.kd = Dk.detail.kd from rfl, hb.1]; decide)]
              | detail => rw [if_neg (by rw [hb.1]; decide)]
            | _ => cases h
          | row r =>
            cases r with
            | nil => rfl
            | cons x r =>
              cases x with
              | wd q ts =>
                have : Fl.takes t (.wd q ts) = false := bad_wd hb (by
                  cases k with
                  | detail => exact h
                  | _ => cases h)
                simp [dpick, Pk.pick, this]
              | _ => cases h
          | ex m => cases h
        refine thru ?_ ?_ rfl hK
        · simp only [dst, hp]; rfl
        · exact hn
      | all r => cases h

end Go.Proofs.YtkigadnkclkopaaGreat

set_option linter.unusedVariables false
set_option linter.unusedSimpArgs false
namespace Go.Proofs.YtkigadnkclkopaaGreat
open Go.RowKit

def tokF : Fl → Bool
  | .mt _ => false
  | _ => true
def tokI : It → Bool
  | .fl x => tokF x
  | _ => false
/-- Behind a part stands what stops a token that can't stand. -/
def rok : List Fl → Bool
  | [] => true
  | x :: r => rok r && (tokF x || (match r with | [] => true | y :: _ => blk .detail (.fl y)))
def iok : It → Bool
  | .all r => rok r
  | .once (.row r) => rok r
  | .once _ => true
  | .again (.row r) => rok r && trn .detail (.again (.row r))
  | .again (.fn _) => true
  | .again (.ex _) => false
  | _ => true
def fnk : It → Option Dk
  | .once (.fn k) => some k
  | .again (.fn k) => some k
  | _ => none
def nw : List It → Bool
  | [] => true
  | i :: K => nw K && (iok i && ((tokI i || sgd .detail K) && (match fnk i with | some k => sgd k K | none => true)))
/-- The same of a row, whatever good stands behind. -/
def sgx (k : Dk) : List It → Bool
  | [] => match k with | .detail => true | _ => false
  | i :: K => blk k i || (trn k i && sgx k K)
def nwx : List It → Bool
  | [] => true
  | i :: K => nwx K && (iok i && ((tokI i || sgx .detail K) && (match fnk i with | some k => sgx k K | none => true)))
theorem sgx_sgd {k : Dk} {K : List It} (hK : sgd .detail K = true) : ∀ (r : List It), sgx k r = true → sgd k (r ++ K) = true
  | [], h => by cases k <;> first | exact hK | cases h
  | i :: r, h => by
    simp only [sgx, Bool.or_eq_true, Bool.and_eq_true] at h
    simp only [List.cons_append, sgd, Bool.or_eq_true, Bool.and_eq_true]
    exact h.imp id (fun h => ⟨h.1, sgx_sgd hK r h.2⟩)
theorem nwx_nw {K : List It} (hn : nw K = true) (hK : sgd .detail K = true) : ∀ (r : List It), nwx r = true → nw (r ++ K) = true
  | [], _ => hn
  | i :: r, h => by
    simp only [nwx, Bool.and_eq_true, Bool.or_eq_true] at h
    simp only [List.cons_append, nw, Bool.and_eq_true, Bool.or_eq_true]
    refine ⟨nwx_nw hn hK r h.1, h.2.1, h.2.2.1.imp id (sgx_sgd hK r), ?_⟩
    have h3 := h.2.2.2
    cases hf : fnk i with
    | none => rfl
    | some k => rw [hf] at h3; exact sgx_sgd hK r h3
def Gw.nx : Gw → Bool
  | .op nd r => nwx (r ++ [.lv nd])
  | .ex r => nwx r
  | .ref => true
theorem worded_nwx (s : ByteArray) : (wordedR s).nx = true := by
  unfold wordedR
  repeat' split
  all_goals kernel_rfl
theorem drow_nwx (o : Option Tv) (m : M) : (drow o m).nx = true := by
  cases m with
  | kind =>
    simp only [drow]
    by_cases h1 : o.elim false (wk 2 ⟨#[97, 114, 114, 97, 121]⟩) = true
    · rw [if_pos h1]; kernel_rfl
    · rw [if_neg h1]
      by_cases h2 : o.elim false (wk 2 ⟨#[114, 101, 99, 111, 114, 100]⟩) = true
      · rw [if_pos h2]; kernel_rfl
      · rw [if_neg h2]; kernel_rfl
  | statement =>
    cases o with
    | none => rfl
    | some t =>
      simp only [drow]
      by_cases h1 : (t.k == 1) = true
      · rw [if_pos h1]; kernel_rfl
      · rw [if_neg h1]
        by_cases h2 : (t.k == 2) = true
        · rw [if_pos h2]; exact worded_nwx t.t
        · rw [if_neg h2]; rfl
  | factor =>
    cases o with
    | none => rfl
    | some t =>
      simp only [drow, M.row]
      by_cases h1 : (facN t == 25) = true
      · rw [if_pos h1]; kernel_rfl
      rw [if_neg h1]
      by_cases h1 : (facN t == 26) = true
      · rw [if_pos h1]; kernel_rfl
      rw [if_neg h1]
      by_cases h1 : (facN t == 27) = true
      · rw [if_pos h1]; kernel_rfl
      rw [if_neg h1]
      by_cases h1 : (facN t == 32) = true
      · rw [if_pos h1]; kernel_rfl
      rw [if_neg h1]
      by_cases h1 : (facN t == 28) = true
      · rw [if_pos h1]; kernel_rfl
      rw [if_neg h1]; rfl
  | _ => simp only [drow, M.row]; kernel_rfl
theorem rok_nw {K : List It} (hn : nw K = true) (hK : sgd .detail K = true) : ∀ (r : List Fl), rok r = true → nw (r.map It.fl ++ K) = true
  | [], _ => hn
  | x :: r, h => by
    simp only [rok, Bool.and_eq_true, Bool.or_eq_true] at h
    simp only [List.map_cons, List.cons_append, nw, Bool.and_eq_true, Bool.or_eq_true]
    refine ⟨rok_nw hn hK r h.1, rfl, h.2.imp id (fun h2 => ?_), rfl⟩
    cases r with
    | nil => exact hK
    | cons y r =>
      simp only [List.map_cons, List.cons_append, sgd, Bool.or_eq_true]
      exact .inl h2
theorem nw_cons {i : It} {K : List It} (h : nw (i :: K) = true) : nw K = true ∧ iok i = true ∧ (tokI i = false → sgd .detail K = true) ∧ (∀ k, fnk i = some k → sgd k K = true) := by
  simp only [nw, Bool.and_eq_true, Bool.or_eq_true] at h
  refine ⟨h.1, h.2.1, fun e => h.2.2.1.resolve_left (by rw [e]; decide), fun k e => ?_⟩
  have := h.2.2.2
  rw [e] at this
  exact this
theorem dpick_iok {o : Option Tv} {p : Pk} {j : It} (h : dpick o p = some j) (hp : ∀ r, p = .row r → rok r = true) : iok j = true ∧ fnk j = none ∧ tokI j = false := by
  cases o with
  | none => cases h
  | some t =>
    cases p with
    | fn d =>
      simp only [dpick] at h
      split at h
      · simp only [Option.map_eq_some_iff] at h
        obtain ⟨m, _, rfl⟩ := h
        exact ⟨rfl, rfl, rfl⟩
      · cases h
    | row r =>
      simp only [dpick, Pk.pick] at h
      split at h
      · cases h; exact ⟨hp r rfl, rfl, rfl⟩
      · cases h
    | ex m =>
      simp only [dpick, Pk.pick] at h
      split at h
      · cases h
      · cases h; exact ⟨rfl, rfl, rfl⟩
/-- A step keeps it. -/
theorem dst_nw {L : List Tv} {i : It} {K : List It} {d : D} (h : nw (i :: K) = true) : nw ((dst L i d).1 ++ K) = true := by
  obtain ⟨h1, h2, h3, h4⟩ := nw_cons h
  cases i with
  | fl x =>
    by_cases hx : ∃ m, x = .mt m
    · obtain ⟨m, rfl⟩ := hx
      have hr := drow_nwx (nxt L d) m
      simp only [dst]
      cases hd : drow (nxt L d) m with
      | ref => exact h1
      | ex r => rw [hd] at hr; exact nwx_nw h1 (h3 rfl) r hr
      | op nd r => rw [hd] at hr; exact nwx_nw h1 (h3 rfl) _ hr
    · have e : dst L (.fl x) d = ([], tkD L (qn L d (fun t => x.takes t)) d) := by
        cases x with
        | mt m => exact absurd ⟨m, rfl⟩ hx
        | _ => rfl
      rw [e]
      exact h1
  | lv n => exact h1
  | all r => exact rok_nw h1 (h3 rfl) r h2
  | once p =>
    simp only [dst]
    cases hp : dpick (nxt L d) p with
    | none => exact h1
    | some j =>
      obtain ⟨a, b, c⟩ := dpick_iok hp (fun r e => by subst e; exact h2)
      show nw (j :: K) = true
      simp only [nw, Bool.and_eq_true, Bool.or_eq_true, a, b, h1, h3 rfl, and_self, or_true]
  | again p =>
    simp only [dst]
    cases hp : dpick (nxt L d) p with
    | none => exact h1
    | some j =>
      have hr : (∀ r, p = .row r → rok r = true) ∧ trn .detail (.again p) = true := by
        cases p with
        | fn k => exact ⟨(fun r e => by cases e), rfl⟩
        | row r =>
          simp only [iok, Bool.and_eq_true] at h2
          exact ⟨(fun r' e => by cases e; exact h2.1), h2.2⟩
        | ex m => cases h2
      obtain ⟨a, b, c⟩ := dpick_iok hp hr.1
      show nw (j :: .again p :: K) = true
      have hs : sgd .detail (.again p :: K) = true := by
        simp only [sgd, Bool.or_eq_true, Bool.and_eq_true]
        exact .inr ⟨hr.2, h3 rfl⟩
      rw [nw]
      simp only [Bool.and_eq_true, Bool.or_eq_true, a, b, h, hs, and_self, or_true]
theorem nw_prog : nw (progR ++ [.lv 1]) = true := by kernel_rfl

end Go.Proofs.YtkigadnkclkopaaGreat

set_option linter.unusedVariables false
set_option linter.unusedSimpArgs false
namespace Go.Proofs.YtkigadnkclkopaaGreat
open Go.RowKit

theorem ru_ref_no {t : Tv} {i : It} (hs : It.step t i = .ref) {k : Nat} {K : List It} {n : Int} {E : List Ev} {R : Ro} (h : Ru t k (i :: K) n E R) : R = .no := by
  cases h with
  | ref _ => rfl
  | tk h => rw [hs] at h; cases h
  | go h _ => rw [hs] at h; cases h
theorem step_wd {t : Tv} {q : Int} {ts : List ByteArray} (h : Fl.takes t (.wd q ts) = false) : It.step t (.fl (.wd q ts)) = .ref := by
  simp [It.step, Fl.step, h]
theorem ru_op_no {t : Tv} {i : It} {q : Int} {ts : List ByteArray} {d : Int} {o : List Ev} {r : List It} (hs : It.step t i = .go d o (.fl (.wd q ts) :: r)) (hq : (t.k == q) = false) {k : Nat} {K : List It} {n : Int} {E : List Ev} {R : Ro} (h : Ru t k (i :: K) n E R) : R = .no := by
  cases h with
  | ref _ => rfl
  | tk h => rw [hs] at h; cases h
  | go h hr =>
    rw [hs] at h
    cases h
    exact ru_ref_no (step_wd (by simp [Fl.takes, hq])) hr
theorem ru_fn_no {t : Tv} {k : Dk} {m : M} (hm : k.pick t = some m) (hk : (t.k == k.kd) = false) {j : Nat} {K : List It} {n : Int} {E : List Ev} {R : Ro} (h : Ru t j (.fl (.mt m) :: K) n E R) : R = .no := by
  cases k <;> simp only [Dk.pick] at hm <;> simp only [Dk.kd] at hk
  all_goals (repeat' (split at hm))
  all_goals first
    | (cases hm; done)
    | (cases hm; exact ru_op_no rfl hk h)
theorem opD_put {n : Int} {d : D} (he : d.e = 0) : opD n d = putE d [⟨1, n, tv0⟩] := by
  unfold opD
  rw [if_pos he]
  rfl
theorem clD_put {n : Int} {d : D} (he : d.e = 0) : clD n d = putE d [⟨3, n, tv0⟩] := by
  unfold clD
  rw [if_pos he]
  rfl
theorem drow_any {t : Tv} {m : M} (h1 : m ≠ .kind) (h2 : m ≠ .statement) : drow (some t) m = M.row t m := by
  cases m <;> first | rfl | exact absurd rfl h1 | exact absurd rfl h2
theorem worded_form (s : ByteArray) : wordedR s = .ref ∨ ∃ nd r, wordedR s = .op nd (.fl (.wd 2 [s]) :: r) := by
  unfold wordedR
  repeat' split
  all_goals first
    | exact .inl rfl
    | exact .inr ⟨_, _, rfl⟩
theorem same_row {L : List Tv} {d : D} {t : Tv} (hn : nxt L d = some t) {m : M} {dn : Int} {o : List Ev} {r : List It} (hs : It.step t (.fl (.mt m)) = .go dn o r) (he : drow (some t) m = M.row t m) : dst L (.fl (.mt m)) d = (r, putE d o) := by
  have hz := (nxt_lt hn).1
  simp only [dst, hn, he]
  simp only [It.step, Fl.step] at hs
  cases hr : M.row t m with
  | ref => rw [hr] at hs; cases hs
  | ex r' => rw [hr] at hs; cases hs; simp only [putE_nil]
  | op nd r' => rw [hr] at hs; cases hs; simp only [opD_put hz]
theorem pick_same {t : Tv} {p : Pk} : dpick (some t) p = Pk.pick t p ∨ ∃ k m, p = .fn k ∧ k.pick t = some m ∧ (t.k == k.kd) = false ∧ dpick (some t) p = none := by
  cases p with
  | fn k =>
    simp only [dpick, Pk.pick]
    by_cases h : (t.k == k.kd) = true
    · exact .inl (if_pos h)
    · have h' : (t.k == k.kd) = false := by simpa using h
      rw [if_neg h]
      cases hp : k.pick t with
      | none => exact .inl rfl
      | some m => exact .inr ⟨k, m, rfl, hp, h', rfl⟩
  | row r => exact .inl rfl
  | ex m => exact .inl rfl
theorem bad_of {t : Tv} {k : Dk} {m : M} (hm : k.pick t = some m) (hk : (t.k == k.kd) = false) : bad k t := by
  refine ⟨hk, fun e => ?_⟩
  subst e
  simp only [Dk.pick] at hm
  cases h1 : t.is [91] with
  | true => rfl
  | false =>
    cases h2 : t.is [46] with
    | true => rfl
    | false =>
      cases h3 : t.is [40] with
      | true => rfl
      | false => rw [h1, h2, h3] at hm; cases hm
/-- A step of the code against the document's. -/
theorem step_sim {t : Tv} {L : List Tv} {d : D} (hn : nxt L d = some t) {i : It} {dn : Int} {o : List Ev} {r : List It} (hs : It.step t i = .go dn o r) :
    dst L i d = (r, putE d o) ∨ ((∀ k K n E R, Ru t k (r ++ K) n E R → R = .no) ∧ (∀ K, nw (i :: K) = true → Refd L (i :: K) d)) := by
  have hz := (nxt_lt hn).1
  cases i with
  | fl x =>
    cases x with
    | mt m =>
      by_cases h1 : m = .kind
      · subst h1
        by_cases k1 : (t.k == 1) = true
        · refine .inl (same_row hn hs ?_)
          have hk : t.k = 1 := by simpa using k1
          simp [drow, M.row, wk, hk]
        · have k1' : (t.k == 1) = false := by simpa using k1
          by_cases k2 : (t.k == 2) = true
          · have a1 : wk 2 ⟨#[97, 114, 114, 97, 121]⟩ t = t.is [97, 114, 114, 97, 121] := by rw [wk_is, k2, show (ByteArray.mk #[97, 114, 114, 97, 121]).toList = [97, 114, 114, 97, 121] by decide +kernel]; rfl
            have a2 : wk 2 ⟨#[114, 101, 99, 111, 114, 100]⟩ t = t.is [114, 101, 99, 111, 114, 100] := by rw [wk_is, k2, show (ByteArray.mk #[114, 101, 99, 111, 114, 100]).toList = [114, 101, 99, 111, 114, 100] by decide +kernel]; rfl
            by_cases b1 : t.is [97, 114, 114, 97, 121] = true
            · refine .inl (same_row hn hs ?_)
              simp [drow, M.row, a1, b1, k1']
            · by_cases b2 : t.is [114, 101, 99, 111, 114, 100] = true
              · refine .inl (same_row hn hs ?_)
                simp [drow, M.row, a1, a2, b1, b2, k1']
              · simp [It.step, Fl.step, M.row, k1', b1, b2, Gw.sr] at hs
          · have k2' : (t.k == 2) = false := by simpa using k2
            have a1 : wk 2 ⟨#[97, 114, 114, 97, 121]⟩ t = false := by simp only [wk, k2', Bool.false_and]
            have a2 : wk 2 ⟨#[114, 101, 99, 111, 114, 100]⟩ t = false := by simp only [wk, k2', Bool.false_and]
            refine .inr ⟨?_, fun K _ => ?_⟩
            · intro k K n E R hR
              by_cases b1 : t.is [97, 114, 114, 97, 121] = true
              · simp only [It.step, Fl.step, M.row, k1', b1, Bool.false_eq_true, if_false, if_true, Gw.sr] at hs
                cases hs
                exact ru_ref_no (step_wd (by simp [Fl.takes, k2'])) hR
              · by_cases b2 : t.is [114, 101, 99, 111, 114, 100] = true
                · simp only [It.step, Fl.step, M.row, k1', b1, b2, Bool.false_eq_true, if_false, if_true, Gw.sr] at hs
                  cases hs
                  exact ru_ref_no (step_wd (by simp [Fl.takes, k2'])) hR
                · simp [It.step, Fl.step, M.row, k1', b1, b2, Gw.sr] at hs
            · have e : dst L (.fl (.mt .kind)) d = ([.fl .nm, .lv 8], opD 8 d) := by
                simp only [dst, hn, drow, Option.elim, a1, a2, Bool.false_eq_true, if_false]
                rfl
              refine Refd.step ?_ ?_
              · rw [e]
                refine ref_tk (t := t) ?_ ne_nm (by simp [Fl.takes, k1'])
                rw [opD_put hz]
                exact hn
              · rw [e, opD_put hz]
                rfl
      · by_cases h2 : m = .statement
        · subst h2
          by_cases k1 : (t.k == 1) = true
          · refine .inl (same_row hn hs ?_)
            simp [drow, M.row, k1]
          · have k1' : (t.k == 1) = false := by simpa using k1
            by_cases k2 : (t.k == 2) = true
            · refine .inl (same_row hn hs ?_)
              simp [drow, M.row, k1', k2]
            · have k2' : (t.k == 2) = false := by simpa using k2
              refine .inr ⟨?_, fun K _ => ?_⟩
              · intro k K n E R hR
                simp only [It.step, Fl.step, M.row, k1', Bool.false_eq_true, if_false] at hs
                rcases worded_form t.t with e | ⟨nd, r', e⟩
                · rw [e] at hs; cases hs
                · rw [e] at hs
                  cases hs
                  exact ru_ref_no (step_wd (by simp [Fl.takes, k2'])) hR
              · have e : dst L (.fl (.mt .statement)) d = ([], tkD L false d) := by
                  simp only [dst, hn, drow, k1', k2', Bool.false_eq_true, if_false]
                refine ⟨K, tkD L false d, ?_, ?_, .inl ?_⟩
                · refine .step ?_
                  rw [e]
                  exact .refl
                · simp [tkD, hz, (nxt_lt hn).2.2]
                · simp [tkD, hz, (nxt_lt hn).2.2]
        · exact .inl (same_row hn hs (drow_any h1 h2))
    | _ =>
      simp only [It.step, Fl.step] at hs
      split at hs <;> cases hs
  | lv n =>
    cases hs
    exact .inl (by simp only [dst, clD_put (n := n) hz])
  | all r => cases hs; exact .inl (by rw [putE_nil]; rfl)
  | once p =>
    rcases pick_same (t := t) (p := p) with e | ⟨k, m, rfl, hm, hk, e⟩
    · cases hs
      refine .inl ?_
      simp only [dst, hn, e, putE_nil]
    · refine .inr ⟨?_, fun K hK => ?_⟩
      · intro j K n E R hR
        simp only [It.step, Pk.pick, hm, Option.map_some, Option.toList] at hs
        cases hs
        exact ru_fn_no hm hk hR
      · have hK' := nw_cons hK
        refine Refd.step ?_ rfl
        simp only [dst, hn, e]
        exact sgd_ref (bad_of hm hk) K d (hK'.2.2.2 k rfl) hn
  | again p =>
    rcases pick_same (t := t) (p := p) with e | ⟨k, m, rfl, hm, hk, e⟩
    · cases hs
      refine .inl ?_
      simp only [dst, hn, e, putE_nil]
    · refine .inr ⟨?_, fun K hK => ?_⟩
      · intro j K n E R hR
        simp only [It.step, Pk.pick, hm, Option.map_some, agR] at hs
        cases hs
        exact ru_fn_no hm hk hR
      · have hK' := nw_cons hK
        refine Refd.step ?_ rfl
        simp only [dst, hn, e]
        exact sgd_ref (bad_of hm hk) K d (hK'.2.2.2 k rfl) hn
/-- A token's way through both. -/
theorem sim {t : Tv} {L : List Tv} {k : Nat} {K : List It} {n : Int} {E : List Ev} {R : Ro} (h : Ru t k K n E R) : ∀ (d : D), nxt L d = some t → nw K = true →
    (∀ K2 m F, R = .yes K2 m F → nw K2 = true ∧ ∃ x o, F = E ++ o ∧ (∀ m, x ≠ Fl.mt m) ∧ x.takes t = true ∧ Rch L K d (.fl x :: K2) (putE d o)) ∧ (R = .no → Refd L K d) := by
  induction h with
  | nil =>
    intro d hn _
    exact ⟨(fun K2 m F e => by cases e), fun _ => ⟨[], d, .refl, rfl, .inr ⟨rfl, (nxt_lt hn).1⟩⟩⟩
  | ref hs =>
    rename_i i K n E
    intro d hn hw
    refine ⟨(fun K2 m F e => by cases e), fun _ => ?_⟩
    cases i with
    | fl x =>
      by_cases hx : ∃ m, x = .mt m
      · obtain ⟨m, rfl⟩ := hx
        have hz := (nxt_lt hn).1
        have fin : drow (some t) m = .ref → Refd L (.fl (.mt m) :: K) d := fun e => by
          refine ⟨K, tkD L false d, ?_, by simp [tkD, hz, (nxt_lt hn).2.2], .inl (by simp [tkD, hz, (nxt_lt hn).2.2])⟩
          refine .step ?_
          simp only [dst, hn, e]
          exact .refl
        by_cases h1 : m = .kind
        · subst h1
          simp only [It.step, Fl.step, M.row] at hs
          by_cases k1 : (t.k == 1) = true
          · rw [if_pos k1] at hs; cases hs
          rw [if_neg k1] at hs
          by_cases b1 : t.is [97, 114, 114, 97, 121] = true
          · rw [if_pos b1] at hs; cases hs
          rw [if_neg b1] at hs
          by_cases b2 : t.is [114, 101, 99, 111, 114, 100] = true
          · rw [if_pos b2] at hs; cases hs
          have a1 : wk 2 ⟨#[97, 114, 114, 97, 121]⟩ t = false := by
            rw [wk_is, show (ByteArray.mk #[97, 114, 114, 97, 121]).toList = [97, 114, 114, 97, 121] by decide +kernel]
            have : (t.t.toList == [97, 114, 114, 97, 121]) = false := by simpa [Tv.is] using b1
            rw [this, Bool.and_false]
          have a2 : wk 2 ⟨#[114, 101, 99, 111, 114, 100]⟩ t = false := by
            rw [wk_is, show (ByteArray.mk #[114, 101, 99, 111, 114, 100]).toList = [114, 101, 99, 111, 114, 100] by decide +kernel]
            have : (t.t.toList == [114, 101, 99, 111, 114, 100]) = false := by simpa [Tv.is] using b2
            rw [this, Bool.and_false]
          have e : dst L (.fl (.mt .kind)) d = ([.fl .nm, .lv 8], opD 8 d) := by
            simp only [dst, hn, drow, Option.elim, a1, a2, Bool.false_eq_true, if_false]
            rfl
          refine Refd.step ?_ ?_
          · rw [e]
            refine ref_tk (t := t) ?_ ne_nm (by simpa [Fl.takes] using k1)
            rw [opD_put hz]
            exact hn
          · rw [e, opD_put hz]
            rfl
        · by_cases h2 : m = .statement
          · subst h2
            refine fin ?_
            simp only [It.step, Fl.step, M.row] at hs
            by_cases k1 : (t.k == 1) = true
            · rw [if_pos k1] at hs; cases hs
            rw [if_neg k1] at hs
            simp only [drow, if_neg k1]
            split
            · rcases worded_form t.t with e | ⟨nd, r', e⟩
              · exact e
              · rw [e] at hs; cases hs
            · rfl
          · refine fin ?_
            rw [drow_any h1 h2]
            simp only [It.step, Fl.step] at hs
            cases hr : M.row t m with
            | ref => rfl
            | ex r => rw [hr] at hs; cases hs
            | op nd r => rw [hr] at hs; cases hs
      · refine ref_tk hn (fun m e => hx ⟨m, e⟩) ?_
        cases x with
        | mt m => exact absurd ⟨m, rfl⟩ hx
        | _ =>
          simp only [It.step, Fl.step] at hs
          split at hs
          · cases hs
          · rename_i h; simpa using h
    | _ => cases hs
  | tk hs =>
    rename_i i K n E
    intro d hn hw
    refine ⟨fun K2 m F e => ?_, (fun e => by cases e)⟩
    cases e
    refine ⟨(nw_cons hw).1, ?_⟩
    cases i with
    | fl x =>
      have hx : ∀ m, x ≠ .mt m := by
        intro m e
        subst e
        simp only [It.step, Fl.step] at hs
        cases hr : M.row t m <;> rw [hr] at hs <;> cases hs
      refine ⟨x, [], by simp, hx, ?_, by rw [putE_nil]; exact .refl⟩
      cases x with
      | mt m => exact absurd rfl (hx m)
      | _ =>
        simp only [It.step, Fl.step] at hs
        split at hs
        · rename_i h; exact h
        · cases hs
    | _ => cases hs
  | go hs hr ih =>
    rename_i k i K n dn E o r R
    intro d hn hw
    rcases step_sim hn hs with e | ⟨e1, e2⟩
    · have hw' := dst_nw (L := L) (d := d) hw
      have hn' : nxt L (putE d o) = some t := hn
      rw [e] at hw'
      obtain ⟨h1, h2⟩ := ih (putE d o) hn' hw'
      refine ⟨fun K2 m F eR => ?_, fun eR => ?_⟩
      · obtain ⟨a, x, o2, b, c, f, g⟩ := h1 K2 m F eR
        refine ⟨a, x, o ++ o2, by rw [b, List.append_assoc], c, f, .step ?_⟩
        rw [e, ← putE_app]
        exact g
      · refine Refd.step ?_ (by rw [e]; rfl)
        rw [e]
        exact h2 eR
    · have := e1 _ _ _ _ _ hr
      subst this
      exact ⟨(fun K2 m F e => by cases e), fun _ => e2 K hw⟩

end Go.Proofs.YtkigadnkclkopaaGreat
