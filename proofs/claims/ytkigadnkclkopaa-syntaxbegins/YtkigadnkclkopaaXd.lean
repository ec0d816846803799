import Derived.Test.YtkigadnkclkopaaXc
set_option linter.unusedVariables false
set_option linter.unusedSimpArgs false
namespace Go.Proofs.Ytkigadnkclkopaa
open Go.RowKit

def tokF : Fl → Bool
  | .mt _ => false
  | _ => true
def tokI : It → Bool
  | .fl x => tokF x
  | _ => false
/-- Behind a part stands what stops a token that can't stand. -/
def rok : List Fl → Bool
  | [] => true
  | x :: r => rok r && (tokF x || (match r with | [] => true | y :: _ => blk .detail (.fl y)))
def iok : It → Bool
  | .all r => rok r
  | .once (.row r) => rok r
  | .once _ => true
  | .again (.row r) => rok r && trn .detail (.again (.row r))
  | .again (.fn _) => true
  | .again (.ex _) => false
  | _ => true
def fnk : It → Option Dk
  | .once (.fn k) => some k
  | .again (.fn k) => some k
  | _ => none
def nw : List It → Bool
  | [] => true
  | i :: K => nw K && (iok i && ((tokI i || sgd .detail K) && (match fnk i with | some k => sgd k K | none => true)))
/-- The same of a row, whatever good stands behind. -/
def sgx (k : Dk) : List It → Bool
  | [] => match k with | .detail => true | _ => false
  | i :: K => blk k i || (trn k i && sgx k K)
def nwx : List It → Bool
  | [] => true
  | i :: K => nwx K && (iok i && ((tokI i || sgx .detail K) && (match fnk i with | some k => sgx k K | none => true)))
theorem sgx_sgd {k : Dk} {K : List It} (hK : sgd .detail K = true) : ∀ (r : List It), sgx k r = true → sgd k (r ++ K) = true
  | [], h => by cases k <;> first | exact hK | cases h
  | i :: r, h => by
    simp only [sgx, Bool.or_eq_true, Bool.and_eq_true] at h
    simp only [List.cons_append, sgd, Bool.or_eq_true, Bool.and_eq_true]
    exact h.imp id (fun h => ⟨h.1, sgx_sgd hK r h.2⟩)
theorem nwx_nw {K : List It} (hn : nw K = true) (hK : sgd .detail K = true) : ∀ (r : List It), nwx r = true → nw (r ++ K) = true
  | [], _ => hn
  | i :: r, h => by
    simp only [nwx, Bool.and_eq_true, Bool.or_eq_true] at h
    simp only [List.cons_append, nw, Bool.and_eq_true, Bool.or_eq_true]
    refine ⟨nwx_nw hn hK r h.1, h.2.1, h.2.2.1.imp id (sgx_sgd hK r), ?_⟩
    have h3 := h.2.2.2
    cases hf : fnk i with
    | none => rfl
    | some k => rw [hf] at h3; exact sgx_sgd hK r h3
def Gw.nx : Gw → Bool
  | .op nd r => nwx (r ++ [.lv nd])
  | .ex r => nwx r
  | .ref => true
theorem worded_nwx (s : ByteArray) : (wordedR s).nx = true := by
  unfold wordedR
  repeat' split
  all_goals kernel_rfl
theorem drow_nwx (o : Option Tv) (m : M) : (drow o m).nx = true := by
  cases m with
  | kind =>
    simp only [drow]
    by_cases h1 : o.elim false (wk 2 ⟨#[97, 114, 114, 97, 121]⟩) = true
    · rw [if_pos h1]; kernel_rfl
    · rw [if_neg h1]
      by_cases h2 : o.elim false (wk 2 ⟨#[114, 101, 99, 111, 114, 100]⟩) = true
      · rw [if_pos h2]; kernel_rfl
      · rw [if_neg h2]; kernel_rfl
  | statement =>
    cases o with
    | none => rfl
    | some t =>
      simp only [drow]
      by_cases h1 : (t.k == 1) = true
      · rw [if_pos h1]; kernel_rfl
      · rw [if_neg h1]
        by_cases h2 : (t.k == 2) = true
        · rw [if_pos h2]; exact worded_nwx t.t
        · rw [if_neg h2]; rfl
  | factor =>
    cases o with
    | none => rfl
    | some t =>
      simp only [drow, M.row]
      by_cases h1 : (facN t == 25) = true
      · rw [if_pos h1]; kernel_rfl
      rw [if_neg h1]
      by_cases h1 : (facN t == 26) = true
      · rw [if_pos h1]; kernel_rfl
      rw [if_neg h1]
      by_cases h1 : (facN t == 27) = true
      · rw [if_pos h1]; kernel_rfl
      rw [if_neg h1]
      by_cases h1 : (facN t == 32) = true
      · rw [if_pos h1]; kernel_rfl
      rw [if_neg h1]
      by_cases h1 : (facN t == 28) = true
      · rw [if_pos h1]; kernel_rfl
      rw [if_neg h1]; rfl
  | _ => simp only [drow, M.row]; kernel_rfl
theorem rok_nw {K : List It} (hn : nw K = true) (hK : sgd .detail K = true) : ∀ (r : List Fl), rok r = true → nw (r.map It.fl ++ K) = true
  | [], _ => hn
  | x :: r, h => by
    simp only [rok, Bool.and_eq_true, Bool.or_eq_true] at h
    simp only [List.map_cons, List.cons_append, nw, Bool.and_eq_true, Bool.or_eq_true]
    refine ⟨rok_nw hn hK r h.1, rfl, h.2.imp id (fun h2 => ?_), rfl⟩
    cases r with
    | nil => exact hK
    | cons y r =>
      simp only [List.map_cons, List.cons_append, sgd, Bool.or_eq_true]
      exact .inl h2
theorem nw_cons {i : It} {K : List It} (h : nw (i :: K) = true) : nw K = true ∧ iok i = true ∧ (tokI i = false → sgd .detail K = true) ∧ (∀ k, fnk i = some k → sgd k K = true) := by
  simp only [nw, Bool.and_eq_true, Bool.or_eq_true] at h
  refine ⟨h.1, h.2.1, fun e => h.2.2.1.resolve_left (by rw [e]; decide), fun k e => ?_⟩
  have := h.2.2.2
  rw [e] at this
  exact this
theorem dpick_iok {o : Option Tv} {p : Pk} {j : It} (h : dpick o p = some j) (hp : ∀ r, p = .row r → rok r = true) : iok j = true ∧ fnk j = none ∧ tokI j = false := by
  cases o with
  | none => cases h
  | some t =>
    cases p with
    | fn d =>
      simp only [dpick] at h
      split at h
      · simp only [Option.map_eq_some_iff] at h
        obtain ⟨m, _, rfl⟩ := h
        exact ⟨rfl, rfl, rfl⟩
      · cases h
    | row r =>
      simp only [dpick, Pk.pick] at h
      split at h
      · cases h; exact ⟨hp r rfl, rfl, rfl⟩
      · cases h
    | ex m =>
      simp only [dpick, Pk.pick] at h
      split at h
      · cases h
      · cases h; exact ⟨rfl, rfl, rfl⟩
/-- A step keeps it. -/
theorem dst_nw {L : List Tv} {i : It} {K : List It} {d : D} (h : nw (i :: K) = true) : nw ((dst L i d).1 ++ K) = true := by
  obtain ⟨h1, h2, h3, h4⟩ := nw_cons h
  cases i with
  | fl x =>
    by_cases hx : ∃ m, x = .mt m
    · obtain ⟨m, rfl⟩ := hx
      have hr := drow_nwx (nxt L d) m
      simp only [dst]
      cases hd : drow (nxt L d) m with
      | ref => exact h1
      | ex r => rw [hd] at hr; exact nwx_nw h1 (h3 rfl) r hr
      | op nd r => rw [hd] at hr; exact nwx_nw h1 (h3 rfl) _ hr
    · have e : dst L (.fl x) d = ([], tkD L (qn L d (fun t => x.takes t)) d) := by
        cases x with
        | mt m => exact absurd ⟨m, rfl⟩ hx
        | _ => rfl
      rw [e]
      exact h1
  | lv n => exact h1
  | all r => exact rok_nw h1 (h3 rfl) r h2
  | once p =>
    simp only [dst]
    cases hp : dpick (nxt L d) p with
    | none => exact h1
    | some j =>
      obtain ⟨a, b, c⟩ := dpick_iok hp (fun r e => by subst e; exact h2)
      show nw (j :: K) = true
      simp only [nw, Bool.and_eq_true, Bool.or_eq_true, a, b, h1, h3 rfl, and_self, or_true]
  | again p =>
    simp only [dst]
    cases hp : dpick (nxt L d) p with
    | none => exact h1
    | some j =>
      have hr : (∀ r, p = .row r → rok r = true) ∧ trn .detail (.again p) = true := by
        cases p with
        | fn k => exact ⟨(fun r e => by cases e), rfl⟩
        | row r =>
          simp only [iok, Bool.and_eq_true] at h2
          exact ⟨(fun r' e => by cases e; exact h2.1), h2.2⟩
        | ex m => cases h2
      obtain ⟨a, b, c⟩ := dpick_iok hp hr.1
      show nw (j :: .again p :: K) = true
      have hs : sgd .detail (.again p :: K) = true := by
        simp only [sgd, Bool.or_eq_true, Bool.and_eq_true]
        exact .inr ⟨hr.2, h3 rfl⟩
      rw [nw]
      simp only [Bool.and_eq_true, Bool.or_eq_true, a, b, h, hs, and_self, or_true]
theorem nw_prog : nw (progR ++ [.lv 1]) = true := by kernel_rfl

end Go.Proofs.Ytkigadnkclkopaa
