import Derived.Test.YtkglkhijngpgiaaGreatG4
import Derived.Test.YtkglkhijngpgiaaGreatG7
set_option linter.unusedVariables false
set_option linter.unusedSimpArgs false
namespace Go.Proofs.YtkglkhijngpgiaaGreat
open Go.RowKit

/-! A token's events: nodes that end, then nodes that begin (no memory). -/
/-- What stands next takes the token or refuses it: no node ends any more. -/
inductive Cmt (t : Tv) : List It → Prop
  | fl {x : Fl} {K : List It} : Cmt t (.fl x :: K)
  | all {r : List Fl} {K : List It} : rwf r → Cmt t (.all r :: K)
  | onceS {p : Pk} {i : It} {K : List It} : Pk.pick t p = some i → Cmt t (.once p :: K)
  | againS {p : Pk} {i : It} {K : List It} : Pk.pick t p = some i → Cmt t (.again p :: K)
  | onceN {p : Pk} {K : List It} : Pk.pick t p = none → Cmt t K → Cmt t (.once p :: K)
  | againN {p : Pk} {K : List It} : Pk.pick t p = none → Cmt t K → Cmt t (.again p :: K)
/-- A row begins with what is sure. -/
def Rw.cm (t : Tv) : Rw → Prop
  | .ref => True
  | .ex r => ∀ K, Cmt t (r ++ K)
  | .op nd r => ∀ K, Cmt t (r ++ K)
theorem cmt_decl (t : Tv) (p : Pk) (x : Fl) (K : List It) : Cmt t (.again p :: .fl x :: K) := by
  cases h : Pk.pick t p with
  | none => exact .againN h .fl
  | some i => exact .againS h
theorem row_cm (t : Tv) (m : M) : (M.row t m).cm t := by
  cases m <;> simp only [M.row, wordedR] <;> (repeat' split)
  all_goals first
    | trivial
    | (intro K; exact .fl)
    | (intro K; exact cmt_decl t _ _ _)
theorem pick_cmt {t : Tv} {p : Pk} (hp : p.wf) {i : It} (h : Pk.pick t p = some i) (K : List It) : Cmt t (i :: K) := by
  cases p with
  | fn d =>
    simp only [Pk.pick, Option.map_eq_some_iff] at h
    obtain ⟨m, _, rfl⟩ := h
    exact .fl
  | row r =>
    simp only [Pk.pick] at h
    split at h
    · cases h; exact .all hp
    · cases h
  | ex m =>
    simp only [Pk.pick] at h
    split at h
    · cases h
    · cases h; exact .fl
theorem step_cmt {t : Tv} {i : It} {d : Int} {o : List Ev} {r K : List It} (h : It.step t i = .go d o r) (hi : i.wf) (hc : Cmt t (i :: K)) : Cmt t (r ++ K) ∧ (∀ e ∈ o, e.k = 1) ∧ 0 ≤ d := by
  cases i with
  | fl x =>
    have hm : ∃ m, x = .mt m := by
      cases x with
      | mt m => exact ⟨m, rfl⟩
      | _ => simp only [It.step, Fl.step] at h; split at h <;> cases h
    obtain ⟨m, rfl⟩ := hm
    have hr := row_cm t m
    simp only [It.step, Fl.step] at h
    cases hrow : M.row t m with
    | ref => rw [hrow] at h; cases h
    | ex r' => rw [hrow] at h hr; cases h; exact ⟨hr K, fun e he => by simp at he, by omega⟩
    | op nd r' => rw [hrow] at h hr; cases h; rw [List.append_assoc]; exact ⟨hr _, fun e he => by simp at he; subst he; rfl, by omega⟩
  | lv n => cases hc
  | once p =>
    simp only [It.step] at h
    cases hp : Pk.pick t p with
    | none =>
      rw [hp] at h
      cases h
      cases hc with
      | onceS h2 => rw [hp] at h2; cases h2
      | onceN _ h2 => exact ⟨h2, fun e he => by simp at he, by omega⟩
    | some j => rw [hp] at h; cases h; exact ⟨pick_cmt hi hp K, fun e he => by simp at he, by omega⟩
  | again p =>
    simp only [It.step] at h
    cases hp : Pk.pick t p with
    | none =>
      rw [hp] at h
      cases h
      cases hc with
      | againS h2 => rw [hp] at h2; cases h2
      | againN _ h2 => exact ⟨h2, fun e he => by simp at he, by omega⟩
    | some j => rw [hp] at h; cases h; exact ⟨pick_cmt hi hp _, fun e he => by simp at he, by omega⟩
  | all r' =>
    cases h
    obtain ⟨⟨k, ts, rest, rfl⟩, _⟩ := hi
    exact ⟨.fl, fun e he => by simp at he, by omega⟩
/-- From there on nodes begin. -/
theorem ru_opens {t : Tv} {k : Nat} {K : List It} {n : Int} {E : List Ev} {R : Ro} (h : Ru t k K n E R) : ∀ {L : List It} {m : Int} {F : List Ev}, R = .yes L m F → wfs K → Cmt t K → ∃ o, F = E ++ o ∧ (∀ e ∈ o, e.k = 1) := by
  induction h with
  | nil => intro L m F h; cases h
  | ref _ => intro L m F h; cases h
  | tk hs => intro L m F h _ _; cases h; exact ⟨[], by simp, fun e he => by simp at he⟩
  | go hs _ ih =>
    rename_i k i K n d E o r R _
    intro L m F h hw hc
    have hi := hw i (List.mem_cons_self ..)
    obtain ⟨a1, a2, a3⟩ := step_cmt hs hi hc
    obtain ⟨o2, b1, b2⟩ := ih h (wfs_app (step_ok (K := K) hs hi).1 (fun j hj => hw j (List.mem_cons_of_mem _ hj))) a1
    exact ⟨o ++ o2, by rw [b1, List.append_assoc], fun e he => (List.mem_append.1 he).elim (a2 e) (b2 e)⟩
/-- Nodes that end, then nodes that begin. -/
theorem ru_phase {t : Tv} {k : Nat} {K : List It} {n : Int} {E : List Ev} {R : Ro} (h : Ru t k K n E R) : ∀ {L : List It} {m : Int} {F : List Ev}, R = .yes L m F → wfs K → ∃ c o, F = E ++ (c ++ o) ∧ (∀ e ∈ c, e.k = 3) ∧ (∀ e ∈ o, e.k = 1) := by
  induction h with
  | nil => intro L m F h; cases h
  | ref _ => intro L m F h; cases h
  | tk hs => intro L m F h _; cases h; exact ⟨[], [], by simp, fun e he => by simp at he, fun e he => by simp at he⟩
  | go hs hr ih =>
    rename_i k i K n d E o r R
    intro L m F h hw
    have hi := hw i (List.mem_cons_self ..)
    have hw2 := wfs_app (step_ok (K := K) hs hi).1 (fun j hj => hw j (List.mem_cons_of_mem _ hj))
    by_cases hl : ∃ a, i = .lv a
    · obtain ⟨a, rfl⟩ := hl
      cases hs
      obtain ⟨c, o2, b1, b2, b3⟩ := ih h hw2
      exact ⟨⟨3, a, tv0⟩ :: c, o2, by rw [b1]; simp, fun e he => (List.mem_cons.1 he).elim (fun e1 => by rw [e1]) (b2 e), b3⟩
    · -- what is left out says nothing; all else is sure
      by_cases hc : Cmt t (i :: K)
      · obtain ⟨a1, a2, a3⟩ := step_cmt hs hi hc
        obtain ⟨o2, b1, b2⟩ := ru_opens hr h hw2 a1
        exact ⟨[], o ++ o2, by rw [b1]; simp, fun e he => by simp at he, fun e he => (List.mem_append.1 he).elim (a2 e) (b2 e)⟩
      · have ho : o = [] := by
          cases i with
          | fl x => exact absurd .fl hc
          | lv a => exact absurd ⟨a, rfl⟩ hl
          | once p => cases hs; rfl
          | again p => cases hs; rfl
          | all r' => cases hs; rfl
        subst ho
        obtain ⟨c, o2, b1, b2, b3⟩ := ih h hw2
        exact ⟨c, o2, by rw [b1]; simp, b2, b3⟩

end Go.Proofs.YtkglkhijngpgiaaGreat

set_option linter.unusedVariables false
set_option linter.unusedSimpArgs false
namespace Go.Proofs.YtkglkhijngpgiaaGreat
open Go.RowKit

/-! The code's way of a token against the document's (no memory). -/
/-- What a token's events make of the nodes. -/
def pev : List Ev → List (Int × Nat) × Nat → List (Int × Nat) × Nat
  | [], x => x
  | e :: o, (p, s) => if e.k = 1 then pev o (p ++ [(e.n, s + 1)], s + 1) else if e.k = 3 then pev o (p.dropLast, s) else pev o (p, s)
theorem pev_app : ∀ (a b : List Ev) (x : List (Int × Nat) × Nat), pev (a ++ b) x = pev b (pev a x)
  | [], b, x => rfl
  | e :: a, b, (p, s) => by
    simp only [List.cons_append, pev]
    split
    · exact pev_app a b _
    · split
      · exact pev_app a b _
      · exact pev_app a b _
def put2 (d : D) (x : List (Int × Nat) × Nat) : D := { d with p := x.1, s := x.2 }
/-- A token that looks like a part's first one, but is of another kind. -/
def bad (k : Dk) (t : Tv) : Prop := (t.k == k.kd) = false ∧ (k = .detail → (t.is [91] || t.is [46] || t.is [40]) = true)
def okT (ts : List ByteArray) : Bool := ts.all (fun s => !(s.toList == [91] || s.toList == [46] || s.toList == [40]))
/-- Such a token stops there. -/
def blk (k : Dk) : It → Bool
  | .fl (.wd q ts) => match k with
    | .declaration => q == 2
    | .bracket => q == 6
    | .detail => q == 6 || okT ts
  | _ => false
/-- It goes by. -/
def trn (k : Dk) : It → Bool
  | .lv _ => match k with | .detail => true | _ => false
  | .once (.row (.wd q ts :: _)) => match k with
    | .declaration => false
    | .bracket => q == 6
    | .detail => q == 6 || okT ts
  | .again (.row (.wd q ts :: _)) => match k with
    | .detail => q == 6 || okT ts
    | _ => false
  | .once (.fn _) => match k with | .detail => true | _ => false
  | .again (.fn _) => match k with | .detail => true | _ => false
  | _ => false
def sgd (k : Dk) : List It → Bool
  | [] => true
  | i :: K => blk k i || (trn k i && sgd k K)
/-- It can't stand: an error, or nothing is to come. -/
def Refd (L : List Tv) (K : List It) (d : D) : Prop := ∃ K' d', Rch L K d K' d' ∧ (d'.e = 120 ∨ (K' = [] ∧ d'.e = 0 ∧ d'.i = d.i))
theorem Refd.step {L : List Tv} {i : It} {K : List It} {d : D} (h : Refd L ((dst L i d).1 ++ K) (dst L i d).2) (hi : (dst L i d).2.i = d.i) : Refd L (i :: K) d := by
  obtain ⟨K', d', h1, h2⟩ := h
  refine ⟨K', d', .step h1, ?_⟩
  rw [hi] at h2
  exact h2
theorem nxt_lt {L : List Tv} {d : D} {t : Tv} (h : nxt L d = some t) : d.e = 0 ∧ L[d.i]? = some t ∧ d.i < L.length := by
  unfold nxt at h
  split at h
  · rename_i he
    exact ⟨he, h, (List.getElem?_eq_some_iff.1 h).1⟩
  · cases h
theorem ref_tk {L : List Tv} {K : List It} {d : D} {t : Tv} (hn : nxt L d = some t) {x : Fl} (hx : ∀ m, x ≠ .mt m) (ht : x.takes t = false) : Refd L (.fl x :: K) d := by
  obtain ⟨he, _, hi⟩ := nxt_lt hn
  refine ⟨K, _, ib_tk hx K, .inl ?_⟩
  have hq : qn L d (fun t => x.takes t) = false := by unfold qn; rw [hn]; exact ht
  rw [hq]
  simp [tkD, he, hi]
theorem has_no {t : Tv} {ts : List ByteArray} (h : okT ts = true) (hb : (t.is [91] || t.is [46] || t.is [40]) = true) : has ts t.t = false := by
  refine List.any_eq_false.2 (fun s hs => ?_)
  have h1 := List.all_eq_true.1 h s hs
  simp only [decide_eq_true_eq]
  intro e
  subst e
  unfold Tv.is at hb
  rw [hb] at h1
  cases h1
theorem bad_wd {k : Dk} {t : Tv} {q : Int} {ts : List ByteArray} (hb : bad k t) (h : match k with | .declaration => q == 2 | .bracket => q == 6 | .detail => q == 6 || okT ts) : Fl.takes t (.wd q ts) = false := by
  obtain ⟨h1, h2⟩ := hb
  simp only [Fl.takes]
  cases k with
  | declaration =>
    simp only [beq_iff_eq] at h
    subst h
    simp only [Dk.kd] at h1
    rw [h1]; rfl
  | bracket =>
    simp only [beq_iff_eq] at h
    subst h
    simp only [Dk.kd] at h1
    rw [h1]; rfl
  | detail =>
    simp only [Bool.or_eq_true, beq_iff_eq] at h
    rcases h with rfl | h
    · simp only [Dk.kd] at h1
      rw [h1]; rfl
    · rw [has_no h (h2 rfl), Bool.and_false]
theorem sgd_ref {k : Dk} {t : Tv} (hb : bad k t) {L : List Tv} : ∀ (K : List It) (d : D), sgd k K = true → nxt L d = some t → Refd L K d
  | [], d, _, hn => ⟨[], d, .refl, .inr ⟨rfl, (nxt_lt hn).1, rfl⟩⟩
  | i :: K, d, h, hn => by
    have thru : (dst L i d).1 = [] → nxt L (dst L i d).2 = some t → (dst L i d).2.i = d.i → sgd k K = true → Refd L (i :: K) d := fun e1 e2 e3 e4 => by
      refine Refd.step ?_ e3
      rw [e1]
      exact sgd_ref hb K _ e4 e2
    simp only [sgd, Bool.or_eq_true, Bool.and_eq_true] at h
    rcases h with h | ⟨h, hK⟩
    · cases i with
      | fl x =>
        cases x with
        | wd q ts => exact ref_tk hn ne_wd (bad_wd hb (by cases k <;> exact h))
        | _ => cases h
      | _ => cases h
    · cases i with
      | fl x => cases h
      | lv n =>
        refine thru rfl ?_ ?_ hK
        · simp only [dst, clD, (nxt_lt hn).1, if_true]
          simpa [nxt, (nxt_lt hn).1] using hn
        · simp only [dst, clD, (nxt_lt hn).1, if_true]
      | once p =>
        have hp : dpick (nxt L d) p = none := by
          rw [hn]
          cases p with
          | fn q =>
            cases k with
            | detail =>
              have h2 := hb.2 rfl
              simp only [dpick]
              cases q with
              | declaration =>
                split
                · have hv : t.is [118, 97, 114] = false ∧ t.is [99, 111, 110, 115, 116] = false ∧ t.is [112, 114, 111, 99] = false := by
                    unfold Tv.is at h2 ⊢
                    simp only [Bool.or_eq_true, beq_iff_eq] at h2
                    rcases h2 with (e | e) | e <;> rw [e] <;> decide
                  simp [Dk.pick, hv.1, hv.2.1, hv.2.2]
                · rfl
              | bracket => rw [if_neg (by rw [show Dk.bracket.kd = Dk.detail.kd from rfl, hb.1]; decide)]
              | detail => rw [if_neg (by rw [hb.1]; decide)]
            | _ => cases h
          | row r =>
            cases r with
            | nil => rfl
            | cons x r =>
              cases x with
              | wd q ts =>
                have : Fl.takes t (.wd q ts) = false := bad_wd hb (by
                  cases k with
                  | declaration => cases h
                  | bracket => exact h
                  | detail => exact h)
                simp [dpick, Pk.pick, this]
              | _ => cases h
          | ex m => cases h
        refine thru ?_ ?_ rfl hK
        · simp only [dst, hp]; rfl
        · exact hn
      | again p =>
        have hp : dpick (nxt L d) p = none := by
          rw [hn]
          cases p with
          | fn q =>
            cases k with
            | detail =>
              have h2 := hb.2 rfl
              simp only [dpick]
              cases q with
              | declaration =>
                split
                · have hv : t.is [118, 97, 114] = false ∧ t.is [99, 111, 110, 115, 116] = false ∧ t.is [112, 114, 111, 99] = false := by
                    unfold Tv.is at h2 ⊢
                    simp only [Bool.or_eq_true, beq_iff_eq] at h2
                    rcases h2 with (e | e) | e <;> rw [e] <;> decide
                  simp [Dk.pick, hv.1, hv.2.1, hv.2.2]
                · rfl
              | bracket => rw [if_neg (by rw [show Dk.bracket.kd = Dk.detail.kd from rfl, hb.1]; decide)]
              | detail => rw [if_neg (by rw [hb.1]; decide)]
            | _ => cases h
          | row r =>
            cases r with
            | nil => rfl
            | cons x r =>
              cases x with
              | wd q ts =>
                have : Fl.takes t (.wd q ts) = false := bad_wd hb (by
                  cases k with
                  | detail => exact h
                  | _ => cases h)
                simp [dpick, Pk.pick, this]
              | _ => cases h
          | ex m => cases h
        refine thru ?_ ?_ rfl hK
        · simp only [dst, hp]; rfl
        · exact hn
      | all r => cases h

end Go.Proofs.YtkglkhijngpgiaaGreat

set_option linter.unusedVariables false
set_option linter.unusedSimpArgs false
namespace Go.Proofs.YtkglkhijngpgiaaGreat
open Go.RowKit

def tokF : Fl → Bool
  | .mt _ => false
  | _ => true
def tokI : It → Bool
  | .fl x => tokF x
  | _ => false
/-- Behind a part stands what stops a token that can't stand. -/
def rok : List Fl → Bool
  | [] => true
  | x :: r => rok r && (tokF x || (match r with | [] => true | y :: _ => blk .detail (.fl y)))
def iok : It → Bool
  | .all r => rok r
  | .once (.row r) => rok r
  | .once _ => true
  | .again (.row r) => rok r && trn .detail (.again (.row r))
  | .again (.fn _) => true
  | .again (.ex _) => false
  | _ => true
def fnk : It → Option Dk
  | .once (.fn k) => some k
  | .again (.fn k) => some k
  | _ => none
def nw : List It → Bool
  | [] => true
  | i :: K => nw K && (iok i && ((tokI i || sgd .detail K) && (match fnk i with | some k => sgd k K | none => true)))
/-- The same of a row, whatever good stands behind. -/
def sgx (k : Dk) : List It → Bool
  | [] => match k with | .detail => true | _ => false
  | i :: K => blk k i || (trn k i && sgx k K)
def nwx : List It → Bool
  | [] => true
  | i :: K => nwx K && (iok i && ((tokI i || sgx .detail K) && (match fnk i with | some k => sgx k K | none => true)))
theorem sgx_sgd {k : Dk} {K : List It} (hK : sgd .detail K = true) : ∀ (r : List It), sgx k r = true → sgd k (r ++ K) = true
  | [], h => by cases k <;> first | exact hK | cases h
  | i :: r, h => by
    simp only [sgx, Bool.or_eq_true, Bool.and_eq_true] at h
    simp only [List.cons_append, sgd, Bool.or_eq_true, Bool.and_eq_true]
    exact h.imp id (fun h => ⟨h.1, sgx_sgd hK r h.2⟩)
theorem nwx_nw {K : List It} (hn : nw K = true) (hK : sgd .detail K = true) : ∀ (r : List It), nwx r = true → nw (r ++ K) = true
  | [], _ => hn
  | i :: r, h => by
    simp only [nwx, Bool.and_eq_true, Bool.or_eq_true] at h
    simp only [List.cons_append, nw, Bool.and_eq_true, Bool.or_eq_true]
    refine ⟨nwx_nw hn hK r h.1, h.2.1, h.2.2.1.imp id (sgx_sgd hK r), ?_⟩
    have h3 := h.2.2.2
    cases hf : fnk i with
    | none => rfl
    | some k => rw [hf] at h3; exact sgx_sgd hK r h3
def Rw.nx : Rw → Bool
  | .op nd r => nwx (r ++ [.lv nd])
  | .ex r => nwx r
  | .ref => true
theorem worded_nwx (s : ByteArray) : (wordedR s).nx = true := by
  unfold wordedR
  repeat' split
  all_goals kernel_rfl
theorem drow_nwx (o : Option Tv) (m : M) : (drow o m).nx = true := by
  cases m with
  | kind =>
    simp only [drow]
    by_cases h1 : o.elim false (wk 2 ⟨#[97, 114, 114, 97, 121]⟩) = true
    · rw [if_pos h1]; kernel_rfl
    · rw [if_neg h1]
      by_cases h2 : o.elim false (wk 2 ⟨#[114, 101, 99, 111, 114, 100]⟩) = true
      · rw [if_pos h2]; kernel_rfl
      · rw [if_neg h2]; kernel_rfl
  | statement =>
    cases o with
    | none => rfl
    | some t =>
      simp only [drow]
      by_cases h1 : (t.k == 1) = true
      · rw [if_pos h1]; kernel_rfl
      · rw [if_neg h1]
        by_cases h2 : (t.k == 2) = true
        · rw [if_pos h2]; exact worded_nwx t.t
        · rw [if_neg h2]; rfl
  | factor =>
    cases o with
    | none => rfl
    | some t =>
      simp only [drow, M.row]
      by_cases h1 : (facN t == 25) = true
      · rw [if_pos h1]; kernel_rfl
      rw [if_neg h1]
      by_cases h1 : (facN t == 26) = true
      · rw [if_pos h1]; kernel_rfl
      rw [if_neg h1]
      by_cases h1 : (facN t == 27) = true
      · rw [if_pos h1]; kernel_rfl
      rw [if_neg h1]
      by_cases h1 : (facN t == 32) = true
      · rw [if_pos h1]; kernel_rfl
      rw [if_neg h1]
      by_cases h1 : (facN t == 28) = true
      · rw [if_pos h1]; kernel_rfl
      rw [if_neg h1]; rfl
  | _ => simp only [drow, M.row]; kernel_rfl
theorem rok_nw {K : List It} (hn : nw K = true) (hK : sgd .detail K = true) : ∀ (r : List Fl), rok r = true → nw (r.map It.fl ++ K) = true
  | [], _ => hn
  | x :: r, h => by
    simp only [rok, Bool.and_eq_true, Bool.or_eq_true] at h
    simp only [List.map_cons, List.cons_append, nw, Bool.and_eq_true, Bool.or_eq_true]
    refine ⟨rok_nw hn hK r h.1, rfl, h.2.imp id (fun h2 => ?_), rfl⟩
    cases r with
    | nil => exact hK
    | cons y r =>
      simp only [List.map_cons, List.cons_append, sgd, Bool.or_eq_true]
      exact .inl h2
theorem nw_cons {i : It} {K : List It} (h : nw (i :: K) = true) : nw K = true ∧ iok i = true ∧ (tokI i = false → sgd .detail K = true) ∧ (∀ k, fnk i = some k → sgd k K = true) := by
  simp only [nw, Bool.and_eq_true, Bool.or_eq_true] at h
  refine ⟨h.1, h.2.1, fun e => h.2.2.1.resolve_left (by rw [e]; decide), fun k e => ?_⟩
  have := h.2.2.2
  rw [e] at this
  exact this
theorem dpick_iok {o : Option Tv} {p : Pk} {j : It} (h : dpick o p = some j) (hp : ∀ r, p = .row r → rok r = true) : iok j = true ∧ fnk j = none ∧ tokI j = false := by
  cases o with
  | none => cases h
  | some t =>
    cases p with
    | fn d =>
      simp only [dpick] at h
      split at h
      · simp only [Option.map_eq_some_iff] at h
        obtain ⟨m, _, rfl⟩ := h
        exact ⟨rfl, rfl, rfl⟩
      · cases h
    | row r =>
      simp only [dpick, Pk.pick] at h
      split at h
      · cases h; exact ⟨hp r rfl, rfl, rfl⟩
      · cases h
    | ex m =>
      simp only [dpick, Pk.pick] at h
      split at h
      · cases h
      · cases h; exact ⟨rfl, rfl, rfl⟩
/-- A step keeps it. -/
theorem dst_nw {L : List Tv} {i : It} {K : List It} {d : D} (h : nw (i :: K) = true) : nw ((dst L i d).1 ++ K) = true := by
  obtain ⟨h1, h2, h3, h4⟩ := nw_cons h
  cases i with
  | fl x =>
    by_cases hx : ∃ m, x = .mt m
    · obtain ⟨m, rfl⟩ := hx
      have hr := drow_nwx (nxt L d) m
      simp only [dst]
      cases hd : drow (nxt L d) m with
      | ref => exact h1
      | ex r => rw [hd] at hr; exact nwx_nw h1 (h3 rfl) r hr
      | op nd r => rw [hd] at hr; exact nwx_nw h1 (h3 rfl) _ hr
    · have e : dst L (.fl x) d = ([], tkD L (qn L d (fun t => x.takes t)) d) := by
        cases x with
        | mt m => exact absurd ⟨m, rfl⟩ hx
        | _ => rfl
      rw [e]
      exact h1
  | lv n => exact h1
  | all r => exact rok_nw h1 (h3 rfl) r h2
  | once p =>
    simp only [dst]
    cases hp : dpick (nxt L d) p with
    | none => exact h1
    | some j =>
      obtain ⟨a, b, c⟩ := dpick_iok hp (fun r e => by subst e; exact h2)
      show nw (j :: K) = true
      simp only [nw, Bool.and_eq_true, Bool.or_eq_true, a, b, h1, h3 rfl, and_self, or_true]
  | again p =>
    simp only [dst]
    cases hp : dpick (nxt L d) p with
    | none => exact h1
    | some j =>
      have hr : (∀ r, p = .row r → rok r = true) ∧ trn .detail (.again p) = true := by
        cases p with
        | fn k => exact ⟨(fun r e => by cases e), rfl⟩
        | row r =>
          simp only [iok, Bool.and_eq_true] at h2
          exact ⟨(fun r' e => by cases e; exact h2.1), h2.2⟩
        | ex m => cases h2
      obtain ⟨a, b, c⟩ := dpick_iok hp hr.1
      show nw (j :: .again p :: K) = true
      have hs : sgd .detail (.again p :: K) = true := by
        simp only [sgd, Bool.or_eq_true, Bool.and_eq_true]
        exact .inr ⟨hr.2, h3 rfl⟩
      rw [nw]
      simp only [Bool.and_eq_true, Bool.or_eq_true, a, b, h, hs, and_self, or_true]
theorem nw_prog : nw (progR ++ [.lv 1]) = true := by kernel_rfl

end Go.Proofs.YtkglkhijngpgiaaGreat

set_option linter.unusedVariables false
set_option linter.unusedSimpArgs false
namespace Go.Proofs.YtkglkhijngpgiaaGreat
open Go.RowKit

theorem ru_ref_no {t : Tv} {i : It} (hs : It.step t i = .ref) {k : Nat} {K : List It} {n : Int} {E : List Ev} {R : Ro} (h : Ru t k (i :: K) n E R) : R = .no := by
  cases h with
  | ref _ => rfl
  | tk h => rw [hs] at h; cases h
  | go h _ => rw [hs] at h; cases h
theorem step_wd {t : Tv} {q : Int} {ts : List ByteArray} (h : Fl.takes t (.wd q ts) = false) : It.step t (.fl (.wd q ts)) = .ref := by
  simp [It.step, Fl.step, h]
theorem ru_op_no {t : Tv} {i : It} {q : Int} {ts : List ByteArray} {d : Int} {o : List Ev} {r : List It} (hs : It.step t i = .go d o (.fl (.wd q ts) :: r)) (hq : (t.k == q) = false) {k : Nat} {K : List It} {n : Int} {E : List Ev} {R : Ro} (h : Ru t k (i :: K) n E R) : R = .no := by
  cases h with
  | ref _ => rfl
  | tk h => rw [hs] at h; cases h
  | go h hr =>
    rw [hs] at h
    cases h
    exact ru_ref_no (step_wd (by simp [Fl.takes, hq])) hr
theorem ru_fn_no {t : Tv} {k : Dk} {m : M} (hm : k.pick t = some m) (hk : (t.k == k.kd) = false) {j : Nat} {K : List It} {n : Int} {E : List Ev} {R : Ro} (h : Ru t j (.fl (.mt m) :: K) n E R) : R = .no := by
  cases k <;> simp only [Dk.pick] at hm <;> simp only [Dk.kd] at hk
  all_goals (repeat' (split at hm))
  all_goals first
    | (cases hm; done)
    | (cases hm; exact ru_op_no rfl hk h)
theorem put2_nil (d : D) : put2 d (pev [] (d.p, d.s)) = d := rfl
theorem opD_put {n : Int} {d : D} (he : d.e = 0) : opD n d = put2 d (pev [⟨1, n, tv0⟩] (d.p, d.s)) := by
  unfold opD
  rw [if_pos he]
  rfl
theorem clD_put {n : Int} {d : D} (he : d.e = 0) : clD d = put2 d (pev [⟨3, n, tv0⟩] (d.p, d.s)) := by
  unfold clD
  rw [if_pos he]
  rfl
theorem drow_any {t : Tv} {m : M} (h1 : m ≠ .kind) (h2 : m ≠ .statement) : drow (some t) m = M.row t m := by
  cases m <;> first | rfl | exact absurd rfl h1 | exact absurd rfl h2
theorem worded_form (s : ByteArray) : wordedR s = .ref ∨ ∃ nd r, wordedR s = .op nd (.fl (.wd 2 [s]) :: r) := by
  unfold wordedR
  repeat' split
  all_goals first
    | exact .inl rfl
    | exact .inr ⟨_, _, rfl⟩
theorem same_row {L : List Tv} {d : D} {t : Tv} (hn : nxt L d = some t) {m : M} {dn : Int} {o : List Ev} {r : List It} (hs : It.step t (.fl (.mt m)) = .go dn o r) (he : drow (some t) m = M.row t m) : dst L (.fl (.mt m)) d = (r, put2 d (pev o (d.p, d.s))) := by
  have hz := (nxt_lt hn).1
  simp only [dst, hn, he]
  simp only [It.step, Fl.step] at hs
  cases hr : M.row t m with
  | ref => rw [hr] at hs; cases hs
  | ex r' => rw [hr] at hs; cases hs; rfl
  | op nd r' => rw [hr] at hs; cases hs; simp only [opD_put hz]
theorem pick_same {t : Tv} {p : Pk} : dpick (some t) p = Pk.pick t p ∨ ∃ k m, p = .fn k ∧ k.pick t = some m ∧ (t.k == k.kd) = false ∧ dpick (some t) p = none := by
  cases p with
  | fn k =>
    simp only [dpick, Pk.pick]
    by_cases h : (t.k == k.kd) = true
    · exact .inl (if_pos h)
    · have h' : (t.k == k.kd) = false := by simpa using h
      rw [if_neg h]
      cases hp : k.pick t with
      | none => exact .inl rfl
      | some m => exact .inr ⟨k, m, rfl, hp, h', rfl⟩
  | row r => exact .inl rfl
  | ex m => exact .inl rfl
theorem bad_of {t : Tv} {k : Dk} {m : M} (hm : k.pick t = some m) (hk : (t.k == k.kd) = false) : bad k t := by
  refine ⟨hk, fun e => ?_⟩
  subst e
  simp only [Dk.pick] at hm
  cases h1 : t.is [91] with
  | true => rfl
  | false =>
    cases h2 : t.is [46] with
    | true => rfl
    | false =>
      cases h3 : t.is [40] with
      | true => rfl
      | false => rw [h1, h2, h3] at hm; cases hm
/-- A step of the code against the document's. -/
theorem step_sim {t : Tv} {L : List Tv} {d : D} (hn : nxt L d = some t) {i : It} {dn : Int} {o : List Ev} {r : List It} (hs : It.step t i = .go dn o r) :
    dst L i d = (r, put2 d (pev o (d.p, d.s))) ∨ ((∀ k K n E R, Ru t k (r ++ K) n E R → R = .no) ∧ (∀ K, nw (i :: K) = true → Refd L (i :: K) d)) := by
  have hz := (nxt_lt hn).1
  cases i with
  | fl x =>
    cases x with
    | mt m =>
      by_cases h1 : m = .kind
      · subst h1
        by_cases k1 : (t.k == 1) = true
        · refine .inl (same_row hn hs ?_)
          have hk : t.k = 1 := by simpa using k1
          simp [drow, M.row, wk, hk]
        · have k1' : (t.k == 1) = false := by simpa using k1
          by_cases k2 : (t.k == 2) = true
          · have a1 : wk 2 ⟨#[97, 114, 114, 97, 121]⟩ t = t.is [97, 114, 114, 97, 121] := by rw [wk_is, k2, show (ByteArray.mk #[97, 114, 114, 97, 121]).toList = [97, 114, 114, 97, 121] by decide +kernel]; rfl
            have a2 : wk 2 ⟨#[114, 101, 99, 111, 114, 100]⟩ t = t.is [114, 101, 99, 111, 114, 100] := by rw [wk_is, k2, show (ByteArray.mk #[114, 101, 99, 111, 114, 100]).toList = [114, 101, 99, 111, 114, 100] by decide +kernel]; rfl
            by_cases b1 : t.is [97, 114, 114, 97, 121] = true
            · refine .inl (same_row hn hs ?_)
              simp [drow, M.row, a1, b1, k1']
            · by_cases b2 : t.is [114, 101, 99, 111, 114, 100] = true
              · refine .inl (same_row hn hs ?_)
                simp [drow, M.row, a1, a2, b1, b2, k1']
              · simp [It.step, Fl.step, M.row, k1', b1, b2, Rw.sr] at hs
          · have k2' : (t.k == 2) = false := by simpa using k2
            have a1 : wk 2 ⟨#[97, 114, 114, 97, 121]⟩ t = false := by simp only [wk, k2', Bool.false_and]
            have a2 : wk 2 ⟨#[114, 101, 99, 111, 114, 100]⟩ t = false := by simp only [wk, k2', Bool.false_and]
            refine .inr ⟨?_, fun K _ => ?_⟩
            · intro k K n E R hR
              by_cases b1 : t.is [97, 114, 114, 97, 121] = true
              · simp only [It.step, Fl.step, M.row, k1', b1, Bool.false_eq_true, if_false, if_true, Rw.sr] at hs
                cases hs
                exact ru_ref_no (step_wd (by simp [Fl.takes, k2'])) hR
              · by_cases b2 : t.is [114, 101, 99, 111, 114, 100] = true
                · simp only [It.step, Fl.step, M.row, k1', b1, b2, Bool.false_eq_true, if_false, if_true, Rw.sr] at hs
                  cases hs
                  exact ru_ref_no (step_wd (by simp [Fl.takes, k2'])) hR
                · simp [It.step, Fl.step, M.row, k1', b1, b2, Rw.sr] at hs
            · have e : dst L (.fl (.mt .kind)) d = ([.fl .nm, .lv 8], opD 8 d) := by
                simp only [dst, hn, drow, Option.elim, a1, a2, Bool.false_eq_true, if_false]
                rfl
              refine Refd.step ?_ ?_
              · rw [e]
                refine ref_tk (t := t) ?_ ne_nm (by simp [Fl.takes, k1'])
                rw [opD_put hz]
                exact hn
              · rw [e, opD_put hz]
                rfl
      · by_cases h2 : m = .statement
        · subst h2
          by_cases k1 : (t.k == 1) = true
          · refine .inl (same_row hn hs ?_)
            simp [drow, M.row, k1]
          · have k1' : (t.k == 1) = false := by simpa using k1
            by_cases k2 : (t.k == 2) = true
            · refine .inl (same_row hn hs ?_)
              simp [drow, M.row, k1', k2]
            · have k2' : (t.k == 2) = false := by simpa using k2
              refine .inr ⟨?_, fun K _ => ?_⟩
              · intro k K n E R hR
                simp only [It.step, Fl.step, M.row, k1', Bool.false_eq_true, if_false] at hs
                rcases worded_form t.t with e | ⟨nd, r', e⟩
                · rw [e] at hs; cases hs
                · rw [e] at hs
                  cases hs
                  exact ru_ref_no (step_wd (by simp [Fl.takes, k2'])) hR
              · have e : dst L (.fl (.mt .statement)) d = ([], tkD L false d) := by
                  simp only [dst, hn, drow, k1', k2', Bool.false_eq_true, if_false]
                refine ⟨K, tkD L false d, ?_, .inl ?_⟩
                · refine .step ?_
                  rw [e]
                  exact .refl
                · simp [tkD, hz, (nxt_lt hn).2.2]
        · exact .inl (same_row hn hs (drow_any h1 h2))
    | _ =>
      simp only [It.step, Fl.step] at hs
      split at hs <;> cases hs
  | lv n =>
    cases hs
    exact .inl (by simp only [dst, clD_put (n := n) hz])
  | all r => cases hs; exact .inl rfl
  | once p =>
    rcases pick_same (t := t) (p := p) with e | ⟨k, m, rfl, hm, hk, e⟩
    · cases hs
      refine .inl ?_
      simp only [dst, hn, e]
      rfl
    · refine .inr ⟨?_, fun K hK => ?_⟩
      · intro j K n E R hR
        simp only [It.step, Pk.pick, hm, Option.map_some, Option.toList] at hs
        cases hs
        exact ru_fn_no hm hk hR
      · have hK' := nw_cons hK
        refine Refd.step ?_ rfl
        simp only [dst, hn, e]
        exact sgd_ref (bad_of hm hk) K d (hK'.2.2.2 k rfl) hn
  | again p =>
    rcases pick_same (t := t) (p := p) with e | ⟨k, m, rfl, hm, hk, e⟩
    · cases hs
      refine .inl ?_
      simp only [dst, hn, e]
      rfl
    · refine .inr ⟨?_, fun K hK => ?_⟩
      · intro j K n E R hR
        simp only [It.step, Pk.pick, hm, Option.map_some, agR] at hs
        cases hs
        exact ru_fn_no hm hk hR
      · have hK' := nw_cons hK
        refine Refd.step ?_ rfl
        simp only [dst, hn, e]
        exact sgd_ref (bad_of hm hk) K d (hK'.2.2.2 k rfl) hn
/-- A token's way through both. -/
theorem sim {t : Tv} {L : List Tv} {k : Nat} {K : List It} {n : Int} {E : List Ev} {R : Ro} (h : Ru t k K n E R) : ∀ (d : D), nxt L d = some t → nw K = true →
    (∀ K2 m F, R = .yes K2 m F → nw K2 = true ∧ ∃ x o, F = E ++ o ∧ (∀ m, x ≠ Fl.mt m) ∧ x.takes t = true ∧ Rch L K d (.fl x :: K2) (put2 d (pev o (d.p, d.s)))) ∧ (R = .no → Refd L K d) := by
  induction h with
  | nil =>
    intro d hn _
    exact ⟨(fun K2 m F e => by cases e), fun _ => ⟨[], d, .refl, .inr ⟨rfl, (nxt_lt hn).1, rfl⟩⟩⟩
  | ref hs =>
    rename_i i K n E
    intro d hn hw
    refine ⟨(fun K2 m F e => by cases e), fun _ => ?_⟩
    cases i with
    | fl x =>
      by_cases hx : ∃ m, x = .mt m
      · obtain ⟨m, rfl⟩ := hx
        have hz := (nxt_lt hn).1
        have fin : drow (some t) m = .ref → Refd L (.fl (.mt m) :: K) d := fun e => by
          refine ⟨K, tkD L false d, ?_, .inl (by simp [tkD, hz, (nxt_lt hn).2.2])⟩
          refine .step ?_
          simp only [dst, hn, e]
          exact .refl
        by_cases h1 : m = .kind
        · subst h1
          simp only [It.step, Fl.step, M.row] at hs
          by_cases k1 : (t.k == 1) = true
          · rw [if_pos k1] at hs; cases hs
          rw [if_neg k1] at hs
          by_cases b1 : t.is [97, 114, 114, 97, 121] = true
          · rw [if_pos b1] at hs; cases hs
          rw [if_neg b1] at hs
          by_cases b2 : t.is [114, 101, 99, 111, 114, 100] = true
          · rw [if_pos b2] at hs; cases hs
          have a1 : wk 2 ⟨#[97, 114, 114, 97, 121]⟩ t = false := by
            rw [wk_is, show (ByteArray.mk #[97, 114, 114, 97, 121]).toList = [97, 114, 114, 97, 121] by decide +kernel]
            have : (t.t.toList == [97, 114, 114, 97, 121]) = false := by simpa [Tv.is] using b1
            rw [this, Bool.and_false]
          have a2 : wk 2 ⟨#[114, 101, 99, 111, 114, 100]⟩ t = false := by
            rw [wk_is, show (ByteArray.mk #[114, 101, 99, 111, 114, 100]).toList = [114, 101, 99, 111, 114, 100] by decide +kernel]
            have : (t.t.toList == [114, 101, 99, 111, 114, 100]) = false := by simpa [Tv.is] using b2
            rw [this, Bool.and_false]
          have e : dst L (.fl (.mt .kind)) d = ([.fl .nm, .lv 8], opD 8 d) := by
            simp only [dst, hn, drow, Option.elim, a1, a2, Bool.false_eq_true, if_false]
            rfl
          refine Refd.step ?_ ?_
          · rw [e]
            refine ref_tk (t := t) ?_ ne_nm (by simpa [Fl.takes] using k1)
            rw [opD_put hz]
            exact hn
          · rw [e, opD_put hz]
            rfl
        · by_cases h2 : m = .statement
          · subst h2
            refine fin ?_
            simp only [It.step, Fl.step, M.row] at hs
            by_cases k1 : (t.k == 1) = true
            · rw [if_pos k1] at hs; cases hs
            rw [if_neg k1] at hs
            simp only [drow, if_neg k1]
            split
            · rcases worded_form t.t with e | ⟨nd, r', e⟩
              · exact e
              · rw [e] at hs; cases hs
            · rfl
          · refine fin ?_
            rw [drow_any h1 h2]
            simp only [It.step, Fl.step] at hs
            cases hr : M.row t m with
            | ref => rfl
            | ex r => rw [hr] at hs; cases hs
            | op nd r => rw [hr] at hs; cases hs
      · refine ref_tk hn (fun m e => hx ⟨m, e⟩) ?_
        cases x with
        | mt m => exact absurd ⟨m, rfl⟩ hx
        | _ =>
          simp only [It.step, Fl.step] at hs
          split at hs
          · cases hs
          · rename_i h; simpa using h
    | _ => cases hs
  | tk hs =>
    rename_i i K n E
    intro d hn hw
    refine ⟨fun K2 m F e => ?_, (fun e => by cases e)⟩
    cases e
    refine ⟨(nw_cons hw).1, ?_⟩
    cases i with
    | fl x =>
      have hx : ∀ m, x ≠ .mt m := by
        intro m e
        subst e
        simp only [It.step, Fl.step] at hs
        cases hr : M.row t m <;> rw [hr] at hs <;> cases hs
      refine ⟨x, [], by simp, hx, ?_, .refl⟩
      cases x with
      | mt m => exact absurd rfl (hx m)
      | _ =>
        simp only [It.step, Fl.step] at hs
        split at hs
        · rename_i h; exact h
        · cases hs
    | _ => cases hs
  | go hs hr ih =>
    rename_i k i K n dn E o r R
    intro d hn hw
    rcases step_sim hn hs with e | ⟨e1, e2⟩
    · have hw' := dst_nw (L := L) (d := d) hw
      have hn' : nxt L (put2 d (pev o (d.p, d.s))) = some t := hn
      rw [e] at hw'
      obtain ⟨h1, h2⟩ := ih (put2 d (pev o (d.p, d.s))) hn' hw'
      refine ⟨fun K2 m F eR => ?_, fun eR => ?_⟩
      · obtain ⟨a, x, o2, b, c, f, g⟩ := h1 K2 m F eR
        refine ⟨a, x, o ++ o2, by rw [b, List.append_assoc], c, f, .step ?_⟩
        rw [e, pev_app]
        exact g
      · refine Refd.step ?_ (by rw [e]; rfl)
        rw [e]
        exact h2 eR
    · have := e1 _ _ _ _ _ hr
      subst this
      exact ⟨(fun K2 m F e => by cases e), fun _ => e2 K hw⟩

end Go.Proofs.YtkglkhijngpgiaaGreat

set_option linter.unusedVariables false
set_option linter.unusedSimpArgs false
namespace Go.Proofs.YtkglkhijngpgiaaGreat
open Go.RowKit

/-! What the document's reader tells, by the code's states (no memory). -/
def d00 : D := ⟨0, [], 0, [], 0⟩
theorem d1_is : opD 1 d00 = ⟨0, [(1, 1)], 1, [], 0⟩ := rfl
theorem dst_dead {L : List Tv} {i : It} {d : D} (h : d.e ≠ 0) : (dst L i d).2 = d := by
  have hn : nxt L d = none := by unfold nxt; rw [if_neg h]
  have hq : ∀ f, qn L d f = false := fun f => by unfold qn; rw [hn]; rfl
  have ht : tkD L false d = d := by simp [tkD, h]
  cases i with
  | fl x =>
    cases x with
    | mt m =>
      simp only [dst]
      cases drow (nxt L d) m with
      | ref => exact ht
      | ex r => rfl
      | op nd r => exact opD_dead h
    | _ => simp only [dst, hq]; exact ht
  | lv n => exact clD_dead h
  | _ => rfl
theorem rch_dead {L : List Tv} {K K' : List It} {d d' : D} (h : Rch L K d K' d') (he : d.e ≠ 0) : d' = d := by
  induction h with
  | refl => rfl
  | step _ ih =>
    rename_i i K K' d d' _
    have := dst_dead (L := L) (i := i) he
    rw [this] at ih
    exact ih he
theorem dst_end {L : List Tv} {i : It} {d : D} (he : d.e = 0) (hn : nxt L d = none) : (dst L i d).2.l = d.l ∧ (dst L i d).2.i = d.i ∧ (((dst L i d).2.e = 0 ∧ nxt L (dst L i d).2 = none) ∨ (dst L i d).2.e = 121) := by
  have hi : ¬ d.i < L.length := by
    intro h
    unfold nxt at hn
    rw [if_pos he, List.getElem?_eq_getElem h] at hn
    cases hn
  have hq : ∀ f, qn L d f = false := fun f => by unfold qn; rw [hn]; rfl
  have ht : tkD L false d = { d with e := 121 } := by simp [tkD, he, hi]
  cases i with
  | fl x =>
    cases x with
    | mt m =>
      simp only [dst]
      cases drow (nxt L d) m with
      | ref => simp only [ht]; exact ⟨trivial, trivial, .inr trivial⟩
      | ex r => exact ⟨rfl, rfl, .inl ⟨he, hn⟩⟩
      | op nd r =>
        simp only
        rw [opD_put he]
        exact ⟨rfl, rfl, .inl ⟨he, hn⟩⟩
    | _ => simp only [dst, hq, ht]; exact ⟨trivial, trivial, .inr trivial⟩
  | lv n =>
    simp only [dst]
    rw [clD_put (n := n) he]
    exact ⟨rfl, rfl, .inl ⟨he, hn⟩⟩
  | _ => exact ⟨rfl, rfl, .inl ⟨he, hn⟩⟩
theorem rch_end {L : List Tv} {K K' : List It} {d d' : D} (h : Rch L K d K' d') (he : d.e = 0) (hn : nxt L d = none) : d'.l = d.l ∧ d'.i = d.i ∧ (d'.e = 0 ∨ d'.e = 121) := by
  induction h with
  | refl => exact ⟨rfl, rfl, .inl he⟩
  | step hr ih =>
    rename_i i K K' d d'
    obtain ⟨a, b, c⟩ := dst_end (i := i) he hn
    rcases c with ⟨c1, c2⟩ | c
    · obtain ⟨x, y, z⟩ := ih c1 c2
      exact ⟨x.trans a, y.trans b, z⟩
    · have := rch_dead hr (by rw [c]; decide)
      rw [this]
      exact ⟨a, b, .inr c⟩
theorem rch_wants {L : List Tv} {x : Fl} (hx : ∀ m, x ≠ .mt m) {K K' : List It} {d d' : D} (h : Rch L K d K' d') : K' = [] → ∀ (X Y : List It), K = X ++ .fl x :: Y → d.e = 0 → nxt L d = none → d'.e ≠ 0 := by
  induction h with
  | refl => intro e X Y e2; rw [e] at e2; cases X <;> cases e2
  | step hr ih =>
    rename_i i K K' d d'
    intro e X Y e2 he hn
    obtain ⟨a, b, c⟩ := dst_end (i := i) he hn
    rcases c with ⟨c1, c2⟩ | c
    · cases X with
      | nil =>
        simp at e2
        obtain ⟨rfl, rfl⟩ := e2
        exfalso
        have e3 : dst L (.fl x) d = ([], tkD L (qn L d (fun t => x.takes t)) d) := by
          cases x with
          | mt m => exact absurd rfl (hx m)
          | _ => rfl
        rw [e3] at c1
        have hq : qn L d (fun t => x.takes t) = false := by unfold qn; rw [hn]; rfl
        rw [hq] at c1
        exact absurd (tkD_live c1).1 (by decide)
      | cons j X =>
        simp at e2
        obtain ⟨rfl, rfl⟩ := e2
        exact ih e ((dst L i d).1 ++ X) Y (by simp) c1 c2
    · have := rch_dead hr (by rw [c]; decide)
      rw [this, c]
      decide
/-- The document stands where the code stands. -/
def DocAt (T : List Tv) (K : List It) (p : List (Int × Nat)) (s : Nat) : Prop := ∀ R, ∃ lst, Rch (T ++ R) (progR ++ [.lv 1]) (opD 1 d00) K ⟨T.length, p, s, lst, 0⟩ ∧ (R = [] → T ≠ [] → lst = p)
theorem docAt_nil : DocAt [] (progR ++ [.lv 1]) [(1, 1)] 1 := fun R => ⟨[], .refl, fun _ h => absurd rfl h⟩
theorem nxt_at {T R : List Tv} {t : Tv} {p : List (Int × Nat)} {s : Nat} {l : List (Int × Nat)} : nxt (T ++ t :: R) ⟨T.length, p, s, l, 0⟩ = some t := by simp [nxt]
theorem docAt_path {T : List Tv} {K : List It} {p : List (Int × Nat)} {s : Nat} (h : DocAt T K p s) : p.map (·.1) = (lvs K).reverse := by
  obtain ⟨l, h1, _⟩ := h []
  obtain ⟨_, h2⟩ := rch_path h1 rfl
  obtain ⟨q, e1, e2⟩ := h2 [] [(1, 1)] rfl rfl
  simp at e1
  rw [e1]
  exact e2
/-- What the document's reader answers. -/
def Res (L : List Tv) (e : Int) (l : List (Int × Nat)) : Prop := ∃ dz d', Rb L progR (opD 1 d00) dz ∧ ((dz.e = 0 ∧ dz.i < L.length ∧ d' = { dz with e := 120 }) ∨ (¬ (dz.e = 0 ∧ dz.i < L.length) ∧ d' = dz)) ∧ d'.e = e ∧ d'.l = l
theorem res_to {L : List Tv} {dz : D} (h : Rb L progR (opD 1 d00) dz) {K : List It} {d : D} (h' : Rch L (progR ++ [.lv 1]) (opD 1 d00) K d) : Rch L K d [] (clD dz) := h'.det ((h [.lv 1]).trans (.step .refl))
theorem clD_same {d : D} : (clD d).e = d.e ∧ (clD d).i = d.i ∧ (clD d).l = d.l := by unfold clD; split <;> exact ⟨rfl, rfl, rfl⟩
theorem res_no {T : List Tv} {K : List It} {p : List (Int × Nat)} {s : Nat} (h : DocAt T K p s) (hw : nw K = true) {t : Tv} {k : Nat} {n : Int} {E : List Ev} (hr : Ru t k K n E .no) {e : Int} {l : List (Int × Nat)} (hR : Res (T ++ [t]) e l) : e = 120 := by
  obtain ⟨dz, d', hb, hf, rfl, _⟩ := hR
  obtain ⟨lst, h1, _⟩ := h [t]
  obtain ⟨K', d2, h2, h3⟩ := (sim (L := T ++ [t]) hr _ nxt_at hw).2 rfl
  have h4 := res_to hb (h1.trans h2)
  obtain ⟨c1, c2, c3⟩ := clD_same (d := dz)
  rcases h3 with h3 | ⟨rfl, h5, h6⟩
  · have h7 := rch_dead h4 (by rw [h3]; decide)
    have : dz.e = 120 := by rw [← c1, h7, h3]
    rcases hf with ⟨a, _⟩ | ⟨_, rfl⟩
    · rw [this] at a; cases a
    · exact this
  · cases h4
    rcases hf with ⟨_, _, rfl⟩ | ⟨a, _⟩
    · rfl
    · exact absurd ⟨by rw [← c1]; exact h5, by rw [← c2, h6]; simp⟩ a
theorem take_is {T R : List Tv} {t : Tv} {x : Fl} (hx : x.takes t = true) {p : List (Int × Nat)} {s : Nat} {l : List (Int × Nat)} : tkI (T ++ t :: R) x ⟨T.length, p, s, l, 0⟩ = if 1000 < p.length then ⟨T.length, p, s, l, 122⟩ else ⟨T.length + 1, p, s, if R = [] then p else l, 0⟩ := by
  have hq : qn (T ++ t :: R) ⟨T.length, p, s, l, 0⟩ (fun t => x.takes t) = true := by unfold qn; rw [nxt_at]; exact hx
  unfold tkI tkD
  rw [hq]
  simp only [if_true]
  split
  · rfl
  · have : (T.length + 1 = (T ++ t :: R).length) ↔ R = [] := by
      rw [List.length_append, List.length_cons]
      constructor
      · intro h
        exact List.eq_nil_of_length_eq_zero (by omega)
      · intro h
        rw [h]
        simp
    simp only [this]
theorem docAt_on {T : List Tv} {K : List It} {p : List (Int × Nat)} {s : Nat} (h : DocAt T K p s) (hw : nw K = true) {t : Tv} {k : Nat} {n m : Int} {E o : List Ev} {K2 : List It} (hr : Ru t k K n E (.yes K2 m (E ++ o))) :
    nw K2 = true ∧ (pev o (p, s)).1.map (·.1) = (lvs K2).reverse ∧ ((pev o (p, s)).1.length ≤ 1000 → DocAt (T ++ [t]) K2 (pev o (p, s)).1 (pev o (p, s)).2) ∧ (1000 < (pev o (p, s)).1.length → ∀ e l, Res (T ++ [t]) e l → e = 122) := by
  have go : ∀ R, ∃ x lst, Rch (T ++ t :: R) (progR ++ [.lv 1]) (opD 1 d00) (.fl x :: K2) ⟨T.length, (pev o (p, s)).1, (pev o (p, s)).2, lst, 0⟩ ∧ (∀ m, x ≠ Fl.mt m) ∧ x.takes t = true := by
    intro R
    obtain ⟨lst, h1, _⟩ := h (t :: R)
    obtain ⟨_, x, o', e1, hx, hx2, h2⟩ := (sim (L := T ++ t :: R) hr _ nxt_at hw).1 _ _ _ rfl
    have e2 : o' = o := List.append_cancel_left e1.symm
    subst e2
    exact ⟨x, lst, h1.trans h2, hx, hx2⟩
  refine ⟨?_, ?_, ?_, ?_⟩
  · obtain ⟨lst, h1, _⟩ := h (t :: [])
    exact ((sim (L := T ++ [t]) hr ⟨T.length, p, s, [], 0⟩ nxt_at hw).1 _ _ _ rfl).1
  · obtain ⟨x, lst, h2, hx, _⟩ := go []
    obtain ⟨_, h3⟩ := rch_path h2 rfl
    obtain ⟨q, e1, e2⟩ := h3 [] [(1, 1)] rfl rfl
    simp at e1
    rw [e1]
    exact e2
  · intro hle R
    obtain ⟨x, lst, h2, hx, hx2⟩ := go R
    have h3 := h2.trans (ib_tk hx K2)
    have h4 := take_is (T := T) (R := R) hx2 (p := (pev o (p, s)).1) (s := (pev o (p, s)).2) (l := lst)
    rw [if_neg (by omega)] at h4
    unfold tkI at h4
    rw [h4] at h3
    refine ⟨if R = [] then (pev o (p, s)).1 else lst, ?_, fun e _ => if_pos e⟩
    rw [List.append_assoc, List.length_append]
    exact h3
  · intro hgt e l hR
    obtain ⟨dz, d', hb, hf, rfl, _⟩ := hR
    obtain ⟨x, lst, h2, hx, hx2⟩ := go []
    have h3 := h2.trans (ib_tk hx K2)
    have h4 := take_is (T := T) (R := []) hx2 (p := (pev o (p, s)).1) (s := (pev o (p, s)).2) (l := lst)
    rw [if_pos hgt] at h4
    unfold tkI at h4
    rw [h4] at h3
    have h5 := rch_dead (res_to hb h3) (by show (122 : Int) ≠ 0; decide)
    obtain ⟨c1, c2, c3⟩ := clD_same (d := dz)
    have : dz.e = 122 := by rw [← c1, h5]
    rcases hf with ⟨a, _⟩ | ⟨_, rfl⟩
    · rw [this] at a; cases a
    · exact this
theorem nxt_end {T : List Tv} {p : List (Int × Nat)} {s : Nat} {l : List (Int × Nat)} : nxt (T ++ []) ⟨T.length, p, s, l, 0⟩ = none := by simp [nxt]
theorem res_yes {T : List Tv} {K : List It} {p : List (Int × Nat)} {s : Nat} (h : DocAt T K p s) (hT : T ≠ []) {e : Int} {l : List (Int × Nat)} (hR : Res T e l) : (e = 0 ∨ e = 121) ∧ l = p := by
  obtain ⟨dz, d', hb, hf, rfl, rfl⟩ := hR
  obtain ⟨lst, h1, h2⟩ := h []
  have e1 := h2 rfl hT
  subst e1
  have hb' : Rb (T ++ []) progR (opD 1 d00) dz := by rw [List.append_nil]; exact hb
  obtain ⟨a, b, c⟩ := rch_end (res_to hb' h1) rfl nxt_end
  obtain ⟨c1, c2, c3⟩ := clD_same (d := dz)
  rw [c1] at c
  rw [c2] at b
  rw [c3] at a
  rcases hf with ⟨_, f2, _⟩ | ⟨_, rfl⟩
  · have : dz.i = T.length := b
    omega
  · exact ⟨c, a⟩
theorem rch_nil {L : List Tv} {d d' : D} (h : Rch L [] d [] d') : d' = d := by cases h; rfl
/-- At the bottom: the program's point, or it was taken. -/
def Bo2 (K : List It) : Prop := K = [.lv 1] ∨ ∃ X, K = X ++ [.fl (.wd 6 [⟨#[46]⟩]), .lv 1]
theorem bo2_prog : Bo2 (progR ++ [.lv 1]) := .inr ⟨[.fl (.wd 2 [⟨#[112, 114, 111, 103, 114, 97, 109]⟩]), .fl (.nm), .fl (.wd 6 [⟨#[59]⟩]), .fl (.mt .block)], rfl⟩
theorem ru_bo2 {t : Tv} {k : Nat} {K : List It} {n : Int} {E : List Ev} {R : Ro} (h : Ru t k K n E R) : ∀ {L : List It} {m : Int} {F : List Ev}, R = .yes L m F → Bo2 K → Bo2 L := by
  induction h with
  | nil => intro L m F h; cases h
  | ref _ => intro L m F h; cases h
  | tk hs =>
    rename_i i K n E
    intro L m F h hb
    cases h
    rcases hb with hb | ⟨X, hX⟩
    · simp at hb; obtain ⟨rfl, rfl⟩ := hb; cases hs
    · cases X with
      | nil => simp at hX; exact .inl hX.2
      | cons j X => simp at hX; exact .inr ⟨X, hX.2⟩
  | go hs hr ih =>
    rename_i k i K n d E o r R
    intro L m F h hb
    rcases hb with hb | ⟨X, hX⟩
    · simp at hb
      obtain ⟨rfl, rfl⟩ := hb
      cases hs
      cases hr
      cases h
    · cases X with
      | nil =>
        simp at hX
        obtain ⟨rfl, rfl⟩ := hX
        simp only [It.step, Fl.step] at hs
        split at hs <;> cases hs
      | cons j X =>
        simp at hX
        obtain ⟨rfl, rfl⟩ := hX
        exact ih h (.inr ⟨r ++ X, by simp⟩)
theorem res_close {T : List Tv} {K : List It} {p : List (Int × Nat)} {s : Nat} (h : DocAt T K p s) (hb2 : Bo2 K) {e : Int} {l : List (Int × Nat)} (hR : Res T e l) : (K.length = 1 → e = 0) ∧ (K.length ≠ 1 → e = 121) := by
  obtain ⟨dz, d', hb, hf, rfl, rfl⟩ := hR
  obtain ⟨lst, h1, h2⟩ := h []
  have hb' : Rb (T ++ []) progR (opD 1 d00) dz := by rw [List.append_nil]; exact hb
  have h3 := res_to hb' h1
  obtain ⟨a, b, c⟩ := rch_end h3 rfl nxt_end
  obtain ⟨c1, c2, c3⟩ := clD_same (d := dz)
  rw [c2] at b
  have hd : d' = dz := by
    rcases hf with ⟨_, f2, _⟩ | ⟨_, e⟩
    · have : dz.i = T.length := b
      omega
    · exact e
  rw [hd]
  rcases hb2 with rfl | ⟨X, rfl⟩
  · refine ⟨fun _ => ?_, fun h => absurd rfl h⟩
    cases h3 with
    | step h4 =>
      have h5 := rch_nil h4
      rw [← c1, h5]
      rfl
  · refine ⟨fun h => by simp at h, fun _ => ?_⟩
    have := rch_wants ne_wd h3 rfl X [.lv 1] rfl rfl nxt_end
    rw [c1] at this c
    exact c.resolve_left this

end Go.Proofs.YtkglkhijngpgiaaGreat

set_option linter.unusedVariables false
set_option linter.unusedSimpArgs false
namespace Go.Proofs.YtkglkhijngpgiaaGreat
open Go.RowKit

/-! What lies between two tokens' nodes (no memory). -/
def cpl : List (Int × Nat) → List (Int × Nat) → Nat
  | x :: a, y :: b => if x = y then cpl a b + 1 else 0
  | _, _ => 0
def clE (x : Int × Nat) : Ev := ⟨3, x.1, tv0⟩
def opE (x : Int × Nat) : Ev := ⟨1, x.1, tv0⟩
def btw (a b : List (Int × Nat)) : List Ev := (a.drop (cpl a b)).reverse.map clE ++ (b.drop (cpl a b)).map opE
theorem cpl_base (x y : List (Int × Nat)) : ∀ base : List (Int × Nat), cpl (base ++ x) (base ++ y) = base.length + cpl x y
  | [] => by simp
  | z :: base => by
    simp only [List.cons_append, cpl, if_true, List.length_cons, cpl_base x y base]
    omega
theorem btw_split {base x y : List (Int × Nat)} (h : ∀ u v a b, x = u :: a → y = v :: b → u ≠ v) : btw (base ++ x) (base ++ y) = x.reverse.map clE ++ y.map opE := by
  have h0 : cpl x y = 0 := by
    cases x with
    | nil => rfl
    | cons u a =>
      cases y with
      | nil => rfl
      | cons v b => simp only [cpl, if_neg (h u v a b rfl rfl)]
  unfold btw
  rw [cpl_base, h0, Nat.add_zero, List.drop_left, List.drop_left]
theorem cpl_le : ∀ a b : List (Int × Nat), cpl a b ≤ a.length ∧ cpl a b ≤ b.length
  | [], b => by cases b <;> simp [cpl]
  | x :: a, [] => by simp [cpl]
  | x :: a, y :: b => by
    simp only [cpl]
    have := cpl_le a b
    split
    · simp; omega
    · simp
/-- Closes take the last nodes off. -/
theorem cl_split : ∀ (c : List Ev) (p : List (Int × Nat)) (s1 : List Int), (∀ e ∈ c, e.k = 3 ∧ e.d = tv0) → play (p.map (·.1)).reverse c = some s1 → ∃ base x, p = base ++ x ∧ c = x.reverse.map clE ∧ s1 = (base.map (·.1)).reverse ∧ ∀ s, pev c (p, s) = (base, s)
  | [], p, s1, _, h => ⟨p, [], by simp, rfl, by cases h; rfl, fun s => rfl⟩
  | e :: c, p, s1, hc, h => by
    obtain ⟨h3, hd⟩ := hc e (List.mem_cons_self ..)
    have h1 : ¬ e.k = 1 := by omega
    rcases List.eq_nil_or_concat p with rfl | ⟨p', z, rfl⟩
    · simp [play, h1, h3] at h
    · have e0 : (p' ++ [z]).map (·.1) = p'.map (·.1) ++ [z.1] := by simp
      rw [List.concat_eq_append] at h ⊢
      rw [e0, List.reverse_append] at h
      simp only [List.reverse_cons, List.reverse_nil, List.nil_append, List.singleton_append, play, if_neg h1, if_pos h3] at h
      split at h
      · rename_i hz
        obtain ⟨base, x, a1, a2, a3, a4⟩ := cl_split c p' s1 (fun y hy => hc y (List.mem_cons_of_mem _ hy)) h
        refine ⟨base, x ++ [z], by rw [a1, List.append_assoc], ?_, a3, fun s => ?_⟩
        · rw [List.reverse_append, List.map_append, a2]
          have : e = clE z := by
            obtain ⟨ek, en, ed⟩ := e
            simp only at h3 hd hz
            subst h3 hd hz
            rfl
          rw [this]
          rfl
        · simp only [pev, if_neg h1, if_pos h3, List.dropLast_concat]
          exact a4 s
      · cases h
/-- Opens lay new ones behind. -/
theorem op_split : ∀ (o : List Ev) (p : List (Int × Nat)) (s : Nat), (∀ e ∈ o, e.k = 1 ∧ e.d = tv0) → ∃ y, pev o (p, s) = (p ++ y, s + o.length) ∧ o = y.map opE ∧ ∀ v ∈ y, s < v.2 ∧ v.2 ≤ s + o.length
  | [], p, s, _ => ⟨[], by simp [pev], rfl, fun v h => by cases h⟩
  | e :: o, p, s, ho => by
    obtain ⟨h1, hd⟩ := ho e (List.mem_cons_self ..)
    obtain ⟨y, a1, a2, a3⟩ := op_split o (p ++ [(e.n, s + 1)]) (s + 1) (fun x hx => ho x (List.mem_cons_of_mem _ hx))
    refine ⟨(e.n, s + 1) :: y, ?_, ?_, ?_⟩
    · simp only [pev, if_pos h1, a1, List.length_cons]
      simp
      omega
    · obtain ⟨ek, en, ed⟩ := e
      simp only at h1 hd
      subst h1 hd
      rw [List.map_cons, ← a2]
      rfl
    · intro v hv
      rcases List.mem_cons.1 hv with rfl | hv
      · simp
      · have := a3 v hv
        simp
        omega
def SerOk (p : List (Int × Nat)) (s : Nat) : Prop := ∀ x ∈ p, x.2 ≤ s
/-- A token's events are what lies between. -/
theorem btw_pev {p : List (Int × Nat)} {s : Nat} {o c op : List Ev} {K K2 : List It} (hs : SerOk p s) (hp : p.map (·.1) = (lvs K).reverse) (e : o = c ++ op) (hc : ∀ e ∈ c, e.k = 3) (ho : ∀ e ∈ op, e.k = 1) (hd : ∀ e ∈ o, e.d = tv0) (hpl : play (lvs K) o = some (lvs K2)) :
    btw p (pev o (p, s)).1 = o ∧ SerOk (pev o (p, s)).1 (pev o (p, s)).2 ∧ (pev o (p, s)).2 ≤ s + o.length := by
  have hl : lvs K = (p.map (·.1)).reverse := by rw [hp, List.reverse_reverse]
  subst e
  rw [hl] at hpl
  have hc' : ∀ e ∈ c, e.k = 3 ∧ e.d = tv0 := fun e he => ⟨hc e he, hd e (List.mem_append_left _ he)⟩
  have ho' : ∀ e ∈ op, e.k = 1 ∧ e.d = tv0 := fun e he => ⟨ho e he, hd e (List.mem_append_right _ he)⟩
  obtain ⟨s1, hs1⟩ : ∃ s1, play (p.map (·.1)).reverse c = some s1 := by
    clear hc' ho' hd ho
    generalize (p.map (·.1)).reverse = q at hpl
    induction c generalizing q with
    | nil => exact ⟨q, rfl⟩
    | cons e c ih =>
      have h3 := hc e (List.mem_cons_self ..)
      have h1 : ¬ e.k = 1 := by omega
      simp only [List.cons_append, play, if_neg h1, if_pos h3] at hpl ⊢
      cases q with
      | nil => cases hpl
      | cons n q =>
        simp only at hpl ⊢
        split
        · rename_i hz
          rw [if_pos hz] at hpl
          exact ih (fun x hx => hc x (List.mem_cons_of_mem _ hx)) q hpl
        · rename_i hz
          rw [if_neg hz] at hpl
          cases hpl
  obtain ⟨base, x, a1, a2, a3, a4⟩ := cl_split c p s1 hc' hs1
  obtain ⟨y, b1, b2, b3⟩ := op_split op base s ho'
  rw [pev_app, a4 s, b1]
  subst a1
  refine ⟨?_, ?_, by simp⟩
  · show btw (base ++ x) (base ++ y) = c ++ op
    rw [btw_split, ← a2, ← b2]
    intro u v a b e1 e2 e3
    have h1 := hs u (by rw [e1]; simp)
    have h2 := (b3 v (by rw [e2]; simp)).1
    rw [e3] at h1
    omega
  · intro z hz
    simp only at hz ⊢
    rcases List.mem_append.1 hz with h | h
    · have := hs z (List.mem_append_left _ h)
      omega
    · exact (b3 z h).2
/-- The parser's state against the document's: the tokens, the nodes of the last one. -/
structure Dat (T : List Tv) (now : List (Int × Nat)) (K : List It) (n : Int) : Prop where
  dat : ∃ s, DocAt T (beg K n) (if n = 0 then [(1, 1)] else now) s ∧ SerOk (if n = 0 then [(1, 1)] else now) s ∧ s ≤ 30000 * T.length + 1
  nw : nw (beg K n) = true
  b2 : Bo2 (beg K n)
  len : (now.length : Int) = n
  z0 : n = 0 → T = []
  gd : Good (.live K n)
theorem dat_new : Dat [] [] [] 0 := ⟨⟨1, docAt_nil, fun x h => by simp at h; subst h; exact Nat.le_refl _, Nat.le_refl _⟩, nw_prog, bo2_prog, rfl, fun _ => rfl, good_new⟩
theorem beg_now {T : List Tv} {now : List (Int × Nat)} {K : List It} {n : Int} (h : Dat T now K n) : (if n = 0 then [(1, 1)] else now).map (·.1) = (lvs (beg K n)).reverse := by
  obtain ⟨s, h1, _⟩ := h.dat
  exact docAt_path h1
theorem begN_ne {K : List It} {n : Int} (h : Good (.live K n)) : begN n ≠ 0 := by unfold begN; split <;> simp_all
theorem beg_beg {K : List It} {n : Int} (h : Good (.live K n)) : beg (beg K n) (begN n) = beg K n := by
  have := begN_ne h
  have h2 : (begN n == 0) = false := by simpa using this
  rw [beg, h2]
  rfl
theorem now_len {n : Int} {now : List (Int × Nat)} (h : (now.length : Int) = n) : (((if n = 0 then [(1, 1)] else now : List (Int × Nat)).length : Nat) : Int) = begN n := by
  unfold begN
  by_cases e : n = 0
  · simp [e]
  · have : (n == 0) = false := by simpa using e
    rw [if_neg e, this]
    exact h
/-- A comment. -/
theorem dat_note {T : List Tv} {now : List (Int × Nat)} {K : List It} {n : Int} (h : Dat T now K n) {t : Tv} {ev : List Ev} {st' : St} (hc : (t.k == 7 || t.k == 8) = true) : Dat T (if n = 0 then [(1, 1)] else now) (beg K n) (begN n) := by
  obtain ⟨s, h1, h2, h3⟩ := h.dat
  have hne := begN_ne h.gd
  have hb := beg_beg h.gd
  refine ⟨⟨s, ?_, ?_, h3⟩, by rw [hb]; exact h.nw, by rw [hb]; exact h.b2, now_len h.len, fun e => absurd e hne, (put_keep h.gd (.note hc)).1⟩
  · rw [hb, if_neg hne]; exact h1
  · rw [if_neg hne]; exact h2
theorem dat_no {T : List Tv} {now : List (Int × Nat)} {K : List It} {n : Int} (h : Dat T now K n) {t : Tv} {k : Nat} (hr : Ru t k (beg K n) (begN n) (begE n) .no) {e : Int} {l : List (Int × Nat)} (hR : Res (T ++ [t]) e l) : e = 120 := by
  obtain ⟨s, h1, h2, h3⟩ := h.dat
  exact res_no h1 h.nw hr hR
theorem dat_yes {T : List Tv} {now : List (Int × Nat)} {K L : List It} {n m : Int} {E : List Ev} (h : Dat T now K n) {t : Tv} {k : Nat} (hc : (t.k == 7 || t.k == 8) = false) (hr : Ru t k (beg K n) (begN n) (begE n) (.yes L m E)) (hk : k ≤ (beg K n).length + 20) :
    (1000 < m → ∀ e l, Res (T ++ [t]) e l → e = 122) ∧ (m ≤ 1000 → ∃ p2, E = begE n ++ btw (if n = 0 then [(1, 1)] else now) p2 ∧ Dat (T ++ [t]) p2 L m ∧ ∀ e l, Res (T ++ [t]) e l → (e = 0 ∨ e = 121) ∧ l = p2) := by
  obtain ⟨s, h1, h2, h3⟩ := h.dat
  obtain ⟨b1, b2, b3, b4, b5, hbot, hbn, hbe⟩ := good_beg h.gd
  obtain ⟨c1, c2, c3, o, c4, c5, c6, c7⟩ := ru_keep hr rfl b1 b2 b3
  subst c4
  obtain ⟨cc, oo, e1, e2, e3⟩ := ru_phase hr rfl b1
  have e4 : o = cc ++ oo := List.append_cancel_left e1
  obtain ⟨a1, a2, a3, a4⟩ := docAt_on h1 h.nw hr
  obtain ⟨f1, f2, f3⟩ := btw_pev (K2 := L) h2 (beg_now h) e4 e2 e3 (fun e he => (c6 e he).1) c5
  have hlen : (((pev o (if n = 0 then [(1, 1)] else now, s)).1.length : Nat) : Int) = m := by
    rw [← c3]
    have := congrArg List.length a2
    simp at this
    omega
  refine ⟨fun hm e l hR => a4 (by omega) e l hR, fun hm => ?_⟩
  have hD := a3 (by omega)
  have hne : T ++ [t] ≠ [] := by simp
  have hgd := (put_keep h.gd (Putr.yes hc hr hk hm)).1
  have hL : m ≠ 0 := by
    have h5 := bot_lv (ru_bot hr rfl hbot)
    omega
  have hbL : beg L m = L := by
    have h2 : (m == 0) = false := by simpa using hL
    rw [beg, h2]
    rfl
  refine ⟨(pev o (if n = 0 then [(1, 1)] else now, s)).1, by rw [f1], ⟨⟨(pev o (if n = 0 then [(1, 1)] else now, s)).2, ?_, ?_, ?_⟩, ?_, ?_, hlen, fun e => absurd e hL, hgd⟩, fun e l hR => res_yes hD hne hR⟩
  · rw [hbL, if_neg hL]; exact hD
  · rw [if_neg hL]; exact f2
  · have : (T ++ [t]).length = T.length + 1 := by simp
    rw [this]
    have := f3
    omega
  · rw [hbL]; exact a1
  · rw [hbL]; exact ru_bo2 hr rfl h.b2
theorem dat_close {T : List Tv} {now : List (Int × Nat)} {K : List It} {n : Int} (h : Dat T now K n) {e : Int} {l : List (Int × Nat)} (hR : Res T e l) : (K.length = 1 → e = 0) ∧ (K.length ≠ 1 → e = 121) := by
  obtain ⟨s, h1, h2, h3⟩ := h.dat
  have h4 := res_close h1 h.b2 hR
  by_cases hn : n = 0
  · have hK : K = [] := by
      rcases h.gd.2 with h5 | h5
      · exact h5.2
      · have h6 := bot_lv h5; have h7 := h.gd.1.lv; omega
    subst hK hn
    exact ⟨fun e => by simp at e, fun _ => h4.2 (by decide)⟩
  · have hb : beg K n = K := by
      have h2 : (n == 0) = false := by simpa using hn
      rw [beg, h2]
      rfl
    rw [hb] at h4
    exact h4

end Go.Proofs.YtkglkhijngpgiaaGreat
