import Derived.Test.YtkigadnkclkopaaZh
set_option linter.unusedVariables false
set_option linter.unusedSimpArgs false
namespace Go.Proofs.Ytkigadnkclkopaa
open Go.RowKit

/-! The code's way of a token against the document's (no memory). -/
/-- What a token's events make of the nodes. -/
def pev : List Ev → List (Int × Nat) × Nat → List (Int × Nat) × Nat
  | [], x => x
  | e :: o, (p, s) => if e.k = 1 then pev o (p ++ [(e.n, s + 1)], s + 1) else if e.k = 3 then pev o (p.dropLast, s) else pev o (p, s)
theorem pev_app : ∀ (a b : List Ev) (x : List (Int × Nat) × Nat), pev (a ++ b) x = pev b (pev a x)
  | [], b, x => rfl
  | e :: a, b, (p, s) => by
    simp only [List.cons_append, pev]
    split
    · exact pev_app a b _
    · split
      · exact pev_app a b _
      · exact pev_app a b _
def putE (d : D) (o : List Ev) : D := { d with p := (pev o (d.p, d.s)).1, s := (pev o (d.p, d.s)).2, v := d.v ++ o }
theorem putE_nil (d : D) : putE d [] = d := by simp [putE, pev]
theorem putE_app (d : D) (a b : List Ev) : putE (putE d a) b = putE d (a ++ b) := by simp [putE, pev_app]
/-- A token that looks like a part's first one, but is of another kind. -/
def bad (k : Dk) (t : Tv) : Prop := (t.k == k.kd) = false ∧ (k = .detail → (t.is [91] || t.is [46] || t.is [40]) = true)
def okT (ts : List ByteArray) : Bool := ts.all (fun s => !(s.toList == [91] || s.toList == [46] || s.toList == [40]))
/-- Such a token stops there. -/
def blk (k : Dk) : It → Bool
  | .fl (.wd q ts) => match k with
    | .declaration => q == 2
    | .bracket => q == 6
    | .detail => q == 6 || okT ts
  | _ => false
/-- It goes by. -/
def trn (k : Dk) : It → Bool
  | .lv _ => match k with | .detail => true | _ => false
  | .once (.row (.wd q ts :: _)) => match k with
    | .declaration => false
    | .bracket => q == 6
    | .detail => q == 6 || okT ts
  | .again (.row (.wd q ts :: _)) => match k with
    | .detail => q == 6 || okT ts
    | _ => false
  | .once (.fn _) => match k with | .detail => true | _ => false
  | .again (.fn _) => match k with | .detail => true | _ => false
  | _ => false
def sgd (k : Dk) : List It → Bool
  | [] => true
  | i :: K => blk k i || (trn k i && sgd k K)
/-- It can't stand: an error, or nothing is to come. -/
def Refd (L : List Tv) (K : List It) (d : D) : Prop := ∃ K' d', Rch L K d K' d' ∧ d'.i = d.i ∧ (d'.e = 120 ∨ (K' = [] ∧ d'.e = 0))
theorem Refd.step {L : List Tv} {i : It} {K : List It} {d : D} (h : Refd L ((dst L i d).1 ++ K) (dst L i d).2) (hi : (dst L i d).2.i = d.i) : Refd L (i :: K) d := by
  obtain ⟨K', d', h1, h2, h3⟩ := h
  exact ⟨K', d', .step h1, h2.trans hi, h3⟩
theorem nxt_lt {L : List Tv} {d : D} {t : Tv} (h : nxt L d = some t) : d.e = 0 ∧ L[d.i]? = some t ∧ d.i < L.length := by
  unfold nxt at h
  split at h
  · rename_i he
    exact ⟨he, h, (List.getElem?_eq_some_iff.1 h).1⟩
  · cases h
theorem ref_tk {L : List Tv} {K : List It} {d : D} {t : Tv} (hn : nxt L d = some t) {x : Fl} (hx : ∀ m, x ≠ .mt m) (ht : x.takes t = false) : Refd L (.fl x :: K) d := by
  obtain ⟨he, _, hi⟩ := nxt_lt hn
  have hq : qn L d (fun t => x.takes t) = false := by unfold qn; rw [hn]; exact ht
  refine ⟨K, _, ib_tk hx K, ?_, .inl ?_⟩
  · rw [hq]
    simp [tkD, he, hi]
  · rw [hq]
    simp [tkD, he, hi]
theorem has_no {t : Tv} {ts : List ByteArray} (h : okT ts = true) (hb : (t.is [91] || t.is [46] || t.is [40]) = true) : has ts t.t = false := by
  refine List.any_eq_false.2 (fun s hs => ?_)
  have h1 := List.all_eq_true.1 h s hs
  simp only [decide_eq_true_eq]
  intro e
  subst e
  unfold Tv.is at hb
  rw [hb] at h1
  cases h1
theorem bad_wd {k : Dk} {t : Tv} {q : Int} {ts : List ByteArray} (hb : bad k t) (h : match k with | .declaration => q == 2 | .bracket => q == 6 | .detail => q == 6 || okT ts) : Fl.takes t (.wd q ts) = false := by
  obtain ⟨h1, h2⟩ := hb
  simp only [Fl.takes]
  cases k with
  | declaration =>
    simp only [beq_iff_eq] at h
    subst h
    simp only [Dk.kd] at h1
    rw [h1]; rfl
  | bracket =>
    simp only [beq_iff_eq] at h
    subst h
    simp only [Dk.kd] at h1
    rw [h1]; rfl
  | detail =>
    simp only [Bool.or_eq_true, beq_iff_eq] at h
    rcases h with rfl | h
    · simp only [Dk.kd] at h1
      rw [h1]; rfl
    · rw [has_no h (h2 rfl), Bool.and_false]
theorem sgd_ref {k : Dk} {t : Tv} (hb : bad k t) {L : List Tv} : ∀ (K : List It) (d : D), sgd k K = true → nxt L d = some t → Refd L K d
  | [], d, _, hn => ⟨[], d, .refl, rfl, .inr ⟨rfl, (nxt_lt hn).1⟩⟩
  | i :: K, d, h, hn => by
    have thru : (dst L i d).1 = [] → nxt L (dst L i d).2 = some t → (dst L i d).2.i = d.i → sgd k K = true → Refd L (i :: K) d := fun e1 e2 e3 e4 => by
      refine Refd.step ?_ e3
      rw [e1]
      exact sgd_ref hb K _ e4 e2
    simp only [sgd, Bool.or_eq_true, Bool.and_eq_true] at h
    rcases h with h | ⟨h, hK⟩
    · cases i with
      | fl x =>
        cases x with
        | wd q ts => exact ref_tk hn ne_wd (bad_wd hb (by cases k <;> exact h))
        | _ => cases h
      | _ => cases h
    · cases i with
      | fl x => cases h
      | lv n =>
        refine thru rfl ?_ ?_ hK
        · simp only [dst, clD, (nxt_lt hn).1, if_true]
          simpa [nxt, (nxt_lt hn).1] using hn
        · simp only [dst, clD, (nxt_lt hn).1, if_true]
      | once p =>
        have hp : dpick (nxt L d) p = none := by
          rw [hn]
          cases p with
          | fn q =>
            cases k with
            | detail =>
              have h2 := hb.2 rfl
              simp only [dpick]
              cases q with
              | declaration =>
                split
                · have hv : t.is [118, 97, 114] = false ∧ t.is [99, 111, 110, 115, 116] = false ∧ t.is [112, 114, 111, 99] = false := by
                    unfold Tv.is at h2 ⊢
                    simp only [Bool.or_eq_true, beq_iff_eq] at h2
                    rcases h2 with (e | e) | e <;> rw [e] <;> decide
                  simp [Dk.pick, hv.1, hv.2.1, hv.2.2]
                · rfl
              | bracket => rw [if_neg (by rw [show Dk.bracket.kd = Dk.detail.kd from rfl, hb.1]; decide)]
              | detail => rw [if_neg (by rw [hb.1]; decide)]
            | _ => cases h
          | row r =>
            cases r with
            | nil => rfl
            | cons x r =>
              cases x with
              | wd q ts =>
                have : Fl.takes t (.wd q ts) = false := bad_wd hb (by
                  cases k with
                  | declaration => cases h
                  | bracket => exact h
                  | detail => exact h)
                simp [dpick, Pk.pick, this]
              | _ => cases h
          | ex m => cases h
        refine thru ?_ ?_ rfl hK
        · simp only [dst, hp]; rfl
        · exact hn
      | again p =>
        have hp : dpick (nxt L d) p = none := by
          rw [hn]
          cases p with
          | fn q =>
            cases k with
            | detail =>
              have h2 := hb.2 rfl
              simp only [dpick]
              cases q with
              | declaration =>
                split
                · have hv : t.is [118, 97, 114] = false ∧ t.is [99, 111, 110, 115, 116] = false ∧ t.is [112, 114, 111, 99] = false := by
                    unfold Tv.is at h2 ⊢
                    simp only [Bool.or_eq_true, beq_iff_eq] at h2
                    rcases h2 with (e | e) | e <;> rw [e] <;> decide
                  simp [Dk.pick, hv.1, hv.2.1, hv.2.2]
                · rfl
              | bracket => rw [if_neg (by rw [show Dk.bracket.kd = Dk.detail.kd from rfl, hb.1]; decide)]
              | detail => rw [if_neg (by rw [hb.1]; decide)]
            | _ => cases h
          | row r =>
            cases r with
            | nil => rfl
            | cons x r =>
              cases x with
              | wd q ts =>
                have : Fl.takes t (.wd q ts) = false := bad_wd hb (by
                  cases k with
                  | detail => exact h
                  | _ => cases h)
                simp [dpick, Pk.pick, this]
              | _ => cases h
          | ex m => cases h
        refine thru ?_ ?_ rfl hK
        · simp only [dst, hp]; rfl
        · exact hn
      | all r => cases h

end Go.Proofs.Ytkigadnkclkopaa
