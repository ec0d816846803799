import Derived.Test.YtkigadnkclkopaaVa
set_option linter.unusedVariables false
set_option linter.unusedSimpArgs false
namespace Go.Proofs.Ytkigadnkclkopaa
open Go.RowKit

/-! The document's reader (no memory): the same items, but each choice looks at a token's kind too; behind an error nothing changes. -/
/-- Where it is; the nodes that the next token stands in, each with its number; the last number; the nodes of the last token; what is wrong; what was told; what is told behind each token. -/
structure D where
  i : Nat
  p : List (Int × Nat)
  s : Nat
  l : List (Int × Nat)
  e : Int
  v : List Ev
  N : Nat → List Ev
def nxt (L : List Tv) (d : D) : Option Tv := if d.e = 0 then L[d.i]? else none
def qn (L : List Tv) (d : D) (f : Tv → Bool) : Bool := (nxt L d).elim false f
def opD (n : Int) (d : D) : D := if d.e = 0 then { d with p := d.p ++ [(n, d.s + 1)], s := d.s + 1, v := d.v ++ [⟨1, n, tv0⟩] } else d
def clD (n : Int) (d : D) : D := if d.e = 0 then { d with p := d.p.dropLast, v := d.v ++ [⟨3, n, tv0⟩] } else d
def tkD (L : List Tv) (r : Bool) (d : D) : D :=
  if r then (if 1000 < d.p.length then { d with e := 122 } else { d with i := d.i + 1, l := if d.i + 1 = L.length then d.p else d.l, v := d.v ++ ⟨2, 0, L[d.i]?.getD tv0⟩ :: d.N d.i })
  else if d.e = 0 then (if d.i < L.length then { d with e := 120 } else { d with e := 121 }) else d
def wk (k : Int) (s : ByteArray) (t : Tv) : Bool := t.k == k && decide (t.t = s)
def Dk.kd : Dk → Int
  | .declaration => 2
  | _ => 6
def drow (o : Option Tv) : M → Gw
  | .kind => if o.elim false (wk 2 ⟨#[97, 114, 114, 97, 121]⟩) then .op 9 [.fl (.wd 2 [⟨#[97, 114, 114, 97, 121]⟩]), .fl (.wd 6 [⟨#[91]⟩]), .fl (.mt .expr), .fl (.wd 6 [⟨#[46, 46]⟩]), .fl (.mt .expr), .fl (.wd 6 [⟨#[93]⟩]), .fl (.wd 2 [⟨#[111, 102]⟩]), .fl (.mt .kind)]
    else if o.elim false (wk 2 ⟨#[114, 101, 99, 111, 114, 100]⟩) then .op 10 [.fl (.wd 2 [⟨#[114, 101, 99, 111, 114, 100]⟩]), .fl (.mt .member), .again (.row [.wd 6 [⟨#[59]⟩], .mt .member]), .fl (.wd 2 [⟨#[101, 110, 100]⟩])] else .op 8 [.fl .nm]
  | .statement => match o with
    | none => .ref
    | some t => if t.k == 1 then .op 14 [.fl (.mt .object), .once (.row [.wd 6 [⟨#[58, 61]⟩], .mt .expr])] else if t.k == 2 then wordedR t.t else .ref
  | .factor => match o with
    | none => .ref
    | some t => M.row t .factor
  | m => M.row tv0 m
def dpick (o : Option Tv) (p : Pk) : Option It :=
  match o with
  | none => none
  | some t => match p with
    | .fn d => if t.k == d.kd then (d.pick t).map (fun m => .fl (.mt m)) else none
    | p => Pk.pick t p
/-- One step: what comes in an item's place, and the state. -/
def dst (L : List Tv) : It → D → List It × D
  | .fl (.mt m), d => match drow (nxt L d) m with
    | .ref => ([], tkD L false d)
    | .ex r => (r, d)
    | .op nd r => (r ++ [.lv nd], opD nd d)
  | .fl x, d => ([], tkD L (qn L d (fun t => x.takes t)) d)
  | .lv n, d => ([], clD n d)
  | .once p, d => ((dpick (nxt L d) p).toList, d)
  | .again p, d => (agR p (dpick (nxt L d) p), d)
  | .all r, d => (r.map It.fl, d)
inductive Rch (L : List Tv) : List It → D → List It → D → Prop
  | refl {K : List It} {d : D} : Rch L K d K d
  | step {i : It} {K K' : List It} {d d' : D} : Rch L ((dst L i d).1 ++ K) (dst L i d).2 K' d' → Rch L (i :: K) d K' d'
theorem Rch.trans {L : List Tv} {K K1 K2 : List It} {d d1 d2 : D} (h : Rch L K d K1 d1) (h' : Rch L K1 d1 K2 d2) : Rch L K d K2 d2 := by
  induction h with
  | refl => exact h'
  | step _ ih => exact .step (ih h')
theorem Rch.under {L : List Tv} {K K1 : List It} {d d1 : D} (h : Rch L K d K1 d1) (X : List It) : Rch L (K ++ X) d (K1 ++ X) d1 := by
  induction h with
  | refl => exact .refl
  | step _ ih => exact .step (by rw [List.append_assoc] at ih; exact ih)
/-- It goes one way. -/
theorem Rch.det {L : List Tv} {K K1 : List It} {d d1 d2 : D} (h : Rch L K d K1 d1) (h' : Rch L K d [] d2) : Rch L K1 d1 [] d2 := by
  induction h with
  | refl => exact h'
  | step _ ih =>
    cases h' with
    | step h2 => exact ih h2
/-- An item goes from a state to a state. -/
def Ib (L : List Tv) (i : It) (d d' : D) : Prop := ∀ K, Rch L (i :: K) d K d'
/-- So does a row. -/
def Rb (L : List Tv) (r : List It) (d d' : D) : Prop := ∀ K, Rch L (r ++ K) d K d'
theorem rb_nil {L : List Tv} {d : D} : Rb L [] d d := fun K => .refl
theorem rb_cons {L : List Tv} {i : It} {r : List It} {d d1 d2 : D} (h : Ib L i d d1) (h' : Rb L r d1 d2) : Rb L (i :: r) d d2 := fun K => (h (r ++ K)).trans (h' K)
theorem ib_tk {L : List Tv} {d : D} {x : Fl} (hx : ∀ m, x ≠ .mt m) : Ib L (.fl x) d (tkD L (qn L d (fun t => x.takes t)) d) := fun K => by
  refine .step ?_
  cases x with
  | mt m => exact absurd rfl (hx m)
  | _ => exact .refl
theorem ib_lv {L : List Tv} {d : D} {n : Int} : Ib L (.lv n) d (clD n d) := fun K => .step .refl
theorem ib_op {L : List Tv} {d d' : D} {m : M} {nd : Int} {r : List It} (h : drow (nxt L d) m = .op nd r) (h' : Rb L (r ++ [.lv nd]) (opD nd d) d') : Ib L (.fl (.mt m)) d d' := fun K => by
  refine .step ?_
  have e : dst L (.fl (.mt m)) d = (r ++ [.lv nd], opD nd d) := by simp only [dst, h]
  rw [e]
  exact h' K
theorem ib_ex {L : List Tv} {d d' : D} {m : M} {r : List It} (h : drow (nxt L d) m = .ex r) (h' : Rb L r d d') : Ib L (.fl (.mt m)) d d' := fun K => by
  refine .step ?_
  have e : dst L (.fl (.mt m)) d = (r, d) := by simp only [dst, h]
  rw [e]
  exact h' K
theorem ib_ref {L : List Tv} {d : D} {m : M} (h : drow (nxt L d) m = .ref) : Ib L (.fl (.mt m)) d (tkD L false d) := fun K => by
  refine .step ?_
  have e : dst L (.fl (.mt m)) d = ([], tkD L false d) := by simp only [dst, h]
  rw [e]
  exact .refl
theorem ib_all {L : List Tv} {d d' : D} {r : List Fl} (h : Rb L (r.map It.fl) d d') : Ib L (.all r) d d' := fun K => .step (h K)
theorem ib_once0 {L : List Tv} {d : D} {p : Pk} (h : dpick (nxt L d) p = none) : Ib L (.once p) d d := fun K => by
  refine .step ?_
  simp only [dst, h]
  exact .refl
theorem ib_once1 {L : List Tv} {d d' : D} {p : Pk} {i : It} (h : dpick (nxt L d) p = some i) (h' : Ib L i d d') : Ib L (.once p) d d' := fun K => by
  refine .step ?_
  simp only [dst, h]
  exact h' K
theorem ib_again0 {L : List Tv} {d : D} {p : Pk} (h : dpick (nxt L d) p = none) : Ib L (.again p) d d := fun K => by
  refine .step ?_
  simp only [dst, h]
  exact .refl
theorem ib_again1 {L : List Tv} {d d1 d2 : D} {p : Pk} {i : It} (h : dpick (nxt L d) p = some i) (h' : Ib L i d d1) (h2 : Ib L (.again p) d1 d2) : Ib L (.again p) d d2 := fun K => by
  refine .step ?_
  simp only [dst, h]
  exact (h' (.again p :: K)).trans (h2 K)

/-- How far it is from the end: less with each token, nothing behind an error. -/
def ms (L : List Tv) (d : D) : Nat := if d.e = 0 then L.length - d.i + 1 else 0
theorem ms_op {L : List Tv} {d : D} {n : Int} : ms L (opD n d) = ms L d := by unfold opD; split <;> rfl
theorem ms_cl {L : List Tv} {d : D} {n : Int} : ms L (clD n d) = ms L d := by unfold clD; split <;> rfl
theorem qn_live {L : List Tv} {d : D} {f : Tv → Bool} (h : qn L d f = true) : d.e = 0 ∧ d.i < L.length := by
  unfold qn nxt at h
  split at h
  · rename_i he
    refine ⟨he, ?_⟩
    cases hl : L[d.i]? with
    | none => rw [hl] at h; cases h
    | some t => exact (List.getElem?_eq_some_iff.1 hl).1
  · cases h
theorem ms_tk {L : List Tv} {d : D} {f : Tv → Bool} {r : Bool} (h : r = qn L d f) : ms L (tkD L r d) ≤ ms L d ∧ (0 < ms L d → ms L (tkD L r d) < ms L d) := by
  cases hr : r with
  | true =>
    rw [hr] at h
    obtain ⟨he, hi⟩ := qn_live h.symm
    unfold tkD ms
    simp only [if_true]
    split
    · simp [he]
    · simp only [he, if_true]
      omega
  | false =>
    unfold tkD ms
    simp only [Bool.false_eq_true, if_false]
    by_cases he : d.e = 0
    · simp only [he, if_true]
      split <;> simp
    · simp [he]

end Go.Proofs.Ytkigadnkclkopaa
