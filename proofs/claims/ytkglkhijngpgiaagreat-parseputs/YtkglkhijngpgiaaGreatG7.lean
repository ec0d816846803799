import Derived.Test.YtkglkhijngpgiaaGreatG6
set_option linter.unusedVariables false
set_option linter.unusedSimpArgs false
namespace Go.Proofs.YtkglkhijngpgiaaGreat
open Go.RowKit

/-! What a run leaves of the nodes that are open (no memory). -/
theorem drow_ok (o : Option Tv) (m : M) : (drow o m).ok := by
  cases m with
  | kind =>
    simp only [drow]
    repeat' split
    all_goals simp [Rw.ok, wfs, It.wf, Pk.wf, rwf, lvs]
  | statement =>
    cases o with
    | none => trivial
    | some t =>
      simp only [drow]
      split
      · simp [Rw.ok, wfs, It.wf, Pk.wf, rwf, lvs]
      · split
        · exact wordedR_ok _
        · trivial
  | factor =>
    cases o with
    | none => trivial
    | some t => exact row_ok t .factor
  | _ => simp only [drow]; exact row_ok tv0 _
theorem drow_lvs {o : Option Tv} {m : M} : (∀ r, drow o m = .ex r → lvs r = []) ∧ (∀ nd r, drow o m = .op nd r → lvs r = []) := by
  have h := drow_ok o m
  constructor
  · intro r e; rw [e] at h; exact h.2.2
  · intro nd r e; rw [e] at h; exact h.2.2.1
theorem dpick_lvs {o : Option Tv} {p : Pk} {i : It} (h : dpick o p = some i) : lvs [i] = [] := by
  cases o with
  | none => cases h
  | some t =>
    cases p with
    | fn d =>
      simp only [dpick] at h
      split at h
      · simp only [Option.map_eq_some_iff] at h
        obtain ⟨m, _, rfl⟩ := h
        rfl
      · cases h
    | row r =>
      simp only [dpick, Pk.pick] at h
      split at h
      · cases h; rfl
      · cases h
    | ex m =>
      simp only [dpick, Pk.pick] at h
      split at h
      · cases h
      · cases h; rfl
theorem tkD_live {L : List Tv} {b : Bool} {d : D} (h : (tkD L b d).e = 0) : b = true ∧ d.e = 0 ∧ (tkD L b d).p = d.p ∧ d.p.length ≤ 1000 := by
  unfold tkD at h ⊢
  cases b with
  | true =>
    simp only [if_true] at h ⊢
    split at h
    · cases h
    · rename_i hd
      rw [if_neg hd]
      exact ⟨trivial, h, rfl, by omega⟩
  | false =>
    simp only [Bool.false_eq_true, if_false] at h
    split at h
    · split at h <;> cases h
    · rename_i he; exact absurd h he
theorem opD_live {n : Int} {d : D} : (opD n d).e = d.e := by unfold opD; split <;> rfl
theorem clD_live {d : D} : (clD d).e = d.e := by unfold clD; split <;> rfl
theorem dst_path {L : List Tv} {i : It} {d : D} (h : (dst L i d).2.e = 0) : d.e = 0 ∧ ∀ (K : List It) (base q : List (Int × Nat)), d.p = base ++ q → q.map (·.1) = (lvs (i :: K)).reverse → ∃ q', (dst L i d).2.p = base ++ q' ∧ q'.map (·.1) = (lvs ((dst L i d).1 ++ K)).reverse := by
  cases i with
  | fl x =>
    by_cases hx : ∃ m, x = .mt m
    · obtain ⟨m, rfl⟩ := hx
      obtain ⟨l1, l2⟩ := drow_lvs (o := nxt L d) (m := m)
      simp only [dst] at h ⊢
      cases hr : drow (nxt L d) m with
      | ref =>
        rw [hr] at h
        exact absurd (tkD_live h).1 (by decide)
      | ex r =>
        rw [hr] at h
        refine ⟨h, fun K base q e1 e2 => ⟨q, e1, ?_⟩⟩
        rw [lvs_app, l1 r hr]
        exact e2
      | op nd r =>
        rw [hr] at h
        simp only at h ⊢
        have he : d.e = 0 := by rw [← opD_live (n := nd)]; exact h
        refine ⟨he, fun K base q e1 e2 => ⟨q ++ [(nd, d.s + 1)], ?_, ?_⟩⟩
        · unfold opD
          rw [if_pos he]
          simp [e1]
        · rw [lvs_app, lvs_app, l2 nd r hr]
          simp only [lvs, List.map_append, e2]
          simp
    · have e : dst L (.fl x) d = ([], tkD L (qn L d (fun t => x.takes t)) d) := by
        cases x with
        | mt m => exact absurd ⟨m, rfl⟩ hx
        | _ => rfl
      rw [e] at h ⊢
      obtain ⟨_, he, hp, _⟩ := tkD_live h
      exact ⟨he, fun K base q e1 e2 => ⟨q, by rw [hp]; exact e1, e2⟩⟩
  | lv n =>
    simp only [dst] at h ⊢
    rw [clD_live] at h
    refine ⟨h, fun K base q e1 e2 => ⟨q.dropLast, ?_, ?_⟩⟩
    · unfold clD
      rw [if_pos h]
      have hq : q ≠ [] := by
        intro hq
        rw [hq] at e2
        simp [lvs] at e2
      show d.p.dropLast = _
      rw [e1, List.dropLast_append_of_ne_nil hq]
    · rw [List.map_dropLast, e2]
      simp [lvs]
  | once p =>
    simp only [dst] at h ⊢
    refine ⟨h, fun K base q e1 e2 => ⟨q, e1, ?_⟩⟩
    cases hp : dpick (nxt L d) p with
    | none => exact e2
    | some i =>
      show _ = (lvs ([i] ++ K)).reverse
      rw [lvs_app, dpick_lvs hp]
      exact e2
  | again p =>
    simp only [dst] at h ⊢
    refine ⟨h, fun K base q e1 e2 => ⟨q, e1, ?_⟩⟩
    cases hp : dpick (nxt L d) p with
    | none => exact e2
    | some i =>
      show _ = (lvs ([i] ++ (.again p :: K))).reverse
      rw [lvs_app, dpick_lvs hp]
      exact e2
  | all r =>
    simp only [dst] at h ⊢
    refine ⟨h, fun K base q e1 e2 => ⟨q, e1, ?_⟩⟩
    rw [lvs_app, lvs_fl]
    exact e2
theorem rch_path {L : List Tv} {K K' : List It} {d d' : D} (h : Rch L K d K' d') (hl : d'.e = 0) : d.e = 0 ∧ ∀ (base q : List (Int × Nat)), d.p = base ++ q → q.map (·.1) = (lvs K).reverse → ∃ q', d'.p = base ++ q' ∧ q'.map (·.1) = (lvs K').reverse := by
  induction h with
  | refl => exact ⟨hl, fun base q e1 e2 => ⟨q, e1, e2⟩⟩
  | step _ ih =>
    obtain ⟨h1, h2⟩ := ih hl
    obtain ⟨h3, h4⟩ := dst_path h1
    refine ⟨h3, fun base q e1 e2 => ?_⟩
    obtain ⟨q1, e3, e4⟩ := h4 _ base q e1 e2
    exact h2 base q1 e3 e4
theorem ib_path {L : List Tv} {i : It} {d d' : D} (hi : lvs [i] = []) (h : Ib L i d d') (hl : d'.e = 0) : d.e = 0 ∧ d'.p = d.p := by
  obtain ⟨h1, h2⟩ := rch_path (h []) hl
  obtain ⟨q, e1, e2⟩ := h2 d.p [] (by simp) (by rw [hi]; rfl)
  have : q = [] := by simpa [lvs] using e2
  exact ⟨h1, by rw [e1, this]; simp⟩
theorem pn_op {n : Int} {d : D} : Pn (opD n d) := by
  intro h
  unfold opD at h ⊢
  split
  · simp
  · rename_i he; rw [if_neg he] at h; exact absurd h he
theorem pn_tk {L : List Tv} {x : Fl} {d : D} (h : Pn d) : Pn (tkI L x d) := by
  intro he
  obtain ⟨_, h1, h2, _⟩ := tkD_live he
  show (tkD L (qn L d (fun t => x.takes t)) d).p ≠ []
  rw [h2]
  exact h h1
theorem pn_ib {L : List Tv} {i : It} {d d' : D} (h : Pn d) (hi : lvs [i] = []) (hb : Ib L i d d') : Pn d' := by
  intro he
  obtain ⟨h1, h2⟩ := ib_path hi hb he
  rw [h2]
  exact h h1
theorem dst_ms {L : List Tv} {i : It} {d : D} : ms L (dst L i d).2 ≤ ms L d := by
  have ref : ms L (tkD L false d) ≤ ms L d := by
    unfold tkD ms
    simp only [Bool.false_eq_true, if_false]
    by_cases he : d.e = 0
    · simp only [he, if_true]; split <;> simp
    · simp [he]
  cases i with
  | fl x =>
    by_cases hx : ∃ m, x = .mt m
    · obtain ⟨m, rfl⟩ := hx
      simp only [dst]
      cases drow (nxt L d) m with
      | ref => exact ref
      | ex r => exact Nat.le_refl _
      | op nd r => exact Nat.le_of_eq ms_op
    · have e : dst L (.fl x) d = ([], tkD L (qn L d (fun t => x.takes t)) d) := by
        cases x with
        | mt m => exact absurd ⟨m, rfl⟩ hx
        | _ => rfl
      rw [e]
      exact (ms_tk rfl).1
  | lv n => exact Nat.le_of_eq ms_cl
  | _ => exact Nat.le_refl _
theorem rch_ms {L : List Tv} {K K' : List It} {d d' : D} (h : Rch L K d K' d') : ms L d' ≤ ms L d := by
  induction h with
  | refl => exact Nat.le_refl _
  | step _ ih => exact Nat.le_trans ih dst_ms
theorem ms_ib {L : List Tv} {i : It} {d d' : D} (h : Ib L i d d') : ms L d' ≤ ms L d := rch_ms (h [])
theorem ms_tkI {L : List Tv} {x : Fl} {d : D} : ms L (tkI L x d) ≤ ms L d ∧ (0 < ms L d → ms L (tkI L x d) < ms L d) := ms_tk rfl
theorem ms_live {L : List Tv} {d : D} {f : Tv → Bool} (h : qn L d f = true) : 0 < ms L d := by
  unfold ms
  rw [if_pos (qn_live h).1]
  omega
/-- What is promised of a row's function. -/
def CT (m : M) (f b n : Nat) : Prop := ∀ (X : Rx) (r : Nat) (d : D) (W : World), RD X r d W → r ≤ b → ms X.L d ≤ n →
  Calls Tryz.prog f #[pt X.g] W fun e w' => e = .returned (.tuple #[]) ∧ ∃ d', RD X 0 d' w' ∧ Ib X.L (.fl (.mt m)) d d'
/-- Behind a token. -/
def CB (m : M) (f b n : Nat) : Prop := ∀ k, k < n ∨ k = 0 → CT m f b k
/-- Behind a token that stood there. -/
def CA (m : M) (f b n : Nat) : Prop := ∀ k, k < n → CT m f b k
theorem ib_w {L : List Tv} {d : D} {k : Int} {ts : List ByteArray} : Ib L (.fl (.wd k ts)) d (tkI L (.wd k ts) d) := ib_tk ne_wd
theorem ib_n {L : List Tv} {d : D} : Ib L (.fl .nm) d (tkI L .nm d) := ib_tk ne_nm
theorem ib_c {L : List Tv} {d : D} : Ib L (.fl .cs) d (tkI L .cs d) := ib_tk ne_cs
theorem pick_row1 {L : List Tv} {d : D} {x : Fl} {r : List Fl} (h : qn L d (fun t => Fl.takes t x) = true) : dpick (nxt L d) (.row (x :: r)) = some (.all (x :: r)) := by
  unfold qn at h
  cases hn : nxt L d with
  | none => rw [hn] at h; cases h
  | some t =>
    rw [hn] at h
    simp only [Option.elim] at h
    simp [dpick, Pk.pick, h]
theorem pick_row0 {L : List Tv} {d : D} {x : Fl} {r : List Fl} (h : qn L d (fun t => Fl.takes t x) = false) : dpick (nxt L d) (.row (x :: r)) = none := by
  unfold qn at h
  cases hn : nxt L d with
  | none => rfl
  | some t =>
    rw [hn] at h
    simp only [Option.elim] at h
    simp [dpick, Pk.pick, h]
/-- A loop goes on. -/
structure Lp (L : List Tv) (p : Pk) (d0 d : D) : Prop where
  go : ∀ d2, Ib L (.again p) d d2 → Ib L (.again p) d0 d2
  le : ms L d ≤ ms L d0
  pn : Pn d0 → Pn d
theorem Lp.refl {L : List Tv} {p : Pk} {d : D} : Lp L p d d := ⟨fun _ h => h, Nat.le_refl _, fun h => h⟩
theorem Lp.step {L : List Tv} {p : Pk} {d0 d d1 : D} {i : It} (h : Lp L p d0 d) (hp : dpick (nxt L d) p = some i) (hi : Ib L i d d1) : Lp L p d0 d1 :=
  ⟨fun d2 h2 => h.go d2 (ib_again1 hp hi h2), Nat.le_trans (ms_ib hi) h.le, fun hn => pn_ib (h.pn hn) (dpick_lvs hp) hi⟩
theorem Lp.fin {L : List Tv} {p : Pk} {d0 d : D} (h : Lp L p d0 d) (hp : dpick (nxt L d) p = none) : Ib L (.again p) d0 d := h.go d (ib_again0 hp)
/-- How far from the end, out of memory. -/
def mW (X : Rx) (W : World) : Nat := match W.cell? ⟨X.g, 1, none⟩, W.cell? ⟨X.g, 7, none⟩ with
  | some (.int _ i), some (.int _ e) => if e = 0 then X.L.length - i.toNat + 1 else 0
  | _, _ => 0
theorem mW_is {X : Rx} {r : Nat} {d : D} {W : World} (h : RD X r d W) : mW X W = ms X.L d := by
  obtain ⟨vp, vq, vl, v⟩ := h.rv
  obtain ⟨c0, c1, c2, c3, c4, c5, c6, c7⟩ := v.rb.cells
  unfold mW ms
  rw [c1, c7]
  simp
theorem take_true {X : Rx} {r : Nat} {d : D} {W : World} (h : RD X r d W) (hr : r ≤ 100) {x : Fl} (hq : qn X.L d (fun t => Fl.takes t x) = true) :
    Calls Tryz.prog 56 #[pt X.g, .bool true] W fun e w' => e = .returned (.tuple #[]) ∧ RD X 0 (tkI X.L x d) w' := by
  have := take_any h hr hq.symm
  unfold tkI
  rw [hq]
  exact this
theorem qn_wd {L : List Tv} {d : D} {k : Int} {s : ByteArray} {b : Bool} (h : qn L d (wk k s) = b) : qn L d (fun t => Fl.takes t (.wd k [s])) = b := by rw [takes_wd]; exact h
theorem qn_wd2 {L : List Tv} {d : D} {k : Int} {s1 s2 : ByteArray} {b1 b2 : Bool} (h1 : qn L d (wk k s1) = b1) (h2 : qn L d (wk k s2) = b2) : qn L d (fun t => Fl.takes t (.wd k [s1, s2])) = (b1 || b2) := by
  rw [← h1, ← h2, qn_or]
  congr 1
  funext t
  simp only [Fl.takes, wk, has, List.any_cons, List.any_nil, Bool.or_false]
  cases t.k == k <;> simp
theorem qn_wd3 {L : List Tv} {d : D} {k : Int} {s1 s2 s3 : ByteArray} {b1 b2 b3 : Bool} (h1 : qn L d (wk k s1) = b1) (h2 : qn L d (wk k s2) = b2) (h3 : qn L d (wk k s3) = b3) : qn L d (fun t => Fl.takes t (.wd k [s1, s2, s3])) = (b1 || b2 || b3) := by
  rw [← h1, ← h2, ← h3, qn_or, qn_or]
  congr 1
  funext t
  simp only [Fl.takes, wk, has, List.any_cons, List.any_nil, Bool.or_false]
  cases t.k == k <;> simp [Bool.or_assoc]

end Go.Proofs.YtkglkhijngpgiaaGreat

set_option linter.unusedVariables false
set_option linter.unusedSimpArgs false
namespace Go.Proofs.YtkglkhijngpgiaaGreat
open Go.RowKit

/-! Which way a row goes, by what was looked at (no memory). -/
theorem wk_lit {k : Int} {bs : Array UInt8} (l : List UInt8) (h : (ByteArray.mk bs).toList = l) (t : Tv) : wk k ⟨bs⟩ t = (t.k == k && t.is l) := by rw [wk_is, h]; rfl
theorem l_var : (ByteArray.mk #[118, 97, 114]).toList = [118, 97, 114] := by decide +kernel
theorem l_const : (ByteArray.mk #[99, 111, 110, 115, 116]).toList = [99, 111, 110, 115, 116] := by decide +kernel
theorem l_proc : (ByteArray.mk #[112, 114, 111, 99]).toList = [112, 114, 111, 99] := by decide +kernel
theorem l_lb : (ByteArray.mk #[91]).toList = [91] := by decide +kernel
theorem l_dot : (ByteArray.mk #[46]).toList = [46] := by decide +kernel
theorem l_lp : (ByteArray.mk #[40]).toList = [40] := by decide +kernel
theorem l_minus : (ByteArray.mk #[45]).toList = [45] := by decide +kernel
theorem l_not : (ByteArray.mk #[110, 111, 116]).toList = [110, 111, 116] := by decide +kernel
theorem pick_decl {L : List Tv} {d : D} {b1 b2 b3 : Bool} (h1 : qn L d (wk 2 ⟨#[118, 97, 114]⟩) = b1) (h2 : qn L d (wk 2 ⟨#[99, 111, 110, 115, 116]⟩) = b2) (h3 : qn L d (wk 2 ⟨#[112, 114, 111, 99]⟩) = b3) :
    dpick (nxt L d) (.fn .declaration) = if b1 then some (.fl (.mt .variables)) else if b2 then some (.fl (.mt .constants)) else if b3 then some (.fl (.mt .procedure)) else none := by
  rw [← h1, ← h2, ← h3]
  unfold qn
  cases nxt L d with
  | none => rfl
  | some t =>
    simp only [Option.elim, wk_lit _ l_var, wk_lit _ l_const, wk_lit _ l_proc, dpick, Dk.kd, Dk.pick]
    generalize t.is [118, 97, 114] = x1
    generalize t.is [99, 111, 110, 115, 116] = x2
    generalize t.is [112, 114, 111, 99] = x3
    rcases Bool.eq_false_or_eq_true (t.k == 2) with h0 | h0 <;> simp only [h0, Bool.true_and, Bool.false_and, if_true, Bool.false_eq_true, if_false, Bool.not_true, Bool.not_false]
    cases x1 <;> cases x2 <;> cases x3 <;> rfl
theorem pick_det {L : List Tv} {d : D} {b1 b2 b3 : Bool} (h1 : qn L d (wk 6 ⟨#[91]⟩) = b1) (h2 : qn L d (wk 6 ⟨#[46]⟩) = b2) (h3 : qn L d (wk 6 ⟨#[40]⟩) = b3) :
    dpick (nxt L d) (.fn .detail) = if b1 then some (.fl (.mt .index)) else if b2 then some (.fl (.mt .selection)) else if b3 then some (.fl (.mt .args)) else none := by
  rw [← h1, ← h2, ← h3]
  unfold qn
  cases nxt L d with
  | none => rfl
  | some t =>
    simp only [Option.elim, wk_lit _ l_lb, wk_lit _ l_dot, wk_lit _ l_lp, dpick, Dk.kd, Dk.pick]
    generalize t.is [91] = x1
    generalize t.is [46] = x2
    generalize t.is [40] = x3
    rcases Bool.eq_false_or_eq_true (t.k == 6) with h0 | h0 <;> simp only [h0, Bool.true_and, Bool.false_and, if_true, Bool.false_eq_true, if_false, Bool.not_true, Bool.not_false]
    cases x1 <;> cases x2 <;> cases x3 <;> rfl
theorem pick_br {L : List Tv} {d : D} {b1 : Bool} (h1 : qn L d (wk 6 ⟨#[40]⟩) = b1) : dpick (nxt L d) (.fn .bracket) = if b1 then some (.fl (.mt .params)) else none := by
  rw [← h1]
  unfold qn
  cases nxt L d with
  | none => rfl
  | some t =>
    simp only [Option.elim, wk_lit _ l_lp, dpick, Dk.kd, Dk.pick]
    generalize t.is [40] = x1
    rcases Bool.eq_false_or_eq_true (t.k == 6) with h0 | h0 <;> simp only [h0, Bool.true_and, Bool.false_and, if_true, Bool.false_eq_true, if_false, Bool.not_true, Bool.not_false]
    cases x1 <;> rfl
theorem pick_beg {L : List Tv} {d : D} {b : Bool} {m : M} (h : qn L d tBeg = b) : dpick (nxt L d) (.ex m) = if b then some (.fl (.mt m)) else none := by
  rw [← h]
  unfold qn
  cases nxt L d with
  | none => rfl
  | some t =>
    simp only [Option.elim, dpick, Pk.pick, tBeg]
    rcases Bool.eq_false_or_eq_true (facN t == 0) with h0 | h0 <;> simp only [h0, Bool.true_and, Bool.false_and, if_true, Bool.false_eq_true, if_false, Bool.not_true, Bool.not_false]
theorem drow_kind {L : List Tv} {d : D} {b1 b2 : Bool} (h1 : qn L d (wk 2 ⟨#[97, 114, 114, 97, 121]⟩) = b1) (h2 : qn L d (wk 2 ⟨#[114, 101, 99, 111, 114, 100]⟩) = b2) :
    drow (nxt L d) .kind = if b1 then .op 9 [.fl (.wd 2 [⟨#[97, 114, 114, 97, 121]⟩]), .fl (.wd 6 [⟨#[91]⟩]), .fl (.mt .expr), .fl (.wd 6 [⟨#[46, 46]⟩]), .fl (.mt .expr), .fl (.wd 6 [⟨#[93]⟩]), .fl (.wd 2 [⟨#[111, 102]⟩]), .fl (.mt .kind)]
      else if b2 then .op 10 [.fl (.wd 2 [⟨#[114, 101, 99, 111, 114, 100]⟩]), .fl (.mt .member), .again (.row [.wd 6 [⟨#[59]⟩], .mt .member]), .fl (.wd 2 [⟨#[101, 110, 100]⟩])] else .op 8 [.fl .nm] := by
  rw [← h1, ← h2]
  rfl
theorem drow_fac {L : List Tv} {d : D} {b1 b2 b3 b4 b5 : Bool} (h1 : qn L d (wk 6 ⟨#[45]⟩) = b1) (h2 : qn L d (wk 2 ⟨#[110, 111, 116]⟩) = b2) (h3 : qn L d (wk 6 ⟨#[40]⟩) = b3) (h4 : qn L d (fun t => Fl.takes t .cs) = b4) (h5 : qn L d (kd 1) = b5) :
    drow (nxt L d) .factor = if b1 then .op 25 [.fl (.wd 6 [⟨#[45]⟩]), .fl (.mt .factor)] else if b2 then .op 26 [.fl (.wd 2 [⟨#[110, 111, 116]⟩]), .fl (.mt .factor)] else if b3 then .op 27 [.fl (.wd 6 [⟨#[40]⟩]), .fl (.mt .expr), .fl (.wd 6 [⟨#[41]⟩])] else if b4 then .op 32 [.fl .cs] else if b5 then .ex [.fl (.mt .object)] else .ref := by
  subst h1 h2 h3 h4 h5
  unfold qn
  cases nxt L d with
  | none => rfl
  | some t =>
    simp only [Option.elim, wk_lit _ l_minus, wk_lit _ l_not, wk_lit _ l_lp, drow, M.row, facN, Fl.takes, kd]
    rcases Bool.eq_false_or_eq_true (t.k == 6 && t.is [45]) with h1 | h1 <;> rcases Bool.eq_false_or_eq_true (t.k == 2 && t.is [110, 111, 116]) with h2 | h2 <;> rcases Bool.eq_false_or_eq_true (t.k == 6 && t.is [40]) with h3 | h3 <;> rcases Bool.eq_false_or_eq_true (t.k == 3 || t.k == 4 || t.k == 5) with h4 | h4 <;> rcases Bool.eq_false_or_eq_true (t.k == 1) with h5 | h5 <;> simp only [h1, h2, h3, h4, h5, if_true, Bool.false_eq_true, if_false] <;> rfl
theorem drow_act {L : List Tv} {d : D} (h1 : qn L d (kd 1) = true) : drow (nxt L d) .statement = .op 14 [.fl (.mt .object), .once (.row [.wd 6 [⟨#[58, 61]⟩], .mt .expr])] := by
  unfold qn at h1
  cases hn : nxt L d with
  | none => rw [hn] at h1; cases h1
  | some t =>
    rw [hn] at h1
    simp only [Option.elim, kd] at h1
    simp only [drow, h1, if_true]
theorem drow_key {L : List Tv} {d : D} (h1 : qn L d (kd 1) = false) (h2 : qn L d (kd 2) = false) : drow (nxt L d) .statement = .ref := by
  unfold qn at h1 h2
  cases hn : nxt L d with
  | none => rfl
  | some t =>
    rw [hn] at h1 h2
    simp only [Option.elim, kd] at h1 h2
    simp only [drow, h1, h2, Bool.false_eq_true, if_false]
theorem drow_word {L : List Tv} {d : D} {t : Tv} (hn : nxt L d = some t) (h1 : qn L d (kd 1) = false) (h2 : qn L d (kd 2) = true) : drow (nxt L d) .statement = wordedR t.t := by
  unfold qn at h1 h2
  rw [hn] at h1 h2 ⊢
  simp only [Option.elim, kd] at h1 h2
  simp only [drow, h1, h2, Bool.false_eq_true, if_false, if_true]

theorem qn_op {L : List Tv} {n : Int} {d : D} {f : Tv → Bool} : qn L (opD n d) f = qn L d f := by
  unfold qn nxt opD
  split <;> rfl
theorem qn_ne {L : List Tv} {d : D} {k : Int} {s1 s2 : ByteArray} (hs : s1 ≠ s2) (h : qn L d (wk k s1) = true) : qn L d (wk k s2) = false := by
  unfold qn at h ⊢
  cases hn : nxt L d with
  | none => rfl
  | some t =>
    rw [hn] at h
    simp only [Option.elim, wk, Bool.and_eq_true, decide_eq_true_eq] at h ⊢
    simp [h.2, hs]
theorem array_no {L : List Tv} {d : D} (h : qn L d (wk 2 ⟨#[114, 101, 99, 111, 114, 100]⟩) = true) : qn L d (wk 2 ⟨#[97, 114, 114, 97, 121]⟩) = false := qn_ne (by decide) h
theorem ib_less {L : List Tv} {d d' : D} {m : M} {nd : Int} {x : Fl} {r : List It} (h : drow (nxt L d) m = .op nd (.fl x :: r)) (hx : ∀ m, x ≠ .mt m) (hi : Ib L (.fl (.mt m)) d d') (hd : 0 < ms L d) : ms L d' < ms L d := by
  have h1 : Rch L [.fl (.mt m)] d (r ++ [.lv nd]) (tkI L x (opD nd d)) := by
    refine .step ?_
    simp only [dst, h]
    have := ib_tk (L := L) (d := opD nd d) hx (r ++ [.lv nd])
    simpa [tkI] using this
  have h2 := rch_ms (h1.det (hi []))
  have h3 := ms_tkI (L := L) (x := x) (d := opD nd d)
  have h4 : ms L (opD nd d) = ms L d := ms_op
  omega
/-- A loop whose round begins with a part. -/
structure Lq (L : List Tv) (x : It) (p : Pk) (d0 d : D) : Prop where
  go : ∀ d3, Rb L [x, .again p] d d3 → Rb L [x, .again p] d0 d3
  le : ms L d ≤ ms L d0
  pn : Pn d0 → Pn d
theorem Lq.refl {L : List Tv} {x : It} {p : Pk} {d : D} : Lq L x p d d := ⟨fun _ h => h, Nat.le_refl _, fun h => h⟩
theorem Lq.step {L : List Tv} {m : M} {k : Int} {ts : List ByteArray} {d0 d d2 : D} (h : Lq L (.fl (.mt m)) (.row [.wd k ts, .mt m]) d0 d) (hx : Ib L (.fl (.mt m)) d d2) (hp : dpick (nxt L d2) (.row [.wd k ts, .mt m]) = some (.all [.wd k ts, .mt m])) : Lq L (.fl (.mt m)) (.row [.wd k ts, .mt m]) d0 (tkI L (.wd k ts) d2) := by
  refine ⟨fun d3 h3 => h.go d3 (fun K => ?_), Nat.le_trans (Nat.le_trans ms_tkI.1 (ms_ib hx)) h.le, fun hn => pn_tk (pn_ib (h.pn hn) rfl hx)⟩
  refine (hx _).trans ?_
  refine .step ?_
  simp only [dst, hp, agR]
  refine .step ?_
  simp only [dst]
  exact (ib_w _).trans (h3 K)
theorem Lq.fin {L : List Tv} {m : M} {p : Pk} {d0 d d2 : D} (h : Lq L (.fl (.mt m)) p d0 d) (hx : Ib L (.fl (.mt m)) d d2) (hp : dpick (nxt L d2) p = none) : Rb L [.fl (.mt m), .again p] d0 d2 := h.go d2 (rb_cons hx (rb_cons (ib_again0 hp) rb_nil))
theorem rb_app {L : List Tv} {a b : List It} {d d1 d2 : D} (h : Rb L a d d1) (h' : Rb L b d1 d2) : Rb L (a ++ b) d d2 := fun K => by
  rw [List.append_assoc]
  exact (h (b ++ K)).trans (h' K)

end Go.Proofs.YtkglkhijngpgiaaGreat
