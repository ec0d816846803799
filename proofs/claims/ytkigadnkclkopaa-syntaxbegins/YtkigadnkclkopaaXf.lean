import Derived.Test.YtkigadnkclkopaaXe
import Derived.Test.YtkigadnkclkopaaYg
set_option linter.unusedVariables false
set_option linter.unusedSimpArgs false
namespace Go.Proofs.Ytkigadnkclkopaa
open Go.RowKit

/-! What the reader tells, by the parser's states (no memory). -/
def d00 (N : Nat → List Ev) : D := ⟨0, [], 0, [], 0, [], N⟩
theorem d1_is (N : Nat → List Ev) : opD 1 (d00 N) = ⟨0, [(1, 1)], 1, [], 0, [⟨1, 1, tv0⟩], N⟩ := rfl
theorem dst_dead {L : List Tv} {i : It} {d : D} (h : d.e ≠ 0) : (dst L i d).2 = d := by
  have hn : nxt L d = none := by unfold nxt; rw [if_neg h]
  have hq : ∀ f, qn L d f = false := fun f => by unfold qn; rw [hn]; rfl
  have ht : tkD L false d = d := by simp [tkD, h]
  cases i with
  | fl x =>
    cases x with
    | mt m =>
      simp only [dst]
      cases drow (nxt L d) m with
      | ref => exact ht
      | ex r => rfl
      | op nd r => exact opD_dead h
    | _ => simp only [dst, hq]; exact ht
  | lv n => exact clD_dead h
  | _ => rfl
theorem rch_dead {L : List Tv} {K K' : List It} {d d' : D} (h : Rch L K d K' d') (he : d.e ≠ 0) : d' = d := by
  induction h with
  | refl => rfl
  | step _ ih =>
    rename_i i K K' d d' _
    have := dst_dead (L := L) (i := i) he
    rw [this] at ih
    exact ih he
theorem dst_end {L : List Tv} {i : It} {d : D} (he : d.e = 0) (hn : nxt L d = none) : (dst L i d).2.l = d.l ∧ (dst L i d).2.i = d.i ∧ (((dst L i d).2.e = 0 ∧ nxt L (dst L i d).2 = none) ∨ (dst L i d).2.e = 121) := by
  have hi : ¬ d.i < L.length := by
    intro h
    unfold nxt at hn
    rw [if_pos he, List.getElem?_eq_getElem h] at hn
    cases hn
  have hq : ∀ f, qn L d f = false := fun f => by unfold qn; rw [hn]; rfl
  have ht : tkD L false d = { d with e := 121 } := by simp [tkD, he, hi]
  cases i with
  | fl x =>
    cases x with
    | mt m =>
      simp only [dst]
      cases drow (nxt L d) m with
      | ref => simp only [ht]; exact ⟨trivial, trivial, .inr trivial⟩
      | ex r => exact ⟨rfl, rfl, .inl ⟨he, hn⟩⟩
      | op nd r =>
        simp only
        rw [opD_put he]
        exact ⟨rfl, rfl, .inl ⟨he, hn⟩⟩
    | _ => simp only [dst, hq, ht]; exact ⟨trivial, trivial, .inr trivial⟩
  | lv n =>
    simp only [dst]
    rw [clD_put (n := n) he]
    exact ⟨rfl, rfl, .inl ⟨he, hn⟩⟩
  | _ => exact ⟨rfl, rfl, .inl ⟨he, hn⟩⟩
theorem rch_end {L : List Tv} {K K' : List It} {d d' : D} (h : Rch L K d K' d') (he : d.e = 0) (hn : nxt L d = none) : d'.l = d.l ∧ d'.i = d.i ∧ (d'.e = 0 ∨ d'.e = 121) := by
  induction h with
  | refl => exact ⟨rfl, rfl, .inl he⟩
  | step hr ih =>
    rename_i i K K' d d'
    obtain ⟨a, b, c⟩ := dst_end (i := i) he hn
    rcases c with ⟨c1, c2⟩ | c
    · obtain ⟨x, y, z⟩ := ih c1 c2
      exact ⟨x.trans a, y.trans b, z⟩
    · have := rch_dead hr (by rw [c]; decide)
      rw [this]
      exact ⟨a, b, .inr c⟩
theorem rch_wants {L : List Tv} {x : Fl} (hx : ∀ m, x ≠ .mt m) {K K' : List It} {d d' : D} (h : Rch L K d K' d') : K' = [] → ∀ (X Y : List It), K = X ++ .fl x :: Y → d.e = 0 → nxt L d = none → d'.e ≠ 0 := by
  induction h with
  | refl => intro e X Y e2; rw [e] at e2; cases X <;> cases e2
  | step hr ih =>
    rename_i i K K' d d'
    intro e X Y e2 he hn
    obtain ⟨a, b, c⟩ := dst_end (i := i) he hn
    rcases c with ⟨c1, c2⟩ | c
    · cases X with
      | nil =>
        simp at e2
        obtain ⟨rfl, rfl⟩ := e2
        exfalso
        have e3 : dst L (.fl x) d = ([], tkD L (qn L d (fun t => x.takes t)) d) := by
          cases x with
          | mt m => exact absurd rfl (hx m)
          | _ => rfl
        rw [e3] at c1
        have hq : qn L d (fun t => x.takes t) = false := by unfold qn; rw [hn]; rfl
        rw [hq] at c1
        exact absurd (tkD_live c1).1 (by decide)
      | cons j X =>
        simp at e2
        obtain ⟨rfl, rfl⟩ := e2
        exact ih e ((dst L i d).1 ++ X) Y (by simp) c1 c2
    · have := rch_dead hr (by rw [c]; decide)
      rw [this, c]
      decide
/-- The reader stands where the parser stands. -/
def DocAt (N : Nat → List Ev) (T : List Tv) (K : List It) (p : List (Int × Nat)) (s : Nat) (v : List Ev) : Prop := ∀ R, ∃ lst, Rch (T ++ R) (progR ++ [.lv 1]) (opD 1 (d00 N)) K ⟨T.length, p, s, lst, 0, v, N⟩
theorem docAt_nil (N : Nat → List Ev) : DocAt N [] (progR ++ [.lv 1]) [(1, 1)] 1 [⟨1, 1, tv0⟩] := fun R => ⟨[], .refl⟩
section
variable {N : Nat → List Ev} {T R : List Tv} {K : List It} {p : List (Int × Nat)} {s : Nat} {l : List (Int × Nat)} {v : List Ev} {t : Tv} {dz : D}
theorem nxt_at : nxt (T ++ t :: R) ⟨T.length, p, s, l, 0, v, N⟩ = some t := by simp [nxt]
theorem nxt_end : nxt (T ++ []) ⟨T.length, p, s, l, 0, v, N⟩ = none := by simp [nxt]
theorem docAt_path (h : DocAt N T K p s v) : p.map (·.1) = (lvs K).reverse := by
  obtain ⟨l, h1⟩ := h []
  obtain ⟨_, h2⟩ := rch_path h1 rfl
  obtain ⟨q, e1, e2⟩ := h2 [] [(1, 1)] rfl rfl
  simp at e1
  rw [e1]
  exact e2
theorem res_to {L : List Tv} (h : Rb L progR (opD 1 (d00 N)) dz) {K : List It} {d : D} (h' : Rch L (progR ++ [.lv 1]) (opD 1 (d00 N)) K d) : Rch L K d [] (clD 1 dz) := h'.det ((h [.lv 1]).trans (.step .refl))
theorem clD_same {n : Int} {d : D} : (clD n d).e = d.e ∧ (clD n d).i = d.i ∧ (clD n d).l = d.l := by unfold clD; split <;> exact ⟨rfl, rfl, rfl⟩
theorem res_no (h : DocAt N T K p s v) (hw : nw K = true) {k : Nat} {n : Int} {E : List Ev} (hr : Ru t k K n E .no) (hb : Rb (T ++ t :: R) progR (opD 1 (d00 N)) dz) : dz.i = T.length ∧ (dz.e = 120 ∨ dz.e = 0) := by
  obtain ⟨lst, h1⟩ := h (t :: R)
  obtain ⟨K', d2, h2, hi, h3⟩ := (sim (L := T ++ t :: R) hr _ nxt_at hw).2 rfl
  have h4 := res_to hb (h1.trans h2)
  obtain ⟨c1, c2, c3⟩ := clD_same (n := 1) (d := dz)
  rcases h3 with h3 | ⟨rfl, h5⟩
  · have h7 := rch_dead h4 (by rw [h3]; decide)
    exact ⟨by rw [← c2, h7, hi], .inl (by rw [← c1, h7, h3])⟩
  · cases h4
    exact ⟨by rw [← c2, hi], .inr (by rw [← c1]; exact h5)⟩
theorem take_is {x : Fl} (hx : x.takes t = true) : tkI (T ++ t :: R) x ⟨T.length, p, s, l, 0, v, N⟩ = if 1000 < p.length then ⟨T.length, p, s, l, 122, v, N⟩ else ⟨T.length + 1, p, s, if R = [] then p else l, 0, v ++ ⟨2, 0, t⟩ :: N T.length, N⟩ := by
  have hq : qn (T ++ t :: R) ⟨T.length, p, s, l, 0, v, N⟩ (fun t => x.takes t) = true := by unfold qn; rw [nxt_at]; exact hx
  unfold tkI tkD
  rw [hq]
  simp only [if_true]
  split
  · rfl
  · have : (T.length + 1 = (T ++ t :: R).length) ↔ R = [] := by
      rw [List.length_append, List.length_cons]
      constructor
      · intro h
        exact List.eq_nil_of_length_eq_zero (by omega)
      · intro h
        rw [h]
        simp
    have e2 : (T ++ t :: R)[T.length]?.getD tv0 = t := by simp
    simp only [this, e2]
theorem docAt_on (h : DocAt N T K p s v) (hw : nw K = true) {k : Nat} {n m : Int} {E o : List Ev} {K2 : List It} (hr : Ru t k K n E (.yes K2 m (E ++ o))) :
    nw K2 = true ∧ (pev o (p, s)).1.map (·.1) = (lvs K2).reverse ∧ ((pev o (p, s)).1.length ≤ 1000 → DocAt N (T ++ [t]) K2 (pev o (p, s)).1 (pev o (p, s)).2 (v ++ o ++ ⟨2, 0, t⟩ :: N T.length)) ∧ (1000 < (pev o (p, s)).1.length → ∀ R dz, Rb (T ++ t :: R) progR (opD 1 (d00 N)) dz → dz.e = 122 ∧ dz.i = T.length) := by
  have go : ∀ R, ∃ x lst, Rch (T ++ t :: R) (progR ++ [.lv 1]) (opD 1 (d00 N)) (.fl x :: K2) ⟨T.length, (pev o (p, s)).1, (pev o (p, s)).2, lst, 0, v ++ o, N⟩ ∧ (∀ m, x ≠ Fl.mt m) ∧ x.takes t = true := by
    intro R
    obtain ⟨lst, h1⟩ := h (t :: R)
    obtain ⟨_, x, o', e1, hx, hx2, h2⟩ := (sim (L := T ++ t :: R) hr _ nxt_at hw).1 _ _ _ rfl
    have e2 : o' = o := List.append_cancel_left e1.symm
    subst e2
    exact ⟨x, lst, h1.trans h2, hx, hx2⟩
  refine ⟨?_, ?_, ?_, ?_⟩
  · exact ((sim (L := T ++ [t]) hr ⟨T.length, p, s, [], 0, v, N⟩ nxt_at hw).1 _ _ _ rfl).1
  · obtain ⟨x, lst, h2, hx, _⟩ := go []
    obtain ⟨_, h3⟩ := rch_path h2 rfl
    obtain ⟨q, e1, e2⟩ := h3 [] [(1, 1)] rfl rfl
    simp at e1
    rw [e1]
    exact e2
  · intro hle R
    obtain ⟨x, lst, h2, hx, hx2⟩ := go R
    have h3 := h2.trans (ib_tk hx K2)
    have h4 := take_is (N := N) (T := T) (R := R) (v := v ++ o) hx2 (p := (pev o (p, s)).1) (s := (pev o (p, s)).2) (l := lst)
    rw [if_neg (by omega)] at h4
    unfold tkI at h4
    rw [h4] at h3
    refine ⟨if R = [] then (pev o (p, s)).1 else lst, ?_⟩
    rw [List.append_assoc T, List.length_append]
    exact h3
  · intro hgt R dz hb
    obtain ⟨x, lst, h2, hx, hx2⟩ := go R
    have h3 := h2.trans (ib_tk hx K2)
    have h4 := take_is (N := N) (T := T) (R := R) (v := v ++ o) hx2 (p := (pev o (p, s)).1) (s := (pev o (p, s)).2) (l := lst)
    rw [if_pos hgt] at h4
    unfold tkI at h4
    rw [h4] at h3
    have h5 := rch_dead (res_to hb h3) (by show (122 : Int) ≠ 0; decide)
    obtain ⟨c1, c2, c3⟩ := clD_same (n := 1) (d := dz)
    exact ⟨by rw [← c1, h5], by rw [← c2, h5]⟩
theorem rch_nil {L : List Tv} {d d' : D} (h : Rch L [] d [] d') : d' = d := by cases h; rfl
/-- At the bottom: the program's point, or it was taken. -/
def Bo2 (K : List It) : Prop := K = [.lv 1] ∨ ∃ X, K = X ++ [.fl (.wd 6 [⟨#[46]⟩]), .lv 1]
theorem bo2_prog : Bo2 (progR ++ [.lv 1]) := .inr ⟨[.fl (.wd 2 [⟨#[112, 114, 111, 103, 114, 97, 109]⟩]), .fl (.nm), .fl (.wd 6 [⟨#[59]⟩]), .fl (.mt .block)], rfl⟩
theorem ru_bo2 {t : Tv} {k : Nat} {K : List It} {n : Int} {E : List Ev} {R : Ro} (h : Ru t k K n E R) : ∀ {L : List It} {m : Int} {F : List Ev}, R = .yes L m F → Bo2 K → Bo2 L := by
  induction h with
  | nil => intro L m F h; cases h
  | ref _ => intro L m F h; cases h
  | tk hs =>
    rename_i i K n E
    intro L m F h hb
    cases h
    rcases hb with hb | ⟨X, hX⟩
    · simp at hb; obtain ⟨rfl, rfl⟩ := hb; cases hs
    · cases X with
      | nil => simp at hX; exact .inl hX.2
      | cons j X => simp at hX; exact .inr ⟨X, hX.2⟩
  | go hs hr ih =>
    rename_i k i K n d E o r R
    intro L m F h hb
    rcases hb with hb | ⟨X, hX⟩
    · simp at hb
      obtain ⟨rfl, rfl⟩ := hb
      cases hs
      cases hr
      cases h
    · cases X with
      | nil =>
        simp at hX
        obtain ⟨rfl, rfl⟩ := hX
        simp only [It.step, Fl.step] at hs
        split at hs <;> cases hs
      | cons j X =>
        simp at hX
        obtain ⟨rfl, rfl⟩ := hX
        exact ih h (.inr ⟨r ++ X, by simp⟩)
theorem res_close (h : DocAt N T K p s v) (hb2 : Bo2 K) (hb : Rb T progR (opD 1 (d00 N)) dz) : dz.i = T.length ∧ (K.length = 1 → dz.e = 0 ∧ dz.v = v) ∧ (K.length ≠ 1 → dz.e = 121) := by
  obtain ⟨lst, h1⟩ := h []
  have hb' : Rb (T ++ []) progR (opD 1 (d00 N)) dz := by rw [List.append_nil]; exact hb
  have h3 := res_to hb' h1
  obtain ⟨a, b, c⟩ := rch_end h3 rfl nxt_end
  obtain ⟨c1, c2, c3⟩ := clD_same (n := 1) (d := dz)
  rw [c2] at b
  refine ⟨b, ?_⟩
  rcases hb2 with rfl | ⟨X, rfl⟩
  · refine ⟨fun _ => ?_, fun h => absurd rfl h⟩
    cases h3 with
    | step h4 =>
      have h5 := rch_nil h4
      have he : dz.e = 0 := by rw [← c1, h5]; rfl
      refine ⟨he, ?_⟩
      have h6 := congrArg D.v h5
      unfold clD at h6
      rw [if_pos he] at h6
      exact List.append_cancel_right h6
  · refine ⟨fun h => by simp at h, fun _ => ?_⟩
    have := rch_wants ne_wd h3 rfl X [.lv 1] rfl rfl nxt_end
    rw [c1] at this c
    exact c.resolve_left this
end

end Go.Proofs.Ytkigadnkclkopaa
