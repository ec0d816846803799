import Derived.Test.YtkglkhijngpgiaaGreatZy
set_option linter.unusedVariables false
set_option linter.unusedSimpArgs false
namespace Go.Proofs.YtkglkhijngpgiaaGreat
open Go.RowKit

/-! Both parsers, one beside the other. -/
def Rel : St → List Tv → List (Int × Nat) → Int → Bool → Prop
  | .live K n, T, now, e, c => e = 0 ∧ c = false ∧ Dat T now K n
  | .stuck e' n, T, now, e, c => e = e' ∧ c = false ∧ e' ≠ 0 ∧ (now.length : Int) = n ∧ now.length ≤ 1000
  | .shut, _, now, _, c => c = true ∧ now.length ≤ 1000
theorem now_z {T : List Tv} {now : List (Int × Nat)} {K : List It} {n : Int} (h : Dat T now K n) : begV now = begE n ∧ begP now = (if n = 0 then [(1, 1)] else now) := by
  have hl := h.len
  unfold begV begP begE
  by_cases e : n = 0
  · have : now = [] := List.eq_nil_of_length_eq_zero (by omega)
    subst this e
    exact ⟨rfl, rfl⟩
  · have hne : now ≠ [] := fun h => by subst h; simp at hl; omega
    have hb : (n == 0) = false := by simpa using e
    rw [if_neg hne, if_neg hne, if_neg e, hb]
    exact ⟨rfl, rfl⟩
theorem dat_len {T : List Tv} {now : List (Int × Nat)} {K : List It} {n : Int} (h : Dat T now K n) : now.length ≤ 1000 := by
  have h1 := h.len
  have h2 := h.gd.1.le
  omega
theorem rel_now {st : St} {T : List Tv} {now : List (Int × Nat)} {e : Int} {c : Bool} (h : Rel st T now e c) : now.length ≤ 1000 := by
  cases st with
  | live K n => exact dat_len h.2.2
  | stuck e2 n => exact h.2.2.2.2
  | shut => exact h.2
/-- The document's Put answers so. -/
def RPut (t : Tv) (gr : Nat) (T : List Tv) (now : List (Int × Nat)) (e : Int) (c : Bool) (ev : List Ev) (code : Int) (T' : List Tv) (now' : List (Int × Nat)) (e' : Int) (c' : Bool) : Prop :=
  ∀ (U : Nat → Prop) (V : World) (vL vN : Value), DP U V gr T now e c vL vN → (∀ k, U k → k < V.heap.size) → Calls Tryz.prog 15 #[pt gr, t.v] V fun r w' => ∃ v, r = .returned (.tuple #[v, .int .i64 code]) ∧ DA U gr V w' v ev T' now' e' c'
theorem both_put {st : St} {T : List Tv} {now : List (Int × Nat)} {e : Int} {c : Bool} (h : Rel st T now e c) (hg : Good st) (t : Tv) (gr : Nat) (hT : T.length ≤ 90000) :
    ∃ ev code st' T' now' e' c', Putr t st ev code st' ∧ Good st' ∧ Rel st' T' now' e' c' ∧ T'.length ≤ T.length + 1 ∧ ev.length ≤ 30000 ∧ RPut t gr T now e c ev code T' now' e' c' := by
  obtain ⟨ev, code, st', hp⟩ := put_ex hg t
  obtain ⟨k1, k2, _, _⟩ := put_keep hg hp
  cases st with
  | shut =>
    cases hp
    have hc : c = true := h.1
    refine ⟨_, _, _, T, now, e, c, .shut, trivial, h, Nat.le_succ _, by simp, fun U V vL vN hd hU => ?_⟩
    refine (rput_off hd t (.inl hc)).mono ?_
    rintro r w' ⟨rfl, hda⟩
    subst hc
    exact ⟨_, rfl, hda⟩
  | stuck e2 n =>
    obtain ⟨rfl, rfl, he, hn, hn2⟩ := h
    cases hp
    refine ⟨_, _, _, T, now, e, false, .stuck, k1, ⟨rfl, rfl, he, hn, hn2⟩, Nat.le_succ _, by simp, fun U V vL vN hd hU => ?_⟩
    refine (rput_off hd t (.inr he)).mono ?_
    rintro r w' ⟨rfl, hda⟩
    exact ⟨_, rfl, hda⟩
  | live K n =>
    obtain ⟨rfl, rfl, hd⟩ := h
    have hl := dat_len hd
    obtain ⟨z1, z2⟩ := now_z hd
    cases hp with
    | note hc =>
      refine ⟨_, _, _, T, begP now, 0, false, .note hc, k1, ⟨rfl, rfl, by rw [z2]; exact dat_note (t := t) (ev := []) (st' := .shut) hd hc⟩, Nat.le_succ _, k2, fun U V vL vN hdp hU => ?_⟩
      rw [← z1]
      exact rput_note hdp hU (by omega) t hc
    | no hc hR hk =>
      refine ⟨_, _, _, T, now, 120, false, .no hc hR hk, k1, ⟨rfl, rfl, by decide, hd.len, hl⟩, Nat.le_succ _, by simp, fun U V vL vN hdp hU => ?_⟩
      refine (rput_err hdp (by omega) t hc 120 (.inl rfl) (fun e l hr => dat_no hd hR hr)).mono ?_
      rintro r w' ⟨rfl, hda⟩
      exact ⟨_, rfl, hda⟩
    | deep hc hR hk hm =>
      refine ⟨_, _, _, T, now, 122, false, .deep hc hR hk hm, k1, ⟨rfl, rfl, by decide, hd.len, hl⟩, Nat.le_succ _, by simp, fun U V vL vN hdp hU => ?_⟩
      refine (rput_err hdp (by omega) t hc 122 (.inr rfl) ((dat_yes hd hc hR hk).1 hm)).mono ?_
      rintro r w' ⟨rfl, hda⟩
      exact ⟨_, rfl, hda⟩
    | yes hc hR hk hm =>
      obtain ⟨p2, e1, hd2, hres⟩ := (dat_yes hd hc hR hk).2 hm
      refine ⟨_, _, _, T ++ [t], p2, 0, false, .yes hc hR hk hm, k1, ⟨rfl, rfl, hd2⟩, by simp, k2, fun U V vL vN hdp hU => ?_⟩
      rw [e1, ← z1, ← z2]
      exact rput_ok hdp (by omega) t hc hU (by omega) p2 (by have := dat_len hd2; omega) hres
def RClo (gr : Nat) (T : List Tv) (now : List (Int × Nat)) (e : Int) (c : Bool) (ev : List Ev) (code : Int) (e' : Int) : Prop :=
  ∀ (U : Nat → Prop) (V : World) (vL vN : Value), DP U V gr T now e c vL vN → (∀ k, U k → k < V.heap.size) → Calls Tryz.prog 19 #[pt gr] V fun r w' => ∃ v, r = .returned (.tuple #[v, .int .i64 code]) ∧ DA U gr V w' v ev T now e' true
theorem both_close {st : St} {T : List Tv} {now : List (Int × Nat)} {e : Int} {c : Bool} (h : Rel st T now e c) (hg : Good st) (gr : Nat) (hT : T.length ≤ 90000) :
    ∃ ev code e', Clor st ev code ∧ ev.length ≤ 1 ∧ RClo gr T now e c ev code e' := by
  cases st with
  | shut =>
    have hc : c = true := h.1
    refine ⟨_, _, e, .shut, by simp, fun U V vL vN hd hU => ?_⟩
    refine (rclose_off hd (.inl hc)).mono ?_
    rintro r w' ⟨rfl, hda⟩
    subst hc
    exact ⟨_, rfl, hda⟩
  | stuck e2 n =>
    obtain ⟨rfl, rfl, he, hn, hn2⟩ := h
    refine ⟨_, _, e, .stuck, by simp, fun U V vL vN hd hU => ?_⟩
    refine (rclose_off hd (.inr he)).mono ?_
    rintro r w' ⟨rfl, hda⟩
    exact ⟨_, rfl, hda⟩
  | live K n =>
    obtain ⟨rfl, rfl, hd⟩ := h
    have hl := dat_len hd
    by_cases h1 : K.length = 1
    · have hn : n ≠ 0 := by
        intro e
        rcases hd.gd.2 with h5 | h5
        · rw [h5.2] at h1; cases h1
        · have h6 := bot_lv h5; have h7 := hd.gd.1.lv; omega
      have hb : beg K n = K := by
        have h2 : (n == 0) = false := by simpa using hn
        rw [beg, h2]
        rfl
      have hK : K = [.lv 1] := by
        have := hd.b2
        rw [hb] at this
        rcases this with h | ⟨X, h⟩
        · exact h
        · rw [h] at h1; simp at h1
      have hnow : now.reverse.map clE = [⟨3, 1, tv0⟩] := by
        have h2 := beg_now hd
        rw [if_neg hn, hb, hK] at h2
        cases now with
        | nil => cases h2
        | cons x r =>
          cases r with
          | nil =>
            simp [lvs] at h2
            simp [clE, h2]
          | cons y r => simp [lvs] at h2
      refine ⟨_, _, 0, .all h1, by simp, fun U V vL vN hdp hU => ?_⟩
      have := rclose_on hdp hU (by omega) (by omega) 0 (.inl rfl) (fun e l hr => (dat_close hd hr).1 h1)
      rw [if_pos rfl, hnow] at this
      exact this
    · refine ⟨_, _, 121, .open h1, by simp, fun U V vL vN hdp hU => ?_⟩
      have := rclose_on hdp hU (by omega) (by omega) 121 (.inr rfl) (fun e l hr => (dat_close hd hr).2 h1)
      rw [if_neg (by decide)] at this
      exact this

end Go.Proofs.YtkglkhijngpgiaaGreat
