import Derived.Test.YtkigadnkclkopaaEa
set_option linter.unusedVariables false
set_option linter.unusedSimpArgs false
namespace Go.Proofs.Ytkigadnkclkopaa

/-! Layer 13: trees, and what is told of them (none of a dump). -/
inductive Nd | mk (k : Int) (d : Tv) (c : List Nd)
def Nd.k : Nd → Int | .mk k _ _ => k
def Nd.d : Nd → Tv | .mk _ d _ => d
def Nd.c : Nd → List Nd | .mk _ _ c => c
def cm (t : Tv) : Bool := t.k == 7 || t.k == 8
def tkE (d : Tv) : Ev := if cm d then ⟨4, 0, d⟩ else ⟨2, 0, d⟩
mutual
def evs : Nd → List Ev
  | .mk k d c => if k = 0 then [tkE d] else ⟨1, k, tv0⟩ :: (evsL c ++ [⟨3, k, tv0⟩])
def evsL : List Nd → List Ev
  | [] => []
  | n :: r => evs n ++ evsL r
end
mutual
def toks : Nd → List Tv
  | .mk k d c => if k = 0 then [d] else toksL c
def toksL : List Nd → List Tv
  | [] => []
  | n :: r => toks n ++ toksL r
end
mutual
def dpt : Nd → Nat
  | .mk k d c => if k = 0 then 0 else dptL c + 1
def dptL : List Nd → Nat
  | [] => 0
  | n :: r => max (dpt n) (dptL r)
end
mutual
/-- Without what is not looked at. -/
def strip : Nd → Nd
  | .mk k d c => if k = 0 then .mk 0 d [] else .mk k tv0 (stripL c)
def stripL : List Nd → List Nd
  | [] => []
  | n :: r => strip n :: stripL r
end
/-- A comment in a tree. -/
def isN (n : Nd) : Bool := n.k == 0 && cm n.d
mutual
def same : Nd → Nd → Bool
  | .mk k d c, n => if k = n.k then (if k = 0 then (d.k == n.d.k && decide (d.t = n.d.t)) else sameL c (n.c.filter (fun x => !isN x))) else false
/-- Kids that are no comments against such ones. -/
def sameL : List Nd → List Nd → Bool
  | [], m => m.isEmpty
  | x :: r, m => if isN x then sameL r m else match m with
    | [] => false
    | y :: m' => same x y && sameL r m'
end
/-- Events one by one; the nodes that are open, the innermost first, each with its kids. -/
def bld : List Ev → List (Int × List Nd) → Option Nd
  | [], _ => none
  | e :: l, S =>
    if e.k = 1 then (if e.n = 0 ∨ 1000 ≤ S.length then none else bld l ((e.n, []) :: S))
    else if e.k = 3 then (match S with
      | [] => none
      | (k, c) :: S' => if k = e.n then (match S' with
        | [] => if l = [] then some (.mk k tv0 c) else none
        | (k', c') :: S2 => bld l ((k', c' ++ [.mk k tv0 c]) :: S2)) else none)
    else if (e.k = 2 ∧ cm e.d = false) ∨ (e.k = 4 ∧ cm e.d = true) then (match S with
      | [] => none
      | (k, c) :: S' => bld l ((k, c ++ [.mk 0 e.d []]) :: S'))
    else none
/-- A kid is put in. -/
def putN (n : Nd) : List (Int × List Nd) → List (Int × List Nd)
  | [] => []
  | (k, c) :: S => (k, c ++ [n]) :: S
def putL (l : List Nd) : List (Int × List Nd) → List (Int × List Nd)
  | [] => []
  | (k, c) :: S => (k, c ++ l) :: S
theorem putL_cons (n : Nd) (l : List Nd) (S : List (Int × List Nd)) : putL (n :: l) S = putL l (putN n S) := by
  cases S with
  | nil => rfl
  | cons x S => obtain ⟨k, c⟩ := x; simp [putL, putN]
theorem putN_len (n : Nd) (S : List (Int × List Nd)) : (putN n S).length = S.length := by
  cases S with
  | nil => rfl
  | cons x S => rfl
mutual
/-- There: a tree's events build it, if it is not too deep. -/
theorem bld_evs : ∀ (n : Nd) (l : List Ev) (S : List (Int × List Nd)), S ≠ [] → bld (evs n ++ l) S = if dpt n + S.length ≤ 1000 then bld l (putN (strip n) S) else if n.k = 0 then bld l (putN (strip n) S) else none
  | .mk k d c, l, S, hS => by
    obtain ⟨k1, c1, S1, rfl⟩ : ∃ k1 c1 S1, S = (k1, c1) :: S1 := by
      cases S with
      | nil => exact absurd rfl hS
      | cons x S => exact ⟨x.1, x.2, S, rfl⟩
    by_cases hk : k = 0
    · subst hk
      have e : evs (.mk 0 d c) = [tkE d] := by simp [evs]
      have e2 : strip (.mk 0 d c) = .mk 0 d [] := by simp [strip]
      have hb : bld ([tkE d] ++ l) ((k1, c1) :: S1) = bld l ((k1, c1 ++ [.mk 0 d []]) :: S1) := by
        unfold tkE
        cases hc : cm d
        · simp [bld, hc]
        · simp [bld, hc]
      rw [e, e2, hb]
      simp [Nd.k, putN]
    · have e : evs (.mk k d c) = ⟨1, k, tv0⟩ :: (evsL c ++ [⟨3, k, tv0⟩]) := by simp [evs, hk]
      have e2 : strip (.mk k d c) = .mk k tv0 (stripL c) := by simp [strip, hk]
      have e3 : dpt (.mk k d c) = dptL c + 1 := by simp [dpt, hk]
      rw [e, e2, e3]
      have hz : ¬ (Nd.mk k d c).k = 0 := hk
      simp only [hz, if_false]
      by_cases hs : 1000 ≤ ((k1, c1) :: S1).length
      · have : ¬ dptL c + 1 + ((k1, c1) :: S1).length ≤ 1000 := by omega
        rw [if_neg this]
        simp only [List.cons_append, bld, if_true, hs, or_true, if_true]
      · have h1 : bld ((⟨1, k, tv0⟩ :: (evsL c ++ [⟨3, k, tv0⟩])) ++ l) ((k1, c1) :: S1) = bld (evsL c ++ (⟨3, k, tv0⟩ :: l)) ((k, []) :: (k1, c1) :: S1) := by
          simp only [List.cons_append, List.append_assoc, bld, if_true]
          rw [if_neg (by intro h; rcases h with h | h; exact hk h; exact hs h)]
          rfl
        rw [h1, bldL_evs c (⟨3, k, tv0⟩ :: l) ((k, []) :: (k1, c1) :: S1) (by simp)]
        by_cases hd : dptL c + ((k, ([] : List Nd)) :: (k1, c1) :: S1).length ≤ 1000
        · have hd' : dptL c + 1 + ((k1, c1) :: S1).length ≤ 1000 := by simp at hd ⊢; omega
          rw [if_pos hd, if_pos hd']
          simp [bld, putL, putN]
        · have hd' : ¬ dptL c + 1 + ((k1, c1) :: S1).length ≤ 1000 := by simp at hd ⊢; omega
          rw [if_neg hd, if_neg hd']
          by_cases h0 : dptL c = 0
          · exfalso
            simp at hd hs
            omega
          · rw [if_neg h0]
theorem bldL_evs : ∀ (c : List Nd) (l : List Ev) (S : List (Int × List Nd)), S ≠ [] → bld (evsL c ++ l) S = if dptL c + S.length ≤ 1000 then bld l (putL (stripL c) S) else if dptL c = 0 then bld l (putL (stripL c) S) else none
  | [], l, S, hS => by
    have e : putL (stripL []) S = S := by
      cases S with
      | nil => rfl
      | cons x S => obtain ⟨k, c⟩ := x; simp [putL, stripL]
    have e2 : evsL [] = [] := by simp [evsL]
    have e3 : dptL [] = 0 := by simp [dptL]
    rw [e, e2, e3]
    simp
  | n :: r, l, S, hS => by
    have e : evsL (n :: r) = evs n ++ evsL r := by simp [evsL]
    have e2 : stripL (n :: r) = strip n :: stripL r := by simp [stripL]
    have e3 : dptL (n :: r) = max (dpt n) (dptL r) := by simp [dptL]
    have hS2 : putN (strip n) S ≠ [] := by
      intro h
      have := putN_len (strip n) S
      rw [h] at this
      simp at this
      exact hS (List.eq_nil_of_length_eq_zero this.symm)
    rw [e, e2, e3, List.append_assoc, bld_evs n (evsL r ++ l) S hS, bldL_evs r l (putN (strip n) S) hS2, putN_len, putL_cons]
    have hz : n.k = 0 → dpt n = 0 := by
      intro h
      obtain ⟨k, d, c⟩ := n
      have h' : k = 0 := h
      simp [dpt, h']
    have hnz : n.k ≠ 0 → 0 < dpt n := by
      intro h
      obtain ⟨k, d, c⟩ := n
      have h' : ¬ k = 0 := h
      simp [dpt, h']
    have hlen : 0 < S.length := by cases S with | nil => exact absurd rfl hS | cons x S => simp
    by_cases hk0 : n.k = 0
    · have hd0 := hz hk0
      simp only [hk0, if_true, hd0]
      repeat' split
      all_goals first | rfl | (exfalso; omega)
    · have hd0 := hnz hk0
      simp only [hk0, if_false]
      repeat' split
      all_goals first | rfl | (exfalso; omega)
end
/-- A node's events build it, if it is at most 1000 deep. -/
theorem build_evs (n : Nd) : bld (evs n) [] = if 1 ≤ dpt n ∧ dpt n ≤ 1000 then some (strip n) else none := by
  obtain ⟨k, d, c⟩ := n
  by_cases hk : k = 0
  · subst hk
    have e3 : dpt (.mk 0 d c) = 0 := by simp [dpt]
    have e : evs (.mk 0 d c) = [tkE d] := by simp [evs]
    rw [e3, e, if_neg (by omega)]
    unfold tkE
    cases hc : cm d <;> simp [bld, hc]
  · have e : evs (.mk k d c) = ⟨1, k, tv0⟩ :: (evsL c ++ [⟨3, k, tv0⟩]) := by simp [evs, hk]
    have e2 : strip (.mk k d c) = .mk k tv0 (stripL c) := by simp [strip, hk]
    have e3 : dpt (.mk k d c) = dptL c + 1 := by simp [dpt, hk]
    rw [e, e2, e3]
    have h1 : bld (⟨1, k, tv0⟩ :: (evsL c ++ [⟨3, k, tv0⟩])) [] = bld (evsL c ++ [⟨3, k, tv0⟩]) [(k, [])] := by
      simp [bld, hk]
    rw [h1, bldL_evs c [⟨3, k, tv0⟩] [(k, [])] (by simp)]
    have h2 : bld [⟨3, k, tv0⟩] (putL (stripL c) [(k, [])]) = some (.mk k tv0 (stripL c)) := by simp [bld, putL]
    rw [h2]
    by_cases hd : dptL c + 1 ≤ 1000
    · rw [if_pos (by simpa using hd), if_pos ⟨by omega, hd⟩]
    · rw [if_neg (by simpa using hd), if_neg (by omega), if_neg (by omega)]

end Go.Proofs.Ytkigadnkclkopaa
