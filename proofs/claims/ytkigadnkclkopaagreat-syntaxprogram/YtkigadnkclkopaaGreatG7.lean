import Derived.Test.YtkigadnkclkopaaGreatG1
import Derived.ProofKit
import Derived.OpenShut
import Derived.ShutString
import Derived.ChangeOld
import Derived.Lib.SmallJoins
import Derived.Carry
import Derived.Deep.Slices
import Derived.Deep.RegionHeld3
import Derived.Deep.RegionWith
import Derived.Deep.RegionLaw
import Derived.WalkMore
set_option linter.unusedVariables false
set_option linter.unusedSimpArgs false
namespace Go.Proofs.YtkigadnkclkopaaGreat

/-! Layer 13: trees, and what is told of them (none of a dump). -/
inductive Nd | mk (k : Int) (d : Tv) (c : List Nd)
def Nd.k : Nd → Int | .mk k _ _ => k
def Nd.d : Nd → Tv | .mk _ d _ => d
def Nd.c : Nd → List Nd | .mk _ _ c => c
def cm (t : Tv) : Bool := t.k == 7 || t.k == 8
def tkE (d : Tv) : Ev := if cm d then ⟨4, 0, d⟩ else ⟨2, 0, d⟩
mutual
def evs : Nd → List Ev
  | .mk k d c => if k = 0 then [tkE d] else ⟨1, k, tv0⟩ :: (evsL c ++ [⟨3, k, tv0⟩])
def evsL : List Nd → List Ev
  | [] => []
  | n :: r => evs n ++ evsL r
end
mutual
def toks : Nd → List Tv
  | .mk k d c => if k = 0 then [d] else toksL c
def toksL : List Nd → List Tv
  | [] => []
  | n :: r => toks n ++ toksL r
end
mutual
def dpt : Nd → Nat
  | .mk k d c => if k = 0 then 0 else dptL c + 1
def dptL : List Nd → Nat
  | [] => 0
  | n :: r => max (dpt n) (dptL r)
end
mutual
/-- Without what is not looked at. -/
def strip : Nd → Nd
  | .mk k d c => if k = 0 then .mk 0 d [] else .mk k tv0 (stripL c)
def stripL : List Nd → List Nd
  | [] => []
  | n :: r => strip n :: stripL r
end
/-- A comment in a tree. -/
def isN (n : Nd) : Bool := n.k == 0 && cm n.d
mutual
def same : Nd → Nd → Bool
  | .mk k d c, n => if k = n.k then (if k = 0 then (d.k == n.d.k && decide (d.t = n.d.t)) else sameL c (n.c.filter (fun x => !isN x))) else false
/-- Kids that are no comments against such ones. -/
def sameL : List Nd → List Nd → Bool
  | [], m => m.isEmpty
  | x :: r, m => if isN x then sameL r m else match m with
    | [] => false
    | y :: m' => same x y && sameL r m'
end
/-- Events one by one; the nodes that are open, the innermost first, each with its kids. -/
def bld : List Ev → List (Int × List Nd) → Option Nd
  | [], _ => none
  | e :: l, S =>
    if e.k = 1 then (if e.n = 0 ∨ 1000 ≤ S.length then none else bld l ((e.n, []) :: S))
    else if e.k = 3 then (match S with
      | [] => none
      | (k, c) :: S' => if k = e.n then (match S' with
        | [] => if l = [] then some (.mk k tv0 c) else none
        | (k', c') :: S2 => bld l ((k', c' ++ [.mk k tv0 c]) :: S2)) else none)
    else if (e.k = 2 ∧ cm e.d = false) ∨ (e.k = 4 ∧ cm e.d = true) then (match S with
      | [] => none
      | (k, c) :: S' => bld l ((k, c ++ [.mk 0 e.d []]) :: S'))
    else none
/-- A kid is put in. -/
def putN (n : Nd) : List (Int × List Nd) → List (Int × List Nd)
  | [] => []
  | (k, c) :: S => (k, c ++ [n]) :: S
def putL (l : List Nd) : List (Int × List Nd) → List (Int × List Nd)
  | [] => []
  | (k, c) :: S => (k, c ++ l) :: S
theorem putL_cons (n : Nd) (l : List Nd) (S : List (Int × List Nd)) : putL (n :: l) S = putL l (putN n S) := by
  cases S with
  | nil => rfl
  | cons x S => obtain ⟨k, c⟩ := x; simp [putL, putN]
theorem putN_len (n : Nd) (S : List (Int × List Nd)) : (putN n S).length = S.length := by
  cases S with
  | nil => rfl
  | cons x S => rfl
mutual
/-- There: a tree's events build it, if it is not too deep. -/
theorem bld_evs : ∀ (n : Nd) (l : List Ev) (S : List (Int × List Nd)), S ≠ [] → bld (evs n ++ l) S = if dpt n + S.length ≤ 1000 then bld l (putN (strip n) S) else if n.k = 0 then bld l (putN (strip n) S) else none
  | .mk k d c, l, S, hS => by
    obtain ⟨k1, c1, S1, rfl⟩ : ∃ k1 c1 S1, S = (k1, c1) :: S1 := by
      cases S with
      | nil => exact absurd rfl hS
      | cons x S => exact ⟨x.1, x.2, S, rfl⟩
    by_cases hk : k = 0
    · subst hk
      have e : evs (.mk 0 d c) = [tkE d] := by simp [evs]
      have e2 : strip (.mk 0 d c) = .mk 0 d [] := by simp [strip]
      have hb : bld ([tkE d] ++ l) ((k1, c1) :: S1) = bld l ((k1, c1 ++ [.mk 0 d []]) :: S1) := by
        unfold tkE
        cases hc : cm d
        · simp [bld, hc]
        · simp [bld, hc]
      rw [e, e2, hb]
      simp [Nd.k, putN]
    · have e : evs (.mk k d c) = ⟨1, k, tv0⟩ :: (evsL c ++ [⟨3, k, tv0⟩]) := by simp [evs, hk]
      have e2 : strip (.mk k d c) = .mk k tv0 (stripL c) := by simp [strip, hk]
      have e3 : dpt (.mk k d c) = dptL c + 1 := by simp [dpt, hk]
      rw [e, e2, e3]
      have hz : ¬ (Nd.mk k d c).k = 0 := hk
      simp only [hz, if_false]
      by_cases hs : 1000 ≤ ((k1, c1) :: S1).length
      · have : ¬ dptL c + 1 + ((k1, c1) :: S1).length ≤ 1000 := by omega
        rw [if_neg this]
        simp only [List.cons_append, bld, if_true, hs, or_true, if_true]
      · have h1 : bld ((⟨1, k, tv0⟩ :: (evsL c ++ [⟨3, k, tv0⟩])) ++ l) ((k1, c1) :: S1) = bld (evsL c ++ (⟨3, k, tv0⟩ :: l)) ((k, []) :: (k1, c1) :: S1) := by
          simp only [List.cons_append, List.append_assoc, bld, if_true]
          rw [if_neg (by intro h; rcases h with h | h; exact hk h; exact hs h)]
          rfl
        rw [h1, bldL_evs c (⟨3, k, tv0⟩ :: l) ((k, []) :: (k1, c1) :: S1) (by simp)]
        by_cases hd : dptL c + ((k, ([] : List Nd)) :: (k1, c1) :: S1).length ≤ 1000
        · have hd' : dptL c + 1 + ((k1, c1) :: S1).length ≤ 1000 := by simp at hd ⊢; omega
          rw [if_pos hd, if_pos hd']
          simp [bld, putL, putN]
        · have hd' : ¬ dptL c + 1 + ((k1, c1) :: S1).length ≤ 1000 := by simp at hd ⊢; omega
          rw [if_neg hd, if_neg hd']
          by_cases h0 : dptL c = 0
          · exfalso
            simp at hd hs
            omega
          · rw [if_neg h0]
theorem bldL_evs : ∀ (c : List Nd) (l : List Ev) (S : List (Int × List Nd)), S ≠ [] → bld (evsL c ++ l) S = if dptL c + S.length ≤ 1000 then bld l (putL (stripL c) S) else if dptL c = 0 then bld l (putL (stripL c) S) else none
  | [], l, S, hS => by
    have e : putL (stripL []) S = S := by
      cases S with
      | nil => rfl
      | cons x S => obtain ⟨k, c⟩ := x; simp [putL, stripL]
    have e2 : evsL [] = [] := by simp [evsL]
    have e3 : dptL [] = 0 := by simp [dptL]
    rw [e, e2, e3]
    simp
  | n :: r, l, S, hS => by
    have e : evsL (n :: r) = evs n ++ evsL r := by simp [evsL]
    have e2 : stripL (n :: r) = strip n :: stripL r := by simp [stripL]
    have e3 : dptL (n :: r) = max (dpt n) (dptL r) := by simp [dptL]
    have hS2 : putN (strip n) S ≠ [] := by
      intro h
      have := putN_len (strip n) S
      rw [h] at this
      simp at this
      exact hS (List.eq_nil_of_length_eq_zero this.symm)
    rw [e, e2, e3, List.append_assoc, bld_evs n (evsL r ++ l) S hS, bldL_evs r l (putN (strip n) S) hS2, putN_len, putL_cons]
    have hz : n.k = 0 → dpt n = 0 := by
      intro h
      obtain ⟨k, d, c⟩ := n
      have h' : k = 0 := h
      simp [dpt, h']
    have hnz : n.k ≠ 0 → 0 < dpt n := by
      intro h
      obtain ⟨k, d, c⟩ := n
      have h' : ¬ k = 0 := h
      simp [dpt, h']
    have hlen : 0 < S.length := by cases S with | nil => exact absurd rfl hS | cons x S => simp
    by_cases hk0 : n.k = 0
    · have hd0 := hz hk0
      simp only [hk0, if_true, hd0]
      repeat' split
      all_goals first | rfl | (exfalso; omega)
    · have hd0 := hnz hk0
      simp only [hk0, if_false]
      repeat' split
      all_goals first | rfl | (exfalso; omega)
end
/-- A node's events build it, if it is at most 1000 deep. -/
theorem build_evs (n : Nd) : bld (evs n) [] = if 1 ≤ dpt n ∧ dpt n ≤ 1000 then some (strip n) else none := by
  obtain ⟨k, d, c⟩ := n
  by_cases hk : k = 0
  · subst hk
    have e3 : dpt (.mk 0 d c) = 0 := by simp [dpt]
    have e : evs (.mk 0 d c) = [tkE d] := by simp [evs]
    rw [e3, e, if_neg (by omega)]
    unfold tkE
    cases hc : cm d <;> simp [bld, hc]
  · have e : evs (.mk k d c) = ⟨1, k, tv0⟩ :: (evsL c ++ [⟨3, k, tv0⟩]) := by simp [evs, hk]
    have e2 : strip (.mk k d c) = .mk k tv0 (stripL c) := by simp [strip, hk]
    have e3 : dpt (.mk k d c) = dptL c + 1 := by simp [dpt, hk]
    rw [e, e2, e3]
    have h1 : bld (⟨1, k, tv0⟩ :: (evsL c ++ [⟨3, k, tv0⟩])) [] = bld (evsL c ++ [⟨3, k, tv0⟩]) [(k, [])] := by
      simp [bld, hk]
    rw [h1, bldL_evs c [⟨3, k, tv0⟩] [(k, [])] (by simp)]
    have h2 : bld [⟨3, k, tv0⟩] (putL (stripL c) [(k, [])]) = some (.mk k tv0 (stripL c)) := by simp [bld, putL]
    rw [h2]
    by_cases hd : dptL c + 1 ≤ 1000
    · rw [if_pos (by simpa using hd), if_pos ⟨by omega, hd⟩]
    · rw [if_neg (by simpa using hd), if_neg (by omega), if_neg (by omega)]

end Go.Proofs.YtkigadnkclkopaaGreat

set_option linter.unusedVariables false
set_option linter.unusedSimpArgs false
namespace Go.Proofs.YtkigadnkclkopaaGreat

/-! Back: what is built tells what it was built of; when two trees are the same (none of a dump). -/
/-- An event without what is not looked at. -/
def nrm (e : Ev) : Ev := if e.k = 1 ∨ e.k = 3 then ⟨e.k, e.n, tv0⟩ else ⟨e.k, 0, e.d⟩
theorem evsL_app (a b : List Nd) : evsL (a ++ b) = evsL a ++ evsL b := by
  induction a with
  | nil => simp [evsL]
  | cons x r ih => simp [evsL, ih]
/-- What was told of the nodes that are open. -/
def opn : List (Int × List Nd) → List Ev
  | [] => []
  | (k, c) :: S => opn S ++ (⟨1, k, tv0⟩ :: evsL c)
theorem evs_bld : ∀ (l : List Ev) (S : List (Int × List Nd)) (n : Nd), bld l S = some n → (∀ x ∈ S, x.1 ≠ 0) → evs n = opn S ++ l.map nrm ∧ n.k ≠ 0
  | [], S, n, h, _ => by simp [bld] at h
  | e :: l, S, n, h, hS => by
    simp only [bld] at h
    by_cases h1 : e.k = 1
    · rw [if_pos h1] at h
      split at h
      · cases h
      · rename_i hc
        have hn : e.n ≠ 0 := fun x => hc (.inl x)
        obtain ⟨a, b⟩ := evs_bld l ((e.n, []) :: S) n h (fun x hx => by
          rcases List.mem_cons.1 hx with rfl | hx
          · exact hn
          · exact hS x hx)
        refine ⟨?_, b⟩
        rw [a]
        have : nrm e = ⟨1, e.n, tv0⟩ := by simp [nrm, h1]
        simp [opn, evsL, this]
    · rw [if_neg h1] at h
      by_cases h3 : e.k = 3
      · rw [if_pos h3] at h
        have hr : nrm e = ⟨3, e.n, tv0⟩ := by simp [nrm, h3]
        cases S with
        | nil => cases h
        | cons x S' =>
          obtain ⟨k, c⟩ := x
          simp only at h
          have hk : k ≠ 0 := hS (k, c) (List.mem_cons_self ..)
          split at h
          · rename_i hke
            subst hke
            have hev : evs (.mk e.n tv0 c) = ⟨1, e.n, tv0⟩ :: (evsL c ++ [⟨3, e.n, tv0⟩]) := by simp [evs, hk]
            cases S' with
            | nil =>
              simp only at h
              split at h
              · rename_i hl
                cases h
                subst hl
                refine ⟨?_, hk⟩
                rw [hev]
                simp [opn, hr]
              · cases h
            | cons y S2 =>
              obtain ⟨k', c'⟩ := y
              simp only at h
              obtain ⟨a, b⟩ := evs_bld l ((k', c' ++ [.mk e.n tv0 c]) :: S2) n h (fun x hx => by
                rcases List.mem_cons.1 hx with rfl | hx
                · exact hS (k', c') (by simp)
                · exact hS x (by simp [hx]))
              refine ⟨?_, b⟩
              rw [a]
              simp [opn, evsL_app, evsL, hev, hr]
          · cases h
      · rw [if_neg h3] at h
        split at h
        · rename_i hc
          cases S with
          | nil => cases h
          | cons x S' =>
            obtain ⟨k, c⟩ := x
            simp only at h
            obtain ⟨a, b⟩ := evs_bld l ((k, c ++ [.mk 0 e.d []]) :: S') n h (fun x hx => by
              rcases List.mem_cons.1 hx with rfl | hx
              · exact hS (k, c) (List.mem_cons_self ..)
              · exact hS x (List.mem_cons_of_mem _ hx))
            refine ⟨?_, b⟩
            rw [a]
            have hr : nrm e = tkE e.d := by
              have : nrm e = ⟨e.k, 0, e.d⟩ := by simp [nrm, h1, h3]
              rw [this]
              unfold tkE
              rcases hc with ⟨a1, a2⟩ | ⟨a1, a2⟩
              · rw [a1, a2]; rfl
              · rw [a1, a2]; rfl
            have he : evs (.mk 0 e.d []) = [tkE e.d] := by simp [evs]
            simp [opn, evsL_app, evsL, he, hr]
        · cases h
theorem evs_build {l : List Ev} {n : Nd} (h : bld l [] = some n) : evs n = l.map nrm ∧ n.k ≠ 0 := by
  have := evs_bld l [] n h (fun x hx => by cases hx)
  simpa [opn] using this

/-- What Same looks at. -/
inductive Cn | tk (k : Int) (t : ByteArray) | nd (k : Int) (c : List Cn)
mutual
def can : Nd → Cn
  | .mk k d c => if k = 0 then .tk d.k d.t else .nd k (canL c)
def canL : List Nd → List Cn
  | [] => []
  | n :: r => if isN n then canL r else can n :: canL r
end
theorem canL_filter : ∀ m : List Nd, canL (m.filter (fun x => !isN x)) = canL m
  | [] => rfl
  | n :: r => by
    cases h : isN n
    · rw [List.filter_cons_of_pos (by simp [h])]
      simp [canL, h, canL_filter r]
    · rw [List.filter_cons_of_neg (by simp [h])]
      simp [canL, h, canL_filter r]
mutual
theorem same_can : ∀ (a b : Nd), same a b = true ↔ can a = can b
  | .mk k d c, .mk k2 d2 c2 => by
    have hs : same (.mk k d c) (.mk k2 d2 c2) = if k = k2 then (if k = 0 then (d.k == d2.k && decide (d.t = d2.t)) else sameL c (c2.filter (fun x => !isN x))) else false := by rw [same]; rfl
    rw [hs]
    by_cases hk : k = k2
    · subst hk
      rw [if_pos rfl]
      by_cases h0 : k = 0
      · rw [if_pos h0]
        simp [can, h0]
      · rw [if_neg h0]
        rw [sameL_can c (c2.filter (fun x => !isN x)) (fun x hx => by simpa using (List.mem_filter.1 hx).2), canL_filter]
        simp [can, h0]
    · rw [if_neg hk]
      simp only [Bool.false_eq_true, false_iff]
      intro h
      by_cases h0 : k = 0
      · by_cases h1 : k2 = 0
        · exact hk (h0.trans h1.symm)
        · simp [can, h0, h1] at h
      · by_cases h1 : k2 = 0
        · simp [can, h0, h1] at h
        · simp [can, h0, h1] at h
          exact hk h.1
theorem sameL_can : ∀ (c m : List Nd), (∀ x ∈ m, isN x = false) → (sameL c m = true ↔ canL c = canL m)
  | [], m, hm => by
    cases m with
    | nil => simp [sameL, canL]
    | cons y m =>
      have := hm y (List.mem_cons_self ..)
      simp [sameL, canL, this]
  | x :: r, m, hm => by
    simp only [sameL]
    cases hx : isN x
    · simp only [Bool.false_eq_true, if_false]
      cases m with
      | nil => simp [canL, hx]
      | cons y m =>
        have hy := hm y (List.mem_cons_self ..)
        simp only [Bool.and_eq_true]
        rw [same_can x y, sameL_can r m (fun z hz => hm z (List.mem_cons_of_mem _ hz))]
        simp [canL, hx, hy]
    · simp only [if_true]
      rw [sameL_can r m hm]
      simp [canL, hx]
end
theorem same_refl (a : Nd) : same a a = true := (same_can a a).2 rfl
theorem same_comm (a b : Nd) : same a b = same b a := by
  rw [Bool.eq_iff_iff, same_can, same_can]
  exact ⟨Eq.symm, Eq.symm⟩
mutual
theorem can_strip : ∀ n : Nd, can (strip n) = can n
  | .mk k d c => by
    by_cases h0 : k = 0
    · simp [strip, can, h0]
    · simp [strip, can, h0, canL_strip c]
theorem canL_strip : ∀ c : List Nd, canL (stripL c) = canL c
  | [] => rfl
  | n :: r => by
    have hn : isN (strip n) = isN n := by
      obtain ⟨k, d, c⟩ := n
      by_cases h0 : k = 0
      · simp [strip, isN, Nd.k, Nd.d, h0]
      · have hb : (k == 0) = false := by simpa using h0
        simp [strip, isN, Nd.k, Nd.d, h0, hb]
    simp [stripL, canL, hn, can_strip n, canL_strip r]
end
theorem same_strip (n : Nd) : same (strip n) n = true := (same_can _ _).2 (can_strip n)
mutual
theorem dpt_strip : ∀ n : Nd, dpt (strip n) = dpt n
  | .mk k d c => by
    by_cases h0 : k = 0
    · simp [strip, dpt, h0]
    · simp [strip, dpt, h0, dptL_strip c]
theorem dptL_strip : ∀ c : List Nd, dptL (stripL c) = dptL c
  | [] => rfl
  | n :: r => by simp [stripL, dptL, dpt_strip n, dptL_strip r]
end

end Go.Proofs.YtkigadnkclkopaaGreat

set_option linter.unusedVariables false
set_option linter.unusedSimpArgs false
namespace Go.Proofs.YtkigadnkclkopaaGreat
open Go.ChangeShapes Go.WideShapes Go.ChangeAt Go.RowKit

/-! Trees in memory, as a reader sees them. -/
mutual
/-- A node at a place. -/
def HN (W : World) (b o : Nat) : Nd → Prop
  | .mk k d c => (W.cell? ⟨b, o, none⟩ = some (.int .u8 k) ∧ W.cell? ⟨b, o + 1, none⟩ = some (.int .u8 d.k) ∧ W.cell? ⟨b, o + 2, none⟩ = some (.string d.t) ∧ W.cell? ⟨b, o + 3, none⟩ = some (.int .i64 d.a) ∧ W.cell? ⟨b, o + 4, none⟩ = some (.int .i64 d.l) ∧ W.cell? ⟨b, o + 5, none⟩ = some (.int .i64 d.c) ∧ W.cell? ⟨b, o + 6, none⟩ = some (.int .i64 d.f)) ∧
    ∃ ao cap, W.cell? ⟨b, o + 7, none⟩ = some (.slice ao c.length cap) ∧ c.length ≤ cap ∧ cap ≤ maxLen ∧ (ao = none → c = []) ∧ ∀ a, ao = some a → c = [] ∨ ∃ b' o', a = ⟨b', o', none⟩ ∧ HL W b' o' c
/-- Nodes, one behind the other. -/
def HL (W : World) (b o : Nat) : List Nd → Prop
  | [] => True
  | n :: r => HN W b o n ∧ HL W b (o + 8) r
end
theorem HL.at {W : World} {b : Nat} : ∀ {l : List Nd} {o : Nat}, HL W b o l → ∀ {j : Nat} {n : Nd}, l[j]? = some n → HN W b (o + j * 8) n
  | [], o, _, j, n, hj => by simp at hj
  | x :: r, o, h, 0, n, hj => by
    simp at hj
    subst hj
    rw [HL] at h
    simpa using h.1
  | x :: r, o, h, j + 1, n, hj => by
    rw [HL] at h
    have := HL.at h.2 (j := j) (n := n) (by simpa using hj)
    rw [show o + (j + 1) * 8 = o + 8 + j * 8 by omega]
    exact this
theorem hl_of {W : World} {b : Nat} : ∀ {l : List Nd} {o : Nat}, (∀ j n, l[j]? = some n → HN W b (o + j * 8) n) → HL W b o l
  | [], o, _ => by rw [HL]; trivial
  | x :: r, o, h => by
    rw [HL]
    refine ⟨by simpa using h 0 x rfl, hl_of (fun j n hj => ?_)⟩
    have := h (j + 1) n (by simpa using hj)
    rw [show o + 8 + j * 8 = o + (j + 1) * 8 by omega]
    exact this
mutual
theorem HN.below {W W' : World} (hb : Below W.heap.size W W') : ∀ (n : Nd) (b o : Nat), HN W b o n → HN W' b o n
  | .mk k d c, b, o, h => by
    rw [HN] at h ⊢
    obtain ⟨⟨h0, h1, h2, h3, h4, h5, h6⟩, ao, cap, h7, h8, h9, h10, h11⟩ := h
    have e : W'.heap[b]? = W.heap[b]? := hb.block b (World.block_lt_of_cell? _ _ h0)
    have tr : ∀ j u, W.cell? ⟨b, j, none⟩ = some u → W'.cell? ⟨b, j, none⟩ = some u := fun j u hu => (World.cell?_of_block (a := ⟨b, j, none⟩) e).trans hu
    exact ⟨⟨tr _ _ h0, tr _ _ h1, tr _ _ h2, tr _ _ h3, tr _ _ h4, tr _ _ h5, tr _ _ h6⟩, ao, cap, tr _ _ h7, h8, h9, h10, fun a ea => (h11 a ea).imp id (fun ⟨b', o', e2, hl⟩ => ⟨b', o', e2, HL.below hb c b' o' hl⟩)⟩
theorem HL.below {W W' : World} (hb : Below W.heap.size W W') : ∀ (l : List Nd) (b o : Nat), HL W b o l → HL W' b o l
  | [], b, o, _ => by rw [HL]; trivial
  | n :: r, b, o, h => by
    rw [HL] at h ⊢
    exact ⟨HN.below hb n b o h.1, HL.below hb r b (o + 8) h.2⟩
end
/-- A node as a value. -/
def Nv (W : World) (v : Value) (n : Nd) : Prop := ∃ ao cap, v = .agg #[.int .u8 n.k, .int .u8 n.d.k, .string n.d.t, .int .i64 n.d.a, .int .i64 n.d.l, .int .i64 n.d.c, .int .i64 n.d.f, .slice ao n.c.length cap] ∧ n.c.length ≤ cap ∧ cap ≤ maxLen ∧ (ao = none → n.c = []) ∧ (∀ a, ao = some a → n.c = [] ∨ ∃ b o, a = ⟨b, o, none⟩ ∧ HL W b o n.c)
theorem Nv.below {W W' : World} {v : Value} {n : Nd} (h : Nv W v n) (hb : Below W.heap.size W W') : Nv W' v n := by
  obtain ⟨ao, cap, h1, h2, h3, h4, h5⟩ := h
  refine ⟨ao, cap, h1, h2, h3, h4, fun a ha => ?_⟩
  rcases h5 a ha with h | ⟨b, o, e, hl⟩
  · exact .inl h
  · exact .inr ⟨b, o, e, HL.below hb _ b o hl⟩
mutual
/-- How many nodes a tree has. -/
def nsz : Nd → Nat
  | .mk k d c => nszL c + 1
def nszL : List Nd → Nat
  | [] => 0
  | n :: r => nsz n + nszL r
end
theorem nsz_kid {n m : Nd} (h : m ∈ n.c) : nsz m < nsz n := by
  obtain ⟨k, d, c⟩ := n
  have key : ∀ (c : List Nd), m ∈ c → nsz m ≤ nszL c := by
    intro c
    induction c with
    | nil => intro h; cases h
    | cons x r ih =>
      intro h
      simp only [nszL]
      rcases List.mem_cons.1 h with rfl | h
      · omega
      · have := ih h; omega
  have := key c h
  simp only [nsz]
  omega
theorem pick {α : Type} (P : Nat → α → Prop) : ∀ n, (∀ j, j < n → ∃ a, P j a) → ∃ l : List α, l.length = n ∧ ∀ j a, l[j]? = some a → P j a
  | 0, _ => ⟨[], rfl, fun j a h => by simp at h⟩
  | n + 1, h => by
    obtain ⟨l, hl, hp⟩ := pick P n (fun j hj => h j (by omega))
    obtain ⟨a, ha⟩ := h n (by omega)
    refine ⟨l ++ [a], by simp [hl], fun j b hb => ?_⟩
    by_cases hj : j < l.length
    · rw [List.getElem?_append_left hj] at hb; exact hp j b hb
    · rw [List.getElem?_append_right (by omega)] at hb
      have h0 := (List.getElem?_eq_some_iff.1 hb).1
      simp at h0
      have : j = n := by omega
      subst this
      rw [show j - l.length = 0 by omega] at hb
      simp at hb
      subst hb; exact ha
theorem all_laidOut : laidOutB Tryz.prog = true := by kernel_rfl

end Go.Proofs.YtkigadnkclkopaaGreat

set_option linter.unusedVariables false
set_option linter.unusedSimpArgs false
namespace Go.Proofs.YtkigadnkclkopaaGreat
open Go.ChangeShapes Go.WideShapes Go.ChangeAt Go.RowKit

/-! A tree as an argument. -/
theorem trod_s3 {H : Type} {enc : TypeId × Value → H} {P : Program} {w : World} {base : Nat} {spare : Nat → Bool} {held : Bool} {t : TypeId} {f0 f1 f2 : Field} {fuel : Nat} {cs : List Value} {x : DataW H × List MemPlace} (ht : P.underlying t = some (.struct #[f0, f1, f2])) (h : DataW.trod enc P w base spare held fuel t cs = some x) :
    ∃ y0 y1 y2 n, fuel = n + 1 ∧ cs.length = P.cellsOf t ∧ DataW.trod enc P w base spare held n f0.type ((cs.drop f0.offset).take (P.cellsOf f0.type)) = some y0 ∧
      DataW.trod enc P w base spare held n f1.type ((cs.drop f1.offset).take (P.cellsOf f1.type)) = some y1 ∧ DataW.trod enc P w base spare held n f2.type ((cs.drop f2.offset).take (P.cellsOf f2.type)) = some y2 := by
  obtain ⟨xs, n, e, rfl, hl, hlen, hf⟩ := DataW.trod_struct ht h
  match xs, hlen with
  | [y0, y1, y2], _ => exact ⟨y0, y1, y2, n, e, hl, by simpa using hf 0 f0 rfl, by simpa using hf 1 f1 rfl, by simpa using hf 2 f2 rfl⟩
/-- What is read of a node's cells. -/
def NdC (W : World) (cs : List Value) (n : Nd) : Prop := ∃ ao cap, cs = [.int .u8 n.k, .int .u8 n.d.k, .string n.d.t, .int .i64 n.d.a, .int .i64 n.d.l, .int .i64 n.d.c, .int .i64 n.d.f, .slice ao n.c.length cap] ∧ n.c.length ≤ cap ∧ cap ≤ maxLen ∧ (ao = none → n.c = []) ∧ (∀ a, ao = some a → n.c = [] ∨ ∃ b o, a = ⟨b, o, none⟩ ∧ HL W b o n.c)
set_option maxRecDepth 100000 in
theorem nd_of {H : Type} {enc : TypeId × Value → H} {W : World} {spare : Nat → Bool} {held : Bool} : ∀ (fuel : Nat) (cs : List Value) (x : DataW H × List MemPlace), DataW.trod enc Tryz.prog W 0 spare held fuel 32 cs = some x → ∃ n : Nd, NdC W cs n := by
  intro fuel
  induction fuel using Nat.strongRecOn with
  | ind fuel ih =>
    intro cs x h
    have ci : Tryz.prog.cellsOf 3 = 1 := by kernel_rfl
    have cst : Tryz.prog.cellsOf 9 = 1 := by kernel_rfl
    have ck : Tryz.prog.cellsOf 24 = 1 := by kernel_rfl
    have cp : Tryz.prog.cellsOf 26 = 3 := by kernel_rfl
    have ct : Tryz.prog.cellsOf 28 = 6 := by kernel_rfl
    have cn : Tryz.prog.cellsOf 32 = 8 := by kernel_rfl
    have cnk : Tryz.prog.cellsOf 29 = 1 := by kernel_rfl
    have csl : Tryz.prog.cellsOf 30 = 1 := by kernel_rfl
    obtain ⟨y0, y1, y2, n1, e1, hlen, t0, t1, t2⟩ := trod_s3 Tryz.underlying32 h
    rw [cn] at hlen
    match cs, hlen with
    | [c0, c1, c2, c3, c4, c5, c6, c7], _ =>
      simp [cnk, ct, csl] at t0 t1 t2
      obtain ⟨b0, e0, _, _⟩ := DataW.trod_int Tryz.underlying29 t0
      obtain ⟨z0, z1, z2, z3, n2, _, _, s0, s1, s2, s3⟩ := Go.Joins.trod_struct4 Tryz.underlying28 t1
      simp [ci, cst, ck, cp] at s0 s1 s2 s3
      obtain ⟨d0, g0, _, _⟩ := DataW.trod_int Tryz.underlying24 s0
      obtain ⟨d1, g1, _, _⟩ := DataW.trod_string Tryz.underlying9 s1
      obtain ⟨u0, u1, u2, n3, _, _, r0, r1, r2⟩ := trod_s3 Tryz.underlying26 s2
      simp [ci] at r0 r1 r2
      obtain ⟨d2, g2, _, _⟩ := DataW.trod_int Tryz.underlying3 r0
      obtain ⟨d3, g3, _, _⟩ := DataW.trod_int Tryz.underlying3 r1
      obtain ⟨d4, g4, _, _⟩ := DataW.trod_int Tryz.underlying3 r2
      obtain ⟨d5, g5, _, _⟩ := DataW.trod_int Tryz.underlying3 s3
      simp at e0 g0 g1 g2 g3 g4 g5
      subst e0 g0 g1 g2 g3 g4 g5
      rcases DataW.trod_slice Tryz.underlying30 t2 with ⟨hcs, _⟩ | ⟨a, len, cap, elems, rest, n4, e4, hcs, _, _, hl, hm, hel, hx, _, _⟩
      · simp at hcs
        subst hcs
        exact ⟨.mk b0 ⟨d0, d1, d2, d3, d4, d5⟩ [], none, 0, rfl, Nat.le_refl _, Nat.zero_le _, fun _ => rfl, fun a ha => by cases ha⟩
      · simp at hcs
        subst hcs
        have each : ∀ j, j < len → ∃ m : Nd, ∃ cs', W.cells? 0 (a.add (j * 8)) 8 = some cs' ∧ NdC W cs' m := by
          intro j hj
          have h1 := hx j hj
          rw [cn] at h1
          have h2 : j < elems.length := by omega
          rw [List.getElem?_eq_getElem h2] at h1
          cases hc : W.cells? 0 (a.add (j * 8)) 8 with
          | none => rw [hc] at h1; cases h1
          | some cs' =>
            rw [hc] at h1
            obtain ⟨m, hmm⟩ := ih n4 (by omega) cs' _ h1
            exact ⟨m, cs', rfl, hmm⟩
        obtain ⟨l, hll, hlp⟩ := pick _ len each
        subst hll
        refine ⟨.mk b0 ⟨d0, d1, d2, d3, d4, d5⟩ l, some a, cap, rfl, hl, hm, (fun h => by cases h), fun a' ha => ?_⟩
        cases ha
        show l = [] ∨ _
        cases l with
        | nil => exact .inl rfl
        | cons x0 r0 =>
          right
          obtain ⟨cs0, hcs0, hn0⟩ := hlp 0 x0 rfl
          obtain ⟨_, hlen0, hcell0⟩ := World.cells?_some hcs0
          have hsp : a.spot = none := by
            obtain ⟨ao, cp', ec, _⟩ := hn0
            have := hcell0 0 (by omega)
            rw [ec] at this
            simpa [Addr.add] using World.cell?_spot (v := .int .u8 x0.k) this
          obtain ⟨b, off, sp⟩ := a
          simp only at hsp
          subst hsp
          refine ⟨b, off, rfl, hl_of (fun j m hj => ?_)⟩
          obtain ⟨cs', hcs', ao, cp', ec, q1, q2, q3, q4⟩ := hlp j m hj
          obtain ⟨_, hlen', hcell'⟩ := World.cells?_some hcs'
          subst ec
          have hc : ∀ i u, ([.int .u8 m.k, .int .u8 m.d.k, .string m.d.t, .int .i64 m.d.a, .int .i64 m.d.l, .int .i64 m.d.c, .int .i64 m.d.f, .slice ao m.c.length cp'] : List Value)[i]? = some u → W.cell? ⟨b, off + j * 8 + i, none⟩ = some u := fun i u hu => by
            obtain ⟨a1, a2⟩ := List.getElem?_eq_some_iff.1 hu
            have := hcell' i (by simpa using a1)
            rw [Addr.add_lit, Addr.add_lit] at this
            rw [this]
            exact hu
          obtain ⟨mk', md, mc⟩ := m
          rw [HN]
          exact ⟨⟨hc 0 _ rfl, hc 1 _ rfl, hc 2 _ rfl, hc 3 _ rfl, hc 4 _ rfl, hc 5 _ rfl, hc 6 _ rfl⟩, ao, cp', hc 7 _ rfl, q1, q2, q3, q4⟩

end Go.Proofs.YtkigadnkclkopaaGreat

set_option linter.unusedVariables false
set_option linter.unusedSimpArgs false
namespace Go.Proofs.YtkigadnkclkopaaGreat
open Go.RowKit

/-! What only reads trees. -/
theorem below_new (W : World) (o : Obj) : Below W.heap.size W (W.alloc o) := (Below.refl _ _).alloc (Nat.le_refl _) _
theorem below_dn {b : Nat} {w v : World} (h : Below b w v) : ∀ m, Below b w (v.drewN m)
  | 0 => h
  | m + 1 => (below_dn h m).drew
/-- A kid's cells, and the value that they make. -/
theorem hn_cells {W : World} {b o : Nat} {n : Nd} (h : HN W b o n) : b < W.heap.size ∧ ∃ ao cap, (W.cell? ⟨b, o, none⟩ = some (.int .u8 n.k) ∧ W.cell? ⟨b, o + 1, none⟩ = some (.int .u8 n.d.k) ∧ W.cell? ⟨b, o + 2, none⟩ = some (.string n.d.t) ∧ W.cell? ⟨b, o + 3, none⟩ = some (.int .i64 n.d.a) ∧ W.cell? ⟨b, o + 4, none⟩ = some (.int .i64 n.d.l) ∧ W.cell? ⟨b, o + 5, none⟩ = some (.int .i64 n.d.c) ∧ W.cell? ⟨b, o + 6, none⟩ = some (.int .i64 n.d.f) ∧ W.cell? ⟨b, o + 7, none⟩ = some (.slice ao n.c.length cap)) ∧ n.c.length ≤ cap ∧ cap ≤ maxLen ∧ (ao = none → n.c = []) ∧ (∀ a, ao = some a → n.c = [] ∨ ∃ b' o', a = ⟨b', o', none⟩ ∧ HL W b' o' n.c) := by
  obtain ⟨k, d, c⟩ := n
  rw [HN] at h
  obtain ⟨⟨h0, h1, h2, h3, h4, h5, h6⟩, ao, cap, h7, h8, h9, h10, h11⟩ := h
  exact ⟨World.block_lt_of_cell? _ _ h0, ao, cap, ⟨h0, h1, h2, h3, h4, h5, h6, h7⟩, h8, h9, h10, h11⟩
theorem dptL_take {c : List Nd} {j : Nat} {m : Nd} (h : c[j]? = some m) : dptL (c.take (j + 1)) = max (dptL (c.take j)) (dpt m) := by
  induction c generalizing j with
  | nil => simp at h
  | cons x r ih =>
    cases j with
    | zero =>
      simp at h
      subst h
      simp [dptL]
    | succ j =>
      simp at h
      simp only [List.take_succ_cons, dptL, ih h]
      omega
theorem dptL_le {c : List Nd} {j : Nat} : dptL (c.take j) ≤ dptL c := by
  induction c generalizing j with
  | nil => simp
  | cons x r ih =>
    cases j with
    | zero => simp [dptL]
    | succ j =>
      have := ih (j := j)
      simp only [List.take_succ_cons, dptL]
      omega
end Go.Proofs.YtkigadnkclkopaaGreat

set_option linter.unusedVariables false
set_option linter.unusedSimpArgs false
namespace Go.Proofs.YtkigadnkclkopaaGreat
open Go.RowKit

/-! The document's Events. -/
theorem Kp.low {S : Nat → Prop} {B : Nat} {w W W' : World} (h : Below B w W) (hk : Kp S W W') (hS : ∀ k, S k → B ≤ k) (hB : B ≤ W.heap.size) : Below B w W' :=
  ⟨hk.os.trans h.os, hk.tape.trans h.tape, hk.output.trans h.output, Nat.le_trans h.size hk.size, fun k hlt => (hk.block k (by omega) (fun hs => by have := hS k hs; omega)).trans (h.block k hlt)⟩
/-- A row of events of the call's own. -/
structure BI (W : World) (v : Value) (E : List Ev) (V : World) : Prop where
  bel : Below W.heap.size W V
  re : Re V v E
  vB : ∀ k, v.ownBlock = some k → W.heap.size ≤ k
theorem BI.push {W V V1 w3 : World} {v v' : Value} {E ds : List Ev} (h : BI W v E V) (hb : Below V.heap.size V V1) (hr : Re w3 v' (E ++ ds)) (hg : V1.grownBy w3 v.ownBlock) (hq : Nb V1 v v') : BI W v' (E ++ ds) w3 := by
  have hk3 := Kp.of_grown hg
  refine ⟨Kp.low (h.bel.trans (hb.mono h.bel.size)) hk3 (fun k e => h.vB k e.symm) (Nat.le_trans h.bel.size hb.size), hr, ?_⟩
  intro q e
  rcases hq with e1 | ⟨r, e1, hr1⟩
  · exact h.vB q (by rw [← e1]; exact e)
  · rw [e1] at e
    simp at e
    have := h.bel.size
    have := hb.size
    omega
theorem BI.below {W V V' : World} {v : Value} {E : List Ev} (h : BI W v E V) (hb : Below V.heap.size V V') : BI W v E V' := ⟨h.bel.trans (hb.mono h.bel.size), h.re.below hb, h.vB⟩
theorem rcomment_any (t : Tv) (W : World) : Calls Tryz.prog 86 #[t.v] W fun r w' => r = .returned (.bool (cm t)) ∧ Below W.heap.size W w' := by
  unfold cm
  dsimp only [Tv.v]
  obtain ⟨b7, e7⟩ : ∃ b, (t.k == 7) = b := ⟨_, rfl⟩
  obtain ⟨b8, e8⟩ : ∃ b, (t.k == 8) = b := ⟨_, rfl⟩
  rw [e7, e8]
  cases b7
  · cases b8
    · go_enter Tryz.func86, Tryz.ntmps86
      go_wp2_with fail
      go_ret
      exact ⟨rfl, below_new _ _⟩
    · go_enter Tryz.func86, Tryz.ntmps86
      go_wp2_with fail
      go_ret
      exact ⟨rfl, below_new _ _⟩
  · go_enter Tryz.func86, Tryz.ntmps86
    go_wp2_with fail
    go_ret
    exact ⟨rfl, below_new _ _⟩
theorem evsL_take {c : List Nd} {j : Nat} {m : Nd} (h : c[j]? = some m) : evsL (c.take (j + 1)) = evsL (c.take j) ++ evs m := by
  rw [List.take_add_one, h, evsL_app]
  simp [evsL]
theorem evsL_le {c : List Nd} {j : Nat} : (evsL (c.take j)).length ≤ (evsL c).length := by
  have : evsL c = evsL (c.take j) ++ evsL (c.drop j) := by rw [← evsL_app, List.take_append_drop]
  rw [this, List.length_append]
  omega
abbrev NdB (k : Int) (d : Tv) (s : Value) : Obj := .cells #[.int .u8 k, .int .u8 d.k, .string d.t, .int .i64 d.a, .int .i64 d.l, .int .i64 d.c, .int .i64 d.f, s] 32
/-- Between two rounds of a tree's telling: the row, the node's own block, what stands. -/
structure AI (w0 W : World) (q : Nat) (ob : Obj) (v v' : Value) (E : List Ev) (V : World) : Prop where
  bi : BI w0 v' E V
  nb : V.heap[q]? = some ob
  kp : Kp (fun k => v.ownBlock = some k) W V
  nb2 : Nb W v v'
theorem AI.step {w0 W : World} {q : Nat} {k : Int} {d : Tv} {sv v v' v4 : Value} {E E4 : List Ev} {V w4 : World} (h : AI w0 W q (NdB k d sv) v v' E V) (hb : BI w0 v4 E4 w4) (hk : Kp (fun q => v'.ownBlock = some q) V w4) (hn : Nb V v' v4) : AI w0 W q (NdB k d sv) v v4 E4 w4 := by
  refine ⟨hb, hk.blk h.nb (fun e => h.bi.re.ne h.nb (by decide) _ e rfl), h.kp.step hk (fun j hj e => ?_), Nb.trans h.nb2 hn h.kp.size⟩
  rcases h.nb2 with e1 | ⟨q, e1, hq⟩
  · rw [← e1]; exact e
  · rw [e1] at e
    simp at e
    omega
theorem AI.step' {w0 W : World} {q : Nat} {k : Int} {d : Tv} {sv v v' v4 : Value} {E ds : List Ev} {V V1 w4 : World} (h : AI w0 W q (NdB k d sv) v v' E V) (hb : Below V.heap.size V V1) (hr : Re w4 v4 (E ++ ds)) (hg : V1.grownBy w4 v'.ownBlock) (hn : Nb V1 v' v4) : AI w0 W q (NdB k d sv) v v4 (E ++ ds) w4 :=
  h.step (h.bi.push hb hr hg hn) ((Kp.of_below hb).step (Kp.of_grown hg) (fun k _ e => e.symm)) (hn.imp id (fun ⟨k, e, hk⟩ => ⟨k, e, Nat.le_trans hb.size hk⟩))
end Go.Proofs.YtkigadnkclkopaaGreat

set_option linter.unusedVariables false
set_option linter.unusedSimpArgs false
namespace Go.Proofs.YtkigadnkclkopaaGreat
open Go.RowKit

/-! Whole, of two trees that are one; how much a tree weighs. -/
theorem Nv.kid {W : World} {ao : Option Addr} {c : List Nd} (h : (ao = none → c = []) ∧ ∀ a, ao = some a → c = [] ∨ ∃ b o, a = ⟨b, o, none⟩ ∧ HL W b o c) {V : World} (hb : Below W.heap.size W V) {j : Nat} {m : Nd} (hm : c[j]? = some m) :
    ∃ b o, ao = some ⟨b, o, none⟩ ∧ b < V.heap.size ∧ ∃ ao2 cap2, (V.cell? ⟨b, o + j * 8, none⟩ = some (.int .u8 m.k) ∧ V.cell? ⟨b, o + j * 8 + 1, none⟩ = some (.int .u8 m.d.k) ∧ V.cell? ⟨b, o + j * 8 + 2, none⟩ = some (.string m.d.t) ∧ V.cell? ⟨b, o + j * 8 + 3, none⟩ = some (.int .i64 m.d.a) ∧ V.cell? ⟨b, o + j * 8 + 4, none⟩ = some (.int .i64 m.d.l) ∧ V.cell? ⟨b, o + j * 8 + 5, none⟩ = some (.int .i64 m.d.c) ∧ V.cell? ⟨b, o + j * 8 + 6, none⟩ = some (.int .i64 m.d.f) ∧ V.cell? ⟨b, o + j * 8 + 7, none⟩ = some (.slice ao2 m.c.length cap2)) ∧
      Nv V (.agg #[.int .u8 m.k, .int .u8 m.d.k, .string m.d.t, .int .i64 m.d.a, .int .i64 m.d.l, .int .i64 m.d.c, .int .i64 m.d.f, .slice ao2 m.c.length cap2]) m := by
  have hlt := (List.getElem?_eq_some_iff.1 hm).1
  cases ao with
  | none => have := h.1 rfl; subst this; simp at hlt
  | some a =>
    obtain ⟨b, o, rfl, hl⟩ := (h.2 a rfl).resolve_left (fun e => by subst e; simp at hlt)
    obtain ⟨hbl, ao2, cap2, hc, p1, p2, p3, p4⟩ := hn_cells (HL.at (HL.below hb c b o hl) hm)
    exact ⟨b, o, rfl, hbl, ao2, cap2, hc, ao2, cap2, rfl, p1, p2, p3, p4⟩
def WholeC (n : Nd) : Prop := ∀ va vb W, Nv W va n → Nv W vb n → Calls Tryz.prog 8 #[va, vb] W fun r w' => r = .returned (.bool true) ∧ Below W.heap.size W w'
set_option maxRecDepth 100000 in
set_option maxHeartbeats 800000 in
theorem whole_step (n : Nd) (IH : ∀ m, m ∈ n.c → WholeC m) : WholeC n := by
  intro va vb W h h'
  obtain ⟨ao, cap, rfl, q1, q2, q3, q4⟩ := h
  obtain ⟨bo, cap', rfl, q1', q2', q3', q4'⟩ := h'
  obtain ⟨k, d, c⟩ := n
  dsimp only [Nd.k, Nd.d, Nd.c] at *
  have HQ : Hid ((ao = none → c = []) ∧ ∀ a, ao = some a → c = [] ∨ ∃ b o, a = ⟨b, o, none⟩ ∧ HL W b o c) := ⟨q3, q4⟩
  have HQ' : Hid ((bo = none → c = []) ∧ ∀ a, bo = some a → c = [] ∨ ∃ b o, a = ⟨b, o, none⟩ ∧ HL W b o c) := ⟨q3', q4'⟩
  have HIH : Hid (∀ m, m ∈ c → WholeC m) := IH
  obtain ⟨W1, eW⟩ : ∃ W1, W1 = (W.alloc (NdB k d (.slice ao c.length cap))).alloc (NdB k d (.slice bo c.length cap')) := ⟨_, rfl⟩
  have hb0 := below_new W (NdB k d (.slice ao c.length cap))
  have hb1 := below_new (W.alloc (NdB k d (.slice ao c.length cap))) (NdB k d (.slice bo c.length cap'))
  have HB1 : Hid (Below W.heap.size W W1 ∧ W1.heap[W.heap.size]? = some (NdB k d (.slice ao c.length cap)) ∧ W1.heap[W.heap.size + 1]? = some (NdB k d (.slice bo c.length cap'))) := by
    rw [eW]
    exact ⟨hb0.trans (hb1.mono hb0.size), blk_below (new_at _ _) hb1, by rw [← World.size_alloc W (NdB k d (.slice ao c.length cap))]; exact new_at _ _⟩
  have hcl : (c.length : Int) ≤ 9223372036854775807 := by have : maxLen = 9223372036854775807 := rfl; omega
  clear q3 q4 q3' q4' IH hb0 hb1
  go_enter Tryz.func8, Tryz.ntmps8
  go_wp2_with fail
  try rw [← eW]
  clear eW
  go_loopw [5, 6] (fun iv _ wr => ∃ j : Nat, j ≤ c.length ∧ iv = .int .i64 j ∧ Hid (Below W1.heap.size W1 wr)) (fun iv _ _ => c.length - (intOf iv).toNat)
  case atStart => exact ⟨0, Nat.zero_le _, rfl, Below.refl _ _⟩
  case round =>
    obtain ⟨j, hj, rfl, HJ⟩ := hrel
    have x7 : wr.cell? ⟨W.heap.size, 7, none⟩ = some (.slice ao c.length cap) := blk_cell (blk_below HB1.out.2.1 HJ.out) rfl
    have z7 : wr.cell? ⟨W.heap.size + 1, 7, none⟩ = some (.slice bo c.length cap') := blk_cell (blk_below HB1.out.2.2 HJ.out) rfl
    have xl : W.heap.size < wr.heap.size := blk_lt (blk_below HB1.out.2.1 HJ.out)
    have zl : W.heap.size + 1 < wr.heap.size := blk_lt (blk_below HB1.out.2.2 HJ.out)
    by_cases hlt : j < c.length
    · have z1 : (j : Int) < c.length := by omega
      have z2 : (0 : Int) ≤ j := by omega
      obtain ⟨m, hm⟩ : ∃ m, c[j]? = some m := ⟨_, List.getElem?_eq_getElem hlt⟩
      have hmm : m ∈ c := List.mem_of_getElem? hm
      have hbr : Below W.heap.size W wr := HB1.out.1.trans (HJ.out.mono HB1.out.1.size)
      obtain ⟨b, o, rfl, hbl, ao2, cap2, ⟨y0, y1, y2, y3, y4, y5, y6, y7⟩, hv⟩ := Nv.kid HQ.out hbr hm
      obtain ⟨b', o', rfl, hbl', ao3, cap3, ⟨u0, u1, u2, u3, u4, u5, u6, u7⟩, hv'⟩ := Nv.kid HQ'.out hbr hm
      have HC : Hid (∀ V, Below wr.heap.size wr V → Calls Tryz.prog 8 #[.agg #[.int .u8 m.k, .int .u8 m.d.k, .string m.d.t, .int .i64 m.d.a, .int .i64 m.d.l, .int .i64 m.d.c, .int .i64 m.d.f, .slice ao2 m.c.length cap2], .agg #[.int .u8 m.k, .int .u8 m.d.k, .string m.d.t, .int .i64 m.d.a, .int .i64 m.d.l, .int .i64 m.d.c, .int .i64 m.d.f, .slice ao3 m.c.length cap3]] V fun r w' => r = .returned (.bool true) ∧ Below V.heap.size V w') := fun V hb => HIH.out m hmm _ _ V (hv.below hb) (hv'.below hb)
      clear hm hmm hv hv' hbr
      go_wp2_with fail
      go_region_with (go_at_call 8; refine (HC.out _ (by first | exact Below.refl _ _ | exact (Below.refl _ _).drew)).mono ?_; rintro r w2 ⟨rfl, hb2⟩; have H2 : Hid (Below W1.heap.size W1 w2) := HJ.out.drew.trans (hb2.mono HJ.out.size); clear hb2)
      all_goals (
        go_wp2_with fail
        exact ⟨⟨j + 1, hlt, by go_num, H2⟩, by simp [intOf]; omega⟩)
    · obtain rfl : j = c.length := by omega
      have z1 : ¬ ((c.length : Int) < c.length) := by omega
      go_wp2_with fail
      go_ret
      exact ⟨rfl, HB1.out.1.trans (HJ.out.mono HB1.out.1.size)⟩
theorem whole_any (n : Nd) : WholeC n := by
  obtain ⟨s, hs⟩ : ∃ s, nsz n = s := ⟨_, rfl⟩
  induction s using Nat.strongRecOn generalizing n with
  | ind s ih => exact whole_step n (fun m hm => ih (nsz m) (by rw [← hs]; exact nsz_kid hm) m rfl)

end Go.Proofs.YtkigadnkclkopaaGreat

set_option linter.unusedVariables false
set_option linter.unusedSimpArgs false
namespace Go.Proofs.YtkigadnkclkopaaGreat
open Go.RowKit

/-! The law's weight. -/
mutual
def wgt : Nd → Nat → Nat → Nat
  | .mk k d c, n, dp => if 3000 < dp then 16777217 else wgtL c (n + 1) (dp + 1)
def wgtL : List Nd → Nat → Nat → Nat
  | [], n, _ => n
  | x :: r, n, dp => if n ≤ 16777216 then wgtL r (wgt x n dp) dp else n
end
mutual
theorem wgt_le : ∀ (x : Nd) (n dp : Nat), n ≤ 16777216 → wgt x n dp ≤ 16777217
  | .mk k d c, n, dp, h => by
    simp only [wgt]
    split
    · exact Nat.le_refl _
    · exact wgtL_le c (n + 1) (dp + 1) (by omega)
theorem wgtL_le : ∀ (c : List Nd) (n dp : Nat), n ≤ 16777217 → wgtL c n dp ≤ 16777217
  | [], n, dp, h => by simpa [wgtL] using h
  | x :: r, n, dp, h => by
    simp only [wgtL]
    split
    · rename_i h1
      exact wgtL_le r _ dp (wgt_le x n dp h1)
    · exact h
end
theorem wgtL_far {c : List Nd} {n dp : Nat} (h : 16777216 < n) : wgtL c n dp = n := by
  cases c with
  | nil => simp [wgtL]
  | cons x r =>
    simp only [wgtL]
    rw [if_neg (by omega)]
mutual
/-- What is weighed is small. -/
theorem wgt_ok : ∀ (x : Nd) (n dp : Nat), wgt x n dp ≤ 16777216 → wgt x n dp = n + nsz x ∧ dpt x + dp ≤ 3001
  | .mk k d c, n, dp, h => by
    simp only [wgt] at h ⊢
    split at h
    · omega
    · rename_i hd
      rw [if_neg hd]
      obtain ⟨a, b⟩ := wgtL_ok c (n + 1) (dp + 1) h
      refine ⟨by rw [a]; simp only [nsz]; omega, ?_⟩
      simp only [dpt]
      split
      · omega
      · omega
theorem wgtL_ok : ∀ (c : List Nd) (n dp : Nat), wgtL c n dp ≤ 16777216 → wgtL c n dp = n + nszL c ∧ (dptL c = 0 ∨ dptL c + dp ≤ 3001)
  | [], n, dp, h => by simp [wgtL, nszL, dptL]
  | x :: r, n, dp, h => by
    simp only [wgtL] at h ⊢
    split at h
    · rename_i h1
      rw [if_pos h1]
      obtain ⟨a, b⟩ := wgtL_ok r (wgt x n dp) dp h
      have hw : wgt x n dp ≤ 16777216 := by omega
      obtain ⟨a2, b2⟩ := wgt_ok x n dp hw
      refine ⟨by rw [a, a2]; simp only [nszL]; omega, ?_⟩
      simp only [dptL]
      omega
    · omega
end
theorem wgtL_drop {c : List Nd} {j n dp : Nat} {m : Nd} (hm : c[j]? = some m) (hn : n ≤ 16777216) : wgtL (c.drop j) n dp = wgtL (c.drop (j + 1)) (wgt m n dp) dp := by
  obtain ⟨a1, a2⟩ := List.getElem?_eq_some_iff.1 hm
  rw [List.drop_eq_getElem_cons a1, a2]
  simp only [wgtL, if_pos hn]
end Go.Proofs.YtkigadnkclkopaaGreat
