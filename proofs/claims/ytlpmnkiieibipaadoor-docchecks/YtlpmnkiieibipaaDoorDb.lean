import Derived.Test.YtlpmnkiieibipaaDoorDa
set_option linter.unusedVariables false
set_option linter.unusedSimpArgs false
namespace Go.Proofs.YtlpmnkiieibipaaDoor
open Go.Lib (itoa decDigits atoiAll)

/-- A piece of a layout. -/
structure Dc where
  k : Int
  t : ByteArray
  b : Int
  i : Int
  e : Bool
  deriving DecidableEq

def bE : ByteArray := ⟨#[]⟩
def ls (s : ByteArray) : List UInt8 := s.data.toList
theorem ls_inj {a b : ByteArray} (h : ls a = ls b) : a = b := by
  cases a; cases b; simp only [ls] at h; rw [Array.toList_inj.1 h]
theorem ls_len (s : ByteArray) : (ls s).length = s.size := by simp [ls]
theorem ls_mk (l : List UInt8) : ls ⟨l.toArray⟩ = l := by simp [ls]

def edg (c : UInt8) : Bool := c == 32 || c == 10
def rtT (s : ByteArray) : Bool := decide (1 ≤ s.size) && (decide (s.size ≤ 65535) && (!edg ((ls s).getD 0 0) && !edg ((ls s).getD (s.size - 1) 0)))
def rtN (n : Int) : Bool := decide (0 ≤ n) && decide (n ≤ 1000)
/-- Is a piece right? -/
def rt (d : Dc) : Bool :=
  if d.k = 1 then rtT d.t && decide (d = ⟨1, d.t, 0, 0, false⟩)
  else if d.k = 3 then rtN d.b && decide (d = ⟨3, bE, d.b, 0, false⟩)
  else if d.k = 6 then rtN d.i && decide (d = ⟨6, bE, 0, d.i, d.e⟩)
  else if d.k = 2 ∨ d.k = 4 ∨ d.k = 5 ∨ d.k = 7 then decide (d = ⟨d.k, bE, 0, 0, false⟩) else false

/-- A right piece is one of seven. -/
inductive Rt : Dc → Prop
  | text (t : ByteArray) (h : rtT t = true) : Rt ⟨1, t, 0, 0, false⟩
  | brk (n : Int) (h : rtN n = true) : Rt ⟨3, bE, n, 0, false⟩
  | beg (n : Int) (e : Bool) (h : rtN n = true) : Rt ⟨6, bE, 0, n, e⟩
  | blank : Rt ⟨2, bE, 0, 0, false⟩
  | hard : Rt ⟨4, bE, 0, 0, false⟩
  | empty : Rt ⟨5, bE, 0, 0, false⟩
  | «end» : Rt ⟨7, bE, 0, 0, false⟩
theorem rt_of {d : Dc} (h : rt d = true) : Rt d := by
  unfold rt at h
  split at h
  · simp only [Bool.and_eq_true, decide_eq_true_eq] at h
    obtain ⟨h1, h2⟩ := h
    rw [h2]; exact .text _ h1
  · split at h
    · simp only [Bool.and_eq_true, decide_eq_true_eq] at h
      obtain ⟨h1, h2⟩ := h
      rw [h2]; exact .brk _ h1
    · split at h
      · simp only [Bool.and_eq_true, decide_eq_true_eq] at h
        obtain ⟨h1, h2⟩ := h
        rw [h2]; exact .beg _ _ h1
      · split at h
        · rename_i h4
          simp only [decide_eq_true_eq] at h
          obtain ⟨k, t, b, i, e⟩ := d
          simp only [Dc.mk.injEq, true_and] at h
          obtain ⟨rfl, rfl, rfl, rfl⟩ := h
          simp only at h4
          rcases h4 with rfl | rfl | rfl | rfl
          · exact .blank
          · exact .hard
          · exact .empty
          · exact .end
        · cases h
theorem rt_mk {d : Dc} (h : Rt d) : rt d = true := by
  cases h with
  | text t h => simp [rt, h]
  | brk n h => simp [rt, h]
  | beg n e h => simp [rt, h]
  | blank => rfl
  | hard => rfl
  | empty => rfl
  | «end» => rfl
theorem rtN_of {n : Int} (h : rtN n = true) : 0 ≤ n ∧ n ≤ 1000 := by simpa [rtN] using h

/-! The line of a piece. -/
def wds : List (List UInt8) := [[], [116, 101, 120, 116], [98, 108, 97, 110, 107], [98, 114, 101, 97, 107], [104, 97, 114, 100], [101, 109, 112, 116, 121], [98, 101, 103, 105, 110], [101, 110, 100]]
def lin (d : Dc) : List UInt8 :=
  if d.k = 1 then [116, 101, 120, 116, 32] ++ esc (ls d.t)
  else if d.k = 2 then [98, 108, 97, 110, 107]
  else if d.k = 3 then [98, 114, 101, 97, 107, 32] ++ itoa d.b
  else if d.k = 4 then [104, 97, 114, 100]
  else if d.k = 5 then [101, 109, 112, 116, 121]
  else if d.k = 6 then [98, 101, 103, 105, 110, 32] ++ (itoa d.i ++ evn d.e)
  else [101, 110, 100]
theorem rtT_len {t : ByteArray} (h : rtT t = true) : 1 ≤ t.size ∧ t.size ≤ 65535 := by
  simp only [rtT, Bool.and_eq_true, decide_eq_true_eq] at h
  exact ⟨h.1, h.2.1⟩
theorem lin_pos {d : Dc} : 1 ≤ (lin d).length := by
  unfold lin
  repeat' split
  all_goals simp
theorem lin_len {d : Dc} (h : rt d = true) : (lin d).length ≤ 262145 := by
  cases rt_of h with
  | text t hq =>
    have h1 := (esc_len (ls t)).2
    have h2 := rtT_len hq
    rw [ls_len] at h1
    simp only [lin, if_pos, List.length_append]
    simp; omega
  | brk n hq =>
    obtain ⟨h1, h2⟩ := rtN_of hq
    have := (itoa_len h1 h2).2
    simp [lin]; omega
  | beg n e hq =>
    obtain ⟨h1, h2⟩ := rtN_of hq
    have := (itoa_len h1 h2).2
    cases e <;> simp [lin, evn, even5] <;> omega
  | blank => simp [lin]
  | hard => simp [lin]
  | empty => simp [lin]
  | «end» => simp [lin]
theorem itoa_ne10 {n : Int} (h : rtN n = true) (c : UInt8) (hc : c.toNat < 48 ∨ 57 < c.toNat) : c ∉ itoa n := by
  obtain ⟨h1, h2⟩ := rtN_of h
  intro hm
  have := itoa_dig h1 h2 c hm
  omega
theorem lin_ne10 {d : Dc} (h : rt d = true) : ∀ x ∈ lin d, x ≠ 10 := by
  cases rt_of h with
  | text t hq =>
    intro x hx
    simp only [lin, if_pos, List.mem_append] at hx
    rcases hx with hx | hx
    · revert x; decide
    · exact esc_ne10 _ x hx
  | brk n hq =>
    intro x hx
    simp [lin] at hx
    rcases hx with rfl | rfl | rfl | rfl | rfl | rfl | hx
    all_goals first | decide | (rintro rfl; exact itoa_ne10 hq 10 (.inl (by decide)) hx)
  | beg n e hq =>
    intro x hx
    simp [lin] at hx
    rcases hx with rfl | rfl | rfl | rfl | rfl | rfl | hx | hx
    · decide
    · decide
    · decide
    · decide
    · decide
    · decide
    · rintro rfl; exact itoa_ne10 hq 10 (.inl (by decide)) hx
    · cases e
      · simp [evn] at hx
      · simp [evn, even5] at hx
        rcases hx with rfl | rfl | rfl | rfl | rfl <;> decide
  | blank => simp [lin]
  | hard => simp [lin]
  | empty => simp [lin]
  | «end» => simp [lin]
theorem evn_inj {a b : Bool} (h : evn a = evn b) : a = b := by cases a <;> cases b <;> first | rfl | (exact absurd h (by decide))
theorem lin_inj {a b : Dc} (ha : rt a = true) (hb : rt b = true) (h : lin a = lin b) : a = b := by
  cases rt_of ha with
  | text t h1 =>
    cases rt_of hb with
    | text t' h2 => simp [lin] at h; rw [ls_inj (esc_inj h)]
    | brk n h2 => simp [lin] at h
    | beg n e h2 => simp [lin] at h
    | blank => simp [lin] at h
    | hard => simp [lin] at h
    | empty => simp [lin] at h
    | «end» => simp [lin] at h
  | brk n h1 =>
    cases rt_of hb with
    | brk n' h2 =>
      simp [lin] at h
      obtain ⟨a1, a2⟩ := rtN_of h1
      obtain ⟨b1, b2⟩ := rtN_of h2
      have e1 := atoi_itoa a1 a2
      rw [h, atoi_itoa b1 b2] at e1
      injection e1 with e1
      rw [e1]
    | text t h2 => simp [lin] at h
    | beg n e h2 => simp [lin] at h
    | blank => simp [lin] at h
    | hard => simp [lin] at h
    | empty => simp [lin] at h
    | «end» => simp [lin] at h
  | beg n e h1 =>
    cases rt_of hb with
    | beg n' e' h2 =>
      simp [lin] at h
      obtain ⟨a1, a2⟩ := rtN_of h1
      obtain ⟨b1, b2⟩ := rtN_of h2
      have e1 := nm4_itoa a1 a2 e
      rw [h, nm4_itoa b1 b2 e'] at e1
      obtain rfl : n' = n := by omega
      rw [evn_inj (List.append_cancel_left h)]
    | text t h2 => simp [lin] at h
    | brk n h2 => simp [lin] at h
    | blank => simp [lin] at h
    | hard => simp [lin] at h
    | empty => simp [lin] at h
    | «end» => simp [lin] at h
  | blank => cases rt_of hb <;> first | rfl | (simp [lin] at h)
  | hard => cases rt_of hb <;> first | rfl | (simp [lin] at h)
  | empty => cases rt_of hb <;> first | rfl | (simp [lin] at h)
  | «end» => cases rt_of hb <;> first | rfl | (simp [lin] at h)

/-- The right piece whose line that is. -/
noncomputable def rd (s : List UInt8) : Option Dc := by
  classical
  exact if h : ∃ d, rt d = true ∧ lin d = s then some h.choose else none
theorem rd_of {s : List UInt8} {d : Dc} (h : rd s = some d) : rt d = true ∧ lin d = s := by
  classical
  unfold rd at h
  split at h
  · rename_i h1
    cases h
    exact h1.choose_spec
  · cases h
theorem rd_is {d : Dc} (h : rt d = true) : rd (lin d) = some d := by
  classical
  have h1 : ∃ d', rt d' = true ∧ lin d' = lin d := ⟨d, h, rfl⟩
  unfold rd
  rw [dif_pos h1]
  exact congrArg some (lin_inj h1.choose_spec.1 h h1.choose_spec.2)
/-- Whoever answers so answers as that. -/
theorem rd_eq {s : List UInt8} {r : Option Dc} (h1 : ∀ d, r = some d → rt d = true ∧ lin d = s) (h2 : ∀ d, rt d = true → lin d = s → r = some d) : r = rd s := by
  cases hr : rd s with
  | some d =>
    obtain ⟨a, b⟩ := rd_of hr
    exact h2 d a b
  | none =>
    cases r with
    | none => rfl
    | some d =>
      obtain ⟨a, b⟩ := h1 d rfl
      rw [← b, rd_is a] at hr
      cases hr

/-! Layouts: which may be. -/
def dep (k : Int) : Int := if k = 6 then 1 else if k = 7 then -1 else 0
def frm : Int → Nat → List Dc → Option Nat
  | o, j, [] => if 0 < o then some j else none
  | o, j, d :: r => if rt d = true ∧ 0 ≤ o + dep d.k then frm (o + dep d.k) (j + 1) r else some j
def chk (l : List Dc) : Int × Int := if 2097152 < l.length then (2, 0) else match frm 0 0 l with | some j => (70, (j : Int)) | none => (0, 0)
theorem frm_rt : ∀ (l : List Dc) (o : Int) (j : Nat), frm o j l = none → ∀ d ∈ l, rt d = true
  | [], _, _, _ => by simp
  | d :: r, o, j, h => by
    simp only [frm] at h
    split at h
    · rename_i hc
      intro x hx
      rcases List.mem_cons.1 hx with rfl | hx
      · exact hc.1
      · exact frm_rt r _ _ h x hx
    · cases h
theorem chk_ok {l : List Dc} (h : (chk l).1 = 0) : l.length ≤ 2097152 ∧ frm 0 0 l = none ∧ (∀ d ∈ l, rt d = true) ∧ chk l = (0, 0) := by
  unfold chk at h ⊢
  split at h
  · exact absurd h (by decide)
  · rename_i h1
    rw [if_neg h1]
    cases hf : frm 0 0 l with
    | some j => rw [hf] at h; exact absurd h (by simp)
    | none => exact ⟨by omega, rfl, frm_rt l _ _ hf, rfl⟩
theorem frm_le : ∀ (l : List Dc) (o : Int) (j k : Nat), frm o j l = some k → k ≤ j + l.length
  | [], o, j, k, h => by
    simp only [frm] at h
    split at h <;> cases h
    simp
  | d :: r, o, j, k, h => by
    simp only [frm] at h
    split at h
    · have := frm_le r _ _ k h
      simp; omega
    · cases h; omega
theorem chk_bd (l : List Dc) : 0 ≤ (chk l).1 ∧ (chk l).1 ≤ 70 ∧ 0 ≤ (chk l).2 ∧ (chk l).2 ≤ 2097152 := by
  unfold chk
  split
  · simp
  · rename_i h1
    cases hf : frm 0 0 l with
    | some j => have := frm_le l 0 0 j hf; simp; omega
    | none => simp

/-! Their text. -/
def lns (l : List Dc) : List UInt8 := l.flatMap fun d => lin d ++ [10]
theorem lns_nil : lns [] = [] := rfl
theorem lns_cons (d : Dc) (l : List Dc) : lns (d :: l) = lin d ++ 10 :: lns l := by simp [lns]
theorem lns_app (a b : List Dc) : lns (a ++ b) = lns a ++ lns b := by unfold lns; exact List.flatMap_append
def prn (l : List Dc) : List UInt8 × Int := if (chk l).1 ≠ 0 then ([], (chk l).1) else if 4194304 < (lns l).length then ([], 2) else (lns l, 0)

/-! The text, read. -/
def ln1 (s : List UInt8) : List UInt8 := s.takeWhile (· != 10)
def ln2 (s : List UInt8) : List UInt8 := (s.dropWhile (· != 10)).tail
theorem ln_split (s : List UInt8) (h : (10 : UInt8) ∈ s) : s = ln1 s ++ 10 :: ln2 s := by
  unfold ln1 ln2
  induction s with
  | nil => simp at h
  | cons c r ih =>
    by_cases hc : c = 10
    · subst hc; simp
    · have hr : (10 : UInt8) ∈ r := by simpa [Ne.symm hc] using h
      simp only [List.takeWhile_cons, List.dropWhile_cons]
      simp [hc]
      exact ih hr
theorem ln1_no (s : List UInt8) (h : (10 : UInt8) ∉ s) : ln1 s = s := by
  unfold ln1
  induction s with
  | nil => rfl
  | cons c r ih =>
    simp at h
    simp only [List.takeWhile_cons]
    simp [Ne.symm h.1]
    exact ih h.2
theorem ln1_ne (s : List UInt8) : (10 : UInt8) ∉ ln1 s := by
  unfold ln1
  induction s with
  | nil => simp
  | cons c r ih =>
    simp only [List.takeWhile_cons]
    split
    · rename_i h; simp at h; simp [Ne.symm h]; exact ih
    · simp
theorem ln_of (a b : List UInt8) (h : (10 : UInt8) ∉ a) : ln1 (a ++ 10 :: b) = a ∧ ln2 (a ++ 10 :: b) = b := by
  unfold ln1 ln2
  induction a with
  | nil => simp
  | cons c r ih =>
    simp at h
    obtain ⟨h1, h2⟩ := ih h.2
    simp only [List.cons_append, List.takeWhile_cons, List.dropWhile_cons]
    simp [Ne.symm h.1]
    exact ⟨h1, h2⟩
theorem ln2_lt (s : List UInt8) (h : (10 : UInt8) ∈ s) : (ln2 s).length < s.length := by
  have := congrArg List.length (ln_split s h)
  simp at this; omega

open Classical in
noncomputable def prs1 (s : List UInt8) (acc : List Dc) : List Dc × Bool :=
  if s = [] then (acc, true)
  else if h : (10 : UInt8) ∈ s then (match rd (ln1 s) with | none => (acc, false) | some d => prs1 (ln2 s) (acc ++ [d])) else (acc, false)
  termination_by s.length
  decreasing_by exact ln2_lt s h
theorem prs1_nil (acc : List Dc) : prs1 [] acc = (acc, true) := by rw [prs1]; simp
theorem prs1_no {s : List UInt8} (acc : List Dc) (hs : s ≠ []) (h : (10 : UInt8) ∉ s) : prs1 s acc = (acc, false) := by rw [prs1, if_neg hs, dif_neg h]
theorem prs1_bad {s : List UInt8} (acc : List Dc) (h : (10 : UInt8) ∈ s) (hr : rd (ln1 s) = none) : prs1 s acc = (acc, false) := by
  rw [prs1, if_neg (by rintro rfl; simp at h), dif_pos h, hr]
theorem prs1_good {s : List UInt8} (acc : List Dc) {d : Dc} (h : (10 : UInt8) ∈ s) (hr : rd (ln1 s) = some d) : prs1 s acc = prs1 (ln2 s) (acc ++ [d]) := by
  rw [prs1, if_neg (by rintro rfl; simp at h), dif_pos h, hr]
noncomputable def prs (s : List UInt8) : List Dc × Int × Int :=
  if 4194304 < s.length then ([], 2, 0)
  else if (prs1 s []).2 = false then ([], 71, ((prs1 s []).1.length + 1 : Nat))
  else if (chk (prs1 s []).1).1 ≠ 0 then ([], (chk (prs1 s []).1).1, (chk (prs1 s []).1).2 + 1)
  else ((prs1 s []).1, 0, 0)

theorem prs1_lns : ∀ (l : List Dc) (t : List UInt8) (acc : List Dc), (∀ d ∈ l, rt d = true) → prs1 (lns l ++ t) acc = prs1 t (acc ++ l)
  | [], t, acc, _ => by simp [lns]
  | d :: r, t, acc, h => by
    have hd := h d (by simp)
    have e : lns (d :: r) ++ t = lin d ++ 10 :: (lns r ++ t) := by rw [lns_cons]; simp
    obtain ⟨h1, h2⟩ := ln_of (lin d) (lns r ++ t) (fun hm => lin_ne10 hd 10 hm rfl)
    rw [e, prs1_good acc (by simp) (by rw [h1]; exact rd_is hd), h2, prs1_lns r t _ (fun x hx => h x (by simp [hx]))]
    simp
theorem prs1_back : ∀ (n : Nat) (s : List UInt8) (acc l : List Dc) (b : Bool), s.length ≤ n → prs1 s acc = (l, b) → ∃ m, l = acc ++ m ∧ (∀ d ∈ m, rt d = true) ∧ m.length ≤ s.length ∧ (b = true → lns m = s)
  | n, s, acc, l, b, hn, h => by
    by_cases hs : s = []
    · subst hs
      rw [prs1_nil] at h; cases h
      exact ⟨[], by simp, by simp, by simp, fun _ => rfl⟩
    · by_cases h10 : (10 : UInt8) ∈ s
      · cases hr : rd (ln1 s) with
        | none => rw [prs1_bad acc h10 hr] at h; cases h; exact ⟨[], by simp, by simp, by simp, fun h => by cases h⟩
        | some d =>
          rw [prs1_good acc h10 hr] at h
          have hlt := ln2_lt s h10
          match n, hn with
          | 0, hn => exact absurd (List.eq_nil_of_length_eq_zero (by omega)) hs
          | n + 1, hn =>
            obtain ⟨m, h1, h2, h3, h4⟩ := prs1_back n (ln2 s) _ l b (by omega) h
            obtain ⟨a1, a2⟩ := rd_of hr
            refine ⟨d :: m, by simp [h1], ?_, by simp; omega, ?_⟩
            · intro x hx
              rcases List.mem_cons.1 hx with rfl | hx
              · exact a1
              · exact h2 x hx
            · intro hb
              rw [lns_cons, a2, h4 hb]
              exact (ln_split s h10).symm
      · rw [prs1_no acc hs h10] at h; cases h
        exact ⟨[], by simp, by simp, by simp, fun h => by cases h⟩

theorem lns_len (l : List Dc) : l.length ≤ (lns l).length := by
  induction l with
  | nil => simp [lns]
  | cons d r ih => rw [lns_cons]; simp; omega
theorem lns_take (l : List Dc) (j : Nat) : (lns (l.take j)).length ≤ (lns l).length := by
  have h := congrArg (fun x => (lns x).length) (List.take_append_drop j l)
  simp only [lns_app, List.length_append] at h
  omega
/-- What is printed is read. -/
theorem prs_prn {l : List Dc} (h : (prn l).2 = 0) : (prn l).1 = lns l ∧ (chk l) = (0, 0) ∧ (lns l).length ≤ 4194304 ∧ prs (lns l) = (l, 0, 0) := by
  unfold prn at h ⊢
  split at h
  · rename_i h1; exact absurd h h1
  · rename_i h1
    rw [if_neg h1]
    split at h
    · exact absurd h (by decide)
    · rename_i h2
      rw [if_neg h2]
      have h1' : (chk l).1 = 0 := by simpa using h1
      obtain ⟨a1, a2, a3, a4⟩ := chk_ok h1'
      refine ⟨rfl, a4, by omega, ?_⟩
      have e : prs1 (lns l) [] = (l, true) := by
        have := prs1_lns l [] [] a3
        rw [List.append_nil, prs1_nil] at this
        simpa using this
      unfold prs
      rw [if_neg h2, e]
      simp [h1']
theorem prs_ok {s : List UInt8} (h : (prs s).2.1 = 0) : prn (prs s).1 = (s, 0) ∧ lns (prs s).1 = s ∧ (∀ d ∈ (prs s).1, rt d = true) ∧ s.length ≤ 4194304 ∧ (prs s).2.2 = 0 := by
  unfold prs at h ⊢
  split at h
  · exact absurd h (by decide)
  · rename_i h1
    rw [if_neg h1]
    split at h
    · exact absurd h (by simp)
    · rename_i h2
      rw [if_neg h2]
      split at h
      · rename_i h3; exact absurd h h3
      · rename_i h3
        rw [if_neg h3]
        simp only
        cases hp : prs1 s [] with
        | mk l b =>
          rw [hp] at h2 h3
          simp only at h2 h3 ⊢
          obtain ⟨m, e1, e2, e3, e4⟩ := prs1_back s.length s [] l b (Nat.le_refl _) hp
          have hb : b = true := by cases b <;> simp_all
          simp at e1
          subst e1
          have e5 := e4 hb
          refine ⟨?_, e5, e2, by omega, trivial⟩
          unfold prn
          rw [if_neg h3, e5, if_neg h1]
theorem prs_err {s : List UInt8} (h : (prs s).2.1 ≠ 0) : (prs s).1 = [] := by
  unfold prs at h ⊢
  split
  · rfl
  · split
    · rfl
    · split
      · rfl
      · rename_i h1 h2 h3
        rw [if_neg h1, if_neg h2, if_neg h3] at h
        exact absurd rfl h
/-- A byte 0A less, and it is read no more. -/
theorem prs_less {s : List UInt8} (h : (prs s).2.1 = 0) (hs : s ≠ []) : prs (s.take (s.length - 1)) = ([], 71, ((prs s).1.length : Int)) := by
  obtain ⟨-, h1, h2, h3, -⟩ := prs_ok h
  obtain ⟨l, hl⟩ : ∃ l, (prs s).1 = l := ⟨_, rfl⟩
  rw [hl] at h1 h2 ⊢
  have hne : l ≠ [] := by rintro rfl; exact hs h1.symm
  obtain ⟨m, d, rfl⟩ : ∃ m d, l = m ++ [d] := ⟨l.dropLast, l.getLast hne, (List.dropLast_concat_getLast hne).symm⟩
  have hd := h2 d (by simp)
  have e1 : s = (lns m ++ lin d) ++ [10] := by rw [← h1, lns_app, lns_cons]; simp [lns]
  have e2 : s.take (s.length - 1) = lns m ++ lin d := by
    rw [e1, List.length_append]
    simp only [List.length_cons, List.length_nil, Nat.add_sub_cancel]
    exact List.take_left' rfl
  have e3 : prs1 (lns m ++ lin d) [] = (m, false) := by
    rw [prs1_lns m (lin d) [] (fun x hx => h2 x (by simp [hx])), prs1_no _ (by intro h; have := @lin_pos d; rw [h] at this; simp at this) (fun hm => lin_ne10 hd 10 hm rfl)]
    simp
  unfold prs
  rw [e2, if_neg (by rw [← e2, List.length_take]; omega), e3]
  simp
theorem cnt10 (l : List Dc) (h : ∀ d ∈ l, rt d = true) : (lns l).count 10 = l.length := by
  induction l with
  | nil => rfl
  | cons d r ih =>
    rw [lns_cons, List.count_append, List.count_cons, ih (fun x hx => h x (by simp [hx])), List.count_eq_zero_of_not_mem (fun hm => lin_ne10 (h d (by simp)) 10 hm rfl)]
    simp
end Go.Proofs.YtlpmnkiieibipaaDoor
