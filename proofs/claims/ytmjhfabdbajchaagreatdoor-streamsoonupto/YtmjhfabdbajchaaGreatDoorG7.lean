import Derived.Test.YtmjhfabdbajchaaGreatDoorRows
import Derived.Lib.Bytealg
import Derived.Lib.Strings
import Derived.Test.YtmjhfabdbajchaaGreatDoorG3
import Derived.WalkKit
import Derived.WalkSpells
import Derived.WalkLawsBesides
import Derived.WalkSmall
import Derived.Deep.RegionLaw
import Derived.Deep.AppendLies
import Derived.Maps.AppendAt
import Derived.Lib.AppendStr
import Derived.Lib.LaidTab
import Derived.BigQuiet
import Derived.Lib.ItoaWalk
import Derived.Deep.RegionHeld3
import Derived.Test.YtmjhfabdbajchaaGreatDoorG4
set_option linter.unusedVariables false
set_option linter.unusedSimpArgs false
namespace Go.Proofs.YtmjhfabdbajchaaGreatDoor

theorem all8 {P : UInt8 → Prop} (h : ∀ n : Fin 256, P (UInt8.ofNat n.val)) (c : UInt8) : P c := by
  have := h ⟨c.toNat, c.toNat_lt⟩
  simpa using this
/-- A piece of a layout. -/
structure Dc where
  k : Int
  t : ByteArray
  b : Int
  i : Int
  e : Bool
  deriving DecidableEq

def bE : ByteArray := ⟨#[]⟩
def lsb (s : ByteArray) : List UInt8 := s.data.toList
theorem ls_inj {a b : ByteArray} (h : lsb a = lsb b) : a = b := by
  cases a; cases b; simp only [lsb] at h; rw [Array.toList_inj.1 h]
theorem ls_len (s : ByteArray) : (lsb s).length = s.size := by simp [lsb]
theorem ls_mk (l : List UInt8) : lsb ⟨l.toArray⟩ = l := by simp [lsb]

def edg (c : UInt8) : Bool := c == 32 || c == 10
def rtT (s : ByteArray) : Bool := decide (1 ≤ s.size) && (decide (s.size ≤ 65535) && (!edg ((lsb s).getD 0 0) && !edg ((lsb s).getD (s.size - 1) 0)))
def rtN (n : Int) : Bool := decide (0 ≤ n) && decide (n ≤ 1000)
/-- Is a piece right? -/
def rt (d : Dc) : Bool :=
  if d.k = 1 then rtT d.t && decide (d = ⟨1, d.t, 0, 0, false⟩)
  else if d.k = 3 then rtN d.b && decide (d = ⟨3, bE, d.b, 0, false⟩)
  else if d.k = 6 then rtN d.i && decide (d = ⟨6, bE, 0, d.i, d.e⟩)
  else if d.k = 2 ∨ d.k = 4 ∨ d.k = 5 ∨ d.k = 7 then decide (d = ⟨d.k, bE, 0, 0, false⟩) else false

/-- A right piece is one of seven. -/
inductive Rt : Dc → Prop
  | text (t : ByteArray) (h : rtT t = true) : Rt ⟨1, t, 0, 0, false⟩
  | brk (n : Int) (h : rtN n = true) : Rt ⟨3, bE, n, 0, false⟩
  | beg (n : Int) (e : Bool) (h : rtN n = true) : Rt ⟨6, bE, 0, n, e⟩
  | blank : Rt ⟨2, bE, 0, 0, false⟩
  | hard : Rt ⟨4, bE, 0, 0, false⟩
  | empty : Rt ⟨5, bE, 0, 0, false⟩
  | «end» : Rt ⟨7, bE, 0, 0, false⟩
theorem rt_of {d : Dc} (h : rt d = true) : Rt d := by
  unfold rt at h
  split at h
  · simp only [Bool.and_eq_true, decide_eq_true_eq] at h
    obtain ⟨h1, h2⟩ := h
    rw [h2]; exact .text _ h1
  · split at h
    · simp only [Bool.and_eq_true, decide_eq_true_eq] at h
      obtain ⟨h1, h2⟩ := h
      rw [h2]; exact .brk _ h1
    · split at h
      · simp only [Bool.and_eq_true, decide_eq_true_eq] at h
        obtain ⟨h1, h2⟩ := h
        rw [h2]; exact .beg _ _ h1
      · split at h
        · rename_i h4
          simp only [decide_eq_true_eq] at h
          obtain ⟨k, t, b, i, e⟩ := d
          simp only [Dc.mk.injEq, true_and] at h
          obtain ⟨rfl, rfl, rfl, rfl⟩ := h
          simp only at h4
          rcases h4 with rfl | rfl | rfl | rfl
          · exact .blank
          · exact .hard
          · exact .empty
          · exact .end
        · cases h
theorem rt_mk {d : Dc} (h : Rt d) : rt d = true := by
  cases h with
  | text t h => simp [rt, h]
  | brk n h => simp [rt, h]
  | beg n e h => simp [rt, h]
  | blank => rfl
  | hard => rfl
  | empty => rfl
  | «end» => rfl
theorem rtN_of {n : Int} (h : rtN n = true) : 0 ≤ n ∧ n ≤ 1000 := by simpa [rtN] using h

theorem rtT_len {t : ByteArray} (h : rtT t = true) : 1 ≤ t.size ∧ t.size ≤ 65535 := by
  simp only [rtT, Bool.and_eq_true, decide_eq_true_eq] at h
  exact ⟨h.1, h.2.1⟩
def dep (k : Int) : Int := if k = 6 then 1 else if k = 7 then -1 else 0
def frm : Int → Nat → List Dc → Option Nat
  | o, j, [] => if 0 < o then some j else none
  | o, j, d :: r => if rt d = true ∧ 0 ≤ o + dep d.k then frm (o + dep d.k) (j + 1) r else some j
def chk (l : List Dc) : Int × Int := if 2097152 < l.length then (2, 0) else match frm 0 0 l with | some j => (70, (j : Int)) | none => (0, 0)
theorem frm_rt : ∀ (l : List Dc) (o : Int) (j : Nat), frm o j l = none → ∀ d ∈ l, rt d = true
  | [], _, _, _ => by simp
  | d :: r, o, j, h => by
    simp only [frm] at h
    split at h
    · rename_i hc
      intro x hx
      rcases List.mem_cons.1 hx with rfl | hx
      · exact hc.1
      · exact frm_rt r _ _ h x hx
    · cases h
theorem chk_ok {l : List Dc} (h : (chk l).1 = 0) : l.length ≤ 2097152 ∧ frm 0 0 l = none ∧ (∀ d ∈ l, rt d = true) ∧ chk l = (0, 0) := by
  unfold chk at h ⊢
  split at h
  · exact absurd h (by decide)
  · rename_i h1
    rw [if_neg h1]
    cases hf : frm 0 0 l with
    | some j => rw [hf] at h; exact absurd h (by simp)
    | none => exact ⟨by omega, rfl, frm_rt l _ _ hf, rfl⟩
theorem frm_le : ∀ (l : List Dc) (o : Int) (j k : Nat), frm o j l = some k → k ≤ j + l.length
  | [], o, j, k, h => by
    simp only [frm] at h
    split at h <;> cases h
    simp
  | d :: r, o, j, k, h => by
    simp only [frm] at h
    split at h
    · have := frm_le r _ _ k h
      simp; omega
    · cases h; omega
theorem chk_bd (l : List Dc) : 0 ≤ (chk l).1 ∧ (chk l).1 ≤ 70 ∧ 0 ≤ (chk l).2 ∧ (chk l).2 ≤ 2097152 := by
  unfold chk
  split
  · simp
  · rename_i h1
    cases hf : frm 0 0 l with
    | some j => have := frm_le l 0 0 j hf; simp; omega
    | none => simp

end Go.Proofs.YtmjhfabdbajchaaGreatDoor
set_option linter.unusedVariables false
set_option linter.unusedSimpArgs false
namespace Go.Proofs.YtmjhfabdbajchaaGreatDoor
open Go.RowKit
open Go.Lib (strCells strCells_length)

/-! Blocks. -/
/-! Rows of things, each laid into cells. -/
section
variable {β : Type} (enc : β → List Value) (sz : Nat)

variable (hsz : ∀ x, (enc x).length = sz)
include hsz
end

/-! Bytes as cells. -/
/-! Where an append of a text puts the new row. -/
/-! What stands but for some blocks. -/
theorem heap_new (w : World) (o : Obj) : (w.alloc o).heap[w.heap.size]? = some o := new_at w o
theorem tl_true {s x : ByteArray} (h : s = x) : (s.toList == x.toList) = true := by subst h; simp
theorem tl_false {s x : ByteArray} (h : s ≠ x) : (s.toList == x.toList) = false := by
  rw [beq_eq_false_iff_ne, Lib.toList_data, Lib.toList_data]
  intro e
  exact h (ls_inj e)
/-! Pieces as values. -/
def Dc.v (d : Dc) : Value := .agg #[.int .u8 d.k, .string d.t, .int .i64 d.b, .int .i64 d.i, .bool d.e]
def Dc.cs (d : Dc) : List Value := [.int .u8 d.k, .string d.t, .int .i64 d.b, .int .i64 d.i, .bool d.e]
theorem Dc.cs_len (d : Dc) : d.cs.length = 5 := rfl
theorem Dc.cs_one (d : Dc) : ∀ u ∈ d.cs, u.oneCell' = true := by
  intro u hu
  simp only [Dc.cs, List.mem_cons, List.not_mem_nil, or_false] at hu
  rcases hu with rfl | rfl | rfl | rfl | rfl <;> rfl
def dcs (l : List Dc) : List Value := flat Dc.cs l
theorem dcs_len (l : List Dc) : (dcs l).length = l.length * 5 := flat_len Dc.cs 5 Dc.cs_len l
theorem dcs_one (l : List Dc) : ∀ u ∈ dcs l, u.oneCell' = true := by
  intro u hu
  obtain ⟨d, _, h⟩ := List.mem_flatMap.1 hu
  exact d.cs_one u h

/-- The pieces that a slice holds. -/
def Lay (w : World) (ao : Option Addr) (l : List Dc) : Prop := ∀ j d, l[j]? = some d → d.t.size ≤ 9223372036854775807 ∧ ∃ b off, ao = some ⟨b, off, none⟩ ∧
  w.cell? ⟨b, off + j * 5, none⟩ = some (.int .u8 d.k) ∧ w.cell? ⟨b, off + j * 5 + 1, none⟩ = some (.string d.t) ∧ w.cell? ⟨b, off + j * 5 + 2, none⟩ = some (.int .i64 d.b) ∧ w.cell? ⟨b, off + j * 5 + 3, none⟩ = some (.int .i64 d.i) ∧ w.cell? ⟨b, off + j * 5 + 4, none⟩ = some (.bool d.e)
theorem Lay.kp {S : Nat → Prop} {w w' : World} {ao : Option Addr} {l : List Dc} (h : Lay w ao l) (hb : Kp S w w') (hS : ∀ a, ao = some a → ¬ S a.block) : Lay w' ao l := by
  intro j a ha
  obtain ⟨h0, b, off, h1, c0, c1, c2, c3, c4⟩ := h j a ha
  have hlt := World.block_lt_of_cell? _ _ c0
  have e : w'.heap[b]? = w.heap[b]? := hb.block b hlt (hS _ h1)
  exact ⟨h0, b, off, h1, (World.cell?_of_block (a := ⟨b, _, none⟩) e).trans c0, (World.cell?_of_block (a := ⟨b, _, none⟩) e).trans c1, (World.cell?_of_block (a := ⟨b, _, none⟩) e).trans c2, (World.cell?_of_block (a := ⟨b, _, none⟩) e).trans c3, (World.cell?_of_block (a := ⟨b, _, none⟩) e).trans c4⟩
theorem Lay.below {w w' : World} {ao : Option Addr} {l : List Dc} (h : Lay w ao l) (hb : Below w.heap.size w w') : Lay w' ao l := h.kp (Kp.of_below (S := fun _ => False) hb) (fun _ _ h => h)
theorem Lay.row {w : World} {B : Nat} {v : Value} {n : Nat} {l : List Dc} (h : w.ownsRow B 37 5 v n (dcs l)) (ht : ∀ d ∈ l, d.t.size ≤ 9223372036854775807) : ∃ ao cap, v = .slice ao l.length cap ∧ n = l.length ∧ Lay w ao l ∧ (ao = none ∨ ∃ g, ao = some ⟨g, 0, none⟩ ∧ B ≤ g ∧ g < w.heap.size) ∧ l.length ≤ cap ∧ cap ≤ maxLen := by
  have hn : n = l.length := by have := h.1; rw [dcs_len] at this; omega
  subst hn
  rcases h.2 with ⟨rfl, h0⟩ | ⟨g, cap, cur, rfl, hb, hg, h3, h4, h5, h6⟩
  · have : l = [] := List.eq_nil_of_length_eq_zero h0
    subst this
    exact ⟨none, 0, rfl, rfl, fun j d h => by simp at h, .inl rfl, Nat.zero_le _, Nat.zero_le _⟩
  · refine ⟨some ⟨g, 0, none⟩, cap, rfl, rfl, ?_, .inr ⟨g, rfl, hb, blk_lt hg⟩, h3, h4⟩
    intro j d hj
    have hc : ∀ (k : Nat) (u : Value), (dcs l)[k]? = some u → w.cell? ⟨g, k, none⟩ = some u := fun k u hu => by
      have := h.cells (g := g) rfl k u hu
      rw [Addr.add_lit, Nat.zero_add] at this
      exact this
    refine ⟨ht d (List.mem_of_getElem? hj), g, 0, rfl, ?_, ?_, ?_, ?_, ?_⟩
    · rw [Nat.zero_add]; exact hc _ _ (flat_at Dc.cs 5 Dc.cs_len l j 0 d _ hj rfl)
    · rw [Nat.zero_add]; exact hc _ _ (flat_at Dc.cs 5 Dc.cs_len l j 1 d _ hj rfl)
    · rw [Nat.zero_add]; exact hc _ _ (flat_at Dc.cs 5 Dc.cs_len l j 2 d _ hj rfl)
    · rw [Nat.zero_add]; exact hc _ _ (flat_at Dc.cs 5 Dc.cs_len l j 3 d _ hj rfl)
    · rw [Nat.zero_add]; exact hc _ _ (flat_at Dc.cs 5 Dc.cs_len l j 4 d _ hj rfl)
/-- The cells behind one another. -/
theorem Lay.cells {w : World} {a : Addr} {l : List Dc} (h : Lay w (some a) l) : ∀ j u, (dcs l)[j]? = some u → w.cell? (a.add j) = some u := by
  intro j u hu
  have hj := (List.getElem?_eq_some_iff.1 hu).1
  rw [dcs_len] at hj
  have hk : j / 5 < l.length := by omega
  have hd : l[j / 5]? = some l[j / 5] := List.getElem?_eq_getElem hk
  obtain ⟨_, b, off, e, c0, c1, c2, c3, c4⟩ := h _ _ hd
  cases e
  have hu2 : (dcs l)[j / 5 * 5 + j % 5]? = some u := by rw [show j / 5 * 5 + j % 5 = j by omega]; exact hu
  have hA : (⟨b, off, none⟩ : Addr).add j = ⟨b, off + j, none⟩ := Addr.add_lit _ _ _
  rw [hA, show off + j = off + j / 5 * 5 + j % 5 by omega]
  have hm : j % 5 < 5 := Nat.mod_lt _ (by omega)
  generalize j % 5 = m at *
  match m, hm with
  | 0, _ => rw [show (dcs l)[j / 5 * 5 + 0]? = _ from flat_at Dc.cs 5 Dc.cs_len l _ 0 _ _ hd rfl] at hu2; cases hu2; exact c0
  | 1, _ => rw [show (dcs l)[j / 5 * 5 + 1]? = _ from flat_at Dc.cs 5 Dc.cs_len l _ 1 _ _ hd rfl] at hu2; cases hu2; exact c1
  | 2, _ => rw [show (dcs l)[j / 5 * 5 + 2]? = _ from flat_at Dc.cs 5 Dc.cs_len l _ 2 _ _ hd rfl] at hu2; cases hu2; exact c2
  | 3, _ => rw [show (dcs l)[j / 5 * 5 + 3]? = _ from flat_at Dc.cs 5 Dc.cs_len l _ 3 _ _ hd rfl] at hu2; cases hu2; exact c3
  | 4, _ => rw [show (dcs l)[j / 5 * 5 + 4]? = _ from flat_at Dc.cs 5 Dc.cs_len l _ 4 _ _ hd rfl] at hu2; cases hu2; exact c4

end Go.Proofs.YtmjhfabdbajchaaGreatDoor
set_option linter.unusedVariables false
set_option linter.unusedSimpArgs false
namespace Go.Proofs.YtmjhfabdbajchaaGreatDoor
open Go.RowKit

theorem edge_any (c : UInt8) (w : World) : Calls Tryz.prog 143 #[.int .u8 (c.toNat : Int)] w fun e w' => e = .returned (.bool (edg c)) ∧ w' = w := by
  have h1 : ((c.toNat : Int) == 32) = (c == 32) := by revert c; exact all8 (by decide +kernel)
  have h2 : ((c.toNat : Int) == 10) = (c == 10) := by revert c; exact all8 (by decide +kernel)
  have e : edg c = ((c.toNat : Int) == 32 || (c.toNat : Int) == 10) := by rw [h1, h2]; rfl
  rw [e]
  clear e h1 h2
  generalize (c.toNat : Int) = z
  go_enter Tryz.func143, Tryz.ntmps143
  go_wp2_with fail
  all_goals (go_ret; simp_all)

theorem rnum_any (n : Int) (w : World) : Calls Tryz.prog 124 #[.int .i64 n] w fun e w' => e = .returned (.bool (rtN n)) ∧ w' = w := by
  have e : rtN n = (decide (0 ≤ n) && decide (n ≤ 1000)) := rfl
  rw [e]
  clear e
  go_enter Tryz.func124, Tryz.ntmps124
  go_wp2_with fail
  all_goals (go_ret; simp_all)
  all_goals omega

theorem dtext_any (t : ByteArray) (ht : t.size ≤ 9223372036854775807) (w : World) : Calls Tryz.prog 123 #[.string t] w fun e w' => e = .returned (.bool (rtT t)) ∧ w' = w := by
  by_cases h0 : t.size = 0
  · have e0 : t = ⟨#[]⟩ := by
      apply ls_inj
      exact List.eq_nil_of_length_eq_zero (by rw [ls_len]; exact h0)
    subst e0
    go_enter Tryz.func123, Tryz.ntmps123
    go_wp2_with fail
    go_ret
    exact ⟨rfl, rfl⟩
  · have hne : ¬ t.toList = [] := by
      rw [Lib.toList_data]
      intro hl
      exact absurd (by have := ls_len t; rw [lsb, hl] at this; simpa using this.symm) h0
    by_cases h1 : t.size ≤ 65535
    · have hlt : 0 < t.size := by omega
      have hlt2 : t.size - 1 < t.size := by omega
      have HE : Hid (rtT t = (!edg t[0] && !edg (t[t.size - 1]))) := by
        show _ = _
        unfold rtT
        have a0 : (lsb t).getD 0 0 = t[0] := (Lib.getD_at t 0 hlt).symm
        have a1 : (lsb t).getD (t.size - 1) 0 = t[t.size - 1] := (Lib.getD_at t (t.size - 1) hlt2).symm
        rw [a0, a1]
        simp [h1, show 1 ≤ t.size by omega]
      go_enter Tryz.func123, Tryz.ntmps123
      go_wp2_with (go_at_call 143; refine (edge_any _ _).mono ?_; rintro e w1 ⟨rfl, rfl⟩)
      all_goals (go_ret; rw [HE.out]; clear HE; refine ⟨?_, rfl⟩; simp_all)
    · go_enter Tryz.func123, Tryz.ntmps123
      go_wp2_with fail
      go_ret
      refine ⟨?_, rfl⟩
      simp [rtT, h1]
end Go.Proofs.YtmjhfabdbajchaaGreatDoor
set_option linter.unusedVariables false
set_option linter.unusedSimpArgs false
namespace Go.Proofs.YtmjhfabdbajchaaGreatDoor
open Go.RowKit

set_option maxHeartbeats 1000000 in
theorem right_text (t : ByteArray) (b i : Int) (e : Bool) (ht : t.size ≤ 9223372036854775807) (w : World) : Calls Tryz.prog 88 #[.agg #[.int .u8 1, .string t, .int .i64 b, .int .i64 i, .bool e]] w fun x w' => x = .returned (.bool (rtT t && (b == 0 && (i == 0 && !e)))) ∧ Below w.heap.size w w' := by
  go_enter Tryz.func88, Tryz.ntmps88
  go_wp2_with (go_at_call 123; refine (dtext_any _ ht _).mono ?_; rintro e w1 ⟨rfl, rfl⟩)
  all_goals go_ret
  all_goals (refine ⟨by simp_all, ?_⟩; repeat (first | exact Below.refl _ _ | refine Below.setCell ?_ (Nat.le_refl _) _ | refine Below.alloc ?_ (by simp) _ | refine Below.drew ?_))

set_option maxHeartbeats 1000000 in
theorem right_brk (t : ByteArray) (b i : Int) (e : Bool) (w : World) : Calls Tryz.prog 88 #[.agg #[.int .u8 3, .string t, .int .i64 b, .int .i64 i, .bool e]] w fun x w' => x = .returned (.bool (rtN b && (t.toList == [] && (i == 0 && !e)))) ∧ Below w.heap.size w w' := by
  go_enter Tryz.func88, Tryz.ntmps88
  go_wp2_with (go_at_call 124; refine (rnum_any _ _).mono ?_; rintro e w1 ⟨rfl, rfl⟩)
  all_goals go_ret
  all_goals (refine ⟨by simp_all, ?_⟩; repeat (first | exact Below.refl _ _ | refine Below.setCell ?_ (Nat.le_refl _) _ | refine Below.alloc ?_ (by simp) _ | refine Below.drew ?_))

set_option maxHeartbeats 1000000 in
theorem right_beg (t : ByteArray) (b i : Int) (e : Bool) (w : World) : Calls Tryz.prog 88 #[.agg #[.int .u8 6, .string t, .int .i64 b, .int .i64 i, .bool e]] w fun x w' => x = .returned (.bool (rtN i && (t.toList == [] && b == 0))) ∧ Below w.heap.size w w' := by
  go_enter Tryz.func88, Tryz.ntmps88
  go_wp2_with (go_at_call 124; refine (rnum_any _ _).mono ?_; rintro e w1 ⟨rfl, rfl⟩)
  all_goals go_ret
  all_goals (refine ⟨by simp_all, ?_⟩; repeat (first | exact Below.refl _ _ | refine Below.setCell ?_ (Nat.le_refl _) _ | refine Below.alloc ?_ (by simp) _ | refine Below.drew ?_))

set_option maxHeartbeats 1000000 in
theorem right_zero (k : Int) (hk : k = 2 ∨ k = 4 ∨ k = 5 ∨ k = 7) (t : ByteArray) (b i : Int) (e : Bool) (w : World) : Calls Tryz.prog 88 #[.agg #[.int .u8 k, .string t, .int .i64 b, .int .i64 i, .bool e]] w fun x w' => x = .returned (.bool (t.toList == [] && (b == 0 && (i == 0 && !e)))) ∧ Below w.heap.size w w' := by
  rcases hk with rfl | rfl | rfl | rfl
  all_goals
    go_enter Tryz.func88, Tryz.ntmps88
    go_wp2_with fail
    all_goals go_ret
    all_goals (refine ⟨by simp_all, ?_⟩; repeat (first | exact Below.refl _ _ | refine Below.setCell ?_ (Nat.le_refl _) _ | refine Below.alloc ?_ (by simp) _ | refine Below.drew ?_))

set_option maxHeartbeats 1000000 in
theorem right_none (k : Int) (h1 : k ≠ 1) (h2 : k ≠ 2) (h3 : k ≠ 3) (h4 : k ≠ 4) (h5 : k ≠ 5) (h6 : k ≠ 6) (h7 : k ≠ 7) (t : ByteArray) (b i : Int) (e : Bool) (w : World) : Calls Tryz.prog 88 #[.agg #[.int .u8 k, .string t, .int .i64 b, .int .i64 i, .bool e]] w fun x w' => x = .returned (.bool false) ∧ Below w.heap.size w w' := by
  go_enter Tryz.func88, Tryz.ntmps88
  go_wp2_with fail
  all_goals go_ret
  all_goals (refine ⟨by simp_all, ?_⟩; repeat (first | exact Below.refl _ _ | refine Below.setCell ?_ (Nat.le_refl _) _ | refine Below.alloc ?_ (by simp) _ | refine Below.drew ?_))

theorem tl_E (t : ByteArray) : (t.toList == []) = decide (t = bE) := by
  rw [Bool.eq_iff_iff, beq_iff_eq, decide_eq_true_eq, Lib.toList_data]
  constructor
  · intro h; exact ls_inj h
  · rintro rfl; rfl
theorem right_any (d : Dc) (ht : d.t.size ≤ 9223372036854775807) (w : World) : Calls Tryz.prog 88 #[d.v] w fun x w' => x = .returned (.bool (rt d)) ∧ Below w.heap.size w w' := by
  obtain ⟨k, t, b, i, e⟩ := d
  by_cases k1 : k = 1
  · subst k1
    have e1 : rt ⟨1, t, b, i, e⟩ = (rtT t && (b == 0 && (i == 0 && !e))) := by
      unfold rt
      rw [if_pos rfl]
      congr 1
      rw [Bool.eq_iff_iff]
      simp [Dc.mk.injEq]
    rw [e1]
    exact right_text t b i e ht w
  by_cases k3 : k = 3
  · subst k3
    have e1 : rt ⟨3, t, b, i, e⟩ = (rtN b && (t.toList == [] && (i == 0 && !e))) := by
      unfold rt
      rw [if_neg (by show ¬ (3 : Int) = 1; decide), if_pos rfl, tl_E]
      congr 1
      rw [Bool.eq_iff_iff]
      simp [Dc.mk.injEq]
    rw [e1]
    exact right_brk t b i e w
  by_cases k6 : k = 6
  · subst k6
    have e1 : rt ⟨6, t, b, i, e⟩ = (rtN i && (t.toList == [] && b == 0)) := by
      unfold rt
      rw [if_neg (by show ¬ (6 : Int) = 1; decide), if_neg (by show ¬ (6 : Int) = 3; decide), if_pos rfl, tl_E]
      congr 1
      rw [Bool.eq_iff_iff]
      simp [Dc.mk.injEq]
    rw [e1]
    exact right_beg t b i e w
  by_cases kz : k = 2 ∨ k = 4 ∨ k = 5 ∨ k = 7
  · have e1 : rt ⟨k, t, b, i, e⟩ = (t.toList == [] && (b == 0 && (i == 0 && !e))) := by
      unfold rt
      rw [if_neg k1, if_neg k3, if_neg k6, if_pos kz, tl_E]
      rw [Bool.eq_iff_iff]
      simp [Dc.mk.injEq]
    rw [e1]
    exact right_zero k kz t b i e w
  · have e1 : rt ⟨k, t, b, i, e⟩ = false := by
      unfold rt
      rw [if_neg k1, if_neg k3, if_neg k6, if_neg kz]
    rw [e1]
    simp only [not_or] at kz
    exact right_none k k1 kz.1 k3 kz.2.1 kz.2.2.1 k6 kz.2.2.2 t b i e w
end Go.Proofs.YtmjhfabdbajchaaGreatDoor
set_option linter.unusedVariables false
set_option linter.unusedSimpArgs false
namespace Go.Proofs.YtmjhfabdbajchaaGreatDoor
open Go.RowKit

/-! Check. -/
theorem frm_step {o : Int} {j : Nat} {l : List Dc} {d : Dc} (hj : l[j]? = some d) : frm o j (l.drop j) = if rt d = true ∧ 0 ≤ o + dep d.k then frm (o + dep d.k) (j + 1) (l.drop (j + 1)) else some j := by
  obtain ⟨h1, h2⟩ := List.getElem?_eq_some_iff.1 hj
  rw [List.drop_eq_getElem_cons h1, h2]
  rfl
theorem frm_end {o : Int} {j : Nat} {l : List Dc} (hj : l.length ≤ j) : frm o j (l.drop j) = if 0 < o then some j else none := by
  rw [List.drop_eq_nil_of_le hj]; rfl

def ckr : Option Nat → Int × Int
  | some j => (70, (j : Int))
  | none => (0, 0)
theorem chk_eq {l : List Dc} (h : ¬ 2097152 < l.length) : chk l = ckr (frm 0 0 l) := by
  unfold chk
  rw [if_neg h]
  cases frm 0 0 l <;> rfl

set_option maxHeartbeats 2000000 in
set_option maxRecDepth 100000 in
theorem check_any (ao : Option Addr) (l : List Dc) (cap : Nat) (w : World) (hL : Lay w ao l) (hn : l.length ≤ 9223372036854775807) :
    Calls Tryz.prog 57 #[.slice ao l.length cap] w fun e w' => e = .returned (.tuple #[.int .i64 (chk l).1, .int .i64 (chk l).2]) ∧ Below w.heap.size w w' := by
  by_cases hm : 2097152 < l.length
  · have q0 : (2097152 : Int) < l.length := by omega
    have HC : Hid (chk l = (2, 0)) := by show _ = _; unfold chk; rw [if_pos hm]
    go_enter Tryz.func57, Tryz.ntmps57
    go_wp2_with fail
    go_ret2
    rw [HC.out]
    exact ⟨rfl, Below.refl _ _⟩
  have q0 : ¬ (2097152 : Int) < l.length := by omega
  have HC : Hid (chk l = ckr (frm 0 0 l)) := chk_eq hm
  have HL : Hid (Lay w ao l) := hL
  clear hL
  go_enter Tryz.func57, Tryz.ntmps57
  go_wp2_with fail
  go_loopw [4, 12] (fun o j wr => ∃ (k : Nat) (z : Int), k ≤ l.length ∧ o = .int .i64 z ∧ j = .int .i64 k ∧ 0 ≤ z ∧ z ≤ k ∧ Hid (frm z k (l.drop k) = frm 0 0 l ∧ Below w.heap.size w wr)) (fun _ j _ => l.length - (intOf j).toNat)
  case atStart => exact ⟨0, 0, by omega, rfl, rfl, by omega, by omega, rfl, Below.refl _ _⟩
  case round =>
    obtain ⟨k, z, hk, rfl, rfl, hz0, hz1, HI⟩ := hrel
    by_cases hlt : k < l.length
    · have q1 : (k : Int) < l.length := by omega
      obtain ⟨d, hd⟩ : ∃ d, l[k]? = some d := ⟨_, List.getElem?_eq_getElem hlt⟩
      obtain ⟨ht, b, off, rfl, c0, c1, c2, c3, c4⟩ := (HL.out.below HI.out.2) k d hd
      have HS : Hid ((if rt d = true ∧ 0 ≤ z + dep d.k then frm (z + dep d.k) (k + 1) (l.drop (k + 1)) else some k) = frm 0 0 l) := by
        show _ = _; rw [← frm_step hd]; exact HI.out.1
      have HB : Hid (Below w.heap.size w wr) := HI.out.2
      have HR : Hid (∀ W, Calls Tryz.prog 88 #[d.v] W fun x w' => x = .returned (.bool (rt d)) ∧ Below W.heap.size W w') := fun W => right_any d ht W
      clear HI hd
      obtain ⟨dk, dt, db, di, de⟩ := d
      simp only [Dc.v] at HR
      simp only at c0 c1 c2 c3 c4 HS ht
      generalize rt ⟨dk, dt, db, di, de⟩ = r at *
      have HX : Hid (r = true → 0 ≤ z + dep dk → frm (z + dep dk) (k + 1) (l.drop (k + 1)) = frm 0 0 l) := fun h1 h2 => by rw [← HS.out, if_pos ⟨h1, h2⟩]
      have HY : Hid (¬ (r = true ∧ 0 ≤ z + dep dk) → chk l = (70, (k : Int))) := fun h => by rw [HC.out, ← HS.out, if_neg h]; rfl
      clear HS
      have HA : Hid (∀ W w1, W = wr.alloc (.cells #[.int .u8 dk, .string dt, .int .i64 db, .int .i64 di, .bool de] 37) → Below W.heap.size W w1 → Below w.heap.size w w1) := fun W w1 hW h => by
        subst hW
        exact (HB.out.alloc HB.out.size _).trans (h.mono (by rw [World.size_alloc]; have := HB.out.size; omega))
      by_cases k6 : dk = 6
      · subst k6
        have e6 : z + dep 6 = z + 1 := rfl
        rw [e6] at HX HY
        cases r
        · have HQ : Hid (chk l = (70, (k : Int))) := HY.out (by simp)
          clear HX HY
          go_wp2_with (go_at_call 88; refine (HR.out _).mono ?_; rintro e w1 ⟨rfl, hb1⟩)
          all_goals (go_ret2; rw [HQ.out]; exact ⟨rfl, HA.out _ _ rfl hb1⟩)
        · have HQ : Hid (frm (z + 1) (k + 1) (l.drop (k + 1)) = frm 0 0 l) := HX.out rfl (by omega)
          clear HX HY
          go_wp2_with (go_at_call 88; refine (HR.out _).mono ?_; rintro e w1 ⟨rfl, hb1⟩)
          exact ⟨⟨k + 1, z + 1, hlt, by go_num, by go_num, by omega, by omega, HQ.out, HA.out _ _ rfl hb1⟩, by simp [intOf]; omega⟩
      by_cases k7 : dk = 7
      · subst k7
        have e6 : z + dep 7 = z - 1 := rfl
        rw [e6] at HX HY
        by_cases hz : 0 < z
        · cases r
          · have HQ : Hid (chk l = (70, (k : Int))) := HY.out (by simp)
            clear HX HY
            go_wp2_with (go_at_call 88; refine (HR.out _).mono ?_; rintro e w1 ⟨rfl, hb1⟩)
            all_goals (go_ret2; rw [HQ.out]; exact ⟨rfl, HA.out _ _ rfl hb1⟩)
          · have HQ : Hid (frm (z - 1) (k + 1) (l.drop (k + 1)) = frm 0 0 l) := HX.out rfl (by omega)
            clear HX HY
            go_wp2_with (go_at_call 88; refine (HR.out _).mono ?_; rintro e w1 ⟨rfl, hb1⟩)
            exact ⟨⟨k + 1, z - 1, hlt, by go_num, by go_num, by omega, by omega, HQ.out, HA.out _ _ rfl hb1⟩, by simp [intOf]; omega⟩
        · obtain rfl : z = 0 := by omega
          have HQ : Hid (chk l = (70, (k : Int))) := HY.out (by omega)
          clear HX HY
          go_wp2_with (go_at_call 88; refine (HR.out _).mono ?_; rintro e w1 ⟨rfl, hb1⟩)
          all_goals (go_ret2; rw [HQ.out]; exact ⟨rfl, HA.out _ _ rfl (Below.refl _ _)⟩)
      · have e6 : z + dep dk = z := by simp [dep, k6, k7]
        rw [e6] at HX HY
        cases r
        · have HQ : Hid (chk l = (70, (k : Int))) := HY.out (by simp)
          clear HX HY
          go_wp2_with (go_at_call 88; refine (HR.out _).mono ?_; rintro e w1 ⟨rfl, hb1⟩)
          all_goals (go_ret2; rw [HQ.out]; exact ⟨rfl, HA.out _ _ rfl hb1⟩)
        · have HQ : Hid (frm z (k + 1) (l.drop (k + 1)) = frm 0 0 l) := HX.out rfl (by omega)
          clear HX HY
          go_wp2_with (go_at_call 88; refine (HR.out _).mono ?_; rintro e w1 ⟨rfl, hb1⟩)
          exact ⟨⟨k + 1, z, hlt, by go_num, by go_num, by omega, by omega, HQ.out, HA.out _ _ rfl hb1⟩, by simp [intOf]; omega⟩
    · obtain rfl : k = l.length := by omega
      have q1 : ¬ ((l.length : Int) < l.length) := by omega
      have he := HI.out.1
      rw [frm_end (Nat.le_refl _)] at he
      have HB : Hid (Below w.heap.size w wr) := HI.out.2
      by_cases hz : 0 < z
      · have HQ : Hid (chk l = (70, (l.length : Int))) := by show _ = _; rw [HC.out, ← he, if_pos hz]; rfl
        clear HI he
        go_wp2_with fail
        go_ret2
        rw [HQ.out]
        exact ⟨rfl, HB.out⟩
      · have HQ : Hid (chk l = (0, 0)) := by show _ = _; rw [HC.out, ← he, if_neg hz]; rfl
        clear HI he
        go_wp2_with fail
        go_ret2
        rw [HQ.out]
        exact ⟨rfl, HB.out⟩
end Go.Proofs.YtmjhfabdbajchaaGreatDoor
set_option linter.unusedVariables false
set_option linter.unusedSimpArgs false
namespace Go.Proofs.YtmjhfabdbajchaaGreatDoor
open Go.RowKit

theorem edg_int (c : UInt8) : edg c = ((c.toNat : Int) == 32 || (c.toNat : Int) == 10) := by
  revert c; exact all8 (by decide +kernel)

set_option maxHeartbeats 1000000 in
theorem rr_text (t : ByteArray) (b i : Int) (e : Bool) (ht : t.size ≤ 9223372036854775807) (w : World) : Calls Tryz.prog 25 #[.agg #[.int .u8 1, .string t, .int .i64 b, .int .i64 i, .bool e]] w fun x w' => x = .returned (.bool (rtT t && (b == 0 && (i == 0 && !e)))) ∧ Below w.heap.size w w' := by
  obtain ⟨r, hr⟩ : ∃ r, rtT t = r := ⟨_, rfl⟩
  have HR : Hid (rtT t = r) := hr
  rw [hr]
  clear hr
  by_cases h0 : t.size = 0
  · have q0 : (t.size : Int) < 1 := by omega
    have HF : Hid (r = false) := by show _ = _; rw [← HR.out]; simp [rtT, h0]
    go_enter Tryz.func25, Tryz.ntmps25
    go_wp2_with fail
    go_ret
    rw [HF.out]
    refine ⟨rfl, ?_⟩
    repeat (first | exact Below.refl _ _ | refine Below.setCell ?_ (by simp) _ | refine Below.alloc ?_ (by simp) _)
  · have q0 : ¬ (t.size : Int) < 1 := by omega
    by_cases h1 : 65535 < t.size
    · have q1 : (65535 : Int) < t.size := by omega
      have HF : Hid (r = false) := by show _ = _; rw [← HR.out]; simp [rtT]; omega
      go_enter Tryz.func25, Tryz.ntmps25
      go_wp2_with fail
      go_ret
      rw [HF.out]
      refine ⟨rfl, ?_⟩
      repeat (first | exact Below.refl _ _ | refine Below.setCell ?_ (by simp) _ | refine Below.alloc ?_ (by simp) _)
    · have q1 : ¬ (65535 : Int) < t.size := by omega
      have hlt : 0 < t.size := by omega
      have hlt2 : t.size - 1 < t.size := by omega
      obtain ⟨c0, hc0⟩ : ∃ c, t[0] = c := ⟨_, rfl⟩
      obtain ⟨c1, hc1⟩ : ∃ c, t[t.size - 1] = c := ⟨_, rfl⟩
      have HE : Hid (r = (!((c0.toNat : Int) == 32 || (c0.toNat : Int) == 10) && !((c1.toNat : Int) == 32 || (c1.toNat : Int) == 10))) := by
        show _ = _
        rw [← HR.out, ← edg_int, ← edg_int]
        unfold rtT
        have a0 : (lsb t).getD 0 0 = t[0] := (Lib.getD_at t 0 hlt).symm
        have a1 : (lsb t).getD (t.size - 1) 0 = t[t.size - 1] := (Lib.getD_at t (t.size - 1) hlt2).symm
        rw [a0, a1, hc0, hc1]
        simp [show 1 ≤ t.size by omega, show t.size ≤ 65535 by omega]
      clear HR
      go_enter Tryz.func25, Tryz.ntmps25
      go_wp2_with fail
      all_goals (go_ret; (try rw [HE.out]); clear HE; refine ⟨by simp_all, ?_⟩; repeat (first | exact Below.refl _ _ | refine Below.setCell ?_ (by simp) _ | refine Below.alloc ?_ (by simp) _))

set_option maxHeartbeats 1000000 in
theorem rr_brk (t : ByteArray) (b i : Int) (e : Bool) (w : World) : Calls Tryz.prog 25 #[.agg #[.int .u8 3, .string t, .int .i64 b, .int .i64 i, .bool e]] w fun x w' => x = .returned (.bool (rtN b && (t.toList == [] && (i == 0 && !e)))) ∧ Below w.heap.size w w' := by
  obtain ⟨r, hr⟩ : ∃ r, rtN b = r := ⟨_, rfl⟩
  have HR : Hid (rtN b = r) := hr
  rw [hr]
  clear hr
  by_cases h0 : 0 ≤ b ∧ b ≤ 1000
  · have HE : Hid (r = true) := by show _ = _; rw [← HR.out]; simp [rtN, h0]
    obtain ⟨h1, h2⟩ := h0
    have q1 : ¬ b < 0 := by omega
    have q2 : ¬ 1000 < b := by omega
    clear h1 h2
    go_enter Tryz.func25, Tryz.ntmps25
    go_wp2_with fail
    all_goals (go_ret; (try rw [HE.out]); clear HE; refine ⟨by simp_all, ?_⟩; repeat (first | exact Below.refl _ _ | refine Below.setCell ?_ (by simp) _ | refine Below.alloc ?_ (by simp) _))
  · have HE : Hid (r = false) := by show _ = _; rw [← HR.out]; simp only [rtN]; simp; omega
    by_cases h1 : b < 0
    · clear h0
      go_enter Tryz.func25, Tryz.ntmps25
      go_wp2_with fail
      all_goals (go_ret; rw [HE.out]; clear HE; refine ⟨rfl, ?_⟩; repeat (first | exact Below.refl _ _ | refine Below.setCell ?_ (by simp) _ | refine Below.alloc ?_ (by simp) _))
    · have q2 : 1000 < b := by omega
      clear h0
      go_enter Tryz.func25, Tryz.ntmps25
      go_wp2_with fail
      all_goals (go_ret; rw [HE.out]; clear HE; refine ⟨rfl, ?_⟩; repeat (first | exact Below.refl _ _ | refine Below.setCell ?_ (by simp) _ | refine Below.alloc ?_ (by simp) _))

set_option maxHeartbeats 1000000 in
theorem rr_beg (t : ByteArray) (b i : Int) (e : Bool) (w : World) : Calls Tryz.prog 25 #[.agg #[.int .u8 6, .string t, .int .i64 b, .int .i64 i, .bool e]] w fun x w' => x = .returned (.bool (rtN i && (t.toList == [] && b == 0))) ∧ Below w.heap.size w w' := by
  obtain ⟨r, hr⟩ : ∃ r, rtN i = r := ⟨_, rfl⟩
  have HR : Hid (rtN i = r) := hr
  rw [hr]
  clear hr
  by_cases h0 : 0 ≤ i ∧ i ≤ 1000
  · have HE : Hid (r = true) := by show _ = _; rw [← HR.out]; simp [rtN, h0]
    obtain ⟨h1, h2⟩ := h0
    have q1 : ¬ i < 0 := by omega
    have q2 : ¬ 1000 < i := by omega
    clear h1 h2
    go_enter Tryz.func25, Tryz.ntmps25
    go_wp2_with fail
    all_goals (go_ret; (try rw [HE.out]); clear HE; refine ⟨by simp_all, ?_⟩; repeat (first | exact Below.refl _ _ | refine Below.setCell ?_ (by simp) _ | refine Below.alloc ?_ (by simp) _))
  · have HE : Hid (r = false) := by show _ = _; rw [← HR.out]; simp only [rtN]; simp; omega
    by_cases h1 : i < 0
    · clear h0
      go_enter Tryz.func25, Tryz.ntmps25
      go_wp2_with fail
      all_goals (go_ret; rw [HE.out]; clear HE; refine ⟨rfl, ?_⟩; repeat (first | exact Below.refl _ _ | refine Below.setCell ?_ (by simp) _ | refine Below.alloc ?_ (by simp) _))
    · have q2 : 1000 < i := by omega
      clear h0
      go_enter Tryz.func25, Tryz.ntmps25
      go_wp2_with fail
      all_goals (go_ret; rw [HE.out]; clear HE; refine ⟨rfl, ?_⟩; repeat (first | exact Below.refl _ _ | refine Below.setCell ?_ (by simp) _ | refine Below.alloc ?_ (by simp) _))

set_option maxHeartbeats 1000000 in
theorem rr_zero (k : Int) (hk : k = 2 ∨ k = 4 ∨ k = 5 ∨ k = 7) (t : ByteArray) (b i : Int) (e : Bool) (w : World) : Calls Tryz.prog 25 #[.agg #[.int .u8 k, .string t, .int .i64 b, .int .i64 i, .bool e]] w fun x w' => x = .returned (.bool (t.toList == [] && (b == 0 && (i == 0 && !e)))) ∧ Below w.heap.size w w' := by
  rcases hk with rfl | rfl | rfl | rfl
  all_goals
    go_enter Tryz.func25, Tryz.ntmps25
    go_wp2_with fail
    all_goals go_ret
    all_goals (refine ⟨by simp_all, ?_⟩; repeat (first | exact Below.refl _ _ | refine Below.setCell ?_ (by simp) _ | refine Below.alloc ?_ (by simp) _))

set_option maxHeartbeats 1000000 in
theorem rr_none (k : Int) (h1 : k ≠ 1) (h2 : k ≠ 2) (h3 : k ≠ 3) (h4 : k ≠ 4) (h5 : k ≠ 5) (h6 : k ≠ 6) (h7 : k ≠ 7) (t : ByteArray) (b i : Int) (e : Bool) (w : World) : Calls Tryz.prog 25 #[.agg #[.int .u8 k, .string t, .int .i64 b, .int .i64 i, .bool e]] w fun x w' => x = .returned (.bool false) ∧ Below w.heap.size w w' := by
  go_enter Tryz.func25, Tryz.ntmps25
  go_wp2_with fail
  all_goals go_ret
  all_goals (refine ⟨by simp_all, ?_⟩; repeat (first | exact Below.refl _ _ | refine Below.setCell ?_ (by simp) _ | refine Below.alloc ?_ (by simp) _))

theorem rright_any (d : Dc) (ht : d.t.size ≤ 9223372036854775807) (w : World) : Calls Tryz.prog 25 #[d.v] w fun x w' => x = .returned (.bool (rt d)) ∧ Below w.heap.size w w' := by
  obtain ⟨k, t, b, i, e⟩ := d
  by_cases k1 : k = 1
  · subst k1
    have e1 : rt ⟨1, t, b, i, e⟩ = (rtT t && (b == 0 && (i == 0 && !e))) := by
      unfold rt
      rw [if_pos rfl]
      congr 1
      rw [Bool.eq_iff_iff]
      simp [Dc.mk.injEq]
    rw [e1]
    exact rr_text t b i e ht w
  by_cases k3 : k = 3
  · subst k3
    have e1 : rt ⟨3, t, b, i, e⟩ = (rtN b && (t.toList == [] && (i == 0 && !e))) := by
      unfold rt
      rw [if_neg (by show ¬ (3 : Int) = 1; decide), if_pos rfl, tl_E]
      congr 1
      rw [Bool.eq_iff_iff]
      simp [Dc.mk.injEq]
    rw [e1]
    exact rr_brk t b i e w
  by_cases k6 : k = 6
  · subst k6
    have e1 : rt ⟨6, t, b, i, e⟩ = (rtN i && (t.toList == [] && b == 0)) := by
      unfold rt
      rw [if_neg (by show ¬ (6 : Int) = 1; decide), if_neg (by show ¬ (6 : Int) = 3; decide), if_pos rfl, tl_E]
      congr 1
      rw [Bool.eq_iff_iff]
      simp [Dc.mk.injEq]
    rw [e1]
    exact rr_beg t b i e w
  by_cases kz : k = 2 ∨ k = 4 ∨ k = 5 ∨ k = 7
  · have e1 : rt ⟨k, t, b, i, e⟩ = (t.toList == [] && (b == 0 && (i == 0 && !e))) := by
      unfold rt
      rw [if_neg k1, if_neg k3, if_neg k6, if_pos kz, tl_E]
      rw [Bool.eq_iff_iff]
      simp [Dc.mk.injEq]
    rw [e1]
    exact rr_zero k kz t b i e w
  · have e1 : rt ⟨k, t, b, i, e⟩ = false := by
      unfold rt
      rw [if_neg k1, if_neg k3, if_neg k6, if_neg kz]
    rw [e1]
    simp only [not_or] at kz
    exact rr_none k k1 kz.1 k3 kz.2.1 kz.2.2.1 k6 kz.2.2.2 t b i e w
end Go.Proofs.YtmjhfabdbajchaaGreatDoor
set_option linter.unusedVariables false
set_option linter.unusedSimpArgs false
namespace Go.Proofs.YtmjhfabdbajchaaGreatDoor
open Go.RowKit

/-! The document's Form and Check. -/
def fri : Option Nat → Int
  | some j => (j : Int)
  | none => -1

end Go.Proofs.YtmjhfabdbajchaaGreatDoor
set_option linter.unusedVariables false
set_option linter.unusedSimpArgs false
namespace Go.Proofs.YtmjhfabdbajchaaGreatDoor
open Go.RowKit

theorem Tryz.info37 : (Tryz.prog.info? 37).map (fun i => (i.zero, i.size, i.bytes)) = some (some (.agg #[.int .u8 0, .string ⟨#[]⟩, .int .i64 0, .int .i64 0, .bool false]), 5, 48) := by kernel_rfl
/-! A row of pieces of the call's own. -/
def Rp (B : Nat) (w : World) (v : Value) (l : List Dc) : Prop := w.ownsRow B 37 5 v l.length (dcs l)
theorem rp_nil (B : Nat) (w : World) : Rp B w (.slice none 0 0) [] := World.ownsRow_nil w B 37 5
theorem Rp.shape {B : Nat} {w : World} {v : Value} {l : List Dc} (h : Rp B w v l) : ∃ p cap, v = .slice p l.length cap ∧ l.length ≤ cap ∧ cap ≤ maxLen := by
  rcases h.2 with ⟨rfl, h0⟩ | ⟨b, cap, cur, rfl, _, h3, h4, h5, _⟩
  · exact ⟨none, 0, by rw [h0], by omega, Nat.zero_le _⟩
  · exact ⟨_, cap, rfl, h4, h5⟩
theorem Rp.own {B : Nat} {w : World} {v : Value} {l : List Dc} (h : Rp B w v l) : ∀ k, v.ownBlock = some k → B ≤ k := by
  intro k hk
  rcases h.2 with ⟨rfl, h0⟩ | ⟨b, cap, cur, rfl, hb, _⟩
  · cases hk
  · simp only [Value.ownBlock, Option.some.injEq] at hk
    omega
theorem Rp.below {B : Nat} {w w' : World} {v : Value} {l : List Dc} (h : Rp B w v l) (hb : Below w.heap.size w w') : Rp B w' v l := by
  refine ⟨h.1, ?_⟩
  rcases h.2 with h1 | ⟨g, cap, cur, rfl, h2, h3, h4⟩
  · exact .inl h1
  · exact .inr ⟨g, cap, cur, rfl, h2, blk_below h3 hb, h4⟩
theorem dcs_app (a b : List Dc) : dcs (a ++ b) = dcs a ++ dcs b := flat_append Dc.cs a b
theorem app_piece {W : World} {ops : Array Oper} {rest : List Oper} {o : Oper} {a : Act} {Q : Exit → Act → World → Prop} (hgd : o.guard = none) (s x : Operand)
    (ho : o.op = .call { callee := .builtin .append, args := #[s, x], argTypes := #[42, 42] }) (B : Nat) (v : Value) (l : List Dc) (d : Dc) (hs : a.eval s = v) (hr : Rp B W v l)
    (g c : Nat) (hx : a.eval x = .slice (some ⟨g, 0, none⟩) 1 c) (hg : W.heap[g]? = some (.cells #[.int .u8 d.k, .string d.t, .int .i64 d.b, .int .i64 d.i, .bool d.e] 37 (0, 0))) (hl : l.length ≤ 1000000000) (hB : B ≤ W.heap.size)
    (h : ∀ v' w', Rp B w' v' (l ++ [d]) → Below B W w' → W.grownBy w' v.ownBlock → (v'.ownBlock = v.ownBlock ∨ v'.ownBlock = some W.heap.size) → wpList Tryz.prog ops Q rest (a.put o.dst v') w') : wpList Tryz.prog ops Q (o :: rest) a W := by
  obtain ⟨i0, hi, hz0, hz1, hz2⟩ := info_parts Tryz.info37
  refine wpList_append_own_at (P := Tryz.prog) (w := W) hgd s x 42 ho B 37 i0 _ 5 48 Tryz.underlying42 hi hz0 hz1 hz2 rfl (by decide) v _ _ hs hr ⟨g, 0, none⟩ 1 c (dcs [d]) hx (by rw [dcs_len]; rfl) ?_ (dcs_one [d]) (by unfold maxLen; omega) (by omega) hB ?_
  · intro j u hu
    refine World.news_of_block hg j u ?_
    have e : dcs [d] = [.int .u8 d.k, .string d.t, .int .i64 d.b, .int .i64 d.i, .bool d.e] := by simp [dcs, flat, Dc.cs]
    rw [e] at hu
    simpa using hu
  · intro v' w' h1 h2 _ h4
    refine h v' w' ?_ ((Below.refl B W).grown h2 hB hr.own) h2 h4
    unfold Rp
    rw [List.length_append, dcs_app]
    exact h1
theorem heap_new2 (w : World) (o1 o2 : Obj) : ((w.alloc o1).alloc o2).heap[w.heap.size + 1]? = some o2 := by
  have := heap_new (w.alloc o1) o2
  rwa [World.size_alloc] at this
theorem rt_size {d : Dc} (h : rt d = true) : d.t.size ≤ 9223372036854775807 := by
  cases rt_of h with
  | text t hq => have := (rtT_len hq).2; show t.size ≤ _; omega
  | brk n hq => exact Nat.zero_le _
  | beg n e hq => exact Nat.zero_le _
  | blank => exact Nat.zero_le _
  | hard => exact Nat.zero_le _
  | empty => exact Nat.zero_le _
  | «end» => exact Nat.zero_le _

end Go.Proofs.YtmjhfabdbajchaaGreatDoor
set_option linter.unusedVariables false
set_option linter.unusedSimpArgs false
namespace Go.Proofs.YtmjhfabdbajchaaGreatDoor
open Go.RowKit

theorem tl_inj {a b : ByteArray} (h : a.toList = b.toList) : a = b := by
  rw [Lib.toList_data, Lib.toList_data] at h
  exact ls_inj h

end Go.Proofs.YtmjhfabdbajchaaGreatDoor
set_option linter.unusedVariables false
set_option linter.unusedSimpArgs false
namespace Go.Proofs.YtmjhfabdbajchaaGreatDoor
open Go.RowKit

/-! Rows that are as long as what came in. -/
theorem app_row {W : World} {ops : Array Oper} {rest : List Oper} {o : Oper} {a : Act} {Q : Exit → Act → World → Prop} (hgd : o.guard = none) (s x : Operand)
    (ho : o.op = .call { callee := .builtin .append, args := #[s, x], argTypes := #[42, 42] }) (B : Nat) (v : Value) (l ds : List Dc) (hs : a.eval s = v) (hr : Rp B W v l)
    (ad : Addr) (m c : Nat) (hx : a.eval x = .slice (some ad) m c) (hm : ds.length = m) (hg : ∀ j u, (dcs ds)[j]? = some u → W.cell? (ad.add j) = some u) (hl : (l.length + ds.length) * 48 ≤ 140737488355328) (hB : B ≤ W.heap.size)
    (h : ∀ v' w', Rp B w' v' (l ++ ds) → Below B W w' → wpList Tryz.prog ops Q rest (a.put o.dst v') w') : wpList Tryz.prog ops Q (o :: rest) a W := by
  subst hm
  obtain ⟨i0, hi, hz0, hz1, hz2⟩ := info_parts Tryz.info37
  refine wpList_append_own_at (P := Tryz.prog) (w := W) hgd s x 42 ho B 37 i0 _ 5 48 Tryz.underlying42 hi hz0 hz1 hz2 rfl (by decide) v _ _ hs hr ad ds.length c (dcs ds) hx (by rw [dcs_len]) hg (dcs_one ds) (by unfold maxLen; omega) hl hB ?_
  intro v' w' h1 h2 _ h4
  refine h v' w' ?_ ((Below.refl B W).grown h2 hB hr.own)
  unfold Rp
  rw [List.length_append, dcs_app]
  exact h1

def m99 : Dc := ⟨99, bE, 0, 0, false⟩
theorem rp_some {B : Nat} {w : World} {v : Value} {l : List Dc} {d : Dc} (h : Rp B w v (l ++ [d])) : ∃ g c, v = .slice (some ⟨g, 0, none⟩) (l.length + 1) c ∧ l.length + 1 ≤ c ∧ c ≤ 9223372036854775807 := by
  rcases h.2 with ⟨_, h0⟩ | ⟨g, cap, cur, rfl, _, _, h4, h5, _⟩
  · rw [List.length_append] at h0; simp at h0
  · rw [List.length_append] at h4 ⊢
    exact ⟨g, cap, rfl, h4, h5⟩
/-- What the law has lent, in any world behind. -/
structure DSt (w W : World) (g c : Nat) (l : List Dc) : Prop where
  bel : Below w.heap.size w W
  row : Rp w.heap.size W (.slice (some ⟨g, 0, none⟩) (l.length + 1) c) (l ++ [m99])
theorem DSt.below {w W W' : World} {g c : Nat} {l : List Dc} (h : DSt w W g c l) (hb : Below W.heap.size W W') : DSt w W' g c l :=
  ⟨h.bel.trans (hb.mono h.bel.size), h.row.below hb⟩
theorem DSt.lay {w W : World} {g c : Nat} {l : List Dc} (h : DSt w W g c l) (ht : ∀ d ∈ l, d.t.size ≤ 9223372036854775807) : Lay W (some ⟨g, 0, none⟩) l := by
  obtain ⟨ao, cap, hv, _, hL, _, _, _⟩ := Lay.row h.row (fun d hd => by
    rcases List.mem_append.1 hd with h | h
    · exact ht d h
    · simp at h; subst h; exact Nat.zero_le _)
  simp only [Value.slice.injEq] at hv
  obtain ⟨rfl, _, rfl⟩ := hv
  intro j d hd
  refine hL j d ?_
  have := (List.getElem?_eq_some_iff.1 hd).1
  rw [List.getElem?_append_left this]
  exact hd
theorem DSt.mark {w W : World} {g c : Nat} {l : List Dc} (h : DSt w W g c l) (ht : ∀ d ∈ l, d.t.size ≤ 9223372036854775807) : W.cell? ⟨g, l.length * 5, none⟩ = some (.int .u8 99) := by
  obtain ⟨ao, cap, hv, _, hL, _, _, _⟩ := Lay.row h.row (fun d hd => by
    rcases List.mem_append.1 hd with h | h
    · exact ht d h
    · simp at h; subst h; exact Nat.zero_le _)
  simp only [Value.slice.injEq] at hv
  obtain ⟨rfl, _, rfl⟩ := hv
  obtain ⟨_, b, off, e, c0, _⟩ := hL l.length m99 (by simp)
  cases e
  rw [Nat.zero_add] at c0
  exact c0

end Go.Proofs.YtmjhfabdbajchaaGreatDoor
set_option linter.unusedVariables false
set_option linter.unusedSimpArgs false
namespace Go.Proofs.YtmjhfabdbajchaaGreatDoor
open Go.RowKit

/-! A row of bytes of the call's own. -/
def Br (B : Nat) (w : World) (v : Value) (l : List UInt8) : Prop := w.ownsRow B 5 1 v l.length (bc l)
theorem br_nil (B : Nat) (w : World) : Br B w (.slice none 0 0) [] := World.ownsRow_nil w B 5 1
theorem Br.shape {B : Nat} {w : World} {v : Value} {l : List UInt8} (h : Br B w v l) : ∃ p cap, v = .slice p l.length cap ∧ l.length ≤ cap ∧ cap ≤ maxLen := by
  rcases h.2 with ⟨rfl, h0⟩ | ⟨b, cap, cur, rfl, _, h3, h4, h5, _⟩
  · exact ⟨none, 0, by rw [h0], by omega, Nat.zero_le _⟩
  · exact ⟨_, cap, rfl, h4, h5⟩
theorem Br.own {B : Nat} {w : World} {v : Value} {l : List UInt8} (h : Br B w v l) : ∀ k, v.ownBlock = some k → B ≤ k := by
  intro k hk
  rcases h.2 with ⟨rfl, h0⟩ | ⟨b, cap, cur, rfl, hb, _⟩
  · cases hk
  · simp only [Value.ownBlock, Option.some.injEq] at hk
    omega
theorem Br.below {B : Nat} {w w' : World} {v : Value} {l : List UInt8} (h : Br B w v l) (hb : Below w.heap.size w w') : Br B w' v l := by
  refine ⟨h.1, ?_⟩
  rcases h.2 with h1 | ⟨g, cap, cur, rfl, h2, h3, h4⟩
  · exact .inl h1
  · exact .inr ⟨g, cap, cur, rfl, h2, blk_below h3 hb, h4⟩
theorem below_of_grown {B : Nat} {w w' : World} {v : Value} {l : List UInt8} (h : Br B w v l) (hg : w.grownBy w' v.ownBlock) (hB : B ≤ w.heap.size) : Below B w w' :=
  (Below.refl B w).grown hg hB h.own

/-- Nothing below B has turned, and no block but rows of bytes. -/
structure Bw5 (B : Nat) (w w' : World) : Prop where
  bel : Below B w w'
  oth : Lib.OthersKept 5 none w w'
theorem Bw5.refl (B : Nat) (w : World) : Bw5 B w w := ⟨Below.refl _ _, Lib.OthersKept.refl _ _ _⟩
theorem Bw5.trans {B : Nat} {a b c : World} (h : Bw5 B a b) (k : Bw5 B b c) : Bw5 B a c := ⟨h.bel.trans k.bel, h.oth.trans k.oth⟩
theorem Bw5.of_below {B : Nat} {w w' : World} (h : Below w.heap.size w w') (hB : B ≤ w.heap.size) : Bw5 B w w' :=
  ⟨h.mono hB, fun k o hk _ _ => (h.block k (Array.getElem?_eq_some_iff.1 hk).1).trans hk⟩
theorem Bw5.of_grown {B : Nat} {w w' : World} {v : Value} {l : List UInt8} (h : Br B w v l) (hg : w.grownBy w' v.ownBlock) (hB : B ≤ w.heap.size) : Bw5 B w w' := by
  refine ⟨below_of_grown h hg hB, fun k o hk _ ho => ?_⟩
  refine (hg.block k (Array.getElem?_eq_some_iff.1 hk).1 ?_).trans hk
  intro e
  rcases h.2 with ⟨rfl, _⟩ | ⟨b, cap, cur, rfl, _, h3, _⟩
  · cases e
  · simp only [Value.ownBlock, Option.some.injEq] at e
    subst e
    rw [hk] at h3
    cases h3
    exact ho _ _ rfl
theorem Bw5.alloc {B : Nat} {a w : World} (h : Bw5 B a w) (hB : B ≤ a.heap.size) (o : Obj) : Bw5 B a (w.alloc o) := h.trans (Bw5.of_below ((Below.refl _ _).alloc (Nat.le_refl _) _) (Nat.le_trans hB h.bel.size))
theorem Bw5.drew {B : Nat} {a w : World} (h : Bw5 B a w) : Bw5 B a w.drew := ⟨h.bel.drew, h.oth.drew⟩
theorem Bw5.blk {B : Nat} {w w' : World} (h : Bw5 B w w') {g : Nat} {cs : Array Value} {T : TypeId} {f : Nat × Nat} (hg : w.heap[g]? = some (.cells cs T f)) (hT : T ≠ 5) : w'.heap[g]? = some (.cells cs T f) :=
  h.oth g _ hg (by simp) (fun c fz e => by cases e; exact hT rfl)


/-- Bytes behind a row of the call's own. -/
theorem app_bytes {W : World} {ops : Array Oper} {rest : List Oper} {o : Oper} {a : Act} {Q : Exit → Act → World → Prop} (hgd : o.guard = none) (s x : Operand)
    (ho : o.op = .call { callee := .builtin .append, args := #[s, x], argTypes := #[46, 46] }) (B : Nat) (v : Value) (l new : List UInt8) (hs : a.eval s = v) (hr : Br B W v l)
    (g m c : Nat) (hx : a.eval x = .slice (some ⟨g, 0, none⟩) m c) (hm : new.length = m) (hg : W.heap[g]? = some (.cells (bc new).toArray 5 (0, 0))) (hl : l.length + new.length ≤ 1073741824) (hB : B ≤ W.heap.size)
    (h : ∀ v' w', Br B w' v' (l ++ new) → Bw5 B W w' → wpList Tryz.prog ops Q rest (a.put o.dst v') w') : wpList Tryz.prog ops Q (o :: rest) a W := by
  subst hm
  obtain ⟨i0, hi, hz0, hz1, hz2⟩ := info_parts Tryz.info5
  refine wpList_append_own_at (P := Tryz.prog) (w := W) hgd s x 46 ho B 5 i0 (.int .u8 0) 1 1 Tryz.underlying46 hi hz0 hz1 hz2 rfl (by decide) v _ _ hs hr ⟨g, 0, none⟩ new.length c (bc new) hx (by rw [bc_len]; omega) ?_ (bc_one new) (by unfold maxLen; omega) (by omega) hB ?_
  · intro j u hu
    exact World.news_of_block hg j u (by simpa using hu)
  · intro v' w' h1 h2 _ _
    refine h v' w' ?_ (Bw5.of_grown hr h2 hB)
    unfold Br
    rw [List.length_append, bc_app]
    exact h1
theorem app_str {W : World} {ops : Array Oper} {rest : List Oper} {o : Oper} {a : Act} {Q : Exit → Act → World → Prop} (hgd : o.guard = none) (s x : Operand)
    (ho : o.op = .call { callee := .builtin .append, args := #[s, x], argTypes := #[46, 9] }) (B : Nat) (v : Value) (l : List UInt8) (t : ByteArray) (hs : a.eval s = v) (hr : Br B W v l)
    (hx : a.eval x = .string t) (hl : l.length + t.size ≤ 1073741824) (hB : B ≤ W.heap.size)
    (h : ∀ v' w', Br B w' v' (l ++ lsb t) → Bw5 B W w' → wpList Tryz.prog ops Q rest (a.put o.dst v') w') : wpList Tryz.prog ops Q (o :: rest) a W := by
  obtain ⟨i0, hi, hz0, hz1, hz2⟩ := info_parts Tryz.info5
  refine wpList_append_string_at (P := Tryz.prog) (w := W) hgd s x 46 9 ho B 5 i0 Tryz.underlying46 Tryz.underlying9 hi hz0 hz1 hz2 v _ _ hs hr t hx (by unfold maxLen; omega) (by omega) hB ?_
  intro v' w' h1 h2 _
  refine h v' w' ?_ (Bw5.of_grown hr h2 hB)
  unfold Br
  rw [List.length_append, bc_app, ls_len]
  exact h1
/-- The same at a step of a region that draws its order. -/
theorem step_bytes {W : World} {ops : Array Oper} {o : Oper} {a : Act} {K : Act → World → Prop} {Q : Exit → Act → World → Prop} {E : Prop} (hgd : o.guard = none) (s x : Operand)
    (ho : o.op = .call { callee := .builtin .append, args := #[s, x], argTypes := #[46, 46] }) (B : Nat) (v : Value) (l new : List UInt8) (hs : a.eval s = v) (hr : Br B W v l)
    (g m c : Nat) (hx : a.eval x = .slice (some ⟨g, 0, none⟩) m c) (hm : new.length = m) (h0 : 0 < new.length) (hg : W.heap[g]? = some (.cells (bc new).toArray 5 (0, 0))) (hl : l.length + new.length ≤ 1073741824) (hB : B ≤ W.heap.size)
    (h : ∀ g cap w', Br B w' (.slice (some ⟨g, 0, none⟩) (l.length + m) cap) (l ++ new) → Bw5 B W w' → K (a.put o.dst (.slice (some ⟨g, 0, none⟩) (l.length + m) cap)) w') : if Region.wanted o (yielded ops a.tmps) = true then Oper.wp Tryz.prog o a W K Q else E := by
  subst hm
  obtain ⟨i0, hi, hz0, hz1, hz2⟩ := info_parts Tryz.info5
  refine step_append_lies (P := Tryz.prog) W hgd s x 46 ho B 5 i0 (.int .u8 0) 1 1 Tryz.underlying46 hi hz0 hz1 hz2 rfl (by decide) v _ _ hs hr ⟨g, 0, none⟩ new.length c (bc new) hx (by rw [bc_len]; omega) ?_ (bc_one new) h0 (by unfold maxLen; omega) (by omega) hB _ rfl ?_
  · intro j u hu
    exact World.news_of_block hg j u (by simpa using hu)
  · intro g' cap w' h1 h2 _ _
    refine h g' cap w' ?_ (Bw5.of_grown hr h2 hB)
    unfold Br
    rw [List.length_append, bc_app]
    exact h1
end Go.Proofs.YtmjhfabdbajchaaGreatDoor
