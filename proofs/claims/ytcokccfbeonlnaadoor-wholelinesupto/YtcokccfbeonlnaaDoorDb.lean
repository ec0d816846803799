import Derived.Test.YtcokccfbeonlnaaDoorRows
import Derived.Lib.Bytealg
import Derived.Lib.Strings
set_option linter.unusedVariables false
set_option linter.unusedSimpArgs false
namespace Go.Proofs.YtcokccfbeonlnaaDoor

theorem all8 {P : UInt8 → Prop} (h : ∀ n : Fin 256, P (UInt8.ofNat n.val)) (c : UInt8) : P c := by
  have := h ⟨c.toNat, c.toNat_lt⟩
  simpa using this
/-- A piece of a layout. -/
structure Dc where
  k : Int
  t : ByteArray
  b : Int
  i : Int
  e : Bool
  deriving DecidableEq

def bE : ByteArray := ⟨#[]⟩
def lsb (s : ByteArray) : List UInt8 := s.data.toList
theorem ls_inj {a b : ByteArray} (h : lsb a = lsb b) : a = b := by
  cases a; cases b; simp only [lsb] at h; rw [Array.toList_inj.1 h]
theorem ls_len (s : ByteArray) : (lsb s).length = s.size := by simp [lsb]
theorem ls_mk (l : List UInt8) : lsb ⟨l.toArray⟩ = l := by simp [lsb]

def edg (c : UInt8) : Bool := c == 32 || c == 10
def rtT (s : ByteArray) : Bool := decide (1 ≤ s.size) && (decide (s.size ≤ 65535) && (!edg ((lsb s).getD 0 0) && !edg ((lsb s).getD (s.size - 1) 0)))
def rtN (n : Int) : Bool := decide (0 ≤ n) && decide (n ≤ 1000)
/-- Is a piece right? -/
def rt (d : Dc) : Bool :=
  if d.k = 1 then rtT d.t && decide (d = ⟨1, d.t, 0, 0, false⟩)
  else if d.k = 3 then rtN d.b && decide (d = ⟨3, bE, d.b, 0, false⟩)
  else if d.k = 6 then rtN d.i && decide (d = ⟨6, bE, 0, d.i, d.e⟩)
  else if d.k = 2 ∨ d.k = 4 ∨ d.k = 5 ∨ d.k = 7 then decide (d = ⟨d.k, bE, 0, 0, false⟩) else false

/-- A right piece is one of seven. -/
inductive Rt : Dc → Prop
  | text (t : ByteArray) (h : rtT t = true) : Rt ⟨1, t, 0, 0, false⟩
  | brk (n : Int) (h : rtN n = true) : Rt ⟨3, bE, n, 0, false⟩
  | beg (n : Int) (e : Bool) (h : rtN n = true) : Rt ⟨6, bE, 0, n, e⟩
  | blank : Rt ⟨2, bE, 0, 0, false⟩
  | hard : Rt ⟨4, bE, 0, 0, false⟩
  | empty : Rt ⟨5, bE, 0, 0, false⟩
  | «end» : Rt ⟨7, bE, 0, 0, false⟩
theorem rt_of {d : Dc} (h : rt d = true) : Rt d := by
  unfold rt at h
  split at h
  · simp only [Bool.and_eq_true, decide_eq_true_eq] at h
    obtain ⟨h1, h2⟩ := h
    rw [h2]; exact .text _ h1
  · split at h
    · simp only [Bool.and_eq_true, decide_eq_true_eq] at h
      obtain ⟨h1, h2⟩ := h
      rw [h2]; exact .brk _ h1
    · split at h
      · simp only [Bool.and_eq_true, decide_eq_true_eq] at h
        obtain ⟨h1, h2⟩ := h
        rw [h2]; exact .beg _ _ h1
      · split at h
        · rename_i h4
          simp only [decide_eq_true_eq] at h
          obtain ⟨k, t, b, i, e⟩ := d
          simp only [Dc.mk.injEq, true_and] at h
          obtain ⟨rfl, rfl, rfl, rfl⟩ := h
          simp only at h4
          rcases h4 with rfl | rfl | rfl | rfl
          · exact .blank
          · exact .hard
          · exact .empty
          · exact .end
        · cases h
theorem rt_mk {d : Dc} (h : Rt d) : rt d = true := by
  cases h with
  | text t h => simp [rt, h]
  | brk n h => simp [rt, h]
  | beg n e h => simp [rt, h]
  | blank => rfl
  | hard => rfl
  | empty => rfl
  | «end» => rfl
theorem rtN_of {n : Int} (h : rtN n = true) : 0 ≤ n ∧ n ≤ 1000 := by simpa [rtN] using h

theorem rtT_len {t : ByteArray} (h : rtT t = true) : 1 ≤ t.size ∧ t.size ≤ 65535 := by
  simp only [rtT, Bool.and_eq_true, decide_eq_true_eq] at h
  exact ⟨h.1, h.2.1⟩
def dep (k : Int) : Int := if k = 6 then 1 else if k = 7 then -1 else 0
def frm : Int → Nat → List Dc → Option Nat
  | o, j, [] => if 0 < o then some j else none
  | o, j, d :: r => if rt d = true ∧ 0 ≤ o + dep d.k then frm (o + dep d.k) (j + 1) r else some j
def chk (l : List Dc) : Int × Int := if 2097152 < l.length then (2, 0) else match frm 0 0 l with | some j => (70, (j : Int)) | none => (0, 0)
theorem frm_rt : ∀ (l : List Dc) (o : Int) (j : Nat), frm o j l = none → ∀ d ∈ l, rt d = true
  | [], _, _, _ => by simp
  | d :: r, o, j, h => by
    simp only [frm] at h
    split at h
    · rename_i hc
      intro x hx
      rcases List.mem_cons.1 hx with rfl | hx
      · exact hc.1
      · exact frm_rt r _ _ h x hx
    · cases h
theorem chk_ok {l : List Dc} (h : (chk l).1 = 0) : l.length ≤ 2097152 ∧ frm 0 0 l = none ∧ (∀ d ∈ l, rt d = true) ∧ chk l = (0, 0) := by
  unfold chk at h ⊢
  split at h
  · exact absurd h (by decide)
  · rename_i h1
    rw [if_neg h1]
    cases hf : frm 0 0 l with
    | some j => rw [hf] at h; exact absurd h (by simp)
    | none => exact ⟨by omega, rfl, frm_rt l _ _ hf, rfl⟩
theorem frm_le : ∀ (l : List Dc) (o : Int) (j k : Nat), frm o j l = some k → k ≤ j + l.length
  | [], o, j, k, h => by
    simp only [frm] at h
    split at h <;> cases h
    simp
  | d :: r, o, j, k, h => by
    simp only [frm] at h
    split at h
    · have := frm_le r _ _ k h
      simp; omega
    · cases h; omega
theorem chk_bd (l : List Dc) : 0 ≤ (chk l).1 ∧ (chk l).1 ≤ 70 ∧ 0 ≤ (chk l).2 ∧ (chk l).2 ≤ 2097152 := by
  unfold chk
  split
  · simp
  · rename_i h1
    cases hf : frm 0 0 l with
    | some j => have := frm_le l 0 0 j hf; simp; omega
    | none => simp

end Go.Proofs.YtcokccfbeonlnaaDoor