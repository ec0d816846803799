import Derived.Test.YtcokccfbeonlnaaDoorTe
import Derived.Test.YtcokccfbeonlnaaDoorSa
import Derived.Test.YtcokccfbeonlnaaDoorDb
set_option linter.unusedVariables false
set_option linter.unusedSimpArgs false
namespace Go.Proofs.YtcokccfbeonlnaaDoor

/-! How wide pieces are. -/
def hasF (t : ByteArray) : Bool := decide ((10 : UInt8) ∈ t.data.toList)
/-- A piece's width; that of one which has no end counts 4097. -/
def pw (d : Dc) : Nat := if d.k = 1 then (if hasF d.t then 4097 else (tw d.t).toNat) else if d.k = 2 then 1 else if d.k = 3 then d.b.toNat else if d.k = 4 ∨ d.k = 5 then 4097 else 0

structure Sp where
  all : Nat
  hang : Nat
  deriving DecidableEq
def Sp.wid (s : Sp) (c : Nat) : Sp := ⟨min (s.all + c) 4097, min (s.hang + c) 4097⟩
/-- What a piece needs, and how it stands ahead of it. -/
def tell (d : Dc) (s : Sp × List Sp) : Nat × Sp × List Sp :=
  if d.k = 7 then (0, ⟨0, 0⟩, s.1 :: s.2)
  else if d.k = 6 then (s.1.all, (s.2.headD ⟨0, 0⟩).wid s.1.all, s.2.tail)
  else if d.k = 3 then ((s.1.wid (pw d)).hang, ⟨(s.1.wid (pw d)).all, 0⟩, s.2)
  else if d.k = 4 ∨ d.k = 5 then (0, ⟨(s.1.wid (pw d)).all, 0⟩, s.2)
  else (0, s.1.wid (pw d), s.2)
def nds : List Dc → List Nat × Sp × List Sp
  | [] => ([], ⟨0, 0⟩, [])
  | d :: r => ((tell d (nds r).2).1 :: (nds r).1, (tell d (nds r).2).2)
theorem nds_len : ∀ l, (nds l).1.length = l.length
  | [] => rfl
  | d :: r => by simp [nds, nds_len r]
theorem nds_drop : ∀ (l : List Dc) (i : Nat), (nds (l.drop i)).1 = (nds l).1.drop i
  | l, 0 => by simp
  | [], i + 1 => by simp [nds]
  | d :: r, i + 1 => by simp [nds, nds_drop r i]
theorem wid_bd (s : Sp) (c : Nat) : (s.wid c).all ≤ 4097 ∧ (s.wid c).hang ≤ 4097 := by simp only [Sp.wid]; omega
def Sb (s : Sp) : Prop := s.all ≤ 4097 ∧ s.hang ≤ 4097
theorem tell_bd (d : Dc) (s : Sp × List Sp) (h : Sb s.1) (h2 : ∀ x ∈ s.2, Sb x) : (tell d s).1 ≤ 4097 ∧ Sb (tell d s).2.1 ∧ ∀ x ∈ (tell d s).2.2, Sb x := by
  unfold tell
  repeat' split
  · refine ⟨Nat.zero_le _, ⟨Nat.zero_le _, Nat.zero_le _⟩, ?_⟩
    intro x hx
    rcases List.mem_cons.1 hx with rfl | hx
    · exact h
    · exact h2 x hx
  · exact ⟨h.1, wid_bd _ _, fun x hx => h2 x (List.mem_of_mem_tail hx)⟩
  · exact ⟨(wid_bd _ _).2, ⟨(wid_bd _ _).1, Nat.zero_le _⟩, h2⟩
  · exact ⟨Nat.zero_le _, ⟨(wid_bd _ _).1, Nat.zero_le _⟩, h2⟩
  · exact ⟨Nat.zero_le _, wid_bd _ _, h2⟩
theorem nds_bd : ∀ l, (∀ x ∈ (nds l).1, x ≤ 4097) ∧ Sb (nds l).2.1 ∧ ∀ x ∈ (nds l).2.2, Sb x
  | [] => ⟨by simp [nds], ⟨Nat.zero_le _, Nat.zero_le _⟩, by simp [nds]⟩
  | d :: r => by
    obtain ⟨h1, h2, h3⟩ := nds_bd r
    obtain ⟨k1, k2, k3⟩ := tell_bd d (nds r).2 h2 h3
    refine ⟨?_, k2, k3⟩
    intro x hx
    rcases List.mem_cons.1 hx with rfl | hx
    · exact k1
    · exact h1 x hx
/-- How deep. -/
theorem nds_deep : ∀ (l : List Dc) (o : Int) (j : Nat), 0 ≤ o → frm o j l = none → ((nds l).2.2.length : Int) = o
  | [], o, j, ho, h => by
    simp only [frm] at h
    split at h
    · cases h
    · show (0 : Int) = o; omega
  | d :: r, o, j, ho, h => by
    simp only [frm] at h
    split at h
    · rename_i hc
      have ih := nds_deep r _ _ hc.2 h
      show ((tell d (nds r).2).2.2.length : Int) = o
      unfold tell
      unfold dep at ih
      split
      · rename_i h7
        rw [if_neg (by omega), if_pos h7] at ih
        show (((nds r).2.2.length + 1 : Nat) : Int) = o
        omega
      · rename_i h7
        split
        · rename_i h6
          rw [if_pos h6] at ih
          show ((nds r).2.2.tail.length : Int) = o
          rw [List.length_tail]; omega
        · rename_i h6
          rw [if_neg h6, if_neg h7] at ih
          repeat' split
          all_goals (show ((nds r).2.2.length : Int) = o; omega)
    · cases h

end Go.Proofs.YtcokccfbeonlnaaDoor
