import Derived.Test.YtkigadnkclkopaaGreatG3
import Derived.BigQuiet
import Derived.WalkMore
set_option linter.unusedVariables false
set_option linter.unusedSimpArgs false
namespace Go.Proofs.YtkigadnkclkopaaGreat
open Go.RowKit

/-! slices.Contains of texts. -/
/-- The texts that a slice holds. -/
def Ls (W : World) (ao : Option Addr) (l : List ByteArray) : Prop := ∀ j s, l[j]? = some s → ∃ b off, ao = some ⟨b, off, none⟩ ∧ W.cell? ⟨b, off + j, none⟩ = some (.string s)
theorem Ls.kp {S : Nat → Prop} {w w' : World} {ao : Option Addr} {l : List ByteArray} (h : Ls w ao l) (hb : Kp S w w') (hS : ∀ a, ao = some a → ¬ S a.block) : Ls w' ao l := by
  intro j a ha
  obtain ⟨b, off, h1, c0⟩ := h j a ha
  have hlt := World.block_lt_of_cell? _ _ c0
  have e : w'.heap[b]? = w.heap[b]? := hb.block b hlt (hS _ h1)
  exact ⟨b, off, h1, (World.cell?_of_block (a := ⟨b, _, none⟩) e).trans c0⟩
theorem Ls.below {w w' : World} {ao : Option Addr} {l : List ByteArray} (h : Ls w ao l) (hb : Below w.heap.size w w') : Ls w' ao l := h.kp (Kp.of_below (S := fun _ => False) hb) (fun _ _ h => h)

theorem has_step (l : List ByteArray) (s x : ByteArray) (k : Nat) (hk : l[k]? = some x) (h : has (l.take k) s = false) : has (l.take (k + 1)) s = (s.toList == x.toList) := by
  rw [btl_eq]
  unfold has at h ⊢
  rw [List.take_add_one, hk, List.any_append, h]
  simp
theorem has_take (l : List ByteArray) (s : ByteArray) (k : Nat) (h : has (l.take k) s = true) : has l s = true := by
  unfold has at h ⊢
  simp only [List.any_eq_true] at h ⊢
  obtain ⟨x, hx, e⟩ := h
  exact ⟨x, List.mem_of_mem_take hx, e⟩

set_option maxHeartbeats 400000 in
theorem sIndex_any (ao : Option Addr) (l : List ByteArray) (cap : Nat) (s : ByteArray) (W : World) (h : Ls W ao l) (hl : l.length ≤ 1000) :
    Calls Tryz.prog 94 #[.slice ao l.length cap, .string s] W fun r w' => (∃ z : Int, r = .returned (.int .i64 z) ∧ (decide (0 ≤ z) = has l s)) ∧ w' = W := by
  have H : Hid (Ls W ao l) := h
  clear h
  go_enter Tryz.func94, Tryz.ntmps94
  go_wp2_with fail
  go_loopw [5, 8] (fun _ i wr => ∃ k : Nat, k ≤ l.length ∧ i = .int .i64 k ∧ Hid (has (l.take k) s = false) ∧ wr = W) (fun _ i _ => l.length - (intOf i).toNat)
  case atStart => exact ⟨0, Nat.zero_le _, rfl, by show has _ _ = _; simp [has], rfl⟩
  case round =>
    obtain ⟨k, hk, rfl, HI, rfl⟩ := hrel
    by_cases hlt : k < l.length
    · have q1 : (k : Int) < l.length := by omega
      have q0 : (0 : Int) ≤ k := by omega
      obtain ⟨x, hx⟩ : ∃ x, l[k]? = some x := ⟨_, List.getElem?_eq_getElem hlt⟩
      obtain ⟨b, off, rfl, hc⟩ := H.out k x hx
      have HS : Hid (has (l.take (k + 1)) s = (s.toList == x.toList)) := has_step l s x k hx HI.out
      have HT : Hid (has (l.take (k + 1)) s = true → has l s = true) := has_take l s _
      clear hx
      by_cases he : (s.toList == x.toList) = true
      · go_wp2_with fail
        go_ret
        exact ⟨⟨_, rfl, by rw [HT.out (HS.out.trans he)]; simp⟩, rfl⟩
      · have he' : (s.toList == x.toList) = false := by simpa using he
        clear he
        go_wp2_with fail
        exact ⟨⟨k + 1, hlt, by go_num, HS.out.trans he', trivial⟩, by simp [intOf]; omega⟩
    · obtain rfl : k = l.length := by omega
      have q1 : ¬ ((l.length : Int) < l.length) := by omega
      go_wp2_with fail
      go_ret
      refine ⟨⟨_, rfl, ?_⟩, rfl⟩
      have := HI.out
      rw [List.take_length] at this
      rw [this]
      rfl

theorem sContains_any (ao : Option Addr) (l : List ByteArray) (cap : Nat) (s : ByteArray) (W : World) (h : Ls W ao l) (hl : l.length ≤ 1000) :
    Calls Tryz.prog 69 #[.slice ao l.length cap, .string s] W fun r w' => r = .returned (.bool (has l s)) ∧ w' = W := by
  have H : Hid (Calls Tryz.prog 94 #[.slice ao l.length cap, .string s] W fun r w' => (∃ z : Int, r = .returned (.int .i64 z) ∧ (decide (0 ≤ z) = has l s)) ∧ w' = W) := sIndex_any ao l cap s W h hl
  clear h
  generalize has l s = b at *
  go_enter Tryz.func69, Tryz.ntmps69
  go_wp2_with (go_at_call 94; refine H.out.mono ?_; rintro r w1 ⟨⟨z, rfl, hz⟩, rfl⟩; subst hz)
  go_ret
  exact ⟨by simp, rfl⟩

end Go.Proofs.YtkigadnkclkopaaGreat
