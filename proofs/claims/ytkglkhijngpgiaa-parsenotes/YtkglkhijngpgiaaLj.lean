import Derived.Test.YtkglkhijngpgiaaLh
import Derived.Test.YtkglkhijngpgiaaYg
set_option linter.unusedVariables false
set_option linter.unusedSimpArgs false
namespace Go.Proofs.Ytkglkhijngpgiaa
open Go.RowKit

/-! ParseNotes' walk. -/
theorem noted_any (b off n cap : Nat) (W : World) (hn : n ≤ 1000000000000) (h : ∀ j, j < n → W.cell? ⟨b, off + j * 8, none⟩ = some (.int .u8 4)) :
    Calls Try.prog 7 #[.slice (some ⟨b, off, none⟩) n cap] W fun r w' => r = .returned (.bool true) ∧ Below W.heap.size W w' := by
  have H : Hid (∀ j, j < n → W.cell? ⟨b, off + j * 8, none⟩ = some (.int .u8 4)) := h
  clear h
  go_enter Try.func7, Try.ntmps7
  go_wp2_with fail
  go_loopw [3] (fun iv wr => ∃ j : Nat, j ≤ n ∧ iv = .int .i64 j ∧ Hid (Below W.heap.size W wr)) (fun iv _ => n - (intOf iv).toNat)
  case atStart => exact ⟨0, Nat.zero_le _, rfl, Below.refl _ _⟩
  case round =>
    obtain ⟨j, hj, rfl, HB⟩ := hrel
    by_cases hlt : j < n
    · have q1 : (j : Int) < n := by omega
      have q2 : (0 : Int) ≤ j := by omega
      have c0 : wr.cell? ⟨b, off + j * 8, none⟩ = some (.int .u8 4) := by
        have := H.out j hlt
        exact (World.cell?_of_block (a := ⟨b, _, none⟩) (HB.out.block b (World.block_lt_of_cell? _ _ this))).trans this
      go_wp2_with fail
      exact ⟨⟨j + 1, hlt, by go_num, HB⟩, by simp [intOf]; omega⟩
    · obtain rfl : j = n := by omega
      have q1 : ¬ ((j : Int) < j) := by omega
      go_wp2_with fail
      go_ret
      exact ⟨rfl, HB.out⟩

theorem filt_step {E B : List Ev} (h : E.filter nn = B) {i k : Nat} {e : Ev} (hi : E[i]? = some e) (hk : ((E.take i).filter nn).length = k) :
    (nn e = true → B[k]? = some e ∧ ((E.take (i + 1)).filter nn).length = k + 1) ∧ (nn e = false → ((E.take (i + 1)).filter nn).length = k) := by
  obtain ⟨a1, a2⟩ := List.getElem?_eq_some_iff.1 hi
  have ht : E.take (i + 1) = E.take i ++ [e] := by rw [List.take_add_one, hi]; rfl
  constructor
  · intro hn
    have h1 : E = E.take i ++ e :: E.drop (i + 1) := by
      have := List.take_append_drop i E
      rw [List.drop_eq_getElem_cons a1, a2] at this
      exact this.symm
    have h2 : B = (E.take i).filter nn ++ e :: (E.drop (i + 1)).filter nn := by
      rw [← h, ← List.filter_cons_of_pos (l := E.drop (i + 1)) hn, ← List.filter_append, ← h1]
    refine ⟨?_, ?_⟩
    · rw [h2, List.getElem?_append_right (by omega), hk]
      simp
    · rw [ht, List.filter_append, List.length_append, hk]
      simp [hn]
  · intro hn
    rw [ht, List.filter_append, List.length_append, hk]
    simp [hn]

end Go.Proofs.Ytkglkhijngpgiaa
