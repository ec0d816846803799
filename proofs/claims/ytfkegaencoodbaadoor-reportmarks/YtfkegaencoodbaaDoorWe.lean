import Derived.Test.YtfkegaencoodbaaDoorWb
set_option linter.unusedVariables false
set_option linter.unusedSimpArgs false
namespace Go.Proofs.YtfkegaencoodbaaDoor
open Go.RowKit

/-- All characters are good. -/
def vl (s : ByteArray) : Bool := (P s).all (gd s)

set_option maxHeartbeats 400000 in
theorem valid_any (s : ByteArray) (w : World) (hs : s.size ≤ 2147483647) :
    Calls Tryd.prog 12 #[.string s] w fun e w' => e = .returned (.bool (vl s)) ∧ Below w.heap.size w w' := by
  go_enter Tryd.func12, Tryd.ntmps12
  go_wp2_with fail
  go_loopw [] (fun wr => ∃ pos : Nat, wr.heap[w.heap.size]? = some (.stringIter s pos) ∧ (pl s pos).all (gd s) = vl s ∧ Below w.heap.size w wr) (fun wr => s.size - wr.iterPos w.heap.size)
  case atStart => exact ⟨0, World.iter_heap _ _ _, rfl, below_iter _ _ _⟩
  case round =>
    obtain ⟨pos, hit, hr, hbel⟩ := hrel
    by_cases hp : pos < s.size
    · have hw := dw_facts s pos hp
      rw [pl_lt s pos hp, List.all_cons] at hr
      have hnx := fun ty => Lib.run_next_any_at (P := Tryd.prog) wr w.heap.size s pos ty hit hp
      have HI : Hid (wr.heap[w.heap.size]? = some (.stringIter s pos)) := hit
      have HR : Hid (_ = vl s) := hr
      have hbel2 := Lib.below_iterAt hbel (Nat.le_refl _) s (pos + dw s pos)
      have HI2 : Hid _ := Lib.iterAt_heap wr w.heap.size s pos (pos + dw s pos) hit
      have hsz := Lib.iterAt_size wr w.heap.size s (pos + dw s pos)
      clear hit hr
      by_cases hb : dp s pos = 65533
      · have hbb : (((Utf8.decode s pos).1 : Int) != 65533) = false := by have : (Utf8.decode s pos).1 = 65533 := hb; simp [this]
        go_wp2_with fail
        refine (next_in s pos _ (by unfold maxLen; omega) (by omega) (by omega)).mono ?_
        rintro e w1 ⟨rfl, hb1⟩
        rw [Int.toNat_natCast]
        have hb3 := hbel2.trans (hb1.mono (Nat.le_trans hbel.size (Nat.le_of_eq hsz.symm)))
        have HI3 : Hid (w1.heap[w.heap.size]? = some (.stringIter s (pos + dw s pos))) := by
          show _ = _
          rw [hb1.block w.heap.size (Nat.lt_of_lt_of_le (Array.getElem?_eq_some_iff.1 HI.out).1 (Nat.le_of_eq hsz.symm))]
          exact HI2.out
        clear hb1 hbel hbel2 HI2 hsz hnx
        generalize gd s pos = g at *
        cases g with
        | true =>
          go_wp2_with fail
          go_roundw
          case rel => exact ⟨pos + dw s pos, HI3.out, by have h := HR.out; simpa using h, hb3⟩
          case measure =>
            have hq := iterPos_of HI.out
            have hq2 := iterPos_of HI3.out
            rw [hq, hq2]; omega
        | false =>
          have HR2 : Hid (vl s = false) := by
            show vl s = false
            have h := HR.out
            simpa using h.symm
          clear HR
          go_wp2_with fail
          go_ret
          exact ⟨by rw [HR2.out]; rfl, hb3⟩
      · have hbb : (((Utf8.decode s pos).1 : Int) != 65533) = true := by
          have : (Utf8.decode s pos).1 ≠ 65533 := hb
          simp; omega
        have hg : gd s pos = true := by
          unfold gd gdb
          have : ((dp s pos : Int) != 65533) = true := hbb
          simp [this]
        have HR2 : Hid ((pl s (pos + dw s pos)).all (gd s) = vl s) := by
          show _ = _
          rw [← HR.out, hg]; simp
        clear HR hg hb
        go_wp2_with fail
        go_roundw
        case rel => exact ⟨pos + dw s pos, HI2.out, HR2.out, hbel2⟩
        case measure =>
          have hq := iterPos_of HI.out
          have hq2 := iterPos_of HI2.out
          rw [hq]
          show s.size - (wr.iterAt w.heap.size s (pos + dw s pos)).iterPos w.heap.size < _
          rw [hq2]; omega
    · have hnx := fun ty => Lib.run_next_end_at (P := Tryd.prog) wr w.heap.size s pos ty hit hp
      rw [pl_ge s pos (by omega)] at hr
      have HR2 : Hid (vl s = true) := hr.symm
      clear hr
      go_wp2_with fail
      go_ret
      exact ⟨by rw [HR2.out]; rfl, hbel⟩
end Go.Proofs.YtfkegaencoodbaaDoor
