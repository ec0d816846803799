import Derived.Test.YtnmjkgjhjnpijaaDoorH1
import Derived.WalkMore
set_option linter.unusedVariables false
set_option linter.unusedSimpArgs false
namespace Go.Proofs.YtnmjkgjhjnpijaaDoor
open Go.RowKit

set_option maxHeartbeats 2000000 in
set_option maxRecDepth 100000 in
theorem same_eq (ao bo : Option Addr) (a : List Tv) (ca cb : Nat) (w : World) (hA : Lt w ao a) (hB : Lt w bo a) (ha : a.length ≤ 9223372036854775807) :
    Calls Tryd.prog 11 #[.slice ao a.length ca, .slice bo a.length cb] w fun e w' => e = .returned (.bool true) ∧ Below w.heap.size w w' := by
  have HA : Hid (Lt w ao a) := hA
  have HB : Hid (Lt w bo a) := hB
  clear hA hB
  go_enter Tryd.func11, Tryd.ntmps11
  go_wp2_with fail
  go_loopw [5] (fun i wr => ∃ k : Nat, k ≤ a.length ∧ i = .int .i64 k ∧ Hid (Below w.heap.size w wr)) (fun i _ => a.length - (intOf i).toNat)
  case atStart => exact ⟨0, by omega, rfl, Below.refl _ _⟩
  case round =>
    obtain ⟨k, hk, rfl, HW⟩ := hrel
    by_cases hlt : k < a.length
    · have q1 : (k : Int) < a.length := by omega
      have q3 : (0 : Int) ≤ k := by omega
      obtain ⟨d, hd⟩ : ∃ d, a[k]? = some d := ⟨_, List.getElem?_eq_getElem hlt⟩
      obtain ⟨ba, oa, rfl, c0, c1, c2, c3, c4, c5⟩ := (HA.out.below HW.out) k d hd
      obtain ⟨bb, ob, rfl, e0, e1, e2, e3, e4, e5⟩ := (HB.out.below HW.out) k d hd
      clear hd
      obtain ⟨dk, dt, da, dl, dc, df⟩ := d
      simp only at c0 c1 c2 c3 c4 c5 e0 e1 e2 e3 e4 e5
      go_wp2_with fail
      go_quiet (fail)
      go_wp2_with fail
      exact ⟨⟨k + 1, hlt, by go_num, below_dn HW.out _⟩, by simp [intOf]; omega⟩
    · obtain rfl : k = a.length := by omega
      have q1 : ¬ ((a.length : Int) < a.length) := by omega
      go_wp2_with fail
      go_ret
      exact ⟨rfl, HW.out⟩

end Go.Proofs.YtnmjkgjhjnpijaaDoor
