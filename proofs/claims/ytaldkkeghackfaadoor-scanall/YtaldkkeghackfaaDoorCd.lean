import Derived.Test.YtaldkkeghackfaaDoorDf
import Derived.Test.YtaldkkeghackfaaDoorDe
set_option linter.unusedVariables false
set_option linter.unusedSimpArgs false
namespace Go.Proofs.YtaldkkeghackfaaDoor
open Go.RowKit

set_option maxRecDepth 100000 in
set_option maxHeartbeats 1000000 in
theorem all_walk (s o : ByteArray) (w : World) (hT : Kab w) (hs : s.size ≤ maxLen) (ho : o.size ≤ maxLen) :
    Calls Tryd.prog 3 #[.string s, .string o] w fun e w' => e = .returned (.bool true) ∧ Below w.heap.size w w' := by
  have HA : Hid (Calls Tryd.prog 8 #[] w fun e w' => e = .returned (.bool true) ∧ Below w.heap.size w w') := awake_any w hT
  unfold maxLen at hs ho
  by_cases h1 : 67108864 < s.size
  · have q0 : (67108864 : Int) < s.size := by omega
    clear hT
    go_enter Tryd.func3, Tryd.ntmps3
    go_wp2_with (first | (go_at_call 8; refine HA.out.mono ?_; rintro e w1 ⟨rfl, hb1⟩))
    go_ret
    exact ⟨rfl, hb1⟩
  · by_cases h2 : 67108864 < o.size
    · have q0 : ¬ (67108864 : Int) < s.size := by omega
      have q1 : (67108864 : Int) < o.size := by omega
      clear hT
      go_enter Tryd.func3, Tryd.ntmps3
      go_wp2_with (first | (go_at_call 8; refine HA.out.mono ?_; rintro e w1 ⟨rfl, hb1⟩))
      go_ret
      exact ⟨rfl, hb1⟩
    · have l1 := toks_len s
      have l2 := toks_len o
      exact all_core s o w (scn s).2.1 (scn o).2.1 _ _ _ _ _ _ (toks s) (toks o) (by omega) (by omega) (by omega) (by omega) HA
        (fun W hW => all_any s W (hT.below hW) (by omega)) (fun W hW => all_any o W (hT.below hW) (by omega)) (fun W => rall_any s W (by omega)) (fun W => rall_any o W (by omega))

end Go.Proofs.YtaldkkeghackfaaDoor
