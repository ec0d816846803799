import Derived.Test.YtaldkkeghackfaaDoorEc
set_option linter.unusedVariables false
set_option linter.unusedSimpArgs false
namespace Go.Proofs.YtaldkkeghackfaaDoor
open Go.RowKit

set_option maxRecDepth 100000 in
set_option maxHeartbeats 1000000 in
theorem top_walk (s : ByteArray) (w : World) (hT : Kab w) (hm : s.size ≤ maxLen) :
    Calls Tryd.prog 7 #[.string s] w fun e w' => e = .returned (.bool true) ∧ Below w.heap.size w w' := by
  have HA : Hid (Calls Tryd.prog 17 #[] w fun e w' => e = .returned (.bool true) ∧ Below w.heap.size w w') := seen_any w hT
  unfold maxLen at hm
  by_cases hbig : 1048576 < s.size
  · have q0 : (1048576 : Int) < s.size := by omega
    clear hT
    go_enter Tryd.func7, Tryd.ntmps7
    go_wp2_with (first | (go_at_call 17; refine HA.out.mono ?_; rintro e w1 ⟨rfl, hb1⟩))
    go_ret
    exact ⟨rfl, hb1⟩
  · obtain ⟨z, z1, z2, z3⟩ := scn_cov s
    have hlen : (toks s).length = (scn s).1.length := by unfold toks; rw [List.length_map]
    have H1 : Hid (∀ W, Below w.heap.size w W → Calls Tryd.prog 9 #[.string s] W fun e w' => AL W s (scn s).2.1 ((eP s).1, (eP s).2.1, (eP s).2.2) (toks s) e w') := fun W hW => all_lt s W (hT.below hW) (by omega)
    have HNm : Hid (∀ W T, Below w.heap.size w W → T.size ≤ 2147483647 → Calls Tryd.prog 19 #[.string T] W fun e w' => e = .returned (.bool (nm T)) ∧ Below W.heap.size W w') := fun W T hW hz => isName_any T W (hT.below hW) hz
    have HKy : Hid (∀ W T, Below w.heap.size w W → Calls Tryd.prog 20 #[.string T] W fun e w' => e = .returned (.bool (ky T)) ∧ Below W.heap.size W w') := fun W T hW => by
      refine (isKey_any T W (hT.below hW).2.1).mono ?_
      rintro e w' ⟨rfl, rfl⟩
      exact ⟨rfl, Below.refl _ _⟩
    have hfin : ∀ u h, CS s (toks s).length u h z → z = u := fun u h c => by rw [hlen] at c; exact c.fin
    by_cases e : (scn s).2.1 = 0
    · exact top_core s w (scn s).2.1 s.size (toks s) _ _ _ (by omega) (toks_len s) (Nat.le_refl _) (.inl ⟨e, rfl⟩) (fun k u h => CS s k u h z) (CS.start s z1) (fun k u h c hk => c.name hk) (fun u h c => ⟨c.us, fun _ => by rw [← hfin u h c]; exact z2 e⟩) HA HNm HKy H1
    · refine top_core s w (scn s).2.1 (scn s).2.2 (toks s) _ _ _ (by omega) (toks_len s) (bd_le ((scn_bd s).2 e)) (.inr ⟨e, ?_, ?_, ?_⟩) (fun k u h => CS s k u h z) (CS.start s z1) (fun k u h c hk => c.name hk) (fun u h c => ⟨?_, fun h => absurd h e⟩) HA HNm HKy H1
      · show (if (scn s).2.1 = 0 then (0 : Int) else _) = _; rw [if_neg e]
      · show (if (scn s).2.1 = 0 then (0 : Int) else _) = _; rw [if_neg e]
      · show (if (scn s).2.1 = 0 then (0 : Int) else _) = _; rw [if_neg e]
      · have hz := hfin u h c
        rcases z3 e with ⟨n, hn⟩ | ⟨_, h2, _⟩
        · have := hn.1; omega
        · omega

end Go.Proofs.YtaldkkeghackfaaDoor
