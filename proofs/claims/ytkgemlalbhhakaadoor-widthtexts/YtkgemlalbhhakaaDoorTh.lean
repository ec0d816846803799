import Derived.Test.YtkgemlalbhhakaaDoorTg
set_option linter.unusedVariables false
set_option linter.unusedSimpArgs false
namespace Go.Proofs.YtkgemlalbhhakaaDoor
open Go.RowKit

set_option maxHeartbeats 400000 in
theorem texts_big (s : ByteArray) (m : Int) (w : World) (hs : s.size ≤ maxLen) (h : 2147483647 < s.size) :
    Calls Tryd.prog 5 #[.string s, .int .i64 m] w fun e w' => e = .returned (.bool true) ∧ Below w.heap.size w w' := by
  unfold maxLen at hs
  go_enter Tryd.func5, Tryd.ntmps5
  go_wp2_with fail
  go_ret
  exact ⟨rfl, Below.refl _ _⟩

set_option maxHeartbeats 400000 in
theorem texts_core (s a : ByteArray) (m n t : Int) (w : World) (hT : Tab w) (hs : s.size ≤ 2147483647)
    (h1 : ∀ w, Tab w → Calls Tryd.prog 10 #[.string s, .int .i64 m] w fun e w' => e = .returned (.tuple #[.string a, .int .i64 n]) ∧ Below w.heap.size w w')
    (h2 : ∀ w, Calls Tryd.prog 11 #[.string s, .int .i64 m] w fun e w' => e = .returned (.tuple #[.string a, .int .i64 n]) ∧ Below w.heap.size w w')
    (h3 : ∀ w, Tab w → Calls Tryd.prog 12 #[.string s] w fun e w' => e = .returned (.int .i64 t) ∧ Below w.heap.size w w')
    (h4 : ∀ w, Calls Tryd.prog 13 #[.string s] w fun e w' => e = .returned (.int .i64 t) ∧ Below w.heap.size w w') :
    Calls Tryd.prog 5 #[.string s, .int .i64 m] w fun e w' => e = .returned (.bool true) ∧ Below w.heap.size w w' := by
  have HT : Hid (Tab w) := hT
  have H1 : Hid _ := h1
  have H2 : Hid _ := h2
  have H3 : Hid _ := h3
  have H4 : Hid _ := h4
  have hd0 : decide (2147483647 < (s.size : Int)) = false := by simp; omega
  have e1 : (t == t) = true := by simp
  have e2 : (n == n) = true := by simp
  clear hT h1 h2 h3 h4
  go_enter Tryd.func5, Tryd.ntmps5
  go_wp2_with fail
  refine (H1.out _ HT.out).mono ?_
  rintro e w1 ⟨rfl, b1⟩
  go_wp2_with fail
  refine (H2.out _).mono ?_
  rintro e w2 ⟨rfl, b2⟩
  have B2 := b1.trans (b2.mono b1.size)
  clear b1 b2
  have T2 : Hid (Tab w2) := HT.out.below B2
  go_wp2_with fail
  refine (H3.out _ T2.out).mono ?_
  rintro e w3 ⟨rfl, b3⟩
  have B3 := B2.trans (b3.mono B2.size)
  clear b3 B2 T2
  go_wp2_with fail
  refine (H4.out _).mono ?_
  rintro e w4 ⟨rfl, b4⟩
  have B4 := B3.trans (b4.mono B3.size)
  clear b4 B3
  have T4 : Hid (Tab w4) := HT.out.below B4
  go_wp2_with fail
  refine (awake_any _ T4.out).mono ?_
  rintro e w5 ⟨rfl, b5⟩
  have B5 := B4.trans (b5.mono B4.size)
  go_wp2_with fail
  go_ret
  exact ⟨rfl, B5⟩

theorem widthTexts_walk (s : ByteArray) (m : Int) (w : World) (hT : Tab w) (hs : s.size ≤ maxLen) :
    Calls Tryd.prog 5 #[.string s, .int .i64 m] w fun e w' => e = .returned (.bool true) ∧ Below w.heap.size w w' := by
  by_cases h : 2147483647 < s.size
  · exact texts_big s m w hs h
  · have h' : s.size ≤ 2147483647 := by omega
    obtain ⟨k, hk⟩ := cut_ex s m
    exact texts_core s (hd s k) m (cw s k) (tw s) w hT h' (fun w hT => cut_any s m k w hT h' hk) (fun w => rcut_any s m k w h' hk) (fun w hT => text_any s w hT h') (fun w => rtext_any s w h')
end Go.Proofs.YtkgemlalbhhakaaDoor
