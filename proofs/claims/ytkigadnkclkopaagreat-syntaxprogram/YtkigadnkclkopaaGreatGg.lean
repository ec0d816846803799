import Derived.Test.YtkigadnkclkopaaGreatGf
import Derived.Shelf.Abstract
set_option linter.unusedVariables false
set_option linter.unusedSimpArgs false
namespace Go.Proofs.YtkigadnkclkopaaGreat
open Go.RowKit

/-! A row with its node around it. -/
abbrev Entr (f : Nat) : Prop := ∀ (args : Array Value) (w : World), (callFunc f args).run Tryz.prog w = .ok (.enter f args) w
abbrev fv (f g : Nat) : Value := .func (.func f) #[pg g] #[]
set_option maxHeartbeats 1000000 in
theorem node_raw {X : Sx} {i n : Nat} {E : List Ev} {W : World} (h : SV X i n E W) (hl : E.length ≤ 1000000000) (hn : n ≤ 1000000000) (nd : Int) {f : Nat} (hf : Entr f) {Q : Ending → World → Prop}
    (hrow : ∀ W1, SV X i (n + 1) (E ++ [⟨1, nd, tv0⟩]) W1 → Calls Tryz.prog f #[pg X.g] W1 fun e w' => (e = .returned (.tuple #[]) ∧ ∃ i' n' E', SV X i' (n' + 1) E' w' ∧ E'.length ≤ 1000000000 ∧ n' ≤ 1000000000 ∧ ∀ w2, SV X i' n' (E' ++ [⟨3, nd, tv0⟩]) w2 → Q (.returned (.tuple #[])) w2) ∨ (∃ c, e = .panicked c ∧ Q (.panicked c) w')) :
    Calls Tryz.prog 18 #[pg X.g, .int .u8 nd, fv f X.g] W Q := by
  obtain ⟨z0, z1, z2, z3⟩ := h.deep (n + 1)
  obtain ⟨W1, e1⟩ : ∃ W1, W.setCell ⟨X.g, 2, none⟩ (.int .i64 ((n : Int) + 1)) = W1 := ⟨_, rfl⟩
  have HT : Hid (Calls Tryz.prog 32 #[pg X.g, (⟨1, nd, tv0⟩ : Ev).v] W1 fun r w' => r = .returned (.tuple #[]) ∧ SV X i (n + 1) (E ++ [⟨1, nd, tv0⟩]) w' ∧ Frm X W1 w') := by
    rw [show ((n + 1 : Nat) : Int) = (n : Int) + 1 by omega, e1] at z3
    exact stell_any z3 _ hl
  have HR : Hid (∀ W1, SV X i (n + 1) (E ++ [⟨1, nd, tv0⟩]) W1 → Calls Tryz.prog f #[pg X.g] W1 fun e w' => (e = .returned (.tuple #[]) ∧ ∃ i' n' E', SV X i' (n' + 1) E' w' ∧ E'.length ≤ 1000000000 ∧ n' ≤ 1000000000 ∧ ∀ w2, SV X i' n' (E' ++ [⟨3, nd, tv0⟩]) w2 → Q (.returned (.tuple #[])) w2) ∨ (∃ c, e = .panicked c ∧ Q (.panicked c) w')) := hrow
  have HS : Hid (∀ i' n' E' w2, SV X i' (n' + 1) E' w2 → E'.length ≤ 1000000000 → Calls Tryz.prog 32 #[pg X.g, (⟨3, nd, tv0⟩ : Ev).v] w2 fun r w' => r = .returned (.tuple #[]) ∧ SV X i' (n' + 1) (E' ++ [⟨3, nd, tv0⟩]) w' ∧ Frm X w2 w') := fun i' n' E' w2 h2 hl2 => stell_any h2 _ hl2
  have HD : Hid (∀ i' n' E' w3, SV X i' (n' + 1) E' w3 → w3.cell? ⟨X.g, 2, none⟩ = some (.int .i64 ((n' : Int) + 1)) ∧ w3.frozen? ⟨X.g, 2, none⟩ = false ∧ X.g < w3.heap.size ∧ ∃ w4, w3.setCell ⟨X.g, 2, none⟩ (.int .i64 (n' : Int)) = w4 ∧ Hid (SV X i' n' E' w4)) := fun i' n' E' w3 h3 => by
    obtain ⟨a, b, c, d⟩ := h3.deep n'
    exact ⟨by rw [a]; simp, b, c, _, rfl, d⟩
  clear h hrow z3
  dsimp only [Ev.v, tv0] at HT HS
  go_enter Tryz.func18, Tryz.ntmps18
  go_wp2_with fail
  refine HT.out.mono ?_
  rintro r w2 ⟨rfl, h2, _⟩
  have H2 := show Hid _ from h2
  clear h2 z0 z1 z2 e1 HT
  go_wp2_with fail
  refine (HR.out _ H2.out).mono ?_
  rintro e w3 (⟨rfl, i', n', E', h3, hl3, hn3, hq⟩ | ⟨c, rfl, hq⟩)
  · have H3 := show Hid _ from h3
    have HQ := show Hid _ from hq
    clear h3 hq
    go_wp2_with fail
    refine (HS.out _ _ _ _ H3.out hl3).mono ?_
    rintro r w4 ⟨rfl, h4, _⟩
    obtain ⟨y0, y1, y2, w5, e5, h5⟩ := HD.out _ _ _ _ h4
    clear h4
    go_wp2_with fail
    go_end0
    exact HQ.out _ h5.out
  · have HQ := show Hid _ from hq
    clear hq
    go_wp2_with fail
    exact ⟨rfl, HQ.out⟩

end Go.Proofs.YtkigadnkclkopaaGreat
