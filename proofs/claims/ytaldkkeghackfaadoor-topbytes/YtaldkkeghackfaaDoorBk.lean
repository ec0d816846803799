import Derived.Test.YtaldkkeghackfaaDoorBg2
set_option linter.unusedVariables false
set_option linter.unusedSimpArgs false
namespace Go.Proofs.YtaldkkeghackfaaDoor
open Go.RowKit

theorem tell_any {w0 W : World} {g : Nat} {s : ByteArray} {y a f : Nat} {l : List Tv} (h : Rs w0 W g s y a f l) (k : Nat) (hs : s.size ≤ 2147483647) (hay : a ≤ y) (hy : y ≤ s.size) (hl : l.length ≤ 1000000000) (h7 : k = 7 → a < y ∧ tkBl (by8 s a) = false) :
    Calls Tryd.prog 56 #[.pointer (some ⟨g, 0, none⟩), .int .u8 k] W fun e w' => e = .returned (.int .i64 0) ∧ Rs w0 w' g s y a 0 (l ++ [tv s ⟨k, a, if k = 7 then tkTrim s y else y, f⟩]) := by
  refine (tell_core h k _ rfl h7 hs hay hy hl).mono ?_
  rintro e w' ⟨rfl, hr⟩
  refine ⟨rfl, ?_⟩
  have e : tv s ⟨k, a, if k = 7 then tkTrim s y else y, f⟩ = ⟨k, if k = 7 then s.extract a (tkTrim s y) else s.extract a y, a, pL s a, pC s a, f⟩ := by
    unfold tv
    by_cases e : k = 7
    · simp only [if_pos e]
    · simp only [if_neg e]
  rw [e]
  exact hr

end Go.Proofs.YtaldkkeghackfaaDoor
