import Derived.Test.YtkigadnkclkopaaVa
set_option linter.unusedVariables false
set_option linter.unusedSimpArgs false
namespace Go.Proofs.Ytkigadnkclkopaa
open Go.RowKit

/-! The parser's states, as its caller sees them (no memory). -/
inductive Pst | live (K : List It) (n : Int) | stuck (e n : Int) | shut
/-- What begins with the first token. -/
def beg (K : List It) (n : Int) : List It := if n == 0 then progR ++ .lv 1 :: K else K
def begN (n : Int) : Int := if n == 0 then 1 else n
def begE (n : Int) : List Ev := if n == 0 then [⟨1, 1, tv0⟩] else []
/-- Put: what is told, the error, the parser behind it. -/
inductive Putr (t : Tv) : Pst → List Ev → Int → Pst → Prop
  | shut : Putr t .shut [] 4 .shut
  | stuck {e n : Int} : Putr t (.stuck e n) [] e (.stuck e n)
  | note {K : List It} {n : Int} : (t.k == 7 || t.k == 8) = true → Putr t (.live K n) (begE n ++ [⟨4, 0, t⟩]) 0 (.live (beg K n) (begN n))
  | no {K : List It} {n : Int} {k : Nat} : (t.k == 7 || t.k == 8) = false → Ru t k (beg K n) (begN n) (begE n) .no → k ≤ (beg K n).length + 20 → Putr t (.live K n) [] 120 (.stuck 120 n)
  | deep {K L : List It} {n m : Int} {E : List Ev} {k : Nat} : (t.k == 7 || t.k == 8) = false → Ru t k (beg K n) (begN n) (begE n) (.yes L m E) → k ≤ (beg K n).length + 20 → 1000 < m → Putr t (.live K n) [] 122 (.stuck 122 n)
  | yes {K L : List It} {n m : Int} {E : List Ev} {k : Nat} : (t.k == 7 || t.k == 8) = false → Ru t k (beg K n) (begN n) (begE n) (.yes L m E) → k ≤ (beg K n).length + 20 → m ≤ 1000 → Putr t (.live K n) (E ++ [⟨2, 0, t⟩]) 0 (.live L m)
/-- Of a size. -/
structure Lz (K : List It) (n : Int) : Prop where
  wf : wfs K
  lv : ((lvs K).length : Int) = n
  sn : (lvs K).length ≤ 5000000
  sk : K.length ≤ 500000
def Pst.ok : Pst → Prop
  | .live K n => Lz K n
  | .stuck e n => e ≠ 0
  | .shut => True
/-- Close. -/
inductive Clor : Pst → List Ev → Int → Prop
  | shut : Clor .shut [] 4
  | stuck {e n : Int} : Clor (.stuck e n) [] e
  | all {K : List It} {n : Int} : K.length = 1 → Clor (.live K n) [⟨3, 1, tv0⟩] 0
  | open {K : List It} {n : Int} : K.length ≠ 1 → Clor (.live K n) [] 121
end Go.Proofs.Ytkigadnkclkopaa
