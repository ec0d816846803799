import Derived.Test.YtaldkkeghackfaaDoorCc
set_option linter.unusedVariables false
set_option linter.unusedSimpArgs false
namespace Go.Proofs.YtaldkkeghackfaaDoor
open Go.RowKit

theorem of_p (s : ByteArray) (n : Nat) (w : World) (hs : s.size ≤ 2147483647) (hn : n ≤ s.size) :
    Calls Tryd.prog 13 #[.string s, .int .i64 n] w fun e w' => e = .returned (.tuple #[.agg #[.int .i64 n, .int .i64 (pL s n), .int .i64 (pC s n)], .int .i64 0]) ∧ Below w.heap.size w w' := by
  have h := of_in s n w hs hn
  have e : aAt 0 (s.extract 0 n) = n := by unfold aAt; rw [size_ext s 0 n hn]; unfold wrap64; omega
  rw [e] at h
  exact h

/-- What the law's loop over the tokens knows. -/
structure CS (s : ByteArray) (k u h z : Nat) : Prop where
  cov : Cov s u ((scn s).1.drop k) z
  bdh : bd s h
  hu : h ≤ u
  us : u ≤ s.size
theorem CS.start (s : ByteArray) {z : Nat} (h : Cov s 0 (scn s).1 z) : CS s 0 0 0 z := ⟨h, bd_zero s, Nat.le_refl _, Nat.zero_le _⟩
theorem CS.next {s : ByteArray} {k u h z : Nat} (c : CS s k u h z) (hk : k < (scn s).1.length) : ∃ t, (scn s).1[k]? = some t ∧ gap s u t.a t.f ∧ t.a < t.e ∧ t.e ≤ s.size ∧ bd s t.a ∧ h ≤ t.a ∧ CS s (k + 1) t.e t.a z := by
  obtain ⟨t, ht⟩ : ∃ t, (scn s).1[k]? = some t := ⟨_, List.getElem?_eq_getElem hk⟩
  have hc := c.cov
  rw [List.drop_eq_getElem_cons hk] at hc
  have e : (scn s).1[k] = t := by rw [List.getElem?_eq_getElem hk] at ht; exact Option.some.inj ht
  rw [e] at hc
  obtain ⟨h1, h2, h3, h4⟩ := hc
  have hb := (scn_bd s).1 t (List.mem_of_getElem? ht)
  have h5 := c.hu
  have h6 := h1.1
  exact ⟨t, ht, h1, h2, h3, hb, by omega, ⟨h4, hb, by omega, h3⟩⟩
theorem CS.fin {s : ByteArray} {u h z : Nat} (c : CS s (scn s).1.length u h z) : z = u := by
  have h9 := c.cov
  rw [List.drop_eq_nil_of_le (Nat.le_refl _)] at h9
  exact h9

end Go.Proofs.YtaldkkeghackfaaDoor
