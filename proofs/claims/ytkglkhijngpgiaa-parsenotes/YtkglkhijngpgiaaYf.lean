import Derived.Test.YtkglkhijngpgiaaYe
set_option linter.unusedVariables false
set_option linter.unusedSimpArgs false
namespace Go.Proofs.Ytkglkhijngpgiaa
open Go.RowKit

/-- What ParseNests finds at the end. -/
def NEnd (l : List Tv) (code : Int) (kk : Nat) (s : List Int × Nat) : Prop :=
  (code ≠ 0 → s.2 = kk ∧ (code = 121 ↔ kk = l.length) ∧ (code = 121 ∨ code = 120 ∨ code = 122)) ∧ (code = 0 → s.2 = l.length ∧ s.1 = [])
theorem nests_all {l : List Tv} : ∀ (r : List Tv) (st : St) (E : List Ev) (code : Int) (kk i k : Nat) (K : List It) (n : Int), st = .live K n → Good st → Alr st r E code kk → l.drop k = r → k ≤ l.length → (i = 0 ↔ st.depth = 0) →
    ∃ s, nrun l i E (st.path, k) = some s ∧ NEnd l code (k + kk) s
  | [], st, E, code, kk, i, k, K, n, hst, hg, hA, hd, hkl, hi => by
    subst hst
    obtain ⟨hc, rfl⟩ := hA.end
    have hk : k = l.length := by
      have := congrArg List.length hd
      simp at this
      omega
    cases hc with
    | all h1 =>
      have hK : K = [.lv 1] := by
        rcases hg.2 with h2 | ⟨X, hX⟩
        · rw [h2.2] at h1; cases h1
        · rw [hX] at h1
          simp at h1
          rw [hX, h1]; rfl
      subst hK
      refine ⟨([], k), by simp [nrun, nchk, St.path, lvs], fun h => absurd rfl h, fun _ => ⟨hk, rfl⟩⟩
    | «open» h1 => exact ⟨_, rfl, fun _ => ⟨by simp, by simp [hk], .inl rfl⟩, fun h => by cases h⟩
  | t :: r, st, E, code, kk, i, k, K, n, hst, hg, hA, hd, hkl, hi => by
    have hlt : k < l.length := by
      have := congrArg List.length hd
      simp at this
      omega
    have ht : l[k]? = some t := by
      have : (l.drop k)[0]? = some t := by rw [hd]; rfl
      simpa using this
    have hd2 : l.drop (k + 1) = r := by
      have := congrArg (List.drop 1) hd
      rw [List.drop_drop] at this
      simpa using this
    rcases hA.inv with ⟨ev, st', hp, hc, rfl, rfl⟩ | ⟨ev, st', E2, k2, hp, hR2, rfl, rfl⟩
    · subst hst
      refine ⟨_, rfl, fun _ => ?_, fun h => absurd h hc⟩
      cases hp with
      | note _ => exact absurd rfl hc
      | yes _ _ _ _ => exact absurd rfl hc
      | no _ _ _ => exact ⟨rfl, by constructor <;> intro h <;> first | (cases h; done) | omega, .inr (.inl rfl)⟩
      | deep _ _ _ _ => exact ⟨rfl, by constructor <;> intro h <;> first | (cases h; done) | omega, .inr (.inr rfl)⟩
    · obtain ⟨a1, a2, a3⟩ := nrun_put hg hp ht hi
      obtain ⟨g1, g2, g3, g4⟩ := put_keep hg hp
      obtain ⟨K', n', hst', _⟩ := g3 rfl
      obtain ⟨s, b1, b2⟩ := nests_all r st' E2 code k2 (i + ev.length) (k + 1) K' n' hst' g1 hR2 hd2 (by omega) ⟨fun h => by omega, fun h => absurd h a3⟩
      refine ⟨s, by rw [nrun_app l _ _ _ _ _ a1]; exact b1, ?_⟩
      rw [show k + (k2 + 1) = k + 1 + k2 by omega]
      exact b2
theorem nests_top {l : List Tv} {E : List Ev} {code : Int} {kk : Nat} (hA : Alr (.live [] 0) l E code kk) : ∃ s, nrun l 0 E ([], 0) = some s ∧ NEnd l code kk s := by
  have := nests_all (l := l) l (.live [] 0) E code kk 0 0 [] 0 rfl good_new hA (by simp) (Nat.zero_le _) (by simp [St.depth])
  rwa [Nat.zero_add] at this

end Go.Proofs.Ytkglkhijngpgiaa
