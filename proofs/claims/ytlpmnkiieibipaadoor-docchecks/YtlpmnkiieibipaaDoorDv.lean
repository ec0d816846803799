import Derived.Test.YtlpmnkiieibipaaDoorDs
import Derived.Test.YtlpmnkiieibipaaDoorDt
import Derived.Test.YtlpmnkiieibipaaDoorDu
set_option linter.unusedVariables false
set_option linter.unusedSimpArgs false
namespace Go.Proofs.YtlpmnkiieibipaaDoor
open Go.RowKit

def z0 : Dc := ⟨0, bE, 0, 0, false⟩
theorem ls_cL (s : ByteArray) : ls (cL 32 s) = wd1 (ls s) := ls_mk _
theorem ls_cR (s : ByteArray) : ls (cR 32 s) = wd2 (ls s) := ls_mk _
theorem wd2_len (l : List UInt8) : (wd2 l).length ≤ l.length := by
  unfold wd2
  rw [List.length_tail]
  have := (List.dropWhile_sublist (l := l) (p := (· != 32))).length_le
  omega
theorem trim_len (s p : List UInt8) : (Lib.trimSuffix s p).length ≤ s.length := by
  unfold Lib.trimSuffix
  split
  · rw [List.length_take]; omega
  · exact Nat.le_refl _

theorem rl_any (s : ByteArray) (hs : s.size ≤ 1000000000) (w : World) (hG : Gl w) :
    Calls Tryd.prog 23 #[.string s] w fun e w' => e = .returned (.tuple #[((rl (ls s)).getD z0).v, .bool (rl (ls s)).isSome]) ∧ Below w.heap.size w w' := by
  have hG' := hG.glB
  have hC : ∀ W, Calls Tryd.prog 22 #[.string s, .string ⟨#[32]⟩] W fun e w' => e = .returned (.tuple #[.string (cL 32 s), .string (cR 32 s), .bool (cB 32 s)]) ∧ Below W.heap.size W w' := fun W => cut_any 32 s W (by omega)
  have hK : ∀ W, Below w.heap.size w W → Calls Tryd.prog 33 #[.string (cL 32 s)] W fun e w' => e = .returned (.int .u8 (kd (wd1 (ls s)) : Nat)) ∧ w' = W := fun W hW => by
    have := kind_any (cL 32 s) W (hG' W hW)
    rw [ls_cL] at this
    exact this
  have hyl : (cR 32 s).size ≤ s.size := by
    rw [← ls_len, ls_cR, ← ls_len s]; exact wd2_len _
  by_cases k1 : kd (wd1 (ls s)) = 1
  · rw [k1] at hK
    obtain ⟨u, hu⟩ : ∃ u, une (wd2 (ls s)) = u := ⟨_, rfl⟩
    have hU : ∀ W, Below w.heap.size w W → Calls Tryd.prog 34 #[.string (cR 32 s)] W fun e w' => e = .returned (.tuple #[.string ⟨(u.getD []).toArray⟩, .bool u.isSome]) ∧ Below W.heap.size W w' := fun W hW => by
      have := une_any (cR 32 s) (by omega) W (hG' W hW)
      rw [ls_cR, hu] at this
      exact this
    have htl : (⟨(u.getD []).toArray⟩ : ByteArray).size ≤ 9223372036854775807 := by
      rw [← ls_len, ls_mk]
      cases hc : u with
      | none => simp
      | some t =>
        rw [hc] at hu
        have h1 := une_back _ _ t (Nat.le_refl _) hu
        have h2 := (esc_len t).1
        rw [h1] at h2
        have h3 := wd2_len (ls s)
        rw [ls_len] at h3
        simp only [Option.getD_some]
        omega
    refine (rl_text s _ _ _ w (rt ⟨1, ⟨(u.getD []).toArray⟩, 0, 0, false⟩) ⟨(u.getD []).toArray⟩ u.isSome hC hK hU (fun W => right_any ⟨1, ⟨(u.getD []).toArray⟩, 0, 0, false⟩ htl W)).mono ?_
    rintro e w' ⟨rfl, hb⟩
    refine ⟨?_, hb⟩
    have e0 : rl0 (ls s) = (⟨1, ⟨(u.getD []).toArray⟩, 0, 0, false⟩, u.isSome) := by
      unfold rl0
      rw [if_pos k1, hu]
      cases u <;> rfl
    unfold rl
    rw [e0]
    simp only
    by_cases hc : u.isSome = true ∧ rt ⟨1, ⟨(u.getD []).toArray⟩, 0, 0, false⟩ = true
    · rw [if_pos hc, if_pos hc, hc.1, hc.2]; rfl
    · rw [if_neg hc, if_neg hc, Bool.and_eq_false_iff.2 (by cases h1 : u.isSome <;> simp_all)]; rfl
  by_cases k6 : kd (wd1 (ls s)) = 6
  · rw [k6] at hK
    obtain ⟨yy, hyy⟩ : ∃ yy : ByteArray, yy = ⟨(Lib.trimSuffix (wd2 (ls s)) even5).toArray⟩ := ⟨_, rfl⟩
    have hF : ∀ W, Calls Tryd.prog 35 #[.string (cR 32 s), .string ⟨#[32, 101, 118, 101, 110]⟩] W fun e w' => e = .returned (.tuple #[.string yy, .bool (Lib.hasSuffix (wd2 (ls s)) even5)]) ∧ w' = W := fun W => by
      have h0 := Tryd.strings_CutSuffix (cR 32 s) ⟨#[32, 101, 118, 101, 110]⟩ W (by omega)
      have e1 : (cR 32 s).data.toList = wd2 (ls s) := ls_cR s
      rw [e1] at h0
      rw [hyy]
      exact h0
    have hls : ls yy = Lib.trimSuffix (wd2 (ls s)) even5 := by rw [hyy, ls_mk]
    have hyyl : yy.size ≤ 281474976710656 := by
      rw [← ls_len, hls]
      have h1 := trim_len (wd2 (ls s)) even5
      have h2 := wd2_len (ls s)
      rw [ls_len] at h2
      omega
    obtain ⟨u, hu⟩ : ∃ u, nmb (Lib.trimSuffix (wd2 (ls s)) even5) = u := ⟨_, rfl⟩
    have hN : ∀ W, Below w.heap.size w W → Calls Tryd.prog 36 #[.string yy] W fun e w' => (∃ n', e = .returned (.tuple #[.int .i64 n', .bool u.isSome]) ∧ (u.isSome = true → n' = u.getD 0)) ∧ Below W.heap.size W w' := fun W hW => by
      refine (nmb_any yy hyyl W (hG' W hW)).mono ?_
      rintro e w' ⟨⟨n, rfl, hn⟩, hb⟩
      rw [hls, hu] at hn
      refine ⟨⟨n, by rw [hls, hu], fun h => ?_⟩, hb⟩
      cases u with
      | none => cases h
      | some z => exact hn z rfl
    refine (rl_beg s _ _ _ w (rt ⟨6, bE, 0, u.getD 0, Lib.hasSuffix (wd2 (ls s)) even5⟩) yy (u.getD 0) (Lib.hasSuffix (wd2 (ls s)) even5) u.isSome hC hK hF hN (fun W => right_any ⟨6, bE, 0, u.getD 0, _⟩ (by show 0 ≤ _; omega) W)).mono ?_
    rintro e w' ⟨rfl, hb⟩
    refine ⟨?_, hb⟩
    unfold rl
    cases u with
    | none =>
      have e0 : (rl0 (ls s)).2 = false := by unfold rl0; rw [if_neg k1, if_pos k6, hu]
      rw [e0]
      rfl
    | some n =>
      have e0 : rl0 (ls s) = (⟨6, bE, 0, n, Lib.hasSuffix (wd2 (ls s)) even5⟩, true) := by unfold rl0; rw [if_neg k1, if_pos k6, hu]
      rw [e0]
      simp only [Option.getD_some, Option.isSome_some, true_and, Bool.true_and]
      by_cases hc : rt ⟨6, bE, 0, n, Lib.hasSuffix (wd2 (ls s)) even5⟩ = true
      · rw [if_pos hc, if_pos hc, hc]; rfl
      · rw [if_neg hc, if_neg hc, Bool.eq_false_iff.2 hc]; rfl
  by_cases k3 : kd (wd1 (ls s)) = 3
  · rw [k3] at hK
    obtain ⟨u, hu⟩ : ∃ u, nmb (wd2 (ls s)) = u := ⟨_, rfl⟩
    have hN : ∀ W, Below w.heap.size w W → Calls Tryd.prog 36 #[.string (cR 32 s)] W fun e w' => (∃ n', e = .returned (.tuple #[.int .i64 n', .bool u.isSome]) ∧ (u.isSome = true → n' = u.getD 0)) ∧ Below W.heap.size W w' := fun W hW => by
      refine (nmb_any (cR 32 s) (by omega) W (hG' W hW)).mono ?_
      rintro e w' ⟨⟨n, rfl, hn⟩, hb⟩
      rw [ls_cR, hu] at hn
      refine ⟨⟨n, by rw [ls_cR, hu], fun h => ?_⟩, hb⟩
      cases u with
      | none => cases h
      | some z => exact hn z rfl
    refine (rl_brk s _ _ _ w (rt ⟨3, bE, u.getD 0, 0, false⟩) (u.getD 0) u.isSome hC hK hN (fun W => right_any ⟨3, bE, u.getD 0, 0, false⟩ (by show 0 ≤ _; omega) W)).mono ?_
    rintro e w' ⟨rfl, hb⟩
    refine ⟨?_, hb⟩
    unfold rl
    cases u with
    | none =>
      have e0 : (rl0 (ls s)).2 = false := by unfold rl0; rw [if_neg k1, if_neg k6, if_pos k3, hu]
      rw [e0]
      rfl
    | some n =>
      have e0 : rl0 (ls s) = (⟨3, bE, n, 0, false⟩, true) := by unfold rl0; rw [if_neg k1, if_neg k6, if_pos k3, hu]
      rw [e0]
      simp only [Option.getD_some, Option.isSome_some, true_and, Bool.true_and]
      by_cases hc : rt ⟨3, bE, n, 0, false⟩ = true
      · rw [if_pos hc, if_pos hc, hc]; rfl
      · rw [if_neg hc, if_neg hc, Bool.eq_false_iff.2 hc]; rfl
  · refine (rl_other s _ _ _ w (rt ⟨(kd (wd1 (ls s)) : Nat), bE, 0, 0, false⟩) (kd (wd1 (ls s)) : Nat) (by omega) (by omega) (by omega) hC hK (fun W => right_any ⟨(kd (wd1 (ls s)) : Nat), bE, 0, 0, false⟩ (by show 0 ≤ _; omega) W)).mono ?_
    rintro e w' ⟨rfl, hb⟩
    refine ⟨?_, hb⟩
    unfold rl
    have e0 : rl0 (ls s) = (⟨kd (wd1 (ls s)), bE, 0, 0, false⟩, !cB 32 s) := by unfold rl0; rw [if_neg k1, if_neg k6, if_neg k3]; rfl
    rw [e0]
    simp only
    generalize rt ⟨(kd (wd1 (ls s)) : Nat), bE, 0, 0, false⟩ = r
    cases cB 32 s <;> cases r <;> rfl
end Go.Proofs.YtlpmnkiieibipaaDoor
