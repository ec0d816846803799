import Derived.Test.YtlpmnkiieibipaaDoorDn
set_option linter.unusedVariables false
set_option linter.unusedSimpArgs false
namespace Go.Proofs.YtlpmnkiieibipaaDoor
open Go.RowKit
open Go.Lib (itoa atoiAll)

/-! A number, read. -/
def nbV (o : Option Int) : Bool := o.isSome
/-- What is answered beside 'false' hangs on the library. -/
theorem nmb_any (s : ByteArray) (hs : s.size ≤ 281474976710656) (w : World) (hG : Gl w) : Calls Tryd.prog 36 #[.string s] w fun e w' => (∃ n, e = .returned (.tuple #[.int .i64 n, .bool (nmb (ls s)).isSome]) ∧ (∀ m, nmb (ls s) = some m → n = m)) ∧ Below w.heap.size w w' := by
  cases hA : atoiAll (ls s) with
  | ok v =>
    obtain ⟨b0, b1⟩ := Lib.atoiAll_bounds hA
    have HC : Hid (Calls Tryd.prog 45 #[.string s] w fun e w' => e = .returned (.tuple #[.int .i64 v, .nilIface]) ∧ Below w.heap.size w w') := by
      refine (Tryd.strconv_Atoi_ok s (by omega) v hA w).mono ?_
      rintro e w' ⟨rfl, h⟩
      refine ⟨rfl, ?_⟩
      rcases h with rfl | ⟨t, rfl⟩
      · exact Below.refl _ _
      · exact Lib.bytesWorld_below _ _ _
    have HI : Hid (∀ W, Below w.heap.size w W → Calls Tryd.prog 46 #[.int .i64 v] W fun e w' => e = .returned (.string ⟨(itoa v).toArray⟩) ∧ Below w.heap.size w w') := fun W hW => by
      refine (Tryd.strconv_Itoa v b0 b1 W (hG.below hW).pow).mono ?_
      rintro e w' ⟨rfl, k, os, rfl⟩
      exact ⟨rfl, hW.trans ((grow_below W k os).mono hW.size)⟩
    clear hG
    by_cases hE : itoa v = ls s
    · have HQ : Hid (nmb (ls s) = some v) := by show _ = _; unfold nmb; rw [hA]; simp [hE]
      have hs' : (⟨(itoa v).toArray⟩ : ByteArray) = s := ls_inj (by rw [ls_mk, hE])
      rw [hs'] at HI
      clear hA hE hs'
      go_enter Tryd.func36, Tryd.ntmps36
      go_wp2_with (first | (go_at_call 45; refine HC.out.mono ?_; rintro e w1 ⟨rfl, hb1⟩) | (go_at_call 46; refine (HI.out _ hb1).mono ?_; rintro e w2 ⟨rfl, hb2⟩))
      go_ret2
      rw [HQ.out]
      exact ⟨⟨v, rfl, fun m h => by cases h; rfl⟩, hb2⟩
    · have HQ : Hid (nmb (ls s) = none) := by show _ = _; unfold nmb; rw [hA]; simp [hE]
      obtain ⟨t, ht⟩ : ∃ t : ByteArray, t = ⟨(itoa v).toArray⟩ := ⟨_, rfl⟩
      have hne : (t.toList == s.toList) = false := tl_false (fun h => hE (by rw [← h, ht, ls_mk]))
      rw [← ht] at HI
      clear hA hE ht
      go_enter Tryd.func36, Tryd.ntmps36
      go_wp2_with (first | (go_at_call 45; refine HC.out.mono ?_; rintro e w1 ⟨rfl, hb1⟩) | (go_at_call 46; refine (HI.out _ hb1).mono ?_; rintro e w2 ⟨rfl, hb2⟩))
      go_ret2
      rw [HQ.out]
      exact ⟨⟨v, rfl, fun m h => by cases h⟩, hb2⟩
  | «syntax» =>
    obtain ⟨tp, p, hv⟩ := hG.syn
    have HQ : Hid (nmb (ls s) = none) := by show _ = _; unfold nmb; rw [hA]
    have HC : Hid (Calls Tryd.prog 45 #[.string s] w fun e w' => ∃ N, e = .returned (.tuple #[.int .i64 0, .iface 86 (.pointer (some ⟨N, 0, none⟩))]) ∧ Below w.heap.size w w') := by
      refine (Tryd.strconv_Atoi_syntax s hs hA (.iface tp p) w hv (.inr ⟨tp, p, rfl⟩)).mono ?_
      rintro e w' ⟨N, rfl, _, _, h⟩
      exact ⟨N, rfl, h⟩
    clear hG hv hA
    go_enter Tryd.func36, Tryd.ntmps36
    go_wp2_with (first | (go_at_call 45; refine HC.out.mono ?_; rintro e w1 ⟨N, rfl, hb1⟩))
    go_ret2
    rw [HQ.out]
    exact ⟨⟨_, rfl, fun m h => by cases h⟩, hb1⟩
  | range =>
    obtain ⟨tp, p, hv⟩ := hG.rng
    have HQ : Hid (nmb (ls s) = none) := by show _ = _; unfold nmb; rw [hA]
    obtain ⟨z, hz⟩ : ∃ z, Lib.atoiSat s.data.toList = z := ⟨_, rfl⟩
    have HC : Hid (Calls Tryd.prog 45 #[.string s] w fun e w' => ∃ N, e = .returned (.tuple #[.int .i64 z, .iface 86 (.pointer (some ⟨N, 0, none⟩))]) ∧ Below w.heap.size w w') := by
      refine (Tryd.strconv_Atoi_range s hs hA (.iface tp p) w hv (.inr ⟨tp, p, rfl⟩)).mono ?_
      rintro e w' ⟨N, rfl, _, _, h⟩
      exact ⟨N, by rw [← hz], h⟩
    clear hG hv hA hz
    go_enter Tryd.func36, Tryd.ntmps36
    go_wp2_with (first | (go_at_call 45; refine HC.out.mono ?_; rintro e w1 ⟨N, rfl, hb1⟩))
    go_ret2
    rw [HQ.out]
    exact ⟨⟨_, rfl, fun m h => by cases h⟩, hb1⟩
end Go.Proofs.YtlpmnkiieibipaaDoor
