import Derived.Test.YtlpmnkiieibipaaDoorDy
set_option linter.unusedVariables false
set_option linter.unusedSimpArgs false
namespace Go.Proofs.YtlpmnkiieibipaaDoor
open Go.RowKit

theorem ls_all (s : ByteArray) : (⟨(ls s).toArray⟩ : ByteArray) = s := ls_inj (ls_mk _)

set_option maxHeartbeats 2000000 in
set_option maxRecDepth 100000 in
theorem reads_any (s : ByteArray) (hs : s.size ≤ 9223372036854775807) (w : World) (hG : Gl w) : Calls Tryd.prog 7 #[.string s] w fun e w' => e = .returned (.bool true) ∧ Below w.heap.size w w' := by
  have HG : Hid (GlB w.heap.size w) := hG.glB
  have HA : Hid (∀ W, Below w.heap.size w W → Calls Tryd.prog 8 #[] W fun e w' => e = .returned (.bool true) ∧ Below W.heap.size W w') := fun W hW => awake_any W (HG.out W hW)
  obtain ⟨l, hl⟩ : ∃ l, (prs (ls s)).1 = l := ⟨_, rfl⟩
  obtain ⟨k1, hk1⟩ : ∃ k, (prs (ls s)).2.1 = k := ⟨_, rfl⟩
  obtain ⟨k2, hk2⟩ : ∃ k, (prs (ls s)).2.2 = k := ⟨_, rfl⟩
  have HP : Hid (Calls Tryd.prog 15 #[.string s] w fun e w' => (∃ v, e = .returned (.tuple #[v, .int .i64 k1, .int .i64 k2]) ∧ Rp w.heap.size w' v l) ∧ Below w.heap.size w w') := by
    have h := parse_any s hs w hG
    unfold PV at h
    rw [hl, hk1, hk2] at h
    exact h
  clear hG
  by_cases h0 : k1 = 0
  · subst h0
    obtain ⟨a1, a2, a3, a4, a5⟩ := prs_ok hk1
    have hless := fun h => prs_less (s := ls s) hk1 h
    rw [hl] at a1 a2 a3 hless
    have hll : l.length ≤ 4194304 := by
      have := lns_len l
      rw [a2] at this
      omega
    have hln : l.length ≤ 9223372036854775807 := by omega
    have HPn : Hid (∀ W (p : Option Addr) (c : Nat), Below w.heap.size w W → Lay W p l → Calls Tryd.prog 12 #[.slice p l.length c] W fun e w' => e = .returned (.tuple #[.string s, .int .i64 0]) ∧ Below W.heap.size W w') := fun W p c hW hL => by
      have h := print_any p l c W hL hln (HG.out W hW)
      rw [a1, ls_all] at h
      exact h
    have HT : Hid (∀ d ∈ l, d.t.size ≤ 9223372036854775807) := fun d hd => rt_size (a3 d hd)
    by_cases he : s.size = 0
    · obtain rfl : s = ⟨#[]⟩ := ls_inj (List.eq_nil_of_length_eq_zero (by rw [ls_len]; exact he))
      have hl0 : l = [] := by
        have := lns_len l
        rw [a2] at this
        exact List.eq_nil_of_length_eq_zero (by simpa [ls] using this)
      subst hl0
      clear a1 a2 a3 a4 a5 hl hk1 hk2 hless hll hln
      simp only [List.length_nil] at HPn
      go_enter Tryd.func7, Tryd.ntmps7
      go_wp2_with (first | (go_at_call 15; refine HP.out.mono ?_; rintro e w1 ⟨⟨v, rfl, hr⟩, hb1⟩; obtain ⟨p, c, hv, _, hL, _, _, _⟩ := Lay.row hr HT.out; have hv' : v = .slice p 0 c := hv; subst hv'; have H1 : Hid (Below w.heap.size w w1 ∧ Lay w1 p []) := ⟨hb1, hL⟩; clear hb1 hr hL hv) | (go_at_call 12; refine (HPn.out _ _ _ H1.out.1 H1.out.2).mono ?_; rintro e w2 ⟨rfl, hb2⟩; have H2 : Hid (Below w.heap.size w w2) := H1.out.1.trans (hb2.mono H1.out.1.size); clear hb2) | (go_at_call 8; refine (HA.out _ H2.out).mono ?_; rintro e w3 ⟨rfl, hb3⟩; have H3 : Hid (Below w.heap.size w w3) := H2.out.trans (hb3.mono H2.out.size); clear hb3))
      go_ret
      exact ⟨rfl, H3.out⟩
    · have hne := tl_ne (show 0 < s.size by omega)
      have hne2 : s.toList.isEmpty = false := by cases h : s.toList with | nil => exact absurd h hne | cons a b => rfl
      have hq := hless (fun h => he (by rw [← ls_len, h]; rfl))
      have hsz : (1 : Int) ≤ s.size := by omega
      have h1s : 1 ≤ s.size := by omega
      obtain ⟨t, ht⟩ : ∃ t, s.extract 0 (s.size - 1) = t := ⟨_, rfl⟩
      have hlt : ls t = (ls s).take ((ls s).length - 1) := by rw [← ht, ls_extract s 0 _ (by omega), List.drop_zero, ls_len]
      have hts : t.size ≤ 9223372036854775807 := by rw [← ls_len, hlt, List.length_take, ls_len]; omega
      have HQ : Hid (∀ W, Below w.heap.size w W → Calls Tryd.prog 15 #[.string t] W fun e w' => (∃ v, e = .returned (.tuple #[v, .int .i64 71, .int .i64 (l.length : Int)]) ∧ Rp W.heap.size w' v []) ∧ Below W.heap.size W w') := fun W hW => by
        have h := parse_any t hts W (HG.out W hW)
        unfold PV at h
        rw [hlt, hq] at h
        exact h
      clear a1 a2 a3 a4 a5 hl hk1 hk2 hless hq hlt he
      go_enter Tryd.func7, Tryd.ntmps7
      go_wp2_with (first | (go_at_call 15; have hg := H2.out; clear hg; (try rw [ht]); refine (HQ.out _ H2.out).mono ?_; rintro e w4 ⟨⟨v4, rfl, hr4⟩, hb4⟩; have H4 : Hid (Below w.heap.size w w4) := H2.out.trans (hb4.mono H2.out.size); clear hb4 hr4) | (go_at_call 15; refine HP.out.mono ?_; rintro e w1 ⟨⟨v, rfl, hr⟩, hb1⟩; obtain ⟨p, c, hv, _, hL, _, _, _⟩ := Lay.row hr HT.out; subst hv; have H1 : Hid (Below w.heap.size w w1 ∧ Lay w1 p l) := ⟨hb1, hL⟩; clear hb1 hr hL) | (go_at_call 12; refine (HPn.out _ _ _ H1.out.1 H1.out.2).mono ?_; rintro e w2 ⟨rfl, hb2⟩; have H2 : Hid (Below w.heap.size w w2) := H1.out.1.trans (hb2.mono H1.out.1.size); clear hb2) | (go_at_call 8; refine (HA.out _ H4.out).mono ?_; rintro e w5 ⟨rfl, hb5⟩; have H5 : Hid (Below w.heap.size w w5) := H4.out.trans (hb5.mono H4.out.size); clear hb5))
      go_ret
      exact ⟨rfl, H5.out⟩
  · have hl0 := prs_err (s := ls s) (by rw [hk1]; exact h0)
    rw [hl] at hl0
    subst hl0
    have HT : Hid (∀ d ∈ ([] : List Dc), d.t.size ≤ 9223372036854775807) := by intro d hd; cases hd
    clear hl hk1 hk2
    go_enter Tryd.func7, Tryd.ntmps7
    go_wp2_with (first | (go_at_call 15; refine HP.out.mono ?_; rintro e w1 ⟨⟨v, rfl, hr⟩, hb1⟩; obtain ⟨p, c, hv, _, hL, _, _, _⟩ := Lay.row hr HT.out; have hv' : v = .slice p 0 c := hv; subst hv'; have H1 : Hid (Below w.heap.size w w1) := hb1; clear hb1 hr hL hv) | (go_at_call 8; refine (HA.out _ H1.out).mono ?_; rintro e w3 ⟨rfl, hb3⟩; have H3 : Hid (Below w.heap.size w w3) := H1.out.trans (hb3.mono H1.out.size); clear hb3))
    go_ret
    exact ⟨rfl, H3.out⟩
end Go.Proofs.YtlpmnkiieibipaaDoor
