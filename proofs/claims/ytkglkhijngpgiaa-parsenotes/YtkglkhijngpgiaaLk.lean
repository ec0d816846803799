import Derived.Test.YtkglkhijngpgiaaLj
set_option linter.unusedVariables false
set_option linter.unusedSimpArgs false
namespace Go.Proofs.Ytkglkhijngpgiaa
open Go.RowKit

abbrev plainL (l : List Tv) : List Tv := l.filter (fun t => !cmm t)
theorem plain_step {l : List Tv} {j : Nat} {t : Tv} (h : l[j]? = some t) : plainL (l.take (j + 1)) = plainL (l.take j) ++ (if cmm t then [] else [t]) := by
  rw [List.take_add_one, h]
  unfold plainL
  rw [List.filter_append]
  cases hc : cmm t <;> simp [hc]
theorem cmm_no {t : Tv} (h : cmm t = false) : (t.k == 7) = false ∧ (t.k == 8) = false := by
  unfold cmm at h
  revert h
  cases t.k == 7 <;> cases t.k == 8 <;> decide
/-- Between two rounds of the first loop. -/
structure P1 (w : World) (vp : Value) (m : List Tv) (W : World) : Prop where
  bel : Below w.heap.size w W
  rt : Rt w.heap.size W vp m
/-- Of the second one. -/
structure P2 (w : World) (va vb : Value) (E B : List Ev) (W : World) : Prop where
  bel : Below w.heap.size w W
  ra : Re W va E
  rb : Re W vb B
theorem P2.below {w : World} {va vb : Value} {E B : List Ev} {W W' : World} (h : P2 w va vb E B W) (hb : Below W.heap.size W W') : P2 w va vb E B W' := ⟨h.bel.trans (hb.mono h.bel.size), h.ra.below hb, h.rb.below hb⟩

set_option maxRecDepth 100000 in
set_option maxHeartbeats 2000000 in
theorem notes_any (ao : Option Addr) (l : List Tv) (cap : Nat) (w : World) (hL : Lt w ao l) (hl : l.length ≤ 1048576) :
    Calls Try.prog 4 #[.slice ao l.length cap] w fun r w' => r = .returned (.bool true) ∧ Below w.heap.size w w' := by
  obtain ⟨E, code, kk, hA⟩ := alr_ex l (.live [] 0) good_new
  obtain ⟨B, kb, hB, hN⟩ := notes_top hA
  have hpl : (plainL l).length ≤ 1048576 := Nat.le_trans (List.length_filter_le _ _) hl
  have hEl : E.length ≤ 1000000000000 := by have := alr_len l _ E code kk good_new hA; omega
  have hBl : B.length ≤ 1000000000000 := by have := alr_len (plainL l) _ B code kb good_new hB; omega
  have HA : Hid (∀ V, Below w.heap.size w V → Calls Try.prog 6 #[.slice ao l.length cap] V fun r w' => ∃ v, r = .returned (.tuple #[v, .int .i64 code, .int .i64 kk]) ∧ Re w' v E ∧ Below V.heap.size V w' ∧ (∀ k, v.ownBlock = some k → V.heap.size ≤ k)) := fun V hb => all_any ao l cap V (hL.below hb) hl hA
  have HP : Hid (∀ V ap cp, Lt V ap (plainL l) → Calls Try.prog 6 #[.slice ap (plainL l).length cp] V fun r w' => ∃ v, r = .returned (.tuple #[v, .int .i64 code, .int .i64 kb]) ∧ Re w' v B ∧ Below V.heap.size V w' ∧ (∀ k, v.ownBlock = some k → V.heap.size ≤ k)) := fun V ap cp hb => all_any ap (plainL l) cp V hb hpl hB
  have HL : Hid (Lt w ao l) := hL
  have HN : Hid (Nts E B) := hN
  have q0 : ¬ ((l.length : Int) > 1048576) := by omega
  clear hL hA hB hN
  go_enter Try.func4, Try.ntmps4
  go_wp2_with (go_at_call 5; refine (awake_any _).mono ?_; rintro r w1 ⟨rfl, hb1⟩)
  have H1 : Hid (P1 w nilS [] w1) := ⟨hb1, rt_nil _ _⟩
  clear hb1
  go_loopw [4, 5] (fun vp iv wr => ∃ j : Nat, j ≤ l.length ∧ iv = .int .i64 j ∧ Hid (P1 w vp (plainL (l.take j)) wr)) (fun _ iv _ => l.length - (intOf iv).toNat)
  case atStart => exact ⟨0, Nat.zero_le _, rfl, H1⟩
  case round =>
    obtain ⟨j, hj, rfl, HJ⟩ := hrel
    obtain ⟨pv, cv, hv, hv1, hv2⟩ := HJ.out.rt.shape
    subst hv
    by_cases hlt : j < l.length
    · have q1 : (j : Int) < l.length := by omega
      have q2 : (0 : Int) ≤ j := by omega
      obtain ⟨t, ht⟩ : ∃ t, l[j]? = some t := ⟨_, List.getElem?_eq_getElem hlt⟩
      obtain ⟨b, off, rfl, c0, c1, c2, c3, c4, c5⟩ := (HL.out.below HJ.out.bel) j t ht
      have hb3 := World.block_lt_of_cell? _ _ c0
      have hst := plain_step ht
      obtain ⟨dk, dt, da, dl, dc, df⟩ := t
      dsimp only at c0 c1 c2 c3 c4 c5
      cases hc : cmm ⟨dk, dt, da, dl, dc, df⟩ with
      | true =>
        rw [hc] at hst
        simp only [if_true, List.append_nil] at hst
        have HX : Hid (∀ V, Below wr.heap.size wr V → P1 w (.slice pv (plainL (l.take j)).length cv) (plainL (l.take (j + 1))) V) := fun V hb => by
          rw [hst]
          exact ⟨HJ.out.bel.trans (hb.mono HJ.out.bel.size), HJ.out.rt.below hb⟩
        by_cases h7 : dk = 7
        · subst h7
          clear hst hc ht HJ HA HP
          go_wp2_with fail
          exact ⟨⟨j + 1, hlt, by go_num, HX.out _ (Below.refl _ _)⟩, by simp [intOf]; omega⟩
        · have h8 : dk = 8 := by
            simp only [cmm, Bool.or_eq_true, beq_iff_eq] at hc
            exact hc.resolve_left h7
          subst h8
          clear hst hc ht HJ HA HP h7
          go_wp2_with fail
          exact ⟨⟨j + 1, hlt, by go_num, HX.out _ (Below.refl _ _)⟩, by simp [intOf]; omega⟩
      | false =>
        obtain ⟨z1, z2⟩ := cmm_no hc
        dsimp only at z1 z2
        have z3 : (dk != 7) = true := by simp only [bne, z1]; rfl
        have z4 : (dk != 8) = true := by simp only [bne, z2]; rfl
        have z5 : ¬ dk = 7 := by simpa using z1
        have z6 : ¬ dk = 8 := by simpa using z2
        clear z1 z2
        rw [hc] at hst
        simp only [Bool.false_eq_true, if_false] at hst
        have hml : (plainL (l.take j)).length ≤ 1048576 := Nat.le_trans (List.length_filter_le _ _) (by rw [List.length_take]; omega)
        have HX : Hid (∀ V v', Below wr.heap.size wr (wr.alloc (.cells #[.int .u8 dk, .string dt, .int .i64 da, .int .i64 dl, .int .i64 dc, .int .i64 df] 35)) → Rt w.heap.size V v' (plainL (l.take j) ++ [⟨dk, dt, da, dl, dc, df⟩]) → Below w.heap.size (wr.alloc (.cells #[.int .u8 dk, .string dt, .int .i64 da, .int .i64 dl, .int .i64 dc, .int .i64 df] 35)) V → P1 w v' (plainL (l.take (j + 1))) V) := fun V v' hb hr hv => by
          rw [hst]
          exact ⟨(HJ.out.bel.trans (hb.mono HJ.out.bel.size)).trans hv, hr⟩
        have HRT : Hid (Rt w.heap.size (wr.alloc (.cells #[.int .u8 dk, .string dt, .int .i64 da, .int .i64 dl, .int .i64 dc, .int .i64 df] 35)) (.slice pv (plainL (l.take j)).length cv) (plainL (l.take j))) := HJ.out.rt.below (below_new _ _)
        have HW : Hid (w.heap.size ≤ (wr.alloc (.cells #[.int .u8 dk, .string dt, .int .i64 da, .int .i64 dl, .int .i64 dc, .int .i64 df] 35)).heap.size) := by have := HJ.out.bel.size; rw [World.size_alloc]; exact Nat.le_succ_of_le this
        clear hst hc ht HJ HA HP
        go_wp2_with (at_builtin; (refine app_tok (by rfl) _ _ (by rfl) w.heap.size (.slice pv (plainL (l.take j)).length cv) (plainL (l.take j)) ⟨dk, dt, da, dl, dc, df⟩ (by rfl) HRT.out wr.heap.size 1 (by rfl) (new_at _ _) (by omega) HW.out ?_); intro v' w3 h1 h2 _ _; have H3 : Hid (P1 w v' (plainL (l.take (j + 1))) w3) := HX.out _ _ (below_new _ _) h1 h2; clear h1 h2)
        exact ⟨⟨j + 1, hlt, by go_num, H3⟩, by simp [intOf]; omega⟩
    · obtain rfl : j = l.length := by omega
      have q1 : ¬ ((l.length : Int) < l.length) := by omega
      simp only [List.take_length] at HJ hv1 ⊢
      have hLp : Lt wr pv (plainL l) := by
        obtain ⟨a2, c2, e, h, _⟩ := Lt.row HJ.out.rt
        cases e
        exact h
      have HQ : Hid (Lt wr pv (plainL l) ∧ Below w.heap.size w wr) := ⟨hLp, HJ.out.bel⟩
      clear hLp HJ H1
      go_wp2_with fail
      refine (HA.out _ HQ.out.2).mono ?_
      rintro r w2 ⟨va, rfl, hra, hba, _⟩
      have HV : Hid (Re w2 va E ∧ Lt w2 pv (plainL l) ∧ Below w.heap.size w w2) := ⟨hra, HQ.out.1.below hba, HQ.out.2.trans (hba.mono HQ.out.2.size)⟩
      obtain ⟨pa, ca, hva, _⟩ := hra.shape
      subst hva
      clear hra hba HQ HA
      go_wp2_with fail
      refine (HP.out _ _ _ HV.out.2.1).mono ?_
      rintro r w3 ⟨vb, rfl, hrb, hbb, _⟩
      have H2 : Hid (P2 w (.slice pa E.length ca) vb E B w3) := ⟨HV.out.2.2.trans (hbb.mono HV.out.2.2.size), HV.out.1.below hbb, hrb⟩
      obtain ⟨pb, cb, hvb, _⟩ := hrb.shape
      subst hvb
      clear hrb hbb HV HP
      rcases HN.out with hfil | ⟨hB0, ns, hE0, hne, hns⟩
      · have HF : Hid (E.filter nn = B) := hfil
        clear hfil HN
        go_wp2_with fail
        go_loopw [12, 13] (fun kv iv wr => ∃ i k : Nat, i ≤ E.length ∧ iv = .int .i64 i ∧ kv = .int .i64 k ∧ ((E.take i).filter nn).length = k ∧ Hid (P2 w (.slice pa E.length ca) (.slice pb B.length cb) E B wr)) (fun _ iv _ => E.length - (intOf iv).toNat)
        case atStart => exact ⟨0, 0, Nat.zero_le _, rfl, rfl, rfl, H2⟩
        case round =>
          obtain ⟨i, k, hi, rfl, rfl, hk, HJ⟩ := hrel
          have hkE : k ≤ E.length := by rw [← hk]; exact Nat.le_trans (List.length_filter_le _ _) (by rw [List.length_take]; omega)
          by_cases hlt : i < E.length
          · have q3 : (i : Int) < E.length := by omega
            have q4 : (0 : Int) ≤ i := by omega
            obtain ⟨e, he⟩ : ∃ e, E[i]? = some e := ⟨_, List.getElem?_eq_getElem hlt⟩
            obtain ⟨f1, f2⟩ := filt_step HF.out he hk
            obtain ⟨b, cp, hbe, hbl, x0, x1, x2, x3, x4, x5, x6, x7⟩ := ev_cells HJ.out.ra he
            cases hbe
            have HX : Hid (∀ V, Below wr.heap.size wr V → P2 w (.slice (some ⟨b, 0, none⟩) E.length ca) (.slice pb B.length cb) E B V) := fun V hb => HJ.out.below hb
            cases hn : nn e with
            | false =>
              have hf := f2 hn
              have h4 : e.k = 4 := by simpa [nn] using hn
              rw [h4] at x0
              clear f1 f2 he hn hk H2
              go_wp2_with fail
              exact ⟨⟨i + 1, k, hlt, by go_num, rfl, hf, HX.out _ (Below.refl _ _)⟩, by simp [intOf]; omega⟩
            | true =>
              obtain ⟨hbk, hf⟩ := f1 hn
              have h4 : (e.k == 4) = false := by simpa [nn] using hn
              have h4' : ¬ e.k = 4 := by simpa using h4
              obtain ⟨b2, cp2, hbe2, hbl2, y0, y1, y2, y3, y4, y5, y6, y7⟩ := ev_cells HJ.out.rb hbk
              cases hbe2
              have hkl := (List.getElem?_eq_some_iff.1 hbk).1
              have q5 : ¬ ((k : Int) ≥ B.length) := by omega
              have q6 : (k : Int) < B.length := by omega
              have q7 : (0 : Int) ≤ k := by omega
              clear f1 f2 he hn hk H2 hbk
              go_wp2_with fail
              go_quiet (fail)
              go_wp2_with fail
              exact ⟨⟨i + 1, k + 1, hlt, by go_num, by go_num, hf, HX.out _ (below_dn (Below.refl _ _) _)⟩, by simp [intOf]; omega⟩
          · obtain rfl : i = E.length := by omega
            have q3 : ¬ ((E.length : Int) < E.length) := by omega
            rw [List.take_length, HF.out] at hk
            subst hk
            go_wp2_with fail
            go_ret
            exact ⟨rfl, HJ.out.bel⟩
      · have he0 : E[0]? = some ⟨1, 1, tv0⟩ := by rw [hE0]; rfl
        have hEn : E.length = ns.length + 1 := by rw [hE0]; rfl
        have hnl : 1 ≤ ns.length := by cases ns with | nil => exact absurd rfl hne | cons a b => simp
        have hB1 : B.length = 0 := by rw [hB0]; rfl
        obtain ⟨b, cp, hbe, hbl, x0, x1, x2, x3, x4, x5, x6, x7⟩ := ev_cells H2.out.ra he0
        cases hbe
        simp only [Nat.zero_mul] at x0 x1
        have hca : E.length ≤ ca := by obtain ⟨p2, c2, e2, h2, _⟩ := H2.out.ra.shape; cases e2; exact h2
        have HNT : Hid (Calls Try.prog 7 #[.slice (some ⟨b, 8, none⟩) ns.length (ca - 1)] w3 fun r w' => r = .returned (.bool true) ∧ Below w3.heap.size w3 w') := by
          refine noted_any b 8 ns.length (ca - 1) w3 (by omega) (fun j hj => ?_)
          obtain ⟨e, he⟩ : ∃ e, ns[j]? = some e := ⟨_, List.getElem?_eq_getElem (by omega)⟩
          have he2 : E[j + 1]? = some e := by rw [hE0, List.getElem?_cons_succ]; exact he
          obtain ⟨b', cp', hbe', _, y0, _⟩ := ev_cells H2.out.ra he2
          cases hbe'
          rw [hns e (List.mem_of_getElem? he), show (j + 1) * 8 = 8 + j * 8 by omega] at y0
          exact y0
        have q3 : (0 : Int) < E.length := by omega
        have q4 : (0 : Int) ≥ B.length := by omega
        have q5 : (E.length : Int) > 1 := by omega
        have q6 : 1 ≤ E.length := by omega
        have q7 : (1 : Int) ≤ E.length := by omega
        have HE : Hid (Below w.heap.size w w3) := H2.out.bel
        clear he0 hE0 hne hns hB0 HN H2
        go_wp2_with fail
        go_loopw [12, 13] (fun kv iv wr => kv = .int .i64 0 ∧ iv = .int .i64 0 ∧ wr = w3) (fun _ iv _ => 0)
        case atStart => exact ⟨rfl, rfl, rfl⟩
        case round =>
          obtain ⟨rfl, rfl, rfl⟩ := hrel
          go_wp2_with fail
          refine HNT.out.mono ?_
          rintro r w4 ⟨rfl, hb4⟩
          go_wp2_with fail
          go_ret
          exact ⟨rfl, HE.out.trans (hb4.mono HE.out.size)⟩
set_option maxRecDepth 100000 in
set_option maxHeartbeats 1000000 in
theorem notes_walk (ao : Option Addr) (l : List Tv) (cap : Nat) (w : World) (hL : Lt w ao l) :
    Calls Try.prog 4 #[.slice ao l.length cap] w fun r w' => r = .returned (.bool true) ∧ Below w.heap.size w w' := by
  by_cases hl : l.length ≤ 1048576
  · exact notes_any ao l cap w hL hl
  · have q0 : (l.length : Int) > 1048576 := by omega
    clear hL
    go_enter Try.func4, Try.ntmps4
    go_wp2_with (go_at_call 5; refine (awake_any _).mono ?_; rintro r w1 ⟨rfl, hb1⟩)
    go_ret
    exact ⟨rfl, hb1⟩

end Go.Proofs.Ytkglkhijngpgiaa
