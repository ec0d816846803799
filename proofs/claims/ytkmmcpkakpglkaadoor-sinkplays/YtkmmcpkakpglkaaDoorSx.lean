import Derived.Test.YtkmmcpkakpglkaaDoorSw
set_option linter.unusedVariables false
set_option linter.unusedSimpArgs false
namespace Go.Proofs.YtkmmcpkakpglkaaDoor
open Go.RowKit
open Go.Lib (strCells strCells_length)

theorem Iv.start {w w1 w2 w3 w4 : World} {o1 o2 o3 o4 : Nat → Nat} {g1 g2 h1 h2 : Nat} (f1 : Fr 1 (fun _ => 0) o1 w w1) (s1 : SK o1 1 w1 g1 st0) (f2 : Fr 2 o1 o2 w1 w2) (s2 : SK o2 2 w2 g2 st0) (f3 : Fr 3 o2 o3 w2 w3) (s3 : RSK o3 3 w3 h1 st0) (f4 : Fr 4 o3 o4 w3 w4) (s4 : RSK o4 4 w4 h2 st0) (e4 : En o4 w4) : Iv w g1 h1 g2 h2 w4 st0 st0 :=
  ⟨o4, e4, (((FrS.of f1 (by omega)).trans (FrS.of f2 (by omega))).trans (FrS.of f3 (by omega))).trans (FrS.of f4 (by omega)), ((s1.kept f2 (by omega)).kept f3 (by omega)).kept f4 (by omega), s3.kept f4 (by omega), (s2.kept f3 (by omega)).kept f4 (by omega), s4⟩

set_option maxRecDepth 100000 in
set_option maxHeartbeats 2000000 in
theorem sinkPlays_any (ao : Option Addr) (acts : List Act6) (cap : Nat) (w : World) (hs : Scr w ao acts) (hl : acts.length ≤ 9223372036854775807) (hT : Tab w) :
    Calls Tryd.prog 4 #[.slice ao acts.length cap] w fun e w' => e = .returned (.bool true) ∧ Below w.heap.size w w' := by
  have HV := vast_any ao acts cap w hs hl
  have HD := deep_any ao acts cap w hs hl
  have HSC : Hid (Scr w ao acts) := hs
  have HE0 : Hid (En (fun _ => 0) w) := ⟨fun _ _ => rfl, hT, rfl⟩
  clear hs hT
  go_enter Tryd.func4, Tryd.ntmps4
  go_wp2_with fail
  refine HV.mono ?_
  rintro e w' ⟨r, rfl, hr, hw⟩
  have hw' := hw.symm
  subst hw'
  clear hw HV
  cases r
  · have hv := hr rfl
    clear hr
    go_wp2_with fail
    refine HD.mono ?_
    rintro e w' ⟨r, rfl, hr, hw⟩
    have hw' := hw.symm
    subst hw'
    clear hw HD
    cases r
    · have hd := hr rfl
      clear hr
      have HVD : Hid (vsum acts acts.length ≤ 16777216 ∧ dsum acts acts.length ≤ 16777216) := ⟨hv, hd⟩
      have hlen : acts.length ≤ 16777216 := Nat.le_trans (vsum_ge acts _) hv
      clear hv hd
      go_wp2_with fail
      refine (new_st _ 1 w HE0.out (by omega)).mono ?_
      rintro e w1 ⟨rfl, o1, E1, F1, S1⟩
      have H1 : Hid (En o1 w1 ∧ Fr 1 (fun _ => 0) o1 w w1 ∧ SK o1 1 w1 w.heap.size st0) := ⟨E1, F1, S1⟩
      clear E1 F1 S1
      go_wp2_with fail
      refine (new_st _ 2 w1 H1.out.1 (by omega)).mono ?_
      rintro e w2 ⟨rfl, o2, E2, F2, S2⟩
      have H2 : Hid (En o2 w2 ∧ Fr 2 o1 o2 w1 w2 ∧ SK o2 2 w2 w1.heap.size st0) := ⟨E2, F2, S2⟩
      clear E2 F2 S2
      go_wp2_with fail
      refine (rnew_st _ 3 w2 H2.out.1 (by omega)).mono ?_
      rintro e w3 ⟨rfl, o3, E3, F3, S3⟩
      have H3 : Hid (En o3 w3 ∧ Fr 3 o2 o3 w2 w3 ∧ RSK o3 3 w3 w2.heap.size st0) := ⟨E3, F3, S3⟩
      clear E3 F3 S3
      go_wp2_with fail
      refine (rnew_st _ 4 w3 H3.out.1 (by omega)).mono ?_
      rintro e w4 ⟨rfl, o4, E4, F4, S4⟩
      have HI : Hid (Iv w w.heap.size w2.heap.size w1.heap.size w3.heap.size w4 st0 st0) := Iv.start H1.out.2.1 H1.out.2.2 H2.out.2.1 H2.out.2.2 H3.out.2.1 H3.out.2.2 F4 S4 E4
      clear H1 H2 H3 E4 F4 S4
      generalize w.heap.size = g1 at *
      generalize w1.heap.size = g2 at *
      generalize w2.heap.size = h1 at *
      generalize w3.heap.size = h2 at *
      have HK0 : Hid (Ok6 st0 0 ⟨#[]⟩ 0) := ⟨by decide, by decide, by decide, by decide⟩
      go_wp2_with fail
      refine (HI.out.one 0 false ⟨#[]⟩ 0 HK0.out).mono ?_
      rintro e w5 ⟨rfl, hI5⟩
      have HI5 : Hid (Iv w g1 h1 g2 h2 w5 st0 st0) := hI5
      clear HI hI5
      go_wp2_with fail
      refine (HI5.out.two 0 false ⟨#[]⟩ 0 HK0.out).mono ?_
      rintro e w6 ⟨rfl, hI6⟩
      have HI6 : Hid (Iv w g1 h1 g2 h2 w6 st0 st0) := hI6
      clear HI5 hI6 HK0
      go_wp2_with fail
      go_loopw [7] (fun i wr => ∃ k : Nat, k ≤ acts.length ∧ i = .int .i64 k ∧ Hid (∃ p q, Iv w g1 h1 g2 h2 wr p q ∧ Fit p (Vk acts k) (dsum acts k) ∧ Fit q (Vk acts k) (dsum acts k))) (fun i _ => acts.length - (intOf i).toNat)
      case atStart => exact ⟨0, by omega, rfl, st0, st0, HI6.out, Fit.zero _ _, Fit.zero _ _⟩
      case round =>
        obtain ⟨k, hk, rfl, HR⟩ := hrel
        obtain ⟨p, q, hI, fp, fq⟩ := HR.out
        clear HI6 HR
        by_cases hlt : k < acts.length
        · obtain ⟨a, ha⟩ : ∃ a, acts[k]? = some a := ⟨acts[k], List.getElem?_eq_getElem hlt⟩
          obtain ⟨hts, b, off, rfl, c0, c1, c2, c3⟩ := HSC.out.below hI.bel k a ha
          have q1 : (k : Int) < acts.length := by omega
          have h3 := Vk_succ ha
          have h4 := dsum_succ acts k
          obtain ⟨ka, oa, ta, na⟩ := a
          simp only at c0 c1 c2 c3
          cases oa
          · obtain ⟨hok, hfit⟩ := fp.ok ha HVD.out.1 HVD.out.2
            have HN : Hid (∀ W', Iv w g1 h1 g2 h2 W' (p.stepT ka ta na) q → ∃ p q, Iv w g1 h1 g2 h2 W' p q ∧ Fit p (Vk acts (k + 1)) (dsum acts (k + 1)) ∧ Fit q (Vk acts (k + 1)) (dsum acts (k + 1))) := fun W' h => ⟨_, _, h, hfit, fq.more (by omega) (by omega)⟩
            have HC := hI.one ka false ta na hok
            clear hI fp fq hok hfit h3 h4 ha hts
            go_wp2_with fail
            refine HC.mono ?_
            rintro e w7 ⟨rfl, hI7⟩
            have HI7 := HN.out w7 hI7
            have HI8 : Hid (∃ p q, Iv w g1 h1 g2 h2 w7 p q ∧ Fit p (Vk acts (k + 1)) (dsum acts (k + 1)) ∧ Fit q (Vk acts (k + 1)) (dsum acts (k + 1))) := HI7
            clear HI7 hI7 HN HC c0 c1 c2 c3
            go_wp2_with fail
            exact ⟨⟨k + 1, hlt, by go_num, HI8.out⟩, by simp [intOf]; omega⟩
          · obtain ⟨hok, hfit⟩ := fq.ok ha HVD.out.1 HVD.out.2
            have HN : Hid (∀ W', Iv w g1 h1 g2 h2 W' p (q.stepT ka ta na) → ∃ p q, Iv w g1 h1 g2 h2 W' p q ∧ Fit p (Vk acts (k + 1)) (dsum acts (k + 1)) ∧ Fit q (Vk acts (k + 1)) (dsum acts (k + 1))) := fun W' h => ⟨_, _, h, fp.more (by omega) (by omega), hfit⟩
            have HC := hI.two ka true ta na hok
            clear hI fp fq hok hfit h3 h4 ha hts
            go_wp2_with fail
            refine HC.mono ?_
            rintro e w7 ⟨rfl, hI7⟩
            have HI7 := HN.out w7 hI7
            have HI8 : Hid (∃ p q, Iv w g1 h1 g2 h2 w7 p q ∧ Fit p (Vk acts (k + 1)) (dsum acts (k + 1)) ∧ Fit q (Vk acts (k + 1)) (dsum acts (k + 1))) := HI7
            clear HI7 hI7 HN HC c0 c1 c2 c3
            go_wp2_with fail
            exact ⟨⟨k + 1, hlt, by go_num, HI8.out⟩, by simp [intOf]; omega⟩
        · obtain rfl : k = acts.length := by omega
          have q1 : ¬ ((acts.length : Int) < acts.length) := by omega
          have HC := hI.one 5 false ⟨#[]⟩ 0 (fp.ok5 HVD.out.1 HVD.out.2 _ rfl 5 0 (.inl rfl))
          have HQ : Hid (∀ W p, Iv w g1 h1 g2 h2 W p q → Calls Tryd.prog 19 #[.pointer (some ⟨g2, 0, none⟩), .pointer (some ⟨h2, 0, none⟩), .agg #[.int .i64 5, .bool false, .string ⟨#[]⟩, .int .i64 0]] W fun e W' => e = .returned (.bool true) ∧ Iv w g1 h1 g2 h2 W' p (q.stepT 5 ⟨#[]⟩ 0)) := fun W p h => h.two 5 false ⟨#[]⟩ 0 (fq.ok5 HVD.out.1 HVD.out.2 _ rfl 5 0 (.inl rfl))
          clear hI fp fq
          go_wp2_with fail
          refine HC.mono ?_
          rintro e w7 ⟨rfl, hI7⟩
          have HC2 := HQ.out w7 _ hI7
          clear hI7 HC HQ
          go_wp2_with fail
          refine HC2.mono ?_
          rintro e w8 ⟨rfl, hI8⟩
          have HA := awake_any w8 hI8.tab
          have HB : Hid (Below w.heap.size w w8) := hI8.bel
          clear hI8 HC2
          go_wp2_with fail
          refine HA.mono ?_
          rintro e w9 ⟨rfl, hb9⟩
          have HB9 : Hid (Below w.heap.size w w9) := HB.out.trans (hb9.mono HB.out.size)
          clear hb9 HB HA
          go_wp2_with fail
          go_ret
          exact ⟨rfl, HB9.out⟩
    · go_wp2_with fail
      go_ret
      exact ⟨rfl, Below.refl _ _⟩
  · go_wp2_with fail
    go_ret
    exact ⟨rfl, Below.refl _ _⟩
end Go.Proofs.YtkmmcpkakpglkaaDoor
