import Derived.Test.YtkmmcpkakpglkaaDoorUc
import Derived.Deep.RegionHeld3
set_option linter.unusedVariables false
set_option linter.unusedSimpArgs false
namespace Go.Proofs.YtkmmcpkakpglkaaDoor
open Go.RowKit
open Go.Lib (strCells strCells_length)

set_option maxRecDepth 100000 in
set_option maxHeartbeats 4000000 in
theorem sinkBlanks_any (ao : Option Addr) (acts : List Act6) (cap : Nat) (nm : ByteArray) (w : World) (hs : Scr w ao acts) (hl : acts.length ≤ 9223372036854775807) (hnm : nm.size ≤ maxLen) (hT : Tab w) :
    Calls Tryd.prog 6 #[.slice ao acts.length cap, .string nm] w fun e w' => e = .returned (.bool true) ∧ Below w.heap.size w w' := by
  obtain ⟨i0, hi, hz0, hz1, hz2⟩ := info_parts Tryd.info5
  have hnm' : nm.size ≤ 9223372036854775807 := hnm
  clear hnm
  have HV := vast_any ao acts cap w hs hl
  have HD := deep_any ao acts cap w hs hl
  have HSC : Hid (Scr w ao acts) := hs
  have HE0 : Hid (En (fun _ => 0) w) := ⟨fun _ _ => rfl, hT, rfl⟩
  clear hs hT
  go_enter Tryd.func6, Tryd.ntmps6
  go_wp2_with fail
  refine HV.mono ?_
  rintro e w' ⟨r, rfl, hr, hw⟩
  have hw' := hw.symm
  subst hw'
  clear hw HV
  cases r
  rotate_left
  · go_wp2_with fail
    go_ret
    exact ⟨rfl, Below.refl _ _⟩
  have hv := hr rfl
  clear hr
  go_wp2_with fail
  refine HD.mono ?_
  rintro e w' ⟨r, rfl, hr, hw⟩
  have hw' := hw.symm
  subst hw'
  clear hw HD
  cases r
  rotate_left
  · go_wp2_with fail
    go_ret
    exact ⟨rfl, Below.refl _ _⟩
  have hd := hr rfl
  clear hr
  by_cases hbm : 1000 < nm.size
  · have q : (1000 : Int) < nm.size := by omega
    go_wp2_with fail
    go_ret
    exact ⟨rfl, Below.refl _ _⟩
  have qb : ¬ ((1000 : Int) < nm.size) := by omega
  have hnm : nm.size ≤ 1000 := by omega
  have HVD : Hid (vsum acts acts.length ≤ 16777216 ∧ dsum acts acts.length ≤ 16777216) := ⟨hv, hd⟩
  have hlen : acts.length ≤ 16777216 := Nat.le_trans (vsum_ge acts _) hv
  clear hv hd hnm' hbm
  go_wp2_with fail
  go_loopw [5, 6] (fun v i wr => ∃ k : Nat, k ≤ nm.size ∧ i = .int .i64 k ∧ Hid (∃ l, Rx w v wr l ∧ Pn l ∧ l.length ≤ k)) (fun _ i _ => nm.size - (intOf i).toNat)
  case atStart => exact ⟨0, by omega, rfl, [], ⟨_, HE0.out, FrS.of_below (Below.refl _ _), World.ownsRow_nil _ _ _ _, fun k h => by cases h⟩, (fun x h => by cases h), Nat.le_refl _⟩
  case round =>
    obtain ⟨k, hk, rfl, HR⟩ := hrel
    obtain ⟨l, hR, hP, hll⟩ := HR.out
    clear HR
    by_cases hlt : k < nm.size
    · have q1 : (k : Int) < nm.size := by omega
      obtain ⟨p, vcap, rfl, _, _⟩ := row_shape hR.row
      by_cases c1 : 32 < ((nm[k]'hlt).toNat : Int)
      · by_cases c2 : ((nm[k]'hlt).toNat : Int) < 127
        · have HB : Hid (Rx w (.slice p l.length vcap) (wr.alloc (.cells #[.int .u8 ((nm[k]'hlt).toNat : Int)] 5)) l) := hR.below ((Below.refl _ _).alloc (Nat.le_refl _) _)
          have HP : Hid (Pn (l ++ [nm[k]'hlt]) ∧ (l ++ [nm[k]'hlt]).length ≤ k + 1) := by
            refine ⟨fun x hx => ?_, by simp; omega⟩
            rcases List.mem_append.1 hx with h1 | h1
            · exact hP x h1
            · simp at h1; subst h1; omega
          clear hR hP
          go_wp2_with (first | (at_builtin; refine wpList_append_own_at (P := Tryd.prog) (w := wr.alloc (.cells #[.int .u8 ((nm[k]'hlt).toNat : Int)] 5)) rfl _ _ 39 rfl 0 5 i0 (.int .u8 0) 1 1 Tryd.underlying39 hi hz0 hz1 hz2 rfl (by decide) _ _ _ rfl HB.out.row ⟨wr.heap.size, 0, none⟩ 1 1 [.int .u8 ((nm[k]'hlt).toNat : Int)] rfl rfl (cell_one_new _ _ _) ?c2 ?c3 ?c4 (Nat.zero_le _) ?_))
          case c2 => first | rfl | (intro u hu; simp at hu; subst hu; rfl)
          case c3 => unfold maxLen; omega
          case c4 => omega
          intro v2 w2 ho2 hg2 _ hat
          have hE := HB.out.app (m := [nm[k]'hlt]) hg2 ho2 (by rw [World.size_alloc]; exact hat)
          have HN : Hid (∃ l', Rx w v2 w2 l' ∧ Pn l' ∧ l'.length ≤ k + 1) := ⟨_, hE, HP.out⟩
          obtain ⟨p2, cap2, rfl, _, _⟩ := row_shape ho2
          clear hE ho2 hg2 hat HB HP
          go_wp2_with fail
          exact ⟨⟨k + 1, hlt, by go_num, HN.out⟩, by simp [intOf]; omega⟩
        · have HN : Hid (∃ l', Rx w (.slice p l.length vcap) wr l' ∧ Pn l' ∧ l'.length ≤ k + 1) := ⟨l, hR, hP, by omega⟩
          clear hR hP
          go_wp2_with fail
          exact ⟨⟨k + 1, hlt, by go_num, HN.out⟩, by simp [intOf]; omega⟩
      · have HN : Hid (∃ l', Rx w (.slice p l.length vcap) wr l' ∧ Pn l' ∧ l'.length ≤ k + 1) := ⟨l, hR, hP, by omega⟩
        clear hR hP
        go_wp2_with fail
        exact ⟨⟨k + 1, hlt, by go_num, HN.out⟩, by simp [intOf]; omega⟩
    · obtain rfl : k = nm.size := by omega
      have q1 : ¬ ((nm.size : Int) < nm.size) := by omega
      obtain ⟨p, vcap, rfl, _, _⟩ := row_shape hR.row
      have HR : Hid (Rx w (.slice p l.length vcap) wr l ∧ Pn l) := ⟨hR, hP⟩
      have hll' : l.length ≤ 1000 := by omega
      clear hR hP hll
      go_wp2_with fail
      refine (HR.out.1.new).mono ?_
      rintro e w2 ⟨rfl, hK2⟩
      have HK2 : Hid (Kx w wr.heap.size (.slice p l.length vcap) w2 st0 l) := hK2
      have HPN : Hid (Pn l) := HR.out.2
      clear HR hK2
      generalize wr.heap.size = g at *
      go_wp2_with fail
      go_loopw [8, 9] (fun x i W => ∃ k wt : Nat, k ≤ acts.length ∧ k ≤ 3000 ∧ x = .int .i64 wt ∧ i = .int .i64 k ∧ Hid (Bx w g (.slice p l.length vcap) l acts k wt W)) (fun _ i _ => acts.length - (intOf i).toNat)
      case atStart => exact ⟨0, 0, by omega, by omega, rfl, rfl, st0, rfl, HK2.out, Bl.zero, Fit.zero _ _⟩
      case round =>
        obtain ⟨k, wt, hk, hk3, rfl, rfl, HX⟩ := hrel
        obtain ⟨s, hwt, hK, hB, hF⟩ := HX.out
        clear HX HK2
        have hsm := hF.smallB hk hk3 HVD.out.1 HVD.out.2
        rw [hwt] at hsm
        obtain ⟨V, eV⟩ : ∃ V, V = wr := ⟨wr, rfl⟩
        subst eV
        by_cases hlt : k < acts.length ∧ k < 3000
        · obtain ⟨a, ha⟩ : ∃ a, acts[k]? = some a := ⟨acts[k], List.getElem?_eq_getElem hlt.1⟩
          obtain ⟨hts, b, off, rfl, c0, c1, c2, c3⟩ := HSC.out.below hK.bel k a ha
          have q1 : (k : Int) < acts.length := by omega
          have q2 : (k : Int) < 3000 := by omega
          have HK3 : k < 3000 := hlt.2
          obtain ⟨ka, oa, ta, na⟩ := a
          simp only at c0 c1 c2 c3 hts
          have HX3 : True := trivial
          by_cases k1 : ka = 1
          · subst k1
            have HTS : (⟨l.toArray⟩ : ByteArray).size ≤ ta.size + 1000 := by rw [text_size]; omega
            have hcv : ∀ o, (convert 39 9 (.slice p l.length vcap)).run Tryd.prog (V.alloc o) = .ok (.string ⟨l.toArray⟩) (V.alloc o) := fun o => conv_bytes _ 0 _ l (hK.below ((Below.refl _ _).alloc (Nat.le_refl _) o)).row
            by_cases hl0 : 0 < l.length
            · have q3 : (0 : Int) < l.length := by omega
              have hok := hF.okB ha ⟨l.toArray⟩ HTS HK3 HVD.out.1 HVD.out.2
              have hsw : (s.step 1 ⟨l.toArray⟩ na).wait = 0 := by rw [step_wait, hwt]; rw [if_pos rfl, if_neg (by rw [text_size]; omega)]
              have KD : Hid (∀ W, Below V.heap.size V W → Calls Tryd.prog 20 #[.pointer (some ⟨g, 0, none⟩), .agg #[.int .i64 1, .bool oa, .string ⟨l.toArray⟩, .int .i64 na]] W fun e W' => e = .returned (.tuple #[]) ∧ Hid (Bx w g (.slice p l.length vcap) l acts (k + 1) (0) W')) := fun W hW =>
                ((hK.below hW).does 1 oa ⟨l.toArray⟩ na hok.1).mono fun _ _ ⟨h1, h2⟩ => ⟨h1, ⟨_, hsw, h2, hB.step 1 ⟨l.toArray⟩ na l HPN.out (by intro h; first | rfl | (exfalso; omega)), hok.2⟩⟩
              clear hK hB hF hok hsw ha HTS HX3
              go_wp2_with fail
              refine (KD.out _ ((Below.refl _ V).alloc (Nat.le_refl _) _)).mono ?_
              rintro e w5 ⟨rfl, H5⟩
              clear KD
              go_wp2_with fail
              exact ⟨⟨k + 1, 0, hlt.1, hlt.2, by first | rfl | go_num, by go_num, H5.out⟩, by simp [intOf]; omega⟩
            · have q3 : ¬ ((0 : Int) < l.length) := by omega
              have hok := hF.okB ha ⟨l.toArray⟩ HTS HK3 HVD.out.1 HVD.out.2
              have hsw : (s.step 1 ⟨l.toArray⟩ na).wait = wt := by rw [step_wait, hwt]; rw [if_pos rfl, if_pos (by rw [text_size]; omega)]
              have KD : Hid (∀ W, Below V.heap.size V W → Calls Tryd.prog 20 #[.pointer (some ⟨g, 0, none⟩), .agg #[.int .i64 1, .bool oa, .string ⟨l.toArray⟩, .int .i64 na]] W fun e W' => e = .returned (.tuple #[]) ∧ Hid (Bx w g (.slice p l.length vcap) l acts (k + 1) (wt) W')) := fun W hW =>
                ((hK.below hW).does 1 oa ⟨l.toArray⟩ na hok.1).mono fun _ _ ⟨h1, h2⟩ => ⟨h1, ⟨_, hsw, h2, hB.step 1 ⟨l.toArray⟩ na l HPN.out (by intro h; first | rfl | (exfalso; omega)), hok.2⟩⟩
              clear hK hB hF hok hsw ha HTS HX3
              go_wp2_with fail
              refine (KD.out _ ((Below.refl _ V).alloc (Nat.le_refl _) _)).mono ?_
              rintro e w5 ⟨rfl, H5⟩
              clear KD
              go_wp2_with fail
              exact ⟨⟨k + 1, wt, hlt.1, hlt.2, by first | rfl | go_num, by go_num, H5.out⟩, by simp [intOf]; omega⟩
          have HTS : ta.size ≤ ta.size + 1000 := by omega
          have e1 : (ka == 1) = false := by simp; exact k1
          by_cases k2 : ka = 2
          · subst k2
            by_cases n0 : 0 ≤ na
            · by_cases n1 : na ≤ 1048576
              · obtain ⟨m, rfl⟩ : ∃ m : Nat, na = m := ⟨na.toNat, by omega⟩
                have hok := hF.okB ha ta HTS HK3 HVD.out.1 HVD.out.2
                have hsw : (s.step 2 ta (m : Int)).wait = wt + m := by rw [step_wait, hwt]; rw [if_neg (by omega), if_pos rfl, if_pos ⟨n0, n1⟩]; rfl
                have KD : Hid (∀ W, Below V.heap.size V W → Calls Tryd.prog 20 #[.pointer (some ⟨g, 0, none⟩), .agg #[.int .i64 2, .bool oa, .string ta, .int .i64 (m : Int)]] W fun e W' => e = .returned (.tuple #[]) ∧ Hid (Bx w g (.slice p l.length vcap) l acts (k + 1) (wt + m) W')) := fun W hW =>
                  ((hK.below hW).does 2 oa ta (m : Int) hok.1).mono fun _ _ ⟨h1, h2⟩ => ⟨h1, ⟨_, hsw, h2, hB.step 2 ta (m : Int) l HPN.out (by intro h; first | rfl | (exfalso; omega)), hok.2⟩⟩
                clear hK hB hF hok hsw ha HTS HX3
                go_wp2_with fail
                refine (KD.out _ ((Below.refl _ V).alloc (Nat.le_refl _) _)).mono ?_
                rintro e w5 ⟨rfl, H5⟩
                clear KD
                go_wp2_with fail
                exact ⟨⟨k + 1, wt + m, hlt.1, hlt.2, by first | rfl | go_num, by go_num, H5.out⟩, by simp [intOf]; omega⟩
              · have e2 : decide (na ≤ 1048576) = false := by simp; omega
                have hok := hF.okB ha ta HTS HK3 HVD.out.1 HVD.out.2
                have hsw : (s.step 2 ta na).wait = wt := by rw [step_wait, hwt]; rw [if_neg (by omega), if_pos rfl, if_neg (fun h => n1 h.2)]
                have KD : Hid (∀ W, Below V.heap.size V W → Calls Tryd.prog 20 #[.pointer (some ⟨g, 0, none⟩), .agg #[.int .i64 2, .bool oa, .string ta, .int .i64 na]] W fun e W' => e = .returned (.tuple #[]) ∧ Hid (Bx w g (.slice p l.length vcap) l acts (k + 1) (wt) W')) := fun W hW =>
                  ((hK.below hW).does 2 oa ta na hok.1).mono fun _ _ ⟨h1, h2⟩ => ⟨h1, ⟨_, hsw, h2, hB.step 2 ta na l HPN.out (by intro h; first | rfl | (exfalso; omega)), hok.2⟩⟩
                clear hK hB hF hok hsw ha HTS HX3
                go_wp2_with fail
                refine (KD.out _ ((Below.refl _ V).alloc (Nat.le_refl _) _)).mono ?_
                rintro e w5 ⟨rfl, H5⟩
                clear KD
                go_wp2_with fail
                exact ⟨⟨k + 1, wt, hlt.1, hlt.2, by first | rfl | go_num, by go_num, H5.out⟩, by simp [intOf]; omega⟩
            · have e2 : decide (0 ≤ na) = false := by simp; omega
              have hok := hF.okB ha ta HTS HK3 HVD.out.1 HVD.out.2
              have hsw : (s.step 2 ta na).wait = wt := by rw [step_wait, hwt]; rw [if_neg (by omega), if_pos rfl, if_neg (fun h => n0 h.1)]
              have KD : Hid (∀ W, Below V.heap.size V W → Calls Tryd.prog 20 #[.pointer (some ⟨g, 0, none⟩), .agg #[.int .i64 2, .bool oa, .string ta, .int .i64 na]] W fun e W' => e = .returned (.tuple #[]) ∧ Hid (Bx w g (.slice p l.length vcap) l acts (k + 1) (wt) W')) := fun W hW =>
                ((hK.below hW).does 2 oa ta na hok.1).mono fun _ _ ⟨h1, h2⟩ => ⟨h1, ⟨_, hsw, h2, hB.step 2 ta na l HPN.out (by intro h; first | rfl | (exfalso; omega)), hok.2⟩⟩
              clear hK hB hF hok hsw ha HTS HX3
              go_wp2_with fail
              refine (KD.out _ ((Below.refl _ V).alloc (Nat.le_refl _) _)).mono ?_
              rintro e w5 ⟨rfl, H5⟩
              clear KD
              go_wp2_with fail
              exact ⟨⟨k + 1, wt, hlt.1, hlt.2, by first | rfl | go_num, by go_num, H5.out⟩, by simp [intOf]; omega⟩
          have e2 : (ka == 2) = false := by simp; exact k2
          by_cases k3 : ka = 3
          · subst k3
            by_cases n0 : 0 ≤ na
            · by_cases n1 : na ≤ 1048576
              · skip
                have hok := hF.okB ha ta HTS HK3 HVD.out.1 HVD.out.2
                have hsw : (s.step 3 ta na).wait = 0 := by rw [step_wait, hwt]; rw [if_neg (by omega), if_neg (by omega), if_pos rfl, if_pos ⟨n0, n1⟩]
                have KD : Hid (∀ W, Below V.heap.size V W → Calls Tryd.prog 20 #[.pointer (some ⟨g, 0, none⟩), .agg #[.int .i64 3, .bool oa, .string ta, .int .i64 na]] W fun e W' => e = .returned (.tuple #[]) ∧ Hid (Bx w g (.slice p l.length vcap) l acts (k + 1) (0) W')) := fun W hW =>
                  ((hK.below hW).does 3 oa ta na hok.1).mono fun _ _ ⟨h1, h2⟩ => ⟨h1, ⟨_, hsw, h2, hB.step 3 ta na l HPN.out (by intro h; first | rfl | (exfalso; omega)), hok.2⟩⟩
                clear hK hB hF hok hsw ha HTS HX3
                go_wp2_with fail
                refine (KD.out _ ((Below.refl _ V).alloc (Nat.le_refl _) _)).mono ?_
                rintro e w5 ⟨rfl, H5⟩
                clear KD
                go_wp2_with fail
                exact ⟨⟨k + 1, 0, hlt.1, hlt.2, by first | rfl | go_num, by go_num, H5.out⟩, by simp [intOf]; omega⟩
              · skip
                have hok := hF.okB ha ta HTS HK3 HVD.out.1 HVD.out.2
                have hsw : (s.step 3 ta na).wait = wt := by rw [step_wait, hwt]; rw [if_neg (by omega), if_neg (by omega), if_pos rfl, if_neg (fun h => n1 h.2)]
                have KD : Hid (∀ W, Below V.heap.size V W → Calls Tryd.prog 20 #[.pointer (some ⟨g, 0, none⟩), .agg #[.int .i64 3, .bool oa, .string ta, .int .i64 na]] W fun e W' => e = .returned (.tuple #[]) ∧ Hid (Bx w g (.slice p l.length vcap) l acts (k + 1) (wt) W')) := fun W hW =>
                  ((hK.below hW).does 3 oa ta na hok.1).mono fun _ _ ⟨h1, h2⟩ => ⟨h1, ⟨_, hsw, h2, hB.step 3 ta na l HPN.out (by intro h; first | rfl | (exfalso; omega)), hok.2⟩⟩
                clear hK hB hF hok hsw ha HTS HX3
                go_wp2_with fail
                refine (KD.out _ ((Below.refl _ V).alloc (Nat.le_refl _) _)).mono ?_
                rintro e w5 ⟨rfl, H5⟩
                clear KD
                go_wp2_with fail
                exact ⟨⟨k + 1, wt, hlt.1, hlt.2, by first | rfl | go_num, by go_num, H5.out⟩, by simp [intOf]; omega⟩
            · skip
              have hok := hF.okB ha ta HTS HK3 HVD.out.1 HVD.out.2
              have hsw : (s.step 3 ta na).wait = wt := by rw [step_wait, hwt]; rw [if_neg (by omega), if_neg (by omega), if_pos rfl, if_neg (fun h => n0 h.1)]
              have KD : Hid (∀ W, Below V.heap.size V W → Calls Tryd.prog 20 #[.pointer (some ⟨g, 0, none⟩), .agg #[.int .i64 3, .bool oa, .string ta, .int .i64 na]] W fun e W' => e = .returned (.tuple #[]) ∧ Hid (Bx w g (.slice p l.length vcap) l acts (k + 1) (wt) W')) := fun W hW =>
                ((hK.below hW).does 3 oa ta na hok.1).mono fun _ _ ⟨h1, h2⟩ => ⟨h1, ⟨_, hsw, h2, hB.step 3 ta na l HPN.out (by intro h; first | rfl | (exfalso; omega)), hok.2⟩⟩
              clear hK hB hF hok hsw ha HTS HX3
              go_wp2_with fail
              refine (KD.out _ ((Below.refl _ V).alloc (Nat.le_refl _) _)).mono ?_
              rintro e w5 ⟨rfl, H5⟩
              clear KD
              go_wp2_with fail
              exact ⟨⟨k + 1, wt, hlt.1, hlt.2, by first | rfl | go_num, by go_num, H5.out⟩, by simp [intOf]; omega⟩
          have e3 : (ka == 3) = false := by simp; exact k3
          by_cases k4 : ka = 4
          · subst k4
            have KF : Hid (∀ W, Below V.heap.size V W → Calls Tryd.prog 12 #[.pointer (some ⟨g, 0, none⟩)] W fun e W' => e = .returned (.bool s.fresh) ∧ W = W') := fun W hW => (hK.below hW).fresh
            cases hfr : s.fresh
            · rw [hfr] at KF
              have hok := hF.okB ha ta HTS HK3 HVD.out.1 HVD.out.2
              have hsw : (s.step 4 ta na).wait = wt := by rw [step_wait, hwt]; rw [if_neg (by omega), if_neg (by omega), if_neg (by omega), if_pos rfl, hfr]; rfl
              have KD : Hid (∀ W, Below V.heap.size V W → Calls Tryd.prog 20 #[.pointer (some ⟨g, 0, none⟩), .agg #[.int .i64 4, .bool oa, .string ta, .int .i64 na]] W fun e W' => e = .returned (.tuple #[]) ∧ Hid (Bx w g (.slice p l.length vcap) l acts (k + 1) (wt) W')) := fun W hW =>
                ((hK.below hW).does 4 oa ta na hok.1).mono fun _ _ ⟨h1, h2⟩ => ⟨h1, ⟨_, hsw, h2, hB.step 4 ta na l HPN.out (by intro h; first | rfl | (exfalso; omega)), hok.2⟩⟩
              clear hfr
              clear hK hB hF hok hsw ha HTS HX3
              go_wp2_with fail
              refine (KF.out _ ((Below.refl _ V).alloc (Nat.le_refl _) _)).mono ?_
              rintro e w4 ⟨rfl, rfl⟩
              clear KF
              go_wp2_with fail
              refine (KD.out _ ((Below.refl _ V).alloc (Nat.le_refl _) _)).mono ?_
              rintro e w5 ⟨rfl, H5⟩
              clear KD
              go_wp2_with fail
              exact ⟨⟨k + 1, wt, hlt.1, hlt.2, by first | rfl | go_num, by go_num, H5.out⟩, by simp [intOf]; omega⟩
            · rw [hfr] at KF
              have hok := hF.okB ha ta HTS HK3 HVD.out.1 HVD.out.2
              have hsw : (s.step 4 ta na).wait = 0 := by rw [step_wait, hwt]; rw [if_neg (by omega), if_neg (by omega), if_neg (by omega), if_pos rfl, hfr]; rfl
              have KD : Hid (∀ W, Below V.heap.size V W → Calls Tryd.prog 20 #[.pointer (some ⟨g, 0, none⟩), .agg #[.int .i64 4, .bool oa, .string ta, .int .i64 na]] W fun e W' => e = .returned (.tuple #[]) ∧ Hid (Bx w g (.slice p l.length vcap) l acts (k + 1) (0) W')) := fun W hW =>
                ((hK.below hW).does 4 oa ta na hok.1).mono fun _ _ ⟨h1, h2⟩ => ⟨h1, ⟨_, hsw, h2, hB.step 4 ta na l HPN.out (by intro h; first | rfl | (exfalso; omega)), hok.2⟩⟩
              clear hfr
              clear hK hB hF hok hsw ha HTS HX3
              go_wp2_with fail
              refine (KF.out _ ((Below.refl _ V).alloc (Nat.le_refl _) _)).mono ?_
              rintro e w4 ⟨rfl, rfl⟩
              clear KF
              go_wp2_with fail
              refine (KD.out _ ((Below.refl _ V).alloc (Nat.le_refl _) _)).mono ?_
              rintro e w5 ⟨rfl, H5⟩
              clear KD
              go_wp2_with fail
              exact ⟨⟨k + 1, 0, hlt.1, hlt.2, by first | rfl | go_num, by go_num, H5.out⟩, by simp [intOf]; omega⟩
          have e4 : (ka == 4) = false := by simp; exact k4
          have hok := hF.okB ha ta HTS HK3 HVD.out.1 HVD.out.2
          have hsw : (s.step ka ta na).wait = wt := by rw [step_wait, hwt]; rw [if_neg k1, if_neg k2, if_neg k3, if_neg k4]
          have KD : Hid (∀ W, Below V.heap.size V W → Calls Tryd.prog 20 #[.pointer (some ⟨g, 0, none⟩), .agg #[.int .i64 ka, .bool oa, .string ta, .int .i64 na]] W fun e W' => e = .returned (.tuple #[]) ∧ Hid (Bx w g (.slice p l.length vcap) l acts (k + 1) (wt) W')) := fun W hW =>
            ((hK.below hW).does ka oa ta na hok.1).mono fun _ _ ⟨h1, h2⟩ => ⟨h1, ⟨_, hsw, h2, hB.step ka ta na l HPN.out (by intro h; first | rfl | (exfalso; omega)), hok.2⟩⟩
          clear hK hB hF hok hsw ha HTS HX3
          go_wp2_with fail
          refine (KD.out _ ((Below.refl _ V).alloc (Nat.le_refl _) _)).mono ?_
          rintro e w5 ⟨rfl, H5⟩
          clear KD
          go_wp2_with fail
          exact ⟨⟨k + 1, wt, hlt.1, hlt.2, by first | rfl | go_num, by go_num, H5.out⟩, by simp [intOf]; omega⟩
        · by_cases h1 : k < acts.length
          · have q1 : (k : Int) < acts.length := by omega
            have q2 : ¬ ((k : Int) < 3000) := by omega
            go_wp2_with fail
            refine hK.fresh.mono ?_
            rintro e wa ⟨rfl, rfl⟩
            go_wp2_with fail
            have hC := hK.col (by omega) (by omega)
            refine hC.mono ?_
            rintro e w6 ⟨rfl, hK6⟩
            clear hC
            have hTk := hK6.take (by omega)
            clear hK hK6
            go_wp2_with fail
            refine hTk.mono ?_
            rintro e w7 ⟨rfl, hK7⟩
            clear hTk
            have HBT : Hid (Below w.heap.size w w7 ∧ Tab w7) := ⟨hK7.bel, hK7.tab⟩
            have hLk := hB.look
            have hTS : (⟨s.out.toArray⟩ : ByteArray).size ≤ 268435456 := by rw [text_size]; omega
            obtain ⟨sf, sc, sw, so⟩ := s
            simp only at hwt hsm hLk hTS ⊢
            subst hwt
            obtain ⟨fr, hfr⟩ : ∃ fr : Nat → Nat, (fun j => j - (seg (so.take j)).length) = fr := ⟨_, rfl⟩
            rw [hfr] at hLk
            obtain ⟨T, hT⟩ : ∃ T : ByteArray, (⟨so.toArray⟩ : ByteArray) = T := ⟨_, rfl⟩
            rw [hT] at hLk hTS
            simp only [hT]
            have HLK : Hid (Lk ⟨sf, sc, sw, so⟩ T fr) := hLk
            have hsm' : sc ≤ 268435456 ∧ sw ≤ 268435456 := ⟨hsm.2.1, hsm.2.2⟩
            clear hLk hT hfr hK7 hB hF hsm
            go_wp2_with fail
            go_loopw [14, 15] (fun x i W => ∃ j : Nat, j ≤ T.size ∧ x = .int .i64 (fr j) ∧ i = .int .i64 j ∧ W = w7) (fun _ i _ => T.size - (intOf i).toNat)
            case atStart => exact ⟨0, by omega, by rw [HLK.out.f0]; rfl, rfl, rfl⟩
            case round =>
              obtain ⟨j, hj, rfl, rfl, hW⟩ := hrel
              have hW' := hW.symm
              subst hW'
              clear hW
              have hle := HLK.out.le j
              by_cases hjl : j < T.size
              · have z1 : (j : Int) < T.size := by omega
                by_cases h10 : ((T[j]'hjl).toNat : Int) = 10
                · have HH : Hid (fr (j + 1) = j + 1) := HLK.out.hit j hjl h10
                  have z2 : (((T[j]'hjl).toNat : Int) == 10) = true := by rw [h10]; rfl
                  rcases j with _ | j
                  · go_wp2_with fail
                    exact ⟨⟨1, hjl, by rw [HH.out]; rfl, by go_num, by simp⟩, by simp [intOf]; omega⟩
                  · have hp := HLK.out.prev j hjl h10
                    have z3 : (((T[j]'(by omega)).toNat : Int) == 32) = false := by simp; omega
                    have z4 : (0 : Int) < ((j + 1 : Nat) : Int) := by omega
                    have z5 : ((j + 1 : Nat) : Int) - 1 = (j : Int) := by omega
                    have z6 : (j : Int) < T.size := by omega
                    have z7 : j < T.size := by omega
                    clear h10 hp
                    go_wp2_with fail
                    exact ⟨⟨j + 1 + 1, hjl, by rw [HH.out]; go_num, by go_num, by simp⟩, by simp [intOf]; omega⟩
                · have HH : Hid (fr (j + 1) = fr j) := HLK.out.miss j hjl h10
                  have z2 : (((T[j]'hjl).toNat : Int) == 10) = false := by simp; omega
                  clear h10
                  go_wp2_with fail
                  exact ⟨⟨j + 1, hjl, by rw [HH.out], by go_num, by simp⟩, by simp [intOf]; omega⟩
              · obtain rfl : j = T.size := by omega
                have z1 : ¬ ((T.size : Int) < T.size) := by omega
                by_cases hz : 0 < T.size
                · have z2 : (0 : Int) < T.size := by omega
                  have hla := HLK.out.last (T.size - 1) (by omega) (by omega)
                  have z3 : (((T[T.size - 1]'(by omega)).toNat : Int) == 32) = false := by simp; omega
                  clear hla
                  cases sf
                  · have HFR := HLK.out.col rfl
                    have KW : Hid (Calls Tryd.prog 21 #[.string (T.extract (fr T.size) T.size)] w7 fun e W' => e = .returned (.int .i64 sc) ∧ Below w7.heap.size w7 W') := by
                      have := wtext_any (T.extract (fr T.size) T.size) w7 HBT.out.2 (by rw [ByteArray.size_extract]; omega)
                      rw [HFR] at this; exact this
                    have z8 : (fr T.size : Int) ≤ T.size := by omega
                    have z9 : ((sc : Int) == (sc : Int)) = true := by simp
                    clear HFR
                    go_wp2_with fail
                    refine KW.out.mono ?_
                    rintro e w8 ⟨rfl, hb8⟩
                    have HB8 : Hid (Below w.heap.size w w8 ∧ Tab w8) := ⟨HBT.out.1.trans (hb8.mono HBT.out.1.size), HBT.out.2.below hb8⟩
                    clear hb8 KW
                    go_wp2_with fail
                    refine (awake_any w8 HB8.out.2).mono ?_
                    rintro e w9 ⟨rfl, hb9⟩
                    have HB9 : Hid (Below w.heap.size w w9) := HB8.out.1.trans (hb9.mono HB8.out.1.size)
                    clear hb9 HB8
                    go_wp2_with fail
                    go_ret
                    exact ⟨rfl, HB9.out⟩
                  · have hff := HLK.out.fin rfl
                    rw [hff]
                    have z9 : ((T.size : Int) == (T.size : Int)) = true := by simp
                    go_wp2_with fail
                    refine (awake_any w7 HBT.out.2).mono ?_
                    rintro e w9 ⟨rfl, hb9⟩
                    have HB9 : Hid (Below w.heap.size w w9) := HBT.out.1.trans (hb9.mono HBT.out.1.size)
                    clear hb9
                    go_wp2_with fail
                    go_ret
                    exact ⟨rfl, HB9.out⟩
                · have z2 : ¬ ((0 : Int) < T.size) := by omega
                  cases sf
                  · have HFR := HLK.out.col rfl
                    have KW : Hid (Calls Tryd.prog 21 #[.string (T.extract (fr T.size) T.size)] w7 fun e W' => e = .returned (.int .i64 sc) ∧ Below w7.heap.size w7 W') := by
                      have := wtext_any (T.extract (fr T.size) T.size) w7 HBT.out.2 (by rw [ByteArray.size_extract]; omega)
                      rw [HFR] at this; exact this
                    have z8 : (fr T.size : Int) ≤ T.size := by omega
                    have z9 : ((sc : Int) == (sc : Int)) = true := by simp
                    clear HFR
                    go_wp2_with fail
                    refine KW.out.mono ?_
                    rintro e w8 ⟨rfl, hb8⟩
                    have HB8 : Hid (Below w.heap.size w w8 ∧ Tab w8) := ⟨HBT.out.1.trans (hb8.mono HBT.out.1.size), HBT.out.2.below hb8⟩
                    clear hb8 KW
                    go_wp2_with fail
                    refine (awake_any w8 HB8.out.2).mono ?_
                    rintro e w9 ⟨rfl, hb9⟩
                    have HB9 : Hid (Below w.heap.size w w9) := HB8.out.1.trans (hb9.mono HB8.out.1.size)
                    clear hb9 HB8
                    go_wp2_with fail
                    go_ret
                    exact ⟨rfl, HB9.out⟩
                  · have hff := HLK.out.fin rfl
                    rw [hff]
                    have z9 : ((T.size : Int) == (T.size : Int)) = true := by simp
                    go_wp2_with fail
                    refine (awake_any w7 HBT.out.2).mono ?_
                    rintro e w9 ⟨rfl, hb9⟩
                    have HB9 : Hid (Below w.heap.size w w9) := HBT.out.1.trans (hb9.mono HBT.out.1.size)
                    clear hb9
                    go_wp2_with fail
                    go_ret
                    exact ⟨rfl, HB9.out⟩
          · have q1 : ¬ ((k : Int) < acts.length) := by omega
            go_wp2_with fail
            refine hK.fresh.mono ?_
            rintro e wa ⟨rfl, rfl⟩
            go_wp2_with fail
            have hC := hK.col (by omega) (by omega)
            refine hC.mono ?_
            rintro e w6 ⟨rfl, hK6⟩
            clear hC
            have hTk := hK6.take (by omega)
            clear hK hK6
            go_wp2_with fail
            refine hTk.mono ?_
            rintro e w7 ⟨rfl, hK7⟩
            clear hTk
            have HBT : Hid (Below w.heap.size w w7 ∧ Tab w7) := ⟨hK7.bel, hK7.tab⟩
            have hLk := hB.look
            have hTS : (⟨s.out.toArray⟩ : ByteArray).size ≤ 268435456 := by rw [text_size]; omega
            obtain ⟨sf, sc, sw, so⟩ := s
            simp only at hwt hsm hLk hTS ⊢
            subst hwt
            obtain ⟨fr, hfr⟩ : ∃ fr : Nat → Nat, (fun j => j - (seg (so.take j)).length) = fr := ⟨_, rfl⟩
            rw [hfr] at hLk
            obtain ⟨T, hT⟩ : ∃ T : ByteArray, (⟨so.toArray⟩ : ByteArray) = T := ⟨_, rfl⟩
            rw [hT] at hLk hTS
            simp only [hT]
            have HLK : Hid (Lk ⟨sf, sc, sw, so⟩ T fr) := hLk
            have hsm' : sc ≤ 268435456 ∧ sw ≤ 268435456 := ⟨hsm.2.1, hsm.2.2⟩
            clear hLk hT hfr hK7 hB hF hsm
            go_wp2_with fail
            go_loopw [14, 15] (fun x i W => ∃ j : Nat, j ≤ T.size ∧ x = .int .i64 (fr j) ∧ i = .int .i64 j ∧ W = w7) (fun _ i _ => T.size - (intOf i).toNat)
            case atStart => exact ⟨0, by omega, by rw [HLK.out.f0]; rfl, rfl, rfl⟩
            case round =>
              obtain ⟨j, hj, rfl, rfl, hW⟩ := hrel
              have hW' := hW.symm
              subst hW'
              clear hW
              have hle := HLK.out.le j
              by_cases hjl : j < T.size
              · have z1 : (j : Int) < T.size := by omega
                by_cases h10 : ((T[j]'hjl).toNat : Int) = 10
                · have HH : Hid (fr (j + 1) = j + 1) := HLK.out.hit j hjl h10
                  have z2 : (((T[j]'hjl).toNat : Int) == 10) = true := by rw [h10]; rfl
                  rcases j with _ | j
                  · go_wp2_with fail
                    exact ⟨⟨1, hjl, by rw [HH.out]; rfl, by go_num, by simp⟩, by simp [intOf]; omega⟩
                  · have hp := HLK.out.prev j hjl h10
                    have z3 : (((T[j]'(by omega)).toNat : Int) == 32) = false := by simp; omega
                    have z4 : (0 : Int) < ((j + 1 : Nat) : Int) := by omega
                    have z5 : ((j + 1 : Nat) : Int) - 1 = (j : Int) := by omega
                    have z6 : (j : Int) < T.size := by omega
                    have z7 : j < T.size := by omega
                    clear h10 hp
                    go_wp2_with fail
                    exact ⟨⟨j + 1 + 1, hjl, by rw [HH.out]; go_num, by go_num, by simp⟩, by simp [intOf]; omega⟩
                · have HH : Hid (fr (j + 1) = fr j) := HLK.out.miss j hjl h10
                  have z2 : (((T[j]'hjl).toNat : Int) == 10) = false := by simp; omega
                  clear h10
                  go_wp2_with fail
                  exact ⟨⟨j + 1, hjl, by rw [HH.out], by go_num, by simp⟩, by simp [intOf]; omega⟩
              · obtain rfl : j = T.size := by omega
                have z1 : ¬ ((T.size : Int) < T.size) := by omega
                by_cases hz : 0 < T.size
                · have z2 : (0 : Int) < T.size := by omega
                  have hla := HLK.out.last (T.size - 1) (by omega) (by omega)
                  have z3 : (((T[T.size - 1]'(by omega)).toNat : Int) == 32) = false := by simp; omega
                  clear hla
                  cases sf
                  · have HFR := HLK.out.col rfl
                    have KW : Hid (Calls Tryd.prog 21 #[.string (T.extract (fr T.size) T.size)] w7 fun e W' => e = .returned (.int .i64 sc) ∧ Below w7.heap.size w7 W') := by
                      have := wtext_any (T.extract (fr T.size) T.size) w7 HBT.out.2 (by rw [ByteArray.size_extract]; omega)
                      rw [HFR] at this; exact this
                    have z8 : (fr T.size : Int) ≤ T.size := by omega
                    have z9 : ((sc : Int) == (sc : Int)) = true := by simp
                    clear HFR
                    go_wp2_with fail
                    refine KW.out.mono ?_
                    rintro e w8 ⟨rfl, hb8⟩
                    have HB8 : Hid (Below w.heap.size w w8 ∧ Tab w8) := ⟨HBT.out.1.trans (hb8.mono HBT.out.1.size), HBT.out.2.below hb8⟩
                    clear hb8 KW
                    go_wp2_with fail
                    refine (awake_any w8 HB8.out.2).mono ?_
                    rintro e w9 ⟨rfl, hb9⟩
                    have HB9 : Hid (Below w.heap.size w w9) := HB8.out.1.trans (hb9.mono HB8.out.1.size)
                    clear hb9 HB8
                    go_wp2_with fail
                    go_ret
                    exact ⟨rfl, HB9.out⟩
                  · have hff := HLK.out.fin rfl
                    rw [hff]
                    have z9 : ((T.size : Int) == (T.size : Int)) = true := by simp
                    go_wp2_with fail
                    refine (awake_any w7 HBT.out.2).mono ?_
                    rintro e w9 ⟨rfl, hb9⟩
                    have HB9 : Hid (Below w.heap.size w w9) := HBT.out.1.trans (hb9.mono HBT.out.1.size)
                    clear hb9
                    go_wp2_with fail
                    go_ret
                    exact ⟨rfl, HB9.out⟩
                · have z2 : ¬ ((0 : Int) < T.size) := by omega
                  cases sf
                  · have HFR := HLK.out.col rfl
                    have KW : Hid (Calls Tryd.prog 21 #[.string (T.extract (fr T.size) T.size)] w7 fun e W' => e = .returned (.int .i64 sc) ∧ Below w7.heap.size w7 W') := by
                      have := wtext_any (T.extract (fr T.size) T.size) w7 HBT.out.2 (by rw [ByteArray.size_extract]; omega)
                      rw [HFR] at this; exact this
                    have z8 : (fr T.size : Int) ≤ T.size := by omega
                    have z9 : ((sc : Int) == (sc : Int)) = true := by simp
                    clear HFR
                    go_wp2_with fail
                    refine KW.out.mono ?_
                    rintro e w8 ⟨rfl, hb8⟩
                    have HB8 : Hid (Below w.heap.size w w8 ∧ Tab w8) := ⟨HBT.out.1.trans (hb8.mono HBT.out.1.size), HBT.out.2.below hb8⟩
                    clear hb8 KW
                    go_wp2_with fail
                    refine (awake_any w8 HB8.out.2).mono ?_
                    rintro e w9 ⟨rfl, hb9⟩
                    have HB9 : Hid (Below w.heap.size w w9) := HB8.out.1.trans (hb9.mono HB8.out.1.size)
                    clear hb9 HB8
                    go_wp2_with fail
                    go_ret
                    exact ⟨rfl, HB9.out⟩
                  · have hff := HLK.out.fin rfl
                    rw [hff]
                    have z9 : ((T.size : Int) == (T.size : Int)) = true := by simp
                    go_wp2_with fail
                    refine (awake_any w7 HBT.out.2).mono ?_
                    rintro e w9 ⟨rfl, hb9⟩
                    have HB9 : Hid (Below w.heap.size w w9) := HBT.out.1.trans (hb9.mono HBT.out.1.size)
                    clear hb9
                    go_wp2_with fail
                    go_ret
                    exact ⟨rfl, HB9.out⟩
end Go.Proofs.YtkmmcpkakpglkaaDoor
