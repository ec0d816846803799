import Derived.Test.YtkmmcpkakpglkaaDoorSy
import Derived.Deep.RegionHeld3
set_option linter.unusedVariables false
set_option linter.unusedSimpArgs false
namespace Go.Proofs.YtkmmcpkakpglkaaDoor
open Go.RowKit
open Go.Lib (strCells strCells_length)

theorem Jx.start {w w1 w2 : World} {o1 o2 : Nat → Nat} {g1 g2 : Nat} (f1 : Fr 1 (fun _ => 0) o1 w w1) (s1 : SK o1 1 w1 g1 st0) (f2 : Fr 2 o1 o2 w1 w2) (s2 : SK o2 2 w2 g2 st0) (e2 : En o2 w2) : Jx w g1 g2 (.slice none 0 0) w2 st0 st0 [] :=
  ⟨o2, e2, (FrS.of f1 (by omega)).trans (FrS.of f2 (by omega)), s1.kept f2 (by omega), s2, World.ownsRow_nil _ _ _ _, fun k h => by cases h⟩

/-- The loop's state: what s holds back, and what was taken. -/
def Tx (w : World) (g1 g2 : Nat) (acts : List Act6) (k : Nat) (v : Value) (W : World) : Prop := ∃ f c wt r l, Jx w g1 g2 v W ⟨f, c, wt, r⟩ ⟨f, c, wt, l ++ r⟩ l ∧ Fit ⟨f, c, wt, l ++ r⟩ (Vk acts k) (dsum acts k)

theorem Fit.part {f : Bool} {c wt : Nat} {r l : List UInt8} {V D : Nat} (h : Fit ⟨f, c, wt, l ++ r⟩ V D) : Fit ⟨f, c, wt, r⟩ V D := by
  have ho := h.o
  have hc := h.c
  have hf := h.f
  simp only [List.length_append] at ho hc
  exact ⟨by show r.length + wt + (if f then c else 0) ≤ _; omega, hc, hf⟩

set_option maxRecDepth 100000 in
set_option maxHeartbeats 2000000 in
theorem sinkTakes_any (ao : Option Addr) (acts : List Act6) (cap : Nat) (bo : Option Addr) (bs : List Bool) (bcap : Nat) (w : World) (hs : Scr w ao acts) (hl : acts.length ≤ 9223372036854775807) (hw : Whn w bo bs) (hbl : bs.length ≤ 9223372036854775807) (hT : Tab w) :
    Calls Tryd.prog 5 #[.slice ao acts.length cap, .slice bo bs.length bcap] w fun e w' => e = .returned (.bool true) ∧ Below w.heap.size w w' := by
  obtain ⟨i0, hi, hz0, hz1, hz2⟩ := info_parts Tryd.info5
  have HV := vast_any ao acts cap w hs hl
  have HD := deep_any ao acts cap w hs hl
  have HSC : Hid (Scr w ao acts ∧ Whn w bo bs) := ⟨hs, hw⟩
  have HE0 : Hid (En (fun _ => 0) w) := ⟨fun _ _ => rfl, hT, rfl⟩
  clear hs hT hw
  go_enter Tryd.func5, Tryd.ntmps5
  go_wp2_with fail
  refine HV.mono ?_
  rintro e w' ⟨r, rfl, hr, hw⟩
  have hw' := hw.symm
  subst hw'
  clear hw HV
  cases r
  rotate_left
  · go_wp2_with fail
    go_ret
    exact ⟨rfl, Below.refl _ _⟩
  have hv := hr rfl
  clear hr
  go_wp2_with fail
  refine HD.mono ?_
  rintro e w' ⟨r, rfl, hr, hw⟩
  have hw' := hw.symm
  subst hw'
  clear hw HD
  cases r
  rotate_left
  · go_wp2_with fail
    go_ret
    exact ⟨rfl, Below.refl _ _⟩
  have hd := hr rfl
  clear hr
  by_cases hbm : 16777216 < bs.length
  · have q : (16777216 : Int) < bs.length := by omega
    go_wp2_with fail
    go_ret
    exact ⟨rfl, Below.refl _ _⟩
  have qb : ¬ ((16777216 : Int) < bs.length) := by omega
  have HVD : Hid (vsum acts acts.length ≤ 16777216 ∧ dsum acts acts.length ≤ 16777216) := ⟨hv, hd⟩
  have hlen : acts.length ≤ 16777216 := Nat.le_trans (vsum_ge acts _) hv
  clear hv hd
  go_wp2_with fail
  refine (new_st _ 1 w HE0.out (by omega)).mono ?_
  rintro e w1 ⟨rfl, o1, E1, F1, S1⟩
  have H1 : Hid (En o1 w1 ∧ Fr 1 (fun _ => 0) o1 w w1 ∧ SK o1 1 w1 w.heap.size st0) := ⟨E1, F1, S1⟩
  clear E1 F1 S1
  go_wp2_with fail
  refine (new_st _ 2 w1 H1.out.1 (by omega)).mono ?_
  rintro e w2 ⟨rfl, o2, E2, F2, S2⟩
  have HJ : Hid (Jx w w.heap.size w1.heap.size (.slice none 0 0) w2 st0 st0 []) := Jx.start H1.out.2.1 H1.out.2.2 F2 S2 E2
  clear H1 E2 F2 S2
  generalize w.heap.size = g1 at *
  generalize w1.heap.size = g2 at *
  go_wp2_with fail
  go_loopw [7, 8] (fun v i wr => ∃ k : Nat, k ≤ acts.length ∧ i = .int .i64 k ∧ Hid (Tx w g1 g2 acts k v wr)) (fun _ i _ => acts.length - (intOf i).toNat)
  case atStart => exact ⟨0, by omega, rfl, true, 0, 0, [], [], HJ.out, Fit.zero _ _⟩
  case round =>
    obtain ⟨k, hk, rfl, HR⟩ := hrel
    obtain ⟨f, c, wt, r, l, hJ, hF⟩ := HR.out
    clear HJ HR
    by_cases hlt : k < acts.length
    · obtain ⟨a, ha⟩ : ∃ a, acts[k]? = some a := ⟨acts[k], List.getElem?_eq_getElem hlt⟩
      obtain ⟨hts, b, off, rfl, c0, c1, c2, c3⟩ := HSC.out.1.below hJ.bel k a ha
      have q1 : (k : Int) < acts.length := by omega
      obtain ⟨f', c', wt', d, hst⟩ := step_out f c wt a.kind a.t a.n
      obtain ⟨hb2, hF2⟩ := hF.okD ha HVD.out.1 HVD.out.2
      have hb1 := (hF.part.okD ha HVD.out.1 HVD.out.2).1
      have hsm := hF2.small (by omega) HVD.out.1 HVD.out.2
      rw [hst] at hF2 hsm
      have HC1 := hJ.does1 a.kind a.other a.t a.n hb1
      rw [hst] at HC1
      have HC2 : Hid (∀ W, Jx w g1 g2 u7 W ⟨f', c', wt', r ++ d⟩ ⟨f, c, wt, l ++ r⟩ l → Calls Tryd.prog 20 #[.pointer (some ⟨g2, 0, none⟩), .agg #[.int .i64 a.kind, .bool a.other, .string a.t, .int .i64 a.n]] W fun e W' => e = .returned (.tuple #[]) ∧ Jx w g1 g2 u7 W' ⟨f', c', wt', r ++ d⟩ ⟨f', c', wt', (l ++ r) ++ d⟩ l) := fun W h => by
        have := h.does2 a.kind a.other a.t a.n hb2
        rw [hst] at this; exact this
      obtain ⟨vp, vcap, rfl, _, _⟩ := row_shape hJ.row
      have HC1' : Hid (Calls Tryd.prog 20 #[.pointer (some ⟨g1, 0, none⟩), .agg #[.int .i64 a.kind, .bool a.other, .string a.t, .int .i64 a.n]] wr fun e W' => e = .returned (.tuple #[]) ∧ Jx w g1 g2 (.slice vp l.length vcap) W' ⟨f', c', wt', r ++ d⟩ ⟨f, c, wt, l ++ r⟩ l) := HC1
      have HFF : Hid (Fit ⟨f', c', wt', l ++ (r ++ d)⟩ (Vk acts (k + 1)) (dsum acts (k + 1))) := by
        have := hF2; rw [List.append_assoc] at this; exact this
      have hol : l.length + (r ++ d).length ≤ 1073741824 := by
        have := hsm.1
        simp only [List.length_append] at this ⊢; omega
      have HSM : Hid (((⟨f', c', wt', (l ++ r) ++ d⟩ : St6)).out.length ≤ 1073741824) := hsm.1
      have hsm' : c' ≤ 1073741824 ∧ wt' ≤ 1073741824 := ⟨hsm.2.1, hsm.2.2⟩
      have HSCC : Hid (∀ W, Below w.heap.size w W → W.cell? ⟨b, off + k * 4, none⟩ = some (.int .i64 a.kind) ∧ W.cell? ⟨b, off + k * 4 + 1, none⟩ = some (.bool a.other) ∧ W.cell? ⟨b, off + k * 4 + 2, none⟩ = some (.string a.t) ∧ W.cell? ⟨b, off + k * 4 + 3, none⟩ = some (.int .i64 a.n)) := fun W hW => by
        obtain ⟨_, b', off', he, d0, d1, d2, d3⟩ := HSC.out.1.below hW k a ha
        injection he with he
        injection he with h1 h2
        subst h1 h2
        exact ⟨d0, d1, d2, d3⟩
      clear hJ hF hF2 hb1 hb2 hst HC1 hsm hts
      have hsm : True ∧ c' ≤ 1073741824 ∧ wt' ≤ 1073741824 := ⟨trivial, hsm'⟩
      clear hsm'
      go_wp2_with fail
      refine HC1'.out.mono ?_
      rintro e w3 ⟨rfl, hJ3⟩
      obtain ⟨d0, d1, d2, d3⟩ := HSCC.out w3 hJ3.bel
      have HJ3 : Hid (Jx w g1 g2 (.slice vp l.length vcap) w3 ⟨f', c', wt', r ++ d⟩ ⟨f, c, wt, l ++ r⟩ l) := hJ3
      clear hJ3 HC1' c0 c1 c2 c3
      go_wp2_with fail
      refine (HC2.out w3 HJ3.out).mono ?_
      rintro e w4 ⟨rfl, hJ4⟩
      have hwh := HSC.out.2.below hJ4.bel
      have HJ4 : Hid (Jx w g1 g2 (.slice vp l.length vcap) w4 ⟨f', c', wt', r ++ d⟩ ⟨f', c', wt', (l ++ r) ++ d⟩ l) := hJ4
      clear hJ4 HJ3 HC2 d0 d1 d2 d3 HSCC
      have HNA : Hid (∀ W, Jx w g1 g2 (.slice vp l.length vcap) W ⟨f', c', wt', r ++ d⟩ ⟨f', c', wt', (l ++ r) ++ d⟩ l → Tx w g1 g2 acts (k + 1) (.slice vp l.length vcap) W) := fun W h => ⟨f', c', wt', r ++ d, l, by rw [← List.append_assoc]; exact h, HFF.out⟩
      by_cases hkb : k < bs.length
      · obtain ⟨x, hx⟩ : ∃ x, bs[k]? = some x := ⟨bs[k], List.getElem?_eq_getElem hkb⟩
        obtain ⟨wb0, wo, rfl, b0⟩ := hwh k x hx
        have q2 : (k : Int) < bs.length := by omega
        clear hwh hx
        cases x
        · have HNX := HNA
          have HJA := HJ4
          clear HJ4 HNA
          go_wp2_with fail
          refine (HJA.out.col1 hsm.2.1 hsm.2.2).mono ?_
          rintro e wa ⟨rfl, hJa⟩
          have HJa : Hid (Jx w g1 g2 (.slice vp l.length vcap) wa ⟨f', c', wt', r ++ d⟩ ⟨f', c', wt', (l ++ r) ++ d⟩ l) := hJa
          clear HJA hJa
          go_wp2_with fail
          refine (HJa.out.col2 hsm.2.1 hsm.2.2).mono ?_
          rintro e wb ⟨rfl, hJb⟩
          have HJb : Hid (Jx w g1 g2 (.slice vp l.length vcap) wb ⟨f', c', wt', r ++ d⟩ ⟨f', c', wt', (l ++ r) ++ d⟩ l) := hJb
          clear HJa hJb
          have hcs := col_same ((c' : Int) + wt')
          go_wp2_with fail
          refine HJb.out.fr1.mono ?_
          rintro e wc ⟨rfl, rfl⟩
          go_wp2_with fail
          refine HJb.out.fr2.mono ?_
          rintro e wc ⟨rfl, rfl⟩
          have hfs : (f' == f') = true := by simp
          have HTX : Hid (Tx w g1 g2 acts (k + 1) (.slice vp l.length vcap) wb) := HNX.out wb HJb.out
          clear HJb HNX
          go_wp2_with fail
          exact ⟨⟨k + 1, hlt, by go_num, HTX.out⟩, by simp [intOf]; omega⟩
        · go_wp2_with fail
          refine (HJ4.out.take1 (by have := hol; simp only [List.length_append] at this ⊢; omega)).mono ?_
          rintro e w5 ⟨rfl, hJ5⟩
          have HJ5 : Hid (Jx w g1 g2 (.slice vp l.length vcap) w5 ⟨f', c', wt', []⟩ ⟨f', c', wt', (l ++ r) ++ d⟩ l) := hJ5
          clear hJ5 HJ4 HNA
          obtain ⟨rd, hrd⟩ : ∃ rd, r ++ d = rd := ⟨_, rfl⟩
          have hrs : (⟨rd.toArray⟩ : ByteArray).size = rd.length := by show rd.toArray.size = _; simp
          simp only [hrd] at hol ⊢
          go_wp2_with (first | (at_builtin; refine wpList_append_string_at (P := Tryd.prog) rfl _ _ 39 9 rfl 0 5 i0 Tryd.underlying39 Tryd.underlying9 hi hz0 hz1 hz2 _ _ _ rfl HJ5.out.row ⟨rd.toArray⟩ rfl ?c3 ?c4 (Nat.zero_le _) ?_))
          case c3 => rw [hrs]; unfold maxLen; omega
          case c4 => rw [hrs]; omega
          intro v6 w6 ho6 hg6 hat6
          have hJ6 : Jx w g1 g2 v6 w6 ⟨f', c', wt', []⟩ ⟨f', c', wt', (l ++ r) ++ d⟩ (l ++ rd) := HJ5.out.app hg6 ho6 hat6
          obtain ⟨p6, cap6, rfl, _, _⟩ := row_shape ho6
          have HJ6 : Hid (Jx w g1 g2 (.slice p6 (l.length + rd.length) cap6) w6 ⟨f', c', wt', []⟩ ⟨f', c', wt', (l ++ r) ++ d⟩ (l ++ rd)) := hJ6
          have HNX : Hid (∀ W, Jx w g1 g2 (.slice p6 (l.length + rd.length) cap6) W ⟨f', c', wt', []⟩ ⟨f', c', wt', (l ++ r) ++ d⟩ (l ++ rd) → Tx w g1 g2 acts (k + 1) (.slice p6 (l.length + rd.length) cap6) W) := fun W h => ⟨f', c', wt', [], l ++ rd, by rw [List.append_nil, ← hrd, ← List.append_assoc]; rw [← hrd, ← List.append_assoc] at h; exact h, by rw [List.append_nil, ← hrd]; exact HFF.out⟩
          clear hJ6 ho6 hg6 hat6 HJ5 hrs
          go_wp2_with fail
          have HT7 : Hid (Calls Tryd.prog 13 #[.pointer (some ⟨g1, 0, none⟩)] w6 fun e W' => e = .returned (.string ⟨#[]⟩) ∧ Jx w g1 g2 (.slice p6 (l.length + rd.length) cap6) W' ⟨f', c', wt', []⟩ ⟨f', c', wt', (l ++ r) ++ d⟩ (l ++ rd)) := HJ6.out.take1 (Nat.zero_le _)
          refine HT7.out.mono ?_
          rintro e w7 ⟨rfl, hJ7⟩
          have HJA : Hid (Jx w g1 g2 (.slice p6 (l.length + rd.length) cap6) w7 ⟨f', c', wt', []⟩ ⟨f', c', wt', (l ++ r) ++ d⟩ (l ++ rd)) := hJ7
          clear hJ7 HJ6 HT7 hrd
          go_wp2_with fail
          refine (HJA.out.col1 hsm.2.1 hsm.2.2).mono ?_
          rintro e wa ⟨rfl, hJa⟩
          have HJa : Hid (Jx w g1 g2 (.slice p6 (l.length + rd.length) cap6) wa ⟨f', c', wt', []⟩ ⟨f', c', wt', (l ++ r) ++ d⟩ (l ++ rd)) := hJa
          clear HJA hJa
          go_wp2_with fail
          refine (HJa.out.col2 hsm.2.1 hsm.2.2).mono ?_
          rintro e wb ⟨rfl, hJb⟩
          have HJb : Hid (Jx w g1 g2 (.slice p6 (l.length + rd.length) cap6) wb ⟨f', c', wt', []⟩ ⟨f', c', wt', (l ++ r) ++ d⟩ (l ++ rd)) := hJb
          clear HJa hJb
          have hcs := col_same ((c' : Int) + wt')
          go_wp2_with fail
          refine HJb.out.fr1.mono ?_
          rintro e wc ⟨rfl, rfl⟩
          go_wp2_with fail
          refine HJb.out.fr2.mono ?_
          rintro e wc ⟨rfl, rfl⟩
          have hfs : (f' == f') = true := by simp
          have HTX : Hid (Tx w g1 g2 acts (k + 1) (.slice p6 (l.length + rd.length) cap6) wb) := HNX.out wb HJb.out
          clear HJb HNX
          go_wp2_with fail
          exact ⟨⟨k + 1, hlt, by go_num, HTX.out⟩, by simp [intOf]; omega⟩
      · have q2 : ¬ ((k : Int) < bs.length) := by omega
        have HNX := HNA
        have HJA := HJ4
        clear HJ4 HNA hwh
        go_wp2_with fail
        refine (HJA.out.col1 hsm.2.1 hsm.2.2).mono ?_
        rintro e wa ⟨rfl, hJa⟩
        have HJa : Hid (Jx w g1 g2 (.slice vp l.length vcap) wa ⟨f', c', wt', r ++ d⟩ ⟨f', c', wt', (l ++ r) ++ d⟩ l) := hJa
        clear HJA hJa
        go_wp2_with fail
        refine (HJa.out.col2 hsm.2.1 hsm.2.2).mono ?_
        rintro e wb ⟨rfl, hJb⟩
        have HJb : Hid (Jx w g1 g2 (.slice vp l.length vcap) wb ⟨f', c', wt', r ++ d⟩ ⟨f', c', wt', (l ++ r) ++ d⟩ l) := hJb
        clear HJa hJb
        have hcs := col_same ((c' : Int) + wt')
        go_wp2_with fail
        refine HJb.out.fr1.mono ?_
        rintro e wc ⟨rfl, rfl⟩
        go_wp2_with fail
        refine HJb.out.fr2.mono ?_
        rintro e wc ⟨rfl, rfl⟩
        have hfs : (f' == f') = true := by simp
        have HTX : Hid (Tx w g1 g2 acts (k + 1) (.slice vp l.length vcap) wb) := HNX.out wb HJb.out
        clear HJb HNX
        go_wp2_with fail
        exact ⟨⟨k + 1, hlt, by go_num, HTX.out⟩, by simp [intOf]; omega⟩
    · obtain rfl : k = acts.length := by omega
      have q1 : ¬ ((acts.length : Int) < acts.length) := by omega
      have hsm := hF.small (Nat.le_refl _) HVD.out.1 HVD.out.2
      simp only [List.length_append] at hsm
      obtain ⟨vp, vcap, rfl, _, _⟩ := row_shape hJ.row
      have HJ4 : Hid (Jx w g1 g2 (.slice vp l.length vcap) wr ⟨f, c, wt, r⟩ ⟨f, c, wt, l ++ r⟩ l) := hJ
      clear hJ hF
      go_wp2_with fail
      refine (HJ4.out.take1 (by show r.length ≤ _; omega)).mono ?_
      rintro e w5 ⟨rfl, hJ5⟩
      have HJ5 : Hid (Jx w g1 g2 (.slice vp l.length vcap) w5 ⟨f, c, wt, []⟩ ⟨f, c, wt, l ++ r⟩ l) := hJ5
      clear hJ5 HJ4
      have hrs : (⟨r.toArray⟩ : ByteArray).size = r.length := by show r.toArray.size = _; simp
      go_wp2_with (first | (at_builtin; refine wpList_append_string_at (P := Tryd.prog) rfl _ _ 39 9 rfl 0 5 i0 Tryd.underlying39 Tryd.underlying9 hi hz0 hz1 hz2 _ _ _ rfl HJ5.out.row ⟨r.toArray⟩ rfl ?c3 ?c4 (Nat.zero_le _) ?_))
      case c3 => rw [hrs]; unfold maxLen; omega
      case c4 => rw [hrs]; omega
      intro v6 w6 ho6 hg6 hat6
      have hJ6 : Jx w g1 g2 v6 w6 ⟨f, c, wt, []⟩ ⟨f, c, wt, l ++ r⟩ (l ++ r) := HJ5.out.app hg6 ho6 hat6
      obtain ⟨p6, cap6, rfl, _, _⟩ := row_shape ho6
      have HJ6 : Hid (Jx w g1 g2 (.slice p6 (l.length + r.length) cap6) w6 ⟨f, c, wt, []⟩ ⟨f, c, wt, l ++ r⟩ (l ++ r)) := hJ6
      clear hJ6 ho6 hg6 hat6 HJ5 hrs
      obtain ⟨lr, hlr⟩ : ∃ lr, l ++ r = lr := ⟨_, rfl⟩
      rw [hlr] at HJ6
      have hlrl : lr.length ≤ 1073741824 := by rw [← hlr, List.length_append]; omega
      have HLR : Hid (l ++ r = lr) := hlr
      clear hlr
      go_wp2_with fail
      have hll : l.length + r.length = lr.length := by rw [← HLR.out, List.length_append]
      have hcv : (convert 39 9 (.slice p6 (l.length + r.length) cap6)).run Tryd.prog w6.drew = .ok (.string ⟨lr.toArray⟩) w6.drew := conv_bytes w6.drew 0 _ lr (by have := HJ6.out.row; exact this)
      have KT : Hid (Calls Tryd.prog 13 #[.pointer (some ⟨g2, 0, none⟩)] w6.drew fun e W' => e = .returned (.string ⟨lr.toArray⟩) ∧ Hid (Below w.heap.size w W' ∧ Tab W') ∧ (convert 39 9 (.slice p6 (l.length + r.length) cap6)).run Tryd.prog W' = .ok (.string ⟨lr.toArray⟩) W') := by
        refine ((HJ6.out.below (Below.drew (Below.refl _ _))).take2 hlrl).mono ?_
        rintro e W' ⟨rfl, hJ⟩
        exact ⟨rfl, ⟨hJ.bel, hJ.tab⟩, conv_bytes W' 0 _ lr hJ.row⟩
      have hse : ((⟨lr.toArray⟩ : ByteArray).toList == (⟨lr.toArray⟩ : ByteArray).toList) = true := by simp
      clear HJ6 hll
      go_region_with (first | (go_at_call 13; refine KT.out.mono ?_; rintro e w7 ⟨rfl, H7, hcv7⟩) | (go_at_call 14; refine (awake_any _ H7.out.2).mono ?_; rintro e w8 ⟨rfl, hb8⟩))
      all_goals (
        have HB9 : Hid (Below w.heap.size w w8) := H7.out.1.trans (hb8.mono H7.out.1.size)
        clear hb8 H7 KT
        go_wp2_with fail
        go_ret
        exact ⟨rfl, HB9.out⟩)
end Go.Proofs.YtkmmcpkakpglkaaDoor
