import Derived.Test.YtaldkkeghackfaaDoorCa
set_option linter.unusedVariables false
set_option linter.unusedSimpArgs false
namespace Go.Proofs.YtaldkkeghackfaaDoor
open Go.RowKit

/-- A column behind a line end hangs on nothing ahead of it. -/
theorem col_ten (X : ByteArray) (h0 : 0 < X.size) (h : by8 X (X.size - 1) = 10) : aCol 1 X = 1 := by
  have e : lf X X.size = X.size := by
    have := lf_step X (X.size - 1)
    rw [show X.size - 1 + 1 = X.size by omega, if_pos h] at this
    exact this
  unfold aCol
  rw [e]
  have hp : (P (X.extract X.size X.size)).length = 0 := by
    have h1 := P_len (X.extract X.size X.size)
    have h2 := size_ext X X.size X.size (Nat.le_refl _)
    omega
  rw [hp]
  split <;> (unfold wrap64; omega)

theorem app_assoc (a b c : ByteArray) : (a ++ b) ++ c = a ++ (b ++ c) := by
  refine by8_ext _ _ (by simp only [size_app]; omega) (fun j hj => ?_)
  simp only [by8_app, size_app]
  by_cases h1 : j < a.size
  · rw [if_pos (by omega), if_pos h1, if_pos h1]
  · by_cases h2 : j < a.size + b.size
    · rw [if_pos h2, if_neg h1, if_neg h1, if_pos (by omega)]
    · rw [if_neg h2, if_neg h1, if_neg (by omega)]; congr 1; omega

/-- The second source's places: how far, and the columns. -/
theorem second_col (a b : ByteArray) (i : Nat) (hi : i ≤ b.size) : pC ((a ++ lfB) ++ b) (a.size + 1 + i) = pC b i := by
  have hz : (a ++ lfB).size = a.size + 1 := by rw [size_app]; rfl
  have hzz : ((a ++ lfB) ++ b).size = a.size + 1 + b.size := by rw [size_app, hz]
  obtain ⟨Y, hY⟩ : ∃ Y, ((a ++ lfB) ++ b).extract 0 (a.size + 1 + i) = Y := ⟨_, rfl⟩
  have hYz : Y.size = a.size + 1 + i := by rw [← hY, size_ext _ _ _ (by omega)]; omega
  have e1 : Y.extract 0 (a.size + 1) = a ++ lfB := by
    rw [← hY, ext_ext _ 0 _ 0 (a.size + 1) (by omega) (by omega) (Nat.zero_le _), Nat.zero_add, Nat.zero_add, ext_first _ _ _ _ (by omega), ← hz]
    exact by8_ext _ _ (by rw [size_ext _ _ _ (Nat.le_refl _)]; rfl) (fun j hj => by rw [by8_ext' _ 0 _ j (by rw [size_ext _ _ _ (Nat.le_refl _)] at hj; omega), Nat.zero_add])
  have e2 : Y.extract (a.size + 1) Y.size = b.extract 0 i := by
    rw [hYz, ← hY, ext_ext _ 0 _ _ _ (by omega) (by omega) (by omega), Nat.zero_add, Nat.zero_add]
    have := ext_second (a ++ lfB) b 0 i hi
    rw [hz] at this
    exact this
  have h10 : by8 (a ++ lfB) ((a ++ lfB).size - 1) = 10 := by
    rw [hz, by8_app, if_neg (by omega)]
    rw [show a.size + 1 - 1 - a.size = 0 by omega]; rfl
  have h10Y : by8 Y a.size = 10 := by
    rw [← by8_head Y (a.size + 1) a.size (by omega), e1]
    rw [hz] at h10
    exact h10
  have hb : bd Y (a.size + 1) := (bd_ten Y a.size h10Y).2
  have := col_join Y (a.size + 1) hb 1
  rw [e1, e2, col_ten (a ++ lfB) (by omega) h10] at this
  unfold pC
  rw [hY]
  exact this.symm

theorem joins_is (a b : ByteArray) (h0 : (scn a).2.1 = 0) :
    (scn ((a ++ lfB) ++ b)).2.1 = (scn b).2.1 ∧ ((scn b).2.1 ≠ 0 → (scn ((a ++ lfB) ++ b)).2.2 = a.size + 1 + (scn b).2.2) ∧ (toks ((a ++ lfB) ++ b)).length = (toks a).length + (toks b).length ∧ (toks ((a ++ lfB) ++ b)).take (toks a).length = toks a ∧
    ∀ i m, (toks b)[i]? = some m → ∃ x, (toks ((a ++ lfB) ++ b))[(toks a).length + i]? = some x ∧ x.k = m.k ∧ x.t = m.t ∧ x.a = m.a + a.size + 1 ∧ x.c = m.c ∧ (0 < i → x.f = m.f) ∧ 0 ≤ m.a ∧ m.a ≤ (b.size : Int) := by
  obtain ⟨f, hf⟩ := scn_join a b h0
  rw [← app_assoc] at hf
  obtain ⟨g1, g2, g3⟩ := fnd_feeds b _ 0 f 0 (Nat.le_refl _)
  have ht := fnd_toks b _ 0 f (Nat.le_refl _)
  have hta := fnd_toks a _ 0 0 (Nat.le_refl _)
  have hz : (a ++ lfB).size = a.size + 1 := by rw [size_app]; rfl
  have hzz : ((a ++ lfB) ++ b).size = a.size + 1 + b.size := by rw [size_app, hz]
  have hS : ((a ++ lfB) ++ b).extract 0 a.size = a := by
    rw [app_assoc, ext_first _ _ _ _ (Nat.le_refl _)]
    exact by8_ext _ _ (by rw [size_ext _ _ _ (Nat.le_refl _)]; rfl) (fun j hj => by rw [by8_ext' _ 0 _ j (by rw [size_ext _ _ _ (Nat.le_refl _)] at hj; omega), Nat.zero_add])
  have hA : (scn a).1.map (tv ((a ++ lfB) ++ b)) = toks a := by
    refine List.map_congr_left (fun t h => ?_)
    obtain ⟨_, h2, h3⟩ := hta t h
    have := tv_head (s := (a ++ lfB) ++ b) (k := a.size) (by omega) (Nat.le_of_lt h2) h3
    rw [hS] at this
    exact this.symm
  have hN : toks ((a ++ lfB) ++ b) = toks a ++ ((fnd b 0 f).1.map (Tk.up (a.size + 1))).map (tv ((a ++ lfB) ++ b)) := by
    show (scn _).1.map _ = _
    rw [hf]
    rw [List.map_append, hA]
  refine ⟨by rw [hf]; show (fnd b 0 f).2.1 = (fnd b 0 0).2.1; rw [g1], fun hne => ?_, ?_, ?_, fun i m hm => ?_⟩
  · rw [hf]
    show (if (fnd b 0 f).2.1 = 0 then 0 else a.size + 1 + (fnd b 0 f).2.2) = a.size + 1 + (fnd b 0 0).2.2
    rw [g1]
    exact if_neg hne
  · rw [hN, List.length_append, List.length_map, List.length_map, g2]
    show _ + (scn b).1.length = _ + ((scn b).1.map _).length
    rw [List.length_map]
  · rw [hN, List.take_left']; rfl
  · have hi : i < (fnd b 0 f).1.length := by
      rw [g2]
      have := (List.getElem?_eq_some_iff.1 hm).1
      unfold toks at this
      rw [List.length_map] at this
      exact this
    obtain ⟨x, hx⟩ : ∃ x, (fnd b 0 f).1[i]? = some x := ⟨_, List.getElem?_eq_getElem hi⟩
    obtain ⟨y, hy, rfl⟩ : ∃ y, (scn b).1[i]? = some y ∧ tv b y = m := by
      unfold toks at hm
      rw [List.getElem?_map] at hm
      cases e : (scn b).1[i]? with
      | none => rw [e] at hm; cases hm
      | some y => rw [e] at hm; exact ⟨y, rfl, by simpa using hm⟩
    obtain ⟨k1, k2, k3, k4⟩ := g3 i x y hx hy
    obtain ⟨_, h2, h3⟩ := ht x (List.mem_of_getElem? hx)
    refine ⟨tv ((a ++ lfB) ++ b) (x.up (a.size + 1)), ?_, ?_, ?_, ?_, ?_, ?_, ?_, ?_⟩
    · rw [hN, List.getElem?_append_right (by omega), Nat.add_sub_cancel_left, List.getElem?_map, List.getElem?_map, hx]; rfl
    · show ((x.k : Nat) : Int) = y.k; rw [k1]
    · show ((a ++ lfB) ++ b).extract (a.size + 1 + x.a) (a.size + 1 + x.e) = b.extract y.a y.e
      have := ext_second (a ++ lfB) b x.a x.e h3
      rw [hz] at this
      rw [this, k2, k3]
    · show ((a.size + 1 + x.a : Nat) : Int) = (y.a : Int) + a.size + 1
      rw [k2]; omega
    · show pC _ (a.size + 1 + x.a) = pC b y.a
      rw [second_col a b x.a (by omega), k2]
    · intro h
      show ((x.f : Nat) : Int) = y.f
      rw [k4 h]
    · show (0 : Int) ≤ (y.a : Nat); omega
    · show ((y.a : Nat) : Int) ≤ b.size; omega

set_option maxRecDepth 100000 in
set_option maxHeartbeats 1500000 in
theorem joins_walk (a b : ByteArray) (w : World) (hT : Kab w) (ha : a.size ≤ maxLen) (hb : b.size ≤ maxLen) :
    Calls Tryd.prog 6 #[.string a, .string b] w fun e w' => e = .returned (.bool true) ∧ Below w.heap.size w w' := by
  have HA : Hid (Calls Tryd.prog 8 #[] w fun e w' => e = .returned (.bool true) ∧ Below w.heap.size w w') := awake_any w hT
  unfold maxLen at ha hb
  by_cases hbig : 67108864 < a.size
  · have q0 : (67108864 : Int) < a.size := by omega
    clear hT
    go_enter Tryd.func6, Tryd.ntmps6
    go_wp2_with (first | (go_at_call 8; refine HA.out.mono ?_; rintro e w1 ⟨rfl, hb1⟩))
    go_ret
    exact ⟨rfl, hb1⟩
  · have q0 : ¬ (67108864 : Int) < a.size := by omega
    by_cases hbig2 : 67108864 < b.size
    · have q1 : (67108864 : Int) < b.size := by omega
      clear hT
      go_enter Tryd.func6, Tryd.ntmps6
      go_wp2_with (first | (go_at_call 8; refine HA.out.mono ?_; rintro e w1 ⟨rfl, hb1⟩))
      go_ret
      exact ⟨rfl, hb1⟩
    · have q1 : ¬ (67108864 : Int) < b.size := by omega
      have hzS : ((a ++ lfB) ++ b).size = a.size + 1 + b.size := by rw [size_app, size_app]; rfl
      have hLz := toks_len a
      have hMz := toks_len b
      have hNz := toks_len ((a ++ lfB) ++ b)
      have H1 : Hid (∀ W, Below w.heap.size w W → Calls Tryd.prog 9 #[.string a] W fun e w' => AL W a (scn a).2.1 (eP a) (toks a) e w') := fun W hW => all_lt _ W (hT.below hW) (by omega)
      have H2 : Hid (∀ W, Below w.heap.size w W → Calls Tryd.prog 9 #[.string b] W fun e w' => AL W b (scn b).2.1 (eP b) (toks b) e w') := fun W hW => all_lt _ W (hT.below hW) (by omega)
      have H3 : Hid (∀ W x, x = (a ++ lfB) ++ b → Below w.heap.size w W → Calls Tryd.prog 9 #[.string x] W fun e w' => AL W ((a ++ lfB) ++ b) (scn ((a ++ lfB) ++ b)).2.1 (eP ((a ++ lfB) ++ b)) (toks ((a ++ lfB) ++ b)) e w') := fun W x hx hW => by rw [hx]; exact all_lt _ W (hT.below hW) (by omega)
      unfold AL at H1 H2 H3
      have HJ : Hid ((scn a).2.1 = 0 → (scn ((a ++ lfB) ++ b)).2.1 = (scn b).2.1 ∧ ((scn b).2.1 ≠ 0 → (eP ((a ++ lfB) ++ b)).1 = (eP b).1 + a.size + 1) ∧ (toks ((a ++ lfB) ++ b)).length = (toks a).length + (toks b).length ∧ (toks ((a ++ lfB) ++ b)).take (toks a).length = toks a ∧ ∀ i m, (toks b)[i]? = some m → ∃ x, (toks ((a ++ lfB) ++ b))[(toks a).length + i]? = some x ∧ x.k = m.k ∧ x.t = m.t ∧ x.a = m.a + a.size + 1 ∧ x.c = m.c ∧ (0 < i → x.f = m.f) ∧ 0 ≤ m.a ∧ m.a ≤ (b.size : Int)) := fun h0 => by
        obtain ⟨j1, j2, j3, j4, j5⟩ := joins_is a b h0
        refine ⟨j1, fun hne => ?_, j3, j4, j5⟩
        unfold eP
        have e1 : (scn ((a ++ lfB) ++ b)).2.1 ≠ 0 := by rw [j1]; exact hne
        have e2 := j2 hne
        simp only [if_neg e1, if_neg hne]
        omega
      have hpb : 0 ≤ (eP b).1 ∧ (eP b).1 ≤ b.size := by
        unfold eP
        by_cases e : (scn b).2.1 = 0
        · simp only [if_pos e]; omega
        · have h9 := bd_le ((scn_bd b).2 e)
          simp only [if_neg e]; omega
      clear hT hbig hbig2
      generalize (scn a).2.1 = E at *
      generalize eP a = P1 at *
      generalize toks a = L at *
      generalize (scn b).2.1 = F at *
      generalize eP b = P2 at *
      generalize toks b = M at *
      generalize (scn ((a ++ lfB) ++ b)).2.1 = G at *
      generalize eP ((a ++ lfB) ++ b) = P3 at *
      generalize toks ((a ++ lfB) ++ b) = NN at *
      obtain ⟨a1, a2, a3⟩ := P1
      obtain ⟨b1, b2, b3⟩ := P2
      obtain ⟨c1, c2, c3⟩ := P3
      go_enter Tryd.func6, Tryd.ntmps6
      go_wp2_with (first | (go_at_call 8; refine HA.out.mono ?_; rintro e w1 ⟨rfl, hb1⟩))
      refine (H1.out _ hb1).mono ?_
      rintro e w2 ⟨⟨p2, e2, rfl, x2, y2, hL2, _⟩, hb2⟩
      have hbX := hb1.trans (hb2.mono hb1.size)
      go_wp2_with fail
      refine (H2.out _ (hbX.alloc hbX.size _)).mono ?_
      rintro e w3 ⟨⟨p3, e3, rfl, x3, y3, hL3, _⟩, hb3⟩
      have hbY := (hbX.alloc hbX.size _).trans (hb3.mono (hbX.alloc hbX.size _).size)
      go_wp2_with fail
      refine (H3.out _ _ rfl (hbY.alloc hbY.size _)).mono ?_
      rintro e w4 ⟨⟨p4, e4, rfl, x4, y4, hL4, _⟩, hb4⟩
      have hbZ := (hbY.alloc hbY.size _).trans (hb4.mono (hbY.alloc hbY.size _).size)
      have HL2 := ((hL2.below ((Below.refl _ _).alloc (Nat.le_refl _) _)).below hb3).below ((Below.refl _ _).alloc (Nat.le_refl _) _) |>.below hb4
      have HL3 := (hL3.below ((Below.refl _ _).alloc (Nat.le_refl _) _)).below hb4
      have kb : Box3 w4 w3.heap.size b1 b2 b3 := (Box3.new w3 b1 b2 b3).below hb4
      have g0 := kb.cell0
      have hlt := kb.lt
      by_cases hE : E = 0
      · subst hE
        obtain ⟨j1, j2, j3, j4, j5⟩ := HJ.out rfl
        subst j1
        have HJ5 : Hid (NN.take L.length = L ∧ ∀ i m, M[i]? = some m → ∃ x, NN[L.length + i]? = some x ∧ x.k = m.k ∧ x.t = m.t ∧ x.a = m.a + a.size + 1 ∧ x.c = m.c ∧ (0 < i → x.f = m.f) ∧ 0 ≤ m.a ∧ m.a ≤ (b.size : Int)) := ⟨j4, j5⟩
        have HB : Hid (Lt w4 p2 L ∧ Lt w4 p3 M ∧ Lt w4 p4 NN ∧ Below w.heap.size w w4) := ⟨HL2, HL3, hL4, hbZ⟩
        have j6 : (NN.length : Int) = L.length + M.length := by omega
        have wl : IntKind.i64.wrap ((L.length : Int) + M.length) = (L.length : Int) + M.length := by rw [IntKind.wrap_i64]; omega
        have wp1 : IntKind.i64.wrap (b1 + (a.size : Int)) = b1 + a.size := by rw [IntKind.wrap_i64]; omega
        have wp2 : IntKind.i64.wrap (b1 + (a.size : Int) + 1) = b1 + a.size + 1 := by rw [IntKind.wrap_i64]; omega
        clear HJ H1 H2 H3 HA j4 j5 hL2 hL3 hL4 HL2 HL3 hbX hbY hbZ hb1 hb2 hb3 hb4 kb
        have HS : Hid (∀ W, Lt W p4 NN → Lt W p2 L → Calls Tryd.prog 11 #[.slice p4 L.length e4, .slice p2 L.length e2] W fun e w' => e = .returned (.bool true) ∧ Below W.heap.size W w') := fun W h1 h2 => same_eq p4 p2 L e4 e2 W (by have h9 := h1.take L.length; rw [HJ5.out.1] at h9; exact h9) h2 (by omega)
        have hsum : (L.length : Int) + M.length ≤ 1000000000 := by omega
        go_wp2_with fail
        all_goals (
          refine (HS.out _ (HB.out.2.2.1.below ((Below.refl _ _).alloc (Nat.le_refl _) _)) (HB.out.1.below ((Below.refl _ _).alloc (Nat.le_refl _) _))).mono ?_
          rintro e w5 ⟨rfl, hb5⟩
          have HW : Hid (Lt w5 p3 M ∧ Lt w5 p4 NN ∧ Below w.heap.size w w5) := ⟨(HB.out.2.1.below ((Below.refl _ _).alloc (Nat.le_refl _) _)).below hb5, (HB.out.2.2.1.below ((Below.refl _ _).alloc (Nat.le_refl _) _)).below hb5, (HB.out.2.2.2.alloc HB.out.2.2.2.size _).trans (hb5.mono (HB.out.2.2.2.alloc HB.out.2.2.2.size _).size)⟩
          clear HB HS hb5 g0 hlt
          go_wp2_with fail
          go_loopw [16] (fun i wr => ∃ k : Nat, k ≤ M.length ∧ i = .int .i64 k ∧ Hid (Below w5.heap.size w5 wr)) (fun i _ => M.length - (intOf i).toNat)
          case atStart => exact ⟨0, by omega, rfl, Below.refl _ _⟩
          case round =>
            obtain ⟨k, hk, rfl, HI⟩ := hrel
            by_cases hlt : k < M.length
            · have qk : (k : Int) < M.length := by omega
              obtain ⟨d, hd⟩ : ∃ d, M[k]? = some d := ⟨_, List.getElem?_eq_getElem hlt⟩
              obtain ⟨x, hx, z1, z2, z3, z4, z5, z6, z7⟩ := HJ5.out.2 k d hd
              obtain ⟨ba, oa, rfl, c0, c1', c2', c3', c4, c5⟩ := (HW.out.1.below HI.out) k d hd
              obtain ⟨bb, ob, rfl, d0, d1, d2, d3, d4, d5⟩ := (HW.out.2.1.below HI.out) (L.length + k) x hx
              obtain ⟨xk, xt, xa, xl, xc, xf⟩ := x
              obtain ⟨mk, mt, ma, ml, mc, mf⟩ := d
              simp only at z1 z2 z3 z4 z5 z6 z7 c0 c1' c2' c3' c4 c5 d0 d1 d2 d3 d4 d5
              subst z1 z2 z3 z4
              have wi : IntKind.i64.wrap ((L.length : Int) + (k : Int)) = (L.length : Int) + k := by rw [IntKind.wrap_i64]; omega
              have wm1 : IntKind.i64.wrap (ma + (a.size : Int)) = ma + a.size := by rw [IntKind.wrap_i64]; omega
              have wm2 : IntKind.i64.wrap (ma + (a.size : Int) + 1) = ma + a.size + 1 := by rw [IntKind.wrap_i64]; omega
              have qi : (L.length : Int) + k < L.length + M.length := by omega
              have qi0 : (0 : Int) ≤ (L.length : Int) + k := by omega
              have qi1 : (0 : Int) ≤ k := by omega
              have hba := World.block_lt_of_cell? _ _ c0
              clear hd hx
              by_cases h0 : k = 0
              · have qk0 : ¬ (0 : Int) < k := by omega
                have qk1 : ¬ 0 < k := by omega
                clear z5 h0
                go_wp2_with fail
                go_quiet (fail)
                go_wp2_with fail
                exact ⟨⟨k + 1, hlt, by go_num, below_dn (HI.out.alloc HI.out.size _) _⟩, by simp [intOf]; omega⟩
              · have e5 := z5 (by omega)
                subst e5
                have qk0 : (0 : Int) < k := by omega
                have qk1 : 0 < k := by omega
                have qk2 : decide (0 < k) = true := decide_eq_true qk1
                have qk3 : decide ((0 : Int) < (k : Int)) = true := decide_eq_true qk0
                clear z5 h0
                go_wp2_with fail
                go_quiet (fail)
                go_wp2_with fail
                exact ⟨⟨k + 1, hlt, by go_num, below_dn (HI.out.alloc HI.out.size _) _⟩, by simp [intOf]; omega⟩
            · obtain rfl : k = M.length := by omega
              have qk : ¬ ((M.length : Int) < M.length) := by omega
              go_wp2_with fail
              go_ret
              exact ⟨rfl, HW.out.2.2.trans (HI.out.mono HW.out.2.2.size)⟩)
      · have q5 : ((E : Int) != 0) = true := by rw [bne_iff_ne]; omega
        clear HJ H1 H2 H3 HA
        go_wp2_with fail
        go_ret
        exact ⟨rfl, hbZ.alloc hbZ.size _⟩

end Go.Proofs.YtaldkkeghackfaaDoor
