import Derived.Test.YtojjfbnpjhjidaaGreatDoorM30
set_option linter.unusedVariables false
set_option linter.unusedSimpArgs false
namespace Go.Proofs.YtojjfbnpjhjidaaGreatDoor.Lx
open Go.RowKit
set_option maxRecDepth 100000 in
set_option maxHeartbeats 1500000 in
theorem find_any (s : ByteArray) (w : World) (hs : s.size ≤ 2147483647) :
    Calls Tryz.prog 22 #[.string s] w fun e w' => FV w s e w' := by
  have F0 : Hid (FI w _ s 0 _ _) := FI.start w s
  go_enter Tryz.func22, Tryz.ntmps22
  go_wp2_with fail
  go_loopw [5, 6] (fun f i wr => ∃ (k a u : Nat) (l : List Tk) (v : Value), f = .int .i64 k ∧ i = .int .i64 a ∧ k ≤ a ∧ a ≤ s.size ∧ u ≤ a ∧ Hid (FI w wr s u v (l.map (tv s)) ∧ bd s u ∧ bd s a ∧ l.length ≤ a ∧ scn s = (l ++ (fnd s a k).1, (fnd s a k).2)))
    (fun _ i _ => s.size - (RowKit.intOf i).toNat)
  case atStart => exact ⟨0, 0, 0, [], _, rfl, rfl, Nat.le_refl _, Nat.zero_le _, Nat.le_refl _, F0.out, bd_zero s, bd_zero s, Nat.le_refl _, rfl⟩
  case round =>
    obtain ⟨k, a, u, l, v, rfl, rfl, h1, h2, h3, HF⟩ := hrel
    obtain ⟨w1, e1⟩ : ∃ w1, w1 = wr := ⟨wr, rfl⟩
    subst e1
    obtain ⟨L, hL⟩ : ∃ L, l.map (tv s) = L := ⟨_, rfl⟩
    rw [hL] at HF
    have HL : Hid (l.map (tv s) = L) := hL
    clear hL
    by_cases hlt : a < s.size
    · have q3 : (a : Int) < s.size := by omega
      have q4 : (0 : Int) ≤ a := by omega
      have HG : Hid ((s[a]'hlt).toNat = by8 s a) := by8_get s a hlt
      have HS : Hid (fnd s a k = _) := fnd_step s a k hlt
      by_cases h10 : by8 s a = 10
      · have e10 : (((s[a]'hlt).toNat : Int) == 10) = true := by rw [HG.out, h10]; rfl
        have HR : Hid (bd s (a + 1) ∧ l.length ≤ a + 1 ∧ scn s = (l ++ (fnd s (a + 1) (k + 1)).1, (fnd s (a + 1) (k + 1)).2)) := by
          obtain ⟨f1, f2, f3, f4, f5⟩ := HF.out
          refine ⟨(bd_asc s a hlt (by omega)).2, by omega, ?_⟩
          rw [f5, HS.out, if_pos h10]
        clear HS h10
        go_wp2_with fail
        exact ⟨⟨k + 1, a + 1, u, l, v, by go_num, by go_num, by omega, by omega, by omega, by rw [HL.out]; exact HF.out.1, HF.out.2.1, HR.out⟩, by simp [intOf]; omega⟩
      · have e10 : (((s[a]'hlt).toNat : Int) == 10) = false := by rw [HG.out]; simp; omega
        obtain ⟨B, hB⟩ : ∃ B, tkBl (by8 s a) = B := ⟨_, rfl⟩
        have HBl : Hid (∀ V, Calls Tryz.prog 34 #[.int .u8 ((s[a]'hlt).toNat : Int)] V fun e w' => e = .returned (.bool B) ∧ w' = V) := fun V => by
          rw [HG.out, ← hB]; exact rblank_any _ V (by8_lt s a)
        cases B
        · obtain ⟨T, hT⟩ : ∃ T, tkBgn s a = T := ⟨_, rfl⟩
          have HBg : Hid (∀ V, Calls Tryz.prog 35 #[.string s, .int .i64 a] V fun e w' => e = .returned (.int .u8 T) ∧ Below V.heap.size V w') := fun V => by
            rw [← hT]; exact rbegins_any s a V (by omega) hlt
          have HS2 : Hid (fnd s a k = if T = 0 then ([], 100, a) else if (tkEnd s a T).2 ≠ 0 then ([], (tkEnd s a T).2, (tkEnd s a T).1) else (tkTok s T a (tkEnd s a T).1 k :: (fnd s (tkEnd s a T).1 0).1, (fnd s (tkEnd s a T).1 0).2)) := by
            show _ = _
            rw [HS.out, if_neg h10, if_neg (by rw [hB]; decide), hT]
          clear HS h10
          by_cases hT0 : T = 0
          · subst hT0
            have HV : Hid (scn s = (l, 100, a)) := by
              show _ = _
              rw [HF.out.2.2.2.2, HS2.out, if_pos rfl, List.append_nil]
            clear HS2 HG hB hT
            go_wp2_with (first | (go_at_call 34; refine (HBl.out _).mono ?_; rintro e w2 ⟨rfl, hw⟩; replace hw := hw.symm; subst hw) | (go_at_call 35; refine (HBg.out _).mono ?_; rintro e w3 ⟨rfl, hb3⟩; have F3 := HF.out.1.below hb3; obtain ⟨vp, vc, rfl, hv1, hv2⟩ := F3.row.shape; obtain ⟨x0, x1, x2, x3, x4, x5, x6⟩ := F3.b0.cells; obtain ⟨y0, y1, y2, y3, y4, y5, y6⟩ := F3.b1.cells))
            obtain ⟨d1, d2, d3⟩ := F3.done 100 a
            obtain ⟨m0, m1, m2, _⟩ := d1.cells
            refine bodyPost_ret (v := .agg #[.slice vp L.length vc, .int .i64 100, .int .i64 a]) (by simp [results, Tryz.f22, go_sem, m0, m1, m2]) rfl ?_
            refine ⟨.slice vp L.length vc, ?_, ?_, d3⟩
            · rw [HV.out]; rfl
            · rw [HV.out, HL.out]; exact d2
          · obtain ⟨p, q, hpq⟩ : ∃ p q, tkEnd s a T = (p, q) := ⟨_, _, rfl⟩
            have HE : Hid (∀ V, Calls Tryz.prog 36 #[.string s, .int .i64 a, .int .u8 T] V fun e w' => e = .returned (.agg #[.int .i64 p, .int .i64 q]) ∧ Below V.heap.size V w') := fun V => by
              have := rends_any s a T V (by omega) hlt hT hT0
              rw [hpq] at this
              exact this
            have t0 : ((T : Int) == 0) = false := by simp; omega
            rw [if_neg hT0, hpq] at HS2
            by_cases hq : q = 0
            · subst hq
              obtain ⟨o1, o2⟩ := tkEnd_ok s a T p hlt hT hT0 hpq
              have HP : Hid (bd s p ∧ bd s a ∧ bd s u) := ⟨end_bd HF.out.2.2.1 hlt hT hT0 hpq, HF.out.2.2.1, HF.out.2.1⟩
              have HAdv : Hid (∀ V, Calls Tryz.prog 23 #[.agg #[.int .i64 u, .int .i64 (pL s u), .int .i64 (pC s u)], .string (s.extract u a)] V fun e w' => e = .returned (.agg #[.int .i64 a, .int .i64 (pL s a), .int .i64 (pC s a)]) ∧ Below V.heap.size V w') := fun V => by
                obtain ⟨j1, j2, j3⟩ := adv_join HP.out.2.2 HP.out.2.1 h3 (by omega)
                have := radv_any u (pL s u) (pC s u) (s.extract u a) V (by rw [size_ext s u a h2]; omega) (p_rng s u)
                rw [j1, j2, j3] at this
                exact this
              rw [if_neg (by simp)] at HS2
              have HN : Hid (scn s = (l ++ (tkTok s T a p k :: (fnd s p 0).1), (fnd s p 0).2)) := by
                show _ = _
                rw [HF.out.2.2.2.2, HS2.out]
              have hll := HF.out.2.2.2.1
              have hlL : L.length = l.length := by rw [← HL.out, List.length_map]
              have hl9 : L.length ≤ 2147483647 := by omega
              have HLl : Hid (l.length ≤ a) := hll
              clear hlL hll
              have HKy : Hid (tkTok s T a p k = ⟨if T = 1 ∧ ky (s.extract a p) = true then 2 else T, a, if T = 7 then tkTrim s p else p, k⟩) := rfl
              have HTb : Hid (T = 7 → tkBl (by8 s a) = false) := fun _ => hB
              clear HS2 HG hB hT hT0 hpq
              go_upto_region 20 with (first | (go_at_call 34; refine (HBl.out _).mono ?_; rintro e w2 ⟨rfl, hw⟩; replace hw := hw.symm; subst hw) | (go_at_call 35; refine (HBg.out _).mono ?_; rintro e w3 ⟨rfl, hb3⟩; have F3 := HF.out.1.below hb3) | (go_at_call 36; refine (HE.out _).mono ?_; rintro e w4 ⟨rfl, hb4⟩; have F5 := (F3.below hb4).below ((Below.refl _ _).alloc (Nat.le_refl _) (.cells #[.int .i64 p, .int .i64 0] 92)); have k5 := Box2.new w4 p 0; have z0 := k5.cell0; have z1 := k5.cell1; have p0 := F5.pl.cell0; have p1 := F5.pl.cell1; have p2 := F5.pl.cell2; have f0 := F5.pl.frozen 0; have f1 := F5.pl.frozen 1; have f2 := F5.pl.frozen 2; have pg := F5.pl.lt))
              go_cut [] from 13 to 110 (fun wx => Hid (FI w wx s a v L ∧ Box2 wx w4.heap.size p 0))
              case first =>
                have i1 : (0 : Int) ≤ u := by omega
                have i2 : (u : Int) ≤ a := by omega
                have i3 : (a : Int) ≤ s.size := by omega
                have hsz := F5.pl.lt
                have HW : Hid (∀ V, Below (w4.alloc (.cells #[.int .i64 p, .int .i64 0] 92)).heap.size (w4.alloc (.cells #[.int .i64 p, .int .i64 0] 92)) V → FI w (((V.setCell ⟨w.heap.size + 1 + 1, 0, none⟩ (.int .i64 a)).setCell ⟨w.heap.size + 1 + 1, 1, none⟩ (.int .i64 (pL s a))).setCell ⟨w.heap.size + 1 + 1, 2, none⟩ (.int .i64 (pC s a))) s a v L ∧ Box2 (((V.setCell ⟨w.heap.size + 1 + 1, 0, none⟩ (.int .i64 a)).setCell ⟨w.heap.size + 1 + 1, 1, none⟩ (.int .i64 (pL s a))).setCell ⟨w.heap.size + 1 + 1, 2, none⟩ (.int .i64 (pC s a))) w4.heap.size p 0) := fun V hV => by
                  have n := blk_ne k5 F5.pl (by decide)
                  exact ⟨(F5.below hV).move a, (((k5.below hV).other n _).other n _).other n _⟩
                go_region_with (go_at_call 23; refine (HAdv.out _).mono ?_; rintro e w6 ⟨rfl, hb6⟩; have F6 := (F5.below (Below.refl _ _).drew).below hb6; have p0 := F6.pl.cell0; have p1 := F6.pl.cell1; have p2 := F6.pl.cell2; have f0 := F6.pl.frozen 0; have f1 := F6.pl.frozen 1; have f2 := F6.pl.frozen 2)
                all_goals (
                  go_wp2_with fail
                  go_meet
                  exact HW.out _ ((Below.refl _ _).drew.trans (hb6.mono (Nat.le_refl _))))
              case rest =>
                obtain ⟨F6, k6⟩ := hcut.out
                have z0 := k6.cell0
                have p0 := F6.pl.cell0
                have p1 := F6.pl.cell1
                have p2 := F6.pl.cell2
                have i1 : (0 : Int) ≤ a := by omega
                have i2 : (a : Int) ≤ p := by omega
                have i3 : (p : Int) ≤ s.size := by omega
                have kg : w4.heap.size < wc.heap.size := k6.lt
                have pg := F6.pl.lt
                go_upto_region 21 with fail
                go_cut [9] from 13 to 110 (fun t9 wx => ∃ g9 : Nat, t9 = .pointer (some ⟨g9, 0, none⟩) ∧ Hid (FI w wx s a v L ∧ Box2 wx w4.heap.size p 0 ∧ TB wx g9 ⟨T, s.extract a p, a, pL s a, pC s a, k⟩ ∧ wc.heap.size ≤ g9 ∧ Below wc.heap.size wc wx))
                case first =>
                  have HW : Hid (∀ V, V.heap.size = wc.heap.size → Below wc.heap.size wc V → FI w (V.alloc (.cells #[.int .u8 T, .string (s.extract a p), .int .i64 a, .int .i64 (pL s a), .int .i64 (pC s a), .int .i64 k] 50)) s a v L ∧ Box2 (V.alloc (.cells #[.int .u8 T, .string (s.extract a p), .int .i64 a, .int .i64 (pL s a), .int .i64 (pC s a), .int .i64 k] 50)) w4.heap.size p 0 ∧ TB (V.alloc (.cells #[.int .u8 T, .string (s.extract a p), .int .i64 a, .int .i64 (pL s a), .int .i64 (pC s a), .int .i64 k] 50)) wc.heap.size ⟨T, s.extract a p, a, pL s a, pC s a, k⟩ ∧ wc.heap.size ≤ wc.heap.size ∧ Below wc.heap.size wc (V.alloc (.cells #[.int .u8 T, .string (s.extract a p), .int .i64 a, .int .i64 (pL s a), .int .i64 (pC s a), .int .i64 k] 50))) := fun V hz hV => by
                    have b := hV.alloc (by omega) (.cells #[.int .u8 T, .string (s.extract a p), .int .i64 a, .int .i64 (pL s a), .int .i64 (pC s a), .int .i64 k] 50)
                    refine ⟨F6.below b, k6.below b, ?_, Nat.le_refl _, b⟩
                    have := World.alloc_heap_new V (.cells #[.int .u8 T, .string (s.extract a p), .int .i64 a, .int .i64 (pL s a), .int .i64 (pC s a), .int .i64 k] 50)
                    rw [hz] at this
                    exact this
                  go_region
                  all_goals (
                    obtain ⟨a1, a2, a3, a4, a5⟩ := HW.out wc rfl (Below.refl _ _)
                    go_wp2_with fail
                    go_meet
                    exact ⟨_, rfl, a1.below (Below.refl _ _).drew, a2.drew, a3, a4, a5.drew⟩)
                case rest =>
                  obtain ⟨g9, rfl, HT⟩ := hcut
                  obtain ⟨F7, k7, t7, hg9, hb7⟩ := HT.out
                  have hg9' : w4.heap.size < g9 := by omega
                  have hg9'' : w.heap.size + 1 + 1 < g9 := by omega
                  obtain ⟨KB, hKB⟩ : ∃ KB, ky (s.extract a p) = KB := ⟨_, rfl⟩
                  have HKey : Hid (∀ V, Calls Tryz.prog 37 #[.string (s.extract a p)] V fun e w' => e = .returned (.bool KB) ∧ Below V.heap.size V w') := fun V => by rw [← hKB]; exact risKey_any _ V
                  obtain ⟨K, hK⟩ : ∃ K : Nat, (if T = 1 ∧ KB = true then 2 else T) = K := ⟨_, rfl⟩
                  obtain ⟨c1, hc1⟩ : ∃ c1, (decide (T = 1) && KB) = c1 := ⟨_, rfl⟩
                  have HK1 : Hid (K = if c1 = true then 2 else T) := by show _ = _; rw [← hK, ← hc1]; cases KB <;> simp
                  have HC1 : Hid ((decide (T = 1) && KB) = c1) := hc1
                  clear hc1
                  rw [hKB, hK] at HKy
                  obtain ⟨E0, hE0⟩ : ∃ E0, s.extract a p = E0 := ⟨_, rfl⟩
                  have HE0 : Hid (s.extract a p = E0) := hE0
                  rw [hE0] at t7 HKey HT
                  have t1 := t7.cells.2.1
                  have t1' := t7.cells.1
                  clear hKB hE0 HT hb7
                  have hrow : ∀ j, v.ownBlock = some j → j ≠ g9 := by
                    intro j hj e
                    rcases F6.row.2 with ⟨rfl, _⟩ | ⟨b, cap, cur, rfl, _, h3, _⟩
                    · cases hj
                    · simp only [Value.ownBlock, Option.some.injEq] at hj
                      have := blk_lt h3
                      omega
                  clear hK
                  go_upto_region 23 with (first | (go_at_call 37; refine (HKey.out _).mono ?_; rintro e w8 ⟨rfl, hb8⟩; have F8 := F7.below hb8; have k8 := k7.below hb8; have t8 : TB w8 g9 ⟨T, E0, a, pL s a, pC s a, k⟩ := blk_below t7 hb8))
                  go_cut [81] from 13 to 110 (fun c wx => c = .bool c1 ∧ wx = w8)
                  case first =>
                    by_cases hT1 : T = 1
                    · have t11 : ((T : Int) == 1) = true := by simp; omega
                      have HX : Hid (KB = c1) := by have := HC1.out; rw [decide_eq_true hT1] at this; exact this
                      clear hT1
                      go_wp2_with fail
                      go_meet
                      exact ⟨by rw [HX.out], rfl⟩
                    · have t11 : ((T : Int) == 1) = false := by simp; omega
                      have HX : Hid (false = c1) := by have := HC1.out; rw [decide_eq_false hT1] at this; exact this
                      clear hT1
                      go_wp2_with fail
                      go_meet
                      exact ⟨by rw [HX.out], rfl⟩
                  case rest =>
                  obtain ⟨rfl, hwc⟩ := hcut
                  subst hwc
                  obtain ⟨n0, n1, _, _, _, _, n6, n7, _⟩ := t8.cells
                  go_upto_if 81 with fail
                  go_cut [] from 13 to 110 (fun wx => Hid (FI w wx s a v L ∧ Box2 wx w4.heap.size p 0 ∧ TB wx g9 ⟨K, E0, a, pL s a, pC s a, k⟩ ∧ ∀ j, v.ownBlock = some j → j ≠ g9))
                  case first =>
                    cases c1
                    · have HKT : Hid (T = K) := by have := HK1.out; rw [if_neg (by decide)] at this; exact this.symm
                      go_wp2_with fail
                      go_meet
                      exact ⟨F8, k8, by rw [← HKT.out]; exact t8, hrow⟩
                    · have HKT : Hid (2 = K) := by have := HK1.out; rw [if_pos rfl] at this; exact this.symm
                      go_wp2_with fail
                      go_meet
                      exact ⟨F8.set _ hg9'' hrow, k8.other (by omega) _, by rw [← HKT.out]; exact blk_set t8 0 (.int .u8 2), hrow⟩
                  case rest =>
                    have HC := hcut
                    clear hcut n0 n1 n6 n7 t8 k8 F8 hb8 t1 t1' t7 k7 F7 z0 p0 p1 p2 HKey
                    obtain ⟨w9, hw9⟩ : ∃ w9, w9 = wc := ⟨wc, rfl⟩
                    subst hw9
                    go_wp2_with fail
                    go_loopw [] (fun wr => ∃ j : Nat, a < j ∧ j ≤ p ∧ Hid ((T = 7 → tkTrim s j = tkTrim s p) ∧ (T ≠ 7 → j = p) ∧ FI w wr s a v L ∧ Box2 wr w4.heap.size p 0 ∧ TB wr g9 ⟨K, s.extract a j, a, pL s a, pC s a, k⟩)) (fun wr => lenAt wr g9)
                    case atStart => exact ⟨p, o1, Nat.le_refl _, fun _ => rfl, fun _ => rfl, HC.out.1, HC.out.2.1, by rw [HE0.out]; exact HC.out.2.2.1⟩
                    case round =>
                      obtain ⟨j, j1, j2, HJ⟩ := hrel
                      obtain ⟨w11, e11⟩ : ∃ w11, w11 = wr := ⟨wr, rfl⟩
                      subst e11
                      obtain ⟨J1, J2, F9, k9, t9⟩ := HJ.out
                      obtain ⟨m, hm⟩ : ∃ m, j = a + m + 1 := ⟨j - a - 1, by omega⟩
                      obtain ⟨E, hE⟩ : ∃ E, s.extract a j = E := ⟨_, rfl⟩
                      have hEz : E.size = m + 1 := by rw [← hE, size_ext s a j (by omega)]; omega
                      rw [hE] at t9
                      obtain ⟨n0, n1, n2, n3, n4, n5, n6, n7, n8⟩ := t9.cells
                      obtain ⟨y0, _, _, y3, _⟩ := F9.b1.cells
                      have HEj : Hid (s.extract a j = E) := hE
                      clear hE
                      have HFin : Hid (j = (if T = 7 then tkTrim s p else p) → (l ++ [tkTok s T a p k]).map (tv s) = L ++ [⟨K, E, a, pL s a, pC s a, k⟩]) := fun h => by
                        rw [List.map_append, HL.out, HKy.out, ← h, ← HEj.out]
                        rfl
                      by_cases hT7 : T = 7
                      · have t77 : ((T : Int) == 7) = true := by simp; omega
                        have HJ1 : Hid (tkTrim s j = tkTrim s p) := J1 hT7
                        have hmE : m < E.size := by omega
                        have wm : IntKind.i64.wrap ((E.size : Int) - 1) = (m : Int) := by rw [IntKind.wrap_i64, hEz]; omega
                        have m0 : (0 : Int) ≤ m := by omega
                        have m1 : (m : Int) < E.size := by omega
                        have m2 : (m : Int) ≤ E.size := by omega
                        have HGm : Hid ((E[m]'hmE).toNat = by8 s (a + m)) := by
                          show _ = _
                          rw [by8_get E m hmE, ← HEj.out, by8_ext' s a j m (by omega)]
                        obtain ⟨B, hB⟩ : ∃ B, tkBl (by8 s (a + m)) = B := ⟨_, rfl⟩
                        have HBm : Hid (∀ V, Calls Tryz.prog 34 #[.int .u8 ((E[m]'hmE).toNat : Int)] V fun e w' => e = .returned (.bool B) ∧ w' = V) := fun V => by
                          rw [HGm.out, ← hB]; exact rblank_any _ V (by8_lt s _)
                        have HEx : Hid (E.extract 0 m = s.extract a (a + m)) := by
                          show _ = _
                          rw [← HEj.out, ext_ext s a j 0 m (by omega) (by omega) (by omega), Nat.add_zero]
                        have hrow : ∀ i, v.ownBlock = some i → i ≠ g9 := HC.out.2.2.2
                        cases B
                        · have HF2 : Hid ((l ++ [tkTok s T a p k]).map (tv s) = L ++ [⟨K, E, a, pL s a, pC s a, k⟩]) := HFin.out (by
                            rw [if_pos hT7, ← HJ1.out, hm]
                            show _ = tkTrim s (a + m + 1)
                            unfold tkTrim
                            rw [if_neg (by rw [hB]; decide)])
                          have HAP : Hid (AF w w11 s a w4.heap.size v L ⟨K, E, a, pL s a, pC s a, k⟩ p) := app_find F9 k9 (by omega)
                          clear J1 J2 hT7 HJ hm hEz hB
                          go_wp2_with (first | (go_at_call 34; refine (HBm.out _).mono ?_; rintro e w2 ⟨rfl, hw⟩; replace hw := hw.symm; subst hw) | (at_builtin; refine HAP.out (by rfl) _ _ (by rfl) (by rfl) (by rfl) ?_; intro vp vc w10 F10 kb k10; obtain ⟨y0, _, _, y3, _⟩ := kb.cells; have z0 := (k10.other (k := 0) (blk_ne k10 kb (by decide)) (.slice vp (L.length + 1) vc)).cell0; have zg := k10.lt; have yg := blk_lt kb))
                          exact ⟨⟨0, p, a, l ++ [tkTok s T a p k], _, rfl, rfl, Nat.zero_le _, o2, Nat.le_of_lt o1, by rw [HF2.out]; exact F10, HP.out.2.1, HP.out.1, by rw [List.length_append, List.length_singleton]; have := HLl.out; omega, by rw [List.append_assoc]; exact HN.out⟩, by simp [intOf]; omega⟩
                        · have hm0 : a < a + m := by
                            rcases Nat.eq_zero_or_pos m with e | e
                            · exfalso
                              have h9 := HTb.out hT7
                              rw [e, Nat.add_zero, h9] at hB
                              cases hB
                            · omega
                          have HJ3 : Hid (tkTrim s (a + m) = tkTrim s p) := by
                            show _ = _
                            rw [← HJ1.out, hm]
                            show _ = tkTrim s (a + m + 1)
                            conv => rhs; unfold tkTrim
                            rw [if_pos hB]
                          have hjp : a + m ≤ p := by omega
                          have HT7 : Hid (T = 7) := hT7
                          have t10 : TB (w11.setCell ⟨g9, 1, none⟩ (.string (E.extract 0 m))) g9 ⟨K, s.extract a (a + m), a, pL s a, pC s a, k⟩ := by rw [← HEx.out]; exact blk_set t9 1 (.string (E.extract 0 m))
                          have F11 : FI w (w11.setCell ⟨g9, 1, none⟩ (.string (E.extract 0 m))) s a v L := F9.set _ hg9'' hrow
                          have k11 : Box2 (w11.setCell ⟨g9, 1, none⟩ (.string (E.extract 0 m))) w4.heap.size p 0 := k9.other (by omega) _
                          have HM : Hid (lenAt (w11.setCell ⟨g9, 1, none⟩ (.string (E.extract 0 m))) g9 < lenAt w11 g9) := by
                            show _ < _
                            rw [t10.len, t9.len]
                            show (s.extract a (a + m)).size < E.size
                            rw [size_ext s a _ (by omega)]
                            omega
                          have HX : Hid (FI w (w11.setCell ⟨g9, 1, none⟩ (.string (E.extract 0 m))) s a v L ∧ Box2 (w11.setCell ⟨g9, 1, none⟩ (.string (E.extract 0 m))) w4.heap.size p 0 ∧ TB (w11.setCell ⟨g9, 1, none⟩ (.string (E.extract 0 m))) g9 ⟨K, s.extract a (a + m), a, pL s a, pC s a, k⟩) := ⟨F11, k11, t10⟩
                          clear J1 J2 hT7 HJ hm hEz hB t10 F11 k11
                          go_wp2_with (first | (go_at_call 34; refine (HBm.out _).mono ?_; rintro e w2 ⟨rfl, hw⟩; replace hw := hw.symm; subst hw))
                          exact ⟨⟨a + m, hm0, hjp, fun _ => HJ3.out, fun h => absurd HT7.out h, HX.out⟩, HM.out⟩
                      · have t77 : ((T : Int) == 7) = false := by simp; omega
                        have HF2 : Hid ((l ++ [tkTok s T a p k]).map (tv s) = L ++ [⟨K, E, a, pL s a, pC s a, k⟩]) := HFin.out (by rw [if_neg hT7]; exact J2 hT7)
                        clear J1 J2 hT7 HJ
                        have HAP : Hid (AF w w11 s a w4.heap.size v L ⟨K, E, a, pL s a, pC s a, k⟩ p) := app_find F9 k9 (by omega)
                        go_wp2_with (first | (at_builtin; refine HAP.out (by rfl) _ _ (by rfl) (by rfl) (by rfl) ?_; intro vp vc w10 F10 kb k10; obtain ⟨y0, _, _, y3, _⟩ := kb.cells; have z0 := (k10.other (k := 0) (blk_ne k10 kb (by decide)) (.slice vp (L.length + 1) vc)).cell0; have zg := k10.lt; have yg := blk_lt kb))
                        exact ⟨⟨0, p, a, l ++ [tkTok s T a p k], _, rfl, rfl, Nat.zero_le _, o2, Nat.le_of_lt o1, by rw [HF2.out]; exact F10, HP.out.2.1, HP.out.1, by rw [List.length_append, List.length_singleton]; have := HLl.out; omega, by rw [List.append_assoc]; exact HN.out⟩, by simp [intOf]; omega⟩
            · have q0 : ((q : Int) != 0) = true := by rw [bne_iff_ne]; omega
              have HV : Hid (scn s = (l, q, p)) := by
                show _ = _
                rw [HF.out.2.2.2.2, HS2.out, if_pos hq, List.append_nil]
              clear HS2 HG hB hT hT0 hq hpq
              go_wp2_with (first | (go_at_call 34; refine (HBl.out _).mono ?_; rintro e w2 ⟨rfl, hw⟩; replace hw := hw.symm; subst hw) | (go_at_call 35; refine (HBg.out _).mono ?_; rintro e w3 ⟨rfl, hb3⟩; have F3 := HF.out.1.below hb3) | (go_at_call 36; refine (HE.out _).mono ?_; rintro e w4 ⟨rfl, hb4⟩; have F5 := (F3.below hb4).below ((Below.refl _ _).alloc (Nat.le_refl _) (.cells #[.int .i64 p, .int .i64 q] 92)); obtain ⟨vp, vc, rfl, hv1, hv2⟩ := F5.row.shape; obtain ⟨x0, x1, x2, x3, x4, x5, x6⟩ := F5.b0.cells; obtain ⟨y0, y1, y2, y3, y4, y5, y6⟩ := F5.b1.cells; have k5 := Box2.new w4 p q; have z0 := k5.cell0; have z1 := k5.cell1))
              obtain ⟨d1, d2, d3⟩ := F5.done q p
              obtain ⟨m0, m1, m2, _⟩ := d1.cells
              refine bodyPost_ret (v := .agg #[.slice vp L.length vc, .int .i64 q, .int .i64 p]) (by simp [results, Tryz.f22, go_sem, m0, m1, m2]) rfl ?_
              refine ⟨.slice vp L.length vc, ?_, ?_, d3⟩
              · rw [HV.out]
              · rw [HV.out, HL.out]; exact d2
        · have HR : Hid (bd s (a + 1) ∧ l.length ≤ a + 1 ∧ scn s = (l ++ (fnd s (a + 1) k).1, (fnd s (a + 1) k).2)) := by
            obtain ⟨f1, f2, f3, f4, f5⟩ := HF.out
            refine ⟨(bd_asc s a hlt (bl_asc hB)).2, by omega, ?_⟩
            rw [f5, HS.out, if_neg h10, if_pos hB]
          clear HS h10 hB HG
          go_wp2_with (first | (go_at_call 34; refine (HBl.out _).mono ?_; rintro e w2 ⟨rfl, hw⟩; replace hw := hw.symm; subst hw))
          exact ⟨⟨k, a + 1, u, l, v, by go_num, by go_num, by omega, by omega, by omega, by rw [HL.out]; exact HF.out.1, HF.out.2.1, HR.out⟩, by simp [intOf]; omega⟩
    · obtain rfl : a = s.size := by omega
      have q3 : ¬ (s.size : Int) < s.size := by omega
      have F3 := HF.out.1
      obtain ⟨vp, vc, rfl, hv1, hv2⟩ := F3.row.shape
      obtain ⟨x0, x1, x2, x3, x4, x5, x6⟩ := F3.b0.cells
      obtain ⟨y0, y1, y2, y3, y4, y5, y6⟩ := F3.b1.cells
      have HV : Hid (scn s = (l, 0, 0)) := by
        show _ = _
        rw [HF.out.2.2.2.2, fnd_end s s.size k (Nat.le_refl _), List.append_nil]
      go_wp2_with fail
      obtain ⟨d1, d2, d3⟩ := F3.done0
      obtain ⟨m0, m1, m2, _⟩ := d1.cells
      refine bodyPost_ret (v := .agg #[.slice vp L.length vc, .int .i64 0, .int .i64 0]) (by simp [results, Tryz.f22, go_sem, m0, m1, m2]) rfl ?_
      refine ⟨.slice vp L.length vc, ?_, ?_, d3⟩
      · rw [HV.out]; rfl
      · rw [HV.out, HL.out]; exact d2
end Go.Proofs.YtojjfbnpjhjidaaGreatDoor.Lx
