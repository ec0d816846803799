import Derived.Test.YtpobcbailpjaeaaPm
set_option linter.unusedVariables false
set_option linter.unusedSimpArgs false
namespace Go.Proofs.Ytpobcbailpjaeaa
open Go.RowKit Go.Shelf
open Go.Lib (strCells strCells_length wpList_append_own_string)

theorem line_k (s : ByteArray) (j : Nat) (h : j < LN s) : lineS s ((j + 1 : Nat) : Int) = ln s j ∧ lineB s ((j + 1 : Nat) : Int) = true := by
  have h' : 1 ≤ ((j + 1 : Nat) : Int) ∧ ((j + 1 : Nat) : Int) ≤ LN s := by omega
  refine ⟨?_, decide_eq_true h'⟩
  unfold lineS
  rw [if_pos h', show (((j + 1 : Nat) : Int) - 1).toNat = j by omega]

theorem oe_len (s : ByteArray) (j m : Nat) (h : j ≤ LN s) (hm : (strCells (s.extract 0 (oe s j))).length = m * 1) : m = oe s j := by
  rw [strCells_length, size_ext _ _ _ (oe_le s j h)] at hm; omega

theorem lineN (s : ByteArray) (n : Int) (h : ¬ (1 ≤ n ∧ n ≤ LN s)) : lineS s n = ⟨#[]⟩ ∧ lineB s n = false := ⟨if_neg h, decide_eq_false h⟩
theorem lineY (s : ByteArray) (n : Int) (h : 1 ≤ n ∧ n ≤ LN s) : lineB s n = true := decide_eq_true h

set_option maxRecDepth 100000 in
set_option maxHeartbeats 2000000 in
theorem lines_small (s : ByteArray) (beyond : Int) (w : World) (hs : s.size ≤ 4000) :
    Calls Try.prog 6 #[.string s, .int .i64 beyond] w fun x w' => x = .returned (.bool true) ∧ Below w.heap.size w w' := by
  obtain ⟨i0, hi, hz0, hz1, hz2⟩ := info_parts Try.info5
  have hLN : LN s ≤ 4001 := by have := cn_le s s.size; unfold LN; omega
  have h1 : ¬ ((268435455 : Int) < (s.size : Int)) := by omega
  have h2 : ¬ ((4000 : Int) < (s.size : Int)) := by omega
  go_enter Try.func6, Try.ntmps6
  go_wp2_with fail
  go_loopw [6, 7] (fun n i wr => ∃ (a : Nat) (z : Int), n = .int .i64 z ∧ i = .int .i64 a ∧ a ≤ s.size ∧ Hid (z = ((cn s a + 1 : Nat) : Int)) ∧ wr = w) (fun _ i _ => s.size - (RowKit.intOf i).toNat)
  case atStart => exact ⟨0, 1, rfl, rfl, Nat.zero_le _, rfl, rfl⟩
  case round =>
    obtain ⟨a, z, rfl, rfl, ha, HZ, rfl⟩ := hrel
    have hca := cn_le s a
    have hz1' : 1 ≤ z := by have := HZ.out; omega
    have hz2' : z ≤ 4001 := by have := HZ.out; omega
    by_cases h3 : a < s.size
    · have hcn := cn_step s a
      by_cases h4 : by8 s a = 10
      · have h5 : (((s[a]'h3).toNat : Int) == 10) = true := by rw [by8_get s a h3, h4]; rfl
        have HC : Hid (cn s (a + 1) = cn s a + 1) := by rcases hcn with ⟨_, h⟩ | ⟨h, _⟩; exact h; exact absurd h4 h
        clear hcn h4 hca
        go_wp2_with fail
        go_roundw
        case rel => exact ⟨a + 1, z + 1, by go_num, by go_num, h3, by show _ = _; rw [HC.out, HZ.out]; omega, trivial⟩
        case measure => simp [RowKit.intOf]; omega
      · have h5 : (((s[a]'h3).toNat : Int) == 10) = false := by rw [by8_get s a h3]; simp; omega
        have HC : Hid (cn s (a + 1) = cn s a) := by rcases hcn with ⟨h, _⟩ | ⟨_, h⟩; exact absurd h h4; exact h
        clear hcn h4 hca
        go_wp2_with fail
        go_roundw
        case rel => exact ⟨a + 1, z, rfl, by go_num, h3, by show _ = _; rw [HC.out, HZ.out], trivial⟩
        case measure => simp [RowKit.intOf]; omega
    · obtain rfl : a = s.size := by omega
      obtain ⟨w, hww⟩ : ∃ w, w = wr := ⟨wr, rfl⟩
      subst hww
      have HZ' : Hid (z = (LN s : Int)) := HZ.out
      have hz2' : z ≤ 4001 := by have := HZ'.out; omega
      clear HZ hca
      go_wp2_with fail
      go_loopw [5, 8] (fun v k w1 => ∃ (j m : Nat) (zk : Int) (xs : List Value), k = .int .i64 zk ∧ Hid (zk = ((j + 1 : Nat) : Int)) ∧ Hid (j ≤ LN s) ∧ Hid (m = oe s j) ∧ Hid (xs = strCells (s.extract 0 (oe s j))) ∧ w1.ownsRow w.heap.size 5 1 v m xs ∧ Below w.heap.size w w1) (fun _ k _ => LN s + 1 - (RowKit.intOf k).toNat)
      case atStart =>
        refine ⟨0, 0, 1, [], rfl, rfl, Nat.zero_le _, rfl, ?_, World.ownsRow_nil _ _ _ _, Below.refl _ _⟩
        show [] = strCells (s.extract 0 0)
        have : (s.extract 0 0).size = 0 := by rw [size_ext _ _ _ (Nat.zero_le _)]
        exact (List.eq_nil_of_length_eq_zero (by rw [strCells_length, this])).symm
      case round =>
        obtain ⟨j, m, zk, xs, rfl, HK, HJ, HM, HXS, hown, hbel⟩ := hrel
        have hm : m ≤ 4000 := by have := oe_le s j HJ.out; rw [HM.out]; omega
        have hbz := hbel.size
        have hk1 : 1 ≤ zk := by have := HK.out; omega
        have hk2 : zk ≤ 4002 := by have := HK.out; have := HJ.out; omega
        by_cases hj : j < LN s
        · have hle : zk ≤ z := by have := HK.out; have := HZ'.out; omega
          obtain ⟨eS, eB⟩ := line_k s j hj
          have hlsz := ln_size s j (by unfold LN at hj; omega)
          have hline : ∀ w, Calls Try.prog 9 #[.string s, .int .i64 zk] w fun x w' => x = .returned (.tuple #[.string (ln s j), .bool true]) ∧ Below w.heap.size w w' := by
            intro w; rw [HK.out, ← eS, ← eB]; exact line_any s _ w (by omega)
          have HN1 : Hid (j = 0 → xs ++ strCells (ln s j) = strCells (s.extract 0 (oe s (j + 1)))) := by
            intro h; subst h; rw [HXS.out]; exact oe_first s
          have HN2 : Hid (0 < j → (xs ++ [.int .u8 10]) ++ strCells (ln s j) = strCells (s.extract 0 (oe s (j + 1)))) := by
            intro h
            obtain ⟨i, rfl⟩ : ∃ i, j = i + 1 := ⟨j - 1, by omega⟩
            rw [HXS.out]; exact oe_next s i hj
          have HZ2 : Hid (oe s (j + 1) ≤ s.size) := oe_le s (j + 1) (by omega)
          obtain ⟨L, hL⟩ : ∃ L, ln s j = L := ⟨_, rfl⟩
          rw [hL] at HN1 HN2 hlsz
          simp only [hL] at hline
          have HJL : Hid (j < LN s) := hj
          have HLN : Hid _ := hline
          clear hL eS eB hline hj
          by_cases h0 : j = 0
          · have hk0 : ¬ ((1 : Int) < zk) := by have := HK.out; omega
            go_wp2_with fail
            refine (HLN.out _).mono ?_
            rintro e w2 ⟨rfl, hb2⟩
            have hown2 := own_below hown hb2
            have hbel2 := hbel.trans (hb2.mono hbz)
            have hbz2 := hbel2.size
            clear hb2 hown hbel
            go_wp2_with (at_builtin; refine wpList_append_own_string _ rfl _ _ 40 9 rfl w.heap.size 5 i0 Try.underlying40 Try.underlying9 hi hz0 hz1 hz2 _ _ _ rfl hown2 L rfl ?c0 ?c1 ?c2 ?_)
            case c0 => unfold maxLen; omega
            case c1 => omega
            case c2 => exact hbz2
            · intro v' w3 hown3 hgrow3 _
              have hbel3 : Below w.heap.size w w3 := hbel2.grown hgrow3 (by omega) (fun q hq => (hown2.lt q hq).1)
              have e := HN1.out h0
              rw [e] at hown3
              have hlen := hown3.1
              clear hgrow3 hown2 hbel2
              go_wp2_with fail
              exact ⟨⟨j + 1, m + L.size, zk + 1, _, rfl, by show _ = _; rw [HK.out]; omega, HJL.out, oe_len s (j + 1) _ HJL.out hlen, rfl, hown3, hbel3⟩, by simp [RowKit.intOf]; have := HK.out; have := HJL.out; omega⟩
          · have hk0 : (1 : Int) < zk := by have := HK.out; omega
            go_wp2_with fail
            refine (HLN.out _).mono ?_
            rintro e w2 ⟨rfl, hb2⟩
            have hown2 := own_below hown hb2
            have hbel2 := hbel.trans (hb2.mono hbz)
            have hbz2 := hbel2.size
            clear hb2 hown hbel
            go_wp2_with (at_builtin; refine wpList_append_own _ rfl _ _ 40 rfl w.heap.size 5 i0 (.int .u8 0) 1 1 Try.underlying40 hi hz0 hz1 hz2 rfl (by decide) _ _ _ rfl (hown2.alloc _) ⟨_, 0, none⟩ 1 1 [.int .u8 10] rfl ?c0 ?c1 ?c2 ?c3 ?c4 ?c5 ?_)
            case c0 => rfl
            case c1 => exact one_new _ _ _ _ rfl
            case c2 => intro u hu; simp at hu; subst hu; rfl
            case c3 => unfold maxLen; omega
            case c4 => omega
            case c5 => simp; omega
            · intro v' w3 hown3 hgrow3 _
              have hbel3 : Below w.heap.size w w3 := (hbel2.alloc hbz2 _).grown hgrow3 (by simp; omega) (fun q hq => (hown2.lt q hq).1)
              have hbz3 := hbel3.size
              clear hgrow3 hown2 hbel2
              go_wp2_with (at_builtin; refine wpList_append_own_string _ rfl _ _ 40 9 rfl w.heap.size 5 i0 Try.underlying40 Try.underlying9 hi hz0 hz1 hz2 _ _ _ rfl hown3 L rfl ?c0 ?c1 ?c2 ?_)
              case c0 => unfold maxLen; omega
              case c1 => omega
              case c2 => exact hbz3
              · intro v4 w4 hown4 hgrow4 _
                have hbel4 : Below w.heap.size w w4 := hbel3.grown hgrow4 (by omega) (fun q hq => (hown3.lt q hq).1)
                have e := HN2.out (by omega)
                rw [List.append_assoc, List.singleton_append] at e
                rw [e] at hown4
                have hlen := hown4.1
                clear hgrow4 hown3 hbel3
                go_wp2_with fail
                exact ⟨⟨j + 1, m + 1 + L.size, zk + 1, _, rfl, by show _ = _; rw [HK.out]; omega, HJL.out, oe_len s (j + 1) _ HJL.out hlen, rfl, hown4, hbel4⟩, by simp [RowKit.intOf]; have := HK.out; have := HJL.out; omega⟩
        · have hgt : ¬ (zk ≤ z) := by have := HK.out; have := HZ'.out; omega
          have HJE : Hid (j = LN s) := by show _ = _; have := HJ.out; omega
          have hst : s.extract 0 (oe s j) = s := by rw [HJE.out]; exact oe_end s
          have hms : m = s.size := by
            have h1 := HM.out
            have h2 := congrArg ByteArray.size hst
            rw [size_ext _ _ _ (oe_le s j HJ.out)] at h2
            omega
          rw [HXS.out, hst] at hown
          have hcv := conv_str _ _ _ s m hms hown
          clear hown hst hms HXS HM
          go_wp2_with fail
          have hrow : Row (wr.alloc (.cells #[.int .i64 0, .int .i64 (-1), .int .i64 (z + 1), .int .i64 beyond] 3)) (some ⟨wr.heap.size, 0, none⟩) 4 [0, -1, z + 1, beyond] := row_new wr [0, -1, z + 1, beyond] 3
          have hbel1 := hbel.alloc hbel.size (.cells #[.int .i64 0, .int .i64 (-1), .int .i64 (z + 1), .int .i64 beyond] 3)
          obtain ⟨B, hB⟩ : ∃ B, wr.heap.size = B := ⟨_, rfl⟩
          obtain ⟨W1, hW1⟩ : ∃ W1, wr.alloc (.cells #[.int .i64 0, .int .i64 (-1), .int .i64 (z + 1), .int .i64 beyond] 3) = W1 := ⟨_, rfl⟩
          rw [hB, hW1] at hrow
          rw [hW1] at hbel1
          rw [hB, hW1]
          clear hB hW1 hbel hcv hgt
          obtain ⟨zs, hzs⟩ : ∃ zs, [0, -1, z + 1, beyond] = zs := ⟨_, rfl⟩
          rw [hzs] at hrow
          clear hzs
          go_loopw [65] (fun i w5 => ∃ a : Nat, i = .int .i64 a ∧ a ≤ 4 ∧ Hid (Row w5 (some ⟨B, 0, none⟩) 4 zs) ∧ Below w.heap.size w w5) (fun i _ => 4 - (RowKit.intOf i).toNat)
          case atStart => exact ⟨0, rfl, by omega, hrow, hbel1⟩
          case round =>
            obtain ⟨a, rfl, ha, HR, hbel5⟩ := hrel
            by_cases h3 : a < 4
            · have hc := HR.out.at a h3
              rw [Nat.zero_add] at hc
              obtain ⟨q, hq⟩ : ∃ q, zs.getD a 0 = q := ⟨_, rfl⟩
              rw [hq] at hc
              clear hq
              by_cases h4 : 1 ≤ q ∧ q ≤ LN s
              · obtain ⟨LS, hLS⟩ : ∃ LS, lineS s q = LS := ⟨_, rfl⟩
                have hline : ∀ w, Calls Try.prog 9 #[.string s, .int .i64 q] w fun x w' => x = .returned (.tuple #[.string LS, .bool true]) ∧ Below w.heap.size w w' := by
                  intro w; rw [← lineY s q h4, ← hLS]; exact line_any s _ w (by omega)
                have HLN : Hid _ := hline
                have h5 : ¬ (q < 1) := by omega
                have h6 : ¬ (z < q) := by have := HZ'.out; omega
                clear h4 hLS hline
                go_wp2_with fail
                refine (HLN.out _).mono ?_
                rintro e w6 ⟨rfl, hb6⟩
                have HR6 : Hid _ := HR.out.below hb6
                have hbel6 := hbel5.trans (hb6.mono hbel5.size)
                clear hb6 hc hbel5
                go_wp2_with fail
                exact ⟨⟨a + 1, rfl, h3, HR6, hbel6⟩, by simp [RowKit.intOf]; omega⟩
              · obtain ⟨eS, eB⟩ := lineN s q h4
                have hline : ∀ w, Calls Try.prog 9 #[.string s, .int .i64 q] w fun x w' => x = .returned (.tuple #[.string ⟨#[]⟩, .bool false]) ∧ Below w.heap.size w w' := by
                  intro w; rw [← eB, ← eS]; exact line_any s _ w (by omega)
                have HLN : Hid _ := hline
                clear h4 eS eB hline
                go_wp2_with fail
                refine (HLN.out _).mono ?_
                rintro e w6 ⟨rfl, hb6⟩
                have HR6 : Hid _ := HR.out.below hb6
                have hbel6 := hbel5.trans (hb6.mono hbel5.size)
                clear hb6 hc hbel5
                go_wp2_with fail
                exact ⟨⟨a + 1, rfl, h3, HR6, hbel6⟩, by simp [RowKit.intOf]; omega⟩
            · obtain rfl : a = 4 := by omega
              go_wp2_with fail
              refine (awake_any _).mono ?_
              rintro e w6 ⟨rfl, hb6⟩
              have hbel6 := hbel5.trans (hb6.mono hbel5.size)
              go_wp2_with fail
              go_ret
              exact ⟨rfl, hbel6⟩

set_option maxRecDepth 100000 in
set_option maxHeartbeats 1000000 in
theorem lines_big (s : ByteArray) (beyond : Int) (w : World) (hm : s.size ≤ maxLen) (hs : 4000 < s.size) :
    Calls Try.prog 6 #[.string s, .int .i64 beyond] w fun x w' => x = .returned (.bool true) ∧ Below w.heap.size w w' := by
  unfold maxLen at hm
  by_cases h : 268435455 < s.size
  · have h1 : ((268435455 : Int) < (s.size : Int)) := by omega
    go_enter Try.func6, Try.ntmps6
    go_wp2_with fail
    go_ret
    exact ⟨rfl, Below.refl _ _⟩
  · have h1 : ¬ ((268435455 : Int) < (s.size : Int)) := by omega
    have h2 : ((4000 : Int) < (s.size : Int)) := by omega
    go_enter Try.func6, Try.ntmps6
    go_wp2_with fail
    go_ret
    exact ⟨rfl, Below.refl _ _⟩

theorem lines_law (s : ByteArray) (beyond : Int) (w : World) (hm : s.size ≤ maxLen) :
    Calls Try.prog 6 #[.string s, .int .i64 beyond] w fun x w' => x = .returned (.bool true) ∧ Below w.heap.size w w' := by
  by_cases h : 4000 < s.size
  · exact lines_big s beyond w hm h
  · exact lines_small s beyond w (by omega)

end Go.Proofs.Ytpobcbailpjaeaa
