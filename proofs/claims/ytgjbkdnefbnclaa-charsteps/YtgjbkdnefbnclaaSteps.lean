import Derived.Test.YtgjbkdnefbnclaaRange
import Derived.Test.YtgjbkdnefbnclaaSteps0
set_option linter.unusedVariables false
set_option linter.unusedSimpArgs false
namespace Go.Proofs.Ytgjbkdnefbnclaa
open Go.RowKit

set_option maxHeartbeats 400000 in
theorem steps_big (s : ByteArray) (w : World) (hs : s.size ≤ maxLen) (h : 536870911 < s.size) :
    Calls Try.prog 5 #[.string s] w fun e w' => e = .returned (.bool true) ∧ Below w.heap.size w w' := by
  unfold maxLen at hs
  go_enter Try.func5, Try.ntmps5
  go_wp2_with fail
  go_ret
  exact ⟨rfl, Below.refl _ _⟩

theorem all_take_succ (s : ByteArray) (k x : Nat) (l : List Nat) (h : l[k]? = some x) : (l.take (k + 1)).all (gd s) = ((l.take k).all (gd s) && gd s x) := by
  have hk : k < l.length := (List.getElem?_eq_some_iff.1 h).1
  rw [List.take_succ_eq_append_getElem hk, List.all_append]
  have := (List.getElem?_eq_some_iff.1 h).2
  simp [this]

theorem st_bd (s : ByteArray) (k : Nat) : st s k ≤ s.size := st_le s k

set_option maxRecDepth 100000 in
set_option maxHeartbeats 1000000 in
theorem steps_any (s : ByteArray) (w : World) (hs : s.size ≤ 536870911) :
    Calls Try.prog 5 #[.string s] w fun e w' => e = .returned (.bool true) ∧ Below w.heap.size w w' := by
  have hP := P_len s
  have hd0 : decide (536870911 < (s.size : Int)) = false := by simp; omega
  go_enter Try.func5, Try.ntmps5
  go_wp2_with fail
  refine (places_any s _ (by omega)).mono ?_
  rintro e w1 ⟨rfl, ho1, hb1⟩
  go_wp2_with fail
  refine (points_any s _ (by omega)).mono ?_
  rintro e w2 ⟨rfl, ho2, hb2⟩
  have O1 : Hid _ := own_below ho1 hb2
  have O2 : Hid _ := ho2
  have hz1 := hb1.size
  have hz2 := hb2.size
  have hbel : Below w.heap.size w w2 := hb1.trans (hb2.mono hz1)
  clear ho1 hb1 hb2 ho2
  generalize w.heap.size + 1 = g1 at *
  generalize w1.heap.size + 1 = g2 at *
  go_wp2_with fail
  go_loopw [5, 6, 7] (fun v a i wr => ∃ k : Nat, k ≤ (P s).length ∧ i = .int .i64 k ∧ a = .int .i64 (st s k) ∧ v = .bool (((P s).take k).all (gd s)) ∧ Below w2.heap.size w2 wr)
    (fun _ _ i _ => (P s).length - (intOf i).toNat)
  case atStart => exact ⟨0, Nat.zero_le _, rfl, rfl, rfl, Below.refl _ _⟩
  case round =>
    obtain ⟨k, hk, rfl, rfl, rfl, hb⟩ := hrel
    by_cases hlt : k < (P s).length
    · have hp := (st_lt s k).2 hlt
      have hpk := P_at s k hlt
      have hw := dw_facts s _ hp
      have hd := dp_le s (st s k)
      have c1 := own_at (own_below O1.out hb) _ _ hpk
      have c2 := own_at (own_below O2.out hb) k (dp s (st s k)) (by rw [List.getElem?_map, hpk]; rfl)
      have hn := fun w => next_in s (st s k) w (by unfold maxLen; omega) (by omega) (by omega)
      rw [Int.toNat_natCast] at hn
      have HN : Hid _ := hn
      have HS : Hid (st s (k + 1) = st s k + dw s (st s k)) := st_succ s k hlt
      have HA : Hid (((P s).take (k + 1)).all (gd s) = (((P s).take k).all (gd s) && gd s (st s k))) := all_take_succ s k _ _ hpk
      have hg := gd_cases s (st s k)
      clear hn hpk
      generalize hst : st s k = i at *
      generalize dp s i = p at *
      generalize dw s i = d at *
      generalize gd s i = g at *
      generalize ((P s).take k).all (gd s) = v at *
      clear hst
      go_wp2_with fail
      refine (HN.out _).mono ?_
      rintro e w4 ⟨rfl, hb4⟩
      have hb5 : Below w2.heap.size w2 w4 := hb.trans (hb4.mono hb.size)
      have c1' := (hb4.cell (p := ⟨g1, k, none⟩) (World.block_lt_of_cell? wr _ c1)).trans c1
      have c2' := (hb4.cell (p := ⟨g2, k, none⟩) (World.block_lt_of_cell? wr _ c2)).trans c2
      have e1 : ((i : Int) != (i : Int)) = false := by simp
      have e2 : ((p : Int) != (p : Int)) = false := by simp
      clear hb4 c1 c2 HN hb
      have R : ∀ b : Bool, b = (v && g) → (∃ k_1 : Nat, k_1 ≤ (P s).length ∧ Value.int IntKind.i64 (↑k + 1) = Value.int IntKind.i64 ↑k_1 ∧ Value.int IntKind.i64 (↑i + ↑d) = Value.int IntKind.i64 ↑(st s k_1) ∧
          Value.bool b = Value.bool ((List.take k_1 (P s)).all (gd s)) ∧ Below w2.heap.size w2 w4) ∧
          (P s).length - (intOf (Value.int IntKind.i64 (↑k + 1))).toNat < (P s).length - (intOf (Value.int IntKind.i64 ↑k)).toNat := by
        intro b hbv
        refine ⟨⟨k + 1, hlt, by go_num, by rw [HS.out]; go_num, by rw [HA.out, hbv], hb5⟩, ?_⟩
        simp [intOf]; omega
      have RR : Hid _ := R
      clear R HS HA hb5
      rcases hg with ⟨q1, rfl⟩ | ⟨rfl, q1, rfl⟩ | ⟨rfl, q1, rfl⟩
      · cases v with
        | true =>
          go_wp2_with fail
          exact RR.out true rfl
        | false =>
          go_wp2_with fail
          exact RR.out false rfl
      · have e3 : ((d : Int) != 1) = false := by simp; omega
        cases v with
        | true =>
          go_wp2_with fail
          exact RR.out false rfl
        | false =>
          go_wp2_with fail
          exact RR.out false rfl
      · cases v with
        | true =>
          go_wp2_with fail
          exact RR.out true rfl
        | false =>
          go_wp2_with fail
          exact RR.out false rfl
    · have hke : st s k = s.size := st_end s k (by omega)
      have hall : ((P s).take k).all (gd s) = vl s := by unfold vl; rw [List.take_of_length_le (by omega)]
      rw [hke, hall]
      have e1 : ((s.size : Int) != (s.size : Int)) = false := by simp
      have e2 : (vl s != vl s) = false := by simp
      have e3 : ¬ (k : Int) < ((P s).length : Int) := by omega
      have HK : Hid (st s (P s).length = s.size) := st_end s _ (Nat.le_refl _)
      clear hke hall hlt hk
      go_wp2_with fail
      refine (valid_any s _ (by omega)).mono ?_
      rintro e w4 ⟨rfl, hb4⟩
      have hb5 : Below w2.heap.size w2 w4 := hb.trans (hb4.mono hb.size)
      clear hb hb4
      generalize vl s = v at *
      go_wp2_with fail
      go_loopw [6, 11] (fun a i wr => ∃ k : Nat, k ≤ (P s).length ∧ i = .int .i64 ((k : Int) - 1) ∧ a = .int .i64 (st s k) ∧ Below w2.heap.size w2 wr) (fun _ i _ => (intOf i + 1).toNat)
      case atStart => exact ⟨(P s).length, Nat.le_refl _, rfl, by rw [HK.out], hb5⟩
      case round =>
        clear hb5 HK
        obtain ⟨k2, hk2, rfl, rfl, hb6⟩ := hrel
        cases k2 with
        | zero =>
          go_wp2_with fail
          refine (awake_any _).mono ?_
          rintro e w6 ⟨rfl, hb7⟩
          have hB : Below w.heap.size w w6 := (hbel.trans (hb6.mono hbel.size)).trans (hb7.mono (Nat.le_trans hbel.size hb6.size))
          go_wp2_with fail
          go_ret
          exact ⟨rfl, hB⟩
        | succ j =>
          have hp := (st_lt s j).2 (by omega)
          have hpk := P_at s j (by omega)
          have hw := dw_facts s _ hp
          have hd := dp_le s (st s j)
          have hbd := st_le s (j + 1)
          have c1 := own_at (own_below O1.out hb6) _ _ hpk
          have hn := fun w => next_in s (st s j) w (by unfold maxLen; omega) (by omega) (by omega)
          have hss : st s (j + 1) = st s j + dw s (st s j) := st_succ s j (by omega)
          have hl := fun w => last_in s (st s (j + 1)) w (by omega) (by omega) (by omega)
          rw [Int.toNat_natCast] at hn hl
          have hls := ls_st s j (by omega)
          rw [hls] at hl
          have HN : Hid _ := hn
          have HL : Hid _ := hl
          have HS : Hid (st s (j + 1) = st s j + dw s (st s j)) := hss
          have ej : (((j + 1 : Nat) : Int) - 1) = (j : Int) := by omega
          clear hn hl hls hpk hss
          rw [ej]
          clear ej
          generalize st s (j + 1) = a at *
          generalize hst : st s j = i at *
          have HI : Hid (st s j = i) := hst
          clear hst
          generalize dp s i = p at *
          generalize dw s i = d at *
          generalize gd s i = g at *
          have hss : a = i + d := HS.out
          subst hss
          clear HS
          have hl2 := HL.out
          simp only [Int.natCast_add] at hl2
          have HL2 : Hid _ := hl2
          clear hl2 HL
          have e1 : ((p : Int) != (p : Int)) = false := by simp
          have e2 : ((d : Int) != (d : Int)) = false := by simp
          have e3 : (g != g) = false := by simp
          have e4 : ((i : Int) + d - d != (i : Int)) = false := by simp
          go_wp2_with fail
          refine (HL2.out _).mono ?_
          rintro e w6 ⟨rfl, hb7⟩
          have hb8 := hb6.trans (hb7.mono hb6.size)
          have c1' := (hb7.cell (p := ⟨g1, j, none⟩) (World.block_lt_of_cell? wr _ c1)).trans c1
          clear hb6 hb7 c1 HL2
          go_wp2_with fail
          refine (HN.out _).mono ?_
          rintro e w7 ⟨rfl, hb9⟩
          have hb10 := hb8.trans (hb9.mono hb8.size)
          have c1'' := (hb9.cell (p := ⟨g1, j, none⟩) (World.block_lt_of_cell? w6 _ c1')).trans c1'
          clear hb8 hb9 c1' HN
          go_wp2_with fail
          exact ⟨⟨j, by omega, rfl, by rw [HI.out], hb10⟩, by simp [intOf]⟩
end Go.Proofs.Ytgjbkdnefbnclaa
