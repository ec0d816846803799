import Derived.Test.YtfkegaencoodbaaDoorWe
import Derived.Test.YtfkegaencoodbaaDoorRb
set_option linter.unusedVariables false
set_option linter.unusedSimpArgs false
namespace Go.Proofs.YtfkegaencoodbaaDoor
open Go.RowKit

theorem ivs_snoc (l : List Nat) (x : Nat) : ivs (l ++ [x]) = ivs l ++ [.int .i64 (x : Int)] := by simp [ivs]
theorem ivs_len (l : List Nat) : (ivs l).length = l.length := by simp [ivs]

theorem P_take (s : ByteArray) (k : Nat) (h : k < (P s).length) : (P s).take (k + 1) = (P s).take k ++ [st s k] := by
  have h1 := P_at s k h
  rw [List.take_succ_eq_append_getElem h]
  have := (List.getElem?_eq_some_iff.1 h1).2
  rw [this]

def pts (s : ByteArray) : List Nat := (P s).map (dp s)
theorem pts_len (s : ByteArray) : (pts s).length = (P s).length := by unfold pts; simp
theorem pts_take (s : ByteArray) (k : Nat) (h : k < (P s).length) : (pts s).take (k + 1) = (pts s).take k ++ [dp s (st s k)] := by
  unfold pts
  rw [← List.map_take, P_take s k h, List.map_append, List.map_take]; rfl

theorem own_lt {w : World} {base e n : Nat} {v : Value} {xs : List Value} (h : w.ownsRow base e 1 v n xs) : ∀ j, v.ownBlock = some j → base ≤ j := fun j hj => (h.lt j hj).1

set_option maxRecDepth 100000 in
set_option maxHeartbeats 1000000 in
theorem rpoints_any (s : ByteArray) (w : World) (hs : s.size ≤ 2147483647) :
    Calls Tryd.prog 41 #[.string s] w fun e w' => ∃ v, e = .returned v ∧ w'.ownsRow w.heap.size 3 1 v (P s).length (ivs (pts s)) ∧ Below w.heap.size w w' := by
  have hP := P_len s
  obtain ⟨i0, hi, hz0, hz1, hz2⟩ := info_parts Tryd.info3
  go_enter Tryd.func41, Tryd.ntmps41
  go_wp2_with fail
  go_loopw [3, 4] (fun v a wr => ∃ k : Nat, k ≤ (P s).length ∧ a = .int .i64 (st s k) ∧ wr.ownsRow w.heap.size 3 1 v k (ivs ((pts s).take k)) ∧ Below w.heap.size w wr) (fun _ a _ => s.size - (intOf a).toNat)
  case atStart => exact ⟨0, Nat.zero_le _, rfl, World.ownsRow_nil _ _ _ _, Below.refl _ _⟩
  case round =>
    obtain ⟨k, hk, rfl, hown, hbel⟩ := hrel
    have hbz := hbel.size
    by_cases hlt : k < (P s).length
    · have hp := (st_lt s k).2 hlt
      have hw := dw_facts s _ hp
      have hd := dp_le s (st s k)
      have hn := fun w => rnext_in s (st s k) w hs (by omega) (by omega)
      rw [Int.toNat_natCast] at hn
      have HN : Hid _ := hn
      have HS : Hid (st s (k + 1) = st s k + dw s (st s k)) := st_succ s k hlt
      have HT : Hid ((ivs ((pts s).take (k + 1))) = (ivs ((pts s).take k)) ++ [.int .i64 ((dp s (st s k) : Nat) : Int)]) := by
        show _ = _
        rw [pts_take s k hlt, ivs_snoc]
      clear hn
      generalize hst : st s k = i at *
      generalize dp s i = p at *
      generalize dw s i = d at *
      generalize gd s i = g at *
      clear hst
      go_wp2_with (first | (go_at_call 28; refine (HN.out _).mono ?_; rintro e w' ⟨rfl, rfl⟩) | (at_builtin; refine wpList_append_own _ rfl _ _ 38 rfl w.heap.size 3 i0 (.int .i64 0) 1 8 Tryd.underlying38 hi hz0 hz1 hz2 rfl (by decide) _ _ _ rfl (hown.alloc _) ⟨_, 0, none⟩ 1 1 [.int .i64 (p : Nat)] rfl rfl ?c1 ?c2 ?c3 ?c4 ?c5 ?_))
      case c1 => exact one_new _ _ _ _ rfl
      case c2 => intro u hu; simp at hu; subst hu; rfl
      case c3 => unfold maxLen; omega
      case c4 => omega
      case c5 => simp; omega
      · intro v' w3 hown3 hgrow3 _
        have hbel3 : Below w.heap.size w w3 := (hbel.alloc hbz _).grown hgrow3 (by simp; omega) (fun j hj => (hown.lt j hj).1)
        have hbz3 := hbel3.size
        rw [← HT.out] at hown3
        clear hgrow3 hown hbel HT
        go_wp2_with fail
        exact ⟨⟨k + 1, hlt, by rw [HS.out]; go_num, hown3, hbel3⟩, by simp [intOf]; omega⟩
    · have hke : k = (P s).length := by omega
      have he := st_end s k (by omega)
      rw [List.take_of_length_le (by rw [pts_len]; omega)] at hown
      rw [he]
      have HK : Hid _ := hke
      clear hke he
      go_wp2_with fail
      go_ret
      rw [HK.out] at hown
      exact ⟨_, rfl, hown, hbel⟩

set_option maxRecDepth 100000 in
set_option maxHeartbeats 1000000 in
theorem rplaces_any (s : ByteArray) (w : World) (hs : s.size ≤ 2147483647) :
    Calls Tryd.prog 26 #[.string s] w fun e w' => ∃ v, e = .returned v ∧ w'.ownsRow w.heap.size 3 1 v (P s).length (ivs (P s)) ∧ Below w.heap.size w w' := by
  have hP := P_len s
  obtain ⟨i0, hi, hz0, hz1, hz2⟩ := info_parts Tryd.info3
  go_enter Tryd.func26, Tryd.ntmps26
  go_wp2_with fail
  go_loopw [3, 4] (fun v a wr => ∃ k : Nat, k ≤ (P s).length ∧ a = .int .i64 (st s k) ∧ wr.ownsRow w.heap.size 3 1 v k (ivs ((P s).take k)) ∧ Below w.heap.size w wr) (fun _ a _ => s.size - (intOf a).toNat)
  case atStart => exact ⟨0, Nat.zero_le _, rfl, World.ownsRow_nil _ _ _ _, Below.refl _ _⟩
  case round =>
    obtain ⟨k, hk, rfl, hown, hbel⟩ := hrel
    have hbz := hbel.size
    by_cases hlt : k < (P s).length
    · have hp := (st_lt s k).2 hlt
      have hw := dw_facts s _ hp
      have hd := dp_le s (st s k)
      have hn := fun w => rnext_in s (st s k) w hs (by omega) (by omega)
      rw [Int.toNat_natCast] at hn
      have HN : Hid _ := hn
      have HS : Hid (st s (k + 1) = st s k + dw s (st s k)) := st_succ s k hlt
      have HT : Hid ((ivs ((P s).take (k + 1))) = (ivs ((P s).take k)) ++ [.int .i64 ((st s k : Nat) : Int)]) := by
        show _ = _
        rw [P_take s k hlt, ivs_snoc]
      clear hn
      generalize hst : st s k = i at *
      generalize dp s i = p at *
      generalize dw s i = d at *
      generalize gd s i = g at *
      clear hst
      go_wp2_with (first | (at_builtin; refine wpList_append_own _ rfl _ _ 38 rfl w.heap.size 3 i0 (.int .i64 0) 1 8 Tryd.underlying38 hi hz0 hz1 hz2 rfl (by decide) _ _ _ rfl (hown.alloc _) ⟨_, 0, none⟩ 1 1 [.int .i64 (i : Nat)] rfl rfl ?c1 ?c2 ?c3 ?c4 ?c5 ?_))
      case c1 => exact one_new _ _ _ _ rfl
      case c2 => intro u hu; simp at hu; subst hu; rfl
      case c3 => unfold maxLen; omega
      case c4 => omega
      case c5 => simp; omega
      · intro v' w3 hown3 hgrow3 _
        have hbel3 : Below w.heap.size w w3 := (hbel.alloc hbz _).grown hgrow3 (by simp; omega) (fun j hj => (hown.lt j hj).1)
        have hbz3 := hbel3.size
        rw [← HT.out] at hown3
        clear hgrow3 hown hbel HT
        go_wp2_with fail
        refine (HN.out _).mono ?_
        rintro e w' ⟨rfl, rfl⟩
        go_wp2_with fail
        exact ⟨⟨k + 1, hlt, by rw [HS.out]; go_num, hown3, hbel3⟩, by simp [intOf]; omega⟩
    · have hke : k = (P s).length := by omega
      have he := st_end s k (by omega)
      rw [List.take_of_length_le (by omega)] at hown
      rw [he]
      have HK : Hid _ := hke
      clear hke he
      go_wp2_with fail
      go_ret
      rw [HK.out] at hown
      exact ⟨_, rfl, hown, hbel⟩


/-- What an owned row of numbers is, to a reader. -/
theorem own_shape {w : World} {base n : Nat} {v : Value} {zs : List Int} (h : w.ownsRow base 3 1 v n (zs.map (Value.int .i64))) : ∃ ao cap, v = .slice ao n cap ∧ Row w ao n zs := by
  rcases h.2 with ⟨rfl, rfl⟩ | ⟨g, cap, cur, rfl, _⟩
  · have hl : zs = [] := List.eq_nil_of_length_eq_zero (by have := h.1; simpa using this)
    subst hl
    exact ⟨none, 0, rfl, rfl, fun j hj => by omega⟩
  · exact ⟨_, cap, rfl, own_row h⟩

set_option maxHeartbeats 400000 in
theorem rcount_any (s : ByteArray) (w : World) (hs : s.size ≤ 2147483647) :
    Calls Tryd.prog 15 #[.string s] w fun e w' => e = .returned (.int .i64 (P s).length) ∧ Below w.heap.size w w' := by
  have HP : Hid _ := rplaces_any s
  go_enter Tryd.func15, Tryd.ntmps15
  go_wp2_with fail
  refine (HP.out _ hs).mono ?_
  rintro e w1 ⟨v, rfl, hown, hb⟩
  rw [ivs_eq] at hown
  obtain ⟨ao, cap, rfl, hr⟩ := own_shape hown
  clear hown hr
  go_wp2_with fail
  go_ret
  exact ⟨rfl, hb⟩

end Go.Proofs.YtfkegaencoodbaaDoor
