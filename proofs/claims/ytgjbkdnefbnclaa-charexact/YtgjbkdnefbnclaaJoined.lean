import Derived.Test.YtgjbkdnefbnclaaWg
import Derived.Test.YtgjbkdnefbnclaaJoin0
set_option linter.unusedVariables false
set_option linter.unusedSimpArgs false
namespace Go.Proofs.Ytgjbkdnefbnclaa
open Go.RowKit

set_option maxHeartbeats 400000 in
theorem joined_big (a b : ByteArray) (w : World) (ha : a.size ≤ maxLen) (hb : b.size ≤ maxLen) (h : 268435455 < a.size ∨ 268435455 < b.size) :
    Calls Try.prog 7 #[.string a, .string b] w fun e w' => e = .returned (.bool true) ∧ Below w.heap.size w w' := by
  unfold maxLen at ha hb
  by_cases h1 : 268435455 < a.size
  · go_enter Try.func7, Try.ntmps7
    go_wp2_with fail
    go_ret
    exact ⟨rfl, Below.refl _ _⟩
  · have h2 : 268435455 < b.size := by omega
    go_enter Try.func7, Try.ntmps7
    go_wp2_with fail
    go_ret
    exact ⟨rfl, Below.refl _ _⟩

/-- Points, as a row that can be read. -/
theorem points_row (s : ByteArray) (w : World) (hs : s.size ≤ 2147483647) :
    Calls Try.prog 14 #[.string s] w fun e w' => ∃ g, e = .returned (.slice (some ⟨g, 0, none⟩) (P s).length (P s).length) ∧
      Row w' (some ⟨g, 0, none⟩) (P s).length (((P s).map (dp s)).map (fun i : Nat => (i : Int))) ∧ Below w.heap.size w w' := by
  refine (points_any s w hs).mono ?_
  rintro e w' ⟨rfl, ho, hb⟩
  rw [ivs_eq] at ho
  exact ⟨_, rfl, own_row ho, hb⟩

theorem Row.take {w : World} {b off n : Nat} {zs : List Int} (h : Row w (some ⟨b, off, none⟩) n zs) (m : Nat) (hm : m ≤ n) : Row w (some ⟨b, off, none⟩) m (zs.take m) := by
  refine ⟨by rw [List.length_take, h.1]; omega, fun j hj => ⟨b, off, rfl, ?_⟩⟩
  rw [h.at j (by omega)]
  simp [List.getD, hj]

theorem Row.drop {w : World} {b off n : Nat} {zs : List Int} (h : Row w (some ⟨b, off, none⟩) n zs) (m k : Nat) (hm : m + k = n) : Row w (some ⟨b, off + m, none⟩) k (zs.drop m) := by
  refine ⟨by rw [List.length_drop, h.1]; omega, fun j hj => ⟨b, off + m, rfl, ?_⟩⟩
  rw [Nat.add_assoc, h.at (m + j) (by omega)]
  simp [List.getD]

set_option maxRecDepth 100000 in
set_option maxHeartbeats 1000000 in
theorem joined_core (a b h c : ByteArray) (v nx ny nz : Nat) (xs ys zs : List Int) (w : World) (ha : a.size ≤ 268435455) (hb : b.size ≤ 268435455) (hv : v ≤ a.size) (hv3 : a.size ≤ v + 3) (hh : a.extract 0 v = h) (hc : a ++ b = c)
    (hnx : nx ≤ a.size) (hny : ny ≤ a.size + b.size) (hnz : nz ≤ b.size) (hxy : nx ≤ ny)
    (kw : ∀ w, Calls Try.prog 20 #[.string a] w fun e w' => e = .returned (.int .i64 v) ∧ Below w.heap.size w w')
    (kx : ∀ w, Calls Try.prog 14 #[.string h] w fun e w' => ∃ g, e = .returned (.slice (some ⟨g, 0, none⟩) nx nx) ∧ Row w' (some ⟨g, 0, none⟩) nx xs ∧ Below w.heap.size w w')
    (ky : ∀ w, Calls Try.prog 14 #[.string c] w fun e w' => ∃ g, e = .returned (.slice (some ⟨g, 0, none⟩) ny ny) ∧ Row w' (some ⟨g, 0, none⟩) ny ys ∧ Below w.heap.size w w')
    (kz : ∀ w, Calls Try.prog 14 #[.string b] w fun e w' => ∃ g, e = .returned (.slice (some ⟨g, 0, none⟩) nz nz) ∧ Row w' (some ⟨g, 0, none⟩) nz zs ∧ Below w.heap.size w w')
    (hxs : ys.take nx = xs) (hz : v = a.size → ny = nx + nz ∧ ys.drop nx = zs) :
    Calls Try.prog 7 #[.string a, .string b] w fun e w' => e = .returned (.bool true) ∧ Below w.heap.size w w' := by
  have KW : Hid _ := kw
  have KX : Hid _ := kx
  have KY : Hid _ := ky
  have KZ : Hid _ := kz
  have HZ : Hid _ := hz
  have HX : Hid _ := hxs
  have hadd : ¬ (9223372036854775807 < a.size + b.size) := by omega
  clear kw kx ky kz hz hxs
  go_enter Try.func7, Try.ntmps7
  go_wp2_with fail
  refine (KW.out _).mono ?_
  rintro e w1 ⟨rfl, hb1⟩
  go_wp2_with fail
  refine (KX.out _).mono ?_
  rintro e w2 ⟨g2, rfl, hr2, hb2⟩
  go_wp2_with fail
  refine (KY.out _).mono ?_
  rintro e w3 ⟨g3, rfl, hr3, hb3⟩
  have hz1 := hb1.size
  have hz2 := hb2.size
  have hz3 := hb3.size
  have hB3 : Below w.heap.size w w3 := (hb1.trans (hb2.mono hz1)).trans (hb3.mono (by omega))
  have hr2' := hr2.below hb3
  clear hb1 hb2 hb3 hr2
  go_wp2_with fail
  refine (same_any _ _ nx nx ny nx _ _ _ (by omega) (by omega) (hr3.take nx hxy) hr2').mono ?_
  rintro e w4 ⟨rfl, hb4⟩
  rw [HX.out, decide_eq_true (rfl : xs = xs)]
  have hz4 := hb4.size
  have hB4 : Below w.heap.size w w4 := hB3.trans (hb4.mono (by omega))
  have hr3' := hr3.below hb4
  clear hb4 hB3 hr2' hr3
  by_cases hlt : v < a.size
  · go_wp2_with fail
    refine (awake_any _).mono ?_
    rintro e w5 ⟨rfl, hb5⟩
    have hB5 : Below w.heap.size w w5 := hB4.trans (hb5.mono (by omega))
    clear hb5 hB4
    go_wp2_with fail
    go_ret
    exact ⟨rfl, hB5⟩
  · obtain ⟨y1, y2⟩ := HZ.out (by omega)
    have Y2 : Hid _ := y2
    subst y1
    have e1 : (((nx + nz : Nat) : Int) == (nx : Int) + (nz : Int)) = true := by simp
    clear y2 HZ
    go_wp2_with fail
    refine (KZ.out _).mono ?_
    rintro e w5 ⟨g5, rfl, hr5, hb5⟩
    have hz5 := hb5.size
    have hB5 : Below w.heap.size w w5 := hB4.trans (hb5.mono (by omega))
    have hr3'' := hr3'.below hb5
    clear hb5 hB4 hr3'
    by_cases hn0 : nz = 0
    · subst hn0
      go_wp2_with fail
      refine (same_zero _ _ _ _ _).mono ?_
      rintro e w6 ⟨rfl, hb6⟩
      have hz6 := hb6.size
      have hB6 : Below w.heap.size w w6 := hB5.trans (hb6.mono (by omega))
      clear hb6 hB5
      go_wp2_with fail
      refine (awake_any _).mono ?_
      rintro e w7 ⟨rfl, hb7⟩
      have hB7 : Below w.heap.size w w7 := hB6.trans (hb7.mono (by omega))
      clear hb7 hB6
      go_wp2_with fail
      go_ret
      exact ⟨rfl, hB7⟩
    · go_wp2_with fail
      refine (same_any _ _ nz nz nz nz _ _ _ (by omega) (by omega) (by have h := hr3''.drop nx nz rfl; rw [Nat.zero_add] at h; exact h) hr5).mono ?_
      rintro e w6 ⟨rfl, hb6⟩
      rw [Y2.out, decide_eq_true (rfl : zs = zs)]
      have hz6 := hb6.size
      have hB6 : Below w.heap.size w w6 := hB5.trans (hb6.mono (by omega))
      clear hb6 hB5
      go_wp2_with fail
      refine (awake_any _).mono ?_
      rintro e w7 ⟨rfl, hb7⟩
      have hB7 : Below w.heap.size w w7 := hB6.trans (hb7.mono (by omega))
      clear hb7 hB6
      go_wp2_with fail
      go_ret
      exact ⟨rfl, hB7⟩

theorem joined_any (a b : ByteArray) (w : World) (ha : a.size ≤ 268435455) (hb : b.size ≤ 268435455) :
    Calls Try.prog 7 #[.string a, .string b] w fun e w' => e = .returned (.bool true) ∧ Below w.heap.size w w' := by
  have hw := wh_bd a
  have hz := size_ext a 0 (wh a) hw.1
  have hx := P_len (a.extract 0 (wh a))
  have hy := P_len (a ++ b)
  rw [size_app] at hy
  have hzz := P_len b
  obtain ⟨m, hm, hm2, hm3⟩ := points_whole a b
  refine joined_core a b (a.extract 0 (wh a)) (a ++ b) (wh a) (P (a.extract 0 (wh a))).length (P (a ++ b)).length (P b).length (((P (a.extract 0 (wh a))).map (dp (a.extract 0 (wh a)))).map (fun i : Nat => (i : Int))) (((P (a ++ b)).map (dp (a ++ b))).map (fun i : Nat => (i : Int))) (((P b).map (dp b)).map (fun i : Nat => (i : Int))) w ha hb hw.1 hw.2 rfl rfl (by omega) hy hzz (by omega)
    (fun w => whole_any a w (by omega)) (fun w => points_row _ w (by omega)) (fun w => points_row _ w (by rw [size_app]; omega)) (fun w => points_row _ w (by omega)) ?_ ?_
  · rw [← List.map_take, ← hm, hm3]
  · intro hv
    have he : a.extract 0 (wh a) = a := by rw [hv]; exact extract_all a
    obtain ⟨p1, p2⟩ := points_second a b hv he
    rw [he]
    exact ⟨p1, by rw [← List.map_drop, p2]⟩
end Go.Proofs.Ytgjbkdnefbnclaa
