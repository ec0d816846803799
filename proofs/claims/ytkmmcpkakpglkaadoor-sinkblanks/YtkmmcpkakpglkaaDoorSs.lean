import Derived.Test.YtkmmcpkakpglkaaDoorSr
set_option linter.unusedVariables false
set_option linter.unusedSimpArgs false
namespace Go.Proofs.YtkmmcpkakpglkaaDoor
open Go.RowKit
open Go.Lib (strCells strCells_length)

set_option maxHeartbeats 2000000 in
theorem deep_any (ao : Option Addr) (acts : List Act6) (cap : Nat) (w : World) (hs : Scr w ao acts) (hl : acts.length ≤ 9223372036854775807) :
    Calls Tryd.prog 16 #[.slice ao acts.length cap] w fun e w' => Vst (dsum acts acts.length ≤ 16777216) e w w' := by
  have HS : Hid (Scr w ao acts) := hs
  clear hs
  have A1 : Hid (∀ (n k : Int) (w : World), 0 ≤ n → 0 ≤ k → Calls Tryd.prog 32 #[.int .i64 n, .int .i64 k] w fun e w' => e = .returned (.int .i64 (addf n k)) ∧ w = w') := fun n k w h1 h2 => (add_any n k w h1 h2).mono fun e w' h => ⟨h.1, h.2.symm⟩
  go_enter Tryd.func16, Tryd.ntmps16
  go_wp2_with fail
  go_loopw [3, 4, 5] (fun n t i wr => ∃ (k : Nat) (z : Int), k ≤ acts.length ∧ n = .int .i64 z ∧ t = .int .i64 (atk acts k) ∧ i = .int .i64 k ∧ 0 ≤ z ∧ z ≤ 33554432 ∧ Hid (z ≤ 16777216 → z = (dsum acts k : Int)) ∧ wr = w) (fun _ _ i _ => acts.length - (intOf i).toNat)
  case atStart => exact ⟨0, 0, by omega, rfl, rfl, rfl, by omega, by omega, fun _ => rfl, rfl⟩
  case round =>
    obtain ⟨k, z, hk, rfl, rfl, rfl, hz1, hz2, HZ, hw⟩ := hrel
    have hw' := hw.symm
    subst hw'
    clear hw
    have hab := atk_le acts k
    by_cases hzm : z ≤ 16777216
    · by_cases hlt : k < acts.length
      · obtain ⟨a, ha⟩ : ∃ a, acts[k]? = some a := ⟨acts[k], List.getElem?_eq_getElem hlt⟩
        obtain ⟨hts, b, off, rfl, c0, c1, c2, c3⟩ := HS.out k a ha
        have q1 : (k : Int) < acts.length := by omega
        have hd := dsum_succ acts k
        have hz := HZ.out hzm
        have hak := atk_succ ha
        have hab2 := atk_le acts (k + 1)
        have hb1 := addf_bd z (atk acts (k + 1)) (by omega) (by omega)
        have HZ2 : Hid (addf z (atk acts (k + 1)) ≤ 16777216 → addf z (atk acts (k + 1)) = (dsum acts (k + 1) : Int)) := fun h => by
          obtain ⟨e1, l1⟩ := addf_small (by omega) (by omega) h
          rw [e1, hd, hz]; omega
        by_cases hn : a.kind = 3 ∧ 0 < a.n ∧ a.n ≤ 1048576
        · rw [if_pos hn] at hak
          obtain ⟨k3, n1, n2⟩ := hn
          have hat : a.n = (atk acts (k + 1) : Int) := by omega
          rw [hat] at c3 n1 n2
          rw [k3] at c0
          generalize hA : atk acts (k + 1) = A at *
          have HAK : Hid (atk acts (k + 1) = A) := hA
          clear HZ hz hd hak ha c1 c2 hat hA
          go_wp2_with fail
          refine (A1.out _ _ _ (by omega) (by omega)).mono ?_
          rintro e w1 ⟨rfl, rfl⟩
          generalize addf z A = y at *
          go_wp2_with fail
          exact ⟨⟨k + 1, y, hlt, rfl, by rw [HAK.out], by go_num, hb1.1, hb1.2, HZ2.out, by simp⟩, by simp [intOf]; omega⟩
        · rw [if_neg hn] at hak
          rw [hak] at hb1 HZ2
          by_cases k3 : a.kind = 3
          · by_cases n1 : 0 < a.n
            · have n2 : ¬ (a.n ≤ 1048576) := fun h => hn ⟨k3, n1, h⟩
              rw [k3] at c0
              have HAK : Hid (atk acts (k + 1) = atk acts k) := hak
              generalize atk acts k = A at *
              clear HZ hz hd hak ha c1 c2 hn hab2
              go_wp2_with fail
              refine (A1.out _ _ _ (by omega) (by omega)).mono ?_
              rintro e w1 ⟨rfl, rfl⟩
              generalize addf z A = y at *
              go_wp2_with fail
              exact ⟨⟨k + 1, y, hlt, rfl, by rw [HAK.out], by go_num, hb1.1, hb1.2, HZ2.out, by simp⟩, by simp [intOf]; omega⟩
            · rw [k3] at c0
              have HAK : Hid (atk acts (k + 1) = atk acts k) := hak
              generalize atk acts k = A at *
              clear HZ hz hd hak ha c1 c2 hn hab2
              go_wp2_with fail
              refine (A1.out _ _ _ (by omega) (by omega)).mono ?_
              rintro e w1 ⟨rfl, rfl⟩
              generalize addf z A = y at *
              go_wp2_with fail
              exact ⟨⟨k + 1, y, hlt, rfl, by rw [HAK.out], by go_num, hb1.1, hb1.2, HZ2.out, by simp⟩, by simp [intOf]; omega⟩
          · have q3 : (a.kind == 3) = false := by simp; omega
            have HAK : Hid (atk acts (k + 1) = atk acts k) := hak
            generalize atk acts k = A at *
            clear HZ hz hd hak ha c1 c2 hn hab2
            go_wp2_with fail
            refine (A1.out _ _ _ (by omega) (by omega)).mono ?_
            rintro e w1 ⟨rfl, rfl⟩
            generalize addf z A = y at *
            go_wp2_with fail
            exact ⟨⟨k + 1, y, hlt, rfl, by rw [HAK.out], by go_num, hb1.1, hb1.2, HZ2.out, by simp⟩, by simp [intOf]; omega⟩
      · obtain rfl : k = acts.length := by omega
        have q1 : ¬ ((acts.length : Int) < acts.length) := by omega
        have hZ := HZ.out hzm
        have HF : Hid (dsum acts acts.length ≤ 16777216) := by show _ ≤ _; omega
        have q2 : ¬ (16777216 < z) := by omega
        clear HZ hZ
        go_wp2_with fail
        go_ret
        exact ⟨false, rfl, fun _ => HF.out, rfl⟩
    · have q2 : 16777216 < z := by omega
      by_cases hlt : k < acts.length
      · have q1 : (k : Int) < acts.length := by omega
        clear HZ
        go_wp2_with fail
        go_ret
        exact ⟨true, rfl, (fun h => by cases h), rfl⟩
      · have q1 : ¬ ((k : Int) < acts.length) := by omega
        clear HZ
        go_wp2_with fail
        go_ret
        exact ⟨true, rfl, (fun h => by cases h), rfl⟩
end Go.Proofs.YtkmmcpkakpglkaaDoor
