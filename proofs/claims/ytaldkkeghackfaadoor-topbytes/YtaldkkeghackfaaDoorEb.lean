import Derived.Test.YtaldkkeghackfaaDoorCf
import Derived.Test.YtaldkkeghackfaaDoorEa
set_option linter.unusedVariables false
set_option linter.unusedSimpArgs false
namespace Go.Proofs.YtaldkkeghackfaaDoor
open Go.RowKit

def snS : ByteArray := ⟨#[97, 32, 123, 120, 125, 32, 195, 169]⟩
def snC : ByteArray := ⟨#[97, 255, 195, 169]⟩
def snL : List Tv := [⟨1, ⟨#[97]⟩, 0, 1, 1, 0⟩, ⟨8, ⟨#[123, 120, 125]⟩, 2, 1, 3, 0⟩, ⟨1, ⟨#[195, 169]⟩, 6, 1, 7, 0⟩]
theorem sn1 : (scn snS).1.map (tv snS) = snL := by kernel_rfl
theorem sn2 : (scn snS).2.1 = 0 := by kernel_rfl
theorem sn3 : (P snC).length = 3 := by kernel_rfl

set_option maxHeartbeats 1000000 in
theorem seen_any (w : World) (hT : Kab w) : Calls Tryd.prog 17 #[] w fun e w' => e = .returned (.bool true) ∧ Below w.heap.size w w' := by
  have H1 : Hid (Calls Tryd.prog 9 #[.string ⟨#[97, 32, 123, 120, 125, 32, 195, 169]⟩] w fun e w' => (∃ p c, e = .returned (.tuple #[.slice p 3 c, .int .i64 0, .agg #[.int .i64 0, .int .i64 0, .int .i64 0]]) ∧ Lt w' p snL) ∧ Below w.heap.size w w') := by
    refine (all_any snS w hT (by decide)).mono ?_
    rintro e w' ⟨⟨v, rfl, hr⟩, hb⟩
    rw [sn1] at hr
    obtain ⟨p, c, rfl, hL, _⟩ := Lt.row hr
    refine ⟨⟨p, c, ?_, hL⟩, hb⟩
    rw [sn2]
    rfl
  have H2 : Hid (∀ W, Calls Tryd.prog 31 #[.string ⟨#[97, 255, 195, 169]⟩] W fun e w' => e = .returned (.int .i64 3) ∧ Below W.heap.size W w') := fun W => by
    have h := count_in snC W (by unfold maxLen; decide)
    rw [sn3] at h
    exact h
  clear hT
  go_enter Tryd.func17, Tryd.ntmps17
  go_wp2_with (first | (go_at_call 9; refine H1.out.mono ?_; rintro e w1 ⟨⟨p1, c1, rfl, hL1⟩, hb1⟩) | (go_at_call 31; refine (H2.out _).mono ?_; rintro e w2 ⟨rfl, hb2⟩; have hL2 := (hL1.below ((Below.refl _ _).alloc (Nat.le_refl _) (.cells #[.int .i64 0, .int .i64 0, .int .i64 0] 26))).below hb2; obtain ⟨b, off, hp, x0, _⟩ := hL2 1 _ rfl; obtain ⟨b', off', hp', _, y1, _⟩ := hL2 2 _ rfl; rw [hp] at hp'; cases hp'; subst hp))
  go_ret
  exact ⟨rfl, (hb1.alloc hb1.size _).trans (hb2.mono (hb1.alloc hb1.size _).size)⟩

theorem by8_mid (s : ByteArray) (a b k : Nat) (hb : b ≤ s.size) (hk : a + k < b) (h : k < (s.extract a b).size) : ((s.extract a b)[k]'h).toNat = by8 s (a + k) := by
  rw [by8_at, by8_ext' s a b k (by omega)]

set_option maxHeartbeats 1000000 in
/-- Blanks and line ends alone. -/
theorem bonly_p (s : ByteArray) (a b n : Nat) (w : World) (hs : s.size ≤ 2147483647) (hg : gap s a b n) :
    Calls Tryd.prog 18 #[.string (s.extract a b)] w fun e w' => e = .returned (.tuple #[.int .i64 n, .bool true]) ∧ w' = w := by
  obtain ⟨g1, g2, g3, g4⟩ := hg
  have hz : (s.extract a b).size = b - a := size_ext s a b g2
  have HB : Hid (∀ k (h : k < (s.extract a b).size), ((s.extract a b)[k]'h).toNat = by8 s (a + k)) := fun k h => by8_mid s a b k g2 (by omega) h
  have HG : Hid (∀ k, k < (s.extract a b).size → by8 s (a + k) = 10 ∨ tkBl (by8 s (a + k)) = true) := fun k h => g3 (a + k) (by omega) (by omega)
  have HN : Hid (cn s (a + (s.extract a b).size) = cn s a + n) := by show _ = _; rw [hz, show a + (b - a) = b by omega]; exact g4
  have hX : (s.extract a b).size ≤ 2147483647 := by omega
  clear g3 g4 hz
  generalize s.extract a b = X at *
  go_enter Tryd.func18, Tryd.ntmps18
  go_wp2_with fail
  go_loopw [4, 5] (fun n i wr => ∃ k m : Nat, k ≤ X.size ∧ m ≤ k ∧ n = .int .i64 m ∧ i = .int .i64 k ∧ wr = w ∧ Hid (cn s (a + k) = cn s a + m)) (fun _ i _ => X.size - (intOf i).toNat)
  case atStart => exact ⟨0, 0, Nat.zero_le _, Nat.zero_le _, rfl, rfl, rfl, rfl⟩
  case round =>
    obtain ⟨k, m, k1, k3, rfl, rfl, hw, HC⟩ := hrel
    subst hw
    by_cases hlt : k < X.size
    · have q3 : (k : Int) < X.size := by omega
      have q4 : (0 : Int) ≤ k := by omega
      have hcs := cn_step s (a + k)
      have e0 := HB.out k hlt
      by_cases h10 : by8 s (a + k) = 10
      · have e10 : (((X[k]'hlt).toNat : Int) == 10) = true := by rw [e0, h10]; rfl
        have HC2 : Hid (cn s (a + (k + 1)) = cn s a + (m + 1)) := by
          have h9 := HC.out
          rcases hcs with ⟨_, e⟩ | ⟨e, _⟩
          · show _ = _; rw [← Nat.add_assoc]; omega
          · exact absurd h10 e
        clear HC hcs h10 e0
        go_wp2_with fail
        exact ⟨⟨k + 1, m + 1, hlt, by omega, by go_num, by go_num, trivial, HC2⟩, by simp [intOf]; omega⟩
      · have hbl : tkBl (by8 s (a + k)) = true := by
          rcases HG.out k hlt with h | h
          · exact absurd h h10
          · exact h
        have e10 : (((X[k]'hlt).toNat : Int) == 10) = false := by rw [beq_eq_false_iff_ne, e0]; omega
        have HC2 : Hid (cn s (a + (k + 1)) = cn s a + m) := by
          have h9 := HC.out
          rcases hcs with ⟨e, _⟩ | ⟨_, e⟩
          · exact absurd e h10
          · show _ = _; rw [← Nat.add_assoc]; omega
        have h3 : by8 s (a + k) = 32 ∨ by8 s (a + k) = 9 ∨ by8 s (a + k) = 13 := by
          unfold tkBl at hbl
          simp at hbl
          omega
        rcases h3 with h3 | h3 | h3
        · have e1 : (((X[k]'hlt).toNat : Int) != 32) = false := by rw [e0, h3]; rfl
          clear HC hcs h10 e0 hbl h3
          go_wp2_with fail
          exact ⟨⟨k + 1, m, hlt, by omega, by go_num, by go_num, trivial, HC2⟩, by simp [intOf]; omega⟩
        · have e1 : (((X[k]'hlt).toNat : Int) != 32) = true := by rw [e0, h3]; rfl
          have e2 : (((X[k]'hlt).toNat : Int) != 9) = false := by rw [e0, h3]; rfl
          clear HC hcs h10 e0 hbl h3
          go_wp2_with fail
          exact ⟨⟨k + 1, m, hlt, by omega, by go_num, by go_num, trivial, HC2⟩, by simp [intOf]; omega⟩
        · have e1 : (((X[k]'hlt).toNat : Int) != 32) = true := by rw [e0, h3]; rfl
          have e2 : (((X[k]'hlt).toNat : Int) != 9) = true := by rw [e0, h3]; rfl
          have e3 : (((X[k]'hlt).toNat : Int) != 13) = false := by rw [e0, h3]; rfl
          clear HC hcs h10 e0 hbl h3
          go_wp2_with fail
          exact ⟨⟨k + 1, m, hlt, by omega, by go_num, by go_num, trivial, HC2⟩, by simp [intOf]; omega⟩
    · obtain rfl : k = X.size := by omega
      have q3 : ¬ (X.size : Int) < X.size := by omega
      obtain rfl : m = n := by
        have h9 := HC.out
        have h8 := HN.out
        omega
      go_wp2_with fail
      refine bodyPost_ret (v := .tuple #[.int .i64 m, .bool true]) (by simp [results, Tryd.f18, go_sem]) rfl ?_
      exact ⟨rfl, rfl⟩

end Go.Proofs.YtaldkkeghackfaaDoor
