import Derived.Test.YtfkegaencoodbaaDoorUa
set_option linter.unusedVariables false
set_option linter.unusedSimpArgs false
namespace Go.Proofs.YtfkegaencoodbaaDoor
open Go.RowKit

/-! The document's shown. -/
def cfB (s : ByteArray) (f : Int) : Int := if 0 ≤ f ∧ f ≤ (P s).length then tw (shB s f.toNat) else 0
/-- The columns, so far. -/
def cfK (s : ByteArray) (f : Int) (k : Nat) : Int := if 0 ≤ f ∧ f < k then tw (shB s f.toNat) else 0
theorem cfK_at {s : ByteArray} {f : Int} {k : Nat} (h : (k : Int) = f) : cfK s f (k + 1) = tw (shB s k) := by
  subst h
  unfold cfK
  rw [if_pos (by omega), Int.toNat_natCast]
theorem cfK_ne {s : ByteArray} {f : Int} {k : Nat} (h : ¬ (k : Int) = f) : cfK s f (k + 1) = cfK s f k := by
  unfold cfK
  by_cases h1 : 0 ≤ f ∧ f < k
  · rw [if_pos h1, if_pos (by omega)]
  · rw [if_neg h1, if_neg (by omega)]
theorem cfK_end (s : ByteArray) (f : Int) : cfK s f ((P s).length + 1) = cfB s f := by
  unfold cfK cfB
  by_cases h1 : 0 ≤ f ∧ f ≤ (P s).length
  · rw [if_pos h1, if_pos (by omega)]
  · rw [if_neg h1, if_neg (by omega)]
theorem cfK_bd (s : ByteArray) (f : Int) (k : Nat) (hk : k ≤ 200000000) : 0 ≤ cfK s f k ∧ cfK s f k ≤ 10000000000 := by
  unfold cfK
  split
  · have h1 := tw_bd (shB s f.toNat)
    have h2 := shB_sz s f.toNat
    omega
  · omega
structure SH (W wr : World) (s : ByteArray) (k : Nat) (u : Value) : Prop where
  bel : Below W.heap.size W wr
  row : Rb8 W.heap.size wr u (shB s k)
theorem SH.on {W wr V : World} {s : ByteArray} {k : Nat} {u : Value} (h : SH W wr s k u) (hb : Below wr.heap.size wr V) : SH W V s k u := ⟨h.bel.trans (hb.mono h.bel.size), h.row.below hb⟩
set_option maxHeartbeats 2000000 in
set_option maxRecDepth 100000 in
theorem rshown_any (s : ByteArray) (f : Int) (W : World) (hs : s.size ≤ 100000000) :
    Calls Tryd.prog 16 #[.string s, .int .i64 f] W fun e w' => e = .returned (.tuple #[.string (shB s (P s).length), .int .i64 (cfB s f)]) ∧ Below W.heap.size W w' := by
  have hP := P_len s
  have HX : Hid (∀ (t : ByteArray) V, t.size ≤ 2147483647 → Calls Tryd.prog 27 #[.string t] V fun e w' => e = .returned (.int .i64 (tw t)) ∧ Below V.heap.size V w') := fun t V h => rtext_any t V h
  have HN : Hid (∀ (a : Nat) V, a < s.size → Calls Tryd.prog 28 #[.string s, .int .i64 a] V fun e w' => e = .returned (.tuple #[.int .i64 (dp s a), .int .i64 (dw s a), .bool (gd s a)]) ∧ w' = V) := fun a V h => by
    have := rnext_in s a V (by omega) (by omega) (by omega)
    rw [Int.toNat_natCast] at this
    exact this
  go_enter Tryd.func16, Tryd.ntmps16
  go_wp2_with fail
  go_loopw [6, 7, 8, 9] (fun u c n i wr => ∃ k : Nat, k ≤ (P s).length ∧ i = .int .i64 (st s k) ∧ n = .int .i64 k ∧ c = .int .i64 (cfK s f k) ∧ Hid (SH W wr s k u)) (fun _ _ n _ _ => (P s).length - (intOf n).toNat)
  case atStart => exact ⟨0, Nat.zero_le _, rfl, rfl, by unfold cfK; rw [if_neg (by omega)], ⟨Below.refl _ _, r8_nil _ _⟩⟩
  case round =>
    obtain ⟨k, hk, rfl, rfl, rfl, HJ⟩ := hrel
    have hsz := shB_sz s k
    obtain ⟨pu, nu, cu, rfl⟩ : ∃ p n c, u6 = .slice p n c := by
      rcases HJ.out.row.2 with ⟨rfl, _⟩ | ⟨g, cap, cur, rfl, _⟩
      · exact ⟨_, _, _, rfl⟩
      · exact ⟨_, _, _, rfl⟩
    by_cases hlt : k < (P s).length
    · have hst := (st_lt s k).2 hlt
      have q1 : (st s k : Int) < s.size := by omega
      obtain ⟨a, ha⟩ : ∃ a, st s k = a := ⟨_, rfl⟩
      have hds := dw_facts s a (by omega)
      have hsu : st s (k + 1) = a + dw s a := by rw [st_succ s k hlt, ha]
      have hse : shB s (k + 1) = shB s k ++ chB s a := by rw [← ha]; rfl
      have hcz := chB_sz s a
      rw [ha] at q1 hst ⊢
      obtain ⟨c1, hc1⟩ : ∃ c1, cfK s f (k + 1) = c1 := ⟨_, rfl⟩
      have HC : Hid (cfK s f (k + 1) = c1) := hc1
      by_cases hf : (k : Int) = f
      case' pos =>
        have hcv := conv_b8 wr _ _ _ HJ.out.row
        rw [cfK_at hf] at hc1
        have q2 : ((k : Int) == f) = true := by simpa using hf
        obtain ⟨X, hX⟩ : ∃ X, shB s k = X := ⟨_, rfl⟩
        have HT : Hid (∀ V, Calls Tryd.prog 27 #[.string X] V fun e w' => e = .returned (.int .i64 c1) ∧ Below V.heap.size V w') := fun V => by rw [← hX, ← hc1]; exact HX.out _ V (by omega)
        rw [hX] at hcv
        clear hc1 hf
        go_wp2_with fail
        refine (HT.out _).mono ?_
        rintro e w1 ⟨rfl, hb1⟩
        have H1 := show Hid _ from HJ.out.on hb1
        clear hb1 HT hcv HJ q2
        rw [hX] at hse
        have HE : Hid (shB s k = X) := hX
        clear hX
      case' neg =>
        rw [cfK_ne hf] at hc1
        have q2 : ((k : Int) == f) = false := by simpa using hf
        rw [hc1]
        obtain ⟨X, hX⟩ : ∃ X, shB s k = X := ⟨_, rfl⟩
        obtain ⟨w1, hw1⟩ : ∃ w1, w1 = wr := ⟨_, rfl⟩
        subst hw1
        have H1 := show Hid _ from HJ.out
        rw [hX] at hse
        have HE : Hid (shB s k = X) := hX
        clear hX hc1 hf HJ
      all_goals (
        have hxs : X.size ≤ 400000000 := by rw [← HE.out]; omega
        clear hsz
        go_wp2_with fail
        refine (HN.out _ _ hst).mono ?_
        rintro e w2 ⟨rfl, hw⟩
        replace hw := hw.symm
        subst hw
        obtain ⟨g, hg⟩ : ∃ g, gd s a = g := ⟨_, rfl⟩
        rw [hg]
        obtain ⟨d, hd⟩ : ∃ d, dp s a = d := ⟨_, rfl⟩
        rw [hd]
        obtain ⟨n, hn⟩ : ∃ n, dw s a = n := ⟨_, rfl⟩
        rw [hn] at hds hsu ⊢
        obtain ⟨b, hb⟩ : ∃ b, a + n = b := ⟨_, rfl⟩
        have hq3 : (a : Int) + n = b := by omega
        have hb2 : b ≤ s.size := by omega
        have hab : a ≤ b := by omega
        rw [hb] at hsu
        have HU : Hid (st s (k + 1) = b) := hsu
        clear hsu
        cases g
        · have hch : chB s a = ⟨#[239, 191, 189]⟩ := by unfold chB; rw [if_pos hg]
          rw [hch] at hse
          have hal : Below w1.heap.size w1 (w1.alloc (.cells #[.int .u8 239, .int .u8 191, .int .u8 189] 5)) := (Below.refl _ _).alloc (Nat.le_refl _) _
          have HR : Hid (Rb8 W.heap.size (w1.alloc (.cells #[.int .u8 239, .int .u8 191, .int .u8 189] 5)) (.slice pu nu cu) X ∧ W.heap.size ≤ (w1.alloc (.cells #[.int .u8 239, .int .u8 191, .int .u8 189] 5)).heap.size) := ⟨by rw [← HE.out]; exact H1.out.row.below hal, Nat.le_trans H1.out.bel.size hal.size⟩
          have HQ : Hid (∀ v w5, Rb8 W.heap.size w5 v (X ++ ⟨#[239, 191, 189]⟩) → Below W.heap.size (w1.alloc (.cells #[.int .u8 239, .int .u8 191, .int .u8 189] 5)) w5 → SH W w5 s (k + 1) v) := fun v w5 h1 h2 => ⟨(H1.out.bel.trans (hal.mono H1.out.bel.size)).trans h2, by rw [hse]; exact h1⟩
          clear hch hse hal H1 hg hd hn HN HX hcz
          go_wp2_with (at_builtin; refine app_bs (by rfl) _ _ (by rfl) W.heap.size (.slice pu nu cu) X ⟨#[239, 191, 189]⟩ (by rfl) HR.out.1 w1.heap.size 3 (by rfl) (new_at _ _) (by show X.size + 3 ≤ _; omega) HR.out.2 ?_; intro v' w5 h1 h2 h3; have H5 := show Hid _ from HQ.out v' w5 h1 h2; clear h1 h2 h3)
          exact ⟨⟨k + 1, hlt, by rw [HU.out], by go_num, by rw [HC.out], H5⟩, by simp [intOf]; omega⟩
        · by_cases h1 : d < 32 ∨ d = 127
          · have hch : chB s a = ⟨#[32]⟩ := by unfold chB; rw [if_neg (by rw [hg]; decide), if_pos (by rw [hd]; exact h1)]
            rw [hch] at hse
            have hal : Below w1.heap.size w1 (w1.alloc (.cells #[.int .u8 32] 5)) := (Below.refl _ _).alloc (Nat.le_refl _) _
            have HR : Hid (Rb8 W.heap.size (w1.alloc (.cells #[.int .u8 32] 5)) (.slice pu nu cu) X ∧ W.heap.size ≤ (w1.alloc (.cells #[.int .u8 32] 5)).heap.size) := ⟨by rw [← HE.out]; exact H1.out.row.below hal, Nat.le_trans H1.out.bel.size hal.size⟩
            have HQ : Hid (∀ v w5, Rb8 W.heap.size w5 v (X ++ ⟨#[32]⟩) → Below W.heap.size (w1.alloc (.cells #[.int .u8 32] 5)) w5 → SH W w5 s (k + 1) v) := fun v w5 h1 h2 => ⟨(H1.out.bel.trans (hal.mono H1.out.bel.size)).trans h2, by rw [hse]; exact h1⟩
            clear hch hse hal H1 hg hd hn HN HX hcz
            by_cases h2 : d < 32
            case' pos => have q5 : (d : Int) < 32 := by omega
            case' neg =>
              have q5 : ¬ (d : Int) < 32 := by omega
              have q6 : ((d : Int) == 127) = true := by simp; omega
            all_goals (
              clear h1 h2
              go_wp2_with (at_builtin; refine app_bs (by rfl) _ _ (by rfl) W.heap.size (.slice pu nu cu) X ⟨#[32]⟩ (by rfl) HR.out.1 w1.heap.size 1 (by rfl) (new_at _ _) (by show X.size + 1 ≤ _; omega) HR.out.2 ?_; intro v' w5 h1 h2 h3; have H5 := show Hid _ from HQ.out v' w5 h1 h2; clear h1 h2 h3)
              exact ⟨⟨k + 1, hlt, by rw [HU.out], by go_num, by rw [HC.out], H5⟩, by simp [intOf]; omega⟩)
          · have hch : chB s a = s.extract a b := by unfold chB; rw [if_neg (by rw [hg]; decide), if_neg (by rw [hd]; exact h1), hn, hb]
            rw [hch] at hse
            have ze : (s.extract a b).size = b - a := by rw [ByteArray.size_extract]; omega
            have HR : Hid (Rb8 W.heap.size w1 (.slice pu nu cu) X ∧ W.heap.size ≤ w1.heap.size) := ⟨by rw [← HE.out]; exact H1.out.row, H1.out.bel.size⟩
            have HQ : Hid (∀ v w5, Rb8 W.heap.size w5 v (X ++ s.extract a b) → Below W.heap.size w1 w5 → SH W w5 s (k + 1) v) := fun v w5 h1 h2 => ⟨H1.out.bel.trans h2, by rw [hse]; exact h1⟩
            have q5 : ¬ (d : Int) < 32 := by omega
            have q6 : ((d : Int) == 127) = false := by simp; omega
            clear hch hse H1 hg hd hn HN HX hcz h1
            go_wp2_with (at_builtin; refine app_str (by rfl) _ _ (by rfl) W.heap.size (.slice pu nu cu) X (s.extract a b) (by rfl) HR.out.1 (by rfl) (by omega) HR.out.2 ?_; intro v' w5 h1 h2 h3; have H5 := show Hid _ from HQ.out v' w5 h1 h2; clear h1 h2 h3)
            exact ⟨⟨k + 1, hlt, by rw [HU.out], by go_num, by rw [HC.out], H5⟩, by simp [intOf]; omega⟩)
    · obtain rfl : k = (P s).length := by omega
      have hst := st_end s (P s).length (Nat.le_refl _)
      rw [hst]
      have q1 : ¬ ((s.size : Int) < s.size) := by omega
      have hcv := conv_b8 wr _ _ _ HJ.out.row
      obtain ⟨X, hX⟩ : ∃ X, shB s (P s).length = X := ⟨_, rfl⟩
      obtain ⟨c1, hc1⟩ : ∃ c1, cfB s f = c1 := ⟨_, rfl⟩
      obtain ⟨c0, hc0⟩ : ∃ c0, cfK s f (P s).length = c0 := ⟨_, rfl⟩
      rw [hX] at hcv hsz
      rw [hc0]
      have he := cfK_end s f
      have HQ : Hid (shB s (P s).length = X ∧ cfB s f = c1) := ⟨hX, hc1⟩
      obtain ⟨L, hL⟩ : ∃ L, (P s).length = L := ⟨_, rfl⟩
      rw [hL] at he hsz hc0 hP ⊢
      by_cases hf : (L : Int) = f
      · rw [cfK_at hf, ← hL, hX] at he
        have q2 : ((L : Int) == f) = true := by simpa using hf
        have HT : Hid (∀ V, Calls Tryd.prog 27 #[.string X] V fun e w' => e = .returned (.int .i64 c1) ∧ Below V.heap.size V w') := fun V => by rw [← hc1, ← he]; exact HX.out _ V (by omega)
        have HR : Hid (∀ V, Below wr.heap.size wr V → (convert 50 9 (.slice pu nu cu)).run Tryd.prog V = .ok (.string X) V ∧ Below W.heap.size W V) := fun V hb => ⟨by rw [← hX]; exact conv_b8 V _ _ _ (HJ.out.on hb).row, (HJ.out.on hb).bel⟩
        clear he hf hX hc1 hc0 HJ HX HN hL hst
        go_wp2_with fail
        refine (HT.out _).mono ?_
        rintro e w1 ⟨rfl, hb1⟩
        obtain ⟨hcv2, hbw⟩ := HR.out w1 hb1
        have HB : Hid (Below W.heap.size W w1) := hbw
        clear hcv hb1 hbw HR HT
        go_wp2_with fail
        go_ret2
        exact ⟨by rw [HQ.out.1, HQ.out.2]; rfl, HB.out⟩
      · rw [cfK_ne hf, hc0, hc1] at he
        subst he
        have q2 : ((L : Int) == f) = false := by simpa using hf
        clear hf hX hc1 hc0 HX HN hL hst
        go_wp2_with fail
        go_ret2
        exact ⟨by rw [HQ.out.1, HQ.out.2]; rfl, HJ.out.bel⟩

end Go.Proofs.YtfkegaencoodbaaDoor
