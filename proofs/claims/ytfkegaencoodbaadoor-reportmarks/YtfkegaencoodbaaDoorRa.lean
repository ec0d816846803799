import Derived.Test.YtfkegaencoodbaaDoorRw
import Derived.Test.YtfkegaencoodbaaDoorEnc0
set_option linter.unusedVariables false
set_option linter.unusedSimpArgs false
namespace Go.Proofs.YtfkegaencoodbaaDoor
open Go.RowKit

/-! ### The reference: bytes and characters -/

def secLo (f : Int) : Int := if f = 224 then 160 else if f = 240 then 144 else 128
def secHi (f : Int) : Int := if f = 237 then 159 else if f = 244 then 143 else 191
def sec (f b : Int) : Bool := decide (secLo f ≤ b) && decide (b ≤ secHi f)

theorem ret_bool {a b : Bool} (h : a = b) : Ending.returned (.bool a) = .returned (.bool b) := by rw [h]

set_option maxHeartbeats 400000 in
theorem sec_any (f b : Int) (w : World) : Calls Tryd.prog 61 #[.int .i64 f, .int .i64 b] w fun e w' => e = .returned (.bool (sec f b)) ∧ w' = w := by
  have key : ∀ lo hi : Int, secLo f = lo → secHi f = hi → sec f b = (decide (lo ≤ b) && decide (b ≤ hi)) := by
    intro lo hi h1 h2
    unfold sec
    rw [h1, h2]
  by_cases h1 : f = 224
  · have e1 : (f == 224) = true := by simp [h1]
    have ek := key 160 191 (by unfold secLo; rw [if_pos h1]) (by unfold secHi; rw [if_neg (by omega), if_neg (by omega)])
    rw [ek]
    clear key ek h1
    by_cases hb : 160 ≤ b <;> (go_enter Tryd.func61, Tryd.ntmps61; go_wp2; go_ret; exact ⟨by first | (simp [hb]; done) | (simp [hb]; omega), rfl⟩)
  · have e1 : (f == 224) = false := by simp [h1]
    by_cases h2 : f = 237
    · have e2 : (f == 237) = true := by simp [h2]
      have ek := key 128 159 (by unfold secLo; rw [if_neg h1, if_neg (by omega)]) (by unfold secHi; rw [if_pos h2])
      rw [ek]
      clear key ek h1 h2
      by_cases hb : 128 ≤ b <;> (go_enter Tryd.func61, Tryd.ntmps61; go_wp2; go_ret; exact ⟨by first | (simp [hb]; done) | (simp [hb]; omega), rfl⟩)
    · have e2 : (f == 237) = false := by simp [h2]
      by_cases h3 : f = 240
      · have e3 : (f == 240) = true := by simp [h3]
        have ek := key 144 191 (by unfold secLo; rw [if_neg h1, if_pos h3]) (by unfold secHi; rw [if_neg h2, if_neg (by omega)])
        rw [ek]
        clear key ek h1 h2 h3
        by_cases hb : 144 ≤ b <;> (go_enter Tryd.func61, Tryd.ntmps61; go_wp2; go_ret; exact ⟨by first | (simp [hb]; done) | (simp [hb]; omega), rfl⟩)
      · have e3 : (f == 240) = false := by simp [h3]
        by_cases h4 : f = 244
        · have e4 : (f == 244) = true := by simp [h4]
          have ek := key 128 143 (by unfold secLo; rw [if_neg h1, if_neg h3]) (by unfold secHi; rw [if_neg h2, if_pos h4])
          rw [ek]
          clear key ek h1 h2 h3 h4
          by_cases hb : 128 ≤ b <;> (go_enter Tryd.func61, Tryd.ntmps61; go_wp2; go_ret; exact ⟨by first | (simp [hb]; done) | (simp [hb]; omega), rfl⟩)
        · have e4 : (f == 244) = false := by simp [h4]
          have ek := key 128 191 (by unfold secLo; rw [if_neg h1, if_neg h3]) (by unfold secHi; rw [if_neg h2, if_neg h4])
          rw [ek]
          clear key ek h1 h2 h3 h4
          by_cases hb : 128 ≤ b <;> (go_enter Tryd.func61, Tryd.ntmps61; go_wp2; go_ret; exact ⟨by first | (simp [hb]; done) | (simp [hb]; omega), rfl⟩)

def lng (f : Int) : Int := if f ≤ 127 then 1 else if 194 ≤ f ∧ f ≤ 223 then 2 else if 224 ≤ f ∧ f ≤ 239 then 3 else if 240 ≤ f ∧ f ≤ 244 then 4 else 0

set_option maxHeartbeats 400000 in
theorem long_any (f : Int) (w : World) : Calls Tryd.prog 43 #[.int .i64 f] w fun e w' => e = .returned (.int .i64 (lng f)) ∧ w' = w := by
  unfold lng
  by_cases h1 : f ≤ 127
  · rw [if_pos h1]
    go_enter Tryd.func43, Tryd.ntmps43
    go_wp2
    go_ret
    exact ⟨rfl, rfl⟩
  · rw [if_neg h1]
    by_cases h2 : 194 ≤ f
    · by_cases h3 : f ≤ 223
      · rw [if_pos ⟨h2, h3⟩]
        go_enter Tryd.func43, Tryd.ntmps43
        go_wp2
        go_ret
        exact ⟨rfl, rfl⟩
      · rw [if_neg (by omega)]
        by_cases h4 : f ≤ 239
        · rw [if_pos (by omega)]
          have h5 : 224 ≤ f := by omega
          go_enter Tryd.func43, Tryd.ntmps43
          go_wp2
          go_ret
          exact ⟨rfl, rfl⟩
        · rw [if_neg (by omega)]
          have h5 : 224 ≤ f := by omega
          have h6 : 240 ≤ f := by omega
          by_cases h7 : f ≤ 244
          · rw [if_pos (by omega)]
            go_enter Tryd.func43, Tryd.ntmps43
            go_wp2
            go_ret
            exact ⟨rfl, rfl⟩
          · rw [if_neg (by omega)]
            go_enter Tryd.func43, Tryd.ntmps43
            go_wp2
            go_ret
            exact ⟨rfl, rfl⟩
    · rw [if_neg (by omega), if_neg (by omega), if_neg (by omega)]
      go_enter Tryd.func43, Tryd.ntmps43
      go_wp2
      go_ret
      exact ⟨rfl, rfl⟩

theorem by8_get (s : ByteArray) (n : Nat) (h : n < s.size) : (s[n]'h).toNat = by8 s n := by
  unfold by8
  have := get_at s n h
  rw [Nat.add_zero] at this
  rw [this]

/-- Whether the byte i behind a first one may stand there. -/
def okb (s : ByteArray) (a i : Nat) : Bool := decide (128 ≤ by8 s (a + i)) && decide (by8 s (a + i) ≤ 191) && (i != 1 || sec (by8 s a) (by8 s (a + i)))
def fitF (s : ByteArray) (a n : Nat) : Nat → Nat → Bool
  | 0, _ => true
  | f + 1, i => if i < n ∧ a + i < s.size then (if okb s a i = true then fitF s a n f (i + 1) else false) else true
def fit (s : ByteArray) (a n : Nat) : Bool := fitF s a n 4 1

set_option maxHeartbeats 1000000 in
theorem fits_any (s : ByteArray) (a n : Nat) (w : World) (hs : s.size ≤ 2147483647) (ha : a < s.size) (hn : n ≤ 4) :
    Calls Tryd.prog 44 #[.string s, .int .i64 a, .int .i64 n] w fun e w' => e = .returned (.bool (fit s a n)) ∧ w' = w := by
  have hb0 := by8_get s a ha
  have hl0 := by8_lt s a
  generalize hB0 : by8 s a = b0 at *
  have HB0 : Hid (by8 s a = b0) := hB0
  clear hB0
  go_enter Tryd.func44, Tryd.ntmps44
  go_wp2_with fail
  go_loopw [8] (fun i wr => ∃ k : Nat, 1 ≤ k ∧ k ≤ 5 ∧ i = .int .i64 k ∧ fitF s a n (5 - k) k = fit s a n ∧ wr = w) (fun i _ => 5 - (intOf i).toNat)
  case atStart => exact ⟨1, by omega, by omega, rfl, rfl, rfl⟩
  case round =>
    obtain ⟨k, hk1, hk5, rfl, hr, rfl⟩ := hrel
    have HR : Hid _ := hr
    clear hr
    by_cases h1 : k < n
    · by_cases h2 : a + k < s.size
      · obtain ⟨f, hf⟩ : ∃ f, 5 - k = f + 1 := ⟨4 - k, by omega⟩
        have h3 := by8_get s (a + k) h2
        have h4 := by8_lt s (a + k)
        have hr2 := HR.out
        rw [hf] at hr2
        unfold fitF at hr2
        rw [if_pos ⟨h1, h2⟩] at hr2
        have hf2 : f = 5 - (k + 1) := by omega
        subst hf2
        unfold okb at hr2
        rw [HB0.out] at hr2
        generalize by8 s (a + k) = b at *
        have HR2 : Hid _ := hr2
        clear hr2 HR hf
        by_cases q1 : b < 128
        · have HF : Hid (fit s a n = false) := by
            show _ = _
            rw [← HR2.out, if_neg (by simp; omega)]
          clear HR2
          go_wp2_with fail
          go_ret
          exact ⟨by rw [HF.out]; rfl, rfl⟩
        · by_cases q2 : 191 < b
          · have HF : Hid (fit s a n = false) := by
              show _ = _
              rw [← HR2.out, if_neg (by simp; omega)]
            clear HR2
            go_wp2_with fail
            go_ret
            exact ⟨by rw [HF.out]; rfl, rfl⟩
          · by_cases q3 : k = 1
            · subst q3
              go_wp2_with fail
              refine (sec_any _ _ _).mono ?_
              rintro e w2 ⟨rfl, rfl⟩
              have hq : (decide (128 ≤ b) && decide (b ≤ 191)) = true := by simp; omega
              have hr3 := HR2.out
              rw [hq] at hr3
              clear HR2 hq
              generalize sec (b0 : Int) (b : Int) = g at *
              cases g with
              | true =>
                have HF : Hid (fitF s a n (5 - 2) 2 = fit s a n) := by
                  show _ = _
                  rw [← hr3, if_pos (by simp)]
                clear hr3
                go_wp2_with fail
                exact ⟨⟨2, by omega, by omega, rfl, HF.out, trivial⟩, by simp [intOf]⟩
              | false =>
                have HF : Hid (fit s a n = false) := by
                  show _ = _
                  rw [← hr3, if_neg (by simp)]
                clear hr3
                go_wp2_with fail
                go_ret
                exact ⟨by rw [HF.out]; rfl, rfl⟩
            · have HF : Hid (fitF s a n (5 - (k + 1)) (k + 1) = fit s a n) := by
                show _ = _
                rw [← HR2.out, if_pos (by simp; omega)]
              clear HR2
              go_wp2_with fail
              exact ⟨⟨k + 1, by omega, by omega, by go_num, HF.out, trivial⟩, by simp [intOf]; omega⟩
      · have HF : Hid (fit s a n = true) := by
          show _ = _
          rw [← HR.out]
          obtain ⟨f, hf⟩ : ∃ f, 5 - k = f + 1 := ⟨4 - k, by omega⟩
          rw [hf]
          unfold fitF
          rw [if_neg (by omega)]
        clear HR
        go_wp2_with fail
        go_ret
        exact ⟨by rw [HF.out]; rfl, rfl⟩
    · have HF : Hid (fit s a n = true) := by
        show _ = _
        rw [← HR.out]
        cases hf : 5 - k with
        | zero => rfl
        | succ f =>
          unfold fitF
          rw [if_neg (by omega)]
      clear HR
      go_wp2_with fail
      go_ret
      exact ⟨by rw [HF.out]; rfl, rfl⟩
end Go.Proofs.YtfkegaencoodbaaDoor
