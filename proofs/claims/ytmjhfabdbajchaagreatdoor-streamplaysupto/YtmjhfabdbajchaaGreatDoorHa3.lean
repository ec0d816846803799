import Derived.Test.YtmjhfabdbajchaaGreatDoorHa2
import Derived.Test.YtmjhfabdbajchaaGreatDoorHa1
import Derived.Test.YtmjhfabdbajchaaGreatDoorG7
set_option linter.unusedVariables false
set_option linter.unusedSimpArgs false
namespace Go.Proofs.YtmjhfabdbajchaaGreatDoor
open Go.RowKit

def bg0 : Dc := ⟨6, bE, 0, 0, false⟩
theorem chk_two (d : Dc) : decide ((chk [bg0, d]).2 ≠ 1) = rt d := by
  have h0 : rt bg0 = true := by decide +kernel
  have hd : 0 ≤ 1 + dep d.k := by unfold dep; split; omega; split <;> omega
  have e2 : frm 0 0 [bg0, d] = if rt d = true ∧ 0 ≤ 1 + dep d.k then frm (1 + dep d.k) 2 [] else some 1 := by
    have : frm 0 0 [bg0, d] = if rt bg0 = true ∧ 0 ≤ 0 + dep bg0.k then frm (0 + dep bg0.k) 1 [d] else some 0 := rfl
    rw [this, if_pos ⟨h0, by decide⟩]
    rfl
  have key : (chk [bg0, d]).2 = 1 ↔ rt d = false := by
    rw [show chk [bg0, d] = ckr (frm 0 0 [bg0, d]) from chk_eq (by simp), e2]
    cases hr : rt d with
    | false => rw [if_neg (by simp)]; simp [ckr]
    | true =>
      rw [if_pos ⟨rfl, hd⟩]
      have : frm (1 + dep d.k) 2 [] = if 0 < 1 + dep d.k then some 2 else none := rfl
      rw [this]
      by_cases h : 0 < 1 + dep d.k
      · rw [if_pos h]; simp [ckr]
      · rw [if_neg h]; simp [ckr]
  cases hr : rt d with
  | false => exact decide_eq_false (fun h => h (key.2 hr))
  | true => exact decide_eq_true (fun h => by rw [key.1 h] at hr; cases hr)
theorem lay_two (w : World) (b : Nat) (d : Dc) (ht : d.t.size ≤ 9223372036854775807) (h : w.heap[b]? = some (.cells #[.int .u8 6, .string ⟨#[]⟩, .int .i64 0, .int .i64 0, .bool false, .int .u8 d.k, .string d.t, .int .i64 d.b, .int .i64 d.i, .bool d.e] 37 (0, 0))) : Lay w (some ⟨b, 0, none⟩) [bg0, d] := by
  intro j x hx
  match j, hx with
  | 0, hx => cases hx; exact ⟨Nat.zero_le _, b, 0, rfl, blk_cell h rfl, blk_cell h rfl, blk_cell h rfl, blk_cell h rfl, blk_cell h rfl⟩
  | 1, hx => cases hx; exact ⟨ht, b, 0, rfl, blk_cell h rfl, blk_cell h rfl, blk_cell h rfl, blk_cell h rfl, blk_cell h rfl⟩
  | j + 2, hx => simp at hx

set_option maxHeartbeats 1000000 in
set_option maxRecDepth 100000 in
theorem wright_any (d : Dc) (ht : d.t.size ≤ 9223372036854775807) (w : World) : Calls Tryz.prog 41 #[d.v] w fun e w' => e = .returned (.bool (rt d)) ∧ Below w.heap.size w w' := by
  have HC : Hid (∀ W b, W.heap[b]? = some (.cells #[.int .u8 6, .string ⟨#[]⟩, .int .i64 0, .int .i64 0, .bool false, .int .u8 d.k, .string d.t, .int .i64 d.b, .int .i64 d.i, .bool d.e] 37 (0, 0)) → Calls Tryz.prog 57 #[.slice (some ⟨b, 0, none⟩) 2 2] W fun e w' => e = .returned (.tuple #[.int .i64 (chk [bg0, d]).1, .int .i64 (chk [bg0, d]).2]) ∧ Below W.heap.size W w') := fun W b h => check_any _ [bg0, d] 2 W (lay_two W b d ht h) (by simp)
  have e := chk_two d
  rw [← e]
  have hb := chk_bd [bg0, d]
  generalize (chk [bg0, d]).1 = k1 at *
  generalize (chk [bg0, d]).2 = k2 at *
  clear e ht
  obtain ⟨dk, dt, db, di, de⟩ := d
  dsimp only [Dc.v] at *
  have hs1 : (w.alloc (.cells #[.int .u8 dk, .string dt, .int .i64 db, .int .i64 di, .bool de] 37)).heap.size = w.heap.size + 1 := World.size_alloc _ _
  have hbd : ∀ o1 o2 w1, Below ((w.alloc o1).alloc o2).heap.size ((w.alloc o1).alloc o2) w1 → Below w.heap.size w w1 := fun o1 o2 w1 h => (((Below.refl _ w).alloc (Nat.le_refl _) o1).alloc (by rw [World.size_alloc]; omega) o2).trans (h.mono (by rw [World.size_alloc, World.size_alloc]; omega))
  have HB : Hid (∀ o1 o2 w1, Below ((w.alloc o1).alloc o2).heap.size ((w.alloc o1).alloc o2) w1 → Below w.heap.size w w1) := hbd
  clear hbd
  go_enter Tryz.func41, Tryz.ntmps41
  go_wp2_with (go_at_call 57; refine (HC.out _ _ (by rw [← hs1]; exact new_at _ _)).mono ?_; rintro e w1 ⟨rfl, hb1⟩)
  go_ret
  exact ⟨by simp [bne, Bool.beq_eq_decide_eq], HB.out _ _ _ hb1⟩

set_option maxHeartbeats 2000000 in
set_option maxRecDepth 100000 in
theorem mayBe_any (ao : Option Addr) (l : List Dc) (cap : Nat) (w : World) (hL : Lay w ao l) (hn : l.length ≤ 9223372036854775807) :
    Calls Tryz.prog 26 #[.slice ao l.length cap] w fun e w' => e = .returned (.bool (decide (frm 0 0 l = none))) ∧ Below w.heap.size w w' := by
  obtain ⟨R, hR⟩ : ∃ R, frm 0 0 l = R := ⟨_, rfl⟩
  have HR0 : Hid (frm 0 0 l = R) := hR
  rw [hR]
  clear hR
  have HL : Hid (Lay w ao l) := hL
  clear hL
  go_enter Tryz.func26, Tryz.ntmps26
  go_wp2_with fail
  go_loopw [3, 8] (fun o j wr => ∃ (k : Nat) (z : Int), k ≤ l.length ∧ o = .int .i64 z ∧ j = .int .i64 k ∧ 0 ≤ z ∧ z ≤ k ∧ Hid (frm z k (l.drop k) = R ∧ Below w.heap.size w wr)) (fun _ j _ => l.length - (intOf j).toNat)
  case atStart => exact ⟨0, 0, by omega, rfl, rfl, by omega, by omega, HR0.out, Below.refl _ _⟩
  case round =>
    obtain ⟨k, z, hk, rfl, rfl, hz0, hz1, HI⟩ := hrel
    by_cases hlt : k < l.length
    · have q1 : (k : Int) < l.length := by omega
      obtain ⟨d, hd⟩ : ∃ d, l[k]? = some d := ⟨_, List.getElem?_eq_getElem hlt⟩
      obtain ⟨ht, b, off, rfl, c0, c1, c2, c3, c4⟩ := (HL.out.below HI.out.2) k d hd
      have HS : Hid ((if rt d = true ∧ 0 ≤ z + dep d.k then frm (z + dep d.k) (k + 1) (l.drop (k + 1)) else some k) = R) := by
        show _ = _; rw [← frm_step hd]; exact HI.out.1
      have HB : Hid (Below w.heap.size w wr) := HI.out.2
      have HR : Hid (∀ W, Calls Tryz.prog 41 #[d.v] W fun x w' => x = .returned (.bool (rt d)) ∧ Below W.heap.size W w') := fun W => wright_any d ht W
      clear HI hd
      obtain ⟨dk, dt, db, di, de⟩ := d
      simp only [Dc.v] at HR
      simp only at c0 c1 c2 c3 c4 HS ht
      generalize rt ⟨dk, dt, db, di, de⟩ = r at *
      have HX : Hid (r = true → 0 ≤ z + dep dk → frm (z + dep dk) (k + 1) (l.drop (k + 1)) = R) := fun h1 h2 => by rw [← HS.out, if_pos ⟨h1, h2⟩]
      have HY : Hid (¬ (r = true ∧ 0 ≤ z + dep dk) → decide (R = none) = false) := fun h => by rw [← HS.out, if_neg h]; rfl
      clear HS
      have HA : Hid (∀ W w1, W = wr.alloc (.cells #[.int .u8 dk, .string dt, .int .i64 db, .int .i64 di, .bool de] 37) → Below W.heap.size W w1 → Below w.heap.size w w1) := fun W w1 hW h => by
        subst hW
        exact (HB.out.alloc HB.out.size _).trans (h.mono (by rw [World.size_alloc]; have := HB.out.size; omega))
      by_cases k6 : dk = 6
      · subst k6
        have e6 : z + dep 6 = z + 1 := rfl
        rw [e6] at HX HY
        cases r
        · have HQ : Hid (decide (R = none) = false) := HY.out (by simp)
          clear HX HY
          go_wp2_with (go_at_call 41; refine (HR.out _).mono ?_; rintro e w1 ⟨rfl, hb1⟩)
          all_goals (go_ret; rw [HQ.out]; exact ⟨rfl, HA.out _ _ rfl hb1⟩)
        · have HQ : Hid (frm (z + 1) (k + 1) (l.drop (k + 1)) = R) := HX.out rfl (by omega)
          clear HX HY
          go_wp2_with (go_at_call 41; refine (HR.out _).mono ?_; rintro e w1 ⟨rfl, hb1⟩)
          exact ⟨⟨k + 1, z + 1, hlt, by go_num, by go_num, by omega, by omega, HQ.out, HA.out _ _ rfl hb1⟩, by simp [intOf]; omega⟩
      by_cases k7 : dk = 7
      · subst k7
        have e6 : z + dep 7 = z - 1 := rfl
        rw [e6] at HX HY
        by_cases hz : 0 < z
        · cases r
          · have HQ : Hid (decide (R = none) = false) := HY.out (by simp)
            clear HX HY
            go_wp2_with (go_at_call 41; refine (HR.out _).mono ?_; rintro e w1 ⟨rfl, hb1⟩)
            all_goals (go_ret; rw [HQ.out]; exact ⟨rfl, HA.out _ _ rfl hb1⟩)
          · have HQ : Hid (frm (z - 1) (k + 1) (l.drop (k + 1)) = R) := HX.out rfl (by omega)
            clear HX HY
            go_wp2_with (go_at_call 41; refine (HR.out _).mono ?_; rintro e w1 ⟨rfl, hb1⟩)
            exact ⟨⟨k + 1, z - 1, hlt, by go_num, by go_num, by omega, by omega, HQ.out, HA.out _ _ rfl hb1⟩, by simp [intOf]; omega⟩
        · obtain rfl : z = 0 := by omega
          have HQ : Hid (decide (R = none) = false) := HY.out (by omega)
          clear HX HY
          go_wp2_with (go_at_call 41; refine (HR.out _).mono ?_; rintro e w1 ⟨rfl, hb1⟩)
          all_goals (go_ret; rw [HQ.out]; exact ⟨rfl, HA.out _ _ rfl (Below.refl _ _)⟩)
      · have e6 : z + dep dk = z := by simp [dep, k6, k7]
        rw [e6] at HX HY
        cases r
        · have HQ : Hid (decide (R = none) = false) := HY.out (by simp)
          clear HX HY
          go_wp2_with (go_at_call 41; refine (HR.out _).mono ?_; rintro e w1 ⟨rfl, hb1⟩)
          all_goals (go_ret; rw [HQ.out]; exact ⟨rfl, HA.out _ _ rfl hb1⟩)
        · have HQ : Hid (frm z (k + 1) (l.drop (k + 1)) = R) := HX.out rfl (by omega)
          clear HX HY
          go_wp2_with (go_at_call 41; refine (HR.out _).mono ?_; rintro e w1 ⟨rfl, hb1⟩)
          exact ⟨⟨k + 1, z, hlt, by go_num, by go_num, by omega, by omega, HQ.out, HA.out _ _ rfl hb1⟩, by simp [intOf]; omega⟩
    · obtain rfl : k = l.length := by omega
      have q1 : ¬ ((l.length : Int) < l.length) := by omega
      have he := HI.out.1
      rw [frm_end (Nat.le_refl _)] at he
      have HB : Hid (Below w.heap.size w wr) := HI.out.2
      have HQ : Hid (decide (R = none) = (z == 0)) := by
        show _ = _
        rw [← he]
        by_cases hz : 0 < z
        · rw [if_pos hz]
          have : ¬ z = 0 := by omega
          simp [this]
        · obtain rfl : z = 0 := by omega
          rfl
      clear HI he
      go_wp2_with fail
      go_ret
      rw [HQ.out]
      exact ⟨rfl, HB.out⟩
end Go.Proofs.YtmjhfabdbajchaaGreatDoor
