import Derived.Test.YtcokccfbeonlnaaDoorFa
import Derived.Test.YtcokccfbeonlnaaDoorDk
set_option linter.unusedVariables false
set_option linter.unusedSimpArgs false
namespace Go.Proofs.YtcokccfbeonlnaaDoor
open Go.RowKit

/-! The document's Form and Check. -/
def fri : Option Nat → Int
  | some j => (j : Int)
  | none => -1

set_option maxHeartbeats 2000000 in
set_option maxRecDepth 100000 in
theorem rform_any (ao : Option Addr) (l : List Dc) (cap : Nat) (w : World) (hL : Lay w ao l) (hn : l.length ≤ 9223372036854775807) :
    Calls Tryd.prog 25 #[.slice ao l.length cap] w fun e w' => e = .returned (.int .i64 (fri (frm 0 0 l))) ∧ Below w.heap.size w w' := by
  obtain ⟨R, hR⟩ : ∃ R, frm 0 0 l = R := ⟨_, rfl⟩
  rw [hR]
  have HC : Hid (frm 0 0 l = R) := hR
  have HL : Hid (Lay w ao l) := hL
  clear hL hR
  go_enter Tryd.func25, Tryd.ntmps25
  go_wp2_with fail
  go_loopw [3, 4] (fun o j wr => ∃ (k : Nat) (z : Int), k ≤ l.length ∧ o = .int .i64 z ∧ j = .int .i64 k ∧ 0 ≤ z ∧ z ≤ k ∧ Hid (frm z k (l.drop k) = R ∧ Below w.heap.size w wr)) (fun _ j _ => l.length - (intOf j).toNat)
  case atStart => exact ⟨0, 0, by omega, rfl, rfl, by omega, by omega, HC.out, Below.refl _ _⟩
  case round =>
    obtain ⟨k, z, hk, rfl, rfl, hz0, hz1, HI⟩ := hrel
    by_cases hlt : k < l.length
    · have q1 : (k : Int) < l.length := by omega
      have q3 : (0 : Int) ≤ k := by omega
      obtain ⟨d, hd⟩ : ∃ d, l[k]? = some d := ⟨_, List.getElem?_eq_getElem hlt⟩
      obtain ⟨ht, b, off, rfl, c0, c1, c2, c3, c4⟩ := (HL.out.below HI.out.2) k d hd
      have HS : Hid ((if rt d = true ∧ 0 ≤ z + dep d.k then frm (z + dep d.k) (k + 1) (l.drop (k + 1)) else some k) = R) := by
        show _ = _; rw [← frm_step hd]; exact HI.out.1
      have HB : Hid (Below w.heap.size w wr) := HI.out.2
      have HR : Hid (∀ W, Calls Tryd.prog 47 #[d.v] W fun x w' => x = .returned (.bool (rt d)) ∧ Below W.heap.size W w') := fun W => rright_any d ht W
      clear HI hd
      obtain ⟨dk, dt, db, di, de⟩ := d
      simp only [Dc.v] at HR
      simp only at c0 c1 c2 c3 c4 HS ht
      generalize rt ⟨dk, dt, db, di, de⟩ = r at *
      have HX : Hid (r = true → 0 ≤ z + dep dk → frm (z + dep dk) (k + 1) (l.drop (k + 1)) = R) := fun h1 h2 => by rw [← HS.out, if_pos ⟨h1, h2⟩]
      have HY : Hid (¬ (r = true ∧ 0 ≤ z + dep dk) → R = some k) := fun h => by rw [← HS.out, if_neg h]
      clear HS
      cases r
      · have HQ : Hid (R = some k) := HY.out (by simp)
        clear HX HY
        go_wp2_with (go_at_call 47; refine (HR.out _).mono ?_; rintro e w1 ⟨rfl, hb1⟩; have HB1 : Hid (Below w.heap.size w w1) := HB.out.trans (hb1.mono HB.out.size); clear hb1)
        go_ret
        rw [HQ.out]
        exact ⟨rfl, HB1.out⟩
      by_cases k6 : dk = 6
      · subst k6
        have e6 : z + dep 6 = z + 1 := rfl
        rw [e6] at HX HY
        have HQ : Hid (frm (z + 1) (k + 1) (l.drop (k + 1)) = R) := HX.out rfl (by omega)
        clear HX HY
        go_wp2_with (go_at_call 47; refine (HR.out _).mono ?_; rintro e w1 ⟨rfl, hb1⟩; have c0' := (hb1.cell (World.block_lt_of_cell? _ _ c0)).trans c0; have HB1 : Hid (Below w.heap.size w w1) := HB.out.trans (hb1.mono HB.out.size); clear hb1)
        exact ⟨⟨k + 1, z + 1, hlt, by go_num, by go_num, by omega, by omega, HQ.out, HB1.out⟩, by simp [intOf]; omega⟩
      by_cases k7 : dk = 7
      · subst k7
        have e6 : z + dep 7 = z - 1 := rfl
        rw [e6] at HX HY
        by_cases hz : 0 < z
        · have HQ : Hid (frm (z - 1) (k + 1) (l.drop (k + 1)) = R) := HX.out rfl (by omega)
          clear HX HY
          go_wp2_with (go_at_call 47; refine (HR.out _).mono ?_; rintro e w1 ⟨rfl, hb1⟩; have c0' := (hb1.cell (World.block_lt_of_cell? _ _ c0)).trans c0; have HB1 : Hid (Below w.heap.size w w1) := HB.out.trans (hb1.mono HB.out.size); clear hb1)
          exact ⟨⟨k + 1, z - 1, hlt, by go_num, by go_num, by omega, by omega, HQ.out, HB1.out⟩, by simp [intOf]; omega⟩
        · obtain rfl : z = 0 := by omega
          have HQ : Hid (R = some k) := HY.out (by omega)
          clear HX HY
          go_wp2_with (go_at_call 47; refine (HR.out _).mono ?_; rintro e w1 ⟨rfl, hb1⟩; have c0' := (hb1.cell (World.block_lt_of_cell? _ _ c0)).trans c0; have HB1 : Hid (Below w.heap.size w w1) := HB.out.trans (hb1.mono HB.out.size); clear hb1)
          go_ret
          rw [HQ.out]
          exact ⟨rfl, HB1.out⟩
      · have e6 : z + dep dk = z := by simp [dep, k6, k7]
        rw [e6] at HX HY
        have HQ : Hid (frm z (k + 1) (l.drop (k + 1)) = R) := HX.out rfl (by omega)
        clear HX HY
        go_wp2_with (go_at_call 47; refine (HR.out _).mono ?_; rintro e w1 ⟨rfl, hb1⟩; have c0' := (hb1.cell (World.block_lt_of_cell? _ _ c0)).trans c0; have HB1 : Hid (Below w.heap.size w w1) := HB.out.trans (hb1.mono HB.out.size); clear hb1)
        exact ⟨⟨k + 1, z, hlt, by go_num, by go_num, by omega, by omega, HQ.out, HB1.out⟩, by simp [intOf]; omega⟩
    · obtain rfl : k = l.length := by omega
      have q1 : ¬ ((l.length : Int) < l.length) := by omega
      have he := HI.out.1
      rw [frm_end (Nat.le_refl _)] at he
      have HB : Hid (Below w.heap.size w wr) := HI.out.2
      by_cases hz : 0 < z
      · have HQ : Hid (R = some l.length) := by show _ = _; rw [← he, if_pos hz]
        clear HI he
        go_wp2_with fail
        go_ret
        rw [HQ.out]
        exact ⟨rfl, HB.out⟩
      · have HQ : Hid (R = none) := by show _ = _; rw [← he, if_neg hz]
        clear HI he
        go_wp2_with fail
        go_ret
        rw [HQ.out]
        exact ⟨rfl, HB.out⟩

end Go.Proofs.YtcokccfbeonlnaaDoor
