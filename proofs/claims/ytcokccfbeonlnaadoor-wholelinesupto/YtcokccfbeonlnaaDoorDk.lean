import Derived.Test.YtcokccfbeonlnaaDoorDh
import Derived.Deep.RegionHeld3
set_option linter.unusedVariables false
set_option linter.unusedSimpArgs false
namespace Go.Proofs.YtcokccfbeonlnaaDoor
open Go.RowKit

/-! Check. -/
theorem frm_step {o : Int} {j : Nat} {l : List Dc} {d : Dc} (hj : l[j]? = some d) : frm o j (l.drop j) = if rt d = true ∧ 0 ≤ o + dep d.k then frm (o + dep d.k) (j + 1) (l.drop (j + 1)) else some j := by
  obtain ⟨h1, h2⟩ := List.getElem?_eq_some_iff.1 hj
  rw [List.drop_eq_getElem_cons h1, h2]
  rfl
theorem frm_end {o : Int} {j : Nat} {l : List Dc} (hj : l.length ≤ j) : frm o j (l.drop j) = if 0 < o then some j else none := by
  rw [List.drop_eq_nil_of_le hj]; rfl

def ckr : Option Nat → Int × Int
  | some j => (70, (j : Int))
  | none => (0, 0)
theorem chk_eq {l : List Dc} (h : ¬ 2097152 < l.length) : chk l = ckr (frm 0 0 l) := by
  unfold chk
  rw [if_neg h]
  cases frm 0 0 l <;> rfl

set_option maxHeartbeats 2000000 in
set_option maxRecDepth 100000 in
theorem check_any (ao : Option Addr) (l : List Dc) (cap : Nat) (w : World) (hL : Lay w ao l) (hn : l.length ≤ 9223372036854775807) :
    Calls Tryd.prog 56 #[.slice ao l.length cap] w fun e w' => e = .returned (.tuple #[.int .i64 (chk l).1, .int .i64 (chk l).2]) ∧ Below w.heap.size w w' := by
  by_cases hm : 2097152 < l.length
  · have q0 : (2097152 : Int) < l.length := by omega
    have HC : Hid (chk l = (2, 0)) := by show _ = _; unfold chk; rw [if_pos hm]
    go_enter Tryd.func56, Tryd.ntmps56
    go_wp2_with fail
    go_ret2
    rw [HC.out]
    exact ⟨rfl, Below.refl _ _⟩
  have q0 : ¬ (2097152 : Int) < l.length := by omega
  have HC : Hid (chk l = ckr (frm 0 0 l)) := chk_eq hm
  have HL : Hid (Lay w ao l) := hL
  clear hL
  go_enter Tryd.func56, Tryd.ntmps56
  go_wp2_with fail
  go_loopw [4, 12] (fun o j wr => ∃ (k : Nat) (z : Int), k ≤ l.length ∧ o = .int .i64 z ∧ j = .int .i64 k ∧ 0 ≤ z ∧ z ≤ k ∧ Hid (frm z k (l.drop k) = frm 0 0 l ∧ Below w.heap.size w wr)) (fun _ j _ => l.length - (intOf j).toNat)
  case atStart => exact ⟨0, 0, by omega, rfl, rfl, by omega, by omega, rfl, Below.refl _ _⟩
  case round =>
    obtain ⟨k, z, hk, rfl, rfl, hz0, hz1, HI⟩ := hrel
    by_cases hlt : k < l.length
    · have q1 : (k : Int) < l.length := by omega
      obtain ⟨d, hd⟩ : ∃ d, l[k]? = some d := ⟨_, List.getElem?_eq_getElem hlt⟩
      obtain ⟨ht, b, off, rfl, c0, c1, c2, c3, c4⟩ := (HL.out.below HI.out.2) k d hd
      have HS : Hid ((if rt d = true ∧ 0 ≤ z + dep d.k then frm (z + dep d.k) (k + 1) (l.drop (k + 1)) else some k) = frm 0 0 l) := by
        show _ = _; rw [← frm_step hd]; exact HI.out.1
      have HB : Hid (Below w.heap.size w wr) := HI.out.2
      have HR : Hid (∀ W, Calls Tryd.prog 74 #[d.v] W fun x w' => x = .returned (.bool (rt d)) ∧ Below W.heap.size W w') := fun W => right_any d ht W
      clear HI hd
      obtain ⟨dk, dt, db, di, de⟩ := d
      simp only [Dc.v] at HR
      simp only at c0 c1 c2 c3 c4 HS ht
      generalize rt ⟨dk, dt, db, di, de⟩ = r at *
      have HX : Hid (r = true → 0 ≤ z + dep dk → frm (z + dep dk) (k + 1) (l.drop (k + 1)) = frm 0 0 l) := fun h1 h2 => by rw [← HS.out, if_pos ⟨h1, h2⟩]
      have HY : Hid (¬ (r = true ∧ 0 ≤ z + dep dk) → chk l = (70, (k : Int))) := fun h => by rw [HC.out, ← HS.out, if_neg h]; rfl
      clear HS
      have HA : Hid (∀ W w1, W = wr.alloc (.cells #[.int .u8 dk, .string dt, .int .i64 db, .int .i64 di, .bool de] 26) → Below W.heap.size W w1 → Below w.heap.size w w1) := fun W w1 hW h => by
        subst hW
        exact (HB.out.alloc HB.out.size _).trans (h.mono (by rw [World.size_alloc]; have := HB.out.size; omega))
      by_cases k6 : dk = 6
      · subst k6
        have e6 : z + dep 6 = z + 1 := rfl
        rw [e6] at HX HY
        cases r
        · have HQ : Hid (chk l = (70, (k : Int))) := HY.out (by simp)
          clear HX HY
          go_wp2_with (go_at_call 74; refine (HR.out _).mono ?_; rintro e w1 ⟨rfl, hb1⟩)
          all_goals (go_ret2; rw [HQ.out]; exact ⟨rfl, HA.out _ _ rfl hb1⟩)
        · have HQ : Hid (frm (z + 1) (k + 1) (l.drop (k + 1)) = frm 0 0 l) := HX.out rfl (by omega)
          clear HX HY
          go_wp2_with (go_at_call 74; refine (HR.out _).mono ?_; rintro e w1 ⟨rfl, hb1⟩)
          exact ⟨⟨k + 1, z + 1, hlt, by go_num, by go_num, by omega, by omega, HQ.out, HA.out _ _ rfl hb1⟩, by simp [intOf]; omega⟩
      by_cases k7 : dk = 7
      · subst k7
        have e6 : z + dep 7 = z - 1 := rfl
        rw [e6] at HX HY
        by_cases hz : 0 < z
        · cases r
          · have HQ : Hid (chk l = (70, (k : Int))) := HY.out (by simp)
            clear HX HY
            go_wp2_with (go_at_call 74; refine (HR.out _).mono ?_; rintro e w1 ⟨rfl, hb1⟩)
            all_goals (go_ret2; rw [HQ.out]; exact ⟨rfl, HA.out _ _ rfl hb1⟩)
          · have HQ : Hid (frm (z - 1) (k + 1) (l.drop (k + 1)) = frm 0 0 l) := HX.out rfl (by omega)
            clear HX HY
            go_wp2_with (go_at_call 74; refine (HR.out _).mono ?_; rintro e w1 ⟨rfl, hb1⟩)
            exact ⟨⟨k + 1, z - 1, hlt, by go_num, by go_num, by omega, by omega, HQ.out, HA.out _ _ rfl hb1⟩, by simp [intOf]; omega⟩
        · obtain rfl : z = 0 := by omega
          have HQ : Hid (chk l = (70, (k : Int))) := HY.out (by omega)
          clear HX HY
          go_wp2_with (go_at_call 74; refine (HR.out _).mono ?_; rintro e w1 ⟨rfl, hb1⟩)
          all_goals (go_ret2; rw [HQ.out]; exact ⟨rfl, HA.out _ _ rfl (Below.refl _ _)⟩)
      · have e6 : z + dep dk = z := by simp [dep, k6, k7]
        rw [e6] at HX HY
        cases r
        · have HQ : Hid (chk l = (70, (k : Int))) := HY.out (by simp)
          clear HX HY
          go_wp2_with (go_at_call 74; refine (HR.out _).mono ?_; rintro e w1 ⟨rfl, hb1⟩)
          all_goals (go_ret2; rw [HQ.out]; exact ⟨rfl, HA.out _ _ rfl hb1⟩)
        · have HQ : Hid (frm z (k + 1) (l.drop (k + 1)) = frm 0 0 l) := HX.out rfl (by omega)
          clear HX HY
          go_wp2_with (go_at_call 74; refine (HR.out _).mono ?_; rintro e w1 ⟨rfl, hb1⟩)
          exact ⟨⟨k + 1, z, hlt, by go_num, by go_num, by omega, by omega, HQ.out, HA.out _ _ rfl hb1⟩, by simp [intOf]; omega⟩
    · obtain rfl : k = l.length := by omega
      have q1 : ¬ ((l.length : Int) < l.length) := by omega
      have he := HI.out.1
      rw [frm_end (Nat.le_refl _)] at he
      have HB : Hid (Below w.heap.size w wr) := HI.out.2
      by_cases hz : 0 < z
      · have HQ : Hid (chk l = (70, (l.length : Int))) := by show _ = _; rw [HC.out, ← he, if_pos hz]; rfl
        clear HI he
        go_wp2_with fail
        go_ret2
        rw [HQ.out]
        exact ⟨rfl, HB.out⟩
      · have HQ : Hid (chk l = (0, 0)) := by show _ = _; rw [HC.out, ← he, if_neg hz]; rfl
        clear HI he
        go_wp2_with fail
        go_ret2
        rw [HQ.out]
        exact ⟨rfl, HB.out⟩
end Go.Proofs.YtcokccfbeonlnaaDoor
