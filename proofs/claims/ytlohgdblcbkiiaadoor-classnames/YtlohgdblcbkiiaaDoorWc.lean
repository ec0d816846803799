import Derived.Test.YtlohgdblcbkiiaaDoorWb
import Derived.Laws.Cover4
set_option linter.unusedVariables false
set_option linter.unusedSimpArgs false
namespace Go.Proofs.YtlohgdblcbkiiaaDoor
open Go.RowKit

theorem Tryd.info21 : (Tryd.prog.info? 21).map (fun i => (i.zero, i.size, i.bytes)) = some (some (.int .i32 0), 1, 4) := by kernel_rfl

/-- A number's point: itself, or FFFD. -/
def rn (n : Int) : Int := if n < 0 ∨ 1114111 < n ∨ (55296 ≤ n ∧ n ≤ 57343) then 65533 else n

set_option maxHeartbeats 400000 in
theorem rune_any (n : Int) (w : World) : Calls Tryd.prog 36 #[.int .i64 n] w fun e w' => e = .returned (.int .i32 (rn n)) ∧ w' = w := by
  unfold rn
  by_cases h0 : n < 0
  · rw [if_pos (.inl h0)]
    go_enter Tryd.func36, Tryd.ntmps36
    go_wp2
    go_ret
    exact ⟨rfl, rfl⟩
  · by_cases h1 : 1114111 < n
    · rw [if_pos (.inr (.inl h1))]
      go_enter Tryd.func36, Tryd.ntmps36
      go_wp2
      go_ret
      exact ⟨rfl, rfl⟩
    · by_cases h2 : 55296 ≤ n
      · by_cases h3 : n ≤ 57343
        · rw [if_pos (.inr (.inr ⟨h2, h3⟩))]
          go_enter Tryd.func36, Tryd.ntmps36
          go_wp2
          go_ret
          exact ⟨rfl, rfl⟩
        · rw [if_neg (by omega)]
          go_enter Tryd.func36, Tryd.ntmps36
          go_wp2
          go_ret
          exact ⟨rfl, rfl⟩
      · rw [if_neg (by omega)]
        go_enter Tryd.func36, Tryd.ntmps36
        go_wp2
        go_ret
        exact ⟨rfl, rfl⟩

theorem take_getD (zs : List Int) (k : Nat) (h : k < zs.length) : zs.take (k + 1) = zs.take k ++ [zs.getD k 0] := by
  rw [List.take_succ_eq_append_getElem h]; simp [List.getD, h]

set_option maxHeartbeats 400000 in
theorem text_any (b off n cap : Nat) (zs : List Int) (w : World) (hn : n ≤ 2147483647) (hl : zs.length = n) (hc : ∀ j, j < n → w.cell? ⟨b, off + j, none⟩ = some (.int .i64 (zs.getD j 0))) :
    Calls Tryd.prog 27 #[.slice (some ⟨b, off, none⟩) n cap] w fun e w' => e = .returned (.string (runesBytes (zs.map rn))) ∧ Below w.heap.size w w' := by
  obtain ⟨i0, hi, hz0, hz1, hz2⟩ := info_parts Tryd.info21
  go_enter Tryd.func27, Tryd.ntmps27
  go_wp2_with (first | (at_make; refine wpList_make_own _ rfl _ _ 47 rfl w.heap.size 21 i0 (.int .i32 0) 1 Tryd.underlying47 hi hz0 hz1 _ _ _ n rfl rfl rfl (by rw [hz2]; omega) (by unfold maxLen; omega) (by omega) ?_))
  intro w2 hown hgrow
  have hbel : Below w.heap.size w w2 := (Below.refl _ _).grown hgrow (by omega) (fun _ h => by cases h)
  clear hgrow
  go_wp2_with fail
  go_loopw [3, 11] (fun v i wr => ∃ k : Nat, k ≤ n ∧ i = .int .i64 k ∧ v = .slice (some ⟨w.heap.size, 0, none⟩) k n ∧
      wr.ownsRow w.heap.size 21 1 (.slice (some ⟨w.heap.size, 0, none⟩) k n) k (((zs.take k).map rn).map (Value.int .i32)) ∧ Below w.heap.size w wr)
    (fun _ i _ => n - (intOf i).toNat)
  case atStart => exact ⟨0, Nat.zero_le _, rfl, rfl, hown, hbel⟩
  case round =>
    clear hown hbel
    obtain ⟨k, hk, rfl, rfl, hown, hbel⟩ := hrel
    by_cases hlt : k < n
    · have hcell : wr.cell? ⟨b, off + k, none⟩ = some (.int .i64 (zs.getD k 0)) := by
        have h1 := hc k hlt
        exact (hbel.cell (p := ⟨b, off + k, none⟩) (World.block_lt_of_cell? w _ h1)).trans h1
      generalize hz : zs.getD k 0 = z at hcell
      have HZ : Hid (zs.getD k 0 = z) := hz
      clear hz
      go_wp2_with (first | (go_at_call 36; refine (rune_any _ _).mono ?_; rintro e w' ⟨rfl, rfl⟩) | (at_builtin; refine wpList_append_fits _ rfl _ _ 47 rfl w.heap.size 21 i0 1 Tryd.underlying47 hi hz1 w.heap.size _ _ _ rfl (hown.alloc _) ⟨_, 0, none⟩ 1 1 [.int .i32 (rn z)] rfl rfl ?c1 ?c2 ?c3 ?_))
      case c1 => exact one_new _ _ _ _ rfl
      case c2 => intro u hu; simp at hu; subst hu; rfl
      case c3 => omega
      · intro w3 hown3 hgrow3
        have hbel3 : Below w.heap.size w w3 := (hbel.alloc hbel.size _).grown hgrow3 (by have := hbel.size; simp; omega) (fun j hj => by cases hj; omega)
        clear hgrow3 hown hbel hcell
        go_wp2_with fail
        go_roundw
        case rel => exact ⟨k + 1, hlt, by go_num, rfl, by rw [take_getD zs k (by omega), HZ.out]; simpa using hown3, hbel3⟩
        case measure => simp [intOf]; omega
    · have hk2 : zs.take k = zs := List.take_of_length_le (by omega)
      rw [hk2] at hown
      have hcv : (convert 47 9 (.slice (some ⟨w.heap.size, 0, none⟩) k n)).run Tryd.prog wr = .ok (.string (runesBytes (zs.map rn))) wr := by
        have h2 := run_convert_runes (P := Tryd.prog) wr 47 9 21 ⟨w.heap.size, 0, none⟩ k n (zs.map rn) (by simp; omega) Tryd.underlying47 Tryd.underlying21 Tryd.underlying9 (fun j hj => hown.cells rfl j _ (by
          rw [List.getElem?_map, List.getElem?_eq_getElem hj]; simp [List.getD, List.getElem?_eq_getElem hj]))
        rw [List.take_of_length_le (by simp; omega)] at h2
        exact h2
      clear hown hk2
      go_wp2_with fail
      go_ret
      exact ⟨rfl, hbel⟩

set_option maxHeartbeats 400000 in
theorem text_nil (ao : Option Addr) (cap : Nat) (w : World) :
    Calls Tryd.prog 27 #[.slice ao 0 cap] w fun e w' => e = .returned (.string ByteArray.empty) ∧ Below w.heap.size w w' := by
  obtain ⟨i0, hi, hz0, hz1, hz2⟩ := info_parts Tryd.info21
  have hmk : ∀ w, (Instr.makeSlice 47 (.int .i64 0) (.int .i64 0)).run Tryd.prog w = .ok (.slice (some ⟨w.heap.size, 0, none⟩) 0 0) (w.alloc (.cells #[] 21)) := fun _ => by kernel_rfl
  have hcv : ∀ a w, (convert 47 9 (.slice (some a) 0 0)).run Tryd.prog w = .ok (.string ByteArray.empty) w := fun a w =>
    run_convert_runes (P := Tryd.prog) w 47 9 21 a 0 0 [] (by simp) Tryd.underlying47 Tryd.underlying21 Tryd.underlying9 (fun j hj => by simp at hj)
  go_enter Tryd.func27, Tryd.ntmps27
  go_wp2_with fail
  refine wp_loop_rounds 1 ?_
  rw [rounds_succ]
  go_wp2_with fail
  go_ret
  exact ⟨rfl, (Below.refl _ _).alloc (Nat.le_refl _) _⟩
end Go.Proofs.YtlohgdblcbkiiaaDoor
