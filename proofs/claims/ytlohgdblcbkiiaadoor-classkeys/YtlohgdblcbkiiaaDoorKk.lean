import Derived.Test.YtlohgdblcbkiiaaDoorKg
set_option linter.unusedVariables false
set_option linter.unusedSimpArgs false
namespace Go.Proofs.YtlohgdblcbkiiaaDoor
open Go.RowKit Go.Deep

theorem Tryd.info9 : (Tryd.prog.info? 9).map (fun i => (i.zero, i.size, i.bytes)) = some (some (.string ByteArray.empty), 1, 16) := by kernel_rfl

def sv (l : List ByteArray) : List Value := l.map Value.string

theorem srow_own {w : World} {base n g cap : Nat} {xs : List ByteArray} (h : w.ownsRow base 9 1 (.slice (some ⟨g, 0, none⟩) n cap) n (sv xs)) : SRow w g n xs := by
  have hl : xs.length = n := by have := h.1; simpa [sv] using this
  refine ⟨hl, fun j hj => ?_⟩
  have := h.cells (g := g) rfl j (.string (xs.getD j ByteArray.empty)) (by
    unfold sv
    rw [List.getElem?_map, List.getElem?_eq_getElem (by omega)]; simp [List.getD, List.getElem?_eq_getElem (show j < xs.length by omega)])
  rw [Addr.add_lit, Nat.zero_add] at this
  exact this

theorem sv_take (l : List ByteArray) (k : Nat) (h : k < l.length) : sv (l.take (k + 1)) = sv (l.take k) ++ [.string (l.getD k ByteArray.empty)] := by
  unfold sv
  have e : l.getD k ByteArray.empty = l[k] := by rw [List.getD, List.getElem?_eq_getElem h]; rfl
  rw [List.take_succ_eq_append_getElem h, List.map_append, e]; rfl

set_option maxHeartbeats 1000000 in
theorem keys_any (w : World) (hT : WTab w) :
    Calls Tryd.prog 9 #[] w fun e w' => e = .returned (.slice (some ⟨w.heap.size, 0, none⟩) 24 24) ∧
      w'.ownsRow w.heap.size 9 1 (.slice (some ⟨w.heap.size, 0, none⟩) 24 24) 24 (sv wordL) ∧ Below w.heap.size w w' := by
  obtain ⟨i0, hi, hz0, hz1, hz2⟩ := info_parts Tryd.info9
  go_enter Tryd.func9, Tryd.ntmps9
  go_wp2_with (first | (at_make; refine wpList_make_own _ rfl _ _ 22 rfl w.heap.size 9 i0 (.string ByteArray.empty) 1 Tryd.underlying22 hi hz0 hz1 _ _ _ 24 rfl rfl rfl (by rw [hz2]; omega) (by unfold maxLen; omega) (by omega) ?_))
  intro w2 hown hgrow
  have hbel : Below w.heap.size w w2 := (Below.refl _ _).grown hgrow (by omega) (fun _ h => by cases h)
  clear hgrow
  go_wp2_with fail
  go_loopw [1, 4] (fun v i wr => ∃ k : Nat, k ≤ 24 ∧ v = .slice (some ⟨w.heap.size, 0, none⟩) k 24 ∧ i = .int .i64 k ∧ wr.ownsRow w.heap.size 9 1 (.slice (some ⟨w.heap.size, 0, none⟩) k 24) k (sv (wordL.take k)) ∧ Below w.heap.size w wr) (fun _ i _ => 24 - (intOf i).toNat)
  case atStart => exact ⟨0, by omega, rfl, rfl, hown, hbel⟩
  case round =>
    clear hown hbel
    obtain ⟨k, hk, rfl, rfl, hown, hbel⟩ := hrel
    by_cases h24 : k < 24
    · have c0 := (hT.below hbel) k h24
      have HS : Hid (sv (wordL.take (k + 1)) = sv (wordL.take k) ++ [.string (wordL.getD k ByteArray.empty)]) := sv_take wordL k h24
      have hbz := hbel.size
      clear hT
      generalize wordL.getD k ByteArray.empty = x at *
      go_wp2_with (first | (at_builtin; refine wpList_append_fits _ rfl _ _ 22 rfl w.heap.size 9 i0 1 Tryd.underlying22 hi hz1 w.heap.size _ _ _ rfl (hown.alloc _) ⟨wr.heap.size, 0, none⟩ 1 1 [.string x] rfl rfl ?c1 ?c2 ?c3 ?_))
      case c1 => exact one_new _ _ _ _ rfl
      case c2 => intro u hu; simp at hu; subst hu; rfl
      case c3 => omega
      · intro w3 hown3 hgrow3
        have hb3 : Below w.heap.size w w3 := (hbel.alloc hbz _).grown hgrow3 (by simp; omega) (fun j hj => by cases hj; exact Nat.le_refl _)
        rw [← HS.out] at hown3
        clear hgrow3 hown hbel HS
        go_wp2_with fail
        go_roundw
        case rel => exact ⟨k + 1, by omega, rfl, by go_num, hown3, hb3⟩
        case measure => simp [intOf]; omega
    · obtain rfl : k = 24 := by omega
      have HE : Hid (wordL.take 24 = wordL) := List.take_of_length_le (Nat.le_refl _)
      go_wp2_with fail
      go_ret
      rw [HE.out] at hown
      exact ⟨rfl, hown, hbel⟩

set_option maxHeartbeats 1000000 in
theorem same24 (b c cb cc : Nat) (w : World) (hx : SRow w b 24 wordL) (hy : SRow w c 24 wordL) :
    Calls Tryd.prog 11 #[.slice (some ⟨b, 0, none⟩) 24 cb, .slice (some ⟨c, 0, none⟩) 24 cc] w fun e w' => e = .returned (.bool true) ∧ Below w.heap.size w w' := by
  go_enter Tryd.func11, Tryd.ntmps11
  go_wp2_with fail
  go_loopw [5] (fun i wr => ∃ k : Nat, k ≤ 24 ∧ i = .int .i64 k ∧ Below w.heap.size w wr) (fun i _ => 24 - (intOf i).toNat)
  case atStart => exact ⟨0, by omega, rfl, Below.refl _ _⟩
  case round =>
    obtain ⟨k, hk, rfl, hbel⟩ := hrel
    by_cases hlt : k < 24
    · have g1 := (hx.below hbel).2 k hlt
      have g2 := (hy.below hbel).2 k hlt
      have i1 : (0 : Int) ≤ (k : Int) := by omega
      have i2 : (k : Int) < 24 := by omega
      clear hx hy
      generalize wordL.getD k ByteArray.empty = x at *
      have e1 : (x.toList != x.toList) = false := by simp
      go_wp2_with fail
      go_quiet (fail)
      go_wp2_with fail
      exact ⟨⟨k + 1, by omega, by go_num, below_dn hbel _⟩, by simp [intOf]; omega⟩
    · clear hx hy
      go_wp2_with fail
      go_ret
      exact ⟨rfl, hbel⟩
end Go.Proofs.YtlohgdblcbkiiaaDoor
