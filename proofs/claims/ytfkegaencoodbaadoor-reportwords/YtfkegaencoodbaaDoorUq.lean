import Derived.Test.YtfkegaencoodbaaDoorUb
import Derived.Test.YtfkegaencoodbaaDoorBack0
import Derived.Test.YtfkegaencoodbaaDoorWb
import Derived.Test.YtfkegaencoodbaaDoorRc
import Derived.Laws.Cover4
set_option linter.unusedVariables false
set_option linter.unusedSimpArgs false
namespace Go.Proofs.YtfkegaencoodbaaDoor
open Go.RowKit

/-! The code's shown: a line's runes as they are shown. -/
def chP (s : ByteArray) (a : Nat) : Nat := if dp s a < 32 ∨ dp s a = 127 then 32 else dp s a
def chL (s : ByteArray) : List Nat := (P s).map (chP s)
def r32 (l : List Nat) : List Value := l.map (fun i : Nat => Value.int .i32 (i : Int))
theorem rb_snoc : ∀ (l : List Nat) (c : Nat), rb (l ++ [c]) = rb l ++ Utf8.encode (c : Int)
  | [], c => by
    show Utf8.encode (c : Int) ++ ByteArray.empty = ByteArray.empty ++ Utf8.encode (c : Int)
    rw [ByteArray.append_empty, ByteArray.empty_append]
  | d :: l, c => by
    show Utf8.encode (d : Int) ++ rb (l ++ [c]) = Utf8.encode (d : Int) ++ rb l ++ Utf8.encode (c : Int)
    rw [rb_snoc l c, ByteArray.append_assoc]
theorem enc_bad : Utf8.encode (65533 : Nat) = ⟨#[239, 191, 189]⟩ := by kernel_rfl
theorem enc_blank : Utf8.encode (32 : Nat) = ⟨#[32]⟩ := by kernel_rfl
theorem chP_enc (s : ByteArray) (a : Nat) (ha : a < s.size) : Utf8.encode (chP s a : Int) = chB s a := by
  unfold chB
  cases hg : gd s a with
  | false =>
    have h := gd_not s a hg
    have e1 : dp s a = 65533 := by unfold dp; rw [h]
    have e2 : chP s a = 65533 := by unfold chP; rw [e1]; exact if_neg (by decide)
    rw [e2]
    exact enc_bad
  | true =>
    rw [if_neg (fun h => Bool.noConfusion h)]
    by_cases h : dp s a < 32 ∨ dp s a = 127
    · have e2 : chP s a = 32 := if_pos h
      rw [if_pos h, e2]
      exact enc_blank
    · have e2 : chP s a = dp s a := if_neg h
      rw [if_neg h, e2]
      exact enc_dec s a ha hg
theorem chL_take (s : ByteArray) (k : Nat) (h : k < (P s).length) : (chL s).take (k + 1) = (chL s).take k ++ [chP s (st s k)] := by
  unfold chL
  rw [← List.map_take, ← List.map_take, P_take s k h, List.map_append]
  rfl
theorem chL_len (s : ByteArray) : (chL s).length = (P s).length := List.length_map _
theorem chL_rb (s : ByteArray) : ∀ k, k ≤ (P s).length → rb ((chL s).take k) = shB s k
  | 0, _ => rfl
  | k + 1, h => by
    rw [chL_take s k h, rb_snoc, chL_rb s k (by omega), chP_enc s _ ((st_lt s k).2 h)]
    rfl
theorem ctl_any (x : Nat) (w : World) : Calls Tryd.prog 49 #[.int .i32 (x : Int)] w fun e w' => e = .returned (.bool (decide (x < 32 ∨ x = 127))) ∧ w' = w := by
  by_cases h : x < 32
  · have e : decide (x < 32 ∨ x = 127) = true := decide_eq_true (.inl h)
    have q : (x : Int) < 32 := by omega
    rw [e]
    clear e h
    go_enter Tryd.func49, Tryd.ntmps49
    go_wp2_with fail
    go_ret
    exact ⟨rfl, rfl⟩
  · have q : ¬ (x : Int) < 32 := by omega
    by_cases h2 : x = 127
    · subst h2
      go_enter Tryd.func49, Tryd.ntmps49
      go_wp2_with fail
      go_ret
      exact ⟨rfl, rfl⟩
    · have e : decide (x < 32 ∨ x = 127) = false := decide_eq_false (by omega)
      have q2 : ((x : Int) == 127) = false := beq_eq_false_iff_ne.2 (by omega)
      rw [e]
      clear e h h2
      go_enter Tryd.func49, Tryd.ntmps49
      go_wp2_with fail
      go_ret
      exact ⟨rfl, rfl⟩
theorem Tryd.info21 : (Tryd.prog.info? 21).map (fun i => (i.zero, i.size, i.bytes)) = some (some (.int .i32 0), 1, 4) := by kernel_rfl
set_option maxHeartbeats 1000000 in
set_option maxRecDepth 100000 in
theorem shown_any (s : ByteArray) (w : World) (hs : s.size ≤ 100000000) :
    Calls Tryd.prog 34 #[.string s] w fun e w' => e = .returned (.slice (some ⟨w.heap.size + 1, 0, none⟩) (P s).length (P s).length) ∧
      w'.ownsRow (w.heap.size + 1) 21 1 (.slice (some ⟨w.heap.size + 1, 0, none⟩) (P s).length (P s).length) (P s).length (r32 (chL s)) ∧ Below w.heap.size w w' := by
  have hP := P_len s
  obtain ⟨i0, hi, hz0, hz1, hz2⟩ := info_parts Tryd.info21
  go_enter Tryd.func34, Tryd.ntmps34
  go_wp2_with fail
  refine (count_any s _ (by unfold maxLen; omega)).mono ?_
  rintro e w1 ⟨rfl, p1, rfl⟩
  have hw1 : (w.iter s p1).heap.size = w.heap.size + 1 := by show (w.heap.push _).size = _; simp
  go_wp2_with (first | (at_make; refine wpList_make_own _ rfl _ _ 65 rfl (w.heap.size + 1) 21 i0 (.int .i32 0) 1 Tryd.underlying65 hi hz0 hz1 _ _ _ (P s).length rfl rfl rfl (by rw [hz2]; omega) (by unfold maxLen; omega) (by omega) ?_))
  intro w2 hown hgrow
  have hbel : Below w.heap.size w w2 := (below_iter w s p1).grown hgrow (by omega) (fun _ h => by cases h)
  clear hgrow hw1
  have hz2' : w.heap.size ≤ w2.heap.size := hbel.size
  go_wp2_with fail
  go_loopw [3] (fun v wr => ∃ (k m : Nat), k ≤ (P s).length ∧ m = k ∧ v = .slice (some ⟨w.heap.size + 1, 0, none⟩) m (P s).length ∧ wr.heap[w2.heap.size]? = some (.stringIter s (st s k)) ∧
      wr.ownsRow (w.heap.size + 1) 21 1 (.slice (some ⟨w.heap.size + 1, 0, none⟩) m (P s).length) m (r32 ((chL s).take k)) ∧ Below w.heap.size w wr)
    (fun _ wr => s.size - wr.iterPos w2.heap.size)
  case atStart => exact ⟨0, 0, Nat.zero_le _, rfl, rfl, World.iter_heap _ _ _, hown.alloc _, hbel.alloc hz2' _⟩
  case round =>
    clear hown hbel
    obtain ⟨k, m, hk, hmk, rfl, hit, hown, hbel⟩ := hrel
    by_cases hlt : k < (P s).length
    · have hp := (st_lt s k).2 hlt
      have hw := dw_facts s (st s k) hp
      have hdp := dp_le s (st s k)
      have hlen : m + 1 ≤ (P s).length := by omega
      have HS : Hid (st s (k + 1) = st s k + dw s (st s k)) := st_succ s k hlt
      have HL : Hid ((chL s).take (k + 1) = (chL s).take k ++ [chP s (st s k)]) := chL_take s k hlt
      have HM : Hid (m = k) := hmk
      have HI : Hid (wr.heap[w2.heap.size]? = some (.stringIter s (st s k))) := hit
      have hnx := fun ty => Lib.run_next_any_at (P := Tryd.prog) wr w2.heap.size s (st s k) ty hit hp
      have hown' := own_iter hown hit (st s k + dw s (st s k))
      have hsz := Lib.iterAt_size wr w2.heap.size s (st s k + dw s (st s k))
      have HCH : Hid (chP s (st s k) = if dp s (st s k) < 32 ∨ dp s (st s k) = 127 then 32 else dp s (st s k)) := (rfl : chP s (st s k) = _)
      clear hit hmk
      generalize chP s (st s k) = y at *
      generalize st s k = i at *
      have hnx2 : ∀ ty, (Instr.next (.pointer (some ⟨w2.heap.size, 0, none⟩)) true ty).run Tryd.prog wr = .ok (.tuple #[.bool true, .int .i64 (i : Int), .int .i32 (dp s i : Int)]) (wr.iterAt w2.heap.size s (i + dw s i)) := hnx
      clear hnx
      generalize dw s i = d at *
      generalize dp s i = x at *
      have HC : Hid (∀ V, Calls Tryd.prog 49 #[.int .i32 (x : Int)] V fun e w' => e = .returned (.bool (decide (x < 32 ∨ x = 127))) ∧ w' = V) := fun V => ctl_any x V
      by_cases hc : x < 32 ∨ x = 127
      · have hd : decide (x < 32 ∨ x = 127) = true := decide_eq_true hc
        obtain rfl : y = 32 := HCH.out.trans (if_pos hc)
        rw [hd] at HC
        clear hc hd HCH
        go_wp2_with (first | (go_at_call 49; refine (HC.out _).mono ?_; rintro e w' ⟨rfl, rfl⟩) | (at_builtin; refine wpList_append_fits _ rfl _ _ 65 rfl (w.heap.size + 1) 21 i0 1 Tryd.underlying65 hi hz1 (w.heap.size + 1) _ _ _ rfl (hown'.alloc _) ⟨wr.heap.size, 0, none⟩ 1 1 [.int .i32 32] rfl rfl (one_new _ _ _ _ hsz.symm) (by intro u hu; simp at hu; subst hu; rfl) hlen ?_))
        intro w3 hown3 hgrow3
        have R := iter_round HI.out hown hbel hz2' (by omega) hgrow3
        clear hown' hgrow3 hown hnx2 hbel
        go_wp2_with fail
        go_roundw
        case rel => exact ⟨k + 1, m + 1, hlt, by rw [HM.out], rfl, by rw [HS.out]; exact R.1, by rw [HL.out]; simpa [r32] using hown3, R.2⟩
        case measure =>
          have hq := iterPos_of HI.out
          have hq2 := iterPos_of R.1
          rw [hq, hq2]; omega
      · have hd : decide (x < 32 ∨ x = 127) = false := decide_eq_false hc
        obtain rfl : y = x := HCH.out.trans (if_neg hc)
        rw [hd] at HC
        clear hc hd HCH
        go_wp2_with (first | (go_at_call 49; refine (HC.out _).mono ?_; rintro e w' ⟨rfl, rfl⟩) | (at_builtin; refine wpList_append_fits _ rfl _ _ 65 rfl (w.heap.size + 1) 21 i0 1 Tryd.underlying65 hi hz1 (w.heap.size + 1) _ _ _ rfl (hown'.alloc _) ⟨wr.heap.size, 0, none⟩ 1 1 [.int .i32 (y : Int)] rfl rfl (one_new _ _ _ _ hsz.symm) (by intro u hu; simp at hu; subst hu; rfl) hlen ?_))
        intro w3 hown3 hgrow3
        have R := iter_round HI.out hown hbel hz2' (by omega) hgrow3
        clear hown' hgrow3 hown hnx2 hbel
        go_wp2_with fail
        go_roundw
        case rel => exact ⟨k + 1, m + 1, hlt, by rw [HM.out], rfl, by rw [HS.out]; exact R.1, by rw [HL.out]; simpa [r32] using hown3, R.2⟩
        case measure =>
          have hq := iterPos_of HI.out
          have hq2 := iterPos_of R.1
          rw [hq, hq2]; omega
    · have hp : ¬ st s k < s.size := by rw [st_lt]; exact hlt
      have hnx := fun ty => Lib.run_next_end_at (P := Tryd.prog) wr w2.heap.size s (st s k) ty hit hp
      obtain rfl : k = (P s).length := by omega
      subst hmk
      have HT : Hid ((chL s).take (P s).length = chL s) := (List.take_of_length_le (by rw [chL_len]; omega) : (chL s).take (P s).length = chL s)
      clear hit
      go_wp2_with fail
      go_ret
      rw [HT.out] at hown
      exact ⟨rfl, hown, hbel⟩

end Go.Proofs.YtfkegaencoodbaaDoor
