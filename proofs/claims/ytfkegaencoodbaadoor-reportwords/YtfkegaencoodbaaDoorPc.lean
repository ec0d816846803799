import Derived.Test.YtfkegaencoodbaaDoorPb
import Derived.RangeFuncNested
import Derived.RangeFuncBound
import Derived.RangeFuncCalls
import Derived.RangeFuncLeaves
import Derived.Shelf.Abstract
import Derived.Shelf.RegionOpen
import Derived.OwnWalkIn
import Derived.TacticsInMore
import Derived.LoopNIn
import Derived.LoopIn
set_option linter.unusedVariables false
set_option linter.unusedSimpArgs false
namespace Go.Proofs.YtfkegaencoodbaaDoor
open Go.RowKit Go.Shelf
attribute [local go_sem] Oper.semAt_some

/-- How many lines a text has; those that have come when so many rounds are over. -/
def LN (s : ByteArray) : Nat := cn s s.size + 1
def upto (s : ByteArray) (k : Nat) : List (Int × ByteArray) := (List.range k).map (fun i => (((i + 1 : Nat) : Int), ln s i))
theorem upto_succ (s : ByteArray) (k : Nat) : upto s (k + 1) = upto s k ++ [(((k + 1 : Nat) : Int), ln s k)] := by
  unfold upto; rw [List.range_succ, List.map_append]; rfl
theorem upto_len (s : ByteArray) (k : Nat) : (upto s k).length = k := by unfold upto; simp

theorem nl_tail (s : ByteArray) (a : Nat) (ha : a ≤ s.size) : nl (s.extract a s.size) 0 = nl s a - a := by
  have z := size_ext s a s.size (Nat.le_refl _)
  obtain ⟨h1, h2, h3, h4⟩ := nl_facts s a ha
  refine nl_eq _ 0 _ (Nat.zero_le _) (by omega) (fun k _ hk => ?_) ?_
  · rw [by8_ext' s a s.size k (by omega)]; exact h3 _ (by omega) (by omega)
  · by_cases e : nl s a = s.size
    · left; omega
    · right; rw [by8_ext' s a s.size _ (by omega), show a + (nl s a - a) = nl s a by omega]; exact h4 (by omega)

theorem cut_ln (s : ByteArray) (k : Nat) (h : k < LN s) : cutL (s.extract (bg s k) s.size) = ln s k ∧ cutB (s.extract (bg s k) s.size) = decide (k + 1 < LN s) ∧
    (k + 1 < LN s → cutR (s.extract (bg s k) s.size) = s.extract (bg s (k + 1)) s.size) := by
  unfold LN at h ⊢
  have hb := bg_facts s k (by omega)
  obtain ⟨h1, h2, h3⟩ := nl_bg s k (by omega)
  have z := size_ext s (bg s k) s.size (Nat.le_refl _)
  have e := nl_tail s (bg s k) hb.1
  refine ⟨?_, ?_, fun hk => ?_⟩
  · unfold cutL; rw [e, ext_ext s (bg s k) s.size 0 _ (Nat.le_refl _) (by omega) (Nat.zero_le _), Nat.add_zero, show bg s k + (nl s (bg s k) - bg s k) = nl s (bg s k) by omega]; rfl
  · unfold cutB; rw [e, z]
    by_cases hc : nl s (bg s k) < s.size
    · have := h3.1 hc
      rw [decide_eq_true (by omega), decide_eq_true (by omega)]
    · have : ¬ k < cn s s.size := fun hh => hc (h3.2 hh)
      rw [decide_eq_false (by omega), decide_eq_false (by omega)]
  · have hc := h3.2 (by omega)
    unfold cutR; rw [e, z, if_pos (by omega), ext_ext s (bg s k) s.size _ _ (Nat.le_refl _) (by omega) (by omega)]
    show s.extract _ _ = s.extract (nl s (bg s k) + 1) _
    congr 1 <;> omega

abbrev Ln := { x : Int × ByteArray // x.2.size ≤ maxLen }
abbrev lencs (x : Ln) : Array Value := #[.int .i64 x.1.1, .string x.1.2]
theorem grown_of_below {w w' : World} (h : Below w.heap.size w w') : w.grownBy w' none := ⟨h.os, h.tape, h.output, h.size, fun k hk _ => h.block k hk⟩
theorem keeps_of_below {w w' : World} (h : Below w.heap.size w w') : KeepsOthers w w' := KeepsOthers.of_grownBy (grown_of_below h) (fun _ _ e => by cases e)

set_option maxRecDepth 100000 in
set_option maxHeartbeats 2000000 in
theorem lines_stops (n : Nat) (hn : 1 ≤ n) (Bn : Nat) (s : ByteArray) (hs : s.size ≤ 2147483647) (w : World) (hB : Bn < w.heap.size) (hc : w.cell? ⟨Bn, 0, none⟩ = some (.string s)) :
    SeqStopsK Fence.wide n Tryd.prog 57 #[.pointer (some ⟨Bn, 0, none⟩)] lencs (fun _ _ => True) (fun xs => xs.map (·.1) = upto s (LN s)) (fun pre => ∃ k, k ≤ LN s ∧ pre.map (·.1) = upto s k) (LN s) w := fun l J Jx W hW hJ hJx hY h0 => by
  have hL : LN s ≤ 2147483648 := by have := cn_le s s.size; unfold LN; omega
  have hcW : W.cell? ⟨Bn, 0, none⟩ = some (.string s) := (hW.cell (p := ⟨Bn, 0, none⟩) hB).trans hc
  refine callsIn_of_wp Tryd.func57 rfl trivial ?_ rfl
  simp only [Tryd.ntmps57, List.size_toArray, List.length_cons, List.length_nil, Nat.reduceAdd, Nat.reduceSub, Array.replicate_succ, Array.replicate_zero, List.push_toArray, List.append_toArray, List.nil_append, List.cons_append]
  gi_wp2
  gi_loopw [3, 4, 5] (fun r b m wr => ∃ (k : Nat) (pre : List Ln) (q : ByteArray) (z : Int), r = .string q ∧ b = .bool (decide (k < LN s)) ∧ m = .int .i64 z ∧ Hid (z = ((k + 1 : Nat) : Int)) ∧ Hid (k ≤ LN s) ∧ Hid (pre.map (·.1) = upto s k) ∧ Hid (k < LN s → q = s.extract (bg s k) s.size) ∧ J pre wr)
    (fun _ _ m _ => LN s + 1 - (RowKit.intOf m).toNat)
  case atStart =>
    refine ⟨0, [], s, 1, rfl, by rw [decide_eq_true (by unfold LN; omega)], rfl, rfl, Nat.zero_le _, rfl, ?_, h0⟩
    intro _; rw [show bg s 0 = 0 from rfl, extract_all]
  case round =>
    obtain ⟨k, pre, q, z, rfl, rfl, rfl, HZ, HK, HP, HQ, hJs⟩ := hrel
    by_cases hk : k < LN s
    · obtain ⟨e1, e2, e3⟩ := cut_ln s k hk
      have hq := HQ.out hk
      have hqs : q.size ≤ maxLen := by rw [hq, size_ext _ _ _ (Nat.le_refl _)]; unfold maxLen; omega
      have hls : (ln s k).size ≤ maxLen := by have := ln_size s k (by unfold LN at hk; omega); unfold maxLen; omega
      rw [← hq] at e1 e2 e3
      obtain ⟨b, hb⟩ : ∃ b, decide (k < LN s) = b := ⟨_, rfl⟩
      have hbt : b = true := by rw [← hb]; exact decide_eq_true hk
      rw [hb, hbt]
      have HE1 : Hid (cutL q = ln s k) := e1
      have HE2 : Hid (cutB q = decide (k + 1 < LN s)) := e2
      have HE3 : Hid (k + 1 < LN s → cutR q = s.extract (bg s (k + 1)) s.size) := e3
      have HKL : Hid (k < LN s) := hk
      have hz1 : 0 ≤ z := by have := HZ.out; omega
      have hz2 : z ≤ 2147483648 := by have := HZ.out; omega
      have HLEN : Hid (pre.length < LN s) := by
        show _ < _
        have := congrArg List.length HP.out
        rw [upto_len, List.length_map] at this; omega
      clear e1 e2 e3 hq hb hbt HQ hk
      obtain ⟨L, hLL⟩ : ∃ L, ln s k = L := ⟨_, rfl⟩
      obtain ⟨CL, hCL⟩ : ∃ L, cutL q = L := ⟨_, rfl⟩
      obtain ⟨CR, hCR⟩ : ∃ L, cutR q = L := ⟨_, rfl⟩
      obtain ⟨CB, hCB⟩ : ∃ L, cutB q = L := ⟨_, rfl⟩
      have hcut : ∀ w, Calls Tryd.prog 58 #[.string q, .string ⟨#[10]⟩] w fun e w' => e = .returned (.tuple #[.string CL, .string CR, .bool CB]) ∧ Below w.heap.size w w' := by
        intro w; rw [← hCL, ← hCR, ← hCB]; exact cut_any q w hqs
      rw [hCL, hLL] at HE1
      rw [hCB] at HE2
      rw [hCR] at HE3
      rw [hLL] at hls
      obtain rfl := HE1.out
      have HLL : Hid (ln s k = CL) := hLL
      clear hCL hCR hCB hLL
      gi_wp2
      refine ⟨trivial, ?_⟩
      refine (callsIn_wide.2 (hcut _)).mono ?_
      rintro e w1 ⟨rfl, hb1⟩
      have hJ1 := hJ pre _ w1 none hJs (grown_of_below hb1) (fun r e => by cases e)
      obtain ⟨fn, tmps, assign, body, hy, hR⟩ := hY pre ⟨(z, CL), hls⟩ w1 hJ1 HLEN.out
      dsimp only [lencs] at hy
      gi_wp2
      refine hR.mono ?_
      rintro e W3 (⟨rfl, hJ3, _⟩ | ⟨rfl, hJx3⟩)
      · gi_wp2
        go_roundw
        case rel => exact ⟨k + 1, pre ++ [⟨(z, CL), hls⟩], CR, z + 1, rfl, by rw [HE2.out], by go_num, by show _ = _; rw [HZ.out]; omega, HKL.out, by show _ = _; rw [List.map_append, HP.out, upto_succ, HLL.out, HZ.out]; rfl, HE3.out, hJ3⟩
        case measure => simp [RowKit.intOf]; have := HZ.out; have := HKL.out; omega
      · gi_wp2
        refine bodyPost_ret (results_none rfl _ _ _) rfl ?_
        exact ⟨⟨_, rfl⟩, .inr ⟨pre ++ [⟨(z, CL), hls⟩], ⟨k + 1, HKL.out, by rw [List.map_append, HP.out, upto_succ, HLL.out, HZ.out]; rfl⟩, hJx3⟩⟩
    · have hbf : decide (k < LN s) = false := decide_eq_false hk
      rw [hbf]
      have HE : Hid (k = LN s) := by show _ = _; have := HK.out; omega
      clear hbf hk HQ
      gi_wp2
      go_end0
      exact ⟨⟨_, rfl⟩, .inl ⟨pre, by rw [HP.out, HE.out], hJs⟩⟩

end Go.Proofs.YtfkegaencoodbaaDoor
