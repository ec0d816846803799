import Derived.Lib.Bytealg
import Derived.Lib.Walk
import Derived.Shelf.RegionOpenPlain
import Derived.RangeFuncNested
import Derived.RangeFuncBound
import Derived.RangeFuncCalls
import Derived.RangeFuncLeaves
import Derived.Shelf.Abstract
import Derived.Shelf.RegionOpen
import Derived.OwnWalkIn
import Derived.TacticsInMore
import Derived.LoopNIn
import Derived.LoopIn
import Derived.Test.YtojjfbnpjhjidaaGreatDoorM09
set_option linter.unusedVariables false
set_option linter.unusedSimpArgs false
namespace Go.Proofs.YtojjfbnpjhjidaaGreatDoor.Lx
open Go.RowKit
theorem ixb : ∀ l : List UInt8, (Lib.indexByte l 10 = -1 ∧ ∀ k : Nat, k < l.length → l[k]? ≠ some (10 : UInt8)) ∨ ∃ j : Nat, Lib.indexByte l 10 = (j : Int) ∧ j < l.length ∧ l[j]? = some (10 : UInt8) ∧ ∀ k, k < j → l[k]? ≠ some (10 : UInt8)
  | [] => .inl ⟨rfl, fun k h => by simp at h⟩
  | b :: l => by
    unfold Lib.indexByte
    by_cases hb : b = 10
    · exact .inr ⟨0, by simp [hb], by simp, by simp [hb], fun k h => by omega⟩
    · have hb' : (b == (10 : UInt8)) = false := by simpa using hb
      rw [hb']
      rcases ixb l with ⟨h1, h2⟩ | ⟨j, h1, h2, h3, h4⟩
      · left
        refine ⟨by simp [h1], fun k hk => ?_⟩
        cases k with
        | zero => simpa using hb
        | succ k => simp only [List.getElem?_cons_succ]; exact h2 k (by simpa using hk)
      · right
        refine ⟨j + 1, ?_, by simp; omega, by simpa using h3, fun k hk => ?_⟩
        · have : ¬ ((j : Int) = -1) := by omega
          simp [h1, this]
        · cases k with
          | zero => simpa using hb
          | succ k => simp only [List.getElem?_cons_succ]; exact h4 k (by omega)
theorem by8_list (s : ByteArray) (k : Nat) (h : k < s.size) : by8 s k = 10 ↔ s.data.toList[k]? = some (10 : UInt8) := by
  have hz : k < s.data.size := h
  have e : s.get! k = s.data.toList[k]?.getD default := by
    show s.data[k]! = _
    rw [Array.getElem!_eq_getD, Array.getD_eq_getD_getElem?, Array.getElem?_toList]
  unfold by8
  rw [e, Array.getElem?_toList, Array.getElem?_eq_getElem hz]
  simp
  constructor
  · intro h; exact UInt8.toNat_inj.1 h
  · intro h; rw [h]; rfl
def nlI (r : ByteArray) : Int := if nl r 0 < r.size then (nl r 0 : Int) else -1
theorem index_nl (r : ByteArray) : Lib.indexByte r.data.toList 10 = nlI r := by
  have hz : r.data.toList.length = r.size := by simp
  rcases ixb r.data.toList with ⟨h1, h2⟩ | ⟨j, h1, h2, h3, h4⟩
  · have e : nl r 0 = r.size := nl_eq r 0 r.size (Nat.zero_le _) (Nat.le_refl _) (fun k _ hk => fun hc => h2 k (by omega) ((by8_list r k hk).1 hc)) (.inl rfl)
    rw [h1]; unfold nlI; rw [if_neg (by omega)]
  · have e : nl r 0 = j := nl_eq r 0 j (Nat.zero_le _) (by omega) (fun k _ hk => fun hc => h4 k hk ((by8_list r k (by omega)).1 hc)) (.inr ((by8_list r j (by omega)).2 h3))
    rw [h1]; unfold nlI; rw [if_pos (by omega), e]
set_option maxRecDepth 100000 in
set_option maxHeartbeats 400000 in
theorem ixbyte_any (s : ByteArray) (w : World) :
    Calls Tryz.prog 106 #[.string s, .int .u8 10] w fun e w' => e = .returned (.int .i64 (nlI s)) ∧ w' = w := by
  go_enter Tryz.func106, Tryz.ntmps106
  go_wp2
  rw [run_callFunc_extern Tryz.func110 (by kernel_rfl) (by kernel_rfl) (by kernel_rfl) (e := Extern.BytealgIndexByte.indexByte) (by kernel_rfl), Lib.run_indexByteString]
  simp only [Result.andThen]
  rw [Oper.upon_value]
  go_wp2
  go_ret
  exact ⟨by rw [← index_nl]; rfl, rfl⟩
set_option maxRecDepth 100000 in
set_option maxHeartbeats 1000000 in
theorem index_any (s : ByteArray) (w : World) :
    Calls Tryz.prog 113 #[.string s, .string ⟨#[10]⟩] w fun e w' => e = .returned (.int .i64 (nlI s)) ∧ w' = w := by
  go_enter Tryz.func113, Tryz.ntmps113
  go_wp2_with (go_at_call 106; refine (ixbyte_any _ _).mono ?_; rintro e w' ⟨rfl, rfl⟩)
  · have h : ([(10 : UInt8)] == s.toList) = true := by assumption
    have e : s.data.toList = [10] := by rw [← Lib.toList_data]; exact (beq_iff_eq.1 h).symm
    have e2 : nlI s = 0 := by rw [← index_nl, e]; rfl
    go_ret
    exact ⟨by rw [e2]; rfl, rfl⟩
  · go_ret
    exact ⟨rfl, rfl⟩
def cutL (r : ByteArray) : ByteArray := r.extract 0 (nl r 0)
def cutR (r : ByteArray) : ByteArray := if nl r 0 < r.size then r.extract (nl r 0 + 1) r.size else ⟨#[]⟩
def cutB (r : ByteArray) : Bool := decide (nl r 0 < r.size)
set_option maxHeartbeats 1000000 in
theorem slcut_any (s : ByteArray) (w : World) (hs : s.size ≤ maxLen) :
    Calls Tryz.prog 109 #[.string s, .string ⟨#[10]⟩] w fun e w' => e = .returned (.tuple #[.string (cutL s), .string (cutR s), .bool (cutB s)]) ∧ Below w.heap.size w w' := by
  unfold maxLen at hs
  have hn := nl_facts s 0 (Nat.zero_le _)
  by_cases h : nl s 0 < s.size
  · have Hi : Hid (nlI s = (nl s 0 : Int)) := by show _ = _; unfold nlI; rw [if_pos h]
    have HL : Hid (cutL s = s.extract 0 (nl s 0)) := rfl
    have HR : Hid (cutR s = s.extract (nl s 0 + 1) s.size) := by show _ = _; unfold cutR; rw [if_pos h]
    have HB : Hid (cutB s = true) := by show _ = _; unfold cutB; simp [h]
    obtain ⟨n, hn'⟩ : ∃ n, nl s 0 = n := ⟨_, rfl⟩
    rw [hn'] at Hi HL HR hn h
    clear hn'
    go_enter Tryz.func109, Tryz.ntmps109
    go_wp2_with (go_at_call 113; refine (index_any _ _).mono ?_; rintro e w' ⟨rfl, rfl⟩; rw [Hi.out])
    go_region
    go_wp2
    go_ret3
    exact ⟨by rw [HL.out, HR.out, HB.out]; rfl, (Below.refl _ _).drew⟩
  · have Hi : Hid (nlI s = -1) := by show _ = _; unfold nlI; rw [if_neg h]
    have HL : Hid (cutL s = s) := by show _ = _; unfold cutL; rw [show nl s 0 = s.size by omega, extract_all]
    have HR : Hid (cutR s = ⟨#[]⟩) := by show _ = _; unfold cutR; rw [if_neg h]
    have HB : Hid (cutB s = false) := by show _ = _; unfold cutB; simp [h]
    clear hn h
    go_enter Tryz.func109, Tryz.ntmps109
    go_wp2_with (go_at_call 113; refine (index_any _ _).mono ?_; rintro e w' ⟨rfl, rfl⟩; rw [Hi.out])
    go_ret3
    exact ⟨by rw [HL.out, HR.out, HB.out]; rfl, Below.refl _ _⟩
set_option maxHeartbeats 1000000 in
theorem cut_any (s : ByteArray) (w : World) (hs : s.size ≤ maxLen) :
    Calls Tryz.prog 105 #[.string s, .string ⟨#[10]⟩] w fun e w' => e = .returned (.tuple #[.string (cutL s), .string (cutR s), .bool (cutB s)]) ∧ Below w.heap.size w w' := by
  go_enter Tryz.func105, Tryz.ntmps105
  go_wp2_with (go_at_call 109; refine (slcut_any _ _ hs).mono ?_; rintro e w' ⟨rfl, hb⟩)
  go_ret3
  exact ⟨rfl, hb⟩
set_option maxHeartbeats 1000000 in
theorem lines_any (s : ByteArray) (w : World) :
    Calls Tryz.prog 93 #[.string s] w fun e w' => e = .returned (.func (.func 104) #[] #[.pointer (some ⟨w.heap.size, 0, none⟩)]) ∧ w' = w.alloc (.cells #[.string s] 9) := by
  have hmf : ∀ (fn : Fn) (first cap : Array Value) (w : World), (Instr.makeFunc fn first cap).run Tryz.prog w = .ok (.func fn first cap) w := fun _ _ _ _ => rfl
  go_enter Tryz.func93, Tryz.ntmps93
  go_wp2
  go_ret
  exact ⟨rfl, rfl⟩
end Go.Proofs.YtojjfbnpjhjidaaGreatDoor.Lx
namespace Go.Proofs.YtojjfbnpjhjidaaGreatDoor.Lx
open Go.RowKit Go.Shelf
attribute [local go_sem] Oper.semAt_some
def LN (s : ByteArray) : Nat := cn s s.size + 1
def upto (s : ByteArray) (k : Nat) : List (Int × ByteArray) := (List.range k).map (fun i => (((i + 1 : Nat) : Int), ln s i))
theorem upto_succ (s : ByteArray) (k : Nat) : upto s (k + 1) = upto s k ++ [(((k + 1 : Nat) : Int), ln s k)] := by
  unfold upto; rw [List.range_succ, List.map_append]; rfl
theorem upto_len (s : ByteArray) (k : Nat) : (upto s k).length = k := by unfold upto; simp
theorem nl_tail (s : ByteArray) (a : Nat) (ha : a ≤ s.size) : nl (s.extract a s.size) 0 = nl s a - a := by
  have z := size_ext s a s.size (Nat.le_refl _)
  obtain ⟨h1, h2, h3, h4⟩ := nl_facts s a ha
  refine nl_eq _ 0 _ (Nat.zero_le _) (by omega) (fun k _ hk => ?_) ?_
  · rw [by8_ext' s a s.size k (by omega)]; exact h3 _ (by omega) (by omega)
  · by_cases e : nl s a = s.size
    · left; omega
    · right; rw [by8_ext' s a s.size _ (by omega), show a + (nl s a - a) = nl s a by omega]; exact h4 (by omega)
theorem cut_ln (s : ByteArray) (k : Nat) (h : k < LN s) : cutL (s.extract (bg s k) s.size) = ln s k ∧ cutB (s.extract (bg s k) s.size) = decide (k + 1 < LN s) ∧
    (k + 1 < LN s → cutR (s.extract (bg s k) s.size) = s.extract (bg s (k + 1)) s.size) := by
  unfold LN at h ⊢
  have hb := bg_facts s k (by omega)
  obtain ⟨h1, h2, h3⟩ := nl_bg s k (by omega)
  have z := size_ext s (bg s k) s.size (Nat.le_refl _)
  have e := nl_tail s (bg s k) hb.1
  refine ⟨?_, ?_, fun hk => ?_⟩
  · unfold cutL; rw [e, ext_ext s (bg s k) s.size 0 _ (Nat.le_refl _) (by omega) (Nat.zero_le _), Nat.add_zero, show bg s k + (nl s (bg s k) - bg s k) = nl s (bg s k) by omega]; rfl
  · unfold cutB; rw [e, z]
    by_cases hc : nl s (bg s k) < s.size
    · have := h3.1 hc
      rw [decide_eq_true (by omega), decide_eq_true (by omega)]
    · have : ¬ k < cn s s.size := fun hh => hc (h3.2 hh)
      rw [decide_eq_false (by omega), decide_eq_false (by omega)]
  · have hc := h3.2 (by omega)
    unfold cutR; rw [e, z, if_pos (by omega), ext_ext s (bg s k) s.size _ _ (Nat.le_refl _) (by omega) (by omega)]
    show s.extract _ _ = s.extract (nl s (bg s k) + 1) _
    congr 1 <;> omega
abbrev Ln := { x : Int × ByteArray // x.2.size ≤ maxLen }
abbrev lencs (x : Ln) : Array Value := #[.int .i64 x.1.1, .string x.1.2]
theorem grown_of_below {w w' : World} (h : Below w.heap.size w w') : w.grownBy w' none := ⟨h.os, h.tape, h.output, h.size, fun k hk _ => h.block k hk⟩
theorem keeps_of_below {w w' : World} (h : Below w.heap.size w w') : KeepsOthers w w' := KeepsOthers.of_grownBy (grown_of_below h) (fun _ _ e => by cases e)
set_option maxRecDepth 100000 in
set_option maxHeartbeats 2000000 in
theorem lines_stops (n : Nat) (hn : 1 ≤ n) (Bn : Nat) (s : ByteArray) (hs : s.size ≤ 2147483647) (w : World) (hB : Bn < w.heap.size) (hc : w.cell? ⟨Bn, 0, none⟩ = some (.string s)) :
    SeqStopsK Fence.wide n Tryz.prog 104 #[.pointer (some ⟨Bn, 0, none⟩)] lencs (fun _ _ => True) (fun xs => xs.map (·.1) = upto s (LN s)) (fun pre => ∃ k, k ≤ LN s ∧ pre.map (·.1) = upto s k) (LN s) w := fun l J Jx W hW hJ hJx hY h0 => by
  have hL : LN s ≤ 2147483648 := by have := cn_le s s.size; unfold LN; omega
  have hcW : W.cell? ⟨Bn, 0, none⟩ = some (.string s) := (hW.cell (p := ⟨Bn, 0, none⟩) hB).trans hc
  refine callsIn_of_wp Tryz.func104 rfl trivial ?_ rfl
  simp only [Tryz.ntmps104, List.size_toArray, List.length_cons, List.length_nil, Nat.reduceAdd, Nat.reduceSub, Array.replicate_succ, Array.replicate_zero, List.push_toArray, List.append_toArray, List.nil_append, List.cons_append]
  gi_wp2
  gi_loopw [3, 4, 5] (fun r b m wr => ∃ (k : Nat) (pre : List Ln) (q : ByteArray) (z : Int), r = .string q ∧ b = .bool (decide (k < LN s)) ∧ m = .int .i64 z ∧ Hid (z = ((k + 1 : Nat) : Int)) ∧ Hid (k ≤ LN s) ∧ Hid (pre.map (·.1) = upto s k) ∧ Hid (k < LN s → q = s.extract (bg s k) s.size) ∧ J pre wr)
    (fun _ _ m _ => LN s + 1 - (RowKit.intOf m).toNat)
  case atStart =>
    refine ⟨0, [], s, 1, rfl, by rw [decide_eq_true (by unfold LN; omega)], rfl, rfl, Nat.zero_le _, rfl, ?_, h0⟩
    intro _; rw [show bg s 0 = 0 from rfl, extract_all]
  case round =>
    obtain ⟨k, pre, q, z, rfl, rfl, rfl, HZ, HK, HP, HQ, hJs⟩ := hrel
    by_cases hk : k < LN s
    · obtain ⟨e1, e2, e3⟩ := cut_ln s k hk
      have hq := HQ.out hk
      have hqs : q.size ≤ maxLen := by rw [hq, size_ext _ _ _ (Nat.le_refl _)]; unfold maxLen; omega
      have hls : (ln s k).size ≤ maxLen := by have := ln_size s k (by unfold LN at hk; omega); unfold maxLen; omega
      rw [← hq] at e1 e2 e3
      obtain ⟨b, hb⟩ : ∃ b, decide (k < LN s) = b := ⟨_, rfl⟩
      have hbt : b = true := by rw [← hb]; exact decide_eq_true hk
      rw [hb, hbt]
      have HE1 : Hid (cutL q = ln s k) := e1
      have HE2 : Hid (cutB q = decide (k + 1 < LN s)) := e2
      have HE3 : Hid (k + 1 < LN s → cutR q = s.extract (bg s (k + 1)) s.size) := e3
      have HKL : Hid (k < LN s) := hk
      have hz1 : 0 ≤ z := by have := HZ.out; omega
      have hz2 : z ≤ 2147483648 := by have := HZ.out; omega
      have HLEN : Hid (pre.length < LN s) := by
        show _ < _
        have := congrArg List.length HP.out
        rw [upto_len, List.length_map] at this; omega
      clear e1 e2 e3 hq hb hbt HQ hk
      obtain ⟨L, hLL⟩ : ∃ L, ln s k = L := ⟨_, rfl⟩
      obtain ⟨CL, hCL⟩ : ∃ L, cutL q = L := ⟨_, rfl⟩
      obtain ⟨CR, hCR⟩ : ∃ L, cutR q = L := ⟨_, rfl⟩
      obtain ⟨CB, hCB⟩ : ∃ L, cutB q = L := ⟨_, rfl⟩
      have hcut : ∀ w, Calls Tryz.prog 105 #[.string q, .string ⟨#[10]⟩] w fun e w' => e = .returned (.tuple #[.string CL, .string CR, .bool CB]) ∧ Below w.heap.size w w' := by
        intro w; rw [← hCL, ← hCR, ← hCB]; exact cut_any q w hqs
      rw [hCL, hLL] at HE1
      rw [hCB] at HE2
      rw [hCR] at HE3
      rw [hLL] at hls
      obtain rfl := HE1.out
      have HLL : Hid (ln s k = CL) := hLL
      clear hCL hCR hCB hLL
      gi_wp2
      refine ⟨trivial, ?_⟩
      refine (callsIn_wide.2 (hcut _)).mono ?_
      rintro e w1 ⟨rfl, hb1⟩
      have hJ1 := hJ pre _ w1 none hJs (grown_of_below hb1) (fun r e => by cases e)
      obtain ⟨fn, tmps, assign, body, hy, hR⟩ := hY pre ⟨(z, CL), hls⟩ w1 hJ1 HLEN.out
      dsimp only [lencs] at hy
      gi_wp2
      refine hR.mono ?_
      rintro e W3 (⟨rfl, hJ3, _⟩ | ⟨rfl, hJx3⟩)
      · gi_wp2
        go_roundw
        case rel => exact ⟨k + 1, pre ++ [⟨(z, CL), hls⟩], CR, z + 1, rfl, by rw [HE2.out], by go_num, by show _ = _; rw [HZ.out]; omega, HKL.out, by show _ = _; rw [List.map_append, HP.out, upto_succ, HLL.out, HZ.out]; rfl, HE3.out, hJ3⟩
        case measure => simp [RowKit.intOf]; have := HZ.out; have := HKL.out; omega
      · gi_wp2
        refine bodyPost_ret (results_none rfl _ _ _) rfl ?_
        exact ⟨⟨_, rfl⟩, .inr ⟨pre ++ [⟨(z, CL), hls⟩], ⟨k + 1, HKL.out, by rw [List.map_append, HP.out, upto_succ, HLL.out, HZ.out]; rfl⟩, hJx3⟩⟩
    · have hbf : decide (k < LN s) = false := decide_eq_false hk
      rw [hbf]
      have HE : Hid (k = LN s) := by show _ = _; have := HK.out; omega
      clear hbf hk HQ
      gi_wp2
      go_end0
      exact ⟨⟨_, rfl⟩, .inl ⟨pre, by rw [HP.out, HE.out], hJs⟩⟩
attribute [local go_sem] Oper.semAt_some
end Go.Proofs.YtojjfbnpjhjidaaGreatDoor.Lx
