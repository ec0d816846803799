import Derived.Test.YtjibpdncginkdaaNf
set_option linter.unusedVariables false
set_option linter.unusedSimpArgs false
namespace Go.Proofs.Ytjibpdncginkdaa
open Go.RowKit

/-- A thing: its name and its two numbers. -/
abbrev Th := ByteArray × Int × Int
def encT (t : Th) : List Value := [.string t.1, .int .i64 t.2.1, .int .i64 t.2.2]
def aggT (t : Th) : Value := .agg #[.string t.1, .int .i64 t.2.1, .int .i64 t.2.2]
def z0 : Th := (⟨#[]⟩, 0, 0)
abbrev RT := RG (β := Th) 57 25 encT
abbrev AfT := After (β := Th) 57 25 encT

theorem lenT3 (t : Th) : (encT t).length = 3 := rfl
theorem flatT_at0 {zs : List Th} {k : Nat} {t : Th} (h : zs[k]? = some t) : (flat encT zs).toArray[k * 3]? = some (.string t.1) := by
  rw [List.getElem?_toArray]; have := flat_at encT 3 lenT3 zs k 0 t (.string t.1) h rfl; simpa using this
theorem flatT_at1 {zs : List Th} {k : Nat} {t : Th} (h : zs[k]? = some t) : (flat encT zs).toArray[k * 3 + 1]? = some (.int .i64 t.2.1) := by
  rw [List.getElem?_toArray]; exact flat_at encT 3 lenT3 zs k 1 t (.int .i64 t.2.1) h rfl
theorem flatT_at2 {zs : List Th} {k : Nat} {t : Th} (h : zs[k]? = some t) : (flat encT zs).toArray[k * 3 + 2]? = some (.int .i64 t.2.2) := by
  rw [List.getElem?_toArray]; exact flat_at encT 3 lenT3 zs k 2 t (.int .i64 t.2.2) h rfl
theorem flatT_setL : ∀ (zs : List Th) (k : Nat) (t : Th), (((flat encT zs).set (k * 3) (.string t.1)).set (k * 3 + 1) (.int .i64 t.2.1)).set (k * 3 + 2) (.int .i64 t.2.2) = flat encT (zs.set k t)
  | [], k, t => by simp [flat]
  | z :: r, 0, t => by simp [flat, encT]
  | z :: r, k + 1, t => by
    have ih := flatT_setL r k t
    rw [List.set_cons_succ, flat_cons, flat_cons, ← ih]
    simp only [encT, List.cons_append, List.nil_append, Nat.succ_mul]
    rfl
theorem flatT_set (zs : List Th) (k : Nat) (t : Th) : (((flat encT zs).toArray.setIfInBounds (k * 3) (.string t.1)).setIfInBounds (k * 3 + 1) (.int .i64 t.2.1)).setIfInBounds (k * 3 + 2) (.int .i64 t.2.2) = (flat encT (zs.set k t)).toArray := by
  rw [List.setIfInBounds_toArray, List.setIfInBounds_toArray, List.setIfInBounds_toArray, flatT_setL]
theorem mem_flatT {zs : List Th} {v : Value} (h : v ∈ flat encT zs) : v.oneCell' = true := by
  unfold flat at h
  obtain ⟨t, _, ht⟩ := List.mem_flatMap.1 h
  simp [encT] at ht
  rcases ht with rfl | rfl | rfl <;> rfl

theorem Try.info25 : (Try.prog.info? 25).map (fun i => (i.zero, i.size, i.bytes)) = some (some (.agg #[.string ByteArray.empty, .int .i64 0, .int .i64 0]), 3, 32) := by kernel_rfl
theorem Try.size25 : (Try.prog.info? 25).map (·.size) = some 3 := by kernel_rfl

theorem made3 (a b c : Value) : ∀ N, (madeCells #[a, b, c] (N * 3)).toList = (List.replicate N [a, b, c]).flatten
  | 0 => by simp [madeCells]
  | N + 1 => by
    have ih := made3 a b c N
    rw [List.replicate_succ', List.flatten_append, ← ih]
    have e0 : (N * 3) % 3 = 0 := by omega
    have e1 : (N * 3 + 1) % 3 = 1 := by omega
    have e2 : (N * 3 + 2) % 3 = 2 := by omega
    simp only [madeCells, Array.toList_map, Array.toList_range, Nat.succ_mul, List.range_succ, List.map_append, List.map_cons, List.map_nil, List.append_assoc]
    simp [e0, e1, e2]
theorem makeT (N : Nat) (hN : N ≤ 2097152) (w : World) : (Instr.makeSlice 55 (.int .i64 (N : Int)) (.int .i64 (N : Int))).run Try.prog w = .ok (.slice (some ⟨w.heap.size, 0, none⟩) N N) (w.alloc (.cells (flat encT (List.replicate N z0)).toArray 25)) := by
  obtain ⟨i0, hi, hz0, hz1, hz2⟩ := info_parts Try.info25
  have h := run_make (P := Try.prog) w 55 25 i0 _ Try.underlying55 hi hz0 .i64 .i64 (N : Int) (N : Int) (by omega) (by omega) (by rw [hz2]; omega) (by omega)
  rw [h]
  congr 4
  rw [hz1]
  apply Array.toList_inj.1
  show (madeCells #[_, _, _] (N * 3)).toList = _
  rw [made3]
  unfold flat
  rw [List.flatMap_replicate]
  rfl

theorem cellT (g n front k p : Nat) (sp : Option Addr) (w : World) (h1 : w.cell? ⟨g, 1, none⟩ = some (.slice sp n n)) (h2 : w.cell? ⟨g, 2, none⟩ = some (.int .i64 front)) (hn : 0 < n) (hb : front ≤ 2097152) (hk : k ≤ 2097152) (hp : (front + k) % n = p) :
    Calls Try.prog 27 #[.pointer (some ⟨g, 0, none⟩), .int .i64 k] w fun e w' => e = .returned (.int .i64 p) ∧ ∃ m, w' = w.drewN m := by
  have q1 : ¬ ((n : Int) = 0) := by omega
  have HP : Hid (((front : Int) + (k : Int)) % (n : Int) = (p : Int)) := by show _ = _; rw [← hp]; simp
  clear hp
  go_enter Try.func27, Try.ntmps27
  go_wp2_with fail
  go_quiet (fail)
  go_wp2_with fail
  go_ret
  exact ⟨congrArg (fun x => Ending.returned (.int .i64 x)) HP.out, ⟨_, rfl⟩⟩
theorem someT_nil (w : World) : Calls Try.prog 25 #[.pointer none] w fun e w' => e = .returned (.int .i64 3) ∧ w' = w := by
  go_enter Try.func25, Try.ntmps25
  go_wp2_with fail
  go_ret
  exact ⟨rfl, rfl⟩
theorem someT_empty (g : Nat) (w : World) (h : w.cell? ⟨g, 3, none⟩ = some (.int .i64 0)) : Calls Try.prog 25 #[.pointer (some ⟨g, 0, none⟩)] w fun e w' => e = .returned (.int .i64 51) ∧ w' = w := by
  go_enter Try.func25, Try.ntmps25
  go_wp2_with fail
  go_ret
  exact ⟨rfl, rfl⟩
theorem someT (g c : Nat) (w : World) (h : w.cell? ⟨g, 3, none⟩ = some (.int .i64 c)) (hc : 0 < c) : Calls Try.prog 25 #[.pointer (some ⟨g, 0, none⟩)] w fun e w' => e = .returned (.int .i64 0) ∧ w' = w := by
  have q1 : ((c : Int) == 0) = false := by simp; omega
  have q2 : ¬ ((c : Int) = 0) := by omega
  have q3 : ¬ (c = 0) := by omega
  go_enter Try.func25, Try.ntmps25
  go_wp2_with fail
  go_ret
  exact ⟨rfl, rfl⟩
theorem withinT_nil (k : Int) (w : World) : Calls Try.prog 28 #[.pointer none, .int .i64 k] w fun e w' => e = .returned (.int .i64 3) ∧ w' = w := by
  go_enter Try.func28, Try.ntmps28
  go_wp2_with fail
  go_ret
  exact ⟨rfl, rfl⟩
theorem withinT_neg (g : Nat) (k : Int) (w : World) (hk : k < 0) : Calls Try.prog 28 #[.pointer (some ⟨g, 0, none⟩), .int .i64 k] w fun e w' => e = .returned (.int .i64 1) ∧ w' = w := by
  have q1 : decide (k < 0) = true := by simp; omega
  go_enter Try.func28, Try.ntmps28
  go_wp2_with fail
  go_ret
  exact ⟨rfl, rfl⟩
theorem withinT_out (g c : Nat) (k : Int) (w : World) (h : w.cell? ⟨g, 3, none⟩ = some (.int .i64 c)) (hk : (c : Int) ≤ k) : Calls Try.prog 28 #[.pointer (some ⟨g, 0, none⟩), .int .i64 k] w fun e w' => e = .returned (.int .i64 1) ∧ w' = w := by
  have q1 : decide (k < 0) = false := by simp; omega
  have q2 : decide ((c : Int) ≤ k) = true := by simp; omega
  go_enter Try.func28, Try.ntmps28
  go_wp2_with fail
  go_ret
  exact ⟨rfl, rfl⟩
theorem withinT (g c k : Nat) (w : World) (h : w.cell? ⟨g, 3, none⟩ = some (.int .i64 c)) (hk : k < c) : Calls Try.prog 28 #[.pointer (some ⟨g, 0, none⟩), .int .i64 k] w fun e w' => e = .returned (.int .i64 0) ∧ w' = w := by
  have q1 : decide ((k : Int) < 0) = false := by simp
  have q2 : decide ((c : Int) ≤ (k : Int)) = false := by simp; omega
  have q3 : ¬ ((c : Int) ≤ (k : Int)) := by omega
  have q4 : ¬ (c ≤ k) := by omega
  go_enter Try.func28, Try.ntmps28
  go_wp2_with fail
  go_ret
  exact ⟨rfl, rfl⟩
theorem lenT_nil (w : World) : Calls Try.prog 12 #[.pointer none] w fun e w' => e = .returned (.int .i64 0) ∧ w' = w := by
  go_enter Try.func12, Try.ntmps12
  go_wp2_with fail
  go_ret
  exact ⟨rfl, rfl⟩
theorem lenT (g c : Nat) (w : World) (h : w.cell? ⟨g, 3, none⟩ = some (.int .i64 c)) : Calls Try.prog 12 #[.pointer (some ⟨g, 0, none⟩)] w fun e w' => e = .returned (.int .i64 c) ∧ w' = w := by
  go_enter Try.func12, Try.ntmps12
  go_wp2_with fail
  go_ret
  exact ⟨rfl, rfl⟩
theorem roomT_nil (w : World) : Calls Try.prog 13 #[.pointer none] w fun e w' => e = .returned (.int .i64 0) ∧ w' = w := by
  go_enter Try.func13, Try.ntmps13
  go_wp2_with fail
  go_ret
  exact ⟨rfl, rfl⟩
theorem roomT (g c : Nat) (w : World) (h : w.cell? ⟨g, 0, none⟩ = some (.int .i64 c)) : Calls Try.prog 13 #[.pointer (some ⟨g, 0, none⟩)] w fun e w' => e = .returned (.int .i64 c) ∧ w' = w := by
  go_enter Try.func13, Try.ntmps13
  go_wp2_with fail
  go_ret
  exact ⟨rfl, rfl⟩
theorem newT_low (k : Int) (w : World) (hk : k < 1) : Calls Try.prog 17 #[.int .i64 k] w fun e w' => e = .returned (.tuple #[.pointer none, .int .i64 1]) ∧ w' = w := by
  have q1 : decide (k < 1) = true := by simp; omega
  go_enter Try.func17, Try.ntmps17
  go_wp2_with fail
  go_ret2
  exact ⟨rfl, rfl⟩
theorem newT_high (k : Int) (w : World) (hk : 2097152 < k) : Calls Try.prog 17 #[.int .i64 k] w fun e w' => e = .returned (.tuple #[.pointer none, .int .i64 1]) ∧ w' = w := by
  have q1 : decide (k < 1) = false := by simp; omega
  have q2 : decide (2097152 < k) = true := by simp; omega
  go_enter Try.func17, Try.ntmps17
  go_wp2_with fail
  go_ret2
  exact ⟨rfl, rfl⟩
theorem newT (k : Nat) (w : World) (h1 : 1 ≤ k) (h2 : k ≤ 2097152) : Calls Try.prog 17 #[.int .i64 k] w fun e w' => e = .returned (.tuple #[.pointer (some ⟨w.heap.size, 0, none⟩), .int .i64 0]) ∧ w' = w.alloc (.cells #[.int .i64 k, .slice none 0 0, .int .i64 0, .int .i64 0] 57) := by
  have q1 : decide ((k : Int) < 1) = false := by simp; omega
  have q2 : decide (2097152 < (k : Int)) = false := by simp; omega
  have q3 : ¬ ((k : Int) < 1) := by omega
  have q4 : ¬ (2097152 < (k : Int)) := by omega
  go_enter Try.func17, Try.ntmps17
  go_wp2_with fail
  go_ret2
  exact ⟨rfl, rfl⟩
end Go.Proofs.Ytjibpdncginkdaa
