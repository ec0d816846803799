import Derived.Test.YtcokccfbeonlnaaDoorH0
import Derived.Test.YtcokccfbeonlnaaDoorSb
import Derived.Lib.Bytealg
import Derived.Lib.Walk
import Derived.Shelf.RegionOpenPlain
import Derived.BigQuiet
set_option linter.unusedVariables false
set_option linter.unusedSimpArgs false
namespace Go.Proofs.YtcokccfbeonlnaaDoor
open Go.RowKit

/-! Has a text a line feed? -/
theorem ixb (l : List UInt8) : decide (0 ≤ Lib.indexByte l 10) = decide ((10 : UInt8) ∈ l) ∧ -1 ≤ Lib.indexByte l 10 := by
  induction l with
  | nil => exact ⟨rfl, by decide⟩
  | cons b l ih =>
    unfold Lib.indexByte
    by_cases hb : b = 10
    · subst hb; simp
    · have hb' : (b == (10 : UInt8)) = false := by simpa using hb
      have hne : ¬ (10 : UInt8) = b := fun h => hb h.symm
      rw [hb']
      obtain ⟨i1, i2⟩ := ih
      generalize Lib.indexByte l 10 = z at *
      by_cases h0 : (10 : UInt8) ∈ l
      · have : 0 ≤ z := by simpa [h0] using i1
        have h1 : ¬ z = -1 := by omega
        simp [h0, hne, h1]; omega
      · have : ¬ 0 ≤ z := by simpa [h0] using i1
        have h1 : z = -1 := by omega
        simp [h0, hne, h1]

set_option maxRecDepth 100000 in
set_option maxHeartbeats 400000 in
theorem ixbyte_any (s : ByteArray) (w : World) :
    Calls Tryd.prog 99 #[.string s, .int .u8 10] w fun e w' => e = .returned (.int .i64 (Lib.indexByte s.data.toList 10)) ∧ w' = w := by
  go_enter Tryd.func99, Tryd.ntmps99
  go_wp2
  rw [run_callFunc_extern Tryd.func104 (by kernel_rfl) (by kernel_rfl) (by kernel_rfl) (e := Extern.BytealgIndexByte.indexByte) (by kernel_rfl), Lib.run_indexByteString]
  simp only [Result.andThen]
  rw [Oper.upon_value]
  go_wp2
  go_ret
  exact ⟨rfl, rfl⟩

set_option maxRecDepth 100000 in
set_option maxHeartbeats 1000000 in
theorem index_any (s : ByteArray) (w : World) :
    Calls Tryd.prog 95 #[.string s, .string ⟨#[10]⟩] w fun e w' => e = .returned (.int .i64 (Lib.indexByte s.data.toList 10)) ∧ w' = w := by
  go_enter Tryd.func95, Tryd.ntmps95
  go_wp2_with (go_at_call 99; refine (ixbyte_any _ _).mono ?_; rintro e w' ⟨rfl, rfl⟩)
  · have h : ([(10 : UInt8)] == s.toList) = true := by assumption
    have e : s.data.toList = [10] := by rw [← Lib.toList_data]; exact (beq_iff_eq.1 h).symm
    have e2 : Lib.indexByte s.data.toList 10 = 0 := by rw [e]; rfl
    go_ret
    exact ⟨by rw [e2]; rfl, rfl⟩
  · go_ret
    exact ⟨rfl, rfl⟩
theorem sindex_any (s : ByteArray) (w : World) :
    Calls Tryd.prog 89 #[.string s, .string ⟨#[10]⟩] w fun e w' => e = .returned (.int .i64 (Lib.indexByte s.data.toList 10)) ∧ w' = w := by
  go_enter Tryd.func89, Tryd.ntmps89
  go_wp2_with (go_at_call 95; refine (index_any _ _).mono ?_; rintro e w' ⟨rfl, rfl⟩)
  go_ret
  exact ⟨rfl, rfl⟩
theorem has_any (s : ByteArray) (w : World) :
    Calls Tryd.prog 75 #[.string s, .string ⟨#[10]⟩] w fun e w' => e = .returned (.bool (hasF s)) ∧ w' = w := by
  have h := (ixb s.data.toList).1
  unfold hasF
  rw [← h]
  clear h
  go_enter Tryd.func75, Tryd.ntmps75
  go_wp2_with (go_at_call 89; refine (sindex_any _ _).mono ?_; rintro e w' ⟨rfl, rfl⟩)
  go_ret
  exact ⟨rfl, rfl⟩
def cols (t : ByteArray) : Nat := if hasF t then 4097 else (tw t).toNat
theorem columns_any (s : ByteArray) (w : World) (hT : Tab w) (hs : s.size ≤ 2147483647) :
    Calls Tryd.prog 59 #[.string s] w fun e w' => e = .returned (.int .i64 (cols s)) ∧ Below w.heap.size w w' := by
  have hb := tw_bd s
  have HT := wtext_any s w hT hs
  have HH := has_any s w
  unfold cols
  generalize hasF s = b at *
  cases b
  · obtain ⟨z, hz⟩ : ∃ z : Nat, tw s = z := ⟨(tw s).toNat, by omega⟩
    rw [hz] at HT ⊢
    clear hb hz hT
    go_enter Tryd.func59, Tryd.ntmps59
    go_wp2_with (first | (go_at_call 75; refine HH.mono ?_; rintro e w1 ⟨rfl, rfl⟩) | (go_at_call 29; refine HT.mono ?_; rintro e w2 ⟨rfl, hb2⟩))
    go_ret
    exact ⟨by simp, hb2⟩
  · clear hb hT HT
    go_enter Tryd.func59, Tryd.ntmps59
    go_wp2_with (first | (go_at_call 75; refine HH.mono ?_; rintro e w1 ⟨rfl, rfl⟩))
    go_ret
    exact ⟨rfl, Below.refl _ _⟩

/-! A span. -/
def spc (s : Sp) : List Value := [.int .i64 s.all, .int .i64 s.hang]
theorem spc_len (s : Sp) : (spc s).length = 2 := rfl
theorem widen_any (g : Nat) (s : Sp) (c : Nat) (w : World) (hg : w.heap[g]? = some (.cells #[.int .i64 s.all, .int .i64 s.hang] 105 (0, 0))) (hs : Sb s) (hc : c ≤ 1000000000) :
    Calls Tryd.prog 58 #[.pointer (some ⟨g, 0, none⟩), .int .i64 c] w fun e w' => e = .returned (.tuple #[]) ∧ w'.heap[g]? = some (.cells #[.int .i64 (s.wid c).all, .int .i64 (s.wid c).hang] 105 (0, 0)) ∧ Kp (fun k => k = g) w w' := by
  obtain ⟨a, h⟩ := s
  obtain ⟨ha, hh⟩ := hs
  simp only at ha hh hg
  have g0 : w.cell? ⟨g, 0, none⟩ = some (.int .i64 a) := blk_cell hg rfl
  have g1 : w.cell? ⟨g, 1, none⟩ = some (.int .i64 h) := blk_cell hg rfl
  have f0 : w.frozen? ⟨g, 0, none⟩ = false := blk_frozen hg
  have f1 : w.frozen? ⟨g, 1, none⟩ = false := blk_frozen hg
  have HE : Hid (((w.setCell ⟨g, 0, none⟩ (.int .i64 (min (a + c) 4097 : Nat))).setCell ⟨g, 1, none⟩ (.int .i64 (min (h + c) 4097 : Nat))).heap[g]? = some (.cells #[.int .i64 (min (a + c) 4097 : Nat), .int .i64 (min (h + c) 4097 : Nat)] 105 (0, 0)) ∧ Kp (fun k => k = g) w ((w.setCell ⟨g, 0, none⟩ (.int .i64 (min (a + c) 4097 : Nat))).setCell ⟨g, 1, none⟩ (.int .i64 (min (h + c) 4097 : Nat)))) :=
    ⟨blk_set (blk_set hg 0 _) 1 _, (Kp.set _ _ _ _).trans (Kp.set _ _ _ _)⟩
  simp only [Sp.wid]
  have e1 : ((min (a + c) 4097 : Nat) : Int) = min ((a : Int) + c) 4097 := by omega
  have e2 : ((min (h + c) 4097 : Nat) : Int) = min ((h : Int) + c) 4097 := by omega
  rw [e1, e2] at HE ⊢
  have hw1 : (w.setCell ⟨g, 0, none⟩ (.int .i64 (min ((a : Int) + c) 4097))).cell? ⟨g, 1, none⟩ = some (.int .i64 h) := blk_cell (blk_set hg 0 _) rfl
  clear hg
  go_enter Tryd.func58, Tryd.ntmps58
  go_wp2_with fail
  go_end0
  exact ⟨rfl, HE.out⟩
end Go.Proofs.YtcokccfbeonlnaaDoor
