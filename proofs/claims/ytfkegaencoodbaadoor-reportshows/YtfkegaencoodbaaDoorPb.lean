import Derived.Test.YtfkegaencoodbaaDoorWa
import Derived.Test.YtfkegaencoodbaaDoorPa
import Derived.Lib.Bytealg
import Derived.Lib.Walk
import Derived.Shelf.RegionOpenPlain
set_option linter.unusedVariables false
set_option linter.unusedSimpArgs false
namespace Go.Proofs.YtfkegaencoodbaaDoor
open Go.RowKit

theorem ixb : ∀ l : List UInt8, (Lib.indexByte l 10 = -1 ∧ ∀ k : Nat, k < l.length → l[k]? ≠ some (10 : UInt8)) ∨ ∃ j : Nat, Lib.indexByte l 10 = (j : Int) ∧ j < l.length ∧ l[j]? = some (10 : UInt8) ∧ ∀ k, k < j → l[k]? ≠ some (10 : UInt8)
  | [] => .inl ⟨rfl, fun k h => by simp at h⟩
  | b :: l => by
    unfold Lib.indexByte
    by_cases hb : b = 10
    · exact .inr ⟨0, by simp [hb], by simp, by simp [hb], fun k h => by omega⟩
    · have hb' : (b == (10 : UInt8)) = false := by simpa using hb
      rw [hb']
      rcases ixb l with ⟨h1, h2⟩ | ⟨j, h1, h2, h3, h4⟩
      · left
        refine ⟨by simp [h1], fun k hk => ?_⟩
        cases k with
        | zero => simpa using hb
        | succ k => simp only [List.getElem?_cons_succ]; exact h2 k (by simpa using hk)
      · right
        refine ⟨j + 1, ?_, by simp; omega, by simpa using h3, fun k hk => ?_⟩
        · have : ¬ ((j : Int) = -1) := by omega
          simp [h1, this]
        · cases k with
          | zero => simpa using hb
          | succ k => simp only [List.getElem?_cons_succ]; exact h4 k (by omega)

theorem by8_list (s : ByteArray) (k : Nat) (h : k < s.size) : by8 s k = 10 ↔ s.data.toList[k]? = some (10 : UInt8) := by
  have hz : k < s.data.size := h
  have e : s.get! k = s.data.toList[k]?.getD default := by
    show s.data[k]! = _
    rw [Array.getElem!_eq_getD, Array.getD_eq_getD_getElem?, Array.getElem?_toList]
  unfold by8
  rw [e, Array.getElem?_toList, Array.getElem?_eq_getElem hz]
  simp
  constructor
  · intro h; exact UInt8.toNat_inj.1 h
  · intro h; rw [h]; rfl

/-- Where the first line feed is, as the library tells it. -/
def nlI (r : ByteArray) : Int := if nl r 0 < r.size then (nl r 0 : Int) else -1

theorem index_nl (r : ByteArray) : Lib.indexByte r.data.toList 10 = nlI r := by
  have hz : r.data.toList.length = r.size := by simp
  rcases ixb r.data.toList with ⟨h1, h2⟩ | ⟨j, h1, h2, h3, h4⟩
  · have e : nl r 0 = r.size := nl_eq r 0 r.size (Nat.zero_le _) (Nat.le_refl _) (fun k _ hk => fun hc => h2 k (by omega) ((by8_list r k hk).1 hc)) (.inl rfl)
    rw [h1]; unfold nlI; rw [if_neg (by omega)]
  · have e : nl r 0 = j := nl_eq r 0 j (Nat.zero_le _) (by omega) (fun k _ hk => fun hc => h4 k hk ((by8_list r k (by omega)).1 hc)) (.inr ((by8_list r j (by omega)).2 h3))
    rw [h1]; unfold nlI; rw [if_pos (by omega), e]

set_option maxHeartbeats 400000 in
set_option maxRecDepth 100000 in
theorem ixbyte_any (s : ByteArray) (w : World) :
    Calls Tryd.prog 83 #[.string s, .int .u8 10] w fun e w' => e = .returned (.int .i64 (nlI s)) ∧ w' = w := by
  go_enter Tryd.func83, Tryd.ntmps83
  go_wp2
  rw [run_callFunc_extern Tryd.func89 (by kernel_rfl) (by kernel_rfl) (by kernel_rfl) (e := Extern.BytealgIndexByte.indexByte) (by kernel_rfl), Lib.run_indexByteString]
  simp only [Result.andThen]
  rw [Oper.upon_value]
  go_wp2
  go_ret
  exact ⟨by rw [← index_nl]; rfl, rfl⟩

theorem nlI_one : nlI ⟨#[10]⟩ = 0 := by
  rw [← index_nl]; rfl

set_option maxRecDepth 100000 in
set_option maxHeartbeats 1000000 in
theorem index_any (s : ByteArray) (w : World) :
    Calls Tryd.prog 77 #[.string s, .string ⟨#[10]⟩] w fun e w' => e = .returned (.int .i64 (nlI s)) ∧ w' = w := by
  go_enter Tryd.func77, Tryd.ntmps77
  go_wp2_with (go_at_call 83; refine (ixbyte_any _ _).mono ?_; rintro e w' ⟨rfl, rfl⟩)
  · have h : ([(10 : UInt8)] == s.toList) = true := by assumption
    have e : s.data.toList = [10] := by rw [← Lib.toList_data]; exact (beq_iff_eq.1 h).symm
    have e2 : nlI s = 0 := by rw [← index_nl, e]; rfl
    go_ret
    exact ⟨by rw [e2]; rfl, rfl⟩
  · go_ret
    exact ⟨rfl, rfl⟩

/-- What is cut off, and what is left. -/
def cutL (r : ByteArray) : ByteArray := r.extract 0 (nl r 0)
def cutR (r : ByteArray) : ByteArray := if nl r 0 < r.size then r.extract (nl r 0 + 1) r.size else ⟨#[]⟩
def cutB (r : ByteArray) : Bool := decide (nl r 0 < r.size)

set_option maxHeartbeats 1000000 in
theorem slcut_any (s : ByteArray) (w : World) (hs : s.size ≤ maxLen) :
    Calls Tryd.prog 70 #[.string s, .string ⟨#[10]⟩] w fun e w' => e = .returned (.tuple #[.string (cutL s), .string (cutR s), .bool (cutB s)]) ∧ Below w.heap.size w w' := by
  unfold maxLen at hs
  have hn := nl_facts s 0 (Nat.zero_le _)
  by_cases h : nl s 0 < s.size
  · have Hi : Hid (nlI s = (nl s 0 : Int)) := by show _ = _; unfold nlI; rw [if_pos h]
    have HL : Hid (cutL s = s.extract 0 (nl s 0)) := rfl
    have HR : Hid (cutR s = s.extract (nl s 0 + 1) s.size) := by show _ = _; unfold cutR; rw [if_pos h]
    have HB : Hid (cutB s = true) := by show _ = _; unfold cutB; simp [h]
    obtain ⟨n, hn'⟩ : ∃ n, nl s 0 = n := ⟨_, rfl⟩
    rw [hn'] at Hi HL HR hn h
    clear hn'
    go_enter Tryd.func70, Tryd.ntmps70
    go_wp2_with (go_at_call 77; refine (index_any _ _).mono ?_; rintro e w' ⟨rfl, rfl⟩; rw [Hi.out])
    go_region
    go_wp2
    go_ret3
    exact ⟨by rw [HL.out, HR.out, HB.out]; rfl, (Below.refl _ _).drew⟩
  · have Hi : Hid (nlI s = -1) := by show _ = _; unfold nlI; rw [if_neg h]
    have HL : Hid (cutL s = s) := by show _ = _; unfold cutL; rw [show nl s 0 = s.size by omega, extract_all]
    have HR : Hid (cutR s = ⟨#[]⟩) := by show _ = _; unfold cutR; rw [if_neg h]
    have HB : Hid (cutB s = false) := by show _ = _; unfold cutB; simp [h]
    clear hn h
    go_enter Tryd.func70, Tryd.ntmps70
    go_wp2_with (go_at_call 77; refine (index_any _ _).mono ?_; rintro e w' ⟨rfl, rfl⟩; rw [Hi.out])
    go_ret3
    exact ⟨by rw [HL.out, HR.out, HB.out]; rfl, Below.refl _ _⟩

set_option maxHeartbeats 1000000 in
theorem cut_any (s : ByteArray) (w : World) (hs : s.size ≤ maxLen) :
    Calls Tryd.prog 58 #[.string s, .string ⟨#[10]⟩] w fun e w' => e = .returned (.tuple #[.string (cutL s), .string (cutR s), .bool (cutB s)]) ∧ Below w.heap.size w w' := by
  go_enter Tryd.func58, Tryd.ntmps58
  go_wp2_with (go_at_call 70; refine (slcut_any _ _ hs).mono ?_; rintro e w' ⟨rfl, hb⟩)
  go_ret3
  exact ⟨rfl, hb⟩

set_option maxHeartbeats 1000000 in
theorem lines_any (s : ByteArray) (w : World) :
    Calls Tryd.prog 37 #[.string s] w fun e w' => e = .returned (.func (.func 57) #[] #[.pointer (some ⟨w.heap.size, 0, none⟩)]) ∧ w' = w.alloc (.cells #[.string s] 9) := by
  have hmf : ∀ (fn : Fn) (first cap : Array Value) (w : World), (Instr.makeFunc fn first cap).run Tryd.prog w = .ok (.func fn first cap) w := fun _ _ _ _ => rfl
  go_enter Tryd.func37, Tryd.ntmps37
  go_wp2
  go_ret
  exact ⟨rfl, rfl⟩

end Go.Proofs.YtfkegaencoodbaaDoor
