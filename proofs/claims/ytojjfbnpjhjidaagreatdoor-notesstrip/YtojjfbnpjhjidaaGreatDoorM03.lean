import Derived.Laws.RangeAny
import Derived.Test.YtojjfbnpjhjidaaGreatDoorRows
import Derived.WalkKit
import Derived.WalkSpells
import Derived.WalkLawsBesides
import Derived.WalkSmall
set_option linter.unusedVariables false
set_option linter.unusedSimpArgs false
namespace Go.Proofs.YtojjfbnpjhjidaaGreatDoor.Lx
/-
  The plain mathematics of layer 1: characters by the model's decoding.
-/
def dp (s : ByteArray) (i : Nat) : Nat := (Utf8.decode s i).1
def dw (s : ByteArray) (i : Nat) : Nat := (Utf8.decode s i).2
theorem at_big (s : ByteArray) (i : Nat) (h : s.size ≤ i) : (s.get! i).toNat = 0 := by
  have e : s.get! i = default := by
    show s.data[i]! = default
    exact getElem!_neg _ _ (by show ¬ i < s.data.size; have : s.data.size = s.size := rfl; omega)
  rw [e]; rfl
theorem dw_facts (s : ByteArray) (i : Nat) (h : i < s.size) : 1 ≤ dw s i ∧ dw s i ≤ 4 ∧ i + dw s i ≤ s.size := by
  unfold dw Utf8.decode
  simp only []
  repeat' split
  all_goals simp_all
  all_goals omega
theorem dp_le (s : ByteArray) (i : Nat) : dp s i ≤ 1114111 := by
  have hb : ∀ k, (s.get! (i + k)).toNat < 256 := fun k => (s.get! (i + k)).toNat_lt
  have h0 := hb 0; have h1 := hb 1; have h2 := hb 2; have h3 := hb 3
  unfold dp Utf8.decode
  simp only []
  repeat' split
  all_goals simp_all [Utf8.runeError, Utf8.valid]
  all_goals omega
theorem decode_congr (s t : ByteArray) (i j : Nat) (h : ∀ k, k < 4 → t.get! (j + k) = s.get! (i + k)) (hz : ∀ k, k < 4 → (j + k < t.size ↔ i + k < s.size)) : Utf8.decode t j = Utf8.decode s i := by
  unfold Utf8.decode
  simp only [h 0 (by omega), h 1 (by omega), h 2 (by omega), h 3 (by omega), hz 1 (by omega), hz 2 (by omega), hz 3 (by omega)]
theorem get_ext (s : ByteArray) (a b i : Nat) : (s.extract a b).get! i = if a + i < b then s.get! (a + i) else default := by
  have e : ∀ (x : ByteArray) (k : Nat), x.get! k = x.data.toList[k]?.getD default := by
    intro x k
    show x.data[k]! = _
    rw [Array.getElem!_eq_getD, Array.getD_eq_getD_getElem?, Array.getElem?_toList]
  rw [e, e, ByteArray.data_extract, Array.toList_extract]
  simp only [List.extract_eq_take_drop, List.getElem?_take, List.getElem?_drop]
  by_cases h : a + i < b
  · rw [if_pos h, if_pos (by omega)]
  · rw [if_neg h, if_neg (by omega)]; rfl
theorem size_ext (s : ByteArray) (a b : Nat) (h : b ≤ s.size) : (s.extract a b).size = b - a := by
  rw [ByteArray.size_extract]; omega
theorem decode_tail (s : ByteArray) (a i : Nat) (h : a ≤ s.size) : Utf8.decode (s.extract a s.size) i = Utf8.decode s (a + i) := by
  refine decode_congr _ _ _ _ (fun k _ => ?_) (fun k _ => by rw [size_ext s a _ (Nat.le_refl _)]; omega)
  rw [get_ext]
  by_cases hk : a + (i + k) < s.size
  · rw [if_pos hk, Nat.add_assoc]
  · rw [if_neg hk]
    show _ = s.data[a + i + k]!
    exact (getElem!_neg _ _ (by show ¬ _ < s.data.size; have : s.data.size = s.size := rfl; omega)).symm
def gdb (p n : Int) : Bool := (p != 65533) || decide (1 < n)
def gd (s : ByteArray) (i : Nat) : Bool := gdb (dp s i) (dw s i)
def goB (s t : ByteArray) : Bool := gd (s ++ t) 0 && decide (s.size < dw (s ++ t) 0)
def opn (s : ByteArray) : Bool := goB s ⟨#[128, 128, 128]⟩ || goB s ⟨#[191, 191, 191]⟩
def whF (s : ByteArray) : Nat → Nat → Nat
  | 0, _ => s.size
  | f + 1, n => if n ≤ s.size then (if opn (s.extract (s.size - n) s.size) = true then s.size - n else whF s f (n + 1)) else s.size
def plc (s : ByteArray) : Nat → Nat → List Nat
  | 0, _ => []
  | f + 1, i => if i < s.size then i :: plc s f (i + dw s i) else []
theorem plc_fuel (s : ByteArray) : ∀ (f g i : Nat), s.size ≤ i + f → s.size ≤ i + g → plc s f i = plc s g i
  | 0, 0, _, _, _ => rfl
  | 0, g + 1, i, h, _ => by unfold plc; rw [if_neg (by omega)]
  | f + 1, 0, i, _, h => by unfold plc; rw [if_neg (by omega)]
  | f + 1, g + 1, i, hf, hg => by
    unfold plc
    split
    · rename_i hi
      have := (dw_facts s i hi).1
      rw [plc_fuel s f g (i + dw s i) (by omega) (by omega)]
    · rfl
def pl (s : ByteArray) (i : Nat) : List Nat := plc s (s.size - i) i
def P (s : ByteArray) : List Nat := pl s 0
theorem pl_lt (s : ByteArray) (i : Nat) (h : i < s.size) : pl s i = i :: pl s (i + dw s i) := by
  have hw := dw_facts s i h
  unfold pl
  obtain ⟨f, hf⟩ : ∃ f, s.size - i = f + 1 := ⟨s.size - i - 1, by omega⟩
  rw [hf]
  show (if i < s.size then i :: plc s f (i + dw s i) else []) = _
  rw [if_pos h, plc_fuel s f (s.size - (i + dw s i)) _ (by omega) (by omega)]
theorem pl_ge (s : ByteArray) (i : Nat) (h : s.size ≤ i) : pl s i = [] := by
  unfold pl
  rw [show s.size - i = 0 by omega]; rfl
theorem pl_len (s : ByteArray) : ∀ (f i : Nat), (plc s f i).length ≤ f
  | 0, _ => by simp [plc]
  | f + 1, i => by
    unfold plc
    split
    · simp; exact pl_len s f _
    · simp
theorem P_len (s : ByteArray) : (P s).length ≤ s.size := by
  unfold P pl; exact Nat.le_trans (pl_len s _ _) (by omega)
end Go.Proofs.YtojjfbnpjhjidaaGreatDoor.Lx
namespace Go.Proofs.YtojjfbnpjhjidaaGreatDoor.Lx
open Go.RowKit
theorem w64 (n : Nat) (h : n ≤ 1114111) : wrap64 (n : Int) = n := by unfold wrap64; omega
theorem ret_int {k : IntKind} {a b : Int} (h : a = b) : Ending.returned (.int k a) = .returned (.int k b) := by rw [h]
theorem below_iter (w : World) (s : ByteArray) (p : Nat) : Below w.heap.size w (w.iter s p) := (Below.refl _ _).alloc (Nat.le_refl _) _
set_option maxHeartbeats 400000 in
theorem count_any (s : ByteArray) (w : World) (hs : s.size ≤ maxLen) :
    Calls Tryz.prog 94 #[.string s] w fun e w' => e = .returned (.int .i64 (P s).length) ∧ ∃ pos, w' = w.iter s pos := by
  unfold maxLen at hs
  have hP := P_len s
  go_enter Tryz.func94, Tryz.ntmps94
  go_wp2
  go_loopw [3] (fun n w' => ∃ (pos k : Nat), w' = w.iter s pos ∧ n = .int .i64 k ∧ k + (pl s pos).length = (P s).length) (fun _ w' => s.size - w'.iterPos w.heap.size)
  case atStart => exact ⟨0, 0, rfl, rfl, by simp [P]⟩
  case round =>
    obtain ⟨pos, k, rfl, rfl, hc⟩ := hrel
    have hkb : k ≤ (P s).length := by omega
    by_cases hp : pos < s.size
    · have hnx : ∀ ty, (Instr.next (.pointer (some ⟨w.heap.size, 0, none⟩)) true ty).run Tryz.prog (w.iter s pos) = _ := fun ty => run_next_any w s pos ty hp
      have hw := dw_facts s pos hp
      have hlen : (pl s pos).length = (pl s (pos + dw s pos)).length + 1 := by rw [pl_lt s pos hp]; simp
      have HC : Hid (k + 1 + (pl s (pos + dw s pos)).length = (P s).length) := by show _ = _; omega
      have hk1 : k + 1 ≤ (P s).length := by omega
      clear hc hlen
      unfold dw at hw
      go_wp2
      go_roundw
      case rel => exact ⟨pos + dw s pos, k + 1, rfl, by go_num, HC.out⟩
      case measure =>
        simp
        omega
    · have hnx : ∀ ty, (Instr.next (.pointer (some ⟨w.heap.size, 0, none⟩)) true ty).run Tryz.prog (w.iter s pos) = _ := fun ty => run_next_end w s pos ty hp
      have hz : (pl s pos).length = 0 := by rw [pl_ge s pos (by omega)]; rfl
      have HC : Hid (k = (P s).length) := by show _ = _; omega
      clear hc hz
      go_wp2
      go_ret
      exact ⟨ret_int (by rw [HC.out]), _, rfl⟩
set_option maxHeartbeats 400000 in
theorem first_any (s : ByteArray) (w : World) (hs : s.size ≤ maxLen) (h0 : 0 < s.size) :
    Calls Tryz.prog 73 #[.string s] w fun e w' => e = .returned (.tuple #[.int .i32 (dp s 0), .int .i64 (dw s 0)]) ∧ Below w.heap.size w w' := by
  unfold maxLen at hs
  have hw := dw_facts s 0 h0
  go_enter Tryz.func73, Tryz.ntmps73
  go_wp2
  go_loopw [4] (fun p w' => w' = w.iter s 0 ∨ (p = .int .i32 (dp s 0) ∧ w' = w.iter s (dw s 0))) (fun _ w' => s.size - w'.iterPos w.heap.size)
  case atStart => exact .inl rfl
  case round =>
    rcases hrel with rfl | ⟨rfl, rfl⟩
    · have hnx : ∀ ty, (Instr.next (.pointer (some ⟨w.heap.size, 0, none⟩)) true ty).run Tryz.prog (w.iter s 0) = _ := fun ty => run_next_any w s 0 ty h0
      unfold dw at hw
      go_wp2
      go_roundw
      case rel => exact .inr ⟨rfl, by simp [dw]⟩
      case measure => simp; omega
    · by_cases hp : dw s 0 < s.size
      · have hnx : ∀ ty, (Instr.next (.pointer (some ⟨w.heap.size, 0, none⟩)) true ty).run Tryz.prog (w.iter s (dw s 0)) = _ := fun ty => run_next_any w s (dw s 0) ty hp
        go_wp2
        go_ret2
        exact ⟨rfl, below_iter _ _ _⟩
      · have hnx : ∀ ty, (Instr.next (.pointer (some ⟨w.heap.size, 0, none⟩)) true ty).run Tryz.prog (w.iter s (dw s 0)) = _ := fun ty => run_next_end w s (dw s 0) ty hp
        have HE : Hid (s.size = dw s 0) := by show _ = _; omega
        go_wp2
        go_ret2
        exact ⟨by rw [HE.out]; rfl, below_iter _ _ _⟩
set_option maxHeartbeats 400000 in
theorem good_any (p n : Int) (w : World) :
    Calls Tryz.prog 74 #[.int .i32 p, .int .i64 n] w fun e w' => e = .returned (.bool (gdb p n)) ∧ w' = w := by
  by_cases hp : p = 65533
  · have e : gdb p n = decide (1 < n) := by simp [gdb, hp]
    have h1 : (p != 65533) = false := by simp [hp]
    rw [e]
    clear e hp
    go_enter Tryz.func74, Tryz.ntmps74
    go_wp2
    go_ret
    exact ⟨rfl, rfl⟩
  · have e : gdb p n = true := by simp [gdb, hp]
    have h1 : (p != 65533) = true := by simp [hp]
    rw [e]
    clear e hp
    go_enter Tryz.func74, Tryz.ntmps74
    go_wp2
    go_ret
    exact ⟨rfl, rfl⟩
set_option maxHeartbeats 400000 in
theorem next_in (s : ByteArray) (a : Int) (w : World) (hs : s.size ≤ maxLen) (h0 : 0 ≤ a) (h1 : a < s.size) :
    Calls Tryz.prog 55 #[.string s, .int .i64 a] w fun e w' => e = .returned (.tuple #[.int .i64 (dp s a.toNat), .int .i64 (dw s a.toNat), .bool (gd s a.toNat)]) ∧ Below w.heap.size w w' := by
  obtain ⟨n, rfl⟩ := Int.eq_ofNat_of_zero_le h0
  rw [Int.toNat_natCast]
  have hz : (s.extract n s.size).size = s.size - n := size_ext s n _ (Nat.le_refl _)
  have Hp : Hid (dp (s.extract n s.size) 0 = dp s n) := by show _ = _; unfold dp; rw [decode_tail s n 0 (by omega)]; rfl
  have Hw : Hid (dw (s.extract n s.size) 0 = dw s n) := by show _ = _; unfold dw; rw [decode_tail s n 0 (by omega)]; rfl
  unfold maxLen at hs
  go_enter Tryz.func55, Tryz.ntmps55
  go_wp2_with fail
  refine (first_any _ _ (by unfold maxLen; omega) (by omega)).mono ?_
  rintro e w1 ⟨rfl, hb1⟩
  rw [Hp.out, Hw.out]
  go_wp2_with fail
  refine (good_any _ _ _).mono ?_
  rintro e w2 ⟨rfl, rfl⟩
  go_wp2_with fail
  go_ret3
  exact ⟨by show Ending.returned (.tuple #[.int .i64 (wrap64 (dp s n)), _, _]) = _; rw [w64 _ (dp_le s n)]; rfl, hb1⟩
set_option maxHeartbeats 400000 in
theorem next_out (s : ByteArray) (a : Int) (w : World) (hs : s.size ≤ maxLen) (h1 : a < 0 ∨ s.size ≤ a) :
    Calls Tryz.prog 55 #[.string s, .int .i64 a] w fun e w' => e = .returned (.tuple #[.int .i64 0, .int .i64 0, .bool false]) ∧ Below w.heap.size w w' := by
  unfold maxLen at hs
  rcases h1 with h1 | h1
  · go_enter Tryz.func55, Tryz.ntmps55
    go_wp2_with fail
    go_ret3
    exact ⟨rfl, Below.refl _ _⟩
  · have h2 : ¬ a < 0 := by omega
    go_enter Tryz.func55, Tryz.ntmps55
    go_wp2_with fail
    go_ret3
    exact ⟨rfl, Below.refl _ _⟩
theorem Tryz.info3 : (Tryz.prog.info? 3).map (fun i => (i.zero, i.size, i.bytes)) = some (some (.int .i64 0), 1, 8) := by kernel_rfl
theorem one_new (W : World) (x : Value) (t n : Nat) (h : n = W.heap.size) : ∀ j u, [x][j]? = some u → (W.alloc (.cells #[x] t)).cell? ((⟨n, 0, none⟩ : Addr).add j) = some u := by
  subst h; exact cell_one_new _ _ _
def ivs (l : List Nat) : List Value := l.map (fun i : Nat => Value.int .i64 (i : Int))
def Row (w : World) (ao : Option Addr) (n : Nat) (zs : List Int) : Prop :=
  zs.length = n ∧ ∀ j, j < n → ∃ b off, ao = some ⟨b, off, none⟩ ∧ w.cell? ⟨b, off + j, none⟩ = some (.int .i64 (zs.getD j 0))
theorem Row.at {w : World} {b off n : Nat} {zs : List Int} (h : Row w (some ⟨b, off, none⟩) n zs) (j : Nat) (hj : j < n) : w.cell? ⟨b, off + j, none⟩ = some (.int .i64 (zs.getD j 0)) := by
  obtain ⟨b', off', h1, h2⟩ := h.2 j hj
  cases h1
  exact h2
theorem own_row {w : World} {base n g cap : Nat} {zs : List Int} (h : w.ownsRow base 3 1 (.slice (some ⟨g, 0, none⟩) n cap) n (zs.map (Value.int .i64))) : Row w (some ⟨g, 0, none⟩) n zs := by
  have hl : zs.length = n := by have := h.1; simpa using this
  refine ⟨hl, fun j hj => ⟨g, 0, rfl, ?_⟩⟩
  have := h.cells (g := g) rfl j (.int .i64 (zs.getD j 0)) (by
    rw [List.getElem?_map, List.getElem?_eq_getElem (by omega)]; simp [List.getD, List.getElem?_eq_getElem (show j < zs.length by omega)])
  rw [Addr.add_lit] at this
  exact this
theorem ivs_eq (l : List Nat) : ivs l = (l.map (fun i : Nat => (i : Int))).map (Value.int .i64) := by simp [ivs]
theorem row_new (W : World) (zs : List Int) (t : Nat) : Row (W.alloc (.cells (zs.map (Value.int .i64)).toArray t)) (some ⟨W.heap.size, 0, none⟩) zs.length zs := by
  refine ⟨rfl, fun j hj => ⟨W.heap.size, 0, rfl, ?_⟩⟩
  rw [World.cell?_alloc_new]
  simp [hj, List.getD]
end Go.Proofs.YtojjfbnpjhjidaaGreatDoor.Lx
