import Derived.Laws.RangeAny
import Derived.Test.YtnmjkgjhjnpijaaDoorRows
import Derived.WalkKit
import Derived.WalkSpells
import Derived.WalkLawsBesides
import Derived.WalkSmall
/-
  The plain mathematics of layer 1: characters by the model's decoding.
-/
set_option linter.unusedVariables false
set_option linter.unusedSimpArgs false
namespace Go.Proofs.YtnmjkgjhjnpijaaDoor

/-- The point and the width of the character at a place. -/
def dp (s : ByteArray) (i : Nat) : Nat := (Utf8.decode s i).1
def dw (s : ByteArray) (i : Nat) : Nat := (Utf8.decode s i).2

theorem at_big (s : ByteArray) (i : Nat) (h : s.size ≤ i) : (s.get! i).toNat = 0 := by
  have e : s.get! i = default := by
    show s.data[i]! = default
    exact getElem!_neg _ _ (by show ¬ i < s.data.size; have : s.data.size = s.size := rfl; omega)
  rw [e]; rfl

theorem dw_facts (s : ByteArray) (i : Nat) (h : i < s.size) : 1 ≤ dw s i ∧ dw s i ≤ 4 ∧ i + dw s i ≤ s.size := by
  unfold dw Utf8.decode
  simp only []
  repeat' split
  all_goals simp_all
  all_goals omega

theorem dp_le (s : ByteArray) (i : Nat) : dp s i ≤ 1114111 := by
  have hb : ∀ k, (s.get! (i + k)).toNat < 256 := fun k => (s.get! (i + k)).toNat_lt
  have h0 := hb 0; have h1 := hb 1; have h2 := hb 2; have h3 := hb 3
  unfold dp Utf8.decode
  simp only []
  repeat' split
  all_goals simp_all [Utf8.runeError, Utf8.valid]
  all_goals omega

theorem decode_congr (s t : ByteArray) (i j : Nat) (h : ∀ k, k < 4 → t.get! (j + k) = s.get! (i + k)) (hz : ∀ k, k < 4 → (j + k < t.size ↔ i + k < s.size)) : Utf8.decode t j = Utf8.decode s i := by
  unfold Utf8.decode
  simp only [h 0 (by omega), h 1 (by omega), h 2 (by omega), h 3 (by omega), hz 1 (by omega), hz 2 (by omega), hz 3 (by omega)]

theorem get_ext (s : ByteArray) (a b i : Nat) : (s.extract a b).get! i = if a + i < b then s.get! (a + i) else default := by
  have e : ∀ (x : ByteArray) (k : Nat), x.get! k = x.data.toList[k]?.getD default := by
    intro x k
    show x.data[k]! = _
    rw [Array.getElem!_eq_getD, Array.getD_eq_getD_getElem?, Array.getElem?_toList]
  rw [e, e, ByteArray.data_extract, Array.toList_extract]
  simp only [List.extract_eq_take_drop, List.getElem?_take, List.getElem?_drop]
  by_cases h : a + i < b
  · rw [if_pos h, if_pos (by omega)]
  · rw [if_neg h, if_neg (by omega)]; rfl

theorem size_ext (s : ByteArray) (a b : Nat) (h : b ≤ s.size) : (s.extract a b).size = b - a := by
  rw [ByteArray.size_extract]; omega

theorem decode_tail (s : ByteArray) (a i : Nat) (h : a ≤ s.size) : Utf8.decode (s.extract a s.size) i = Utf8.decode s (a + i) := by
  refine decode_congr _ _ _ _ (fun k _ => ?_) (fun k _ => by rw [size_ext s a _ (Nat.le_refl _)]; omega)
  rw [get_ext]
  by_cases hk : a + (i + k) < s.size
  · rw [if_pos hk, Nat.add_assoc]
  · rw [if_neg hk]
    show _ = s.data[a + i + k]!
    exact (getElem!_neg _ _ (by show ¬ _ < s.data.size; have : s.data.size = s.size := rfl; omega)).symm

/-- Whether a character is good, by its point and its width. -/
def gdb (p n : Int) : Bool := (p != 65533) || decide (1 < n)
def gd (s : ByteArray) (i : Nat) : Bool := gdb (dp s i) (dw s i)

/-- Whether a text, with that behind it, begins a character that needs some of it. -/
def goB (s t : ByteArray) : Bool := gd (s ++ t) 0 && decide (s.size < dw (s ++ t) 0)
def opn (s : ByteArray) : Bool := goB s ⟨#[128, 128, 128]⟩ || goB s ⟨#[191, 191, 191]⟩
def whF (s : ByteArray) : Nat → Nat → Nat
  | 0, _ => s.size
  | f + 1, n => if n ≤ s.size then (if opn (s.extract (s.size - n) s.size) = true then s.size - n else whF s f (n + 1)) else s.size
def wh (s : ByteArray) : Nat := whF s 3 1

/-- The last character of a text that is not empty. -/
def lsF (h : ByteArray) : Nat → Nat → Nat × Nat × Bool
  | 0, _ => (65533, 1, false)
  | f + 1, n => if n ≤ h.size then (if gd h (h.size - n) = true ∧ dw h (h.size - n) = n then (dp h (h.size - n), n, true) else lsF h f (n + 1)) else (65533, 1, false)
def ls (h : ByteArray) : Nat × Nat × Bool := lsF h 4 1

/-- Where the characters begin, from a place on. -/
def plc (s : ByteArray) : Nat → Nat → List Nat
  | 0, _ => []
  | f + 1, i => if i < s.size then i :: plc s f (i + dw s i) else []

theorem plc_fuel (s : ByteArray) : ∀ (f g i : Nat), s.size ≤ i + f → s.size ≤ i + g → plc s f i = plc s g i
  | 0, 0, _, _, _ => rfl
  | 0, g + 1, i, h, _ => by unfold plc; rw [if_neg (by omega)]
  | f + 1, 0, i, _, h => by unfold plc; rw [if_neg (by omega)]
  | f + 1, g + 1, i, hf, hg => by
    unfold plc
    split
    · rename_i hi
      have := (dw_facts s i hi).1
      rw [plc_fuel s f g (i + dw s i) (by omega) (by omega)]
    · rfl

/-- From a place on, all the way. -/
def pl (s : ByteArray) (i : Nat) : List Nat := plc s (s.size - i) i
def P (s : ByteArray) : List Nat := pl s 0

theorem pl_lt (s : ByteArray) (i : Nat) (h : i < s.size) : pl s i = i :: pl s (i + dw s i) := by
  have hw := dw_facts s i h
  unfold pl
  obtain ⟨f, hf⟩ : ∃ f, s.size - i = f + 1 := ⟨s.size - i - 1, by omega⟩
  rw [hf]
  show (if i < s.size then i :: plc s f (i + dw s i) else []) = _
  rw [if_pos h, plc_fuel s f (s.size - (i + dw s i)) _ (by omega) (by omega)]

theorem pl_ge (s : ByteArray) (i : Nat) (h : s.size ≤ i) : pl s i = [] := by
  unfold pl
  rw [show s.size - i = 0 by omega]; rfl

theorem pl_len (s : ByteArray) : ∀ (f i : Nat), (plc s f i).length ≤ f
  | 0, _ => by simp [plc]
  | f + 1, i => by
    unfold plc
    split
    · simp; exact pl_len s f _
    · simp

theorem P_len (s : ByteArray) : (P s).length ≤ s.size := by
  unfold P pl; exact Nat.le_trans (pl_len s _ _) (by omega)

end Go.Proofs.YtnmjkgjhjnpijaaDoor

set_option linter.unusedVariables false
set_option linter.unusedSimpArgs false
namespace Go.Proofs.YtnmjkgjhjnpijaaDoor
open Go.RowKit

/-- A new iterator turns nothing below it. -/
theorem w64 (n : Nat) (h : n ≤ 1114111) : wrap64 (n : Int) = n := by unfold wrap64; omega
theorem ret_int {k : IntKind} {a b : Int} (h : a = b) : Ending.returned (.int k a) = .returned (.int k b) := by rw [h]
theorem below_iter (w : World) (s : ByteArray) (p : Nat) : Below w.heap.size w (w.iter s p) := (Below.refl _ _).alloc (Nat.le_refl _) _

set_option maxHeartbeats 400000 in
theorem count_any (s : ByteArray) (w : World) (hs : s.size ≤ maxLen) :
    Calls Tryd.prog 70 #[.string s] w fun e w' => e = .returned (.int .i64 (P s).length) ∧ ∃ pos, w' = w.iter s pos := by
  unfold maxLen at hs
  have hP := P_len s
  go_enter Tryd.func70, Tryd.ntmps70
  go_wp2
  go_loopw [3] (fun n w' => ∃ (pos k : Nat), w' = w.iter s pos ∧ n = .int .i64 k ∧ k + (pl s pos).length = (P s).length) (fun _ w' => s.size - w'.iterPos w.heap.size)
  case atStart => exact ⟨0, 0, rfl, rfl, by simp [P]⟩
  case round =>
    obtain ⟨pos, k, rfl, rfl, hc⟩ := hrel
    have hkb : k ≤ (P s).length := by omega
    by_cases hp : pos < s.size
    · have hnx : ∀ ty, (Instr.next (.pointer (some ⟨w.heap.size, 0, none⟩)) true ty).run Tryd.prog (w.iter s pos) = _ := fun ty => run_next_any w s pos ty hp
      have hw := dw_facts s pos hp
      have hlen : (pl s pos).length = (pl s (pos + dw s pos)).length + 1 := by rw [pl_lt s pos hp]; simp
      have HC : Hid (k + 1 + (pl s (pos + dw s pos)).length = (P s).length) := by show _ = _; omega
      have hk1 : k + 1 ≤ (P s).length := by omega
      clear hc hlen
      unfold dw at hw
      go_wp2
      go_roundw
      case rel => exact ⟨pos + dw s pos, k + 1, rfl, by go_num, HC.out⟩
      case measure =>
        simp
        omega
    · have hnx : ∀ ty, (Instr.next (.pointer (some ⟨w.heap.size, 0, none⟩)) true ty).run Tryd.prog (w.iter s pos) = _ := fun ty => run_next_end w s pos ty hp
      have hz : (pl s pos).length = 0 := by rw [pl_ge s pos (by omega)]; rfl
      have HC : Hid (k = (P s).length) := by show _ = _; omega
      clear hc hz
      go_wp2
      go_ret
      exact ⟨ret_int (by rw [HC.out]), _, rfl⟩

set_option maxHeartbeats 400000 in
theorem first_any (s : ByteArray) (w : World) (hs : s.size ≤ maxLen) (h0 : 0 < s.size) :
    Calls Tryd.prog 50 #[.string s] w fun e w' => e = .returned (.tuple #[.int .i32 (dp s 0), .int .i64 (dw s 0)]) ∧ Below w.heap.size w w' := by
  unfold maxLen at hs
  have hw := dw_facts s 0 h0
  go_enter Tryd.func50, Tryd.ntmps50
  go_wp2
  go_loopw [4] (fun p w' => w' = w.iter s 0 ∨ (p = .int .i32 (dp s 0) ∧ w' = w.iter s (dw s 0))) (fun _ w' => s.size - w'.iterPos w.heap.size)
  case atStart => exact .inl rfl
  case round =>
    rcases hrel with rfl | ⟨rfl, rfl⟩
    · have hnx : ∀ ty, (Instr.next (.pointer (some ⟨w.heap.size, 0, none⟩)) true ty).run Tryd.prog (w.iter s 0) = _ := fun ty => run_next_any w s 0 ty h0
      unfold dw at hw
      go_wp2
      go_roundw
      case rel => exact .inr ⟨rfl, by simp [dw]⟩
      case measure => simp; omega
    · by_cases hp : dw s 0 < s.size
      · have hnx : ∀ ty, (Instr.next (.pointer (some ⟨w.heap.size, 0, none⟩)) true ty).run Tryd.prog (w.iter s (dw s 0)) = _ := fun ty => run_next_any w s (dw s 0) ty hp
        go_wp2
        go_ret2
        exact ⟨rfl, below_iter _ _ _⟩
      · have hnx : ∀ ty, (Instr.next (.pointer (some ⟨w.heap.size, 0, none⟩)) true ty).run Tryd.prog (w.iter s (dw s 0)) = _ := fun ty => run_next_end w s (dw s 0) ty hp
        have HE : Hid (s.size = dw s 0) := by show _ = _; omega
        go_wp2
        go_ret2
        exact ⟨by rw [HE.out]; rfl, below_iter _ _ _⟩

set_option maxHeartbeats 400000 in
theorem good_any (p n : Int) (w : World) :
    Calls Tryd.prog 51 #[.int .i32 p, .int .i64 n] w fun e w' => e = .returned (.bool (gdb p n)) ∧ w' = w := by
  by_cases hp : p = 65533
  · have e : gdb p n = decide (1 < n) := by simp [gdb, hp]
    have h1 : (p != 65533) = false := by simp [hp]
    rw [e]
    clear e hp
    go_enter Tryd.func51, Tryd.ntmps51
    go_wp2
    go_ret
    exact ⟨rfl, rfl⟩
  · have e : gdb p n = true := by simp [gdb, hp]
    have h1 : (p != 65533) = true := by simp [hp]
    rw [e]
    clear e hp
    go_enter Tryd.func51, Tryd.ntmps51
    go_wp2
    go_ret
    exact ⟨rfl, rfl⟩

set_option maxHeartbeats 400000 in
theorem next_in (s : ByteArray) (a : Int) (w : World) (hs : s.size ≤ maxLen) (h0 : 0 ≤ a) (h1 : a < s.size) :
    Calls Tryd.prog 24 #[.string s, .int .i64 a] w fun e w' => e = .returned (.tuple #[.int .i64 (dp s a.toNat), .int .i64 (dw s a.toNat), .bool (gd s a.toNat)]) ∧ Below w.heap.size w w' := by
  obtain ⟨n, rfl⟩ := Int.eq_ofNat_of_zero_le h0
  rw [Int.toNat_natCast]
  have hz : (s.extract n s.size).size = s.size - n := size_ext s n _ (Nat.le_refl _)
  have Hp : Hid (dp (s.extract n s.size) 0 = dp s n) := by show _ = _; unfold dp; rw [decode_tail s n 0 (by omega)]; rfl
  have Hw : Hid (dw (s.extract n s.size) 0 = dw s n) := by show _ = _; unfold dw; rw [decode_tail s n 0 (by omega)]; rfl
  unfold maxLen at hs
  go_enter Tryd.func24, Tryd.ntmps24
  go_wp2_with fail
  refine (first_any _ _ (by unfold maxLen; omega) (by omega)).mono ?_
  rintro e w1 ⟨rfl, hb1⟩
  rw [Hp.out, Hw.out]
  go_wp2_with fail
  refine (good_any _ _ _).mono ?_
  rintro e w2 ⟨rfl, rfl⟩
  go_wp2_with fail
  go_ret3
  exact ⟨by show Ending.returned (.tuple #[.int .i64 (wrap64 (dp s n)), _, _]) = _; rw [w64 _ (dp_le s n)]; rfl, hb1⟩

set_option maxHeartbeats 400000 in
theorem next_out (s : ByteArray) (a : Int) (w : World) (hs : s.size ≤ maxLen) (h1 : a < 0 ∨ s.size ≤ a) :
    Calls Tryd.prog 24 #[.string s, .int .i64 a] w fun e w' => e = .returned (.tuple #[.int .i64 0, .int .i64 0, .bool false]) ∧ Below w.heap.size w w' := by
  unfold maxLen at hs
  rcases h1 with h1 | h1
  · go_enter Tryd.func24, Tryd.ntmps24
    go_wp2_with fail
    go_ret3
    exact ⟨rfl, Below.refl _ _⟩
  · have h2 : ¬ a < 0 := by omega
    go_enter Tryd.func24, Tryd.ntmps24
    go_wp2_with fail
    go_ret3
    exact ⟨rfl, Below.refl _ _⟩
end Go.Proofs.YtnmjkgjhjnpijaaDoor

set_option linter.unusedVariables false
set_option linter.unusedSimpArgs false
namespace Go.Proofs.YtnmjkgjhjnpijaaDoor
open Go.RowKit

theorem Tryd.info3 : (Tryd.prog.info? 3).map (fun i => (i.zero, i.size, i.bytes)) = some (some (.int .i64 0), 1, 8) := by kernel_rfl

/-- A row that is owned is no iterator. -/
theorem own_not_iter {wr : World} {base e k g m cap pos : Nat} {s : ByteArray} {xs : List Value} (hown : wr.ownsRow base e 1 (.slice (some ⟨g, 0, none⟩) m cap) m xs) (hit : wr.heap[k]? = some (.stringIter s pos)) : g ≠ k := by
  rcases hown.2 with ⟨h, _⟩ | ⟨g', cap', cur, hv, _, hh, _⟩
  · cases h
  · cases hv
    intro e
    rw [e, hit] at hh
    cases hh

theorem own_iter {wr : World} {base e k g m cap pos : Nat} {s : ByteArray} {xs : List Value} (hown : wr.ownsRow base e 1 (.slice (some ⟨g, 0, none⟩) m cap) m xs) (hit : wr.heap[k]? = some (.stringIter s pos)) (pos' : Nat) :
    (wr.iterAt k s pos').ownsRow base e 1 (.slice (some ⟨g, 0, none⟩) m cap) m xs := by
  have hne := own_not_iter hown hit
  obtain ⟨h1, h2⟩ := hown
  refine ⟨h1, ?_⟩
  rcases h2 with h2 | ⟨g', cap', cur, a, b, c, d⟩
  · exact .inl h2
  · cases a
    exact .inr ⟨g, cap, cur, rfl, b, by rw [Lib.iterAt_other _ _ _ _ _ hne]; exact c, d⟩

/-- A round of a range over a string that appends one thing to a row of the call's own. -/
theorem iter_round {B base e k g m cap pos pos' : Nat} {s : ByteArray} {xs : List Value} {w wr w2 : World} {o : Obj} (hit : wr.heap[k]? = some (.stringIter s pos)) (hown : wr.ownsRow base e 1 (.slice (some ⟨g, 0, none⟩) m cap) m xs)
    (hbel : Below B w wr) (hk : B ≤ k) (hB : B ≤ base) (hgrow : ((wr.iterAt k s pos').alloc o).grownBy w2 (some g)) : w2.heap[k]? = some (.stringIter s pos') ∧ Below B w w2 := by
  have hne := own_not_iter hown hit
  have hlt : k < wr.heap.size := (Array.getElem?_eq_some_iff.1 hit).1
  have hg := (hown.lt g rfl)
  have hsz : ((wr.iterAt k s pos').alloc o).heap.size = wr.heap.size + 1 := by
    show ((wr.iterAt k s pos').heap.push o).size = _
    rw [Array.size_push, Lib.iterAt_size]
  constructor
  · rw [hgrow.block k (by omega) (fun h => hne (Option.some.inj h).symm), Below.heap_alloc _ _ _ (by rw [Lib.iterAt_size]; exact hlt), Lib.iterAt_heap _ _ _ _ _ hit]
  · exact ((Lib.below_iterAt hbel hk s pos').alloc (by rw [Lib.iterAt_size]; omega) o).grown hgrow (by omega) (fun j hj => by cases hj; omega)

theorem one_new (W : World) (x : Value) (t n : Nat) (h : n = W.heap.size) : ∀ j u, [x][j]? = some u → (W.alloc (.cells #[x] t)).cell? ((⟨n, 0, none⟩ : Addr).add j) = some u := by
  subst h; exact cell_one_new _ _ _

def ivs (l : List Nat) : List Value := l.map (fun i : Nat => Value.int .i64 (i : Int))

end Go.Proofs.YtnmjkgjhjnpijaaDoor

set_option linter.unusedVariables false
set_option linter.unusedSimpArgs false
namespace Go.Proofs.YtnmjkgjhjnpijaaDoor
open Go.RowKit

/-- All characters are good. -/
def vl (s : ByteArray) : Bool := (P s).all (gd s)

end Go.Proofs.YtnmjkgjhjnpijaaDoor

set_option linter.unusedVariables false
set_option linter.unusedSimpArgs false
namespace Go.Proofs.YtnmjkgjhjnpijaaDoor
open Go.RowKit

/-- The numbers of a slice. -/
def Row (w : World) (ao : Option Addr) (n : Nat) (zs : List Int) : Prop :=
  zs.length = n ∧ ∀ j, j < n → ∃ b off, ao = some ⟨b, off, none⟩ ∧ w.cell? ⟨b, off + j, none⟩ = some (.int .i64 (zs.getD j 0))

theorem Row.below {w w' : World} {ao : Option Addr} {n : Nat} {zs : List Int} (h : Row w ao n zs) (hb : Below w.heap.size w w') : Row w' ao n zs := by
  refine ⟨h.1, fun j hj => ?_⟩
  obtain ⟨b, off, h1, h2⟩ := h.2 j hj
  exact ⟨b, off, h1, (hb.cell (p := ⟨b, off + j, none⟩) (World.block_lt_of_cell? w _ h2)).trans h2⟩

theorem Row.at {w : World} {b off n : Nat} {zs : List Int} (h : Row w (some ⟨b, off, none⟩) n zs) (j : Nat) (hj : j < n) : w.cell? ⟨b, off + j, none⟩ = some (.int .i64 (zs.getD j 0)) := by
  obtain ⟨b', off', h1, h2⟩ := h.2 j hj
  cases h1
  exact h2

/-- What is owned stays owned where nothing old turns. -/
theorem own_below {w w' : World} {base e size n : Nat} {v : Value} {xs : List Value} (h : w.ownsRow base e size v n xs) (hb : Below w.heap.size w w') : w'.ownsRow base e size v n xs := by
  obtain ⟨h1, h2⟩ := h
  refine ⟨h1, ?_⟩
  rcases h2 with h2 | ⟨g, cap, cur, a, b, c, d⟩
  · exact .inl h2
  · exact .inr ⟨g, cap, cur, a, b, by rw [hb.block g (Array.getElem?_eq_some_iff.1 c).1]; exact c, d⟩

theorem own_row {w : World} {base n g cap : Nat} {zs : List Int} (h : w.ownsRow base 3 1 (.slice (some ⟨g, 0, none⟩) n cap) n (zs.map (Value.int .i64))) : Row w (some ⟨g, 0, none⟩) n zs := by
  have hl : zs.length = n := by have := h.1; simpa using this
  refine ⟨hl, fun j hj => ⟨g, 0, rfl, ?_⟩⟩
  have := h.cells (g := g) rfl j (.int .i64 (zs.getD j 0)) (by
    rw [List.getElem?_map, List.getElem?_eq_getElem (by omega)]; simp [List.getD, List.getElem?_eq_getElem (show j < zs.length by omega)])
  rw [Addr.add_lit] at this
  exact this

theorem ivs_eq (l : List Nat) : ivs l = (l.map (fun i : Nat => (i : Int))).map (Value.int .i64) := by simp [ivs]

theorem row_new (W : World) (zs : List Int) (t : Nat) : Row (W.alloc (.cells (zs.map (Value.int .i64)).toArray t)) (some ⟨W.heap.size, 0, none⟩) zs.length zs := by
  refine ⟨rfl, fun j hj => ⟨W.heap.size, 0, rfl, ?_⟩⟩
  rw [World.cell?_alloc_new]
  simp [hj, List.getD]

end Go.Proofs.YtnmjkgjhjnpijaaDoor

set_option linter.unusedVariables false
set_option linter.unusedSimpArgs false
namespace Go.Proofs.YtnmjkgjhjnpijaaDoor

/-- The byte at a place, as a number. -/
def by8 (s : ByteArray) (i : Nat) : Nat := (s.get! i).toNat
/-- .., or none, behind the end. -/
def ob (s : ByteArray) (i : Nat) : Option Nat := if i < s.size then some (by8 s i) else none

theorem by8_lt (s : ByteArray) (i : Nat) : by8 s i < 256 := (s.get! i).toNat_lt

def ct (c : Option Nat) : Bool := match c with | some b => b / 64 == 2 | none => false
def vv (c : Option Nat) : Nat := c.getD 0 % 64

/-- The character that a first byte begins, with what may stand behind it. -/
def D (b0 : Nat) (c1 c2 c3 : Option Nat) : Nat × Nat :=
  if b0 < 128 then (b0, 1)
  else if b0 / 32 == 6 && ct c1 then (if b0 % 32 * 64 + vv c1 ≥ 128 then (b0 % 32 * 64 + vv c1, 2) else (65533, 1))
  else if b0 / 16 == 14 && ct c1 && ct c2 then
    (if b0 % 16 * 4096 + vv c1 * 64 + vv c2 ≥ 2048 && Utf8.valid (b0 % 16 * 4096 + vv c1 * 64 + vv c2 : Nat) then (b0 % 16 * 4096 + vv c1 * 64 + vv c2, 3) else (65533, 1))
  else if b0 / 8 == 30 && ct c1 && ct c2 && ct c3 then
    (if b0 % 8 * 262144 + vv c1 * 4096 + vv c2 * 64 + vv c3 ≥ 65536 && Utf8.valid (b0 % 8 * 262144 + vv c1 * 4096 + vv c2 * 64 + vv c3 : Nat) then (b0 % 8 * 262144 + vv c1 * 4096 + vv c2 * 64 + vv c3, 4) else (65533, 1))
  else (65533, 1)

theorem ob_ct (s : ByteArray) (i : Nat) : (decide (i < s.size) && (s.get! i).toNat / 64 == 2) = ct (ob s i) := by
  unfold ob ct by8
  by_cases h : i < s.size <;> simp [h]

theorem ob_vv (s : ByteArray) (i : Nat) : vv (ob s i) = (s.get! i).toNat % 64 := by
  unfold ob vv by8
  by_cases h : i < s.size
  · simp [h]
  · simp [h, at_big s i (by omega)]

theorem decode_eq (s : ByteArray) (i : Nat) : Utf8.decode s i = D (by8 s i) (ob s (i + 1)) (ob s (i + 2)) (ob s (i + 3)) := by
  unfold Utf8.decode D
  simp only [Nat.add_zero, ob_ct, ob_vv, by8, Utf8.runeError]

theorem D_bad (b0 : Nat) (c1 c2 c3 : Option Nat) (h : b0 / 64 = 2) : D b0 c1 c2 c3 = (65533, 1) := by
  unfold D
  have h1 : ¬ b0 < 128 := by omega
  have h2 : (b0 / 32 == 6) = false := by simp; omega
  have h3 : (b0 / 16 == 14) = false := by simp; omega
  have h4 : (b0 / 8 == 30) = false := by simp; omega
  rw [if_neg h1, h2, h3, h4]
  rfl

/-- Whether it is good. -/
def gD (x : Nat × Nat) : Prop := x.1 ≠ 65533 ∨ 1 < x.2

theorem not_gD : ¬ gD (65533, 1) := by unfold gD; simp

/-- The ways that a character can be. -/
theorem D_ways (b0 : Nat) (c1 c2 c3 : Option Nat) :
    (D b0 c1 c2 c3 = (65533, 1)) ∨ (b0 < 128 ∧ D b0 c1 c2 c3 = (b0, 1)) ∨
    (b0 / 32 = 6 ∧ ct c1 = true ∧ (D b0 c1 c2 c3).2 = 2 ∧ ∀ d2 d3, D b0 c1 d2 d3 = D b0 c1 c2 c3) ∨
    (b0 / 16 = 14 ∧ ct c1 = true ∧ ct c2 = true ∧ (D b0 c1 c2 c3).2 = 3 ∧ ∀ d3, D b0 c1 c2 d3 = D b0 c1 c2 c3) ∨
    (b0 / 8 = 30 ∧ ct c1 = true ∧ ct c2 = true ∧ ct c3 = true ∧ (D b0 c1 c2 c3).2 = 4) := by
  by_cases h1 : b0 < 128
  · exact .inr (.inl ⟨h1, by unfold D; rw [if_pos h1]⟩)
  · have e : ∀ x1 x2 x3, D b0 x1 x2 x3 = _ := fun x1 x2 x3 => by unfold D; rw [if_neg h1]
    by_cases h2 : (b0 / 32 == 6 && ct c1) = true
    · by_cases h3 : b0 % 32 * 64 + vv c1 ≥ 128
      · refine .inr (.inr (.inl ?_))
        have h2' := h2
        simp at h2'
        refine ⟨h2'.1, h2'.2, ?_, fun d2 d3 => ?_⟩
        · rw [e, if_pos h2, if_pos h3]
        · rw [e, e, if_pos h2, if_pos h2]
      · exact .inl (by rw [e, if_pos h2, if_neg h3])
    · by_cases h4 : (b0 / 16 == 14 && ct c1 && ct c2) = true
      · by_cases h5 : (decide (b0 % 16 * 4096 + vv c1 * 64 + vv c2 ≥ 2048) && Utf8.valid (b0 % 16 * 4096 + vv c1 * 64 + vv c2 : Nat)) = true
        · refine .inr (.inr (.inr (.inl ?_)))
          have h4' := h4
          simp at h4'
          refine ⟨h4'.1.1, h4'.1.2, h4'.2, ?_, fun d3 => ?_⟩
          · rw [e, if_neg h2, if_pos h4, if_pos h5]
          · rw [e, e, if_neg h2, if_pos h4, if_neg h2, if_pos h4]
        · exact .inl (by rw [e, if_neg h2, if_pos h4, if_neg h5])
      · by_cases h6 : (b0 / 8 == 30 && ct c1 && ct c2 && ct c3) = true
        · by_cases h7 : (decide (b0 % 8 * 262144 + vv c1 * 4096 + vv c2 * 64 + vv c3 ≥ 65536) && Utf8.valid (b0 % 8 * 262144 + vv c1 * 4096 + vv c2 * 64 + vv c3 : Nat)) = true
          · refine .inr (.inr (.inr (.inr ?_)))
            have h6' := h6
            simp at h6'
            exact ⟨h6'.1.1.1, h6'.1.1.2, h6'.1.2, h6'.2, by rw [e, if_neg h2, if_neg h4, if_pos h6, if_pos h7]⟩
          · exact .inl (by rw [e, if_neg h2, if_neg h4, if_pos h6, if_neg h7])
        · exact .inl (by rw [e, if_neg h2, if_neg h4, if_neg h6])

theorem D_notgood (b0 : Nat) (c1 c2 c3 : Option Nat) (h : ¬ gD (D b0 c1 c2 c3)) : D b0 c1 c2 c3 = (65533, 1) := by
  unfold gD at h
  rcases D_ways b0 c1 c2 c3 with h1 | ⟨h1, h2⟩ | ⟨_, _, h2, _⟩ | ⟨_, _, _, h2, _⟩ | ⟨_, _, _, _, h2⟩
  · exact h1
  · rw [h2] at h; simp at h; omega
  · rw [h2] at h; simp at h
  · rw [h2] at h; simp at h
  · rw [h2] at h; simp at h

theorem ct_less {c c' : Option Nat} (h : c' = c ∨ c' = none) (hc : ct c' = true) : c' = c := by
  rcases h with h | h
  · exact h
  · rw [h] at hc; cases hc

/-- A good one stays, whatever else is known. -/
theorem D_more (b0 : Nat) {c1 c2 c3 c1' c2' c3' : Option Nat} (h1 : c1' = c1 ∨ c1' = none) (h2 : c2' = c2 ∨ c2' = none) (h3 : c3' = c3 ∨ c3' = none) (hg : gD (D b0 c1' c2' c3')) : D b0 c1 c2 c3 = D b0 c1' c2' c3' := by
  rcases D_ways b0 c1' c2' c3' with e | ⟨e1, e2⟩ | ⟨_, e1, _, e2⟩ | ⟨_, e1, e2, _, e3⟩ | ⟨_, e1, e2, e3, _⟩
  · rw [e] at hg; exact absurd hg not_gD
  · rw [e2]; unfold D; rw [if_pos e1]
  · obtain rfl := ct_less h1 e1
    exact e2 _ _
  · obtain rfl := ct_less h1 e1
    obtain rfl := ct_less h2 e2
    exact e3 _
  · obtain rfl := ct_less h1 e1
    obtain rfl := ct_less h2 e2
    obtain rfl := ct_less h3 e3
    rfl

/-- One stays where all its bytes are known. -/
theorem D_same (b0 : Nat) {c1 c2 c3 c1' c2' c3' : Option Nat} (h1 : c1' = c1 ∨ c1' = none) (h2 : c2' = c2 ∨ c2' = none) (h3 : c3' = c3 ∨ c3' = none)
    (k1 : 1 < (D b0 c1 c2 c3).2 → c1' = c1) (k2 : 2 < (D b0 c1 c2 c3).2 → c2' = c2) (k3 : 3 < (D b0 c1 c2 c3).2 → c3' = c3) : D b0 c1' c2' c3' = D b0 c1 c2 c3 := by
  rcases D_ways b0 c1 c2 c3 with e | ⟨e1, e2⟩ | ⟨_, e1, e0, e2⟩ | ⟨_, e1, e2, e0, e3⟩ | ⟨_, e1, e2, e3, e0⟩
  · rw [e]
    refine D_notgood _ _ _ _ (fun hg => ?_)
    rw [← D_more b0 h1 h2 h3 hg, e] at hg
    exact not_gD hg
  · rw [e2]; unfold D; rw [if_pos e1]
  · obtain rfl := k1 (by omega)
    exact e2 _ _
  · obtain rfl := k1 (by omega)
    obtain rfl := k2 (by omega)
    exact e3 _
  · obtain rfl := k1 (by omega)
    obtain rfl := k2 (by omega)
    obtain rfl := k3 (by omega)
    rfl

theorem gd_iff (s : ByteArray) (i : Nat) : gd s i = true ↔ gD (Utf8.decode s i) := by
  unfold gd gdb gD dp dw
  simp
  omega

theorem gd_not (s : ByteArray) (i : Nat) (h : gd s i = false) : Utf8.decode s i = (65533, 1) := by
  rw [decode_eq]
  apply D_notgood
  rw [← decode_eq, ← gd_iff, h]
  simp

theorem ct_some {c : Option Nat} (h : ct c = true) : ∃ b, c = some b ∧ b / 64 = 2 := by
  cases c with
  | none => cases h
  | some b => exact ⟨b, rfl, by simpa [ct] using h⟩

theorem ob_some {s : ByteArray} {i b : Nat} (h : ob s i = some b) : i < s.size ∧ by8 s i = b := by
  unfold ob at h
  split at h
  · exact ⟨‹_›, by simpa using h⟩
  · cases h

/-- Behind a character's first byte there are later ones. -/
theorem dec_inner (s : ByteArray) (i k : Nat) (h1 : 1 ≤ k) (h2 : k < dw s i) : i + k < s.size ∧ by8 s (i + k) / 64 = 2 := by
  have hh : ∀ j, ct (ob s j) = true → j < s.size ∧ by8 s j / 64 = 2 := by
    intro j hj
    obtain ⟨b, hb, hb2⟩ := ct_some hj
    obtain ⟨g1, g2⟩ := ob_some hb
    exact ⟨g1, by rw [g2]; exact hb2⟩
  unfold dw at h2
  rw [decode_eq] at h2
  rcases D_ways (by8 s i) (ob s (i + 1)) (ob s (i + 2)) (ob s (i + 3)) with e | ⟨_, e⟩ | ⟨_, e1, e0, _⟩ | ⟨_, e1, e2, e0, _⟩ | ⟨_, e1, e2, e3, e0⟩
  · rw [e] at h2; simp at h2; omega
  · rw [e] at h2; simp at h2; omega
  · rw [e0] at h2
    obtain rfl : k = 1 := by omega
    exact hh _ e1
  · rw [e0] at h2
    rcases (show k = 1 ∨ k = 2 by omega) with rfl | rfl
    · exact hh _ e1
    · exact hh _ e2
  · rw [e0] at h2
    rcases (show k = 1 ∨ k = 2 ∨ k = 3 by omega) with rfl | rfl | rfl
    · exact hh _ e1
    · exact hh _ e2
    · exact hh _ e3

theorem later_bad (s : ByteArray) (i : Nat) (h : by8 s i / 64 = 2) : Utf8.decode s i = (65533, 1) := by
  rw [decode_eq]; exact D_bad _ _ _ _ h

theorem later_ngd (s : ByteArray) (i : Nat) (h : by8 s i / 64 = 2) : gd s i = false := by
  unfold gd gdb dp dw
  rw [later_bad s i h]
  decide

/-- A text's beginning. -/
theorem by8_head (s : ByteArray) (a i : Nat) (h : i < a) : by8 (s.extract 0 a) i = by8 s i := by
  unfold by8
  rw [get_ext, if_pos (by omega), Nat.zero_add]

theorem ob_head (s : ByteArray) (a i : Nat) (ha : a ≤ s.size) : ob (s.extract 0 a) i = if i < a then ob s i else none := by
  unfold ob
  rw [size_ext s 0 a ha]
  by_cases h : i < a
  · rw [if_pos (by omega), if_pos h, if_pos (by omega), by8_head s a i h]
  · rw [if_neg (by omega), if_neg h]

theorem dec_head (s : ByteArray) (a i : Nat) (ha : a ≤ s.size) (hi : i < a) (hd : i + dw s i ≤ a) : Utf8.decode (s.extract 0 a) i = Utf8.decode s i := by
  unfold dw at hd
  rw [decode_eq] at hd
  rw [decode_eq, decode_eq, by8_head s a i hi, ob_head s a _ ha, ob_head s a _ ha, ob_head s a _ ha]
  refine D_same _ ?_ ?_ ?_ (fun h => if_pos (by omega)) (fun h => if_pos (by omega)) (fun h => if_pos (by omega))
  all_goals split <;> simp

theorem dec_good (s : ByteArray) (a i : Nat) (ha : a ≤ s.size) (hi : i < a) (hg : gd (s.extract 0 a) i = true) : Utf8.decode s i = Utf8.decode (s.extract 0 a) i := by
  rw [gd_iff] at hg
  rw [decode_eq, by8_head s a i hi, ob_head s a _ ha, ob_head s a _ ha, ob_head s a _ ha] at hg
  rw [decode_eq, decode_eq (s.extract 0 a), by8_head s a i hi, ob_head s a _ ha, ob_head s a _ ha, ob_head s a _ ha]
  refine D_more _ ?_ ?_ ?_ hg
  all_goals split <;> simp

/-! ### Where the characters begin, by number -/

def st (s : ByteArray) : Nat → Nat
  | 0 => 0
  | n + 1 => if st s n < s.size then st s n + dw s (st s n) else st s n

theorem st_le (s : ByteArray) : ∀ n, st s n ≤ s.size
  | 0 => Nat.zero_le _
  | n + 1 => by
    unfold st
    split
    · exact (dw_facts s _ ‹_›).2.2
    · exact st_le s n

theorem pl_st (s : ByteArray) : ∀ n, pl s (st s n) = (P s).drop n
  | 0 => rfl
  | n + 1 => by
    have ih := pl_st s n
    unfold st
    split
    · rename_i h
      rw [pl_lt s _ h] at ih
      rw [← List.drop_drop, ← ih]; rfl
    · rename_i h
      rw [ih]
      rw [pl_ge s _ (by omega)] at ih
      rw [← ih, ← List.drop_drop, ← ih]; rfl

theorem st_lt (s : ByteArray) (k : Nat) : st s k < s.size ↔ k < (P s).length := by
  have h := pl_st s k
  constructor
  · intro hk
    rw [pl_lt s _ hk] at h
    have := congrArg List.length h
    simp at this; omega
  · intro hk
    apply Classical.byContradiction
    intro hn
    rw [pl_ge s _ (by omega)] at h
    have := congrArg List.length h
    simp at this; omega

theorem P_at (s : ByteArray) (k : Nat) (h : k < (P s).length) : (P s)[k]? = some (st s k) := by
  have h1 := pl_st s k
  rw [pl_lt s _ ((st_lt s k).2 h)] at h1
  have := congrArg (fun l : List Nat => l[0]?) h1
  simp at this
  exact this.symm

theorem st_end (s : ByteArray) (k : Nat) (h : (P s).length ≤ k) : st s k = s.size := by
  have h1 := st_le s k
  have h2 := st_lt s k
  omega

theorem st_succ (s : ByteArray) (k : Nat) (h : k < (P s).length) : st s (k + 1) = st s k + dw s (st s k) := by
  show (if st s k < s.size then st s k + dw s (st s k) else st s k) = _
  rw [if_pos ((st_lt s k).2 h)]

/-- Each byte ahead of a place lies in a character ahead of it. -/
theorem st_cover (s : ByteArray) (j : Nat) : ∀ n, j < st s n → ∃ m, m < n ∧ m < (P s).length ∧ st s m ≤ j ∧ j < st s m + dw s (st s m) ∧ st s m + dw s (st s m) ≤ st s n
  | 0, h => by simp [st] at h
  | n + 1, h => by
    by_cases hn : st s n < s.size
    · have e := st_succ s n ((st_lt s n).1 hn)
      by_cases hj : j < st s n
      · obtain ⟨m, h1, h2, h3, h4, h5⟩ := st_cover s j n hj
        exact ⟨m, by omega, h2, h3, h4, by omega⟩
      · exact ⟨n, by omega, (st_lt s n).1 hn, by omega, by omega, by omega⟩
    · have e : st s (n + 1) = st s n := by
        show (if st s n < s.size then st s n + dw s (st s n) else st s n) = _
        rw [if_neg hn]
      rw [e] at h
      obtain ⟨m, h1, h2, h3, h4, h5⟩ := st_cover s j n h
      exact ⟨m, by omega, h2, h3, h4, by omega⟩

/-- A good character that begins ahead of a place ends ahead of it. -/
theorem good_ends (s : ByteArray) (j n : Nat) (h : j < st s n) (hg : gd s j = true) : j + dw s j ≤ st s n := by
  obtain ⟨m, h1, h2, h3, h4, h5⟩ := st_cover s j n h
  by_cases e : j = st s m
  · rw [e]; exact h5
  · have hin := dec_inner s (st s m) (j - st s m) (by omega) (by omega)
    rw [show st s m + (j - st s m) = j by omega] at hin
    rw [later_ngd s j hin.2] at hg
    cases hg

theorem lsF_skip (h : ByteArray) (f n : Nat) (hn : ¬ (gd h (h.size - n) = true ∧ dw h (h.size - n) = n)) (hs : n ≤ h.size) : lsF h (f + 1) n = lsF h f (n + 1) := by
  show (if n ≤ h.size then (if gd h (h.size - n) = true ∧ dw h (h.size - n) = n then (dp h (h.size - n), n, true) else lsF h f (n + 1)) else (65533, 1, false)) = _
  rw [if_pos hs, if_neg hn]

theorem lsF_hit (h : ByteArray) (f n : Nat) (hn : gd h (h.size - n) = true ∧ dw h (h.size - n) = n) (hs : n ≤ h.size) : lsF h (f + 1) n = (dp h (h.size - n), n, true) := by
  show (if n ≤ h.size then (if gd h (h.size - n) = true ∧ dw h (h.size - n) = n then (dp h (h.size - n), n, true) else lsF h f (n + 1)) else (65533, 1, false)) = _
  rw [if_pos hs, if_pos hn]

theorem lsF_none (h : ByteArray) : ∀ f n, (∀ m, n ≤ m → m ≤ h.size → ¬ (gd h (h.size - m) = true ∧ dw h (h.size - m) = m)) → lsF h f n = (65533, 1, false)
  | 0, _, _ => rfl
  | f + 1, n, hh => by
    by_cases hs : n ≤ h.size
    · rw [lsF_skip h f n (hh n (Nat.le_refl _) hs) hs]
      exact lsF_none h f (n + 1) (fun m h1 h2 => hh m (by omega) h2)
    · show (if n ≤ h.size then (if gd h (h.size - n) = true ∧ dw h (h.size - n) = n then (dp h (h.size - n), n, true) else lsF h f (n + 1)) else (65533, 1, false)) = _
      rw [if_neg hs]

theorem lsF_find (h : ByteArray) (d : Nat) (hd : d ≤ h.size) (hg : gd h (h.size - d) = true ∧ dw h (h.size - d) = d) : ∀ f n, n ≤ d → d < n + f → (∀ m, n ≤ m → m < d → ¬ (gd h (h.size - m) = true ∧ dw h (h.size - m) = m)) → lsF h f n = (dp h (h.size - d), d, true)
  | 0, n, h1, h2, _ => by omega
  | f + 1, n, h1, h2, hh => by
    by_cases e : n = d
    · subst e; exact lsF_hit h f n hg hd
    · rw [lsF_skip h f n (hh n (Nat.le_refl _) (by omega)) (by omega)]
      exact lsF_find h d hd hg f (n + 1) (by omega) (by omega) (fun m h3 h4 => hh m (by omega) h4)

/-- The last character ahead of a place is the one that begins at the place ahead. -/
theorem ls_st (s : ByteArray) (k : Nat) (hk : k < (P s).length) : ls (s.extract 0 (st s (k + 1))) = (dp s (st s k), dw s (st s k), gd s (st s k)) := by
  have hi := (st_lt s k).2 hk
  have hw := dw_facts s (st s k) hi
  have ha := st_le s (k + 1)
  have e := st_succ s k hk
  have hz := size_ext s 0 (st s (k + 1)) ha
  rw [Nat.sub_zero] at hz
  have hd : Utf8.decode (s.extract 0 (st s (k + 1))) (st s k) = Utf8.decode s (st s k) := dec_head s _ _ ha (by omega) (by omega)
  have gdh : gd (s.extract 0 (st s (k + 1))) (st s k) = gd s (st s k) := by unfold gd dp dw; rw [hd]
  have dwh : dw (s.extract 0 (st s (k + 1))) (st s k) = dw s (st s k) := by unfold dw; rw [hd]
  have dph : dp (s.extract 0 (st s (k + 1))) (st s k) = dp s (st s k) := by unfold dp; rw [hd]
  unfold ls
  by_cases hg : gd s (st s k) = true
  · rw [lsF_find (s.extract 0 (st s (k + 1))) (dw s (st s k)) (by omega) (by rw [hz, show st s (k + 1) - dw s (st s k) = st s k by omega, gdh, dwh]; exact ⟨hg, rfl⟩) 4 1 hw.1 (by omega) (fun m h1 h2 => ?_)]
    · rw [hz, show st s (k + 1) - dw s (st s k) = st s k by omega, dph, hg]
    · intro hh
      rw [hz] at hh
      have hin := dec_inner s (st s k) (dw s (st s k) - m) (by omega) (by omega)
      rw [show st s k + (dw s (st s k) - m) = st s (k + 1) - m by omega] at hin
      rw [later_ngd _ _ (by rw [by8_head s _ _ (by omega)]; exact hin.2)] at hh
      cases hh.1
  · have hg' : gd s (st s k) = false := by simpa using hg
    have hb := gd_not s _ hg'
    have e1 : dp s (st s k) = 65533 := by unfold dp; rw [hb]
    have e2 : dw s (st s k) = 1 := by unfold dw; rw [hb]
    rw [e1, e2, hg']
    refine lsF_none _ 4 1 (fun m h1 h2 => ?_)
    intro hh
    rw [hz] at hh h2
    by_cases hm : m = 1
    · subst hm
      rw [show st s (k + 1) - 1 = st s k by omega, gdh, hg'] at hh
      cases hh.1
    · have hj : st s (k + 1) - m < st s k := by omega
      have hdg := dec_good s _ _ ha (by omega) hh.1
      have hg2 : gd s (st s (k + 1) - m) = true := by rw [gd_iff, hdg, ← gd_iff]; exact hh.1
      have := good_ends s _ k hj hg2
      have e3 : dw s (st s (k + 1) - m) = m := by unfold dw; rw [hdg]; exact hh.2
      omega

end Go.Proofs.YtnmjkgjhjnpijaaDoor

set_option linter.unusedVariables false
set_option linter.unusedSimpArgs false
namespace Go.Proofs.YtnmjkgjhjnpijaaDoor

theorem vv_lt (c : Option Nat) : vv c < 64 := Nat.mod_lt _ (by omega)

theorem D_w2 (b0 : Nat) (c1 c2 c3 : Option Nat) : (D b0 c1 c2 c3).2 = 2 ↔ b0 / 32 = 6 ∧ ct c1 = true ∧ 128 ≤ b0 % 32 * 64 + vv c1 := by
  have := vv_lt c1
  unfold D
  generalize vv c1 = v1 at *
  generalize vv c2 = v2 at *
  generalize vv c3 = v3 at *
  generalize ct c1 = t1 at *
  generalize ct c2 = t2 at *
  generalize ct c3 = t3 at *
  by_cases h1 : b0 < 128
  · rw [if_pos h1]; simp; omega
  · rw [if_neg h1]
    cases t1 <;> cases t2 <;> cases t3 <;> simp
    all_goals (repeat' split)
    all_goals simp_all
    all_goals omega

theorem D_w3 (b0 : Nat) (c1 c2 c3 : Option Nat) : (D b0 c1 c2 c3).2 = 3 ↔ b0 / 16 = 14 ∧ ct c1 = true ∧ ct c2 = true ∧ 2048 ≤ b0 % 16 * 4096 + vv c1 * 64 + vv c2 ∧
    (b0 % 16 * 4096 + vv c1 * 64 + vv c2 < 55296 ∨ 57344 ≤ b0 % 16 * 4096 + vv c1 * 64 + vv c2) := by
  have h1 := vv_lt c1
  have h2 := vv_lt c2
  unfold D Utf8.valid
  generalize vv c1 = v1 at *
  generalize vv c2 = v2 at *
  generalize vv c3 = v3 at *
  generalize ct c1 = t1 at *
  generalize ct c2 = t2 at *
  generalize ct c3 = t3 at *
  by_cases h1 : b0 < 128
  · rw [if_pos h1]; simp; omega
  · rw [if_neg h1]
    cases t1 <;> cases t2 <;> cases t3 <;> simp
    all_goals (repeat' split)
    all_goals simp_all
    all_goals omega

theorem D_w4 (b0 : Nat) (c1 c2 c3 : Option Nat) : (D b0 c1 c2 c3).2 = 4 ↔ b0 / 8 = 30 ∧ ct c1 = true ∧ ct c2 = true ∧ ct c3 = true ∧ 65536 ≤ b0 % 8 * 262144 + vv c1 * 4096 + vv c2 * 64 + vv c3 ∧
    b0 % 8 * 262144 + vv c1 * 4096 + vv c2 * 64 + vv c3 ≤ 1114111 := by
  have h1 := vv_lt c1
  have h2 := vv_lt c2
  have h3 := vv_lt c3
  unfold D Utf8.valid
  generalize vv c1 = v1 at *
  generalize vv c2 = v2 at *
  generalize vv c3 = v3 at *
  generalize ct c1 = t1 at *
  generalize ct c2 = t2 at *
  generalize ct c3 = t3 at *
  by_cases h1 : b0 < 128
  · rw [if_pos h1]; simp; omega
  · rw [if_neg h1]
    cases t1 <;> cases t2 <;> cases t3 <;> simp
    all_goals (repeat' split)
    all_goals simp_all
    all_goals omega

theorem D_le4 (b0 : Nat) (c1 c2 c3 : Option Nat) : (D b0 c1 c2 c3).2 ≤ 4 := by
  rcases D_ways b0 c1 c2 c3 with h1 | ⟨h1, h2⟩ | ⟨_, _, h2, _⟩ | ⟨_, _, _, h2, _⟩ | ⟨_, _, _, _, h2⟩
  · rw [h1]; decide
  · rw [h2]; show 1 ≤ 4; omega
  · omega
  · omega
  · omega

theorem n2 (b v : Nat) (h : 128 ≤ b % 32 * 64 + v) (hv : v < 64) : 128 ≤ b % 32 * 64 + 0 := by omega
theorem n3a (b : Nat) (hb : b % 16 = 0) : 2048 ≤ b % 16 * 4096 + 63 * 64 + 63 ∧ (b % 16 * 4096 + 63 * 64 + 63 < 55296 ∨ 57344 ≤ b % 16 * 4096 + 63 * 64 + 63) := by omega
theorem n3b (b : Nat) (hb : ¬ b % 16 = 0) : 2048 ≤ b % 16 * 4096 + 0 * 64 + 0 ∧ (b % 16 * 4096 + 0 * 64 + 0 < 55296 ∨ 57344 ≤ b % 16 * 4096 + 0 * 64 + 0) := by omega
theorem n3c (b v w : Nat) (hw : w < 64) (h : 2048 ≤ b % 16 * 4096 + v * 64 + w) (h2 : b % 16 * 4096 + v * 64 + w < 55296 ∨ 57344 ≤ b % 16 * 4096 + v * 64 + w) :
    2048 ≤ b % 16 * 4096 + v * 64 + 0 ∧ (b % 16 * 4096 + v * 64 + 0 < 55296 ∨ 57344 ≤ b % 16 * 4096 + v * 64 + 0) := by omega
theorem n4a (b : Nat) (hb : b % 8 = 0) : 65536 ≤ b % 8 * 262144 + 63 * 4096 + 63 * 64 + 63 ∧ b % 8 * 262144 + 63 * 4096 + 63 * 64 + 63 ≤ 1114111 := by omega
theorem n4b (b v1 v2 v3 : Nat) (hb : ¬ b % 8 = 0) (h : b % 8 * 262144 + v1 * 4096 + v2 * 64 + v3 ≤ 1114111) : 65536 ≤ b % 8 * 262144 + 0 * 4096 + 0 * 64 + 0 ∧ b % 8 * 262144 + 0 * 4096 + 0 * 64 + 0 ≤ 1114111 := by omega
theorem n4c (b v1 v2 v3 : Nat) (h2 : v2 < 64) (h3 : v3 < 64) (h0 : 65536 ≤ b % 8 * 262144 + v1 * 4096 + v2 * 64 + v3) (h : b % 8 * 262144 + v1 * 4096 + v2 * 64 + v3 ≤ 1114111) : 65536 ≤ b % 8 * 262144 + v1 * 4096 + 0 * 64 + 0 ∧ b % 8 * 262144 + v1 * 4096 + 0 * 64 + 0 ≤ 1114111 := by omega
theorem n4d (b v1 v2 v3 : Nat) (h3 : v3 < 64) (h0 : 65536 ≤ b % 8 * 262144 + v1 * 4096 + v2 * 64 + v3) (h : b % 8 * 262144 + v1 * 4096 + v2 * 64 + v3 ≤ 1114111) : 65536 ≤ b % 8 * 262144 + v1 * 4096 + v2 * 64 + 0 ∧ b % 8 * 262144 + v1 * 4096 + v2 * 64 + 0 ≤ 1114111 := by omega

theorem two3 (n : Nat) (h : 2 < n) (h4 : n ≤ 4) : n = 3 ∨ n = 4 := by omega
theorem one3 (n : Nat) (h : 1 < n) (h4 : n ≤ 4) : n = 2 ∨ n = 3 ∨ n = 4 := by omega

/-- What begins one goes on with the least bytes or with the greatest. -/
theorem D_open (b0 : Nat) (c1 c2 c3 x y : Option Nat) (a0 : ct x = true) (a1 : ct y = true) (v0 : vv x = 0) (v1 : vv y = 63) :
    (1 < (D b0 c1 c2 c3).2 → 1 < (D b0 x x x).2 ∨ 1 < (D b0 y y y).2) ∧
    (2 < (D b0 c1 c2 c3).2 → 2 < (D b0 c1 x x).2) ∧
    (3 < (D b0 c1 c2 c3).2 → 3 < (D b0 c1 c2 x).2) := by
  have h4 := D_le4 b0 c1 c2 c3
  refine ⟨fun h => ?_, fun h => ?_, fun h => ?_⟩
  · rcases one3 _ h h4 with e | e | e
    · obtain ⟨q1, q2, q3⟩ := (D_w2 _ _ _ _).1 e
      left
      rw [(D_w2 b0 x x x).2 ⟨q1, a0, by rw [v0]; exact n2 _ _ q3 (vv_lt _)⟩]; decide
    · obtain ⟨q1, q2, q3, q4, q5⟩ := (D_w3 _ _ _ _).1 e
      by_cases hb : b0 % 16 = 0
      · right
        rw [(D_w3 b0 y y y).2 ⟨q1, a1, a1, by rw [v1]; exact n3a _ hb⟩]; decide
      · left
        rw [(D_w3 b0 x x x).2 ⟨q1, a0, a0, by rw [v0]; exact n3b _ hb⟩]; decide
    · obtain ⟨q1, q2, q3, q4, q5, q6⟩ := (D_w4 _ _ _ _).1 e
      by_cases hb : b0 % 8 = 0
      · right
        rw [(D_w4 b0 y y y).2 ⟨q1, a1, a1, a1, by rw [v1]; exact n4a _ hb⟩]; decide
      · left
        rw [(D_w4 b0 x x x).2 ⟨q1, a0, a0, a0, by rw [v0]; exact n4b _ _ _ _ hb q6⟩]; decide
  · rcases two3 _ h h4 with e | e
    · obtain ⟨q1, q2, q3, q4, q5⟩ := (D_w3 _ _ _ _).1 e
      rw [(D_w3 b0 c1 x x).2 ⟨q1, q2, a0, by rw [v0]; exact n3c _ _ _ (vv_lt _) q4 q5⟩]; decide
    · obtain ⟨q1, q2, q3, q4, q5, q6⟩ := (D_w4 _ _ _ _).1 e
      rw [(D_w4 b0 c1 x x).2 ⟨q1, q2, a0, a0, by rw [v0]; exact n4c _ _ _ _ (vv_lt _) (vv_lt _) q5 q6⟩]; decide
  · obtain ⟨q1, q2, q3, q4, q5, q6⟩ := (D_w4 _ _ _ _).1 (Nat.le_antisymm h4 h)
    rw [(D_w4 b0 c1 c2 x).2 ⟨q1, q2, q3, a0, by rw [v0]; exact n4d _ _ _ _ (vv_lt _) q5 q6⟩]; decide

/-! ### Texts, joined -/

theorem get_app (a b : ByteArray) (i : Nat) : (a ++ b).get! i = if i < a.size then a.get! i else b.get! (i - a.size) := by
  have e : ∀ (x : ByteArray) (k : Nat), x.get! k = x.data.toList[k]?.getD default := by
    intro x k
    show x.data[k]! = _
    rw [Array.getElem!_eq_getD, Array.getD_eq_getD_getElem?, Array.getElem?_toList]
  have hz : a.data.toList.length = a.size := by simp
  rw [e, e, e, ByteArray.data_append, Array.toList_append]
  by_cases h : i < a.size
  · rw [if_pos h, List.getElem?_append_left (by omega)]
  · rw [if_neg h, List.getElem?_append_right (by omega), hz]

theorem size_app (a b : ByteArray) : (a ++ b).size = a.size + b.size := by simp [ByteArray.size_append]

theorem ob_app (a b : ByteArray) (i : Nat) : ob (a ++ b) i = if i < a.size then ob a i else ob b (i - a.size) := by
  unfold ob by8
  rw [size_app, get_app]
  by_cases h : i < a.size
  · rw [if_pos h, if_pos (by omega), if_pos h, if_pos h]
  · rw [if_neg h]
    by_cases h2 : i - a.size < b.size
    · rw [if_pos (by omega), if_neg h, if_pos h2]
    · rw [if_neg (by omega), if_neg h, if_neg h2]

theorem by8_app (a b : ByteArray) (i : Nat) : by8 (a ++ b) i = if i < a.size then by8 a i else by8 b (i - a.size) := by
  unfold by8
  rw [get_app]
  split <;> rfl

theorem dec_second (a b : ByteArray) (i : Nat) : Utf8.decode (a ++ b) (a.size + i) = Utf8.decode b i := by
  rw [decode_eq, decode_eq, by8_app, ob_app, ob_app, ob_app, if_neg (by omega), if_neg (by omega), if_neg (by omega), if_neg (by omega)]
  rw [show a.size + i - a.size = i by omega, show a.size + i + 1 - a.size = i + 1 by omega, show a.size + i + 2 - a.size = i + 2 by omega, show a.size + i + 3 - a.size = i + 3 by omega]

/-- A text that goes on as a character is open. -/
theorem opn_of (t b : ByteArray) (h0 : 0 < t.size) (h : t.size < dw (t ++ b) 0) : opn t = true := by
  have key : ∀ x : ByteArray, x.size = 3 → t.size < dw (t ++ x) 0 → goB t x = true := by
    intro x hx hd
    unfold goB
    have : gd (t ++ x) 0 = true := by unfold gd gdb; simp; omega
    rw [this]; simpa using hd
  unfold dw at h
  rw [decode_eq] at h
  have hle := D_le4 (by8 (t ++ b) 0) (ob (t ++ b) (0 + 1)) (ob (t ++ b) (0 + 2)) (ob (t ++ b) (0 + 3))
  have ho := D_open (by8 (t ++ b) 0) (ob (t ++ b) (0 + 1)) (ob (t ++ b) (0 + 2)) (ob (t ++ b) (0 + 3)) (some 128) (some 191) (by decide) (by decide) (by decide) (by decide)
  have b0 : ∀ x, by8 (t ++ x) 0 = by8 t 0 := fun x => by rw [by8_app, if_pos h0]
  have o8 : ∀ k, k < 3 → ob ⟨#[128, 128, 128]⟩ k = some 128 := by
    intro k hk
    match k, hk with
    | 0, _ => decide
    | 1, _ => decide
    | 2, _ => decide
  have oB : ∀ k, k < 3 → ob ⟨#[191, 191, 191]⟩ k = some 191 := by
    intro k hk
    match k, hk with
    | 0, _ => decide
    | 1, _ => decide
    | 2, _ => decide
  have w8 : t.size < (D (by8 t 0) (ob (t ++ ⟨#[128, 128, 128]⟩) (0 + 1)) (ob (t ++ ⟨#[128, 128, 128]⟩) (0 + 2)) (ob (t ++ ⟨#[128, 128, 128]⟩) (0 + 3))).2 → opn t = true := by
    intro hq
    unfold opn
    rw [key ⟨#[128, 128, 128]⟩ rfl (by unfold dw; rw [decode_eq, b0]; exact hq)]; rfl
  have wB : t.size < (D (by8 t 0) (ob (t ++ ⟨#[191, 191, 191]⟩) (0 + 1)) (ob (t ++ ⟨#[191, 191, 191]⟩) (0 + 2)) (ob (t ++ ⟨#[191, 191, 191]⟩) (0 + 3))).2 → opn t = true := by
    intro hq
    unfold opn
    rw [key ⟨#[191, 191, 191]⟩ rfl (by unfold dw; rw [decode_eq, b0]; exact hq)]; simp
  rw [b0] at h hle ho
  obtain ⟨ho1, ho2, ho3⟩ := ho
  rcases (show t.size = 1 ∨ t.size = 2 ∨ t.size = 3 by omega) with e | e | e
  · rcases ho1 (by omega) with q | q
    · apply w8
      rw [ob_app, ob_app, ob_app, if_neg (by omega), if_neg (by omega), if_neg (by omega), o8 _ (by omega), o8 _ (by omega), o8 _ (by omega), e]
      exact q
    · apply wB
      rw [ob_app, ob_app, ob_app, if_neg (by omega), if_neg (by omega), if_neg (by omega), oB _ (by omega), oB _ (by omega), oB _ (by omega), e]
      exact q
  · have q := ho2 (by omega)
    apply w8
    rw [ob_app, if_pos (by omega)] at q
    rw [ob_app, ob_app, ob_app, if_pos (by omega), if_neg (by omega), if_neg (by omega), o8 _ (by omega), o8 _ (by omega), e]
    exact q
  · have q := ho3 (by omega)
    apply w8
    rw [ob_app, ob_app, if_pos (by omega), if_pos (by omega)] at q
    rw [ob_app, ob_app, ob_app, if_pos (by omega), if_pos (by omega), if_neg (by omega), o8 _ (by omega), e]
    exact q

/-- What is open begins with a first byte. -/
theorem opn_first (t : ByteArray) (h0 : 0 < t.size) (h : opn t = true) : ¬ by8 t 0 / 64 = 2 := by
  intro hb
  have key : ∀ x : ByteArray, goB t x = false := by
    intro x
    have e : dw (t ++ x) 0 = 1 := by
      unfold dw
      rw [later_bad (t ++ x) 0 (by rw [by8_app, if_pos h0]; exact hb)]
    unfold goB
    rw [e]
    have : decide (t.size < 1) = false := decide_eq_false (by omega)
    rw [this]; simp
  unfold opn at h
  rw [key, key] at h
  cases h

theorem whF_facts (s : ByteArray) : ∀ f n, 1 ≤ n → (whF s f n = s.size ∧ ∀ m, n ≤ m → m < n + f → m ≤ s.size → opn (s.extract (s.size - m) s.size) = false) ∨
    (∃ m, n ≤ m ∧ m < n + f ∧ m ≤ s.size ∧ whF s f n = s.size - m ∧ opn (s.extract (s.size - m) s.size) = true)
  | 0, n, _ => .inl ⟨rfl, fun m h1 h2 => by omega⟩
  | f + 1, n, hn => by
    unfold whF
    by_cases hs : n ≤ s.size
    · rw [if_pos hs]
      by_cases ho : opn (s.extract (s.size - n) s.size) = true
      · rw [if_pos ho]
        exact .inr ⟨n, by omega, by omega, hs, rfl, ho⟩
      · rw [if_neg ho]
        rcases whF_facts s f (n + 1) (by omega) with ⟨h1, h2⟩ | ⟨m, h1, h2, h3, h4, h5⟩
        · refine .inl ⟨h1, fun m g1 g2 g3 => ?_⟩
          by_cases e : m = n
          · subst e; simpa using ho
          · exact h2 m (by omega) (by omega) g3
        · exact .inr ⟨m, by omega, by omega, h3, h4, h5⟩
    · rw [if_neg hs]
      exact .inl ⟨rfl, fun m g1 g2 g3 => by omega⟩

theorem wh_facts (s : ByteArray) : (wh s = s.size ∧ ∀ m, 1 ≤ m → m ≤ 3 → m ≤ s.size → opn (s.extract (s.size - m) s.size) = false) ∨
    (∃ m, 1 ≤ m ∧ m ≤ 3 ∧ m ≤ s.size ∧ wh s = s.size - m ∧ opn (s.extract (s.size - m) s.size) = true) := by
  rcases whF_facts s 3 1 (by omega) with ⟨h1, h2⟩ | ⟨m, h1, h2, h3, h4, h5⟩
  · exact .inl ⟨h1, fun m g1 g2 g3 => h2 m g1 (by omega) g3⟩
  · exact .inr ⟨m, h1, by omega, h3, h4, h5⟩

theorem wh_bd (s : ByteArray) : wh s ≤ s.size ∧ s.size ≤ wh s + 3 := by
  rcases wh_facts s with ⟨h1, _⟩ | ⟨m, h1, h2, h3, h4, _⟩ <;> omega

theorem app_tail (a b : ByteArray) (i : Nat) (hi : i ≤ a.size) : Utf8.decode (a.extract i a.size ++ b) 0 = Utf8.decode (a ++ b) i := by
  have hz := size_ext a i a.size (Nat.le_refl _)
  refine decode_congr _ _ _ _ (fun k _ => ?_) (fun k _ => by rw [size_app, size_app, hz]; omega)
  rw [get_app, get_app, hz, get_ext]
  by_cases h : i + k < a.size
  · rw [if_pos (by omega), if_pos (by omega), if_pos h, Nat.zero_add]
  · rw [if_neg (by omega), if_neg h, show 0 + k - (a.size - i) = i + k - a.size by omega]

/-- Ahead of an open end nothing hangs on what comes. -/
theorem dec_whole (a b : ByteArray) (i : Nat) (hi : i < wh a) : Utf8.decode (a ++ b) i = Utf8.decode (a.extract 0 (wh a)) i := by
  have hwb := wh_bd a
  have hhead : ∀ k, ob (a.extract 0 (wh a)) k = if k < wh a then ob (a ++ b) k else none := by
    intro k
    rw [ob_head a _ _ hwb.1]
    by_cases h : k < wh a
    · rw [if_pos h, if_pos h, ob_app, if_pos (by omega)]
    · rw [if_neg h, if_neg h]
  have h8 : by8 (a.extract 0 (wh a)) i = by8 (a ++ b) i := by rw [by8_head a _ _ hi, by8_app, if_pos (by omega)]
  have hless : ∀ k, ob (a.extract 0 (wh a)) k = ob (a ++ b) k ∨ ob (a.extract 0 (wh a)) k = none := by
    intro k
    rw [hhead]
    split <;> simp
  by_cases hg : gD (Utf8.decode (a.extract 0 (wh a)) i)
  · have e := hg
    rw [decode_eq, h8] at e
    rw [decode_eq, decode_eq (a.extract 0 (wh a)), h8]
    exact D_more _ (hless _) (hless _) (hless _) e
  · have e2 : Utf8.decode (a.extract 0 (wh a)) i = (65533, 1) := by
      rw [decode_eq]; apply D_notgood; rw [← decode_eq]; exact hg
    rw [e2]
    by_cases hgc : gD (Utf8.decode (a ++ b) i)
    · exfalso
      by_cases hcr : i + dw (a ++ b) i ≤ wh a
      · apply hg
        have : Utf8.decode (a.extract 0 (wh a)) i = Utf8.decode (a ++ b) i := by
          unfold dw at hcr
          rw [decode_eq] at hcr
          rw [decode_eq, decode_eq (a ++ b), h8]
          refine D_same _ (hless _) (hless _) (hless _) (fun h => ?_) (fun h => ?_) (fun h => ?_)
          all_goals rw [hhead, if_pos (by omega)]
        rw [this]; exact hgc
      · rcases wh_facts a with ⟨w1, w2⟩ | ⟨m, m1, m2, m3, w1, w2⟩
        · have h4 : dw (a ++ b) i ≤ 4 := by unfold dw; rw [decode_eq]; exact D_le4 _ _ _ _
          have := w2 (a.size - i) (by omega) (by omega) (by omega)
          rw [show a.size - (a.size - i) = i by omega] at this
          rw [opn_of (a.extract i a.size) b (by rw [size_ext a i _ (Nat.le_refl _)]; omega) (by
            unfold dw; rw [app_tail a b i (by omega), size_ext a i _ (Nat.le_refl _)]
            show _ < dw (a ++ b) i
            omega)] at this
          cases this
        · have hin := dec_inner (a ++ b) i (wh a - i) (by omega) (by omega)
          rw [show i + (wh a - i) = wh a by omega, by8_app, if_pos (by omega)] at hin
          apply opn_first _ (by rw [size_ext a _ _ (Nat.le_refl _)]; omega) w2
          rw [← w1]
          unfold by8
          rw [get_ext, if_pos (by omega), Nat.add_zero]
          exact hin.2
    · rw [decode_eq]; apply D_notgood; rw [← decode_eq]; exact hgc

theorem st_whole (a b : ByteArray) : ∀ k, k ≤ (P (a.extract 0 (wh a))).length → st (a ++ b) k = st (a.extract 0 (wh a)) k
  | 0, _ => rfl
  | k + 1, h => by
    have ih := st_whole a b k (by omega)
    have hz := size_ext a 0 (wh a) (wh_bd a).1
    have h1 := (st_lt (a.extract 0 (wh a)) k).2 (by omega)
    have h2 : st (a ++ b) k < (a ++ b).size := by rw [ih, size_app]; have := (wh_bd a).1; omega
    rw [st_succ (a ++ b) k ((st_lt _ k).1 h2), st_succ (a.extract 0 (wh a)) k (by omega), ih]
    unfold dw
    rw [dec_whole a b _ (by omega)]

/-- The points ahead of an open end are the first ones of the joined text. -/
theorem points_whole (a b : ByteArray) : ∃ m, m = (P (a.extract 0 (wh a))).length ∧ m ≤ (P (a ++ b)).length ∧ ((P (a ++ b)).map (dp (a ++ b))).take m = (P (a.extract 0 (wh a))).map (dp (a.extract 0 (wh a))) := by
  have hz := size_ext a 0 (wh a) (wh_bd a).1
  have hm : (P (a.extract 0 (wh a))).length ≤ (P (a ++ b)).length := by
    apply Nat.le_of_not_lt
    intro hlt
    have h1 := (st_lt (a.extract 0 (wh a)) (P (a ++ b)).length).2 hlt
    have h2 := st_whole a b (P (a ++ b)).length (by omega)
    have h3 := st_end (a ++ b) _ (Nat.le_refl _)
    rw [size_app] at h3
    have := (wh_bd a).1
    omega
  refine ⟨_, rfl, hm, ?_⟩
  apply List.ext_getElem?
  intro k
  rw [List.getElem?_take]
  by_cases hk : k < (P (a.extract 0 (wh a))).length
  · have h1 := (st_lt (a.extract 0 (wh a)) k).2 hk
    rw [if_pos hk, List.getElem?_map, List.getElem?_map, P_at _ k hk, P_at _ k (by omega), st_whole a b k (by omega)]
    simp only [Option.map_some]
    unfold dp
    rw [dec_whole a b _ (by omega)]
  · rw [if_neg hk, List.getElem?_map, List.getElem?_eq_none (by omega), Option.map_none]

theorem st_second (a b : ByteArray) (h : wh a = a.size) (he : a.extract 0 (wh a) = a) : ∀ k, st (a ++ b) ((P a).length + k) = a.size + st b k
  | 0 => by
    have := st_whole a b (P (a.extract 0 (wh a))).length (Nat.le_refl _)
    rw [he] at this
    rw [Nat.add_zero, this, st_end a _ (Nat.le_refl _)]; rfl
  | k + 1 => by
    have ih := st_second a b h he k
    by_cases hk : st b k < b.size
    · have h2 : st (a ++ b) ((P a).length + k) < (a ++ b).size := by rw [ih, size_app]; omega
      rw [← Nat.add_assoc, st_succ _ _ ((st_lt _ _).1 h2), ih, st_succ b k ((st_lt b k).1 hk)]
      unfold dw
      rw [dec_second]; omega
    · have h2 : ¬ st (a ++ b) ((P a).length + k) < (a ++ b).size := by rw [ih, size_app]; omega
      rw [← Nat.add_assoc]
      show (if st (a ++ b) ((P a).length + k) < (a ++ b).size then _ else st (a ++ b) ((P a).length + k)) = _
      rw [if_neg h2, ih]
      show _ = a.size + (if st b k < b.size then _ else st b k)
      rw [if_neg hk]

theorem len_sum (A B C : Nat) (h1 : A + B < C ↔ B < B) (h2 : A + (C - A) < C ↔ C - A < B) (h : A ≤ C) : C = A + B := by omega

theorem points_second (a b : ByteArray) (h : wh a = a.size) (he : a.extract 0 (wh a) = a) : (P (a ++ b)).length = (P a).length + (P b).length ∧ ((P (a ++ b)).map (dp (a ++ b))).drop (P a).length = (P b).map (dp b) := by
  have hlt : ∀ k, (P a).length + k < (P (a ++ b)).length ↔ k < (P b).length := by
    intro k
    rw [← st_lt, ← st_lt, st_second a b h he, size_app]; omega
  have hge : (P a).length ≤ (P (a ++ b)).length := by
    obtain ⟨m, h1, h2, _⟩ := points_whole a b
    rw [he] at h1; omega
  have hlen : (P (a ++ b)).length = (P a).length + (P b).length :=
    len_sum _ _ _ (hlt (P b).length) (hlt ((P (a ++ b)).length - (P a).length)) hge
  refine ⟨hlen, ?_⟩
  apply List.ext_getElem?
  intro k
  rw [List.getElem?_drop, List.getElem?_map, List.getElem?_map]
  by_cases hk : k < (P b).length
  · rw [P_at b k hk, P_at _ _ ((hlt k).2 hk), st_second a b h he]
    simp only [Option.map_some]
    unfold dp
    rw [dec_second]
  · rw [List.getElem?_eq_none (by omega), List.getElem?_eq_none (by omega), Option.map_none, Option.map_none]

theorem extract_all (a : ByteArray) : a.extract 0 a.size = a := by
  apply ByteArray.ext
  rw [ByteArray.data_extract]
  exact Array.extract_size

end Go.Proofs.YtnmjkgjhjnpijaaDoor

set_option linter.unusedVariables false
set_option linter.unusedSimpArgs false
namespace Go.Proofs.YtnmjkgjhjnpijaaDoor

theorem ba_ext (a b : ByteArray) (hz : a.size = b.size) (h : ∀ i, i < a.size → a.get! i = b.get! i) : a = b := by
  apply ByteArray.ext
  apply Array.ext
  · exact hz
  · intro i h1 h2
    have := h i h1
    have e : ∀ (x : ByteArray) (hx : i < x.data.size), x.get! i = x.data[i] := by
      intro x hx
      show x.data[i]! = _
      exact getElem!_pos x.data i hx
    rw [e a h1, e b h2] at this
    exact this

theorem by8_ext (a b : ByteArray) (hz : a.size = b.size) (h : ∀ i, i < a.size → by8 a i = by8 b i) : a = b :=
  ba_ext a b hz (fun i hi => UInt8.toNat_inj.1 (h i hi))

theorem D_v2 (b0 : Nat) (c1 c2 c3 : Option Nat) (h1 : b0 / 32 = 6) (h2 : ct c1 = true) (h3 : 128 ≤ b0 % 32 * 64 + vv c1) : D b0 c1 c2 c3 = (b0 % 32 * 64 + vv c1, 2) := by
  unfold D
  rw [if_neg (by omega), if_pos (by rw [h2]; simp; omega), if_pos h3]

theorem D_v3 (b0 : Nat) (c1 c2 c3 : Option Nat) (h1 : b0 / 16 = 14) (h2 : ct c1 = true) (h2' : ct c2 = true) (h3 : 2048 ≤ b0 % 16 * 4096 + vv c1 * 64 + vv c2)
    (h4 : b0 % 16 * 4096 + vv c1 * 64 + vv c2 < 55296 ∨ 57344 ≤ b0 % 16 * 4096 + vv c1 * 64 + vv c2) : D b0 c1 c2 c3 = (b0 % 16 * 4096 + vv c1 * 64 + vv c2, 3) := by
  have hw := (D_w3 b0 c1 c2 c3).2 ⟨h1, h2, h2', h3, h4⟩
  unfold D at hw ⊢
  have e1 : (b0 / 32 == 6) = false := by simp; omega
  have e2 : (b0 / 16 == 14) = true := by simp; omega
  rw [if_neg (by omega), e1, h2, h2', e2] at hw ⊢
  simp only [Bool.false_and, Bool.true_and, Bool.and_true, if_true, if_false, Bool.false_eq_true] at hw ⊢
  split
  · rfl
  · rename_i hn; rw [if_neg hn] at hw; cases hw

theorem D_v4 (b0 : Nat) (c1 c2 c3 : Option Nat) (h1 : b0 / 8 = 30) (h2 : ct c1 = true) (h2' : ct c2 = true) (h2'' : ct c3 = true) (h3 : 65536 ≤ b0 % 8 * 262144 + vv c1 * 4096 + vv c2 * 64 + vv c3)
    (h4 : b0 % 8 * 262144 + vv c1 * 4096 + vv c2 * 64 + vv c3 ≤ 1114111) : D b0 c1 c2 c3 = (b0 % 8 * 262144 + vv c1 * 4096 + vv c2 * 64 + vv c3, 4) := by
  have hw := (D_w4 b0 c1 c2 c3).2 ⟨h1, h2, h2', h2'', h3, h4⟩
  unfold D at hw ⊢
  have e1 : (b0 / 32 == 6) = false := by simp; omega
  have e2 : (b0 / 16 == 14) = false := by simp; omega
  have e3 : (b0 / 8 == 30) = true := by simp; omega
  rw [if_neg (by omega), e1, h2, h2', h2'', e2, e3] at hw ⊢
  simp only [Bool.false_and, Bool.true_and, Bool.and_true, if_true, if_false, Bool.false_eq_true] at hw ⊢
  split
  · rfl
  · rename_i hn; rw [if_neg hn] at hw; cases hw

/-- A point. -/
def pt (c : Nat) : Prop := c < 55296 ∨ (57344 ≤ c ∧ c ≤ 1114111)

theorem pt_valid (c : Nat) (h : pt c) : Utf8.valid (c : Int) = true := by
  unfold pt at h
  unfold Utf8.valid
  rcases h with h | h
  · simp; omega
  · simp; omega

theorem enc_eq (c : Nat) (h : pt c) : Utf8.encode (c : Int) =
    if c < 0x80 then ⟨#[UInt8.ofNat c]⟩
    else if c < 0x800 then ⟨#[UInt8.ofNat (0xC0 + c / 64), UInt8.ofNat (0x80 + c % 64)]⟩
    else if c < 0x10000 then ⟨#[UInt8.ofNat (0xE0 + c / 4096), UInt8.ofNat (0x80 + c / 64 % 64), UInt8.ofNat (0x80 + c % 64)]⟩
    else ⟨#[UInt8.ofNat (0xF0 + c / 262144), UInt8.ofNat (0x80 + c / 4096 % 64), UInt8.ofNat (0x80 + c / 64 % 64), UInt8.ofNat (0x80 + c % 64)]⟩ := by
  unfold Utf8.encode
  simp only [pt_valid c h, if_true, Int.toNat_natCast]

/-- A character's bytes, by its width. -/
theorem enc_size (c : Nat) (h : pt c) : (Utf8.encode (c : Int)).size = if c < 128 then 1 else if c < 2048 then 2 else if c < 65536 then 3 else 4 := by
  rw [enc_eq c h]
  repeat' split
  all_goals rfl

theorem enc_b0 (c : Nat) (h : pt c) : by8 (Utf8.encode (c : Int)) 0 = if c < 128 then c else if c < 2048 then 192 + c / 64 else if c < 65536 then 224 + c / 4096 else 240 + c / 262144 := by
  rw [enc_eq c h]
  unfold pt at h
  repeat' split
  all_goals (show (UInt8.ofNat _).toNat = _; simp; omega)

theorem enc_b1 (c : Nat) (h : pt c) (h2 : 128 ≤ c) : by8 (Utf8.encode (c : Int)) 1 = if c < 2048 then 128 + c % 64 else if c < 65536 then 128 + c / 64 % 64 else 128 + c / 4096 % 64 := by
  rw [enc_eq c h, if_neg (by omega)]
  repeat' split
  all_goals (show (UInt8.ofNat _).toNat = _; simp; omega)

theorem enc_b2 (c : Nat) (h : pt c) (h2 : 2048 ≤ c) : by8 (Utf8.encode (c : Int)) 2 = if c < 65536 then 128 + c % 64 else 128 + c / 64 % 64 := by
  rw [enc_eq c h, if_neg (by omega), if_neg (by omega)]
  repeat' split
  all_goals (show (UInt8.ofNat _).toNat = _; simp; omega)

theorem enc_b3 (c : Nat) (h : pt c) (h2 : 65536 ≤ c) : by8 (Utf8.encode (c : Int)) 3 = 128 + c % 64 := by
  rw [enc_eq c h, if_neg (by omega), if_neg (by omega), if_neg (by omega)]
  show (UInt8.ofNat _).toNat = _
  simp; omega

theorem ct_mk (n : Nat) : ct (some (128 + n % 64)) = true := by unfold ct; simp; omega
theorem vv_mk (n : Nat) : vv (some (128 + n % 64)) = n % 64 := by unfold vv; simp; omega

theorem ob_in (s : ByteArray) (i : Nat) (h : i < s.size) : ob s i = some (by8 s i) := by unfold ob; rw [if_pos h]

theorem enc_pos (c : Nat) (h : pt c) : 0 < (Utf8.encode (c : Int)).size := by
  rw [enc_size c h]; repeat' split
  all_goals omega

theorem m2 (c : Nat) (h : c < 2048) : (192 + c / 64) % 32 * 64 + c % 64 = c := by omega
theorem m3 (c : Nat) (h : c < 65536) : (224 + c / 4096) % 16 * 4096 + c / 64 % 64 * 64 + c % 64 = c := by omega
theorem m4 (c : Nat) (h : c ≤ 1114111) : (240 + c / 262144) % 8 * 262144 + c / 4096 % 64 * 4096 + c / 64 % 64 * 64 + c % 64 = c := by omega

/-- What a point's bytes begin. -/
theorem dec_enc (c : Nat) (h : pt c) (x : ByteArray) : Utf8.decode (Utf8.encode (c : Int) ++ x) 0 = (c, (Utf8.encode (c : Int)).size) := by
  have hz := enc_size c h
  have g0 := enc_b0 c h
  have h' := h
  unfold pt at h'
  rw [decode_eq, by8_app, if_pos (enc_pos c h)]
  by_cases h1 : c < 128
  · rw [if_pos h1] at hz g0
    rw [g0, hz]
    unfold D
    rw [if_pos h1]
  · have g1 := enc_b1 c h (by omega)
    rw [if_neg h1] at hz g0
    by_cases h2 : c < 2048
    · rw [if_pos h2] at hz g0 g1
      rw [g0, hz, ob_app, if_pos (by omega), ob_in _ _ (by omega), g1]
      rw [D_v2 _ _ _ _ (by omega) (ct_mk _) (by rw [vv_mk, m2 c h2]; omega), vv_mk, m2 c h2]
    · have g2 := enc_b2 c h (by omega)
      rw [if_neg h2] at hz g0 g1
      by_cases h3 : c < 65536
      · rw [if_pos h3] at hz g0 g1 g2
        rw [g0, hz, ob_app, if_pos (by omega), ob_in _ _ (by omega), g1, ob_app, if_pos (by omega), ob_in _ _ (by omega), g2]
        rw [D_v3 _ _ _ _ (by omega) (ct_mk _) (ct_mk _) (by rw [vv_mk, vv_mk, m3 c h3]; omega) (by rw [vv_mk, vv_mk, m3 c h3]; omega), vv_mk, vv_mk, m3 c h3]
      · have g3 := enc_b3 c h (by omega)
        rw [if_neg h3] at hz g0 g1 g2
        rw [g0, hz, ob_app, if_pos (by omega), ob_in _ _ (by omega), g1, ob_app, if_pos (by omega), ob_in _ _ (by omega), g2, ob_app, if_pos (by omega), ob_in _ _ (by omega), g3]
        rw [D_v4 _ _ _ _ (by omega) (ct_mk _) (ct_mk _) (ct_mk _) (by rw [vv_mk, vv_mk, vv_mk, m4 c (by omega)]; omega) (by rw [vv_mk, vv_mk, vv_mk, m4 c (by omega)]; omega), vv_mk, vv_mk, vv_mk, m4 c (by omega)]


/-- The point of a character is a point. -/
theorem dp_pt (s : ByteArray) (i : Nat) : pt (dp s i) := by
  unfold dp pt
  rw [decode_eq]
  have hv1 := vv_lt (ob s (i + 1))
  have hv2 := vv_lt (ob s (i + 2))
  rcases D_ways (by8 s i) (ob s (i + 1)) (ob s (i + 2)) (ob s (i + 3)) with h1 | ⟨h1, h2⟩ | ⟨_, _, h2, _⟩ | ⟨_, _, _, h2, _⟩ | ⟨_, _, _, _, h2⟩
  · rw [h1]; simp
  · rw [h2]; left; show by8 s i < _; omega
  · obtain ⟨q1, q2, q3⟩ := (D_w2 _ _ _ _).1 h2
    rw [D_v2 _ _ _ _ q1 q2 q3]; left; show by8 s i % 32 * 64 + _ < _; omega
  · obtain ⟨q1, q2, q3, q4, q5⟩ := (D_w3 _ _ _ _).1 h2
    rw [D_v3 _ _ _ _ q1 q2 q3 q4 q5]
    show (by8 s i % 16 * 4096 + _ + _ < _ ∨ _ ≤ by8 s i % 16 * 4096 + _ + _ ∧ by8 s i % 16 * 4096 + _ + _ ≤ _)
    omega
  · obtain ⟨q1, q2, q3, q4, q5, q6⟩ := (D_w4 _ _ _ _).1 h2
    rw [D_v4 _ _ _ _ q1 q2 q3 q4 q5 q6]
    right
    exact ⟨Nat.le_trans (by omega) q5, q6⟩

theorem k1 (b v : Nat) (hb : b / 32 = 6) (hv : v / 64 = 2) : 192 + (b % 32 * 64 + v % 64) / 64 = b ∧ 128 + (b % 32 * 64 + v % 64) % 64 = v ∧ b % 32 * 64 + v % 64 < 2048 := by omega
theorem k2 (b v u : Nat) (hb : b / 16 = 14) (hv : v / 64 = 2) (hu : u / 64 = 2) : 224 + (b % 16 * 4096 + v % 64 * 64 + u % 64) / 4096 = b ∧ 128 + (b % 16 * 4096 + v % 64 * 64 + u % 64) / 64 % 64 = v ∧ 128 + (b % 16 * 4096 + v % 64 * 64 + u % 64) % 64 = u ∧ b % 16 * 4096 + v % 64 * 64 + u % 64 < 65536 := by omega
theorem k3 (b v u t : Nat) (hb : b / 8 = 30) (hv : v / 64 = 2) (hu : u / 64 = 2) (ht : t / 64 = 2) : 240 + (b % 8 * 262144 + v % 64 * 4096 + u % 64 * 64 + t % 64) / 262144 = b ∧ 128 + (b % 8 * 262144 + v % 64 * 4096 + u % 64 * 64 + t % 64) / 4096 % 64 = v ∧ 128 + (b % 8 * 262144 + v % 64 * 4096 + u % 64 * 64 + t % 64) / 64 % 64 = u ∧ 128 + (b % 8 * 262144 + v % 64 * 4096 + u % 64 * 64 + t % 64) % 64 = t := by omega

theorem vv_ob {s : ByteArray} {i : Nat} (h : ct (ob s i) = true) : vv (ob s i) = by8 s i % 64 ∧ by8 s i / 64 = 2 := by
  obtain ⟨b, hb, hb2⟩ := ct_some h
  obtain ⟨g1, g2⟩ := ob_some hb
  rw [hb, g2]
  exact ⟨rfl, hb2⟩

theorem by8_ext' (s : ByteArray) (a b i : Nat) (h : a + i < b) : by8 (s.extract a b) i = by8 s (a + i) := by
  unfold by8
  rw [get_ext, if_pos h]

/-- A good character's bytes are those of its point. -/
theorem enc_dec (s : ByteArray) (i : Nat) (hi : i < s.size) (hg : gd s i = true) : Utf8.encode (dp s i : Int) = s.extract i (i + dw s i) := by
  have hw := dw_facts s i hi
  have hp := dp_pt s i
  have hz := enc_size _ hp
  have g0 := enc_b0 _ hp
  have g1 := enc_b1 _ hp
  have g2 := enc_b2 _ hp
  have g3 := enc_b3 _ hp
  have hzx := size_ext s i (i + dw s i) hw.2.2
  rw [gd_iff] at hg
  generalize hd : dw s i = d at *
  generalize hc : dp s i = c at *
  have hde : Utf8.decode s i = (c, d) := by rw [← hd, ← hc]; rfl
  rw [hde] at hg
  rw [decode_eq] at hde
  rcases D_ways (by8 s i) (ob s (i + 1)) (ob s (i + 2)) (ob s (i + 3)) with h1 | ⟨h1, h2⟩ | ⟨_, _, h2, _⟩ | ⟨_, _, _, h2, _⟩ | ⟨_, _, _, _, h2⟩
  · rw [hde] at h1; rw [h1] at hg; exact absurd hg not_gD
  · rw [hde] at h2
    cases h2
    rw [if_pos h1] at hz g0
    refine by8_ext _ _ (by omega) (fun k hk => ?_)
    obtain rfl : k = 0 := by omega
    rw [g0, by8_ext' s i _ 0 (by omega), Nat.add_zero]
  · obtain ⟨q1, q2, q3⟩ := (D_w2 _ _ _ _).1 h2
    obtain ⟨r1, r2⟩ := vv_ob q2
    rw [D_v2 _ _ _ _ q1 q2 q3, r1] at hde
    rw [r1] at q3
    cases hde
    obtain ⟨e1, e2, e3⟩ := k1 _ _ q1 r2
    rw [if_neg (by omega), if_pos e3] at hz g0
    have g1 := g1 q3
    rw [if_pos e3] at g1
    refine by8_ext _ _ (by omega) (fun k hk => ?_)
    rcases (show k = 0 ∨ k = 1 by omega) with rfl | rfl
    · rw [g0, by8_ext' s i _ 0 (by omega), e1, Nat.add_zero]
    · rw [g1, by8_ext' s i _ 1 (by omega), e2]
  · obtain ⟨q1, q2, q3, q4, q5⟩ := (D_w3 _ _ _ _).1 h2
    obtain ⟨r1, r2⟩ := vv_ob q2
    obtain ⟨s1, s2⟩ := vv_ob q3
    rw [D_v3 _ _ _ _ q1 q2 q3 q4 q5, r1, s1] at hde
    rw [r1, s1] at q4
    cases hde
    obtain ⟨e1, e2, e3, e4⟩ := k2 _ _ _ q1 r2 s2
    rw [if_neg (by omega), if_neg (by omega), if_pos e4] at hz g0
    have g1 := g1 (by omega)
    rw [if_neg (by omega), if_pos e4] at g1
    have g2 := g2 q4
    rw [if_pos e4] at g2
    refine by8_ext _ _ (by omega) (fun k hk => ?_)
    rcases (show k = 0 ∨ k = 1 ∨ k = 2 by omega) with rfl | rfl | rfl
    · rw [g0, by8_ext' s i _ 0 (by omega), e1, Nat.add_zero]
    · rw [g1, by8_ext' s i _ 1 (by omega), e2]
    · rw [g2, by8_ext' s i _ 2 (by omega), e3]
  · obtain ⟨q1, q2, q3, q4, q5, q6⟩ := (D_w4 _ _ _ _).1 h2
    obtain ⟨r1, r2⟩ := vv_ob q2
    obtain ⟨s1, s2⟩ := vv_ob q3
    obtain ⟨t1, t2⟩ := vv_ob q4
    rw [D_v4 _ _ _ _ q1 q2 q3 q4 q5 q6, r1, s1, t1] at hde
    rw [r1, s1, t1] at q5
    cases hde
    obtain ⟨e1, e2, e3, e4⟩ := k3 _ _ _ _ q1 r2 s2 t2
    rw [if_neg (by omega), if_neg (by omega), if_neg (by omega)] at hz g0
    have g1 := g1 (by omega)
    rw [if_neg (by omega), if_neg (by omega)] at g1
    have g2 := g2 (by omega)
    rw [if_neg (by omega)] at g2
    have g3 := g3 q5
    refine by8_ext _ _ (by omega) (fun k hk => ?_)
    rcases (show k = 0 ∨ k = 1 ∨ k = 2 ∨ k = 3 by omega) with rfl | rfl | rfl | rfl
    · rw [g0, by8_ext' s i _ 0 (by omega), e1, Nat.add_zero]
    · rw [g1, by8_ext' s i _ 1 (by omega), e2]
    · rw [g2, by8_ext' s i _ 2 (by omega), e3]
    · rw [g3, by8_ext' s i _ 3 (by omega), e4]

/-! ### Texts of points -/

end Go.Proofs.YtnmjkgjhjnpijaaDoor
