import Derived.Test.YtgjbkdnefbnclaaXb
import Derived.Maps.AppendAt
import Derived.Deep.RegionHeld3
set_option linter.unusedVariables false
set_option linter.unusedSimpArgs false
namespace Go.Proofs.Ytgjbkdnefbnclaa
open Go.RowKit

def Keep3 (w w' : World) : Prop := ∀ (k : Nat) (L : Array Value), w.heap[k]? = some (.cells L 3 (0, 0)) → w'.heap[k]? = some (.cells L 3 (0, 0))
def ApartV (v u : Value) : Prop := ∀ g, v.ownBlock = some g → u.ownBlock ≠ some g

/-- What a call on both leaves. -/
def OneP (B : Nat) (w : World) (m : Nat) (X Y : List Value) (vt vw : Value) (e : Ending) (w' : World) : Prop :=
  (e = .returned (.tuple #[vt, vw, .bool true]) ∧ Below w.heap.size w w') ∨
  (∃ vt' vw' g l u, e = .returned (.tuple #[vt', vw', .bool true]) ∧ w.heap.size ≤ g ∧ l.length ≤ 2147483647 ∧ w'.ownsRow B 24 1 vt' (m + 1) (X ++ [tv (g, l.length)]) ∧ w'.ownsRow B 24 1 vw' (m + 1) (Y ++ [u]) ∧
    w'.heap[g]? = some (.cells (ivs l).toArray 3 (0, 0)) ∧ w'.ownsRow B 3 1 u l.length (ivs l) ∧ Keep3 w w' ∧ Below B w w' ∧ ApartV vt' vw')

def nxt (s : ByteArray) (a : Int) : Int × Int × Bool := if 0 ≤ a ∧ a < s.size then ((dp s a.toNat : Int), (dw s a.toNat : Int), gd s a.toNat) else (0, 0, false)
def lst (s : ByteArray) (a : Int) : Int × Int × Bool := if 1 ≤ a ∧ a ≤ s.size then (((ls (s.extract 0 a.toNat)).1 : Int), ((ls (s.extract 0 a.toNat)).2.1 : Int), (ls (s.extract 0 a.toNat)).2.2) else (0, 0, false)

theorem next_all (s : ByteArray) (a : Int) (w : World) (hs : s.size ≤ 2147483647) :
    Calls Try.prog 15 #[.string s, .int .i64 a] w fun e w' => e = .returned (.tuple #[.int .i64 (nxt s a).1, .int .i64 (nxt s a).2.1, .bool (nxt s a).2.2]) ∧ Below w.heap.size w w' := by
  unfold nxt
  by_cases h : 0 ≤ a ∧ a < s.size
  · rw [if_pos h]; exact next_in s a w (by unfold maxLen; omega) h.1 h.2
  · rw [if_neg h]; exact next_out s a w (by unfold maxLen; omega) (by omega)
theorem rnext_all (s : ByteArray) (a : Int) (w : World) (hs : s.size ≤ 2147483647) :
    Calls Try.prog 21 #[.string s, .int .i64 a] w fun e w' => e = .returned (.tuple #[.int .i64 (nxt s a).1, .int .i64 (nxt s a).2.1, .bool (nxt s a).2.2]) ∧ Below w.heap.size w w' := by
  unfold nxt
  by_cases h : 0 ≤ a ∧ a < s.size
  · rw [if_pos h]
    refine (rnext_in s a w hs h.1 h.2).mono ?_
    rintro e w' ⟨rfl, rfl⟩
    exact ⟨rfl, Below.refl _ _⟩
  · rw [if_neg h]
    refine (rnext_out s a w (by unfold maxLen; omega) (by omega)).mono ?_
    rintro e w' ⟨rfl, rfl⟩
    exact ⟨rfl, Below.refl _ _⟩
theorem last_all (s : ByteArray) (a : Int) (w : World) (hs : s.size ≤ 2147483647) :
    Calls Try.prog 18 #[.string s, .int .i64 a] w fun e w' => e = .returned (.tuple #[.int .i64 (lst s a).1, .int .i64 (lst s a).2.1, .bool (lst s a).2.2]) ∧ Below w.heap.size w w' := by
  unfold lst
  by_cases h : 1 ≤ a ∧ a ≤ s.size
  · rw [if_pos h]; exact last_in s a w hs h.1 h.2
  · rw [if_neg h]; exact last_out s a w (by unfold maxLen; omega) (by omega)
theorem rlast_all (s : ByteArray) (a : Int) (w : World) (hs : s.size ≤ 2147483647) :
    Calls Try.prog 22 #[.string s, .int .i64 a] w fun e w' => e = .returned (.tuple #[.int .i64 (lst s a).1, .int .i64 (lst s a).2.1, .bool (lst s a).2.2]) ∧ Below w.heap.size w w' := by
  unfold lst
  by_cases h : 1 ≤ a ∧ a ≤ s.size
  · rw [if_pos h]; exact rlast_in s a w hs h.1 h.2
  · rw [if_neg h]; exact rlast_out s a w (by unfold maxLen; omega) (by omega)

theorem box4 {w w1 : World} {c0 c1 c2 c3 : Value} {k : Nat} (hk : w.heap.size < k) (hb : Below k (w.alloc (.cells #[c0, c1, c2, c3] 26)) w1) :
    w1.cell? ⟨w.heap.size, 1, none⟩ = some c1 ∧ w1.cell? ⟨w.heap.size, 2, none⟩ = some c2 ∧ w1.cell? ⟨w.heap.size, 3, none⟩ = some c3 ∧ Below w.heap.size w w1 := by
  refine ⟨?_, ?_, ?_, ?_⟩
  · rw [hb.cell (p := ⟨w.heap.size, 1, none⟩) hk]; simp
  · rw [hb.cell (p := ⟨w.heap.size, 2, none⟩) hk]; simp
  · rw [hb.cell (p := ⟨w.heap.size, 3, none⟩) hk]; simp
  · exact ((Below.refl _ _).alloc (Nat.le_refl _) _).trans (hb.mono (by omega))

theorem box4n {W w2 : World} {g : Nat} {c1 c2 c3 : Value} (hb : Below W.heap.size W w2) (h1 : W.cell? ⟨g, 1, none⟩ = some c1) (h2 : W.cell? ⟨g, 2, none⟩ = some c2) (h3 : W.cell? ⟨g, 3, none⟩ = some c3) :
    w2.cell? ⟨g, 1, none⟩ = some c1 ∧ w2.cell? ⟨g, 2, none⟩ = some c2 ∧ w2.cell? ⟨g, 3, none⟩ = some c3 :=
  ⟨(hb.cell (p := ⟨g, 1, none⟩) (World.block_lt_of_cell? W _ h1)).trans h1, (hb.cell (p := ⟨g, 2, none⟩) (World.block_lt_of_cell? W _ h2)).trans h2, (hb.cell (p := ⟨g, 3, none⟩) (World.block_lt_of_cell? W _ h3)).trans h3⟩

set_option maxRecDepth 100000 in
set_option maxHeartbeats 1000000 in
theorem one_1 (p n at' : Int) (g : Bool) (s : ByteArray) (L vt vw : Value) (w : World)
    (k1 : ∀ w, Calls Try.prog 15 #[.string s, .int .i64 at'] w fun e w' => e = .returned (.tuple #[.int .i64 p, .int .i64 n, .bool g]) ∧ Below w.heap.size w w')
    (k2 : ∀ w, Calls Try.prog 21 #[.string s, .int .i64 at'] w fun e w' => e = .returned (.tuple #[.int .i64 p, .int .i64 n, .bool g]) ∧ Below w.heap.size w w') :
    Calls Try.prog 9 #[.agg #[.int .i64 1, .string s, .int .i64 at', L], vt, vw] w fun e w' => e = .returned (.tuple #[vt, vw, .bool true]) ∧ Below w.heap.size w w' := by
  have K1 : Hid _ := k1
  have K2 : Hid _ := k2
  clear k1 k2
  have e1 : (p == p) = true := by simp
  have e2 : (n == n) = true := by simp
  have e3 : (g == g) = true := by simp
  go_enter Try.func9, Try.ntmps9
  go_wp2_with fail
  refine (K1.out _).mono ?_
  rintro e w1 ⟨rfl, hb1⟩
  obtain ⟨q1, q2, q3, hb⟩ := box4 (by simp) hb1
  clear hb1
  go_wp2_with fail
  refine (K2.out _).mono ?_
  rintro e w2 ⟨rfl, hb2⟩
  have hb' := hb.trans (hb2.mono hb.size)
  clear hb hb2 q1 q2 q3
  go_wp2_with fail
  go_ret3
  exact ⟨rfl, hb'⟩

set_option maxRecDepth 100000 in
set_option maxHeartbeats 1000000 in
theorem one_2 (p n at' : Int) (g : Bool) (s : ByteArray) (L vt vw : Value) (w : World)
    (k1 : ∀ w, Calls Try.prog 18 #[.string s, .int .i64 at'] w fun e w' => e = .returned (.tuple #[.int .i64 p, .int .i64 n, .bool g]) ∧ Below w.heap.size w w')
    (k2 : ∀ w, Calls Try.prog 22 #[.string s, .int .i64 at'] w fun e w' => e = .returned (.tuple #[.int .i64 p, .int .i64 n, .bool g]) ∧ Below w.heap.size w w') :
    Calls Try.prog 9 #[.agg #[.int .i64 2, .string s, .int .i64 at', L], vt, vw] w fun e w' => e = .returned (.tuple #[vt, vw, .bool true]) ∧ Below w.heap.size w w' := by
  have K1 : Hid _ := k1
  have K2 : Hid _ := k2
  clear k1 k2
  have e1 : (p == p) = true := by simp
  have e2 : (n == n) = true := by simp
  have e3 : (g == g) = true := by simp
  go_enter Try.func9, Try.ntmps9
  go_wp2_with fail
  refine (K1.out _).mono ?_
  rintro e w1 ⟨rfl, hb1⟩
  obtain ⟨q1, q2, q3, hb⟩ := box4 (by simp) hb1
  clear hb1
  go_wp2_with fail
  refine (K2.out _).mono ?_
  rintro e w2 ⟨rfl, hb2⟩
  have hb' := hb.trans (hb2.mono hb.size)
  clear hb hb2 q1 q2 q3
  go_wp2_with fail
  go_ret3
  exact ⟨rfl, hb'⟩

set_option maxRecDepth 100000 in
set_option maxHeartbeats 1000000 in
theorem one_0 (kind at' : Int) (s : ByteArray) (L vt vw : Value) (w : World) (hk : kind < 1 ∨ 8 < kind) :
    Calls Try.prog 9 #[.agg #[.int .i64 kind, .string s, .int .i64 at', L], vt, vw] w fun e w' => e = .returned (.tuple #[vt, vw, .bool true]) ∧ Below w.heap.size w w' := by
  have e1 : (kind == 1) = false := by simp; omega
  have e2 : (kind == 2) = false := by simp; omega
  have e3 : (kind == 3) = false := by simp; omega
  have e4 : (kind == 4) = false := by simp; omega
  have e5 : (kind == 5) = false := by simp; omega
  have e6 : (kind == 6) = false := by simp; omega
  have e7 : (kind == 7) = false := by simp; omega
  have e8 : (kind == 8) = false := by simp; omega
  clear hk
  go_enter Try.func9, Try.ntmps9
  go_wp2_with fail
  go_ret3
  exact ⟨rfl, (Below.refl _ _).alloc (Nat.le_refl _) _⟩

theorem keepS {w W w1 : World} {c : Value} {g : Nat} (h : W.cell? ⟨g, 1, none⟩ = some c ∧ Below w.heap.size w W) (hb : Below W.heap.size W w1) : w1.cell? ⟨g, 1, none⟩ = some c ∧ Below w.heap.size w w1 :=
  ⟨(hb.cell (p := ⟨g, 1, none⟩) (World.block_lt_of_cell? W _ h.1)).trans h.1, h.2.trans (hb.mono h.2.size)⟩

theorem keepR {w W : World} {c : Value} {g : Nat} (h : W.cell? ⟨g, 1, none⟩ = some c ∧ Below w.heap.size w W) : Below w.heap.size w W := h.2

set_option maxRecDepth 100000 in
set_option maxHeartbeats 1000000 in
theorem one_6 (n at' : Int) (s : ByteArray) (L vt vw : Value) (w : World)
    (k1 : ∀ w, Calls Try.prog 16 #[.string s] w fun e w' => e = .returned (.int .i64 n) ∧ Below w.heap.size w w')
    (k2 : ∀ w, Calls Try.prog 28 #[.string s] w fun e w' => e = .returned (.int .i64 n) ∧ Below w.heap.size w w') :
    Calls Try.prog 9 #[.agg #[.int .i64 6, .string s, .int .i64 at', L], vt, vw] w fun e w' => e = .returned (.tuple #[vt, vw, .bool true]) ∧ Below w.heap.size w w' := by
  have K1 : Hid _ := k1
  have K2 : Hid _ := k2
  clear k1 k2
  have e1 : (n == n) = true := by simp
  go_enter Try.func9, Try.ntmps9
  go_wp2_with fail
  go_region_held3 (fun w' => w'.cell? ⟨w.heap.size, 1, none⟩ = some (.string s) ∧ Below w.heap.size w w') (first | (exact keepS (by assumption) (by assumption)) | (exact ⟨by simp, ((Below.refl _ _).alloc (Nat.le_refl _) _).drew⟩) | go_keep) (first | (go_at_call 16; refine (K1.out _).mono ?_; rintro e w1 ⟨rfl, hb1⟩) | (go_at_call 28; refine (K2.out _).mono ?_; rintro e w1 ⟨rfl, hb1⟩))
  all_goals
    go_wp2_with fail
    go_ret3
    exact ⟨rfl, keepR (c := .string s) (g := w.heap.size) (by first | assumption | (exact keepS (by assumption) (by assumption)))⟩

set_option maxRecDepth 100000 in
set_option maxHeartbeats 1000000 in
theorem one_7 (n : Bool) (at' : Int) (s : ByteArray) (L vt vw : Value) (w : World)
    (k1 : ∀ w, Calls Try.prog 17 #[.string s] w fun e w' => e = .returned (.bool n) ∧ Below w.heap.size w w')
    (k2 : ∀ w, Calls Try.prog 29 #[.string s] w fun e w' => e = .returned (.bool n) ∧ Below w.heap.size w w') :
    Calls Try.prog 9 #[.agg #[.int .i64 7, .string s, .int .i64 at', L], vt, vw] w fun e w' => e = .returned (.tuple #[vt, vw, .bool true]) ∧ Below w.heap.size w w' := by
  have K1 : Hid _ := k1
  have K2 : Hid _ := k2
  clear k1 k2
  have e1 : (n == n) = true := by simp
  go_enter Try.func9, Try.ntmps9
  go_wp2_with fail
  go_region_held3 (fun w' => w'.cell? ⟨w.heap.size, 1, none⟩ = some (.string s) ∧ Below w.heap.size w w') (first | (exact keepS (by assumption) (by assumption)) | (exact ⟨by simp, ((Below.refl _ _).alloc (Nat.le_refl _) _).drew⟩) | go_keep) (first | (go_at_call 17; refine (K1.out _).mono ?_; rintro e w1 ⟨rfl, hb1⟩) | (go_at_call 29; refine (K2.out _).mono ?_; rintro e w1 ⟨rfl, hb1⟩))
  all_goals
    go_wp2_with fail
    go_ret3
    exact ⟨rfl, keepR (c := .string s) (g := w.heap.size) (by first | assumption | (exact keepS (by assumption) (by assumption)))⟩

set_option maxRecDepth 100000 in
set_option maxHeartbeats 1000000 in
theorem one_8 (n at' : Int) (s : ByteArray) (L vt vw : Value) (w : World)
    (k1 : ∀ w, Calls Try.prog 20 #[.string s] w fun e w' => e = .returned (.int .i64 n) ∧ Below w.heap.size w w')
    (k2 : ∀ w, Calls Try.prog 30 #[.string s] w fun e w' => e = .returned (.int .i64 n) ∧ Below w.heap.size w w') :
    Calls Try.prog 9 #[.agg #[.int .i64 8, .string s, .int .i64 at', L], vt, vw] w fun e w' => e = .returned (.tuple #[vt, vw, .bool true]) ∧ Below w.heap.size w w' := by
  have K1 : Hid _ := k1
  have K2 : Hid _ := k2
  clear k1 k2
  have e1 : (n == n) = true := by simp
  go_enter Try.func9, Try.ntmps9
  go_wp2_with fail
  go_region_held3 (fun w' => w'.cell? ⟨w.heap.size, 1, none⟩ = some (.string s) ∧ Below w.heap.size w w') (first | (exact keepS (by assumption) (by assumption)) | (exact ⟨by simp, ((Below.refl _ _).alloc (Nat.le_refl _) _).drew⟩) | go_keep) (first | (go_at_call 20; refine (K1.out _).mono ?_; rintro e w1 ⟨rfl, hb1⟩) | (go_at_call 30; refine (K2.out _).mono ?_; rintro e w1 ⟨rfl, hb1⟩))
  all_goals
    go_wp2_with fail
    go_ret3
    exact ⟨rfl, keepR (c := .string s) (g := w.heap.size) (by first | assumption | (exact keepS (by assumption) (by assumption)))⟩

end Go.Proofs.Ytgjbkdnefbnclaa
