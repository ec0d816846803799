import Derived.Test.YtcokccfbeonlnaaDoorHn
set_option linter.unusedVariables false
set_option linter.unusedSimpArgs false
namespace Go.Proofs.YtcokccfbeonlnaaDoor
open Go.RowKit

/-- Pieces in a block of their own. -/
theorem lay_blk {w : World} {b : Nat} {l : List Dc} {vs : Array Value} (h : w.heap[b]? = some (.cells vs 26 (0, 0))) (hv : vs.toList = dcs l) (ht : ∀ d ∈ l, d.t.size ≤ 9223372036854775807) (hl : l.length ≤ 9223372036854775807) : Lay w (some ⟨b, 0, none⟩) l := by
  have hvs : vs.size = l.length * 5 := by rw [← Array.length_toList, hv, dcs_len]
  have hr : w.ownsRow 0 26 5 (.slice (some ⟨b, 0, none⟩) l.length l.length) l.length (dcs l) :=
    ⟨dcs_len l, .inr ⟨b, l.length, vs, rfl, Nat.zero_le _, h, Nat.le_refl _, hl, hvs, by rw [hv, List.take_of_length_le (by rw [dcs_len]; exact Nat.le_refl _)]⟩⟩
  obtain ⟨ao, cap, e, _, hL, _⟩ := Lay.row hr ht
  simp only [Value.slice.injEq] at e
  obtain ⟨rfl, _, _⟩ := e
  exact hL

theorem ptext_any (s : ByteArray) (w : World) : Calls Tryd.prog 18 #[.string s] w fun e w' => e = .returned (.agg #[.int .u8 1, .string s, .int .i64 0, .int .i64 0, .bool false]) ∧ Below w.heap.size w w' := by
  go_enter Tryd.func18, Tryd.ntmps18
  go_wp2_with fail
  refine bodyPost_ret (v := .agg #[.int .u8 1, .string s, .int .i64 0, .int .i64 0, .bool false]) (by simp [results, Tryd.f18, go_sem]) rfl ?_
  exact ⟨rfl, (Below.refl _ _).alloc (Nat.le_refl _) _⟩
theorem pgap_any (n : Int) (w : World) : Calls Tryd.prog 17 #[.int .i64 n] w fun e w' => e = .returned (.agg #[.int .u8 3, .string ⟨#[]⟩, .int .i64 n, .int .i64 0, .bool false]) ∧ Below w.heap.size w w' := by
  go_enter Tryd.func17, Tryd.ntmps17
  go_wp2_with fail
  refine bodyPost_ret (v := .agg #[.int .u8 3, .string ⟨#[]⟩, .int .i64 n, .int .i64 0, .bool false]) (by simp [results, Tryd.f17, go_sem]) rfl ?_
  exact ⟨rfl, (Below.refl _ _).alloc (Nat.le_refl _) _⟩

def dT (l : List UInt8) : Dc := ⟨1, ⟨l.toArray⟩, 0, 0, false⟩
def dK (k : Int) : Dc := ⟨k, bE, 0, 0, false⟩
def aw1 (e : Bool) : List Dc := [⟨6, bE, 0, 2, e⟩, dT [97, 97, 97], ⟨3, bE, 1, 0, false⟩, dT [98, 98, 98], ⟨3, bE, 1, 0, false⟩, dT [99, 99, 99], dK 7]
def aw3 : List Dc := [dT [97], dK 4, dK 5, dK 5, dT [98]]
theorem aw1_a : wprn 10 (aw1 false) = (⟨#[97, 97, 97, 32, 98, 98, 98, 10, 32, 32, 99, 99, 99]⟩, 0) := by decide +kernel
theorem aw1_b : wprn 10 (aw1 true) = (⟨#[97, 97, 97, 10, 32, 32, 98, 98, 98, 10, 32, 32, 99, 99, 99]⟩, 0) := by decide +kernel
theorem aw3_a : wprn 10 aw3 = (⟨#[97, 10, 10, 98]⟩, 0) := by decide +kernel
theorem aw4_a : wprn 0 [] = (⟨#[]⟩, 1) := by decide +kernel
theorem aw5_a : wprn 10 [dK 7] = (⟨#[]⟩, 70) := by decide +kernel

/-- Print of pieces that were just laid. -/
theorem print_new (w W : World) (hT : Tab w) (hb : Below w.heap.size w W) (n : Int) (l : List Dc) (vs : Array Value) (hv : vs.toList = dcs l) (ht : ∀ d ∈ l, d.t.size ≤ 9223372036854775807) (hl : l.length ≤ 100000000) (hU : uds l ≤ 268435456) (t : ByteArray) (z : Int) (hp : wprn n l = (t, z)) :
    Calls Tryd.prog 10 #[.int .i64 n, .slice (some ⟨W.heap.size, 0, none⟩) l.length l.length] (W.alloc (.cells vs 26)) fun e w' => e = .returned (.tuple #[.string t, .int .i64 z]) ∧ Below w.heap.size w w' := by
  have hb2 : Below w.heap.size w (W.alloc (.cells vs 26)) := hb.alloc hb.size _
  have := print_any n (some ⟨W.heap.size, 0, none⟩) l l.length (W.alloc (.cells vs 26)) (lay_blk (new_at _ _) hv ht (by omega)) (hT.below hb2) hl hU
  rw [hp] at this
  refine this.mono ?_
  rintro e w' ⟨rfl, hb3⟩
  exact ⟨rfl, hb2.trans (hb3.mono hb2.size)⟩

set_option maxHeartbeats 2000000 in
set_option maxRecDepth 100000 in
theorem awake_any (w : World) (hT : Tab w) : Calls Tryd.prog 9 #[] w fun e w' => e = .returned (.bool true) ∧ Below w.heap.size w w' := by
  have KT : Hid (∀ s W, Below w.heap.size w W → Calls Tryd.prog 18 #[.string s] W fun e w' => e = .returned (.agg #[.int .u8 1, .string s, .int .i64 0, .int .i64 0, .bool false]) ∧ Below w.heap.size w w') := fun s W hW => (ptext_any s W).mono fun e w' ⟨h1, h2⟩ => ⟨h1, hW.trans (h2.mono hW.size)⟩
  have KG : Hid (∀ n W, Below w.heap.size w W → Calls Tryd.prog 17 #[.int .i64 n] W fun e w' => e = .returned (.agg #[.int .u8 3, .string ⟨#[]⟩, .int .i64 n, .int .i64 0, .bool false]) ∧ Below w.heap.size w w') := fun s W hW => (pgap_any s W).mono fun e w' ⟨h1, h2⟩ => ⟨h1, hW.trans (h2.mono hW.size)⟩
  have P1 : Hid (∀ W, Below w.heap.size w W → Calls Tryd.prog 10 #[.int .i64 10, .slice (some ⟨W.heap.size, 0, none⟩) 7 7] (W.alloc (.cells #[.int .u8 6, .string ⟨#[]⟩, .int .i64 0, .int .i64 2, .bool false, .int .u8 1, .string ⟨#[97, 97, 97]⟩, .int .i64 0, .int .i64 0, .bool false, .int .u8 3, .string ⟨#[]⟩, .int .i64 1, .int .i64 0, .bool false, .int .u8 1, .string ⟨#[98, 98, 98]⟩, .int .i64 0, .int .i64 0, .bool false, .int .u8 3, .string ⟨#[]⟩, .int .i64 1, .int .i64 0, .bool false, .int .u8 1, .string ⟨#[99, 99, 99]⟩, .int .i64 0, .int .i64 0, .bool false, .int .u8 7, .string ⟨#[]⟩, .int .i64 0, .int .i64 0, .bool false] 26)) fun e w' => e = .returned (.tuple #[.string ⟨#[97, 97, 97, 32, 98, 98, 98, 10, 32, 32, 99, 99, 99]⟩, .int .i64 0]) ∧ Below w.heap.size w w') := fun W hW => print_new w W hT hW 10 (aw1 false) _ rfl (by decide +kernel) (by decide) (by decide +kernel) _ _ aw1_a
  have P2 : Hid (∀ W, Below w.heap.size w W → Calls Tryd.prog 10 #[.int .i64 10, .slice (some ⟨W.heap.size, 0, none⟩) 7 7] (W.alloc (.cells #[.int .u8 6, .string ⟨#[]⟩, .int .i64 0, .int .i64 2, .bool true, .int .u8 1, .string ⟨#[97, 97, 97]⟩, .int .i64 0, .int .i64 0, .bool false, .int .u8 3, .string ⟨#[]⟩, .int .i64 1, .int .i64 0, .bool false, .int .u8 1, .string ⟨#[98, 98, 98]⟩, .int .i64 0, .int .i64 0, .bool false, .int .u8 3, .string ⟨#[]⟩, .int .i64 1, .int .i64 0, .bool false, .int .u8 1, .string ⟨#[99, 99, 99]⟩, .int .i64 0, .int .i64 0, .bool false, .int .u8 7, .string ⟨#[]⟩, .int .i64 0, .int .i64 0, .bool false] 26)) fun e w' => e = .returned (.tuple #[.string ⟨#[97, 97, 97, 10, 32, 32, 98, 98, 98, 10, 32, 32, 99, 99, 99]⟩, .int .i64 0]) ∧ Below w.heap.size w w') := fun W hW => print_new w W hT hW 10 (aw1 true) _ rfl (by decide +kernel) (by decide) (by decide +kernel) _ _ aw1_b
  have P3 : Hid (∀ W, Below w.heap.size w W → Calls Tryd.prog 10 #[.int .i64 10, .slice (some ⟨W.heap.size, 0, none⟩) 5 5] (W.alloc (.cells #[.int .u8 1, .string ⟨#[97]⟩, .int .i64 0, .int .i64 0, .bool false, .int .u8 4, .string ⟨#[]⟩, .int .i64 0, .int .i64 0, .bool false, .int .u8 5, .string ⟨#[]⟩, .int .i64 0, .int .i64 0, .bool false, .int .u8 5, .string ⟨#[]⟩, .int .i64 0, .int .i64 0, .bool false, .int .u8 1, .string ⟨#[98]⟩, .int .i64 0, .int .i64 0, .bool false] 26)) fun e w' => e = .returned (.tuple #[.string ⟨#[97, 10, 10, 98]⟩, .int .i64 0]) ∧ Below w.heap.size w w') := fun W hW => print_new w W hT hW 10 aw3 _ rfl (by decide +kernel) (by decide) (by decide +kernel) _ _ aw3_a
  have P4 : Hid (∀ W, Below w.heap.size w W → Calls Tryd.prog 10 #[.int .i64 0, .slice none 0 0] W fun e w' => e = .returned (.tuple #[.string ⟨#[]⟩, .int .i64 1]) ∧ Below w.heap.size w w') := fun W hW => by
    have := print_any 0 none [] 0 W (fun j d h => by simp at h) (hT.below hW) (by decide) (by decide)
    rw [aw4_a] at this
    exact this.mono fun e w' ⟨h1, h2⟩ => ⟨h1, hW.trans (h2.mono hW.size)⟩
  have P5 : Hid (∀ W, Below w.heap.size w W → Calls Tryd.prog 10 #[.int .i64 10, .slice (some ⟨W.heap.size, 0, none⟩) 1 1] (W.alloc (.cells #[.int .u8 7, .string ⟨#[]⟩, .int .i64 0, .int .i64 0, .bool false] 26)) fun e w' => e = .returned (.tuple #[.string ⟨#[]⟩, .int .i64 70]) ∧ Below w.heap.size w w') := fun W hW => print_new w W hT hW 10 [dK 7] _ rfl (by decide +kernel) (by decide) (by decide +kernel) _ _ aw5_a
  have h0 := Below.refl w.heap.size w
  clear hT
  go_enter Tryd.func9, Tryd.ntmps9
  go_wp2_with (first | (go_at_call 18; refine (KT.out _ _ (by assumption)).mono ?_; rintro e w1 ⟨rfl, hb⟩) | (go_at_call 17; refine (KG.out _ _ (by assumption)).mono ?_; rintro e w1 ⟨rfl, hb⟩))
  refine (P1.out _ (by assumption)).mono ?_
  rintro e w2 ⟨rfl, hb2⟩
  clear P1
  go_wp2_with (first | (go_at_call 18; refine (KT.out _ _ (by assumption)).mono ?_; rintro e w1 ⟨rfl, hb⟩) | (go_at_call 17; refine (KG.out _ _ (by assumption)).mono ?_; rintro e w1 ⟨rfl, hb⟩))
  refine (P2.out _ (by assumption)).mono ?_
  rintro e w3 ⟨rfl, hb3⟩
  clear P2
  go_wp2_with (first | (go_at_call 18; refine (KT.out _ _ (by assumption)).mono ?_; rintro e w1 ⟨rfl, hb⟩) | (go_at_call 17; refine (KG.out _ _ (by assumption)).mono ?_; rintro e w1 ⟨rfl, hb⟩))
  refine (P3.out _ (by assumption)).mono ?_
  rintro e w4 ⟨rfl, hb4⟩
  clear P3
  go_wp2_with fail
  refine (P4.out _ (by assumption)).mono ?_
  rintro e w5 ⟨rfl, hb5⟩
  clear P4
  go_wp2_with fail
  refine (P5.out _ (by assumption)).mono ?_
  rintro e w6 ⟨rfl, hb6⟩
  clear P5
  go_wp2_with fail
  go_ret
  exact ⟨rfl, hb6⟩

theorem names_any (w : World) (hT : Tab w) : Calls Tryd.prog 3 #[] w fun e w' => e = .returned (.bool true) ∧ Below w.heap.size w w' := by
  have HA := awake_any w hT
  clear hT
  go_enter Tryd.func3, Tryd.ntmps3
  go_wp2_with (go_at_call 9; refine HA.mono ?_; rintro e w1 ⟨rfl, hb1⟩)
  go_ret
  exact ⟨rfl, hb1⟩
end Go.Proofs.YtcokccfbeonlnaaDoor
