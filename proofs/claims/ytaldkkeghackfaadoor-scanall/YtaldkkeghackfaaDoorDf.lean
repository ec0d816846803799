import Derived.Test.YtaldkkeghackfaaDoorDc
import Derived.Test.YtaldkkeghackfaaDoorCa
set_option linter.unusedVariables false
set_option linter.unusedSimpArgs false
namespace Go.Proofs.YtaldkkeghackfaaDoor
open Go.RowKit

/-- What a call of All has left: its row's block, and a place behind it. -/
structure It (W : World) (lo hi : Nat) (v : Value) (l : List Tv) (x y z : Int) : Prop where
  row : Rt lo W v l
  up : ∀ k, v.ownBlock = some k → k < hi
  box : Box3 W hi x y z
theorem It.below {W W' : World} {lo hi : Nat} {v : Value} {l : List Tv} {x y z : Int} (h : It W lo hi v l x y z) (hb : Below W.heap.size W W') : It W' lo hi v l x y z := ⟨h.row.below hb, h.up, h.box.below hb⟩
theorem It.kp {S : Nat → Prop} {W W' : World} {lo hi : Nat} {v : Value} {l : List Tv} {x y z : Int} (h : It W lo hi v l x y z) (hb : Kp S W W') (hS : ∀ k, S k → k < lo ∨ hi < k) (hl : lo ≤ hi) : It W' lo hi v l x y z := by
  refine ⟨h.row.kp hb (fun k e hk => ?_), h.up, hb.blk h.box (fun hk => ?_)⟩
  · have h1 := h.up k e
    have h2 := h.row.own k e
    rcases hS k hk with h3 | h3 <;> omega
  · rcases hS hi hk with h3 | h3 <;> omega
theorem It.new {V w' : World} {v : Value} {l : List Tv} (h : Rt V.heap.size w' v l) (x y z : Int) : It (w'.alloc (.cells #[.int .i64 x, .int .i64 y, .int .i64 z] 26)) V.heap.size w'.heap.size v l x y z := by
  refine ⟨h.below ((Below.refl _ _).alloc (Nat.le_refl _) _), ?_, Box3.new _ _ _ _⟩
  intro k hk
  rcases h.2 with ⟨rfl, h0⟩ | ⟨b, cap, cur, rfl, hb, h3, _⟩
  · cases hk
  · simp only [Value.ownBlock, Option.some.injEq] at hk
    subst hk
    exact blk_lt h3
theorem It.lt {W : World} {lo hi : Nat} {p : Option Addr} {n c : Nat} {l : List Tv} {x y z : Int} (h : It W lo hi (.slice p n c) l x y z) : Lt W p l := by
  obtain ⟨ao, cap, e, hL, _⟩ := Lt.row h.row
  cases e
  exact hL
theorem It.orw {W : World} {lo hi : Nat} {v : Value} {l : List Tv} {x y z : Int} (h : It W lo hi v l x y z) : Orw 0 W v l.length := ⟨_, h.row.low (Nat.zero_le _)⟩
theorem bel_kp {S : Nat → Prop} {w W W' : World} (h : Below w.heap.size w W) (k : Kp S W W') (hS : ∀ j, S j → w.heap.size ≤ j) : Below w.heap.size w W' :=
  h.trans ⟨k.os, k.tape, k.output, k.size, fun j hj => k.block j (Nat.lt_of_lt_of_le hj h.size) (fun hs => by have := hS j hs; omega)⟩
def AX (W : World) (E : Nat) (x y z : Int) (L : List Tv) (e : Ending) (w' : World) : Prop := (∃ v, e = .returned (.tuple #[v, .int .i64 E, .agg #[.int .i64 x, .int .i64 y, .int .i64 z]]) ∧ Rt W.heap.size w' v L) ∧ Below W.heap.size W w'

set_option maxRecDepth 100000 in
set_option maxHeartbeats 1500000 in
theorem all_core (s o : ByteArray) (w : World) (E F : Nat) (x1 x2 x3 y1 y2 y3 : Int) (A B : List Tv) (hs : s.size ≤ 67108864) (ho : o.size ≤ 67108864) (hA : A.length ≤ 1000000000) (hB : B.length ≤ 1000000000)
    (HW : Hid (Calls Tryd.prog 8 #[] w fun e w' => e = .returned (.bool true) ∧ Below w.heap.size w w'))
    (HS : Hid (∀ W, Below w.heap.size w W → Calls Tryd.prog 9 #[.string s] W fun e w' => AX W E x1 x2 x3 A e w'))
    (HO : Hid (∀ W, Below w.heap.size w W → Calls Tryd.prog 9 #[.string o] W fun e w' => AX W F y1 y2 y3 B e w'))
    (RS : Hid (∀ W, Calls Tryd.prog 10 #[.string s] W fun e w' => AX W E x1 x2 x3 A e w'))
    (RO : Hid (∀ W, Calls Tryd.prog 10 #[.string o] W fun e w' => AX W F y1 y2 y3 B e w')) :
    Calls Tryd.prog 3 #[.string s, .string o] w fun e w' => e = .returned (.bool true) ∧ Below w.heap.size w w' := by
  have q0 : ¬ (67108864 : Int) < s.size := by omega
  have q1 : ¬ (67108864 : Int) < o.size := by omega
  have SA : Hid (∀ W pa pb ca cb, Lt W pa A → Lt W pb A → Calls Tryd.prog 11 #[.slice pa A.length ca, .slice pb A.length cb] W fun e w' => e = .returned (.bool true) ∧ Below W.heap.size W w') := fun W pa pb ca cb h1 h2 => same_eq pa pb A ca cb W h1 h2 (by omega)
  have SB : Hid (∀ W pa pb ca cb, Lt W pa B → Lt W pb B → Calls Tryd.prog 11 #[.slice pa B.length ca, .slice pb B.length cb] W fun e w' => e = .returned (.bool true) ∧ Below W.heap.size W w') := fun W pa pb ca cb h1 h2 => same_eq pa pb B ca cb W h1 h2 (by omega)
  have PA : Hid (∀ W v, Orw 0 W v A.length → Calls Tryd.prog 12 #[v] W fun e w' => e = .returned (.tuple #[]) ∧ Kp (fun k => some k = v.ownBlock) W w') := fun W v h => spoil_any v _ W h (by omega)
  have PB : Hid (∀ W v, Orw 0 W v B.length → Calls Tryd.prog 12 #[v] W fun e w' => e = .returned (.tuple #[]) ∧ Kp (fun k => some k = v.ownBlock) W w') := fun W v h => spoil_any v _ W h (by omega)
  unfold AX at HS HO RS RO
  clear hs ho hA hB
  go_enter Tryd.func3, Tryd.ntmps3
  go_wp2_with (first
    | (go_at_call 8; refine HW.out.mono ?_; rintro e w1 ⟨rfl, hb1⟩)
    | (go_at_call 9; have hg := I1; clear hg; refine (HO.out _ hb2).mono ?_; rintro e w3 ⟨⟨v2, rfl, r2⟩, b3⟩; obtain ⟨p2, c2, rfl, _, _⟩ := r2.shape; have I2 := It.new r2 y1 y2 y3; have b3' := b3.alloc b3.size (.cells #[.int .i64 y1, .int .i64 y2, .int .i64 y3] 26); have hb3 := hb2.trans (b3'.mono hb2.size); have I1 := I1.below b3')
    | (go_at_call 9; refine (HS.out _ hb1).mono ?_; rintro e w2 ⟨⟨v1, rfl, r1⟩, b2⟩; obtain ⟨p1, c1, rfl, _, _⟩ := r1.shape; have I1 := It.new r1 x1 x2 x3; have b2' := b2.alloc b2.size (.cells #[.int .i64 x1, .int .i64 x2, .int .i64 x3] 26); have hb2 := hb1.trans (b2'.mono hb1.size))
    | (go_at_call 10; have hg := I3; clear hg; refine (RO.out _).mono ?_; rintro e w5 ⟨⟨v4, rfl, r4⟩, b5⟩; obtain ⟨p4, c4, rfl, _, _⟩ := r4.shape; have I4 := It.new r4 y1 y2 y3; have b5' := b5.alloc b5.size (.cells #[.int .i64 y1, .int .i64 y2, .int .i64 y3] 26); have hb5 := hb4.trans (b5'.mono hb4.size); have I1 := I1.below b5'; have I2 := I2.below b5'; have I3 := I3.below b5')
    | (go_at_call 10; refine (RS.out _).mono ?_; rintro e w4 ⟨⟨v3, rfl, r3⟩, b4⟩; obtain ⟨p3, c3, rfl, _, _⟩ := r3.shape; have I3 := It.new r3 x1 x2 x3; have b4' := b4.alloc b4.size (.cells #[.int .i64 x1, .int .i64 x2, .int .i64 x3] 26); have hb4 := hb3.trans (b4'.mono hb3.size); have I1 := I1.below b4'; have I2 := I2.below b4')
    | (go_at_call 11; have hg := M1; clear hg; refine (SB.out _ _ _ _ _ M2.lt M4.lt).mono ?_; rintro e w7 ⟨rfl, b7⟩; have hb7 := hb6.trans (b7.mono hb6.size); have G1 := M1.below b7; have G2 := M2.below b7; have G3 := M3.below b7; have G4 := M4.below b7)
    | (go_at_call 11; refine (SA.out _ _ _ _ _ I1.lt I3.lt).mono ?_; rintro e w6 ⟨rfl, b6⟩; have hb6 := hb5.trans (b6.mono hb5.size); have M1 := I1.below b6; have M2 := I2.below b6; have M3 := I3.below b6; have M4 := I4.below b6))
  have z2 := b2.size
  have z3 := b3.size
  have z4 := b4.size
  have z5 := b5.size
  have z1 := hb1.size
  rw [World.size_alloc] at z3 z4 z5
  have HZ : Hid (w.heap.size ≤ w1.heap.size ∧ w1.heap.size ≤ w2.heap.size ∧ w2.heap.size + 1 ≤ w3.heap.size ∧ w3.heap.size + 1 ≤ w4.heap.size ∧ w4.heap.size + 1 ≤ w5.heap.size) := ⟨z1, z2, z3, z4, z5⟩
  clear z1 z2 z3 z4 z5 I1 I2 I3 I4 M1 M2 M3 M4 hb1 hb2 hb3 hb4 hb5 hb6 b2 b3 b4 b5 b6 b2' b3' b4' b5' b7 r1 r2 r3 r4
  refine (PA.out _ _ G1.orw).mono ?_
  rintro e w8 ⟨rfl, k8⟩
  obtain ⟨z1, z2, z3, z4, z5⟩ := HZ.out
  have hb8 := bel_kp hb7 k8 (fun j e => by have := G1.row.own j e.symm; omega)
  have J2 := G2.kp k8 (fun k e => .inl (by have := G1.up k e.symm; rw [World.size_alloc]; omega)) (by rw [World.size_alloc]; omega)
  have J3 := G3.kp k8 (fun k e => .inl (by have := G1.up k e.symm; rw [World.size_alloc]; omega)) (by rw [World.size_alloc]; omega)
  have J4 := G4.kp k8 (fun k e => .inl (by have := G1.up k e.symm; rw [World.size_alloc]; omega)) (by rw [World.size_alloc]; omega)
  have C1 : Box3 w8 w2.heap.size x1 x2 x3 := k8.blk G1.box (fun e => by have := G1.up _ e.symm; omega)
  clear z1 z2 z3 z4 z5 G1 G2 G3 G4 hb7 k8
  go_wp2_with (first | (go_at_call 12; refine (PB.out _ _ J2.orw).mono ?_; rintro e w9 ⟨rfl, k9⟩))
  obtain ⟨z1, z2, z3, z4, z5⟩ := HZ.out
  have K9 := bel_kp hb8 k9 (fun j e => by have := J2.row.own j e.symm; rw [World.size_alloc] at this; omega)
  have K3 := J3.kp k9 (fun k e => .inl (by have := J2.up k e.symm; rw [World.size_alloc]; omega)) (by rw [World.size_alloc]; omega)
  have K4 := J4.kp k9 (fun k e => .inl (by have := J2.up k e.symm; rw [World.size_alloc]; omega)) (by rw [World.size_alloc]; omega)
  have E1 : Box3 w9 w2.heap.size x1 x2 x3 := k9.blk C1 (fun e => by have := J2.row.own _ e.symm; rw [World.size_alloc] at this; omega)
  have E2 : Box3 w9 w3.heap.size y1 y2 y3 := k9.blk J2.box (fun e => by have := J2.up _ e.symm; omega)
  clear z1 z2 z3 z4 z5 J2 J3 J4 C1 hb8 k9
  go_wp2_with (first | (go_at_call 9; refine (HS.out _ K9).mono ?_; rintro e wA ⟨⟨v5, rfl, r5⟩, b5⟩; obtain ⟨p5, c5, rfl, _, _⟩ := r5.shape; have I5 := It.new r5 x1 x2 x3; have bA := b5.alloc b5.size (.cells #[.int .i64 x1, .int .i64 x2, .int .i64 x3] 26); have hbA := K9.trans (bA.mono K9.size); have N3 := K3.below bA; have N4 := K4.below bA; have D1 := E1.below bA; have D2 := E2.below bA; clear K9 K3 K4 E1 E2) | (go_at_call 11; refine (SA.out _ _ _ _ _ I5.lt N3.lt).mono ?_; rintro e wB ⟨rfl, bB⟩; have hbB := hbA.trans (bB.mono hbA.size); have t1 := (D1.below bB).cell0; have t2 := (D1.below bB).cell1; have t3 := (D1.below bB).cell2; have t4 := (D2.below bB).cell0; have t5 := (D2.below bB).cell1; have t6 := (D2.below bB).cell2; have s1 := (N3.below bB).box.cell0; have s2 := (N3.below bB).box.cell1; have s3 := (N3.below bB).box.cell2; have s4 := (N4.below bB).box.cell0; have s5 := (N4.below bB).box.cell1; have s6 := (N4.below bB).box.cell2; have o1 := (I5.below bB).box.cell0; have o2 := (I5.below bB).box.cell1; have o3 := (I5.below bB).box.cell2))
  go_ret
  exact ⟨rfl, hbB⟩

end Go.Proofs.YtaldkkeghackfaaDoor
