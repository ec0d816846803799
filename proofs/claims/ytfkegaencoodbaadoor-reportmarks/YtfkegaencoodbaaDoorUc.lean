import Derived.Test.YtfkegaencoodbaaDoorUb
import Derived.Lib.ItoaNum
import Derived.Laws.Concat
set_option linter.unusedVariables false
set_option linter.unusedSimpArgs false
namespace Go.Proofs.YtfkegaencoodbaaDoor
open Go.RowKit

/-! The document's Head and Show, over what Itoa answers. -/
/-- A world that keeps S. -/
structure HW (S : World → Prop) where
  W : World
  h : S W
/-- A region that draws its order, whose own operations only read, and whose callees keep S: one walk in the order of the text. -/
theorem wp_region_quiet_in {P : Program} {S : World → Prop} {id : Nat} {Q : Exit → Act → World → Prop} {a : Act} {w : World} {l : List Oper} (hm : P.follows .mixedOrders = true) (hB : Region.lexB .any l.toArray = true) (hC : S w.drew)
    (h : wpQuiet P l.toArray (fun w' => ∃ x : HW S, w' = x.W) (fun a' => ∀ w', (∃ x : HW S, w' = x.W) → Q .normal a' w') l a) : (Code.region id l.toArray true).wp P Q a w :=
  wp_region_quiet (C := fun w' => ∃ x : HW S, w' = x.W) hm hB ⟨⟨w.drew, hC⟩, rfl⟩ (by simpa using h)
theorem Calls.quiet_in {P : Program} {S : World → Prop} {f : FuncId} {args : Array Value} {v : Value} (x : HW S) (h : Calls P f args x.W fun e w' => e = .returned v ∧ Below x.W.heap.size x.W w') (hS : ∀ W W', S W → Below W.heap.size W W' → S W') :
    Calls P f args x.W fun e w'' => e = .returned v ∧ ∃ y : HW S, w'' = y.W :=
  h.mono fun e w' ⟨he, hb⟩ => ⟨he, ⟨w', hS _ _ x.h hb⟩, rfl⟩
theorem cel_up {w w' : World} {p : Addr} {v : Value} (h : w.cell? p = some v) (hb : Below w.heap.size w w') : w'.cell? p = some v := (hb.cell (World.block_lt_of_cell? w p h)).trans h
/-- A world that extends V. -/
def SG (V W : World) : Prop := Below V.heap.size V W
theorem SG.keep {V W W' : World} (h : SG V W) (hb : Below W.heap.size W W') : SG V W' := Below.trans h (hb.mono (Below.size h))

abbrev ftb (c x y z : Int) : Obj := .cells #[.int .i64 c, .int .i64 x, .int .i64 y, .int .i64 z] 26
abbrev ftv (c x y z : Int) : Value := .agg #[.int .i64 c, .int .i64 x, .int .i64 y, .int .i64 z]
def itB (n : Int) : ByteArray := ⟨(Lib.itoa n).toArray⟩
def i64 (n : Int) : Prop := -9223372036854775808 ≤ n ∧ n ≤ 9223372036854775807
/-- What Itoa answers, from what was on. -/
def ItP (W : World) : Prop := ∀ V n, Below W.heap.size W V → i64 n → Calls Tryd.prog 25 #[.int .i64 n] V fun e w' => e = .returned (.string (itB n)) ∧ Below V.heap.size V w'
theorem nd_le (k u : Nat) (h : u < 10 ^ (k + 1)) : Lib.nDigits u ≤ k + 1 := by
  induction k generalizing u with
  | zero => rw [Lib.nDigits_small (by simpa using h)]; exact Nat.le_refl _
  | succ k ih =>
    by_cases h1 : u < 10
    · rw [Lib.nDigits_small h1]; omega
    · rw [Lib.nDigits_big h1]
      have := ih (u / 10) (by rw [Nat.div_lt_iff_lt_mul (by decide)]; rw [Nat.pow_succ] at h; exact h)
      omega
theorem itB_sz {n : Int} (h : i64 n) : (itB n).size ≤ 25 := by
  unfold itB
  show (Lib.itoa n).toArray.size ≤ _
  rw [List.size_toArray]
  unfold Lib.itoa
  have h9 : ∀ u : Nat, u ≤ 9223372036854775808 → Lib.nDigits u ≤ 20 := fun u hu => nd_le 19 u (Nat.lt_of_le_of_lt hu (by decide))
  split
  · rw [List.length_cons, Lib.decDigits_length]
    have := h9 n.natAbs (by unfold i64 at h; omega)
    omega
  · rw [Lib.decDigits_length]
    have := h9 n.toNat (by unfold i64 at h; omega)
    omega
theorem ItP.below {W V : World} (h : ItP W) (hb : Below W.heap.size W V) : ItP V := fun U n h1 h2 => h U n (hb.trans (h1.mono hb.size)) h2
def hdB (name : ByteArray) (c y z : Int) : ByteArray := name ++ ⟨#[58, 32]⟩ ++ itB y ++ ⟨#[58]⟩ ++ itB z ++ ⟨#[58, 32, 101, 114, 114, 111, 114, 32]⟩ ++ itB c ++ ⟨#[10]⟩
set_option maxHeartbeats 2000000 in
set_option maxRecDepth 100000 in
theorem rhead_any {name : ByteArray} {c x y z : Int} {W : World} (hn : name.size ≤ 100000000) (hI : ItP W) (hc : i64 c) (hy : i64 y) (hz : i64 z) :
    Calls Tryd.prog 13 #[.string name, ftv c x y z] W fun e w' => e = .returned (.string (hdB name c y z)) ∧ Below W.heap.size W w' := by
  obtain ⟨V, hV⟩ : ∃ V, W.alloc (ftb c x y z) = V := ⟨_, rfl⟩
  obtain ⟨g, hg⟩ : ∃ g, W.heap.size = g := ⟨_, rfl⟩
  have hb : Below W.heap.size W V := by rw [← hV]; exact (Below.refl _ _).alloc (Nat.le_refl _) _
  have hk : V.heap[g]? = some (ftb c x y z) := by rw [← hV, ← hg]; exact new_at _ _
  have c0 : ∀ x : HW (SG V), x.W.cell? ⟨g, 0, none⟩ = some (.int .i64 c) := fun x => cel_up (blk_cell hk rfl) x.h
  have c2 : ∀ x : HW (SG V), x.W.cell? ⟨g, 2, none⟩ = some (.int .i64 y) := fun x => cel_up (blk_cell hk rfl) x.h
  have c3 : ∀ x : HW (SG V), x.W.cell? ⟨g, 3, none⟩ = some (.int .i64 z) := fun x => cel_up (blk_cell hk rfl) x.h
  have HB : Hid (Below W.heap.size W V) := hb
  have HV : Hid (ItP V) := hI.below hb
  have HY : Hid (i64 c ∧ i64 y ∧ i64 z) := ⟨hc, hy, hz⟩
  have s1 := itB_sz hc
  have s2 := itB_sz hy
  have s3 := itB_sz hz
  obtain ⟨ic, hic⟩ : ∃ i, itB c = i := ⟨_, rfl⟩
  obtain ⟨iy, hiy⟩ : ∃ i, itB y = i := ⟨_, rfl⟩
  obtain ⟨iz, hiz⟩ : ∃ i, itB z = i := ⟨_, rfl⟩
  have e1 : (name ++ ⟨#[58, 32]⟩).size = name.size + 2 := ByteArray.size_append
  have e2 : (name ++ ⟨#[58, 32]⟩ ++ iy).size = name.size + 2 + iy.size := by rw [ByteArray.size_append, e1]
  have e3 : (name ++ ⟨#[58, 32]⟩ ++ iy ++ ⟨#[58]⟩).size = name.size + 2 + iy.size + 1 := by rw [ByteArray.size_append, e2]; rfl
  have e4 : (name ++ ⟨#[58, 32]⟩ ++ iy ++ ⟨#[58]⟩ ++ iz).size = name.size + 2 + iy.size + 1 + iz.size := by rw [ByteArray.size_append, e3]
  have e5 : (name ++ ⟨#[58, 32]⟩ ++ iy ++ ⟨#[58]⟩ ++ iz ++ ⟨#[58, 32, 101, 114, 114, 111, 114, 32]⟩).size = name.size + 2 + iy.size + 1 + iz.size + 8 := by rw [ByteArray.size_append, e4]; rfl
  have e6 : (name ++ ⟨#[58, 32]⟩ ++ iy ++ ⟨#[58]⟩ ++ iz ++ ⟨#[58, 32, 101, 114, 114, 111, 114, 32]⟩ ++ ic).size = name.size + 2 + iy.size + 1 + iz.size + 8 + ic.size := by rw [ByteArray.size_append, e5]
  rw [hic] at s1
  rw [hiy] at s2
  rw [hiz] at s3
  have q1 : ¬ 9223372036854775807 < name.size + 2 := by omega
  have q2 : ¬ 9223372036854775807 < name.size + 2 + iy.size := by omega
  have q3 : ¬ 9223372036854775807 < name.size + 2 + iy.size + 1 := by omega
  have q4 : ¬ 9223372036854775807 < name.size + 2 + iy.size + 1 + iz.size := by omega
  have q5 : ¬ 9223372036854775807 < name.size + 2 + iy.size + 1 + iz.size + 8 := by omega
  have q6 : ¬ 9223372036854775807 < name.size + 2 + iy.size + 1 + iz.size + 8 + ic.size := by omega
  have q7 : ¬ 9223372036854775807 < name.size + 2 + iy.size + 1 + iz.size + 8 + ic.size + 1 := by omega
  have HI : Hid ((∀ U, Below V.heap.size V U → Calls Tryd.prog 25 #[.int .i64 y] U fun e w' => e = .returned (.string iy) ∧ Below U.heap.size U w') ∧ (∀ U, Below V.heap.size V U → Calls Tryd.prog 25 #[.int .i64 z] U fun e w' => e = .returned (.string iz) ∧ Below U.heap.size U w') ∧ ∀ U, Below V.heap.size V U → Calls Tryd.prog 25 #[.int .i64 c] U fun e w' => e = .returned (.string ic) ∧ Below U.heap.size U w') := ⟨fun U h => by rw [← hiy]; exact HV.out U y h hy, fun U h => by rw [← hiz]; exact HV.out U z h hz, fun U h => by rw [← hic]; exact HV.out U c h hc⟩
  have HE : Hid (hdB name c y z = name ++ ⟨#[58, 32]⟩ ++ iy ++ ⟨#[58]⟩ ++ iz ++ ⟨#[58, 32, 101, 114, 114, 111, 114, 32]⟩ ++ ic ++ ⟨#[10]⟩) := (by unfold hdB; rw [hic, hiy, hiz] : hdB name c y z = _)
  clear s1 s2 s3 HV HY hic hiy hiz
  have hne : Nonempty (HW (SG V)) := ⟨⟨V, Below.refl _ _⟩⟩
  have hex : ∀ x : HW (SG V), ∃ y : HW (SG V), x.W = y.W := fun x => ⟨x, rfl⟩
  clear hb hk hI hc hy hz
  go_enter Tryd.func13, Tryd.ntmps13
  go_wp2_with fail
  try rw [hV]
  try rw [hg]
  refine wp_region_quiet_in (S := SG V) (by kernel_rfl) (by kernel_rfl) (Below.refl _ _).drew ?_
  repeat (go_big_quiet_step ((go_at_call 25; first | exact Calls.quiet_in _ (HI.out.1 _ (HW.h _)) (fun _ _ => SG.keep) | exact Calls.quiet_in _ (HI.out.2.1 _ (HW.h _)) (fun _ _ => SG.keep) | exact Calls.quiet_in _ (HI.out.2.2 _ (HW.h _)) (fun _ _ => SG.keep))))
  refine wpQuiet_nil ?_
  rintro w5 ⟨⟨W5, hS5⟩, rfl⟩
  have HS5 : Hid (Below V.heap.size V w5) := hS5
  clear hS5 c0 c2 c3 hne hex
  go_wp2_with fail
  go_ret
  exact ⟨by rw [HE.out]; rfl, HB.out.trans (HS5.out.mono HB.out.size)⟩

end Go.Proofs.YtfkegaencoodbaaDoor
