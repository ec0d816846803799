import Derived.Test.YtjibpdncginkdaaNa
import Derived.BigQuiet
import Derived.Deep.QuietTactic
set_option linter.unusedVariables false
set_option linter.unusedSimpArgs false
namespace Go.Proofs.Ytjibpdncginkdaa
open Go.RowKit

/-- The ring at block g: its room, its row zs, where the first one is, and what it holds. -/
structure RG {β : Type} (T e : TypeId) (enc : β → List Value) (own : Nat → Nat) (i : Nat) (w : World) (g room : Nat) (sv : Value) (zs : List β) (front : Nat) (l : List β) : Prop where
  blk : w.heap[g]? = some (.cells #[.int .i64 room, sv, .int .i64 front, .int .i64 l.length] T (0, 0))
  lab : own g = i
  r1 : 1 ≤ room
  r2 : room ≤ 2097152
  len : zs.length ≤ room
  row : (zs = [] ∧ sv = .slice none 0 0 ∧ front = 0) ∨ (∃ b, sv = .slice (some ⟨b, 0, none⟩) zs.length zs.length ∧ w.heap[b]? = some (.cells (flat enc zs).toArray e (0, 0)) ∧ own b = i ∧ b ≠ g ∧ front < zs.length)
  hold : Holds zs front l

theorem RG.c0 {β : Type} {T e : TypeId} {enc : β → List Value} {own : Nat → Nat} {i : Nat} {w : World} {g room : Nat} {sv : Value} {zs : List β} {front : Nat} {l : List β} (h : RG T e enc own i w g room sv zs front l) : w.cell? ⟨g, 0, none⟩ = some (.int .i64 room) := blk_cell h.blk rfl
theorem RG.c1 {β : Type} {T e : TypeId} {enc : β → List Value} {own : Nat → Nat} {i : Nat} {w : World} {g room : Nat} {sv : Value} {zs : List β} {front : Nat} {l : List β} (h : RG T e enc own i w g room sv zs front l) : w.cell? ⟨g, 1, none⟩ = some sv := blk_cell h.blk rfl
theorem RG.c2 {β : Type} {T e : TypeId} {enc : β → List Value} {own : Nat → Nat} {i : Nat} {w : World} {g room : Nat} {sv : Value} {zs : List β} {front : Nat} {l : List β} (h : RG T e enc own i w g room sv zs front l) : w.cell? ⟨g, 2, none⟩ = some (.int .i64 front) := blk_cell h.blk rfl
theorem RG.c3 {β : Type} {T e : TypeId} {enc : β → List Value} {own : Nat → Nat} {i : Nat} {w : World} {g room : Nat} {sv : Value} {zs : List β} {front : Nat} {l : List β} (h : RG T e enc own i w g room sv zs front l) : w.cell? ⟨g, 3, none⟩ = some (.int .i64 l.length) := blk_cell h.blk rfl
theorem RG.fz {β : Type} {T e : TypeId} {enc : β → List Value} {own : Nat → Nat} {i : Nat} {w : World} {g room : Nat} {sv : Value} {zs : List β} {front : Nat} {l : List β} (h : RG T e enc own i w g room sv zs front l) (k : Nat) : w.frozen? ⟨g, k, none⟩ = false := blk_frozen h.blk

/-- Where no block of the ring's turns. -/
theorem RG.kept {β : Type} {T e : TypeId} {enc : β → List Value} {own own' : Nat → Nat} {i j : Nat} {w w' : World} {g room : Nat} {sv : Value} {zs : List β} {front : Nat} {l : List β} (h : RG T e enc own i w g room sv zs front l) (hf : Fr j own own' w w') (hij : i ≠ j) : RG T e enc own' i w' g room sv zs front l := by
  refine ⟨(hf.block g (blk_lt h.blk) (by rw [h.lab]; exact hij)).trans h.blk, (hf.old g (blk_lt h.blk)).trans h.lab, h.r1, h.r2, h.len, ?_, h.hold⟩
  rcases h.row with h1 | ⟨b, h1, h2, h3, h4, h5⟩
  · exact .inl h1
  · exact .inr ⟨b, h1, (hf.block b (blk_lt h2) (by rw [h3]; exact hij)).trans h2, (hf.old b (blk_lt h2)).trans h3, h4, h5⟩
theorem RG.below {β : Type} {T e : TypeId} {enc : β → List Value} {own : Nat → Nat} {i : Nat} {w w' : World} {g room : Nat} {sv : Value} {zs : List β} {front : Nat} {l : List β} (h : RG T e enc own i w g room sv zs front l) (hb : Below w.heap.size w w') : RG T e enc own i w' g room sv zs front l := by
  have hf : Fr (i + 1) own own w w' := Fr.of_below hb
  exact h.kept hf (by omega)

/-- mod in Int, of small numbers. -/
theorem tmod_nat (a b : Nat) : ((a : Int).tmod (b : Int)) = ((a % b : Nat) : Int) := by
  rw [Int.tmod_eq_emod_of_nonneg (by omega)]; rfl

def encI (x : Int) : List Value := [.int .i64 x]

theorem flatI (zs : List Int) : flat encI zs = zs.map (Value.int .i64) := by
  induction zs with
  | nil => rfl
  | cons x r ih => rw [flat_cons, ih]; rfl
theorem flatI_at {zs : List Int} {k : Nat} {x : Int} (h : zs[k]? = some x) : (flat encI zs).toArray[k]? = some (.int .i64 x) := by
  rw [flatI]; simp [h]
theorem flatI_set (zs : List Int) (k : Nat) (x : Int) : (flat encI zs).toArray.setIfInBounds k (.int .i64 x) = (flat encI (zs.set k x)).toArray := by
  rw [flatI, flatI, List.setIfInBounds_toArray, List.map_set]

abbrev RI := RG (β := Int) 63 3 encI

theorem cellI (g n front k p : Nat) (sp : Option Addr) (w : World) (h1 : w.cell? ⟨g, 1, none⟩ = some (.slice sp n n)) (h2 : w.cell? ⟨g, 2, none⟩ = some (.int .i64 front)) (hn : 0 < n) (hb : front ≤ 2097152) (hk : k ≤ 2097152) (hp : (front + k) % n = p) :
    Calls Try.prog 39 #[.pointer (some ⟨g, 0, none⟩), .int .i64 k] w fun e w' => e = .returned (.int .i64 p) ∧ ∃ m, w' = w.drewN m := by
  have q1 : ¬ ((n : Int) = 0) := by omega
  have HP : Hid (((front : Int) + (k : Int)) % (n : Int) = (p : Int)) := by show _ = _; rw [← hp]; simp
  clear hp
  go_enter Try.func39, Try.ntmps39
  go_wp2_with fail
  go_quiet (fail)
  go_wp2_with fail
  go_ret
  exact ⟨congrArg (fun x => Ending.returned (.int .i64 x)) HP.out, ⟨_, rfl⟩⟩

theorem someI_nil (w : World) : Calls Try.prog 40 #[.pointer none] w fun e w' => e = .returned (.int .i64 3) ∧ w' = w := by
  go_enter Try.func40, Try.ntmps40
  go_wp2_with fail
  go_ret
  exact ⟨rfl, rfl⟩
theorem someI_empty (g : Nat) (w : World) (h : w.cell? ⟨g, 3, none⟩ = some (.int .i64 0)) : Calls Try.prog 40 #[.pointer (some ⟨g, 0, none⟩)] w fun e w' => e = .returned (.int .i64 51) ∧ w' = w := by
  go_enter Try.func40, Try.ntmps40
  go_wp2_with fail
  go_ret
  exact ⟨rfl, rfl⟩
theorem someI (g c : Nat) (w : World) (h : w.cell? ⟨g, 3, none⟩ = some (.int .i64 c)) (hc : 0 < c) : Calls Try.prog 40 #[.pointer (some ⟨g, 0, none⟩)] w fun e w' => e = .returned (.int .i64 0) ∧ w' = w := by
  have q1 : ((c : Int) == 0) = false := by simp; omega
  have q2 : ¬ ((c : Int) = 0) := by omega
  have q3 : ¬ (c = 0) := by omega
  go_enter Try.func40, Try.ntmps40
  go_wp2_with fail
  go_ret
  exact ⟨rfl, rfl⟩

theorem withinI_nil (k : Int) (w : World) : Calls Try.prog 42 #[.pointer none, .int .i64 k] w fun e w' => e = .returned (.int .i64 3) ∧ w' = w := by
  go_enter Try.func42, Try.ntmps42
  go_wp2_with fail
  go_ret
  exact ⟨rfl, rfl⟩
theorem withinI_neg (g : Nat) (k : Int) (w : World) (hk : k < 0) : Calls Try.prog 42 #[.pointer (some ⟨g, 0, none⟩), .int .i64 k] w fun e w' => e = .returned (.int .i64 1) ∧ w' = w := by
  have q1 : decide (k < 0) = true := by simp; omega
  go_enter Try.func42, Try.ntmps42
  go_wp2_with fail
  go_ret
  exact ⟨rfl, rfl⟩
theorem withinI_out (g c : Nat) (k : Int) (w : World) (h : w.cell? ⟨g, 3, none⟩ = some (.int .i64 c)) (hk : (c : Int) ≤ k) : Calls Try.prog 42 #[.pointer (some ⟨g, 0, none⟩), .int .i64 k] w fun e w' => e = .returned (.int .i64 1) ∧ w' = w := by
  have q1 : decide (k < 0) = false := by simp; omega
  have q2 : decide ((c : Int) ≤ k) = true := by simp; omega
  go_enter Try.func42, Try.ntmps42
  go_wp2_with fail
  go_ret
  exact ⟨rfl, rfl⟩
theorem withinI (g c k : Nat) (w : World) (h : w.cell? ⟨g, 3, none⟩ = some (.int .i64 c)) (hk : k < c) : Calls Try.prog 42 #[.pointer (some ⟨g, 0, none⟩), .int .i64 k] w fun e w' => e = .returned (.int .i64 0) ∧ w' = w := by
  have q1 : decide ((k : Int) < 0) = false := by simp
  have q2 : decide ((c : Int) ≤ (k : Int)) = false := by simp; omega
  have q3 : ¬ ((c : Int) ≤ (k : Int)) := by omega
  have q4 : ¬ (c ≤ k) := by omega
  go_enter Try.func42, Try.ntmps42
  go_wp2_with fail
  go_ret
  exact ⟨rfl, rfl⟩

theorem lenI_nil (w : World) : Calls Try.prog 21 #[.pointer none] w fun e w' => e = .returned (.int .i64 0) ∧ w' = w := by
  go_enter Try.func21, Try.ntmps21
  go_wp2_with fail
  go_ret
  exact ⟨rfl, rfl⟩
theorem lenI (g c : Nat) (w : World) (h : w.cell? ⟨g, 3, none⟩ = some (.int .i64 c)) : Calls Try.prog 21 #[.pointer (some ⟨g, 0, none⟩)] w fun e w' => e = .returned (.int .i64 c) ∧ w' = w := by
  go_enter Try.func21, Try.ntmps21
  go_wp2_with fail
  go_ret
  exact ⟨rfl, rfl⟩
theorem roomI_nil (w : World) : Calls Try.prog 30 #[.pointer none] w fun e w' => e = .returned (.int .i64 0) ∧ w' = w := by
  go_enter Try.func30, Try.ntmps30
  go_wp2_with fail
  go_ret
  exact ⟨rfl, rfl⟩
theorem roomI (g c : Nat) (w : World) (h : w.cell? ⟨g, 0, none⟩ = some (.int .i64 c)) : Calls Try.prog 30 #[.pointer (some ⟨g, 0, none⟩)] w fun e w' => e = .returned (.int .i64 c) ∧ w' = w := by
  go_enter Try.func30, Try.ntmps30
  go_wp2_with fail
  go_ret
  exact ⟨rfl, rfl⟩

theorem newI_low (k : Int) (w : World) (hk : k < 1) : Calls Try.prog 16 #[.int .i64 k] w fun e w' => e = .returned (.tuple #[.pointer none, .int .i64 1]) ∧ w' = w := by
  have q1 : decide (k < 1) = true := by simp; omega
  go_enter Try.func16, Try.ntmps16
  go_wp2_with fail
  go_ret2
  exact ⟨rfl, rfl⟩
theorem newI_high (k : Int) (w : World) (hk : 2097152 < k) : Calls Try.prog 16 #[.int .i64 k] w fun e w' => e = .returned (.tuple #[.pointer none, .int .i64 1]) ∧ w' = w := by
  have q1 : decide (k < 1) = false := by simp; omega
  have q2 : decide (2097152 < k) = true := by simp; omega
  go_enter Try.func16, Try.ntmps16
  go_wp2_with fail
  go_ret2
  exact ⟨rfl, rfl⟩
theorem newI (k : Nat) (w : World) (h1 : 1 ≤ k) (h2 : k ≤ 2097152) : Calls Try.prog 16 #[.int .i64 k] w fun e w' => e = .returned (.tuple #[.pointer (some ⟨w.heap.size, 0, none⟩), .int .i64 0]) ∧ w' = w.alloc (.cells #[.int .i64 k, .slice none 0 0, .int .i64 0, .int .i64 0] 63) := by
  have q1 : decide ((k : Int) < 1) = false := by simp; omega
  have q2 : decide (2097152 < (k : Int)) = false := by simp; omega
  have q3 : ¬ ((k : Int) < 1) := by omega
  have q4 : ¬ (2097152 < (k : Int)) := by omega
  go_enter Try.func16, Try.ntmps16
  go_wp2_with fail
  go_ret2
  exact ⟨rfl, rfl⟩

theorem emptyI (g n front k p b : Nat) (x : Int) (w : World) (h1 : w.cell? ⟨g, 1, none⟩ = some (.slice (some ⟨b, 0, none⟩) n n)) (h2 : w.cell? ⟨g, 2, none⟩ = some (.int .i64 front)) (hn : p < n) (hb : front ≤ 2097152) (hk : k ≤ 2097152) (hp : (front + k) % n = p)
    (hx : w.cell? ⟨b, p, none⟩ = some (.int .i64 x)) (hf : w.frozen? ⟨b, p, none⟩ = false) :
    Calls Try.prog 41 #[.pointer (some ⟨g, 0, none⟩), .int .i64 k] w fun e w' => e = .returned (.int .i64 x) ∧ ∃ m, w' = (w.drewN m).setCell ⟨b, p, none⟩ (.int .i64 0) := by
  have HC : Hid (∀ W, W.cell? ⟨g, 1, none⟩ = some (.slice (some ⟨b, 0, none⟩) n n) → W.cell? ⟨g, 2, none⟩ = some (.int .i64 front) → Calls Try.prog 39 #[.pointer (some ⟨g, 0, none⟩), .int .i64 k] W fun e w' => e = .returned (.int .i64 p) ∧ ∃ m, w' = W.drewN m) := fun W a b => cellI g n front k p _ W a b (by omega) hb hk hp
  have i1 : (0 : Int) ≤ (p : Int) := by omega
  have i2 : (p : Int) < (n : Int) := by omega
  clear hp
  go_enter Try.func41, Try.ntmps41
  go_wp2_with fail
  refine (HC.out _ h1 h2).mono ?_
  rintro e w1 ⟨rfl, m, rfl⟩
  go_wp2_with fail
  go_ret
  exact ⟨rfl, m, rfl⟩
end Go.Proofs.Ytjibpdncginkdaa
