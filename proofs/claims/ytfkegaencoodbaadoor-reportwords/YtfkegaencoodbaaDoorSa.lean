import Derived.Test.YtfkegaencoodbaaDoorNa
import Derived.Test.YtfkegaencoodbaaDoorTf
import Derived.Maps.AppendAt
import Derived.Lib.AppendStr
set_option linter.unusedVariables false
set_option linter.unusedSimpArgs false
namespace Go.Proofs.YtfkegaencoodbaaDoor
open Go.RowKit
open Go.Lib (strCells strCells_length)

/-! Bytes as cells. -/
def bc (l : List UInt8) : List Value := l.map fun b => Value.int .u8 b.toNat
theorem bc_len (l : List UInt8) : (bc l).length = l.length := by simp [bc]
theorem bc_app (a b : List UInt8) : bc (a ++ b) = bc a ++ bc b := by simp [bc]
theorem bc_str (s : ByteArray) : strCells s = bc s.data.toList := rfl
theorem bc_get (l : List UInt8) (j : Nat) (x : UInt8) (h : l[j]? = some x) : (bc l)[j]? = some (.int .u8 x.toNat) := by simp [bc, h]
theorem bc_one (l : List UInt8) : ∀ u ∈ bc l, u.oneCell' = true := by
  intro u hu
  simp only [bc, List.mem_map] at hu
  obtain ⟨x, _, rfl⟩ := hu
  rfl
theorem bc_drop (l : List UInt8) (k : Nat) : (bc l).drop k = bc (l.drop k) := by simp [bc]
theorem bc_take (l : List UInt8) (k : Nat) : (bc l).take k = bc (l.take k) := by simp [bc]

/-! Where an append of a text puts the new row. -/
theorem run_append_string_at {P : Program} (w : World) (base : Nat) (t u ty e : TypeId) (i : TypeInfo) (ht : P.underlying t = some (.slice e)) (hu : P.underlying u = some .string) (hi : P.info? e = some i) (hz : i.zero = some (.int .u8 0))
    (hsize : i.size = 1) (hby : i.bytes = 1) (v : Value) (n : Nat) (xs : List Value) (hown : w.ownsRow base e 1 v n xs) (s : ByteArray)
    (h63 : n + s.size ≤ maxLen) (hbytes : n + s.size ≤ 140737488355328) (hbase : base ≤ w.heap.size) :
    ∃ v' w', (Builtin.append_ #[t, u] ty #[v, .string s]).run P w = .ok v' w' ∧ w'.ownsRow base e 1 v' (n + s.size) (xs ++ strCells s) ∧ w.grownBy w' v.ownBlock ∧ (v'.ownBlock = v.ownBlock ∨ v'.ownBlock = some w.heap.size) := by
  obtain ⟨v', w', hr, h1, h2, h3⟩ := Lib.run_append_own_string (P := P) w base t u ty e i ht hu hi hz hsize hby v n xs hown s h63 hbytes hbase
  refine ⟨v', w', hr, h1, h2, ?_⟩
  have hsmall : n + s.size ≤ 9223372036854775807 := by simp only [maxLen] at h63; omega
  have hxl : xs.length = n := by simpa using hown.1
  rcases hown.2 with ⟨rfl, rfl⟩ | ⟨g, cap, cur, rfl, hbg, hg, hnc, hcm, hcs, htake⟩
  · by_cases hm : s.size = 0
    · left; rw [h3.2 ⟨rfl, hm⟩]
    · have hr2 := run_append_nil_string (P := P) w t u ty e i (.int .u8 0) ht hu hi hz s (by omega) (by omega) (by rw [hby]; omega)
      rw [hr2] at hr
      injection hr with e1 e2
      right; rw [← e1]; rfl
  · by_cases hroom : n + s.size ≤ cap
    · have hcs' : cur.size = cap := by simpa using hcs
      have hr2 := Lib.run_append_room_string (P := P) w t u ty e i ht hu hi hsize g n cap cur hg s hroom (by omega)
      rw [hr2] at hr
      injection hr with e1 e2
      left; rw [← e1]; rfl
    · have holds : ∀ j u, xs[j]? = some u → w.cell? ((⟨g, 0, none⟩ : Addr).add j) = some u := hown.cells (g := g) rfl
      have hr2 := Lib.run_append_grow_string (P := P) w t u ty e i (.int .u8 0) ht hu hi hz ⟨g, 0, none⟩ n cap xs (by rw [hsize]; simpa using hxl) holds s (by omega) (by omega) (by rw [hby]; exact growslice_fits (by omega) (by omega))
      rw [hr2] at hr
      injection hr with e1 e2
      right; rw [← e1]; rfl

theorem wpList_append_string_at {P : Program} {w : World} {ops : Array Oper} {rest : List Oper} {o : Oper} {a : Act} {Q : Exit → Act → World → Prop} (hgd : o.guard = none) (sl x : Operand) (t u : TypeId)
    (ho : o.op = .call { callee := .builtin .append, args := #[sl, x], argTypes := #[t, u] })
    (base : Nat) (e : TypeId) (i : TypeInfo) (ht : P.underlying t = some (.slice e)) (hu : P.underlying u = some .string) (hi : P.info? e = some i) (hz : i.zero = some (.int .u8 0))
    (hsize : i.size = 1) (hby : i.bytes = 1)
    (v : Value) (n : Nat) (xs : List Value) (hs : a.eval sl = v) (hown : w.ownsRow base e 1 v n xs) (s : ByteArray) (hx : a.eval x = .string s)
    (h63 : n + s.size ≤ maxLen) (hbytes : n + s.size ≤ 140737488355328) (hbase : base ≤ w.heap.size)
    (h : ∀ v' w', w'.ownsRow base e 1 v' (n + s.size) (xs ++ strCells s) → w.grownBy w' v.ownBlock → (v'.ownBlock = v.ownBlock ∨ v'.ownBlock = some w.heap.size) → wpList P ops Q rest (a.put o.dst v') w') : wpList P ops Q (o :: rest) a w := by
  refine wpList_plain hgd fun K hK => ?_
  obtain ⟨v', w', hr, h2, h3, h4⟩ := run_append_string_at (P := P) w base t u o.type e i ht hu hi hz hsize hby v n xs hown s h63 hbytes hbase
  unfold Oper.wp execOp
  simp only [ho, resolve, invoke, builtin, Sem.run_bind, Sem.run_pure, Result.andThen_ok, List.map_toArray, List.map_cons, List.map_nil, hs, hx, hr]
  exact hK _ _ (h v' w' h2 h3 h4)

/-! What stands but for some blocks. -/
structure Kp (S : Nat → Prop) (w w' : World) : Prop where
  os : w'.os = w.os
  tape : w'.tape = w.tape
  output : w'.output = w.output
  size : w.heap.size ≤ w'.heap.size
  block : ∀ k, k < w.heap.size → ¬ S k → w'.heap[k]? = w.heap[k]?

theorem Kp.refl (S : Nat → Prop) (w : World) : Kp S w w := ⟨rfl, rfl, rfl, Nat.le_refl _, fun _ _ _ => rfl⟩
theorem Kp.trans {S : Nat → Prop} {a b c : World} (h : Kp S a b) (k : Kp S b c) : Kp S a c :=
  ⟨k.os.trans h.os, k.tape.trans h.tape, k.output.trans h.output, Nat.le_trans h.size k.size, fun j hj hS => (k.block j (Nat.lt_of_lt_of_le hj h.size) hS).trans (h.block j hj hS)⟩
/-- One step behind others: what the step turns is among S, or was not there at first. -/
theorem Kp.step {S T : Nat → Prop} {a b c : World} (h : Kp S a b) (k : Kp T b c) (hT : ∀ j, j < a.heap.size → T j → S j) : Kp S a c :=
  ⟨k.os.trans h.os, k.tape.trans h.tape, k.output.trans h.output, Nat.le_trans h.size k.size, fun j hj hS => (k.block j (Nat.lt_of_lt_of_le hj h.size) (fun ht => hS (hT j hj ht))).trans (h.block j hj hS)⟩
theorem Kp.of_below {S : Nat → Prop} {w w' : World} (h : Below w.heap.size w w') : Kp S w w' := ⟨h.os, h.tape, h.output, h.size, fun k hk _ => h.block k hk⟩
theorem Kp.of_grown {w w' : World} {row : Option Nat} (h : w.grownBy w' row) : Kp (fun k => some k = row) w w' := ⟨h.os, h.tape, h.output, h.size, fun k hk hS => h.block k hk hS⟩
theorem Kp.set (w : World) (g k : Nat) (v : Value) : Kp (fun j => j = g) w (w.setCell ⟨g, k, none⟩ v) :=
  ⟨rfl, rfl, rfl, by show _ ≤ (w.heap.modify g _).size; rw [Array.size_modify]; exact Nat.le_refl _, fun j hj hS => Below.heap_setCell w ⟨g, k, none⟩ v j hS⟩
theorem Kp.alloc {S : Nat → Prop} {a b : World} (h : Kp S a b) (o : Obj) : Kp S a (b.alloc o) := h.step (T := S) (Kp.of_below ((Below.refl _ _).alloc (Nat.le_refl _) _)) (fun _ _ h => h)
theorem Kp.same {S : Nat → Prop} {w W W' : World} (h : Kp S w W) (h1 : W'.heap = W.heap) (h2 : W'.os = W.os) (h3 : W'.tape = W.tape) (h4 : W'.output = W.output) : Kp S w W' :=
  ⟨h2.trans h.os, h3.trans h.tape, h4.trans h.output, by rw [h1]; exact h.size, by rw [h1]; exact h.block⟩
theorem Kp.fr {S : Nat → Prop} {i : Nat} {own own' : Nat → Nat} {w w' : World} (h : Kp S w w') (hS : ∀ k, k < w.heap.size → S k → own k = i) (ho : ∀ k, k < w.heap.size → own' k = own k) : Fr i own own' w w' :=
  ⟨h.os, h.tape, h.output, h.size, fun k hk hi => h.block k hk (fun hs => hi (hS k hk hs)), ho⟩
theorem Kp.blk {S : Nat → Prop} {w w' : World} (h : Kp S w w') {g : Nat} {o : Obj} (hg : w.heap[g]? = some o) (hS : ¬ S g) : w'.heap[g]? = some o := (h.block g (blk_lt hg) hS).trans hg
theorem Kp.row {S : Nat → Prop} {w w' : World} (h : Kp S w w') {e sz n : Nat} {v : Value} {xs : List Value} (hr : w.ownsRow 0 e sz v n xs) (hS : ∀ k, v.ownBlock = some k → ¬ S k) : w'.ownsRow 0 e sz v n xs := by
  refine ⟨hr.1, ?_⟩
  rcases hr.2 with h1 | ⟨g, cap, cur, rfl, h2, h3, h4⟩
  · exact .inl h1
  · exact .inr ⟨g, cap, cur, rfl, h2, h.blk h3 (hS g rfl), h4⟩
theorem Kp.tab {S : Nat → Prop} {w w' : World} (h : Kp S w w') (hT : Tab w) (hS : ¬ S 1) : Tab w' := by
  intro i hi
  obtain ⟨h0, h1, h2⟩ := hT i hi
  have hz := World.block_lt_of_cell? w _ h0
  have hb := h.block 1 hz hS
  exact ⟨(World.cell?_of_block hb).trans h0, (World.cell?_of_block hb).trans h1, (World.cell?_of_block hb).trans h2⟩
theorem Fr.tab {i : Nat} {own own' : Nat → Nat} {w w' : World} (h : Fr i own own' w w') (hT : Tab w) (h0 : own 1 ≠ i) : Tab w' := by
  intro j hj
  obtain ⟨a0, a1, a2⟩ := hT j hj
  exact ⟨h.cell a0 h0, h.cell a1 h0, h.cell a2 h0⟩
/-- A row's block is no block of another type. -/
theorem row_ne {w : World} {e sz n g : Nat} {v : Value} {xs : List Value} {cs : Array Value} {T : TypeId} {f : Nat × Nat} (hr : w.ownsRow 0 e sz v n xs) (hg : w.heap[g]? = some (.cells cs T f)) (hT : T ≠ e) : v.ownBlock ≠ some g := by
  intro h
  rcases hr.2 with ⟨rfl, _⟩ | ⟨b, cap, cur, rfl, _, h3, _⟩
  · cases h
  · simp only [Value.ownBlock, Option.some.injEq] at h
    subst h
    rw [hg] at h3
    injection h3 with h4
    injection h4 with _ h5
    exact hT h5
theorem row_shape {w : World} {e sz n : Nat} {v : Value} {xs : List Value} (hr : w.ownsRow 0 e sz v n xs) : ∃ p cap, v = .slice p n cap ∧ n ≤ cap ∧ cap ≤ maxLen := by
  rcases hr.2 with ⟨rfl, rfl⟩ | ⟨b, cap, cur, rfl, _, h3, h4, h5, _⟩
  · exact ⟨none, 0, rfl, Nat.le_refl _, Nat.zero_le _⟩
  · exact ⟨_, cap, rfl, h4, h5⟩
theorem row_below {w w' : World} {e sz n : Nat} {v : Value} {xs : List Value} (hr : w.ownsRow 0 e sz v n xs) (hb : Below w.heap.size w w') : w'.ownsRow 0 e sz v n xs :=
  (Kp.of_below (S := fun _ => False) hb).row hr (fun _ _ h => h)

/-! What was written: a text, and the blanks that stand ahead of its bytes. -/
def weave : Nat → List (Nat × Nat) → List UInt8 → List UInt8
  | f, [], t => t.drop f
  | f, (a, n) :: r, t => (t.drop f).take (a - f) ++ (List.replicate n 32 ++ weave a r t)
def Ups : Nat → List (Nat × Nat) → Nat → Prop
  | f, [], m => f ≤ m
  | f, (a, _) :: r, m => f ≤ a ∧ Ups a r m
def sums : List (Nat × Nat) → Nat
  | [] => 0
  | (_, n) :: r => n + sums r

theorem Ups.le {f : Nat} {gs : List (Nat × Nat)} {m : Nat} (h : Ups f gs m) : f ≤ m := by
  induction gs generalizing f with
  | nil => exact h
  | cons x r ih => obtain ⟨a, n⟩ := x; exact Nat.le_trans h.1 (ih h.2)
theorem Ups.more {f : Nat} {gs : List (Nat × Nat)} {m m' : Nat} (h : Ups f gs m) (hm : m ≤ m') : Ups f gs m' := by
  induction gs generalizing f with
  | nil => exact Nat.le_trans h hm
  | cons x r ih => obtain ⟨a, n⟩ := x; exact ⟨h.1, ih h.2⟩
theorem Ups.snoc {f : Nat} {gs : List (Nat × Nat)} {m : Nat} (n : Nat) (h : Ups f gs m) : Ups f (gs ++ [(m, n)]) m := by
  induction gs generalizing f with
  | nil => exact ⟨h, Nat.le_refl _⟩
  | cons x r ih => obtain ⟨a, n⟩ := x; exact ⟨h.1, ih h.2⟩
theorem weave_app {f : Nat} {gs : List (Nat × Nat)} {t : List UInt8} (s : List UInt8) (h : Ups f gs t.length) : weave f gs (t ++ s) = weave f gs t ++ s := by
  induction gs generalizing f with
  | nil => simp only [weave]; exact List.drop_append_of_le_length h
  | cons x r ih =>
    obtain ⟨a, n⟩ := x
    have ha := h.2.le
    simp only [weave]
    rw [ih h.2, List.drop_append_of_le_length (Nat.le_trans h.1 ha), List.take_append_of_le_length (by rw [List.length_drop]; have := h.1; omega)]
    simp [List.append_assoc]
theorem weave_gap {f : Nat} {gs : List (Nat × Nat)} {t : List UInt8} (n : Nat) (h : Ups f gs t.length) : weave f (gs ++ [(t.length, n)]) t = weave f gs t ++ List.replicate n 32 := by
  induction gs generalizing f with
  | nil => simp only [weave, List.nil_append]; rw [List.take_of_length_le (by simp), List.drop_length]; simp
  | cons x r ih =>
    obtain ⟨a, k⟩ := x
    simp only [weave, List.cons_append]
    rw [ih h.2]
    simp [List.append_assoc]
theorem weave_len {f : Nat} {gs : List (Nat × Nat)} {t : List UInt8} (h : Ups f gs t.length) : (weave f gs t).length = t.length - f + sums gs := by
  induction gs generalizing f with
  | nil => simp [weave, sums]
  | cons x r ih =>
    obtain ⟨a, k⟩ := x
    have ha := h.2.le
    have h1 := h.1
    simp only [weave, sums, List.length_append, List.length_replicate, List.length_take, List.length_drop, ih h.2]
    omega
theorem sums_app (a : List (Nat × Nat)) (x n : Nat) : sums (a ++ [(x, n)]) = sums a + n := by
  induction a with
  | nil => simp [sums]
  | cons y r ih => obtain ⟨b, k⟩ := y; simp only [List.cons_append, sums, ih]; omega
end Go.Proofs.YtfkegaencoodbaaDoor
