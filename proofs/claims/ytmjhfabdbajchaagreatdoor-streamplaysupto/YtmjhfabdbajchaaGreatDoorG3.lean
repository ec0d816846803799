import Derived.Test.YtmjhfabdbajchaaGreatDoorG0
import Derived.Test.YtmjhfabdbajchaaGreatDoorG2
import Derived.Maps.AppendAt
import Derived.Lib.AppendStr
import Derived.BigQuiet
import Derived.Defers
import Derived.Shelf.Strings.Builder1
import Derived.Shelf.Strings.Builder2
import Derived.Shelf.Strings.LastIndex
import Derived.Shelf.Strings.Repeat
import Derived.OwnWalk
set_option linter.unusedVariables false
set_option linter.unusedSimpArgs false
namespace Go.Proofs.YtmjhfabdbajchaaGreatDoor
open Go.RowKit
open Go.Lib (strCells strCells_length)

/-! Bytes as cells. -/
def bc (l : List UInt8) : List Value := l.map fun b => Value.int .u8 b.toNat
theorem bc_len (l : List UInt8) : (bc l).length = l.length := by simp [bc]
theorem bc_app (a b : List UInt8) : bc (a ++ b) = bc a ++ bc b := by simp [bc]
theorem bc_str (s : ByteArray) : strCells s = bc s.data.toList := rfl
theorem bc_get (l : List UInt8) (j : Nat) (x : UInt8) (h : l[j]? = some x) : (bc l)[j]? = some (.int .u8 x.toNat) := by simp [bc, h]
theorem bc_one (l : List UInt8) : ∀ u ∈ bc l, u.oneCell' = true := by
  intro u hu
  simp only [bc, List.mem_map] at hu
  obtain ⟨x, _, rfl⟩ := hu
  rfl
theorem bc_drop (l : List UInt8) (k : Nat) : (bc l).drop k = bc (l.drop k) := by simp [bc]
theorem bc_take (l : List UInt8) (k : Nat) : (bc l).take k = bc (l.take k) := by simp [bc]

/-! Where an append of a text puts the new row. -/
theorem run_append_string_at {P : Program} (w : World) (base : Nat) (t u ty e : TypeId) (i : TypeInfo) (ht : P.underlying t = some (.slice e)) (hu : P.underlying u = some .string) (hi : P.info? e = some i) (hz : i.zero = some (.int .u8 0))
    (hsize : i.size = 1) (hby : i.bytes = 1) (v : Value) (n : Nat) (xs : List Value) (hown : w.ownsRow base e 1 v n xs) (s : ByteArray)
    (h63 : n + s.size ≤ maxLen) (hbytes : n + s.size ≤ 140737488355328) (hbase : base ≤ w.heap.size) :
    ∃ v' w', (Builtin.append_ #[t, u] ty #[v, .string s]).run P w = .ok v' w' ∧ w'.ownsRow base e 1 v' (n + s.size) (xs ++ strCells s) ∧ w.grownBy w' v.ownBlock ∧ (v'.ownBlock = v.ownBlock ∨ v'.ownBlock = some w.heap.size) := by
  obtain ⟨v', w', hr, h1, h2, h3⟩ := Lib.run_append_own_string (P := P) w base t u ty e i ht hu hi hz hsize hby v n xs hown s h63 hbytes hbase
  refine ⟨v', w', hr, h1, h2, ?_⟩
  have hsmall : n + s.size ≤ 9223372036854775807 := by simp only [maxLen] at h63; omega
  have hxl : xs.length = n := by simpa using hown.1
  rcases hown.2 with ⟨rfl, rfl⟩ | ⟨g, cap, cur, rfl, hbg, hg, hnc, hcm, hcs, htake⟩
  · by_cases hm : s.size = 0
    · left; rw [h3.2 ⟨rfl, hm⟩]
    · have hr2 := run_append_nil_string (P := P) w t u ty e i (.int .u8 0) ht hu hi hz s (by omega) (by omega) (by rw [hby]; omega)
      rw [hr2] at hr
      injection hr with e1 e2
      right; rw [← e1]; rfl
  · by_cases hroom : n + s.size ≤ cap
    · have hcs' : cur.size = cap := by simpa using hcs
      have hr2 := Lib.run_append_room_string (P := P) w t u ty e i ht hu hi hsize g n cap cur hg s hroom (by omega)
      rw [hr2] at hr
      injection hr with e1 e2
      left; rw [← e1]; rfl
    · have holds : ∀ j u, xs[j]? = some u → w.cell? ((⟨g, 0, none⟩ : Addr).add j) = some u := hown.cells (g := g) rfl
      have hr2 := Lib.run_append_grow_string (P := P) w t u ty e i (.int .u8 0) ht hu hi hz ⟨g, 0, none⟩ n cap xs (by rw [hsize]; simpa using hxl) holds s (by omega) (by omega) (by rw [hby]; exact growslice_fits (by omega) (by omega))
      rw [hr2] at hr
      injection hr with e1 e2
      right; rw [← e1]; rfl

theorem wpList_append_string_at {P : Program} {w : World} {ops : Array Oper} {rest : List Oper} {o : Oper} {a : Act} {Q : Exit → Act → World → Prop} (hgd : o.guard = none) (sl x : Operand) (t u : TypeId)
    (ho : o.op = .call { callee := .builtin .append, args := #[sl, x], argTypes := #[t, u] })
    (base : Nat) (e : TypeId) (i : TypeInfo) (ht : P.underlying t = some (.slice e)) (hu : P.underlying u = some .string) (hi : P.info? e = some i) (hz : i.zero = some (.int .u8 0))
    (hsize : i.size = 1) (hby : i.bytes = 1)
    (v : Value) (n : Nat) (xs : List Value) (hs : a.eval sl = v) (hown : w.ownsRow base e 1 v n xs) (s : ByteArray) (hx : a.eval x = .string s)
    (h63 : n + s.size ≤ maxLen) (hbytes : n + s.size ≤ 140737488355328) (hbase : base ≤ w.heap.size)
    (h : ∀ v' w', w'.ownsRow base e 1 v' (n + s.size) (xs ++ strCells s) → w.grownBy w' v.ownBlock → (v'.ownBlock = v.ownBlock ∨ v'.ownBlock = some w.heap.size) → wpList P ops Q rest (a.put o.dst v') w') : wpList P ops Q (o :: rest) a w := by
  refine wpList_plain hgd fun K hK => ?_
  obtain ⟨v', w', hr, h2, h3, h4⟩ := run_append_string_at (P := P) w base t u o.type e i ht hu hi hz hsize hby v n xs hown s h63 hbytes hbase
  unfold Oper.wp execOp
  simp only [ho, resolve, invoke, builtin, Sem.run_bind, Sem.run_pure, Result.andThen_ok, List.map_toArray, List.map_cons, List.map_nil, hs, hx, hr]
  exact hK _ _ (h v' w' h2 h3 h4)

/-! What stands but for some blocks. -/
structure Kp (S : Nat → Prop) (w w' : World) : Prop where
  os : w'.os = w.os
  tape : w'.tape = w.tape
  output : w'.output = w.output
  size : w.heap.size ≤ w'.heap.size
  block : ∀ k, k < w.heap.size → ¬ S k → w'.heap[k]? = w.heap[k]?

theorem Kp.refl (S : Nat → Prop) (w : World) : Kp S w w := ⟨rfl, rfl, rfl, Nat.le_refl _, fun _ _ _ => rfl⟩
theorem Kp.trans {S : Nat → Prop} {a b c : World} (h : Kp S a b) (k : Kp S b c) : Kp S a c :=
  ⟨k.os.trans h.os, k.tape.trans h.tape, k.output.trans h.output, Nat.le_trans h.size k.size, fun j hj hS => (k.block j (Nat.lt_of_lt_of_le hj h.size) hS).trans (h.block j hj hS)⟩
/-- One step behind others: what the step turns is among S, or was not there at first. -/
theorem Kp.step {S T : Nat → Prop} {a b c : World} (h : Kp S a b) (k : Kp T b c) (hT : ∀ j, j < a.heap.size → T j → S j) : Kp S a c :=
  ⟨k.os.trans h.os, k.tape.trans h.tape, k.output.trans h.output, Nat.le_trans h.size k.size, fun j hj hS => (k.block j (Nat.lt_of_lt_of_le hj h.size) (fun ht => hS (hT j hj ht))).trans (h.block j hj hS)⟩
theorem Kp.of_below {S : Nat → Prop} {w w' : World} (h : Below w.heap.size w w') : Kp S w w' := ⟨h.os, h.tape, h.output, h.size, fun k hk _ => h.block k hk⟩
theorem Kp.of_grown {w w' : World} {row : Option Nat} (h : w.grownBy w' row) : Kp (fun k => some k = row) w w' := ⟨h.os, h.tape, h.output, h.size, fun k hk hS => h.block k hk hS⟩
theorem Kp.set (w : World) (g k : Nat) (v : Value) : Kp (fun j => j = g) w (w.setCell ⟨g, k, none⟩ v) :=
  ⟨rfl, rfl, rfl, by show _ ≤ (w.heap.modify g _).size; rw [Array.size_modify]; exact Nat.le_refl _, fun j hj hS => Below.heap_setCell w ⟨g, k, none⟩ v j hS⟩
theorem Kp.alloc {S : Nat → Prop} {a b : World} (h : Kp S a b) (o : Obj) : Kp S a (b.alloc o) := h.step (T := S) (Kp.of_below ((Below.refl _ _).alloc (Nat.le_refl _) _)) (fun _ _ h => h)
theorem Kp.same {S : Nat → Prop} {w W W' : World} (h : Kp S w W) (h1 : W'.heap = W.heap) (h2 : W'.os = W.os) (h3 : W'.tape = W.tape) (h4 : W'.output = W.output) : Kp S w W' :=
  ⟨h2.trans h.os, h3.trans h.tape, h4.trans h.output, by rw [h1]; exact h.size, by rw [h1]; exact h.block⟩
theorem Kp.fr {S : Nat → Prop} {i : Nat} {own own' : Nat → Nat} {w w' : World} (h : Kp S w w') (hS : ∀ k, k < w.heap.size → S k → own k = i) (ho : ∀ k, k < w.heap.size → own' k = own k) : Fr i own own' w w' :=
  ⟨h.os, h.tape, h.output, h.size, fun k hk hi => h.block k hk (fun hs => hi (hS k hk hs)), ho⟩
theorem Kp.blk {S : Nat → Prop} {w w' : World} (h : Kp S w w') {g : Nat} {o : Obj} (hg : w.heap[g]? = some o) (hS : ¬ S g) : w'.heap[g]? = some o := (h.block g (blk_lt hg) hS).trans hg
theorem Kp.row {S : Nat → Prop} {w w' : World} (h : Kp S w w') {e sz n : Nat} {v : Value} {xs : List Value} (hr : w.ownsRow 0 e sz v n xs) (hS : ∀ k, v.ownBlock = some k → ¬ S k) : w'.ownsRow 0 e sz v n xs := by
  refine ⟨hr.1, ?_⟩
  rcases hr.2 with h1 | ⟨g, cap, cur, rfl, h2, h3, h4⟩
  · exact .inl h1
  · exact .inr ⟨g, cap, cur, rfl, h2, h.blk h3 (hS g rfl), h4⟩
theorem Kp.tab {S : Nat → Prop} {w w' : World} (h : Kp S w w') (hT : Tab w) (hS : ¬ S 1) : Tab w' := by
  intro i hi
  obtain ⟨h0, h1, h2⟩ := hT i hi
  have hz := World.block_lt_of_cell? w _ h0
  have hb := h.block 1 hz hS
  exact ⟨(World.cell?_of_block hb).trans h0, (World.cell?_of_block hb).trans h1, (World.cell?_of_block hb).trans h2⟩
theorem Fr.tab {i : Nat} {own own' : Nat → Nat} {w w' : World} (h : Fr i own own' w w') (hT : Tab w) (h0 : own 1 ≠ i) : Tab w' := by
  intro j hj
  obtain ⟨a0, a1, a2⟩ := hT j hj
  exact ⟨h.cell a0 h0, h.cell a1 h0, h.cell a2 h0⟩
/-- A row's block is no block of another type. -/
theorem row_ne {w : World} {e sz n g : Nat} {v : Value} {xs : List Value} {cs : Array Value} {T : TypeId} {f : Nat × Nat} (hr : w.ownsRow 0 e sz v n xs) (hg : w.heap[g]? = some (.cells cs T f)) (hT : T ≠ e) : v.ownBlock ≠ some g := by
  intro h
  rcases hr.2 with ⟨rfl, _⟩ | ⟨b, cap, cur, rfl, _, h3, _⟩
  · cases h
  · simp only [Value.ownBlock, Option.some.injEq] at h
    subst h
    rw [hg] at h3
    injection h3 with h4
    injection h4 with _ h5
    exact hT h5
theorem row_shape {w : World} {e sz n : Nat} {v : Value} {xs : List Value} (hr : w.ownsRow 0 e sz v n xs) : ∃ p cap, v = .slice p n cap ∧ n ≤ cap ∧ cap ≤ maxLen := by
  rcases hr.2 with ⟨rfl, rfl⟩ | ⟨b, cap, cur, rfl, _, h3, h4, h5, _⟩
  · exact ⟨none, 0, rfl, Nat.le_refl _, Nat.zero_le _⟩
  · exact ⟨_, cap, rfl, h4, h5⟩
theorem row_below {w w' : World} {e sz n : Nat} {v : Value} {xs : List Value} (hr : w.ownsRow 0 e sz v n xs) (hb : Below w.heap.size w w') : w'.ownsRow 0 e sz v n xs :=
  (Kp.of_below (S := fun _ => False) hb).row hr (fun _ _ h => h)

/-! What was written: a text, and the blanks that stand ahead of its bytes. -/
def weave : Nat → List (Nat × Nat) → List UInt8 → List UInt8
  | f, [], t => t.drop f
  | f, (a, n) :: r, t => (t.drop f).take (a - f) ++ (List.replicate n 32 ++ weave a r t)
def Ups : Nat → List (Nat × Nat) → Nat → Prop
  | f, [], m => f ≤ m
  | f, (a, _) :: r, m => f ≤ a ∧ Ups a r m
def sums : List (Nat × Nat) → Nat
  | [] => 0
  | (_, n) :: r => n + sums r

theorem Ups.le {f : Nat} {gs : List (Nat × Nat)} {m : Nat} (h : Ups f gs m) : f ≤ m := by
  induction gs generalizing f with
  | nil => exact h
  | cons x r ih => obtain ⟨a, n⟩ := x; exact Nat.le_trans h.1 (ih h.2)
theorem Ups.more {f : Nat} {gs : List (Nat × Nat)} {m m' : Nat} (h : Ups f gs m) (hm : m ≤ m') : Ups f gs m' := by
  induction gs generalizing f with
  | nil => exact Nat.le_trans h hm
  | cons x r ih => obtain ⟨a, n⟩ := x; exact ⟨h.1, ih h.2⟩
theorem Ups.snoc {f : Nat} {gs : List (Nat × Nat)} {m : Nat} (n : Nat) (h : Ups f gs m) : Ups f (gs ++ [(m, n)]) m := by
  induction gs generalizing f with
  | nil => exact ⟨h, Nat.le_refl _⟩
  | cons x r ih => obtain ⟨a, n⟩ := x; exact ⟨h.1, ih h.2⟩
theorem weave_app {f : Nat} {gs : List (Nat × Nat)} {t : List UInt8} (s : List UInt8) (h : Ups f gs t.length) : weave f gs (t ++ s) = weave f gs t ++ s := by
  induction gs generalizing f with
  | nil => simp only [weave]; exact List.drop_append_of_le_length h
  | cons x r ih =>
    obtain ⟨a, n⟩ := x
    have ha := h.2.le
    simp only [weave]
    rw [ih h.2, List.drop_append_of_le_length (Nat.le_trans h.1 ha), List.take_append_of_le_length (by rw [List.length_drop]; have := h.1; omega)]
    simp [List.append_assoc]
theorem weave_gap {f : Nat} {gs : List (Nat × Nat)} {t : List UInt8} (n : Nat) (h : Ups f gs t.length) : weave f (gs ++ [(t.length, n)]) t = weave f gs t ++ List.replicate n 32 := by
  induction gs generalizing f with
  | nil => simp only [weave, List.nil_append]; rw [List.take_of_length_le (by simp), List.drop_length]; simp
  | cons x r ih =>
    obtain ⟨a, k⟩ := x
    simp only [weave, List.cons_append]
    rw [ih h.2]
    simp [List.append_assoc]
theorem weave_len {f : Nat} {gs : List (Nat × Nat)} {t : List UInt8} (h : Ups f gs t.length) : (weave f gs t).length = t.length - f + sums gs := by
  induction gs generalizing f with
  | nil => simp [weave, sums]
  | cons x r ih =>
    obtain ⟨a, k⟩ := x
    have ha := h.2.le
    have h1 := h.1
    simp only [weave, sums, List.length_append, List.length_replicate, List.length_take, List.length_drop, ih h.2]
    omega
theorem sums_app (a : List (Nat × Nat)) (x n : Nat) : sums (a ++ [(x, n)]) = sums a + n := by
  induction a with
  | nil => simp [sums]
  | cons y r ih => obtain ⟨b, k⟩ := y; simp only [List.cons_append, sums, ih]; omega
end Go.Proofs.YtmjhfabdbajchaaGreatDoor
set_option linter.unusedVariables false
set_option linter.unusedSimpArgs false
namespace Go.Proofs.YtmjhfabdbajchaaGreatDoor
open Go.RowKit
open Go.Lib (strCells strCells_length)

theorem Tryz.info5 : (Tryz.prog.info? 5).map (fun i => (i.zero, i.size, i.bytes)) = some (some (.int .u8 0), 1, 1) := by kernel_rfl
theorem Tryz.info113 : (Tryz.prog.info? 113).map (fun i => (i.zero, i.size, i.bytes)) = some (some (.agg #[.int .i64 0, .int .i64 0]), 2, 16) := by kernel_rfl

def eg (x : Nat × Nat) : List Value := [.int .i64 x.1, .int .i64 x.2]
theorem eg_len (x : Nat × Nat) : (eg x).length = 2 := rfl

/-- The closure that gathers a text. -/
theorem cl_text (c : Nat) (v : Value) (n : Nat) (xs : List Value) (t : ByteArray) (w : World) (hc : w.heap[c]? = some (.cells #[v] 46 (0, 0))) (ho : w.ownsRow 0 5 1 v n xs) (hn : n + t.size ≤ 70368744177664) :
    Calls Tryz.prog 115 #[.string t, .pointer (some ⟨c, 0, none⟩)] w fun e w' => e = .returned (.tuple #[]) ∧ ∃ v', w'.heap[c]? = some (.cells #[v'] 46 (0, 0)) ∧ w'.ownsRow 0 5 1 v' (n + t.size) (xs ++ strCells t) ∧ (v'.ownBlock = v.ownBlock ∨ v'.ownBlock = some w.heap.size) ∧ Kp (fun k => k = c ∨ some k = v.ownBlock) w w' := by
  obtain ⟨i0, hi, hz0, hz1, hz2⟩ := info_parts Tryz.info5
  have hne := row_ne ho hc (by decide)
  have hcl := blk_lt hc
  have c0 : w.cell? ⟨c, 0, none⟩ = some v := blk_cell hc rfl
  obtain ⟨p, cap, rfl, _, _⟩ := row_shape ho
  go_enter Tryz.func115, Tryz.ntmps115
  go_wp2_with (first | (at_builtin; refine wpList_append_string_at (P := Tryz.prog) (w := w) rfl _ _ 46 9 rfl 0 5 i0 Tryz.underlying46 Tryz.underlying9 hi hz0 hz1 hz2 _ _ _ rfl ho t rfl ?c3 ?c4 ?c5 ?_))
  case c3 => unfold maxLen; omega
  case c4 => omega
  case c5 => omega
  intro v2 w2 ho2 hg2 hat
  have hk := Kp.of_grown hg2
  have hc2 : w2.heap[c]? = some (.cells #[.slice p n cap] 46 (0, 0)) := hk.blk hc (fun h => hne h.symm)
  have d0 : w2.cell? ⟨c, 0, none⟩ = some (.slice p n cap) := blk_cell hc2 rfl
  have f0 : w2.frozen? ⟨c, 0, none⟩ = false := blk_frozen hc2
  have hne2 := row_ne ho2 hc2 (by decide)
  obtain ⟨p2, cap2, rfl, _, _⟩ := row_shape ho2
  have HE : Hid ((w2.setCell ⟨c, 0, none⟩ (.slice p2 (n + t.size) cap2)).heap[c]? = some (.cells #[.slice p2 (n + t.size) cap2] 46 (0, 0)) ∧ (w2.setCell ⟨c, 0, none⟩ (.slice p2 (n + t.size) cap2)).ownsRow 0 5 1 (.slice p2 (n + t.size) cap2) (n + t.size) (xs ++ strCells t) ∧ ((Value.slice p2 (n + t.size) cap2).ownBlock = (Value.slice p n cap).ownBlock ∨ (Value.slice p2 (n + t.size) cap2).ownBlock = some w.heap.size) ∧ Kp (fun k => k = c ∨ some k = (Value.slice p n cap).ownBlock) w (w2.setCell ⟨c, 0, none⟩ (.slice p2 (n + t.size) cap2))) := by
    refine ⟨blk_set hc2 0 _, (Kp.set w2 c 0 _).row ho2 (fun k h1 h2 => hne2 (by rw [h1, h2])), hat, ?_⟩
    exact (Kp.step (S := fun k => k = c ∨ some k = (Value.slice p n cap).ownBlock) (Kp.refl _ _) hk (fun j _ h => .inr h)).step (Kp.set w2 c 0 _) (fun j _ h => .inl h)
  clear hk hg2 ho2 hat hne hne2 hc2
  go_wp2_with fail
  go_end0
  exact ⟨rfl, _, HE.out⟩

/-- The closure that gathers blanks. -/
theorem cl_none (m : Int) (d c : Nat) (w : World) (hm : m ≤ 0) :
    Calls Tryz.prog 114 #[.int .i64 m, .pointer (some ⟨d, 0, none⟩), .pointer (some ⟨c, 0, none⟩)] w fun e w' => e = .returned (.tuple #[]) ∧ w' = w := by
  have q : decide (0 < m) = false := by simp; omega
  go_enter Tryz.func114, Tryz.ntmps114
  go_wp2_with fail
  go_end0
  exact ⟨rfl, rfl⟩

theorem two_new (W : World) (a b : Value) (t n : Nat) (h : n = W.heap.size) : ∀ j u, [a, b][j]? = some u → (W.alloc (.cells #[a, b] t)).cell? ((⟨n, 0, none⟩ : Addr).add j) = some u := by
  subst h
  intro j u hj
  match j, hj with
  | 0, hj => simp at hj; subst hj; simp [Addr.add]
  | 1, hj => simp at hj; subst hj; simp [Addr.add]

theorem cl_blanks (m : Nat) (d c : Nat) (v : Value) (tv : Value) (n l : Nat) (xs : List Value) (w : World) (hc : w.heap[c]? = some (.cells #[tv] 46 (0, 0))) (htv : ∃ p cap, tv = .slice p l cap) (hd : w.heap[d]? = some (.cells #[v] 103 (0, 0))) (ho : w.ownsRow 0 113 2 v n xs) (hn : n ≤ 1073741824) (hm : 0 < m) (hm2 : m ≤ 9223372036854775807) (hl : l ≤ 9223372036854775807) :
    Calls Tryz.prog 114 #[.int .i64 m, .pointer (some ⟨d, 0, none⟩), .pointer (some ⟨c, 0, none⟩)] w fun e w' => e = .returned (.tuple #[]) ∧ ∃ v', w'.heap[d]? = some (.cells #[v'] 103 (0, 0)) ∧ w'.ownsRow 0 113 2 v' (n + 1) (xs ++ eg (l, m)) ∧ (v'.ownBlock = v.ownBlock ∨ ∃ b, w.heap.size ≤ b ∧ v'.ownBlock = some b) ∧ Kp (fun k => k = d ∨ some k = v.ownBlock) w w' := by
  obtain ⟨i0, hi, hz0, hz1, hz2⟩ := info_parts Tryz.info113
  have q : decide (0 < (m : Int)) = true := by simp; omega
  have hne := row_ne ho hd (by decide)
  have hdl := blk_lt hd
  have c0 : w.cell? ⟨c, 0, none⟩ = some tv := blk_cell hc rfl
  have d0 : w.cell? ⟨d, 0, none⟩ = some v := blk_cell hd rfl
  have hcl := blk_lt hc
  obtain ⟨tp, tcap, rfl⟩ := htv
  obtain ⟨p, cap, rfl, _, _⟩ := row_shape ho
  go_enter Tryz.func114, Tryz.ntmps114
  go_wp2_with (first | (at_builtin; refine wpList_append_own_at (P := Tryz.prog) (w := w.alloc (.cells #[.int .i64 l, .int .i64 m] 113)) rfl _ _ 103 rfl 0 113 i0 (.agg #[.int .i64 0, .int .i64 0]) 2 16 Tryz.underlying103 hi hz0 hz1 hz2 rfl (by decide) _ _ _ rfl (row_below ho ((Below.refl _ _).alloc (Nat.le_refl _) _)) ⟨w.heap.size, 0, none⟩ 1 1 (eg (l, m)) rfl rfl ?c1 ?c2 ?c3 ?c4 ?c5 ?_))
  case c1 => exact two_new _ _ _ _ _ rfl
  case c2 => intro u hu; simp [eg] at hu; rcases hu with rfl | rfl <;> rfl
  case c3 => unfold maxLen; omega
  case c4 => omega
  case c5 => omega
  intro v2 w2 ho2 hg2 _ hat
  have hk := Kp.step (S := fun k => k = d ∨ some k = (Value.slice p n cap).ownBlock) ((Kp.refl _ _).alloc (.cells #[.int .i64 l, .int .i64 m] 113)) (Kp.of_grown hg2) (fun j _ h => .inr h)
  have hk' := Kp.step (S := fun k => some k = (Value.slice p n cap).ownBlock) ((Kp.refl _ _).alloc (.cells #[.int .i64 l, .int .i64 m] 113)) (Kp.of_grown hg2) (fun j _ h => h)
  have hd2 : w2.heap[d]? = some (.cells #[.slice p n cap] 103 (0, 0)) := hk'.blk hd (fun h => hne h.symm)
  have e0 : w2.cell? ⟨d, 0, none⟩ = some (.slice p n cap) := blk_cell hd2 rfl
  have f0 : w2.frozen? ⟨d, 0, none⟩ = false := blk_frozen hd2
  have hne2 := row_ne ho2 hd2 (by decide)
  obtain ⟨p2, cap2, rfl, _, _⟩ := row_shape ho2
  have HE : Hid ((w2.setCell ⟨d, 0, none⟩ (.slice p2 (n + 1) cap2)).heap[d]? = some (.cells #[.slice p2 (n + 1) cap2] 103 (0, 0)) ∧ (w2.setCell ⟨d, 0, none⟩ (.slice p2 (n + 1) cap2)).ownsRow 0 113 2 (.slice p2 (n + 1) cap2) (n + 1) (xs ++ eg (l, m)) ∧ ((Value.slice p2 (n + 1) cap2).ownBlock = (Value.slice p n cap).ownBlock ∨ ∃ b, w.heap.size ≤ b ∧ (Value.slice p2 (n + 1) cap2).ownBlock = some b) ∧ Kp (fun k => k = d ∨ some k = (Value.slice p n cap).ownBlock) w (w2.setCell ⟨d, 0, none⟩ (.slice p2 (n + 1) cap2))) := by
    refine ⟨blk_set hd2 0 _, (Kp.set w2 d 0 _).row ho2 (fun k h1 h2 => hne2 (by rw [h1, h2])), ?_, ?_⟩
    · rcases hat with h | h
      · exact .inl h
      · exact .inr ⟨_, by have := World.size_alloc w (.cells #[.int .i64 l, .int .i64 m] 113); omega, h⟩
    · exact hk.step (Kp.set w2 d 0 _) (fun j _ h => .inl h)
  clear hk hk' hg2 ho2 hat hne hne2 hd2
  go_wp2_with fail
  go_end0
  exact ⟨rfl, _, HE.out⟩
end Go.Proofs.YtmjhfabdbajchaaGreatDoor
set_option linter.unusedVariables false
set_option linter.unusedSimpArgs false
namespace Go.Proofs.YtmjhfabdbajchaaGreatDoor
open Go.RowKit
open Go.Lib (strCells strCells_length)

/-- The sink's block. -/
def sk (b : Bool) (col wait : Int) (tv gv : Value) : Array Value := #[.bool b, .int .i64 col, .int .i64 wait, tv, gv]

theorem alloc_at (w : World) (o : Obj) (g : Nat) (x : Obj) (h : w.heap[g]? = some x) : (w.alloc o).heap[g]? = some x := (((Below.refl _ w).alloc (Nat.le_refl _) o).block g (blk_lt h)).trans h
theorem cell_a1 {w : World} {a : Addr} {v : Value} (h : w.cell? a = some v) : ∀ o, (w.alloc o).cell? a = some v := fun o => (((Below.refl _ w).alloc (Nat.le_refl _) o).cell (World.block_lt_of_cell? w a h)).trans h
theorem cell_a2 {w : World} {a : Addr} {v : Value} (h : w.cell? a = some v) : ∀ o p, ((w.alloc o).alloc p).cell? a = some v := fun o p => cell_a1 (cell_a1 h o) p
theorem cell_a3 {w : World} {a : Addr} {v : Value} (h : w.cell? a = some v) : ∀ o p q, (((w.alloc o).alloc p).alloc q).cell? a = some v := fun o p q => cell_a1 (cell_a2 h o p) q

set_option maxHeartbeats 1000000 in
theorem cl_end (u : FrameMode) (b b' : Bool) (col wait col' wait' : Int) (c d h g : Nat) (tv gv tv' gv' : Value) (w : World)
    (hg : w.heap[g]? = some (.cells (sk b col wait tv gv) 105 (0, 0))) (hc : w.heap[c]? = some (.cells #[tv'] 46 (0, 0))) (hd : w.heap[d]? = some (.cells #[gv'] 103 (0, 0))) (hh : w.heap[h]? = some (.cells #[.pointer (some ⟨g, 0, none⟩)] 59 (0, 0)))
    (htv : ∃ p n cap, tv = .slice p n cap) (hgv : ∃ p n cap, gv = .slice p n cap) (htv' : ∃ p n cap, tv' = .slice p n cap) (hgv' : ∃ p n cap, gv' = .slice p n cap) :
    CallsD Tryz.prog 116 #[.agg #[.bool b', .int .i64 col', .int .i64 wait'], .pointer (some ⟨c, 0, none⟩), .pointer (some ⟨d, 0, none⟩), .pointer (some ⟨h, 0, none⟩)] u w fun e u' w' => u' = u ∧ (e = .returned (.tuple #[]) ∧ w'.heap[g]? = some (.cells (sk b' col' wait' tv' gv') 105 (0, 0)) ∧ Kp (fun k => k = g) w w') := by
  have gl := blk_lt hg
  have cl := blk_lt hc
  have dl := blk_lt hd
  have hl := blk_lt hh
  have g0 : w.cell? ⟨g, 0, none⟩ = some (.bool b) := blk_cell hg rfl
  have g1 : w.cell? ⟨g, 1, none⟩ = some (.int .i64 col) := blk_cell hg rfl
  have g2 : w.cell? ⟨g, 2, none⟩ = some (.int .i64 wait) := blk_cell hg rfl
  have g3 : w.cell? ⟨g, 3, none⟩ = some tv := blk_cell hg rfl
  have g4 : w.cell? ⟨g, 4, none⟩ = some gv := blk_cell hg rfl
  have f0 : w.frozen? ⟨g, 0, none⟩ = false := blk_frozen hg
  have f1 : w.frozen? ⟨g, 1, none⟩ = false := blk_frozen hg
  have f2 : w.frozen? ⟨g, 2, none⟩ = false := blk_frozen hg
  have f3 : w.frozen? ⟨g, 3, none⟩ = false := blk_frozen hg
  have f4 : w.frozen? ⟨g, 4, none⟩ = false := blk_frozen hg
  have c0 : w.cell? ⟨c, 0, none⟩ = some tv' := blk_cell hc rfl
  have d0 : w.cell? ⟨d, 0, none⟩ = some gv' := blk_cell hd rfl
  have h0 : w.cell? ⟨h, 0, none⟩ = some (.pointer (some ⟨g, 0, none⟩)) := blk_cell hh rfl
  obtain ⟨p1, n1, k1, rfl⟩ := htv
  obtain ⟨p2, n2, k2, rfl⟩ := hgv
  obtain ⟨p3, n3, k3, rfl⟩ := htv'
  obtain ⟨p4, n4, k4, rfl⟩ := hgv'
  go_enter_d Tryz.func116, Tryz.ntmps116
  go_wp2_with fail
  go_region
  go_wp2_with fail
  go_end0
  refine ⟨rfl, ?_, ?_⟩
  · refine (alloc_at _ _ _ _ ?_)
    exact blk_set (blk_set (blk_set (blk_set (blk_set hg 3 _) 4 _) 0 _) 1 _) 2 _
  · refine Kp.same (W := (((((w.setCell ⟨g, 3, none⟩ (.slice p3 n3 k3)).setCell ⟨g, 4, none⟩ (.slice p4 n4 k4)).setCell ⟨g, 0, none⟩ (.bool b')).setCell ⟨g, 1, none⟩ (.int .i64 col')).setCell ⟨g, 2, none⟩ (.int .i64 wait')).alloc (.cells #[.bool b', .int .i64 col', .int .i64 wait'] 102)) ?_ rfl rfl rfl rfl
    refine Kp.alloc ?_ _
    exact (((((Kp.refl _ w).trans (Kp.set _ _ _ _)).trans (Kp.set _ _ _ _)).trans (Kp.set _ _ _ _)).trans (Kp.set _ _ _ _)).trans (Kp.set _ _ _ _)

end Go.Proofs.YtmjhfabdbajchaaGreatDoor
set_option linter.unusedVariables false
set_option linter.unusedSimpArgs false
namespace Go.Proofs.YtmjhfabdbajchaaGreatDoor
open Go.RowKit Go.Shelf
open Go.Lib (strCells strCells_length)

def Tryz.lays169_ren : Go.Shelf.Ren := ⟨fun | 169 => 56 | n => n, fun | 70 => 109 | 9 => 9 | 0 => 0 | 72 => 111 | 37 => 46 | 127 => 150 | 3 => 3 | 5 => 5 | n => n, fun | n => n⟩

theorem Tryz.lays169 : Go.Proofs.Lays.n169 Tryz.prog Tryz.lays169_ren := {
  mixed := by kernel_rfl
  f169 := Tryz.func56.trans (congrArg some (by kernel_rfl))
  t0 := Tryz.underlying0
  a0 := Tryz.isAgg0
  z0 := Tryz.sizeOf0
  v0 := Tryz.zeroValue0
  t3 := Tryz.underlying3
  a3 := Tryz.isAgg3
  z3 := Tryz.sizeOf3
  v3 := Tryz.zeroValue3
  t9 := Tryz.underlying9
  a9 := Tryz.isAgg9
  z9 := Tryz.sizeOf9
  v9 := Tryz.zeroValue9
  t37 := Tryz.underlying46
  a37 := Tryz.isAgg46
  z37 := Tryz.sizeOf46
  v37 := Tryz.zeroValue46
  t70 := Tryz.underlying109
  a70 := Tryz.isAgg109
  z70 := Tryz.sizeOf109
  v70 := Tryz.zeroValue109
  t72 := Tryz.underlying111
  a72 := Tryz.isAgg111
  z72 := Tryz.sizeOf111
  v72 := Tryz.zeroValue111
  t127 := Tryz.underlying150
  a127 := Tryz.isAgg150
  z127 := Tryz.sizeOf150
  v127 := Tryz.zeroValue150 }

theorem Tryz.Builder_Extra_169 : Builder.Extra Tryz.prog Tryz.lays169_ren := {
  sizeBuilder := by kernel_rfl
  liesBuilder := by kernel_rfl
  t5 := Tryz.underlying5
  a5 := Tryz.isAgg5
  z5 := Tryz.sizeOf5
  v5 := Tryz.zeroValue5
  infoByte := by kernel_rfl
  cellsByte := by kernel_rfl
  sizeByte := by kernel_rfl
  neB5 := by decide }

def Tryz.lays165_ren : Go.Shelf.Ren := ⟨fun | 165 => 51 | 240 => 83 | 241 => 84 | 276 => 118 | 277 => 119 | n => n, fun | 70 => 109 | 3 => 3 | 0 => 0 | 4 => 4 | 9 => 9 | 20 => 20 | 72 => 111 | 37 => 46 | 164 => 165 | 5 => 5 | n => n, fun | n => n⟩

theorem Tryz.lays165 : Go.Proofs.Lays.n165 Tryz.prog Tryz.lays165_ren := {
  mixed := by kernel_rfl
  f165 := Tryz.func51.trans (congrArg some (by kernel_rfl))
  f240 := Tryz.func83.trans (congrArg some (by kernel_rfl))
  f241 := Tryz.func84.trans (congrArg some (by kernel_rfl))
  f276 := Tryz.func118.trans (congrArg some (by kernel_rfl))
  f277 := Tryz.func119.trans (congrArg some (by kernel_rfl))
  t0 := Tryz.underlying0
  a0 := Tryz.isAgg0
  z0 := Tryz.sizeOf0
  v0 := Tryz.zeroValue0
  t3 := Tryz.underlying3
  a3 := Tryz.isAgg3
  z3 := Tryz.sizeOf3
  v3 := Tryz.zeroValue3
  t4 := Tryz.underlying4
  a4 := Tryz.isAgg4
  z4 := Tryz.sizeOf4
  v4 := Tryz.zeroValue4
  t9 := Tryz.underlying9
  a9 := Tryz.isAgg9
  z9 := Tryz.sizeOf9
  v9 := Tryz.zeroValue9
  t20 := Tryz.underlying20
  a20 := Tryz.isAgg20
  z20 := Tryz.sizeOf20
  v20 := Tryz.zeroValue20
  t37 := Tryz.underlying46
  a37 := Tryz.isAgg46
  z37 := Tryz.sizeOf46
  v37 := Tryz.zeroValue46
  t70 := Tryz.underlying109
  a70 := Tryz.isAgg109
  z70 := Tryz.sizeOf109
  v70 := Tryz.zeroValue109
  t72 := Tryz.underlying111
  a72 := Tryz.isAgg111
  z72 := Tryz.sizeOf111
  v72 := Tryz.zeroValue111
  t164 := Tryz.underlying165
  a164 := Tryz.isAgg165
  z164 := Tryz.sizeOf165
  v164 := Tryz.zeroValue165 }

theorem Tryz.Builder_Extra_165 : Builder.Extra Tryz.prog Tryz.lays165_ren := {
  sizeBuilder := by kernel_rfl
  liesBuilder := by kernel_rfl
  t5 := Tryz.underlying5
  a5 := Tryz.isAgg5
  z5 := Tryz.sizeOf5
  v5 := Tryz.zeroValue5
  infoByte := by kernel_rfl
  cellsByte := by kernel_rfl
  sizeByte := by kernel_rfl
  neB5 := by decide }

def Tryz.lays148_ren : Go.Shelf.Ren := ⟨fun | 148 => 117 | 222 => 141 | 223 => 142 | 269 => 148 | n => n, fun | 9 => 9 | 3 => 3 | 4 => 4 | 5 => 5 | 146 => 169 | 51 => 168 | 46 => 146 | n => n, fun | n => n⟩

theorem Tryz.lays148 : Go.Proofs.Lays.n148 Tryz.prog Tryz.lays148_ren := {
  mixed := by kernel_rfl
  f148 := Tryz.func117.trans (congrArg some (by kernel_rfl))
  f222 := Tryz.func141.trans (congrArg some (by kernel_rfl))
  f223 := Tryz.func142.trans (congrArg some (by kernel_rfl))
  f269 := Tryz.func148.trans (congrArg some (by kernel_rfl))
  t3 := Tryz.underlying3
  a3 := Tryz.isAgg3
  z3 := Tryz.sizeOf3
  v3 := Tryz.zeroValue3
  t4 := Tryz.underlying4
  a4 := Tryz.isAgg4
  z4 := Tryz.sizeOf4
  v4 := Tryz.zeroValue4
  t5 := Tryz.underlying5
  a5 := Tryz.isAgg5
  z5 := Tryz.sizeOf5
  v5 := Tryz.zeroValue5
  t9 := Tryz.underlying9
  a9 := Tryz.isAgg9
  z9 := Tryz.sizeOf9
  v9 := Tryz.zeroValue9
  t46 := Tryz.underlying146
  a46 := Tryz.isAgg146
  z46 := Tryz.sizeOf146
  v46 := Tryz.zeroValue146
  t51 := Tryz.underlying168
  a51 := Tryz.isAgg168
  z51 := Tryz.sizeOf168
  v51 := Tryz.zeroValue168
  t146 := Tryz.underlying169
  a146 := Tryz.isAgg169
  z146 := Tryz.sizeOf169
  v146 := Tryz.zeroValue169 }
open Go.RowKit Go.Lib in
/-- strings.LastIndex AT A substr OF ONE BYTE (as in 'strings.LastIndex(path, "/")'): the last place of that byte, or -1. (LAID: no walk: one application.) -/

def Tryz.lays105_ren : Go.Shelf.Ren := ⟨fun | 105 => 55 | 212 => 85 | 99 => 86 | 165 => 51 | 166 => 54 | 170 => 87 | 169 => 56 | 263 => 120 | 264 => 121 | 206 => 122 | 240 => 83 | 241 => 84 | 276 => 118 | 277 => 119 | n => n, fun | 9 => 9 | 3 => 3 | 4 => 4 | 20 => 20 | 0 => 0 | 46 => 146 | 109 => 147 | 5 => 5 | 72 => 111 | 76 => 116 | 51 => 168 | 146 => 169 | 53 => 171 | 148 => 172 | 70 => 109 | 37 => 46 | 75 => 115 | 127 => 150 | 164 => 165 | 80 => 81 | n => n, fun | n => n⟩

theorem Tryz.lays105 : Go.Proofs.Lays.n105 Tryz.prog Tryz.lays105_ren := {
  mixed := by kernel_rfl
  f99 := Tryz.func86.trans (congrArg some (by kernel_rfl))
  f105 := Tryz.func55.trans (congrArg some (by kernel_rfl))
  f165 := Tryz.func51.trans (congrArg some (by kernel_rfl))
  f166 := Tryz.func54.trans (congrArg some (by kernel_rfl))
  f169 := Tryz.func56.trans (congrArg some (by kernel_rfl))
  f170 := Tryz.func87.trans (congrArg some (by kernel_rfl))
  f206 := Tryz.func122.trans (congrArg some (by kernel_rfl))
  f212 := Tryz.func85.trans (congrArg some (by kernel_rfl))
  f240 := Tryz.func83.trans (congrArg some (by kernel_rfl))
  f241 := Tryz.func84.trans (congrArg some (by kernel_rfl))
  f263 := Tryz.func120.trans (congrArg some (by kernel_rfl))
  f264 := Tryz.func121.trans (congrArg some (by kernel_rfl))
  f276 := Tryz.func118.trans (congrArg some (by kernel_rfl))
  f277 := Tryz.func119.trans (congrArg some (by kernel_rfl))
  t0 := Tryz.underlying0
  a0 := Tryz.isAgg0
  z0 := Tryz.sizeOf0
  v0 := Tryz.zeroValue0
  t3 := Tryz.underlying3
  a3 := Tryz.isAgg3
  z3 := Tryz.sizeOf3
  v3 := Tryz.zeroValue3
  t4 := Tryz.underlying4
  a4 := Tryz.isAgg4
  z4 := Tryz.sizeOf4
  v4 := Tryz.zeroValue4
  t5 := Tryz.underlying5
  a5 := Tryz.isAgg5
  z5 := Tryz.sizeOf5
  v5 := Tryz.zeroValue5
  t9 := Tryz.underlying9
  a9 := Tryz.isAgg9
  z9 := Tryz.sizeOf9
  v9 := Tryz.zeroValue9
  t20 := Tryz.underlying20
  a20 := Tryz.isAgg20
  z20 := Tryz.sizeOf20
  v20 := Tryz.zeroValue20
  t37 := Tryz.underlying46
  a37 := Tryz.isAgg46
  z37 := Tryz.sizeOf46
  v37 := Tryz.zeroValue46
  t46 := Tryz.underlying146
  a46 := Tryz.isAgg146
  z46 := Tryz.sizeOf146
  v46 := Tryz.zeroValue146
  t51 := Tryz.underlying168
  a51 := Tryz.isAgg168
  z51 := Tryz.sizeOf168
  v51 := Tryz.zeroValue168
  t53 := Tryz.underlying171
  a53 := Tryz.isAgg171
  z53 := Tryz.sizeOf171
  v53 := Tryz.zeroValue171
  t70 := Tryz.underlying109
  a70 := Tryz.isAgg109
  z70 := Tryz.sizeOf109
  v70 := Tryz.zeroValue109
  t72 := Tryz.underlying111
  a72 := Tryz.isAgg111
  z72 := Tryz.sizeOf111
  v72 := Tryz.zeroValue111
  t75 := Tryz.underlying115
  a75 := Tryz.isAgg115
  z75 := Tryz.sizeOf115
  v75 := Tryz.zeroValue115
  t76 := Tryz.underlying116
  a76 := Tryz.isAgg116
  z76 := Tryz.sizeOf116
  v76 := Tryz.zeroValue116
  t109 := Tryz.underlying147
  a109 := Tryz.isAgg147
  z109 := Tryz.sizeOf147
  v109 := Tryz.zeroValue147
  t127 := Tryz.underlying150
  a127 := Tryz.isAgg150
  z127 := Tryz.sizeOf150
  v127 := Tryz.zeroValue150
  t146 := Tryz.underlying169
  a146 := Tryz.isAgg169
  z146 := Tryz.sizeOf169
  v146 := Tryz.zeroValue169
  t148 := Tryz.underlying172
  a148 := Tryz.isAgg172
  z148 := Tryz.sizeOf172
  v148 := Tryz.zeroValue172
  t164 := Tryz.underlying165
  a164 := Tryz.isAgg165
  z164 := Tryz.sizeOf165
  v164 := Tryz.zeroValue165 }

theorem Tryz.Builder_Extra_105 : Builder.Extra Tryz.prog Tryz.lays105_ren := {
  sizeBuilder := by kernel_rfl
  liesBuilder := by kernel_rfl
  t5 := Tryz.underlying5
  a5 := Tryz.isAgg5
  z5 := Tryz.sizeOf5
  v5 := Tryz.zeroValue5
  infoByte := by kernel_rfl
  cellsByte := by kernel_rfl
  sizeByte := by kernel_rfl
  neB5 := by decide }
open Go.RowKit Go.Lib in
/-- THE MAIN CASE: at least two copies of a string that is not empty. (LAID: no walk: one application.) -/

theorem bgrow (B b n : Nat) (w : World) (hB : B ≤ b) (hbk : w.heap[b]? = some (.cells #[.pointer none, .slice none 0 0] 111 (0, 0))) (hBw : B ≤ w.heap.size) (hn : n ≤ 281474976710656) :
    Calls Tryz.prog 51 #[.pointer (some ⟨b, 0, none⟩), .int .i64 n] w fun e w' => e = .returned (.tuple #[]) ∧ (Lib.BuilderAt 111 5 B b (.pointer (some ⟨b, 0, none⟩)) [] w' ∧ Below B w w') := Any.Builder_Grow_fresh Tryz.lays165 Tryz.Builder_Extra_165 B b n w hB hbk hBw hn

theorem bstring (B b : Nat) (l : List UInt8) (w : World) (h : Lib.IsBuilder 111 5 B b (Lib.byteCells l) w) (hBw : B ≤ w.heap.size) :
    Calls Tryz.prog 56 #[.pointer (some ⟨b, 0, none⟩)] w fun e w' => e = .returned (.string ⟨l.toArray⟩) ∧ Below B w w' := Any.Builder_String_any Tryz.lays169 Tryz.Builder_Extra_169 B b l w h hBw

theorem lastix (s sub : ByteArray) (h1 : sub.size = 1) (hs : s.size < 4611686018427387904) (w : World) :
    Calls Tryz.prog 117 #[.string s, .string sub] w fun e w' => e = .returned (.int .i64 (Lib.lastIndexByte s ((sub[0]'(by omega)).toNat : Int))) ∧ w' = w := Any.strings_LastIndex_one Tryz.lays148 s sub h1 hs w

theorem repeat_any (s : ByteArray) (c : Nat) (w : World) (hc : c ≤ 9223372036854775807) (hlen : s.size * c ≤ 140737488355328) :
    Calls Tryz.prog 55 #[.string s, .int .i64 c] w fun e w' => e = .returned (.string ⟨(Lib.repeatL s.data.toList c).toArray⟩) ∧ Below w.heap.size w w' := Any.strings_Repeat Tryz.lays105 Tryz.Builder_Extra_105 s c w hc hlen

theorem bcheck (b : Nat) (w : World) (h0 : w.cell? ⟨b, 0, none⟩ = some (.pointer (some ⟨b, 0, none⟩))) :
    Calls Tryz.prog 83 #[.pointer (some ⟨b, 0, none⟩)] w fun e w' => e = .returned (.tuple #[]) ∧ w' = w := Any.Builder_copyCheck_used (P := Tryz.prog) (ρ := Tryz.lays105_ren) { Tryz.lays105 with } Tryz.Builder_Extra_105.toX72 b w h0
end Go.Proofs.YtmjhfabdbajchaaGreatDoor
set_option linter.unusedVariables false
set_option linter.unusedSimpArgs false
namespace Go.Proofs.YtmjhfabdbajchaaGreatDoor
open Go.RowKit
open Go.Lib (strCells strCells_length)

theorem new_at (w : World) (o : Obj) : (w.alloc o).heap[w.heap.size]? = some o := by show (w.heap.push o)[w.heap.size]? = _; simp
theorem three (w : World) (A C D : Obj) : (((w.alloc A).alloc C).alloc D).heap[w.heap.size]? = some A ∧ (((w.alloc A).alloc C).alloc D).heap[w.heap.size + 1]? = some C ∧ (((w.alloc A).alloc C).alloc D).heap[w.heap.size + 1 + 1]? = some D ∧ Below w.heap.size w (((w.alloc A).alloc C).alloc D) := by
  have s1 : (w.alloc A).heap.size = w.heap.size + 1 := World.size_alloc w A
  have s2 : ((w.alloc A).alloc C).heap.size = w.heap.size + 1 + 1 := by rw [World.size_alloc, s1]
  refine ⟨alloc_at _ _ _ _ (alloc_at _ _ _ _ (new_at _ _)), alloc_at _ _ _ _ ?_, ?_, (((Below.refl _ w).alloc (Nat.le_refl _) A).alloc (by omega) C).alloc (by omega) D⟩
  · rw [← s1]; exact new_at _ _
  · rw [← s2]; exact new_at _ _

set_option maxHeartbeats 1000000 in
/-- What a call writes with. -/
theorem gather_any (g : Nat) (b : Bool) (col wait : Int) (tv gv : Value) (w : World) (hg : w.heap[g]? = some (.cells (sk b col wait tv gv) 105 (0, 0))) (htv : ∃ p n cap, tv = .slice p n cap) (hgv : ∃ p n cap, gv = .slice p n cap) :
    Calls Tryz.prog 76 #[.pointer (some ⟨g, 0, none⟩)] w fun e w' => ∃ c d h, e = .returned (.tuple #[.func (.func 114) #[] #[.pointer (some ⟨d, 0, none⟩), .pointer (some ⟨c, 0, none⟩)], .func (.func 115) #[] #[.pointer (some ⟨c, 0, none⟩)], .func (.func 116) #[] #[.pointer (some ⟨c, 0, none⟩), .pointer (some ⟨d, 0, none⟩), .pointer (some ⟨h, 0, none⟩)]]) ∧
      (w'.heap[c]? = some (.cells #[tv] 46 (0, 0)) ∧ w'.heap[d]? = some (.cells #[gv] 103 (0, 0)) ∧ w'.heap[h]? = some (.cells #[.pointer (some ⟨g, 0, none⟩)] 59 (0, 0)) ∧ w.heap.size ≤ c ∧ w.heap.size ≤ d ∧ w.heap.size ≤ h) ∧ Below w.heap.size w w' := by
  have gl := blk_lt hg
  have g3 : w.cell? ⟨g, 3, none⟩ = some tv := blk_cell hg rfl
  have g4 : w.cell? ⟨g, 4, none⟩ = some gv := blk_cell hg rfl
  obtain ⟨p1, n1, k1, rfl⟩ := htv
  obtain ⟨p2, n2, k2, rfl⟩ := hgv
  have a1 := cell_a1 g3
  have a2 := cell_a2 g3
  have a3 := cell_a3 g3
  have b1 := cell_a1 g4
  have b2 := cell_a2 g4
  have b3 := cell_a3 g4
  have hmf : ∀ (fn : Fn) (first cap : Array Value) (w : World), (Instr.makeFunc fn first cap).run Tryz.prog w = .ok (.func fn first cap) w := fun _ _ _ _ => rfl
  go_enter Tryz.func76, Tryz.ntmps76
  go_wp2_with fail
  go_region
  all_goals go_wp2_with fail
  · go_ret3
    obtain ⟨e0, e1, e2, hb⟩ := three w (.cells #[.pointer (some ⟨g, 0, none⟩)] 59) (.cells #[.slice p1 n1 k1] 46) (.cells #[.slice p2 n2 k2] 103)
    exact ⟨w.heap.size + 1, w.heap.size + 1 + 1, w.heap.size, rfl, ⟨e1, e2, e0, by omega, by omega, by omega⟩, hb.drew⟩
  · go_ret3
    obtain ⟨e0, e1, e2, hb⟩ := three w (.cells #[.pointer (some ⟨g, 0, none⟩)] 59) (.cells #[.slice p2 n2 k2] 103) (.cells #[.slice p1 n1 k1] 46)
    exact ⟨w.heap.size + 1 + 1, w.heap.size + 1, w.heap.size, rfl, ⟨e2, e1, e0, by omega, by omega, by omega⟩, hb.drew⟩

/-! The last line feed of a text, and what stands behind it. -/
def lf (t : ByteArray) : Int := Lib.lastIndexByte t 10
theorem lf_bd (t : ByteArray) : -1 ≤ lf t ∧ lf t < t.size := by
  have := Lib.lastIdx_spec t 10 t.size
  unfold lf Lib.lastIndexByte
  rcases this with ⟨h, _⟩ | ⟨i, hi, h, _⟩
  · rw [h]; omega
  · rw [h]; omega
def aft (t : ByteArray) : ByteArray := t.extract (lf t + 1).toNat t.size
def ncol (col wait : Int) (t : ByteArray) : Int := if lf t < 0 then col + wait + tw t else tw (aft t)
theorem lastix10 (s : ByteArray) (hs : s.size < 4611686018427387904) (w : World) :
    Calls Tryz.prog 117 #[.string s, .string ⟨#[10]⟩] w fun e w' => e = .returned (.int .i64 (lf s)) ∧ w' = w := lastix s ⟨#[10]⟩ rfl hs w

theorem new_any (w : World) : Calls Tryz.prog 28 #[] w fun e w' => e = .returned (.pointer (some ⟨w.heap.size, 0, none⟩)) ∧ w' = w.alloc (.cells (sk false 0 0 (.slice none 0 0) (.slice none 0 0)) 105) := by
  go_enter Tryz.func28, Tryz.ntmps28
  go_wp2_with fail
  go_ret
  exact ⟨rfl, rfl⟩
theorem column_nil (w : World) : Calls Tryz.prog 82 #[.pointer none] w fun e w' => e = .returned (.int .i64 0) ∧ w' = w := by
  go_enter Tryz.func82, Tryz.ntmps82
  go_wp2_with fail
  go_ret
  exact ⟨rfl, rfl⟩
theorem fresh_nil (w : World) : Calls Tryz.prog 78 #[.pointer none] w fun e w' => e = .returned (.bool false) ∧ w' = w := by
  go_enter Tryz.func78, Tryz.ntmps78
  go_wp2_with fail
  go_ret
  exact ⟨rfl, rfl⟩
theorem blanks_nil (n : Int) (w : World) : Calls Tryz.prog 79 #[.pointer none, .int .i64 n] w fun e w' => e = .returned (.int .i64 3) ∧ w' = w := by
  go_enter Tryz.func79, Tryz.ntmps79
  go_wp2_with fail
  go_ret
  exact ⟨rfl, rfl⟩
theorem feed_nil (n : Int) (w : World) : Calls Tryz.prog 80 #[.pointer none, .int .i64 n] w fun e w' => e = .returned (.int .i64 3) ∧ w' = w := by
  go_enter Tryz.func80, Tryz.ntmps80
  go_wp2_with fail
  go_ret
  exact ⟨rfl, rfl⟩
theorem empty_nil (w : World) : Calls Tryz.prog 48 #[.pointer none] w fun e w' => e = .returned (.int .i64 3) ∧ w' = w := by
  go_enter Tryz.func48, Tryz.ntmps48
  go_wp2_with fail
  go_ret
  exact ⟨rfl, rfl⟩

theorem column_any (g : Nat) (b : Bool) (col wait : Int) (tv gv : Value) (w : World) (hg : w.heap[g]? = some (.cells (sk b col wait tv gv) 105 (0, 0))) (h0 : 0 ≤ col) (h1 : col ≤ 1152921504606846976) (h2 : 0 ≤ wait) (h3 : wait ≤ 1152921504606846976) :
    Calls Tryz.prog 82 #[.pointer (some ⟨g, 0, none⟩)] w fun e w' => e = .returned (.int .i64 (col + wait)) ∧ Below w.heap.size w w' := by
  have g1 : w.cell? ⟨g, 1, none⟩ = some (.int .i64 col) := blk_cell hg rfl
  have g2 : w.cell? ⟨g, 2, none⟩ = some (.int .i64 wait) := blk_cell hg rfl
  go_enter Tryz.func82, Tryz.ntmps82
  go_wp2_with fail
  go_quiet (fail)
  go_wp2_with fail
  go_ret
  exact ⟨rfl, below_drewN (Below.refl _ w) nq⟩
theorem fresh_any (g : Nat) (b : Bool) (col wait : Int) (tv gv : Value) (w : World) (hg : w.heap[g]? = some (.cells (sk b col wait tv gv) 105 (0, 0))) :
    Calls Tryz.prog 78 #[.pointer (some ⟨g, 0, none⟩)] w fun e w' => e = .returned (.bool (!b)) ∧ w' = w := by
  have g0 : w.cell? ⟨g, 0, none⟩ = some (.bool b) := blk_cell hg rfl
  go_enter Tryz.func78, Tryz.ntmps78
  go_wp2_with fail
  go_ret
  exact ⟨rfl, rfl⟩
theorem blanks_bad (g : Nat) (n : Int) (w : World) (hn : n < 0 ∨ 1048576 < n) : Calls Tryz.prog 79 #[.pointer (some ⟨g, 0, none⟩), .int .i64 n] w fun e w' => e = .returned (.int .i64 1) ∧ w' = w := by
  by_cases h0 : n < 0
  · have q1 : decide (n < 0) = true := by simp; omega
    clear hn
    go_enter Tryz.func79, Tryz.ntmps79
    go_wp2_with fail
    go_ret
    exact ⟨rfl, rfl⟩
  · have q1 : decide (n < 0) = false := by simp; omega
    have q2 : decide (1048576 < n) = true := by simp; omega
    have q3 : 1048576 < n := by omega
    clear hn
    go_enter Tryz.func79, Tryz.ntmps79
    go_wp2_with fail
    go_ret
    exact ⟨rfl, rfl⟩
theorem blanks_any (g : Nat) (b : Bool) (col wait n : Int) (tv gv : Value) (w : World) (hg : w.heap[g]? = some (.cells (sk b col wait tv gv) 105 (0, 0))) (h0 : 0 ≤ n) (h1 : n ≤ 1048576) (h2 : 0 ≤ wait) (h3 : wait ≤ 1152921504606846976) :
    Calls Tryz.prog 79 #[.pointer (some ⟨g, 0, none⟩), .int .i64 n] w fun e w' => e = .returned (.int .i64 0) ∧ w' = w.setCell ⟨g, 2, none⟩ (.int .i64 (wait + n)) := by
  have q1 : decide (n < 0) = false := by simp; omega
  have q2 : decide (1048576 < n) = false := by simp; omega
  have q3 : ¬ (1048576 < n) := by omega
  have q4 : ¬ (n < 0) := by omega
  have g2 : w.cell? ⟨g, 2, none⟩ = some (.int .i64 wait) := blk_cell hg rfl
  have f2 : w.frozen? ⟨g, 2, none⟩ = false := blk_frozen hg
  go_enter Tryz.func79, Tryz.ntmps79
  go_wp2_with fail
  go_ret
  exact ⟨rfl, rfl⟩
end Go.Proofs.YtmjhfabdbajchaaGreatDoor
set_option linter.unusedVariables false
set_option linter.unusedSimpArgs false
namespace Go.Proofs.YtmjhfabdbajchaaGreatDoor
open Go.RowKit
open Go.Lib (strCells strCells_length)

theorem aft_size (t : ByteArray) : (aft t).size ≤ t.size := by
  unfold aft
  have := lf_bd t
  rw [ByteArray.size_extract]; omega

set_option maxHeartbeats 1000000 in
theorem behind_any (b : Bool) (col wait : Int) (t : ByteArray) (w : World) (hT : Tab w) (ht : t.size ≤ 2147483647) (h0 : 0 ≤ col) (h1 : col ≤ 1152921504606846976) (h2 : 0 ≤ wait) (h3 : wait ≤ 1152921504606846976) :
    Calls Tryz.prog 77 #[.agg #[.bool b, .int .i64 col, .int .i64 wait], .string t] w fun e w' => e = .returned (.agg #[.bool true, .int .i64 (ncol col wait t), .int .i64 0]) ∧ Below w.heap.size w w' := by
  have hbd := lf_bd t
  have hbt := tw_bd t
  have hba := tw_bd (aft t)
  have hsa := aft_size t
  by_cases hl : lf t < 0
  · have q1 : decide (0 ≤ lf t) = false := by simp; omega
    have q2 : ¬ (0 ≤ lf t) := by omega
    have HN : Hid (ncol col wait t = col + wait + tw t) := if_pos hl
    clear hba hsa
    obtain ⟨y, hy⟩ : ∃ y, tw t = y := ⟨_, rfl⟩
    rw [hy] at HN hbt
    go_enter Tryz.func77, Tryz.ntmps77
    go_wp2_with (go_at_call 117; refine (lastix10 t (by omega) _).mono ?_; rintro e w1 ⟨rfl, rfl⟩)
    obtain ⟨W, hW⟩ : ∃ W, ((w.alloc (.cells #[.bool b, .int .i64 col, .int .i64 wait] 102)).alloc (.cells #[.bool false, .int .i64 0, .int .i64 0] 102)) = W := ⟨_, rfl⟩
    have s1 : (w.alloc (.cells #[.bool b, .int .i64 col, .int .i64 wait] 102)).heap.size = w.heap.size + 1 := World.size_alloc _ _
    have hbW : Below w.heap.size w W := by rw [← hW]; exact ((Below.refl _ w).alloc (Nat.le_refl _) _).alloc (by omega) _
    have b1 : W.heap[w.heap.size]? = some (.cells #[.bool b, .int .i64 col, .int .i64 wait] 102 (0, 0)) := by rw [← hW]; exact alloc_at _ _ _ _ (new_at _ _)
    have b2 : W.heap[w.heap.size + 1]? = some (.cells #[.bool false, .int .i64 0, .int .i64 0] 102 (0, 0)) := by rw [← hW, ← s1]; exact new_at _ _
    obtain ⟨x, hx⟩ : ∃ x, x = w.heap.size := ⟨_, rfl⟩
    rw [← hx] at b1 b2 hbW
    have hTW : Tab W := hT.below (by rw [← hx]; exact hbW)
    simp only [hW, ← hx]
    have x1 : W.cell? ⟨x, 1, none⟩ = some (.int .i64 col) := blk_cell b1 rfl
    have x2 : W.cell? ⟨x, 2, none⟩ = some (.int .i64 wait) := blk_cell b1 rfl
    have HB : Hid (∀ V, Below W.heap.size W V → V.cell? ⟨x, 1, none⟩ = some (.int .i64 col) ∧ V.cell? ⟨x, 2, none⟩ = some (.int .i64 wait) ∧ V.cell? ⟨x + 1, 0, none⟩ = some (.bool false) ∧ V.cell? ⟨x + 1, 1, none⟩ = some (.int .i64 0) ∧ V.cell? ⟨x + 1, 2, none⟩ = some (.int .i64 0) ∧ V.frozen? ⟨x + 1, 0, none⟩ = false ∧ V.frozen? ⟨x + 1, 1, none⟩ = false ∧ V.frozen? ⟨x + 1, 2, none⟩ = false) := fun V hV => ⟨blk_cell (blk_below b1 hV) rfl, blk_cell (blk_below b1 hV) rfl, blk_cell (blk_below b2 hV) rfl, blk_cell (blk_below b2 hV) rfl, blk_cell (blk_below b2 hV) rfl, blk_frozen (blk_below b2 hV), blk_frozen (blk_below b2 hV), blk_frozen (blk_below b2 hV)⟩
    have HBW : Hid (Below x w W) := hbW
    have HT : Hid (Tab W) := hTW
    have HC : Hid (Calls Tryz.prog 90 #[.string t] W.drew fun e V => e = .returned (.int .i64 y) ∧ Hid (Below x w V ∧ V.heap[x + 1]? = some (.cells #[.bool false, .int .i64 0, .int .i64 0] 102 (0, 0))) ∧ V.cell? ⟨x, 1, none⟩ = some (.int .i64 col) ∧ V.cell? ⟨x, 2, none⟩ = some (.int .i64 wait) ∧ V.cell? ⟨x + 1, 0, none⟩ = some (.bool false) ∧ V.cell? ⟨x + 1, 1, none⟩ = some (.int .i64 0) ∧ V.cell? ⟨x + 1, 2, none⟩ = some (.int .i64 0) ∧ V.frozen? ⟨x + 1, 0, none⟩ = false ∧ V.frozen? ⟨x + 1, 1, none⟩ = false ∧ V.frozen? ⟨x + 1, 2, none⟩ = false) := by
      refine (wtext_any t W.drew (hTW.below (Below.drew (Below.refl _ W))) ht).mono ?_
      rintro e V ⟨rfl, hV⟩
      have hV' : Below W.heap.size W V := ⟨hV.os, hV.tape, hV.output, hV.size, hV.block⟩
      exact ⟨by rw [hy], ⟨hbW.trans (hV'.mono (by have := hbW.size; omega)), blk_below b2 hV'⟩, HB.out V hV'⟩
    clear s1 b1 b2 hT hTW hbW hW q1 q2 hl hbd HB HT hy
    have HX : Hid (x = w.heap.size) := hx
    clear hx
    go_region_with (go_at_call 90; refine HC.out.mono ?_; rintro e w2 ⟨rfl, hb2, k1, k2, k3, k4, k5, k6, k7, k8⟩)
    all_goals
      have hz : IntKind.i64.wrap (IntKind.i64.wrap (col + wait) + y) = col + wait + y := by rw [IntKind.wrap_i64, IntKind.wrap_i64]; omega
      rw [hz]
      obtain ⟨V, hV⟩ : ∃ V, V = ((w2.setCell ⟨x + 1, 0, none⟩ (.bool true)).setCell ⟨x + 1, 1, none⟩ (.int .i64 (col + wait + y))).setCell ⟨x + 1, 2, none⟩ (.int .i64 0) := ⟨_, rfl⟩
      have hVb : V.heap[x + 1]? = some (.cells #[.bool true, .int .i64 (col + wait + y), .int .i64 0] 102 (0, 0)) := by rw [hV]; exact blk_set (blk_set (blk_set hb2.out.2 0 _) 1 _) 2 _
      have hVB : Below x w V := by rw [hV]; exact (((hb2.out.1).setCell (p := ⟨x + 1, 0, none⟩) (by show x ≤ x + 1; omega) _).setCell (p := ⟨x + 1, 1, none⟩) (by show x ≤ x + 1; omega) _).setCell (p := ⟨x + 1, 2, none⟩) (by show x ≤ x + 1; omega) _
      rw [← hV]
      have m0 : V.cell? ⟨x + 1, 0, none⟩ = some (.bool true) := blk_cell hVb rfl
      have m1 : V.cell? ⟨x + 1, 1, none⟩ = some (.int .i64 (col + wait + y)) := blk_cell hVb rfl
      have m2 : V.cell? ⟨x + 1, 2, none⟩ = some (.int .i64 0) := blk_cell hVb rfl
      have HF : Hid (Ending.returned (.agg #[.bool true, .int .i64 (col + wait + y), .int .i64 0]) = .returned (.agg #[.bool true, .int .i64 (ncol col wait t), .int .i64 0]) ∧ Below w.heap.size w V) := ⟨by rw [HN.out], by rw [← HX.out]; exact hVB⟩
      clear hz hV hVb hVB k1 k2 k3 k4 k5 k6 k7 k8 hb2 HC HN
      go_wp2_with fail
      exact bodyPost_ret (v := .agg #[.bool true, .int .i64 (col + wait + y), .int .i64 0]) (by simp [results, Tryz.f77, go_sem, m0, m1, m2]) rfl HF.out
  · have q1 : decide (0 ≤ lf t) = true := by simp; omega
    have q2 : (0 ≤ lf t) := by omega
    have HN : Hid (ncol col wait t = tw (aft t)) := if_neg hl
    obtain ⟨k, hk⟩ : ∃ k : Nat, lf t = k := ⟨(lf t).toNat, by omega⟩
    have HA : Hid (aft t = t.extract (k + 1) t.size) := by unfold aft; rw [hk]; rfl
    obtain ⟨y, hy⟩ : ∃ y, tw (aft t) = y := ⟨_, rfl⟩
    have HC : Hid (∀ V, Tab V → Calls Tryz.prog 90 #[.string (t.extract (k + 1) t.size)] V fun e V' => e = .returned (.int .i64 y) ∧ Below V.heap.size V V') := by
      intro V hV
      rw [← HA.out, ← hy]
      exact wtext_any (aft t) V hV (by omega)
    rw [hy] at HN hba
    have hk1 : (k : Int) + 1 ≤ t.size := by omega
    have hkn : k + 1 ≤ t.size := by omega
    have HT : Hid (Tab w) := hT
    have LC : Hid (∀ V, Calls Tryz.prog 117 #[.string t, .string ⟨#[10]⟩] V fun e w' => e = .returned (.int .i64 k) ∧ w' = V) := by
      intro V; have := lastix10 t (by omega) V; rw [hk] at this; exact this
    clear hsa hbt q1 q2 hT hy HA hl hk hbd
    go_enter Tryz.func77, Tryz.ntmps77
    go_wp2_with (go_at_call 117; refine (LC.out _).mono ?_; rintro e w1 ⟨rfl, rfl⟩)
    obtain ⟨W, hW⟩ : ∃ W, ((w.alloc (.cells #[.bool b, .int .i64 col, .int .i64 wait] 102)).alloc (.cells #[.bool false, .int .i64 0, .int .i64 0] 102)) = W := ⟨_, rfl⟩
    have s1 : (w.alloc (.cells #[.bool b, .int .i64 col, .int .i64 wait] 102)).heap.size = w.heap.size + 1 := World.size_alloc _ _
    have hbW : Below w.heap.size w W := by rw [← hW]; exact ((Below.refl _ w).alloc (Nat.le_refl _) _).alloc (by omega) _
    have b2 : W.heap[w.heap.size + 1]? = some (.cells #[.bool false, .int .i64 0, .int .i64 0] 102 (0, 0)) := by rw [← hW, ← s1]; exact new_at _ _
    refine (HC.out _ ?tab).mono ?_
    case tab => rw [hW]; exact HT.out.below hbW
    rintro e w2 ⟨rfl, hb2⟩
    rw [hW] at hb2
    have HB2 : Hid (Below w.heap.size w w2) := hbW.trans (hb2.mono hbW.size)
    have k0 := blk_below b2 hb2
    clear hb2 hbW b2 s1 hW
    have HK : Hid (w2.heap[w.heap.size + 1]? = some (.cells #[.bool false, .int .i64 0, .int .i64 0] 102 (0, 0))) := k0
    obtain ⟨x, HX⟩ : ∃ x, Hid (x = w.heap.size) := ⟨_, rfl⟩
    rw [← HX.out] at k0 HB2 HK ⊢
    have k3 : w2.cell? ⟨x + 1, 0, none⟩ = some (.bool false) := blk_cell k0 rfl
    have k4 : w2.cell? ⟨x + 1, 1, none⟩ = some (.int .i64 0) := blk_cell k0 rfl
    have k5 : w2.cell? ⟨x + 1, 2, none⟩ = some (.int .i64 0) := blk_cell k0 rfl
    have k6 : w2.frozen? ⟨x + 1, 0, none⟩ = false := blk_frozen k0
    have k7 : w2.frozen? ⟨x + 1, 1, none⟩ = false := blk_frozen k0
    have k8 : w2.frozen? ⟨x + 1, 2, none⟩ = false := blk_frozen k0
    clear k0
    obtain ⟨V, hV⟩ : ∃ V, V = ((w2.setCell ⟨x + 1, 0, none⟩ (.bool true)).setCell ⟨x + 1, 1, none⟩ (.int .i64 y)).setCell ⟨x + 1, 2, none⟩ (.int .i64 0) := ⟨_, rfl⟩
    have hVb : V.heap[x + 1]? = some (.cells #[.bool true, .int .i64 y, .int .i64 0] 102 (0, 0)) := by rw [hV]; exact blk_set (blk_set (blk_set HK.out 0 _) 1 _) 2 _
    have hVB : Below x w V := by rw [hV]; exact (((HB2.out).setCell (p := ⟨x + 1, 0, none⟩) (by show x ≤ x + 1; omega) _).setCell (p := ⟨x + 1, 1, none⟩) (by show x ≤ x + 1; omega) _).setCell (p := ⟨x + 1, 2, none⟩) (by show x ≤ x + 1; omega) _
    have m0 : V.cell? ⟨x + 1, 0, none⟩ = some (.bool true) := blk_cell hVb rfl
    have m1 : V.cell? ⟨x + 1, 1, none⟩ = some (.int .i64 y) := blk_cell hVb rfl
    have m2 : V.cell? ⟨x + 1, 2, none⟩ = some (.int .i64 0) := blk_cell hVb rfl
    have HF : Hid (Ending.returned (.agg #[.bool true, .int .i64 y, .int .i64 0]) = .returned (.agg #[.bool true, .int .i64 (ncol col wait t), .int .i64 0]) ∧ Below w.heap.size w V) := ⟨by rw [HN.out], by rw [← HX.out]; exact hVB⟩
    have HV : Hid (V = ((w2.setCell ⟨x + 1, 0, none⟩ (.bool true)).setCell ⟨x + 1, 1, none⟩ (.int .i64 y)).setCell ⟨x + 1, 2, none⟩ (.int .i64 0)) := hV
    clear hV hVb hVB HB2 HC HN
    go_wp2_with fail
    rw [← HV.out]
    exact bodyPost_ret (v := .agg #[.bool true, .int .i64 y, .int .i64 0]) (by simp [results, Tryz.f77, go_sem, m0, m1, m2]) rfl HF.out
end Go.Proofs.YtmjhfabdbajchaaGreatDoor
