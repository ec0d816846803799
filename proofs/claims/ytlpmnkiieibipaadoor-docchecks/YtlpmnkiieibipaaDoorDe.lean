import Derived.Test.YtlpmnkiieibipaaDoorRows
import Derived.Test.YtlpmnkiieibipaaDoorDc
import Derived.WalkKit
import Derived.WalkSpells
import Derived.WalkLawsBesides
import Derived.WalkSmall
import Derived.Deep.RegionLaw
import Derived.Deep.AppendLies
import Derived.Maps.AppendAt
import Derived.Lib.AppendStr
import Derived.Lib.LaidTab
import Derived.Lib.AppendIntMem
set_option linter.unusedVariables false
set_option linter.unusedSimpArgs false
namespace Go.Proofs.YtlpmnkiieibipaaDoor
open Go.RowKit
open Go.Lib (strCells strCells_length)

/-! Blocks. -/
theorem blk_cell {W : World} {g k : Nat} {cs : Array Value} {T : TypeId} {v : Value} (h : W.heap[g]? = some (.cells cs T (0, 0))) (hk : cs[k]? = some v) : W.cell? ⟨g, k, none⟩ = some v := by simp [World.cell?, h, hk]
theorem blk_frozen {W : World} {g k : Nat} {cs : Array Value} {T : TypeId} (h : W.heap[g]? = some (.cells cs T (0, 0))) : W.frozen? ⟨g, k, none⟩ = false := by simp [World.frozen?, h]
theorem blk_set {W : World} {g : Nat} {cs : Array Value} {T : TypeId} (h : W.heap[g]? = some (.cells cs T (0, 0))) (k : Nat) (v : Value) : (W.setCell ⟨g, k, none⟩ v).heap[g]? = some (.cells (cs.setIfInBounds k v) T (0, 0)) := by
  obtain ⟨hlt, hk⟩ := Array.getElem?_eq_some_iff.1 h
  show (W.heap.modify g _)[g]? = _
  rw [Array.getElem?_eq_getElem (by rw [Array.size_modify]; exact hlt), Array.getElem_modify_self, hk]
  rfl
theorem blk_other {W : World} {g b k : Nat} {o : Obj} (h : W.heap[g]? = some o) (hne : g ≠ b) (v : Value) : (W.setCell ⟨b, k, none⟩ v).heap[g]? = some o :=
  (Below.heap_setCell W ⟨b, k, none⟩ v g hne).trans h
theorem blk_lt {W : World} {g : Nat} {o : Obj} (h : W.heap[g]? = some o) : g < W.heap.size := (Array.getElem?_eq_some_iff.1 h).1
theorem blk_below {W W' : World} {g : Nat} {o : Obj} (h : W.heap[g]? = some o) (hb : Below W.heap.size W W') : W'.heap[g]? = some o := (hb.block g (blk_lt h)).trans h

/-! Rows of things, each laid into cells. -/
section
variable {β : Type} (enc : β → List Value) (sz : Nat)

def flat (zs : List β) : List Value := zs.flatMap enc

theorem flat_nil : flat enc [] = [] := rfl
theorem flat_cons (x : β) (zs : List β) : flat enc (x :: zs) = enc x ++ flat enc zs := rfl
theorem flat_append (xs zs : List β) : flat enc (xs ++ zs) = flat enc xs ++ flat enc zs := by unfold flat; exact List.flatMap_append
variable (hsz : ∀ x, (enc x).length = sz)
include hsz
theorem flat_len (zs : List β) : (flat enc zs).length = zs.length * sz := by
  induction zs with
  | nil => simp [flat]
  | cons x r ih => rw [flat_cons, List.length_append, ih, hsz, List.length_cons, Nat.succ_mul]; omega
theorem flat_drop : ∀ (k : Nat) (zs : List β), (flat enc zs).drop (k * sz) = flat enc (zs.drop k)
  | 0, zs => by simp
  | k + 1, [] => by simp [flat]
  | k + 1, x :: r => by
    rw [flat_cons, List.drop_append, hsz, List.drop_succ_cons, ← flat_drop k r, List.drop_eq_nil_of_le (by rw [hsz, Nat.succ_mul]; omega), List.nil_append]
    congr 1; rw [Nat.succ_mul]; omega
theorem flat_take : ∀ (k : Nat) (zs : List β), (flat enc zs).take (k * sz) = flat enc (zs.take k)
  | 0, zs => by simp [flat]
  | k + 1, [] => by simp [flat]
  | k + 1, x :: r => by
    rw [flat_cons, List.take_append, hsz, List.take_succ_cons, flat_cons, ← flat_take k r, List.take_of_length_le (by rw [hsz, Nat.succ_mul]; omega)]
    congr 2; rw [Nat.succ_mul]; omega
theorem flat_at (zs : List β) (k j : Nat) (x : β) (v : Value) (hk : zs[k]? = some x) (hv : (enc x)[j]? = some v) : (flat enc zs)[k * sz + j]? = some v := by
  have h1 : (flat enc zs)[k * sz + j]? = ((flat enc zs).drop (k * sz))[j]? := by rw [List.getElem?_drop]
  rw [h1, flat_drop enc sz hsz]
  obtain ⟨hl, he⟩ := List.getElem?_eq_some_iff.1 hk
  rw [List.drop_eq_getElem_cons hl, he, flat_cons]
  rw [List.getElem?_append_left (List.getElem?_eq_some_iff.1 hv).1]
  exact hv
end

/-! Bytes as cells. -/
def bc (l : List UInt8) : List Value := l.map fun b => Value.int .u8 b.toNat
theorem bc_len (l : List UInt8) : (bc l).length = l.length := by simp [bc]
theorem bc_app (a b : List UInt8) : bc (a ++ b) = bc a ++ bc b := by simp [bc]
theorem bc_str (s : ByteArray) : strCells s = bc s.data.toList := rfl
theorem bc_get (l : List UInt8) (j : Nat) (x : UInt8) (h : l[j]? = some x) : (bc l)[j]? = some (.int .u8 x.toNat) := by simp [bc, h]
theorem bc_one (l : List UInt8) : ∀ u ∈ bc l, u.oneCell' = true := by
  intro u hu
  simp only [bc, List.mem_map] at hu
  obtain ⟨x, _, rfl⟩ := hu
  rfl
theorem bc_drop (l : List UInt8) (k : Nat) : (bc l).drop k = bc (l.drop k) := by simp [bc]
theorem bc_take (l : List UInt8) (k : Nat) : (bc l).take k = bc (l.take k) := by simp [bc]

/-! Where an append of a text puts the new row. -/
theorem run_append_string_at {P : Program} (w : World) (base : Nat) (t u ty e : TypeId) (i : TypeInfo) (ht : P.underlying t = some (.slice e)) (hu : P.underlying u = some .string) (hi : P.info? e = some i) (hz : i.zero = some (.int .u8 0))
    (hsize : i.size = 1) (hby : i.bytes = 1) (v : Value) (n : Nat) (xs : List Value) (hown : w.ownsRow base e 1 v n xs) (s : ByteArray)
    (h63 : n + s.size ≤ maxLen) (hbytes : n + s.size ≤ 140737488355328) (hbase : base ≤ w.heap.size) :
    ∃ v' w', (Builtin.append_ #[t, u] ty #[v, .string s]).run P w = .ok v' w' ∧ w'.ownsRow base e 1 v' (n + s.size) (xs ++ strCells s) ∧ w.grownBy w' v.ownBlock ∧ (v'.ownBlock = v.ownBlock ∨ v'.ownBlock = some w.heap.size) := by
  obtain ⟨v', w', hr, h1, h2, h3⟩ := Lib.run_append_own_string (P := P) w base t u ty e i ht hu hi hz hsize hby v n xs hown s h63 hbytes hbase
  refine ⟨v', w', hr, h1, h2, ?_⟩
  have hsmall : n + s.size ≤ 9223372036854775807 := by simp only [maxLen] at h63; omega
  have hxl : xs.length = n := by simpa using hown.1
  rcases hown.2 with ⟨rfl, rfl⟩ | ⟨g, cap, cur, rfl, hbg, hg, hnc, hcm, hcs, htake⟩
  · by_cases hm : s.size = 0
    · left; rw [h3.2 ⟨rfl, hm⟩]
    · have hr2 := run_append_nil_string (P := P) w t u ty e i (.int .u8 0) ht hu hi hz s (by omega) (by omega) (by rw [hby]; omega)
      rw [hr2] at hr
      injection hr with e1 e2
      right; rw [← e1]; rfl
  · by_cases hroom : n + s.size ≤ cap
    · have hcs' : cur.size = cap := by simpa using hcs
      have hr2 := Lib.run_append_room_string (P := P) w t u ty e i ht hu hi hsize g n cap cur hg s hroom (by omega)
      rw [hr2] at hr
      injection hr with e1 e2
      left; rw [← e1]; rfl
    · have holds : ∀ j u, xs[j]? = some u → w.cell? ((⟨g, 0, none⟩ : Addr).add j) = some u := hown.cells (g := g) rfl
      have hr2 := Lib.run_append_grow_string (P := P) w t u ty e i (.int .u8 0) ht hu hi hz ⟨g, 0, none⟩ n cap xs (by rw [hsize]; simpa using hxl) holds s (by omega) (by omega) (by rw [hby]; exact growslice_fits (by omega) (by omega))
      rw [hr2] at hr
      injection hr with e1 e2
      right; rw [← e1]; rfl

theorem wpList_append_string_at {P : Program} {w : World} {ops : Array Oper} {rest : List Oper} {o : Oper} {a : Act} {Q : Exit → Act → World → Prop} (hgd : o.guard = none) (sl x : Operand) (t u : TypeId)
    (ho : o.op = .call { callee := .builtin .append, args := #[sl, x], argTypes := #[t, u] })
    (base : Nat) (e : TypeId) (i : TypeInfo) (ht : P.underlying t = some (.slice e)) (hu : P.underlying u = some .string) (hi : P.info? e = some i) (hz : i.zero = some (.int .u8 0))
    (hsize : i.size = 1) (hby : i.bytes = 1)
    (v : Value) (n : Nat) (xs : List Value) (hs : a.eval sl = v) (hown : w.ownsRow base e 1 v n xs) (s : ByteArray) (hx : a.eval x = .string s)
    (h63 : n + s.size ≤ maxLen) (hbytes : n + s.size ≤ 140737488355328) (hbase : base ≤ w.heap.size)
    (h : ∀ v' w', w'.ownsRow base e 1 v' (n + s.size) (xs ++ strCells s) → w.grownBy w' v.ownBlock → (v'.ownBlock = v.ownBlock ∨ v'.ownBlock = some w.heap.size) → wpList P ops Q rest (a.put o.dst v') w') : wpList P ops Q (o :: rest) a w := by
  refine wpList_plain hgd fun K hK => ?_
  obtain ⟨v', w', hr, h2, h3, h4⟩ := run_append_string_at (P := P) w base t u o.type e i ht hu hi hz hsize hby v n xs hown s h63 hbytes hbase
  unfold Oper.wp execOp
  simp only [ho, resolve, invoke, builtin, Sem.run_bind, Sem.run_pure, Result.andThen_ok, List.map_toArray, List.map_cons, List.map_nil, hs, hx, hr]
  exact hK _ _ (h v' w' h2 h3 h4)

/-! What stands but for some blocks. -/
structure Kp (S : Nat → Prop) (w w' : World) : Prop where
  os : w'.os = w.os
  tape : w'.tape = w.tape
  output : w'.output = w.output
  size : w.heap.size ≤ w'.heap.size
  block : ∀ k, k < w.heap.size → ¬ S k → w'.heap[k]? = w.heap[k]?

theorem Kp.refl (S : Nat → Prop) (w : World) : Kp S w w := ⟨rfl, rfl, rfl, Nat.le_refl _, fun _ _ _ => rfl⟩
theorem Kp.trans {S : Nat → Prop} {a b c : World} (h : Kp S a b) (k : Kp S b c) : Kp S a c :=
  ⟨k.os.trans h.os, k.tape.trans h.tape, k.output.trans h.output, Nat.le_trans h.size k.size, fun j hj hS => (k.block j (Nat.lt_of_lt_of_le hj h.size) hS).trans (h.block j hj hS)⟩
/-- One step behind others: what the step turns is among S, or was not there at first. -/
theorem Kp.step {S T : Nat → Prop} {a b c : World} (h : Kp S a b) (k : Kp T b c) (hT : ∀ j, j < a.heap.size → T j → S j) : Kp S a c :=
  ⟨k.os.trans h.os, k.tape.trans h.tape, k.output.trans h.output, Nat.le_trans h.size k.size, fun j hj hS => (k.block j (Nat.lt_of_lt_of_le hj h.size) (fun ht => hS (hT j hj ht))).trans (h.block j hj hS)⟩
theorem Kp.of_below {S : Nat → Prop} {w w' : World} (h : Below w.heap.size w w') : Kp S w w' := ⟨h.os, h.tape, h.output, h.size, fun k hk _ => h.block k hk⟩
theorem Kp.of_grown {w w' : World} {row : Option Nat} (h : w.grownBy w' row) : Kp (fun k => some k = row) w w' := ⟨h.os, h.tape, h.output, h.size, fun k hk hS => h.block k hk hS⟩
theorem Kp.set (w : World) (g k : Nat) (v : Value) : Kp (fun j => j = g) w (w.setCell ⟨g, k, none⟩ v) :=
  ⟨rfl, rfl, rfl, by show _ ≤ (w.heap.modify g _).size; rw [Array.size_modify]; exact Nat.le_refl _, fun j hj hS => Below.heap_setCell w ⟨g, k, none⟩ v j hS⟩
theorem Kp.alloc {S : Nat → Prop} {a b : World} (h : Kp S a b) (o : Obj) : Kp S a (b.alloc o) := h.step (T := S) (Kp.of_below ((Below.refl _ _).alloc (Nat.le_refl _) _)) (fun _ _ h => h)
theorem Kp.same {S : Nat → Prop} {w W W' : World} (h : Kp S w W) (h1 : W'.heap = W.heap) (h2 : W'.os = W.os) (h3 : W'.tape = W.tape) (h4 : W'.output = W.output) : Kp S w W' :=
  ⟨h2.trans h.os, h3.trans h.tape, h4.trans h.output, by rw [h1]; exact h.size, by rw [h1]; exact h.block⟩
theorem Kp.blk {S : Nat → Prop} {w w' : World} (h : Kp S w w') {g : Nat} {o : Obj} (hg : w.heap[g]? = some o) (hS : ¬ S g) : w'.heap[g]? = some o := (h.block g (blk_lt hg) hS).trans hg
theorem Kp.row {S : Nat → Prop} {w w' : World} (h : Kp S w w') {e sz n : Nat} {v : Value} {xs : List Value} (hr : w.ownsRow 0 e sz v n xs) (hS : ∀ k, v.ownBlock = some k → ¬ S k) : w'.ownsRow 0 e sz v n xs := by
  refine ⟨hr.1, ?_⟩
  rcases hr.2 with h1 | ⟨g, cap, cur, rfl, h2, h3, h4⟩
  · exact .inl h1
  · exact .inr ⟨g, cap, cur, rfl, h2, h.blk h3 (hS g rfl), h4⟩
/-- A row's block is no block of another type. -/
theorem row_ne {w : World} {e sz n g : Nat} {v : Value} {xs : List Value} {cs : Array Value} {T : TypeId} {f : Nat × Nat} (hr : w.ownsRow 0 e sz v n xs) (hg : w.heap[g]? = some (.cells cs T f)) (hT : T ≠ e) : v.ownBlock ≠ some g := by
  intro h
  rcases hr.2 with ⟨rfl, _⟩ | ⟨b, cap, cur, rfl, _, h3, _⟩
  · cases h
  · simp only [Value.ownBlock, Option.some.injEq] at h
    subst h
    rw [hg] at h3
    injection h3 with h4
    injection h4 with _ h5
    exact hT h5
theorem row_shape {w : World} {e sz n : Nat} {v : Value} {xs : List Value} (hr : w.ownsRow 0 e sz v n xs) : ∃ p cap, v = .slice p n cap ∧ n ≤ cap ∧ cap ≤ maxLen := by
  rcases hr.2 with ⟨rfl, rfl⟩ | ⟨b, cap, cur, rfl, _, h3, h4, h5, _⟩
  · exact ⟨none, 0, rfl, Nat.le_refl _, Nat.zero_le _⟩
  · exact ⟨_, cap, rfl, h4, h5⟩
theorem row_below {w w' : World} {e sz n : Nat} {v : Value} {xs : List Value} (hr : w.ownsRow 0 e sz v n xs) (hb : Below w.heap.size w w') : w'.ownsRow 0 e sz v n xs :=
  (Kp.of_below (S := fun _ => False) hb).row hr (fun _ _ h => h)


/-! Pieces as values. -/
def Dc.v (d : Dc) : Value := .agg #[.int .u8 d.k, .string d.t, .int .i64 d.b, .int .i64 d.i, .bool d.e]
def Dc.cs (d : Dc) : List Value := [.int .u8 d.k, .string d.t, .int .i64 d.b, .int .i64 d.i, .bool d.e]
theorem Dc.cs_len (d : Dc) : d.cs.length = 5 := rfl
theorem Dc.cs_one (d : Dc) : ∀ u ∈ d.cs, u.oneCell' = true := by
  intro u hu
  simp only [Dc.cs, List.mem_cons, List.not_mem_nil, or_false] at hu
  rcases hu with rfl | rfl | rfl | rfl | rfl <;> rfl
def dcs (l : List Dc) : List Value := flat Dc.cs l
theorem dcs_len (l : List Dc) : (dcs l).length = l.length * 5 := flat_len Dc.cs 5 Dc.cs_len l
theorem dcs_one (l : List Dc) : ∀ u ∈ dcs l, u.oneCell' = true := by
  intro u hu
  obtain ⟨d, _, h⟩ := List.mem_flatMap.1 hu
  exact d.cs_one u h

/-- The pieces that a slice holds. -/
def Lay (w : World) (ao : Option Addr) (l : List Dc) : Prop := ∀ j d, l[j]? = some d → d.t.size ≤ 9223372036854775807 ∧ ∃ b off, ao = some ⟨b, off, none⟩ ∧
  w.cell? ⟨b, off + j * 5, none⟩ = some (.int .u8 d.k) ∧ w.cell? ⟨b, off + j * 5 + 1, none⟩ = some (.string d.t) ∧ w.cell? ⟨b, off + j * 5 + 2, none⟩ = some (.int .i64 d.b) ∧ w.cell? ⟨b, off + j * 5 + 3, none⟩ = some (.int .i64 d.i) ∧ w.cell? ⟨b, off + j * 5 + 4, none⟩ = some (.bool d.e)
theorem Lay.kp {S : Nat → Prop} {w w' : World} {ao : Option Addr} {l : List Dc} (h : Lay w ao l) (hb : Kp S w w') (hS : ∀ a, ao = some a → ¬ S a.block) : Lay w' ao l := by
  intro j a ha
  obtain ⟨h0, b, off, h1, c0, c1, c2, c3, c4⟩ := h j a ha
  have hlt := World.block_lt_of_cell? _ _ c0
  have e : w'.heap[b]? = w.heap[b]? := hb.block b hlt (hS _ h1)
  exact ⟨h0, b, off, h1, (World.cell?_of_block (a := ⟨b, _, none⟩) e).trans c0, (World.cell?_of_block (a := ⟨b, _, none⟩) e).trans c1, (World.cell?_of_block (a := ⟨b, _, none⟩) e).trans c2, (World.cell?_of_block (a := ⟨b, _, none⟩) e).trans c3, (World.cell?_of_block (a := ⟨b, _, none⟩) e).trans c4⟩
theorem Lay.below {w w' : World} {ao : Option Addr} {l : List Dc} (h : Lay w ao l) (hb : Below w.heap.size w w') : Lay w' ao l := h.kp (Kp.of_below (S := fun _ => False) hb) (fun _ _ h => h)
theorem Lay.row {w : World} {B : Nat} {v : Value} {n : Nat} {l : List Dc} (h : w.ownsRow B 36 5 v n (dcs l)) (ht : ∀ d ∈ l, d.t.size ≤ 9223372036854775807) : ∃ ao cap, v = .slice ao l.length cap ∧ n = l.length ∧ Lay w ao l ∧ (ao = none ∨ ∃ g, ao = some ⟨g, 0, none⟩ ∧ B ≤ g ∧ g < w.heap.size) ∧ l.length ≤ cap ∧ cap ≤ maxLen := by
  have hn : n = l.length := by have := h.1; rw [dcs_len] at this; omega
  subst hn
  rcases h.2 with ⟨rfl, h0⟩ | ⟨g, cap, cur, rfl, hb, hg, h3, h4, h5, h6⟩
  · have : l = [] := List.eq_nil_of_length_eq_zero h0
    subst this
    exact ⟨none, 0, rfl, rfl, fun j d h => by simp at h, .inl rfl, Nat.zero_le _, Nat.zero_le _⟩
  · refine ⟨some ⟨g, 0, none⟩, cap, rfl, rfl, ?_, .inr ⟨g, rfl, hb, blk_lt hg⟩, h3, h4⟩
    intro j d hj
    have hc : ∀ (k : Nat) (u : Value), (dcs l)[k]? = some u → w.cell? ⟨g, k, none⟩ = some u := fun k u hu => by
      have := h.cells (g := g) rfl k u hu
      rw [Addr.add_lit, Nat.zero_add] at this
      exact this
    refine ⟨ht d (List.mem_of_getElem? hj), g, 0, rfl, ?_, ?_, ?_, ?_, ?_⟩
    · rw [Nat.zero_add]; exact hc _ _ (flat_at Dc.cs 5 Dc.cs_len l j 0 d _ hj rfl)
    · rw [Nat.zero_add]; exact hc _ _ (flat_at Dc.cs 5 Dc.cs_len l j 1 d _ hj rfl)
    · rw [Nat.zero_add]; exact hc _ _ (flat_at Dc.cs 5 Dc.cs_len l j 2 d _ hj rfl)
    · rw [Nat.zero_add]; exact hc _ _ (flat_at Dc.cs 5 Dc.cs_len l j 3 d _ hj rfl)
    · rw [Nat.zero_add]; exact hc _ _ (flat_at Dc.cs 5 Dc.cs_len l j 4 d _ hj rfl)
/-- The cells behind one another. -/
theorem Lay.cells {w : World} {a : Addr} {l : List Dc} (h : Lay w (some a) l) : ∀ j u, (dcs l)[j]? = some u → w.cell? (a.add j) = some u := by
  intro j u hu
  have hj := (List.getElem?_eq_some_iff.1 hu).1
  rw [dcs_len] at hj
  have hk : j / 5 < l.length := by omega
  have hd : l[j / 5]? = some l[j / 5] := List.getElem?_eq_getElem hk
  obtain ⟨_, b, off, e, c0, c1, c2, c3, c4⟩ := h _ _ hd
  cases e
  have hu2 : (dcs l)[j / 5 * 5 + j % 5]? = some u := by rw [show j / 5 * 5 + j % 5 = j by omega]; exact hu
  have hA : (⟨b, off, none⟩ : Addr).add j = ⟨b, off + j, none⟩ := Addr.add_lit _ _ _
  rw [hA, show off + j = off + j / 5 * 5 + j % 5 by omega]
  have hm : j % 5 < 5 := Nat.mod_lt _ (by omega)
  generalize j % 5 = m at *
  match m, hm with
  | 0, _ => rw [show (dcs l)[j / 5 * 5 + 0]? = _ from flat_at Dc.cs 5 Dc.cs_len l _ 0 _ _ hd rfl] at hu2; cases hu2; exact c0
  | 1, _ => rw [show (dcs l)[j / 5 * 5 + 1]? = _ from flat_at Dc.cs 5 Dc.cs_len l _ 1 _ _ hd rfl] at hu2; cases hu2; exact c1
  | 2, _ => rw [show (dcs l)[j / 5 * 5 + 2]? = _ from flat_at Dc.cs 5 Dc.cs_len l _ 2 _ _ hd rfl] at hu2; cases hu2; exact c2
  | 3, _ => rw [show (dcs l)[j / 5 * 5 + 3]? = _ from flat_at Dc.cs 5 Dc.cs_len l _ 3 _ _ hd rfl] at hu2; cases hu2; exact c3
  | 4, _ => rw [show (dcs l)[j / 5 * 5 + 4]? = _ from flat_at Dc.cs 5 Dc.cs_len l _ 4 _ _ hd rfl] at hu2; cases hu2; exact c4

/-! The tables. -/
def frmL : List (Int × Int) := [(31, 4), (91, 1), (92, 2), (126, 1), (255, 4)]
def wordL : List ByteArray := [⟨#[]⟩, ⟨#[116, 101, 120, 116]⟩, ⟨#[98, 108, 97, 110, 107]⟩, ⟨#[98, 114, 101, 97, 107]⟩, ⟨#[104, 97, 114, 100]⟩, ⟨#[101, 109, 112, 116, 121]⟩, ⟨#[98, 101, 103, 105, 110]⟩, ⟨#[101, 110, 100]⟩]
def FTab (w : World) : Prop := ∀ i, i < 5 → w.cell? ⟨1, i * 2, none⟩ = some (.int .u8 (frmL.getD i (0, 0)).1) ∧ w.cell? ⟨1, i * 2 + 1, none⟩ = some (.int .u8 (frmL.getD i (0, 0)).2)
def WTab (w : World) : Prop := ∀ i, i < 8 → w.cell? ⟨0, i, none⟩ = some (.string (wordL.getD i ByteArray.empty))
end Go.Proofs.YtlpmnkiieibipaaDoor
