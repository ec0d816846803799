import Derived.Test.YtkigadnkclkopaaGreatRows
import Derived.WalkKit
import Derived.WalkSpells
import Derived.WalkLawsBesides
import Derived.WalkSmall
import Derived.Laws.CopyOwn
import Derived.Deep.RegionLaw
import Derived.Maps.AppendAt
import Derived.Lib.AppendStr
import Derived.Deep.AppendLies
set_option linter.unusedVariables false
set_option linter.unusedSimpArgs false
namespace Go.Proofs.YtkigadnkclkopaaGreat
open Go.RowKit

/-! Labels: which block belongs to which ring (0: to none). -/

/-- What a call on the ring of label i leaves alone. -/
structure Fr (i : Nat) (own own' : Nat → Nat) (w w' : World) : Prop where
  os : w'.os = w.os
  tape : w'.tape = w.tape
  output : w'.output = w.output
  size : w.heap.size ≤ w'.heap.size
  block : ∀ k, k < w.heap.size → own k ≠ i → w'.heap[k]? = w.heap[k]?
  old : ∀ k, k < w.heap.size → own' k = own k

/-- Blocks that are not there yet belong to none. -/
def Nf (own : Nat → Nat) (w : World) : Prop := ∀ k, w.heap.size ≤ k → own k = 0

theorem Fr.refl (i : Nat) (own : Nat → Nat) (w : World) : Fr i own own w w := ⟨rfl, rfl, rfl, Nat.le_refl _, fun _ _ _ => rfl, fun _ _ => rfl⟩
theorem Fr.trans {i : Nat} {o0 o1 o2 : Nat → Nat} {a b c : World} (h : Fr i o0 o1 a b) (k : Fr i o1 o2 b c) : Fr i o0 o2 a c :=
  ⟨k.os.trans h.os, k.tape.trans h.tape, k.output.trans h.output, Nat.le_trans h.size k.size,
   fun j hj hi => (k.block j (Nat.lt_of_lt_of_le hj h.size) (by rw [h.old j hj]; exact hi)).trans (h.block j hj hi),
   fun j hj => (k.old j (Nat.lt_of_lt_of_le hj h.size)).trans (h.old j hj)⟩
theorem Fr.of_below {i : Nat} {own : Nat → Nat} {w w' : World} (h : Below w.heap.size w w') : Fr i own own w w' :=
  ⟨h.os, h.tape, h.output, h.size, fun k hk _ => h.block k hk, fun _ _ => rfl⟩
theorem Fr.below {i B : Nat} {own own' : Nat → Nat} {w w' : World} (h : Fr i own own' w w') (hB : B ≤ w.heap.size) (ho : ∀ k, k < B → own k = 0) (hi : i ≠ 0) : Below B w w' :=
  ⟨h.os, h.tape, h.output, h.size, fun k hk => h.block k (by omega) (by rw [ho k hk]; omega)⟩
theorem Fr.cell {i : Nat} {own own' : Nat → Nat} {w w' : World} (h : Fr i own own' w w') {a : Addr} {v : Value} (hc : w.cell? a = some v) (hi : own a.block ≠ i) : w'.cell? a = some v :=
  (World.cell?_of_block (h.block a.block (World.block_lt_of_cell? w a hc) hi)).trans hc
theorem Nf.below {own : Nat → Nat} {w w' : World} (h : Nf own w) (hb : w.heap.size ≤ w'.heap.size) : Nf own w' := fun k hk => h k (by omega)

/-! Blocks. -/
theorem blk_cell {W : World} {g k : Nat} {cs : Array Value} {T : TypeId} {v : Value} (h : W.heap[g]? = some (.cells cs T (0, 0))) (hk : cs[k]? = some v) : W.cell? ⟨g, k, none⟩ = some v := by simp [World.cell?, h, hk]
theorem blk_frozen {W : World} {g k : Nat} {cs : Array Value} {T : TypeId} (h : W.heap[g]? = some (.cells cs T (0, 0))) : W.frozen? ⟨g, k, none⟩ = false := by simp [World.frozen?, h]
theorem blk_set {W : World} {g : Nat} {cs : Array Value} {T : TypeId} (h : W.heap[g]? = some (.cells cs T (0, 0))) (k : Nat) (v : Value) : (W.setCell ⟨g, k, none⟩ v).heap[g]? = some (.cells (cs.setIfInBounds k v) T (0, 0)) := by
  obtain ⟨hlt, hk⟩ := Array.getElem?_eq_some_iff.1 h
  show (W.heap.modify g _)[g]? = _
  rw [Array.getElem?_eq_getElem (by rw [Array.size_modify]; exact hlt), Array.getElem_modify_self, hk]
  rfl
theorem blk_other {W : World} {g b k : Nat} {o : Obj} (h : W.heap[g]? = some o) (hne : g ≠ b) (v : Value) : (W.setCell ⟨b, k, none⟩ v).heap[g]? = some o :=
  (Below.heap_setCell W ⟨b, k, none⟩ v g hne).trans h
theorem blk_lt {W : World} {g : Nat} {o : Obj} (h : W.heap[g]? = some o) : g < W.heap.size := (Array.getElem?_eq_some_iff.1 h).1
theorem blk_below {W W' : World} {g : Nat} {o : Obj} (h : W.heap[g]? = some o) (hb : Below W.heap.size W W') : W'.heap[g]? = some o := (hb.block g (blk_lt h)).trans h

/-- A store into a block of the ring's own. -/
theorem Fr.set {i : Nat} {own own' : Nat → Nat} {w W : World} (h : Fr i own own' w W) {g : Nat} (hg : own' g = i) (k : Nat) (v : Value) (hN : ∀ j, j < w.heap.size → own j ≠ i → j ≠ g) : Fr i own own' w (W.setCell ⟨g, k, none⟩ v) :=
  ⟨h.os, h.tape, h.output, by show _ ≤ (W.heap.modify g _).size; rw [Array.size_modify]; exact h.size,
   fun j hj hi => (Below.heap_setCell W ⟨g, k, none⟩ v j (hN j hj hi)).trans (h.block j hj hi), h.old⟩
theorem Fr.set' {i : Nat} {own : Nat → Nat} {w W : World} (h : Fr i own own w W) {g : Nat} (hg : own g = i) (k : Nat) (v : Value) : Fr i own own w (W.setCell ⟨g, k, none⟩ v) :=
  h.set hg k v (fun j _ hj e => hj (by rw [e]; exact hg))
theorem Fr.drewN {i : Nat} {own own' : Nat → Nat} {w W : World} (h : Fr i own own' w W) (m : Nat) : Fr i own own' w (W.drewN m) := by
  exact ⟨by rw [World.drewN]; exact h.os, by rw [World.drewN]; exact h.tape, by rw [World.drewN]; exact h.output, by rw [World.drewN]; exact h.size, by rw [World.drewN]; exact h.block, h.old⟩
theorem Fr.then {i : Nat} {own own' : Nat → Nat} {w W W' : World} (h : Fr i own own' w W) (hb : Below W.heap.size W W') : Fr i own own' w W' :=
  ⟨hb.os.trans h.os, hb.tape.trans h.tape, hb.output.trans h.output, Nat.le_trans h.size hb.size, fun j hj hi => (hb.block j (Nat.lt_of_lt_of_le hj h.size)).trans (h.block j hj hi), h.old⟩

/-! Rows of things, each laid into cells. -/
section
variable {β : Type} (enc : β → List Value) (sz : Nat)

def flat (zs : List β) : List Value := zs.flatMap enc

theorem flat_nil : flat enc [] = [] := rfl
theorem flat_cons (x : β) (zs : List β) : flat enc (x :: zs) = enc x ++ flat enc zs := rfl
theorem flat_append (xs zs : List β) : flat enc (xs ++ zs) = flat enc xs ++ flat enc zs := by unfold flat; exact List.flatMap_append
variable (hsz : ∀ x, (enc x).length = sz)
include hsz
theorem flat_len (zs : List β) : (flat enc zs).length = zs.length * sz := by
  induction zs with
  | nil => simp [flat]
  | cons x r ih => rw [flat_cons, List.length_append, ih, hsz, List.length_cons, Nat.succ_mul]; omega
theorem flat_drop : ∀ (k : Nat) (zs : List β), (flat enc zs).drop (k * sz) = flat enc (zs.drop k)
  | 0, zs => by simp
  | k + 1, [] => by simp [flat]
  | k + 1, x :: r => by
    rw [flat_cons, List.drop_append, hsz, List.drop_succ_cons, ← flat_drop k r, List.drop_eq_nil_of_le (by rw [hsz, Nat.succ_mul]; omega), List.nil_append]
    congr 1; rw [Nat.succ_mul]; omega
theorem flat_take : ∀ (k : Nat) (zs : List β), (flat enc zs).take (k * sz) = flat enc (zs.take k)
  | 0, zs => by simp [flat]
  | k + 1, [] => by simp [flat]
  | k + 1, x :: r => by
    rw [flat_cons, List.take_append, hsz, List.take_succ_cons, flat_cons, ← flat_take k r, List.take_of_length_le (by rw [hsz, Nat.succ_mul]; omega)]
    congr 2; rw [Nat.succ_mul]; omega
theorem flat_at (zs : List β) (k j : Nat) (x : β) (v : Value) (hk : zs[k]? = some x) (hv : (enc x)[j]? = some v) : (flat enc zs)[k * sz + j]? = some v := by
  have h1 : (flat enc zs)[k * sz + j]? = ((flat enc zs).drop (k * sz))[j]? := by rw [List.getElem?_drop]
  rw [h1, flat_drop enc sz hsz]
  obtain ⟨hl, he⟩ := List.getElem?_eq_some_iff.1 hk
  rw [List.drop_eq_getElem_cons hl, he, flat_cons]
  rw [List.getElem?_append_left (List.getElem?_eq_some_iff.1 hv).1]
  exact hv
omit hsz in
/-- Two copies into a row of zeros. -/
theorem splice_two {α : Type} (Z A B : List α) (k : Nat) (hk : A.length = k) (h : A.length + B.length ≤ Z.length) : splice (splice Z 0 A) k B = A ++ (B ++ Z.drop (k + B.length)) := by
  subst hk
  unfold splice
  rw [List.take_zero, List.nil_append, Nat.zero_add]
  rw [List.take_left', List.drop_append]
  · rw [List.drop_eq_nil_of_le (by omega), List.nil_append, List.drop_drop]
    congr 3; omega
  · rfl
end

/-! What a ring holds. -/
/-- l is what lies in zs from front on, round and round. -/
def Holds {β : Type} (zs : List β) (front : Nat) (l : List β) : Prop := l.length ≤ zs.length ∧ ∀ i, i < l.length → l[i]? = zs[(front + i) % zs.length]?

theorem Holds.widen {β : Type} {zs l Z : List β} {front : Nat} (h : Holds zs front l) (hf : front ≤ zs.length) (hfull : l.length = zs.length) : Holds (zs.drop front ++ zs.take front ++ Z) 0 l := by
  have hlen : (zs.drop front ++ zs.take front).length = zs.length := by simp; omega
  refine ⟨by rw [List.length_append, hlen]; omega, fun i hi => ?_⟩
  rw [h.2 i hi, Nat.zero_add, Nat.mod_eq_of_lt (a := i) (by rw [List.length_append, hlen]; omega), List.getElem?_append_left (l₁ := zs.drop front ++ zs.take front) (by omega)]
  by_cases hc : front + i < zs.length
  · rw [Nat.mod_eq_of_lt hc, List.getElem?_append_left (by simp; omega), List.getElem?_drop]
  · rw [List.getElem?_append_right (by simp; omega), List.getElem?_take, if_pos (by simp; omega)]
    congr 1
    rw [Nat.mod_eq_sub_mod (by omega), Nat.mod_eq_of_lt (by omega)]; simp; omega

theorem mod_ne {f n i j : Nat} (hi : i < n) (hj : j < n) (h : i ≠ j) : (f + i) % n ≠ (f + j) % n := by
  intro e
  have hn : 0 < n := by omega
  have h1 := Nat.div_add_mod (f + i) n
  have h2 := Nat.div_add_mod (f + j) n
  rw [e] at h1
  have h3 : n * ((f + i) / n) + j = n * ((f + j) / n) + i := by omega
  rcases Nat.lt_trichotomy ((f + i) / n) ((f + j) / n) with hlt | heq | hgt
  · have := Nat.mul_le_mul_left n hlt; rw [Nat.mul_succ] at this; omega
  · rw [heq] at h3; omega
  · have := Nat.mul_le_mul_left n hgt; rw [Nat.mul_succ] at this; omega

theorem Holds.push {β : Type} {zs l : List β} {front : Nat} (x : β) (h : Holds zs front l) (hlt : l.length < zs.length) : Holds (zs.set ((front + l.length) % zs.length) x) front (l ++ [x]) := by
  have hm : (front + l.length) % zs.length < zs.length := Nat.mod_lt _ (by omega)
  refine ⟨by simp; omega, fun i hi => ?_⟩
  simp at hi
  rw [List.length_set]
  by_cases hc : i < l.length
  · rw [List.getElem?_append_left hc, List.getElem?_set_ne (mod_ne (by omega) (by omega) (by omega)), h.2 i hc]
  · obtain rfl : i = l.length := by omega
    rw [List.getElem?_append_right (by omega), List.getElem?_set_self hm]; simp

theorem Holds.set {β : Type} {zs l : List β} {front i : Nat} (x : β) (h : Holds zs front l) (hi : i < l.length) : Holds (zs.set ((front + i) % zs.length) x) front (l.set i x) := by
  have hl := h.1
  have hm : (front + i) % zs.length < zs.length := Nat.mod_lt _ (by omega)
  refine ⟨by simp; omega, fun j hj => ?_⟩
  simp at hj
  rw [List.length_set]
  by_cases hc : i = j
  · subst hc; rw [List.getElem?_set_self hj, List.getElem?_set_self hm]
  · rw [List.getElem?_set_ne hc, List.getElem?_set_ne (mod_ne (by omega) (by omega) hc), h.2 j hj]

/-- The last one goes, its cell is cleared. -/
theorem Holds.popBack {β : Type} {zs l : List β} {front : Nat} (z : β) (h : Holds zs front l) (hp : 0 < l.length) : Holds (zs.set ((front + (l.length - 1)) % zs.length) z) front l.dropLast := by
  have hl := h.1
  refine ⟨by simp; omega, fun j hj => ?_⟩
  simp at hj
  rw [List.length_set, List.getElem?_set_ne (mod_ne (by omega) (by omega) (by omega)), ← h.2 j (by omega), List.getElem?_dropLast, if_pos (by omega)]

theorem Holds.popFront {β : Type} {zs l : List β} {front : Nat} (z : β) (h : Holds zs front l) (hp : 0 < l.length) : Holds (zs.set ((front + 0) % zs.length) z) ((front + 1) % zs.length) l.tail := by
  have hl := h.1
  refine ⟨by simp; omega, fun j hj => ?_⟩
  simp at hj
  rw [List.length_set, Nat.mod_add_mod, List.getElem?_tail, Nat.add_assoc, Nat.add_comm 1 j, List.getElem?_set_ne (mod_ne (by omega) (by omega) (by omega))]
  exact h.2 (j + 1) (by omega)

/-! The sized copy. -/
theorem run_copy_sized {P : Program} (w : World) (dT sT ty elem : TypeId) (sz g o dLen dCap : Nat) (a : Addr) (sLen sCap : Nat) (cur : Array Value) (t : TypeId) (cs : List Value)
    (hu : P.underlying dT = some (.slice elem)) (hs : (P.info? elem).map (·.size) = some sz)
    (hg : w.heap[g]? = some (.cells cur t (0, 0))) (hn : cs.length = Nat.min sLen dLen * sz)
    (hsrc : ∀ j v, cs[j]? = some v → w.cell? (a.add j) = some v) (hfit : o + cs.length ≤ cur.size) (h1 : ∀ v ∈ cs, v.oneCell' = true) :
    (Builtin.copy_ #[dT, sT] ty #[.slice (some ⟨g, o, none⟩) dLen dCap, .slice (some a) sLen sCap]).run P w =
      .ok (goInt (Nat.min sLen dLen)) (w.setRow g (cur.toList.take o ++ cs ++ cur.toList.drop (o + cs.length)).toArray) := by
  have hl := run_loadCells_list (P := P) w a cs hsrc
  have hst := run_storeCells_at P g o t cs 0 cur w hg (by simpa using hfit) h1
  cases hq : P.info? elem with
  | none => simp [hq] at hs
  | some i =>
    have hi : i.size = sz := by simpa [hq] using hs
    simp [Builtin.copy_, run_underlying hu, Builtin.lenOf, Builtin.firstCells, sizeOf, typeInfo, hq, hi, ← hn, hl, hst]

theorem run_copy_none_sized {P : Program} (w : World) (dT sT ty elem : TypeId) (sz : Nat) (d a : Option Addr) (dLen dCap sLen sCap : Nat) (hu : P.underlying dT = some (.slice elem)) (hs : (P.info? elem).map (·.size) = some sz) (hn : Nat.min sLen dLen = 0) :
    (Builtin.copy_ #[dT, sT] ty #[.slice d dLen dCap, .slice a sLen sCap]).run P w = .ok (goInt 0) w := by
  cases hq : P.info? elem with
  | none => simp [hq] at hs
  | some i =>
    have hl : ∀ (x : Addr), (loadCells x 0).run P w = .ok #[] w := fun x => by simpa using run_loadCells_list (P := P) w x [] (by simp)
    cases d <;> cases a <;> simp [Builtin.copy_, run_underlying hu, Builtin.lenOf, Builtin.firstCells, sizeOf, typeInfo, hq, hn, storeCells, hl]

/-- copy as a step of a region that draws its order, things of sz cells. -/
theorem step_copy_sized {P : Program} {ops : Array Oper} {o : Oper} {a : Act} {w : World} {K : Act → World → Prop} {Q : Exit → Act → World → Prop} {E : Prop} (hgd : o.guard = none) (d s : Operand) (dT sT : TypeId)
    (ho : o.op = .call { callee := .builtin .copy, args := #[d, s], argTypes := #[dT, sT] }) (elem : TypeId) (sz : Nat) (hu : P.underlying dT = some (.slice elem)) (hsz : (P.info? elem).map (·.size) = some sz)
    (dp sp : Option Addr) (dLen dCap sLen sCap : Nat) (hd : a.eval d = .slice dp dLen dCap) (hs : a.eval s = .slice sp sLen sCap)
    (g off : Nat) (cur : List Value) (t : TypeId) (hg : w.heap[g]? = some (.cells cur.toArray t (0, 0))) (cs : List Value) (m : Nat) (hm : m = Nat.min sLen dLen) (hn : cs.length = m * sz)
    (hpos : 0 < m → dp = some ⟨g, off, none⟩ ∧ ∃ ad, sp = some ad ∧ ∀ j v, cs[j]? = some v → w.cell? (ad.add j) = some v)
    (hfit : off + cs.length ≤ cur.length) (h1 : ∀ v ∈ cs, v.oneCell' = true) (B : Nat) (w0 : World) (hb : RowKit.Below B w0 w) (hBg : B ≤ g)
    (h : ∀ w', RowKit.Hid (w'.heap[g]? = some (.cells (splice cur off cs).toArray t (0, 0))) → RowKit.Below B w0 w' → K (a.put o.dst (goInt m)) w') :
    if Region.wanted o (yielded ops a.tmps) = true then Oper.wp P o a w K Q else E := by
  have hw : Region.wanted o (yielded ops a.tmps) = true := by simp [Region.wanted, hgd]
  rw [if_pos hw]
  by_cases h0 : m = 0
  · subst h0
    obtain rfl : cs = [] := List.eq_nil_of_length_eq_zero (by simpa using hn)
    have hrun := run_copy_none_sized (P := P) w dT sT o.type elem sz dp sp dLen dCap sLen sCap hu hsz hm.symm
    unfold Oper.wp
    simp [execOp, ho, resolve, invoke, builtin, hd, hs, hrun, Result.andThen]
    exact h w (show _ = _ by simpa [splice] using hg) hb
  · obtain ⟨rfl, ad, rfl, hsrc⟩ := hpos (by omega)
    have hrun := run_copy_sized (P := P) w dT sT o.type elem sz g off dLen dCap ad sLen sCap cur.toArray t cs hu hsz hg (by rw [hn, hm]) hsrc (by simpa using hfit) h1
    rw [← hm] at hrun
    unfold Oper.wp
    simp [execOp, ho, resolve, invoke, builtin, hd, hs, hrun, Result.andThen]
    exact h _ (show _ = _ by simpa [splice] using setRow_heap w g _ _ t _ hg) (below_setRow hb hBg _)

end Go.Proofs.YtkigadnkclkopaaGreat

set_option linter.unusedVariables false
set_option linter.unusedSimpArgs false
namespace Go.Proofs.YtkigadnkclkopaaGreat
open Go.RowKit
open Go.Lib (strCells strCells_length)

/-! Bytes as cells. -/
def bc (l : List UInt8) : List Value := l.map fun b => Value.int .u8 b.toNat
theorem bc_len (l : List UInt8) : (bc l).length = l.length := by simp [bc]
theorem bc_app (a b : List UInt8) : bc (a ++ b) = bc a ++ bc b := by simp [bc]
theorem bc_str (s : ByteArray) : strCells s = bc s.data.toList := rfl
theorem bc_get (l : List UInt8) (j : Nat) (x : UInt8) (h : l[j]? = some x) : (bc l)[j]? = some (.int .u8 x.toNat) := by simp [bc, h]
theorem bc_one (l : List UInt8) : ∀ u ∈ bc l, u.oneCell' = true := by
  intro u hu
  simp only [bc, List.mem_map] at hu
  obtain ⟨x, _, rfl⟩ := hu
  rfl
theorem bc_drop (l : List UInt8) (k : Nat) : (bc l).drop k = bc (l.drop k) := by simp [bc]
theorem bc_take (l : List UInt8) (k : Nat) : (bc l).take k = bc (l.take k) := by simp [bc]

/-! Where an append of a text puts the new row. -/
theorem run_append_string_at {P : Program} (w : World) (base : Nat) (t u ty e : TypeId) (i : TypeInfo) (ht : P.underlying t = some (.slice e)) (hu : P.underlying u = some .string) (hi : P.info? e = some i) (hz : i.zero = some (.int .u8 0))
    (hsize : i.size = 1) (hby : i.bytes = 1) (v : Value) (n : Nat) (xs : List Value) (hown : w.ownsRow base e 1 v n xs) (s : ByteArray)
    (h63 : n + s.size ≤ maxLen) (hbytes : n + s.size ≤ 140737488355328) (hbase : base ≤ w.heap.size) :
    ∃ v' w', (Builtin.append_ #[t, u] ty #[v, .string s]).run P w = .ok v' w' ∧ w'.ownsRow base e 1 v' (n + s.size) (xs ++ strCells s) ∧ w.grownBy w' v.ownBlock ∧ (v'.ownBlock = v.ownBlock ∨ v'.ownBlock = some w.heap.size) := by
  obtain ⟨v', w', hr, h1, h2, h3⟩ := Lib.run_append_own_string (P := P) w base t u ty e i ht hu hi hz hsize hby v n xs hown s h63 hbytes hbase
  refine ⟨v', w', hr, h1, h2, ?_⟩
  have hsmall : n + s.size ≤ 9223372036854775807 := by simp only [maxLen] at h63; omega
  have hxl : xs.length = n := by simpa using hown.1
  rcases hown.2 with ⟨rfl, rfl⟩ | ⟨g, cap, cur, rfl, hbg, hg, hnc, hcm, hcs, htake⟩
  · by_cases hm : s.size = 0
    · left; rw [h3.2 ⟨rfl, hm⟩]
    · have hr2 := run_append_nil_string (P := P) w t u ty e i (.int .u8 0) ht hu hi hz s (by omega) (by omega) (by rw [hby]; omega)
      rw [hr2] at hr
      injection hr with e1 e2
      right; rw [← e1]; rfl
  · by_cases hroom : n + s.size ≤ cap
    · have hcs' : cur.size = cap := by simpa using hcs
      have hr2 := Lib.run_append_room_string (P := P) w t u ty e i ht hu hi hsize g n cap cur hg s hroom (by omega)
      rw [hr2] at hr
      injection hr with e1 e2
      left; rw [← e1]; rfl
    · have holds : ∀ j u, xs[j]? = some u → w.cell? ((⟨g, 0, none⟩ : Addr).add j) = some u := hown.cells (g := g) rfl
      have hr2 := Lib.run_append_grow_string (P := P) w t u ty e i (.int .u8 0) ht hu hi hz ⟨g, 0, none⟩ n cap xs (by rw [hsize]; simpa using hxl) holds s (by omega) (by omega) (by rw [hby]; exact growslice_fits (by omega) (by omega))
      rw [hr2] at hr
      injection hr with e1 e2
      right; rw [← e1]; rfl

theorem wpList_append_string_at {P : Program} {w : World} {ops : Array Oper} {rest : List Oper} {o : Oper} {a : Act} {Q : Exit → Act → World → Prop} (hgd : o.guard = none) (sl x : Operand) (t u : TypeId)
    (ho : o.op = .call { callee := .builtin .append, args := #[sl, x], argTypes := #[t, u] })
    (base : Nat) (e : TypeId) (i : TypeInfo) (ht : P.underlying t = some (.slice e)) (hu : P.underlying u = some .string) (hi : P.info? e = some i) (hz : i.zero = some (.int .u8 0))
    (hsize : i.size = 1) (hby : i.bytes = 1)
    (v : Value) (n : Nat) (xs : List Value) (hs : a.eval sl = v) (hown : w.ownsRow base e 1 v n xs) (s : ByteArray) (hx : a.eval x = .string s)
    (h63 : n + s.size ≤ maxLen) (hbytes : n + s.size ≤ 140737488355328) (hbase : base ≤ w.heap.size)
    (h : ∀ v' w', w'.ownsRow base e 1 v' (n + s.size) (xs ++ strCells s) → w.grownBy w' v.ownBlock → (v'.ownBlock = v.ownBlock ∨ v'.ownBlock = some w.heap.size) → wpList P ops Q rest (a.put o.dst v') w') : wpList P ops Q (o :: rest) a w := by
  refine wpList_plain hgd fun K hK => ?_
  obtain ⟨v', w', hr, h2, h3, h4⟩ := run_append_string_at (P := P) w base t u o.type e i ht hu hi hz hsize hby v n xs hown s h63 hbytes hbase
  unfold Oper.wp execOp
  simp only [ho, resolve, invoke, builtin, Sem.run_bind, Sem.run_pure, Result.andThen_ok, List.map_toArray, List.map_cons, List.map_nil, hs, hx, hr]
  exact hK _ _ (h v' w' h2 h3 h4)

/-! What stands but for some blocks. -/
structure Kp (S : Nat → Prop) (w w' : World) : Prop where
  os : w'.os = w.os
  tape : w'.tape = w.tape
  output : w'.output = w.output
  size : w.heap.size ≤ w'.heap.size
  block : ∀ k, k < w.heap.size → ¬ S k → w'.heap[k]? = w.heap[k]?

theorem Kp.refl (S : Nat → Prop) (w : World) : Kp S w w := ⟨rfl, rfl, rfl, Nat.le_refl _, fun _ _ _ => rfl⟩
theorem Kp.trans {S : Nat → Prop} {a b c : World} (h : Kp S a b) (k : Kp S b c) : Kp S a c :=
  ⟨k.os.trans h.os, k.tape.trans h.tape, k.output.trans h.output, Nat.le_trans h.size k.size, fun j hj hS => (k.block j (Nat.lt_of_lt_of_le hj h.size) hS).trans (h.block j hj hS)⟩
/-- One step behind others: what the step turns is among S, or was not there at first. -/
theorem Kp.step {S T : Nat → Prop} {a b c : World} (h : Kp S a b) (k : Kp T b c) (hT : ∀ j, j < a.heap.size → T j → S j) : Kp S a c :=
  ⟨k.os.trans h.os, k.tape.trans h.tape, k.output.trans h.output, Nat.le_trans h.size k.size, fun j hj hS => (k.block j (Nat.lt_of_lt_of_le hj h.size) (fun ht => hS (hT j hj ht))).trans (h.block j hj hS)⟩
theorem Kp.of_below {S : Nat → Prop} {w w' : World} (h : Below w.heap.size w w') : Kp S w w' := ⟨h.os, h.tape, h.output, h.size, fun k hk _ => h.block k hk⟩
theorem Kp.of_grown {w w' : World} {row : Option Nat} (h : w.grownBy w' row) : Kp (fun k => some k = row) w w' := ⟨h.os, h.tape, h.output, h.size, fun k hk hS => h.block k hk hS⟩
theorem Kp.set (w : World) (g k : Nat) (v : Value) : Kp (fun j => j = g) w (w.setCell ⟨g, k, none⟩ v) :=
  ⟨rfl, rfl, rfl, by show _ ≤ (w.heap.modify g _).size; rw [Array.size_modify]; exact Nat.le_refl _, fun j hj hS => Below.heap_setCell w ⟨g, k, none⟩ v j hS⟩
theorem Kp.alloc {S : Nat → Prop} {a b : World} (h : Kp S a b) (o : Obj) : Kp S a (b.alloc o) := h.step (T := S) (Kp.of_below ((Below.refl _ _).alloc (Nat.le_refl _) _)) (fun _ _ h => h)
theorem Kp.same {S : Nat → Prop} {w W W' : World} (h : Kp S w W) (h1 : W'.heap = W.heap) (h2 : W'.os = W.os) (h3 : W'.tape = W.tape) (h4 : W'.output = W.output) : Kp S w W' :=
  ⟨h2.trans h.os, h3.trans h.tape, h4.trans h.output, by rw [h1]; exact h.size, by rw [h1]; exact h.block⟩
theorem Kp.fr {S : Nat → Prop} {i : Nat} {own own' : Nat → Nat} {w w' : World} (h : Kp S w w') (hS : ∀ k, k < w.heap.size → S k → own k = i) (ho : ∀ k, k < w.heap.size → own' k = own k) : Fr i own own' w w' :=
  ⟨h.os, h.tape, h.output, h.size, fun k hk hi => h.block k hk (fun hs => hi (hS k hk hs)), ho⟩
theorem Kp.blk {S : Nat → Prop} {w w' : World} (h : Kp S w w') {g : Nat} {o : Obj} (hg : w.heap[g]? = some o) (hS : ¬ S g) : w'.heap[g]? = some o := (h.block g (blk_lt hg) hS).trans hg
theorem Kp.row {S : Nat → Prop} {w w' : World} (h : Kp S w w') {e sz n : Nat} {v : Value} {xs : List Value} (hr : w.ownsRow 0 e sz v n xs) (hS : ∀ k, v.ownBlock = some k → ¬ S k) : w'.ownsRow 0 e sz v n xs := by
  refine ⟨hr.1, ?_⟩
  rcases hr.2 with h1 | ⟨g, cap, cur, rfl, h2, h3, h4⟩
  · exact .inl h1
  · exact .inr ⟨g, cap, cur, rfl, h2, h.blk h3 (hS g rfl), h4⟩
/-- A row's block is no block of another type. -/
theorem row_ne {w : World} {e sz n g : Nat} {v : Value} {xs : List Value} {cs : Array Value} {T : TypeId} {f : Nat × Nat} (hr : w.ownsRow 0 e sz v n xs) (hg : w.heap[g]? = some (.cells cs T f)) (hT : T ≠ e) : v.ownBlock ≠ some g := by
  intro h
  rcases hr.2 with ⟨rfl, _⟩ | ⟨b, cap, cur, rfl, _, h3, _⟩
  · cases h
  · simp only [Value.ownBlock, Option.some.injEq] at h
    subst h
    rw [hg] at h3
    injection h3 with h4
    injection h4 with _ h5
    exact hT h5
theorem row_shape {w : World} {e sz n : Nat} {v : Value} {xs : List Value} (hr : w.ownsRow 0 e sz v n xs) : ∃ p cap, v = .slice p n cap ∧ n ≤ cap ∧ cap ≤ maxLen := by
  rcases hr.2 with ⟨rfl, rfl⟩ | ⟨b, cap, cur, rfl, _, h3, h4, h5, _⟩
  · exact ⟨none, 0, rfl, Nat.le_refl _, Nat.zero_le _⟩
  · exact ⟨_, cap, rfl, h4, h5⟩
theorem row_below {w w' : World} {e sz n : Nat} {v : Value} {xs : List Value} (hr : w.ownsRow 0 e sz v n xs) (hb : Below w.heap.size w w') : w'.ownsRow 0 e sz v n xs :=
  (Kp.of_below (S := fun _ => False) hb).row hr (fun _ _ h => h)

/-! What was written: a text, and the blanks that stand ahead of its bytes. -/
def weave : Nat → List (Nat × Nat) → List UInt8 → List UInt8
  | f, [], t => t.drop f
  | f, (a, n) :: r, t => (t.drop f).take (a - f) ++ (List.replicate n 32 ++ weave a r t)
def Ups : Nat → List (Nat × Nat) → Nat → Prop
  | f, [], m => f ≤ m
  | f, (a, _) :: r, m => f ≤ a ∧ Ups a r m
def sums : List (Nat × Nat) → Nat
  | [] => 0
  | (_, n) :: r => n + sums r

theorem Ups.le {f : Nat} {gs : List (Nat × Nat)} {m : Nat} (h : Ups f gs m) : f ≤ m := by
  induction gs generalizing f with
  | nil => exact h
  | cons x r ih => obtain ⟨a, n⟩ := x; exact Nat.le_trans h.1 (ih h.2)
theorem Ups.more {f : Nat} {gs : List (Nat × Nat)} {m m' : Nat} (h : Ups f gs m) (hm : m ≤ m') : Ups f gs m' := by
  induction gs generalizing f with
  | nil => exact Nat.le_trans h hm
  | cons x r ih => obtain ⟨a, n⟩ := x; exact ⟨h.1, ih h.2⟩
theorem Ups.snoc {f : Nat} {gs : List (Nat × Nat)} {m : Nat} (n : Nat) (h : Ups f gs m) : Ups f (gs ++ [(m, n)]) m := by
  induction gs generalizing f with
  | nil => exact ⟨h, Nat.le_refl _⟩
  | cons x r ih => obtain ⟨a, n⟩ := x; exact ⟨h.1, ih h.2⟩
theorem weave_app {f : Nat} {gs : List (Nat × Nat)} {t : List UInt8} (s : List UInt8) (h : Ups f gs t.length) : weave f gs (t ++ s) = weave f gs t ++ s := by
  induction gs generalizing f with
  | nil => simp only [weave]; exact List.drop_append_of_le_length h
  | cons x r ih =>
    obtain ⟨a, n⟩ := x
    have ha := h.2.le
    simp only [weave]
    rw [ih h.2, List.drop_append_of_le_length (Nat.le_trans h.1 ha), List.take_append_of_le_length (by rw [List.length_drop]; have := h.1; omega)]
    simp [List.append_assoc]
theorem weave_gap {f : Nat} {gs : List (Nat × Nat)} {t : List UInt8} (n : Nat) (h : Ups f gs t.length) : weave f (gs ++ [(t.length, n)]) t = weave f gs t ++ List.replicate n 32 := by
  induction gs generalizing f with
  | nil => simp only [weave, List.nil_append]; rw [List.take_of_length_le (by simp), List.drop_length]; simp
  | cons x r ih =>
    obtain ⟨a, k⟩ := x
    simp only [weave, List.cons_append]
    rw [ih h.2]
    simp [List.append_assoc]
theorem weave_len {f : Nat} {gs : List (Nat × Nat)} {t : List UInt8} (h : Ups f gs t.length) : (weave f gs t).length = t.length - f + sums gs := by
  induction gs generalizing f with
  | nil => simp [weave, sums]
  | cons x r ih =>
    obtain ⟨a, k⟩ := x
    have ha := h.2.le
    have h1 := h.1
    simp only [weave, sums, List.length_append, List.length_replicate, List.length_take, List.length_drop, ih h.2]
    omega
theorem sums_app (a : List (Nat × Nat)) (x n : Nat) : sums (a ++ [(x, n)]) = sums a + n := by
  induction a with
  | nil => simp [sums]
  | cons y r ih => obtain ⟨b, k⟩ := y; simp only [List.cons_append, sums, ih]; omega
end Go.Proofs.YtkigadnkclkopaaGreat

set_option linter.unusedVariables false
set_option linter.unusedSimpArgs false
namespace Go.Proofs.YtkigadnkclkopaaGreat
open Go.RowKit

/-! Tokens as values; rows of tokens. -/
structure Tv where
  k : Int
  t : ByteArray
  a : Int
  l : Int
  c : Int
  f : Int
deriving DecidableEq
def Tv.v (d : Tv) : Value := .agg #[.int .u8 d.k, .string d.t, .int .i64 d.a, .int .i64 d.l, .int .i64 d.c, .int .i64 d.f]
def Tv.cs (d : Tv) : List Value := [.int .u8 d.k, .string d.t, .int .i64 d.a, .int .i64 d.l, .int .i64 d.c, .int .i64 d.f]
theorem Tv.cs_len (d : Tv) : d.cs.length = 6 := rfl
theorem Tv.cs_one (d : Tv) : ∀ u ∈ d.cs, u.oneCell' = true := by
  intro u hu
  simp only [Tv.cs, List.mem_cons, List.not_mem_nil, or_false] at hu
  rcases hu with rfl | rfl | rfl | rfl | rfl | rfl <;> rfl
def tcs (l : List Tv) : List Value := flat Tv.cs l
theorem tcs_len (l : List Tv) : (tcs l).length = l.length * 6 := flat_len Tv.cs 6 Tv.cs_len l
theorem tcs_one (l : List Tv) : ∀ u ∈ tcs l, u.oneCell' = true := by
  intro u hu
  obtain ⟨d, _, h⟩ := List.mem_flatMap.1 hu
  exact d.cs_one u h
theorem tcs_app (a b : List Tv) : tcs (a ++ b) = tcs a ++ tcs b := flat_append Tv.cs a b

/-- The tokens that a slice holds. -/
def Lt (w : World) (ao : Option Addr) (l : List Tv) : Prop := ∀ j d, l[j]? = some d → ∃ b off, ao = some ⟨b, off, none⟩ ∧
  w.cell? ⟨b, off + j * 6, none⟩ = some (.int .u8 d.k) ∧ w.cell? ⟨b, off + j * 6 + 1, none⟩ = some (.string d.t) ∧ w.cell? ⟨b, off + j * 6 + 2, none⟩ = some (.int .i64 d.a) ∧ w.cell? ⟨b, off + j * 6 + 3, none⟩ = some (.int .i64 d.l) ∧ w.cell? ⟨b, off + j * 6 + 4, none⟩ = some (.int .i64 d.c) ∧ w.cell? ⟨b, off + j * 6 + 5, none⟩ = some (.int .i64 d.f)
theorem Lt.kp {S : Nat → Prop} {w w' : World} {ao : Option Addr} {l : List Tv} (h : Lt w ao l) (hb : Kp S w w') (hS : ∀ a, ao = some a → ¬ S a.block) : Lt w' ao l := by
  intro j a ha
  obtain ⟨b, off, h1, c0, c1, c2, c3, c4, c5⟩ := h j a ha
  have hlt := World.block_lt_of_cell? _ _ c0
  have e : w'.heap[b]? = w.heap[b]? := hb.block b hlt (hS _ h1)
  exact ⟨b, off, h1, (World.cell?_of_block (a := ⟨b, _, none⟩) e).trans c0, (World.cell?_of_block (a := ⟨b, _, none⟩) e).trans c1, (World.cell?_of_block (a := ⟨b, _, none⟩) e).trans c2, (World.cell?_of_block (a := ⟨b, _, none⟩) e).trans c3, (World.cell?_of_block (a := ⟨b, _, none⟩) e).trans c4, (World.cell?_of_block (a := ⟨b, _, none⟩) e).trans c5⟩
theorem Lt.below {w w' : World} {ao : Option Addr} {l : List Tv} (h : Lt w ao l) (hb : Below w.heap.size w w') : Lt w' ao l := h.kp (Kp.of_below (S := fun _ => False) hb) (fun _ _ h => h)
theorem Lt.pre {w : World} {ao : Option Addr} {l m : List Tv} (h : Lt w ao (l ++ m)) : Lt w ao l := by
  intro j d hj
  refine h j d ?_
  rw [List.getElem?_append_left (List.getElem?_eq_some_iff.1 hj).1]
  exact hj

/-- A row of tokens of the call's own. -/
def Rt (B : Nat) (w : World) (v : Value) (l : List Tv) : Prop := w.ownsRow B 28 6 v l.length (tcs l)
theorem rt_nil (B : Nat) (w : World) : Rt B w (.slice none 0 0) [] := World.ownsRow_nil w B 28 6
theorem Rt.shape {B : Nat} {w : World} {v : Value} {l : List Tv} (h : Rt B w v l) : ∃ p cap, v = .slice p l.length cap ∧ l.length ≤ cap ∧ cap ≤ maxLen := by
  rcases h.2 with ⟨rfl, h0⟩ | ⟨b, cap, cur, rfl, _, h3, h4, h5, _⟩
  · exact ⟨none, 0, by rw [h0], by omega, Nat.zero_le _⟩
  · exact ⟨_, cap, rfl, h4, h5⟩
theorem Rt.own {B : Nat} {w : World} {v : Value} {l : List Tv} (h : Rt B w v l) : ∀ k, v.ownBlock = some k → B ≤ k := by
  intro k hk
  rcases h.2 with ⟨rfl, h0⟩ | ⟨b, cap, cur, rfl, hb, _⟩
  · cases hk
  · simp only [Value.ownBlock, Option.some.injEq] at hk
    omega
theorem Rt.below {B : Nat} {w w' : World} {v : Value} {l : List Tv} (h : Rt B w v l) (hb : Below w.heap.size w w') : Rt B w' v l := by
  refine ⟨h.1, ?_⟩
  rcases h.2 with h1 | ⟨g, cap, cur, rfl, h2, h3, h4⟩
  · exact .inl h1
  · exact .inr ⟨g, cap, cur, rfl, h2, blk_below h3 hb, h4⟩
theorem Rt.kp {B : Nat} {S : Nat → Prop} {w w' : World} {v : Value} {l : List Tv} (h : Rt B w v l) (hb : Kp S w w') (hS : ∀ k, v.ownBlock = some k → ¬ S k) : Rt B w' v l := by
  refine ⟨h.1, ?_⟩
  rcases h.2 with h1 | ⟨g, cap, cur, rfl, h2, h3, h4⟩
  · exact .inl h1
  · exact .inr ⟨g, cap, cur, rfl, h2, hb.blk h3 (hS g rfl), h4⟩
theorem Rt.ne {B : Nat} {w : World} {v : Value} {l : List Tv} (h : Rt B w v l) {g : Nat} {cs : Array Value} {T : TypeId} {f : Nat × Nat} (hg : w.heap[g]? = some (.cells cs T f)) (hT : T ≠ 28) : ∀ k, v.ownBlock = some k → k ≠ g := by
  intro k hk e
  rcases h.2 with ⟨rfl, h0⟩ | ⟨b, cap, cur, rfl, hb, h3, _⟩
  · cases hk
  · simp only [Value.ownBlock, Option.some.injEq] at hk
    subst hk
    subst e
    rw [hg] at h3
    cases h3
    exact hT rfl
theorem Lt.row {w : World} {B : Nat} {v : Value} {l : List Tv} (h : Rt B w v l) : ∃ ao cap, v = .slice ao l.length cap ∧ Lt w ao l ∧ (ao = none ∨ ∃ g, ao = some ⟨g, 0, none⟩ ∧ B ≤ g ∧ g < w.heap.size) ∧ l.length ≤ cap ∧ cap ≤ maxLen := by
  rcases h.2 with ⟨rfl, h0⟩ | ⟨g, cap, cur, rfl, hb, hg, h3, h4, h5, h6⟩
  · have : l = [] := List.eq_nil_of_length_eq_zero h0
    subst this
    exact ⟨none, 0, rfl, fun j d h => by simp at h, .inl rfl, Nat.zero_le _, Nat.zero_le _⟩
  · refine ⟨some ⟨g, 0, none⟩, cap, rfl, ?_, .inr ⟨g, rfl, hb, blk_lt hg⟩, h3, h4⟩
    intro j d hj
    have hc : ∀ (k : Nat) (u : Value), (tcs l)[k]? = some u → w.cell? ⟨g, k, none⟩ = some u := fun k u hu => by
      have := h.cells (g := g) rfl k u hu
      rw [Addr.add_lit, Nat.zero_add] at this
      exact this
    refine ⟨g, 0, rfl, ?_, ?_, ?_, ?_, ?_, ?_⟩
    · rw [Nat.zero_add]; exact hc _ _ (flat_at Tv.cs 6 Tv.cs_len l j 0 d _ hj rfl)
    · rw [Nat.zero_add]; exact hc _ _ (flat_at Tv.cs 6 Tv.cs_len l j 1 d _ hj rfl)
    · rw [Nat.zero_add]; exact hc _ _ (flat_at Tv.cs 6 Tv.cs_len l j 2 d _ hj rfl)
    · rw [Nat.zero_add]; exact hc _ _ (flat_at Tv.cs 6 Tv.cs_len l j 3 d _ hj rfl)
    · rw [Nat.zero_add]; exact hc _ _ (flat_at Tv.cs 6 Tv.cs_len l j 4 d _ hj rfl)
    · rw [Nat.zero_add]; exact hc _ _ (flat_at Tv.cs 6 Tv.cs_len l j 5 d _ hj rfl)
theorem Tryz.info28 : (Tryz.prog.info? 28).map (fun i => (i.zero, i.size, i.bytes)) = some (some (.agg #[.int .u8 0, .string ⟨#[]⟩, .int .i64 0, .int .i64 0, .int .i64 0, .int .i64 0]), 6, 56) := by kernel_rfl
theorem app_tok {W : World} {ops : Array Oper} {rest : List Oper} {o : Oper} {a : Act} {Q : Exit → Act → World → Prop} (hgd : o.guard = none) (s x : Operand)
    (ho : o.op = .call { callee := .builtin .append, args := #[s, x], argTypes := #[22, 22] }) (B : Nat) (v : Value) (l : List Tv) (d : Tv) (hs : a.eval s = v) (hr : Rt B W v l)
    (g c : Nat) (hx : a.eval x = .slice (some ⟨g, 0, none⟩) 1 c) (hg : W.heap[g]? = some (.cells #[.int .u8 d.k, .string d.t, .int .i64 d.a, .int .i64 d.l, .int .i64 d.c, .int .i64 d.f] 28 (0, 0))) (hl : l.length ≤ 1000000000) (hB : B ≤ W.heap.size)
    (h : ∀ v' w', Rt B w' v' (l ++ [d]) → Below B W w' → W.grownBy w' v.ownBlock → (v'.ownBlock = v.ownBlock ∨ v'.ownBlock = some W.heap.size) → wpList Tryz.prog ops Q rest (a.put o.dst v') w') : wpList Tryz.prog ops Q (o :: rest) a W := by
  obtain ⟨i0, hi, hz0, hz1, hz2⟩ := info_parts Tryz.info28
  refine wpList_append_own_at (P := Tryz.prog) (w := W) hgd s x 22 ho B 28 i0 _ 6 56 Tryz.underlying22 hi hz0 hz1 hz2 rfl (by decide) v _ _ hs hr ⟨g, 0, none⟩ 1 c (tcs [d]) hx (by rw [tcs_len]; rfl) ?_ (tcs_one [d]) (by unfold maxLen; omega) (by omega) hB ?_
  · intro j u hu
    refine World.news_of_block hg j u ?_
    have e : tcs [d] = [.int .u8 d.k, .string d.t, .int .i64 d.a, .int .i64 d.l, .int .i64 d.c, .int .i64 d.f] := by simp [tcs, flat, Tv.cs]
    rw [e] at hu
    simpa using hu
  · intro v' w' h1 h2 _ h4
    refine h v' w' ?_ ((Below.refl B W).grown h2 hB hr.own) h2 h4
    unfold Rt
    rw [List.length_append, tcs_app]
    exact h1

end Go.Proofs.YtkigadnkclkopaaGreat

set_option linter.unusedVariables false
set_option linter.unusedSimpArgs false
namespace Go.Proofs.YtkigadnkclkopaaGreat
open Go.RowKit

theorem new_at (w : World) (o : Obj) : (w.alloc o).heap[w.heap.size]? = some o := by show (w.heap.push o)[w.heap.size]? = _; simp
theorem alloc_at' {W : World} {g : Nat} {o : Obj} (h : W.heap[g]? = some o) (o' : Obj) : (W.alloc o').heap[g]? = some o := blk_below h ((Below.refl _ _).alloc (Nat.le_refl _) _)

theorem Kp.sub {S T : Nat → Prop} {w w' : World} (h : Kp T w w') (hs : ∀ k, T k → S k) : Kp S w w' := ⟨h.os, h.tape, h.output, h.size, fun k hk hS => h.block k hk (fun ht => hS (hs k ht))⟩

/-! Events as values; rows of events; rows of states. -/
structure Ev where
  k : Int
  n : Int
  d : Tv
deriving DecidableEq
def Ev.v (e : Ev) : Value := .agg #[.int .u8 e.k, .int .u8 e.n, .int .u8 e.d.k, .string e.d.t, .int .i64 e.d.a, .int .i64 e.d.l, .int .i64 e.d.c, .int .i64 e.d.f]
def Ev.cs (e : Ev) : List Value := [.int .u8 e.k, .int .u8 e.n, .int .u8 e.d.k, .string e.d.t, .int .i64 e.d.a, .int .i64 e.d.l, .int .i64 e.d.c, .int .i64 e.d.f]
theorem Ev.cs_len (e : Ev) : e.cs.length = 8 := rfl
theorem Ev.cs_one (e : Ev) : ∀ u ∈ e.cs, u.oneCell' = true := by
  intro u hu
  simp only [Ev.cs, List.mem_cons, List.not_mem_nil, or_false] at hu
  rcases hu with rfl | rfl | rfl | rfl | rfl | rfl | rfl | rfl <;> rfl
def ecs (l : List Ev) : List Value := flat Ev.cs l
theorem ecs_len (l : List Ev) : (ecs l).length = l.length * 8 := flat_len Ev.cs 8 Ev.cs_len l
theorem ecs_one (l : List Ev) : ∀ u ∈ ecs l, u.oneCell' = true := by
  intro u hu
  obtain ⟨d, _, h⟩ := List.mem_flatMap.1 hu
  exact d.cs_one u h
theorem ecs_app (a b : List Ev) : ecs (a ++ b) = ecs a ++ ecs b := flat_append Ev.cs a b
/-- No token. -/
def tv0 : Tv := ⟨0, ⟨#[]⟩, 0, 0, 0, 0⟩

/-- Where a row lies behind an append: as before, or in a new block. -/
def Nb (W : World) (v v' : Value) : Prop := v'.ownBlock = v.ownBlock ∨ ∃ k, v'.ownBlock = some k ∧ W.heap.size ≤ k
theorem Nb.refl (W : World) (v : Value) : Nb W v v := .inl rfl
theorem Nb.trans {W W' : World} {a b c : Value} (h : Nb W a b) (h' : Nb W' b c) (hs : W.heap.size ≤ W'.heap.size) : Nb W a c := by
  rcases h' with h' | ⟨k, h', hk⟩
  · rcases h with h | ⟨k, h, hk⟩
    · exact .inl (h'.trans h)
    · exact .inr ⟨k, h'.trans h, hk⟩
  · exact .inr ⟨k, h', Nat.le_trans hs hk⟩

/-- A row of events of its own. -/
def Re (W : World) (v : Value) (l : List Ev) : Prop := W.ownsRow 0 48 8 v l.length (ecs l)
theorem re_nil (W : World) : Re W (.slice none 0 0) [] := World.ownsRow_nil W 0 48 8
theorem Re.kp {S : Nat → Prop} {W W' : World} {v : Value} {l : List Ev} (h : Re W v l) (hk : Kp S W W') (hS : ∀ k, v.ownBlock = some k → ¬ S k) : Re W' v l := hk.row h hS
theorem Re.below {W W' : World} {v : Value} {l : List Ev} (h : Re W v l) (hb : Below W.heap.size W W') : Re W' v l := row_below h hb
theorem Re.shape {W : World} {v : Value} {l : List Ev} (h : Re W v l) : ∃ p cap, v = .slice p l.length cap ∧ l.length ≤ cap ∧ cap ≤ maxLen := row_shape h
theorem Re.ne {W : World} {v : Value} {l : List Ev} (h : Re W v l) {g : Nat} {cs : Array Value} {T : TypeId} {f : Nat × Nat} (hg : W.heap[g]? = some (.cells cs T f)) (hT : T ≠ 48) : ∀ k, v.ownBlock = some k → k ≠ g := fun k hk e => row_ne h hg hT (by rw [hk, e])
theorem Re.lt {W : World} {v : Value} {l : List Ev} (h : Re W v l) : ∀ k, v.ownBlock = some k → k < W.heap.size := by
  intro k hk
  rcases h.2 with ⟨rfl, _⟩ | ⟨b, cap, cur, rfl, _, h3, _⟩
  · cases hk
  · simp only [Value.ownBlock, Option.some.injEq] at hk
    subst hk
    exact blk_lt h3
theorem Tryz.info48 : (Tryz.prog.info? 48).map (fun i => (i.zero, i.size, i.bytes)) = some (some (.agg #[.int .u8 0, .int .u8 0, .int .u8 0, .string ⟨#[]⟩, .int .i64 0, .int .i64 0, .int .i64 0, .int .i64 0]), 8, 64) := by kernel_rfl
theorem app_ev {W : World} {ops : Array Oper} {rest : List Oper} {o : Oper} {a : Act} {Q : Exit → Act → World → Prop} (hgd : o.guard = none) (s x : Operand)
    (ho : o.op = .call { callee := .builtin .append, args := #[s, x], argTypes := #[41, 41] }) (v : Value) (l : List Ev) (d : Ev) (hs : a.eval s = v) (hr : Re W v l)
    (g c : Nat) (hx : a.eval x = .slice (some ⟨g, 0, none⟩) 1 c) (hg : W.heap[g]? = some (.cells #[.int .u8 d.k, .int .u8 d.n, .int .u8 d.d.k, .string d.d.t, .int .i64 d.d.a, .int .i64 d.d.l, .int .i64 d.d.c, .int .i64 d.d.f] 48 (0, 0))) (hl : l.length ≤ 1000000000)
    (h : ∀ v' w', Re w' v' (l ++ [d]) → W.grownBy w' v.ownBlock → Nb W v v' → wpList Tryz.prog ops Q rest (a.put o.dst v') w') : wpList Tryz.prog ops Q (o :: rest) a W := by
  obtain ⟨i0, hi, hz0, hz1, hz2⟩ := info_parts Tryz.info48
  refine wpList_append_own_at (P := Tryz.prog) (w := W) hgd s x 41 ho 0 48 i0 _ 8 64 Tryz.underlying41 hi hz0 hz1 hz2 rfl (by decide) v _ _ hs hr ⟨g, 0, none⟩ 1 c (ecs [d]) hx (by rw [ecs_len]; rfl) ?_ (ecs_one [d]) (by unfold maxLen; omega) (by omega) (Nat.zero_le _) ?_
  · intro j u hu
    refine World.news_of_block hg j u ?_
    have e : ecs [d] = [.int .u8 d.k, .int .u8 d.n, .int .u8 d.d.k, .string d.d.t, .int .i64 d.d.a, .int .i64 d.d.l, .int .i64 d.d.c, .int .i64 d.d.f] := by simp [ecs, flat, Ev.cs]
    rw [e] at hu
    simpa using hu
  · intro v' w' h1 h2 _ h4
    refine h v' w' ?_ h2 ?_
    · unfold Re
      rw [List.length_append, ecs_app]
      exact h1
    · rcases h4 with h4 | h4
      · exact .inl h4
      · exact .inr ⟨_, h4, Nat.le_refl _⟩

/-! Rows of states (function values). -/
def Rs (W : World) (v : Value) (l : List Value) : Prop := W.ownsRow 0 89 1 v l.length l
theorem rs_nil (W : World) : Rs W (.slice none 0 0) [] := World.ownsRow_nil W 0 89 1
theorem Rs.kp {S : Nat → Prop} {W W' : World} {v : Value} {l : List Value} (h : Rs W v l) (hk : Kp S W W') (hS : ∀ k, v.ownBlock = some k → ¬ S k) : Rs W' v l := hk.row h hS
theorem Rs.below {W W' : World} {v : Value} {l : List Value} (h : Rs W v l) (hb : Below W.heap.size W W') : Rs W' v l := row_below h hb
theorem Rs.shape {W : World} {v : Value} {l : List Value} (h : Rs W v l) : ∃ p cap, v = .slice p l.length cap ∧ l.length ≤ cap ∧ cap ≤ maxLen := row_shape h
theorem Rs.ne {W : World} {v : Value} {l : List Value} (h : Rs W v l) {g : Nat} {cs : Array Value} {T : TypeId} {f : Nat × Nat} (hg : W.heap[g]? = some (.cells cs T f)) (hT : T ≠ 89) : ∀ k, v.ownBlock = some k → k ≠ g := fun k hk e => row_ne h hg hT (by rw [hk, e])
theorem Rs.lt {W : World} {v : Value} {l : List Value} (h : Rs W v l) : ∀ k, v.ownBlock = some k → k < W.heap.size := by
  intro k hk
  rcases h.2 with ⟨rfl, _⟩ | ⟨b, cap, cur, rfl, _, h3, _⟩
  · cases hk
  · simp only [Value.ownBlock, Option.some.injEq] at hk
    subst hk
    exact blk_lt h3
theorem Tryz.info89 : (Tryz.prog.info? 89).map (fun i => (i.zero, i.size, i.bytes)) = some (some .nilFunc, 1, 8) := by kernel_rfl
theorem app_st {W : World} {ops : Array Oper} {rest : List Oper} {o : Oper} {a : Act} {Q : Exit → Act → World → Prop} (hgd : o.guard = none) (s x : Operand)
    (ho : o.op = .call { callee := .builtin .append, args := #[s, x], argTypes := #[71, 71] }) (v : Value) (l : List Value) (d : Value) (hs : a.eval s = v) (hr : Rs W v l) (hd : d.oneCell' = true)
    (g c : Nat) (hx : a.eval x = .slice (some ⟨g, 0, none⟩) 1 c) (hg : W.heap[g]? = some (.cells #[d] 89 (0, 0))) (hl : l.length ≤ 1000000000)
    (h : ∀ v' w', Rs w' v' (l ++ [d]) → W.grownBy w' v.ownBlock → Nb W v v' → wpList Tryz.prog ops Q rest (a.put o.dst v') w') : wpList Tryz.prog ops Q (o :: rest) a W := by
  obtain ⟨i0, hi, hz0, hz1, hz2⟩ := info_parts Tryz.info89
  refine wpList_append_own_at (P := Tryz.prog) (w := W) hgd s x 71 ho 0 89 i0 _ 1 8 Tryz.underlying71 hi hz0 hz1 hz2 rfl (by decide) v _ _ hs hr ⟨g, 0, none⟩ 1 c [d] hx rfl ?_ (by simpa using hd) (by unfold maxLen; omega) (by omega) (Nat.zero_le _) ?_
  · intro j u hu
    exact World.news_of_block hg j u (by simpa using hu)
  · intro v' w' h1 h2 _ h4
    refine h v' w' ?_ h2 ?_
    · unfold Rs
      rw [List.length_append]
      exact h1
    · rcases h4 with h4 | h4
      · exact .inl h4
      · exact .inr ⟨_, h4, Nat.le_refl _⟩

end Go.Proofs.YtkigadnkclkopaaGreat

set_option linter.unusedVariables false
set_option linter.unusedSimpArgs false
namespace Go.Proofs.YtkigadnkclkopaaGreat
open Go.RowKit

/-! The grammar's items as data (no memory). -/
/-- The rows of the grammar that are methods. -/
inductive M | block | variables | constants | procedure | params | param | typed | kind | member | body | statement | expr | rel | sum | term | factor | object | index | selection | args | list
deriving DecidableEq
/-- What picks a part by a token's text. -/
inductive Dk | declaration | bracket | detail
deriving DecidableEq
inductive Fl | wd (k : Int) (ts : List ByteArray) | nm | cs | mt (m : M)
inductive Pk | fn (d : Dk) | row (r : List Fl) | ex (m : M)
inductive It | fl (x : Fl) | lv (n : Int) | once (p : Pk) | again (p : Pk) | all (r : List Fl)
theorem btl_inj {a b : ByteArray} (h : a.toList = b.toList) : a = b := by
  rw [ByteArray.toList_eq, ByteArray.toList_eq] at h
  have := Array.toList_inj.1 h
  cases a; cases b; simp_all
theorem btl_eq (a b : ByteArray) : (a.toList == b.toList) = decide (a = b) := by
  by_cases e : a = b
  · subst e; simp
  · have : ¬ a.toList = b.toList := fun h => e (btl_inj h)
    simp [e, this]
/-- Is a text among these? -/
def has (l : List ByteArray) (s : ByteArray) : Bool := l.any (fun x => decide (s = x))
def Tv.is (t : Tv) (l : List UInt8) : Bool := t.t.toList == l
def Fl.takes (t : Tv) : Fl → Bool
  | .wd k ts => t.k == k && has ts t.t
  | .nm => t.k == 1
  | .cs => t.k == 3 || t.k == 4 || t.k == 5
  | .mt _ => false
/-- Which factor a token begins. -/
def facN (t : Tv) : Int :=
  if t.k == 6 && t.is [45] then 25 else if t.k == 2 && t.is [110, 111, 116] then 26 else if t.k == 6 && t.is [40] then 27
  else if t.k == 3 || t.k == 4 || t.k == 5 then 32 else if t.k == 1 then 28 else 0
def Dk.pick (t : Tv) : Dk → Option M
  | .declaration => if t.is [118, 97, 114] then some .variables else if t.is [99, 111, 110, 115, 116] then some .constants else if t.is [112, 114, 111, 99] then some .procedure else none
  | .bracket => if t.is [40] then some .params else none
  | .detail => if t.is [91] then some .index else if t.is [46] then some .selection else if t.is [40] then some .args else none
def Pk.pick (t : Tv) : Pk → Option It
  | .fn d => (d.pick t).map (fun m => .fl (.mt m))
  | .row r => if (r.head?.elim false (fun x => x.takes t)) then some (.all r) else none
  | .ex m => if facN t == 0 then none else some (.fl (.mt m))
/-- What comes again. -/
def agR (p : Pk) : Option It → List It
  | none => []
  | some i => [i, .again p]
/-- What a row makes of a token: it is refused; a row comes next; a node begins, its row comes next. -/
inductive Gw | ref | ex (r : List It) | op (n : Int) (r : List It)
def wordedR (s : ByteArray) : Gw :=
  if s.toList == [115, 107, 105, 112] then .op 13 [.fl (.wd 2 [s])]
  else if s.toList == [105, 102] then .op 15 [.fl (.wd 2 [s]), .fl (.mt .expr), .fl (.wd 2 [⟨#[116, 104, 101, 110]⟩]), .fl (.mt .body), .again (.row [.wd 2 [⟨#[101, 108, 105, 102]⟩], .mt .expr, .wd 2 [⟨#[116, 104, 101, 110]⟩], .mt .body]), .once (.row [.wd 2 [⟨#[101, 108, 115, 101]⟩], .mt .body]), .fl (.wd 2 [⟨#[101, 110, 100]⟩])]
  else if s.toList == [119, 104, 105, 108, 101] then .op 16 [.fl (.wd 2 [s]), .fl (.mt .expr), .fl (.wd 2 [⟨#[100, 111]⟩]), .fl (.mt .body), .fl (.wd 2 [⟨#[101, 110, 100]⟩])]
  else if s.toList == [102, 111, 114] then .op 17 [.fl (.wd 2 [s]), .fl (.nm), .fl (.wd 6 [⟨#[58, 61]⟩]), .fl (.mt .expr), .fl (.wd 2 [⟨#[116, 111]⟩]), .fl (.mt .expr), .fl (.wd 2 [⟨#[100, 111]⟩]), .fl (.mt .body), .fl (.wd 2 [⟨#[101, 110, 100]⟩])]
  else if s.toList == [114, 101, 112, 101, 97, 116] then .op 18 [.fl (.wd 2 [s]), .fl (.mt .body), .fl (.wd 2 [⟨#[117, 110, 116, 105, 108]⟩]), .fl (.mt .expr)]
  else if s.toList == [114, 101, 116, 117, 114, 110] then .op 19 [.fl (.wd 2 [s]), .once (.ex .expr)]
  else if s.toList == [98, 101, 103, 105, 110] then .op 20 [.fl (.wd 2 [s]), .fl (.mt .body), .fl (.wd 2 [⟨#[101, 110, 100]⟩])]
  else .ref
def M.row (t : Tv) : M → Gw
  | .block => .op 2 [.again (.fn .declaration), .fl (.wd 2 [⟨#[98, 101, 103, 105, 110]⟩]), .fl (.mt .body), .fl (.wd 2 [⟨#[101, 110, 100]⟩])]
  | .variables => .op 3 [.fl (.wd 2 [⟨#[118, 97, 114]⟩]), .fl (.mt .typed), .fl (.wd 6 [⟨#[59]⟩])]
  | .constants => .op 4 [.fl (.wd 2 [⟨#[99, 111, 110, 115, 116]⟩]), .fl (.nm), .fl (.wd 6 [⟨#[61]⟩]), .fl (.mt .expr), .fl (.wd 6 [⟨#[59]⟩])]
  | .params => .op 6 [.fl (.wd 6 [⟨#[40]⟩]), .fl (.mt .param), .again (.row [.wd 6 [⟨#[59]⟩], .mt .param]), .fl (.wd 6 [⟨#[41]⟩])]
  | .param => .op 7 [.fl (.mt .typed)]
  | .typed => .ex [.fl (.nm), .again (.row [.wd 6 [⟨#[44]⟩], .nm]), .fl (.wd 6 [⟨#[58]⟩]), .fl (.mt .kind)]
  | .member => .op 11 [.fl (.mt .typed)]
  | .body => .op 12 [.fl (.mt .statement), .again (.row [.wd 6 [⟨#[59]⟩], .mt .statement])]
  | .expr => .op 21 [.fl (.mt .rel), .again (.row [.wd 2 [⟨#[97, 110, 100]⟩, ⟨#[111, 114]⟩], .mt .rel])]
  | .rel => .op 22 [.fl (.mt .sum), .once (.row [.wd 6 [⟨#[61]⟩, ⟨#[35]⟩, ⟨#[60]⟩, ⟨#[60, 61]⟩, ⟨#[62]⟩, ⟨#[62, 61]⟩], .mt .sum])]
  | .sum => .op 23 [.fl (.mt .term), .again (.row [.wd 6 [⟨#[43]⟩, ⟨#[45]⟩], .mt .term])]
  | .term => .op 24 [.fl (.mt .factor), .again (.row [.wd 6 [⟨#[42]⟩, ⟨#[47]⟩, ⟨#[37]⟩], .mt .factor])]
  | .object => .op 28 [.fl (.nm), .again (.fn .detail)]
  | .index => .op 29 [.fl (.wd 6 [⟨#[91]⟩]), .fl (.mt .list), .fl (.wd 6 [⟨#[93]⟩])]
  | .selection => .op 30 [.fl (.wd 6 [⟨#[46]⟩]), .fl (.nm)]
  | .args => .op 31 [.fl (.wd 6 [⟨#[40]⟩]), .once (.ex .list), .fl (.wd 6 [⟨#[41]⟩])]
  | .list => .ex [.fl (.mt .expr), .again (.row [.wd 6 [⟨#[44]⟩], .mt .expr])]
  | .procedure => .op 5 [.fl (.wd 2 [⟨#[112, 114, 111, 99]⟩]), .fl (.nm), .once (.fn .bracket), .once (.row [.wd 6 [⟨#[58]⟩], .mt .kind]), .fl (.wd 6 [⟨#[59]⟩]), .fl (.mt .block), .fl (.wd 6 [⟨#[59]⟩])]
  | .kind => if t.k == 1 then .op 8 [.fl .nm] else if t.is [97, 114, 114, 97, 121] then .op 9 [.fl (.wd 2 [⟨#[97, 114, 114, 97, 121]⟩]), .fl (.wd 6 [⟨#[91]⟩]), .fl (.mt .expr), .fl (.wd 6 [⟨#[46, 46]⟩]), .fl (.mt .expr), .fl (.wd 6 [⟨#[93]⟩]), .fl (.wd 2 [⟨#[111, 102]⟩]), .fl (.mt .kind)] else if t.is [114, 101, 99, 111, 114, 100] then .op 10 [.fl (.wd 2 [⟨#[114, 101, 99, 111, 114, 100]⟩]), .fl (.mt .member), .again (.row [.wd 6 [⟨#[59]⟩], .mt .member]), .fl (.wd 2 [⟨#[101, 110, 100]⟩])] else .ref
  | .statement => if t.k == 1 then .op 14 [.fl (.mt .object), .once (.row [.wd 6 [⟨#[58, 61]⟩], .mt .expr])] else wordedR t.t
  | .factor => if facN t == 25 then .op 25 [.fl (.wd 6 [⟨#[45]⟩]), .fl (.mt .factor)] else if facN t == 26 then .op 26 [.fl (.wd 2 [⟨#[110, 111, 116]⟩]), .fl (.mt .factor)] else if facN t == 27 then .op 27 [.fl (.wd 6 [⟨#[40]⟩]), .fl (.mt .expr), .fl (.wd 6 [⟨#[41]⟩])] else if facN t == 32 then .op 32 [.fl (.cs)] else if facN t == 28 then .ex [.fl (.mt .object)] else .ref
def progR : List It := [.fl (.wd 2 [⟨#[112, 114, 111, 103, 114, 97, 109]⟩]), .fl (.nm), .fl (.wd 6 [⟨#[59]⟩]), .fl (.mt .block), .fl (.wd 6 [⟨#[46]⟩])]
/-- What a state makes of a token: it is taken; refused; passed on (how many nodes more, what is told, what comes next). -/
inductive Sr | tk | ref | go (d : Int) (o : List Ev) (r : List It)
def Gw.sr : Gw → Sr
  | .ref => .ref
  | .ex r => .go 0 [] r
  | .op nd r => .go 1 [⟨1, nd, tv0⟩] (r ++ [.lv nd])
def Fl.step (t : Tv) : Fl → Sr
  | .mt m => (M.row t m).sr
  | x => if x.takes t then .tk else .ref
def It.step (t : Tv) : It → Sr
  | .fl x => x.step t
  | .lv n => .go (-1) [⟨3, n, tv0⟩] []
  | .once p => .go 0 [] (Pk.pick t p).toList
  | .again p => .go 0 [] (agR p (Pk.pick t p))
  | .all r => .go 0 [] (r.map It.fl)
/-! A token's way through the states (no memory). -/
/-- Rows that may be left out begin with a word or a sign, and are short. -/
def rwf (r : List Fl) : Prop := (∃ k ts rest, r = Fl.wd k ts :: rest) ∧ r.length ≤ 8
def Pk.wf : Pk → Prop
  | .row r => rwf r
  | _ => True
def It.wf : It → Prop
  | .once p => p.wf
  | .again p => p.wf
  | .all r => rwf r
  | _ => True
def wfs (K : List It) : Prop := ∀ i ∈ K, i.wf
/-- The nodes that are open, the innermost first. -/
def lvs : List It → List Int
  | [] => []
  | .lv n :: K => n :: lvs K
  | _ :: K => lvs K
theorem lvs_app (a b : List It) : lvs (a ++ b) = lvs a ++ lvs b := by
  induction a with
  | nil => rfl
  | cons i r ih => cases i <;> simp [lvs, ih]
theorem lvs_fl (r : List Fl) : lvs (r.map It.fl) = [] := by
  induction r with
  | nil => rfl
  | cons x r ih => simp [lvs, ih]
theorem wfs_fl (r : List Fl) : wfs (r.map It.fl) := by
  intro i hi
  obtain ⟨x, _, rfl⟩ := List.mem_map.1 hi
  trivial
theorem wfs_app {a b : List It} (ha : wfs a) (hb : wfs b) : wfs (a ++ b) := fun i hi => (List.mem_append.1 hi).elim (ha i) (hb i)
theorem wfs_nil : wfs [] := fun _ h => by cases h
theorem wfs_cons {i : It} {K : List It} (hi : i.wf) (hK : wfs K) : wfs (i :: K) := fun j hj => (List.mem_cons.1 hj).elim (fun e => e ▸ hi) (hK j)
/-- What a row of the grammar is made of. -/
def Gw.ok : Gw → Prop
  | .ref => True
  | .ex r => wfs r ∧ r.length ≤ 10 ∧ lvs r = []
  | .op nd r => wfs r ∧ r.length ≤ 10 ∧ lvs r = [] ∧ 2 ≤ nd ∧ nd ≤ 32
theorem wordedR_ok (s : ByteArray) : (wordedR s).ok := by
  unfold wordedR
  repeat' split
  all_goals simp [Gw.ok, wfs, It.wf, Pk.wf, rwf, lvs]
theorem row_ok (t : Tv) (m : M) : (M.row t m).ok := by
  cases m <;> simp only [M.row]
  case statement =>
    split
    · simp [Gw.ok, wfs, It.wf, Pk.wf, rwf, lvs]
    · exact wordedR_ok _
  all_goals (repeat' split)
  all_goals simp [Gw.ok, wfs, It.wf, Pk.wf, rwf, lvs]
theorem pick_wf {t : Tv} {p : Pk} (hp : p.wf) {i : It} (h : Pk.pick t p = some i) : i.wf ∧ lvs [i] = [] := by
  cases p with
  | fn d =>
    simp only [Pk.pick, Option.map_eq_some_iff] at h
    obtain ⟨m, _, rfl⟩ := h
    exact ⟨trivial, rfl⟩
  | row r =>
    simp only [Pk.pick] at h
    split at h
    · cases h; exact ⟨hp, rfl⟩
    · cases h
  | ex m =>
    simp only [Pk.pick] at h
    split at h
    · cases h
    · cases h; exact ⟨trivial, rfl⟩
/-- What a step keeps. -/
theorem step_ok {t : Tv} {i : It} {d : Int} {o : List Ev} {r K : List It} (h : It.step t i = .go d o r) (hi : i.wf) :
    wfs r ∧ r.length ≤ 11 ∧ o.length ≤ 1 ∧ ((lvs (r ++ K)).length : Int) = (lvs (i :: K)).length + d := by
  cases i with
  | fl x =>
    have hm : ∃ m, x = .mt m := by
      cases x with
      | mt m => exact ⟨m, rfl⟩
      | _ => simp only [It.step, Fl.step] at h; split at h <;> cases h
    obtain ⟨m, rfl⟩ := hm
    have hr := row_ok t m
    simp only [It.step, Fl.step] at h
    cases hrow : M.row t m with
    | ref => rw [hrow] at h; cases h
    | ex r' =>
      rw [hrow] at h hr
      cases h
      refine ⟨hr.1, by have := hr.2.1; omega, by simp, ?_⟩
      rw [lvs_app, hr.2.2]
      simp [lvs]
    | op nd r' =>
      rw [hrow] at h hr
      cases h
      refine ⟨wfs_app hr.1 (wfs_cons trivial wfs_nil), by have := hr.2.1; simp; omega, by simp, ?_⟩
      rw [lvs_app, lvs_app, hr.2.2.1]
      simp [lvs]
  | lv n =>
    cases h
    refine ⟨wfs_nil, by simp, by simp, ?_⟩
    simp [lvs]
    omega
  | once p =>
    simp only [It.step] at h
    cases hp : Pk.pick t p with
    | none => rw [hp] at h; cases h; exact ⟨wfs_nil, by simp, by simp, by simp [lvs]⟩
    | some j =>
      rw [hp] at h
      cases h
      have := pick_wf hi hp
      refine ⟨wfs_cons this.1 wfs_nil, by simp, by simp, ?_⟩
      show ((lvs ([j] ++ K)).length : Int) = _
      rw [lvs_app, this.2]
      simp [lvs]
  | again p =>
    simp only [It.step] at h
    cases hp : Pk.pick t p with
    | none => rw [hp] at h; cases h; exact ⟨wfs_nil, by simp [agR], by simp, by simp [lvs, agR]⟩
    | some j =>
      rw [hp] at h
      cases h
      have := pick_wf hi hp
      refine ⟨wfs_cons this.1 (wfs_cons hi wfs_nil), by simp [agR], by simp, ?_⟩
      show ((lvs ([j] ++ ([.again p] ++ K))).length : Int) = _
      rw [lvs_app, this.2]
      simp [lvs]
  | all r' =>
    cases h
    refine ⟨wfs_fl r', by have := hi.2; simp; omega, by simp, ?_⟩
    rw [lvs_app, lvs_fl]
    simp [lvs]

/-- What becomes of a token: it can't stand; it stands (what is to come then, how many nodes are open, what is told). -/
inductive Ro | no | yes (K : List It) (n : Int) (E : List Ev)
inductive Ru (t : Tv) : Nat → List It → Int → List Ev → Ro → Prop
  | nil {n : Int} {E : List Ev} : Ru t 0 [] n E .no
  | ref {i : It} {K : List It} {n : Int} {E : List Ev} : It.step t i = .ref → Ru t 0 (i :: K) n E .no
  | tk {i : It} {K : List It} {n : Int} {E : List Ev} : It.step t i = .tk → Ru t 0 (i :: K) n E (.yes K n E)
  | go {k : Nat} {i : It} {K : List It} {n d : Int} {E o : List Ev} {r : List It} {R : Ro} : It.step t i = .go d o r → Ru t k (r ++ K) (n + d) (E ++ o) R → Ru t (k + 1) (i :: K) n E R

/-- It ends soon, whatever is below. -/
def Soon (t : Tv) (c : Nat) (i : It) : Prop := ∀ K n E, ∃ k R, k ≤ c ∧ Ru t k (i :: K) n E R
theorem soon_fl (t : Tv) (x : Fl) (hx : ∀ m, x ≠ .mt m) (c : Nat) : Soon t c (.fl x) := by
  intro K n E
  have h : It.step t (.fl x) = if x.takes t then .tk else .ref := by
    cases x with
    | mt m => exact absurd rfl (hx m)
    | _ => rfl
  by_cases hb : x.takes t = true
  · rw [if_pos hb] at h; exact ⟨0, _, Nat.zero_le _, .tk h⟩
  · rw [if_neg hb] at h; exact ⟨0, _, Nat.zero_le _, .ref h⟩
theorem soon_go {t : Tv} {i j : It} {d : Int} {o : List Ev} {r : List It} {c : Nat} (h : It.step t i = .go d o (j :: r)) (hj : Soon t c j) : Soon t (c + 1) i := by
  intro K n E
  obtain ⟨k, R, hk, hR⟩ := hj (r ++ K) (n + d) (E ++ o)
  exact ⟨k + 1, R, by omega, .go h hR⟩
theorem Soon.up {t : Tv} {c c' : Nat} {i : It} (h : Soon t c i) (hc : c ≤ c') : Soon t c' i := by
  intro K n E
  obtain ⟨k, R, hk, hR⟩ := h K n E
  exact ⟨k, R, by omega, hR⟩
theorem soon_ref {t : Tv} {i : It} (h : It.step t i = .ref) (c : Nat) : Soon t c i := fun K n E => ⟨0, _, Nat.zero_le _, .ref h⟩

theorem ne_wd {k : Int} {ts : List ByteArray} : ∀ m, Fl.wd k ts ≠ .mt m := fun m h => by cases h
theorem ne_nm : ∀ m, Fl.nm ≠ .mt m := fun m h => by cases h
theorem ne_cs : ∀ m, Fl.cs ≠ .mt m := fun m h => by cases h
/-- A row that begins with a token. -/
theorem soon_w {t : Tv} {i : It} {d : Int} {o : List Ev} {x : Fl} {r : List It} (h : It.step t i = .go d o (.fl x :: r)) (hx : ∀ m, x ≠ .mt m) : Soon t 1 i := soon_go h (soon_fl t x hx 0)
theorem soon_object (t : Tv) : Soon t 1 (.fl (.mt .object)) := soon_w rfl ne_nm
theorem soon_typed (t : Tv) : Soon t 1 (.fl (.mt .typed)) := soon_w rfl ne_nm
theorem sr_ite {t : Tv} {m : M} {c : Nat} (h : ∀ R, M.row t m = R → R.sr = It.step t (.fl (.mt m))) : True := trivial
theorem soon_row {t : Tv} {m : M} {c : Nat} (R : Gw) (hR : M.row t m = R) (h : R = .ref ∨ (∃ x r, (∀ m, x ≠ Fl.mt m) ∧ (R = .ex (.fl x :: r) ∨ ∃ nd, R = .op nd (.fl x :: r)))) : Soon t 1 (.fl (.mt m)) := by
  have hs : It.step t (.fl (.mt m)) = R.sr := by simp only [It.step, Fl.step, hR]
  rcases h with rfl | ⟨x, r, hx, rfl | ⟨nd, rfl⟩⟩
  · exact soon_ref hs 1
  · exact soon_w hs hx
  · exact soon_w (d := 1) (o := [⟨1, nd, tv0⟩]) (x := x) (r := r ++ [It.lv nd]) hs hx
theorem soon_factor (t : Tv) : Soon t 2 (.fl (.mt .factor)) := by
  by_cases h : facN t = 28
  · have hs : It.step t (.fl (.mt .factor)) = .go 0 [] [.fl (.mt .object)] := by simp [It.step, Fl.step, M.row, h, Gw.sr]
    exact soon_go hs (soon_object t)
  · refine (soon_row (c := 0) _ rfl ?_).up (by omega)
    have h' : (facN t == 28) = false := by simpa using h
    simp only [M.row, h', Bool.false_eq_true, if_false]
    repeat' split
    all_goals first
      | exact .inl rfl
      | exact .inr ⟨_, _, ne_wd, .inr ⟨_, rfl⟩⟩
      | exact .inr ⟨_, _, ne_cs, .inr ⟨_, rfl⟩⟩
      | (rename_i hh; simp at hh)
theorem soon_kind (t : Tv) : Soon t 1 (.fl (.mt .kind)) := by
  refine soon_row (c := 0) _ rfl ?_
  simp only [M.row]
  repeat' split
  all_goals first
    | exact .inl rfl
    | exact .inr ⟨_, _, ne_wd, .inr ⟨_, rfl⟩⟩
    | exact .inr ⟨_, _, ne_nm, .inr ⟨_, rfl⟩⟩
theorem soon_statement (t : Tv) : Soon t 2 (.fl (.mt .statement)) := by
  by_cases h : (t.k == 1) = true
  · have hs : It.step t (.fl (.mt .statement)) = .go 1 [⟨1, 14, tv0⟩] ([.fl (.mt .object), .once (.row [.wd 6 [⟨#[58, 61]⟩], .mt .expr])] ++ [.lv 14]) := by simp [It.step, Fl.step, M.row, h, Gw.sr]
    exact soon_go (r := [.once (.row [.wd 6 [⟨#[58, 61]⟩], .mt .expr]), .lv 14]) hs (soon_object t)
  · refine (soon_row (c := 0) _ rfl ?_).up (by omega)
    have h' : (t.k == 1) = false := by simpa using h
    simp only [M.row, h', Bool.false_eq_true, if_false, wordedR]
    repeat' split
    all_goals first
      | exact .inl rfl
      | exact .inr ⟨_, _, ne_wd, .inr ⟨_, rfl⟩⟩
      | (rename_i hh; simp at hh)
theorem soon_term (t : Tv) : Soon t 3 (.fl (.mt .term)) := soon_go rfl (soon_factor t)
theorem soon_sum (t : Tv) : Soon t 4 (.fl (.mt .sum)) := soon_go rfl (soon_term t)
theorem soon_rel (t : Tv) : Soon t 5 (.fl (.mt .rel)) := soon_go rfl (soon_sum t)
theorem soon_expr (t : Tv) : Soon t 6 (.fl (.mt .expr)) := soon_go rfl (soon_rel t)
theorem soon_decl (t : Tv) (m : M) (h : m = .variables ∨ m = .constants ∨ m = .procedure ∨ m = .params ∨ m = .index ∨ m = .selection ∨ m = .args) : Soon t 1 (.fl (.mt m)) := by
  rcases h with rfl | rfl | rfl | rfl | rfl | rfl | rfl <;> exact soon_w rfl ne_wd
theorem dk_pick {t : Tv} {d : Dk} {m : M} (h : d.pick t = some m) : m = .variables ∨ m = .constants ∨ m = .procedure ∨ m = .params ∨ m = .index ∨ m = .selection ∨ m = .args := by
  cases d <;> simp only [Dk.pick] at h <;> repeat' (split at h)
  all_goals first | (cases h; done) | (cases h; simp)
theorem soon_block (t : Tv) : Soon t 4 (.fl (.mt .block)) := by
  intro K n E
  have hs : It.step t (.fl (.mt .block)) = .go 1 [⟨1, 2, tv0⟩] (.again (.fn .declaration) :: .fl (.wd 2 [⟨#[98, 101, 103, 105, 110]⟩]) :: [.fl (.mt .body), .fl (.wd 2 [⟨#[101, 110, 100]⟩]), .lv 2]) := rfl
  cases hp : Dk.pick t .declaration with
  | none =>
    have h2 : It.step t (.again (.fn .declaration)) = .go 0 [] [] := by simp [It.step, Pk.pick, hp, agR]
    obtain ⟨k, R, hk, hR⟩ := soon_fl t (.wd 2 [⟨#[98, 101, 103, 105, 110]⟩]) ne_wd 0 ([.fl (.mt .body), .fl (.wd 2 [⟨#[101, 110, 100]⟩]), .lv 2] ++ K) (n + 1 + 0) (E ++ [⟨1, 2, tv0⟩] ++ [])
    exact ⟨k + 1 + 1, R, by omega, .go hs (.go h2 hR)⟩
  | some m =>
    have h2 : It.step t (.again (.fn .declaration)) = .go 0 [] (.fl (.mt m) :: [.again (.fn .declaration)]) := by simp [It.step, Pk.pick, hp, agR]
    exact ((soon_go hs (soon_go h2 (soon_decl t m (dk_pick hp)))).up (by omega)) K n E
theorem soon_mt (t : Tv) (m : M) : Soon t 8 (.fl (.mt m)) := by
  cases m with
  | block => exact (soon_block t).up (by omega)
  | variables => exact (soon_decl t _ (by simp)).up (by omega)
  | constants => exact (soon_decl t _ (by simp)).up (by omega)
  | procedure => exact (soon_decl t _ (by simp)).up (by omega)
  | params => exact (soon_decl t _ (by simp)).up (by omega)
  | param => exact (soon_go rfl (soon_typed t)).up (by omega)
  | typed => exact (soon_typed t).up (by omega)
  | kind => exact (soon_kind t).up (by omega)
  | member => exact (soon_go rfl (soon_typed t)).up (by omega)
  | body => exact (soon_go rfl (soon_statement t)).up (by omega)
  | statement => exact (soon_statement t).up (by omega)
  | expr => exact (soon_expr t).up (by omega)
  | rel => exact (soon_rel t).up (by omega)
  | sum => exact (soon_sum t).up (by omega)
  | term => exact (soon_term t).up (by omega)
  | factor => exact (soon_factor t).up (by omega)
  | object => exact (soon_object t).up (by omega)
  | index => exact (soon_decl t _ (by simp)).up (by omega)
  | selection => exact (soon_decl t _ (by simp)).up (by omega)
  | args => exact (soon_decl t _ (by simp)).up (by omega)
  | list => exact (soon_go rfl (soon_expr t)).up (by omega)
theorem soon_flat (t : Tv) (x : Fl) : Soon t 8 (.fl x) := by
  cases x with
  | mt m => exact soon_mt t m
  | _ => exact soon_fl t _ (fun m h => by cases h) 8
theorem soon_pick {t : Tv} {p : Pk} (hp : p.wf) {i : It} (h : Pk.pick t p = some i) : Soon t 9 i := by
  cases p with
  | fn d =>
    simp only [Pk.pick, Option.map_eq_some_iff] at h
    obtain ⟨m, _, rfl⟩ := h
    exact (soon_mt t m).up (by omega)
  | row r =>
    simp only [Pk.pick] at h
    split at h
    · cases h
      obtain ⟨⟨k, ts, rest, rfl⟩, _⟩ := hp
      exact (soon_go (r := rest.map It.fl) rfl (soon_fl t (.wd k ts) ne_wd 0)).up (by omega)
    · cases h
  | ex m =>
    simp only [Pk.pick] at h
    split at h
    · cases h
    · cases h; exact (soon_mt t m).up (by omega)
/-- A token is taken or refused, in few steps. -/
theorem ru_ex (t : Tv) : ∀ (K : List It), wfs K → ∀ n E, ∃ k R, k ≤ K.length + 20 ∧ Ru t k K n E R
  | [], _, n, E => ⟨0, _, Nat.zero_le _, .nil⟩
  | i :: K, hw, n, E => by
    have hi : i.wf := hw i (List.mem_cons_self ..)
    have hK : wfs K := fun j hj => hw j (List.mem_cons_of_mem _ hj)
    have pop : ∀ d o, It.step t i = .go d o [] → ∃ k R, k ≤ (i :: K).length + 20 ∧ Ru t k (i :: K) n E R := by
      intro d o h
      obtain ⟨k, R, hk, hR⟩ := ru_ex t K hK (n + d) (E ++ o)
      exact ⟨k + 1, R, by simp; omega, .go h hR⟩
    have soon : ∀ c, c ≤ 20 → Soon t c i → ∃ k R, k ≤ (i :: K).length + 20 ∧ Ru t k (i :: K) n E R := by
      intro c hc h
      obtain ⟨k, R, hk, hR⟩ := h K n E
      exact ⟨k, R, by omega, hR⟩
    cases i with
    | fl x => exact soon 8 (by omega) (soon_flat t x)
    | lv nd => exact pop _ _ rfl
    | once p =>
      cases hp : Pk.pick t p with
      | none => exact pop 0 [] (by simp [It.step, hp])
      | some j => exact soon 10 (by omega) (soon_go (r := []) (by simp [It.step, hp]; exact ⟨rfl, rfl⟩) (soon_pick hi hp))
    | again p =>
      cases hp : Pk.pick t p with
      | none => exact pop 0 [] (by simp [It.step, hp, agR])
      | some j => exact soon 10 (by omega) (soon_go (r := [.again p]) (by simp [It.step, hp, agR]; exact ⟨rfl, rfl⟩) (soon_pick hi hp))
    | all r =>
      obtain ⟨⟨k, ts, rest, rfl⟩, _⟩ := hi
      exact soon 1 (by omega) (soon_go (r := rest.map It.fl) rfl (soon_fl t (.wd k ts) ne_wd 0))

end Go.Proofs.YtkigadnkclkopaaGreat
