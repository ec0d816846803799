import Derived.Test.YtfkegaencoodbaaDoorRows
import Derived.WalkKit
import Derived.WalkSpells
import Derived.WalkLawsBesides
import Derived.WalkSmall
import Derived.Laws.CopyOwn
import Derived.Deep.RegionLaw
set_option linter.unusedVariables false
set_option linter.unusedSimpArgs false
namespace Go.Proofs.YtfkegaencoodbaaDoor
open Go.RowKit

/-! Labels: which block belongs to which ring (0: to none). -/

/-- What a call on the ring of label i leaves alone. -/
structure Fr (i : Nat) (own own' : Nat → Nat) (w w' : World) : Prop where
  os : w'.os = w.os
  tape : w'.tape = w.tape
  output : w'.output = w.output
  size : w.heap.size ≤ w'.heap.size
  block : ∀ k, k < w.heap.size → own k ≠ i → w'.heap[k]? = w.heap[k]?
  old : ∀ k, k < w.heap.size → own' k = own k

/-- Blocks that are not there yet belong to none. -/
def Nf (own : Nat → Nat) (w : World) : Prop := ∀ k, w.heap.size ≤ k → own k = 0

theorem Fr.refl (i : Nat) (own : Nat → Nat) (w : World) : Fr i own own w w := ⟨rfl, rfl, rfl, Nat.le_refl _, fun _ _ _ => rfl, fun _ _ => rfl⟩
theorem Fr.trans {i : Nat} {o0 o1 o2 : Nat → Nat} {a b c : World} (h : Fr i o0 o1 a b) (k : Fr i o1 o2 b c) : Fr i o0 o2 a c :=
  ⟨k.os.trans h.os, k.tape.trans h.tape, k.output.trans h.output, Nat.le_trans h.size k.size,
   fun j hj hi => (k.block j (Nat.lt_of_lt_of_le hj h.size) (by rw [h.old j hj]; exact hi)).trans (h.block j hj hi),
   fun j hj => (k.old j (Nat.lt_of_lt_of_le hj h.size)).trans (h.old j hj)⟩
theorem Fr.of_below {i : Nat} {own : Nat → Nat} {w w' : World} (h : Below w.heap.size w w') : Fr i own own w w' :=
  ⟨h.os, h.tape, h.output, h.size, fun k hk _ => h.block k hk, fun _ _ => rfl⟩
theorem Fr.below {i B : Nat} {own own' : Nat → Nat} {w w' : World} (h : Fr i own own' w w') (hB : B ≤ w.heap.size) (ho : ∀ k, k < B → own k = 0) (hi : i ≠ 0) : Below B w w' :=
  ⟨h.os, h.tape, h.output, h.size, fun k hk => h.block k (by omega) (by rw [ho k hk]; omega)⟩
theorem Fr.cell {i : Nat} {own own' : Nat → Nat} {w w' : World} (h : Fr i own own' w w') {a : Addr} {v : Value} (hc : w.cell? a = some v) (hi : own a.block ≠ i) : w'.cell? a = some v :=
  (World.cell?_of_block (h.block a.block (World.block_lt_of_cell? w a hc) hi)).trans hc
theorem Nf.below {own : Nat → Nat} {w w' : World} (h : Nf own w) (hb : w.heap.size ≤ w'.heap.size) : Nf own w' := fun k hk => h k (by omega)

/-! Blocks. -/
theorem blk_cell {W : World} {g k : Nat} {cs : Array Value} {T : TypeId} {v : Value} (h : W.heap[g]? = some (.cells cs T (0, 0))) (hk : cs[k]? = some v) : W.cell? ⟨g, k, none⟩ = some v := by simp [World.cell?, h, hk]
theorem blk_frozen {W : World} {g k : Nat} {cs : Array Value} {T : TypeId} (h : W.heap[g]? = some (.cells cs T (0, 0))) : W.frozen? ⟨g, k, none⟩ = false := by simp [World.frozen?, h]
theorem blk_set {W : World} {g : Nat} {cs : Array Value} {T : TypeId} (h : W.heap[g]? = some (.cells cs T (0, 0))) (k : Nat) (v : Value) : (W.setCell ⟨g, k, none⟩ v).heap[g]? = some (.cells (cs.setIfInBounds k v) T (0, 0)) := by
  obtain ⟨hlt, hk⟩ := Array.getElem?_eq_some_iff.1 h
  show (W.heap.modify g _)[g]? = _
  rw [Array.getElem?_eq_getElem (by rw [Array.size_modify]; exact hlt), Array.getElem_modify_self, hk]
  rfl
theorem blk_other {W : World} {g b k : Nat} {o : Obj} (h : W.heap[g]? = some o) (hne : g ≠ b) (v : Value) : (W.setCell ⟨b, k, none⟩ v).heap[g]? = some o :=
  (Below.heap_setCell W ⟨b, k, none⟩ v g hne).trans h
theorem blk_lt {W : World} {g : Nat} {o : Obj} (h : W.heap[g]? = some o) : g < W.heap.size := (Array.getElem?_eq_some_iff.1 h).1
theorem blk_below {W W' : World} {g : Nat} {o : Obj} (h : W.heap[g]? = some o) (hb : Below W.heap.size W W') : W'.heap[g]? = some o := (hb.block g (blk_lt h)).trans h

/-- A store into a block of the ring's own. -/
theorem Fr.set {i : Nat} {own own' : Nat → Nat} {w W : World} (h : Fr i own own' w W) {g : Nat} (hg : own' g = i) (k : Nat) (v : Value) (hN : ∀ j, j < w.heap.size → own j ≠ i → j ≠ g) : Fr i own own' w (W.setCell ⟨g, k, none⟩ v) :=
  ⟨h.os, h.tape, h.output, by show _ ≤ (W.heap.modify g _).size; rw [Array.size_modify]; exact h.size,
   fun j hj hi => (Below.heap_setCell W ⟨g, k, none⟩ v j (hN j hj hi)).trans (h.block j hj hi), h.old⟩
theorem Fr.set' {i : Nat} {own : Nat → Nat} {w W : World} (h : Fr i own own w W) {g : Nat} (hg : own g = i) (k : Nat) (v : Value) : Fr i own own w (W.setCell ⟨g, k, none⟩ v) :=
  h.set hg k v (fun j _ hj e => hj (by rw [e]; exact hg))
theorem Fr.drewN {i : Nat} {own own' : Nat → Nat} {w W : World} (h : Fr i own own' w W) (m : Nat) : Fr i own own' w (W.drewN m) := by
  exact ⟨by rw [World.drewN]; exact h.os, by rw [World.drewN]; exact h.tape, by rw [World.drewN]; exact h.output, by rw [World.drewN]; exact h.size, by rw [World.drewN]; exact h.block, h.old⟩
theorem Fr.then {i : Nat} {own own' : Nat → Nat} {w W W' : World} (h : Fr i own own' w W) (hb : Below W.heap.size W W') : Fr i own own' w W' :=
  ⟨hb.os.trans h.os, hb.tape.trans h.tape, hb.output.trans h.output, Nat.le_trans h.size hb.size, fun j hj hi => (hb.block j (Nat.lt_of_lt_of_le hj h.size)).trans (h.block j hj hi), h.old⟩

/-! Rows of things, each laid into cells. -/
section
variable {β : Type} (enc : β → List Value) (sz : Nat)

def flat (zs : List β) : List Value := zs.flatMap enc

theorem flat_nil : flat enc [] = [] := rfl
theorem flat_cons (x : β) (zs : List β) : flat enc (x :: zs) = enc x ++ flat enc zs := rfl
theorem flat_append (xs zs : List β) : flat enc (xs ++ zs) = flat enc xs ++ flat enc zs := by unfold flat; exact List.flatMap_append
variable (hsz : ∀ x, (enc x).length = sz)
include hsz
theorem flat_len (zs : List β) : (flat enc zs).length = zs.length * sz := by
  induction zs with
  | nil => simp [flat]
  | cons x r ih => rw [flat_cons, List.length_append, ih, hsz, List.length_cons, Nat.succ_mul]; omega
theorem flat_drop : ∀ (k : Nat) (zs : List β), (flat enc zs).drop (k * sz) = flat enc (zs.drop k)
  | 0, zs => by simp
  | k + 1, [] => by simp [flat]
  | k + 1, x :: r => by
    rw [flat_cons, List.drop_append, hsz, List.drop_succ_cons, ← flat_drop k r, List.drop_eq_nil_of_le (by rw [hsz, Nat.succ_mul]; omega), List.nil_append]
    congr 1; rw [Nat.succ_mul]; omega
theorem flat_take : ∀ (k : Nat) (zs : List β), (flat enc zs).take (k * sz) = flat enc (zs.take k)
  | 0, zs => by simp [flat]
  | k + 1, [] => by simp [flat]
  | k + 1, x :: r => by
    rw [flat_cons, List.take_append, hsz, List.take_succ_cons, flat_cons, ← flat_take k r, List.take_of_length_le (by rw [hsz, Nat.succ_mul]; omega)]
    congr 2; rw [Nat.succ_mul]; omega
theorem flat_at (zs : List β) (k j : Nat) (x : β) (v : Value) (hk : zs[k]? = some x) (hv : (enc x)[j]? = some v) : (flat enc zs)[k * sz + j]? = some v := by
  have h1 : (flat enc zs)[k * sz + j]? = ((flat enc zs).drop (k * sz))[j]? := by rw [List.getElem?_drop]
  rw [h1, flat_drop enc sz hsz]
  obtain ⟨hl, he⟩ := List.getElem?_eq_some_iff.1 hk
  rw [List.drop_eq_getElem_cons hl, he, flat_cons]
  rw [List.getElem?_append_left (List.getElem?_eq_some_iff.1 hv).1]
  exact hv
omit hsz in
/-- Two copies into a row of zeros. -/
theorem splice_two {α : Type} (Z A B : List α) (k : Nat) (hk : A.length = k) (h : A.length + B.length ≤ Z.length) : splice (splice Z 0 A) k B = A ++ (B ++ Z.drop (k + B.length)) := by
  subst hk
  unfold splice
  rw [List.take_zero, List.nil_append, Nat.zero_add]
  rw [List.take_left', List.drop_append]
  · simp_all
  · rfl
end

/-! What a ring holds. -/
/-- l is what lies in zs from front on, round and round. -/
def Holds {β : Type} (zs : List β) (front : Nat) (l : List β) : Prop := l.length ≤ zs.length ∧ ∀ i, i < l.length → l[i]? = zs[(front + i) % zs.length]?

theorem Holds.widen {β : Type} {zs l Z : List β} {front : Nat} (h : Holds zs front l) (hf : front ≤ zs.length) (hfull : l.length = zs.length) : Holds (zs.drop front ++ zs.take front ++ Z) 0 l := by
  have hlen : (zs.drop front ++ zs.take front).length = zs.length := by simp; omega
  refine ⟨by rw [List.length_append, hlen]; omega, fun i hi => ?_⟩
  rw [h.2 i hi, Nat.zero_add, Nat.mod_eq_of_lt (a := i) (by rw [List.length_append, hlen]; omega), List.getElem?_append_left (l₁ := zs.drop front ++ zs.take front) (by omega)]
  by_cases hc : front + i < zs.length
  · rw [Nat.mod_eq_of_lt hc, List.getElem?_append_left (by simp; omega), List.getElem?_drop]
  · rw [List.getElem?_append_right (by simp; omega), List.getElem?_take, if_pos (by simp; omega)]
    congr 1
    rw [Nat.mod_eq_sub_mod (by omega), Nat.mod_eq_of_lt (by omega)]; simp; omega

theorem mod_ne {f n i j : Nat} (hi : i < n) (hj : j < n) (h : i ≠ j) : (f + i) % n ≠ (f + j) % n := by
  intro e
  have hn : 0 < n := by omega
  have h1 := Nat.div_add_mod (f + i) n
  have h2 := Nat.div_add_mod (f + j) n
  rw [e] at h1
  have h3 : n * ((f + i) / n) + j = n * ((f + j) / n) + i := by omega
  rcases Nat.lt_trichotomy ((f + i) / n) ((f + j) / n) with hlt | heq | hgt
  · have := Nat.mul_le_mul_left n hlt; rw [Nat.mul_succ] at this; omega
  · rw [heq] at h3; omega
  · have := Nat.mul_le_mul_left n hgt; rw [Nat.mul_succ] at this; omega

theorem Holds.push {β : Type} {zs l : List β} {front : Nat} (x : β) (h : Holds zs front l) (hlt : l.length < zs.length) : Holds (zs.set ((front + l.length) % zs.length) x) front (l ++ [x]) := by
  have hm : (front + l.length) % zs.length < zs.length := Nat.mod_lt _ (by omega)
  refine ⟨by simp; omega, fun i hi => ?_⟩
  simp at hi
  rw [List.length_set]
  by_cases hc : i < l.length
  · rw [List.getElem?_append_left hc, List.getElem?_set_ne (mod_ne (by omega) (by omega) (by omega)), h.2 i hc]
  · grind

theorem Holds.set {β : Type} {zs l : List β} {front i : Nat} (x : β) (h : Holds zs front l) (hi : i < l.length) : Holds (zs.set ((front + i) % zs.length) x) front (l.set i x) := by
  have hl := h.1
  have hm : (front + i) % zs.length < zs.length := Nat.mod_lt _ (by omega)
  refine ⟨by simp; omega, fun j hj => ?_⟩
  simp at hj
  rw [List.length_set]
  by_cases hc : i = j
  · subst hc; rw [List.getElem?_set_self hj, List.getElem?_set_self hm]
  · rw [List.getElem?_set_ne hc, List.getElem?_set_ne (mod_ne (by omega) (by omega) hc), h.2 j hj]

/-- The last one goes, its cell is cleared. -/
theorem Holds.popBack {β : Type} {zs l : List β} {front : Nat} (z : β) (h : Holds zs front l) (hp : 0 < l.length) : Holds (zs.set ((front + (l.length - 1)) % zs.length) z) front l.dropLast := by
  have hl := h.1
  refine ⟨by simp; omega, fun j hj => ?_⟩
  simp at hj
  rw [List.length_set, List.getElem?_set_ne (mod_ne (by omega) (by omega) (by omega)), ← h.2 j (by omega), List.getElem?_dropLast, if_pos (by omega)]

theorem Holds.popFront {β : Type} {zs l : List β} {front : Nat} (z : β) (h : Holds zs front l) (hp : 0 < l.length) : Holds (zs.set ((front + 0) % zs.length) z) ((front + 1) % zs.length) l.tail := by
  have hl := h.1
  refine ⟨by simp; omega, fun j hj => ?_⟩
  simp at hj
  rw [List.length_set, Nat.mod_add_mod, List.getElem?_tail, Nat.add_assoc, Nat.add_comm 1 j, List.getElem?_set_ne (mod_ne (by omega) (by omega) (by omega))]
  exact h.2 (j + 1) (by omega)

/-! The sized copy. -/
theorem run_copy_sized {P : Program} (w : World) (dT sT ty elem : TypeId) (sz g o dLen dCap : Nat) (a : Addr) (sLen sCap : Nat) (cur : Array Value) (t : TypeId) (cs : List Value)
    (hu : P.underlying dT = some (.slice elem)) (hs : (P.info? elem).map (·.size) = some sz)
    (hg : w.heap[g]? = some (.cells cur t (0, 0))) (hn : cs.length = Nat.min sLen dLen * sz)
    (hsrc : ∀ j v, cs[j]? = some v → w.cell? (a.add j) = some v) (hfit : o + cs.length ≤ cur.size) (h1 : ∀ v ∈ cs, v.oneCell' = true) :
    (Builtin.copy_ #[dT, sT] ty #[.slice (some ⟨g, o, none⟩) dLen dCap, .slice (some a) sLen sCap]).run P w =
      .ok (goInt (Nat.min sLen dLen)) (w.setRow g (cur.toList.take o ++ cs ++ cur.toList.drop (o + cs.length)).toArray) := by
  have hl := run_loadCells_list (P := P) w a cs hsrc
  have hst := run_storeCells_at P g o t cs 0 cur w hg (by simpa using hfit) h1
  cases hq : P.info? elem with
  | none => simp [hq] at hs
  | some i =>
    have hi : i.size = sz := by simpa [hq] using hs
    simp [Builtin.copy_, run_underlying hu, Builtin.lenOf, Builtin.firstCells, sizeOf, typeInfo, hq, hi, ← hn, hl, hst]

theorem run_copy_none_sized {P : Program} (w : World) (dT sT ty elem : TypeId) (sz : Nat) (d a : Option Addr) (dLen dCap sLen sCap : Nat) (hu : P.underlying dT = some (.slice elem)) (hs : (P.info? elem).map (·.size) = some sz) (hn : Nat.min sLen dLen = 0) :
    (Builtin.copy_ #[dT, sT] ty #[.slice d dLen dCap, .slice a sLen sCap]).run P w = .ok (goInt 0) w := by
  cases hq : P.info? elem with
  | none => simp [hq] at hs
  | some i =>
    have hl : ∀ (x : Addr), (loadCells x 0).run P w = .ok #[] w := fun x => by simpa using run_loadCells_list (P := P) w x [] (by simp)
    cases d <;> cases a <;> simp [Builtin.copy_, run_underlying hu, Builtin.lenOf, Builtin.firstCells, sizeOf, typeInfo, hq, hn, storeCells, hl]

/-- copy as a step of a region that draws its order, things of sz cells. -/
theorem step_copy_sized {P : Program} {ops : Array Oper} {o : Oper} {a : Act} {w : World} {K : Act → World → Prop} {Q : Exit → Act → World → Prop} {E : Prop} (hgd : o.guard = none) (d s : Operand) (dT sT : TypeId)
    (ho : o.op = .call { callee := .builtin .copy, args := #[d, s], argTypes := #[dT, sT] }) (elem : TypeId) (sz : Nat) (hu : P.underlying dT = some (.slice elem)) (hsz : (P.info? elem).map (·.size) = some sz)
    (dp sp : Option Addr) (dLen dCap sLen sCap : Nat) (hd : a.eval d = .slice dp dLen dCap) (hs : a.eval s = .slice sp sLen sCap)
    (g off : Nat) (cur : List Value) (t : TypeId) (hg : w.heap[g]? = some (.cells cur.toArray t (0, 0))) (cs : List Value) (m : Nat) (hm : m = Nat.min sLen dLen) (hn : cs.length = m * sz)
    (hpos : 0 < m → dp = some ⟨g, off, none⟩ ∧ ∃ ad, sp = some ad ∧ ∀ j v, cs[j]? = some v → w.cell? (ad.add j) = some v)
    (hfit : off + cs.length ≤ cur.length) (h1 : ∀ v ∈ cs, v.oneCell' = true) (B : Nat) (w0 : World) (hb : RowKit.Below B w0 w) (hBg : B ≤ g)
    (h : ∀ w', RowKit.Hid (w'.heap[g]? = some (.cells (splice cur off cs).toArray t (0, 0))) → RowKit.Below B w0 w' → K (a.put o.dst (goInt m)) w') :
    if Region.wanted o (yielded ops a.tmps) = true then Oper.wp P o a w K Q else E := by
  have hw : Region.wanted o (yielded ops a.tmps) = true := by simp [Region.wanted, hgd]
  rw [if_pos hw]
  by_cases h0 : m = 0
  · subst h0
    obtain rfl : cs = [] := List.eq_nil_of_length_eq_zero (by simpa using hn)
    have hrun := run_copy_none_sized (P := P) w dT sT o.type elem sz dp sp dLen dCap sLen sCap hu hsz hm.symm
    unfold Oper.wp
    simp [execOp, ho, resolve, invoke, builtin, hd, hs, hrun, Result.andThen]
    exact h w (show _ = _ by simpa [splice] using hg) hb
  · obtain ⟨rfl, ad, rfl, hsrc⟩ := hpos (by omega)
    have hrun := run_copy_sized (P := P) w dT sT o.type elem sz g off dLen dCap ad sLen sCap cur.toArray t cs hu hsz hg (by rw [hn, hm]) hsrc (by simpa using hfit) h1
    rw [← hm] at hrun
    unfold Oper.wp
    simp [execOp, ho, resolve, invoke, builtin, hd, hs, hrun, Result.andThen]
    exact h _ (show _ = _ by simpa [splice] using setRow_heap w g _ _ t _ hg) (below_setRow hb hBg _)

end Go.Proofs.YtfkegaencoodbaaDoor
