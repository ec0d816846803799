import Derived.Test.YtojjfbnpjhjidaaGreatDoorRows
import Derived.WalkKit
import Derived.WalkSpells
import Derived.WalkLawsBesides
import Derived.WalkSmall
import Derived.Laws.CopyOwn
import Derived.Deep.RegionLaw
import Derived.Maps.AppendAt
import Derived.Lib.AppendStr
import Derived.Deep.AppendLies
import Derived.ProofKit
import Derived.OpenShut
import Derived.Lay
import Derived.Deep.Strs
import Derived.Stop.Joined
import Derived.MakeChecks
set_option linter.unusedVariables false
set_option linter.unusedSimpArgs false
namespace Go.Proofs.YtojjfbnpjhjidaaGreatDoor
open Go.RowKit
theorem hid{p:Prop}(h:p):Hid p:=h
theorem blk_cell {W : World} {g k : Nat} {cs : Array Value} {T : TypeId} {v : Value} (h : W.heap[g]? = some (.cells cs T (0, 0))) (hk : cs[k]? = some v) : W.cell? ⟨g, k, none⟩ = some v := by simp [World.cell?, h, hk]
theorem blk_frozen {W : World} {g k : Nat} {cs : Array Value} {T : TypeId} (h : W.heap[g]? = some (.cells cs T (0, 0))) : W.frozen? ⟨g, k, none⟩ = false := by simp [World.frozen?, h]
theorem blk_set {W : World} {g : Nat} {cs : Array Value} {T : TypeId} (h : W.heap[g]? = some (.cells cs T (0, 0))) (k : Nat) (v : Value) : (W.setCell ⟨g, k, none⟩ v).heap[g]? = some (.cells (cs.setIfInBounds k v) T (0, 0)) := by
  obtain ⟨hlt, hk⟩ := Array.getElem?_eq_some_iff.1 h
  show (W.heap.modify g _)[g]? = _
  rw [Array.getElem?_eq_getElem (by rw [Array.size_modify]; exact hlt), Array.getElem_modify_self, hk]
  rfl
theorem blk_other {W : World} {g b k : Nat} {o : Obj} (h : W.heap[g]? = some o) (hne : g ≠ b) (v : Value) : (W.setCell ⟨b, k, none⟩ v).heap[g]? = some o :=
  (Below.heap_setCell W ⟨b, k, none⟩ v g hne).trans h
theorem blk_lt {W : World} {g : Nat} {o : Obj} (h : W.heap[g]? = some o) : g < W.heap.size := (Array.getElem?_eq_some_iff.1 h).1
theorem blk_below {W W' : World} {g : Nat} {o : Obj} (h : W.heap[g]? = some o) (hb : Below W.heap.size W W') : W'.heap[g]? = some o := (hb.block g (blk_lt h)).trans h
section
variable {β : Type} (enc : β → List Value) (sz : Nat)
def flat (zs : List β) : List Value := zs.flatMap enc
theorem flat_cons (x : β) (zs : List β) : flat enc (x :: zs) = enc x ++ flat enc zs := rfl
theorem flat_append (xs zs : List β) : flat enc (xs ++ zs) = flat enc xs ++ flat enc zs := by unfold flat; exact List.flatMap_append
variable (hsz : ∀ x, (enc x).length = sz)
include hsz
theorem flat_len (zs : List β) : (flat enc zs).length = zs.length * sz := by
  induction zs with
  | nil => simp [flat]
  | cons x r ih => rw [flat_cons, List.length_append, ih, hsz, List.length_cons, Nat.succ_mul]; omega
theorem flat_drop : ∀ (k : Nat) (zs : List β), (flat enc zs).drop (k * sz) = flat enc (zs.drop k)
  | 0, zs => by simp
  | k + 1, [] => by simp [flat]
  | k + 1, x :: r => by
    rw [flat_cons, List.drop_append, hsz, List.drop_succ_cons, ← flat_drop k r, List.drop_eq_nil_of_le (by rw [hsz, Nat.succ_mul]; omega), List.nil_append]
    congr 1; rw [Nat.succ_mul]; omega
theorem flat_at (zs : List β) (k j : Nat) (x : β) (v : Value) (hk : zs[k]? = some x) (hv : (enc x)[j]? = some v) : (flat enc zs)[k * sz + j]? = some v := by
  have h1 : (flat enc zs)[k * sz + j]? = ((flat enc zs).drop (k * sz))[j]? := by rw [List.getElem?_drop]
  rw [h1, flat_drop enc sz hsz]
  obtain ⟨hl, he⟩ := List.getElem?_eq_some_iff.1 hk
  rw [List.drop_eq_getElem_cons hl, he, flat_cons]
  rw [List.getElem?_append_left (List.getElem?_eq_some_iff.1 hv).1]
  exact hv
omit hsz in
end
end Go.Proofs.YtojjfbnpjhjidaaGreatDoor
namespace Go.Proofs.YtojjfbnpjhjidaaGreatDoor
open Go.RowKit
open Go.Lib (strCells strCells_length)
def bc (l : List UInt8) : List Value := l.map fun b => Value.int .u8 b.toNat
theorem bc_len (l : List UInt8) : (bc l).length = l.length := by simp [bc]
theorem bc_app (a b : List UInt8) : bc (a ++ b) = bc a ++ bc b := by simp [bc]
theorem run_append_string_at {P : Program} (w : World) (base : Nat) (t u ty e : TypeId) (i : TypeInfo) (ht : P.underlying t = some (.slice e)) (hu : P.underlying u = some .string) (hi : P.info? e = some i) (hz : i.zero = some (.int .u8 0))
    (hsize : i.size = 1) (hby : i.bytes = 1) (v : Value) (n : Nat) (xs : List Value) (hown : w.ownsRow base e 1 v n xs) (s : ByteArray)
    (h63 : n + s.size ≤ maxLen) (hbytes : n + s.size ≤ 140737488355328) (hbase : base ≤ w.heap.size) :
    ∃ v' w', (Builtin.append_ #[t, u] ty #[v, .string s]).run P w = .ok v' w' ∧ w'.ownsRow base e 1 v' (n + s.size) (xs ++ strCells s) ∧ w.grownBy w' v.ownBlock ∧ (v'.ownBlock = v.ownBlock ∨ v'.ownBlock = some w.heap.size) := by
  obtain ⟨v', w', hr, h1, h2, h3⟩ := Lib.run_append_own_string (P := P) w base t u ty e i ht hu hi hz hsize hby v n xs hown s h63 hbytes hbase
  refine ⟨v', w', hr, h1, h2, ?_⟩
  have hsmall : n + s.size ≤ 9223372036854775807 := by simp only [maxLen] at h63; omega
  have hxl : xs.length = n := by simpa using hown.1
  rcases hown.2 with ⟨rfl, rfl⟩ | ⟨g, cap, cur, rfl, hbg, hg, hnc, hcm, hcs, htake⟩
  · by_cases hm : s.size = 0
    · left; rw [h3.2 ⟨rfl, hm⟩]
    · have hr2 := run_append_nil_string (P := P) w t u ty e i (.int .u8 0) ht hu hi hz s (by omega) (by omega) (by rw [hby]; omega)
      rw [hr2] at hr
      injection hr with e1 e2
      right; rw [← e1]; rfl
  · by_cases hroom : n + s.size ≤ cap
    · have hcs' : cur.size = cap := by simpa using hcs
      have hr2 := Lib.run_append_room_string (P := P) w t u ty e i ht hu hi hsize g n cap cur hg s hroom (by omega)
      rw [hr2] at hr
      injection hr with e1 e2
      left; rw [← e1]; rfl
    · have holds : ∀ j u, xs[j]? = some u → w.cell? ((⟨g, 0, none⟩ : Addr).add j) = some u := hown.cells (g := g) rfl
      have hr2 := Lib.run_append_grow_string (P := P) w t u ty e i (.int .u8 0) ht hu hi hz ⟨g, 0, none⟩ n cap xs (by rw [hsize]; simpa using hxl) holds s (by omega) (by omega) (by rw [hby]; exact growslice_fits (by omega) (by omega))
      rw [hr2] at hr
      injection hr with e1 e2
      right; rw [← e1]; rfl
theorem wpList_append_string_at {P : Program} {w : World} {ops : Array Oper} {rest : List Oper} {o : Oper} {a : Act} {Q : Exit → Act → World → Prop} (hgd : o.guard = none) (sl x : Operand) (t u : TypeId)
    (ho : o.op = .call { callee := .builtin .append, args := #[sl, x], argTypes := #[t, u] })
    (base : Nat) (e : TypeId) (i : TypeInfo) (ht : P.underlying t = some (.slice e)) (hu : P.underlying u = some .string) (hi : P.info? e = some i) (hz : i.zero = some (.int .u8 0))
    (hsize : i.size = 1) (hby : i.bytes = 1)
    (v : Value) (n : Nat) (xs : List Value) (hs : a.eval sl = v) (hown : w.ownsRow base e 1 v n xs) (s : ByteArray) (hx : a.eval x = .string s)
    (h63 : n + s.size ≤ maxLen) (hbytes : n + s.size ≤ 140737488355328) (hbase : base ≤ w.heap.size)
    (h : ∀ v' w', w'.ownsRow base e 1 v' (n + s.size) (xs ++ strCells s) → w.grownBy w' v.ownBlock → (v'.ownBlock = v.ownBlock ∨ v'.ownBlock = some w.heap.size) → wpList P ops Q rest (a.put o.dst v') w') : wpList P ops Q (o :: rest) a w := by
  refine wpList_plain hgd fun K hK => ?_
  obtain ⟨v', w', hr, h2, h3, h4⟩ := run_append_string_at (P := P) w base t u o.type e i ht hu hi hz hsize hby v n xs hown s h63 hbytes hbase
  unfold Oper.wp execOp
  simp only [ho, resolve, invoke, builtin, Sem.run_bind, Sem.run_pure, Result.andThen_ok, List.map_toArray, List.map_cons, List.map_nil, hs, hx, hr]
  exact hK _ _ (h v' w' h2 h3 h4)
structure Kp (S : Nat → Prop) (w w' : World) : Prop where
  os : w'.os = w.os
  tape : w'.tape = w.tape
  output : w'.output = w.output
  size : w.heap.size ≤ w'.heap.size
  block : ∀ k, k < w.heap.size → ¬ S k → w'.heap[k]? = w.heap[k]?
theorem Kp.refl (S : Nat → Prop) (w : World) : Kp S w w := ⟨rfl, rfl, rfl, Nat.le_refl _, fun _ _ _ => rfl⟩
theorem Kp.step {S T : Nat → Prop} {a b c : World} (h : Kp S a b) (k : Kp T b c) (hT : ∀ j, j < a.heap.size → T j → S j) : Kp S a c :=
  ⟨k.os.trans h.os, k.tape.trans h.tape, k.output.trans h.output, Nat.le_trans h.size k.size, fun j hj hS => (k.block j (Nat.lt_of_lt_of_le hj h.size) (fun ht => hS (hT j hj ht))).trans (h.block j hj hS)⟩
theorem Kp.of_below {S : Nat → Prop} {w w' : World} (h : Below w.heap.size w w') : Kp S w w' := ⟨h.os, h.tape, h.output, h.size, fun k hk _ => h.block k hk⟩
theorem Kp.of_grown {w w' : World} {row : Option Nat} (h : w.grownBy w' row) : Kp (fun k => some k = row) w w' := ⟨h.os, h.tape, h.output, h.size, fun k hk hS => h.block k hk hS⟩
theorem Kp.set (w : World) (g k : Nat) (v : Value) : Kp (fun j => j = g) w (w.setCell ⟨g, k, none⟩ v) :=
  ⟨rfl, rfl, rfl, by show _ ≤ (w.heap.modify g _).size; rw [Array.size_modify]; exact Nat.le_refl _, fun j hj hS => Below.heap_setCell w ⟨g, k, none⟩ v j hS⟩
theorem Kp.blk {S : Nat → Prop} {w w' : World} (h : Kp S w w') {g : Nat} {o : Obj} (hg : w.heap[g]? = some o) (hS : ¬ S g) : w'.heap[g]? = some o := (h.block g (blk_lt hg) hS).trans hg
end Go.Proofs.YtojjfbnpjhjidaaGreatDoor
namespace Go.Proofs.YtojjfbnpjhjidaaGreatDoor
open Go.RowKit
structure Tv where
  k : Int
  t : ByteArray
  a : Int
  l : Int
  c : Int
  f : Int
deriving DecidableEq
def Tv.v (d : Tv) : Value := .agg #[.int .u8 d.k, .string d.t, .int .i64 d.a, .int .i64 d.l, .int .i64 d.c, .int .i64 d.f]
def Tv.cs (d : Tv) : List Value := [.int .u8 d.k, .string d.t, .int .i64 d.a, .int .i64 d.l, .int .i64 d.c, .int .i64 d.f]
theorem Tv.cs_len (d : Tv) : d.cs.length = 6 := rfl
theorem Tv.cs_one (d : Tv) : ∀ u ∈ d.cs, u.oneCell' = true := by
  intro u hu
  simp only [Tv.cs, List.mem_cons, List.not_mem_nil, or_false] at hu
  rcases hu with rfl | rfl | rfl | rfl | rfl | rfl <;> rfl
def tcs (l : List Tv) : List Value := flat Tv.cs l
theorem tcs_len (l : List Tv) : (tcs l).length = l.length * 6 := flat_len Tv.cs 6 Tv.cs_len l
theorem tcs_one (l : List Tv) : ∀ u ∈ tcs l, u.oneCell' = true := by
  intro u hu
  obtain ⟨d, _, h⟩ := List.mem_flatMap.1 hu
  exact d.cs_one u h
theorem tcs_app (a b : List Tv) : tcs (a ++ b) = tcs a ++ tcs b := flat_append Tv.cs a b
def Lt (w : World) (ao : Option Addr) (l : List Tv) : Prop := ∀ j d, l[j]? = some d → ∃ b off, ao = some ⟨b, off, none⟩ ∧
  w.cell? ⟨b, off + j * 6, none⟩ = some (.int .u8 d.k) ∧ w.cell? ⟨b, off + j * 6 + 1, none⟩ = some (.string d.t) ∧ w.cell? ⟨b, off + j * 6 + 2, none⟩ = some (.int .i64 d.a) ∧ w.cell? ⟨b, off + j * 6 + 3, none⟩ = some (.int .i64 d.l) ∧ w.cell? ⟨b, off + j * 6 + 4, none⟩ = some (.int .i64 d.c) ∧ w.cell? ⟨b, off + j * 6 + 5, none⟩ = some (.int .i64 d.f)
def Rt (B : Nat) (w : World) (v : Value) (l : List Tv) : Prop := w.ownsRow B 50 6 v l.length (tcs l)
theorem rt_nil (B : Nat) (w : World) : Rt B w (.slice none 0 0) [] := World.ownsRow_nil w B 50 6
theorem Rt.shape {B : Nat} {w : World} {v : Value} {l : List Tv} (h : Rt B w v l) : ∃ p cap, v = .slice p l.length cap ∧ l.length ≤ cap ∧ cap ≤ maxLen := by
  rcases h.2 with ⟨rfl, h0⟩ | ⟨b, cap, cur, rfl, _, h3, h4, h5, _⟩
  · exact ⟨none, 0, by rw [h0], by omega, Nat.zero_le _⟩
  · exact ⟨_, cap, rfl, h4, h5⟩
theorem Rt.own {B : Nat} {w : World} {v : Value} {l : List Tv} (h : Rt B w v l) : ∀ k, v.ownBlock = some k → B ≤ k := by
  intro k hk
  rcases h.2 with ⟨rfl, h0⟩ | ⟨b, cap, cur, rfl, hb, _⟩
  · cases hk
  · simp only [Value.ownBlock, Option.some.injEq] at hk
    omega
theorem Rt.below {B : Nat} {w w' : World} {v : Value} {l : List Tv} (h : Rt B w v l) (hb : Below w.heap.size w w') : Rt B w' v l := by
  refine ⟨h.1, ?_⟩
  rcases h.2 with h1 | ⟨g, cap, cur, rfl, h2, h3, h4⟩
  · exact .inl h1
  · exact .inr ⟨g, cap, cur, rfl, h2, blk_below h3 hb, h4⟩
theorem Rt.kp {B : Nat} {S : Nat → Prop} {w w' : World} {v : Value} {l : List Tv} (h : Rt B w v l) (hb : Kp S w w') (hS : ∀ k, v.ownBlock = some k → ¬ S k) : Rt B w' v l := by
  refine ⟨h.1, ?_⟩
  rcases h.2 with h1 | ⟨g, cap, cur, rfl, h2, h3, h4⟩
  · exact .inl h1
  · exact .inr ⟨g, cap, cur, rfl, h2, hb.blk h3 (hS g rfl), h4⟩
theorem Rt.ne {B : Nat} {w : World} {v : Value} {l : List Tv} (h : Rt B w v l) {g : Nat} {cs : Array Value} {T : TypeId} {f : Nat × Nat} (hg : w.heap[g]? = some (.cells cs T f)) (hT : T ≠ 50) : ∀ k, v.ownBlock = some k → k ≠ g := by
  intro k hk e
  rcases h.2 with ⟨rfl, h0⟩ | ⟨b, cap, cur, rfl, hb, h3, _⟩
  · cases hk
  · simp only [Value.ownBlock, Option.some.injEq] at hk
    subst hk
    subst e
    rw [hg] at h3
    cases h3
    exact hT rfl
theorem Lt.row {w : World} {B : Nat} {v : Value} {l : List Tv} (h : Rt B w v l) : ∃ ao cap, v = .slice ao l.length cap ∧ Lt w ao l ∧ (ao = none ∨ ∃ g, ao = some ⟨g, 0, none⟩ ∧ B ≤ g ∧ g < w.heap.size) ∧ l.length ≤ cap ∧ cap ≤ maxLen := by
  rcases h.2 with ⟨rfl, h0⟩ | ⟨g, cap, cur, rfl, hb, hg, h3, h4, h5, h6⟩
  · have : l = [] := List.eq_nil_of_length_eq_zero h0
    subst this
    exact ⟨none, 0, rfl, fun j d h => by simp at h, .inl rfl, Nat.zero_le _, Nat.zero_le _⟩
  · refine ⟨some ⟨g, 0, none⟩, cap, rfl, ?_, .inr ⟨g, rfl, hb, blk_lt hg⟩, h3, h4⟩
    intro j d hj
    have hc : ∀ (k : Nat) (u : Value), (tcs l)[k]? = some u → w.cell? ⟨g, k, none⟩ = some u := fun k u hu => by
      have := h.cells (g := g) rfl k u hu
      rw [Addr.add_lit, Nat.zero_add] at this
      exact this
    refine ⟨g, 0, rfl, ?_, ?_, ?_, ?_, ?_, ?_⟩
    · rw [Nat.zero_add]; exact hc _ _ (flat_at Tv.cs 6 Tv.cs_len l j 0 d _ hj rfl)
    · rw [Nat.zero_add]; exact hc _ _ (flat_at Tv.cs 6 Tv.cs_len l j 1 d _ hj rfl)
    · rw [Nat.zero_add]; exact hc _ _ (flat_at Tv.cs 6 Tv.cs_len l j 2 d _ hj rfl)
    · rw [Nat.zero_add]; exact hc _ _ (flat_at Tv.cs 6 Tv.cs_len l j 3 d _ hj rfl)
    · rw [Nat.zero_add]; exact hc _ _ (flat_at Tv.cs 6 Tv.cs_len l j 4 d _ hj rfl)
    · rw [Nat.zero_add]; exact hc _ _ (flat_at Tv.cs 6 Tv.cs_len l j 5 d _ hj rfl)
theorem Tryz.info50 : (Tryz.prog.info? 50).map (fun i => (i.zero, i.size, i.bytes)) = some (some (.agg #[.int .u8 0, .string ⟨#[]⟩, .int .i64 0, .int .i64 0, .int .i64 0, .int .i64 0]), 6, 56) := by kernel_rfl
theorem app_tok {W : World} {ops : Array Oper} {rest : List Oper} {o : Oper} {a : Act} {Q : Exit → Act → World → Prop} (hgd : o.guard = none) (s x : Operand)
    (ho : o.op = .call { callee := .builtin .append, args := #[s, x], argTypes := #[44, 44] }) (B : Nat) (v : Value) (l : List Tv) (d : Tv) (hs : a.eval s = v) (hr : Rt B W v l)
    (g c : Nat) (hx : a.eval x = .slice (some ⟨g, 0, none⟩) 1 c) (hg : W.heap[g]? = some (.cells #[.int .u8 d.k, .string d.t, .int .i64 d.a, .int .i64 d.l, .int .i64 d.c, .int .i64 d.f] 50 (0, 0))) (hl : l.length ≤ 2147483647) (hB : B ≤ W.heap.size)
    (h : ∀ v' w', Rt B w' v' (l ++ [d]) → Below B W w' → W.grownBy w' v.ownBlock → (v'.ownBlock = v.ownBlock ∨ v'.ownBlock = some W.heap.size) → wpList Tryz.prog ops Q rest (a.put o.dst v') w') : wpList Tryz.prog ops Q (o :: rest) a W := by
  obtain ⟨i0, hi, hz0, hz1, hz2⟩ := info_parts Tryz.info50
  refine wpList_append_own_at (P := Tryz.prog) (w := W) hgd s x 44 ho B 50 i0 _ 6 56 Tryz.underlying44 hi hz0 hz1 hz2 rfl (by decide) v _ _ hs hr ⟨g, 0, none⟩ 1 c (tcs [d]) hx (by rw [tcs_len]; rfl) ?_ (tcs_one [d]) (by unfold maxLen; omega) (by omega) hB ?_
  · intro j u hu
    refine World.news_of_block hg j u ?_
    have e : tcs [d] = [.int .u8 d.k, .string d.t, .int .i64 d.a, .int .i64 d.l, .int .i64 d.c, .int .i64 d.f] := by simp [tcs, flat, Tv.cs]
    rw [e] at hu
    simpa using hu
  · intro v' w' h1 h2 _ h4
    refine h v' w' ?_ ((Below.refl B W).grown h2 hB hr.own) h2 h4
    unfold Rt
    rw [List.length_append, tcs_app]
    exact h1
theorem new_at (w : World) (o : Obj) : (w.alloc o).heap[w.heap.size]? = some o := by show (w.heap.push o)[w.heap.size]? = _; simp
theorem alloc_at' {W : World} {g : Nat} {o : Obj} (h : W.heap[g]? = some o) (o' : Obj) : (W.alloc o').heap[g]? = some o := blk_below h ((Below.refl _ _).alloc (Nat.le_refl _) _)
theorem Kp.sub {S T : Nat → Prop} {w w' : World} (h : Kp T w w') (hs : ∀ k, T k → S k) : Kp S w w' := ⟨h.os, h.tape, h.output, h.size, fun k hk hS => h.block k hk (fun ht => hS (hs k ht))⟩
structure Ev where
  k : Int
  n : Int
  d : Tv
deriving DecidableEq
end Go.Proofs.YtojjfbnpjhjidaaGreatDoor
namespace Go.Proofs.YtojjfbnpjhjidaaGreatDoor.Lx
open Go.ChangeShapes Go.WideShapes Go.ChangeAt Go.RowKit
theorem laid_mem {P : Program} {w : World} : ∀ (laid : List (String × DataW Unit)) (ps : List MemPlace), DataW.LaidVars P w laid ps → ∀ n d, (n, d) ∈ laid →
    ∃ g t cs fuel p, P.globalNamed n = some g ∧ (P.globals[g]?).map (·.type) = some t ∧ w.var? P n = some cs ∧ DataW.trod (fun _ => ()) P w 0 (fun _ => true) false fuel t cs.toList = some (d, p)
  | [], _, _, n, d, h => by cases h
  | (m, e) :: r, ps, ⟨g, t, cs, fuel, p, q, h1, h2, h3, h4, h5, _⟩, n, d, h => by
    rcases List.mem_cons.1 h with h | h
    · cases h; exact ⟨g, t, cs, fuel, p, h1, h2, h3, h4⟩
    · exact laid_mem r q h5 n d h
end Go.Proofs.YtojjfbnpjhjidaaGreatDoor.Lx
