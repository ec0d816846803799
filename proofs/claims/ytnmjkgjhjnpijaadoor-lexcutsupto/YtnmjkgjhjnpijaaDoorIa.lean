import Derived.Test.YtnmjkgjhjnpijaaDoorH1
import Derived.Test.YtnmjkgjhjnpijaaDoorG1
import Derived.Test.YtnmjkgjhjnpijaaDoorPg
import Derived.Test.YtnmjkgjhjnpijaaDoorG3
import Derived.Deep.RegionHeld3
import Derived.Deep.RegionWith
import Derived.Deep.RegionLaw
import Derived.WalkMore
import Derived.ScopeJumps
import Derived.Laws.BytesString
import Derived.Lib.ConvBytes
import Derived.Laws.IdiomStrings
set_option linter.unusedVariables false
set_option linter.unusedSimpArgs false
namespace Go.Proofs.YtnmjkgjhjnpijaaDoor
open Go.RowKit
open Go.Lib (strCells strCells_length)

/-! Rows of bytes; the lexer's block. -/
def Nw (S : Nat → Prop) (n : Nat) : Prop := ∀ k, n ≤ k → S k
theorem Nw.up {S : Nat → Prop} {n m : Nat} (h : Nw S n) (hm : n ≤ m) : Nw S m := fun k hk => h k (Nat.le_trans hm hk)
theorem Kp.sub {S T : Nat → Prop} {w w' : World} (h : Kp T w w') (hs : ∀ k, T k → S k) : Kp S w w' := ⟨h.os, h.tape, h.output, h.size, fun k hk hS => h.block k hk (fun ht => hS (hs k ht))⟩
theorem Kp.then {S : Nat → Prop} {w W W' : World} (h : Kp S w W) (hb : Below W.heap.size W W') : Kp S w W' := h.trans (Kp.of_below hb)

theorem sc_len (t : ByteArray) : (strCells t).length = t.size := strCells_length t
theorem sc_app (a b : ByteArray) : strCells (a ++ b) = strCells a ++ strCells b := by
  rw [bc_str, bc_str, bc_str, ← bc_app]
  simp
theorem sc_get (t : ByteArray) (j : Nat) (h : j < t.size) : (strCells t)[j]? = some (.int .u8 (by8 t j)) := by
  rw [bc_str]
  have h2 : j < t.data.toList.length := by simpa using h
  have e : t.data.toList[j]? = some (t.get! j) := by
    rw [List.getElem?_eq_getElem h2]
    simp [ByteArray.get!, Array.getElem!_eq_getD, Array.getD, h]
  rw [bc_get _ j _ e]
  rfl
/-- A row of bytes that is its own. -/
def BwS (S : Nat → Prop) (W : World) (v : Value) (t : ByteArray) : Prop := W.ownsRow 0 5 1 v t.size (strCells t) ∧ ∀ k, v.ownBlock = some k → S k
theorem BwS.kp {S U : Nat → Prop} {W W' : World} {v : Value} {t : ByteArray} (h : BwS S W v t) (hk : Kp U W W') (hU : ∀ k, v.ownBlock = some k → ¬ U k) : BwS S W' v t := ⟨hk.row h.1 hU, h.2⟩
theorem BwS.below {S : Nat → Prop} {W W' : World} {v : Value} {t : ByteArray} (h : BwS S W v t) (hb : Below W.heap.size W W') : BwS S W' v t := ⟨row_below h.1 hb, h.2⟩
theorem BwS.shape {S : Nat → Prop} {W : World} {v : Value} {t : ByteArray} (h : BwS S W v t) : ∃ p cap, v = .slice p t.size cap ∧ t.size ≤ cap ∧ cap ≤ maxLen := row_shape h.1
theorem bws_nil (S : Nat → Prop) (W : World) {t : ByteArray} (ht : t.size = 0) : BwS S W (.slice none 0 0) t := by
  have e : t = ByteArray.empty := by8_ext _ _ (by rw [ht]; rfl) (fun j hj => by omega)
  subst e
  exact ⟨World.ownsRow_nil W 0 5 1, fun k hk => by cases hk⟩
/-- Bytes that are only read. -/
def OpS (S : Nat → Prop) (W : World) (v : Value) (o : ByteArray) : Prop :=
  ((v = .slice none 0 0 ∧ o.size = 0) ∨ ∃ b cap cs fr, v = .slice (some ⟨b, 0, none⟩) o.size cap ∧ W.heap[b]? = some (.cells cs 5 fr) ∧ ∀ j, j < o.size → cs[j]? = some (.int .u8 (by8 o j))) ∧ ∀ k, v.ownBlock = some k → S k
theorem OpS.kp {S U : Nat → Prop} {W W' : World} {v : Value} {o : ByteArray} (h : OpS S W v o) (hk : Kp U W W') (hU : ∀ k, v.ownBlock = some k → ¬ U k) : OpS S W' v o := by
  refine ⟨?_, h.2⟩
  rcases h.1 with h1 | ⟨b, cap, cs, fr, rfl, h2, h3⟩
  · exact .inl h1
  · exact .inr ⟨b, cap, cs, fr, rfl, hk.blk h2 (hU b rfl), h3⟩
theorem OpS.below {S : Nat → Prop} {W W' : World} {v : Value} {o : ByteArray} (h : OpS S W v o) (hb : Below W.heap.size W W') : OpS S W' v o := h.kp (Kp.of_below (S := fun _ => False) hb) (fun _ _ h => h)
theorem OpS.shape {S : Nat → Prop} {W : World} {v : Value} {o : ByteArray} (h : OpS S W v o) : ∃ p cap, v = .slice p o.size cap := by
  rcases h.1 with ⟨h1, h2⟩ | ⟨b, cap, cs, fr, rfl, h2, h3⟩
  · exact ⟨none, 0, by rw [h1, h2]⟩
  · exact ⟨_, _, rfl⟩
theorem ops_nil (S : Nat → Prop) (W : World) {o : ByteArray} (ho : o.size = 0) : OpS S W (.slice none 0 0) o := ⟨.inl ⟨rfl, ho⟩, fun k hk => by cases hk⟩
theorem OpS.ne {S : Nat → Prop} {W : World} {v : Value} {o : ByteArray} (h : OpS S W v o) {g : Nat} {cs : Array Value} {T : TypeId} {f : Nat × Nat} (hg : W.heap[g]? = some (.cells cs T f)) (hT : T ≠ 5) : ∀ k, v.ownBlock = some k → k ≠ g := by
  intro k hk e
  rcases h.1 with ⟨rfl, _⟩ | ⟨b, cap, cs', fr, rfl, h2, h3⟩
  · cases hk
  · simp only [Value.ownBlock, Option.some.injEq] at hk
    subst hk
    subst e
    rw [hg] at h2
    cases h2
    exact hT rfl
theorem BwS.ne {S : Nat → Prop} {W : World} {v : Value} {t : ByteArray} (h : BwS S W v t) {g : Nat} {cs : Array Value} {T : TypeId} {f : Nat × Nat} (hg : W.heap[g]? = some (.cells cs T f)) (hT : T ≠ 5) : ∀ k, v.ownBlock = some k → k ≠ g := fun k hk e => row_ne h.1 hg hT (by rw [hk, e])

/-- string(row). -/
theorem conv_row {S : Nat → Prop} {W : World} {v : Value} {t : ByteArray} (h : BwS S W v t) : (convert 44 9 v).run Tryd.prog W = .ok (.string t) W := by
  rcases h.1.2 with ⟨rfl, h0⟩ | ⟨g, cp, cur, rfl, h2⟩
  · have e : t = ByteArray.empty := by8_ext _ _ (by rw [h0]; rfl) (fun j hj => by omega)
    rw [run_convert_bytes_string (P := Tryd.prog) W 44 9 5 _ _ _ Tryd.underlying44 Tryd.underlying5 Tryd.underlying9, e]
    rfl
  · refine (run_convert_bytes_back (P := Tryd.prog) W 44 9 5 ⟨g, 0, none⟩ cp t.data.toList Tryd.underlying44 Tryd.underlying5 Tryd.underlying9 ?_)
    intro j hj
    have := h.1.cells (g := g) rfl j _ (bc_get t.data.toList j _ (List.getElem?_eq_getElem hj))
    exact this
theorem conv_open {S : Nat → Prop} {W : World} {v : Value} {t : ByteArray} (h : OpS S W v t) : (convert 44 9 v).run Tryd.prog W = .ok (.string t) W := by
  rcases h.1 with ⟨rfl, h0⟩ | ⟨g, cp, cs, fr, rfl, h2, h3⟩
  · have e : t = ByteArray.empty := by8_ext _ _ (by rw [h0]; rfl) (fun j hj => by omega)
    rw [run_convert_bytes_string (P := Tryd.prog) W 44 9 5 _ _ _ Tryd.underlying44 Tryd.underlying5 Tryd.underlying9, e]
    rfl
  · refine (run_convert_bytes_back (P := Tryd.prog) W 44 9 5 ⟨g, 0, none⟩ cp t.data.toList Tryd.underlying44 Tryd.underlying5 Tryd.underlying9 ?_)
    intro j hj
    have hj' : j < t.size := by simpa using hj
    have e := h3 j hj'
    have e2 : by8 t j = (t.data.toList[j]).toNat := by unfold by8; simp [ByteArray.get!, Array.getElem!_eq_getD, Array.getD, hj']
    rw [e2] at e
    rw [Addr.add_lit, Nat.zero_add]
    simp [World.cell?, h2, e]

/-- The lexer's block. -/
def LxB (W : World) (g : Nat) (cl : Bool) (e x y z : Int) (k : Nat) (b L C f : Int) (vt vo vs : Value) : Prop :=
  W.heap[g]? = some (.cells #[.bool cl, .int .i64 e, .int .i64 x, .int .i64 y, .int .i64 z, .int .i64 k, .int .i64 b, .int .i64 L, .int .i64 C, .int .i64 f, vt, vo, vs] 46 (0, 0))
theorem LxB.frozen {W : World} {g : Nat} {cl : Bool} {e x y z : Int} {k : Nat} {b L C f : Int} {vt vo vs : Value} (h : LxB W g cl e x y z k b L C f vt vo vs) (j : Nat) : W.frozen? ⟨g, j, none⟩ = false := blk_frozen h
theorem LxB.cells {W : World} {g : Nat} {cl : Bool} {e x y z : Int} {k : Nat} {b L C f : Int} {vt vo vs : Value} (h : LxB W g cl e x y z k b L C f vt vo vs) :
    W.cell? ⟨g, 0, none⟩ = some (.bool cl) ∧ W.cell? ⟨g, 1, none⟩ = some (.int .i64 e) ∧ W.cell? ⟨g, 2, none⟩ = some (.int .i64 x) ∧ W.cell? ⟨g, 3, none⟩ = some (.int .i64 y) ∧ W.cell? ⟨g, 4, none⟩ = some (.int .i64 z) ∧ W.cell? ⟨g, 5, none⟩ = some (.int .i64 k) ∧
    W.cell? ⟨g, 6, none⟩ = some (.int .i64 b) ∧ W.cell? ⟨g, 7, none⟩ = some (.int .i64 L) ∧ W.cell? ⟨g, 8, none⟩ = some (.int .i64 C) ∧ W.cell? ⟨g, 9, none⟩ = some (.int .i64 f) ∧ W.cell? ⟨g, 10, none⟩ = some vt ∧ W.cell? ⟨g, 11, none⟩ = some vo ∧ W.cell? ⟨g, 12, none⟩ = some vs :=
  ⟨blk_cell h rfl, blk_cell h rfl, blk_cell h rfl, blk_cell h rfl, blk_cell h rfl, blk_cell h rfl, blk_cell h rfl, blk_cell h rfl, blk_cell h rfl, blk_cell h rfl, blk_cell h rfl, blk_cell h rfl, blk_cell h rfl⟩
/-- The lexer within a call: what else stands, its rows. -/
structure Lz (S : Nat → Prop) (w0 W : World) (g : Nat) (vt vo vs : Value) (t o : ByteArray) (l : List Tv) : Prop where
  kp : Kp S w0 W
  sg : S g
  nw : Nw S w0.heap.size
  rt : BwS S W vt t
  ro : OpS S W vo o
  ap : ∀ q, vo.ownBlock = some q → vt.ownBlock ≠ some q
  rs : Rt w0.heap.size W vs l
def Lq (S : Nat → Prop) (w0 W : World) (g : Nat) (k b : Nat) (L C : Int) (f : Nat) (t o : ByteArray) (l : List Tv) : Prop :=
  ∃ vt vo vs, LxB W g false 0 0 0 0 k b L C f vt vo vs ∧ Lz S w0 W g vt vo vs t o l
theorem Lz.below {S : Nat → Prop} {w0 W W' : World} {g : Nat} {vt vo vs : Value} {t o : ByteArray} {l : List Tv} (h : Lz S w0 W g vt vo vs t o l) (hb : Below W.heap.size W W') : Lz S w0 W' g vt vo vs t o l :=
  ⟨h.kp.then hb, h.sg, h.nw, h.rt.below hb, h.ro.below hb, h.ap, h.rs.below hb⟩
theorem Lq.below {S : Nat → Prop} {w0 W W' : World} {g k b : Nat} {L C : Int} {f : Nat} {t o : ByteArray} {l : List Tv} (h : Lq S w0 W g k b L C f t o l) (hb : Below W.heap.size W W') : Lq S w0 W' g k b L C f t o l := by
  obtain ⟨vt, vo, vs, h1, h2⟩ := h
  exact ⟨vt, vo, vs, blk_below h1 hb, h2.below hb⟩
/-- A store into the lexer's block. -/
theorem Lz.set {S : Nat → Prop} {w0 W : World} {g : Nat} {vt vo vs : Value} {t o : ByteArray} {l : List Tv} (h : Lz S w0 W g vt vo vs t o l) {cs : Array Value} (hg : W.heap[g]? = some (.cells cs 46 (0, 0))) (j : Nat) (u : Value) : Lz S w0 (W.setCell ⟨g, j, none⟩ u) g vt vo vs t o l := by
  refine ⟨h.kp.step (Kp.set W g j u) (fun k _ e => by rw [e]; exact h.sg), h.sg, h.nw, h.rt.kp (Kp.set W g j u) (h.rt.ne hg (by decide)), h.ro.kp (Kp.set W g j u) (h.ro.ne hg (by decide)), h.ap, h.rs.kp (Kp.set W g j u) (h.rs.ne hg (by decide))⟩

theorem lbel_dn (W : World) (m : Nat) : Below W.heap.size W (W.drewN m) := below_dn (Below.refl _ _) m

/-- isFull tells whether the token can't have a character, too. -/
theorem lfull_any {W : World} {g : Nat} {cl : Bool} {e x y z : Int} {k : Nat} {b L C f : Int} {vt vo vs : Value} (h : LxB W g cl e x y z k b L C f vt vo vs) (p : Option Addr) (n c : Nat) (hv : vt = .slice p n c) (s : ByteArray) (hn : n ≤ 2147483647) (hs : s.size ≤ 2147483647) :
    Calls Tryd.prog 52 #[.pointer (some ⟨g, 0, none⟩), .string s] W fun e w' => e = .returned (.bool (decide (65535 < n + s.size))) ∧ w' = W := by
  subst hv
  obtain ⟨c0, c1, c2, c3, c4, c5, c6, c7, c8, c9, c10, c11, c12⟩ := h.cells
  have e0 : decide (65535 < n + s.size) = decide ((n : Int) + s.size > 65535) := by rw [decide_eq_decide]; omega
  have hwr : IntKind.i64.wrap ((n : Int) + (s.size : Int)) = (n : Int) + (s.size : Int) := by rw [IntKind.wrap_i64]; omega
  rw [e0]
  clear e0 h
  go_enter Tryd.func52, Tryd.ntmps52
  go_wp2_with fail
  go_ret
  exact ⟨rfl, rfl⟩

end Go.Proofs.YtnmjkgjhjnpijaaDoor
