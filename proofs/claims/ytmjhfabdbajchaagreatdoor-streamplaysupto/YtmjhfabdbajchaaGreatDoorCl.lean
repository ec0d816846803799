import Derived.Test.YtmjhfabdbajchaaGreatDoorCj
import Derived.Test.YtmjhfabdbajchaaGreatDoorCk
import Derived.Test.YtmjhfabdbajchaaGreatDoorHb4
import Derived.WalkSmall
import Derived.Laws.BitsAllLaws
set_option linter.unusedVariables false
set_option linter.unusedSimpArgs false
namespace Go.Proofs.YtmjhfabdbajchaaGreatDoor
open Go.RowKit

theorem and_one_i64 (E : Int) : bits BinOp.and IntKind.i64 E 1 = E % 2 := by
  show IntKind.i64.wrap (((BitVec.ofInt 64 E &&& BitVec.ofInt 64 1).toNat : Nat) : Int) = E % 2
  rw [BitVec.toNat_and, BitVec.toNat_ofInt, show (BitVec.ofInt 64 1).toNat = 1 from rfl, Nat.and_one_is_mod]
  have h : (((E % ((2 ^ 64 : Nat) : Int)).toNat % 2 : Nat) : Int) = E % 2 := by
    have e : ((2 ^ 64 : Nat) : Int) = 18446744073709551616 := by decide
    rw [e]; omega
  rw [h, IntKind.wrap_i64]; omega
/-- A step of a script. -/
structure Stp where
  d : Dc
  on : Int
  en : Bool
def LayO (w : World) (ao : Option Addr) (l : List Stp) : Prop := ∀ j o, l[j]? = some o → o.d.t.size ≤ 9223372036854775807 ∧ ∃ b off, ao = some ⟨b, off, none⟩ ∧
  w.cell? ⟨b, off + j * 7, none⟩ = some (.int .u8 o.d.k) ∧ w.cell? ⟨b, off + j * 7 + 1, none⟩ = some (.string o.d.t) ∧ w.cell? ⟨b, off + j * 7 + 2, none⟩ = some (.int .i64 o.d.b) ∧ w.cell? ⟨b, off + j * 7 + 3, none⟩ = some (.int .i64 o.d.i) ∧ w.cell? ⟨b, off + j * 7 + 4, none⟩ = some (.bool o.d.e) ∧ w.cell? ⟨b, off + j * 7 + 5, none⟩ = some (.int .i64 o.on) ∧ w.cell? ⟨b, off + j * 7 + 6, none⟩ = some (.bool o.en)
theorem LayO.below {w w' : World} {ao : Option Addr} {l : List Stp} (h : LayO w ao l) (hb : Below w.heap.size w w') : LayO w' ao l := by
  intro j a ha
  obtain ⟨h0, b, off, h1, c0, c1, c2, c3, c4, c5, c6⟩ := h j a ha
  have hlt := World.block_lt_of_cell? _ _ c0
  have e : ∀ k v, w.cell? ⟨b, k, none⟩ = some v → w'.cell? ⟨b, k, none⟩ = some v := fun k v hc => (hb.cell (p := ⟨b, k, none⟩) hlt).trans hc
  exact ⟨h0, b, off, h1, e _ _ c0, e _ _ c1, e _ _ c2, e _ _ c3, e _ _ c4, e _ _ c5, e _ _ c6⟩
/-- The pairs of printers, as a row. -/
def pbb (p : Nat × Nat) : List Value := [.pointer (some ⟨p.1, 0, none⟩), .pointer (some ⟨p.2, 0, none⟩)]
theorem Tryz.infoB : (Tryz.prog.info? 34).map (fun i => (i.zero, i.size, i.bytes)) = some (some (.agg #[.pointer none, .pointer none]), 2, 16) := by kernel_rfl
theorem app_pair {W : World} {ops : Array Oper} {rest : List Oper} {o : Oper} {a : Act} {Q : Exit → Act → World → Prop} (hgd : o.guard = none) (s x : Operand)
    (ho : o.op = .call { callee := .builtin .append, args := #[s, x], argTypes := #[24, 24] }) (B : Nat) (v : Value) (l : List (Nat × Nat)) (p : Nat × Nat) (hs : a.eval s = v) (hr : W.ownsRow B 34 2 v l.length (flat pbb l))
    (g c : Nat) (hx : a.eval x = .slice (some ⟨g, 0, none⟩) 1 c) (hg : W.heap[g]? = some (.cells #[.pointer (some ⟨p.1, 0, none⟩), .pointer (some ⟨p.2, 0, none⟩)] 34 (0, 0))) (hl : l.length ≤ 1000) (hB : B ≤ W.heap.size)
    (h : ∀ v' w', w'.ownsRow B 34 2 v' (l.length + 1) (flat pbb (l ++ [p])) → W.grownBy w' v.ownBlock → (v'.ownBlock = v.ownBlock ∨ v'.ownBlock = some W.heap.size) → wpList Tryz.prog ops Q rest (a.put o.dst v') w') : wpList Tryz.prog ops Q (o :: rest) a W := by
  obtain ⟨i0, hi, hz0, hz1, hz2⟩ := info_parts Tryz.infoB
  refine wpList_append_own_at (P := Tryz.prog) (w := W) hgd s x 24 ho B 34 i0 _ 2 16 Tryz.underlying24 hi hz0 hz1 hz2 rfl (by decide) v _ _ hs hr ⟨g, 0, none⟩ 1 c (pbb p) hx rfl ?_ ?_ (by unfold maxLen; omega) (by omega) hB ?_
  · intro j u hu
    exact World.news_of_block hg j u (by simpa [pbb] using hu)
  · intro u hu; simp [pbb] at hu; rcases hu with rfl | rfl <;> rfl
  · intro v' w' h1 h2 _ h4
    refine h v' w' ?_ h2 h4
    rw [flat_append]
    simpa [flat] using h1
end Go.Proofs.YtmjhfabdbajchaaGreatDoor
