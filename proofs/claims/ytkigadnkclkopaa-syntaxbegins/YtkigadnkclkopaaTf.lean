import Derived.Test.YtkigadnkclkopaaTe
import Derived.Deep.RegionHeld3
import Derived.Deep.RegionWith
import Derived.Deep.RegionLaw
import Derived.WalkMore
set_option linter.unusedVariables false
set_option linter.unusedSimpArgs false
namespace Go.Proofs.Ytkigadnkclkopaa
open Go.RowKit

/-! Whole, of two trees that are one; how much a tree weighs. -/
theorem Nv.kid {W : World} {ao : Option Addr} {c : List Nd} (h : (ao = none → c = []) ∧ ∀ a, ao = some a → c = [] ∨ ∃ b o, a = ⟨b, o, none⟩ ∧ HL W b o c) {V : World} (hb : Below W.heap.size W V) {j : Nat} {m : Nd} (hm : c[j]? = some m) :
    ∃ b o, ao = some ⟨b, o, none⟩ ∧ b < V.heap.size ∧ ∃ ao2 cap2, (V.cell? ⟨b, o + j * 8, none⟩ = some (.int .u8 m.k) ∧ V.cell? ⟨b, o + j * 8 + 1, none⟩ = some (.int .u8 m.d.k) ∧ V.cell? ⟨b, o + j * 8 + 2, none⟩ = some (.string m.d.t) ∧ V.cell? ⟨b, o + j * 8 + 3, none⟩ = some (.int .i64 m.d.a) ∧ V.cell? ⟨b, o + j * 8 + 4, none⟩ = some (.int .i64 m.d.l) ∧ V.cell? ⟨b, o + j * 8 + 5, none⟩ = some (.int .i64 m.d.c) ∧ V.cell? ⟨b, o + j * 8 + 6, none⟩ = some (.int .i64 m.d.f) ∧ V.cell? ⟨b, o + j * 8 + 7, none⟩ = some (.slice ao2 m.c.length cap2)) ∧
      Nv V (.agg #[.int .u8 m.k, .int .u8 m.d.k, .string m.d.t, .int .i64 m.d.a, .int .i64 m.d.l, .int .i64 m.d.c, .int .i64 m.d.f, .slice ao2 m.c.length cap2]) m := by
  have hlt := (List.getElem?_eq_some_iff.1 hm).1
  cases ao with
  | none => have := h.1 rfl; subst this; simp at hlt
  | some a =>
    obtain ⟨b, o, rfl, hl⟩ := (h.2 a rfl).resolve_left (fun e => by subst e; simp at hlt)
    obtain ⟨hbl, ao2, cap2, hc, p1, p2, p3, p4⟩ := hn_cells (HL.at (HL.below hb c b o hl) hm)
    exact ⟨b, o, rfl, hbl, ao2, cap2, hc, ao2, cap2, rfl, p1, p2, p3, p4⟩
end Go.Proofs.Ytkigadnkclkopaa
