import Derived.Test.YtmjhfabdbajchaaGreatDoorG7
import Derived.Lib.SmallJoins
import Derived.OpenShut
set_option linter.unusedVariables false
set_option linter.unusedSimpArgs false
namespace Go.Proofs.YtmjhfabdbajchaaGreatDoor
open Go.ChangeShapes Go.WideShapes Go.ChangeAt Go.RowKit

theorem array5 {α : Type} {cs : Array α} (h : cs.size = 5) : ∃ c0 c1 c2 c3 c4, cs = #[c0, c1, c2, c3, c4] := by
  obtain ⟨l⟩ := cs
  match l, h with
  | [c0, c1, c2, c3, c4], _ => exact ⟨c0, c1, c2, c3, c4, rfl⟩
set_option maxRecDepth 100000 in
/-- A piece as an argument. -/
theorem doc_of {H : Type} {enc : TypeId × Value → H} {W : World} {spare : Nat → Bool} {held : Bool} {r : Reach} {b0 : Nat} {v : Value} {d : DataW H} {p : List MemPlace} (hv : Value.okWide Tryz.prog W r b0 37 v) (h : DataW.Trod enc Tryz.prog W 0 spare held 37 v d p) : ∃ x : Dc, v = .agg #[.int .u8 x.k, .string x.t, .int .i64 x.b, .int .i64 x.i, .bool x.e] := by
  obtain ⟨cs, rfl, hsz⟩ := okWide_struct Tryz.underlying37 hv
  have hce : Tryz.prog.cellsOf 37 = 5 := by kernel_rfl
  obtain ⟨c0, c1, c2, c3, c4, rfl⟩ := array5 (hsz.trans hce)
  obtain ⟨fuel, hf⟩ := h
  obtain ⟨xs, n, _, hD, _, hxl, hg⟩ := DataW.trod_struct Tryz.underlying37 hf
  match xs, hxl with
  | [y0, y1, y2, y3, y4], _ =>
    have ci : Tryz.prog.cellsOf 3 = 1 := by kernel_rfl
    have cb : Tryz.prog.cellsOf 4 = 1 := by kernel_rfl
    have cs : Tryz.prog.cellsOf 9 = 1 := by kernel_rfl
    have ck : Tryz.prog.cellsOf 35 = 1 := by kernel_rfl
    have t0 := hg 0 _ rfl
    have t1 := hg 1 _ rfl
    have t2 := hg 2 _ rfl
    have t3 := hg 3 _ rfl
    have t4 := hg 4 _ rfl
    simp [ci, cb, cs, ck, Value.cells] at t0 t1 t2 t3 t4
    obtain ⟨b0, e0, g0, _⟩ := DataW.trod_int Tryz.underlying35 t0
    obtain ⟨b1, e1, g1, hb1⟩ := DataW.trod_string Tryz.underlying9 t1
    obtain ⟨b2, e2, g2, _⟩ := DataW.trod_int Tryz.underlying3 t2
    obtain ⟨b3, e3, g3, _⟩ := DataW.trod_int Tryz.underlying3 t3
    obtain ⟨b4, e4, g4⟩ := DataW.trod_bool Tryz.underlying4 t4
    simp at e0 e1 e2 e3 e4
    subst e0 e1 e2 e3 e4
    exact ⟨⟨b0, b1, b2, b3, b4⟩, rfl⟩
end Go.Proofs.YtmjhfabdbajchaaGreatDoor
