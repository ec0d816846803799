import Derived.Test.YtjibpdncginkdaaNx
set_option linter.unusedVariables false
set_option linter.unusedSimpArgs false
namespace Go.Proofs.Ytjibpdncginkdaa
open Go.RowKit

theorem BoxT.below {W W' : World} {B : Nat} {t : Th} (h : BoxT W B t) (hb : Below W.heap.size W W') : BoxT W' B t := blk_below h hb

set_option maxRecDepth 100000 in
set_option maxHeartbeats 1000000 in
theorem ringNames_walk (w : World) : Calls Try.prog 3 #[] w fun e w' => e = .returned (.bool true) ∧ Below w.heap.size w w' := by
  have EQ := eqA
  go_enter Try.func3, Try.ntmps3
  go_wp2_with fail
  refine (popFT_err _ 3 w (fun W _ => someT_nil W) (by omega)).mono ?_
  rintro e w1 ⟨rfl, hb1⟩
  go_wp2_with fail
  obtain ⟨V0, eV0⟩ : ∃ V0, w1.alloc (Obj.cells #[.string z0.1, .int .i64 z0.2.1, .int .i64 z0.2.2] 25) = V0 := ⟨_, rfl⟩
  have hV0 : Below w.heap.size w V0 := by rw [← eV0]; exact hb1.alloc hb1.size _
  have xV0 : BoxT V0 w1.heap.size z0 := by rw [← eV0]; exact BoxT.new w1 z0
  change Calls _ _ _ (Go.World.alloc w1 (Obj.cells #[.string z0.1, .int .i64 z0.2.1, .int .i64 z0.2.2] 25)) _
  rw [eV0]
  clear eV0
  generalize hN0 : w1.heap.size = N0 at *
  clear hN0
  refine (popBT_err _ 3 V0 (fun W _ => someT_nil W) (by omega)).mono ?_
  rintro e w2 ⟨rfl, hb2⟩
  replace xV0 := xV0.below hb2
  replace hb2 := hV0.trans (hb2.mono hV0.size)
  go_wp2_with fail
  obtain ⟨V1, eV1⟩ : ∃ V1, w2.alloc (Obj.cells #[.string z0.1, .int .i64 z0.2.1, .int .i64 z0.2.2] 25) = V1 := ⟨_, rfl⟩
  have hV1 : Below w.heap.size w V1 := by rw [← eV1]; exact hb2.alloc hb2.size _
  have xV1 : BoxT V1 w2.heap.size z0 := by rw [← eV1]; exact BoxT.new w2 z0
  have xV0' : BoxT V1 N0 z0 := by rw [← eV1]; exact xV0.alloc _
  change Calls _ _ _ (Go.World.alloc w2 (Obj.cells #[.string z0.1, .int .i64 z0.2.1, .int .i64 z0.2.2] 25)) _
  rw [eV1]
  clear eV1
  replace xV0 := xV0'
  clear xV0'
  generalize hN1 : w2.heap.size = N1 at *
  clear hN1
  refine (atT_err _ 3 0 V1 (fun W _ => withinT_nil 0 W) (by omega)).mono ?_
  rintro e w3 ⟨rfl, hb3⟩
  replace xV0 := xV0.below hb3
  replace xV1 := xV1.below hb3
  replace hb3 := hV1.trans (hb3.mono hV1.size)
  have a0 : w3.cell? ⟨N0, 0, none⟩ = some (.string ⟨#[]⟩) := xV0.c0
  have a1 : w3.cell? ⟨N0, 1, none⟩ = some (.int .i64 0) := xV0.c1
  have a2 : w3.cell? ⟨N0, 2, none⟩ = some (.int .i64 0) := xV0.c2
  have b0 : w3.cell? ⟨N1, 0, none⟩ = some (.string ⟨#[]⟩) := xV1.c0
  have b1 : w3.cell? ⟨N1, 1, none⟩ = some (.int .i64 0) := xV1.c1
  have b2 : w3.cell? ⟨N1, 2, none⟩ = some (.int .i64 0) := xV1.c2
  have l0 := blk_lt xV0
  have l1 := blk_lt xV1
  clear hV0 hV1 hb1 hb2
  go_wp2_with fail
  refine (thing_any 1 _).mono ?_
  rintro e w4 ⟨rfl, hb4⟩
  replace hb4 : Below w.heap.size w w4 := (hb3.alloc hb3.size _).trans (hb4.mono (hb3.alloc hb3.size _).size)
  go_wp2_with fail
  refine (pushT_nil (th 1) _).mono ?_
  rintro e w5 ⟨rfl, hb5⟩
  replace hb5 := hb4.trans (hb5.mono hb4.size)
  go_wp2_with fail
  refine (thing_any 1 _).mono ?_
  rintro e w6 ⟨rfl, hb6⟩
  replace hb6 := hb5.trans (hb6.mono hb5.size)
  go_wp2_with fail
  refine (setT_err _ 3 0 (th 1) _ (fun W _ => withinT_nil 0 W) (by omega)).mono ?_
  rintro e w7 ⟨rfl, hb7⟩
  replace hb7 := hb6.trans (hb7.mono hb6.size)
  go_wp2_with fail
  refine (lenT_nil _).mono ?_
  rintro e w8 ⟨rfl, rfl⟩
  go_wp2_with fail
  refine (roomT_nil _).mono ?_
  rintro e w8 ⟨rfl, rfl⟩
  go_wp2_with fail
  refine (awake_any _).mono ?_
  rintro e w9 ⟨rfl, hb9⟩
  replace hb9 := hb7.trans (hb9.mono hb7.size)
  go_wp2_with fail
  go_ret
  exact ⟨rfl, hb9⟩
end Go.Proofs.Ytjibpdncginkdaa
