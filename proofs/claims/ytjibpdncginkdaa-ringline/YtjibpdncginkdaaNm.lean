import Derived.Test.YtjibpdncginkdaaNk
set_option linter.unusedVariables false
set_option linter.unusedSimpArgs false
namespace Go.Proofs.Ytjibpdncginkdaa
open Go.RowKit

def nameOf (x : Int) : ByteArray := ⟨#[UInt8.ofNat (x % 256).toNat]⟩
theorem conv_name (x : Int) (W : World) (b : Nat) (h : W.cell? ⟨b, 0, none⟩ = some (.int .u8 (x % 256))) : (convert 58 9 (.slice (some ⟨b, 0, none⟩) 1 1)).run Try.prog W = .ok (.string (nameOf x)) W := by
  refine run_convert_bytes_back (P := Try.prog) W 58 9 5 ⟨b, 0, none⟩ 1 [UInt8.ofNat (x % 256).toNat] Try.underlying58 Try.underlying5 Try.underlying9 (fun j hj => ?_)
  simp at hj
  subst hj
  rw [Addr.add_lit, h]
  simp
  omega

/-- The thing of a number. -/
def th (x : Int) : Th := (nameOf x, x, wrap64 (-x))

set_option maxHeartbeats 400000 in
theorem thing_any (x : Int) (w : World) :
    Calls Try.prog 10 #[.int .i64 x] w fun e w' => e = .returned (.agg #[.string (th x).1, .int .i64 (th x).2.1, .int .i64 (th x).2.2]) ∧ Below w.heap.size w w' := by
  have HCV := conv_name x
  go_enter Try.func10, Try.ntmps10
  go_wp2_with fail
  have bz : BoxT ((w.alloc (Obj.cells #[.string (th x).1, .int .i64 (th x).2.1, .int .i64 (th x).2.2] 25)).alloc (Obj.cells #[.int .u8 (x % 256)] 5)) w.heap.size (th x) := (BoxT.new w (th x)).alloc _
  have hB : Below w.heap.size w ((w.alloc (Obj.cells #[.string (th x).1, .int .i64 (th x).2.1, .int .i64 (th x).2.2] 25)).alloc (Obj.cells #[.int .u8 (x % 256)] 5)) := ((Below.refl _ w).alloc (Nat.le_refl _) _).alloc (by simp) _
  change bodyPost _ _ _ _ _ ((w.alloc (Obj.cells #[.string (th x).1, .int .i64 (th x).2.1, .int .i64 (th x).2.2] 25)).alloc (Obj.cells #[.int .u8 (x % 256)] 5))
  have m0 := bz.c0
  have m1 := bz.c1
  have m2 := bz.c2
  generalize (w.alloc (Obj.cells #[.string (th x).1, .int .i64 (th x).2.1, .int .i64 (th x).2.2] 25)).alloc (Obj.cells #[.int .u8 (x % 256)] 5) = W4 at *
  exact bodyPost_ret (v := .agg #[.string (th x).1, .int .i64 (th x).2.1, .int .i64 (th x).2.2]) (by simp [results, Try.f10, go_sem, m0, m1, m2]) rfl ⟨rfl, hB⟩
end Go.Proofs.Ytjibpdncginkdaa
