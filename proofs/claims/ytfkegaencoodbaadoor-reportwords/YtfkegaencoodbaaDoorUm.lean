import Derived.Test.YtfkegaencoodbaaDoorUl
import Derived.Test.YtfkegaencoodbaaDoorUj
import Derived.Test.YtfkegaencoodbaaDoorUk
set_option linter.unusedVariables false
set_option linter.unusedSimpArgs false
namespace Go.Proofs.YtfkegaencoodbaaDoor
open Go.RowKit

/-! What errors.As answers (274: the dump's types and 100). -/
theorem xErrS (v : Value) (w : World) : (Go.method 274 55 v "Error").run Tryd.prog w = .ok (111, v) w := by kernel_rfl
theorem xErrW (v : Value) (w : World) : (Go.method 274 34 v "Error").run Tryd.prog w = .ok (109, v) w := by kernel_rfl
theorem xErrF (v : Value) (w : World) : (Go.method 274 30 v "Error").run Tryd.prog w = .ok (19, v) w := by kernel_rfl
abbrev ptc (p : Option Addr) : Obj := .cells #[.pointer p] 30
/-- errors.As finds a Fault, or a nil one. -/
def AsF (W : World) (er : Value) (p : Option Addr) : Prop := ∀ U k, Below W.heap.size W U → U.heap[k]? = some (ptc none) → Calls Tryd.prog 30 #[er, .iface 64 (.pointer (some ⟨k, 0, none⟩))] U fun ev w' => ev = .returned (.bool true) ∧ ∃ w1, Below U.heap.size U w1 ∧ w' = w1.setCell ⟨k, 0, none⟩ (.pointer p)
/-- errors.As finds none. -/
def AsN (W : World) (er : Value) : Prop := ∀ U k, Below W.heap.size W U → U.heap[k]? = some (ptc none) → Calls Tryd.prog 30 #[er, .iface 64 (.pointer (some ⟨k, 0, none⟩))] U fun ev w' => ev = .returned (.bool false) ∧ Below U.heap.size U w'
theorem asf_flt {W : World} (hE : ETy W) (g : Nat) : AsF W (ftp (some ⟨g, 0, none⟩)) (some ⟨g, 0, none⟩) := fun U k hb hk => as_hit _ _ (.pointer none) _ (hE.below hb) (blk_cell hk rfl) (blk_frozen hk)
theorem asf_nil {W : World} (hE : ETy W) : AsF W (ftp none) none := fun U k hb hk => as_hitn _ (.pointer none) _ (hE.below hb) (blk_cell hk rfl) (blk_frozen hk)
theorem asf_wrd {W : World} (hE : ETy W) (t : ByteArray) (g : Nat) : AsF W (wrd t (ftp (some ⟨g, 0, none⟩))) (some ⟨g, 0, none⟩) := fun U k hb hk => as_whit t _ _ (.pointer none) _ (hE.below hb) (blk_cell hk rfl) (blk_frozen hk)
theorem asn_str {W : World} (hE : ETy W) (g : Nat) : AsN W (esv g) := fun U k hb hk => as_str _ _ (.pointer none) _ (hE.below hb) (blk_cell hk rfl)
theorem asn_wrd {W : World} (hE : ETy W) (t : ByteArray) (g : Nat) : AsN W (wrd t (esv g)) := fun U k hb hk => as_wstr t _ _ (.pointer none) _ (hE.below hb) (blk_cell hk rfl)
theorem eq_nilF (v : Value) (w : World) : (binOp .eql 32 (.iface 30 v) .nilIface).run Tryd.prog w = .ok (.bool false) w := by kernel_rfl

end Go.Proofs.YtfkegaencoodbaaDoor
