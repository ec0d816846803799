import Derived.Test.YtcokccfbeonlnaaDoorSm
set_option linter.unusedVariables false
set_option linter.unusedSimpArgs false
namespace Go.Proofs.YtcokccfbeonlnaaDoor
open Go.RowKit
open Go.Lib (strCells strCells_length)

def St6.blanks (s : St6) (n : Nat) : St6 := { s with wait := s.wait + n }
theorem push_bytes (l : List UInt8) : ∀ s : ByteArray, (l.map (fun b : UInt8 => (b.toNat : Int))).foldl (fun r n => r.push (UInt8.ofNat n.toNat)) s = ⟨(s.data.toList ++ l).toArray⟩ := by
  induction l with
  | nil => intro s; simp
  | cons b l ih =>
    intro s
    rw [List.map_cons, List.foldl_cons, ih]
    simp
theorem conv_bytes (w : World) (B : Nat) (v : Value) (l : List UInt8) (hv : w.ownsRow B 5 1 v l.length (bc l)) : (convert 32 9 v).run Tryd.prog w = .ok (.string ⟨l.toArray⟩) w := by
  have hv0 := row_zero hv
  rcases hv.2 with ⟨rfl, h0⟩ | ⟨g, cp, cur, rfl, h2⟩
  · have e : l = [] := List.eq_nil_of_length_eq_zero h0
    rw [run_convert_bytes_string (P := Tryd.prog) w 32 9 5 _ _ _ Tryd.underlying32 Tryd.underlying5 Tryd.underlying9, e]
    rfl
  · rw [run_convert_bytes_string (P := Tryd.prog) w 32 9 5 _ _ _ Tryd.underlying32 Tryd.underlying5 Tryd.underlying9]
    have hload := run_loadCells_list (P := Tryd.prog) w ⟨g, 0, none⟩ (bc l) (hv.cells rfl)
    rw [bc_len] at hload
    rw [run_bytesToString (P := Tryd.prog) w ⟨g, 0, none⟩ l.length cp (l.map (fun b : UInt8 => (b.toNat : Int))) (by rw [hload]; simp [bc, List.map_map, Function.comp_def]), push_bytes]
    rfl

end Go.Proofs.YtcokccfbeonlnaaDoor
