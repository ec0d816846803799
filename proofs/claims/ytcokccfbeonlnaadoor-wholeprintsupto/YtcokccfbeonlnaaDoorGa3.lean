import Derived.Shelf.Strings.Builder1
import Derived.Shelf.Strings.Builder2
import Derived.Shelf.Strings.LastIndex
import Derived.Shelf.Strings.Repeat
import Derived.Test.YtcokccfbeonlnaaDoorGa2
import Derived.OwnWalk
set_option linter.unusedVariables false
set_option linter.unusedSimpArgs false
namespace Go.Proofs.YtcokccfbeonlnaaDoor
open Go.RowKit Go.Shelf
open Go.Lib (strCells strCells_length)

def Tryd.lays169_ren : Go.Shelf.Ren := ⟨fun | 169 => 46 | n => n, fun | 70 => 84 | 9 => 9 | 0 => 0 | 72 => 86 | 37 => 32 | 127 => 117 | 3 => 3 | 5 => 5 | n => n, fun | n => n⟩

theorem Tryd.lays169 : Go.Proofs.Lays.n169 Tryd.prog Tryd.lays169_ren := {
  mixed := by kernel_rfl
  f169 := Tryd.func46.trans (congrArg some (by kernel_rfl))
  t0 := Tryd.underlying0
  a0 := Tryd.isAgg0
  z0 := Tryd.sizeOf0
  v0 := Tryd.zeroValue0
  t3 := Tryd.underlying3
  a3 := Tryd.isAgg3
  z3 := Tryd.sizeOf3
  v3 := Tryd.zeroValue3
  t9 := Tryd.underlying9
  a9 := Tryd.isAgg9
  z9 := Tryd.sizeOf9
  v9 := Tryd.zeroValue9
  t37 := Tryd.underlying32
  a37 := Tryd.isAgg32
  z37 := Tryd.sizeOf32
  v37 := Tryd.zeroValue32
  t70 := Tryd.underlying84
  a70 := Tryd.isAgg84
  z70 := Tryd.sizeOf84
  v70 := Tryd.zeroValue84
  t72 := Tryd.underlying86
  a72 := Tryd.isAgg86
  z72 := Tryd.sizeOf86
  v72 := Tryd.zeroValue86
  t127 := Tryd.underlying117
  a127 := Tryd.isAgg117
  z127 := Tryd.sizeOf117
  v127 := Tryd.zeroValue117 }

theorem Tryd.Builder_Extra_169 : Builder.Extra Tryd.prog Tryd.lays169_ren := {
  sizeBuilder := by kernel_rfl
  liesBuilder := by kernel_rfl
  t5 := Tryd.underlying5
  a5 := Tryd.isAgg5
  z5 := Tryd.sizeOf5
  v5 := Tryd.zeroValue5
  infoByte := by kernel_rfl
  cellsByte := by kernel_rfl
  sizeByte := by kernel_rfl
  neB5 := by decide }

def Tryd.lays165_ren : Go.Shelf.Ren := ⟨fun | 165 => 41 | 240 => 68 | 241 => 69 | 276 => 80 | 277 => 81 | n => n, fun | 70 => 84 | 3 => 3 | 0 => 0 | 4 => 4 | 9 => 9 | 20 => 20 | 72 => 86 | 37 => 32 | 164 => 123 | 5 => 5 | n => n, fun | n => n⟩

theorem Tryd.lays165 : Go.Proofs.Lays.n165 Tryd.prog Tryd.lays165_ren := {
  mixed := by kernel_rfl
  f165 := Tryd.func41.trans (congrArg some (by kernel_rfl))
  f240 := Tryd.func68.trans (congrArg some (by kernel_rfl))
  f241 := Tryd.func69.trans (congrArg some (by kernel_rfl))
  f276 := Tryd.func80.trans (congrArg some (by kernel_rfl))
  f277 := Tryd.func81.trans (congrArg some (by kernel_rfl))
  t0 := Tryd.underlying0
  a0 := Tryd.isAgg0
  z0 := Tryd.sizeOf0
  v0 := Tryd.zeroValue0
  t3 := Tryd.underlying3
  a3 := Tryd.isAgg3
  z3 := Tryd.sizeOf3
  v3 := Tryd.zeroValue3
  t4 := Tryd.underlying4
  a4 := Tryd.isAgg4
  z4 := Tryd.sizeOf4
  v4 := Tryd.zeroValue4
  t9 := Tryd.underlying9
  a9 := Tryd.isAgg9
  z9 := Tryd.sizeOf9
  v9 := Tryd.zeroValue9
  t20 := Tryd.underlying20
  a20 := Tryd.isAgg20
  z20 := Tryd.sizeOf20
  v20 := Tryd.zeroValue20
  t37 := Tryd.underlying32
  a37 := Tryd.isAgg32
  z37 := Tryd.sizeOf32
  v37 := Tryd.zeroValue32
  t70 := Tryd.underlying84
  a70 := Tryd.isAgg84
  z70 := Tryd.sizeOf84
  v70 := Tryd.zeroValue84
  t72 := Tryd.underlying86
  a72 := Tryd.isAgg86
  z72 := Tryd.sizeOf86
  v72 := Tryd.zeroValue86
  t164 := Tryd.underlying123
  a164 := Tryd.isAgg123
  z164 := Tryd.sizeOf123
  v164 := Tryd.zeroValue123 }

theorem Tryd.Builder_Extra_165 : Builder.Extra Tryd.prog Tryd.lays165_ren := {
  sizeBuilder := by kernel_rfl
  liesBuilder := by kernel_rfl
  t5 := Tryd.underlying5
  a5 := Tryd.isAgg5
  z5 := Tryd.sizeOf5
  v5 := Tryd.zeroValue5
  infoByte := by kernel_rfl
  cellsByte := by kernel_rfl
  sizeByte := by kernel_rfl
  neB5 := by decide }

def Tryd.lays148_ren : Go.Shelf.Ren := ⟨fun | 148 => 79 | 222 => 90 | 223 => 91 | 269 => 96 | n => n, fun | 9 => 9 | 3 => 3 | 4 => 4 | 5 => 5 | 146 => 127 | 51 => 126 | 46 => 113 | n => n, fun | n => n⟩

theorem Tryd.lays148 : Go.Proofs.Lays.n148 Tryd.prog Tryd.lays148_ren := {
  mixed := by kernel_rfl
  f148 := Tryd.func79.trans (congrArg some (by kernel_rfl))
  f222 := Tryd.func90.trans (congrArg some (by kernel_rfl))
  f223 := Tryd.func91.trans (congrArg some (by kernel_rfl))
  f269 := Tryd.func96.trans (congrArg some (by kernel_rfl))
  t3 := Tryd.underlying3
  a3 := Tryd.isAgg3
  z3 := Tryd.sizeOf3
  v3 := Tryd.zeroValue3
  t4 := Tryd.underlying4
  a4 := Tryd.isAgg4
  z4 := Tryd.sizeOf4
  v4 := Tryd.zeroValue4
  t5 := Tryd.underlying5
  a5 := Tryd.isAgg5
  z5 := Tryd.sizeOf5
  v5 := Tryd.zeroValue5
  t9 := Tryd.underlying9
  a9 := Tryd.isAgg9
  z9 := Tryd.sizeOf9
  v9 := Tryd.zeroValue9
  t46 := Tryd.underlying113
  a46 := Tryd.isAgg113
  z46 := Tryd.sizeOf113
  v46 := Tryd.zeroValue113
  t51 := Tryd.underlying126
  a51 := Tryd.isAgg126
  z51 := Tryd.sizeOf126
  v51 := Tryd.zeroValue126
  t146 := Tryd.underlying127
  a146 := Tryd.isAgg127
  z146 := Tryd.sizeOf127
  v146 := Tryd.zeroValue127 }
open Go.RowKit Go.Lib in
/-- strings.LastIndex AT A substr OF ONE BYTE (as in 'strings.LastIndex(path, "/")'): the last place of that byte, or -1. (LAID: no walk: one application.) -/

def Tryd.lays105_ren : Go.Shelf.Ren := ⟨fun | 105 => 45 | 212 => 70 | 99 => 71 | 165 => 41 | 166 => 44 | 170 => 72 | 169 => 46 | 263 => 82 | 264 => 83 | 206 => 84 | 240 => 68 | 241 => 69 | 276 => 80 | 277 => 81 | n => n, fun | 9 => 9 | 3 => 3 | 4 => 4 | 20 => 20 | 0 => 0 | 46 => 113 | 109 => 114 | 5 => 5 | 72 => 86 | 76 => 92 | 51 => 126 | 146 => 127 | 53 => 129 | 148 => 130 | 70 => 84 | 37 => 32 | 75 => 91 | 127 => 117 | 164 => 123 | 80 => 57 | n => n, fun | n => n⟩

theorem Tryd.lays105 : Go.Proofs.Lays.n105 Tryd.prog Tryd.lays105_ren := {
  mixed := by kernel_rfl
  f99 := Tryd.func71.trans (congrArg some (by kernel_rfl))
  f105 := Tryd.func45.trans (congrArg some (by kernel_rfl))
  f165 := Tryd.func41.trans (congrArg some (by kernel_rfl))
  f166 := Tryd.func44.trans (congrArg some (by kernel_rfl))
  f169 := Tryd.func46.trans (congrArg some (by kernel_rfl))
  f170 := Tryd.func72.trans (congrArg some (by kernel_rfl))
  f206 := Tryd.func84.trans (congrArg some (by kernel_rfl))
  f212 := Tryd.func70.trans (congrArg some (by kernel_rfl))
  f240 := Tryd.func68.trans (congrArg some (by kernel_rfl))
  f241 := Tryd.func69.trans (congrArg some (by kernel_rfl))
  f263 := Tryd.func82.trans (congrArg some (by kernel_rfl))
  f264 := Tryd.func83.trans (congrArg some (by kernel_rfl))
  f276 := Tryd.func80.trans (congrArg some (by kernel_rfl))
  f277 := Tryd.func81.trans (congrArg some (by kernel_rfl))
  t0 := Tryd.underlying0
  a0 := Tryd.isAgg0
  z0 := Tryd.sizeOf0
  v0 := Tryd.zeroValue0
  t3 := Tryd.underlying3
  a3 := Tryd.isAgg3
  z3 := Tryd.sizeOf3
  v3 := Tryd.zeroValue3
  t4 := Tryd.underlying4
  a4 := Tryd.isAgg4
  z4 := Tryd.sizeOf4
  v4 := Tryd.zeroValue4
  t5 := Tryd.underlying5
  a5 := Tryd.isAgg5
  z5 := Tryd.sizeOf5
  v5 := Tryd.zeroValue5
  t9 := Tryd.underlying9
  a9 := Tryd.isAgg9
  z9 := Tryd.sizeOf9
  v9 := Tryd.zeroValue9
  t20 := Tryd.underlying20
  a20 := Tryd.isAgg20
  z20 := Tryd.sizeOf20
  v20 := Tryd.zeroValue20
  t37 := Tryd.underlying32
  a37 := Tryd.isAgg32
  z37 := Tryd.sizeOf32
  v37 := Tryd.zeroValue32
  t46 := Tryd.underlying113
  a46 := Tryd.isAgg113
  z46 := Tryd.sizeOf113
  v46 := Tryd.zeroValue113
  t51 := Tryd.underlying126
  a51 := Tryd.isAgg126
  z51 := Tryd.sizeOf126
  v51 := Tryd.zeroValue126
  t53 := Tryd.underlying129
  a53 := Tryd.isAgg129
  z53 := Tryd.sizeOf129
  v53 := Tryd.zeroValue129
  t70 := Tryd.underlying84
  a70 := Tryd.isAgg84
  z70 := Tryd.sizeOf84
  v70 := Tryd.zeroValue84
  t72 := Tryd.underlying86
  a72 := Tryd.isAgg86
  z72 := Tryd.sizeOf86
  v72 := Tryd.zeroValue86
  t75 := Tryd.underlying91
  a75 := Tryd.isAgg91
  z75 := Tryd.sizeOf91
  v75 := Tryd.zeroValue91
  t76 := Tryd.underlying92
  a76 := Tryd.isAgg92
  z76 := Tryd.sizeOf92
  v76 := Tryd.zeroValue92
  t109 := Tryd.underlying114
  a109 := Tryd.isAgg114
  z109 := Tryd.sizeOf114
  v109 := Tryd.zeroValue114
  t127 := Tryd.underlying117
  a127 := Tryd.isAgg117
  z127 := Tryd.sizeOf117
  v127 := Tryd.zeroValue117
  t146 := Tryd.underlying127
  a146 := Tryd.isAgg127
  z146 := Tryd.sizeOf127
  v146 := Tryd.zeroValue127
  t148 := Tryd.underlying130
  a148 := Tryd.isAgg130
  z148 := Tryd.sizeOf130
  v148 := Tryd.zeroValue130
  t164 := Tryd.underlying123
  a164 := Tryd.isAgg123
  z164 := Tryd.sizeOf123
  v164 := Tryd.zeroValue123 }

theorem Tryd.Builder_Extra_105 : Builder.Extra Tryd.prog Tryd.lays105_ren := {
  sizeBuilder := by kernel_rfl
  liesBuilder := by kernel_rfl
  t5 := Tryd.underlying5
  a5 := Tryd.isAgg5
  z5 := Tryd.sizeOf5
  v5 := Tryd.zeroValue5
  infoByte := by kernel_rfl
  cellsByte := by kernel_rfl
  sizeByte := by kernel_rfl
  neB5 := by decide }
open Go.RowKit Go.Lib in
/-- THE MAIN CASE: at least two copies of a string that is not empty. (LAID: no walk: one application.) -/

theorem bgrow (B b n : Nat) (w : World) (hB : B ≤ b) (hbk : w.heap[b]? = some (.cells #[.pointer none, .slice none 0 0] 86 (0, 0))) (hBw : B ≤ w.heap.size) (hn : n ≤ 281474976710656) :
    Calls Tryd.prog 41 #[.pointer (some ⟨b, 0, none⟩), .int .i64 n] w fun e w' => e = .returned (.tuple #[]) ∧ (Lib.BuilderAt 86 5 B b (.pointer (some ⟨b, 0, none⟩)) [] w' ∧ Below B w w') := Any.Builder_Grow_fresh Tryd.lays165 Tryd.Builder_Extra_165 B b n w hB hbk hBw hn

theorem bstring (B b : Nat) (l : List UInt8) (w : World) (h : Lib.IsBuilder 86 5 B b (Lib.byteCells l) w) (hBw : B ≤ w.heap.size) :
    Calls Tryd.prog 46 #[.pointer (some ⟨b, 0, none⟩)] w fun e w' => e = .returned (.string ⟨l.toArray⟩) ∧ Below B w w' := Any.Builder_String_any Tryd.lays169 Tryd.Builder_Extra_169 B b l w h hBw

theorem lastix (s sub : ByteArray) (h1 : sub.size = 1) (hs : s.size < 4611686018427387904) (w : World) :
    Calls Tryd.prog 79 #[.string s, .string sub] w fun e w' => e = .returned (.int .i64 (Lib.lastIndexByte s ((sub[0]'(by omega)).toNat : Int))) ∧ w' = w := Any.strings_LastIndex_one Tryd.lays148 s sub h1 hs w

theorem repeat_any (s : ByteArray) (c : Nat) (w : World) (hc : c ≤ 9223372036854775807) (hlen : s.size * c ≤ 140737488355328) :
    Calls Tryd.prog 45 #[.string s, .int .i64 c] w fun e w' => e = .returned (.string ⟨(Lib.repeatL s.data.toList c).toArray⟩) ∧ Below w.heap.size w w' := Any.strings_Repeat Tryd.lays105 Tryd.Builder_Extra_105 s c w hc hlen

theorem bcheck (b : Nat) (w : World) (h0 : w.cell? ⟨b, 0, none⟩ = some (.pointer (some ⟨b, 0, none⟩))) :
    Calls Tryd.prog 68 #[.pointer (some ⟨b, 0, none⟩)] w fun e w' => e = .returned (.tuple #[]) ∧ w' = w := Any.Builder_copyCheck_used (P := Tryd.prog) (ρ := Tryd.lays105_ren) { Tryd.lays105 with } Tryd.Builder_Extra_105.toX72 b w h0
end Go.Proofs.YtcokccfbeonlnaaDoor
set_option linter.unusedVariables false
set_option linter.unusedSimpArgs false
namespace Go.Proofs.YtcokccfbeonlnaaDoor
open Go.RowKit
open Go.Lib (strCells strCells_length)

theorem new_at (w : World) (o : Obj) : (w.alloc o).heap[w.heap.size]? = some o := by show (w.heap.push o)[w.heap.size]? = _; simp
theorem three (w : World) (A C D : Obj) : (((w.alloc A).alloc C).alloc D).heap[w.heap.size]? = some A ∧ (((w.alloc A).alloc C).alloc D).heap[w.heap.size + 1]? = some C ∧ (((w.alloc A).alloc C).alloc D).heap[w.heap.size + 1 + 1]? = some D ∧ Below w.heap.size w (((w.alloc A).alloc C).alloc D) := by
  have s1 : (w.alloc A).heap.size = w.heap.size + 1 := World.size_alloc w A
  have s2 : ((w.alloc A).alloc C).heap.size = w.heap.size + 1 + 1 := by rw [World.size_alloc, s1]
  refine ⟨alloc_at _ _ _ _ (alloc_at _ _ _ _ (new_at _ _)), alloc_at _ _ _ _ ?_, ?_, (((Below.refl _ w).alloc (Nat.le_refl _) A).alloc (by omega) C).alloc (by omega) D⟩
  · rw [← s1]; exact new_at _ _
  · rw [← s2]; exact new_at _ _

set_option maxHeartbeats 1000000 in
/-- What a call writes with. -/
theorem gather_any (g : Nat) (b : Bool) (col wait : Int) (tv gv : Value) (w : World) (hg : w.heap[g]? = some (.cells (sk b col wait tv gv) 78 (0, 0))) (htv : ∃ p n cap, tv = .slice p n cap) (hgv : ∃ p n cap, gv = .slice p n cap) :
    Calls Tryd.prog 61 #[.pointer (some ⟨g, 0, none⟩)] w fun e w' => ∃ c d h, e = .returned (.tuple #[.func (.func 76) #[] #[.pointer (some ⟨d, 0, none⟩), .pointer (some ⟨c, 0, none⟩)], .func (.func 77) #[] #[.pointer (some ⟨c, 0, none⟩)], .func (.func 78) #[] #[.pointer (some ⟨c, 0, none⟩), .pointer (some ⟨d, 0, none⟩), .pointer (some ⟨h, 0, none⟩)]]) ∧
      (w'.heap[c]? = some (.cells #[tv] 32 (0, 0)) ∧ w'.heap[d]? = some (.cells #[gv] 76 (0, 0)) ∧ w'.heap[h]? = some (.cells #[.pointer (some ⟨g, 0, none⟩)] 49 (0, 0)) ∧ w.heap.size ≤ c ∧ w.heap.size ≤ d ∧ w.heap.size ≤ h) ∧ Below w.heap.size w w' := by
  have gl := blk_lt hg
  have g3 : w.cell? ⟨g, 3, none⟩ = some tv := blk_cell hg rfl
  have g4 : w.cell? ⟨g, 4, none⟩ = some gv := blk_cell hg rfl
  obtain ⟨p1, n1, k1, rfl⟩ := htv
  obtain ⟨p2, n2, k2, rfl⟩ := hgv
  have a1 := cell_a1 g3
  have a2 := cell_a2 g3
  have a3 := cell_a3 g3
  have b1 := cell_a1 g4
  have b2 := cell_a2 g4
  have b3 := cell_a3 g4
  have hmf : ∀ (fn : Fn) (first cap : Array Value) (w : World), (Instr.makeFunc fn first cap).run Tryd.prog w = .ok (.func fn first cap) w := fun _ _ _ _ => rfl
  go_enter Tryd.func61, Tryd.ntmps61
  go_wp2_with fail
  go_region
  all_goals go_wp2_with fail
  · go_ret3
    obtain ⟨e0, e1, e2, hb⟩ := three w (.cells #[.pointer (some ⟨g, 0, none⟩)] 49) (.cells #[.slice p1 n1 k1] 32) (.cells #[.slice p2 n2 k2] 76)
    exact ⟨w.heap.size + 1, w.heap.size + 1 + 1, w.heap.size, rfl, ⟨e1, e2, e0, by omega, by omega, by omega⟩, hb.drew⟩
  · go_ret3
    obtain ⟨e0, e1, e2, hb⟩ := three w (.cells #[.pointer (some ⟨g, 0, none⟩)] 49) (.cells #[.slice p2 n2 k2] 76) (.cells #[.slice p1 n1 k1] 32)
    exact ⟨w.heap.size + 1 + 1, w.heap.size + 1, w.heap.size, rfl, ⟨e2, e1, e0, by omega, by omega, by omega⟩, hb.drew⟩

/-! The last line feed of a text, and what stands behind it. -/
def lf (t : ByteArray) : Int := Lib.lastIndexByte t 10
theorem lf_bd (t : ByteArray) : -1 ≤ lf t ∧ lf t < t.size := by
  have := Lib.lastIdx_spec t 10 t.size
  unfold lf Lib.lastIndexByte
  rcases this with ⟨h, _⟩ | ⟨i, hi, h, _⟩
  · rw [h]; omega
  · rw [h]; omega
def aft (t : ByteArray) : ByteArray := t.extract (lf t + 1).toNat t.size
def ncol (col wait : Int) (t : ByteArray) : Int := if lf t < 0 then col + wait + tw t else tw (aft t)
theorem lastix10 (s : ByteArray) (hs : s.size < 4611686018427387904) (w : World) :
    Calls Tryd.prog 79 #[.string s, .string ⟨#[10]⟩] w fun e w' => e = .returned (.int .i64 (lf s)) ∧ w' = w := lastix s ⟨#[10]⟩ rfl hs w

theorem new_any (w : World) : Calls Tryd.prog 22 #[] w fun e w' => e = .returned (.pointer (some ⟨w.heap.size, 0, none⟩)) ∧ w' = w.alloc (.cells (sk false 0 0 (.slice none 0 0) (.slice none 0 0)) 78) := by
  go_enter Tryd.func22, Tryd.ntmps22
  go_wp2_with fail
  go_ret
  exact ⟨rfl, rfl⟩
theorem column_nil (w : World) : Calls Tryd.prog 67 #[.pointer none] w fun e w' => e = .returned (.int .i64 0) ∧ w' = w := by
  go_enter Tryd.func67, Tryd.ntmps67
  go_wp2_with fail
  go_ret
  exact ⟨rfl, rfl⟩
theorem fresh_nil (w : World) : Calls Tryd.prog 63 #[.pointer none] w fun e w' => e = .returned (.bool false) ∧ w' = w := by
  go_enter Tryd.func63, Tryd.ntmps63
  go_wp2_with fail
  go_ret
  exact ⟨rfl, rfl⟩
theorem blanks_nil (n : Int) (w : World) : Calls Tryd.prog 64 #[.pointer none, .int .i64 n] w fun e w' => e = .returned (.int .i64 3) ∧ w' = w := by
  go_enter Tryd.func64, Tryd.ntmps64
  go_wp2_with fail
  go_ret
  exact ⟨rfl, rfl⟩
theorem feed_nil (n : Int) (w : World) : Calls Tryd.prog 65 #[.pointer none, .int .i64 n] w fun e w' => e = .returned (.int .i64 3) ∧ w' = w := by
  go_enter Tryd.func65, Tryd.ntmps65
  go_wp2_with fail
  go_ret
  exact ⟨rfl, rfl⟩
theorem empty_nil (w : World) : Calls Tryd.prog 38 #[.pointer none] w fun e w' => e = .returned (.int .i64 3) ∧ w' = w := by
  go_enter Tryd.func38, Tryd.ntmps38
  go_wp2_with fail
  go_ret
  exact ⟨rfl, rfl⟩

theorem column_any (g : Nat) (b : Bool) (col wait : Int) (tv gv : Value) (w : World) (hg : w.heap[g]? = some (.cells (sk b col wait tv gv) 78 (0, 0))) (h0 : 0 ≤ col) (h1 : col ≤ 1152921504606846976) (h2 : 0 ≤ wait) (h3 : wait ≤ 1152921504606846976) :
    Calls Tryd.prog 67 #[.pointer (some ⟨g, 0, none⟩)] w fun e w' => e = .returned (.int .i64 (col + wait)) ∧ Below w.heap.size w w' := by
  have g1 : w.cell? ⟨g, 1, none⟩ = some (.int .i64 col) := blk_cell hg rfl
  have g2 : w.cell? ⟨g, 2, none⟩ = some (.int .i64 wait) := blk_cell hg rfl
  go_enter Tryd.func67, Tryd.ntmps67
  go_wp2_with fail
  go_quiet (fail)
  go_wp2_with fail
  go_ret
  exact ⟨rfl, below_drewN (Below.refl _ w) nq⟩
theorem fresh_any (g : Nat) (b : Bool) (col wait : Int) (tv gv : Value) (w : World) (hg : w.heap[g]? = some (.cells (sk b col wait tv gv) 78 (0, 0))) :
    Calls Tryd.prog 63 #[.pointer (some ⟨g, 0, none⟩)] w fun e w' => e = .returned (.bool (!b)) ∧ w' = w := by
  have g0 : w.cell? ⟨g, 0, none⟩ = some (.bool b) := blk_cell hg rfl
  go_enter Tryd.func63, Tryd.ntmps63
  go_wp2_with fail
  go_ret
  exact ⟨rfl, rfl⟩
theorem blanks_bad (g : Nat) (n : Int) (w : World) (hn : n < 0 ∨ 1048576 < n) : Calls Tryd.prog 64 #[.pointer (some ⟨g, 0, none⟩), .int .i64 n] w fun e w' => e = .returned (.int .i64 1) ∧ w' = w := by
  by_cases h0 : n < 0
  · have q1 : decide (n < 0) = true := by simp; omega
    clear hn
    go_enter Tryd.func64, Tryd.ntmps64
    go_wp2_with fail
    go_ret
    exact ⟨rfl, rfl⟩
  · have q1 : decide (n < 0) = false := by simp; omega
    have q2 : decide (1048576 < n) = true := by simp; omega
    have q3 : 1048576 < n := by omega
    clear hn
    go_enter Tryd.func64, Tryd.ntmps64
    go_wp2_with fail
    go_ret
    exact ⟨rfl, rfl⟩
theorem blanks_any (g : Nat) (b : Bool) (col wait n : Int) (tv gv : Value) (w : World) (hg : w.heap[g]? = some (.cells (sk b col wait tv gv) 78 (0, 0))) (h0 : 0 ≤ n) (h1 : n ≤ 1048576) (h2 : 0 ≤ wait) (h3 : wait ≤ 1152921504606846976) :
    Calls Tryd.prog 64 #[.pointer (some ⟨g, 0, none⟩), .int .i64 n] w fun e w' => e = .returned (.int .i64 0) ∧ w' = w.setCell ⟨g, 2, none⟩ (.int .i64 (wait + n)) := by
  have q1 : decide (n < 0) = false := by simp; omega
  have q2 : decide (1048576 < n) = false := by simp; omega
  have q3 : ¬ (1048576 < n) := by omega
  have q4 : ¬ (n < 0) := by omega
  have g2 : w.cell? ⟨g, 2, none⟩ = some (.int .i64 wait) := blk_cell hg rfl
  have f2 : w.frozen? ⟨g, 2, none⟩ = false := blk_frozen hg
  go_enter Tryd.func64, Tryd.ntmps64
  go_wp2_with fail
  go_ret
  exact ⟨rfl, rfl⟩
end Go.Proofs.YtcokccfbeonlnaaDoor
set_option linter.unusedVariables false
set_option linter.unusedSimpArgs false
namespace Go.Proofs.YtcokccfbeonlnaaDoor
open Go.RowKit
open Go.Lib (strCells strCells_length)

theorem aft_size (t : ByteArray) : (aft t).size ≤ t.size := by
  unfold aft
  have := lf_bd t
  rw [ByteArray.size_extract]; omega

set_option maxHeartbeats 1000000 in
theorem behind_any (b : Bool) (col wait : Int) (t : ByteArray) (w : World) (hT : Tab w) (ht : t.size ≤ 2147483647) (h0 : 0 ≤ col) (h1 : col ≤ 1152921504606846976) (h2 : 0 ≤ wait) (h3 : wait ≤ 1152921504606846976) :
    Calls Tryd.prog 62 #[.agg #[.bool b, .int .i64 col, .int .i64 wait], .string t] w fun e w' => e = .returned (.agg #[.bool true, .int .i64 (ncol col wait t), .int .i64 0]) ∧ Below w.heap.size w w' := by
  have hbd := lf_bd t
  have hbt := tw_bd t
  have hba := tw_bd (aft t)
  have hsa := aft_size t
  by_cases hl : lf t < 0
  · have q1 : decide (0 ≤ lf t) = false := by simp; omega
    have q2 : ¬ (0 ≤ lf t) := by omega
    have HN : Hid (ncol col wait t = col + wait + tw t) := if_pos hl
    clear hba hsa
    obtain ⟨y, hy⟩ : ∃ y, tw t = y := ⟨_, rfl⟩
    rw [hy] at HN hbt
    go_enter Tryd.func62, Tryd.ntmps62
    go_wp2_with (go_at_call 79; refine (lastix10 t (by omega) _).mono ?_; rintro e w1 ⟨rfl, rfl⟩)
    obtain ⟨W, hW⟩ : ∃ W, ((w.alloc (.cells #[.bool b, .int .i64 col, .int .i64 wait] 75)).alloc (.cells #[.bool false, .int .i64 0, .int .i64 0] 75)) = W := ⟨_, rfl⟩
    have s1 : (w.alloc (.cells #[.bool b, .int .i64 col, .int .i64 wait] 75)).heap.size = w.heap.size + 1 := World.size_alloc _ _
    have hbW : Below w.heap.size w W := by rw [← hW]; exact ((Below.refl _ w).alloc (Nat.le_refl _) _).alloc (by omega) _
    have b1 : W.heap[w.heap.size]? = some (.cells #[.bool b, .int .i64 col, .int .i64 wait] 75 (0, 0)) := by rw [← hW]; exact alloc_at _ _ _ _ (new_at _ _)
    have b2 : W.heap[w.heap.size + 1]? = some (.cells #[.bool false, .int .i64 0, .int .i64 0] 75 (0, 0)) := by rw [← hW, ← s1]; exact new_at _ _
    obtain ⟨x, hx⟩ : ∃ x, x = w.heap.size := ⟨_, rfl⟩
    rw [← hx] at b1 b2 hbW
    have hTW : Tab W := hT.below (by rw [← hx]; exact hbW)
    simp only [hW, ← hx]
    have x1 : W.cell? ⟨x, 1, none⟩ = some (.int .i64 col) := blk_cell b1 rfl
    have x2 : W.cell? ⟨x, 2, none⟩ = some (.int .i64 wait) := blk_cell b1 rfl
    have HB : Hid (∀ V, Below W.heap.size W V → V.cell? ⟨x, 1, none⟩ = some (.int .i64 col) ∧ V.cell? ⟨x, 2, none⟩ = some (.int .i64 wait) ∧ V.cell? ⟨x + 1, 0, none⟩ = some (.bool false) ∧ V.cell? ⟨x + 1, 1, none⟩ = some (.int .i64 0) ∧ V.cell? ⟨x + 1, 2, none⟩ = some (.int .i64 0) ∧ V.frozen? ⟨x + 1, 0, none⟩ = false ∧ V.frozen? ⟨x + 1, 1, none⟩ = false ∧ V.frozen? ⟨x + 1, 2, none⟩ = false) := fun V hV => ⟨blk_cell (blk_below b1 hV) rfl, blk_cell (blk_below b1 hV) rfl, blk_cell (blk_below b2 hV) rfl, blk_cell (blk_below b2 hV) rfl, blk_cell (blk_below b2 hV) rfl, blk_frozen (blk_below b2 hV), blk_frozen (blk_below b2 hV), blk_frozen (blk_below b2 hV)⟩
    have HBW : Hid (Below x w W) := hbW
    have HT : Hid (Tab W) := hTW
    have HC : Hid (Calls Tryd.prog 29 #[.string t] W.drew fun e V => e = .returned (.int .i64 y) ∧ Hid (Below x w V ∧ V.heap[x + 1]? = some (.cells #[.bool false, .int .i64 0, .int .i64 0] 75 (0, 0))) ∧ V.cell? ⟨x, 1, none⟩ = some (.int .i64 col) ∧ V.cell? ⟨x, 2, none⟩ = some (.int .i64 wait) ∧ V.cell? ⟨x + 1, 0, none⟩ = some (.bool false) ∧ V.cell? ⟨x + 1, 1, none⟩ = some (.int .i64 0) ∧ V.cell? ⟨x + 1, 2, none⟩ = some (.int .i64 0) ∧ V.frozen? ⟨x + 1, 0, none⟩ = false ∧ V.frozen? ⟨x + 1, 1, none⟩ = false ∧ V.frozen? ⟨x + 1, 2, none⟩ = false) := by
      refine (wtext_any t W.drew (hTW.below (Below.drew (Below.refl _ W))) ht).mono ?_
      rintro e V ⟨rfl, hV⟩
      have hV' : Below W.heap.size W V := ⟨hV.os, hV.tape, hV.output, hV.size, hV.block⟩
      exact ⟨by rw [hy], ⟨hbW.trans (hV'.mono (by have := hbW.size; omega)), blk_below b2 hV'⟩, HB.out V hV'⟩
    clear s1 b1 b2 hT hTW hbW hW q1 q2 hl hbd HB HT hy
    have HX : Hid (x = w.heap.size) := hx
    clear hx
    go_region_with (go_at_call 29; refine HC.out.mono ?_; rintro e w2 ⟨rfl, hb2, k1, k2, k3, k4, k5, k6, k7, k8⟩)
    all_goals
      have hz : IntKind.i64.wrap (IntKind.i64.wrap (col + wait) + y) = col + wait + y := by rw [IntKind.wrap_i64, IntKind.wrap_i64]; omega
      rw [hz]
      obtain ⟨V, hV⟩ : ∃ V, V = ((w2.setCell ⟨x + 1, 0, none⟩ (.bool true)).setCell ⟨x + 1, 1, none⟩ (.int .i64 (col + wait + y))).setCell ⟨x + 1, 2, none⟩ (.int .i64 0) := ⟨_, rfl⟩
      have hVb : V.heap[x + 1]? = some (.cells #[.bool true, .int .i64 (col + wait + y), .int .i64 0] 75 (0, 0)) := by rw [hV]; exact blk_set (blk_set (blk_set hb2.out.2 0 _) 1 _) 2 _
      have hVB : Below x w V := by rw [hV]; exact (((hb2.out.1).setCell (p := ⟨x + 1, 0, none⟩) (by show x ≤ x + 1; omega) _).setCell (p := ⟨x + 1, 1, none⟩) (by show x ≤ x + 1; omega) _).setCell (p := ⟨x + 1, 2, none⟩) (by show x ≤ x + 1; omega) _
      rw [← hV]
      have m0 : V.cell? ⟨x + 1, 0, none⟩ = some (.bool true) := blk_cell hVb rfl
      have m1 : V.cell? ⟨x + 1, 1, none⟩ = some (.int .i64 (col + wait + y)) := blk_cell hVb rfl
      have m2 : V.cell? ⟨x + 1, 2, none⟩ = some (.int .i64 0) := blk_cell hVb rfl
      have HF : Hid (Ending.returned (.agg #[.bool true, .int .i64 (col + wait + y), .int .i64 0]) = .returned (.agg #[.bool true, .int .i64 (ncol col wait t), .int .i64 0]) ∧ Below w.heap.size w V) := ⟨by rw [HN.out], by rw [← HX.out]; exact hVB⟩
      clear hz hV hVb hVB k1 k2 k3 k4 k5 k6 k7 k8 hb2 HC HN
      go_wp2_with fail
      exact bodyPost_ret (v := .agg #[.bool true, .int .i64 (col + wait + y), .int .i64 0]) (by simp [results, Tryd.f62, go_sem, m0, m1, m2]) rfl HF.out
  · have q1 : decide (0 ≤ lf t) = true := by simp; omega
    have q2 : (0 ≤ lf t) := by omega
    have HN : Hid (ncol col wait t = tw (aft t)) := if_neg hl
    obtain ⟨k, hk⟩ : ∃ k : Nat, lf t = k := ⟨(lf t).toNat, by omega⟩
    have HA : Hid (aft t = t.extract (k + 1) t.size) := by unfold aft; rw [hk]; rfl
    obtain ⟨y, hy⟩ : ∃ y, tw (aft t) = y := ⟨_, rfl⟩
    have HC : Hid (∀ V, Tab V → Calls Tryd.prog 29 #[.string (t.extract (k + 1) t.size)] V fun e V' => e = .returned (.int .i64 y) ∧ Below V.heap.size V V') := by
      intro V hV
      rw [← HA.out, ← hy]
      exact wtext_any (aft t) V hV (by omega)
    rw [hy] at HN hba
    have hk1 : (k : Int) + 1 ≤ t.size := by omega
    have hkn : k + 1 ≤ t.size := by omega
    have HT : Hid (Tab w) := hT
    have LC : Hid (∀ V, Calls Tryd.prog 79 #[.string t, .string ⟨#[10]⟩] V fun e w' => e = .returned (.int .i64 k) ∧ w' = V) := by
      intro V; have := lastix10 t (by omega) V; rw [hk] at this; exact this
    clear hsa hbt q1 q2 hT hy HA hl hk hbd
    go_enter Tryd.func62, Tryd.ntmps62
    go_wp2_with (go_at_call 79; refine (LC.out _).mono ?_; rintro e w1 ⟨rfl, rfl⟩)
    obtain ⟨W, hW⟩ : ∃ W, ((w.alloc (.cells #[.bool b, .int .i64 col, .int .i64 wait] 75)).alloc (.cells #[.bool false, .int .i64 0, .int .i64 0] 75)) = W := ⟨_, rfl⟩
    have s1 : (w.alloc (.cells #[.bool b, .int .i64 col, .int .i64 wait] 75)).heap.size = w.heap.size + 1 := World.size_alloc _ _
    have hbW : Below w.heap.size w W := by rw [← hW]; exact ((Below.refl _ w).alloc (Nat.le_refl _) _).alloc (by omega) _
    have b2 : W.heap[w.heap.size + 1]? = some (.cells #[.bool false, .int .i64 0, .int .i64 0] 75 (0, 0)) := by rw [← hW, ← s1]; exact new_at _ _
    refine (HC.out _ ?tab).mono ?_
    case tab => rw [hW]; exact HT.out.below hbW
    rintro e w2 ⟨rfl, hb2⟩
    rw [hW] at hb2
    have HB2 : Hid (Below w.heap.size w w2) := hbW.trans (hb2.mono hbW.size)
    have k0 := blk_below b2 hb2
    clear hb2 hbW b2 s1 hW
    have HK : Hid (w2.heap[w.heap.size + 1]? = some (.cells #[.bool false, .int .i64 0, .int .i64 0] 75 (0, 0))) := k0
    obtain ⟨x, HX⟩ : ∃ x, Hid (x = w.heap.size) := ⟨_, rfl⟩
    rw [← HX.out] at k0 HB2 HK ⊢
    have k3 : w2.cell? ⟨x + 1, 0, none⟩ = some (.bool false) := blk_cell k0 rfl
    have k4 : w2.cell? ⟨x + 1, 1, none⟩ = some (.int .i64 0) := blk_cell k0 rfl
    have k5 : w2.cell? ⟨x + 1, 2, none⟩ = some (.int .i64 0) := blk_cell k0 rfl
    have k6 : w2.frozen? ⟨x + 1, 0, none⟩ = false := blk_frozen k0
    have k7 : w2.frozen? ⟨x + 1, 1, none⟩ = false := blk_frozen k0
    have k8 : w2.frozen? ⟨x + 1, 2, none⟩ = false := blk_frozen k0
    clear k0
    obtain ⟨V, hV⟩ : ∃ V, V = ((w2.setCell ⟨x + 1, 0, none⟩ (.bool true)).setCell ⟨x + 1, 1, none⟩ (.int .i64 y)).setCell ⟨x + 1, 2, none⟩ (.int .i64 0) := ⟨_, rfl⟩
    have hVb : V.heap[x + 1]? = some (.cells #[.bool true, .int .i64 y, .int .i64 0] 75 (0, 0)) := by rw [hV]; exact blk_set (blk_set (blk_set HK.out 0 _) 1 _) 2 _
    have hVB : Below x w V := by rw [hV]; exact (((HB2.out).setCell (p := ⟨x + 1, 0, none⟩) (by show x ≤ x + 1; omega) _).setCell (p := ⟨x + 1, 1, none⟩) (by show x ≤ x + 1; omega) _).setCell (p := ⟨x + 1, 2, none⟩) (by show x ≤ x + 1; omega) _
    have m0 : V.cell? ⟨x + 1, 0, none⟩ = some (.bool true) := blk_cell hVb rfl
    have m1 : V.cell? ⟨x + 1, 1, none⟩ = some (.int .i64 y) := blk_cell hVb rfl
    have m2 : V.cell? ⟨x + 1, 2, none⟩ = some (.int .i64 0) := blk_cell hVb rfl
    have HF : Hid (Ending.returned (.agg #[.bool true, .int .i64 y, .int .i64 0]) = .returned (.agg #[.bool true, .int .i64 (ncol col wait t), .int .i64 0]) ∧ Below w.heap.size w V) := ⟨by rw [HN.out], by rw [← HX.out]; exact hVB⟩
    have HV : Hid (V = ((w2.setCell ⟨x + 1, 0, none⟩ (.bool true)).setCell ⟨x + 1, 1, none⟩ (.int .i64 y)).setCell ⟨x + 1, 2, none⟩ (.int .i64 0)) := hV
    clear hV hVb hVB HB2 HC HN
    go_wp2_with fail
    rw [← HV.out]
    exact bodyPost_ret (v := .agg #[.bool true, .int .i64 y, .int .i64 0]) (by simp [results, Tryd.f62, go_sem, m0, m1, m2]) rfl HF.out
end Go.Proofs.YtcokccfbeonlnaaDoor
set_option linter.unusedVariables false
set_option linter.unusedSimpArgs false
namespace Go.Proofs.YtcokccfbeonlnaaDoor
open Go.RowKit
open Go.Lib (strCells strCells_length)

def addg (gs : List (Nat × Nat)) (l m : Nat) : List (Nat × Nat) := if m = 0 then gs else gs ++ [(l, m)]
theorem weave_addg {f : Nat} {gs : List (Nat × Nat)} {t : List UInt8} (m : Nat) (h : Ups f gs t.length) : weave f (addg gs t.length m) t = weave f gs t ++ List.replicate m 32 := by
  unfold addg
  by_cases hm : m = 0
  · rw [if_pos hm, hm]; simp
  · rw [if_neg hm]; exact weave_gap m h
theorem ups_addg {f : Nat} {gs : List (Nat × Nat)} {k : Nat} (m : Nat) (h : Ups f gs k) : Ups f (addg gs k m) k := by
  unfold addg
  split
  · exact h
  · exact h.snoc m
theorem sums_addg (gs : List (Nat × Nat)) (l m : Nat) : sums (addg gs l m) = sums gs + m := by
  unfold addg
  split
  · omega
  · exact sums_app _ _ _
theorem lt_addg (gs : List (Nat × Nat)) (l m n : Nat) (h : ∀ x ∈ gs, x.1 < n) (hl : l < n) : ∀ x ∈ addg gs l m, x.1 < n := by
  unfold addg
  split
  · exact h
  · intro x hx
    rcases List.mem_append.1 hx with hx | hx
    · exact h x hx
    · simp at hx; subst hx; exact hl
theorem len_addg (gs : List (Nat × Nat)) (l m : Nat) (h : gs.length ≤ sums gs) : (addg gs l m).length ≤ sums (addg gs l m) := by
  rw [sums_addg]; unfold addg
  split
  · omega
  · simp; omega

theorem cl_bl (m d c : Nat) (v tv : Value) (l : Nat) (gs : List (Nat × Nat)) (w : World) (hc : w.heap[c]? = some (.cells #[tv] 32 (0, 0))) (htv : ∃ p cap, tv = .slice p l cap) (hd : w.heap[d]? = some (.cells #[v] 76 (0, 0))) (ho : w.ownsRow 0 89 2 v gs.length (flat eg gs)) (hn : gs.length ≤ 1073741824) (hm2 : m ≤ 9223372036854775807) (hl : l ≤ 9223372036854775807) :
    Calls Tryd.prog 76 #[.int .i64 m, .pointer (some ⟨d, 0, none⟩), .pointer (some ⟨c, 0, none⟩)] w fun e w' => e = .returned (.tuple #[]) ∧ ∃ v', w'.heap[d]? = some (.cells #[v'] 76 (0, 0)) ∧ w'.ownsRow 0 89 2 v' (addg gs l m).length (flat eg (addg gs l m)) ∧ (v'.ownBlock = v.ownBlock ∨ ∃ b, w.heap.size ≤ b ∧ v'.ownBlock = some b) ∧ Kp (fun k => k = d ∨ some k = v.ownBlock) w w' := by
  unfold addg
  by_cases hm : m = 0
  · subst hm
    simp only [if_pos]
    refine (cl_none 0 d c w (Int.le_refl _)).mono ?_
    rintro e w' ⟨rfl, rfl⟩
    exact ⟨rfl, v, hd, ho, .inl rfl, Kp.refl _ _⟩
  · simp only [if_neg hm]
    refine (cl_blanks m d c v tv gs.length l (flat eg gs) w hc htv hd ho hn (by omega) hm2 hl).mono ?_
    rintro e w' ⟨rfl, v', h1, h2, h3, h4⟩
    refine ⟨rfl, v', h1, ?_, h3, h4⟩
    rw [List.length_append, flat_append]
    simpa [flat] using h2

/-- What a call has gathered. -/
structure Ga (own : Nat → Nat) (i : Nat) (w0 : World) (g c d h : Nat) (sv : Array Value) (w : World) (text : List UInt8) (gs : List (Nat × Nat)) : Prop where
  hg : w.heap[g]? = some (.cells sv 78 (0, 0))
  hc : ∃ tv, w.heap[c]? = some (.cells #[tv] 32 (0, 0)) ∧ w.ownsRow 0 5 1 tv text.length (bc text) ∧ ∀ k, tv.ownBlock = some k → own k = i ∨ w0.heap.size ≤ k
  hd : ∃ gv, w.heap[d]? = some (.cells #[gv] 76 (0, 0)) ∧ w.ownsRow 0 89 2 gv gs.length (flat eg gs) ∧ ∀ k, gv.ownBlock = some k → own k = i ∨ w0.heap.size ≤ k
  hh : w.heap[h]? = some (.cells #[.pointer (some ⟨g, 0, none⟩)] 49 (0, 0))
  kp : Kp (fun k => own k = i) w0 w
  lc : w0.heap.size ≤ c
  ld : w0.heap.size ≤ d

theorem ne_of_blk {w : World} {a b : Nat} {x y : Array Value} {s t : TypeId} {f e : Nat × Nat} (ha : w.heap[a]? = some (.cells x s f)) (hb : w.heap[b]? = some (.cells y t e)) (h : s ≠ t) : a ≠ b := by
  rintro rfl
  rw [ha] at hb
  injection hb with h1
  injection h1 with _ h2
  exact h h2

theorem Ga.below {own : Nat → Nat} {i : Nat} {w0 : World} {g c d h : Nat} {sv : Array Value} {w w' : World} {text : List UInt8} {gs : List (Nat × Nat)} (H : Ga own i w0 g c d h sv w text gs) (hb : Below w.heap.size w w') : Ga own i w0 g c d h sv w' text gs := by
  obtain ⟨tv, h1, h2, h3⟩ := H.hc
  obtain ⟨gv, k1, k2, k3⟩ := H.hd
  exact ⟨blk_below H.hg hb, ⟨tv, blk_below h1 hb, row_below h2 hb, h3⟩, ⟨gv, blk_below k1 hb, row_below k2 hb, k3⟩, blk_below H.hh hb, H.kp.step (Kp.of_below (S := fun k => own k = i) hb) (fun _ _ h => h), H.lc, H.ld⟩

theorem Ga.blanks {own : Nat → Nat} {i : Nat} {w0 : World} {g c d h : Nat} {sv : Array Value} {w : World} {text : List UInt8} {gs : List (Nat × Nat)} (H : Ga own i w0 g c d h sv w text gs) (m : Nat) (hn : gs.length ≤ 1073741824) (hm : m ≤ 9223372036854775807) (hl : text.length ≤ 9223372036854775807) :
    Calls Tryd.prog 76 #[.int .i64 m, .pointer (some ⟨d, 0, none⟩), .pointer (some ⟨c, 0, none⟩)] w fun e w' => e = .returned (.tuple #[]) ∧ Ga own i w0 g c d h sv w' text (addg gs text.length m) := by
  obtain ⟨tv, h1, h2, h3⟩ := H.hc
  obtain ⟨gv, k1, k2, k3⟩ := H.hd
  obtain ⟨p, cap, hv, _, _⟩ := row_shape h2
  refine (cl_bl m d c gv tv text.length gs w h1 ⟨p, cap, hv⟩ k1 k2 hn hm hl).mono ?_
  rintro e w' ⟨rfl, v', a1, a2, a3, a4⟩
  have hne : ∀ {x : Array Value} {k : Nat} {T : TypeId}, w.heap[k]? = some (.cells x T (0, 0)) → T ≠ 76 → T ≠ 89 → ¬ (k = d ∨ some k = gv.ownBlock) := by
    intro x k T hk t1 t2 hh
    rcases hh with hh | hh
    · exact ne_of_blk hk k1 t1 hh
    · exact row_ne k2 hk t2 hh.symm
  refine ⟨rfl, a4.blk H.hg (hne H.hg (by decide) (by decide)), ⟨tv, a4.blk h1 (hne h1 (by decide) (by decide)), a4.row h2 ?_, h3⟩, ⟨v', a1, a2, ?_⟩, a4.blk H.hh (hne H.hh (by decide) (by decide)), H.kp.step a4 ?_, H.lc, H.ld⟩
  · intro k hk hS
    rcases hS with hS | hS
    · subst hS; exact row_ne h2 k1 (by decide) hk
    · rcases h2.2 with ⟨rfl, _⟩ | ⟨b, cap, cur, rfl, _, hb, _⟩
      · cases hk
      · simp only [Value.ownBlock, Option.some.injEq] at hk
        subst hk
        exact row_ne k2 hb (by decide) hS.symm
  · intro k hk
    rcases a3 with a3 | ⟨b, hb, a3⟩
    · exact k3 k (by rw [← a3]; exact hk)
    · rw [a3] at hk; injection hk with hk; subst hk
      exact .inr (Nat.le_trans H.kp.size hb)
  · intro j hj hS
    rcases hS with hS | hS
    · have := H.ld; omega
    · rcases k3 j hS.symm with h | h
      · exact h
      · omega

theorem Ga.text {own : Nat → Nat} {i : Nat} {w0 : World} {g c d h : Nat} {sv : Array Value} {w : World} {text : List UInt8} {gs : List (Nat × Nat)} (H : Ga own i w0 g c d h sv w text gs) (t : ByteArray) (hn : text.length + t.size ≤ 70368744177664) :
    Calls Tryd.prog 77 #[.string t, .pointer (some ⟨c, 0, none⟩)] w fun e w' => e = .returned (.tuple #[]) ∧ Ga own i w0 g c d h sv w' (text ++ t.data.toList) gs := by
  obtain ⟨tv, h1, h2, h3⟩ := H.hc
  obtain ⟨gv, k1, k2, k3⟩ := H.hd
  refine (cl_text c tv text.length (bc text) t w h1 h2 hn).mono ?_
  rintro e w' ⟨rfl, v', a1, a2, a3, a4⟩
  have hne : ∀ {x : Array Value} {k : Nat} {T : TypeId}, w.heap[k]? = some (.cells x T (0, 0)) → T ≠ 32 → T ≠ 5 → ¬ (k = c ∨ some k = tv.ownBlock) := by
    intro x k T hk t1 t2 hh
    rcases hh with hh | hh
    · exact ne_of_blk hk h1 t1 hh
    · exact row_ne h2 hk t2 hh.symm
  have hlen : (text ++ t.data.toList).length = text.length + t.size := by rw [List.length_append]; rfl
  refine ⟨rfl, a4.blk H.hg (hne H.hg (by decide) (by decide)), ⟨v', a1, by rw [hlen, bc_app]; exact a2, ?_⟩, ⟨gv, a4.blk k1 (hne k1 (by decide) (by decide)), a4.row k2 ?_, k3⟩, a4.blk H.hh (hne H.hh (by decide) (by decide)), H.kp.step a4 ?_, H.lc, H.ld⟩
  · intro k hk
    rcases a3 with a3 | a3
    · exact h3 k (by rw [← a3]; exact hk)
    · rw [a3] at hk; injection hk with hk; subst hk
      exact .inr H.kp.size
  · intro k hk hS
    rcases hS with hS | hS
    · subst hS; exact row_ne k2 h1 (by decide) hk
    · rcases k2.2 with ⟨rfl, _⟩ | ⟨b, cap, cur, rfl, _, hb, _⟩
      · cases hk
      · simp only [Value.ownBlock, Option.some.injEq] at hk
        subst hk
        exact row_ne h2 hb (by decide) hS.symm
  · intro j hj hS
    rcases hS with hS | hS
    · have := H.lc; omega
    · rcases h3 j hS.symm with h | h
      · exact h
      · omega

/-- The sink, as the document has it. -/
structure St6 where
  fresh : Bool
  col : Nat
  wait : Nat
  out : List UInt8

/-- The code's sink at block g, of the label i. -/
structure SK (own : Nat → Nat) (i : Nat) (w : World) (g : Nat) (s : St6) : Prop where
  lab : own g = i
  ex : ∃ tv gv text gs, w.heap[g]? = some (.cells (sk (!s.fresh) s.col s.wait tv gv) 78 (0, 0)) ∧ (w.ownsRow 0 5 1 tv text.length (bc text) ∧ ∀ k, tv.ownBlock = some k → own k = i) ∧ (w.ownsRow 0 89 2 gv gs.length (flat eg gs) ∧ ∀ k, gv.ownBlock = some k → own k = i) ∧ Ups 0 gs text.length ∧ s.out = weave 0 gs text ∧ (gs.length ≤ sums gs ∧ ∀ x ∈ gs, x.1 < text.length)

theorem fr_row {own own' : Nat → Nat} {i j : Nat} {w w' : World} {e sz n : Nat} {v : Value} {xs : List Value} (hf : Fr j own own' w w') (hij : i ≠ j) (h : w.ownsRow 0 e sz v n xs ∧ ∀ k, v.ownBlock = some k → own k = i) : w'.ownsRow 0 e sz v n xs ∧ ∀ k, v.ownBlock = some k → own' k = i := by
  obtain ⟨h1, h2⟩ := h
  refine ⟨⟨h1.1, ?_⟩, fun k hk => ?_⟩
  · rcases h1.2 with h3 | ⟨g, cap, cur, rfl, h4, h5, h6⟩
    · exact .inl h3
    · exact .inr ⟨g, cap, cur, rfl, h4, (hf.block g (blk_lt h5) (by rw [h2 g rfl]; exact hij)).trans h5, h6⟩
  · rw [hf.old k (h1.lt k hk).2]; exact h2 k hk

theorem SK.kept {own own' : Nat → Nat} {i j : Nat} {w w' : World} {g : Nat} {s : St6} (h : SK own i w g s) (hf : Fr j own own' w w') (hij : i ≠ j) : SK own' i w' g s := by
  obtain ⟨tv, gv, text, gs, h1, h2, h3, h4⟩ := h.ex
  exact ⟨(hf.old g (blk_lt h1)).trans h.lab, tv, gv, text, gs, (hf.block g (blk_lt h1) (by rw [h.lab]; exact hij)).trans h1, fr_row hf hij h2, fr_row hf hij h3, h4⟩
theorem SK.below {own : Nat → Nat} {i : Nat} {w w' : World} {g : Nat} {s : St6} (h : SK own i w g s) (hb : Below w.heap.size w w') : SK own i w' g s :=
  h.kept (Fr.of_below (i := i + 1) hb) (by omega)
theorem SK.len {own : Nat → Nat} {i : Nat} {w : World} {g : Nat} {s : St6} (h : SK own i w g s) : g < w.heap.size := by
  obtain ⟨tv, gv, text, gs, h1, _⟩ := h.ex
  exact blk_lt h1

/-- What a call on a sink leaves: the labels of the new blocks, and all else as it was. -/
def Af (own : Nat → Nat) (i : Nat) (w w' : World) (g : Nat) (s : St6) : Prop := ∃ own', Nf own' w' ∧ Fr i own own' w w' ∧ SK own' i w' g s
theorem Af.here {own : Nat → Nat} {i : Nat} {w w' : World} {g : Nat} {s : St6} (h : SK own i w g s) (hn : Nf own w) (hb : Below w.heap.size w w') : Af own i w w' g s :=
  ⟨own, hn.below hb.size, Fr.of_below hb, h.below hb⟩

/-- The end of a call that gathers. -/
theorem Ga.fin {own : Nat → Nat} {i : Nat} {w0 w w' : World} {g c d h : Nat} {sv : Array Value} {text : List UInt8} {gs : List (Nat × Nat)} (H : Ga own i w0 g c d h sv w text gs) (hn : Nf own w0) (hlab : own g = i) (hg0 : g < w0.heap.size)
    (tv gv : Value) (h1 : w.ownsRow 0 5 1 tv text.length (bc text)) (h2 : ∀ k, tv.ownBlock = some k → own k = i ∨ w0.heap.size ≤ k) (k1 : w.ownsRow 0 89 2 gv gs.length (flat eg gs)) (k2 : ∀ k, gv.ownBlock = some k → own k = i ∨ w0.heap.size ≤ k)
    (s : St6) (hgw : w'.heap[g]? = some (.cells (sk (!s.fresh) s.col s.wait tv gv) 78 (0, 0))) (hk : Kp (fun k => k = g) w w') (hu : Ups 0 gs text.length) (ho : s.out = weave 0 gs text) (hgs : gs.length ≤ sums gs ∧ ∀ x ∈ gs, x.1 < text.length) : Af own i w0 w' g s := by
  have hs := H.kp.size
  have hs' := hk.size
  have rw1 := row_ne h1 H.hg (by decide)
  have rw2 := row_ne k1 H.hg (by decide)
  have lt1 := fun k hk => (h1.lt k hk).2
  have lt2 := fun k hk => (k1.lt k hk).2
  refine ⟨fun k => if k < w0.heap.size then own k else if tv.ownBlock = some k ∨ gv.ownBlock = some k then i else 0, ?_, ?_, ?_, tv, gv, text, gs, hgw, ⟨hk.row h1 (fun k e1 e2 => rw1 (by rw [e1, e2])), ?_⟩, ⟨hk.row k1 (fun k e1 e2 => rw2 (by rw [e1, e2])), ?_⟩, hu, ho, hgs⟩
  · intro k hkk
    show (if k < w0.heap.size then own k else if tv.ownBlock = some k ∨ gv.ownBlock = some k then i else 0) = 0
    rw [if_neg (by omega), if_neg]
    rintro (e | e)
    · have := lt1 k e; omega
    · have := lt2 k e; omega
  · refine (H.kp.step hk (fun j _ e => by subst e; exact hlab)).fr (fun k _ e => e) (fun k hkk => if_pos hkk)
  · show (if g < w0.heap.size then own g else _) = i
    rw [if_pos hg0]; exact hlab
  · intro k e
    show (if k < w0.heap.size then own k else if tv.ownBlock = some k ∨ gv.ownBlock = some k then i else 0) = i
    by_cases hkk : k < w0.heap.size
    · rw [if_pos hkk]
      rcases h2 k e with h | h
      · exact h
      · omega
    · rw [if_neg hkk, if_pos (.inl e)]
  · intro k e
    show (if k < w0.heap.size then own k else if tv.ownBlock = some k ∨ gv.ownBlock = some k then i else 0) = i
    by_cases hkk : k < w0.heap.size
    · rw [if_pos hkk]
      rcases k2 k e with h | h
      · exact h
      · omega
    · rw [if_neg hkk, if_pos (.inr e)]
end Go.Proofs.YtcokccfbeonlnaaDoor
set_option linter.unusedVariables false
set_option linter.unusedSimpArgs false
namespace Go.Proofs.YtcokccfbeonlnaaDoor
open Go.RowKit
open Go.Lib (strCells strCells_length)

def St6.feed (s : St6) (c : Nat) : St6 := ⟨true, c, 0, s.out ++ [10]⟩

/-- The deferred end of a call that gathers. -/
theorem ga_end {own : Nat → Nat} {i : Nat} {w0 w : World} {g c d h : Nat} {b : Bool} {col wait : Int} {tv0 gv0 : Value} {text : List UInt8} {gs : List (Nat × Nat)} (H : Ga own i w0 g c d h (sk b col wait tv0 gv0) w text gs) (htv0 : ∃ p n cap, tv0 = .slice p n cap) (hgv0 : ∃ p n cap, gv0 = .slice p n cap) (hn : Nf own w0) (hlab : own g = i) (hg0 : g < w0.heap.size)
    (u : FrameMode) (s : St6) (hu : Ups 0 gs text.length) (ho : s.out = weave 0 gs text) (hgs : gs.length ≤ sums gs ∧ ∀ x ∈ gs, x.1 < text.length) :
    CallsD Tryd.prog 78 #[.agg #[.bool (!s.fresh), .int .i64 s.col, .int .i64 s.wait], .pointer (some ⟨c, 0, none⟩), .pointer (some ⟨d, 0, none⟩), .pointer (some ⟨h, 0, none⟩)] u w fun e u' w' => u' = u ∧ (e = .returned (.tuple #[]) ∧ Af own i w0 w' g s) := by
  obtain ⟨tv, h1, h2, h3⟩ := H.hc
  obtain ⟨gv, k1, k2, k3⟩ := H.hd
  obtain ⟨p1, c1, e1, _, _⟩ := row_shape h2
  obtain ⟨p2, c2, e2, _, _⟩ := row_shape k2
  refine (cl_end u b (!s.fresh) col wait s.col s.wait c d h g tv0 gv0 tv gv w H.hg h1 k1 H.hh htv0 hgv0 ⟨_, _, _, e1⟩ ⟨_, _, _, e2⟩).mono ?_
  rintro e u' w' ⟨rfl, rfl, a1, a2⟩
  exact ⟨rfl, rfl, H.fin hn hlab hg0 tv gv h2 h3 k2 k3 s a1 a2 hu ho hgs⟩

theorem ga_start {own : Nat → Nat} {i : Nat} {w w' : World} {g c d h : Nat} {sv : Array Value} {tv gv : Value} {text : List UInt8} {gs : List (Nat × Nat)} (hg : w.heap[g]? = some (.cells sv 78 (0, 0))) (h1 : w.ownsRow 0 5 1 tv text.length (bc text) ∧ ∀ k, tv.ownBlock = some k → own k = i) (h2 : w.ownsRow 0 89 2 gv gs.length (flat eg gs) ∧ ∀ k, gv.ownBlock = some k → own k = i)
    (hB : (w'.heap[c]? = some (.cells #[tv] 32 (0, 0)) ∧ w'.heap[d]? = some (.cells #[gv] 76 (0, 0)) ∧ w'.heap[h]? = some (.cells #[.pointer (some ⟨g, 0, none⟩)] 49 (0, 0)) ∧ w.heap.size ≤ c ∧ w.heap.size ≤ d ∧ w.heap.size ≤ h) ∧ Below w.heap.size w w') : Ga own i w g c d h sv w' text gs := by
  obtain ⟨⟨b1, b2, b3, b4, b5, _⟩, hb⟩ := hB
  exact ⟨blk_below hg hb, ⟨tv, b1, row_below h1.1 hb, fun k hk => .inl (h1.2 k hk)⟩, ⟨gv, b2, row_below h2.1 hb, fun k hk => .inl (h2.2 k hk)⟩, b3, Kp.of_below hb, b4, b5⟩

set_option maxHeartbeats 1000000 in
theorem next_any (own : Nat → Nat) (i g : Nat) (s : St6) (c : Nat) (w : World) (h : SK own i w g s) (hn : Nf own w) (hb : s.out.length ≤ 1073741824) :
    Calls Tryd.prog 66 #[.pointer (some ⟨g, 0, none⟩), .int .i64 c] w fun e w' => e = .returned (.tuple #[]) ∧ Af own i w w' g (s.feed c) := by
  have hlt := h.len
  have hlab := h.lab
  obtain ⟨tv, gv, text, gs, h1, h2, h3, h4, h5, h6⟩ := h.ex
  obtain ⟨p1, c1, e1, _, _⟩ := row_shape h2.1
  obtain ⟨p2, c2, e2, _, _⟩ := row_shape h3.1
  have hwl := weave_len h4
  rw [← h5] at hwl
  have h61 := h6.1
  have HG := gather_any g (!s.fresh) s.col s.wait tv gv w h1 ⟨_, _, _, e1⟩ ⟨_, _, _, e2⟩
  have HS : Hid (∀ (w' : World) (c d h : Nat), ((w'.heap[c]? = some (.cells #[tv] 32 (0, 0)) ∧ w'.heap[d]? = some (.cells #[gv] 76 (0, 0)) ∧ w'.heap[h]? = some (.cells #[.pointer (some ⟨g, 0, none⟩)] 49 (0, 0)) ∧ w.heap.size ≤ c ∧ w.heap.size ≤ d ∧ w.heap.size ≤ h) ∧ Below w.heap.size w w') → Ga own i w g c d h (sk (!s.fresh) s.col s.wait tv gv) w' text gs) := fun w' c d h hB => ga_start h1 h2 h3 hB
  have HE : Hid (∀ (w' : World) (cb d h : Nat) (u : FrameMode), Ga own i w g cb d h (sk (!s.fresh) s.col s.wait tv gv) w' (text ++ [10]) gs → CallsD Tryd.prog 78 #[.agg #[.bool false, .int .i64 c, .int .i64 0], .pointer (some ⟨cb, 0, none⟩), .pointer (some ⟨d, 0, none⟩), .pointer (some ⟨h, 0, none⟩)] u w' fun e u' w' => u' = u ∧ (e = .returned (.tuple #[]) ∧ Af own i w w' g (s.feed c))) := fun w' cb d h u H =>
    ga_end H ⟨_, _, _, e1⟩ ⟨_, _, _, e2⟩ hn hlab hlt u (s.feed c) (h4.more (by simp)) (by show s.out ++ [10] = _; rw [h5, weave_app [10] h4]) ⟨h6.1, fun x hx => by have := h6.2 x hx; simp; omega⟩
  have HGH : Hid (Calls Tryd.prog 61 #[.pointer (some ⟨g, 0, none⟩)] w fun e w' => ∃ c d h, e = .returned (.tuple #[.func (.func 76) #[] #[.pointer (some ⟨d, 0, none⟩), .pointer (some ⟨c, 0, none⟩)], .func (.func 77) #[] #[.pointer (some ⟨c, 0, none⟩)], .func (.func 78) #[] #[.pointer (some ⟨c, 0, none⟩), .pointer (some ⟨d, 0, none⟩), .pointer (some ⟨h, 0, none⟩)]]) ∧ Ga own i w g c d h (sk (!s.fresh) s.col s.wait tv gv) w' text gs) := by
    refine HG.mono ?_
    rintro e w' ⟨c, d, h, rfl, hB⟩
    exact ⟨c, d, h, rfl, HS.out _ _ _ _ hB⟩
  have HL : Hid (text.length + 1 ≤ 70368744177664) := by show _ ≤ _; omega
  clear HG HS hn hlab hlt h h1 h2 h3 h4 h5 h6 h61 hwl e1 e2 hb
  go_enter_defers Tryd.func66, Tryd.ntmps66
  go_wp2_with (go_at_call 61; refine HGH.out.mono ?_; rintro e w1 ⟨cb, d, h, rfl, H⟩)
  have HH : Hid (Ga own i w g cb d h (sk (!s.fresh) s.col s.wait tv gv) w1 text gs) := H
  clear H
  refine (HH.out.text ⟨#[10]⟩ HL.out).mono ?_
  rintro e w2 ⟨rfl, H2⟩
  have HD : Hid (Ga own i w g cb d h (sk (!s.fresh) s.col s.wait tv gv) w2 (text ++ [10]) gs) := H2
  clear HH H2
  go_wp2_with fail
  refine leaves_cons (f := 78) (args := #[.agg #[.bool false, .int .i64 c, .int .i64 0], .pointer (some ⟨cb, 0, none⟩), .pointer (some ⟨d, 0, none⟩), .pointer (some ⟨h, 0, none⟩)]) (by simp) (by simp [go_sem]) ?_
  refine (HE.out _ _ _ _ .returning HD.out).mono ?_
  rintro e u' w'' ⟨rfl, rfl, hA⟩
  exact ⟨_, results_none rfl _ _ _, rfl, hA⟩
end Go.Proofs.YtcokccfbeonlnaaDoor
set_option linter.unusedVariables false
set_option linter.unusedSimpArgs false
namespace Go.Proofs.YtcokccfbeonlnaaDoor
open Go.RowKit
open Go.Lib (strCells strCells_length)

def St6.text (s : St6) (t : ByteArray) : St6 := if t.size = 0 then s else ⟨false, (ncol s.col s.wait t).toNat, 0, s.out ++ ((if s.fresh then List.replicate s.col 32 else []) ++ (List.replicate s.wait 32 ++ t.data.toList))⟩

theorem ne_list {t : ByteArray} (h : t.size ≠ 0) : t.toList.isEmpty = false := by
  rw [ByteArray.toList_eq]
  cases hd : t.data.toList with
  | nil => exfalso; apply h; show t.data.size = 0; rw [← Array.length_toList, hd]; rfl
  | cons a r => rfl

theorem ncol_bd (col wait : Nat) (t : ByteArray) : 0 ≤ ncol col wait t ∧ ncol col wait t ≤ col + wait + 2 * t.size := by
  have h1 := tw_bd t
  have h2 := tw_bd (aft t)
  have h3 := aft_size t
  unfold ncol
  split <;> omega

theorem text_nil (t : ByteArray) (w : World) : Calls Tryd.prog 34 #[.pointer none, .string t] w fun e w' => e = .returned (.int .i64 3) ∧ w' = w := by
  go_enter_defers Tryd.func34, Tryd.ntmps34
  go_wp2_with fail
  exact ⟨_, results_tmp rfl _ _ _, rfl, rfl⟩

theorem text_none (g : Nat) (t : ByteArray) (w : World) (ht : t.size = 0) : Calls Tryd.prog 34 #[.pointer (some ⟨g, 0, none⟩), .string t] w fun e w' => e = .returned (.int .i64 0) ∧ w' = w := by
  obtain rfl : t = ⟨#[]⟩ := by
    have : t = ByteArray.empty := ByteArray.size_eq_zero_iff.1 ht
    exact this
  go_enter_defers Tryd.func34, Tryd.ntmps34
  go_wp2_with fail
  exact ⟨_, results_tmp rfl _ _ _, rfl, rfl⟩

set_option maxHeartbeats 1000000 in
theorem text_some (own : Nat → Nat) (i g : Nat) (s : St6) (t : ByteArray) (w : World) (h : SK own i w g s) (hn : Nf own w) (hT : Tab w) (ht : t.size ≠ 0) (hb : s.out.length + s.col + s.wait + t.size ≤ 1073741824) :
    Calls Tryd.prog 34 #[.pointer (some ⟨g, 0, none⟩), .string t] w fun e w' => e = .returned (.int .i64 0) ∧ Af own i w w' g (s.text t) := by
  have hlt := h.len
  have hlab := h.lab
  obtain ⟨tv, gv, text, gs, h1, h2, h3, h4, h5, h6⟩ := h.ex
  obtain ⟨p1, c1, e1, _, _⟩ := row_shape h2.1
  obtain ⟨p2, c2, e2, _, _⟩ := row_shape h3.1
  have hwl := weave_len h4
  rw [← h5] at hwl
  obtain ⟨fr, col, wait, out⟩ := s
  simp only at *
  have HGH : Hid (Calls Tryd.prog 61 #[.pointer (some ⟨g, 0, none⟩)] w fun e w' => ∃ c d h, e = .returned (.tuple #[.func (.func 76) #[] #[.pointer (some ⟨d, 0, none⟩), .pointer (some ⟨c, 0, none⟩)], .func (.func 77) #[] #[.pointer (some ⟨c, 0, none⟩)], .func (.func 78) #[] #[.pointer (some ⟨c, 0, none⟩), .pointer (some ⟨d, 0, none⟩), .pointer (some ⟨h, 0, none⟩)]]) ∧ Hid (Ga own i w g c d h (sk (!fr) col wait tv gv) w' text gs ∧ Tab w') ∧ w'.cell? ⟨g, 0, none⟩ = some (.bool (!fr)) ∧ w'.cell? ⟨g, 1, none⟩ = some (.int .i64 col) ∧ w'.cell? ⟨g, 2, none⟩ = some (.int .i64 wait)) := by
    refine (gather_any g (!fr) col wait tv gv w h1 ⟨_, _, _, e1⟩ ⟨_, _, _, e2⟩).mono ?_
    rintro e w' ⟨c, d, h, rfl, hB⟩
    have hG : Ga own i w g c d h (sk (!fr) col wait tv gv) w' text gs := ga_start h1 h2 h3 hB
    exact ⟨c, d, h, rfl, ⟨hG, hT.below hB.2⟩, blk_cell hG.hg rfl, blk_cell hG.hg rfl, blk_cell hG.hg rfl⟩
  have hnb := ncol_bd col wait t
  obtain ⟨nc, hnc⟩ : ∃ nc : Nat, ncol col wait t = nc := ⟨(ncol col wait t).toNat, by omega⟩
  have HBH : Hid (∀ V, Tab V → Calls Tryd.prog 62 #[.agg #[.bool (!fr), .int .i64 col, .int .i64 wait], .string t] V fun e w' => e = .returned (.agg #[.bool true, .int .i64 nc, .int .i64 0]) ∧ Below V.heap.size V w') := by
    intro V hV
    have := behind_any (!fr) col wait t V hV (by omega) (by omega) (by omega) (by omega) (by omega)
    rw [hnc] at this
    exact this
  have HE : Hid (∀ (w' : World) (cb d h : Nat) (u : FrameMode), Ga own i w g cb d h (sk (!fr) col wait tv gv) w' (text ++ t.data.toList) (addg (addg gs text.length (if fr then col else 0)) text.length wait) → CallsD Tryd.prog 78 #[.agg #[.bool true, .int .i64 nc, .int .i64 0], .pointer (some ⟨cb, 0, none⟩), .pointer (some ⟨d, 0, none⟩), .pointer (some ⟨h, 0, none⟩)] u w' fun e u' w' => u' = u ∧ (e = .returned (.tuple #[]) ∧ Af own i w w' g (St6.text ⟨fr, col, wait, out⟩ t))) := by
    intro w' cb d h u H
    have hst : St6.text ⟨fr, col, wait, out⟩ t = ⟨false, nc, 0, out ++ ((if fr then List.replicate col 32 else []) ++ (List.replicate wait 32 ++ t.data.toList))⟩ := by
      unfold St6.text; rw [if_neg ht]; simp only [hnc]; rfl
    rw [hst]
    have hlt2 : text.length < (text ++ t.data.toList).length := by
      have : t.data.toList.length = t.size := by rw [Array.length_toList]; rfl
      rw [List.length_append, this]; omega
    have hu2 : Ups 0 (addg (addg gs text.length (if fr then col else 0)) text.length wait) text.length := ups_addg wait (ups_addg _ h4)
    refine ga_end H ⟨_, _, _, e1⟩ ⟨_, _, _, e2⟩ hn hlab hlt u ⟨false, nc, 0, _⟩ (hu2.more (by simp)) ?_ ⟨len_addg _ _ _ (len_addg _ _ _ h6.1), lt_addg _ _ _ _ (lt_addg _ _ _ _ (fun x hx => by have := h6.2 x hx; simp; omega) hlt2) hlt2⟩
    show out ++ _ = _
    rw [weave_app _ hu2, weave_addg _ (ups_addg _ h4), weave_addg _ h4, ← h5]
    cases fr
    · simp
    · simp only [if_true, List.append_assoc]
  have HL : Hid (gs.length ≤ 1073741824 ∧ (addg gs text.length (if fr then col else 0)).length ≤ 1073741824 ∧ text.length + t.size ≤ 70368744177664 ∧ col ≤ 1073741824 ∧ wait ≤ 1073741824 ∧ text.length ≤ 1073741824) := by
    have := len_addg gs text.length (if fr then col else 0) h6.1
    rw [sums_addg] at this
    have h61 := h6.1
    refine ⟨by omega, ?_, by omega, by omega, by omega, by omega⟩
    cases fr <;> simp at this ⊢ <;> omega
  have hte : t.toList.isEmpty = false := ne_list ht
  clear hn hlab hlt h h1 h2 h3 h4 h5 h6 hwl e1 e2 hb hT ht hnb hnc
  cases fr
  · go_enter_defers Tryd.func34, Tryd.ntmps34
    go_wp2_with (go_at_call 61; refine HGH.out.mono ?_; rintro e w1 ⟨cb, d, h, rfl, HG, g0, g1, g2⟩)
    refine (HBH.out w1 HG.out.2).mono ?_
    rintro e w2 ⟨rfl, hb2⟩
    have HG2 : Hid (Ga own i w g cb d h (sk true col wait tv gv) w2 text gs) := HG.out.1.below hb2
    have g0' : w2.cell? ⟨g, 0, none⟩ = some (.bool true) := blk_cell HG2.out.hg rfl
    have g2' : w2.cell? ⟨g, 2, none⟩ = some (.int .i64 wait) := blk_cell HG2.out.hg rfl
    clear HG g0 g1 g2 hb2
    go_wp2_with fail
    refine (HG2.out.blanks wait HL.out.1 (by have := HL.out; omega) (by have := HL.out; omega)).mono ?_
    rintro e w3 ⟨rfl, H3⟩
    have HG3 : Hid (Ga own i w g cb d h (sk true col wait tv gv) w3 text (addg gs text.length wait)) := H3
    clear HG2 H3 g0' g2'
    go_wp2_with fail
    refine (HG3.out.text t HL.out.2.2.1).mono ?_
    rintro e w4 ⟨rfl, H4⟩
    have HG4 : Hid (Ga own i w g cb d h (sk true col wait tv gv) w4 (text ++ t.data.toList) (addg gs text.length wait)) := H4
    clear HG3 H4
    go_wp2_with fail
    refine leaves_cons (f := 78) (args := #[.agg #[.bool true, .int .i64 nc, .int .i64 0], .pointer (some ⟨cb, 0, none⟩), .pointer (some ⟨d, 0, none⟩), .pointer (some ⟨h, 0, none⟩)]) (by simp) (by simp [go_sem]) ?_
    refine (HE.out _ _ _ _ .returning HG4.out).mono ?_
    rintro e u' w'' ⟨rfl, rfl, hA⟩
    exact ⟨_, results_tmp rfl _ _ _, rfl, hA⟩
  · go_enter_defers Tryd.func34, Tryd.ntmps34
    go_wp2_with (go_at_call 61; refine HGH.out.mono ?_; rintro e w1 ⟨cb, d, h, rfl, HG, g0, g1, g2⟩)
    refine (HBH.out w1 HG.out.2).mono ?_
    rintro e w2 ⟨rfl, hb2⟩
    have HG2 : Hid (Ga own i w g cb d h (sk false col wait tv gv) w2 text gs) := HG.out.1.below hb2
    have g0' : w2.cell? ⟨g, 0, none⟩ = some (.bool false) := blk_cell HG2.out.hg rfl
    have g1' : w2.cell? ⟨g, 1, none⟩ = some (.int .i64 col) := blk_cell HG2.out.hg rfl
    clear HG g0 g1 g2 hb2
    go_wp2_with fail
    refine (HG2.out.blanks col HL.out.1 (by have := HL.out; omega) (by have := HL.out; omega)).mono ?_
    rintro e w3 ⟨rfl, H3⟩
    have HG3 : Hid (Ga own i w g cb d h (sk false col wait tv gv) w3 text (addg gs text.length col)) := H3
    have g2' : w3.cell? ⟨g, 2, none⟩ = some (.int .i64 wait) := blk_cell HG3.out.hg rfl
    clear HG2 H3 g0' g1'
    go_wp2_with fail
    refine (HG3.out.blanks wait HL.out.2.1 (by have := HL.out; omega) (by have := HL.out; omega)).mono ?_
    rintro e w5 ⟨rfl, H5⟩
    have HG5 : Hid (Ga own i w g cb d h (sk false col wait tv gv) w5 text (addg (addg gs text.length col) text.length wait)) := H5
    clear HG3 H5 g2'
    go_wp2_with fail
    refine (HG5.out.text t HL.out.2.2.1).mono ?_
    rintro e w4 ⟨rfl, H4⟩
    have HG4 : Hid (Ga own i w g cb d h (sk false col wait tv gv) w4 (text ++ t.data.toList) (addg (addg gs text.length col) text.length wait)) := H4
    clear HG5 H4
    go_wp2_with fail
    refine leaves_cons (f := 78) (args := #[.agg #[.bool true, .int .i64 nc, .int .i64 0], .pointer (some ⟨cb, 0, none⟩), .pointer (some ⟨d, 0, none⟩), .pointer (some ⟨h, 0, none⟩)]) (by simp) (by simp [go_sem]) ?_
    refine (HE.out _ _ _ _ .returning HG4.out).mono ?_
    rintro e u' w'' ⟨rfl, rfl, hA⟩
    exact ⟨_, results_tmp rfl _ _ _, rfl, hA⟩

theorem text_any (own : Nat → Nat) (i g : Nat) (s : St6) (t : ByteArray) (w : World) (h : SK own i w g s) (hn : Nf own w) (hT : Tab w) (hb : s.out.length + s.col + s.wait + t.size ≤ 1073741824) :
    Calls Tryd.prog 34 #[.pointer (some ⟨g, 0, none⟩), .string t] w fun e w' => e = .returned (.int .i64 0) ∧ Af own i w w' g (s.text t) := by
  by_cases ht : t.size = 0
  · refine (text_none g t w ht).mono ?_
    rintro e w' ⟨rfl, rfl⟩
    have : s.text t = s := if_pos ht
    rw [this]
    exact ⟨rfl, Af.here h hn (Below.refl _ _)⟩
  · exact text_some own i g s t w h hn hT ht hb

theorem feed_bad (g : Nat) (n : Int) (w : World) (hn : n < 0 ∨ 1048576 < n) : Calls Tryd.prog 65 #[.pointer (some ⟨g, 0, none⟩), .int .i64 n] w fun e w' => e = .returned (.int .i64 1) ∧ w' = w := by
  by_cases h0 : n < 0
  · have q1 : decide (n < 0) = true := by simp; omega
    clear hn
    go_enter Tryd.func65, Tryd.ntmps65
    go_wp2_with fail
    go_ret
    exact ⟨rfl, rfl⟩
  · have q1 : decide (n < 0) = false := by simp; omega
    have q2 : decide (1048576 < n) = true := by simp; omega
    have q3 : 1048576 < n := by omega
    clear hn
    go_enter Tryd.func65, Tryd.ntmps65
    go_wp2_with fail
    go_ret
    exact ⟨rfl, rfl⟩
theorem feed_any (own : Nat → Nat) (i g : Nat) (s : St6) (c : Nat) (w : World) (h : SK own i w g s) (hn : Nf own w) (hc : c ≤ 1048576) (hb : s.out.length ≤ 1073741824) :
    Calls Tryd.prog 65 #[.pointer (some ⟨g, 0, none⟩), .int .i64 c] w fun e w' => e = .returned (.int .i64 0) ∧ Af own i w w' g (s.feed c) := by
  have q1 : decide ((c : Int) < 0) = false := by simp
  have q2 : decide (1048576 < (c : Int)) = false := by simp; omega
  have q3 : ¬ (1048576 < (c : Int)) := by omega
  have q4 : ¬ (1048576 < c) := by omega
  have HN := next_any own i g s c w h hn hb
  clear h hn hb
  go_enter Tryd.func65, Tryd.ntmps65
  go_wp2_with (go_at_call 66; refine HN.mono ?_; rintro e w1 ⟨rfl, hA⟩)
  go_ret
  exact ⟨rfl, hA⟩
def St6.empty (s : St6) : St6 := if s.fresh then s.feed s.col else s
theorem empty_any (own : Nat → Nat) (i g : Nat) (s : St6) (w : World) (h : SK own i w g s) (hn : Nf own w) (hb : s.out.length ≤ 1073741824) :
    Calls Tryd.prog 38 #[.pointer (some ⟨g, 0, none⟩)] w fun e w' => e = .returned (.int .i64 0) ∧ Af own i w w' g s.empty := by
  obtain ⟨tv, gv, text, gs, h1, _⟩ := h.ex
  have HN := next_any own i g s s.col w h hn hb
  obtain ⟨fr, col, wait, out⟩ := s
  simp only at *
  have g0 : w.cell? ⟨g, 0, none⟩ = some (.bool (!fr)) := blk_cell h1 rfl
  have g1 : w.cell? ⟨g, 1, none⟩ = some (.int .i64 col) := blk_cell h1 rfl
  cases fr
  · have HE : Hid (Af own i w w g (St6.empty ⟨false, col, wait, out⟩)) := Af.here h hn (Below.refl _ _)
    clear h hn hb h1 HN
    go_enter Tryd.func38, Tryd.ntmps38
    go_wp2_with fail
    go_ret
    exact ⟨rfl, HE.out⟩
  · clear h hn hb h1
    go_enter Tryd.func38, Tryd.ntmps38
    go_wp2_with (go_at_call 66; refine HN.mono ?_; rintro e w1 ⟨rfl, hA⟩)
    go_ret
    exact ⟨rfl, hA⟩
end Go.Proofs.YtcokccfbeonlnaaDoor
