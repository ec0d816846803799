import Derived.Shelf.Strings.SlTrimAscii
import Derived.Shelf.Strings.Runes
import Derived.Shelf.Small.Utf8
import Derived.Shelf.LaysM
import Derived.Shelf.Strconv.Clone
import Derived.Shelf.Strings.Search1
import Derived.Laws.Runes
import Derived.Test.YtnmjkgjhjnpijaaDoorIa
import Derived.Test.YtnmjkgjhjnpijaaDoorBd
set_option linter.unusedVariables false
set_option linter.unusedSimpArgs false
namespace Go.Proofs.YtnmjkgjhjnpijaaDoor
open Go.RowKit Go.Shelf

def Tryd.lays162_ren : Go.Shelf.Ren := ⟨fun | 162 => 57 | 232 => 72 | 227 => 73 | 234 => 74 | 236 => 75 | 228 => 79 | 271 => 80 | 151 => 60 | 120 => 86 | 197 => 87 | 152 => 76 | 260 => 90 | 137 => 81 | 119 => 82 | 224 => 83 | 225 => 84 | 217 => 88 | 266 => 91 | n => n, fun | 9 => 9 | 4 => 4 | 3 => 3 | 5 => 5 | 117 => 88 | 116 => 87 | 0 => 0 | 124 => 91 | 21 => 21 | 105 => 67 | 46 => 102 | 119 => 104 | 139 => 107 | 138 => 106 | n => n, fun | 3 => 4 | 4 => 5 | n => n⟩

theorem Tryd.lays162 : Go.Proofs.Lays.n162 Tryd.prog Tryd.lays162_ren := {
  mixed := by kernel_rfl
  f119 := Tryd.func82.trans (congrArg some (by kernel_rfl))
  f120 := Tryd.func86.trans (congrArg some (by kernel_rfl))
  f137 := Tryd.func81.trans (congrArg some (by kernel_rfl))
  f151 := Tryd.func60.trans (congrArg some (by kernel_rfl))
  f152 := Tryd.func76.trans (congrArg some (by kernel_rfl))
  f162 := Tryd.func57.trans (congrArg some (by kernel_rfl))
  f197 := Tryd.func87.trans (congrArg some (by kernel_rfl))
  f217 := Tryd.func88.trans (congrArg some (by kernel_rfl))
  f224 := Tryd.func83.trans (congrArg some (by kernel_rfl))
  f225 := Tryd.func84.trans (congrArg some (by kernel_rfl))
  f227 := Tryd.func73.trans (congrArg some (by kernel_rfl))
  f228 := Tryd.func79.trans (congrArg some (by kernel_rfl))
  f232 := Tryd.func72.trans (congrArg some (by kernel_rfl))
  f234 := Tryd.func74.trans (congrArg some (by kernel_rfl))
  f236 := Tryd.func75.trans (congrArg some (by kernel_rfl))
  f260 := Tryd.func90.trans (congrArg some (by kernel_rfl))
  f266 := Tryd.func91.trans (congrArg some (by kernel_rfl))
  f271 := Tryd.func80.trans (congrArg some (by kernel_rfl))
  t0 := Tryd.underlying0
  a0 := Tryd.isAgg0
  z0 := Tryd.sizeOf0
  v0 := Tryd.zeroValue0
  t3 := Tryd.underlying3
  a3 := Tryd.isAgg3
  z3 := Tryd.sizeOf3
  v3 := Tryd.zeroValue3
  t4 := Tryd.underlying4
  a4 := Tryd.isAgg4
  z4 := Tryd.sizeOf4
  v4 := Tryd.zeroValue4
  t5 := Tryd.underlying5
  a5 := Tryd.isAgg5
  z5 := Tryd.sizeOf5
  v5 := Tryd.zeroValue5
  t9 := Tryd.underlying9
  a9 := Tryd.isAgg9
  z9 := Tryd.sizeOf9
  v9 := Tryd.zeroValue9
  t21 := Tryd.underlying21
  a21 := Tryd.isAgg21
  z21 := Tryd.sizeOf21
  v21 := Tryd.zeroValue21
  t46 := Tryd.underlying102
  a46 := Tryd.isAgg102
  z46 := Tryd.sizeOf102
  v46 := Tryd.zeroValue102
  t105 := Tryd.underlying67
  a105 := Tryd.isAgg67
  z105 := Tryd.sizeOf67
  v105 := Tryd.zeroValue67
  t116 := Tryd.underlying87
  a116 := Tryd.isAgg87
  z116 := Tryd.sizeOf87
  t117 := Tryd.underlying88
  a117 := Tryd.isAgg88
  z117 := Tryd.sizeOf88
  v117 := Tryd.zeroValue88
  t119 := Tryd.underlying104
  a119 := Tryd.isAgg104
  z119 := Tryd.sizeOf104
  t124 := Tryd.underlying91
  a124 := Tryd.isAgg91
  z124 := Tryd.sizeOf91
  v124 := Tryd.zeroValue91
  t138 := Tryd.underlying106
  a138 := Tryd.isAgg106
  z138 := Tryd.sizeOf106
  v138 := Tryd.zeroValue106
  t139 := Tryd.underlying107
  a139 := Tryd.isAgg107
  z139 := Tryd.sizeOf107
  v139 := Tryd.zeroValue107
  g3 := by kernel_rfl
  g4 := by kernel_rfl }

def Tryd.lays119_ren : Go.Shelf.Ren := ⟨fun | 119 => 82 | n => n, fun | 21 => 21 | 4 => 4 | n => n, fun | n => n⟩

theorem Tryd.lays119 : Go.Proofs.Lays.n119 Tryd.prog Tryd.lays119_ren := {
  mixed := by kernel_rfl
  f119 := Tryd.func82.trans (congrArg some (by kernel_rfl))
  t4 := Tryd.underlying4
  a4 := Tryd.isAgg4
  z4 := Tryd.sizeOf4
  v4 := Tryd.zeroValue4
  t21 := Tryd.underlying21
  a21 := Tryd.isAgg21
  z21 := Tryd.sizeOf21
  v21 := Tryd.zeroValue21 }

theorem Tryd.utf8_ValidRune (r : Int) (w : World) :
    Calls Tryd.prog 82 #[.int .i32 r] w fun e w' => e = .returned (.bool (Lib.validRune r)) ∧ w' = w := Any.utf8_ValidRune Tryd.lays119 r w

def Tryd.lays137_ren : Go.Shelf.Ren := ⟨fun | 137 => 81 | 217 => 88 | 266 => 91 | n => n, fun | 9 => 9 | 5 => 5 | 3 => 3 | n => n, fun | n => n⟩

theorem Tryd.lays137 : Go.Proofs.Lays.n137 Tryd.prog Tryd.lays137_ren := {
  mixed := by kernel_rfl
  f137 := Tryd.func81.trans (congrArg some (by kernel_rfl))
  f217 := Tryd.func88.trans (congrArg some (by kernel_rfl))
  f266 := Tryd.func91.trans (congrArg some (by kernel_rfl))
  t3 := Tryd.underlying3
  a3 := Tryd.isAgg3
  z3 := Tryd.sizeOf3
  v3 := Tryd.zeroValue3
  t5 := Tryd.underlying5
  a5 := Tryd.isAgg5
  z5 := Tryd.sizeOf5
  v5 := Tryd.zeroValue5
  t9 := Tryd.underlying9
  a9 := Tryd.isAgg9
  z9 := Tryd.sizeOf9
  v9 := Tryd.zeroValue9 }

theorem Tryd.strings_IndexByte (s : ByteArray) (c : Int) (w : World) :
    Calls Tryd.prog 81 #[.string s, .int .u8 c] w fun e w' => e = .returned (.int .i64 (Lib.indexByte s.data.toList c.toNat.toUInt8)) ∧ w' = w := Any.strings_IndexByte Tryd.lays137 s c w

def Tryd.laysM316_ren : Go.Shelf.Ren := ⟨fun | 316 => 71 | n => n, fun | 9 => 9 | 3 => 3 | 4 => 4 | 37 => 44 | 0 => 0 | 127 => 98 | 5 => 5 | n => n, fun | n => n⟩

theorem Tryd.laysM316 : Go.Proofs.LaysM.n316 Tryd.prog Tryd.laysM316_ren := {
  mixed := by kernel_rfl
  f316 := Tryd.func71.trans (congrArg some (by kernel_rfl))
  t0 := Tryd.underlying0
  a0 := Tryd.isAgg0
  z0 := Tryd.sizeOf0
  v0 := Tryd.zeroValue0
  t3 := Tryd.underlying3
  a3 := Tryd.isAgg3
  z3 := Tryd.sizeOf3
  v3 := Tryd.zeroValue3
  t4 := Tryd.underlying4
  a4 := Tryd.isAgg4
  z4 := Tryd.sizeOf4
  v4 := Tryd.zeroValue4
  t9 := Tryd.underlying9
  a9 := Tryd.isAgg9
  z9 := Tryd.sizeOf9
  v9 := Tryd.zeroValue9
  t37 := Tryd.underlying44
  a37 := Tryd.isAgg44
  z37 := Tryd.sizeOf44
  v37 := Tryd.zeroValue44
  t127 := Tryd.underlying98
  a127 := Tryd.isAgg98
  z127 := Tryd.sizeOf98
  v127 := Tryd.zeroValue98
  t5 := Tryd.underlying5
  a5 := Tryd.isAgg5
  z5 := Tryd.sizeOf5
  v5 := Tryd.zeroValue5
  i0 := by kernel_rfl
  i3 := by kernel_rfl
  i4 := by kernel_rfl
  i5 := by kernel_rfl
  i9 := by kernel_rfl
  i37 := by kernel_rfl
  i127 := by kernel_rfl }

theorem Tryd.stringslite_Clone (s : ByteArray) (w : World) (hlim : s.size ≤ 281474976710656) :
    Calls Tryd.prog 71 #[.string s] w fun e w' => e = .returned (.string s) ∧ Below w.heap.size w w' := Any.stringslite_Clone Tryd.laysM316 s w hlim

def Tryd.lays152_ren : Go.Shelf.Ren := ⟨fun | 152 => 76 | 137 => 81 | 119 => 82 | 224 => 83 | 225 => 84 | 217 => 88 | 266 => 91 | n => n, fun | 9 => 9 | 21 => 21 | 3 => 3 | 4 => 4 | 5 => 5 | 0 => 0 | 46 => 102 | n => n, fun | n => n⟩

theorem Tryd.lays152 : Go.Proofs.Lays.n152 Tryd.prog Tryd.lays152_ren := {
  mixed := by kernel_rfl
  f119 := Tryd.func82.trans (congrArg some (by kernel_rfl))
  f137 := Tryd.func81.trans (congrArg some (by kernel_rfl))
  f152 := Tryd.func76.trans (congrArg some (by kernel_rfl))
  f217 := Tryd.func88.trans (congrArg some (by kernel_rfl))
  f224 := Tryd.func83.trans (congrArg some (by kernel_rfl))
  f225 := Tryd.func84.trans (congrArg some (by kernel_rfl))
  f266 := Tryd.func91.trans (congrArg some (by kernel_rfl))
  t0 := Tryd.underlying0
  a0 := Tryd.isAgg0
  z0 := Tryd.sizeOf0
  v0 := Tryd.zeroValue0
  t3 := Tryd.underlying3
  a3 := Tryd.isAgg3
  z3 := Tryd.sizeOf3
  v3 := Tryd.zeroValue3
  t4 := Tryd.underlying4
  a4 := Tryd.isAgg4
  z4 := Tryd.sizeOf4
  v4 := Tryd.zeroValue4
  t5 := Tryd.underlying5
  a5 := Tryd.isAgg5
  z5 := Tryd.sizeOf5
  v5 := Tryd.zeroValue5
  t9 := Tryd.underlying9
  a9 := Tryd.isAgg9
  z9 := Tryd.sizeOf9
  v9 := Tryd.zeroValue9
  t21 := Tryd.underlying21
  a21 := Tryd.isAgg21
  z21 := Tryd.sizeOf21
  v21 := Tryd.zeroValue21
  t46 := Tryd.underlying102
  a46 := Tryd.isAgg102
  z46 := Tryd.sizeOf102
  v46 := Tryd.zeroValue102 }

theorem Tryd.strings_IndexRune_ascii (s : ByteArray) (r : Int) (w : World) (h0 : 0 ≤ r) (h1 : r < 128) :
    Calls Tryd.prog 76 #[.string s, .int .i32 r] w fun e w' => e = .returned (.int .i64 (Lib.indexByte s.data.toList r.toNat.toUInt8)) ∧ w' = w := Any.strings_IndexRune_ascii Tryd.lays152 s r w h0 h1

def Tryd.lays151_ren : Go.Shelf.Ren := ⟨fun | 151 => 60 | 152 => 76 | 137 => 81 | 119 => 82 | 224 => 83 | 225 => 84 | 217 => 88 | 266 => 91 | n => n, fun | 9 => 9 | 21 => 21 | 4 => 4 | 3 => 3 | 5 => 5 | 0 => 0 | 46 => 102 | n => n, fun | n => n⟩

theorem Tryd.lays151 : Go.Proofs.Lays.n151 Tryd.prog Tryd.lays151_ren := {
  mixed := by kernel_rfl
  f119 := Tryd.func82.trans (congrArg some (by kernel_rfl))
  f137 := Tryd.func81.trans (congrArg some (by kernel_rfl))
  f151 := Tryd.func60.trans (congrArg some (by kernel_rfl))
  f152 := Tryd.func76.trans (congrArg some (by kernel_rfl))
  f217 := Tryd.func88.trans (congrArg some (by kernel_rfl))
  f224 := Tryd.func83.trans (congrArg some (by kernel_rfl))
  f225 := Tryd.func84.trans (congrArg some (by kernel_rfl))
  f266 := Tryd.func91.trans (congrArg some (by kernel_rfl))
  t0 := Tryd.underlying0
  a0 := Tryd.isAgg0
  z0 := Tryd.sizeOf0
  v0 := Tryd.zeroValue0
  t3 := Tryd.underlying3
  a3 := Tryd.isAgg3
  z3 := Tryd.sizeOf3
  v3 := Tryd.zeroValue3
  t4 := Tryd.underlying4
  a4 := Tryd.isAgg4
  z4 := Tryd.sizeOf4
  v4 := Tryd.zeroValue4
  t5 := Tryd.underlying5
  a5 := Tryd.isAgg5
  z5 := Tryd.sizeOf5
  v5 := Tryd.zeroValue5
  t9 := Tryd.underlying9
  a9 := Tryd.isAgg9
  z9 := Tryd.sizeOf9
  v9 := Tryd.zeroValue9
  t21 := Tryd.underlying21
  a21 := Tryd.isAgg21
  z21 := Tryd.sizeOf21
  v21 := Tryd.zeroValue21
  t46 := Tryd.underlying102
  a46 := Tryd.isAgg102
  z46 := Tryd.sizeOf102
  v46 := Tryd.zeroValue102 }

theorem Tryd.strings_ContainsRune_ascii (s : ByteArray) (r : Int) (w : World) (h0 : 0 ≤ r) (h1 : r < 128) :
    Calls Tryd.prog 60 #[.string s, .int .i32 r] w fun e w' => e = .returned (.bool (decide (0 ≤ Lib.indexByte s.data.toList r.toNat.toUInt8))) ∧ w' = w := Any.strings_ContainsRune_ascii Tryd.lays151 s r w h0 h1

theorem clone_any (s : ByteArray) (w : World) (hlim : s.size ≤ 2147483647) :
    Calls Tryd.prog 56 #[.string s] w fun e w' => e = .returned (.string s) ∧ Below w.heap.size w w' := by
  have HC : Hid (Calls Tryd.prog 71 #[.string s] w fun e w' => e = .returned (.string s) ∧ Below w.heap.size w w') := Tryd.stringslite_Clone s w (by omega)
  go_enter Tryd.func56, Tryd.ntmps56
  go_wp2_with (go_at_call 71; refine HC.out.mono ?_; rintro e w1 ⟨rfl, hb⟩)
  go_ret
  exact ⟨rfl, hb⟩

/-- The blanks at a text's end left out. -/
theorem trim_any (s : ByteArray) (w : World) (hs : s.size ≤ 2147483647) :
    Calls Tryd.prog 57 #[.string s, .string ⟨#[32, 9, 13]⟩] w fun e w' => e = .returned (.string ⟨(Lib.trimRightS s.data.toList [32, 9, 13]).toArray⟩) ∧ Below w.heap.size w w' :=
  Any.strings_TrimRight_laid Tryd.lays162 (by kernel_rfl) s ⟨#[32, 9, 13]⟩ w (by omega) (by decide) (ascii_of_all (by decide))

theorem far_ix (x : UInt8) (h : 128 ≤ x.toNat) : Lib.indexByte [13] x = -1 := by
  have h1 : (13 : UInt8) ≠ x := by rintro rfl; exact absurd h (by decide)
  have h2 : ((13 : UInt8) == x) = false := by simpa using h1
  unfold Lib.indexByte
  rw [h2]
  rfl

set_option maxRecDepth 1000000 in
set_option maxHeartbeats 2000000 in
theorem far2 (p : Int) (x0 x1 : UInt8) (w : World) (h0 : 128 ≤ p) (h2 : p ≠ 65533) (hv : Lib.validRune p = true) (hR : Utf8.encode p = ⟨#[x0, x1]⟩) (hL : 128 ≤ x1.toNat) :
    Calls Tryd.prog 76 #[.string ⟨#[32, 9, 13]⟩, .int .i32 p] w fun e w' => e = .returned (.int .i64 (-1)) ∧ Below w.heap.size w w' := by
  have HV : Hid (Calls Tryd.prog 82 #[.int .i32 p] w fun e w' => e = .returned (.bool true) ∧ w' = w) := by
    have := Tryd.utf8_ValidRune p w
    rw [hv] at this
    exact this
  have q1 : ¬ p < 128 := by omega
  have q2 : (p == 65533) = false := by simpa using h2
  have q0 : (0 : Int) ≤ p := by omega
  have w2 : IntKind.i64.wrap 2 = 2 := by decide
  have w3 : IntKind.i64.wrap 3 = 3 := by decide
  have hcv : ∀ w, (convert 21 9 (.int .i32 p)).run Tryd.prog w = .ok (.string ⟨#[x0, x1]⟩) w := fun w => by rw [← hR]; exact run_convert_int_string w _ _ _ _ rfl Tryd.underlying9
  have HX : Hid (∀ (r : ByteArray) (W : World), r = ⟨#[13]⟩ → Calls Tryd.prog 81 #[.string r, .int .u8 (x1.toNat : Int)] W fun e w' => e = .returned (.int .i64 (-1)) ∧ w' = W) := by
    rintro r W rfl
    have := Tryd.strings_IndexByte ⟨#[13]⟩ (x1.toNat : Int) W
    rw [Int.toNat_natCast] at this
    have e : Lib.indexByte (⟨#[13]⟩ : ByteArray).data.toList x1.toNat.toUInt8 = -1 := by
      rw [show x1.toNat.toUInt8 = x1 from UInt8.ofNat_toNat]
      exact far_ix x1 hL
    rw [e] at this
    exact this
  have q4 : ((((⟨#[32, 9, 13]⟩ : ByteArray)[1]'(by decide)).toNat : Int) != (((⟨#[x0, x1]⟩ : ByteArray)[1]'(by show 1 < 2; decide)).toNat : Int)) = true := by
    show ((9 : Int) != (x1.toNat : Int)) = true
    simp; omega
  clear hR
  go_enter Tryd.func76, Tryd.ntmps76
  go_wp2_with (first | (go_at_call 82; refine HV.out.mono ?_; rintro e w1 ⟨rfl, hw⟩; replace hw := hw.symm; subst hw))
  go_step3
  go_wp2_with fail
  go_loopw [9] (fun i wr => i = .int .i64 1 ∧ wr = w) (fun _ _ => 0)
  case atStart => exact ⟨rfl, rfl⟩
  case round =>
    obtain ⟨rfl, hw⟩ := hrel
    subst hw
    go_wp2_with fail
    go_step3
    go_wp2_with fail
    go_quiet (fail)
    go_wp2_with fail
    go_region_law (go_simp; go_at_call 81; refine (HX.out _ _ rfl).mono ?_; rintro e w2 ⟨rfl, hw⟩; replace hw := hw.symm; subst hw)
    all_goals (
      go_wp2_with fail
      (repeat (first | rw [Exit.noGoto_ret] | simp only [Exit.inBlock] | simp (config := { zetaDelta := true }) only [Exit.then, Exit.inBlock, Exit.noGoto_ret]))
      go_ret
      exact ⟨rfl, lbel_dn _ _⟩)

set_option maxRecDepth 1000000 in
set_option maxHeartbeats 2000000 in
theorem far3 (p : Int) (x0 x1 x2 : UInt8) (w : World) (h0 : 128 ≤ p) (h2 : p ≠ 65533) (hv : Lib.validRune p = true) (hR : Utf8.encode p = ⟨#[x0, x1, x2]⟩) (hL : 128 ≤ x2.toNat) :
    Calls Tryd.prog 76 #[.string ⟨#[32, 9, 13]⟩, .int .i32 p] w fun e w' => e = .returned (.int .i64 (-1)) ∧ Below w.heap.size w w' := by
  have HV : Hid (Calls Tryd.prog 82 #[.int .i32 p] w fun e w' => e = .returned (.bool true) ∧ w' = w) := by
    have := Tryd.utf8_ValidRune p w
    rw [hv] at this
    exact this
  have q1 : ¬ p < 128 := by omega
  have q2 : (p == 65533) = false := by simpa using h2
  have q0 : (0 : Int) ≤ p := by omega
  have w2 : IntKind.i64.wrap 2 = 2 := by decide
  have w3 : IntKind.i64.wrap 3 = 3 := by decide
  have hcv : ∀ w, (convert 21 9 (.int .i32 p)).run Tryd.prog w = .ok (.string ⟨#[x0, x1, x2]⟩) w := fun w => by rw [← hR]; exact run_convert_int_string w _ _ _ _ rfl Tryd.underlying9
  have HX : Hid (∀ (r : ByteArray) (W : World), r = ⟨#[]⟩ → Calls Tryd.prog 81 #[.string r, .int .u8 (x2.toNat : Int)] W fun e w' => e = .returned (.int .i64 (-1)) ∧ w' = W) := by
    rintro r W rfl
    have := Tryd.strings_IndexByte ⟨#[]⟩ (x2.toNat : Int) W
    rw [Int.toNat_natCast] at this
    have e : Lib.indexByte (⟨#[]⟩ : ByteArray).data.toList x2.toNat.toUInt8 = -1 := by
      rw [show x2.toNat.toUInt8 = x2 from UInt8.ofNat_toNat]
      rfl
    rw [e] at this
    exact this
  have q4 : ((((⟨#[32, 9, 13]⟩ : ByteArray)[2]'(by decide)).toNat : Int) != (((⟨#[x0, x1, x2]⟩ : ByteArray)[2]'(by show 2 < 3; decide)).toNat : Int)) = true := by
    show ((13 : Int) != (x2.toNat : Int)) = true
    simp; omega
  clear hR
  go_enter Tryd.func76, Tryd.ntmps76
  go_wp2_with (first | (go_at_call 82; refine HV.out.mono ?_; rintro e w1 ⟨rfl, hw⟩; replace hw := hw.symm; subst hw))
  go_step3
  go_wp2_with fail
  go_loopw [9] (fun i wr => i = .int .i64 2 ∧ wr = w) (fun _ _ => 0)
  case atStart => exact ⟨rfl, rfl⟩
  case round =>
    obtain ⟨rfl, hw⟩ := hrel
    subst hw
    go_wp2_with fail
    go_step3
    go_wp2_with fail
    go_quiet (fail)
    go_wp2_with fail
    go_region_law (go_simp; go_at_call 81; refine (HX.out _ _ rfl).mono ?_; rintro e w2 ⟨rfl, hw⟩; replace hw := hw.symm; subst hw)
    all_goals (
      go_wp2_with fail
      (repeat (first | rw [Exit.noGoto_ret] | simp only [Exit.inBlock] | simp (config := { zetaDelta := true }) only [Exit.then, Exit.inBlock, Exit.noGoto_ret]))
      go_ret
      exact ⟨rfl, lbel_dn _ _⟩)

set_option maxRecDepth 1000000 in
set_option maxHeartbeats 2000000 in
theorem far4 (p : Int) (x0 x1 x2 x3 : UInt8) (w : World) (h0 : 128 ≤ p) (h2 : p ≠ 65533) (hv : Lib.validRune p = true) (hR : Utf8.encode p = ⟨#[x0, x1, x2, x3]⟩) (hL : 128 ≤ x3.toNat) :
    Calls Tryd.prog 76 #[.string ⟨#[32, 9, 13]⟩, .int .i32 p] w fun e w' => e = .returned (.int .i64 (-1)) ∧ Below w.heap.size w w' := by
  have HV : Hid (Calls Tryd.prog 82 #[.int .i32 p] w fun e w' => e = .returned (.bool true) ∧ w' = w) := by
    have := Tryd.utf8_ValidRune p w
    rw [hv] at this
    exact this
  have q1 : ¬ p < 128 := by omega
  have q2 : (p == 65533) = false := by simpa using h2
  have q0 : (0 : Int) ≤ p := by omega
  have w2 : IntKind.i64.wrap 2 = 2 := by decide
  have w3 : IntKind.i64.wrap 3 = 3 := by decide
  have hcv : ∀ w, (convert 21 9 (.int .i32 p)).run Tryd.prog w = .ok (.string ⟨#[x0, x1, x2, x3]⟩) w := fun w => by rw [← hR]; exact run_convert_int_string w _ _ _ _ rfl Tryd.underlying9
  clear hR
  go_enter Tryd.func76, Tryd.ntmps76
  go_wp2_with (first | (go_at_call 82; refine HV.out.mono ?_; rintro e w1 ⟨rfl, hw⟩; replace hw := hw.symm; subst hw))
  go_step3
  go_wp2_with fail
  go_loopw [9] (fun i wr => i = .int .i64 3 ∧ wr = w) (fun _ _ => 0)
  case atStart => exact ⟨rfl, rfl⟩
  case round =>
    obtain ⟨rfl, hw⟩ := hrel
    subst hw
    go_wp2_with fail
    (repeat (first | rw [Exit.noGoto_ret] | simp only [Exit.inBlock]))
    go_ret
    exact ⟨rfl, Below.refl _ _⟩

set_option maxRecDepth 1000000 in
set_option maxHeartbeats 2000000 in
theorem far_bad (p : Int) (w : World) (h0 : 128 ≤ p) (h2 : p ≠ 65533) (hv : Lib.validRune p = false) :
    Calls Tryd.prog 76 #[.string ⟨#[32, 9, 13]⟩, .int .i32 p] w fun e w' => e = .returned (.int .i64 (-1)) ∧ Below w.heap.size w w' := by
  have HV : Hid (Calls Tryd.prog 82 #[.int .i32 p] w fun e w' => e = .returned (.bool false) ∧ w' = w) := by
    have := Tryd.utf8_ValidRune p w
    rw [hv] at this
    exact this
  have q1 : ¬ p < 128 := by omega
  have q2 : (p == 65533) = false := by simpa using h2
  have q0 : (0 : Int) ≤ p := by omega
  go_enter Tryd.func76, Tryd.ntmps76
  go_wp2_with (first | (go_at_call 82; refine HV.out.mono ?_; rintro e w1 ⟨rfl, hw⟩; replace hw := hw.symm; subst hw))
  (repeat (first | rw [Exit.noGoto_ret] | simp only [Exit.inBlock]))
  go_ret
  exact ⟨rfl, Below.refl _ _⟩

theorem bl_dec : ∀ pos, pos < 3 → Utf8.decode ⟨#[32, 9, 13]⟩ pos = ((⟨#[32, 9, 13]⟩ : ByteArray).get! pos |>.toNat, 1) ∧ ((⟨#[32, 9, 13]⟩ : ByteArray).get! pos).toNat < 128 := by decide

set_option maxRecDepth 1000000 in
set_option maxHeartbeats 2000000 in
theorem far_err (w : World) :
    Calls Tryd.prog 76 #[.string ⟨#[32, 9, 13]⟩, .int .i32 65533] w fun e w' => e = .returned (.int .i64 (-1)) ∧ Below w.heap.size w w' := by
  obtain ⟨s, hs⟩ : ∃ s : ByteArray, s = ⟨#[32, 9, 13]⟩ := ⟨_, rfl⟩
  have hz : s.size = 3 := by rw [hs]; rfl
  have hd : ∀ pos, pos < 3 → dw s pos = 1 ∧ dp s pos < 128 := fun pos hp => by
    obtain ⟨e1, e2⟩ := bl_dec pos hp
    unfold dw dp
    rw [hs, e1]
    exact ⟨rfl, e2⟩
  rw [← hs]
  clear hs
  go_enter Tryd.func76, Tryd.ntmps76
  go_wp2_with fail
  go_loopw [] (fun w' => ∃ pos : Nat, pos ≤ 3 ∧ w' = w.iter s pos) (fun w' => s.size - w'.iterPos w.heap.size)
  case atStart => exact ⟨0, by omega, rfl⟩
  case round =>
    obtain ⟨pos, hp3, rfl⟩ := hrel
    by_cases hp : pos < s.size
    · have hnx : ∀ ty, (Instr.next (.pointer (some ⟨w.heap.size, 0, none⟩)) true ty).run Tryd.prog (w.iter s pos) = _ := fun ty => run_next_any w s pos ty hp
      obtain ⟨d1, d2⟩ := hd pos (by omega)
      unfold dw at d1
      unfold dp at d2
      have q9 : (((Utf8.decode s pos).1 : Int) == 65533) = false := by simp; omega
      go_wp2_with fail
      exact ⟨⟨pos + 1, by omega, rfl⟩, by simp; omega⟩
    · have hnx : ∀ ty, (Instr.next (.pointer (some ⟨w.heap.size, 0, none⟩)) true ty).run Tryd.prog (w.iter s pos) = _ := fun ty => run_next_end w s pos ty hp
      go_wp2_with fail
      go_ret
      exact ⟨rfl, below_iter _ _ _⟩

end Go.Proofs.YtnmjkgjhjnpijaaDoor
