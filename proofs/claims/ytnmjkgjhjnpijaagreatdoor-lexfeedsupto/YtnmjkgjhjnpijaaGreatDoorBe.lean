import Derived.Shelf.Strings.SlTrimAscii
import Derived.Shelf.Strings.Runes
import Derived.Shelf.Small.Utf8
import Derived.Shelf.LaysM
import Derived.Shelf.Strconv.Clone
import Derived.Shelf.Strings.Search1
import Derived.Laws.Runes
import Derived.Test.YtnmjkgjhjnpijaaGreatDoorIa
set_option linter.unusedVariables false
set_option linter.unusedSimpArgs false
namespace Go.Proofs.YtnmjkgjhjnpijaaGreatDoor
open Go.RowKit Go.Shelf

def Tryz.lays162_ren : Go.Shelf.Ren := ⟨fun | 162 => 62 | 232 => 80 | 227 => 81 | 234 => 82 | 236 => 83 | 228 => 93 | 271 => 94 | 151 => 65 | 120 => 101 | 197 => 102 | 152 => 85 | 260 => 105 | 137 => 96 | 119 => 97 | 224 => 98 | 225 => 99 | 217 => 103 | 266 => 106 | n => n, fun | 9 => 9 | 4 => 4 | 3 => 3 | 5 => 5 | 117 => 107 | 116 => 106 | 0 => 0 | 124 => 110 | 21 => 21 | 105 => 84 | 46 => 123 | 119 => 125 | 139 => 128 | 138 => 127 | n => n, fun | 3 => 4 | 4 => 5 | n => n⟩

theorem Tryz.lays162 : Go.Proofs.Lays.n162 Tryz.prog Tryz.lays162_ren := {
  mixed := by kernel_rfl
  f119 := Tryz.func97.trans (congrArg some (by kernel_rfl))
  f120 := Tryz.func101.trans (congrArg some (by kernel_rfl))
  f137 := Tryz.func96.trans (congrArg some (by kernel_rfl))
  f151 := Tryz.func65.trans (congrArg some (by kernel_rfl))
  f152 := Tryz.func85.trans (congrArg some (by kernel_rfl))
  f162 := Tryz.func62.trans (congrArg some (by kernel_rfl))
  f197 := Tryz.func102.trans (congrArg some (by kernel_rfl))
  f217 := Tryz.func103.trans (congrArg some (by kernel_rfl))
  f224 := Tryz.func98.trans (congrArg some (by kernel_rfl))
  f225 := Tryz.func99.trans (congrArg some (by kernel_rfl))
  f227 := Tryz.func81.trans (congrArg some (by kernel_rfl))
  f228 := Tryz.func93.trans (congrArg some (by kernel_rfl))
  f232 := Tryz.func80.trans (congrArg some (by kernel_rfl))
  f234 := Tryz.func82.trans (congrArg some (by kernel_rfl))
  f236 := Tryz.func83.trans (congrArg some (by kernel_rfl))
  f260 := Tryz.func105.trans (congrArg some (by kernel_rfl))
  f266 := Tryz.func106.trans (congrArg some (by kernel_rfl))
  f271 := Tryz.func94.trans (congrArg some (by kernel_rfl))
  t0 := Tryz.underlying0
  a0 := Tryz.isAgg0
  z0 := Tryz.sizeOf0
  v0 := Tryz.zeroValue0
  t3 := Tryz.underlying3
  a3 := Tryz.isAgg3
  z3 := Tryz.sizeOf3
  v3 := Tryz.zeroValue3
  t4 := Tryz.underlying4
  a4 := Tryz.isAgg4
  z4 := Tryz.sizeOf4
  v4 := Tryz.zeroValue4
  t5 := Tryz.underlying5
  a5 := Tryz.isAgg5
  z5 := Tryz.sizeOf5
  v5 := Tryz.zeroValue5
  t9 := Tryz.underlying9
  a9 := Tryz.isAgg9
  z9 := Tryz.sizeOf9
  v9 := Tryz.zeroValue9
  t21 := Tryz.underlying21
  a21 := Tryz.isAgg21
  z21 := Tryz.sizeOf21
  v21 := Tryz.zeroValue21
  t46 := Tryz.underlying123
  a46 := Tryz.isAgg123
  z46 := Tryz.sizeOf123
  v46 := Tryz.zeroValue123
  t105 := Tryz.underlying84
  a105 := Tryz.isAgg84
  z105 := Tryz.sizeOf84
  v105 := Tryz.zeroValue84
  t116 := Tryz.underlying106
  a116 := Tryz.isAgg106
  z116 := Tryz.sizeOf106
  t117 := Tryz.underlying107
  a117 := Tryz.isAgg107
  z117 := Tryz.sizeOf107
  v117 := Tryz.zeroValue107
  t119 := Tryz.underlying125
  a119 := Tryz.isAgg125
  z119 := Tryz.sizeOf125
  t124 := Tryz.underlying110
  a124 := Tryz.isAgg110
  z124 := Tryz.sizeOf110
  v124 := Tryz.zeroValue110
  t138 := Tryz.underlying127
  a138 := Tryz.isAgg127
  z138 := Tryz.sizeOf127
  v138 := Tryz.zeroValue127
  t139 := Tryz.underlying128
  a139 := Tryz.isAgg128
  z139 := Tryz.sizeOf128
  v139 := Tryz.zeroValue128
  g3 := by kernel_rfl
  g4 := by kernel_rfl }

def Tryz.lays119_ren : Go.Shelf.Ren := ⟨fun | 119 => 97 | n => n, fun | 21 => 21 | 4 => 4 | n => n, fun | n => n⟩

theorem Tryz.lays119 : Go.Proofs.Lays.n119 Tryz.prog Tryz.lays119_ren := {
  mixed := by kernel_rfl
  f119 := Tryz.func97.trans (congrArg some (by kernel_rfl))
  t4 := Tryz.underlying4
  a4 := Tryz.isAgg4
  z4 := Tryz.sizeOf4
  v4 := Tryz.zeroValue4
  t21 := Tryz.underlying21
  a21 := Tryz.isAgg21
  z21 := Tryz.sizeOf21
  v21 := Tryz.zeroValue21 }

theorem Tryz.utf8_ValidRune (r : Int) (w : World) :
    Calls Tryz.prog 97 #[.int .i32 r] w fun e w' => e = .returned (.bool (Lib.validRune r)) ∧ w' = w := Any.utf8_ValidRune Tryz.lays119 r w

def Tryz.lays137_ren : Go.Shelf.Ren := ⟨fun | 137 => 96 | 217 => 103 | 266 => 106 | n => n, fun | 9 => 9 | 5 => 5 | 3 => 3 | n => n, fun | n => n⟩

theorem Tryz.lays137 : Go.Proofs.Lays.n137 Tryz.prog Tryz.lays137_ren := {
  mixed := by kernel_rfl
  f137 := Tryz.func96.trans (congrArg some (by kernel_rfl))
  f217 := Tryz.func103.trans (congrArg some (by kernel_rfl))
  f266 := Tryz.func106.trans (congrArg some (by kernel_rfl))
  t3 := Tryz.underlying3
  a3 := Tryz.isAgg3
  z3 := Tryz.sizeOf3
  v3 := Tryz.zeroValue3
  t5 := Tryz.underlying5
  a5 := Tryz.isAgg5
  z5 := Tryz.sizeOf5
  v5 := Tryz.zeroValue5
  t9 := Tryz.underlying9
  a9 := Tryz.isAgg9
  z9 := Tryz.sizeOf9
  v9 := Tryz.zeroValue9 }

theorem Tryz.strings_IndexByte (s : ByteArray) (c : Int) (w : World) :
    Calls Tryz.prog 96 #[.string s, .int .u8 c] w fun e w' => e = .returned (.int .i64 (Lib.indexByte s.data.toList c.toNat.toUInt8)) ∧ w' = w := Any.strings_IndexByte Tryz.lays137 s c w

def Tryz.laysM316_ren : Go.Shelf.Ren := ⟨fun | 316 => 79 | n => n, fun | 9 => 9 | 3 => 3 | 4 => 4 | 37 => 48 | 0 => 0 | 127 => 121 | 5 => 5 | n => n, fun | n => n⟩

theorem Tryz.laysM316 : Go.Proofs.LaysM.n316 Tryz.prog Tryz.laysM316_ren := {
  mixed := by kernel_rfl
  f316 := Tryz.func79.trans (congrArg some (by kernel_rfl))
  t0 := Tryz.underlying0
  a0 := Tryz.isAgg0
  z0 := Tryz.sizeOf0
  v0 := Tryz.zeroValue0
  t3 := Tryz.underlying3
  a3 := Tryz.isAgg3
  z3 := Tryz.sizeOf3
  v3 := Tryz.zeroValue3
  t4 := Tryz.underlying4
  a4 := Tryz.isAgg4
  z4 := Tryz.sizeOf4
  v4 := Tryz.zeroValue4
  t9 := Tryz.underlying9
  a9 := Tryz.isAgg9
  z9 := Tryz.sizeOf9
  v9 := Tryz.zeroValue9
  t37 := Tryz.underlying48
  a37 := Tryz.isAgg48
  z37 := Tryz.sizeOf48
  v37 := Tryz.zeroValue48
  t127 := Tryz.underlying121
  a127 := Tryz.isAgg121
  z127 := Tryz.sizeOf121
  v127 := Tryz.zeroValue121
  t5 := Tryz.underlying5
  a5 := Tryz.isAgg5
  z5 := Tryz.sizeOf5
  v5 := Tryz.zeroValue5
  i0 := by kernel_rfl
  i3 := by kernel_rfl
  i4 := by kernel_rfl
  i5 := by kernel_rfl
  i9 := by kernel_rfl
  i37 := by kernel_rfl
  i127 := by kernel_rfl }

theorem Tryz.stringslite_Clone (s : ByteArray) (w : World) (hlim : s.size ≤ 281474976710656) :
    Calls Tryz.prog 79 #[.string s] w fun e w' => e = .returned (.string s) ∧ Below w.heap.size w w' := Any.stringslite_Clone Tryz.laysM316 s w hlim

def Tryz.lays152_ren : Go.Shelf.Ren := ⟨fun | 152 => 85 | 137 => 96 | 119 => 97 | 224 => 98 | 225 => 99 | 217 => 103 | 266 => 106 | n => n, fun | 9 => 9 | 21 => 21 | 3 => 3 | 4 => 4 | 5 => 5 | 0 => 0 | 46 => 123 | n => n, fun | n => n⟩

theorem Tryz.lays152 : Go.Proofs.Lays.n152 Tryz.prog Tryz.lays152_ren := {
  mixed := by kernel_rfl
  f119 := Tryz.func97.trans (congrArg some (by kernel_rfl))
  f137 := Tryz.func96.trans (congrArg some (by kernel_rfl))
  f152 := Tryz.func85.trans (congrArg some (by kernel_rfl))
  f217 := Tryz.func103.trans (congrArg some (by kernel_rfl))
  f224 := Tryz.func98.trans (congrArg some (by kernel_rfl))
  f225 := Tryz.func99.trans (congrArg some (by kernel_rfl))
  f266 := Tryz.func106.trans (congrArg some (by kernel_rfl))
  t0 := Tryz.underlying0
  a0 := Tryz.isAgg0
  z0 := Tryz.sizeOf0
  v0 := Tryz.zeroValue0
  t3 := Tryz.underlying3
  a3 := Tryz.isAgg3
  z3 := Tryz.sizeOf3
  v3 := Tryz.zeroValue3
  t4 := Tryz.underlying4
  a4 := Tryz.isAgg4
  z4 := Tryz.sizeOf4
  v4 := Tryz.zeroValue4
  t5 := Tryz.underlying5
  a5 := Tryz.isAgg5
  z5 := Tryz.sizeOf5
  v5 := Tryz.zeroValue5
  t9 := Tryz.underlying9
  a9 := Tryz.isAgg9
  z9 := Tryz.sizeOf9
  v9 := Tryz.zeroValue9
  t21 := Tryz.underlying21
  a21 := Tryz.isAgg21
  z21 := Tryz.sizeOf21
  v21 := Tryz.zeroValue21
  t46 := Tryz.underlying123
  a46 := Tryz.isAgg123
  z46 := Tryz.sizeOf123
  v46 := Tryz.zeroValue123 }

theorem Tryz.strings_IndexRune_ascii (s : ByteArray) (r : Int) (w : World) (h0 : 0 ≤ r) (h1 : r < 128) :
    Calls Tryz.prog 85 #[.string s, .int .i32 r] w fun e w' => e = .returned (.int .i64 (Lib.indexByte s.data.toList r.toNat.toUInt8)) ∧ w' = w := Any.strings_IndexRune_ascii Tryz.lays152 s r w h0 h1

def Tryz.lays151_ren : Go.Shelf.Ren := ⟨fun | 151 => 65 | 152 => 85 | 137 => 96 | 119 => 97 | 224 => 98 | 225 => 99 | 217 => 103 | 266 => 106 | n => n, fun | 9 => 9 | 21 => 21 | 4 => 4 | 3 => 3 | 5 => 5 | 0 => 0 | 46 => 123 | n => n, fun | n => n⟩

theorem Tryz.lays151 : Go.Proofs.Lays.n151 Tryz.prog Tryz.lays151_ren := {
  mixed := by kernel_rfl
  f119 := Tryz.func97.trans (congrArg some (by kernel_rfl))
  f137 := Tryz.func96.trans (congrArg some (by kernel_rfl))
  f151 := Tryz.func65.trans (congrArg some (by kernel_rfl))
  f152 := Tryz.func85.trans (congrArg some (by kernel_rfl))
  f217 := Tryz.func103.trans (congrArg some (by kernel_rfl))
  f224 := Tryz.func98.trans (congrArg some (by kernel_rfl))
  f225 := Tryz.func99.trans (congrArg some (by kernel_rfl))
  f266 := Tryz.func106.trans (congrArg some (by kernel_rfl))
  t0 := Tryz.underlying0
  a0 := Tryz.isAgg0
  z0 := Tryz.sizeOf0
  v0 := Tryz.zeroValue0
  t3 := Tryz.underlying3
  a3 := Tryz.isAgg3
  z3 := Tryz.sizeOf3
  v3 := Tryz.zeroValue3
  t4 := Tryz.underlying4
  a4 := Tryz.isAgg4
  z4 := Tryz.sizeOf4
  v4 := Tryz.zeroValue4
  t5 := Tryz.underlying5
  a5 := Tryz.isAgg5
  z5 := Tryz.sizeOf5
  v5 := Tryz.zeroValue5
  t9 := Tryz.underlying9
  a9 := Tryz.isAgg9
  z9 := Tryz.sizeOf9
  v9 := Tryz.zeroValue9
  t21 := Tryz.underlying21
  a21 := Tryz.isAgg21
  z21 := Tryz.sizeOf21
  v21 := Tryz.zeroValue21
  t46 := Tryz.underlying123
  a46 := Tryz.isAgg123
  z46 := Tryz.sizeOf123
  v46 := Tryz.zeroValue123 }

theorem Tryz.strings_ContainsRune_ascii (s : ByteArray) (r : Int) (w : World) (h0 : 0 ≤ r) (h1 : r < 128) :
    Calls Tryz.prog 65 #[.string s, .int .i32 r] w fun e w' => e = .returned (.bool (decide (0 ≤ Lib.indexByte s.data.toList r.toNat.toUInt8))) ∧ w' = w := Any.strings_ContainsRune_ascii Tryz.lays151 s r w h0 h1

theorem clone_any (s : ByteArray) (w : World) (hlim : s.size ≤ 2147483647) :
    Calls Tryz.prog 61 #[.string s] w fun e w' => e = .returned (.string s) ∧ Below w.heap.size w w' := by
  have HC : Hid (Calls Tryz.prog 79 #[.string s] w fun e w' => e = .returned (.string s) ∧ Below w.heap.size w w') := Tryz.stringslite_Clone s w (by omega)
  go_enter Tryz.func61, Tryz.ntmps61
  go_wp2_with (go_at_call 79; refine HC.out.mono ?_; rintro e w1 ⟨rfl, hb⟩)
  go_ret
  exact ⟨rfl, hb⟩

/-- The blanks at a text's end left out. -/
theorem trim_any (s : ByteArray) (w : World) (hs : s.size ≤ 2147483647) :
    Calls Tryz.prog 62 #[.string s, .string ⟨#[32, 9, 13]⟩] w fun e w' => e = .returned (.string ⟨(Lib.trimRightS s.data.toList [32, 9, 13]).toArray⟩) ∧ Below w.heap.size w w' :=
  Any.strings_TrimRight_laid Tryz.lays162 (by kernel_rfl) s ⟨#[32, 9, 13]⟩ w (by omega) (by decide) (ascii_of_all (by decide))

theorem far_ix (x : UInt8) (h : 128 ≤ x.toNat) : Lib.indexByte [13] x = -1 := by
  have h1 : (13 : UInt8) ≠ x := by rintro rfl; exact absurd h (by decide)
  have h2 : ((13 : UInt8) == x) = false := by simpa using h1
  unfold Lib.indexByte
  rw [h2]
  rfl

set_option maxRecDepth 1000000 in
set_option maxHeartbeats 2000000 in
theorem far2 (p : Int) (x0 x1 : UInt8) (w : World) (h0 : 128 ≤ p) (h2 : p ≠ 65533) (hv : Lib.validRune p = true) (hR : Utf8.encode p = ⟨#[x0, x1]⟩) (hL : 128 ≤ x1.toNat) :
    Calls Tryz.prog 85 #[.string ⟨#[32, 9, 13]⟩, .int .i32 p] w fun e w' => e = .returned (.int .i64 (-1)) ∧ Below w.heap.size w w' := by
  have HV : Hid (Calls Tryz.prog 97 #[.int .i32 p] w fun e w' => e = .returned (.bool true) ∧ w' = w) := by
    have := Tryz.utf8_ValidRune p w
    rw [hv] at this
    exact this
  have q1 : ¬ p < 128 := by omega
  have q2 : (p == 65533) = false := by simpa using h2
  have q0 : (0 : Int) ≤ p := by omega
  have w2 : IntKind.i64.wrap 2 = 2 := by decide
  have w3 : IntKind.i64.wrap 3 = 3 := by decide
  have hcv : ∀ w, (convert 21 9 (.int .i32 p)).run Tryz.prog w = .ok (.string ⟨#[x0, x1]⟩) w := fun w => by rw [← hR]; exact run_convert_int_string w _ _ _ _ rfl Tryz.underlying9
  have HX : Hid (∀ (r : ByteArray) (W : World), r = ⟨#[13]⟩ → Calls Tryz.prog 96 #[.string r, .int .u8 (x1.toNat : Int)] W fun e w' => e = .returned (.int .i64 (-1)) ∧ w' = W) := by
    rintro r W rfl
    have := Tryz.strings_IndexByte ⟨#[13]⟩ (x1.toNat : Int) W
    rw [Int.toNat_natCast] at this
    have e : Lib.indexByte (⟨#[13]⟩ : ByteArray).data.toList x1.toNat.toUInt8 = -1 := by
      rw [show x1.toNat.toUInt8 = x1 from UInt8.ofNat_toNat]
      exact far_ix x1 hL
    rw [e] at this
    exact this
  have q4 : ((((⟨#[32, 9, 13]⟩ : ByteArray)[1]'(by decide)).toNat : Int) != (((⟨#[x0, x1]⟩ : ByteArray)[1]'(by show 1 < 2; decide)).toNat : Int)) = true := by
    show ((9 : Int) != (x1.toNat : Int)) = true
    simp; omega
  clear hR
  go_enter Tryz.func85, Tryz.ntmps85
  go_wp2_with (first | (go_at_call 97; refine HV.out.mono ?_; rintro e w1 ⟨rfl, hw⟩; replace hw := hw.symm; subst hw))
  go_step3
  go_wp2_with fail
  go_loopw [9] (fun i wr => i = .int .i64 1 ∧ wr = w) (fun _ _ => 0)
  case atStart => exact ⟨rfl, rfl⟩
  case round =>
    obtain ⟨rfl, hw⟩ := hrel
    subst hw
    go_wp2_with fail
    go_step3
    go_wp2_with fail
    go_quiet (fail)
    go_wp2_with fail
    go_region_law (go_simp; go_at_call 96; refine (HX.out _ _ rfl).mono ?_; rintro e w2 ⟨rfl, hw⟩; replace hw := hw.symm; subst hw)
    all_goals (
      go_wp2_with fail
      (repeat (first | rw [Exit.noGoto_ret] | simp only [Exit.inBlock] | simp (config := { zetaDelta := true }) only [Exit.then, Exit.inBlock, Exit.noGoto_ret]))
      go_ret
      exact ⟨rfl, lbel_dn _ _⟩)

set_option maxRecDepth 1000000 in
set_option maxHeartbeats 2000000 in
theorem far3 (p : Int) (x0 x1 x2 : UInt8) (w : World) (h0 : 128 ≤ p) (h2 : p ≠ 65533) (hv : Lib.validRune p = true) (hR : Utf8.encode p = ⟨#[x0, x1, x2]⟩) (hL : 128 ≤ x2.toNat) :
    Calls Tryz.prog 85 #[.string ⟨#[32, 9, 13]⟩, .int .i32 p] w fun e w' => e = .returned (.int .i64 (-1)) ∧ Below w.heap.size w w' := by
  have HV : Hid (Calls Tryz.prog 97 #[.int .i32 p] w fun e w' => e = .returned (.bool true) ∧ w' = w) := by
    have := Tryz.utf8_ValidRune p w
    rw [hv] at this
    exact this
  have q1 : ¬ p < 128 := by omega
  have q2 : (p == 65533) = false := by simpa using h2
  have q0 : (0 : Int) ≤ p := by omega
  have w2 : IntKind.i64.wrap 2 = 2 := by decide
  have w3 : IntKind.i64.wrap 3 = 3 := by decide
  have hcv : ∀ w, (convert 21 9 (.int .i32 p)).run Tryz.prog w = .ok (.string ⟨#[x0, x1, x2]⟩) w := fun w => by rw [← hR]; exact run_convert_int_string w _ _ _ _ rfl Tryz.underlying9
  have HX : Hid (∀ (r : ByteArray) (W : World), r = ⟨#[]⟩ → Calls Tryz.prog 96 #[.string r, .int .u8 (x2.toNat : Int)] W fun e w' => e = .returned (.int .i64 (-1)) ∧ w' = W) := by
    rintro r W rfl
    have := Tryz.strings_IndexByte ⟨#[]⟩ (x2.toNat : Int) W
    rw [Int.toNat_natCast] at this
    have e : Lib.indexByte (⟨#[]⟩ : ByteArray).data.toList x2.toNat.toUInt8 = -1 := by
      rw [show x2.toNat.toUInt8 = x2 from UInt8.ofNat_toNat]
      rfl
    rw [e] at this
    exact this
  have q4 : ((((⟨#[32, 9, 13]⟩ : ByteArray)[2]'(by decide)).toNat : Int) != (((⟨#[x0, x1, x2]⟩ : ByteArray)[2]'(by show 2 < 3; decide)).toNat : Int)) = true := by
    show ((13 : Int) != (x2.toNat : Int)) = true
    simp; omega
  clear hR
  go_enter Tryz.func85, Tryz.ntmps85
  go_wp2_with (first | (go_at_call 97; refine HV.out.mono ?_; rintro e w1 ⟨rfl, hw⟩; replace hw := hw.symm; subst hw))
  go_step3
  go_wp2_with fail
  go_loopw [9] (fun i wr => i = .int .i64 2 ∧ wr = w) (fun _ _ => 0)
  case atStart => exact ⟨rfl, rfl⟩
  case round =>
    obtain ⟨rfl, hw⟩ := hrel
    subst hw
    go_wp2_with fail
    go_step3
    go_wp2_with fail
    go_quiet (fail)
    go_wp2_with fail
    go_region_law (go_simp; go_at_call 96; refine (HX.out _ _ rfl).mono ?_; rintro e w2 ⟨rfl, hw⟩; replace hw := hw.symm; subst hw)
    all_goals (
      go_wp2_with fail
      (repeat (first | rw [Exit.noGoto_ret] | simp only [Exit.inBlock] | simp (config := { zetaDelta := true }) only [Exit.then, Exit.inBlock, Exit.noGoto_ret]))
      go_ret
      exact ⟨rfl, lbel_dn _ _⟩)

set_option maxRecDepth 1000000 in
set_option maxHeartbeats 2000000 in
theorem far4 (p : Int) (x0 x1 x2 x3 : UInt8) (w : World) (h0 : 128 ≤ p) (h2 : p ≠ 65533) (hv : Lib.validRune p = true) (hR : Utf8.encode p = ⟨#[x0, x1, x2, x3]⟩) (hL : 128 ≤ x3.toNat) :
    Calls Tryz.prog 85 #[.string ⟨#[32, 9, 13]⟩, .int .i32 p] w fun e w' => e = .returned (.int .i64 (-1)) ∧ Below w.heap.size w w' := by
  have HV : Hid (Calls Tryz.prog 97 #[.int .i32 p] w fun e w' => e = .returned (.bool true) ∧ w' = w) := by
    have := Tryz.utf8_ValidRune p w
    rw [hv] at this
    exact this
  have q1 : ¬ p < 128 := by omega
  have q2 : (p == 65533) = false := by simpa using h2
  have q0 : (0 : Int) ≤ p := by omega
  have w2 : IntKind.i64.wrap 2 = 2 := by decide
  have w3 : IntKind.i64.wrap 3 = 3 := by decide
  have hcv : ∀ w, (convert 21 9 (.int .i32 p)).run Tryz.prog w = .ok (.string ⟨#[x0, x1, x2, x3]⟩) w := fun w => by rw [← hR]; exact run_convert_int_string w _ _ _ _ rfl Tryz.underlying9
  clear hR
  go_enter Tryz.func85, Tryz.ntmps85
  go_wp2_with (first | (go_at_call 97; refine HV.out.mono ?_; rintro e w1 ⟨rfl, hw⟩; replace hw := hw.symm; subst hw))
  go_step3
  go_wp2_with fail
  go_loopw [9] (fun i wr => i = .int .i64 3 ∧ wr = w) (fun _ _ => 0)
  case atStart => exact ⟨rfl, rfl⟩
  case round =>
    obtain ⟨rfl, hw⟩ := hrel
    subst hw
    go_wp2_with fail
    (repeat (first | rw [Exit.noGoto_ret] | simp only [Exit.inBlock]))
    go_ret
    exact ⟨rfl, Below.refl _ _⟩

set_option maxRecDepth 1000000 in
set_option maxHeartbeats 2000000 in
theorem far_bad (p : Int) (w : World) (h0 : 128 ≤ p) (h2 : p ≠ 65533) (hv : Lib.validRune p = false) :
    Calls Tryz.prog 85 #[.string ⟨#[32, 9, 13]⟩, .int .i32 p] w fun e w' => e = .returned (.int .i64 (-1)) ∧ Below w.heap.size w w' := by
  have HV : Hid (Calls Tryz.prog 97 #[.int .i32 p] w fun e w' => e = .returned (.bool false) ∧ w' = w) := by
    have := Tryz.utf8_ValidRune p w
    rw [hv] at this
    exact this
  have q1 : ¬ p < 128 := by omega
  have q2 : (p == 65533) = false := by simpa using h2
  have q0 : (0 : Int) ≤ p := by omega
  go_enter Tryz.func85, Tryz.ntmps85
  go_wp2_with (first | (go_at_call 97; refine HV.out.mono ?_; rintro e w1 ⟨rfl, hw⟩; replace hw := hw.symm; subst hw))
  (repeat (first | rw [Exit.noGoto_ret] | simp only [Exit.inBlock]))
  go_ret
  exact ⟨rfl, Below.refl _ _⟩

theorem bl_dec : ∀ pos, pos < 3 → Utf8.decode ⟨#[32, 9, 13]⟩ pos = ((⟨#[32, 9, 13]⟩ : ByteArray).get! pos |>.toNat, 1) ∧ ((⟨#[32, 9, 13]⟩ : ByteArray).get! pos).toNat < 128 := by decide

set_option maxRecDepth 1000000 in
set_option maxHeartbeats 2000000 in
theorem far_err (w : World) :
    Calls Tryz.prog 85 #[.string ⟨#[32, 9, 13]⟩, .int .i32 65533] w fun e w' => e = .returned (.int .i64 (-1)) ∧ Below w.heap.size w w' := by
  obtain ⟨s, hs⟩ : ∃ s : ByteArray, s = ⟨#[32, 9, 13]⟩ := ⟨_, rfl⟩
  have hz : s.size = 3 := by rw [hs]; rfl
  have hd : ∀ pos, pos < 3 → dw s pos = 1 ∧ dp s pos < 128 := fun pos hp => by
    obtain ⟨e1, e2⟩ := bl_dec pos hp
    unfold dw dp
    rw [hs, e1]
    exact ⟨rfl, e2⟩
  rw [← hs]
  clear hs
  go_enter Tryz.func85, Tryz.ntmps85
  go_wp2_with fail
  go_loopw [] (fun w' => ∃ pos : Nat, pos ≤ 3 ∧ w' = w.iter s pos) (fun w' => s.size - w'.iterPos w.heap.size)
  case atStart => exact ⟨0, by omega, rfl⟩
  case round =>
    obtain ⟨pos, hp3, rfl⟩ := hrel
    by_cases hp : pos < s.size
    · have hnx : ∀ ty, (Instr.next (.pointer (some ⟨w.heap.size, 0, none⟩)) true ty).run Tryz.prog (w.iter s pos) = _ := fun ty => run_next_any w s pos ty hp
      obtain ⟨d1, d2⟩ := hd pos (by omega)
      unfold dw at d1
      unfold dp at d2
      have q9 : (((Utf8.decode s pos).1 : Int) == 65533) = false := by simp; omega
      go_wp2_with fail
      exact ⟨⟨pos + 1, by omega, rfl⟩, by simp; omega⟩
    · have hnx : ∀ ty, (Instr.next (.pointer (some ⟨w.heap.size, 0, none⟩)) true ty).run Tryz.prog (w.iter s pos) = _ := fun ty => run_next_end w s pos ty hp
      go_wp2_with fail
      go_ret
      exact ⟨rfl, below_iter _ _ _⟩

end Go.Proofs.YtnmjkgjhjnpijaaGreatDoor
