import Derived.Shelf.Strings.SlTrimAscii
import Derived.Shelf.Strings.Runes
import Derived.Shelf.Small.Utf8
import Derived.Shelf.LaysM
import Derived.Shelf.Strconv.Clone
import Derived.Shelf.Strings.Search1
import Derived.Laws.Runes
import Derived.Test.YtojjfbnpjhjidaaGreatDoorM15
set_option linter.unusedVariables false
set_option linter.unusedSimpArgs false
namespace Go.Proofs.YtojjfbnpjhjidaaGreatDoor.Lx
open Go.RowKit Go.Shelf
def Tryz.lays162_ren : Go.Shelf.Ren := ⟨fun | 162 => 90 | 232 => 99 | 227 => 100 | 234 => 101 | 236 => 102 | 228 => 107 | 271 => 108 | 151 => 75 | 120 => 111 | 197 => 112 | 152 => 89 | 260 => 114 | 137 => 95 | 119 => 96 | 224 => 97 | 225 => 98 | 217 => 106 | 266 => 110 | n => n, fun | 9 => 9 | 4 => 4 | 3 => 3 | 5 => 5 | 117 => 159 | 116 => 158 | 0 => 0 | 124 => 162 | 21 => 21 | 105 => 134 | 46 => 154 | 119 => 167 | 139 => 170 | 138 => 169 | n => n, fun | 3 => 5 | 4 => 6 | n => n⟩
theorem Tryz.lays162 : Go.Proofs.Lays.n162 Tryz.prog Tryz.lays162_ren := {
  mixed := by kernel_rfl
  f119 := Tryz.func96.trans (congrArg some (by kernel_rfl))
  f120 := Tryz.func111.trans (congrArg some (by kernel_rfl))
  f137 := Tryz.func95.trans (congrArg some (by kernel_rfl))
  f151 := Tryz.func75.trans (congrArg some (by kernel_rfl))
  f152 := Tryz.func89.trans (congrArg some (by kernel_rfl))
  f162 := Tryz.func90.trans (congrArg some (by kernel_rfl))
  f197 := Tryz.func112.trans (congrArg some (by kernel_rfl))
  f217 := Tryz.func106.trans (congrArg some (by kernel_rfl))
  f224 := Tryz.func97.trans (congrArg some (by kernel_rfl))
  f225 := Tryz.func98.trans (congrArg some (by kernel_rfl))
  f227 := Tryz.func100.trans (congrArg some (by kernel_rfl))
  f228 := Tryz.func107.trans (congrArg some (by kernel_rfl))
  f232 := Tryz.func99.trans (congrArg some (by kernel_rfl))
  f234 := Tryz.func101.trans (congrArg some (by kernel_rfl))
  f236 := Tryz.func102.trans (congrArg some (by kernel_rfl))
  f260 := Tryz.func114.trans (congrArg some (by kernel_rfl))
  f266 := Tryz.func110.trans (congrArg some (by kernel_rfl))
  f271 := Tryz.func108.trans (congrArg some (by kernel_rfl))
  t0 := Tryz.underlying0
  a0 := Tryz.isAgg0
  z0 := Tryz.sizeOf0
  v0 := Tryz.zeroValue0
  t3 := Tryz.underlying3
  a3 := Tryz.isAgg3
  z3 := Tryz.sizeOf3
  v3 := Tryz.zeroValue3
  t4 := Tryz.underlying4
  a4 := Tryz.isAgg4
  z4 := Tryz.sizeOf4
  v4 := Tryz.zeroValue4
  t5 := Tryz.underlying5
  a5 := Tryz.isAgg5
  z5 := Tryz.sizeOf5
  v5 := Tryz.zeroValue5
  t9 := Tryz.underlying9
  a9 := Tryz.isAgg9
  z9 := Tryz.sizeOf9
  v9 := Tryz.zeroValue9
  t21 := Tryz.underlying21
  a21 := Tryz.isAgg21
  z21 := Tryz.sizeOf21
  v21 := Tryz.zeroValue21
  t46 := Tryz.underlying154
  a46 := Tryz.isAgg154
  z46 := Tryz.sizeOf154
  v46 := Tryz.zeroValue154
  t105 := Tryz.underlying134
  a105 := Tryz.isAgg134
  z105 := Tryz.sizeOf134
  v105 := Tryz.zeroValue134
  t116 := Tryz.underlying158
  a116 := Tryz.isAgg158
  z116 := Tryz.sizeOf158
  t117 := Tryz.underlying159
  a117 := Tryz.isAgg159
  z117 := Tryz.sizeOf159
  v117 := Tryz.zeroValue159
  t119 := Tryz.underlying167
  a119 := Tryz.isAgg167
  z119 := Tryz.sizeOf167
  t124 := Tryz.underlying162
  a124 := Tryz.isAgg162
  z124 := Tryz.sizeOf162
  v124 := Tryz.zeroValue162
  t138 := Tryz.underlying169
  a138 := Tryz.isAgg169
  z138 := Tryz.sizeOf169
  v138 := Tryz.zeroValue169
  t139 := Tryz.underlying170
  a139 := Tryz.isAgg170
  z139 := Tryz.sizeOf170
  v139 := Tryz.zeroValue170
  g3 := by kernel_rfl
  g4 := by kernel_rfl }
def Tryz.lays119_ren : Go.Shelf.Ren := ⟨fun | 119 => 96 | n => n, fun | 21 => 21 | 4 => 4 | n => n, fun | n => n⟩
theorem Tryz.lays119 : Go.Proofs.Lays.n119 Tryz.prog Tryz.lays119_ren := {
  mixed := by kernel_rfl
  f119 := Tryz.func96.trans (congrArg some (by kernel_rfl))
  t4 := Tryz.underlying4
  a4 := Tryz.isAgg4
  z4 := Tryz.sizeOf4
  v4 := Tryz.zeroValue4
  t21 := Tryz.underlying21
  a21 := Tryz.isAgg21
  z21 := Tryz.sizeOf21
  v21 := Tryz.zeroValue21 }
theorem Tryz.utf8_ValidRune (r : Int) (w : World) :
    Calls Tryz.prog 96 #[.int .i32 r] w fun e w' => e = .returned (.bool (Lib.validRune r)) ∧ w' = w := Any.utf8_ValidRune Tryz.lays119 r w
def Tryz.lays137_ren : Go.Shelf.Ren := ⟨fun | 137 => 95 | 217 => 106 | 266 => 110 | n => n, fun | 9 => 9 | 5 => 5 | 3 => 3 | n => n, fun | n => n⟩
theorem Tryz.lays137 : Go.Proofs.Lays.n137 Tryz.prog Tryz.lays137_ren := {
  mixed := by kernel_rfl
  f137 := Tryz.func95.trans (congrArg some (by kernel_rfl))
  f217 := Tryz.func106.trans (congrArg some (by kernel_rfl))
  f266 := Tryz.func110.trans (congrArg some (by kernel_rfl))
  t3 := Tryz.underlying3
  a3 := Tryz.isAgg3
  z3 := Tryz.sizeOf3
  v3 := Tryz.zeroValue3
  t5 := Tryz.underlying5
  a5 := Tryz.isAgg5
  z5 := Tryz.sizeOf5
  v5 := Tryz.zeroValue5
  t9 := Tryz.underlying9
  a9 := Tryz.isAgg9
  z9 := Tryz.sizeOf9
  v9 := Tryz.zeroValue9 }
theorem Tryz.strings_IndexByte (s : ByteArray) (c : Int) (w : World) :
    Calls Tryz.prog 95 #[.string s, .int .u8 c] w fun e w' => e = .returned (.int .i64 (Lib.indexByte s.data.toList c.toNat.toUInt8)) ∧ w' = w := Any.strings_IndexByte Tryz.lays137 s c w
def Tryz.laysM316_ren : Go.Shelf.Ren := ⟨fun | 316 => 103 | n => n, fun | 9 => 9 | 3 => 3 | 4 => 4 | 37 => 61 | 0 => 0 | 127 => 88 | 5 => 5 | n => n, fun | n => n⟩
theorem Tryz.laysM316 : Go.Proofs.LaysM.n316 Tryz.prog Tryz.laysM316_ren := {
  mixed := by kernel_rfl
  f316 := Tryz.func103.trans (congrArg some (by kernel_rfl))
  t0 := Tryz.underlying0
  a0 := Tryz.isAgg0
  z0 := Tryz.sizeOf0
  v0 := Tryz.zeroValue0
  t3 := Tryz.underlying3
  a3 := Tryz.isAgg3
  z3 := Tryz.sizeOf3
  v3 := Tryz.zeroValue3
  t4 := Tryz.underlying4
  a4 := Tryz.isAgg4
  z4 := Tryz.sizeOf4
  v4 := Tryz.zeroValue4
  t9 := Tryz.underlying9
  a9 := Tryz.isAgg9
  z9 := Tryz.sizeOf9
  v9 := Tryz.zeroValue9
  t37 := Tryz.underlying61
  a37 := Tryz.isAgg61
  z37 := Tryz.sizeOf61
  v37 := Tryz.zeroValue61
  t127 := Tryz.underlying88
  a127 := Tryz.isAgg88
  z127 := Tryz.sizeOf88
  v127 := Tryz.zeroValue88
  t5 := Tryz.underlying5
  a5 := Tryz.isAgg5
  z5 := Tryz.sizeOf5
  v5 := Tryz.zeroValue5
  i0 := by kernel_rfl
  i3 := by kernel_rfl
  i4 := by kernel_rfl
  i5 := by kernel_rfl
  i9 := by kernel_rfl
  i37 := by kernel_rfl
  i127 := by kernel_rfl }
theorem Tryz.stringslite_Clone (s : ByteArray) (w : World) (hlim : s.size ≤ 281474976710656) :
    Calls Tryz.prog 103 #[.string s] w fun e w' => e = .returned (.string s) ∧ Below w.heap.size w w' := Any.stringslite_Clone Tryz.laysM316 s w hlim
def Tryz.lays151_ren : Go.Shelf.Ren := ⟨fun | 151 => 75 | 152 => 89 | 137 => 95 | 119 => 96 | 224 => 97 | 225 => 98 | 217 => 106 | 266 => 110 | n => n, fun | 9 => 9 | 21 => 21 | 4 => 4 | 3 => 3 | 5 => 5 | 0 => 0 | 46 => 154 | n => n, fun | n => n⟩
theorem Tryz.lays151 : Go.Proofs.Lays.n151 Tryz.prog Tryz.lays151_ren := {
  mixed := by kernel_rfl
  f119 := Tryz.func96.trans (congrArg some (by kernel_rfl))
  f137 := Tryz.func95.trans (congrArg some (by kernel_rfl))
  f151 := Tryz.func75.trans (congrArg some (by kernel_rfl))
  f152 := Tryz.func89.trans (congrArg some (by kernel_rfl))
  f217 := Tryz.func106.trans (congrArg some (by kernel_rfl))
  f224 := Tryz.func97.trans (congrArg some (by kernel_rfl))
  f225 := Tryz.func98.trans (congrArg some (by kernel_rfl))
  f266 := Tryz.func110.trans (congrArg some (by kernel_rfl))
  t0 := Tryz.underlying0
  a0 := Tryz.isAgg0
  z0 := Tryz.sizeOf0
  v0 := Tryz.zeroValue0
  t3 := Tryz.underlying3
  a3 := Tryz.isAgg3
  z3 := Tryz.sizeOf3
  v3 := Tryz.zeroValue3
  t4 := Tryz.underlying4
  a4 := Tryz.isAgg4
  z4 := Tryz.sizeOf4
  v4 := Tryz.zeroValue4
  t5 := Tryz.underlying5
  a5 := Tryz.isAgg5
  z5 := Tryz.sizeOf5
  v5 := Tryz.zeroValue5
  t9 := Tryz.underlying9
  a9 := Tryz.isAgg9
  z9 := Tryz.sizeOf9
  v9 := Tryz.zeroValue9
  t21 := Tryz.underlying21
  a21 := Tryz.isAgg21
  z21 := Tryz.sizeOf21
  v21 := Tryz.zeroValue21
  t46 := Tryz.underlying154
  a46 := Tryz.isAgg154
  z46 := Tryz.sizeOf154
  v46 := Tryz.zeroValue154 }
theorem Tryz.strings_ContainsRune_ascii (s : ByteArray) (r : Int) (w : World) (h0 : 0 ≤ r) (h1 : r < 128) :
    Calls Tryz.prog 75 #[.string s, .int .i32 r] w fun e w' => e = .returned (.bool (decide (0 ≤ Lib.indexByte s.data.toList r.toNat.toUInt8))) ∧ w' = w := Any.strings_ContainsRune_ascii Tryz.lays151 s r w h0 h1
theorem clone_any (s : ByteArray) (w : World) (hlim : s.size ≤ 2147483647) :
    Calls Tryz.prog 91 #[.string s] w fun e w' => e = .returned (.string s) ∧ Below w.heap.size w w' := by
  have HC : Hid (Calls Tryz.prog 103 #[.string s] w fun e w' => e = .returned (.string s) ∧ Below w.heap.size w w') := Tryz.stringslite_Clone s w (by omega)
  go_enter Tryz.func91, Tryz.ntmps91
  go_wp2_with (go_at_call 103; refine HC.out.mono ?_; rintro e w1 ⟨rfl, hb⟩)
  go_ret
  exact ⟨rfl, hb⟩
theorem trim_any (s : ByteArray) (w : World) (hs : s.size ≤ 2147483647) :
    Calls Tryz.prog 90 #[.string s, .string ⟨#[32, 9, 13]⟩] w fun e w' => e = .returned (.string ⟨(Lib.trimRightS s.data.toList [32, 9, 13]).toArray⟩) ∧ Below w.heap.size w w' :=
  Any.strings_TrimRight_laid Tryz.lays162 (by kernel_rfl) s ⟨#[32, 9, 13]⟩ w (by omega) (by decide) (ascii_of_all (by decide))
theorem far_ix (x : UInt8) (h : 128 ≤ x.toNat) : Lib.indexByte [13] x = -1 := by
  have h1 : (13 : UInt8) ≠ x := by rintro rfl; exact absurd h (by decide)
  have h2 : ((13 : UInt8) == x) = false := by simpa using h1
  unfold Lib.indexByte
  rw [h2]
  rfl
set_option maxRecDepth 1000000 in
set_option maxHeartbeats 2000000 in
theorem far2 (p : Int) (x0 x1 : UInt8) (w : World) (h0 : 128 ≤ p) (h2 : p ≠ 65533) (hv : Lib.validRune p = true) (hR : Utf8.encode p = ⟨#[x0, x1]⟩) (hL : 128 ≤ x1.toNat) :
    Calls Tryz.prog 89 #[.string ⟨#[32, 9, 13]⟩, .int .i32 p] w fun e w' => e = .returned (.int .i64 (-1)) ∧ Below w.heap.size w w' := by
  have HV : Hid (Calls Tryz.prog 96 #[.int .i32 p] w fun e w' => e = .returned (.bool true) ∧ w' = w) := by
    have := Tryz.utf8_ValidRune p w
    rw [hv] at this
    exact this
  have q1 : ¬ p < 128 := by omega
  have q2 : (p == 65533) = false := by simpa using h2
  have q0 : (0 : Int) ≤ p := by omega
  have w2 : IntKind.i64.wrap 2 = 2 := by decide
  have w3 : IntKind.i64.wrap 3 = 3 := by decide
  have hcv : ∀ w, (convert 21 9 (.int .i32 p)).run Tryz.prog w = .ok (.string ⟨#[x0, x1]⟩) w := fun w => by rw [← hR]; exact run_convert_int_string w _ _ _ _ rfl Tryz.underlying9
  have HX : Hid (∀ (r : ByteArray) (W : World), r = ⟨#[13]⟩ → Calls Tryz.prog 95 #[.string r, .int .u8 (x1.toNat : Int)] W fun e w' => e = .returned (.int .i64 (-1)) ∧ w' = W) := by
    rintro r W rfl
    have := Tryz.strings_IndexByte ⟨#[13]⟩ (x1.toNat : Int) W
    rw [Int.toNat_natCast] at this
    have e : Lib.indexByte (⟨#[13]⟩ : ByteArray).data.toList x1.toNat.toUInt8 = -1 := by
      rw [show x1.toNat.toUInt8 = x1 from UInt8.ofNat_toNat]
      exact far_ix x1 hL
    rw [e] at this
    exact this
  have q4 : ((((⟨#[32, 9, 13]⟩ : ByteArray)[1]'(by decide)).toNat : Int) != (((⟨#[x0, x1]⟩ : ByteArray)[1]'(by show 1 < 2; decide)).toNat : Int)) = true := by
    show ((9 : Int) != (x1.toNat : Int)) = true
    simp; omega
  clear hR
  go_enter Tryz.func89, Tryz.ntmps89
  go_wp2_with (first | (go_at_call 96; refine HV.out.mono ?_; rintro e w1 ⟨rfl, hw⟩; replace hw := hw.symm; subst hw))
  go_step3
  go_wp2_with fail
  go_loopw [9] (fun i wr => i = .int .i64 1 ∧ wr = w) (fun _ _ => 0)
  case atStart => exact ⟨rfl, rfl⟩
  case round =>
    obtain ⟨rfl, hw⟩ := hrel
    subst hw
    go_wp2_with fail
    go_step3
    go_wp2_with fail
    go_quiet (fail)
    go_wp2_with fail
    go_region_law (go_simp; go_at_call 95; refine (HX.out _ _ rfl).mono ?_; rintro e w2 ⟨rfl, hw⟩; replace hw := hw.symm; subst hw)
    all_goals (
      go_wp2_with fail
      (repeat (first | rw [Exit.noGoto_ret] | simp only [Exit.inBlock] | simp (config := { zetaDelta := true }) only [Exit.then, Exit.inBlock, Exit.noGoto_ret]))
      go_ret
      exact ⟨rfl, bel_dn _ _⟩)
set_option maxRecDepth 1000000 in
set_option maxHeartbeats 2000000 in
theorem far3 (p : Int) (x0 x1 x2 : UInt8) (w : World) (h0 : 128 ≤ p) (h2 : p ≠ 65533) (hv : Lib.validRune p = true) (hR : Utf8.encode p = ⟨#[x0, x1, x2]⟩) (hL : 128 ≤ x2.toNat) :
    Calls Tryz.prog 89 #[.string ⟨#[32, 9, 13]⟩, .int .i32 p] w fun e w' => e = .returned (.int .i64 (-1)) ∧ Below w.heap.size w w' := by
  have HV : Hid (Calls Tryz.prog 96 #[.int .i32 p] w fun e w' => e = .returned (.bool true) ∧ w' = w) := by
    have := Tryz.utf8_ValidRune p w
    rw [hv] at this
    exact this
  have q1 : ¬ p < 128 := by omega
  have q2 : (p == 65533) = false := by simpa using h2
  have q0 : (0 : Int) ≤ p := by omega
  have w2 : IntKind.i64.wrap 2 = 2 := by decide
  have w3 : IntKind.i64.wrap 3 = 3 := by decide
  have hcv : ∀ w, (convert 21 9 (.int .i32 p)).run Tryz.prog w = .ok (.string ⟨#[x0, x1, x2]⟩) w := fun w => by rw [← hR]; exact run_convert_int_string w _ _ _ _ rfl Tryz.underlying9
  have HX : Hid (∀ (r : ByteArray) (W : World), r = ⟨#[]⟩ → Calls Tryz.prog 95 #[.string r, .int .u8 (x2.toNat : Int)] W fun e w' => e = .returned (.int .i64 (-1)) ∧ w' = W) := by
    rintro r W rfl
    have := Tryz.strings_IndexByte ⟨#[]⟩ (x2.toNat : Int) W
    rw [Int.toNat_natCast] at this
    have e : Lib.indexByte (⟨#[]⟩ : ByteArray).data.toList x2.toNat.toUInt8 = -1 := by
      rw [show x2.toNat.toUInt8 = x2 from UInt8.ofNat_toNat]
      rfl
    rw [e] at this
    exact this
  have q4 : ((((⟨#[32, 9, 13]⟩ : ByteArray)[2]'(by decide)).toNat : Int) != (((⟨#[x0, x1, x2]⟩ : ByteArray)[2]'(by show 2 < 3; decide)).toNat : Int)) = true := by
    show ((13 : Int) != (x2.toNat : Int)) = true
    simp; omega
  clear hR
  go_enter Tryz.func89, Tryz.ntmps89
  go_wp2_with (first | (go_at_call 96; refine HV.out.mono ?_; rintro e w1 ⟨rfl, hw⟩; replace hw := hw.symm; subst hw))
  go_step3
  go_wp2_with fail
  go_loopw [9] (fun i wr => i = .int .i64 2 ∧ wr = w) (fun _ _ => 0)
  case atStart => exact ⟨rfl, rfl⟩
  case round =>
    obtain ⟨rfl, hw⟩ := hrel
    subst hw
    go_wp2_with fail
    go_step3
    go_wp2_with fail
    go_quiet (fail)
    go_wp2_with fail
    go_region_law (go_simp; go_at_call 95; refine (HX.out _ _ rfl).mono ?_; rintro e w2 ⟨rfl, hw⟩; replace hw := hw.symm; subst hw)
    all_goals (
      go_wp2_with fail
      (repeat (first | rw [Exit.noGoto_ret] | simp only [Exit.inBlock] | simp (config := { zetaDelta := true }) only [Exit.then, Exit.inBlock, Exit.noGoto_ret]))
      go_ret
      exact ⟨rfl, bel_dn _ _⟩)
set_option maxRecDepth 1000000 in
set_option maxHeartbeats 2000000 in
theorem far4 (p : Int) (x0 x1 x2 x3 : UInt8) (w : World) (h0 : 128 ≤ p) (h2 : p ≠ 65533) (hv : Lib.validRune p = true) (hR : Utf8.encode p = ⟨#[x0, x1, x2, x3]⟩) (hL : 128 ≤ x3.toNat) :
    Calls Tryz.prog 89 #[.string ⟨#[32, 9, 13]⟩, .int .i32 p] w fun e w' => e = .returned (.int .i64 (-1)) ∧ Below w.heap.size w w' := by
  have HV : Hid (Calls Tryz.prog 96 #[.int .i32 p] w fun e w' => e = .returned (.bool true) ∧ w' = w) := by
    have := Tryz.utf8_ValidRune p w
    rw [hv] at this
    exact this
  have q1 : ¬ p < 128 := by omega
  have q2 : (p == 65533) = false := by simpa using h2
  have q0 : (0 : Int) ≤ p := by omega
  have w2 : IntKind.i64.wrap 2 = 2 := by decide
  have w3 : IntKind.i64.wrap 3 = 3 := by decide
  have hcv : ∀ w, (convert 21 9 (.int .i32 p)).run Tryz.prog w = .ok (.string ⟨#[x0, x1, x2, x3]⟩) w := fun w => by rw [← hR]; exact run_convert_int_string w _ _ _ _ rfl Tryz.underlying9
  clear hR
  go_enter Tryz.func89, Tryz.ntmps89
  go_wp2_with (first | (go_at_call 96; refine HV.out.mono ?_; rintro e w1 ⟨rfl, hw⟩; replace hw := hw.symm; subst hw))
  go_step3
  go_wp2_with fail
  go_loopw [9] (fun i wr => i = .int .i64 3 ∧ wr = w) (fun _ _ => 0)
  case atStart => exact ⟨rfl, rfl⟩
  case round =>
    obtain ⟨rfl, hw⟩ := hrel
    subst hw
    go_wp2_with fail
    (repeat (first | rw [Exit.noGoto_ret] | simp only [Exit.inBlock]))
    go_ret
    exact ⟨rfl, Below.refl _ _⟩
set_option maxRecDepth 1000000 in
set_option maxHeartbeats 2000000 in
theorem far_bad (p : Int) (w : World) (h0 : 128 ≤ p) (h2 : p ≠ 65533) (hv : Lib.validRune p = false) :
    Calls Tryz.prog 89 #[.string ⟨#[32, 9, 13]⟩, .int .i32 p] w fun e w' => e = .returned (.int .i64 (-1)) ∧ Below w.heap.size w w' := by
  have HV : Hid (Calls Tryz.prog 96 #[.int .i32 p] w fun e w' => e = .returned (.bool false) ∧ w' = w) := by
    have := Tryz.utf8_ValidRune p w
    rw [hv] at this
    exact this
  have q1 : ¬ p < 128 := by omega
  have q2 : (p == 65533) = false := by simpa using h2
  have q0 : (0 : Int) ≤ p := by omega
  go_enter Tryz.func89, Tryz.ntmps89
  go_wp2_with (first | (go_at_call 96; refine HV.out.mono ?_; rintro e w1 ⟨rfl, hw⟩; replace hw := hw.symm; subst hw))
  (repeat (first | rw [Exit.noGoto_ret] | simp only [Exit.inBlock]))
  go_ret
  exact ⟨rfl, Below.refl _ _⟩
theorem bl_dec : ∀ pos, pos < 3 → Utf8.decode ⟨#[32, 9, 13]⟩ pos = ((⟨#[32, 9, 13]⟩ : ByteArray).get! pos |>.toNat, 1) ∧ ((⟨#[32, 9, 13]⟩ : ByteArray).get! pos).toNat < 128 := by decide
set_option maxRecDepth 1000000 in
set_option maxHeartbeats 2000000 in
theorem far_err (w : World) :
    Calls Tryz.prog 89 #[.string ⟨#[32, 9, 13]⟩, .int .i32 65533] w fun e w' => e = .returned (.int .i64 (-1)) ∧ Below w.heap.size w w' := by
  obtain ⟨s, hs⟩ : ∃ s : ByteArray, s = ⟨#[32, 9, 13]⟩ := ⟨_, rfl⟩
  have hz : s.size = 3 := by rw [hs]; rfl
  have hd : ∀ pos, pos < 3 → dw s pos = 1 ∧ dp s pos < 128 := fun pos hp => by
    obtain ⟨e1, e2⟩ := bl_dec pos hp
    unfold dw dp
    rw [hs, e1]
    exact ⟨rfl, e2⟩
  rw [← hs]
  clear hs
  go_enter Tryz.func89, Tryz.ntmps89
  go_wp2_with fail
  go_loopw [] (fun w' => ∃ pos : Nat, pos ≤ 3 ∧ w' = w.iter s pos) (fun w' => s.size - w'.iterPos w.heap.size)
  case atStart => exact ⟨0, by omega, rfl⟩
  case round =>
    obtain ⟨pos, hp3, rfl⟩ := hrel
    by_cases hp : pos < s.size
    · have hnx : ∀ ty, (Instr.next (.pointer (some ⟨w.heap.size, 0, none⟩)) true ty).run Tryz.prog (w.iter s pos) = _ := fun ty => run_next_any w s pos ty hp
      obtain ⟨d1, d2⟩ := hd pos (by omega)
      unfold dw at d1
      unfold dp at d2
      have q9 : (((Utf8.decode s pos).1 : Int) == 65533) = false := by simp; omega
      go_wp2_with fail
      exact ⟨⟨pos + 1, by omega, rfl⟩, by simp; omega⟩
    · have hnx : ∀ ty, (Instr.next (.pointer (some ⟨w.heap.size, 0, none⟩)) true ty).run Tryz.prog (w.iter s pos) = _ := fun ty => run_next_end w s pos ty hp
      go_wp2_with fail
      go_ret
      exact ⟨rfl, below_iter _ _ _⟩
end Go.Proofs.YtojjfbnpjhjidaaGreatDoor.Lx
