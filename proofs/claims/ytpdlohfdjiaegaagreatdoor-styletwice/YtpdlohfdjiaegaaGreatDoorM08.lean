import Derived.Shelf.Strings.SlTrimAscii
import Derived.Shelf.Strings.Runes
import Derived.Shelf.Small.Utf8
import Derived.Shelf.LaysM
import Derived.Shelf.Strconv.Clone
import Derived.Shelf.Strings.Search1
import Derived.Laws.Runes
import Derived.Test.YtpdlohfdjiaegaaGreatDoorM07
set_option linter.unusedVariables false
set_option linter.unusedSimpArgs false
set_option maxHeartbeats 2000000
set_option maxRecDepth 1000000
namespace Go.Proofs.YtpdlohfdjiaegaaGreatDoor.Lx
open Go.RowKit Go.Shelf
def Tryz.lays162_ren:Go.Shelf.Ren:=⟨fun|162=>182|232=>210|227=>211|234=>212|236=>213|228=>235|271=>236|151=>132|120=>249|197=>250|152=>181|260=>259|137=>206|119=>207|224=>208|225=>209|217=>234|266=>248|n=>n,fun|9=>9|4=>4|3=>3|5=>5|117=>261|116=>260|0=>0|124=>264|21=>21|105=>195|46=>225|119=>278|139=>281|138=>280|n=>n,fun|3=>5|4=>6|n=>n⟩
theorem Tryz.lays162:Go.Proofs.Lays.n162 Tryz.prog Tryz.lays162_ren:={
 mixed:=by kernel_rfl
 f119:=Tryz.func207.trans (congrArg some (by kernel_rfl))
 f120:=Tryz.func249.trans (congrArg some (by kernel_rfl))
 f137:=Tryz.func206.trans (congrArg some (by kernel_rfl))
 f151:=Tryz.func132.trans (congrArg some (by kernel_rfl))
 f152:=Tryz.func181.trans (congrArg some (by kernel_rfl))
 f162:=Tryz.func182.trans (congrArg some (by kernel_rfl))
 f197:=Tryz.func250.trans (congrArg some (by kernel_rfl))
 f217:=Tryz.func234.trans (congrArg some (by kernel_rfl))
 f224:=Tryz.func208.trans (congrArg some (by kernel_rfl))
 f225:=Tryz.func209.trans (congrArg some (by kernel_rfl))
 f227:=Tryz.func211.trans (congrArg some (by kernel_rfl))
 f228:=Tryz.func235.trans (congrArg some (by kernel_rfl))
 f232:=Tryz.func210.trans (congrArg some (by kernel_rfl))
 f234:=Tryz.func212.trans (congrArg some (by kernel_rfl))
 f236:=Tryz.func213.trans (congrArg some (by kernel_rfl))
 f260:=Tryz.func259.trans (congrArg some (by kernel_rfl))
 f266:=Tryz.func248.trans (congrArg some (by kernel_rfl))
 f271:=Tryz.func236.trans (congrArg some (by kernel_rfl))
 t0:=Tryz.underlying0
 a0:=Tryz.isAgg0
 z0:=Tryz.sizeOf0
 v0:=Tryz.zeroValue0
 t3:=Tryz.underlying3
 a3:=Tryz.isAgg3
 z3:=Tryz.sizeOf3
 v3:=Tryz.zeroValue3
 t4:=Tryz.underlying4
 a4:=Tryz.isAgg4
 z4:=Tryz.sizeOf4
 v4:=Tryz.zeroValue4
 t5:=Tryz.underlying5
 a5:=Tryz.isAgg5
 z5:=Tryz.sizeOf5
 v5:=Tryz.zeroValue5
 t9:=Tryz.underlying9
 a9:=Tryz.isAgg9
 z9:=Tryz.sizeOf9
 v9:=Tryz.zeroValue9
 t21:=Tryz.underlying21
 a21:=Tryz.isAgg21
 z21:=Tryz.sizeOf21
 v21:=Tryz.zeroValue21
 t46:=Tryz.underlying225
 a46:=Tryz.isAgg225
 z46:=Tryz.sizeOf225
 v46:=Tryz.zeroValue225
 t105:=Tryz.underlying195
 a105:=Tryz.isAgg195
 z105:=Tryz.sizeOf195
 v105:=Tryz.zeroValue195
 t116:=Tryz.underlying260
 a116:=Tryz.isAgg260
 z116:=Tryz.sizeOf260
 t117:=Tryz.underlying261
 a117:=Tryz.isAgg261
 z117:=Tryz.sizeOf261
 v117:=Tryz.zeroValue261
 t119:=Tryz.underlying278
 a119:=Tryz.isAgg278
 z119:=Tryz.sizeOf278
 t124:=Tryz.underlying264
 a124:=Tryz.isAgg264
 z124:=Tryz.sizeOf264
 v124:=Tryz.zeroValue264
 t138:=Tryz.underlying280
 a138:=Tryz.isAgg280
 z138:=Tryz.sizeOf280
 v138:=Tryz.zeroValue280
 t139:=Tryz.underlying281
 a139:=Tryz.isAgg281
 z139:=Tryz.sizeOf281
 v139:=Tryz.zeroValue281
 g3:=by kernel_rfl
 g4:=by kernel_rfl }
def Tryz.lays119_ren:Go.Shelf.Ren:=⟨fun|119=>207|n=>n,fun|21=>21|4=>4|n=>n,fun|n=>n⟩
theorem Tryz.lays119:Go.Proofs.Lays.n119 Tryz.prog Tryz.lays119_ren:={
 mixed:=by kernel_rfl
 f119:=Tryz.func207.trans (congrArg some (by kernel_rfl))
 t4:=Tryz.underlying4
 a4:=Tryz.isAgg4
 z4:=Tryz.sizeOf4
 v4:=Tryz.zeroValue4
 t21:=Tryz.underlying21
 a21:=Tryz.isAgg21
 z21:=Tryz.sizeOf21
 v21:=Tryz.zeroValue21 }
theorem Tryz.utf8_ValidRune (r:Int) (w:World) :
  Da 207 #[.int .i32 r] w fun e w'=>e=.returned (.bool (Lib.validRune r))/\w'=w:=Any.utf8_ValidRune Tryz.lays119 r w
def Tryz.lays137_ren:Go.Shelf.Ren:=⟨fun|137=>206|217=>234|266=>248|n=>n,fun|9=>9|5=>5|3=>3|n=>n,fun|n=>n⟩
theorem Tryz.lays137:Go.Proofs.Lays.n137 Tryz.prog Tryz.lays137_ren:={
 mixed:=by kernel_rfl
 f137:=Tryz.func206.trans (congrArg some (by kernel_rfl))
 f217:=Tryz.func234.trans (congrArg some (by kernel_rfl))
 f266:=Tryz.func248.trans (congrArg some (by kernel_rfl))
 t3:=Tryz.underlying3
 a3:=Tryz.isAgg3
 z3:=Tryz.sizeOf3
 v3:=Tryz.zeroValue3
 t5:=Tryz.underlying5
 a5:=Tryz.isAgg5
 z5:=Tryz.sizeOf5
 v5:=Tryz.zeroValue5
 t9:=Tryz.underlying9
 a9:=Tryz.isAgg9
 z9:=Tryz.sizeOf9
 v9:=Tryz.zeroValue9 }
theorem Tryz.strings_IndexByte (s:ByteArray) (c:Int) (w:World) :
  Da 206 #[.string s,.int .u8 c] w fun e w'=>e=.returned (.int .i64 (Lib.indexByte s.data.toList c.toNat.toUInt8))/\w'=w:=Any.strings_IndexByte Tryz.lays137 s c w
def Tryz.laysM316_ren:Go.Shelf.Ren:=⟨fun|316=>214|n=>n,fun|9=>9|3=>3|4=>4|37=>164|0=>0|127=>228|5=>5|n=>n,fun|n=>n⟩
theorem Tryz.laysM316:Go.Proofs.LaysM.n316 Tryz.prog Tryz.laysM316_ren:={
 mixed:=by kernel_rfl
 f316:=Tryz.func214.trans (congrArg some (by kernel_rfl))
 t0:=Tryz.underlying0
 a0:=Tryz.isAgg0
 z0:=Tryz.sizeOf0
 v0:=Tryz.zeroValue0
 t3:=Tryz.underlying3
 a3:=Tryz.isAgg3
 z3:=Tryz.sizeOf3
 v3:=Tryz.zeroValue3
 t4:=Tryz.underlying4
 a4:=Tryz.isAgg4
 z4:=Tryz.sizeOf4
 v4:=Tryz.zeroValue4
 t9:=Tryz.underlying9
 a9:=Tryz.isAgg9
 z9:=Tryz.sizeOf9
 v9:=Tryz.zeroValue9
 t37:=Tryz.underlying164
 a37:=Tryz.isAgg164
 z37:=Tryz.sizeOf164
 v37:=Tryz.zeroValue164
 t127:=Tryz.underlying228
 a127:=Tryz.isAgg228
 z127:=Tryz.sizeOf228
 v127:=Tryz.zeroValue228
 t5:=Tryz.underlying5
 a5:=Tryz.isAgg5
 z5:=Tryz.sizeOf5
 v5:=Tryz.zeroValue5
 i0:=by kernel_rfl
 i3:=by kernel_rfl
 i4:=by kernel_rfl
 i5:=by kernel_rfl
 i9:=by kernel_rfl
 i37:=by kernel_rfl
 i127:=by kernel_rfl }
theorem Tryz.stringslite_Clone (s:ByteArray) (w:World) (hlim:s.size<=281474976710656) :
  Da 214 #[.string s] w fun e w'=>e=.returned (.string s)/\Below w.heap.size w w':=Any.stringslite_Clone Tryz.laysM316 s w hlim
def Tryz.lays151_ren:Go.Shelf.Ren:=⟨fun|151=>132|152=>181|137=>206|119=>207|224=>208|225=>209|217=>234|266=>248|n=>n,fun|9=>9|21=>21|4=>4|3=>3|5=>5|0=>0|46=>225|n=>n,fun|n=>n⟩
theorem Tryz.lays151:Go.Proofs.Lays.n151 Tryz.prog Tryz.lays151_ren:={
 mixed:=by kernel_rfl
 f119:=Tryz.func207.trans (congrArg some (by kernel_rfl))
 f137:=Tryz.func206.trans (congrArg some (by kernel_rfl))
 f151:=Tryz.func132.trans (congrArg some (by kernel_rfl))
 f152:=Tryz.func181.trans (congrArg some (by kernel_rfl))
 f217:=Tryz.func234.trans (congrArg some (by kernel_rfl))
 f224:=Tryz.func208.trans (congrArg some (by kernel_rfl))
 f225:=Tryz.func209.trans (congrArg some (by kernel_rfl))
 f266:=Tryz.func248.trans (congrArg some (by kernel_rfl))
 t0:=Tryz.underlying0
 a0:=Tryz.isAgg0
 z0:=Tryz.sizeOf0
 v0:=Tryz.zeroValue0
 t3:=Tryz.underlying3
 a3:=Tryz.isAgg3
 z3:=Tryz.sizeOf3
 v3:=Tryz.zeroValue3
 t4:=Tryz.underlying4
 a4:=Tryz.isAgg4
 z4:=Tryz.sizeOf4
 v4:=Tryz.zeroValue4
 t5:=Tryz.underlying5
 a5:=Tryz.isAgg5
 z5:=Tryz.sizeOf5
 v5:=Tryz.zeroValue5
 t9:=Tryz.underlying9
 a9:=Tryz.isAgg9
 z9:=Tryz.sizeOf9
 v9:=Tryz.zeroValue9
 t21:=Tryz.underlying21
 a21:=Tryz.isAgg21
 z21:=Tryz.sizeOf21
 v21:=Tryz.zeroValue21
 t46:=Tryz.underlying225
 a46:=Tryz.isAgg225
 z46:=Tryz.sizeOf225
 v46:=Tryz.zeroValue225 }
theorem Tryz.strings_ContainsRune_ascii (s:ByteArray) (r:Int) (w:World) (h0:0<=r) (h1:r<128) :
  Da 132 #[.string s,.int .i32 r] w fun e w'=>e=.returned (.bool (decide (0<=Lib.indexByte s.data.toList r.toNat.toUInt8)))/\w'=w:=Any.strings_ContainsRune_ascii Tryz.lays151 s r w h0 h1
theorem tH (s:ByteArray) (w:World) (hlim:s.size<=2147483647) :
  Da 183 #[.string s] w fun e w'=>e=.returned (.string s)/\Below w.heap.size w w':=by
 have HC:Hid (Da 214 #[.string s] w fun e w'=>e=.returned (.string s)/\Db w w'):=Tryz.stringslite_Clone s w (by omega)
 go_enter Tryz.func183,Tryz.ntmps183
 go_wp2_with (go_at_call 214;refine HC.out.mono ?_;rintro e w1 ⟨rfl,hb⟩)
 go_ret
 exact ⟨rfl,hb⟩
theorem t8 (s:ByteArray) (w:World) (hs:s.size<=2147483647) :
  Da 182 #[.string s,.string ⟨#[32,9,13]⟩] w fun e w'=>e=.returned (.string ⟨(Lib.trimRightS s.data.toList [32,9,13]).toArray⟩)/\Below w.heap.size w w':=
 Any.strings_TrimRight_laid Tryz.lays162 (by kernel_rfl) s ⟨#[32,9,13]⟩ w (by omega) (by decide) (ascii_of_all (by decide))
theorem A9 (x:UInt8) (h:128<=x.toNat):Lib.indexByte [13] x=-1:=by
 have h1:(13:UInt8)≠x:=by rintro rfl;exact absurd h (by decide)
 have h2:((13:UInt8) == x)=false:=by simpa using h1
 unfold Lib.indexByte;rw [h2];rfl
theorem far2 (p:Int) (x0 x1:UInt8) (w:World) (h0:128<=p) (h2:p≠65533) (hv:Lib.validRune p=true) (hR:Utf8.encode p=⟨#[x0,x1]⟩) (hL:128<=x1.toNat) :
  Da 181 #[.string ⟨#[32,9,13]⟩,.int .i32 p] w fun e w'=>e=.returned (.int .i64 (-1))/\Below w.heap.size w w':=by
 have HV:Hid (Da 207 #[.int .i32 p] w fun e w'=>e=.returned (.bool true)/\w'=w):=by
  have:=Tryz.utf8_ValidRune p w;rw [hv] at this;exact this
 have q1:¬p<128:=by omega
 have q2:(p == 65533)=false:=by simpa using h2
 have q0:(0:Int)<=p:=by omega
 have w2:IntKind.i64.wrap 2=2:=by decide
 have w3:IntKind.i64.wrap 3=3:=by decide
 have hcv:∀w,(convert 21 9 (.int .i32 p)).run Tryz.prog w=.ok (.string ⟨#[x0,x1]⟩) w:=fun w=>by rw [<-hR];exact run_convert_int_string w _ _ _ _ rfl Tryz.underlying9
 have HX:Hid (∀(r:ByteArray) (W:World),r=⟨#[13]⟩->Da 206 #[.string r,.int .u8 (x1.toNat:Int)] W fun e w'=>e=.returned (.int .i64 (-1))/\w'=W):=by
  rintro r W rfl;have:=Tryz.strings_IndexByte ⟨#[13]⟩ (x1.toNat:Int) W;rw [Int.toNat_natCast] at this
  have e:Lib.indexByte (⟨#[13]⟩:ByteArray).data.toList x1.toNat.toUInt8=-1:=by
   rw [show x1.toNat.toUInt8=x1 from UInt8.ofNat_toNat];exact A9 x1 hL
  rw [e] at this;exact this
 have q4:((((⟨#[32,9,13]⟩:ByteArray)[1]'(by decide)).toNat:Int) != (((⟨#[x0,x1]⟩:ByteArray)[1]'(by show 1<2;decide)).toNat:Int))=true:=by
  show ((9:Int) != (x1.toNat:Int))=true
  simp;omega
 clear hR
 go_enter Tryz.func181,Tryz.ntmps181
 go_wp2_with (first|(go_at_call 207;refine HV.out.mono ?_;rintro e w1 ⟨rfl,hw⟩;replace hw:=hw.symm;subst hw))
 go_step3
 go_wp2_with fail
 go_loopw [9] (fun i wr=>i=.int .i64 1/\wr=w) (fun _ _=>0)
 case atStart=>exact ⟨rfl,rfl⟩
 case round=>
  obtain ⟨rfl,hw⟩:=hrel;subst hw
  go_wp2_with fail
  go_step3
  go_wp2_with fail
  go_quiet (fail)
  go_wp2_with fail
  go_region_law (go_simp;go_at_call 206;refine (HX.out _ _ rfl).mono ?_;rintro e w2 ⟨rfl,hw⟩;replace hw:=hw.symm;subst hw)
  all_goals (
   go_wp2_with fail
   (repeat (first|rw [Exit.noGoto_ret]|simp only [Exit.inBlock]|simp (config:={ zetaDelta:=true }) only [Exit.then,Exit.inBlock,Exit.noGoto_ret]))
   go_ret
   exact ⟨rfl,bR _ _⟩)
theorem far3 (p:Int) (x0 x1 x2:UInt8) (w:World) (h0:128<=p) (h2:p≠65533) (hv:Lib.validRune p=true) (hR:Utf8.encode p=⟨#[x0,x1,x2]⟩) (hL:128<=x2.toNat) :
  Da 181 #[.string ⟨#[32,9,13]⟩,.int .i32 p] w fun e w'=>e=.returned (.int .i64 (-1))/\Below w.heap.size w w':=by
 have HV:Hid (Da 207 #[.int .i32 p] w fun e w'=>e=.returned (.bool true)/\w'=w):=by
  have:=Tryz.utf8_ValidRune p w;rw [hv] at this;exact this
 have q1:¬p<128:=by omega
 have q2:(p == 65533)=false:=by simpa using h2
 have q0:(0:Int)<=p:=by omega
 have w2:IntKind.i64.wrap 2=2:=by decide
 have w3:IntKind.i64.wrap 3=3:=by decide
 have hcv:∀w,(convert 21 9 (.int .i32 p)).run Tryz.prog w=.ok (.string ⟨#[x0,x1,x2]⟩) w:=fun w=>by rw [<-hR];exact run_convert_int_string w _ _ _ _ rfl Tryz.underlying9
 have HX:Hid (∀(r:ByteArray) (W:World),r=⟨#[]⟩->Da 206 #[.string r,.int .u8 (x2.toNat:Int)] W fun e w'=>e=.returned (.int .i64 (-1))/\w'=W):=by
  rintro r W rfl;have:=Tryz.strings_IndexByte ⟨#[]⟩ (x2.toNat:Int) W;rw [Int.toNat_natCast] at this
  have e:Lib.indexByte (⟨#[]⟩:ByteArray).data.toList x2.toNat.toUInt8=-1:=by
   rw [show x2.toNat.toUInt8=x2 from UInt8.ofNat_toNat];rfl
  rw [e] at this;exact this
 have q4:((((⟨#[32,9,13]⟩:ByteArray)[2]'(by decide)).toNat:Int) != (((⟨#[x0,x1,x2]⟩:ByteArray)[2]'(by show 2<3;decide)).toNat:Int))=true:=by
  show ((13:Int) != (x2.toNat:Int))=true
  simp;omega
 clear hR
 go_enter Tryz.func181,Tryz.ntmps181
 go_wp2_with (first|(go_at_call 207;refine HV.out.mono ?_;rintro e w1 ⟨rfl,hw⟩;replace hw:=hw.symm;subst hw))
 go_step3
 go_wp2_with fail
 go_loopw [9] (fun i wr=>i=.int .i64 2/\wr=w) (fun _ _=>0)
 case atStart=>exact ⟨rfl,rfl⟩
 case round=>
  obtain ⟨rfl,hw⟩:=hrel;subst hw
  go_wp2_with fail
  go_step3
  go_wp2_with fail
  go_quiet (fail)
  go_wp2_with fail
  go_region_law (go_simp;go_at_call 206;refine (HX.out _ _ rfl).mono ?_;rintro e w2 ⟨rfl,hw⟩;replace hw:=hw.symm;subst hw)
  all_goals (
   go_wp2_with fail
   (repeat (first|rw [Exit.noGoto_ret]|simp only [Exit.inBlock]|simp (config:={ zetaDelta:=true }) only [Exit.then,Exit.inBlock,Exit.noGoto_ret]))
   go_ret
   exact ⟨rfl,bR _ _⟩)
theorem far4 (p:Int) (x0 x1 x2 x3:UInt8) (w:World) (h0:128<=p) (h2:p≠65533) (hv:Lib.validRune p=true) (hR:Utf8.encode p=⟨#[x0,x1,x2,x3]⟩) (hL:128<=x3.toNat) :
  Da 181 #[.string ⟨#[32,9,13]⟩,.int .i32 p] w fun e w'=>e=.returned (.int .i64 (-1))/\Below w.heap.size w w':=by
 have HV:Hid (Da 207 #[.int .i32 p] w fun e w'=>e=.returned (.bool true)/\w'=w):=by
  have:=Tryz.utf8_ValidRune p w;rw [hv] at this;exact this
 have q1:¬p<128:=by omega
 have q2:(p == 65533)=false:=by simpa using h2
 have q0:(0:Int)<=p:=by omega
 have w2:IntKind.i64.wrap 2=2:=by decide
 have w3:IntKind.i64.wrap 3=3:=by decide
 have hcv:∀w,(convert 21 9 (.int .i32 p)).run Tryz.prog w=.ok (.string ⟨#[x0,x1,x2,x3]⟩) w:=fun w=>by rw [<-hR];exact run_convert_int_string w _ _ _ _ rfl Tryz.underlying9
 clear hR
 go_enter Tryz.func181,Tryz.ntmps181
 go_wp2_with (first|(go_at_call 207;refine HV.out.mono ?_;rintro e w1 ⟨rfl,hw⟩;replace hw:=hw.symm;subst hw))
 go_step3
 go_wp2_with fail
 go_loopw [9] (fun i wr=>i=.int .i64 3/\wr=w) (fun _ _=>0)
 case atStart=>exact ⟨rfl,rfl⟩
 case round=>
  obtain ⟨rfl,hw⟩:=hrel;subst hw
  go_wp2_with fail
  (repeat (first|rw [Exit.noGoto_ret]|simp only [Exit.inBlock]))
  go_ret
  exact ⟨rfl,Below.refl _ _⟩
theorem yT (p:Int) (w:World) (h0:128<=p) (h2:p≠65533) (hv:Lib.validRune p=false) :
  Da 181 #[.string ⟨#[32,9,13]⟩,.int .i32 p] w fun e w'=>e=.returned (.int .i64 (-1))/\Below w.heap.size w w':=by
 have HV:Hid (Da 207 #[.int .i32 p] w fun e w'=>e=.returned (.bool false)/\w'=w):=by
  have:=Tryz.utf8_ValidRune p w;rw [hv] at this;exact this
 have q1:¬p<128:=by omega
 have q2:(p == 65533)=false:=by simpa using h2
 have q0:(0:Int)<=p:=by omega
 go_enter Tryz.func181,Tryz.ntmps181
 go_wp2_with (first|(go_at_call 207;refine HV.out.mono ?_;rintro e w1 ⟨rfl,hw⟩;replace hw:=hw.symm;subst hw))
 (repeat (first|rw [Exit.noGoto_ret]|simp only [Exit.inBlock]))
 go_ret
 exact ⟨rfl,Below.refl _ _⟩
theorem Bs:∀pos,pos<3->Utf8.decode ⟨#[32,9,13]⟩ pos=((⟨#[32,9,13]⟩:ByteArray).get! pos |>.toNat,1)/\((⟨#[32,9,13]⟩:ByteArray).get! pos).toNat<128:=by decide
theorem yS (w:World) :
  Da 181 #[.string ⟨#[32,9,13]⟩,.int .i32 65533] w fun e w'=>e=.returned (.int .i64 (-1))/\Below w.heap.size w w':=by
 obtain ⟨s,hs⟩:∃s:ByteArray,s=⟨#[32,9,13]⟩:=⟨_,rfl⟩;have hz:s.size=3:=by rw [hs];rfl
 have hd:∀pos,pos<3->dw s pos=1/\dp s pos<128:=fun pos hp=>by
  obtain ⟨e1,e2⟩:=Bs pos hp;unfold dw dp;rw [hs,e1];exact ⟨rfl,e2⟩
 rw [<-hs];clear hs
 go_enter Tryz.func181,Tryz.ntmps181
 go_wp2_with fail
 go_loopw [] (fun w'=>∃pos:Nat,pos<=3/\w'=w.iter s pos) (fun w'=>s.size-w'.iterPos w.heap.size)
 case atStart=>exact ⟨0,by omega,rfl⟩
 case round=>
  obtain ⟨pos,hp3,rfl⟩:=hrel
  by_cases hp:pos<s.size
  ·have hnx:∀ty,(Instr.next (.pointer (some ⟨w.heap.size,0,none⟩)) true ty).run Tryz.prog (w.iter s pos)=_:=fun ty=>run_next_any w s pos ty hp
   obtain ⟨d1,d2⟩:=hd pos (by omega);unfold dw at d1;unfold dp at d2;have q9:(((Utf8.decode s pos).1:Int) == 65533)=false:=by simp;omega
   go_wp2_with fail
   exact ⟨⟨pos+1,by omega,rfl⟩,by simp;omega⟩
  ·have hnx:∀ty,(Instr.next (.pointer (some ⟨w.heap.size,0,none⟩)) true ty).run Tryz.prog (w.iter s pos)=_:=fun ty=>run_next_end w s pos ty hp
   go_wp2_with fail
   go_ret
   exact ⟨rfl,cr _ _ _⟩
end Go.Proofs.YtpdlohfdjiaegaaGreatDoor.Lx
namespace Go.Proofs.YtpdlohfdjiaegaaGreatDoor.Lx
open Go.RowKit
variable {s R:ByteArray}{a y m k q g f:Nat}{o:Bool}{w0 w':World}{l:List Tv}
theorem arr2 (h:R.size=2):∃x0 x1,R=⟨#[x0,x1]⟩:=by
 obtain ⟨⟨l⟩⟩:=R
 match l,h with
 |[x0,x1],_=>exact ⟨x0,x1,rfl⟩
theorem arr3 (h:R.size=3):∃x0 x1 x2,R=⟨#[x0,x1,x2]⟩:=by
 obtain ⟨⟨l⟩⟩:=R
 match l,h with
 |[x0,x1,x2],_=>exact ⟨x0,x1,x2,rfl⟩
theorem arr4 (h:R.size=4):∃x0 x1 x2 x3,R=⟨#[x0,x1,x2,x3]⟩:=by
 obtain ⟨⟨l⟩⟩:=R
 match l,h with
 |[x0,x1,x2,x3],_=>exact ⟨x0,x1,x2,x3,rfl⟩
theorem yU (p:Int) (w:World) (h0:128<=p) :
  Da 181 #[.string ⟨#[32,9,13]⟩,.int .i32 p] w fun e w'=>e=.returned (.int .i64 (-1))/\Below w.heap.size w w':=by
 by_cases h2:p=65533
 ·subst h2;exact yS w
 ·cases hv:Lib.validRune p with
  |false=>exact yT p w h0 h2 hv
  |true=>
   obtain ⟨f1,f2,f3⟩:=encode_facts p (by rw [validRune_eq];exact hv) h0;have f4:=f3 (by omega);obtain ⟨R,hR⟩:∃R,Utf8.encode p=R:=⟨_,rfl⟩;simp only [hR] at f1 f2 f3 f4
   rcases (show R.size=2\/R.size=3\/R.size=4 by omega) with h|h|h
   ·obtain ⟨x0,x1,rfl⟩:=arr2 h;exact far2 p x0 x1 w h0 h2 hv hR f4
   ·obtain ⟨x0,x1,x2,rfl⟩:=arr3 h;exact far3 p x0 x1 x2 w h0 h2 hv hR f4
   ·obtain ⟨x0,x1,x2,x3,rfl⟩:=arr4 h;exact far4 p x0 x1 x2 x3 w h0 h2 hv hR f4
theorem yp:∀n:Nat,n<128->decide ((0:Int)<=Lib.indexByte [32,9,13] n.toUInt8)=decide (n=32\/n=9\/n=13):=by decide
def kg (p:Int):Bool:=decide (p=32\/p=9\/p=13)
theorem mh (p:Int) (w:World) (h0:0<=p) :
  Da 132 #[.string ⟨#[32,9,13]⟩,.int .i32 p] w fun e w'=>e=.returned (.bool (kg p))/\Below w.heap.size w w':=by
 by_cases h:p<128
 ·refine (Tryz.strings_ContainsRune_ascii ⟨#[32,9,13]⟩ p w h0 h).mono ?_;rintro e w' ⟨rfl,rfl⟩;refine ⟨?_,Below.refl _ _⟩;have e:=yp p.toNat (by omega);have e2:decide (p.toNat=32\/p.toNat=9\/p.toNat=13)=kg p:=by unfold kg;rw [decide_eq_decide];omega
  rw [<-e2,<-e]
 ·have HF:Hid (Da 181 #[.string ⟨#[32,9,13]⟩,.int .i32 p] w fun e w'=>e=.returned (.int .i64 (-1))/\Db w w'):=yU p w (by omega);have e2:kg p=false:=by unfold kg;rw [decide_eq_false_iff_not];omega
  rw [e2];clear e2
  go_enter Tryz.func132,Tryz.ntmps132
  go_wp2_with (go_at_call 181;refine HF.out.mono ?_;rintro e w1 ⟨rfl,hb⟩)
  go_ret
  exact ⟨rfl,hb⟩
theorem iC (p:Int) (w:World) (h0:0<=p) :
  Da 83 #[.int .i32 p] w fun e w'=>e=.returned (.bool (kg p))/\Below w.heap.size w w':=by
 have HF:Hid (Da 132 #[.string ⟨#[32,9,13]⟩,.int .i32 p] w fun e w'=>e=.returned (.bool (kg p))/\Db w w'):=mh p w h0
 generalize kg p=r at *
 go_enter Tryz.func83,Tryz.ntmps83
 go_wp2_with (go_at_call 132;refine HF.out.mono ?_;rintro e w1 ⟨rfl,hb⟩)
 go_ret
 exact ⟨rfl,hb⟩
theorem wN (b:UInt8):[(32:UInt8),9,13].contains b=bV b.toNat:=by
 unfold bV;simp only [List.contains_cons,List.contains_nil,Bool.or_false];rw [Bool.eq_iff_iff];simp only [Bool.or_eq_true,beq_iff_eq,<-UInt8.toNat_inj];constructor
 ·rintro (h|h|h)
  ·exact .inl (.inl h)
  ·exact .inl (.inr h)
  ·exact .inr h
 ·rintro ((h|h)|h)
  ·exact .inl h
  ·exact .inr (.inl h)
  ·exact .inr (.inr h)
theorem qX (s:ByteArray) (a p j:Nat) (b:UInt8) (hp:p<=s.size) (h:(s.extract a p).data.toList[j]?=some b):j<p-a/\by8 s (a+j)=b.toNat:=by
 have hz:=aj s a p hp;have hj:j<(s.extract a p).data.toList.length:=(List.getElem?_eq_some_iff.1 h).1;have hl:(s.extract a p).data.toList.length=(s.extract a p).size:=by rw [Array.length_toList];rfl
 refine ⟨by omega,?_⟩;have e:=aF s a p j (by omega);rw [<-e];unfold by8;have h2:=(List.getElem?_eq_some_iff.1 h).2
 have:(s.extract a p).get! j=b:=by
  show (s.extract a p).data[j]! = b
  rw [getElem!_pos (s.extract a p).data j (by rw [Array.length_toList] at hj;exact hj)]
  simpa using h2
 rw [this]
theorem xm (s:ByteArray) (a p:Nat) (hap:a<p) (hp:p<=s.size) (ha:bV (by8 s a)=false):(⟨(Lib.trimRightS (s.extract a p).data.toList [32,9,13]).toArray⟩:ByteArray)=s.extract a (aI s p):=by
 have h1:=dJ s p;have h2:=fD s a ha p hap;have h3:=ji s p;have hz:=aj s a p hp;have hl:(s.extract a p).data.toList.length=(s.extract a p).size:=by rw [Array.length_toList];rfl
 have e:Lib.trimRightS (s.extract a p).data.toList [32,9,13]=(s.extract a p).data.toList.take (aI s p-a):=by
  refine Lib.trimRightS_take _ _ _ (by omega) (fun j b hj hb=>?_) (fun b h0 hb=>?_)
  ·obtain ⟨e1,e2⟩:=qX s a p j b hp hb;rw [wN,<-e2];exact h3 (a+j) (by omega) (by omega)
  ·obtain ⟨e1,e2⟩:=qX s a p _ b hp hb;rw [wN,<-e2];have h4:a+(aI s p-a-1)=aI s p-1:=by omega
   rw [h4]
   have key:∀q,0<aI s q->bV (by8 s (aI s q-1))=false:=by
    intro q
    induction q with
    |zero=>intro h;exact absurd h (by simp [aI])
    |succ q ih=>
     intro h;unfold aI at h ⊢
     by_cases e:bV (by8 s q)=true
     ·rw [if_pos e] at h ⊢;exact ih h
     ·rw [if_neg e] at h ⊢;simpa using e
   exact key p (by omega)
 rw [e];refine cZ _ _ ?_ (fun j hj=>?_)
 ·rw [aj s a _ (by omega)];show ((s.extract a p).data.toList.take (aI s p-a)).toArray.size=_;simp;omega
 ·have hj2:j<aI s p-a:=by
   have:(⟨((s.extract a p).data.toList.take (aI s p-a)).toArray⟩:ByteArray).size=((s.extract a p).data.toList.take (aI s p-a)).length:=by show Array.size _=_;simp
   rw [this,List.length_take] at hj;omega
  rw [aF s a _ j (by omega)];rw [<-aF s a p j (by omega)];unfold by8
  congr 1
  show ((s.extract a p).data.toList.take (aI s p-a)).toArray[j]! = (s.extract a p).data[j]!
  rw [getElem!_pos _ j (by simp;omega),getElem!_pos _ j (by have:(s.extract a p).data.size=(s.extract a p).size:=rfl;omega)];simp
def TP (w0 w':World) (g:Nat) (s:ByteArray) (k a f:Nat) (l:List Tv):Prop:=
 if (ah s a k).2=0 then Rs w0 w' g s (ah s a k).1 a 0 (l++[tv s (bI s k a (ah s a k).1 f)])
 else ∃a',bd s a'/\a<=a'/\Rs w0 w' g s a' a f l/\((ah s a k).2=102->a'=(ah s a k).1)
theorem TP.ok (hE:ah s a k=(y,0)) (h:Rs w0 w' g s y a 0 (l++[tv s (bI s k a y f)])):TP w0 w' g s k a f l:=by
 unfold TP;rw [hE,if_pos rfl];exact h
theorem TP.bad {e a':Nat}(hE:ah s a k=(y,e)) (he:e≠0) (hb:bd s a') (ha:a<=a') (h:Rs w0 w' g s a' a f l) (h2:e=102->a'=y):TP w0 w' g s k a f l:=by
 unfold TP;rw [hE,if_neg he];exact ⟨a',hb,ha,h,h2⟩
def dR (w:World) (g k:Nat):Nat:=match w.cell? ⟨g,k,none⟩ with
 |some (.int _ n)=>n.toNat
 |_=>0
theorem wC {w:World}{n:Nat}(h:w.cell? ⟨g,k,none⟩=some (.int .i64 (n:Nat))):dR w g k=n:=by
 unfold dR;rw [h];simp
theorem Rs.at {W:World}{b:Nat}(h:Rs w0 W g s a b f l):dR W g 1=a:=by
 obtain ⟨h1,h2,v,h3,h4⟩:=h;exact wC (Rq.cells h3).2.1
theorem vU (s:ByteArray) (y:Nat) (h:gd s y=false):dp s y=65533:=by unfold dp;rw [A3 s y h]
theorem AN:pr' (-1)=false:=by decide
theorem AO:pr' 65533=false:=by decide
theorem AY:lt' 65533=false:=by decide
theorem qH (s:ByteArray) (y:Nat):pr' (rpt s y)=(decide (y<s.size) && (gd s y && pr' (dp s y))):=by
 by_cases h:y<s.size
 ·rw [ei h,decide_eq_true h,Bool.true_and];cases e:gd s y with
  |true=>rfl
  |false=>rw [vU s y e];exact AO
 ·rw [gr (by omega),decide_eq_false h,AN];rfl
theorem cC (s:ByteArray) (y:Nat) (h:y<s.size):lt' (rpt s y)=(gd s y && lt' (dp s y)):=by
 rw [ei h];cases e:gd s y with
 |true=>rfl
 |false=>rw [vU s y e];exact AY
theorem co (s:ByteArray) (y:Nat):(decide (48<=rpt s y) && decide (rpt s y<=57))=(decide (y<s.size) && bN (by8 s y)):=by
 by_cases h:y<s.size
 ·rw [ei h,decide_eq_true h,Bool.true_and];unfold bN;rw [Bool.eq_iff_iff];simp only [Bool.and_eq_true,decide_eq_true_eq];constructor
  ·rintro ⟨h1,h2⟩;have:=wm s y (by omega);omega
  ·rintro ⟨h1,h2⟩;have:=(aM s y (by omega)).2.1;omega
 ·rw [gr (by omega),decide_eq_false h];rfl
theorem aQ (s:ByteArray) (y c:Nat) (hc:c<128) (h:y<s.size):rpt s y=(c:Int)↔by8 s y=c:=by
 rw [ei h];constructor
 ·intro e;exact (zQ s y c hc).1 (by omega)
 ·intro e;have:=(zQ s y c hc).2 e;omega
theorem bB (s:ByteArray) (y:Nat):rpt s y=-1↔s.size<=y:=by
 by_cases h:y<s.size
 ·rw [ei h];constructor <;> intro _ <;> omega
 ·rw [gr (by omega)];constructor <;> intro _ <;> first|omega|rfl
theorem pI (s:ByteArray) (y:Nat) (h:y<s.size):(decide (rpt s y<32) || decide (rpt s y=127))=df s y:=by
 rw [ei h];unfold df;cases e:gd s y with
 |true=>
  rw [Bool.true_and,Bool.eq_iff_iff];simp only [Bool.or_eq_true,decide_eq_true_eq,beq_iff_eq];constructor <;> intro _ <;> omega
 |false=>rw [vU s y e];rfl
theorem Cm (s:ByteArray) (y:Nat) (h:y<s.size):kg (rpt s y)=bV (by8 s y):=by
 unfold kg bV;rw [Bool.eq_iff_iff];simp only [Bool.or_eq_true,decide_eq_true_eq,beq_iff_eq];have e1:=aQ s y 32 (by decide) h;have e2:=aQ s y 9 (by decide) h;have e3:=aQ s y 13 (by decide) h;constructor
 ·rintro (h|h|h)
  ·exact .inl (.inl (e1.1 h))
  ·exact .inl (.inr (e2.1 h))
  ·exact .inr (e3.1 h)
 ·rintro ((h|h)|h)
  ·exact .inl (e1.2 h)
  ·exact .inr (.inl (e2.2 h))
  ·exact .inr (.inr (e3.2 h))
theorem AD {x:Nat}{E:Nat × Nat}(hx:x<s.size) (h:run (bz s a k) s.size x m=E) (hon:bz s a k x m=.on (dw s x)):x+dw s x<=s.size/\run (bz s a k) s.size (x+dw s x) (m+1)=E:=by
 refine ⟨(aG s x hx).2.2,?_⟩;rw [<-du (bZ s a k) (by omega) hon];exact h
theorem jv {E:Nat × Nat}(hy:y<=s.size) (h:run (bz s a k) s.size y m=E) (hc:s.size<=y\/(k=1/\(gd s y && pr' (dp s y))=false)\/(k=3/\bN (by8 s y)=false)):E=(y,0):=by
 rw [<-h];refine bG hy ?_;unfold bz
 by_cases h1:s.size<=y
 ·rw [if_pos h1]
 ·rw [if_neg h1,if_pos (hc.resolve_left h1)]
theorem jy {E:Nat × Nat}(hy:y<s.size) (h:run (bz s a k) s.size y m=E) (hc:¬((k=1/\(gd s y && pr' (dp s y))=false)\/(k=3/\bN (by8 s y)=false))) (hf:65535<y+dw s y-a):E=(a,103):=by
 rw [<-h];refine bG (by omega) ?_;unfold bz;rw [if_neg (by omega),if_neg hc,if_pos hf]
theorem jx (hy:y<s.size) (hc:¬((k=1/\(gd s y && pr' (dp s y))=false)\/(k=3/\bN (by8 s y)=false))) (hf:¬65535<y+dw s y-a):bz s a k y m=.on (dw s y):=by
 unfold bz;rw [if_neg (by omega),if_neg hc,if_neg hf]
theorem gy {E:Nat × Nat}(hy:y<=s.size) (h:run (bH s a q o) s.size y m=E) (hc:s.size<=y\/by8 s y=10):E=(a,101):=by
 rw [<-h];refine bG hy ?_;unfold bH;rw [if_pos hc]
theorem m8 {E:Nat × Nat}(hy:y<s.size) (h:run (bH s a q o) s.size y m=E) (hc:by8 s y≠10) (hf:65535<y+dw s y-a):E=(a,103):=by
 rw [<-h];refine bG (by omega) ?_;unfold bH;rw [if_neg (by rintro (h|h);omega;exact hc h),if_pos hf]
theorem lB {E:Nat × Nat}(hy:y<s.size) (h:run (bH s a q o) s.size y m=E) (hc:by8 s y≠10) (hf:¬65535<y+dw s y-a) (hq:by8 s y=q/\(o=false\/m=1)):E=(y+1,0):=by
 rw [<-h];refine bG (by omega) ?_;unfold bH;rw [if_neg (by rintro (h|h);omega;exact hc h),if_neg hf,if_pos hq]
theorem ep {E:Nat × Nat}(hy:y<s.size) (h:run (bH s a q o) s.size y m=E) (hc:by8 s y≠10) (hf:¬65535<y+dw s y-a) (hq:¬(by8 s y=q/\(o=false\/m=1))) (hb:df s y=true\/(o=true/\(m=1\/by8 s y=q))):E=(y,102):=by
 rw [<-h];refine bG (by omega) ?_;unfold bH;rw [if_neg (by rintro (h|h);omega;exact hc h),if_neg hf,if_neg hq,if_pos hb]
theorem jA {E:Nat × Nat}(hy:y<s.size) (h:run (bH s a q o) s.size y m=E) (hc:by8 s y≠10) (hf:¬65535<y+dw s y-a) (hq:¬(by8 s y=q/\(o=false\/m=1))) (hb:¬(df s y=true\/(o=true/\(m=1\/by8 s y=q)))):run (bH s a q o) s.size (y+dw s y) (m+1)=E:=by
 rw [<-h];refine (du (cX s a q o) (by omega) ?_).symm;unfold bH;rw [if_neg (by rintro (h|h);omega;exact hc h),if_neg hf,if_neg hq,if_neg hb]
theorem zh (m:Nat) (hy:y<s.size) (h10:o=false->by8 s y≠10) (h125:o=true->by8 s y≠125) (hf:y+1-a<=65535):run (aV s a o) s.size y m=run (aV s a o) s.size (y+1) (m+1):=by
 refine du (b8 s a o) (by omega) ?_;unfold aV;rw [if_neg (by omega),if_neg (by rintro ⟨h1,h2⟩;exact h10 h1 h2),if_neg (by omega),if_neg (by rintro ⟨h1,h2⟩;exact h125 h1 h2)]
theorem mj :∀(i m:Nat),(∀j,j<i->y+j<s.size/\(o=false->by8 s (y+j)≠10)/\(o=true->by8 s (y+j)≠125)/\y+j+1-a<=65535)->run (aV s a o) s.size y m=run (aV s a o) s.size (y+i) (m+i)
 |0,m,_=>rfl
 |i+1,m,h=>by
  rw [mj i m (fun j hj=>h j (by omega))];obtain ⟨h1,h2,h3,h4⟩:=h i (by omega);exact zh (m+i) h1 h2 h3 h4
theorem pP (s:ByteArray) (y j:Nat) (hy:y<s.size) (hj:j<dw s y):y+j<s.size/\(j≠0->by8 s (y+j)≠10/\by8 s (y+j)≠125):=by
 have:=(aG s y hy).2.2;refine ⟨by omega,fun h=>?_⟩;have:=(fN s y j (by omega) hj).2;omega
theorem Bg {E:Nat × Nat}(m:Nat) (hy:y<s.size) (h10:o=false->by8 s y≠10) (h125:o=true->by8 s y≠125) (hf:y+dw s y-a<=65535) (h:run (aV s a o) s.size y m=E):run (aV s a o) s.size (y+dw s y) (m+dw s y)=E:=by
 rw [<-h];refine (mj (dw s y) m (fun j hj=>?_)).symm;obtain ⟨h1,h2⟩:=pP s y j hy hj;refine ⟨h1,fun ho=>?_,fun ho=>?_,by omega⟩
 ·by_cases e:j=0
  ·subst e;exact h10 ho
  ·exact (h2 e).1
 ·by_cases e:j=0
  ·subst e;exact h125 ho
  ·exact (h2 e).2
theorem j5 {E:Nat × Nat}(m:Nat) (hy:y<s.size) (h10:o=false->by8 s y≠10) (hay:a<=y) (hb:y-a<=65535) (hf:65535<y+dw s y-a) (h:run (aV s a o) s.size y m=E):E=(a,103):=by
 obtain ⟨i,hi⟩:∃i,y+i=a+65535:=⟨a+65535-y,by omega⟩;have hid:i<dw s y:=by omega
 obtain ⟨d1,d2,d3⟩:=aG s y hy
 have last:∀z m,z<s.size->(o=false->by8 s z≠10)->65535<z+1-a->run (aV s a o) s.size z m=(a,103):=by
  intro z m hz h1 h2;refine bG (by omega) ?_;unfold aV;rw [if_neg (by omega),if_neg (by rintro ⟨e1,e2⟩;exact h1 e1 e2),if_pos h2]
 by_cases h0:i=0
 ·rw [<-h];exact last y m hy h10 (by omega)
 ·by_cases c:o=true/\by8 s y=125
  ·exfalso
   have:=(aM s y (by omega)).1;omega
  ·rw [<-h,mj i m (fun j hj=>?_)]
   ·have h2:=pP s y i hy hid;exact last (y+i) _ h2.1 (fun _=>(h2.2 h0).1) (by omega)
   ·obtain ⟨h1,h2⟩:=pP s y j hy (by omega);refine ⟨h1,fun ho=>?_,fun ho=>?_,by omega⟩
    ·by_cases e:j=0
     ·subst e;exact h10 ho
     ·exact (h2 e).1
    ·by_cases e:j=0
     ·subst e;exact fun e2=>c ⟨ho,e2⟩
     ·exact (h2 e).2
theorem ol {E:Nat × Nat}(hy:y<=s.size) (h:run (aV s a false) s.size y m=E) (hc:s.size<=y\/by8 s y=10):E=(y,0):=by
 rw [<-h];refine bG hy ?_;unfold aV
 by_cases h1:s.size<=y
 ·rw [if_pos h1];rfl
 ·rw [if_neg h1,if_pos ⟨rfl,hc.resolve_left h1⟩]
theorem wz {E:Nat × Nat}(hy:y<=s.size) (h:run (aV s a true) s.size y m=E) (hc:s.size<=y):E=(a,101):=by
 rw [<-h];refine bG hy ?_;unfold aV;rw [if_pos hc];rfl
theorem tA {E:Nat × Nat}(hy:y<s.size) (h:run (aV s a true) s.size y m=E) (hc:by8 s y=125) (hf:y+1-a<=65535):E=(y+1,0):=by
 rw [<-h];refine bG (by omega) ?_;unfold aV;rw [if_neg (by omega),if_neg (by rintro ⟨e1,e2⟩;cases e1),if_neg (by omega),if_pos ⟨rfl,hc⟩]
end Go.Proofs.YtpdlohfdjiaegaaGreatDoor.Lx
