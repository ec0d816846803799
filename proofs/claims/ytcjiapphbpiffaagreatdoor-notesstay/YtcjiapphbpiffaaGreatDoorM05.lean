import Derived.Shelf.Strings.SlTrimAscii
import Derived.Shelf.Strings.Runes
import Derived.Shelf.Small.Utf8
import Derived.Shelf.LaysM
import Derived.Shelf.Strconv.Clone
import Derived.Shelf.Strings.Search1
import Derived.Laws.Runes
import Derived.Deep.Cut
import Derived.Deep.CutRange
import Derived.Test.YtcjiapphbpiffaaGreatDoorM04
set_option linter.unusedVariables false
set_option linter.unusedSimpArgs false
set_option maxHeartbeats 4000000
set_option maxRecDepth 1000000
namespace Go.Proofs.YtcjiapphbpiffaaGreatDoor.Lx
open Go.RowKit Go.Shelf
def Tryz.lays162_ren:Go.Shelf.Ren:=⟨fun|162=>150|232=>185|227=>186|234=>187|236=>188|228=>215|271=>216|151=>102|120=>230|197=>231|152=>149|260=>248|137=>181|119=>182|224=>183|225=>184|217=>214|266=>229|n=>n,fun|9=>9|4=>4|3=>3|5=>5|117=>269|116=>268|0=>0|124=>272|21=>21|105=>179|46=>176|119=>292|139=>295|138=>294|n=>n,fun|3=>6|4=>7|n=>n⟩
theorem Tryz.lays162:Go.Proofs.Lays.n162 Tryz.prog Tryz.lays162_ren:={
 mixed:=by kernel_rfl
 f119:=Tryz.func182.trans (Tm some (by kernel_rfl))
 f120:=Tryz.func230.trans (Tm some (by kernel_rfl))
 f137:=Tryz.func181.trans (Tm some (by kernel_rfl))
 f151:=Tryz.func102.trans (Tm some (by kernel_rfl))
 f152:=Tryz.func149.trans (Tm some (by kernel_rfl))
 f162:=Tryz.func150.trans (Tm some (by kernel_rfl))
 f197:=Tryz.func231.trans (Tm some (by kernel_rfl))
 f217:=Tryz.func214.trans (Tm some (by kernel_rfl))
 f224:=Tryz.func183.trans (Tm some (by kernel_rfl))
 f225:=Tryz.func184.trans (Tm some (by kernel_rfl))
 f227:=Tryz.func186.trans (Tm some (by kernel_rfl))
 f228:=Tryz.func215.trans (Tm some (by kernel_rfl))
 f232:=Tryz.func185.trans (Tm some (by kernel_rfl))
 f234:=Tryz.func187.trans (Tm some (by kernel_rfl))
 f236:=Tryz.func188.trans (Tm some (by kernel_rfl))
 f260:=Tryz.func248.trans (Tm some (by kernel_rfl))
 f266:=Tryz.func229.trans (Tm some (by kernel_rfl))
 f271:=Tryz.func216.trans (Tm some (by kernel_rfl))
 t0:=Vf
 a0:=Wp
 z0:=V0
 v0:=Vi
 t3:=TO
 a3:=Vv
 z3:=Vj
 v3:=UO
 t4:=UG
 a4:=VP
 z4:=VA
 v4:=U4
 t5:=Ut
 a5:=Vk
 z5:=U7
 v5:=UD
 t9:=TH
 a9:=Vw
 z9:=Vl
 v9:=UP
 t21:=WI
 a21:=Tryz.isAgg21
 z21:=Tryz.sizeOf21
 v21:=WU
 t46:=VF
 a46:=WN
 z46:=WG
 v46:=VQ
 t105:=Tryz.underlying179
 a105:=Tryz.isAgg179
 z105:=Tryz.sizeOf179
 v105:=Tryz.zeroValue179
 t116:=Tryz.underlying268
 a116:=Tryz.isAgg268
 z116:=Tryz.sizeOf268
 t117:=Tryz.underlying269
 a117:=Tryz.isAgg269
 z117:=Tryz.sizeOf269
 v117:=Tryz.zeroValue269
 t119:=Tryz.underlying292
 a119:=Tryz.isAgg292
 z119:=Tryz.sizeOf292
 t124:=Tryz.underlying272
 a124:=Tryz.isAgg272
 z124:=Tryz.sizeOf272
 v124:=Tryz.zeroValue272
 t138:=Tryz.underlying294
 a138:=Tryz.isAgg294
 z138:=Tryz.sizeOf294
 v138:=Tryz.zeroValue294
 t139:=Tryz.underlying295
 a139:=Tryz.isAgg295
 z139:=Tryz.sizeOf295
 v139:=Tryz.zeroValue295
 g3:=by kernel_rfl
 g4:=by kernel_rfl }
def Tryz.lays119_ren:Go.Shelf.Ren:=⟨fun|119=>182|n=>n,fun|21=>21|4=>4|n=>n,fun|n=>n⟩
theorem Tryz.lays119:Go.Proofs.Lays.n119 Tryz.prog Tryz.lays119_ren:={
 mixed:=by kernel_rfl
 f119:=Tryz.func182.trans (Tm some (by kernel_rfl))
 t4:=UG
 a4:=VP
 z4:=VA
 v4:=U4
 t21:=WI
 a21:=Tryz.isAgg21
 z21:=Tryz.sizeOf21
 v21:=WU }
theorem Tryz.utf8_ValidRune (r:Int) (w:World) :
  Ta 182 #[.int .i32 r] w fun e w'=>e=.returned (.bool (Lib.validRune r))/\w'=w:=Any.utf8_ValidRune Tryz.lays119 r w
def Tryz.lays137_ren:Go.Shelf.Ren:=⟨fun|137=>181|217=>214|266=>229|n=>n,fun|9=>9|5=>5|3=>3|n=>n,fun|n=>n⟩
theorem Tryz.lays137:Go.Proofs.Lays.n137 Tryz.prog Tryz.lays137_ren:={
 mixed:=by kernel_rfl
 f137:=Tryz.func181.trans (Tm some (by kernel_rfl))
 f217:=Tryz.func214.trans (Tm some (by kernel_rfl))
 f266:=Tryz.func229.trans (Tm some (by kernel_rfl))
 t3:=TO
 a3:=Vv
 z3:=Vj
 v3:=UO
 t5:=Ut
 a5:=Vk
 z5:=U7
 v5:=UD
 t9:=TH
 a9:=Vw
 z9:=Vl
 v9:=UP }
theorem Tryz.strings_IndexByte (s:ByteArray) (c:Int) (w:World) :
  Ta 181 #[.string s,.int .u8 c] w fun e w'=>e=.returned (.int .i64 (Lib.indexByte s.data.toList c.toNat.toUInt8))/\w'=w:=Any.strings_IndexByte Tryz.lays137 s c w
def Tryz.laysM316_ren:Go.Shelf.Ren:=⟨fun|316=>189|n=>n,fun|9=>9|3=>3|4=>4|37=>39|0=>0|127=>68|5=>5|n=>n,fun|n=>n⟩
theorem Tryz.laysM316:Go.Proofs.LaysM.n316 Tryz.prog Tryz.laysM316_ren:={
 mixed:=by kernel_rfl
 f316:=Tryz.func189.trans (Tm some (by kernel_rfl))
 t0:=Vf
 a0:=Wp
 z0:=V0
 v0:=Vi
 t3:=TO
 a3:=Vv
 z3:=Vj
 v3:=UO
 t4:=UG
 a4:=VP
 z4:=VA
 v4:=U4
 t9:=TH
 a9:=Vw
 z9:=Vl
 v9:=UP
 t37:=Ue
 a37:=W9
 z37:=WO
 v37:=Wb
 t127:=WJ
 a127:=Tryz.isAgg68
 z127:=Tryz.sizeOf68
 v127:=WV
 t5:=Ut
 a5:=Vk
 z5:=U7
 v5:=UD
 i0:=by kernel_rfl
 i3:=by kernel_rfl
 i4:=by kernel_rfl
 i5:=by kernel_rfl
 i9:=by kernel_rfl
 i37:=by kernel_rfl
 i127:=by kernel_rfl }
theorem Tryz.stringslite_Clone (s:ByteArray) (w:World) (C:s.size<=281474976710656) :
  Ta 189 #[.string s] w fun e w'=>e=.returned (.string s)/\Below w.heap.size w w':=Any.stringslite_Clone Tryz.laysM316 s w C
def Tryz.lays151_ren:Go.Shelf.Ren:=⟨fun|151=>102|152=>149|137=>181|119=>182|224=>183|225=>184|217=>214|266=>229|n=>n,fun|9=>9|21=>21|4=>4|3=>3|5=>5|0=>0|46=>176|n=>n,fun|n=>n⟩
theorem Tryz.lays151:Go.Proofs.Lays.n151 Tryz.prog Tryz.lays151_ren:={
 mixed:=by kernel_rfl
 f119:=Tryz.func182.trans (Tm some (by kernel_rfl))
 f137:=Tryz.func181.trans (Tm some (by kernel_rfl))
 f151:=Tryz.func102.trans (Tm some (by kernel_rfl))
 f152:=Tryz.func149.trans (Tm some (by kernel_rfl))
 f217:=Tryz.func214.trans (Tm some (by kernel_rfl))
 f224:=Tryz.func183.trans (Tm some (by kernel_rfl))
 f225:=Tryz.func184.trans (Tm some (by kernel_rfl))
 f266:=Tryz.func229.trans (Tm some (by kernel_rfl))
 t0:=Vf
 a0:=Wp
 z0:=V0
 v0:=Vi
 t3:=TO
 a3:=Vv
 z3:=Vj
 v3:=UO
 t4:=UG
 a4:=VP
 z4:=VA
 v4:=U4
 t5:=Ut
 a5:=Vk
 z5:=U7
 v5:=UD
 t9:=TH
 a9:=Vw
 z9:=Vl
 v9:=UP
 t21:=WI
 a21:=Tryz.isAgg21
 z21:=Tryz.sizeOf21
 v21:=WU
 t46:=VF
 a46:=WN
 z46:=WG
 v46:=VQ }
theorem Tryz.strings_ContainsRune_ascii (s:ByteArray) (r:Int) (w:World) (C:0<=r) (F:r<128) :
  Ta 102 #[.string s,.int .i32 r] w fun e w'=>e=.returned (.bool (decide (0<=Lib.indexByte s.data.toList r.toNat.toUInt8)))/\w'=w:=Any.strings_ContainsRune_ascii Tryz.lays151 s r w C F
theorem Dz (s:ByteArray) (w:World) (C:s.size<=2147483647) :
  Ta 151 #[.string s] w fun e w'=>e=.returned (.string s)/\Below w.heap.size w w':=by
 have F:Hid (Ta 189 #[.string s] w fun e w'=>e=.returned (.string s)/\Tb w w'):=Tryz.stringslite_Clone s w (by omega)
 go_enter Tryz.func151,Tryz.ntmps151
 go_wp2_with (go_at_call 189;refine F.out.mono ?_;rintro e H ⟨rfl,G⟩)
 go_ret
 exact ⟨rfl,G⟩
theorem D8 (s:ByteArray) (w:World) (C:s.size<=2147483647) :
  Ta 150 #[.string s,.string ⟨#[32,9,13]⟩] w fun e w'=>e=.returned (.string ⟨(Lib.trimRightS s.data.toList [32,9,13]).toArray⟩)/\Below w.heap.size w w':=
 Any.strings_TrimRight_laid Tryz.lays162 (by kernel_rfl) s ⟨#[32,9,13]⟩ w (by omega) (by decide) (ascii_of_all (by decide))
theorem Ox (x:UInt8) (h:128<=x.toNat):Lib.indexByte [13] x=-1:=by
 have C:(13:UInt8)≠x:=by rintro rfl;exact absurd h (by decide)
 have F:((13:UInt8) == x)=false:=by simpa using C
 unfold Lib.indexByte;rw [F];rfl
theorem Sg (p:Int) (G C:UInt8) (w:World) (Y:128<=p) (M:p≠65533) (Q:Lib.validRune p=true) (H:Utf8.encode p=⟨#[G,C]⟩) (O:128<=C.toNat) :
  Ta 149 #[.string ⟨#[32,9,13]⟩,.int .i32 p] w fun e w'=>e=.returned (.int .i64 (-1))/\Below w.heap.size w w':=by
 have I:Hid (Ta 182 #[.int .i32 p] w fun e w'=>e=.returned (.bool true)/\w'=w):=by
  have:=Tryz.utf8_ValidRune p w;rw [Q] at this;exact this
 have q1:¬p<128:=by omega
 have q2:(p == 65533)=false:=by simpa using M
 have Z:(0:Int)<=p:=by omega
 have S:IntKind.i64.wrap 2=2:=by decide
 have w3:IntKind.i64.wrap 3=3:=by decide
 have U:∀w,(convert 21 9 (.int .i32 p)).run Tryz.prog w=.ok (.string ⟨#[G,C]⟩) w:=fun w=>by rw [<-H];exact VM w _ _ _ _ rfl TH
 have J:Hid (∀(r:ByteArray) (W:World),r=⟨#[13]⟩->Ta 181 #[.string r,.int .u8 (C.toNat:Int)] W fun e w'=>e=.returned (.int .i64 (-1))/\w'=W):=by
  rintro r W rfl;have:=Tryz.strings_IndexByte ⟨#[13]⟩ (C.toNat:Int) W;rw [Vo] at this
  have e:Lib.indexByte (⟨#[13]⟩:ByteArray).data.toList C.toNat.toUInt8=-1:=by
   rw [show C.toNat.toUInt8=C from UInt8.ofNat_toNat];exact Ox C O
  rw [e] at this;exact this
 have q4:((((⟨#[32,9,13]⟩:ByteArray)[1]'(by decide)).toNat:Int) != (((⟨#[G,C]⟩:ByteArray)[1]'(by show 1<2;decide)).toNat:Int))=true:=by
  show ((9:Int) != (C.toNat:Int))=true
  simp;omega
 clear H
 go_enter WC,Wf
 go_wp2_with (first|(go_at_call 182;refine I.out.mono ?_;rintro e w1 ⟨rfl,F⟩;replace F:=F.symm;subst F))
 go_step3
 go_wp2_with fail
 go_loopw [9] (fun i wr=>i=.int .i64 1/\wr=w) (fun _ _=>0)
 case atStart=>exact ⟨rfl,rfl⟩
 case round=>
  obtain ⟨rfl,F⟩:=hrel;subst F
  go_wp2_with fail
  go_step3
  go_wp2_with fail
  go_quiet (fail)
  go_wp2_with fail
  go_region_law (go_simp;go_at_call 181;refine (J.out _ _ rfl).mono ?_;rintro e S ⟨rfl,F⟩;replace F:=F.symm;subst F)
  all_goals (
   go_wp2_with fail
   (repeat (first|rw [Vm]|simp only [Exit.inBlock]|simp (config:={ zetaDelta:=true }) only [Exit.then,Exit.inBlock,Vm]))
   go_ret
   exact ⟨rfl,eD _ _⟩)
theorem Sf (p:Int) (G H C:UInt8) (w:World) (Y:128<=p) (O:p≠65533) (Q:Lib.validRune p=true) (I:Utf8.encode p=⟨#[G,H,C]⟩) (Z:128<=C.toNat) :
  Ta 149 #[.string ⟨#[32,9,13]⟩,.int .i32 p] w fun e w'=>e=.returned (.int .i64 (-1))/\Below w.heap.size w w':=by
 have J:Hid (Ta 182 #[.int .i32 p] w fun e w'=>e=.returned (.bool true)/\w'=w):=by
  have:=Tryz.utf8_ValidRune p w;rw [Q] at this;exact this
 have q1:¬p<128:=by omega
 have q2:(p == 65533)=false:=by simpa using O
 have q0:(0:Int)<=p:=by omega
 have S:IntKind.i64.wrap 2=2:=by decide
 have w3:IntKind.i64.wrap 3=3:=by decide
 have U:∀w,(convert 21 9 (.int .i32 p)).run Tryz.prog w=.ok (.string ⟨#[G,H,C]⟩) w:=fun w=>by rw [<-I];exact VM w _ _ _ _ rfl TH
 have M:Hid (∀(r:ByteArray) (W:World),r=⟨#[]⟩->Ta 181 #[.string r,.int .u8 (C.toNat:Int)] W fun e w'=>e=.returned (.int .i64 (-1))/\w'=W):=by
  rintro r W rfl;have:=Tryz.strings_IndexByte ⟨#[]⟩ (C.toNat:Int) W;rw [Vo] at this
  have e:Lib.indexByte (⟨#[]⟩:ByteArray).data.toList C.toNat.toUInt8=-1:=by
   rw [show C.toNat.toUInt8=C from UInt8.ofNat_toNat];rfl
  rw [e] at this;exact this
 have q4:((((⟨#[32,9,13]⟩:ByteArray)[2]'(by decide)).toNat:Int) != (((⟨#[G,H,C]⟩:ByteArray)[2]'(by show 2<3;decide)).toNat:Int))=true:=by
  show ((13:Int) != (C.toNat:Int))=true
  simp;omega
 clear I
 go_enter WC,Wf
 go_wp2_with (first|(go_at_call 182;refine J.out.mono ?_;rintro e w1 ⟨rfl,F⟩;replace F:=F.symm;subst F))
 go_step3
 go_wp2_with fail
 go_loopw [9] (fun i wr=>i=.int .i64 2/\wr=w) (fun _ _=>0)
 case atStart=>exact ⟨rfl,rfl⟩
 case round=>
  obtain ⟨rfl,F⟩:=hrel;subst F
  go_wp2_with fail
  go_step3
  go_wp2_with fail
  go_quiet (fail)
  go_wp2_with fail
  go_region_law (go_simp;go_at_call 181;refine (M.out _ _ rfl).mono ?_;rintro e S ⟨rfl,F⟩;replace F:=F.symm;subst F)
  all_goals (
   go_wp2_with fail
   (repeat (first|rw [Vm]|simp only [Exit.inBlock]|simp (config:={ zetaDelta:=true }) only [Exit.then,Exit.inBlock,Vm]))
   go_ret
   exact ⟨rfl,eD _ _⟩)
theorem Se (p:Int) (H I J F:UInt8) (w:World) (U:128<=p) (O:p≠65533) (Q:Lib.validRune p=true) (G:Utf8.encode p=⟨#[H,I,J,F]⟩) (Y:128<=F.toNat) :
  Ta 149 #[.string ⟨#[32,9,13]⟩,.int .i32 p] w fun e w'=>e=.returned (.int .i64 (-1))/\Below w.heap.size w w':=by
 have M:Hid (Ta 182 #[.int .i32 p] w fun e w'=>e=.returned (.bool true)/\w'=w):=by
  have:=Tryz.utf8_ValidRune p w;rw [Q] at this;exact this
 have q1:¬p<128:=by omega
 have q2:(p == 65533)=false:=by simpa using O
 have Z:(0:Int)<=p:=by omega
 have w2:IntKind.i64.wrap 2=2:=by decide
 have w3:IntKind.i64.wrap 3=3:=by decide
 have S:∀w,(convert 21 9 (.int .i32 p)).run Tryz.prog w=.ok (.string ⟨#[H,I,J,F]⟩) w:=fun w=>by rw [<-G];exact VM w _ _ _ _ rfl TH
 clear G
 go_enter WC,Wf
 go_wp2_with (first|(go_at_call 182;refine M.out.mono ?_;rintro e w1 ⟨rfl,C⟩;replace C:=C.symm;subst C))
 go_step3
 go_wp2_with fail
 go_loopw [9] (fun i wr=>i=.int .i64 3/\wr=w) (fun _ _=>0)
 case atStart=>exact ⟨rfl,rfl⟩
 case round=>
  obtain ⟨rfl,C⟩:=hrel;subst C
  go_wp2_with fail
  (repeat (first|rw [Vm]|simp only [Exit.inBlock]))
  go_ret
  exact ⟨rfl,hH _ _⟩
theorem Lc (p:Int) (w:World) (I:128<=p) (G:p≠65533) (H:Lib.validRune p=false) :
  Ta 149 #[.string ⟨#[32,9,13]⟩,.int .i32 p] w fun e w'=>e=.returned (.int .i64 (-1))/\Below w.heap.size w w':=by
 have F:Hid (Ta 182 #[.int .i32 p] w fun e w'=>e=.returned (.bool false)/\w'=w):=by
  have:=Tryz.utf8_ValidRune p w;rw [H] at this;exact this
 have M:¬p<128:=by omega
 have O:(p == 65533)=false:=by simpa using G
 have J:(0:Int)<=p:=by omega
 go_enter WC,Wf
 go_wp2_with (first|(go_at_call 182;refine F.out.mono ?_;rintro e Q ⟨rfl,C⟩;replace C:=C.symm;subst C))
 (repeat (first|rw [Vm]|simp only [Exit.inBlock]))
 go_ret
 exact ⟨rfl,hH _ _⟩
theorem OT:∀pos,pos<3->Utf8.decode ⟨#[32,9,13]⟩ pos=((⟨#[32,9,13]⟩:ByteArray).get! pos |>.toNat,1)/\((⟨#[32,9,13]⟩:ByteArray).get! pos).toNat<128:=by decide
theorem Lb (w:World) :
  Ta 149 #[.string ⟨#[32,9,13]⟩,.int .i32 65533] w fun e w'=>e=.returned (.int .i64 (-1))/\Below w.heap.size w w':=by
 obtain ⟨s,G⟩:∃s:ByteArray,s=⟨#[32,9,13]⟩:=⟨_,rfl⟩;have M:s.size=3:=by rw [G];rfl
 have hd:∀pos,pos<3->dw s pos=1/\dp s pos<128:=fun pos F=>by
  obtain ⟨H,I⟩:=OT pos F;unfold dw dp;rw [G,H];exact ⟨rfl,I⟩
 rw [<-G];clear G
 go_enter WC,Wf
 go_wp2_with fail
 go_loopw [] (fun w'=>∃pos:Nat,pos<=3/\w'=w.iter s pos) (fun w'=>s.size-w'.iterPos w.heap.size)
 case atStart=>exact ⟨0,by omega,rfl⟩
 case round=>
  obtain ⟨pos,J,rfl⟩:=hrel
  by_cases F:pos<s.size
  ·have hnx:∀C,(Instr.next (.pointer (some ⟨w.heap.size,0,none⟩)) true C).run Tryz.prog (w.iter s pos)=_:=fun C=>Wz w s pos C F
   obtain ⟨d1,d2⟩:=hd pos (by omega);unfold dw at d1;unfold dp at d2;have O:(((Utf8.decode s pos).1:Int) == 65533)=false:=by simp;omega
   go_wp2_with fail
   exact ⟨⟨pos+1,by omega,rfl⟩,by simp;omega⟩
  ·have hnx:∀C,(Instr.next (.pointer (some ⟨w.heap.size,0,none⟩)) true C).run Tryz.prog (w.iter s pos)=_:=fun C=>WZ w s pos C F
   go_wp2_with fail
   go_ret
   exact ⟨rfl,eC _ _ _⟩
end Go.Proofs.YtcjiapphbpiffaaGreatDoor.Lx
namespace Go.Proofs.YtcjiapphbpiffaaGreatDoor.Lx
open Go.RowKit
variable {s R:ByteArray}{a y m g k f q b x:Nat}{o:Bool}{w0 W w':World}{l:List Tv}{p n:Int}
theorem Sv (h:R.size=2):∃C F,R=⟨#[C,F]⟩:=by
 obtain ⟨⟨l⟩⟩:=R
 match l,h with
 |[C,F],_=>exact ⟨C,F,rfl⟩
theorem Su (h:R.size=3):∃C F G,R=⟨#[C,F,G]⟩:=by
 obtain ⟨⟨l⟩⟩:=R
 match l,h with
 |[C,F,G],_=>exact ⟨C,F,G,rfl⟩
theorem St (h:R.size=4):∃C F G H,R=⟨#[C,F,G,H]⟩:=by
 obtain ⟨⟨l⟩⟩:=R
 match l,h with
 |[C,F,G,H],_=>exact ⟨C,F,G,H,rfl⟩
theorem Lf (p:Int) (w:World) (C:128<=p) :
  Ta 149 #[.string ⟨#[32,9,13]⟩,.int .i32 p] w fun e w'=>e=.returned (.int .i64 (-1))/\Below w.heap.size w w':=by
 by_cases F:p=65533
 ·subst F;exact Lb w
 ·cases G:Lib.validRune p with
  |false=>exact Lc p w C F G
  |true=>
   obtain ⟨Q,S,O⟩:=encode_facts p (by rw [validRune_eq];exact G) C;have J:=O (by omega);obtain ⟨R,hR⟩:∃R,Utf8.encode p=R:=⟨_,rfl⟩;simp only [hR] at Q S O J
   rcases (show R.size=2\/R.size=3\/R.size=4 by omega) with h|h|h
   ·obtain ⟨H,I,rfl⟩:=Sv h;exact Sg p H I w C F G hR J
   ·obtain ⟨H,I,M,rfl⟩:=Su h;exact Sf p H I M w C F G hR J
   ·obtain ⟨H,I,M,U,rfl⟩:=St h;exact Se p H I M U w C F G hR J
theorem Kr:∀n:Nat,n<128->decide ((0:Int)<=Lib.indexByte [32,9,13] n.toUInt8)=decide (n=32\/n=9\/n=13):=by decide
def qJ (p:Int):Bool:=decide (p=32\/p=9\/p=13)
theorem ut (p:Int) (w:World) (G:0<=p) :
  Ta 102 #[.string ⟨#[32,9,13]⟩,.int .i32 p] w fun e w'=>e=.returned (.bool (qJ p))/\Below w.heap.size w w':=by
 by_cases h:p<128
 ·refine (Tryz.strings_ContainsRune_ascii ⟨#[32,9,13]⟩ p w G h).mono ?_;rintro e w' ⟨rfl,rfl⟩;refine ⟨?_,hH _ _⟩;have e:=Kr p.toNat (by omega);have C:decide (p.toNat=32\/p.toNat=9\/p.toNat=13)=qJ p:=by unfold qJ;rw [UF];omega
  rw [<-C,<-e]
 ·have F:Hid (Ta 149 #[.string ⟨#[32,9,13]⟩,.int .i32 p] w fun e w'=>e=.returned (.int .i64 (-1))/\Tb w w'):=Lf p w (by omega);have C:qJ p=false:=by unfold qJ;rw [Uf];omega
  rw [C];clear C
  go_enter Tryz.func102,Tryz.ntmps102
  go_wp2_with (go_at_call 149;refine F.out.mono ?_;rintro e I ⟨rfl,H⟩)
  go_ret
  exact ⟨rfl,H⟩
theorem mS (p:Int) (w:World) (F:0<=p) :
  Ta 56 #[.int .i32 p] w fun e w'=>e=.returned (.bool (qJ p))/\Below w.heap.size w w':=by
 have C:Hid (Ta 102 #[.string ⟨#[32,9,13]⟩,.int .i32 p] w fun e w'=>e=.returned (.bool (qJ p))/\Tb w w'):=ut p w F
 generalize qJ p=r at *
 go_enter Tryz.func56,Tryz.ntmps56
 go_wp2_with (go_at_call 102;refine C.out.mono ?_;rintro e H ⟨rfl,G⟩)
 go_ret
 exact ⟨rfl,G⟩
theorem Hv (b:UInt8):[(32:UInt8),9,13].contains b=cq b.toNat:=by
 unfold cq;simp only [List.contains_cons,List.contains_nil,Bool.or_false];rw [Up];simp only [Th,TY,<-Wo];constructor
 ·rintro (h|h|h)
  ·exact .inl (.inl h)
  ·exact .inl (.inr h)
  ·exact .inr h
 ·rintro ((h|h)|h)
  ·exact .inl h
  ·exact .inr (.inl h)
  ·exact .inr (.inr h)
theorem AZ (s:ByteArray) (a p j:Nat) (b:UInt8) (G:p<=s.size) (h:(s.extract a p).data.toList[j]?=some b):j<p-a/\ay s (a+j)=b.toNat:=by
 have I:=av s a p G;have C:j<(s.extract a p).data.toList.length:=(Te.1 h).1;have H:(s.extract a p).data.toList.length=(s.extract a p).size:=by rw [TQ];rfl
 refine ⟨by omega,?_⟩;have e:=aI s a p j (by omega);rw [<-e];unfold ay;have F:=(Te.1 h).2
 have:(s.extract a p).get! j=b:=by
  show (s.extract a p).data[j]! = b
  rw [VZ (s.extract a p).data j (by rw [TQ] at C;exact C)]
  simpa using F
 rw [this]
theorem Jb (s:ByteArray) (a p:Nat) (H:a<p) (G:p<=s.size) (S:cq (ay s a)=false):(⟨(Lib.trimRightS (s.extract a p).data.toList [32,9,13]).toArray⟩:ByteArray)=s.extract a (aV s p):=by
 have Z:=dG s p;have h2:=gU s a S p H;have O:=gj s p;have hz:=av s a p G;have hl:(s.extract a p).data.toList.length=(s.extract a p).size:=by rw [TQ];rfl
 have e:Lib.trimRightS (s.extract a p).data.toList [32,9,13]=(s.extract a p).data.toList.take (aV s p-a):=by
  refine Lib.trimRightS_take _ _ _ (by omega) (fun j b J F=>?_) (fun b Y F=>?_)
  ·obtain ⟨M,C⟩:=AZ s a p j b G F;rw [Hv,<-C];exact O (a+j) (by omega) (by omega)
  ·obtain ⟨M,C⟩:=AZ s a p _ b G F;rw [Hv,<-C];have Q:a+(aV s p-a-1)=aV s p-1:=by omega
   rw [Q]
   have I:∀q,0<aV s q->cq (ay s (aV s q-1))=false:=by
    intro q
    induction q with
    |zero=>intro h;exact absurd h (by simp [aV])
    |succ q ih=>
     intro h;unfold aV at h ⊢
     by_cases e:cq (ay s q)=true
     ·rw [IO e] at h ⊢;exact ih h
     ·rw [Eq e] at h ⊢;simpa using e
   exact I p (by omega)
 rw [e];refine dr _ _ ?_ (fun j J=>?_)
 ·rw [av s a _ (by omega)];show ((s.extract a p).data.toList.take (aV s p-a)).toArray.size=_;simp;omega
 ·have U:j<aV s p-a:=by
   have:(⟨((s.extract a p).data.toList.take (aV s p-a)).toArray⟩:ByteArray).size=((s.extract a p).data.toList.take (aV s p-a)).length:=by show Array.size _=_;simp
   rw [this,Ty] at J;omega
  rw [aI s a _ j (by omega)];rw [<-aI s a p j (by omega)];unfold ay
  congr 1
  show ((s.extract a p).data.toList.take (aV s p-a)).toArray[j]! = (s.extract a p).data[j]!
  rw [VZ _ j (by simp;omega),VZ _ j (by have:(s.extract a p).data.size=(s.extract a p).size:=rfl;omega)];simp
def TP (w0 w':World) (g:Nat) (s:ByteArray) (k a f:Nat) (l:List Tv):Prop:=
 if (ap s a k).2=0 then Rs w0 w' g s (ap s a k).1 a 0 (l++[tv s (bS s k a (ap s a k).1 f)])
 else ∃a',bd s a'/\a<=a'/\Rs w0 w' g s a' a f l/\((ap s a k).2=102->a'=(ap s a k).1)
theorem TP.ok (C:ap s a k=(y,0)) (h:Rs w0 w' g s y a 0 (l++[tv s (bS s k a y f)])):TP w0 w' g s k a f l:=by
 unfold TP;rw [C,IO rfl];exact h
theorem TP.bad {e a':Nat}(F:ap s a k=(y,e)) (I:e≠0) (H:bd s a') (G:a<=a') (h:Rs w0 w' g s a' a f l) (C:e=102->a'=y):TP w0 w' g s k a f l:=by
 unfold TP;rw [F,Eq I];exact ⟨a',H,G,h,C⟩
def gr (w:World) (g k:Nat):Nat:=match w.cell? ⟨g,k,none⟩ with
 |some (.int _ n)=>n.toNat
 |_=>0
theorem Hb {w:World}{n:Nat}(h:w.cell? ⟨g,k,none⟩=some (.int .i64 (n:Nat))):gr w g k=n:=by
 unfold gr;rw [h];simp
theorem Rs.at (h:Rs w0 W g s a b f l):gr W g 1=a:=by
 obtain ⟨F,G,v,C,H⟩:=h;exact Hb (Rq.cells C).2.1
theorem Gk (s:ByteArray) (y:Nat) (h:gd s y=false):dp s y=65533:=by unfold dp;rw [Om s y h]
theorem NL:iq (-1)=false:=by decide
theorem NM:iq 65533=false:=by decide
theorem Oa:fL 65533=false:=by decide
theorem Kd (s:ByteArray) (y:Nat):iq (bk s y)=(decide (y<s.size) && (gd s y && iq (dp s y))):=by
 by_cases h:y<s.size
 ·rw [gO h,Tf h,T6];cases e:gd s y with
  |true=>rfl
  |false=>rw [Gk s y e];exact NM
 ·rw [kH (by omega),Tg h,NL];rfl
theorem eG (s:ByteArray) (y:Nat) (h:y<s.size):fL (bk s y)=(gd s y && fL (dp s y)):=by
 rw [gO h];cases e:gd s y with
 |true=>rfl
 |false=>rw [Gk s y e];exact Oa
theorem eh (s:ByteArray) (y:Nat):(decide (48<=bk s y) && decide (bk s y<=57))=(decide (y<s.size) && cK (ay s y)):=by
 by_cases h:y<s.size
 ·rw [gO h,Tf h,T6];unfold cK;rw [Up];simp only [Tc,Tz];constructor
  ·rintro ⟨C,F⟩;have:=GV s y (by omega);omega
  ·rintro ⟨C,F⟩;have:=(bp s y (by omega)).2.1;omega
 ·rw [kH (by omega),Tg h];rfl
theorem bL (s:ByteArray) (y c:Nat) (hc:c<128) (h:y<s.size):bk s y=(c:Int)↔ay s y=c:=by
 rw [gO h];constructor
 ·intro e;exact (MF s y c hc).1 (by omega)
 ·intro e;have:=(MF s y c hc).2 e;omega
theorem dJ (s:ByteArray) (y:Nat):bk s y=-1↔s.size<=y:=by
 by_cases h:y<s.size
 ·rw [gO h];constructor <;> intro _ <;> omega
 ·rw [kH (by omega)];constructor <;> intro _ <;> first|omega|rfl
theorem GY (s:ByteArray) (y:Nat) (h:y<s.size):(decide (bk s y<32) || decide (bk s y=127))=gy s y:=by
 rw [gO h];unfold gy;cases e:gd s y with
 |true=>grind
 |false=>rw [Gk s y e];rfl
theorem Qv (s:ByteArray) (y:Nat) (h:y<s.size):qJ (bk s y)=cq (ay s y):=by
 unfold qJ cq;rw [Up];simp only [Th,Tz,TY];have C:=bL s y 32 (by decide) h;have F:=bL s y 9 (by decide) h;have G:=bL s y 13 (by decide) h;constructor
 ·grind
 ·grind
theorem Ns {E:Nat × Nat}(F:x<s.size) (h:run (cg s a k) s.size x m=E) (C:cg s a k x m=.on (dw s x)):x+dw s x<=s.size/\run (cg s a k) s.size (x+dw s x) (m+1)=E:=by
 refine ⟨(aW s x F).2.2,?_⟩;rw [<-fK (cY s a k) (by omega) C];exact h
theorem vD {E:Nat × Nat}(F:y<=s.size) (h:run (cg s a k) s.size y m=E) (hc:s.size<=y\/(k=1/\(gd s y && iq (dp s y))=false)\/(k=3/\cK (ay s y)=false)):E=(y,0):=by
 rw [<-h];refine cB F ?_;unfold cg
 by_cases C:s.size<=y
 ·rw [IO C]
 ·rw [Eq C,IO (hc.resolve_left C)]
theorem vE {E:Nat × Nat}(F:y<s.size) (h:run (cg s a k) s.size y m=E) (hc:¬((k=1/\(gd s y && iq (dp s y))=false)\/(k=3/\cK (ay s y)=false))) (C:65535<y+dw s y-a):E=(a,103):=by
 rw [<-h];refine cB (by omega) ?_;unfold cg;rw [Eq (by omega),Eq hc,IO C]
theorem sQ (F:y<s.size) (hc:¬((k=1/\(gd s y && iq (dp s y))=false)\/(k=3/\cK (ay s y)=false))) (C:¬65535<y+dw s y-a):cg s a k y m=.on (dw s y):=by
 unfold cg;rw [Eq (by omega),Eq hc,Eq C]
theorem pk {E:Nat × Nat}(C:y<=s.size) (h:run (cE s a q o) s.size y m=E) (hc:s.size<=y\/ay s y=10):E=(a,101):=by
 rw [<-h];refine cB C ?_;unfold cE;rw [IO hc]
theorem E9 {E:Nat × Nat}(F:y<s.size) (h:run (cE s a q o) s.size y m=E) (hc:ay s y≠10) (C:65535<y+dw s y-a):E=(a,103):=by
 rw [<-h];refine cB (by omega) ?_;unfold cE;rw [Eq (by rintro (h|h);omega;exact hc h),IO C]
theorem Ai {E:Nat × Nat}(G:y<s.size) (h:run (cE s a q o) s.size y m=E) (hc:ay s y≠10) (C:¬65535<y+dw s y-a) (F:ay s y=q/\(o=false\/m=1)):E=(y+1,0):=by
 rw [<-h];refine cB (by omega) ?_;unfold cE;rw [Eq (by rintro (h|h);omega;exact hc h),Eq C,IO F]
theorem ju {E:Nat × Nat}(H:y<s.size) (h:run (cE s a q o) s.size y m=E) (hc:ay s y≠10) (F:¬65535<y+dw s y-a) (G:¬(ay s y=q/\(o=false\/m=1))) (C:gy s y=true\/(o=true/\(m=1\/ay s y=q))):E=(y,102):=by
 rw [<-h];refine cB (by omega) ?_;unfold cE;rw [Eq (by rintro (h|h);omega;exact hc h),Eq F,Eq G,IO C]
theorem vL {E:Nat × Nat}(H:y<s.size) (h:run (cE s a q o) s.size y m=E) (hc:ay s y≠10) (F:¬65535<y+dw s y-a) (G:¬(ay s y=q/\(o=false\/m=1))) (C:¬(gy s y=true\/(o=true/\(m=1\/ay s y=q)))):run (cE s a q o) s.size (y+dw s y) (m+1)=E:=by
 rw [<-h];refine (fK (fp s a q o) (by omega) ?_).symm;unfold cE;rw [Eq (by rintro (h|h);omega;exact hc h),Eq F,Eq G,Eq C]
theorem LG (m:Nat) (J:y<s.size) (H:o=false->ay s y≠10) (C:o=true->ay s y≠125) (I:y+1-a<=65535):run (bF s a o) s.size y m=run (bF s a o) s.size (y+1) (m+1):=by
 refine fK (dm s a o) (by omega) ?_;unfold bF;rw [Eq (by omega),Eq (by rintro ⟨F,G⟩;exact H F G),Eq (by omega),Eq (by rintro ⟨F,G⟩;exact C F G)]
theorem uu :∀(i m:Nat),(∀j,j<i->y+j<s.size/\(o=false->ay s (y+j)≠10)/\(o=true->ay s (y+j)≠125)/\y+j+1-a<=65535)->run (bF s a o) s.size y m=run (bF s a o) s.size (y+i) (m+i)
 |0,m,_=>rfl
 |i+1,m,h=>by
  rw [uu i m (fun j I=>h j (by omega))];obtain ⟨C,F,G,H⟩:=h i (by omega);exact LG (m+i) C F G H
theorem zj (s:ByteArray) (y j:Nat) (F:y<s.size) (C:j<dw s y):y+j<s.size/\(j≠0->ay s (y+j)≠10/\ay s (y+j)≠125):=by
 have:=(aW s y F).2.2;refine ⟨by omega,fun h=>?_⟩;have:=(jI s y j (by omega) C).2;omega
theorem OK {E:Nat × Nat}(m:Nat) (I:y<s.size) (J:o=false->ay s y≠10) (C:o=true->ay s y≠125) (O:y+dw s y-a<=65535) (h:run (bF s a o) s.size y m=E):run (bF s a o) s.size (y+dw s y) (m+dw s y)=E:=by
 rw [<-h];refine (uu (dw s y) m (fun j G=>?_)).symm;obtain ⟨F,M⟩:=zj s y j I G;refine ⟨F,fun H=>?_,fun H=>?_,by omega⟩
 ·grind
 ·grind
theorem xk {E:Nat × Nat}(m:Nat) (H:y<s.size) (G:o=false->ay s y≠10) (S:a<=y) (Y:y-a<=65535) (Z:65535<y+dw s y-a) (h:run (bF s a o) s.size y m=E):E=(a,103):=by
 obtain ⟨i,hi⟩:∃i,y+i=a+65535:=⟨a+65535-y,by omega⟩;have ai:i<dw s y:=by omega
 obtain ⟨d1,d2,U⟩:=aW s y H
 have C:∀z m,z<s.size->(o=false->ay s z≠10)->65535<z+1-a->run (bF s a o) s.size z m=(a,103):=by
  intro z m hz J F;refine cB (by omega) ?_;unfold bF;rw [Eq (by omega),Eq (by rintro ⟨O,I⟩;exact J O I),IO F]
 by_cases Q:i=0
 ·rw [<-h];exact C y m H G (by omega)
 ·by_cases c:o=true/\ay s y=125
  ·exfalso
   have:=(bp s y (by omega)).1;omega
  ·rw [<-h,uu i m (fun j hj=>?_)]
   ·have F:=zj s y i H ai;exact C (y+i) _ F.1 (fun _=>(F.2 Q).1) (by omega)
   ·obtain ⟨J,F⟩:=zj s y j H (by omega);refine ⟨J,fun M=>?_,fun M=>?_,by omega⟩
    ·by_cases e:j=0
     ·subst e;exact G M
     ·exact (F e).1
    ·by_cases e:j=0
     ·subst e;exact fun I=>c ⟨M,I⟩
     ·exact (F e).2
theorem G8 {E:Nat × Nat}(F:y<=s.size) (h:run (bF s a false) s.size y m=E) (hc:s.size<=y\/ay s y=10):E=(y,0):=by
 rw [<-h];refine cB F ?_;unfold bF
 by_cases C:s.size<=y
 ·rw [IO C];rfl
 ·rw [Eq C,IO ⟨rfl,hc.resolve_left C⟩]
theorem G7 {E:Nat × Nat}(C:y<=s.size) (h:run (bF s a true) s.size y m=E) (hc:s.size<=y):E=(a,101):=by
 rw [<-h];refine cB C ?_;unfold bF;rw [IO hc];rfl
theorem Dv {E:Nat × Nat}(H:y<s.size) (h:run (bF s a true) s.size y m=E) (hc:ay s y=125) (G:y+1-a<=65535):E=(y+1,0):=by
 rw [<-h];refine cB (by omega) ?_;unfold bF;rw [Eq (by omega),Eq (by rintro ⟨C,F⟩;cases C),Eq (by omega),IO ⟨rfl,hc⟩]
theorem Rq.told {v v':Value}(I:Below w0.heap.size w0 W) (F:w0.heap.size<=g) (G:RB W g s a p n b f v) (H:Rt w0.heap.size W v' l) :
  Rq w0 ((W.setCell ⟨g,8,none⟩ v').setCell ⟨g,7,none⟩ (.int .i64 0)) g s a p n b 0 l:=by
 have C:=H.ne G (by decide);refine ⟨(I.setCell (p:=⟨g,8,none⟩) F _).setCell (p:=⟨g,7,none⟩) F _,F,v',?_,?_⟩
 ·exact aj (aj G 8 _) 7 _
 ·exact (H.kp (Kp.set _ g 8 _) C).kp (Kp.set _ g 7 _) C
theorem Ep {I:Array Oper}{o:Oper}{a:Act}{K:Act->World->Prop}{Q:Exit->Act->World->Prop}{E:Prop}(C:o.guard=none) (s x:Operand)
  (ho:o.op=.call { callee:=.builtin .append,args:=#[s,x],argTypes:=#[35,35] }) (B:Nat) (v:Value) (l:List Tv) (d:Tv) (hs:a.eval s=v) (O:Rt B W v l)
  (g c:Nat) (hx:a.eval x=.slice (some ⟨g,0,none⟩) 1 c) (Y:W.heap[g]?=some (.cells #[.int .u8 d.k,.string d.t,.int .i64 d.a,.int .i64 d.l,.int .i64 d.c,.int .i64 d.f] 49 (0,0))) (hl:l.length<=2147483647) (M:B<=W.heap.size)
  (h:∀q cap w',Rt B w' (.slice (some ⟨q,0,none⟩) (l.length+1) cap) (l++[d])->Below B W w'->W.grownBy w' v.ownBlock->K (a.put o.dst (.slice (some ⟨q,0,none⟩) (l.length+1) cap)) w') :
  if Region.wanted o (yielded I a.tmps)=true then Oper.wp Tryz.prog o a W K Q else E:=by
 obtain ⟨i0,Z,F,G,H⟩:=T7 Tryz.info49;refine Vt W C s x 35 ho B 49 i0 _ 6 56 Tryz.underlying35 Z F G H rfl (by decide) v _ _ hs O ⟨g,0,none⟩ 1 c (IG [d]) hx (by rw [Jj];rfl) ?_ (Ji [d]) (by omega) (by unfold maxLen;omega) (by omega) M _ rfl ?_
 ·intro j u S;refine TX Y j u ?_;have e:IG [d]=[.int .u8 d.k,.string d.t,.int .i64 d.a,.int .i64 d.l,.int .i64 d.c,.int .i64 d.f]:=by simp [IG,bB,Tv.cs]
  rw [e] at S
  simpa using S
 ·intro q cap w' U J a3 _;refine h q cap w' ?_ ((hH B W).grown J M O.own) J;unfold Rt;rw [Or,Jk];exact U
theorem BQ (h:Rq w0 W g s a p n b f l) (k:Nat) (T:ByteArray) (Q:(if k=7 then s.extract b (aV s a) else s.extract b a)=T) (h7:k=7->b<a/\cq (ay s b)=false) (hs:s.size<=2147483647) (ah:b<=a) (ha:a<=s.size) (hl:l.length<=2147483647) :
  Ta 106 #[.pointer (some ⟨g,0,none⟩),.int .u8 k] W fun e w'=>e=.returned (.int .i64 0)/\Rq w0 w' g s a p n b 0 (l++[⟨k,T,b,pL s b,pC s b,f⟩]):=by
 obtain ⟨h1,h2,v,h3,h4⟩:=h
 have ae:T.size<=2147483647:=by
  rw [<-Q];have:=dG s a
  split
  ·rw [av s b _ (by omega)];omega
  ·rw [av s b a ha];omega
 obtain ⟨U,S⟩:∃U,s.extract b a=U:=⟨_,rfl⟩
 have ad:Hid (k=7->∀V,Ta 150 #[.string U,.string ⟨#[32,9,13]⟩] V fun e w'=>e=.returned (.string T)/\Tb V w'):=fun F V=>by
  have h8:=D8 U V (by rw [<-S,av s b a ha];omega);rw [IO F] at Q;rw [<-S,Jb s b a (h7 F).1 ha (h7 F).2,Q] at h8;rw [<-S];exact h8
 have ac:Hid (k≠7->U=T):=fun F=>by rw [Eq F] at Q;rw [<-S];exact Q
 have HB:Hid (Ta 113 #[.pointer (some ⟨g,0,none⟩)] W fun e w'=>e=.returned (.string U)/\∃m,w'=W.drewN m):=by rw [<-S];exact jK h3 hs ah ha
 have HC:Hid (∀V,Ta 151 #[.string T] V fun e w'=>e=.returned (.string T)/\Tb V w'):=fun V=>Dz T V ae
 have HK:Hid (∀V,Tb W V->Tb w0 V/\RB V g s a p n b f v/\Rt w0.heap.size V v l):=fun V G=>⟨h1.trans (G.mono h1.size),ag h3 G,h4.below G⟩
 obtain ⟨Z,Y,rfl,al,am⟩:=h4.shape;clear h1 h3 h4 Q h7 S
 go_enter Tryz.func106,Tryz.ntmps106
 go_upto_if 9 with (first|(go_at_call 113;refine HB.out.mono ?_;rintro e w1 ⟨rfl,m,hw⟩;have C:=eD W m;rw [<-hw] at C;clear hw))
 go_cut [5] from 9 (fun t wx=>t=.string T/\Hid (Below W.heap.size W wx))
 case first=>
  by_cases F:k=7
  ·have q1:((k:Int) == 7)=true:=by simp;omega
   have I:Hid (k=7):=F;clear F
   go_wp2_with (first|(go_at_call 150;refine (ad.out I.out _).mono ?_;rintro e w2 ⟨rfl,J⟩))
   go_meet
   exact ⟨rfl,C.trans (J.mono C.size)⟩
  ·have q1:((k:Int) == 7)=false:=by simp;omega
   have I:Hid (k≠7):=F;clear F
   go_wp2_with fail
   go_meet
   exact ⟨by rw [ac.out I.out],C⟩
 case rest=>
  obtain ⟨rfl,HW⟩:=hcut;have C:=HW.out
  go_wp2_with fail
  have H:Hid (∀V,Tb wc V->Tb w0 V/\RB V g s a p n b f (.slice Z l.length Y)/\Rt w0.heap.size V (.slice Z l.length Y) l):=fun V G=>HK.out V (C.trans (G.mono C.size))
  obtain ⟨_,k3,_⟩:=H.out _ (hH _ _);obtain ⟨c0,c1,c2,c3,c4,c5,c6,c7,c8⟩:=Rq.cells k3;have ak:=au k3;clear HK HB C k3 c0 c1 c2 c3
  have HA:Hid (∀V q cap w',Tb wc V->Rt w0.heap.size w' (.slice (some ⟨q,0,none⟩) (l.length+1) cap) (l++[⟨k,T,b,pL s b,pC s b,f⟩])->Below w0.heap.size V w'->V.grownBy w' (Value.slice Z l.length Y).ownBlock->RB w' g s a p n b f (.slice Z l.length Y)/\Tb w0 w'):=fun V q cap w' hV hr G hg=>by
   obtain ⟨x1,x3,x4⟩:=H.out _ hV;exact ⟨(Kp.of_grown hg).blk x3 (fun e=>x4.ne x3 (by decide) _ e.symm rfl),x1.trans G⟩
  go_region_law (first|(go_simp;go_at_call 151;refine (HC.out _).mono ?_;rintro e w2 ⟨rfl,J⟩;have M:Below wc.heap.size wc w2:=(hH wc.heap.size wc).drew.trans (J.mono (gt _));obtain ⟨y1,y3,yr⟩:=H.out _ M;obtain ⟨_,_,_,_,y4,y5,y6,y7,y8⟩:=Rq.cells y3;have aj:=au y3;have ai:=y1.size)|(refine Ep (by rfl) _ _ (by rfl) w0.heap.size (.slice Z l.length Y) l ⟨k,T,b,pL s b,pC s b,f⟩ (by rfl) (yr.below ((hH _ _).alloc (gt _) _)) w2.heap.size 1 (by rfl) (aq _ _) hl (by rw [SX];exact Nat.le_succ_of_le ai) ?_;intro q cap w3 O aa ab;obtain ⟨z3,z1⟩:=HA.out _ _ _ _ (M.alloc M.size _) O aa ab;have HF:Hid (Rq w0 ((w3.setCell ⟨g,8,none⟩ (.slice (some ⟨q,0,none⟩) (l.length+1) cap)).setCell ⟨g,7,none⟩ (.int .i64 0)) g s a p n b 0 (l++[⟨k,T,b,pL s b,pC s b,f⟩])):=Rq.told z1 h2 z3 O;have zf:=z3.frozen 8;have zc:w3.cell? ⟨g,8,none⟩=some (.slice Z l.length Y):=af z3 rfl;have zg:=z3.frozen 7;have zd:w3.cell? ⟨g,7,none⟩=some (.int .i64 f):=af z3 rfl;clear O aa ab z3 z1 y1 y3 yr))
  all_goals (
   go_wp2_with fail
   go_ret
   exact ⟨rfl,HF.out⟩)
theorem dy (h:Rs w0 W g s y a f l) (k:Nat) (I:s.size<=2147483647) (C:a<=y) (J:y<=s.size) (G:l.length<=2147483647) (F:k=7->a<y/\cq (ay s a)=false) :
  Ta 106 #[.pointer (some ⟨g,0,none⟩),.int .u8 k] W fun e w'=>e=.returned (.int .i64 0)/\Rs w0 w' g s y a 0 (l++[tv s ⟨k,a,if k=7 then aV s y else y,f⟩]):=by
 refine (BQ h k _ rfl F I C J G).mono ?_;rintro e w' ⟨rfl,H⟩;refine ⟨rfl,?_⟩
 have e:tv s ⟨k,a,if k=7 then aV s y else y,f⟩=⟨k,if k=7 then s.extract a (aV s y) else s.extract a y,a,pL s a,pC s a,f⟩:=by
  unfold tv
  by_cases e:k=7
  ·simp only [IO e]
  ·simp only [Eq e]
 rw [e];exact H
theorem QA (h:ak s a=3):cK (ay s a)=true:=by
 unfold ak at h
 repeat' split at h
 all_goals first|assumption|(cases h;done)
theorem QB (h:ak s a=1):(gd s a && fL (dp s a))=true:=by
 unfold ak at h
 repeat' split at h
 all_goals first|assumption|(cases h;done)
theorem Qz (h:ak s a=4):ay s a=34:=by
 unfold ak at h
 repeat' split at h
 all_goals first|assumption|(cases h;done)
theorem Qy (h:ak s a=5):ay s a=39:=by
 unfold ak at h
 repeat' split at h
 all_goals first|assumption|(cases h;done)
theorem OW (h:ak s a=7):ay s a=47/\a+1<s.size/\ay s (a+1)=47:=by
 unfold ak at h
 repeat' split at h
 all_goals first|assumption|(cases h;done)
theorem Qx (h:ak s a=8):ay s a=123:=by
 unfold ak at h
 repeat' split at h
 all_goals first|assumption|(cases h;done)
theorem OH {c:Nat}(h:cK c=true):48<=c/\c<=57:=by
 unfold cK at h
 simpa using h
structure JN (w0 W:World) (g:Nat) (s:ByteArray) (k a f:Nat) (l:List Tv) (x:Nat):Prop where
 ax:a<=x
 xs:x<s.size
 bx:bd s x
 rs:Rs w0 W g s x a f l
 on:∃m,run (cg s a k) s.size x m=ap s a k/\cg s a k x m=.on (dw s x)
theorem JN.next {W':World}(h:JN w0 W g s k a f l x) (F:Rs w0 W' g s (x+fw s x) a f l) :
  ∃y,x<y/\a<=y/\y<=s.size/\bd s y/\Rs w0 W' g s y a f l/\∃m,run (cg s a k) s.size y m=ap s a k:=by
 obtain ⟨J,C,G,M,m,H,I⟩:=h;obtain ⟨e1,e2⟩:=Ns C H I;have d:=(aW s x C).1;rw [cr C] at F;exact ⟨x+dw s x,by omega,by omega,e1,jM G C,F,m+1,e2⟩
theorem Kj (h:Rs w0 W g s a a f l) (hs:s.size<=2147483647) (ha:a<s.size) (hb:bd s a) (hk:ak s a=3) (hl:l.length<=2147483647) :
  Ta 61 #[.pointer (some ⟨g,0,none⟩)] W fun e w'=>e=.returned (.int .i64 ((ap s a 3).2:Nat))/\TP w0 w' g s 3 a f l:=by
 have hd:=QA hk;have ae:=OH hd;have hE:ap s a 3=run (cg s a 3) s.size a 0:=by unfold ap;simp
 have C:=(bp s a (by omega)).1;have Z:JN w0 W g s 3 a f l a:=⟨gt _,ha,hb,h,0,hE.symm,sQ ha (by rintro (⟨h,_⟩|⟨_,h⟩);cases h;rw [hd] at h;cases h) (by omega)⟩
 have HT:Hid (∀V x,JN w0 V g s 3 a f l x->Ta 103 #[.pointer (some ⟨g,0,none⟩)] V fun e w'=>e=.returned (.tuple #[])/\∃y,x<y/\a<=y/\y<=s.size/\bd s y/\Rs w0 w' g s y a f l/\∃m,run (cg s a 3) s.size y m=ap s a 3):=fun V x hx=>by
  refine (cC hx.rs hs (T5 hx.xs)).mono ?_;rintro e w' ⟨rfl,M⟩;exact ⟨rfl,hx.next M⟩
 have HD:Hid (∀p V,Ta 60 #[.int .i32 p] V fun e w'=>e=.returned (.bool (decide (48<=p) && decide (p<=57)))/\w'=V):=bT
 have HP:Hid (∀V y,Rs w0 V g s y a f l->a<=y->y<=s.size->(Ta 106 #[.pointer (some ⟨g,0,none⟩),.int .u8 3] V fun e w'=>e=.returned (.int .i64 0)/\Rs w0 w' g s y a 0 (l++[tv s (bS s 3 a y f)]))/\(Ta 108 #[.pointer (some ⟨g,0,none⟩)] V fun e w'=>e=.returned (.bool (decide (65535<y+fw s y-a)))/\Rs w0 w' g s y a f l)):=fun V y M h1 h2=>by
  constructor
  ·exact dy M 3 hs h1 h2 hl (by intro h;cases h)
  ·obtain ⟨U,Y,v,h3,h4⟩:=M;refine (gm h3 hs h1 h2 (by by_cases e:y<s.size;rw [cr e];exact (aW s y e).2.1;rw [gE (by omega)];omega)).mono ?_;rintro e w' ⟨rfl,hb⟩;exact ⟨rfl,Rq.below ⟨U,Y,v,h3,h4⟩ hb⟩
 have HC:Hid (∀V y,Rs w0 V g s y a f l->V.cell? ⟨g,2,none⟩=some (.int .i32 (bk s y))):=fun V y M=>by
  obtain ⟨U,Y,v,h3,h4⟩:=M;exact (Rq.cells h3).2.2.1
 have c2:=HC.out _ _ h;have q0:(decide (48<=bk s a) && decide (bk s a<=57))=true:=by rw [eh,Tf ha,hd];rfl
 have ac:Hid (JN w0 W g s 3 a f l a):=Z;have ab:Hid (Ta 60 #[.int .i32 (bk s a)] W fun e w'=>e=.returned (.bool true)/\w'=W):=by rw [<-q0];exact bT _ _
 clear hd ae hE C Z h hk q0
 go_enter Tryz.func61,Tryz.ntmps61
 go_wp2_with fail
 refine Vg 0 (fun a' w'=>∃(x:Nat) (u1 u2 u3 u4 u5 u6 u7 u8 u9 u10 u11 u12 u13 u14 u15 u16 u17 u18 u19 u20 u21 u22 u23 u24 u25 u26 u27 u28 u29 u30 u31 u32 u33 u34 u35 u36 u37 u38:Value),Hid (JN w0 w' g s 3 a f l x)/\a'={ tmps:=#[.pointer (some ⟨g,0,none⟩),u1,u2,u3,u4,u5,u6,u7,u8,u9,u10,u11,u12,u13,u14,u15,u16,u17,u18,u19,u20,u21,u22,u23,u24,u25,u26,u27,u28,u29,u30,u31,u32,u33,u34,u35,u36,u37,u38],defers:=[] }) (fun _ w'=>s.size-gr w' g 1) rfl ?_ ?_
 ·go_wp2_with (first|(go_at_call 60;refine ab.out.mono ?_;rintro e I ⟨rfl,C⟩;replace C:=C.symm;subst C))
  go_step3
  exact ⟨rfl,a,_,_,_,_,_,_,_,_,_,_,_,_,_,_,_,_,_,_,_,_,_,_,_,_,_,_,_,_,_,_,_,_,_,_,_,_,_,_,ac,rfl⟩
 ·rintro a' w' ⟨x,u1,u2,u3,u4,u5,u6,u7,u8,u9,u10,u11,u12,u13,u14,u15,u16,u17,u18,u19,u20,u21,u22,u23,u24,u25,u26,u27,u28,u29,u30,u31,u32,u33,u34,u35,u36,u37,u38,HJ,rfl⟩;have HX:Hid (gr w' g 1=x/\x<s.size):=⟨HJ.out.rs.at,HJ.out.xs⟩
  go_wp2_with fail
  refine (HT.out _ _ HJ.out).mono ?_;rintro e I ⟨rfl,y,y1,y2,y3,y4,y5,m,y6⟩;have z2:=HC.out _ _ y5;obtain ⟨t1,t2⟩:=HP.out _ _ y5 y2 y3;have Q:Hid (Rs w0 I g s y a f l/\bd s y/\run (cg s a 3) s.size y m=ap s a 3):=⟨y5,y4,y6⟩;clear HJ y5 y4 y6 c2
  by_cases S:(decide (48<=bk s y) && decide (bk s y<=57))=true
  ·have H:Hid (Ta 60 #[.int .i32 (bk s y)] I fun e w'=>e=.returned (.bool true)/\w'=I):=by rw [<-S];exact bT _ _
   have aa:=S;rw [eh,Tc,Tz] at aa;obtain ⟨d1,d2⟩:=aa
   have HN:Hid (¬((3=1/\(gd s y && iq (dp s y))=false)\/((3:Nat)=3/\cK (ay s y)=false))):=by
    show ¬_
    rintro (⟨h,_⟩|⟨_,h⟩)
    ·cases h
    ·rw [d2] at h;cases h
   have F:Hid (Ta 108 #[.pointer (some ⟨g,0,none⟩)] I fun e w'=>e=.returned (.bool (decide (65535<y+fw s y-a)))/\Rs w0 w' g s y a f l):=t2;rw [cr d1] at F;clear S t1 t2
   by_cases J:65535<y+dw s y-a
   ·have O:Hid (ap s a 3=(a,103)):=vE d1 Q.out.2.2 HN.out J;rw [Tf J] at F;clear J
    go_wp2_with (first|(go_at_call 60;refine H.out.mono ?_;rintro e w2 ⟨rfl,C⟩;replace C:=C.symm;subst C)|(go_at_call 108;refine F.out.mono ?_;rintro e w3 ⟨rfl,hr3⟩))
    simp only [Exit.jump]
    go_ret
    rw [O.out];exact ⟨rfl,TP.bad O.out (by decide) Q.out.2.1 y2 hr3 (by intro h;cases h)⟩
   ·have HO:Hid (cg s a 3 y m=.on (dw s y)):=sQ d1 HN.out J;rw [Tg J] at F;clear J
    go_wp2_with (first|(go_at_call 60;refine H.out.mono ?_;rintro e w2 ⟨rfl,C⟩;replace C:=C.symm;subst C)|(go_at_call 108;refine F.out.mono ?_;rintro e w3 ⟨rfl,hr3⟩))
    go_step3
    refine ⟨rfl,⟨y,_,_,_,_,_,_,_,_,_,_,_,_,_,_,_,_,_,_,_,_,_,_,_,_,_,_,_,_,_,_,_,_,_,_,_,_,_,_,⟨y2,d1,Q.out.2.1,hr3,m,Q.out.2.2,HO.out⟩,rfl⟩,?_⟩;rw [HX.out.1,hr3.at];have:=HX.out.2;omega
  ·have G:(decide (48<=bk s y) && decide (bk s y<=57))=false:=by simpa using S
   have H:Hid (Ta 60 #[.int .i32 (bk s y)] I fun e w'=>e=.returned (.bool false)/\w'=I):=by rw [<-G];exact bT _ _
   have O:Hid (ap s a 3=(y,0)):=by
    refine vD y3 Q.out.2.2 ?_;rw [eh] at G
    by_cases e:y<s.size
    ·rw [Tf e,T6] at G;exact .inr (.inr ⟨rfl,G⟩)
    ·exact .inl (by omega)
   have ad:Hid (Ta 106 #[.pointer (some ⟨g,0,none⟩),.int .u8 3] I fun e w'=>e=.returned (.int .i64 0)/\Rs w0 w' g s y a 0 (l++[tv s (bS s 3 a y f)])):=t1;clear S G t1 t2
   go_wp2_with (first|(go_at_call 60;refine H.out.mono ?_;rintro e w2 ⟨rfl,C⟩;replace C:=C.symm;subst C)|(go_at_call 106;refine ad.out.mono ?_;rintro e w3 ⟨rfl,hr3⟩))
   simp only [Exit.jump]
   go_ret
   rw [O.out];exact ⟨rfl,TP.ok O.out hr3⟩
end Go.Proofs.YtcjiapphbpiffaaGreatDoor.Lx
