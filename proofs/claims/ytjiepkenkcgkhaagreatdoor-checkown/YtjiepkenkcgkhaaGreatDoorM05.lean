import Derived.Shelf.Strings.SlTrimAscii
import Derived.Shelf.Strings.Runes
import Derived.Shelf.Small.Utf8
import Derived.Shelf.LaysM
import Derived.Shelf.Strconv.Clone
import Derived.Shelf.Strings.Search1
import Derived.Laws.Runes
import Derived.Deep.Cut
import Derived.Deep.CutRange
import Derived.Test.YtjiepkenkcgkhaaGreatDoorM04
set_option linter.unusedVariables false
set_option linter.unusedSimpArgs false
set_option maxHeartbeats 4000000
set_option maxRecDepth 1000000
namespace Go.Proofs.YtjiepkenkcgkhaaGreatDoor.Lx
open Go.RowKit Go.Shelf
def Tryz.lays162_ren:Go.Shelf.Ren:=⟨fun|162=>146|232=>181|227=>182|234=>183|236=>184|228=>211|271=>212|151=>97|120=>226|197=>227|152=>145|260=>244|137=>177|119=>178|224=>179|225=>180|217=>210|266=>225|n=>n,fun|9=>9|4=>4|3=>3|5=>5|117=>263|116=>262|0=>0|124=>266|21=>21|105=>171|46=>167|119=>286|139=>289|138=>288|n=>n,fun|3=>6|4=>7|n=>n⟩
theorem Tryz.lays162:Go.Proofs.Lays.n162 Tryz.prog Tryz.lays162_ren:={
 mixed:=by kernel_rfl
 f119:=Tryz.func178.trans (Q0 some (by kernel_rfl))
 f120:=Tryz.func226.trans (Q0 some (by kernel_rfl))
 f137:=Tryz.func177.trans (Q0 some (by kernel_rfl))
 f151:=Tryz.func97.trans (Q0 some (by kernel_rfl))
 f152:=Tryz.func145.trans (Q0 some (by kernel_rfl))
 f162:=Tryz.func146.trans (Q0 some (by kernel_rfl))
 f197:=Tryz.func227.trans (Q0 some (by kernel_rfl))
 f217:=Tryz.func210.trans (Q0 some (by kernel_rfl))
 f224:=Tryz.func179.trans (Q0 some (by kernel_rfl))
 f225:=Tryz.func180.trans (Q0 some (by kernel_rfl))
 f227:=Tryz.func182.trans (Q0 some (by kernel_rfl))
 f228:=Tryz.func211.trans (Q0 some (by kernel_rfl))
 f232:=Tryz.func181.trans (Q0 some (by kernel_rfl))
 f234:=Tryz.func183.trans (Q0 some (by kernel_rfl))
 f236:=Tryz.func184.trans (Q0 some (by kernel_rfl))
 f260:=Tryz.func244.trans (Q0 some (by kernel_rfl))
 f266:=Tryz.func225.trans (Q0 some (by kernel_rfl))
 f271:=Tryz.func212.trans (Q0 some (by kernel_rfl))
 t0:=Th
 a0:=Uy
 z0:=Ug
 v0:=To
 t3:=RE
 a3:=TK
 z3:=Tp
 v3:=SM
 t4:=SC
 a4:=T8
 z4:=TR
 v4:=S4
 t5:=So
 a5:=Tq
 z5:=Ta
 v5:=Sv
 t9:=Rz
 a9:=TM
 z9:=Tr
 v9:=SN
 t21:=UV
 a21:=Tryz.isAgg21
 z21:=Tryz.sizeOf21
 v21:=Va
 t46:=TW
 a46:=U3
 z46:=UR
 v46:=T9
 t105:=Tryz.underlying171
 a105:=Tryz.isAgg171
 z105:=Tryz.sizeOf171
 v105:=Tryz.zeroValue171
 t116:=Tryz.underlying262
 a116:=Tryz.isAgg262
 z116:=Tryz.sizeOf262
 t117:=Tryz.underlying263
 a117:=Tryz.isAgg263
 z117:=Tryz.sizeOf263
 v117:=Tryz.zeroValue263
 t119:=Tryz.underlying286
 a119:=Tryz.isAgg286
 z119:=Tryz.sizeOf286
 t124:=Tryz.underlying266
 a124:=Tryz.isAgg266
 z124:=Tryz.sizeOf266
 v124:=Tryz.zeroValue266
 t138:=Tryz.underlying288
 a138:=Tryz.isAgg288
 z138:=Tryz.sizeOf288
 v138:=Tryz.zeroValue288
 t139:=Tryz.underlying289
 a139:=Tryz.isAgg289
 z139:=Tryz.sizeOf289
 v139:=Tryz.zeroValue289
 g3:=by kernel_rfl
 g4:=by kernel_rfl }
def Tryz.lays119_ren:Go.Shelf.Ren:=⟨fun|119=>178|n=>n,fun|21=>21|4=>4|n=>n,fun|n=>n⟩
theorem Tryz.lays119:Go.Proofs.Lays.n119 Tryz.prog Tryz.lays119_ren:={
 mixed:=by kernel_rfl
 f119:=Tryz.func178.trans (Q0 some (by kernel_rfl))
 t4:=SC
 a4:=T8
 z4:=TR
 v4:=S4
 t21:=UV
 a21:=Tryz.isAgg21
 z21:=Tryz.sizeOf21
 v21:=Va }
theorem Tryz.utf8_ValidRune (r:Int) (w:World) :
  Ra 178 #[.int .i32 r] w fun e w'=>e=.returned (.bool (Lib.validRune r))/\w'=w:=Any.utf8_ValidRune Tryz.lays119 r w
def Tryz.lays137_ren:Go.Shelf.Ren:=⟨fun|137=>177|217=>210|266=>225|n=>n,fun|9=>9|5=>5|3=>3|n=>n,fun|n=>n⟩
theorem Tryz.lays137:Go.Proofs.Lays.n137 Tryz.prog Tryz.lays137_ren:={
 mixed:=by kernel_rfl
 f137:=Tryz.func177.trans (Q0 some (by kernel_rfl))
 f217:=Tryz.func210.trans (Q0 some (by kernel_rfl))
 f266:=Tryz.func225.trans (Q0 some (by kernel_rfl))
 t3:=RE
 a3:=TK
 z3:=Tp
 v3:=SM
 t5:=So
 a5:=Tq
 z5:=Ta
 v5:=Sv
 t9:=Rz
 a9:=TM
 z9:=Tr
 v9:=SN }
theorem Tryz.strings_IndexByte (s:ByteArray) (c:Int) (w:World) :
  Ra 177 #[.string s,.int .u8 c] w fun e w'=>e=.returned (.int .i64 (Lib.indexByte s.data.toList c.toNat.toUInt8))/\w'=w:=Any.strings_IndexByte Tryz.lays137 s c w
def Tryz.laysM316_ren:Go.Shelf.Ren:=⟨fun|316=>185|n=>n,fun|9=>9|3=>3|4=>4|37=>105|0=>0|127=>170|5=>5|n=>n,fun|n=>n⟩
theorem Tryz.laysM316:Go.Proofs.LaysM.n316 Tryz.prog Tryz.laysM316_ren:={
 mixed:=by kernel_rfl
 f316:=Tryz.func185.trans (Q0 some (by kernel_rfl))
 t0:=Th
 a0:=Uy
 z0:=Ug
 v0:=To
 t3:=RE
 a3:=TK
 z3:=Tp
 v3:=SM
 t4:=SC
 a4:=T8
 z4:=TR
 v4:=S4
 t9:=Rz
 a9:=TM
 z9:=Tr
 v9:=SN
 t37:=Sl
 a37:=U4
 z37:=US
 v37:=Ua
 t127:=UK
 a127:=Tryz.isAgg170
 z127:=Tryz.sizeOf170
 v127:=UW
 t5:=So
 a5:=Tq
 z5:=Ta
 v5:=Sv
 i0:=by kernel_rfl
 i3:=by kernel_rfl
 i4:=by kernel_rfl
 i5:=by kernel_rfl
 i9:=by kernel_rfl
 i37:=by kernel_rfl
 i127:=by kernel_rfl }
theorem Tryz.stringslite_Clone (s:ByteArray) (w:World) (hlim:s.size<=281474976710656) :
  Ra 185 #[.string s] w fun e w'=>e=.returned (.string s)/\Below w.heap.size w w':=Any.stringslite_Clone Tryz.laysM316 s w hlim
def Tryz.lays151_ren:Go.Shelf.Ren:=⟨fun|151=>97|152=>145|137=>177|119=>178|224=>179|225=>180|217=>210|266=>225|n=>n,fun|9=>9|21=>21|4=>4|3=>3|5=>5|0=>0|46=>167|n=>n,fun|n=>n⟩
theorem Tryz.lays151:Go.Proofs.Lays.n151 Tryz.prog Tryz.lays151_ren:={
 mixed:=by kernel_rfl
 f119:=Tryz.func178.trans (Q0 some (by kernel_rfl))
 f137:=Tryz.func177.trans (Q0 some (by kernel_rfl))
 f151:=Tryz.func97.trans (Q0 some (by kernel_rfl))
 f152:=Tryz.func145.trans (Q0 some (by kernel_rfl))
 f217:=Tryz.func210.trans (Q0 some (by kernel_rfl))
 f224:=Tryz.func179.trans (Q0 some (by kernel_rfl))
 f225:=Tryz.func180.trans (Q0 some (by kernel_rfl))
 f266:=Tryz.func225.trans (Q0 some (by kernel_rfl))
 t0:=Th
 a0:=Uy
 z0:=Ug
 v0:=To
 t3:=RE
 a3:=TK
 z3:=Tp
 v3:=SM
 t4:=SC
 a4:=T8
 z4:=TR
 v4:=S4
 t5:=So
 a5:=Tq
 z5:=Ta
 v5:=Sv
 t9:=Rz
 a9:=TM
 z9:=Tr
 v9:=SN
 t21:=UV
 a21:=Tryz.isAgg21
 z21:=Tryz.sizeOf21
 v21:=Va
 t46:=TW
 a46:=U3
 z46:=UR
 v46:=T9 }
theorem Tryz.strings_ContainsRune_ascii (s:ByteArray) (r:Int) (w:World) (h0:0<=r) (h1:r<128) :
  Ra 97 #[.string s,.int .i32 r] w fun e w'=>e=.returned (.bool (decide (0<=Lib.indexByte s.data.toList r.toNat.toUInt8)))/\w'=w:=Any.strings_ContainsRune_ascii Tryz.lays151 s r w h0 h1
theorem Cg (s:ByteArray) (w:World) (hlim:s.size<=2147483647) :
  Ra 147 #[.string s] w fun e w'=>e=.returned (.string s)/\Below w.heap.size w w':=by
 have HC:Hid (Ra 185 #[.string s] w fun e w'=>e=.returned (.string s)/\Rc w w'):=Tryz.stringslite_Clone s w (by omega)
 go_enter Tryz.func147,Tryz.ntmps147
 go_wp2_with (go_at_call 185;refine HC.out.mono ?_;rintro e w1 ⟨rfl,hb⟩)
 go_ret
 exact ⟨rfl,hb⟩
theorem CT (s:ByteArray) (w:World) (hs:s.size<=2147483647) :
  Ra 146 #[.string s,.string ⟨#[32,9,13]⟩] w fun e w'=>e=.returned (.string ⟨(Lib.trimRightS s.data.toList [32,9,13]).toArray⟩)/\Below w.heap.size w w':=
 Any.strings_TrimRight_laid Tryz.lays162 (by kernel_rfl) s ⟨#[32,9,13]⟩ w (by omega) (by decide) (ascii_of_all (by decide))
theorem MN (x:UInt8) (h:128<=x.toNat):Lib.indexByte [13] x=-1:=by
 have h1:(13:UInt8)≠x:=by rintro rfl;exact absurd h (by decide)
 have h2:((13:UInt8) == x)=false:=by simpa using h1
 unfold Lib.indexByte;rw [h2];rfl
theorem Qm (p:Int) (x0 x1:UInt8) (w:World) (h0:128<=p) (h2:p≠65533) (hv:Lib.validRune p=true) (hR:Utf8.encode p=⟨#[x0,x1]⟩) (hL:128<=x1.toNat) :
  Ra 145 #[.string ⟨#[32,9,13]⟩,.int .i32 p] w fun e w'=>e=.returned (.int .i64 (-1))/\Below w.heap.size w w':=by
 have HV:Hid (Ra 178 #[.int .i32 p] w fun e w'=>e=.returned (.bool true)/\w'=w):=by
  have:=Tryz.utf8_ValidRune p w;rw [hv] at this;exact this
 have q1:¬p<128:=by omega
 have q2:(p == 65533)=false:=by simpa using h2
 have q0:(0:Int)<=p:=by omega
 have w2:IntKind.i64.wrap 2=2:=by decide
 have w3:IntKind.i64.wrap 3=3:=by decide
 have hcv:∀w,(convert 21 9 (.int .i32 p)).run Tryz.prog w=.ok (.string ⟨#[x0,x1]⟩) w:=fun w=>by rw [<-hR];exact T4 w _ _ _ _ rfl Rz
 have HX:Hid (∀(r:ByteArray) (W:World),r=⟨#[13]⟩->Ra 177 #[.string r,.int .u8 (x1.toNat:Int)] W fun e w'=>e=.returned (.int .i64 (-1))/\w'=W):=by
  rintro r W rfl;have:=Tryz.strings_IndexByte ⟨#[13]⟩ (x1.toNat:Int) W;rw [Tu] at this
  have e:Lib.indexByte (⟨#[13]⟩:ByteArray).data.toList x1.toNat.toUInt8=-1:=by
   rw [show x1.toNat.toUInt8=x1 from UInt8.ofNat_toNat];exact MN x1 hL
  rw [e] at this;exact this
 have q4:((((⟨#[32,9,13]⟩:ByteArray)[1]'(by decide)).toNat:Int) != (((⟨#[x0,x1]⟩:ByteArray)[1]'(by show 1<2;decide)).toNat:Int))=true:=by
  show ((9:Int) != (x1.toNat:Int))=true
  simp;omega
 clear hR
 go_enter UL,Up
 go_wp2_with (first|(go_at_call 178;refine HV.out.mono ?_;rintro e w1 ⟨rfl,hw⟩;replace hw:=hw.symm;subst hw))
 go_step3
 go_wp2_with fail
 go_loopw [9] (fun i wr=>i=.int .i64 1/\wr=w) (fun _ _=>0)
 case atStart=>exact ⟨rfl,rfl⟩
 case round=>
  obtain ⟨rfl,hw⟩:=hrel;subst hw
  go_wp2_with fail
  go_step3
  go_wp2_with fail
  go_quiet (fail)
  go_wp2_with fail
  go_region_law (go_simp;go_at_call 177;refine (HX.out _ _ rfl).mono ?_;rintro e w2 ⟨rfl,hw⟩;replace hw:=hw.symm;subst hw)
  all_goals (
   go_wp2_with fail
   (repeat (first|rw [Ts]|simp only [Exit.inBlock]|simp (config:={ zetaDelta:=true }) only [Exit.then,Exit.inBlock,Ts]))
   go_ret
   exact ⟨rfl,dR _ _⟩)
theorem Ql (p:Int) (x0 x1 x2:UInt8) (w:World) (h0:128<=p) (h2:p≠65533) (hv:Lib.validRune p=true) (hR:Utf8.encode p=⟨#[x0,x1,x2]⟩) (hL:128<=x2.toNat) :
  Ra 145 #[.string ⟨#[32,9,13]⟩,.int .i32 p] w fun e w'=>e=.returned (.int .i64 (-1))/\Below w.heap.size w w':=by
 have HV:Hid (Ra 178 #[.int .i32 p] w fun e w'=>e=.returned (.bool true)/\w'=w):=by
  have:=Tryz.utf8_ValidRune p w;rw [hv] at this;exact this
 have q1:¬p<128:=by omega
 have q2:(p == 65533)=false:=by simpa using h2
 have q0:(0:Int)<=p:=by omega
 have w2:IntKind.i64.wrap 2=2:=by decide
 have w3:IntKind.i64.wrap 3=3:=by decide
 have hcv:∀w,(convert 21 9 (.int .i32 p)).run Tryz.prog w=.ok (.string ⟨#[x0,x1,x2]⟩) w:=fun w=>by rw [<-hR];exact T4 w _ _ _ _ rfl Rz
 have HX:Hid (∀(r:ByteArray) (W:World),r=⟨#[]⟩->Ra 177 #[.string r,.int .u8 (x2.toNat:Int)] W fun e w'=>e=.returned (.int .i64 (-1))/\w'=W):=by
  rintro r W rfl;have:=Tryz.strings_IndexByte ⟨#[]⟩ (x2.toNat:Int) W;rw [Tu] at this
  have e:Lib.indexByte (⟨#[]⟩:ByteArray).data.toList x2.toNat.toUInt8=-1:=by
   rw [show x2.toNat.toUInt8=x2 from UInt8.ofNat_toNat];rfl
  rw [e] at this;exact this
 have q4:((((⟨#[32,9,13]⟩:ByteArray)[2]'(by decide)).toNat:Int) != (((⟨#[x0,x1,x2]⟩:ByteArray)[2]'(by show 2<3;decide)).toNat:Int))=true:=by
  show ((13:Int) != (x2.toNat:Int))=true
  simp;omega
 clear hR
 go_enter UL,Up
 go_wp2_with (first|(go_at_call 178;refine HV.out.mono ?_;rintro e w1 ⟨rfl,hw⟩;replace hw:=hw.symm;subst hw))
 go_step3
 go_wp2_with fail
 go_loopw [9] (fun i wr=>i=.int .i64 2/\wr=w) (fun _ _=>0)
 case atStart=>exact ⟨rfl,rfl⟩
 case round=>
  obtain ⟨rfl,hw⟩:=hrel;subst hw
  go_wp2_with fail
  go_step3
  go_wp2_with fail
  go_quiet (fail)
  go_wp2_with fail
  go_region_law (go_simp;go_at_call 177;refine (HX.out _ _ rfl).mono ?_;rintro e w2 ⟨rfl,hw⟩;replace hw:=hw.symm;subst hw)
  all_goals (
   go_wp2_with fail
   (repeat (first|rw [Ts]|simp only [Exit.inBlock]|simp (config:={ zetaDelta:=true }) only [Exit.then,Exit.inBlock,Ts]))
   go_ret
   exact ⟨rfl,dR _ _⟩)
theorem Qk (p:Int) (x0 x1 x2 x3:UInt8) (w:World) (h0:128<=p) (h2:p≠65533) (hv:Lib.validRune p=true) (hR:Utf8.encode p=⟨#[x0,x1,x2,x3]⟩) (hL:128<=x3.toNat) :
  Ra 145 #[.string ⟨#[32,9,13]⟩,.int .i32 p] w fun e w'=>e=.returned (.int .i64 (-1))/\Below w.heap.size w w':=by
 have HV:Hid (Ra 178 #[.int .i32 p] w fun e w'=>e=.returned (.bool true)/\w'=w):=by
  have:=Tryz.utf8_ValidRune p w;rw [hv] at this;exact this
 have q1:¬p<128:=by omega
 have q2:(p == 65533)=false:=by simpa using h2
 have q0:(0:Int)<=p:=by omega
 have w2:IntKind.i64.wrap 2=2:=by decide
 have w3:IntKind.i64.wrap 3=3:=by decide
 have hcv:∀w,(convert 21 9 (.int .i32 p)).run Tryz.prog w=.ok (.string ⟨#[x0,x1,x2,x3]⟩) w:=fun w=>by rw [<-hR];exact T4 w _ _ _ _ rfl Rz
 clear hR
 go_enter UL,Up
 go_wp2_with (first|(go_at_call 178;refine HV.out.mono ?_;rintro e w1 ⟨rfl,hw⟩;replace hw:=hw.symm;subst hw))
 go_step3
 go_wp2_with fail
 go_loopw [9] (fun i wr=>i=.int .i64 3/\wr=w) (fun _ _=>0)
 case atStart=>exact ⟨rfl,rfl⟩
 case round=>
  obtain ⟨rfl,hw⟩:=hrel;subst hw
  go_wp2_with fail
  (repeat (first|rw [Ts]|simp only [Exit.inBlock]))
  go_ret
  exact ⟨rfl,hH _ _⟩
theorem JH (p:Int) (w:World) (h0:128<=p) (h2:p≠65533) (hv:Lib.validRune p=false) :
  Ra 145 #[.string ⟨#[32,9,13]⟩,.int .i32 p] w fun e w'=>e=.returned (.int .i64 (-1))/\Below w.heap.size w w':=by
 have HV:Hid (Ra 178 #[.int .i32 p] w fun e w'=>e=.returned (.bool false)/\w'=w):=by
  have:=Tryz.utf8_ValidRune p w;rw [hv] at this;exact this
 have q1:¬p<128:=by omega
 have q2:(p == 65533)=false:=by simpa using h2
 have q0:(0:Int)<=p:=by omega
 go_enter UL,Up
 go_wp2_with (first|(go_at_call 178;refine HV.out.mono ?_;rintro e w1 ⟨rfl,hw⟩;replace hw:=hw.symm;subst hw))
 (repeat (first|rw [Ts]|simp only [Exit.inBlock]))
 go_ret
 exact ⟨rfl,hH _ _⟩
theorem Na:∀pos,pos<3->Utf8.decode ⟨#[32,9,13]⟩ pos=((⟨#[32,9,13]⟩:ByteArray).get! pos |>.toNat,1)/\((⟨#[32,9,13]⟩:ByteArray).get! pos).toNat<128:=by decide
theorem JG (w:World) :
  Ra 145 #[.string ⟨#[32,9,13]⟩,.int .i32 65533] w fun e w'=>e=.returned (.int .i64 (-1))/\Below w.heap.size w w':=by
 obtain ⟨s,hs⟩:∃s:ByteArray,s=⟨#[32,9,13]⟩:=⟨_,rfl⟩;have hz:s.size=3:=by rw [hs];rfl
 have hd:∀pos,pos<3->dw s pos=1/\dp s pos<128:=fun pos hp=>by
  obtain ⟨e1,e2⟩:=Na pos hp;unfold dw dp;rw [hs,e1];exact ⟨rfl,e2⟩
 rw [<-hs];clear hs
 go_enter UL,Up
 go_wp2_with fail
 go_loopw [] (fun w'=>∃pos:Nat,pos<=3/\w'=w.iter s pos) (fun w'=>s.size-w'.iterPos w.heap.size)
 case atStart=>exact ⟨0,by omega,rfl⟩
 case round=>
  obtain ⟨pos,hp3,rfl⟩:=hrel
  by_cases hp:pos<s.size
  ·have hnx:∀ty,(Instr.next (.pointer (some ⟨w.heap.size,0,none⟩)) true ty).run Tryz.prog (w.iter s pos)=_:=fun ty=>UH w s pos ty hp
   obtain ⟨d1,d2⟩:=hd pos (by omega);unfold dw at d1;unfold dp at d2;have q9:(((Utf8.decode s pos).1:Int) == 65533)=false:=by simp;omega
   go_wp2_with fail
   exact ⟨⟨pos+1,by omega,rfl⟩,by simp;omega⟩
  ·have hnx:∀ty,(Instr.next (.pointer (some ⟨w.heap.size,0,none⟩)) true ty).run Tryz.prog (w.iter s pos)=_:=fun ty=>Vc w s pos ty hp
   go_wp2_with fail
   go_ret
   exact ⟨rfl,dQ _ _ _⟩
end Go.Proofs.YtjiepkenkcgkhaaGreatDoor.Lx
namespace Go.Proofs.YtjiepkenkcgkhaaGreatDoor.Lx
open Go.RowKit
variable {s R:ByteArray}{a y m g k f q b x:Nat}{o:Bool}{w0 W w':World}{l:List Tv}{p n:Int}
theorem Qu (h:R.size=2):∃x0 x1,R=⟨#[x0,x1]⟩:=by
 obtain ⟨⟨l⟩⟩:=R
 match l,h with
 |[x0,x1],_=>exact ⟨x0,x1,rfl⟩
theorem Qt (h:R.size=3):∃x0 x1 x2,R=⟨#[x0,x1,x2]⟩:=by
 obtain ⟨⟨l⟩⟩:=R
 match l,h with
 |[x0,x1,x2],_=>exact ⟨x0,x1,x2,rfl⟩
theorem Qs (h:R.size=4):∃x0 x1 x2 x3,R=⟨#[x0,x1,x2,x3]⟩:=by
 obtain ⟨⟨l⟩⟩:=R
 match l,h with
 |[x0,x1,x2,x3],_=>exact ⟨x0,x1,x2,x3,rfl⟩
theorem JI (p:Int) (w:World) (h0:128<=p) :
  Ra 145 #[.string ⟨#[32,9,13]⟩,.int .i32 p] w fun e w'=>e=.returned (.int .i64 (-1))/\Below w.heap.size w w':=by
 by_cases h2:p=65533
 ·subst h2;exact JG w
 ·cases hv:Lib.validRune p with
  |false=>exact JH p w h0 h2 hv
  |true=>
   obtain ⟨f1,f2,f3⟩:=encode_facts p (by rw [validRune_eq];exact hv) h0;have f4:=f3 (by omega);obtain ⟨R,hR⟩:∃R,Utf8.encode p=R:=⟨_,rfl⟩;simp only [hR] at f1 f2 f3 f4
   rcases (show R.size=2\/R.size=3\/R.size=4 by omega) with h|h|h
   ·obtain ⟨x0,x1,rfl⟩:=Qu h;exact Qm p x0 x1 w h0 h2 hv hR f4
   ·obtain ⟨x0,x1,x2,rfl⟩:=Qt h;exact Ql p x0 x1 x2 w h0 h2 hv hR f4
   ·obtain ⟨x0,x1,x2,x3,rfl⟩:=Qs h;exact Qk p x0 x1 x2 x3 w h0 h2 hv hR f4
theorem IW:∀n:Nat,n<128->decide ((0:Int)<=Lib.indexByte [32,9,13] n.toUInt8)=decide (n=32\/n=9\/n=13):=by decide
def qk (p:Int):Bool:=decide (p=32\/p=9\/p=13)
theorem ti (p:Int) (w:World) (h0:0<=p) :
  Ra 97 #[.string ⟨#[32,9,13]⟩,.int .i32 p] w fun e w'=>e=.returned (.bool (qk p))/\Below w.heap.size w w':=by
 by_cases h:p<128
 ·refine (Tryz.strings_ContainsRune_ascii ⟨#[32,9,13]⟩ p w h0 h).mono ?_;rintro e w' ⟨rfl,rfl⟩;refine ⟨?_,hH _ _⟩;have e:=IW p.toNat (by omega);have e2:decide (p.toNat=32\/p.toNat=9\/p.toNat=13)=qk p:=by unfold qk;rw [Sz];omega
  rw [<-e2,<-e]
 ·have HF:Hid (Ra 145 #[.string ⟨#[32,9,13]⟩,.int .i32 p] w fun e w'=>e=.returned (.int .i64 (-1))/\Rc w w'):=JI p w (by omega);have e2:qk p=false:=by unfold qk;rw [R3];omega
  rw [e2];clear e2
  go_enter Tryz.func97,Tryz.ntmps97
  go_wp2_with (go_at_call 145;refine HF.out.mono ?_;rintro e w1 ⟨rfl,hb⟩)
  go_ret
  exact ⟨rfl,hb⟩
theorem mu (p:Int) (w:World) (h0:0<=p) :
  Ra 50 #[.int .i32 p] w fun e w'=>e=.returned (.bool (qk p))/\Below w.heap.size w w':=by
 have HF:Hid (Ra 97 #[.string ⟨#[32,9,13]⟩,.int .i32 p] w fun e w'=>e=.returned (.bool (qk p))/\Rc w w'):=ti p w h0
 generalize qk p=r at *
 go_enter Tryz.func50,Tryz.ntmps50
 go_wp2_with (go_at_call 97;refine HF.out.mono ?_;rintro e w1 ⟨rfl,hb⟩)
 go_ret
 exact ⟨rfl,hb⟩
theorem F7 (b:UInt8):[(32:UInt8),9,13].contains b=cQ b.toNat:=by
 unfold cQ;simp only [List.contains_cons,List.contains_nil,Bool.or_false];rw [Se];simp only [QY,RM,<-Uw];constructor
 ·rintro (h|h|h)
  ·exact .inl (.inl h)
  ·exact .inl (.inr h)
  ·exact .inr h
 ·rintro ((h|h)|h)
  ·exact .inl h
  ·exact .inr (.inl h)
  ·exact .inr (.inr h)
theorem zH (s:ByteArray) (a p j:Nat) (b:UInt8) (hp:p<=s.size) (h:(s.extract a p).data.toList[j]?=some b):j<p-a/\ay s (a+j)=b.toNat:=by
 have hz:=az s a p hp;have hj:j<(s.extract a p).data.toList.length:=(QT.1 h).1;have hl:(s.extract a p).data.toList.length=(s.extract a p).size:=by rw [RG];rfl
 refine ⟨by omega,?_⟩;have e:=aR s a p j (by omega);rw [<-e];unfold ay;have h2:=(QT.1 h).2
 have:(s.extract a p).get! j=b:=by
  show (s.extract a p).data[j]! = b
  rw [Ue (s.extract a p).data j (by rw [RG] at hj;exact hj)]
  simpa using h2
 rw [this]
theorem G2 (s:ByteArray) (a p:Nat) (hap:a<p) (hp:p<=s.size) (ha:cQ (ay s a)=false):(⟨(Lib.trimRightS (s.extract a p).data.toList [32,9,13]).toArray⟩:ByteArray)=s.extract a (aY s p):=by
 have h1:=fO s p;have h2:=iX s a ha p hap;have h3:=ot s p;have hz:=az s a p hp;have hl:(s.extract a p).data.toList.length=(s.extract a p).size:=by rw [RG];rfl
 have e:Lib.trimRightS (s.extract a p).data.toList [32,9,13]=(s.extract a p).data.toList.take (aY s p-a):=by
  refine Lib.trimRightS_take _ _ _ (by omega) (fun j b hj hb=>?_) (fun b h0 hb=>?_)
  ·obtain ⟨e1,e2⟩:=zH s a p j b hp hb;rw [F7,<-e2];exact h3 (a+j) (by omega) (by omega)
  ·obtain ⟨e1,e2⟩:=zH s a p _ b hp hb;rw [F7,<-e2];have h4:a+(aY s p-a-1)=aY s p-1:=by omega
   rw [h4]
   have key:∀q,0<aY s q->cQ (ay s (aY s q-1))=false:=by
    intro q
    induction q with
    |zero=>intro h;exact absurd h (by simp [aY])
    |succ q ih=>
     intro h;unfold aY at h ⊢
     by_cases e:cQ (ay s q)=true
     ·rw [IO e] at h ⊢;exact ih h
     ·rw [Eq e] at h ⊢;simpa using e
   exact key p (by omega)
 rw [e];refine eX _ _ ?_ (fun j hj=>?_)
 ·rw [az s a _ (by omega)];show ((s.extract a p).data.toList.take (aY s p-a)).toArray.size=_;simp;omega
 ·have hj2:j<aY s p-a:=by
   have:(⟨((s.extract a p).data.toList.take (aY s p-a)).toArray⟩:ByteArray).size=((s.extract a p).data.toList.take (aY s p-a)).length:=by show Array.size _=_;simp
   rw [this,Ri] at hj;omega
  rw [aR s a _ j (by omega)];rw [<-aR s a p j (by omega)];unfold ay
  congr 1
  show ((s.extract a p).data.toList.take (aY s p-a)).toArray[j]! = (s.extract a p).data[j]!
  rw [Ue _ j (by simp;omega),Ue _ j (by have:(s.extract a p).data.size=(s.extract a p).size:=rfl;omega)];simp
def TP (w0 w':World) (g:Nat) (s:ByteArray) (k a f:Nat) (l:List Tv):Prop:=
 if (ap s a k).2=0 then Rs w0 w' g s (ap s a k).1 a 0 (l++[tv s (cM s k a (ap s a k).1 f)])
 else ∃a',bd s a'/\a<=a'/\Rs w0 w' g s a' a f l/\((ap s a k).2=102->a'=(ap s a k).1)
theorem TP.ok (hE:ap s a k=(y,0)) (h:Rs w0 w' g s y a 0 (l++[tv s (cM s k a y f)])):TP w0 w' g s k a f l:=by
 unfold TP;rw [hE,IO rfl];exact h
theorem TP.bad {e a':Nat}(hE:ap s a k=(y,e)) (he:e≠0) (hb:bd s a') (ha:a<=a') (h:Rs w0 w' g s a' a f l) (h2:e=102->a'=y):TP w0 w' g s k a f l:=by
 unfold TP;rw [hE,Eq he];exact ⟨a',hb,ha,h,h2⟩
def fW (w:World) (g k:Nat):Nat:=match w.cell? ⟨g,k,none⟩ with
 |some (.int _ n)=>n.toNat
 |_=>0
theorem FT {w:World}{n:Nat}(h:w.cell? ⟨g,k,none⟩=some (.int .i64 (n:Nat))):fW w g k=n:=by
 unfold fW;rw [h];simp
theorem Rs.at (h:Rs w0 W g s a b f l):fW W g 1=a:=by
 obtain ⟨h1,h2,v,h3,h4⟩:=h;exact FT (Rq.cells h3).2.1
theorem ET (s:ByteArray) (y:Nat) (h:gd s y=false):dp s y=65533:=by unfold dp;rw [MF s y h]
theorem Md:jC (-1)=false:=by decide
theorem Me:jC 65533=false:=by decide
theorem Mt:fC 65533=false:=by decide
theorem IK (s:ByteArray) (y:Nat):jC (bf s y)=(decide (y<s.size) && (gd s y && jC (dp s y))):=by
 by_cases h:y<s.size
 ·rw [gC h,QW h,R4];cases e:gd s y with
  |true=>rfl
  |false=>rw [ET s y e];exact Me
 ·rw [kn (by omega),QX h,Md];rfl
theorem dZ (s:ByteArray) (y:Nat) (h:y<s.size):fC (bf s y)=(gd s y && fC (dp s y)):=by
 rw [gC h];cases e:gd s y with
 |true=>rfl
 |false=>rw [ET s y e];exact Mt
theorem dK (s:ByteArray) (y:Nat):(decide (48<=bf s y) && decide (bf s y<=57))=(decide (y<s.size) && cJ (ay s y)):=by
 by_cases h:y<s.size
 ·rw [gC h,QW h,R4];unfold cJ;rw [Se];simp only [QR,Rj];constructor
  ·rintro ⟨h1,h2⟩;have:=Fz s y (by omega);omega
  ·rintro ⟨h1,h2⟩;have:=(bq s y (by omega)).2.1;omega
 ·rw [kn (by omega),QX h];rfl
theorem bI (s:ByteArray) (y c:Nat) (hc:c<128) (h:y<s.size):bf s y=(c:Int)↔ay s y=c:=by
 rw [gC h];constructor
 ·intro e;exact (KQ s y c hc).1 (by omega)
 ·intro e;have:=(KQ s y c hc).2 e;omega
theorem dm (s:ByteArray) (y:Nat):bf s y=-1↔s.size<=y:=by
 by_cases h:y<s.size
 ·rw [gC h];constructor <;> intro _ <;> omega
 ·rw [kn (by omega)];constructor <;> intro _ <;> first|omega|rfl
theorem FD (s:ByteArray) (y:Nat) (h:y<s.size):(decide (bf s y<32) || decide (bf s y=127))=gi s y:=by
 rw [gC h];unfold gi;cases e:gd s y with
 |true=>grind
 |false=>rw [ET s y e];rfl
theorem OL (s:ByteArray) (y:Nat) (h:y<s.size):qk (bf s y)=cQ (ay s y):=by
 unfold qk cQ;rw [Se];simp only [QY,Rj,RM];have e1:=bI s y 32 (by decide) h;have e2:=bI s y 9 (by decide) h;have e3:=bI s y 13 (by decide) h;constructor
 ·grind
 ·grind
theorem LU {E:Nat × Nat}(hx:x<s.size) (h:run (cf s a k) s.size x m=E) (hon:cf s a k x m=.on (dw s x)):x+dw s x<=s.size/\run (cf s a k) s.size (x+dw s x) (m+1)=E:=by
 refine ⟨(aV s x hx).2.2,?_⟩;rw [<-fy (cX s a k) (by omega) hon];exact h
theorem uy {E:Nat × Nat}(hy:y<=s.size) (h:run (cf s a k) s.size y m=E) (hc:s.size<=y\/(k=1/\(gd s y && jC (dp s y))=false)\/(k=3/\cJ (ay s y)=false)):E=(y,0):=by
 rw [<-h];refine cj hy ?_;unfold cf
 by_cases h1:s.size<=y
 ·rw [IO h1]
 ·rw [Eq h1,IO (hc.resolve_left h1)]
theorem uz {E:Nat × Nat}(hy:y<s.size) (h:run (cf s a k) s.size y m=E) (hc:¬((k=1/\(gd s y && jC (dp s y))=false)\/(k=3/\cJ (ay s y)=false))) (hf:65535<y+dw s y-a):E=(a,103):=by
 rw [<-h];refine cj (by omega) ?_;unfold cf;rw [Eq (by omega),Eq hc,IO hf]
theorem rV (hy:y<s.size) (hc:¬((k=1/\(gd s y && jC (dp s y))=false)\/(k=3/\cJ (ay s y)=false))) (hf:¬65535<y+dw s y-a):cf s a k y m=.on (dw s y):=by
 unfold cf;rw [Eq (by omega),Eq hc,Eq hf]
theorem oP {E:Nat × Nat}(hy:y<=s.size) (h:run (cq s a q o) s.size y m=E) (hc:s.size<=y\/ay s y=10):E=(a,101):=by
 rw [<-h];refine cj hy ?_;unfold cq;rw [IO hc]
theorem DP {E:Nat × Nat}(hy:y<s.size) (h:run (cq s a q o) s.size y m=E) (hc:ay s y≠10) (hf:65535<y+dw s y-a):E=(a,103):=by
 rw [<-h];refine cj (by omega) ?_;unfold cq;rw [Eq (by rintro (h|h);omega;exact hc h),IO hf]
theorem yO {E:Nat × Nat}(hy:y<s.size) (h:run (cq s a q o) s.size y m=E) (hc:ay s y≠10) (hf:¬65535<y+dw s y-a) (hq:ay s y=q/\(o=false\/m=1)):E=(y+1,0):=by
 rw [<-h];refine cj (by omega) ?_;unfold cq;rw [Eq (by rintro (h|h);omega;exact hc h),Eq hf,IO hq]
theorem jg {E:Nat × Nat}(hy:y<s.size) (h:run (cq s a q o) s.size y m=E) (hc:ay s y≠10) (hf:¬65535<y+dw s y-a) (hq:¬(ay s y=q/\(o=false\/m=1))) (hb:gi s y=true\/(o=true/\(m=1\/ay s y=q))):E=(y,102):=by
 rw [<-h];refine cj (by omega) ?_;unfold cq;rw [Eq (by rintro (h|h);omega;exact hc h),Eq hf,Eq hq,IO hb]
theorem uE {E:Nat × Nat}(hy:y<s.size) (h:run (cq s a q o) s.size y m=E) (hc:ay s y≠10) (hf:¬65535<y+dw s y-a) (hq:¬(ay s y=q/\(o=false\/m=1))) (hb:¬(gi s y=true\/(o=true/\(m=1\/ay s y=q)))):run (cq s a q o) s.size (y+dw s y) (m+1)=E:=by
 rw [<-h];refine (fy (eS s a q o) (by omega) ?_).symm;unfold cq;rw [Eq (by rintro (h|h);omega;exact hc h),Eq hf,Eq hq,Eq hb]
theorem J1 (m:Nat) (hy:y<s.size) (h10:o=false->ay s y≠10) (h125:o=true->ay s y≠125) (hf:y+1-a<=65535):run (bF s a o) s.size y m=run (bF s a o) s.size (y+1) (m+1):=by
 refine fy (cY s a o) (by omega) ?_;unfold bF;rw [Eq (by omega),Eq (by rintro ⟨h1,h2⟩;exact h10 h1 h2),Eq (by omega),Eq (by rintro ⟨h1,h2⟩;exact h125 h1 h2)]
theorem tj :∀(i m:Nat),(∀j,j<i->y+j<s.size/\(o=false->ay s (y+j)≠10)/\(o=true->ay s (y+j)≠125)/\y+j+1-a<=65535)->run (bF s a o) s.size y m=run (bF s a o) s.size (y+i) (m+i)
 |0,m,_=>rfl
 |i+1,m,h=>by
  rw [tj i m (fun j hj=>h j (by omega))];obtain ⟨h1,h2,h3,h4⟩:=h i (by omega);exact J1 (m+i) h1 h2 h3 h4
theorem xY (s:ByteArray) (y j:Nat) (hy:y<s.size) (hj:j<dw s y):y+j<s.size/\(j≠0->ay s (y+j)≠10/\ay s (y+j)≠125):=by
 have:=(aV s y hy).2.2;refine ⟨by omega,fun h=>?_⟩;have:=(jv s y j (by omega) hj).2;omega
theorem M2 {E:Nat × Nat}(m:Nat) (hy:y<s.size) (h10:o=false->ay s y≠10) (h125:o=true->ay s y≠125) (hf:y+dw s y-a<=65535) (h:run (bF s a o) s.size y m=E):run (bF s a o) s.size (y+dw s y) (m+dw s y)=E:=by
 rw [<-h];refine (tj (dw s y) m (fun j hj=>?_)).symm;obtain ⟨h1,h2⟩:=xY s y j hy hj;refine ⟨h1,fun ho=>?_,fun ho=>?_,by omega⟩
 ·grind
 ·grind
theorem wg {E:Nat × Nat}(m:Nat) (hy:y<s.size) (h10:o=false->ay s y≠10) (hay:a<=y) (hb:y-a<=65535) (hf:65535<y+dw s y-a) (h:run (bF s a o) s.size y m=E):E=(a,103):=by
 obtain ⟨i,hi⟩:∃i,y+i=a+65535:=⟨a+65535-y,by omega⟩;have ai:i<dw s y:=by omega
 obtain ⟨d1,d2,d3⟩:=aV s y hy
 have last:∀z m,z<s.size->(o=false->ay s z≠10)->65535<z+1-a->run (bF s a o) s.size z m=(a,103):=by
  intro z m hz h1 h2;refine cj (by omega) ?_;unfold bF;rw [Eq (by omega),Eq (by rintro ⟨e1,e2⟩;exact h1 e1 e2),IO h2]
 by_cases h0:i=0
 ·rw [<-h];exact last y m hy h10 (by omega)
 ·by_cases c:o=true/\ay s y=125
  ·exfalso
   have:=(bq s y (by omega)).1;omega
  ·rw [<-h,tj i m (fun j hj=>?_)]
   ·have h2:=xY s y i hy ai;exact last (y+i) _ h2.1 (fun _=>(h2.2 h0).1) (by omega)
   ·obtain ⟨h1,h2⟩:=xY s y j hy (by omega);refine ⟨h1,fun ho=>?_,fun ho=>?_,by omega⟩
    ·by_cases e:j=0
     ·subst e;exact h10 ho
     ·exact (h2 e).1
    ·by_cases e:j=0
     ·subst e;exact fun e2=>c ⟨ho,e2⟩
     ·exact (h2 e).2
theorem FP {E:Nat × Nat}(hy:y<=s.size) (h:run (bF s a false) s.size y m=E) (hc:s.size<=y\/ay s y=10):E=(y,0):=by
 rw [<-h];refine cj hy ?_;unfold bF
 by_cases h1:s.size<=y
 ·rw [IO h1];rfl
 ·rw [Eq h1,IO ⟨rfl,hc.resolve_left h1⟩]
theorem FO {E:Nat × Nat}(hy:y<=s.size) (h:run (bF s a true) s.size y m=E) (hc:s.size<=y):E=(a,101):=by
 rw [<-h];refine cj hy ?_;unfold bF;rw [IO hc];rfl
theorem Cb {E:Nat × Nat}(hy:y<s.size) (h:run (bF s a true) s.size y m=E) (hc:ay s y=125) (hf:y+1-a<=65535):E=(y+1,0):=by
 rw [<-h];refine cj (by omega) ?_;unfold bF;rw [Eq (by omega),Eq (by rintro ⟨e1,e2⟩;cases e1),Eq (by omega),IO ⟨rfl,hc⟩]
theorem Rq.told {v v':Value}(h1:Below w0.heap.size w0 W) (h2:w0.heap.size<=g) (h3:RB W g s a p n b f v) (h4:Rt w0.heap.size W v' l) :
  Rq w0 ((W.setCell ⟨g,8,none⟩ v').setCell ⟨g,7,none⟩ (.int .i64 0)) g s a p n b 0 l:=by
 have hne:=h4.ne h3 (by decide);refine ⟨(h1.setCell (p:=⟨g,8,none⟩) h2 _).setCell (p:=⟨g,7,none⟩) h2 _,h2,v',?_,?_⟩
 ·exact aj (aj h3 8 _) 7 _
 ·exact (h4.kp (Kp.set _ g 8 _) hne).kp (Kp.set _ g 7 _) hne
theorem Da {ops:Array Oper}{o:Oper}{a:Act}{K:Act->World->Prop}{Q:Exit->Act->World->Prop}{E:Prop}(hgd:o.guard=none) (s x:Operand)
  (ho:o.op=.call { callee:=.builtin .append,args:=#[s,x],argTypes:=#[41,41] }) (B:Nat) (v:Value) (l:List Tv) (d:Tv) (hs:a.eval s=v) (hr:Rt B W v l)
  (g c:Nat) (hx:a.eval x=.slice (some ⟨g,0,none⟩) 1 c) (hg:W.heap[g]?=some (.cells #[.int .u8 d.k,.string d.t,.int .i64 d.a,.int .i64 d.l,.int .i64 d.c,.int .i64 d.f] 51 (0,0))) (hl:l.length<=2147483647) (hB:B<=W.heap.size)
  (h:∀q cap w',Rt B w' (.slice (some ⟨q,0,none⟩) (l.length+1) cap) (l++[d])->Below B W w'->W.grownBy w' v.ownBlock->K (a.put o.dst (.slice (some ⟨q,0,none⟩) (l.length+1) cap)) w') :
  if Region.wanted o (yielded ops a.tmps)=true then Oper.wp Tryz.prog o a W K Q else E:=by
 obtain ⟨i0,hi,hz0,hz1,hz2⟩:=Sa Tryz.info51;refine TI W hgd s x 41 ho B 51 i0 _ 6 56 Tryz.underlying41 hi hz0 hz1 hz2 rfl (by decide) v _ _ hs hr ⟨g,0,none⟩ 1 c (GE [d]) hx (by rw [Hb];rfl) ?_ (Ha [d]) (by omega) (by unfold maxLen;omega) (by omega) hB _ rfl ?_
 ·intro j u hu;refine RW hg j u ?_;have e:GE [d]=[.int .u8 d.k,.string d.t,.int .i64 d.a,.int .i64 d.l,.int .i64 d.c,.int .i64 d.f]:=by simp [GE,bz,Tv.cs]
  rw [e] at hu
  simpa using hu
 ·intro q cap w' a1 a2 a3 _;refine h q cap w' ?_ ((hH B W).grown a2 hB hr.own) a2;unfold Rt;rw [Or,Hc];exact a1
theorem AD (h:Rq w0 W g s a p n b f l) (k:Nat) (T:ByteArray) (hT:(if k=7 then s.extract b (aY s a) else s.extract b a)=T) (h7:k=7->b<a/\cQ (ay s b)=false) (hs:s.size<=2147483647) (hba:b<=a) (ha:a<=s.size) (hl:l.length<=2147483647) :
  Ra 101 #[.pointer (some ⟨g,0,none⟩),.int .u8 k] W fun e w'=>e=.returned (.int .i64 0)/\Rq w0 w' g s a p n b 0 (l++[⟨k,T,b,pL s b,pC s b,f⟩]):=by
 obtain ⟨h1,h2,v,h3,h4⟩:=h
 have hTz:T.size<=2147483647:=by
  rw [<-hT];have:=fO s a
  split
  ·rw [az s b _ (by omega)];omega
  ·rw [az s b a ha];omega
 obtain ⟨U,hU⟩:∃U,s.extract b a=U:=⟨_,rfl⟩
 have HTr:Hid (k=7->∀V,Ra 146 #[.string U,.string ⟨#[32,9,13]⟩] V fun e w'=>e=.returned (.string T)/\Rc V w'):=fun hk V=>by
  have h8:=CT U V (by rw [<-hU,az s b a ha];omega);rw [IO hk] at hT;rw [<-hU,G2 s b a (h7 hk).1 ha (h7 hk).2,hT] at h8;rw [<-hU];exact h8
 have HTn:Hid (k≠7->U=T):=fun hk=>by rw [Eq hk] at hT;rw [<-hU];exact hT
 have HB:Hid (Ra 108 #[.pointer (some ⟨g,0,none⟩)] W fun e w'=>e=.returned (.string U)/\∃m,w'=W.drewN m):=by rw [<-hU];exact jy h3 hs hba ha
 have HC:Hid (∀V,Ra 147 #[.string T] V fun e w'=>e=.returned (.string T)/\Rc V w'):=fun V=>Cg T V hTz
 have HK:Hid (∀V,Rc W V->Rc w0 V/\RB V g s a p n b f v/\Rt w0.heap.size V v l):=fun V hb=>⟨h1.trans (hb.mono h1.size),ag h3 hb,h4.below hb⟩
 obtain ⟨vp,vc,rfl,hv1,hv2⟩:=h4.shape;clear h1 h3 h4 hT h7 hU
 go_enter Tryz.func101,Tryz.ntmps101
 go_upto_if 9 with (first|(go_at_call 108;refine HB.out.mono ?_;rintro e w1 ⟨rfl,m,hw⟩;have hb0:=dR W m;rw [<-hw] at hb0;clear hw))
 go_cut [5] from 9 (fun t wx=>t=.string T/\Hid (Below W.heap.size W wx))
 case first=>
  by_cases hk:k=7
  ·have q1:((k:Int) == 7)=true:=by simp;omega
   have HKk:Hid (k=7):=hk;clear hk
   go_wp2_with (first|(go_at_call 146;refine (HTr.out HKk.out _).mono ?_;rintro e w2 ⟨rfl,hb2⟩))
   go_meet
   exact ⟨rfl,hb0.trans (hb2.mono hb0.size)⟩
  ·have q1:((k:Int) == 7)=false:=by simp;omega
   have HKk:Hid (k≠7):=hk;clear hk
   go_wp2_with fail
   go_meet
   exact ⟨by rw [HTn.out HKk.out],hb0⟩
 case rest=>
  obtain ⟨rfl,HW⟩:=hcut;have hb0:=HW.out
  go_wp2_with fail
  have HK1:Hid (∀V,Rc wc V->Rc w0 V/\RB V g s a p n b f (.slice vp l.length vc)/\Rt w0.heap.size V (.slice vp l.length vc) l):=fun V hb=>HK.out V (hb0.trans (hb.mono hb0.size))
  obtain ⟨_,k3,_⟩:=HK1.out _ (hH _ _);obtain ⟨c0,c1,c2,c3,c4,c5,c6,c7,c8⟩:=Rq.cells k3;have hlt:=aq k3;clear HK HB hb0 k3 c0 c1 c2 c3
  have HA:Hid (∀V q cap w',Rc wc V->Rt w0.heap.size w' (.slice (some ⟨q,0,none⟩) (l.length+1) cap) (l++[⟨k,T,b,pL s b,pC s b,f⟩])->Below w0.heap.size V w'->V.grownBy w' (Value.slice vp l.length vc).ownBlock->RB w' g s a p n b f (.slice vp l.length vc)/\Rc w0 w'):=fun V q cap w' hV hr hb hg=>by
   obtain ⟨x1,x3,x4⟩:=HK1.out _ hV;exact ⟨(Kp.of_grown hg).blk x3 (fun e=>x4.ne x3 (by decide) _ e.symm rfl),x1.trans hb⟩
  go_region_law (first|(go_simp;go_at_call 147;refine (HC.out _).mono ?_;rintro e w2 ⟨rfl,hb2⟩;have hbW:Below wc.heap.size wc w2:=(hH wc.heap.size wc).drew.trans (hb2.mono (gt _));obtain ⟨y1,y3,yr⟩:=HK1.out _ hbW;obtain ⟨_,_,_,_,y4,y5,y6,y7,y8⟩:=Rq.cells y3;have hlt2:=aq y3;have hs0:=y1.size)|(refine Da (by rfl) _ _ (by rfl) w0.heap.size (.slice vp l.length vc) l ⟨k,T,b,pL s b,pC s b,f⟩ (by rfl) (yr.below ((hH _ _).alloc (gt _) _)) w2.heap.size 1 (by rfl) (au _ _) hl (by rw [QL];exact Nat.le_succ_of_le hs0) ?_;intro q cap w3 hr3 hb3 hg3;obtain ⟨z3,z1⟩:=HA.out _ _ _ _ (hbW.alloc hbW.size _) hr3 hb3 hg3;have HF:Hid (Rq w0 ((w3.setCell ⟨g,8,none⟩ (.slice (some ⟨q,0,none⟩) (l.length+1) cap)).setCell ⟨g,7,none⟩ (.int .i64 0)) g s a p n b 0 (l++[⟨k,T,b,pL s b,pC s b,f⟩])):=Rq.told z1 h2 z3 hr3;have zf:=z3.frozen 8;have zc:w3.cell? ⟨g,8,none⟩=some (.slice vp l.length vc):=af z3 rfl;have zg:=z3.frozen 7;have zd:w3.cell? ⟨g,7,none⟩=some (.int .i64 f):=af z3 rfl;clear hr3 hb3 hg3 z3 z1 y1 y3 yr))
  all_goals (
   go_wp2_with fail
   go_ret
   exact ⟨rfl,HF.out⟩)
theorem da (h:Rs w0 W g s y a f l) (k:Nat) (hs:s.size<=2147483647) (hay:a<=y) (hy:y<=s.size) (hl:l.length<=2147483647) (h7:k=7->a<y/\cQ (ay s a)=false) :
  Ra 101 #[.pointer (some ⟨g,0,none⟩),.int .u8 k] W fun e w'=>e=.returned (.int .i64 0)/\Rs w0 w' g s y a 0 (l++[tv s ⟨k,a,if k=7 then aY s y else y,f⟩]):=by
 refine (AD h k _ rfl h7 hs hay hy hl).mono ?_;rintro e w' ⟨rfl,hr⟩;refine ⟨rfl,?_⟩
 have e:tv s ⟨k,a,if k=7 then aY s y else y,f⟩=⟨k,if k=7 then s.extract a (aY s y) else s.extract a y,a,pL s a,pC s a,f⟩:=by
  unfold tv
  by_cases e:k=7
  ·simp only [IO e]
  ·simp only [Eq e]
 rw [e];exact hr
theorem OQ (h:ak s a=3):cJ (ay s a)=true:=by
 unfold ak at h
 repeat' split at h
 all_goals first|assumption|(cases h;done)
theorem OR (h:ak s a=1):(gd s a && fC (dp s a))=true:=by
 unfold ak at h
 repeat' split at h
 all_goals first|assumption|(cases h;done)
theorem OP (h:ak s a=4):ay s a=34:=by
 unfold ak at h
 repeat' split at h
 all_goals first|assumption|(cases h;done)
theorem OO (h:ak s a=5):ay s a=39:=by
 unfold ak at h
 repeat' split at h
 all_goals first|assumption|(cases h;done)
theorem Ng (h:ak s a=7):ay s a=47/\a+1<s.size/\ay s (a+1)=47:=by
 unfold ak at h
 repeat' split at h
 all_goals first|assumption|(cases h;done)
theorem ON (h:ak s a=8):ay s a=123:=by
 unfold ak at h
 repeat' split at h
 all_goals first|assumption|(cases h;done)
theorem MX {c:Nat}(h:cJ c=true):48<=c/\c<=57:=by
 unfold cJ at h
 simpa using h
structure JN (w0 W:World) (g:Nat) (s:ByteArray) (k a f:Nat) (l:List Tv) (x:Nat):Prop where
 ax:a<=x
 xs:x<s.size
 bx:bd s x
 rs:Rs w0 W g s x a f l
 on:∃m,run (cf s a k) s.size x m=ap s a k/\cf s a k x m=.on (dw s x)
theorem JN.next {W':World}(h:JN w0 W g s k a f l x) (hr:Rs w0 W' g s (x+fe s x) a f l) :
  ∃y,x<y/\a<=y/\y<=s.size/\bd s y/\Rs w0 W' g s y a f l/\∃m,run (cf s a k) s.size y m=ap s a k:=by
 obtain ⟨h1,h2,h3,h4,m,h5,h6⟩:=h;obtain ⟨e1,e2⟩:=LU h2 h5 h6;have d:=(aV s x h2).1;rw [ce h2] at hr;exact ⟨x+dw s x,by omega,by omega,e1,jA h3 h2,hr,m+1,e2⟩
theorem IR (h:Rs w0 W g s a a f l) (hs:s.size<=2147483647) (ha:a<s.size) (hb:bd s a) (hk:ak s a=3) (hl:l.length<=2147483647) :
  Ra 55 #[.pointer (some ⟨g,0,none⟩)] W fun e w'=>e=.returned (.int .i64 ((ap s a 3).2:Nat))/\TP w0 w' g s 3 a f l:=by
 have hd:=OQ hk;have hd2:=MX hd;have hE:ap s a 3=run (cf s a 3) s.size a 0:=by unfold ap;simp
 have hw:=(bq s a (by omega)).1;have hJ0:JN w0 W g s 3 a f l a:=⟨gt _,ha,hb,h,0,hE.symm,rV ha (by rintro (⟨h,_⟩|⟨_,h⟩);cases h;rw [hd] at h;cases h) (by omega)⟩
 have HT:Hid (∀V x,JN w0 V g s 3 a f l x->Ra 98 #[.pointer (some ⟨g,0,none⟩)] V fun e w'=>e=.returned (.tuple #[])/\∃y,x<y/\a<=y/\y<=s.size/\bd s y/\Rs w0 w' g s y a f l/\∃m,run (cf s a 3) s.size y m=ap s a 3):=fun V x hx=>by
  refine (co hx.rs hs (RO hx.xs)).mono ?_;rintro e w' ⟨rfl,hr⟩;exact ⟨rfl,hx.next hr⟩
 have HD:Hid (∀p V,Ra 54 #[.int .i32 p] V fun e w'=>e=.returned (.bool (decide (48<=p) && decide (p<=57)))/\w'=V):=bP
 have HP:Hid (∀V y,Rs w0 V g s y a f l->a<=y->y<=s.size->(Ra 101 #[.pointer (some ⟨g,0,none⟩),.int .u8 3] V fun e w'=>e=.returned (.int .i64 0)/\Rs w0 w' g s y a 0 (l++[tv s (cM s 3 a y f)]))/\(Ra 103 #[.pointer (some ⟨g,0,none⟩)] V fun e w'=>e=.returned (.bool (decide (65535<y+fe s y-a)))/\Rs w0 w' g s y a f l)):=fun V y hr h1 h2=>by
  constructor
  ·exact da hr 3 hs h1 h2 hl (by intro h;cases h)
  ·obtain ⟨h1',h2',v,h3,h4⟩:=hr;refine (fT h3 hs h1 h2 (by by_cases e:y<s.size;rw [ce e];exact (aV s y e).2.1;rw [gm (by omega)];omega)).mono ?_;rintro e w' ⟨rfl,hb⟩;exact ⟨rfl,Rq.below ⟨h1',h2',v,h3,h4⟩ hb⟩
 have HC:Hid (∀V y,Rs w0 V g s y a f l->V.cell? ⟨g,2,none⟩=some (.int .i32 (bf s y))):=fun V y hr=>by
  obtain ⟨h1',h2',v,h3,h4⟩:=hr;exact (Rq.cells h3).2.2.1
 have c2:=HC.out _ _ h;have q0:(decide (48<=bf s a) && decide (bf s a<=57))=true:=by rw [dK,QW ha,hd];rfl
 have HJ0:Hid (JN w0 W g s 3 a f l a):=hJ0;have HD0:Hid (Ra 54 #[.int .i32 (bf s a)] W fun e w'=>e=.returned (.bool true)/\w'=W):=by rw [<-q0];exact bP _ _
 clear hd hd2 hE hw hJ0 h hk q0
 go_enter Tryz.func55,Tryz.ntmps55
 go_wp2_with fail
 refine Tl 0 (fun a' w'=>∃(x:Nat) (u1 u2 u3 u4 u5 u6 u7 u8 u9 u10 u11 u12 u13 u14 u15 u16 u17 u18 u19 u20 u21 u22 u23 u24 u25 u26 u27 u28 u29 u30 u31 u32 u33 u34 u35 u36 u37 u38:Value),Hid (JN w0 w' g s 3 a f l x)/\a'={ tmps:=#[.pointer (some ⟨g,0,none⟩),u1,u2,u3,u4,u5,u6,u7,u8,u9,u10,u11,u12,u13,u14,u15,u16,u17,u18,u19,u20,u21,u22,u23,u24,u25,u26,u27,u28,u29,u30,u31,u32,u33,u34,u35,u36,u37,u38],defers:=[] }) (fun _ w'=>s.size-fW w' g 1) rfl ?_ ?_
 ·go_wp2_with (first|(go_at_call 54;refine HD0.out.mono ?_;rintro e w1 ⟨rfl,hw⟩;replace hw:=hw.symm;subst hw))
  go_step3
  exact ⟨rfl,a,_,_,_,_,_,_,_,_,_,_,_,_,_,_,_,_,_,_,_,_,_,_,_,_,_,_,_,_,_,_,_,_,_,_,_,_,_,_,HJ0,rfl⟩
 ·rintro a' w' ⟨x,u1,u2,u3,u4,u5,u6,u7,u8,u9,u10,u11,u12,u13,u14,u15,u16,u17,u18,u19,u20,u21,u22,u23,u24,u25,u26,u27,u28,u29,u30,u31,u32,u33,u34,u35,u36,u37,u38,HJ,rfl⟩;have HX:Hid (fW w' g 1=x/\x<s.size):=⟨HJ.out.rs.at,HJ.out.xs⟩
  go_wp2_with fail
  refine (HT.out _ _ HJ.out).mono ?_;rintro e w1 ⟨rfl,y,y1,y2,y3,y4,y5,m,y6⟩;have z2:=HC.out _ _ y5;obtain ⟨t1,t2⟩:=HP.out _ _ y5 y2 y3;have HY:Hid (Rs w0 w1 g s y a f l/\bd s y/\run (cf s a 3) s.size y m=ap s a 3):=⟨y5,y4,y6⟩;clear HJ y5 y4 y6 c2
  by_cases hc:(decide (48<=bf s y) && decide (bf s y<=57))=true
  ·have HDy:Hid (Ra 54 #[.int .i32 (bf s y)] w1 fun e w'=>e=.returned (.bool true)/\w'=w1):=by rw [<-hc];exact bP _ _
   have hc2:=hc;rw [dK,QR,Rj] at hc2;obtain ⟨d1,d2⟩:=hc2
   have HN:Hid (¬((3=1/\(gd s y && jC (dp s y))=false)\/((3:Nat)=3/\cJ (ay s y)=false))):=by
    show ¬_
    rintro (⟨h,_⟩|⟨_,h⟩)
    ·cases h
    ·rw [d2] at h;cases h
   have HF2:Hid (Ra 103 #[.pointer (some ⟨g,0,none⟩)] w1 fun e w'=>e=.returned (.bool (decide (65535<y+fe s y-a)))/\Rs w0 w' g s y a f l):=t2;rw [ce d1] at HF2;clear hc t1 t2
   by_cases hf:65535<y+dw s y-a
   ·have HE:Hid (ap s a 3=(a,103)):=uz d1 HY.out.2.2 HN.out hf;rw [QW hf] at HF2;clear hf
    go_wp2_with (first|(go_at_call 54;refine HDy.out.mono ?_;rintro e w2 ⟨rfl,hw⟩;replace hw:=hw.symm;subst hw)|(go_at_call 103;refine HF2.out.mono ?_;rintro e w3 ⟨rfl,hr3⟩))
    simp only [Exit.jump]
    go_ret
    rw [HE.out];exact ⟨rfl,TP.bad HE.out (by decide) HY.out.2.1 y2 hr3 (by intro h;cases h)⟩
   ·have HO:Hid (cf s a 3 y m=.on (dw s y)):=rV d1 HN.out hf;rw [QX hf] at HF2;clear hf
    go_wp2_with (first|(go_at_call 54;refine HDy.out.mono ?_;rintro e w2 ⟨rfl,hw⟩;replace hw:=hw.symm;subst hw)|(go_at_call 103;refine HF2.out.mono ?_;rintro e w3 ⟨rfl,hr3⟩))
    go_step3
    refine ⟨rfl,⟨y,_,_,_,_,_,_,_,_,_,_,_,_,_,_,_,_,_,_,_,_,_,_,_,_,_,_,_,_,_,_,_,_,_,_,_,_,_,_,⟨y2,d1,HY.out.2.1,hr3,m,HY.out.2.2,HO.out⟩,rfl⟩,?_⟩;rw [HX.out.1,hr3.at];have:=HX.out.2;omega
  ·have hc1:(decide (48<=bf s y) && decide (bf s y<=57))=false:=by simpa using hc
   have HDy:Hid (Ra 54 #[.int .i32 (bf s y)] w1 fun e w'=>e=.returned (.bool false)/\w'=w1):=by rw [<-hc1];exact bP _ _
   have HE:Hid (ap s a 3=(y,0)):=by
    refine uy y3 HY.out.2.2 ?_;rw [dK] at hc1
    by_cases e:y<s.size
    ·rw [QW e,R4] at hc1;exact .inr (.inr ⟨rfl,hc1⟩)
    ·exact .inl (by omega)
   have HTl:Hid (Ra 101 #[.pointer (some ⟨g,0,none⟩),.int .u8 3] w1 fun e w'=>e=.returned (.int .i64 0)/\Rs w0 w' g s y a 0 (l++[tv s (cM s 3 a y f)])):=t1;clear hc hc1 t1 t2
   go_wp2_with (first|(go_at_call 54;refine HDy.out.mono ?_;rintro e w2 ⟨rfl,hw⟩;replace hw:=hw.symm;subst hw)|(go_at_call 101;refine HTl.out.mono ?_;rintro e w3 ⟨rfl,hr3⟩))
   simp only [Exit.jump]
   go_ret
   rw [HE.out];exact ⟨rfl,TP.ok HE.out hr3⟩
end Go.Proofs.YtjiepkenkcgkhaaGreatDoor.Lx
