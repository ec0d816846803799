import Derived.Shelf.Strings.SlTrimAscii
import Derived.Shelf.Strings.Runes
import Derived.Shelf.Small.Utf8
import Derived.Shelf.LaysM
import Derived.Shelf.Strconv.Clone
import Derived.Shelf.Strings.Search1
import Derived.Laws.Runes
import Derived.Test.YtpdlohfdjiaegaaGreatDoorR05
set_option linter.unusedVariables false
set_option linter.unusedSimpArgs false
set_option maxHeartbeats 2000000
set_option maxRecDepth 1000000
namespace Go.Proofs.YtpdlohfdjiaegaaGreatDoor.Lx
open Go.RowKit
variable {W w0:World}{g a b f:Nat}{s:ByteArray}{p n:Int}{v:Value}{l:List Tv}
theorem dj {n:Nat}(h:RB W g s a p n b f v) (hs:s.size<=2147483647) (hba:b<=a) (ha:a<=s.size) (hn:n<=4) :
  Aa 138 #[.pointer (some ⟨g,0,none⟩)] W fun e w'=>e=.returned (.bool (decide (65535<a+n-b)))/\Below W.heap.size W w':=by
 have HB:Hid (∀V,Ab W V->Aa 144 #[.pointer (some ⟨g,0,none⟩)] V fun e w'=>e=.returned (.string (s.extract b a))/\Ab V w'):=fun V hV=>by
  refine (eX (ab h hV) hs hba ha).mono ?_;rintro e w' ⟨rfl,m,rfl⟩;exact ⟨rfl,bG _ _⟩
 have HK:Hid (∀V,Ab W V->V.cell? ⟨g,3,none⟩=some (.int .i64 n)/\Ab W V):=fun V hV=>⟨aa (ab h hV) rfl,hV⟩
 have hz:(s.extract b a).size=a-b:=aC s b a ha;have e:decide (65535<a+n-b)=decide (((s.extract b a).size:Int)+n>65535):=by rw [B8,hz];omega
 rw [e];have hwr:IntKind.i64.wrap (((s.extract b a).size:Int)+(n:Int))=((s.extract b a).size:Int)+(n:Int):=by rw [zF,hz];omega
 clear e h hz
 generalize s.extract b a=t at *
 go_enter Tryz.func138,Tryz.ntmps138
 go_wp2_with fail
 go_region_held3 (fun w'=>w'.cell? ⟨g,3,none⟩=some (.int .i64 n)/\Below W.heap.size W w') (first|(exact HK.out _ (by assumption))|(exact HK.out _ (gt _ _).drew)|go_keep) (first|(go_at_call 144;refine (HB.out _ (by first|assumption|exact (gt _ _).drew)).mono ?_;rintro e w1 ⟨rfl,hb1⟩;have hbW:=(by first|exact (gt W.heap.size W).drew.trans (hb1.mono (eq _))|exact (by assumption:Below W.heap.size W _).trans (hb1.mono (Ci (by assumption))):Below W.heap.size W w1)))
 all_goals (
  go_wp2_with fail
  go_ret
  exact ⟨rfl,hbW⟩)
theorem lI (h:RB W g s a p n b f v) (hs:s.size<=2147483647) (hba:b<=a) (hb:bd s b) (ha:bd s a) :
  Aa 93 #[.pointer (some ⟨g,0,none⟩)] W fun e w'=>e=.returned (plV a (pL s a) (pC s a))/\Below W.heap.size W w':=by
 have hal:=t6 ha;obtain ⟨j1,j2,j3⟩:=uf hb ha hba hs;obtain ⟨W1,hW1⟩:∃W1,W.alloc (.cells #[.int .i64 0,.int .i64 0,.int .i64 0] 35)=W1:=⟨_,rfl⟩;have hB0:Below W.heap.size W W1:=by rw [<-hW1];exact (gt _ _).alloc (eq _) _
 have k0:bi W1 W.heap.size 0 0 0:=by rw [<-hW1];exact bi.new W 0 0 0
 have HB:Hid (∀V,Ab W V->Aa 144 #[.pointer (some ⟨g,0,none⟩)] V fun e w'=>e=.returned (.string (s.extract b a))/\Ab V w'):=fun V hV=>by
  refine (eX (ab h hV) hs hba hal).mono ?_;rintro e w' ⟨rfl,m,rfl⟩;exact ⟨rfl,bG _ _⟩
 have HA:Hid (∀V,Aa 143 #[.agg #[.int .i64 b,.int .i64 (pL s b),.int .i64 (pC s b)],.string (s.extract b a)] V fun e w'=>e=.returned (.agg #[.int .i64 a,.int .i64 (pL s a),.int .i64 (pC s a)])/\Ab V w'):=fun V=>by
  have:=wE b (pL s b) (pC s b) (s.extract b a) V (by rw [aC s b a hal];omega) (yO s b);rw [j1,j2,j3] at this;exact this
 have HK:Hid (∀V,Ab W V->V.cell? ⟨g,4,none⟩=some (.int .i64 b)/\V.cell? ⟨g,5,none⟩=some (.int .i64 (pL s b))/\V.cell? ⟨g,6,none⟩=some (.int .i64 (pC s b))/\Ab W V):=fun V hV=>⟨aa (ab h hV) rfl,aa (ab h hV) rfl,aa (ab h hV) rfl,hV⟩
 clear h j1 j2 j3;unfold plV
 generalize s.extract b a=t at *
 generalize pL s a=L2 at *
 generalize pC s a=C2 at *
 generalize pL s b=L at *
 generalize pC s b=C at *
 go_enter Tryz.func93,Tryz.ntmps93
 go_wp2_with fail
 try rw [hW1]
 clear hW1
 go_region_held3 (fun w'=>w'.cell? ⟨g,4,none⟩=some (.int .i64 b)/\w'.cell? ⟨g,5,none⟩=some (.int .i64 L)/\w'.cell? ⟨g,6,none⟩=some (.int .i64 C)/\Below W.heap.size W w') (first|(exact HK.out _ (by assumption))|(exact HK.out _ hB0.drew)|(exact HK.out _ (((hbX.setCell (p:=⟨W.heap.size,0,none⟩) (eq _) _).setCell (p:=⟨W.heap.size,1,none⟩) (eq _) _).setCell (p:=⟨W.heap.size,2,none⟩) (eq _) _))|go_keep) (first|(go_at_call 144;refine (HB.out _ (by first|assumption|exact hB0.drew)).mono ?_;rintro e w1 ⟨rfl,hb1⟩;have k1:=k0.drew.below hb1;have hbW:=hB0.drew.trans (hb1.mono hB0.size))|(go_at_call 143;refine (HA.out _).mono ?_;rintro e w2 ⟨rfl,hb2⟩;have hbX:=hbW.trans (hb2.mono hbW.size);have k2:=k1.below hb2;have g0:=k2.cell0;have g1:=k2.cell1;have g2:=k2.cell2;have f0:=k2.frozen 0;have f1:=k2.frozen 1;have f2:=k2.frozen 2))
 all_goals (
  go_wp2_with fail
  have hb5:=((k2.set0 a).set1 L2).set2 C2;have m0:=hb5.cell0;have m1:=hb5.cell1;have m2:=hb5.cell2;refine zE (v:=.agg #[.int .i64 a,.int .i64 L2,.int .i64 C2]) (by simp [results,Tryz.f93,go_sem,m0,m1,m2]) rfl ?_;refine ⟨rfl,?_⟩;exact ((hbX.setCell (p:=⟨W.heap.size,0,none⟩) (eq _) _).setCell (p:=⟨W.heap.size,1,none⟩) (eq _) _).setCell (p:=⟨W.heap.size,2,none⟩) (eq _) _)
theorem uE (h:Rs w0 W g s a b f l) (hs:s.size<=2147483647) (hba:b<=a) (hb:bd s b) (ha:bd s a) :
  Aa 85 #[.pointer (some ⟨g,0,none⟩)] W fun e w'=>e=.returned (.tuple #[])/\Rs w0 w' g s a a f l:=by
 obtain ⟨h1,h2,v,h3,h4⟩:=h;have HH:Hid (Aa 93 #[.pointer (some ⟨g,0,none⟩)] W fun e w'=>e=.returned (.agg #[.int .i64 a,.int .i64 (pL s a),.int .i64 (pC s a)])/\Ab W w'):=lI h3 hs hba hb ha
 have HR:Hid (∀w',Ab W w'->(∀k,w'.frozen? ⟨g,k,none⟩=false)/\(w'.cell? ⟨g,4,none⟩=some (.int .i64 b)/\w'.cell? ⟨g,5,none⟩=some (.int .i64 (pL s b))/\w'.cell? ⟨g,6,none⟩=some (.int .i64 (pC s b)))/\Rs w0 (((w'.setCell ⟨g,4,none⟩ (.int .i64 a)).setCell ⟨g,5,none⟩ (.int .i64 (pL s a))).setCell ⟨g,6,none⟩ (.int .i64 (pC s a))) g s a a f l):=fun w' hb=>by
  have k1:=h1.trans (hb.mono h1.size);have k3:RB w' g s a (rpt s a) (rsz s a) b f v:=ab h3 hb;have k4:=h4.below hb;obtain ⟨c0,c1,c2,c3,c4,c5,c6,c7,c8⟩:=Rq.cells k3;refine ⟨fun k=>k3.frozen k,⟨c4,c5,c6⟩,?_⟩;have hne:=k4.ne k3 (by decide);refine ⟨((k1.setCell (p:=⟨g,4,none⟩) h2 _).setCell (p:=⟨g,5,none⟩) h2 _).setCell (p:=⟨g,6,none⟩) h2 _,h2,v,?_,?_⟩
  ·exact af (af (af k3 4 _) 5 _) 6 _
  ·exact ((k4.kp (Kp.set _ g 4 _) hne).kp (Kp.set _ g 5 _) hne).kp (Kp.set _ g 6 _) hne
 clear h1 h3 h4
 generalize pL s a=L2 at *
 generalize pC s a=C2 at *
 go_enter Tryz.func85,Tryz.ntmps85
 go_wp2_with (go_at_call 93;refine HH.out.mono ?_;rintro e w1 ⟨rfl,hb1⟩;obtain ⟨fz,⟨c4,c5,c6⟩,h7⟩:=HR.out _ hb1;have HF:Hid (Rs w0 (((w1.setCell ⟨g,4,none⟩ (.int .i64 a)).setCell ⟨g,5,none⟩ (.int .i64 L2)).setCell ⟨g,6,none⟩ (.int .i64 C2)) g s a a f l):=h7;clear h7;have z4:=fz 4;have z5:=fz 5;have z6:=fz 6)
 go_end0
 exact ⟨rfl,HF.out⟩
theorem lk (h:Rs w0 W g s a b f l) (hs:s.size<=2147483647) (ha:a<=s.size) (hf:f<=s.size) :
  Aa 84 #[.pointer (some ⟨g,0,none⟩)] W fun e w'=>e=.returned (.tuple #[])/\Rs w0 w' g s (a+rsz s a) b (if rpt s a=10 then f+1 else f) l:=by
 by_cases h10:rpt s a=10
 ·rw [zw h10];obtain ⟨h1,h2,v,h3,h4⟩:=h;obtain ⟨c0,c1,c2,c3,c4,c5,c6,c7,c8⟩:=Rq.cells h3;have z7:=h3.frozen 7;obtain ⟨m1,m3,m4⟩:=Rq.set h1 h2 h3 h4 7 (.int .i64 ((f+1:Nat):Int)) (f':=f+1) rfl rfl;rw [DW] at m1 m3 m4;have HL:Hid (Aa 133 #[.pointer (some ⟨g,0,none⟩)] (W.setCell ⟨g,7,none⟩ (.int .i64 ((f:Int)+1))) fun e w'=>e=.returned (.tuple #[])/\Rs w0 w' g s (a+rsz s a) b (f+1) l):=bq ⟨m1,h2,v,m3,m4⟩ hs ha;rw [h10] at c2;clear h1 h3 h4 m1 m3 m4 h10
  go_enter Tryz.func84,Tryz.ntmps84
  go_wp2_with (go_at_call 133;refine HL.out.mono ?_;rintro e w1 ⟨rfl,h5⟩)
  go_end0
  exact ⟨rfl,h5⟩
 ·rw [zu h10];have HL:Hid (Aa 133 #[.pointer (some ⟨g,0,none⟩)] W fun e w'=>e=.returned (.tuple #[])/\Rs w0 w' g s (a+rsz s a) b f l):=bq h hs ha;obtain ⟨h1,h2,v,h3,h4⟩:=h;obtain ⟨c0,c1,c2,c3,c4,c5,c6,c7,c8⟩:=Rq.cells h3;have q1:(rpt s a == 10)=false:=by simpa using h10
  clear h1 h3 h4 h10
  go_enter Tryz.func84,Tryz.ntmps84
  go_wp2_with (go_at_call 133;refine HL.out.mono ?_;rintro e w1 ⟨rfl,h5⟩)
  go_end0
  exact ⟨rfl,h5⟩
theorem fx (h:RB W g s a p n b f v) (hT:Kab W) (hs:s.size<=2147483647) (hba:b<=a) (ha:a<=s.size) :
  Aa 137 #[.pointer (some ⟨g,0,none⟩)] W fun e w'=>e=.returned (.int .u8 (if ky (s.extract b a)=true then 2 else 1))/\Below W.heap.size W w':=by
 have HB:Hid (Aa 144 #[.pointer (some ⟨g,0,none⟩)] W fun e w'=>e=.returned (.string (s.extract b a))/\∃m,w'=W.drewN m):=eX h hs hba ha
 have HI:Hid (∀m,Aa 184 #[.string (s.extract b a)] (W.drewN m) fun e w'=>e=.returned (.bool (ky (s.extract b a)))/\Ab W w'):=fun m=>by
  refine (qd (s.extract b a) (W.drewN m) (hT.below (bG W m)).2.1).mono ?_;rintro e w' ⟨rfl,rfl⟩;exact ⟨rfl,bG W m⟩
 clear h hT
 generalize ky (s.extract b a)=k at *
 generalize s.extract b a=t at *
 cases k
 ·go_enter Tryz.func137,Tryz.ntmps137
  go_wp2_with (first|(go_at_call 144;refine HB.out.mono ?_;rintro e w1 ⟨rfl,m,rfl⟩)|(go_at_call 184;refine (HI.out _).mono ?_;rintro e w2 ⟨rfl,hb2⟩))
  go_ret
  exact ⟨rfl,hb2⟩
 ·go_enter Tryz.func137,Tryz.ntmps137
  go_wp2_with (first|(go_at_call 144;refine HB.out.mono ?_;rintro e w1 ⟨rfl,m,rfl⟩)|(go_at_call 184;refine (HI.out _).mono ?_;rintro e w2 ⟨rfl,hb2⟩))
  go_ret
  exact ⟨rfl,hb2⟩
end Go.Proofs.YtpdlohfdjiaegaaGreatDoor.Lx
namespace Go.Proofs.YtpdlohfdjiaegaaGreatDoor.Lx
open Go.RowKit Go.Shelf
def Tryz.lays162_ren:Go.Shelf.Ren:=⟨fun|162=>182|232=>210|227=>211|234=>212|236=>213|228=>235|271=>236|151=>132|120=>249|197=>250|152=>181|260=>259|137=>206|119=>207|224=>208|225=>209|217=>234|266=>248|n=>n,fun|9=>9|4=>4|3=>3|5=>5|117=>261|116=>260|0=>0|124=>264|21=>21|105=>195|46=>225|119=>278|139=>281|138=>280|n=>n,fun|3=>5|4=>6|n=>n⟩
theorem Tryz.lays162:Go.Proofs.Lays.n162 Tryz.prog Tryz.lays162_ren:={
 mixed:=by kernel_rfl
 f119:=Tryz.func207.trans (zO some (by kernel_rfl))
 f120:=Tryz.func249.trans (zO some (by kernel_rfl))
 f137:=Tryz.func206.trans (zO some (by kernel_rfl))
 f151:=Tryz.func132.trans (zO some (by kernel_rfl))
 f152:=Tryz.func181.trans (zO some (by kernel_rfl))
 f162:=Tryz.func182.trans (zO some (by kernel_rfl))
 f197:=Tryz.func250.trans (zO some (by kernel_rfl))
 f217:=Tryz.func234.trans (zO some (by kernel_rfl))
 f224:=Tryz.func208.trans (zO some (by kernel_rfl))
 f225:=Tryz.func209.trans (zO some (by kernel_rfl))
 f227:=Tryz.func211.trans (zO some (by kernel_rfl))
 f228:=Tryz.func235.trans (zO some (by kernel_rfl))
 f232:=Tryz.func210.trans (zO some (by kernel_rfl))
 f234:=Tryz.func212.trans (zO some (by kernel_rfl))
 f236:=Tryz.func213.trans (zO some (by kernel_rfl))
 f260:=Tryz.func259.trans (zO some (by kernel_rfl))
 f266:=Tryz.func248.trans (zO some (by kernel_rfl))
 f271:=Tryz.func236.trans (zO some (by kernel_rfl))
 t0:=BH
 a0:=C4
 z0:=CD
 v0:=BP
 t3:=Ac
 a3:=Cb
 z3:=BQ
 v3:=Bc
 t4:=AU
 a4:=Cv
 z4:=Cj
 v4:=BA
 t5:=AW
 a5:=BR
 z5:=BB
 v5:=A4
 t9:=Am
 a9:=Cc
 z9:=BS
 v9:=Be
 t21:=Du
 a21:=Tryz.isAgg21
 z21:=Tryz.sizeOf21
 v21:=DI
 t46:=Cn
 a46:=DD
 z46:=Dp
 v46:=Cw
 t105:=Tryz.underlying195
 a105:=Tryz.isAgg195
 z105:=Tryz.sizeOf195
 v105:=Tryz.zeroValue195
 t116:=Tryz.underlying260
 a116:=Tryz.isAgg260
 z116:=Tryz.sizeOf260
 t117:=Tryz.underlying261
 a117:=Tryz.isAgg261
 z117:=Tryz.sizeOf261
 v117:=Tryz.zeroValue261
 t119:=Tryz.underlying278
 a119:=Tryz.isAgg278
 z119:=Tryz.sizeOf278
 t124:=Tryz.underlying264
 a124:=Tryz.isAgg264
 z124:=Tryz.sizeOf264
 v124:=Tryz.zeroValue264
 t138:=Tryz.underlying280
 a138:=Tryz.isAgg280
 z138:=Tryz.sizeOf280
 v138:=Tryz.zeroValue280
 t139:=Tryz.underlying281
 a139:=Tryz.isAgg281
 z139:=Tryz.sizeOf281
 v139:=Tryz.zeroValue281
 g3:=by kernel_rfl
 g4:=by kernel_rfl }
def Tryz.lays119_ren:Go.Shelf.Ren:=⟨fun|119=>207|n=>n,fun|21=>21|4=>4|n=>n,fun|n=>n⟩
theorem Tryz.lays119:Go.Proofs.Lays.n119 Tryz.prog Tryz.lays119_ren:={
 mixed:=by kernel_rfl
 f119:=Tryz.func207.trans (zO some (by kernel_rfl))
 t4:=AU
 a4:=Cv
 z4:=Cj
 v4:=BA
 t21:=Du
 a21:=Tryz.isAgg21
 z21:=Tryz.sizeOf21
 v21:=DI }
theorem Tryz.utf8_ValidRune (r:Int) (w:World) :
  Aa 207 #[.int .i32 r] w fun e w'=>e=.returned (.bool (Lib.validRune r))/\w'=w:=Any.utf8_ValidRune Tryz.lays119 r w
def Tryz.lays137_ren:Go.Shelf.Ren:=⟨fun|137=>206|217=>234|266=>248|n=>n,fun|9=>9|5=>5|3=>3|n=>n,fun|n=>n⟩
theorem Tryz.lays137:Go.Proofs.Lays.n137 Tryz.prog Tryz.lays137_ren:={
 mixed:=by kernel_rfl
 f137:=Tryz.func206.trans (zO some (by kernel_rfl))
 f217:=Tryz.func234.trans (zO some (by kernel_rfl))
 f266:=Tryz.func248.trans (zO some (by kernel_rfl))
 t3:=Ac
 a3:=Cb
 z3:=BQ
 v3:=Bc
 t5:=AW
 a5:=BR
 z5:=BB
 v5:=A4
 t9:=Am
 a9:=Cc
 z9:=BS
 v9:=Be }
theorem Tryz.strings_IndexByte (s:ByteArray) (c:Int) (w:World) :
  Aa 206 #[.string s,.int .u8 c] w fun e w'=>e=.returned (.int .i64 (Lib.indexByte s.data.toList c.toNat.toUInt8))/\w'=w:=Any.strings_IndexByte Tryz.lays137 s c w
def Tryz.laysM316_ren:Go.Shelf.Ren:=⟨fun|316=>214|n=>n,fun|9=>9|3=>3|4=>4|37=>164|0=>0|127=>228|5=>5|n=>n,fun|n=>n⟩
theorem Tryz.laysM316:Go.Proofs.LaysM.n316 Tryz.prog Tryz.laysM316_ren:={
 mixed:=by kernel_rfl
 f316:=Tryz.func214.trans (zO some (by kernel_rfl))
 t0:=BH
 a0:=C4
 z0:=CD
 v0:=BP
 t3:=Ac
 a3:=Cb
 z3:=BQ
 v3:=Bc
 t4:=AU
 a4:=Cv
 z4:=Cj
 v4:=BA
 t9:=Am
 a9:=Cc
 z9:=BS
 v9:=Be
 t37:=AS
 a37:=DE
 z37:=Dq
 v37:=Cx
 t127:=Dd
 a127:=Tryz.isAgg228
 z127:=Tryz.sizeOf228
 v127:=Dv
 t5:=AW
 a5:=BR
 z5:=BB
 v5:=A4
 i0:=by kernel_rfl
 i3:=by kernel_rfl
 i4:=by kernel_rfl
 i5:=by kernel_rfl
 i9:=by kernel_rfl
 i37:=by kernel_rfl
 i127:=by kernel_rfl }
theorem Tryz.stringslite_Clone (s:ByteArray) (w:World) (hlim:s.size<=281474976710656) :
  Aa 214 #[.string s] w fun e w'=>e=.returned (.string s)/\Below w.heap.size w w':=Any.stringslite_Clone Tryz.laysM316 s w hlim
def Tryz.lays151_ren:Go.Shelf.Ren:=⟨fun|151=>132|152=>181|137=>206|119=>207|224=>208|225=>209|217=>234|266=>248|n=>n,fun|9=>9|21=>21|4=>4|3=>3|5=>5|0=>0|46=>225|n=>n,fun|n=>n⟩
theorem Tryz.lays151:Go.Proofs.Lays.n151 Tryz.prog Tryz.lays151_ren:={
 mixed:=by kernel_rfl
 f119:=Tryz.func207.trans (zO some (by kernel_rfl))
 f137:=Tryz.func206.trans (zO some (by kernel_rfl))
 f151:=Tryz.func132.trans (zO some (by kernel_rfl))
 f152:=Tryz.func181.trans (zO some (by kernel_rfl))
 f217:=Tryz.func234.trans (zO some (by kernel_rfl))
 f224:=Tryz.func208.trans (zO some (by kernel_rfl))
 f225:=Tryz.func209.trans (zO some (by kernel_rfl))
 f266:=Tryz.func248.trans (zO some (by kernel_rfl))
 t0:=BH
 a0:=C4
 z0:=CD
 v0:=BP
 t3:=Ac
 a3:=Cb
 z3:=BQ
 v3:=Bc
 t4:=AU
 a4:=Cv
 z4:=Cj
 v4:=BA
 t5:=AW
 a5:=BR
 z5:=BB
 v5:=A4
 t9:=Am
 a9:=Cc
 z9:=BS
 v9:=Be
 t21:=Du
 a21:=Tryz.isAgg21
 z21:=Tryz.sizeOf21
 v21:=DI
 t46:=Cn
 a46:=DD
 z46:=Dp
 v46:=Cw }
theorem Tryz.strings_ContainsRune_ascii (s:ByteArray) (r:Int) (w:World) (h0:0<=r) (h1:r<128) :
  Aa 132 #[.string s,.int .i32 r] w fun e w'=>e=.returned (.bool (decide (0<=Lib.indexByte s.data.toList r.toNat.toUInt8)))/\w'=w:=Any.strings_ContainsRune_ascii Tryz.lays151 s r w h0 h1
theorem qE (s:ByteArray) (w:World) (hlim:s.size<=2147483647) :
  Aa 183 #[.string s] w fun e w'=>e=.returned (.string s)/\Below w.heap.size w w':=by
 have HC:Hid (Aa 214 #[.string s] w fun e w'=>e=.returned (.string s)/\Ab w w'):=Tryz.stringslite_Clone s w (by omega)
 go_enter Tryz.func183,Tryz.ntmps183
 go_wp2_with (go_at_call 214;refine HC.out.mono ?_;rintro e w1 ⟨rfl,hb⟩)
 go_ret
 exact ⟨rfl,hb⟩
theorem qU (s:ByteArray) (w:World) (hs:s.size<=2147483647) :
  Aa 182 #[.string s,.string ⟨#[32,9,13]⟩] w fun e w'=>e=.returned (.string ⟨(Lib.trimRightS s.data.toList [32,9,13]).toArray⟩)/\Below w.heap.size w w':=
 Any.strings_TrimRight_laid Tryz.lays162 (by kernel_rfl) s ⟨#[32,9,13]⟩ w (by omega) (by decide) (ascii_of_all (by decide))
theorem xU (x:UInt8) (h:128<=x.toNat):Lib.indexByte [13] x=-1:=by
 have h1:(13:UInt8)≠x:=by rintro rfl;exact absurd h (by decide)
 have h2:((13:UInt8) == x)=false:=by simpa using h1
 unfold Lib.indexByte;rw [h2];rfl
theorem far2 (p:Int) (x0 x1:UInt8) (w:World) (h0:128<=p) (h2:p≠65533) (hv:Lib.validRune p=true) (hR:Utf8.encode p=⟨#[x0,x1]⟩) (hL:128<=x1.toNat) :
  Aa 181 #[.string ⟨#[32,9,13]⟩,.int .i32 p] w fun e w'=>e=.returned (.int .i64 (-1))/\Below w.heap.size w w':=by
 have HV:Hid (Aa 207 #[.int .i32 p] w fun e w'=>e=.returned (.bool true)/\w'=w):=by
  have:=Tryz.utf8_ValidRune p w;rw [hv] at this;exact this
 have q1:¬p<128:=by omega
 have q2:(p == 65533)=false:=by simpa using h2
 have q0:(0:Int)<=p:=by omega
 have w2:IntKind.i64.wrap 2=2:=by decide
 have w3:IntKind.i64.wrap 3=3:=by decide
 have hcv:∀w,(convert 21 9 (.int .i32 p)).run Tryz.prog w=.ok (.string ⟨#[x0,x1]⟩) w:=fun w=>by rw [<-hR];exact Ct w _ _ _ _ rfl Am
 have HX:Hid (∀(r:ByteArray) (W:World),r=⟨#[13]⟩->Aa 206 #[.string r,.int .u8 (x1.toNat:Int)] W fun e w'=>e=.returned (.int .i64 (-1))/\w'=W):=by
  rintro r W rfl;have:=Tryz.strings_IndexByte ⟨#[13]⟩ (x1.toNat:Int) W;rw [BZ] at this
  have e:Lib.indexByte (⟨#[13]⟩:ByteArray).data.toList x1.toNat.toUInt8=-1:=by
   rw [show x1.toNat.toUInt8=x1 from UInt8.ofNat_toNat];exact xU x1 hL
  rw [e] at this;exact this
 have q4:((((⟨#[32,9,13]⟩:ByteArray)[1]'(by decide)).toNat:Int) != (((⟨#[x0,x1]⟩:ByteArray)[1]'(by show 1<2;decide)).toNat:Int))=true:=by
  show ((9:Int) != (x1.toNat:Int))=true
  simp;omega
 clear hR
 go_enter De,CU
 go_wp2_with (first|(go_at_call 207;refine HV.out.mono ?_;rintro e w1 ⟨rfl,hw⟩;replace hw:=hw.symm;subst hw))
 go_step3
 go_wp2_with fail
 go_loopw [9] (fun i wr=>i=.int .i64 1/\wr=w) (fun _ _=>0)
 case atStart=>exact ⟨rfl,rfl⟩
 case round=>
  obtain ⟨rfl,hw⟩:=hrel;subst hw
  go_wp2_with fail
  go_step3
  go_wp2_with fail
  go_quiet (fail)
  go_wp2_with fail
  go_region_law (go_simp;go_at_call 206;refine (HX.out _ _ rfl).mono ?_;rintro e w2 ⟨rfl,hw⟩;replace hw:=hw.symm;subst hw)
  all_goals (
   go_wp2_with fail
   (repeat (first|rw [BT]|simp only [Exit.inBlock]|simp (config:={ zetaDelta:=true }) only [Exit.then,Exit.inBlock,BT]))
   go_ret
   exact ⟨rfl,bG _ _⟩)
theorem far3 (p:Int) (x0 x1 x2:UInt8) (w:World) (h0:128<=p) (h2:p≠65533) (hv:Lib.validRune p=true) (hR:Utf8.encode p=⟨#[x0,x1,x2]⟩) (hL:128<=x2.toNat) :
  Aa 181 #[.string ⟨#[32,9,13]⟩,.int .i32 p] w fun e w'=>e=.returned (.int .i64 (-1))/\Below w.heap.size w w':=by
 have HV:Hid (Aa 207 #[.int .i32 p] w fun e w'=>e=.returned (.bool true)/\w'=w):=by
  have:=Tryz.utf8_ValidRune p w;rw [hv] at this;exact this
 have q1:¬p<128:=by omega
 have q2:(p == 65533)=false:=by simpa using h2
 have q0:(0:Int)<=p:=by omega
 have w2:IntKind.i64.wrap 2=2:=by decide
 have w3:IntKind.i64.wrap 3=3:=by decide
 have hcv:∀w,(convert 21 9 (.int .i32 p)).run Tryz.prog w=.ok (.string ⟨#[x0,x1,x2]⟩) w:=fun w=>by rw [<-hR];exact Ct w _ _ _ _ rfl Am
 have HX:Hid (∀(r:ByteArray) (W:World),r=⟨#[]⟩->Aa 206 #[.string r,.int .u8 (x2.toNat:Int)] W fun e w'=>e=.returned (.int .i64 (-1))/\w'=W):=by
  rintro r W rfl;have:=Tryz.strings_IndexByte ⟨#[]⟩ (x2.toNat:Int) W;rw [BZ] at this
  have e:Lib.indexByte (⟨#[]⟩:ByteArray).data.toList x2.toNat.toUInt8=-1:=by
   rw [show x2.toNat.toUInt8=x2 from UInt8.ofNat_toNat];rfl
  rw [e] at this;exact this
 have q4:((((⟨#[32,9,13]⟩:ByteArray)[2]'(by decide)).toNat:Int) != (((⟨#[x0,x1,x2]⟩:ByteArray)[2]'(by show 2<3;decide)).toNat:Int))=true:=by
  show ((13:Int) != (x2.toNat:Int))=true
  simp;omega
 clear hR
 go_enter De,CU
 go_wp2_with (first|(go_at_call 207;refine HV.out.mono ?_;rintro e w1 ⟨rfl,hw⟩;replace hw:=hw.symm;subst hw))
 go_step3
 go_wp2_with fail
 go_loopw [9] (fun i wr=>i=.int .i64 2/\wr=w) (fun _ _=>0)
 case atStart=>exact ⟨rfl,rfl⟩
 case round=>
  obtain ⟨rfl,hw⟩:=hrel;subst hw
  go_wp2_with fail
  go_step3
  go_wp2_with fail
  go_quiet (fail)
  go_wp2_with fail
  go_region_law (go_simp;go_at_call 206;refine (HX.out _ _ rfl).mono ?_;rintro e w2 ⟨rfl,hw⟩;replace hw:=hw.symm;subst hw)
  all_goals (
   go_wp2_with fail
   (repeat (first|rw [BT]|simp only [Exit.inBlock]|simp (config:={ zetaDelta:=true }) only [Exit.then,Exit.inBlock,BT]))
   go_ret
   exact ⟨rfl,bG _ _⟩)
theorem far4 (p:Int) (x0 x1 x2 x3:UInt8) (w:World) (h0:128<=p) (h2:p≠65533) (hv:Lib.validRune p=true) (hR:Utf8.encode p=⟨#[x0,x1,x2,x3]⟩) (hL:128<=x3.toNat) :
  Aa 181 #[.string ⟨#[32,9,13]⟩,.int .i32 p] w fun e w'=>e=.returned (.int .i64 (-1))/\Below w.heap.size w w':=by
 have HV:Hid (Aa 207 #[.int .i32 p] w fun e w'=>e=.returned (.bool true)/\w'=w):=by
  have:=Tryz.utf8_ValidRune p w;rw [hv] at this;exact this
 have q1:¬p<128:=by omega
 have q2:(p == 65533)=false:=by simpa using h2
 have q0:(0:Int)<=p:=by omega
 have w2:IntKind.i64.wrap 2=2:=by decide
 have w3:IntKind.i64.wrap 3=3:=by decide
 have hcv:∀w,(convert 21 9 (.int .i32 p)).run Tryz.prog w=.ok (.string ⟨#[x0,x1,x2,x3]⟩) w:=fun w=>by rw [<-hR];exact Ct w _ _ _ _ rfl Am
 clear hR
 go_enter De,CU
 go_wp2_with (first|(go_at_call 207;refine HV.out.mono ?_;rintro e w1 ⟨rfl,hw⟩;replace hw:=hw.symm;subst hw))
 go_step3
 go_wp2_with fail
 go_loopw [9] (fun i wr=>i=.int .i64 3/\wr=w) (fun _ _=>0)
 case atStart=>exact ⟨rfl,rfl⟩
 case round=>
  obtain ⟨rfl,hw⟩:=hrel;subst hw
  go_wp2_with fail
  (repeat (first|rw [BT]|simp only [Exit.inBlock]))
  go_ret
  exact ⟨rfl,gt _ _⟩
theorem vV (p:Int) (w:World) (h0:128<=p) (h2:p≠65533) (hv:Lib.validRune p=false) :
  Aa 181 #[.string ⟨#[32,9,13]⟩,.int .i32 p] w fun e w'=>e=.returned (.int .i64 (-1))/\Below w.heap.size w w':=by
 have HV:Hid (Aa 207 #[.int .i32 p] w fun e w'=>e=.returned (.bool false)/\w'=w):=by
  have:=Tryz.utf8_ValidRune p w;rw [hv] at this;exact this
 have q1:¬p<128:=by omega
 have q2:(p == 65533)=false:=by simpa using h2
 have q0:(0:Int)<=p:=by omega
 go_enter De,CU
 go_wp2_with (first|(go_at_call 207;refine HV.out.mono ?_;rintro e w1 ⟨rfl,hw⟩;replace hw:=hw.symm;subst hw))
 (repeat (first|rw [BT]|simp only [Exit.inBlock]))
 go_ret
 exact ⟨rfl,gt _ _⟩
theorem yi:∀pos,pos<3->Utf8.decode ⟨#[32,9,13]⟩ pos=((⟨#[32,9,13]⟩:ByteArray).get! pos |>.toNat,1)/\((⟨#[32,9,13]⟩:ByteArray).get! pos).toNat<128:=by decide
theorem vU (w:World) :
  Aa 181 #[.string ⟨#[32,9,13]⟩,.int .i32 65533] w fun e w'=>e=.returned (.int .i64 (-1))/\Below w.heap.size w w':=by
 obtain ⟨s,hs⟩:∃s:ByteArray,s=⟨#[32,9,13]⟩:=⟨_,rfl⟩;have hz:s.size=3:=by rw [hs];rfl
 have hd:∀pos,pos<3->dw s pos=1/\dp s pos<128:=fun pos hp=>by
  obtain ⟨e1,e2⟩:=yi pos hp;unfold dw dp;rw [hs,e1];exact ⟨rfl,e2⟩
 rw [<-hs];clear hs
 go_enter De,CU
 go_wp2_with fail
 go_loopw [] (fun w'=>∃pos:Nat,pos<=3/\w'=w.iter s pos) (fun w'=>s.size-w'.iterPos w.heap.size)
 case atStart=>exact ⟨0,by omega,rfl⟩
 case round=>
  obtain ⟨pos,hp3,rfl⟩:=hrel
  by_cases hp:pos<s.size
  ·have hnx:∀ty,(Instr.next (.pointer (some ⟨w.heap.size,0,none⟩)) true ty).run Tryz.prog (w.iter s pos)=_:=fun ty=>Db w s pos ty hp
   obtain ⟨d1,d2⟩:=hd pos (by omega);unfold dw at d1;unfold dp at d2;have q9:(((Utf8.decode s pos).1:Int) == 65533)=false:=by simp;omega
   go_wp2_with fail
   exact ⟨⟨pos+1,by omega,rfl⟩,by simp;omega⟩
  ·have hnx:∀ty,(Instr.next (.pointer (some ⟨w.heap.size,0,none⟩)) true ty).run Tryz.prog (w.iter s pos)=_:=fun ty=>DO w s pos ty hp
   go_wp2_with fail
   go_ret
   exact ⟨rfl,cd _ _ _⟩
end Go.Proofs.YtpdlohfdjiaegaaGreatDoor.Lx
namespace Go.Proofs.YtpdlohfdjiaegaaGreatDoor.Lx
open Go.RowKit
variable {R:ByteArray}
theorem arr2 (h:R.size=2):∃x0 x1,R=⟨#[x0,x1]⟩:=by
 obtain ⟨⟨l⟩⟩:=R
 match l,h with
 |[x0,x1],_=>exact ⟨x0,x1,rfl⟩
theorem arr3 (h:R.size=3):∃x0 x1 x2,R=⟨#[x0,x1,x2]⟩:=by
 obtain ⟨⟨l⟩⟩:=R
 match l,h with
 |[x0,x1,x2],_=>exact ⟨x0,x1,x2,rfl⟩
theorem arr4 (h:R.size=4):∃x0 x1 x2 x3,R=⟨#[x0,x1,x2,x3]⟩:=by
 obtain ⟨⟨l⟩⟩:=R
 match l,h with
 |[x0,x1,x2,x3],_=>exact ⟨x0,x1,x2,x3,rfl⟩
theorem vW (p:Int) (w:World) (h0:128<=p) :
  Aa 181 #[.string ⟨#[32,9,13]⟩,.int .i32 p] w fun e w'=>e=.returned (.int .i64 (-1))/\Below w.heap.size w w':=by
 by_cases h2:p=65533
 ·subst h2;exact vU w
 ·cases hv:Lib.validRune p with
  |false=>exact vV p w h0 h2 hv
  |true=>
   obtain ⟨f1,f2,f3⟩:=encode_facts p (by rw [validRune_eq];exact hv) h0;have f4:=f3 (by omega);obtain ⟨R,hR⟩:∃R,Utf8.encode p=R:=⟨_,rfl⟩;simp only [hR] at f1 f2 f3 f4
   rcases (show R.size=2\/R.size=3\/R.size=4 by omega) with h|h|h
   ·obtain ⟨x0,x1,rfl⟩:=arr2 h;exact far2 p x0 x1 w h0 h2 hv hR f4
   ·obtain ⟨x0,x1,x2,rfl⟩:=arr3 h;exact far3 p x0 x1 x2 w h0 h2 hv hR f4
   ·obtain ⟨x0,x1,x2,x3,rfl⟩:=arr4 h;exact far4 p x0 x1 x2 x3 w h0 h2 hv hR f4
theorem vk:∀n:Nat,n<128->decide ((0:Int)<=Lib.indexByte [32,9,13] n.toUInt8)=decide (n=32\/n=9\/n=13):=by decide
def ji (p:Int):Bool:=decide (p=32\/p=9\/p=13)
theorem ko (p:Int) (w:World) (h0:0<=p) :
  Aa 132 #[.string ⟨#[32,9,13]⟩,.int .i32 p] w fun e w'=>e=.returned (.bool (ji p))/\Below w.heap.size w w':=by
 by_cases h:p<128
 ·refine (Tryz.strings_ContainsRune_ascii ⟨#[32,9,13]⟩ p w h0 h).mono ?_;rintro e w' ⟨rfl,rfl⟩;refine ⟨?_,gt _ _⟩;have e:=vk p.toNat (by omega);have e2:decide (p.toNat=32\/p.toNat=9\/p.toNat=13)=ji p:=by unfold ji;rw [B8];omega
  rw [<-e2,<-e]
 ·have HF:Hid (Aa 181 #[.string ⟨#[32,9,13]⟩,.int .i32 p] w fun e w'=>e=.returned (.int .i64 (-1))/\Ab w w'):=vW p w (by omega);have e2:ji p=false:=by unfold ji;rw [zZ];omega
  rw [e2];clear e2
  go_enter Tryz.func132,Tryz.ntmps132
  go_wp2_with (go_at_call 181;refine HF.out.mono ?_;rintro e w1 ⟨rfl,hb⟩)
  go_ret
  exact ⟨rfl,hb⟩
theorem gE (p:Int) (w:World) (h0:0<=p) :
  Aa 83 #[.int .i32 p] w fun e w'=>e=.returned (.bool (ji p))/\Below w.heap.size w w':=by
 have HF:Hid (Aa 132 #[.string ⟨#[32,9,13]⟩,.int .i32 p] w fun e w'=>e=.returned (.bool (ji p))/\Ab w w'):=ko p w h0
 generalize ji p=r at *
 go_enter Tryz.func83,Tryz.ntmps83
 go_wp2_with (go_at_call 132;refine HF.out.mono ?_;rintro e w1 ⟨rfl,hb⟩)
 go_ret
 exact ⟨rfl,hb⟩
theorem tY (b:UInt8):[(32:UInt8),9,13].contains b=cC b.toNat:=by
 unfold cC;simp only [List.contains_cons,List.contains_nil,B2];rw [AR];simp only [Bf,Ch,<-DR];constructor
 ·rintro (h|h|h)
  ·exact .inl (.inl h)
  ·exact .inl (.inr h)
  ·exact .inr h
 ·rintro ((h|h)|h)
  ·exact .inl h
  ·exact .inr (.inl h)
  ·exact .inr (.inr h)
theorem oB (s:ByteArray) (a p j:Nat) (b:UInt8) (hp:p<=s.size) (h:(s.extract a p).data.toList[j]?=some b):j<p-a/\by8 s (a+j)=b.toNat:=by
 have hz:=aC s a p hp;have hj:j<(s.extract a p).data.toList.length:=(zv.1 h).1;have hl:(s.extract a p).data.toList.length=(s.extract a p).size:=by rw [AC];rfl
 refine ⟨by omega,?_⟩;have e:=bv s a p j (by omega);rw [<-e];unfold by8;have h2:=(zv.1 h).2
 have:(s.extract a p).get! j=b:=by
  show (s.extract a p).data[j]! = b
  rw [DP (s.extract a p).data j (by rw [AC] at hj;exact hj)]
  simpa using h2
 rw [this]
theorem un (s:ByteArray) (a p:Nat) (hap:a<p) (hp:p<=s.size) (ha:cC (by8 s a)=false):(⟨(Lib.trimRightS (s.extract a p).data.toList [32,9,13]).toArray⟩:ByteArray)=s.extract a (aZ s p):=by
 have h1:=fZ s p;have h2:=jo s a ha p hap;have h3:=ip s p;have hz:=aC s a p hp;have hl:(s.extract a p).data.toList.length=(s.extract a p).size:=by rw [AC];rfl
 have e:Lib.trimRightS (s.extract a p).data.toList [32,9,13]=(s.extract a p).data.toList.take (aZ s p-a):=by
  refine Lib.trimRightS_take _ _ _ (by omega) (fun j b hj hb=>?_) (fun b h0 hb=>?_)
  ·obtain ⟨e1,e2⟩:=oB s a p j b hp hb;rw [tY,<-e2];exact h3 (a+j) (by omega) (by omega)
  ·obtain ⟨e1,e2⟩:=oB s a p _ b hp hb;rw [tY,<-e2];have h4:a+(aZ s p-a-1)=aZ s p-1:=by omega
   rw [h4]
   have key:∀q,0<aZ s q->cC (by8 s (aZ s q-1))=false:=by
    intro q
    induction q with
    |zero=>intro h;exact absurd h (by simp [aZ])
    |succ q ih=>
     intro h;unfold aZ at h ⊢
     by_cases e:cC (by8 s q)=true
     ·rw [zw e] at h ⊢;exact ih h
     ·rw [zu e] at h ⊢;simpa using e
   exact key p (by omega)
 rw [e];refine fP _ _ ?_ (fun j hj=>?_)
 ·rw [aC s a _ (by omega)];show ((s.extract a p).data.toList.take (aZ s p-a)).toArray.size=_;simp;omega
 ·have hj2:j<aZ s p-a:=by
   have:(⟨((s.extract a p).data.toList.take (aZ s p-a)).toArray⟩:ByteArray).size=((s.extract a p).data.toList.take (aZ s p-a)).length:=by show Array.size _=_;simp
   rw [this,zH] at hj;omega
  rw [bv s a _ j (by omega)];rw [<-bv s a p j (by omega)];unfold by8
  congr 1
  show ((s.extract a p).data.toList.take (aZ s p-a)).toArray[j]! = (s.extract a p).data[j]!
  rw [DP _ j (by simp;omega),DP _ j (by have:(s.extract a p).data.size=(s.extract a p).size:=rfl;omega)];simp
end Go.Proofs.YtpdlohfdjiaegaaGreatDoor.Lx
