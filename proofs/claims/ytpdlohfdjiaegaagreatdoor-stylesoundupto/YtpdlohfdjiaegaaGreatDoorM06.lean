import Derived.Shelf.Strings.SlTrimAscii
import Derived.Shelf.Strings.Runes
import Derived.Shelf.Small.Utf8
import Derived.Shelf.LaysM
import Derived.Shelf.Strconv.Clone
import Derived.Shelf.Strings.Search1
import Derived.Laws.Runes
import Derived.Test.YtpdlohfdjiaegaaGreatDoorM05
set_option linter.unusedVariables false
set_option linter.unusedSimpArgs false
namespace Go.Proofs.YtpdlohfdjiaegaaGreatDoor.Lx
open Go.RowKit
theorem bel_dn (W:World) (m:Nat):Below W.heap.size W (W.drewN m):=below_dn (Below.refl _ _) m
theorem bytes_any {W:World}{g:Nat}{s:ByteArray}{a:Nat}{p n:Int}{b f:Nat}{v:Value}(h:RB W g s a p n b f v) (hs:s.size≤2147483647) (hba:b≤a) (ha:a≤s.size) :
  Calls Tryz.prog 144 #[.pointer (some ⟨g,0,none⟩)] W fun e w'=>e=.returned (.string (s.extract b a))∧∃m,w'=W.drewN m:=by
 obtain ⟨c0,c1,c2,c3,c4,c5,c6,c7,c8⟩:=Rq.cells h
 have q1:(b:Int)≤a:=by omega
 have q2:(a:Int)≤s.size:=by omega
 clear h
 go_enter Tryz.func144,Tryz.ntmps144
 go_wp2_with fail
 go_quiet (fail)
 go_wp2_with fail
 go_ret
 exact ⟨rfl,_,rfl⟩
theorem take_any {w0 W:World}{g:Nat}{s:ByteArray}{a b f:Nat}{l:List Tv}(h:Rs w0 W g s a b f l) (hs:s.size≤2147483647) (ha:a≤s.size) :
  Calls Tryz.prog 133 #[.pointer (some ⟨g,0,none⟩)] W fun e w'=>e=.returned (.tuple #[])∧Rs w0 w' g s (a+rsz s a) b f l:=by
 have hle:=rsz_le s a ha
 obtain ⟨h1,h2,v,h3,h4⟩:=h
 obtain ⟨c0,c1,c2,c3,c4,c5,c6,c7,c8⟩:=Rq.cells h3
 have z1:=h3.frozen 1
 obtain ⟨m1,m3,m4⟩:=Rq.set h1 h2 h3 h4 1 (.int .i64 ((a+rsz s a:Nat):Int)) (a':=a+rsz s a) rfl rfl
 have hwr:IntKind.i64.wrap ((a:Int)+(rsz s a:Int))=(a:Int)+(rsz s a:Int):=by rw [IntKind.wrap_i64];omega
 have HL:Hid (∀V,Below (W.setCell ⟨g,1,none⟩ (.int .i64 ((a:Int)+(rsz s a:Int)))).heap.size (W.setCell ⟨g,1,none⟩ (.int .i64 ((a:Int)+(rsz s a:Int)))) V→Calls Tryz.prog 50 #[.pointer (some ⟨g,0,none⟩)] V fun e w'=>e=.returned (.tuple #[])∧Rs w0 w' g s (a+rsz s a) b f l):=by
  intro V hV
  rw [Int.natCast_add] at m1 m3 m4
  exact look_any (Rq.below ⟨m1,h2,v,m3,m4⟩ hV) hs hle
 generalize rsz s a=y at *
 clear h1 h3 h4 m1 m3 m4
 go_enter Tryz.func133,Tryz.ntmps133
 go_wp2_with fail
 go_region_law (fail)
 all_goals (
  go_wp2_with (go_at_call 50;refine (HL.out _ (Below.refl _ _).drew).mono ?_;rintro e w1 ⟨rfl,h5⟩)
  go_end0
  exact ⟨rfl,h5⟩)
theorem isFull_any {W:World}{g:Nat}{s:ByteArray}{a:Nat}{p:Int}{n:Nat}{b f:Nat}{v:Value}(h:RB W g s a p n b f v) (hs:s.size≤2147483647) (hba:b≤a) (ha:a≤s.size) (hn:n≤4) :
  Calls Tryz.prog 138 #[.pointer (some ⟨g,0,none⟩)] W fun e w'=>e=.returned (.bool (decide (65535<a+n-b)))∧Below W.heap.size W w':=by
 have HB:Hid (∀V,Below W.heap.size W V→Calls Tryz.prog 144 #[.pointer (some ⟨g,0,none⟩)] V fun e w'=>e=.returned (.string (s.extract b a))∧Below V.heap.size V w'):=fun V hV=>by
  refine (bytes_any (blk_below h hV) hs hba ha).mono ?_
  rintro e w' ⟨rfl,m,rfl⟩
  exact ⟨rfl,bel_dn _ _⟩
 have HK:Hid (∀V,Below W.heap.size W V→V.cell? ⟨g,3,none⟩=some (.int .i64 n)∧Below W.heap.size W V):=fun V hV=>⟨blk_cell (blk_below h hV) rfl,hV⟩
 have hz:(s.extract b a).size=a-b:=size_ext s b a ha
 have e:decide (65535<a+n-b)=decide (((s.extract b a).size:Int)+n>65535):=by rw [decide_eq_decide,hz];omega
 rw [e]
 have hwr:IntKind.i64.wrap (((s.extract b a).size:Int)+(n:Int))=((s.extract b a).size:Int)+(n:Int):=by rw [IntKind.wrap_i64,hz];omega
 clear e h hz
 generalize s.extract b a=t at *
 go_enter Tryz.func138,Tryz.ntmps138
 go_wp2_with fail
 go_region_held3 (fun w'=>w'.cell? ⟨g,3,none⟩=some (.int .i64 n)∧Below W.heap.size W w') (first|(exact HK.out _ (by assumption))|(exact HK.out _ (Below.refl _ _).drew)|go_keep) (first|(go_at_call 144;refine (HB.out _ (by first|assumption|exact (Below.refl _ _).drew)).mono ?_;rintro e w1 ⟨rfl,hb1⟩;have hbW:=(by first|exact (Below.refl W.heap.size W).drew.trans (hb1.mono (Nat.le_refl _))|exact (by assumption:Below W.heap.size W _).trans (hb1.mono (Below.size (by assumption))):Below W.heap.size W w1)))
 all_goals (
  go_wp2_with fail
  go_ret
  exact ⟨rfl,hbW⟩)
theorem here_any {W:World}{g:Nat}{s:ByteArray}{a:Nat}{p n:Int}{b f:Nat}{v:Value}(h:RB W g s a p n b f v) (hs:s.size≤2147483647) (hba:b≤a) (hb:bd s b) (ha:bd s a) :
  Calls Tryz.prog 93 #[.pointer (some ⟨g,0,none⟩)] W fun e w'=>e=.returned (plV a (pL s a) (pC s a))∧Below W.heap.size W w':=by
 have hal:=bd_le ha
 obtain ⟨j1,j2,j3⟩:=adv_join hb ha hba hs
 obtain ⟨W1,hW1⟩:∃W1,W.alloc (.cells #[.int .i64 0,.int .i64 0,.int .i64 0] 35)=W1:=⟨_,rfl⟩
 have hB0:Below W.heap.size W W1:=by rw [←hW1];exact (Below.refl _ _).alloc (Nat.le_refl _) _
 have k0:Box3 W1 W.heap.size 0 0 0:=by rw [←hW1];exact Box3.new W 0 0 0
 have HB:Hid (∀V,Below W.heap.size W V→Calls Tryz.prog 144 #[.pointer (some ⟨g,0,none⟩)] V fun e w'=>e=.returned (.string (s.extract b a))∧Below V.heap.size V w'):=fun V hV=>by
  refine (bytes_any (blk_below h hV) hs hba hal).mono ?_
  rintro e w' ⟨rfl,m,rfl⟩
  exact ⟨rfl,bel_dn _ _⟩
 have HA:Hid (∀V,Calls Tryz.prog 143 #[.agg #[.int .i64 b,.int .i64 (pL s b),.int .i64 (pC s b)],.string (s.extract b a)] V fun e w'=>e=.returned (.agg #[.int .i64 a,.int .i64 (pL s a),.int .i64 (pC s a)])∧Below V.heap.size V w'):=fun V=>by
  have:=adv_lit b (pL s b) (pC s b) (s.extract b a) V (by rw [size_ext s b a hal];omega) (p_rng s b)
  rw [j1,j2,j3] at this
  exact this
 have HK:Hid (∀V,Below W.heap.size W V→V.cell? ⟨g,4,none⟩=some (.int .i64 b)∧V.cell? ⟨g,5,none⟩=some (.int .i64 (pL s b))∧V.cell? ⟨g,6,none⟩=some (.int .i64 (pC s b))∧Below W.heap.size W V):=fun V hV=>⟨blk_cell (blk_below h hV) rfl,blk_cell (blk_below h hV) rfl,blk_cell (blk_below h hV) rfl,hV⟩
 clear h j1 j2 j3
 unfold plV
 generalize s.extract b a=t at *
 generalize pL s a=L2 at *
 generalize pC s a=C2 at *
 generalize pL s b=L at *
 generalize pC s b=C at *
 go_enter Tryz.func93,Tryz.ntmps93
 go_wp2_with fail
 try rw [hW1]
 clear hW1
 go_region_held3 (fun w'=>w'.cell? ⟨g,4,none⟩=some (.int .i64 b)∧w'.cell? ⟨g,5,none⟩=some (.int .i64 L)∧w'.cell? ⟨g,6,none⟩=some (.int .i64 C)∧Below W.heap.size W w') (first|(exact HK.out _ (by assumption))|(exact HK.out _ hB0.drew)|(exact HK.out _ (((hbX.setCell (p:=⟨W.heap.size,0,none⟩) (Nat.le_refl _) _).setCell (p:=⟨W.heap.size,1,none⟩) (Nat.le_refl _) _).setCell (p:=⟨W.heap.size,2,none⟩) (Nat.le_refl _) _))|go_keep) (first|(go_at_call 144;refine (HB.out _ (by first|assumption|exact hB0.drew)).mono ?_;rintro e w1 ⟨rfl,hb1⟩;have k1:=k0.drew.below hb1;have hbW:=hB0.drew.trans (hb1.mono hB0.size))|(go_at_call 143;refine (HA.out _).mono ?_;rintro e w2 ⟨rfl,hb2⟩;have hbX:=hbW.trans (hb2.mono hbW.size);have k2:=k1.below hb2;have g0:=k2.cell0;have g1:=k2.cell1;have g2:=k2.cell2;have f0:=k2.frozen 0;have f1:=k2.frozen 1;have f2:=k2.frozen 2))
 all_goals (
  go_wp2_with fail
  have hb5:=((k2.set0 a).set1 L2).set2 C2
  have m0:=hb5.cell0
  have m1:=hb5.cell1
  have m2:=hb5.cell2
  refine bodyPost_ret (v:=.agg #[.int .i64 a,.int .i64 L2,.int .i64 C2]) (by simp [results,Tryz.f93,go_sem,m0,m1,m2]) rfl ?_
  refine ⟨rfl,?_⟩
  exact ((hbX.setCell (p:=⟨W.heap.size,0,none⟩) (Nat.le_refl _) _).setCell (p:=⟨W.heap.size,1,none⟩) (Nat.le_refl _) _).setCell (p:=⟨W.heap.size,2,none⟩) (Nat.le_refl _) _)
theorem start_r {w0 W:World}{g:Nat}{s:ByteArray}{a b f:Nat}{l:List Tv}(h:Rs w0 W g s a b f l) (hs:s.size≤2147483647) (hba:b≤a) (hb:bd s b) (ha:bd s a) :
  Calls Tryz.prog 85 #[.pointer (some ⟨g,0,none⟩)] W fun e w'=>e=.returned (.tuple #[])∧Rs w0 w' g s a a f l:=by
 obtain ⟨h1,h2,v,h3,h4⟩:=h
 have HH:Hid (Calls Tryz.prog 93 #[.pointer (some ⟨g,0,none⟩)] W fun e w'=>e=.returned (.agg #[.int .i64 a,.int .i64 (pL s a),.int .i64 (pC s a)])∧Below W.heap.size W w'):=here_any h3 hs hba hb ha
 have HR:Hid (∀w',Below W.heap.size W w'→(∀k,w'.frozen? ⟨g,k,none⟩=false)∧(w'.cell? ⟨g,4,none⟩=some (.int .i64 b)∧w'.cell? ⟨g,5,none⟩=some (.int .i64 (pL s b))∧w'.cell? ⟨g,6,none⟩=some (.int .i64 (pC s b)))∧Rs w0 (((w'.setCell ⟨g,4,none⟩ (.int .i64 a)).setCell ⟨g,5,none⟩ (.int .i64 (pL s a))).setCell ⟨g,6,none⟩ (.int .i64 (pC s a))) g s a a f l):=fun w' hb=>by
  have k1:=h1.trans (hb.mono h1.size)
  have k3:RB w' g s a (rpt s a) (rsz s a) b f v:=blk_below h3 hb
  have k4:=h4.below hb
  obtain ⟨c0,c1,c2,c3,c4,c5,c6,c7,c8⟩:=Rq.cells k3
  refine ⟨fun k=>k3.frozen k,⟨c4,c5,c6⟩,?_⟩
  have hne:=k4.ne k3 (by decide)
  refine ⟨((k1.setCell (p:=⟨g,4,none⟩) h2 _).setCell (p:=⟨g,5,none⟩) h2 _).setCell (p:=⟨g,6,none⟩) h2 _,h2,v,?_,?_⟩
  ·exact blk_set (blk_set (blk_set k3 4 _) 5 _) 6 _
  ·exact ((k4.kp (Kp.set _ g 4 _) hne).kp (Kp.set _ g 5 _) hne).kp (Kp.set _ g 6 _) hne
 clear h1 h3 h4
 generalize pL s a=L2 at *
 generalize pC s a=C2 at *
 go_enter Tryz.func85,Tryz.ntmps85
 go_wp2_with (go_at_call 93;refine HH.out.mono ?_;rintro e w1 ⟨rfl,hb1⟩;obtain ⟨fz,⟨c4,c5,c6⟩,h7⟩:=HR.out _ hb1;have HF:Hid (Rs w0 (((w1.setCell ⟨g,4,none⟩ (.int .i64 a)).setCell ⟨g,5,none⟩ (.int .i64 L2)).setCell ⟨g,6,none⟩ (.int .i64 C2)) g s a a f l):=h7;clear h7;have z4:=fz 4;have z5:=fz 5;have z6:=fz 6)
 go_end0
 exact ⟨rfl,HF.out⟩
theorem pass_any {w0 W:World}{g:Nat}{s:ByteArray}{a b f:Nat}{l:List Tv}(h:Rs w0 W g s a b f l) (hs:s.size≤2147483647) (ha:a≤s.size) (hf:f≤s.size) :
  Calls Tryz.prog 84 #[.pointer (some ⟨g,0,none⟩)] W fun e w'=>e=.returned (.tuple #[])∧Rs w0 w' g s (a+rsz s a) b (if rpt s a=10 then f+1 else f) l:=by
 by_cases h10:rpt s a=10
 ·rw [if_pos h10]
  obtain ⟨h1,h2,v,h3,h4⟩:=h
  obtain ⟨c0,c1,c2,c3,c4,c5,c6,c7,c8⟩:=Rq.cells h3
  have z7:=h3.frozen 7
  obtain ⟨m1,m3,m4⟩:=Rq.set h1 h2 h3 h4 7 (.int .i64 ((f+1:Nat):Int)) (f':=f+1) rfl rfl
  rw [Int.natCast_add] at m1 m3 m4
  have HL:Hid (Calls Tryz.prog 133 #[.pointer (some ⟨g,0,none⟩)] (W.setCell ⟨g,7,none⟩ (.int .i64 ((f:Int)+1))) fun e w'=>e=.returned (.tuple #[])∧Rs w0 w' g s (a+rsz s a) b (f+1) l):=take_any ⟨m1,h2,v,m3,m4⟩ hs ha
  rw [h10] at c2
  clear h1 h3 h4 m1 m3 m4 h10
  go_enter Tryz.func84,Tryz.ntmps84
  go_wp2_with (go_at_call 133;refine HL.out.mono ?_;rintro e w1 ⟨rfl,h5⟩)
  go_end0
  exact ⟨rfl,h5⟩
 ·rw [if_neg h10]
  have HL:Hid (Calls Tryz.prog 133 #[.pointer (some ⟨g,0,none⟩)] W fun e w'=>e=.returned (.tuple #[])∧Rs w0 w' g s (a+rsz s a) b f l):=take_any h hs ha
  obtain ⟨h1,h2,v,h3,h4⟩:=h
  obtain ⟨c0,c1,c2,c3,c4,c5,c6,c7,c8⟩:=Rq.cells h3
  have q1:(rpt s a == 10)=false:=by simpa using h10
  clear h1 h3 h4 h10
  go_enter Tryz.func84,Tryz.ntmps84
  go_wp2_with (go_at_call 133;refine HL.out.mono ?_;rintro e w1 ⟨rfl,h5⟩)
  go_end0
  exact ⟨rfl,h5⟩
theorem wordKind_any {W:World}{g:Nat}{s:ByteArray}{a:Nat}{p n:Int}{b f:Nat}{v:Value}(h:RB W g s a p n b f v) (hT:Kab W) (hs:s.size≤2147483647) (hba:b≤a) (ha:a≤s.size) :
  Calls Tryz.prog 137 #[.pointer (some ⟨g,0,none⟩)] W fun e w'=>e=.returned (.int .u8 (if ky (s.extract b a)=true then 2 else 1))∧Below W.heap.size W w':=by
 have HB:Hid (Calls Tryz.prog 144 #[.pointer (some ⟨g,0,none⟩)] W fun e w'=>e=.returned (.string (s.extract b a))∧∃m,w'=W.drewN m):=bytes_any h hs hba ha
 have HI:Hid (∀m,Calls Tryz.prog 184 #[.string (s.extract b a)] (W.drewN m) fun e w'=>e=.returned (.bool (ky (s.extract b a)))∧Below W.heap.size W w'):=fun m=>by
  refine (isKey_any (s.extract b a) (W.drewN m) (hT.below (bel_dn W m)).2.1).mono ?_
  rintro e w' ⟨rfl,rfl⟩
  exact ⟨rfl,bel_dn W m⟩
 clear h hT
 generalize ky (s.extract b a)=k at *
 generalize s.extract b a=t at *
 cases k
 ·go_enter Tryz.func137,Tryz.ntmps137
  go_wp2_with (first|(go_at_call 144;refine HB.out.mono ?_;rintro e w1 ⟨rfl,m,rfl⟩)|(go_at_call 184;refine (HI.out _).mono ?_;rintro e w2 ⟨rfl,hb2⟩))
  go_ret
  exact ⟨rfl,hb2⟩
 ·go_enter Tryz.func137,Tryz.ntmps137
  go_wp2_with (first|(go_at_call 144;refine HB.out.mono ?_;rintro e w1 ⟨rfl,m,rfl⟩)|(go_at_call 184;refine (HI.out _).mono ?_;rintro e w2 ⟨rfl,hb2⟩))
  go_ret
  exact ⟨rfl,hb2⟩
end Go.Proofs.YtpdlohfdjiaegaaGreatDoor.Lx
namespace Go.Proofs.YtpdlohfdjiaegaaGreatDoor.Lx
open Go.RowKit Go.Shelf
def Tryz.lays162_ren:Go.Shelf.Ren:=⟨fun|162=>182|232=>210|227=>211|234=>212|236=>213|228=>235|271=>236|151=>132|120=>249|197=>250|152=>181|260=>259|137=>206|119=>207|224=>208|225=>209|217=>234|266=>248|n=>n,fun|9=>9|4=>4|3=>3|5=>5|117=>261|116=>260|0=>0|124=>264|21=>21|105=>195|46=>225|119=>278|139=>281|138=>280|n=>n,fun|3=>5|4=>6|n=>n⟩
theorem Tryz.lays162:Go.Proofs.Lays.n162 Tryz.prog Tryz.lays162_ren:={
 mixed:=by kernel_rfl
 f119:=Tryz.func207.trans (congrArg some (by kernel_rfl))
 f120:=Tryz.func249.trans (congrArg some (by kernel_rfl))
 f137:=Tryz.func206.trans (congrArg some (by kernel_rfl))
 f151:=Tryz.func132.trans (congrArg some (by kernel_rfl))
 f152:=Tryz.func181.trans (congrArg some (by kernel_rfl))
 f162:=Tryz.func182.trans (congrArg some (by kernel_rfl))
 f197:=Tryz.func250.trans (congrArg some (by kernel_rfl))
 f217:=Tryz.func234.trans (congrArg some (by kernel_rfl))
 f224:=Tryz.func208.trans (congrArg some (by kernel_rfl))
 f225:=Tryz.func209.trans (congrArg some (by kernel_rfl))
 f227:=Tryz.func211.trans (congrArg some (by kernel_rfl))
 f228:=Tryz.func235.trans (congrArg some (by kernel_rfl))
 f232:=Tryz.func210.trans (congrArg some (by kernel_rfl))
 f234:=Tryz.func212.trans (congrArg some (by kernel_rfl))
 f236:=Tryz.func213.trans (congrArg some (by kernel_rfl))
 f260:=Tryz.func259.trans (congrArg some (by kernel_rfl))
 f266:=Tryz.func248.trans (congrArg some (by kernel_rfl))
 f271:=Tryz.func236.trans (congrArg some (by kernel_rfl))
 t0:=Tryz.underlying0
 a0:=Tryz.isAgg0
 z0:=Tryz.sizeOf0
 v0:=Tryz.zeroValue0
 t3:=Tryz.underlying3
 a3:=Tryz.isAgg3
 z3:=Tryz.sizeOf3
 v3:=Tryz.zeroValue3
 t4:=Tryz.underlying4
 a4:=Tryz.isAgg4
 z4:=Tryz.sizeOf4
 v4:=Tryz.zeroValue4
 t5:=Tryz.underlying5
 a5:=Tryz.isAgg5
 z5:=Tryz.sizeOf5
 v5:=Tryz.zeroValue5
 t9:=Tryz.underlying9
 a9:=Tryz.isAgg9
 z9:=Tryz.sizeOf9
 v9:=Tryz.zeroValue9
 t21:=Tryz.underlying21
 a21:=Tryz.isAgg21
 z21:=Tryz.sizeOf21
 v21:=Tryz.zeroValue21
 t46:=Tryz.underlying225
 a46:=Tryz.isAgg225
 z46:=Tryz.sizeOf225
 v46:=Tryz.zeroValue225
 t105:=Tryz.underlying195
 a105:=Tryz.isAgg195
 z105:=Tryz.sizeOf195
 v105:=Tryz.zeroValue195
 t116:=Tryz.underlying260
 a116:=Tryz.isAgg260
 z116:=Tryz.sizeOf260
 t117:=Tryz.underlying261
 a117:=Tryz.isAgg261
 z117:=Tryz.sizeOf261
 v117:=Tryz.zeroValue261
 t119:=Tryz.underlying278
 a119:=Tryz.isAgg278
 z119:=Tryz.sizeOf278
 t124:=Tryz.underlying264
 a124:=Tryz.isAgg264
 z124:=Tryz.sizeOf264
 v124:=Tryz.zeroValue264
 t138:=Tryz.underlying280
 a138:=Tryz.isAgg280
 z138:=Tryz.sizeOf280
 v138:=Tryz.zeroValue280
 t139:=Tryz.underlying281
 a139:=Tryz.isAgg281
 z139:=Tryz.sizeOf281
 v139:=Tryz.zeroValue281
 g3:=by kernel_rfl
 g4:=by kernel_rfl }
def Tryz.lays119_ren:Go.Shelf.Ren:=⟨fun|119=>207|n=>n,fun|21=>21|4=>4|n=>n,fun|n=>n⟩
theorem Tryz.lays119:Go.Proofs.Lays.n119 Tryz.prog Tryz.lays119_ren:={
 mixed:=by kernel_rfl
 f119:=Tryz.func207.trans (congrArg some (by kernel_rfl))
 t4:=Tryz.underlying4
 a4:=Tryz.isAgg4
 z4:=Tryz.sizeOf4
 v4:=Tryz.zeroValue4
 t21:=Tryz.underlying21
 a21:=Tryz.isAgg21
 z21:=Tryz.sizeOf21
 v21:=Tryz.zeroValue21 }
theorem Tryz.utf8_ValidRune (r:Int) (w:World) :
  Calls Tryz.prog 207 #[.int .i32 r] w fun e w'=>e=.returned (.bool (Lib.validRune r))∧w'=w:=Any.utf8_ValidRune Tryz.lays119 r w
def Tryz.lays137_ren:Go.Shelf.Ren:=⟨fun|137=>206|217=>234|266=>248|n=>n,fun|9=>9|5=>5|3=>3|n=>n,fun|n=>n⟩
theorem Tryz.lays137:Go.Proofs.Lays.n137 Tryz.prog Tryz.lays137_ren:={
 mixed:=by kernel_rfl
 f137:=Tryz.func206.trans (congrArg some (by kernel_rfl))
 f217:=Tryz.func234.trans (congrArg some (by kernel_rfl))
 f266:=Tryz.func248.trans (congrArg some (by kernel_rfl))
 t3:=Tryz.underlying3
 a3:=Tryz.isAgg3
 z3:=Tryz.sizeOf3
 v3:=Tryz.zeroValue3
 t5:=Tryz.underlying5
 a5:=Tryz.isAgg5
 z5:=Tryz.sizeOf5
 v5:=Tryz.zeroValue5
 t9:=Tryz.underlying9
 a9:=Tryz.isAgg9
 z9:=Tryz.sizeOf9
 v9:=Tryz.zeroValue9 }
theorem Tryz.strings_IndexByte (s:ByteArray) (c:Int) (w:World) :
  Calls Tryz.prog 206 #[.string s,.int .u8 c] w fun e w'=>e=.returned (.int .i64 (Lib.indexByte s.data.toList c.toNat.toUInt8))∧w'=w:=Any.strings_IndexByte Tryz.lays137 s c w
def Tryz.laysM316_ren:Go.Shelf.Ren:=⟨fun|316=>214|n=>n,fun|9=>9|3=>3|4=>4|37=>164|0=>0|127=>228|5=>5|n=>n,fun|n=>n⟩
theorem Tryz.laysM316:Go.Proofs.LaysM.n316 Tryz.prog Tryz.laysM316_ren:={
 mixed:=by kernel_rfl
 f316:=Tryz.func214.trans (congrArg some (by kernel_rfl))
 t0:=Tryz.underlying0
 a0:=Tryz.isAgg0
 z0:=Tryz.sizeOf0
 v0:=Tryz.zeroValue0
 t3:=Tryz.underlying3
 a3:=Tryz.isAgg3
 z3:=Tryz.sizeOf3
 v3:=Tryz.zeroValue3
 t4:=Tryz.underlying4
 a4:=Tryz.isAgg4
 z4:=Tryz.sizeOf4
 v4:=Tryz.zeroValue4
 t9:=Tryz.underlying9
 a9:=Tryz.isAgg9
 z9:=Tryz.sizeOf9
 v9:=Tryz.zeroValue9
 t37:=Tryz.underlying164
 a37:=Tryz.isAgg164
 z37:=Tryz.sizeOf164
 v37:=Tryz.zeroValue164
 t127:=Tryz.underlying228
 a127:=Tryz.isAgg228
 z127:=Tryz.sizeOf228
 v127:=Tryz.zeroValue228
 t5:=Tryz.underlying5
 a5:=Tryz.isAgg5
 z5:=Tryz.sizeOf5
 v5:=Tryz.zeroValue5
 i0:=by kernel_rfl
 i3:=by kernel_rfl
 i4:=by kernel_rfl
 i5:=by kernel_rfl
 i9:=by kernel_rfl
 i37:=by kernel_rfl
 i127:=by kernel_rfl }
theorem Tryz.stringslite_Clone (s:ByteArray) (w:World) (hlim:s.size≤281474976710656) :
  Calls Tryz.prog 214 #[.string s] w fun e w'=>e=.returned (.string s)∧Below w.heap.size w w':=Any.stringslite_Clone Tryz.laysM316 s w hlim
def Tryz.lays151_ren:Go.Shelf.Ren:=⟨fun|151=>132|152=>181|137=>206|119=>207|224=>208|225=>209|217=>234|266=>248|n=>n,fun|9=>9|21=>21|4=>4|3=>3|5=>5|0=>0|46=>225|n=>n,fun|n=>n⟩
theorem Tryz.lays151:Go.Proofs.Lays.n151 Tryz.prog Tryz.lays151_ren:={
 mixed:=by kernel_rfl
 f119:=Tryz.func207.trans (congrArg some (by kernel_rfl))
 f137:=Tryz.func206.trans (congrArg some (by kernel_rfl))
 f151:=Tryz.func132.trans (congrArg some (by kernel_rfl))
 f152:=Tryz.func181.trans (congrArg some (by kernel_rfl))
 f217:=Tryz.func234.trans (congrArg some (by kernel_rfl))
 f224:=Tryz.func208.trans (congrArg some (by kernel_rfl))
 f225:=Tryz.func209.trans (congrArg some (by kernel_rfl))
 f266:=Tryz.func248.trans (congrArg some (by kernel_rfl))
 t0:=Tryz.underlying0
 a0:=Tryz.isAgg0
 z0:=Tryz.sizeOf0
 v0:=Tryz.zeroValue0
 t3:=Tryz.underlying3
 a3:=Tryz.isAgg3
 z3:=Tryz.sizeOf3
 v3:=Tryz.zeroValue3
 t4:=Tryz.underlying4
 a4:=Tryz.isAgg4
 z4:=Tryz.sizeOf4
 v4:=Tryz.zeroValue4
 t5:=Tryz.underlying5
 a5:=Tryz.isAgg5
 z5:=Tryz.sizeOf5
 v5:=Tryz.zeroValue5
 t9:=Tryz.underlying9
 a9:=Tryz.isAgg9
 z9:=Tryz.sizeOf9
 v9:=Tryz.zeroValue9
 t21:=Tryz.underlying21
 a21:=Tryz.isAgg21
 z21:=Tryz.sizeOf21
 v21:=Tryz.zeroValue21
 t46:=Tryz.underlying225
 a46:=Tryz.isAgg225
 z46:=Tryz.sizeOf225
 v46:=Tryz.zeroValue225 }
theorem Tryz.strings_ContainsRune_ascii (s:ByteArray) (r:Int) (w:World) (h0:0≤r) (h1:r<128) :
  Calls Tryz.prog 132 #[.string s,.int .i32 r] w fun e w'=>e=.returned (.bool (decide (0≤Lib.indexByte s.data.toList r.toNat.toUInt8)))∧w'=w:=Any.strings_ContainsRune_ascii Tryz.lays151 s r w h0 h1
theorem clone_any (s:ByteArray) (w:World) (hlim:s.size≤2147483647) :
  Calls Tryz.prog 183 #[.string s] w fun e w'=>e=.returned (.string s)∧Below w.heap.size w w':=by
 have HC:Hid (Calls Tryz.prog 214 #[.string s] w fun e w'=>e=.returned (.string s)∧Below w.heap.size w w'):=Tryz.stringslite_Clone s w (by omega)
 go_enter Tryz.func183,Tryz.ntmps183
 go_wp2_with (go_at_call 214;refine HC.out.mono ?_;rintro e w1 ⟨rfl,hb⟩)
 go_ret
 exact ⟨rfl,hb⟩
theorem trim_any (s:ByteArray) (w:World) (hs:s.size≤2147483647) :
  Calls Tryz.prog 182 #[.string s,.string ⟨#[32,9,13]⟩] w fun e w'=>e=.returned (.string ⟨(Lib.trimRightS s.data.toList [32,9,13]).toArray⟩)∧Below w.heap.size w w':=
 Any.strings_TrimRight_laid Tryz.lays162 (by kernel_rfl) s ⟨#[32,9,13]⟩ w (by omega) (by decide) (ascii_of_all (by decide))
theorem far_ix (x:UInt8) (h:128≤x.toNat):Lib.indexByte [13] x=-1:=by
 have h1:(13:UInt8)≠x:=by rintro rfl;exact absurd h (by decide)
 have h2:((13:UInt8) == x)=false:=by simpa using h1
 unfold Lib.indexByte
 rw [h2]
 rfl
set_option maxRecDepth 1000000 in
set_option maxHeartbeats 2000000 in
theorem far2 (p:Int) (x0 x1:UInt8) (w:World) (h0:128≤p) (h2:p≠65533) (hv:Lib.validRune p=true) (hR:Utf8.encode p=⟨#[x0,x1]⟩) (hL:128≤x1.toNat) :
  Calls Tryz.prog 181 #[.string ⟨#[32,9,13]⟩,.int .i32 p] w fun e w'=>e=.returned (.int .i64 (-1))∧Below w.heap.size w w':=by
 have HV:Hid (Calls Tryz.prog 207 #[.int .i32 p] w fun e w'=>e=.returned (.bool true)∧w'=w):=by
  have:=Tryz.utf8_ValidRune p w
  rw [hv] at this
  exact this
 have q1:¬p<128:=by omega
 have q2:(p == 65533)=false:=by simpa using h2
 have q0:(0:Int)≤p:=by omega
 have w2:IntKind.i64.wrap 2=2:=by decide
 have w3:IntKind.i64.wrap 3=3:=by decide
 have hcv:∀w,(convert 21 9 (.int .i32 p)).run Tryz.prog w=.ok (.string ⟨#[x0,x1]⟩) w:=fun w=>by rw [←hR];exact run_convert_int_string w _ _ _ _ rfl Tryz.underlying9
 have HX:Hid (∀(r:ByteArray) (W:World),r=⟨#[13]⟩→Calls Tryz.prog 206 #[.string r,.int .u8 (x1.toNat:Int)] W fun e w'=>e=.returned (.int .i64 (-1))∧w'=W):=by
  rintro r W rfl
  have:=Tryz.strings_IndexByte ⟨#[13]⟩ (x1.toNat:Int) W
  rw [Int.toNat_natCast] at this
  have e:Lib.indexByte (⟨#[13]⟩:ByteArray).data.toList x1.toNat.toUInt8=-1:=by
   rw [show x1.toNat.toUInt8=x1 from UInt8.ofNat_toNat]
   exact far_ix x1 hL
  rw [e] at this
  exact this
 have q4:((((⟨#[32,9,13]⟩:ByteArray)[1]'(by decide)).toNat:Int) != (((⟨#[x0,x1]⟩:ByteArray)[1]'(by show 1<2;decide)).toNat:Int))=true:=by
  show ((9:Int) != (x1.toNat:Int))=true
  simp;omega
 clear hR
 go_enter Tryz.func181,Tryz.ntmps181
 go_wp2_with (first|(go_at_call 207;refine HV.out.mono ?_;rintro e w1 ⟨rfl,hw⟩;replace hw:=hw.symm;subst hw))
 go_step3
 go_wp2_with fail
 go_loopw [9] (fun i wr=>i=.int .i64 1∧wr=w) (fun _ _=>0)
 case atStart=>exact ⟨rfl,rfl⟩
 case round=>
  obtain ⟨rfl,hw⟩:=hrel
  subst hw
  go_wp2_with fail
  go_step3
  go_wp2_with fail
  go_quiet (fail)
  go_wp2_with fail
  go_region_law (go_simp;go_at_call 206;refine (HX.out _ _ rfl).mono ?_;rintro e w2 ⟨rfl,hw⟩;replace hw:=hw.symm;subst hw)
  all_goals (
   go_wp2_with fail
   (repeat (first|rw [Exit.noGoto_ret]|simp only [Exit.inBlock]|simp (config:={ zetaDelta:=true }) only [Exit.then,Exit.inBlock,Exit.noGoto_ret]))
   go_ret
   exact ⟨rfl,bel_dn _ _⟩)
set_option maxRecDepth 1000000 in
set_option maxHeartbeats 2000000 in
theorem far3 (p:Int) (x0 x1 x2:UInt8) (w:World) (h0:128≤p) (h2:p≠65533) (hv:Lib.validRune p=true) (hR:Utf8.encode p=⟨#[x0,x1,x2]⟩) (hL:128≤x2.toNat) :
  Calls Tryz.prog 181 #[.string ⟨#[32,9,13]⟩,.int .i32 p] w fun e w'=>e=.returned (.int .i64 (-1))∧Below w.heap.size w w':=by
 have HV:Hid (Calls Tryz.prog 207 #[.int .i32 p] w fun e w'=>e=.returned (.bool true)∧w'=w):=by
  have:=Tryz.utf8_ValidRune p w
  rw [hv] at this
  exact this
 have q1:¬p<128:=by omega
 have q2:(p == 65533)=false:=by simpa using h2
 have q0:(0:Int)≤p:=by omega
 have w2:IntKind.i64.wrap 2=2:=by decide
 have w3:IntKind.i64.wrap 3=3:=by decide
 have hcv:∀w,(convert 21 9 (.int .i32 p)).run Tryz.prog w=.ok (.string ⟨#[x0,x1,x2]⟩) w:=fun w=>by rw [←hR];exact run_convert_int_string w _ _ _ _ rfl Tryz.underlying9
 have HX:Hid (∀(r:ByteArray) (W:World),r=⟨#[]⟩→Calls Tryz.prog 206 #[.string r,.int .u8 (x2.toNat:Int)] W fun e w'=>e=.returned (.int .i64 (-1))∧w'=W):=by
  rintro r W rfl
  have:=Tryz.strings_IndexByte ⟨#[]⟩ (x2.toNat:Int) W
  rw [Int.toNat_natCast] at this
  have e:Lib.indexByte (⟨#[]⟩:ByteArray).data.toList x2.toNat.toUInt8=-1:=by
   rw [show x2.toNat.toUInt8=x2 from UInt8.ofNat_toNat]
   rfl
  rw [e] at this
  exact this
 have q4:((((⟨#[32,9,13]⟩:ByteArray)[2]'(by decide)).toNat:Int) != (((⟨#[x0,x1,x2]⟩:ByteArray)[2]'(by show 2<3;decide)).toNat:Int))=true:=by
  show ((13:Int) != (x2.toNat:Int))=true
  simp;omega
 clear hR
 go_enter Tryz.func181,Tryz.ntmps181
 go_wp2_with (first|(go_at_call 207;refine HV.out.mono ?_;rintro e w1 ⟨rfl,hw⟩;replace hw:=hw.symm;subst hw))
 go_step3
 go_wp2_with fail
 go_loopw [9] (fun i wr=>i=.int .i64 2∧wr=w) (fun _ _=>0)
 case atStart=>exact ⟨rfl,rfl⟩
 case round=>
  obtain ⟨rfl,hw⟩:=hrel
  subst hw
  go_wp2_with fail
  go_step3
  go_wp2_with fail
  go_quiet (fail)
  go_wp2_with fail
  go_region_law (go_simp;go_at_call 206;refine (HX.out _ _ rfl).mono ?_;rintro e w2 ⟨rfl,hw⟩;replace hw:=hw.symm;subst hw)
  all_goals (
   go_wp2_with fail
   (repeat (first|rw [Exit.noGoto_ret]|simp only [Exit.inBlock]|simp (config:={ zetaDelta:=true }) only [Exit.then,Exit.inBlock,Exit.noGoto_ret]))
   go_ret
   exact ⟨rfl,bel_dn _ _⟩)
set_option maxRecDepth 1000000 in
set_option maxHeartbeats 2000000 in
theorem far4 (p:Int) (x0 x1 x2 x3:UInt8) (w:World) (h0:128≤p) (h2:p≠65533) (hv:Lib.validRune p=true) (hR:Utf8.encode p=⟨#[x0,x1,x2,x3]⟩) (hL:128≤x3.toNat) :
  Calls Tryz.prog 181 #[.string ⟨#[32,9,13]⟩,.int .i32 p] w fun e w'=>e=.returned (.int .i64 (-1))∧Below w.heap.size w w':=by
 have HV:Hid (Calls Tryz.prog 207 #[.int .i32 p] w fun e w'=>e=.returned (.bool true)∧w'=w):=by
  have:=Tryz.utf8_ValidRune p w
  rw [hv] at this
  exact this
 have q1:¬p<128:=by omega
 have q2:(p == 65533)=false:=by simpa using h2
 have q0:(0:Int)≤p:=by omega
 have w2:IntKind.i64.wrap 2=2:=by decide
 have w3:IntKind.i64.wrap 3=3:=by decide
 have hcv:∀w,(convert 21 9 (.int .i32 p)).run Tryz.prog w=.ok (.string ⟨#[x0,x1,x2,x3]⟩) w:=fun w=>by rw [←hR];exact run_convert_int_string w _ _ _ _ rfl Tryz.underlying9
 clear hR
 go_enter Tryz.func181,Tryz.ntmps181
 go_wp2_with (first|(go_at_call 207;refine HV.out.mono ?_;rintro e w1 ⟨rfl,hw⟩;replace hw:=hw.symm;subst hw))
 go_step3
 go_wp2_with fail
 go_loopw [9] (fun i wr=>i=.int .i64 3∧wr=w) (fun _ _=>0)
 case atStart=>exact ⟨rfl,rfl⟩
 case round=>
  obtain ⟨rfl,hw⟩:=hrel
  subst hw
  go_wp2_with fail
  (repeat (first|rw [Exit.noGoto_ret]|simp only [Exit.inBlock]))
  go_ret
  exact ⟨rfl,Below.refl _ _⟩
set_option maxRecDepth 1000000 in
set_option maxHeartbeats 2000000 in
theorem far_bad (p:Int) (w:World) (h0:128≤p) (h2:p≠65533) (hv:Lib.validRune p=false) :
  Calls Tryz.prog 181 #[.string ⟨#[32,9,13]⟩,.int .i32 p] w fun e w'=>e=.returned (.int .i64 (-1))∧Below w.heap.size w w':=by
 have HV:Hid (Calls Tryz.prog 207 #[.int .i32 p] w fun e w'=>e=.returned (.bool false)∧w'=w):=by
  have:=Tryz.utf8_ValidRune p w
  rw [hv] at this
  exact this
 have q1:¬p<128:=by omega
 have q2:(p == 65533)=false:=by simpa using h2
 have q0:(0:Int)≤p:=by omega
 go_enter Tryz.func181,Tryz.ntmps181
 go_wp2_with (first|(go_at_call 207;refine HV.out.mono ?_;rintro e w1 ⟨rfl,hw⟩;replace hw:=hw.symm;subst hw))
 (repeat (first|rw [Exit.noGoto_ret]|simp only [Exit.inBlock]))
 go_ret
 exact ⟨rfl,Below.refl _ _⟩
theorem bl_dec:∀pos,pos<3→Utf8.decode ⟨#[32,9,13]⟩ pos=((⟨#[32,9,13]⟩:ByteArray).get! pos |>.toNat,1)∧((⟨#[32,9,13]⟩:ByteArray).get! pos).toNat<128:=by decide
set_option maxRecDepth 1000000 in
set_option maxHeartbeats 2000000 in
theorem far_err (w:World) :
  Calls Tryz.prog 181 #[.string ⟨#[32,9,13]⟩,.int .i32 65533] w fun e w'=>e=.returned (.int .i64 (-1))∧Below w.heap.size w w':=by
 obtain ⟨s,hs⟩:∃s:ByteArray,s=⟨#[32,9,13]⟩:=⟨_,rfl⟩
 have hz:s.size=3:=by rw [hs];rfl
 have hd:∀pos,pos<3→dw s pos=1∧dp s pos<128:=fun pos hp=>by
  obtain ⟨e1,e2⟩:=bl_dec pos hp
  unfold dw dp
  rw [hs,e1]
  exact ⟨rfl,e2⟩
 rw [←hs]
 clear hs
 go_enter Tryz.func181,Tryz.ntmps181
 go_wp2_with fail
 go_loopw [] (fun w'=>∃pos:Nat,pos≤3∧w'=w.iter s pos) (fun w'=>s.size-w'.iterPos w.heap.size)
 case atStart=>exact ⟨0,by omega,rfl⟩
 case round=>
  obtain ⟨pos,hp3,rfl⟩:=hrel
  by_cases hp:pos<s.size
  ·have hnx:∀ty,(Instr.next (.pointer (some ⟨w.heap.size,0,none⟩)) true ty).run Tryz.prog (w.iter s pos)=_:=fun ty=>run_next_any w s pos ty hp
   obtain ⟨d1,d2⟩:=hd pos (by omega)
   unfold dw at d1
   unfold dp at d2
   have q9:(((Utf8.decode s pos).1:Int) == 65533)=false:=by simp;omega
   go_wp2_with fail
   exact ⟨⟨pos+1,by omega,rfl⟩,by simp;omega⟩
  ·have hnx:∀ty,(Instr.next (.pointer (some ⟨w.heap.size,0,none⟩)) true ty).run Tryz.prog (w.iter s pos)=_:=fun ty=>run_next_end w s pos ty hp
   go_wp2_with fail
   go_ret
   exact ⟨rfl,below_iter _ _ _⟩
end Go.Proofs.YtpdlohfdjiaegaaGreatDoor.Lx
