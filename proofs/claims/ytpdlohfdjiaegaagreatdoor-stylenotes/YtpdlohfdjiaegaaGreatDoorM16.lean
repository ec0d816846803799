import Derived.Shelf.Strings.Builder1
import Derived.Shelf.Strings.Builder2
import Derived.Shelf.Strings.LastIndex
import Derived.Shelf.Strings.Repeat
import Derived.OwnWalk
import Derived.Lib.LaidTab
import Derived.Lib.ItoaWalk
import Derived.Deep.RegionHeld3
import Derived.Test.YtpdlohfdjiaegaaGreatDoorM15
set_option linter.unusedVariables false
set_option linter.unusedSimpArgs false
namespace Go.Proofs.YtpdlohfdjiaegaaGreatDoor.Lw
open Go.Proofs.YtpdlohfdjiaegaaGreatDoor.Lx
open Go.RowKit Go.Shelf
open Go.Lib (strCells strCells_length)
def Tryz.lays169_ren:Go.Shelf.Ren:=⟨fun|169=>116|n=>n,fun|70=>170|9=>9|0=>0|72=>172|37=>164|127=>228|3=>3|5=>5|n=>n,fun|n=>n⟩
theorem Tryz.lays169:Go.Proofs.Lays.n169 Tryz.prog Tryz.lays169_ren:={
 mixed:=by kernel_rfl
 f169:=Tryz.func116.trans (congrArg some (by kernel_rfl))
 t0:=Tryz.underlying0
 a0:=Tryz.isAgg0
 z0:=Tryz.sizeOf0
 v0:=Tryz.zeroValue0
 t3:=Tryz.underlying3
 a3:=Tryz.isAgg3
 z3:=Tryz.sizeOf3
 v3:=Tryz.zeroValue3
 t9:=Tryz.underlying9
 a9:=Tryz.isAgg9
 z9:=Tryz.sizeOf9
 v9:=Tryz.zeroValue9
 t37:=Tryz.underlying164
 a37:=Tryz.isAgg164
 z37:=Tryz.sizeOf164
 v37:=Tryz.zeroValue164
 t70:=Tryz.underlying170
 a70:=Tryz.isAgg170
 z70:=Tryz.sizeOf170
 v70:=Tryz.zeroValue170
 t72:=Tryz.underlying172
 a72:=Tryz.isAgg172
 z72:=Tryz.sizeOf172
 v72:=Tryz.zeroValue172
 t127:=Tryz.underlying228
 a127:=Tryz.isAgg228
 z127:=Tryz.sizeOf228
 v127:=Tryz.zeroValue228 }
theorem Tryz.Builder_Extra_169:Builder.Extra Tryz.prog Tryz.lays169_ren:={
 sizeBuilder:=by kernel_rfl
 liesBuilder:=by kernel_rfl
 t5:=Tryz.underlying5
 a5:=Tryz.isAgg5
 z5:=Tryz.sizeOf5
 v5:=Tryz.zeroValue5
 infoByte:=by kernel_rfl
 cellsByte:=by kernel_rfl
 sizeByte:=by kernel_rfl
 neB5:=by decide }
def Tryz.lays165_ren:Go.Shelf.Ren:=⟨fun|165=>111|240=>164|241=>165|276=>201|277=>202|n=>n,fun|70=>170|3=>3|0=>0|4=>4|9=>9|20=>20|72=>172|37=>164|164=>246|5=>5|n=>n,fun|n=>n⟩
theorem Tryz.lays165:Go.Proofs.Lays.n165 Tryz.prog Tryz.lays165_ren:={
 mixed:=by kernel_rfl
 f165:=Tryz.func111.trans (congrArg some (by kernel_rfl))
 f240:=Tryz.func164.trans (congrArg some (by kernel_rfl))
 f241:=Tryz.func165.trans (congrArg some (by kernel_rfl))
 f276:=Tryz.func201.trans (congrArg some (by kernel_rfl))
 f277:=Tryz.func202.trans (congrArg some (by kernel_rfl))
 t0:=Tryz.underlying0
 a0:=Tryz.isAgg0
 z0:=Tryz.sizeOf0
 v0:=Tryz.zeroValue0
 t3:=Tryz.underlying3
 a3:=Tryz.isAgg3
 z3:=Tryz.sizeOf3
 v3:=Tryz.zeroValue3
 t4:=Tryz.underlying4
 a4:=Tryz.isAgg4
 z4:=Tryz.sizeOf4
 v4:=Tryz.zeroValue4
 t9:=Tryz.underlying9
 a9:=Tryz.isAgg9
 z9:=Tryz.sizeOf9
 v9:=Tryz.zeroValue9
 t20:=Tryz.underlying20
 a20:=Tryz.isAgg20
 z20:=Tryz.sizeOf20
 v20:=Tryz.zeroValue20
 t37:=Tryz.underlying164
 a37:=Tryz.isAgg164
 z37:=Tryz.sizeOf164
 v37:=Tryz.zeroValue164
 t70:=Tryz.underlying170
 a70:=Tryz.isAgg170
 z70:=Tryz.sizeOf170
 v70:=Tryz.zeroValue170
 t72:=Tryz.underlying172
 a72:=Tryz.isAgg172
 z72:=Tryz.sizeOf172
 v72:=Tryz.zeroValue172
 t164:=Tryz.underlying246
 a164:=Tryz.isAgg246
 z164:=Tryz.sizeOf246
 v164:=Tryz.zeroValue246 }
theorem Tryz.Builder_Extra_165:Builder.Extra Tryz.prog Tryz.lays165_ren:={
 sizeBuilder:=by kernel_rfl
 liesBuilder:=by kernel_rfl
 t5:=Tryz.underlying5
 a5:=Tryz.isAgg5
 z5:=Tryz.sizeOf5
 v5:=Tryz.zeroValue5
 infoByte:=by kernel_rfl
 cellsByte:=by kernel_rfl
 sizeByte:=by kernel_rfl
 neB5:=by decide }
def Tryz.lays148_ren:Go.Shelf.Ren:=⟨fun|148=>200|222=>232|223=>233|269=>247|n=>n,fun|9=>9|3=>3|4=>4|5=>5|146=>250|51=>249|46=>225|n=>n,fun|n=>n⟩
theorem Tryz.lays148:Go.Proofs.Lays.n148 Tryz.prog Tryz.lays148_ren:={
 mixed:=by kernel_rfl
 f148:=Tryz.func200.trans (congrArg some (by kernel_rfl))
 f222:=Tryz.func232.trans (congrArg some (by kernel_rfl))
 f223:=Tryz.func233.trans (congrArg some (by kernel_rfl))
 f269:=Tryz.func247.trans (congrArg some (by kernel_rfl))
 t3:=Tryz.underlying3
 a3:=Tryz.isAgg3
 z3:=Tryz.sizeOf3
 v3:=Tryz.zeroValue3
 t4:=Tryz.underlying4
 a4:=Tryz.isAgg4
 z4:=Tryz.sizeOf4
 v4:=Tryz.zeroValue4
 t5:=Tryz.underlying5
 a5:=Tryz.isAgg5
 z5:=Tryz.sizeOf5
 v5:=Tryz.zeroValue5
 t9:=Tryz.underlying9
 a9:=Tryz.isAgg9
 z9:=Tryz.sizeOf9
 v9:=Tryz.zeroValue9
 t46:=Tryz.underlying225
 a46:=Tryz.isAgg225
 z46:=Tryz.sizeOf225
 v46:=Tryz.zeroValue225
 t51:=Tryz.underlying249
 a51:=Tryz.isAgg249
 z51:=Tryz.sizeOf249
 v51:=Tryz.zeroValue249
 t146:=Tryz.underlying250
 a146:=Tryz.isAgg250
 z146:=Tryz.sizeOf250
 v146:=Tryz.zeroValue250 }
open Go.RowKit Go.Lib in

def Tryz.lays105_ren:Go.Shelf.Ren:=⟨fun|105=>115|212=>166|99=>90|165=>111|166=>114|170=>167|169=>116|263=>203|264=>204|206=>141|240=>164|241=>165|276=>201|277=>202|n=>n,fun|9=>9|3=>3|4=>4|20=>20|0=>0|46=>225|109=>226|5=>5|72=>172|76=>178|51=>249|146=>250|53=>252|148=>253|70=>170|37=>164|75=>177|127=>228|164=>246|80=>119|n=>n,fun|n=>n⟩
theorem Tryz.lays105:Go.Proofs.Lays.n105 Tryz.prog Tryz.lays105_ren:={
 mixed:=by kernel_rfl
 f99:=Tryz.func90.trans (congrArg some (by kernel_rfl))
 f105:=Tryz.func115.trans (congrArg some (by kernel_rfl))
 f165:=Tryz.func111.trans (congrArg some (by kernel_rfl))
 f166:=Tryz.func114.trans (congrArg some (by kernel_rfl))
 f169:=Tryz.func116.trans (congrArg some (by kernel_rfl))
 f170:=Tryz.func167.trans (congrArg some (by kernel_rfl))
 f206:=Tryz.func141.trans (congrArg some (by kernel_rfl))
 f212:=Tryz.func166.trans (congrArg some (by kernel_rfl))
 f240:=Tryz.func164.trans (congrArg some (by kernel_rfl))
 f241:=Tryz.func165.trans (congrArg some (by kernel_rfl))
 f263:=Tryz.func203.trans (congrArg some (by kernel_rfl))
 f264:=Tryz.func204.trans (congrArg some (by kernel_rfl))
 f276:=Tryz.func201.trans (congrArg some (by kernel_rfl))
 f277:=Tryz.func202.trans (congrArg some (by kernel_rfl))
 t0:=Tryz.underlying0
 a0:=Tryz.isAgg0
 z0:=Tryz.sizeOf0
 v0:=Tryz.zeroValue0
 t3:=Tryz.underlying3
 a3:=Tryz.isAgg3
 z3:=Tryz.sizeOf3
 v3:=Tryz.zeroValue3
 t4:=Tryz.underlying4
 a4:=Tryz.isAgg4
 z4:=Tryz.sizeOf4
 v4:=Tryz.zeroValue4
 t5:=Tryz.underlying5
 a5:=Tryz.isAgg5
 z5:=Tryz.sizeOf5
 v5:=Tryz.zeroValue5
 t9:=Tryz.underlying9
 a9:=Tryz.isAgg9
 z9:=Tryz.sizeOf9
 v9:=Tryz.zeroValue9
 t20:=Tryz.underlying20
 a20:=Tryz.isAgg20
 z20:=Tryz.sizeOf20
 v20:=Tryz.zeroValue20
 t37:=Tryz.underlying164
 a37:=Tryz.isAgg164
 z37:=Tryz.sizeOf164
 v37:=Tryz.zeroValue164
 t46:=Tryz.underlying225
 a46:=Tryz.isAgg225
 z46:=Tryz.sizeOf225
 v46:=Tryz.zeroValue225
 t51:=Tryz.underlying249
 a51:=Tryz.isAgg249
 z51:=Tryz.sizeOf249
 v51:=Tryz.zeroValue249
 t53:=Tryz.underlying252
 a53:=Tryz.isAgg252
 z53:=Tryz.sizeOf252
 v53:=Tryz.zeroValue252
 t70:=Tryz.underlying170
 a70:=Tryz.isAgg170
 z70:=Tryz.sizeOf170
 v70:=Tryz.zeroValue170
 t72:=Tryz.underlying172
 a72:=Tryz.isAgg172
 z72:=Tryz.sizeOf172
 v72:=Tryz.zeroValue172
 t75:=Tryz.underlying177
 a75:=Tryz.isAgg177
 z75:=Tryz.sizeOf177
 v75:=Tryz.zeroValue177
 t76:=Tryz.underlying178
 a76:=Tryz.isAgg178
 z76:=Tryz.sizeOf178
 v76:=Tryz.zeroValue178
 t109:=Tryz.underlying226
 a109:=Tryz.isAgg226
 z109:=Tryz.sizeOf226
 v109:=Tryz.zeroValue226
 t127:=Tryz.underlying228
 a127:=Tryz.isAgg228
 z127:=Tryz.sizeOf228
 v127:=Tryz.zeroValue228
 t146:=Tryz.underlying250
 a146:=Tryz.isAgg250
 z146:=Tryz.sizeOf250
 v146:=Tryz.zeroValue250
 t148:=Tryz.underlying253
 a148:=Tryz.isAgg253
 z148:=Tryz.sizeOf253
 v148:=Tryz.zeroValue253
 t164:=Tryz.underlying246
 a164:=Tryz.isAgg246
 z164:=Tryz.sizeOf246
 v164:=Tryz.zeroValue246 }
theorem Tryz.Builder_Extra_105:Builder.Extra Tryz.prog Tryz.lays105_ren:={
 sizeBuilder:=by kernel_rfl
 liesBuilder:=by kernel_rfl
 t5:=Tryz.underlying5
 a5:=Tryz.isAgg5
 z5:=Tryz.sizeOf5
 v5:=Tryz.zeroValue5
 infoByte:=by kernel_rfl
 cellsByte:=by kernel_rfl
 sizeByte:=by kernel_rfl
 neB5:=by decide }
open Go.RowKit Go.Lib in

theorem bgrow (B b n:Nat) (w:World) (hB:B≤b) (hbk:w.heap[b]?=some (.cells #[.pointer none,.slice none 0 0] 172 (0,0))) (hBw:B≤w.heap.size) (hn:n≤281474976710656) :
  Calls Tryz.prog 111 #[.pointer (some ⟨b,0,none⟩),.int .i64 n] w fun e w'=>e=.returned (.tuple #[])∧(Lib.BuilderAt 172 5 B b (.pointer (some ⟨b,0,none⟩)) [] w'∧Below B w w'):=Any.Builder_Grow_fresh Tryz.lays165 Tryz.Builder_Extra_165 B b n w hB hbk hBw hn
theorem bstring (B b:Nat) (l:List UInt8) (w:World) (h:Lib.IsBuilder 172 5 B b (Lib.byteCells l) w) (hBw:B≤w.heap.size) :
  Calls Tryz.prog 116 #[.pointer (some ⟨b,0,none⟩)] w fun e w'=>e=.returned (.string ⟨l.toArray⟩)∧Below B w w':=Any.Builder_String_any Tryz.lays169 Tryz.Builder_Extra_169 B b l w h hBw
theorem lastix (s sub:ByteArray) (h1:sub.size=1) (hs:s.size<4611686018427387904) (w:World) :
  Calls Tryz.prog 200 #[.string s,.string sub] w fun e w'=>e=.returned (.int .i64 (Lib.lastIndexByte s ((sub[0]'(by omega)).toNat:Int)))∧w'=w:=Any.strings_LastIndex_one Tryz.lays148 s sub h1 hs w
theorem repeat_any (s:ByteArray) (c:Nat) (w:World) (hc:c≤9223372036854775807) (hlen:s.size*c≤140737488355328) :
  Calls Tryz.prog 115 #[.string s,.int .i64 c] w fun e w'=>e=.returned (.string ⟨(Lib.repeatL s.data.toList c).toArray⟩)∧Below w.heap.size w w':=Any.strings_Repeat Tryz.lays105 Tryz.Builder_Extra_105 s c w hc hlen
theorem bcheck (b:Nat) (w:World) (h0:w.cell? ⟨b,0,none⟩=some (.pointer (some ⟨b,0,none⟩))) :
  Calls Tryz.prog 164 #[.pointer (some ⟨b,0,none⟩)] w fun e w'=>e=.returned (.tuple #[])∧w'=w:=Any.Builder_copyCheck_used (P:=Tryz.prog) (ρ:=Tryz.lays105_ren) { Tryz.lays105 with } Tryz.Builder_Extra_105.toX72 b w h0
end Go.Proofs.YtpdlohfdjiaegaaGreatDoor.Lw
namespace Go.Proofs.YtpdlohfdjiaegaaGreatDoor.Lw
open Go.Proofs.YtpdlohfdjiaegaaGreatDoor.Lx
open Go.RowKit
open Go.Lib (strCells strCells_length)
theorem three (w:World) (A C D:Obj):(((w.alloc A).alloc C).alloc D).heap[w.heap.size]?=some A∧(((w.alloc A).alloc C).alloc D).heap[w.heap.size+1]?=some C∧(((w.alloc A).alloc C).alloc D).heap[w.heap.size+1+1]?=some D∧Below w.heap.size w (((w.alloc A).alloc C).alloc D):=by
 have s1:(w.alloc A).heap.size=w.heap.size+1:=World.size_alloc w A
 have s2:((w.alloc A).alloc C).heap.size=w.heap.size+1+1:=by rw [World.size_alloc,s1]
 refine ⟨alloc_at _ _ _ _ (alloc_at _ _ _ _ (new_at _ _)),alloc_at _ _ _ _ ?_,?_,(((Below.refl _ w).alloc (Nat.le_refl _) A).alloc (by omega) C).alloc (by omega) D⟩
 ·rw [←s1];exact new_at _ _
 ·rw [←s2];exact new_at _ _
set_option maxHeartbeats 1000000 in
theorem gather_any (g:Nat) (b:Bool) (col wait:Int) (tv gv:Value) (w:World) (hg:w.heap[g]?=some (.cells (sk b col wait tv gv) 167 (0,0))) (htv:∃p n cap,tv=.slice p n cap) (hgv:∃p n cap,gv=.slice p n cap) :
  Calls Tryz.prog 157 #[.pointer (some ⟨g,0,none⟩)] w fun e w'=>∃c d h,e=.returned (.tuple #[.func (.func 197) #[] #[.pointer (some ⟨d,0,none⟩),.pointer (some ⟨c,0,none⟩)],.func (.func 198) #[] #[.pointer (some ⟨c,0,none⟩)],.func (.func 199) #[] #[.pointer (some ⟨c,0,none⟩),.pointer (some ⟨d,0,none⟩),.pointer (some ⟨h,0,none⟩)]]) ∧
   (w'.heap[c]?=some (.cells #[tv] 164 (0,0))∧w'.heap[d]?=some (.cells #[gv] 165 (0,0))∧w'.heap[h]?=some (.cells #[.pointer (some ⟨g,0,none⟩)] 111 (0,0))∧w.heap.size≤c∧w.heap.size≤d∧w.heap.size≤h)∧Below w.heap.size w w':=by
 have gl:=blk_lt hg
 have g3:w.cell? ⟨g,3,none⟩=some tv:=blk_cell hg rfl
 have g4:w.cell? ⟨g,4,none⟩=some gv:=blk_cell hg rfl
 obtain ⟨p1,n1,k1,rfl⟩:=htv
 obtain ⟨p2,n2,k2,rfl⟩:=hgv
 have a1:=cell_a1 g3
 have a2:=cell_a2 g3
 have a3:=cell_a3 g3
 have b1:=cell_a1 g4
 have b2:=cell_a2 g4
 have b3:=cell_a3 g4
 have hmf:∀(fn:Fn) (first cap:Array Value) (w:World),(Instr.makeFunc fn first cap).run Tryz.prog w=.ok (.func fn first cap) w:=fun _ _ _ _=>rfl
 go_enter Tryz.func157,Tryz.ntmps157
 go_wp2_with fail
 go_region
 all_goals go_wp2_with fail
 ·go_ret3
  obtain ⟨e0,e1,e2,hb⟩:=three w (.cells #[.pointer (some ⟨g,0,none⟩)] 111) (.cells #[.slice p1 n1 k1] 164) (.cells #[.slice p2 n2 k2] 165)
  exact ⟨w.heap.size+1,w.heap.size+1+1,w.heap.size,rfl,⟨e1,e2,e0,by omega,by omega,by omega⟩,hb.drew⟩
 ·go_ret3
  obtain ⟨e0,e1,e2,hb⟩:=three w (.cells #[.pointer (some ⟨g,0,none⟩)] 111) (.cells #[.slice p2 n2 k2] 165) (.cells #[.slice p1 n1 k1] 164)
  exact ⟨w.heap.size+1+1,w.heap.size+1,w.heap.size,rfl,⟨e2,e1,e0,by omega,by omega,by omega⟩,hb.drew⟩
def lf (t:ByteArray):Int:=Lib.lastIndexByte t 10
theorem lf_bd (t:ByteArray):-1≤lf t∧lf t<t.size:=by
 have:=Lib.lastIdx_spec t 10 t.size
 unfold lf Lib.lastIndexByte
 rcases this with ⟨h,_⟩|⟨i,hi,h,_⟩
 ·rw [h];omega
 ·rw [h];omega
def aft (t:ByteArray):ByteArray:=t.extract (lf t+1).toNat t.size
def ncol (col wait:Int) (t:ByteArray):Int:=if lf t<0 then col+wait+tw t else tw (aft t)
theorem lastix10 (s:ByteArray) (hs:s.size<4611686018427387904) (w:World) :
  Calls Tryz.prog 200 #[.string s,.string ⟨#[10]⟩] w fun e w'=>e=.returned (.int .i64 (lf s))∧w'=w:=lastix s ⟨#[10]⟩ rfl hs w
theorem new_any (w:World):Calls Tryz.prog 59 #[] w fun e w'=>e=.returned (.pointer (some ⟨w.heap.size,0,none⟩))∧w'=w.alloc (.cells (sk false 0 0 (.slice none 0 0) (.slice none 0 0)) 167):=by
 go_enter Tryz.func59,Tryz.ntmps59
 go_wp2_with fail
 go_ret
 exact ⟨rfl,rfl⟩
theorem column_any (g:Nat) (b:Bool) (col wait:Int) (tv gv:Value) (w:World) (hg:w.heap[g]?=some (.cells (sk b col wait tv gv) 167 (0,0))) (h0:0≤col) (h1:col≤1152921504606846976) (h2:0≤wait) (h3:wait≤1152921504606846976) :
  Calls Tryz.prog 163 #[.pointer (some ⟨g,0,none⟩)] w fun e w'=>e=.returned (.int .i64 (col+wait))∧Below w.heap.size w w':=by
 have g1:w.cell? ⟨g,1,none⟩=some (.int .i64 col):=blk_cell hg rfl
 have g2:w.cell? ⟨g,2,none⟩=some (.int .i64 wait):=blk_cell hg rfl
 go_enter Tryz.func163,Tryz.ntmps163
 go_wp2_with fail
 go_quiet (fail)
 go_wp2_with fail
 go_ret
 exact ⟨rfl,below_drewN (Below.refl _ w) nq⟩
theorem fresh_any (g:Nat) (b:Bool) (col wait:Int) (tv gv:Value) (w:World) (hg:w.heap[g]?=some (.cells (sk b col wait tv gv) 167 (0,0))) :
  Calls Tryz.prog 159 #[.pointer (some ⟨g,0,none⟩)] w fun e w'=>e=.returned (.bool (!b))∧w'=w:=by
 have g0:w.cell? ⟨g,0,none⟩=some (.bool b):=blk_cell hg rfl
 go_enter Tryz.func159,Tryz.ntmps159
 go_wp2_with fail
 go_ret
 exact ⟨rfl,rfl⟩
theorem blanks_any (g:Nat) (b:Bool) (col wait n:Int) (tv gv:Value) (w:World) (hg:w.heap[g]?=some (.cells (sk b col wait tv gv) 167 (0,0))) (h0:0≤n) (h1:n≤1048576) (h2:0≤wait) (h3:wait≤1152921504606846976) :
  Calls Tryz.prog 160 #[.pointer (some ⟨g,0,none⟩),.int .i64 n] w fun e w'=>e=.returned (.int .i64 0)∧w'=w.setCell ⟨g,2,none⟩ (.int .i64 (wait+n)):=by
 have q1:decide (n<0)=false:=by simp;omega
 have q2:decide (1048576<n)=false:=by simp;omega
 have q3:¬(1048576<n):=by omega
 have q4:¬(n<0):=by omega
 have g2:w.cell? ⟨g,2,none⟩=some (.int .i64 wait):=blk_cell hg rfl
 have f2:w.frozen? ⟨g,2,none⟩=false:=blk_frozen hg
 go_enter Tryz.func160,Tryz.ntmps160
 go_wp2_with fail
 go_ret
 exact ⟨rfl,rfl⟩
section
variable {β:Type} (enc:β→List Value) (sz:Nat)
variable (hsz:∀x,(enc x).length=sz)
include hsz
end
def Dc.v (d:Dc):Value:=.agg #[.int .u8 d.k,.string d.t,.int .i64 d.b,.int .i64 d.i,.bool d.e]
def Dc.cs (d:Dc):List Value:=[.int .u8 d.k,.string d.t,.int .i64 d.b,.int .i64 d.i,.bool d.e]
theorem Dc.cs_len (d:Dc):d.cs.length=5:=rfl
theorem Dc.cs_one (d:Dc):∀u∈d.cs,u.oneCell'=true:=by
 intro u hu
 simp only [Dc.cs,List.mem_cons,List.not_mem_nil,or_false] at hu
 rcases hu with rfl|rfl|rfl|rfl|rfl <;> rfl
def dcs (l:List Dc):List Value:=flat Dc.cs l
theorem dcs_len (l:List Dc):(dcs l).length=l.length*5:=flat_len Dc.cs 5 Dc.cs_len l
theorem dcs_one (l:List Dc):∀u∈dcs l,u.oneCell'=true:=by
 intro u hu
 obtain ⟨d,_,h⟩:=List.mem_flatMap.1 hu
 exact d.cs_one u h
def Lay (w:World) (ao:Option Addr) (l:List Dc):Prop:=∀j d,l[j]?=some d→d.t.size≤9223372036854775807∧∃b off,ao=some ⟨b,off,none⟩ ∧
 w.cell? ⟨b,off+j*5,none⟩=some (.int .u8 d.k)∧w.cell? ⟨b,off+j*5+1,none⟩=some (.string d.t)∧w.cell? ⟨b,off+j*5+2,none⟩=some (.int .i64 d.b)∧w.cell? ⟨b,off+j*5+3,none⟩=some (.int .i64 d.i)∧w.cell? ⟨b,off+j*5+4,none⟩=some (.bool d.e)
theorem Lay.kp {S:Nat→Prop}{w w':World}{ao:Option Addr}{l:List Dc}(h:Lay w ao l) (hb:Kp S w w') (hS:∀a,ao=some a→¬S a.block):Lay w' ao l:=by
 intro j a ha
 obtain ⟨h0,b,off,h1,c0,c1,c2,c3,c4⟩:=h j a ha
 have hlt:=World.block_lt_of_cell? _ _ c0
 have e:w'.heap[b]?=w.heap[b]?:=hb.block b hlt (hS _ h1)
 exact ⟨h0,b,off,h1,(World.cell?_of_block (a:=⟨b,_,none⟩) e).trans c0,(World.cell?_of_block (a:=⟨b,_,none⟩) e).trans c1,(World.cell?_of_block (a:=⟨b,_,none⟩) e).trans c2,(World.cell?_of_block (a:=⟨b,_,none⟩) e).trans c3,(World.cell?_of_block (a:=⟨b,_,none⟩) e).trans c4⟩
theorem Lay.below {w w':World}{ao:Option Addr}{l:List Dc}(h:Lay w ao l) (hb:Below w.heap.size w w'):Lay w' ao l:=h.kp (Kp.of_below (S:=fun _=>False) hb) (fun _ _ h=>h)
theorem Lay.row {w:World}{B:Nat}{v:Value}{n:Nat}{l:List Dc}(h:w.ownsRow B 57 5 v n (dcs l)) (ht:∀d∈l,d.t.size≤9223372036854775807):∃ao cap,v=.slice ao l.length cap∧n=l.length∧Lay w ao l∧(ao=none∨∃g,ao=some ⟨g,0,none⟩∧B≤g∧g<w.heap.size)∧l.length≤cap∧cap≤maxLen:=by
 have hn:n=l.length:=by have:=h.1;rw [dcs_len] at this;omega
 subst hn
 rcases h.2 with ⟨rfl,h0⟩|⟨g,cap,cur,rfl,hb,hg,h3,h4,h5,h6⟩
 ·have:l=[]:=List.eq_nil_of_length_eq_zero h0
  subst this
  exact ⟨none,0,rfl,rfl,fun j d h=>by simp at h,.inl rfl,Nat.zero_le _,Nat.zero_le _⟩
 ·refine ⟨some ⟨g,0,none⟩,cap,rfl,rfl,?_,.inr ⟨g,rfl,hb,blk_lt hg⟩,h3,h4⟩
  intro j d hj
  have hc:∀(k:Nat) (u:Value),(dcs l)[k]?=some u→w.cell? ⟨g,k,none⟩=some u:=fun k u hu=>by
   have:=h.cells (g:=g) rfl k u hu
   rw [Addr.add_lit,Nat.zero_add] at this
   exact this
  refine ⟨ht d (List.mem_of_getElem? hj),g,0,rfl,?_,?_,?_,?_,?_⟩
  ·rw [Nat.zero_add];exact hc _ _ (flat_at Dc.cs 5 Dc.cs_len l j 0 d _ hj rfl)
  ·rw [Nat.zero_add];exact hc _ _ (flat_at Dc.cs 5 Dc.cs_len l j 1 d _ hj rfl)
  ·rw [Nat.zero_add];exact hc _ _ (flat_at Dc.cs 5 Dc.cs_len l j 2 d _ hj rfl)
  ·rw [Nat.zero_add];exact hc _ _ (flat_at Dc.cs 5 Dc.cs_len l j 3 d _ hj rfl)
  ·rw [Nat.zero_add];exact hc _ _ (flat_at Dc.cs 5 Dc.cs_len l j 4 d _ hj rfl)
end Go.Proofs.YtpdlohfdjiaegaaGreatDoor.Lw
namespace Go.Proofs.YtpdlohfdjiaegaaGreatDoor.Lw
open Go.Proofs.YtpdlohfdjiaegaaGreatDoor.Lx
open Go.RowKit
theorem edge_any (c:UInt8) (w:World):Calls Tryz.prog 245 #[.int .u8 (c.toNat:Int)] w fun e w'=>e=.returned (.bool (edg c))∧w'=w:=by
 have h1:((c.toNat:Int) == 32)=(c == 32):=by revert c;exact all8 (by decide +kernel)
 have h2:((c.toNat:Int) == 10)=(c == 10):=by revert c;exact all8 (by decide +kernel)
 have e:edg c=((c.toNat:Int) == 32 || (c.toNat:Int) == 10):=by rw [h1,h2];rfl
 rw [e]
 clear e h1 h2
 generalize (c.toNat:Int)=z
 go_enter Tryz.func245,Tryz.ntmps245
 go_wp2_with fail
 all_goals (go_ret;simp_all)
theorem rnum_any (n:Int) (w:World):Calls Tryz.prog 229 #[.int .i64 n] w fun e w'=>e=.returned (.bool (rtN n))∧w'=w:=by
 have e:rtN n=(decide (0≤n) && decide (n≤1000)):=rfl
 rw [e]
 clear e
 go_enter Tryz.func229,Tryz.ntmps229
 go_wp2_with fail
 all_goals (go_ret;simp_all)
 all_goals omega
theorem dtext_any (t:ByteArray) (ht:t.size≤9223372036854775807) (w:World):Calls Tryz.prog 228 #[.string t] w fun e w'=>e=.returned (.bool (rtT t))∧w'=w:=by
 by_cases h0:t.size=0
 ·have e0:t=⟨#[]⟩:=by
   apply ls_inj
   exact List.eq_nil_of_length_eq_zero (by rw [ls_len];exact h0)
  subst e0
  go_enter Tryz.func228,Tryz.ntmps228
  go_wp2_with fail
  go_ret
  exact ⟨rfl,rfl⟩
 ·have hne:¬t.toList=[]:=by
   rw [Lib.toList_data]
   intro hl
   exact absurd (by have:=ls_len t;rw [lsb,hl] at this;simpa using this.symm) h0
  by_cases h1:t.size≤65535
  ·have hlt:0<t.size:=by omega
   have hlt2:t.size-1<t.size:=by omega
   have HE:Hid (rtT t=(!edg t[0] && !edg (t[t.size-1]))):=by
    show _=_
    unfold rtT
    have a0:(lsb t).getD 0 0=t[0]:=(Lib.getD_at t 0 hlt).symm
    have a1:(lsb t).getD (t.size-1) 0=t[t.size-1]:=(Lib.getD_at t (t.size-1) hlt2).symm
    rw [a0,a1]
    simp [h1,show 1≤t.size by omega]
   go_enter Tryz.func228,Tryz.ntmps228
   go_wp2_with (go_at_call 245;refine (edge_any _ _).mono ?_;rintro e w1 ⟨rfl,rfl⟩)
   all_goals (go_ret;rw [HE.out];clear HE;refine ⟨?_,rfl⟩;simp_all)
  ·go_enter Tryz.func228,Tryz.ntmps228
   go_wp2_with fail
   go_ret
   refine ⟨?_,rfl⟩
   simp [rtT,h1]
set_option maxHeartbeats 1000000 in
theorem right_text (t:ByteArray) (b i:Int) (e:Bool) (ht:t.size≤9223372036854775807) (w:World):Calls Tryz.prog 194 #[.agg #[.int .u8 1,.string t,.int .i64 b,.int .i64 i,.bool e]] w fun x w'=>x=.returned (.bool (rtT t && (b == 0 && (i == 0 && !e))))∧Below w.heap.size w w':=by
 go_enter Tryz.func194,Tryz.ntmps194
 go_wp2_with (go_at_call 228;refine (dtext_any _ ht _).mono ?_;rintro e w1 ⟨rfl,rfl⟩)
 all_goals go_ret
 all_goals (refine ⟨by simp_all,?_⟩;repeat (first|exact Below.refl _ _|refine Below.setCell ?_ (Nat.le_refl _) _|refine Below.alloc ?_ (by simp) _|refine Below.drew ?_))
set_option maxHeartbeats 1000000 in
theorem right_brk (t:ByteArray) (b i:Int) (e:Bool) (w:World):Calls Tryz.prog 194 #[.agg #[.int .u8 3,.string t,.int .i64 b,.int .i64 i,.bool e]] w fun x w'=>x=.returned (.bool (rtN b && (t.toList == [] && (i == 0 && !e))))∧Below w.heap.size w w':=by
 go_enter Tryz.func194,Tryz.ntmps194
 go_wp2_with (go_at_call 229;refine (rnum_any _ _).mono ?_;rintro e w1 ⟨rfl,rfl⟩)
 all_goals go_ret
 all_goals (refine ⟨by simp_all,?_⟩;repeat (first|exact Below.refl _ _|refine Below.setCell ?_ (Nat.le_refl _) _|refine Below.alloc ?_ (by simp) _|refine Below.drew ?_))
set_option maxHeartbeats 1000000 in
theorem right_beg (t:ByteArray) (b i:Int) (e:Bool) (w:World):Calls Tryz.prog 194 #[.agg #[.int .u8 6,.string t,.int .i64 b,.int .i64 i,.bool e]] w fun x w'=>x=.returned (.bool (rtN i && (t.toList == [] && b == 0)))∧Below w.heap.size w w':=by
 go_enter Tryz.func194,Tryz.ntmps194
 go_wp2_with (go_at_call 229;refine (rnum_any _ _).mono ?_;rintro e w1 ⟨rfl,rfl⟩)
 all_goals go_ret
 all_goals (refine ⟨by simp_all,?_⟩;repeat (first|exact Below.refl _ _|refine Below.setCell ?_ (Nat.le_refl _) _|refine Below.alloc ?_ (by simp) _|refine Below.drew ?_))
set_option maxHeartbeats 1000000 in
theorem right_zero (k:Int) (hk:k=2∨k=4∨k=5∨k=7) (t:ByteArray) (b i:Int) (e:Bool) (w:World):Calls Tryz.prog 194 #[.agg #[.int .u8 k,.string t,.int .i64 b,.int .i64 i,.bool e]] w fun x w'=>x=.returned (.bool (t.toList == [] && (b == 0 && (i == 0 && !e))))∧Below w.heap.size w w':=by
 rcases hk with rfl|rfl|rfl|rfl
 all_goals
  go_enter Tryz.func194,Tryz.ntmps194
  go_wp2_with fail
  all_goals go_ret
  all_goals (refine ⟨by simp_all,?_⟩;repeat (first|exact Below.refl _ _|refine Below.setCell ?_ (Nat.le_refl _) _|refine Below.alloc ?_ (by simp) _|refine Below.drew ?_))
set_option maxHeartbeats 1000000 in
theorem right_none (k:Int) (h1:k≠1) (h2:k≠2) (h3:k≠3) (h4:k≠4) (h5:k≠5) (h6:k≠6) (h7:k≠7) (t:ByteArray) (b i:Int) (e:Bool) (w:World):Calls Tryz.prog 194 #[.agg #[.int .u8 k,.string t,.int .i64 b,.int .i64 i,.bool e]] w fun x w'=>x=.returned (.bool false)∧Below w.heap.size w w':=by
 go_enter Tryz.func194,Tryz.ntmps194
 go_wp2_with fail
 all_goals go_ret
 all_goals (refine ⟨by simp_all,?_⟩;repeat (first|exact Below.refl _ _|refine Below.setCell ?_ (Nat.le_refl _) _|refine Below.alloc ?_ (by simp) _|refine Below.drew ?_))
theorem tl_E (t:ByteArray):(t.toList == [])=decide (t=bE):=by
 rw [Bool.eq_iff_iff,beq_iff_eq,decide_eq_true_eq,Lib.toList_data]
 constructor
 ·intro h;exact ls_inj h
 ·rintro rfl;rfl
theorem right_any (d:Dc) (ht:d.t.size≤9223372036854775807) (w:World):Calls Tryz.prog 194 #[d.v] w fun x w'=>x=.returned (.bool (rt d))∧Below w.heap.size w w':=by
 obtain ⟨k,t,b,i,e⟩:=d
 by_cases k1:k=1
 ·subst k1
  have e1:rt ⟨1,t,b,i,e⟩=(rtT t && (b == 0 && (i == 0 && !e))):=by
   unfold rt
   rw [if_pos rfl]
   congr 1
   rw [Bool.eq_iff_iff]
   simp [Dc.mk.injEq]
  rw [e1]
  exact right_text t b i e ht w
 by_cases k3:k=3
 ·subst k3
  have e1:rt ⟨3,t,b,i,e⟩=(rtN b && (t.toList == [] && (i == 0 && !e))):=by
   unfold rt
   rw [if_neg (by show ¬(3:Int)=1;decide),if_pos rfl,tl_E]
   congr 1
   rw [Bool.eq_iff_iff]
   simp [Dc.mk.injEq]
  rw [e1]
  exact right_brk t b i e w
 by_cases k6:k=6
 ·subst k6
  have e1:rt ⟨6,t,b,i,e⟩=(rtN i && (t.toList == [] && b == 0)):=by
   unfold rt
   rw [if_neg (by show ¬(6:Int)=1;decide),if_neg (by show ¬(6:Int)=3;decide),if_pos rfl,tl_E]
   congr 1
   rw [Bool.eq_iff_iff]
   simp [Dc.mk.injEq]
  rw [e1]
  exact right_beg t b i e w
 by_cases kz:k=2∨k=4∨k=5∨k=7
 ·have e1:rt ⟨k,t,b,i,e⟩=(t.toList == [] && (b == 0 && (i == 0 && !e))):=by
   unfold rt
   rw [if_neg k1,if_neg k3,if_neg k6,if_pos kz,tl_E]
   rw [Bool.eq_iff_iff]
   simp [Dc.mk.injEq]
  rw [e1]
  exact right_zero k kz t b i e w
 ·have e1:rt ⟨k,t,b,i,e⟩=false:=by
   unfold rt
   rw [if_neg k1,if_neg k3,if_neg k6,if_neg kz]
  rw [e1]
  simp only [not_or] at kz
  exact right_none k k1 kz.1 k3 kz.2.1 kz.2.2.1 k6 kz.2.2.2 t b i e w
theorem frm_step {o:Int}{j:Nat}{l:List Dc}{d:Dc}(hj:l[j]?=some d):frm o j (l.drop j)=if rt d=true∧0≤o+dep d.k then frm (o+dep d.k) (j+1) (l.drop (j+1)) else some j:=by
 obtain ⟨h1,h2⟩:=List.getElem?_eq_some_iff.1 hj
 rw [List.drop_eq_getElem_cons h1,h2]
 rfl
theorem frm_end {o:Int}{j:Nat}{l:List Dc}(hj:l.length≤j):frm o j (l.drop j)=if 0<o then some j else none:=by
 rw [List.drop_eq_nil_of_le hj];rfl
def ckr:Option Nat→Int × Int
 |some j=>(70,(j:Int))
 |none=>(0,0)
theorem chk_eq {l:List Dc}(h:¬2097152<l.length):chk l=ckr (frm 0 0 l):=by
 unfold chk
 rw [if_neg h]
 cases frm 0 0 l <;> rfl
set_option maxHeartbeats 2000000 in
set_option maxRecDepth 100000 in
theorem check_any (ao:Option Addr) (l:List Dc) (cap:Nat) (w:World) (hL:Lay w ao l) (hn:l.length≤9223372036854775807) :
  Calls Tryz.prog 152 #[.slice ao l.length cap] w fun e w'=>e=.returned (.tuple #[.int .i64 (chk l).1,.int .i64 (chk l).2])∧Below w.heap.size w w':=by
 by_cases hm:2097152<l.length
 ·have q0:(2097152:Int)<l.length:=by omega
  have HC:Hid (chk l=(2,0)):=by show _=_;unfold chk;rw [if_pos hm]
  go_enter Tryz.func152,Tryz.ntmps152
  go_wp2_with fail
  go_ret2
  rw [HC.out]
  exact ⟨rfl,Below.refl _ _⟩
 have q0:¬(2097152:Int)<l.length:=by omega
 have HC:Hid (chk l=ckr (frm 0 0 l)):=chk_eq hm
 have HL:Hid (Lay w ao l):=hL
 clear hL
 go_enter Tryz.func152,Tryz.ntmps152
 go_wp2_with fail
 go_loopw [4,12] (fun o j wr=>∃(k:Nat) (z:Int),k≤l.length∧o=.int .i64 z∧j=.int .i64 k∧0≤z∧z≤k∧Hid (frm z k (l.drop k)=frm 0 0 l∧Below w.heap.size w wr)) (fun _ j _=>l.length-(intOf j).toNat)
 case atStart=>exact ⟨0,0,by omega,rfl,rfl,by omega,by omega,rfl,Below.refl _ _⟩
 case round=>
  obtain ⟨k,z,hk,rfl,rfl,hz0,hz1,HI⟩:=hrel
  by_cases hlt:k<l.length
  ·have q1:(k:Int)<l.length:=by omega
   obtain ⟨d,hd⟩:∃d,l[k]?=some d:=⟨_,List.getElem?_eq_getElem hlt⟩
   obtain ⟨ht,b,off,rfl,c0,c1,c2,c3,c4⟩:=(HL.out.below HI.out.2) k d hd
   have HS:Hid ((if rt d=true∧0≤z+dep d.k then frm (z+dep d.k) (k+1) (l.drop (k+1)) else some k)=frm 0 0 l):=by
    show _=_;rw [←frm_step hd];exact HI.out.1
   have HB:Hid (Below w.heap.size w wr):=HI.out.2
   have HR:Hid (∀W,Calls Tryz.prog 194 #[d.v] W fun x w'=>x=.returned (.bool (rt d))∧Below W.heap.size W w'):=fun W=>right_any d ht W
   clear HI hd
   obtain ⟨dk,dt,db,di,de⟩:=d
   simp only [Dc.v] at HR
   simp only at c0 c1 c2 c3 c4 HS ht
   generalize rt ⟨dk,dt,db,di,de⟩=r at *
   have HX:Hid (r=true→0≤z+dep dk→frm (z+dep dk) (k+1) (l.drop (k+1))=frm 0 0 l):=fun h1 h2=>by rw [←HS.out,if_pos ⟨h1,h2⟩]
   have HY:Hid (¬(r=true∧0≤z+dep dk)→chk l=(70,(k:Int))):=fun h=>by rw [HC.out,←HS.out,if_neg h];rfl
   clear HS
   have HA:Hid (∀W w1,W=wr.alloc (.cells #[.int .u8 dk,.string dt,.int .i64 db,.int .i64 di,.bool de] 57)→Below W.heap.size W w1→Below w.heap.size w w1):=fun W w1 hW h=>by
    subst hW
    exact (HB.out.alloc HB.out.size _).trans (h.mono (by rw [World.size_alloc];have:=HB.out.size;omega))
   by_cases k6:dk=6
   ·subst k6
    have e6:z+dep 6=z+1:=rfl
    rw [e6] at HX HY
    cases r
    ·have HQ:Hid (chk l=(70,(k:Int))):=HY.out (by simp)
     clear HX HY
     go_wp2_with (go_at_call 194;refine (HR.out _).mono ?_;rintro e w1 ⟨rfl,hb1⟩)
     all_goals (go_ret2;rw [HQ.out];exact ⟨rfl,HA.out _ _ rfl hb1⟩)
    ·have HQ:Hid (frm (z+1) (k+1) (l.drop (k+1))=frm 0 0 l):=HX.out rfl (by omega)
     clear HX HY
     go_wp2_with (go_at_call 194;refine (HR.out _).mono ?_;rintro e w1 ⟨rfl,hb1⟩)
     exact ⟨⟨k+1,z+1,hlt,by go_num,by go_num,by omega,by omega,HQ.out,HA.out _ _ rfl hb1⟩,by simp [intOf];omega⟩
   by_cases k7:dk=7
   ·subst k7
    have e6:z+dep 7=z-1:=rfl
    rw [e6] at HX HY
    by_cases hz:0<z
    ·cases r
     ·have HQ:Hid (chk l=(70,(k:Int))):=HY.out (by simp)
      clear HX HY
      go_wp2_with (go_at_call 194;refine (HR.out _).mono ?_;rintro e w1 ⟨rfl,hb1⟩)
      all_goals (go_ret2;rw [HQ.out];exact ⟨rfl,HA.out _ _ rfl hb1⟩)
     ·have HQ:Hid (frm (z-1) (k+1) (l.drop (k+1))=frm 0 0 l):=HX.out rfl (by omega)
      clear HX HY
      go_wp2_with (go_at_call 194;refine (HR.out _).mono ?_;rintro e w1 ⟨rfl,hb1⟩)
      exact ⟨⟨k+1,z-1,hlt,by go_num,by go_num,by omega,by omega,HQ.out,HA.out _ _ rfl hb1⟩,by simp [intOf];omega⟩
    ·obtain rfl:z=0:=by omega
     have HQ:Hid (chk l=(70,(k:Int))):=HY.out (by omega)
     clear HX HY
     go_wp2_with (go_at_call 194;refine (HR.out _).mono ?_;rintro e w1 ⟨rfl,hb1⟩)
     all_goals (go_ret2;rw [HQ.out];exact ⟨rfl,HA.out _ _ rfl (Below.refl _ _)⟩)
   ·have e6:z+dep dk=z:=by simp [dep,k6,k7]
    rw [e6] at HX HY
    cases r
    ·have HQ:Hid (chk l=(70,(k:Int))):=HY.out (by simp)
     clear HX HY
     go_wp2_with (go_at_call 194;refine (HR.out _).mono ?_;rintro e w1 ⟨rfl,hb1⟩)
     all_goals (go_ret2;rw [HQ.out];exact ⟨rfl,HA.out _ _ rfl hb1⟩)
    ·have HQ:Hid (frm z (k+1) (l.drop (k+1))=frm 0 0 l):=HX.out rfl (by omega)
     clear HX HY
     go_wp2_with (go_at_call 194;refine (HR.out _).mono ?_;rintro e w1 ⟨rfl,hb1⟩)
     exact ⟨⟨k+1,z,hlt,by go_num,by go_num,by omega,by omega,HQ.out,HA.out _ _ rfl hb1⟩,by simp [intOf];omega⟩
  ·obtain rfl:k=l.length:=by omega
   have q1:¬((l.length:Int)<l.length):=by omega
   have he:=HI.out.1
   rw [frm_end (Nat.le_refl _)] at he
   have HB:Hid (Below w.heap.size w wr):=HI.out.2
   by_cases hz:0<z
   ·have HQ:Hid (chk l=(70,(l.length:Int))):=by show _=_;rw [HC.out,←he,if_pos hz];rfl
    clear HI he
    go_wp2_with fail
    go_ret2
    rw [HQ.out]
    exact ⟨rfl,HB.out⟩
   ·have HQ:Hid (chk l=(0,0)):=by show _=_;rw [HC.out,←he,if_neg hz];rfl
    clear HI he
    go_wp2_with fail
    go_ret2
    rw [HQ.out]
    exact ⟨rfl,HB.out⟩
end Go.Proofs.YtpdlohfdjiaegaaGreatDoor.Lw
