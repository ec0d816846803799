import Derived.Deep.RegionHeld3
import Derived.WalkMore
import Derived.ScopeJumps
import Derived.Laws.BytesString
import Derived.Lib.ConvBytes
import Derived.Laws.IdiomStrings
import Derived.Shelf.Strings.SlTrimAscii
import Derived.Shelf.Strings.Runes
import Derived.Shelf.Small.Utf8
import Derived.Shelf.LaysM
import Derived.Shelf.Strconv.Clone
import Derived.Shelf.Strings.Search1
import Derived.Laws.Runes
import Derived.Deep.Cut
import Derived.Deep.CutRange
import Derived.Test.YtcmbkeghnmgbfaaGreatDoorM05
set_option linter.all false
set_option maxHeartbeats 2000000
set_option maxRecDepth 1000000
namespace Go.Proofs.YtcmbkeghnmgbfaaGreatDoor.Lx
open Go.Proofs.Tryz
open Go.RowKit
open Go.Lib (strCells strCells_length)
def Nw (S:Nat->Prop) (n:Nat):Prop:=∀k,n<=k->S k
end Go.Proofs.YtcmbkeghnmgbfaaGreatDoor.Lx
namespace Go.Proofs.YtcmbkeghnmgbfaaGreatDoor
open Go.Proofs.Tryz
open Lx
open Go.RowKit
open Go.Lib (strCells strCells_length)
theorem Kp.then {S:Nat->Prop}{w W W':World}(h:Kp S w W) (u:Below W.heap.size W W'):Kp S w W':=h.trans (Kp.of_below u)
end Go.Proofs.YtcmbkeghnmgbfaaGreatDoor
namespace Go.Proofs.YtcmbkeghnmgbfaaGreatDoor.Lx
open Go.Proofs.Tryz
open Go.RowKit
open Go.Lib (strCells strCells_length)
variable {W W' w0:World}{t o R:ByteArray}{g k:Nat}{v vt vo vs:Value}{L C e x y z b f:Int}{l:List Tv}{cl:Bool}
theorem sN (a b:ByteArray):strCells (a++b)=strCells a++strCells b:=by
 rw[lU,lU,lU,<-uo];simp
theorem oa (t:ByteArray) (j:Nat) (h:j<t.size):(strCells t)[j]?=some (.int .u8 (av t j)):=by
 rw[lU];have u:j<t.data.toList.length:=by simpa using h
 have e:t.data.toList[j]?=some (t.get! j):=by
  rw[Ke u];simp[ByteArray.get!,Me,Array.getD,h]
 rw[un _ j _ e];rfl
def fJ (S:Nat->Prop) (W:World) (v:Value) (t:ByteArray):Prop:=W.ownsRow 0 5 1 v t.size (strCells t)/\∀k,v.ownBlock=some k->S k
theorem fJ.kp {S U:Nat->Prop}{W W':World}{v:Value}{t:ByteArray}(h:fJ S W v t) (F:Kp U W W') (u:∀k,v.ownBlock=some k->¬U k):fJ S W' v t:=⟨F.row h.1 u,h.2⟩
theorem fJ.below {S:Nat->Prop}(h:fJ S W v t) (u:Below W.heap.size W W'):fJ S W' v t:=⟨bi h.1 u,h.2⟩
theorem fJ.shape {S:Nat->Prop}(h:fJ S W v t):∃p cap,v=.slice p t.size cap/\t.size<=cap/\cap<=maxLen:=az h.1
theorem eY (S:Nat->Prop) (W:World) {t:ByteArray}(ht:t.size=0):fJ S W (.slice none 0 0) t:=by
 have e:t=ByteArray.empty:=aU _ _ (by rw[ht];rfl) (fun j F=>by omega);subst e;exact⟨LV W 0 5 1,fun k u=>by cases u⟩
def je (S:Nat->Prop) (W:World) (v:Value) (o:ByteArray):Prop:=
 ((v=.slice none 0 0/\o.size=0)\/∃b cap cs fr,v=.slice (some ⟨b,0,none⟩) o.size cap/\W.heap[b]?=some (.cells cs 5 fr)/\∀j,j<o.size->cs[j]?=some (.int .u8 (av o j)))/\∀k,v.ownBlock=some k->S k
theorem je.kp {S U:Nat->Prop}{W W':World}{v:Value}{o:ByteArray}(h:je S W v o) (I:Kp U W W') (H:∀k,v.ownBlock=some k->¬U k):je S W' v o:=by
 refine⟨?_,h.2⟩
 rcases h.1 with u|⟨b,cap,cs,fr,rfl,F,G⟩
 ·exact .inl u
 ·exact .inr ⟨b,cap,cs,fr,rfl,I.blk F (H b rfl),G⟩
theorem je.below {S:Nat->Prop}(h:je S W v o) (u:Below W.heap.size W W'):je S W' v o:=h.kp (Kp.of_below (S:=fun _=>False) u) (fun _ _ h=>h)
theorem je.shape {S:Nat->Prop}(h:je S W v o):∃p cap,v=.slice p o.size cap:=by
 rcases h.1 with⟨F,u⟩|⟨b,cap,cs,fr,rfl,u,G⟩
 ·exact⟨none,0,by rw[F,u]⟩
 ·exact⟨_,_,rfl⟩
theorem vu (S:Nat->Prop) (W:World) {o:ByteArray}(F:o.size=0):je S W (.slice none 0 0) o:=⟨.inl ⟨rfl,F⟩,fun k u=>by cases u⟩
theorem je.ne {S:Nat->Prop}(h:je S W v o) {g:Nat}{cs:Array Value}{T:TypeId}{f:Nat × Nat}(H:W.heap[g]?=some (.cells cs T f)) (G:T≠5):∀k,v.ownBlock=some k->k≠g:=by
 intro k u e
 rcases h.1 with⟨rfl,_⟩|⟨b,cap,I,fr,rfl,F,J⟩
 ·cases u
 ·simp only[Value.ownBlock,Ky]at u;subst u;subst e;rw[H]at F;cases F;exact G rfl
theorem fJ.ne {S:Nat->Prop}(h:fJ S W v t) {g:Nat}{cs:Array Value}{T:TypeId}{f:Nat × Nat}(F:W.heap[g]?=some (.cells cs T f)) (u:T≠5):∀k,v.ownBlock=some k->k≠g:=fun k G e=>aE h.1 F u (by rw[G,e])
theorem cZ {S:Nat->Prop}{W:World}{v:Value}{t:ByteArray}(h:fJ S W v t):(convert 52 9 v).run Tryz.prog W=.ok (.string t) W:=by
 rcases h.1.2 with⟨rfl,G⟩|⟨g,F,H,rfl,I⟩
 ·have e:t=ByteArray.empty:=aU _ _ (by rw[G];rfl) (fun j u=>by omega);rw[run_convert_bytes_string (P:=Tryz.prog) W 52 9 5 _ _ _ underlying52 underlying5 underlying9,e];rfl
 ·refine(NA (P:=Tryz.prog) W 52 9 5 ⟨g,0,none⟩ F t.data.toList underlying52 underlying5 underlying9 ?_);intro j u;have:=h.1.cells (g:=g) rfl j _ (un t.data.toList j _ (Ke u));exact this
theorem gR {S:Nat->Prop}(h:je S W v t):(convert 52 9 v).run Tryz.prog W=.ok (.string t) W:=by
 rcases h.1 with⟨rfl,I⟩|⟨g,G,cs,fr,rfl,J,M⟩
 ·have e:t=ByteArray.empty:=aU _ _ (by rw[I];rfl) (fun j F=>by omega);rw[run_convert_bytes_string (P:=Tryz.prog) W 52 9 5 _ _ _ underlying52 underlying5 underlying9,e];rfl
 ·refine(NA (P:=Tryz.prog) W 52 9 5 ⟨g,0,none⟩ G t.data.toList underlying52 underlying5 underlying9 ?_);intro j F;have u:j<t.size:=by simpa using F
  have e:=M j u;have H:av t j=(t.data.toList[j]).toNat:=by unfold av;simp[ByteArray.get!,Me,Array.getD,u]
  rw[H]at e;rw[KV,Km];simp[World.cell?,J,e]
def fH (W:World) (g:Nat) (cl:Bool) (e x y z:Int) (k:Nat) (b L C f:Int) (vt vo vs:Value):Prop:=
 W.heap[g]?=some (.cells #[.bool cl,.int .i64 e,.int .i64 x,.int .i64 y,.int .i64 z,.int .i64 k,.int .i64 b,.int .i64 L,.int .i64 C,.int .i64 f,vt,vo,vs] 83 (0,0))
theorem fH.frozen {W:World}{g:Nat}{cl:Bool}{e x y z:Int}{k:Nat}{b L C f:Int}{vt vo vs:Value}(h:fH W g cl e x y z k b L C f vt vo vs) (j:Nat):W.frozen? ⟨g,j,none⟩=false:=aj h
theorem fH.cells {W:World}{g:Nat}{cl:Bool}{e x y z:Int}{k:Nat}{b L C f:Int}{vt vo vs:Value}(h:fH W g cl e x y z k b L C f vt vo vs) :
  W.cell? ⟨g,0,none⟩=some (.bool cl)/\W.cell? ⟨g,1,none⟩=some (.int .i64 e)/\W.cell? ⟨g,2,none⟩=some (.int .i64 x)/\W.cell? ⟨g,3,none⟩=some (.int .i64 y)/\W.cell? ⟨g,4,none⟩=some (.int .i64 z)/\W.cell? ⟨g,5,none⟩=some (.int .i64 k) /\
  W.cell? ⟨g,6,none⟩=some (.int .i64 b)/\W.cell? ⟨g,7,none⟩=some (.int .i64 L)/\W.cell? ⟨g,8,none⟩=some (.int .i64 C)/\W.cell? ⟨g,9,none⟩=some (.int .i64 f)/\W.cell? ⟨g,10,none⟩=some vt/\W.cell? ⟨g,11,none⟩=some vo/\W.cell? ⟨g,12,none⟩=some vs:=
 ⟨aa h rfl,aa h rfl,aa h rfl,aa h rfl,aa h rfl,aa h rfl,aa h rfl,aa h rfl,aa h rfl,aa h rfl,aa h rfl,aa h rfl,aa h rfl⟩
structure Lz (S:Nat->Prop) (w0 W:World) (g:Nat) (vt vo vs:Value) (t o:ByteArray) (l:List Tv):Prop where
 kp:Kp S w0 W
 sg:S g
 nw:Nw S w0.heap.size
 rt:fJ S W vt t
 ro:je S W vo o
 ap:∀q,vo.ownBlock=some q->vt.ownBlock≠some q
 rs:Rt w0.heap.size W vs l
def Lq (S:Nat->Prop) (w0 W:World) (g:Nat) (k b:Nat) (L C:Int) (f:Nat) (t o:ByteArray) (l:List Tv):Prop:=
 ∃vt vo vs,fH W g false 0 0 0 0 k b L C f vt vo vs/\Lz S w0 W g vt vo vs t o l
theorem Lz.below {S:Nat->Prop}(h:Lz S w0 W g vt vo vs t o l) (u:Below W.heap.size W W'):Lz S w0 W' g vt vo vs t o l:=
 ⟨h.kp.then u,h.sg,h.nw,h.rt.below u,h.ro.below u,h.ap,h.rs.below u⟩
theorem Lq.below {S:Nat->Prop}{b:Nat}{f:Nat}(h:Lq S w0 W g k b L C f t o l) (u:Below W.heap.size W W'):Lq S w0 W' g k b L C f t o l:=by
 obtain⟨vt,vo,vs,F,G⟩:=h;exact⟨vt,vo,vs,af F u,G.below u⟩
theorem Lz.set {S:Nat->Prop}{w0 W:World}{g:Nat}{vt vo vs:Value}{t o:ByteArray}{l:List Tv}(h:Lz S w0 W g vt vo vs t o l) {cs:Array Value}(F:W.heap[g]?=some (.cells cs 83 (0,0))) (j:Nat) (u:Value):Lz S w0 (W.setCell ⟨g,j,none⟩ u) g vt vo vs t o l:=by
 refine⟨h.kp.step (Kp.set W g j u) (fun k _ e=>by rw[e];exact h.sg),h.sg,h.nw,h.rt.kp (Kp.set W g j u) (h.rt.ne F (by decide)),h.ro.kp (Kp.set W g j u) (h.ro.ne F (by decide)),h.ap,h.rs.kp (Kp.set W g j u) (h.rs.ne F (by decide))⟩
theorem dY (W:World) (m:Nat):Kc W (W.drewN m):=iX (gt _ _) m
theorem np (h:fH W g cl e x y z k b L C f vt vo vs) (p:Option Addr) (n c:Nat) (F:vt=.slice p n c) (s:ByteArray) (hn:n<=2147483647) (hs:s.size<=2147483647) :
  Kb 101 #[.pointer (some ⟨g,0,none⟩),.string s] W fun e w'=>e=.returned (.bool (decide (65535<n+s.size)))/\w'=W:=by
 subst F;obtain⟨c0,c1,c2,c3,c4,c5,c6,J,M,O,c10,G,H⟩:=h.cells;have u:decide (65535<n+s.size)=decide ((n:Int)+s.size>65535):=by rw[KR];omega
 have I:IntKind.i64.wrap ((n:Int)+(s.size:Int))=(n:Int)+(s.size:Int):=by rw[Ki];omega
 rw[u];clear u h
 go_enter func101,ntmps101
 go_wp2_with fail
 go_ret
 exact⟨rfl,rfl⟩
open Go.RowKit Go.Shelf
def Tryz.lays162_ren:Go.Shelf.Ren:=⟨fun|162=>106|232=>143|227=>144|234=>145|236=>146|228=>181|271=>182|151=>109|120=>243|197=>244|152=>148|260=>284|137=>184|119=>185|224=>186|225=>187|217=>218|266=>274|n=>n,fun|9=>9|4=>4|3=>3|5=>5|117=>245|116=>244|0=>0|124=>248|21=>21|105=>188|46=>283|119=>339|139=>342|138=>341|n=>n,fun|3=>6|4=>7|n=>n⟩
theorem Tryz.lays162:Go.Proofs.Lays.n162 Tryz.prog Tryz.lays162_ren:={
 mixed:=by kernel_rfl
 f119:=func185.trans (Kw some (by kernel_rfl))
 f120:=func243.trans (Kw some (by kernel_rfl))
 f137:=func184.trans (Kw some (by kernel_rfl))
 f151:=func109.trans (Kw some (by kernel_rfl))
 f152:=func148.trans (Kw some (by kernel_rfl))
 f162:=func106.trans (Kw some (by kernel_rfl))
 f197:=func244.trans (Kw some (by kernel_rfl))
 f217:=func218.trans (Kw some (by kernel_rfl))
 f224:=func186.trans (Kw some (by kernel_rfl))
 f225:=func187.trans (Kw some (by kernel_rfl))
 f227:=func144.trans (Kw some (by kernel_rfl))
 f228:=func181.trans (Kw some (by kernel_rfl))
 f232:=func143.trans (Kw some (by kernel_rfl))
 f234:=func145.trans (Kw some (by kernel_rfl))
 f236:=func146.trans (Kw some (by kernel_rfl))
 f260:=func284.trans (Kw some (by kernel_rfl))
 f266:=func274.trans (Kw some (by kernel_rfl))
 f271:=func182.trans (Kw some (by kernel_rfl))
 t0:=underlying0
 a0:=N9
 z0:=NO
 v0:=MJ
 t3:=underlying3
 a3:=Ng
 z3:=MK
 v3:=Mc
 t4:=underlying4
 a4:=NG
 z4:=Nk
 v4:=Mt
 t5:=underlying5
 a5:=ML
 z5:=Mx
 v5:=L0
 t9:=underlying9
 a9:=Nh
 z9:=MM
 v9:=Md
 t21:=underlying21
 a21:=Tryz.isAgg21
 z21:=Tryz.sizeOf21
 v21:=O2
 t46:=underlying283
 a46:=OJ
 z46:=Oz
 v46:=NI
 t105:=underlying188
 a105:=Tryz.isAgg188
 z105:=Tryz.sizeOf188
 v105:=Tryz.zeroValue188
 t116:=underlying244
 a116:=Tryz.isAgg244
 z116:=Tryz.sizeOf244
 t117:=underlying245
 a117:=Tryz.isAgg245
 z117:=Tryz.sizeOf245
 v117:=Tryz.zeroValue245
 t119:=underlying339
 a119:=Tryz.isAgg339
 z119:=Tryz.sizeOf339
 t124:=underlying248
 a124:=Tryz.isAgg248
 z124:=Tryz.sizeOf248
 v124:=Tryz.zeroValue248
 t138:=underlying341
 a138:=Tryz.isAgg341
 z138:=Tryz.sizeOf341
 v138:=Tryz.zeroValue341
 t139:=underlying342
 a139:=Tryz.isAgg342
 z139:=Tryz.sizeOf342
 v139:=Tryz.zeroValue342
 g3:=by kernel_rfl
 g4:=by kernel_rfl }
def Tryz.lays119_ren:Go.Shelf.Ren:=⟨fun|119=>185|n=>n,fun|21=>21|4=>4|n=>n,fun|n=>n⟩
theorem Tryz.lays119:Go.Proofs.Lays.n119 Tryz.prog Tryz.lays119_ren:={
 mixed:=by kernel_rfl
 f119:=func185.trans (Kw some (by kernel_rfl))
 t4:=underlying4
 a4:=NG
 z4:=Nk
 v4:=Mt
 t21:=underlying21
 a21:=Tryz.isAgg21
 z21:=Tryz.sizeOf21
 v21:=O2 }
theorem Tryz.utf8_ValidRune (r:Int) (w:World) :
  Kb 185 #[.int .i32 r] w fun e w'=>e=.returned (.bool (Lib.validRune r))/\w'=w:=Any.utf8_ValidRune Tryz.lays119 r w
def Tryz.lays137_ren:Go.Shelf.Ren:=⟨fun|137=>184|217=>218|266=>274|n=>n,fun|9=>9|5=>5|3=>3|n=>n,fun|n=>n⟩
theorem Tryz.lays137:Go.Proofs.Lays.n137 Tryz.prog Tryz.lays137_ren:={
 mixed:=by kernel_rfl
 f137:=func184.trans (Kw some (by kernel_rfl))
 f217:=func218.trans (Kw some (by kernel_rfl))
 f266:=func274.trans (Kw some (by kernel_rfl))
 t3:=underlying3
 a3:=Ng
 z3:=MK
 v3:=Mc
 t5:=underlying5
 a5:=ML
 z5:=Mx
 v5:=L0
 t9:=underlying9
 a9:=Nh
 z9:=MM
 v9:=Md }
theorem Tryz.strings_IndexByte (s:ByteArray) (c:Int) (w:World) :
  Kb 184 #[.string s,.int .u8 c] w fun e w'=>e=.returned (.int .i64 (Lib.indexByte s.data.toList c.toNat.toUInt8))/\w'=w:=Any.strings_IndexByte Tryz.lays137 s c w
def Tryz.laysM316_ren:Go.Shelf.Ren:=⟨fun|316=>142|n=>n,fun|9=>9|3=>3|4=>4|37=>52|0=>0|127=>280|5=>5|n=>n,fun|n=>n⟩
theorem Tryz.laysM316:Go.Proofs.LaysM.n316 Tryz.prog Tryz.laysM316_ren:={
 mixed:=by kernel_rfl
 f316:=func142.trans (Kw some (by kernel_rfl))
 t0:=underlying0
 a0:=N9
 z0:=NO
 v0:=MJ
 t3:=underlying3
 a3:=Ng
 z3:=MK
 v3:=Mc
 t4:=underlying4
 a4:=NG
 z4:=Nk
 v4:=Mt
 t9:=underlying9
 a9:=Nh
 z9:=MM
 v9:=Md
 t37:=underlying52
 a37:=O6
 z37:=OK
 v37:=NT
 t127:=underlying280
 a127:=Tryz.isAgg280
 z127:=Tryz.sizeOf280
 v127:=OE
 t5:=underlying5
 a5:=ML
 z5:=Mx
 v5:=L0
 i0:=by kernel_rfl
 i3:=by kernel_rfl
 i4:=by kernel_rfl
 i5:=by kernel_rfl
 i9:=by kernel_rfl
 i37:=by kernel_rfl
 i127:=by kernel_rfl }
theorem Tryz.stringslite_Clone (s:ByteArray) (w:World) (u:s.size<=281474976710656) :
  Kb 142 #[.string s] w fun e w'=>e=.returned (.string s)/\Kc w w':=Any.stringslite_Clone Tryz.laysM316 s w u
def Tryz.lays151_ren:Go.Shelf.Ren:=⟨fun|151=>109|152=>148|137=>184|119=>185|224=>186|225=>187|217=>218|266=>274|n=>n,fun|9=>9|21=>21|4=>4|3=>3|5=>5|0=>0|46=>283|n=>n,fun|n=>n⟩
theorem Tryz.lays151:Go.Proofs.Lays.n151 Tryz.prog Tryz.lays151_ren:={
 mixed:=by kernel_rfl
 f119:=func185.trans (Kw some (by kernel_rfl))
 f137:=func184.trans (Kw some (by kernel_rfl))
 f151:=func109.trans (Kw some (by kernel_rfl))
 f152:=func148.trans (Kw some (by kernel_rfl))
 f217:=func218.trans (Kw some (by kernel_rfl))
 f224:=func186.trans (Kw some (by kernel_rfl))
 f225:=func187.trans (Kw some (by kernel_rfl))
 f266:=func274.trans (Kw some (by kernel_rfl))
 t0:=underlying0
 a0:=N9
 z0:=NO
 v0:=MJ
 t3:=underlying3
 a3:=Ng
 z3:=MK
 v3:=Mc
 t4:=underlying4
 a4:=NG
 z4:=Nk
 v4:=Mt
 t5:=underlying5
 a5:=ML
 z5:=Mx
 v5:=L0
 t9:=underlying9
 a9:=Nh
 z9:=MM
 v9:=Md
 t21:=underlying21
 a21:=Tryz.isAgg21
 z21:=Tryz.sizeOf21
 v21:=O2
 t46:=underlying283
 a46:=OJ
 z46:=Oz
 v46:=NI }
theorem Tryz.strings_ContainsRune_ascii (s:ByteArray) (r:Int) (w:World) (u:0<=r) (F:r<128) :
  Kb 109 #[.string s,.int .i32 r] w fun e w'=>e=.returned (.bool (decide (0<=Lib.indexByte s.data.toList r.toNat.toUInt8)))/\w'=w:=Any.strings_ContainsRune_ascii Tryz.lays151 s r w u F
theorem yK (s:ByteArray) (w:World) (u:s.size<=2147483647) :
  Kb 105 #[.string s] w fun e w'=>e=.returned (.string s)/\Kc w w':=by
 have HC:=ku (Tryz.stringslite_Clone s w (by omega))
 go_enter func105,ntmps105
 go_wp2_with(go_at_call 142;refine HC.out.mono ?_;rintro e G⟨rfl,F⟩)
 go_ret
 exact⟨rfl,F⟩
theorem zj (s:ByteArray) (w:World) (u:s.size<=2147483647) :
  Kb 106 #[.string s,.string ⟨#[32,9,13]⟩] w fun e w'=>e=.returned (.string ⟨(Lib.trimRightS s.data.toList [32,9,13]).toArray⟩)/\Kc w w':=
 Any.strings_TrimRight_laid Tryz.lays162 (by kernel_rfl) s ⟨#[32,9,13]⟩ w (by omega) (by decide) (ascii_of_all (by decide))
theorem He (x:UInt8) (h:128<=x.toNat):Lib.indexByte [13] x=-1:=by
 have u:(13:UInt8)≠x:=by rintro rfl;exact absurd h (by decide)
 have F:((13:UInt8)==x)=false:=by simpa using u
 unfold Lib.indexByte;rw[F];rfl
theorem JV (p:Int) (G u:UInt8) (w:World) (h0:128<=p) (M:p≠65533) (hv:Lib.validRune p=true) (H:Utf8.encode p=⟨#[G,u]⟩) (O:128<=u.toNat) :
  Kb 148 #[.string ⟨#[32,9,13]⟩,.int .i32 p] w fun e w'=>e=.returned (.int .i64 (-1))/\Kc w w':=by
 have I:Hid (Kb 185 #[.int .i32 p] w fun e w'=>e=.returned (.bool true)/\w'=w):=by
  have:=Tryz.utf8_ValidRune p w;rw[hv]at this;exact this
 have q1:¬p<128:=by omega
 have q2:(p==65533)=false:=by simpa using M
 have q0:(0:Int)<=p:=by omega
 have w2:IntKind.i64.wrap 2=2:=by decide
 have w3:IntKind.i64.wrap 3=3:=by decide
 have aa:∀w,(convert 21 9 (.int .i32 p)).run Tryz.prog w=.ok (.string ⟨#[G,u]⟩) w:=fun w=>by rw[<-H];exact NB w _ _ _ _ rfl underlying9
 have J:Hid (∀(r:ByteArray) (W:World),r=⟨#[13]⟩->Kb 184 #[.string r,.int .u8 (u.toNat:Int)] W fun e w'=>e=.returned (.int .i64 (-1))/\w'=W):=by
  rintro r W rfl;have:=Tryz.strings_IndexByte ⟨#[13]⟩ (u.toNat:Int) W;rw[Lp]at this
  have e:Lib.indexByte (⟨#[13]⟩:ByteArray).data.toList u.toNat.toUInt8=-1:=by
   rw[show u.toNat.toUInt8=u from UInt8.ofNat_toNat];exact He u O
  rw[e]at this;exact this
 have q4:((((⟨#[32,9,13]⟩:ByteArray)[1]'(by decide)).toNat:Int) != (((⟨#[G,u]⟩:ByteArray)[1]'(by show 1<2;decide)).toNat:Int))=true:=by
  show((9:Int) != (u.toNat:Int))=true
  simp;omega
 clear H
 go_enter func148,ntmps148
 go_wp2_with(first|(go_at_call 185;refine I.out.mono ?_;rintro e w1⟨rfl,F⟩;replace F:=F.symm;subst F))
 go_step3
 go_wp2_with fail
 go_loopw [9] (fun i wr=>i=.int .i64 1/\wr=w) (fun _ _=>0)
 case atStart=>exact⟨rfl,rfl⟩
 case round=>
  obtain⟨rfl,F⟩:=hrel;subst F
  go_wp2_with fail
  go_step3
  go_wp2_with fail
  go_quiet (fail)
  go_wp2_with fail
  go_region_law (go_simp;go_at_call 184;refine(J.out _ _ rfl).mono ?_;rintro e w2⟨rfl,F⟩;replace F:=F.symm;subst F)
  all_goals(
   go_wp2_with fail
   (repeat(first|rw[L1]|simp only[Exit.inBlock]|simp(config:={ zetaDelta:=true }) only[Exit.then,Exit.inBlock,L1]))
   go_ret
   exact⟨rfl,dY _ _⟩)
theorem JU (p:Int) (G H u:UInt8) (w:World) (h0:128<=p) (O:p≠65533) (hv:Lib.validRune p=true) (I:Utf8.encode p=⟨#[G,H,u]⟩) (hL:128<=u.toNat) :
  Kb 148 #[.string ⟨#[32,9,13]⟩,.int .i32 p] w fun e w'=>e=.returned (.int .i64 (-1))/\Kc w w':=by
 have J:Hid (Kb 185 #[.int .i32 p] w fun e w'=>e=.returned (.bool true)/\w'=w):=by
  have:=Tryz.utf8_ValidRune p w;rw[hv]at this;exact this
 have q1:¬p<128:=by omega
 have q2:(p==65533)=false:=by simpa using O
 have q0:(0:Int)<=p:=by omega
 have w2:IntKind.i64.wrap 2=2:=by decide
 have w3:IntKind.i64.wrap 3=3:=by decide
 have aa:∀w,(convert 21 9 (.int .i32 p)).run Tryz.prog w=.ok (.string ⟨#[G,H,u]⟩) w:=fun w=>by rw[<-I];exact NB w _ _ _ _ rfl underlying9
 have M:Hid (∀(r:ByteArray) (W:World),r=⟨#[]⟩->Kb 184 #[.string r,.int .u8 (u.toNat:Int)] W fun e w'=>e=.returned (.int .i64 (-1))/\w'=W):=by
  rintro r W rfl;have:=Tryz.strings_IndexByte ⟨#[]⟩ (u.toNat:Int) W;rw[Lp]at this
  have e:Lib.indexByte (⟨#[]⟩:ByteArray).data.toList u.toNat.toUInt8=-1:=by
   rw[show u.toNat.toUInt8=u from UInt8.ofNat_toNat];rfl
  rw[e]at this;exact this
 have q4:((((⟨#[32,9,13]⟩:ByteArray)[2]'(by decide)).toNat:Int) != (((⟨#[G,H,u]⟩:ByteArray)[2]'(by show 2<3;decide)).toNat:Int))=true:=by
  show((13:Int) != (u.toNat:Int))=true
  simp;omega
 clear I
 go_enter func148,ntmps148
 go_wp2_with(first|(go_at_call 185;refine J.out.mono ?_;rintro e w1⟨rfl,F⟩;replace F:=F.symm;subst F))
 go_step3
 go_wp2_with fail
 go_loopw [9] (fun i wr=>i=.int .i64 2/\wr=w) (fun _ _=>0)
 case atStart=>exact⟨rfl,rfl⟩
 case round=>
  obtain⟨rfl,F⟩:=hrel;subst F
  go_wp2_with fail
  go_step3
  go_wp2_with fail
  go_quiet (fail)
  go_wp2_with fail
  go_region_law (go_simp;go_at_call 184;refine(M.out _ _ rfl).mono ?_;rintro e w2⟨rfl,F⟩;replace F:=F.symm;subst F)
  all_goals(
   go_wp2_with fail
   (repeat(first|rw[L1]|simp only[Exit.inBlock]|simp(config:={ zetaDelta:=true }) only[Exit.then,Exit.inBlock,L1]))
   go_ret
   exact⟨rfl,dY _ _⟩)
theorem JT (p:Int) (H I J F:UInt8) (w:World) (h0:128<=p) (O:p≠65533) (hv:Lib.validRune p=true) (G:Utf8.encode p=⟨#[H,I,J,F]⟩) (hL:128<=F.toNat) :
  Kb 148 #[.string ⟨#[32,9,13]⟩,.int .i32 p] w fun e w'=>e=.returned (.int .i64 (-1))/\Kc w w':=by
 have M:Hid (Kb 185 #[.int .i32 p] w fun e w'=>e=.returned (.bool true)/\w'=w):=by
  have:=Tryz.utf8_ValidRune p w;rw[hv]at this;exact this
 have q1:¬p<128:=by omega
 have q2:(p==65533)=false:=by simpa using O
 have q0:(0:Int)<=p:=by omega
 have w2:IntKind.i64.wrap 2=2:=by decide
 have w3:IntKind.i64.wrap 3=3:=by decide
 have aa:∀w,(convert 21 9 (.int .i32 p)).run Tryz.prog w=.ok (.string ⟨#[H,I,J,F]⟩) w:=fun w=>by rw[<-G];exact NB w _ _ _ _ rfl underlying9
 clear G
 go_enter func148,ntmps148
 go_wp2_with(first|(go_at_call 185;refine M.out.mono ?_;rintro e w1⟨rfl,u⟩;replace u:=u.symm;subst u))
 go_step3
 go_wp2_with fail
 go_loopw [9] (fun i wr=>i=.int .i64 3/\wr=w) (fun _ _=>0)
 case atStart=>exact⟨rfl,rfl⟩
 case round=>
  obtain⟨rfl,u⟩:=hrel;subst u
  go_wp2_with fail
  (repeat(first|rw[L1]|simp only[Exit.inBlock]))
  go_ret
  exact⟨rfl,gt _ _⟩
theorem EI (p:Int) (w:World) (I:128<=p) (G:p≠65533) (H:Lib.validRune p=false) :
  Kb 148 #[.string ⟨#[32,9,13]⟩,.int .i32 p] w fun e w'=>e=.returned (.int .i64 (-1))/\Kc w w':=by
 have F:Hid (Kb 185 #[.int .i32 p] w fun e w'=>e=.returned (.bool false)/\w'=w):=by
  have:=Tryz.utf8_ValidRune p w;rw[H]at this;exact this
 have M:¬p<128:=by omega
 have O:(p==65533)=false:=by simpa using G
 have J:(0:Int)<=p:=by omega
 go_enter func148,ntmps148
 go_wp2_with(first|(go_at_call 185;refine F.out.mono ?_;rintro e w1⟨rfl,u⟩;replace u:=u.symm;subst u))
 (repeat(first|rw[L1]|simp only[Exit.inBlock]))
 go_ret
 exact⟨rfl,gt _ _⟩
theorem Hv:∀pos,pos<3->Utf8.decode ⟨#[32,9,13]⟩ pos=((⟨#[32,9,13]⟩:ByteArray).get! pos |>.toNat,1)/\((⟨#[32,9,13]⟩:ByteArray).get! pos).toNat<128:=by decide
theorem EH (w:World) :
  Kb 148 #[.string ⟨#[32,9,13]⟩,.int .i32 65533] w fun e w'=>e=.returned (.int .i64 (-1))/\Kc w w':=by
 obtain⟨s,G⟩:∃s:ByteArray,s=⟨#[32,9,13]⟩:=⟨_,rfl⟩;have hz:s.size=3:=by rw[G];rfl
 have hd:∀pos,pos<3->dw s pos=1/\dp s pos<128:=fun pos F=>by
  obtain⟨M,O⟩:=Hv pos F;unfold dw dp;rw[G,M];exact⟨rfl,O⟩
 rw[<-G];clear G
 go_enter func148,ntmps148
 go_wp2_with fail
 go_loopw [] (fun w'=>∃pos:Nat,pos<=3/\w'=w.iter s pos) (fun w'=>s.size-w'.iterPos w.heap.size)
 case atStart=>exact⟨0,by omega,rfl⟩
 case round=>
  obtain⟨pos,aa,rfl⟩:=hrel
  by_cases F:pos<s.size
  ·have H:∀u,(Instr.next (.pointer (some ⟨w.heap.size,0,none⟩)) true u).run Tryz.prog (w.iter s pos)=_:=fun u=>Oh w s pos u F
   obtain⟨I,J⟩:=hd pos (by omega);unfold dw at I;unfold dp at J;have q9:(((Utf8.decode s pos).1:Int)==65533)=false:=by simp;omega
   go_wp2_with fail
   exact⟨⟨pos+1,by omega,rfl⟩,by simp;omega⟩
  ·have H:∀u,(Instr.next (.pointer (some ⟨w.heap.size,0,none⟩)) true u).run Tryz.prog (w.iter s pos)=_:=fun u=>O5 w s pos u F
   go_wp2_with fail
   go_ret
   exact⟨rfl,dy _ _ _⟩
theorem J0 (h:R.size=2):∃u F,R=⟨#[u,F]⟩:=by
 obtain⟨⟨l⟩⟩:=R
 match l,h with
 |[u,F],_=>exact⟨u,F,rfl⟩
theorem JZ (h:R.size=3):∃u F G,R=⟨#[u,F,G]⟩:=by
 obtain⟨⟨l⟩⟩:=R
 match l,h with
 |[u,F,G],_=>exact⟨u,F,G,rfl⟩
theorem JY (h:R.size=4):∃u F G H,R=⟨#[u,F,G,H]⟩:=by
 obtain⟨⟨l⟩⟩:=R
 match l,h with
 |[u,F,G,H],_=>exact⟨u,F,G,H,rfl⟩
theorem EJ (p:Int) (w:World) (u:128<=p) :
  Kb 148 #[.string ⟨#[32,9,13]⟩,.int .i32 p] w fun e w'=>e=.returned (.int .i64 (-1))/\Kc w w':=by
 by_cases F:p=65533
 ·subst F;exact EH w
 ·cases G:Lib.validRune p with
  |false=>exact EI p w u F G
  |true=>
   obtain⟨f1,f2,O⟩:=encode_facts p (by rw[validRune_eq];exact G) u;have J:=O (by omega);obtain⟨R,hR⟩:∃R,Utf8.encode p=R:=⟨_,rfl⟩;simp only[hR]at f1 f2 O J
   rcases(show R.size=2\/R.size=3\/R.size=4 by omega)with h|h|h
   ·obtain⟨H,I,rfl⟩:=J0 h;exact JV p H I w u F G hR J
   ·obtain⟨H,I,M,rfl⟩:=JZ h;exact JU p H I M w u F G hR J
   ·obtain⟨H,I,M,x3,rfl⟩:=JY h;exact JT p H I M x3 w u F G hR J
theorem D9:∀n:Nat,n<128->decide ((0:Int)<=Lib.indexByte [32,9,13] n.toUInt8)=decide (n=32\/n=9\/n=13):=by decide
def mf (p:Int):Bool:=decide (p=32\/p=9\/p=13)
theorem o5 (p:Int) (w:World) (G:0<=p) :
  Kb 109 #[.string ⟨#[32,9,13]⟩,.int .i32 p] w fun e w'=>e=.returned (.bool (mf p))/\Kc w w':=by
 by_cases h:p<128
 ·refine(Tryz.strings_ContainsRune_ascii ⟨#[32,9,13]⟩ p w G h).mono ?_;rintro e w'⟨rfl,rfl⟩;refine⟨?_,gt _ _⟩;have e:=D9 p.toNat (by omega);have u:decide (p.toNat=32\/p.toNat=9\/p.toNat=13)=mf p:=by unfold mf;rw[KR];omega
  rw[<-u,<-e]
 ·have F:=ku (EJ p w (by omega));have u:mf p=false:=by unfold mf;rw[decide_eq_false_iff_not];omega
  rw[u];clear u
  go_enter func109,ntmps109
  go_wp2_with(go_at_call 148;refine F.out.mono ?_;rintro e I⟨rfl,H⟩)
  go_ret
  exact⟨rfl,H⟩
theorem Cn (b:UInt8):[(32:UInt8),9,13].contains b=bJ b.toNat:=by
 unfold bJ;simp only[List.contains_cons,List.contains_nil,Bool.or_false];rw[KS];simp only[MI,LM,<-N8];constructor
 ·rintro(h|h|h)
  ·exact .inl (.inl h)
  ·exact .inl (.inr h)
  ·exact .inr h
 ·rintro((h|h)|h)
  ·exact .inl h
  ·exact .inr (.inl h)
  ·exact .inr (.inr h)
theorem vP (s:ByteArray) (a p j:Nat) (b:UInt8) (G:p<=s.size) (h:(s.extract a p).data.toList[j]?=some b):j<p-a/\av s (a+j)=b.toNat:=by
 have H:=ag s a p G;have u:j<(s.extract a p).data.toList.length:=(Kq.1 h).1;have hl:(s.extract a p).data.toList.length=(s.extract a p).size:=by rw[KY];rfl
 refine⟨by omega,?_⟩;have e:=aB s a p j (by omega);rw[<-e];unfold av;have F:=(Kq.1 h).2
 have:(s.extract a p).get! j=b:=by
  show(s.extract a p).data[j]! = b
  rw[Oi (s.extract a p).data j (by rw[KY]at u;exact u)]
  simpa using F
 rw[this]
theorem Da (s:ByteArray) (a p:Nat) (H:a<p) (G:p<=s.size) (ha:bJ (av s a)=false):(⟨(Lib.trimRightS (s.extract a p).data.toList [32,9,13]).toArray⟩:ByteArray)=s.extract a (aV s p):=by
 have h1:=eh s p;have h2:=gA s a ha p H;have O:=kN s p;have hz:=ag s a p G;have hl:(s.extract a p).data.toList.length=(s.extract a p).size:=by rw[KY];rfl
 have e:Lib.trimRightS (s.extract a p).data.toList [32,9,13]=(s.extract a p).data.toList.take (aV s p-a):=by
  refine Lib.trimRightS_take _ _ _ (by omega) (fun j b J F=>?_) (fun b h0 F=>?_)
  ·obtain⟨M,u⟩:=vP s a p j b G F;rw[Cn,<-u];exact O (a+j) (by omega) (by omega)
  ·obtain⟨M,u⟩:=vP s a p _ b G F;rw[Cn,<-u];have h4:a+(aV s p-a-1)=aV s p-1:=by omega
   rw[h4]
   have I:∀q,0<aV s q->bJ (av s (aV s q-1))=false:=by
    intro q
    induction q with
    |zero=>intro h;exact absurd h (by simp[aV])
    |succ q ih=>
     intro h;unfold aV at h ⊢
     by_cases e:bJ (av s q)=true
     ·rw[Kd e]at h ⊢;exact ih h
     ·rw[IO e]at h ⊢;simpa using e
   exact I p (by omega)
 rw[e];refine aU _ _ ?_ (fun j J=>?_)
 ·rw[ag s a _ (by omega)];show((s.extract a p).data.toList.take (aV s p-a)).toArray.size=_;simp;omega
 ·have aa:j<aV s p-a:=by
   have:(⟨((s.extract a p).data.toList.take (aV s p-a)).toArray⟩:ByteArray).size=((s.extract a p).data.toList.take (aV s p-a)).length:=by show Array.size _=_;simp
   rw[this,Kz]at J;omega
  rw[aB s a _ j (by omega)];rw[<-aB s a p j (by omega)];unfold av
  congr 1
  show((s.extract a p).data.toList.take (aV s p-a)).toArray[j]! = (s.extract a p).data[j]!
  rw[Oi _ j (by simp;omega),Oi _ j (by have:(s.extract a p).data.size=(s.extract a p).size:=rfl;omega)];simp
theorem FY (p q:Int):(false||decide (p=q))=(p==q):=by rw[KS];simp
theorem iI (p:Int) (w:World) :
  Kb 67 #[.int .i32 p] w fun e w'=>e=.returned (.bool (decide (48<=p)&&decide (p<=57)))/\w'=w:=by
 by_cases h:48<=p
 ·have e:(decide (48<=p)&&decide (p<=57))=decide (p<=57):=by rw[Ku h];rfl
  rw[e];clear e
  go_enter func67,ntmps67
  go_wp2_with fail
  go_ret
  exact⟨rfl,rfl⟩
 ·have e:(decide (48<=p)&&decide (p<=57))=false:=by rw[Kr h];rfl
  rw[e];clear e
  go_enter func67,ntmps67
  go_wp2_with fail
  go_ret
  exact⟨rfl,rfl⟩
theorem lu (p:Int) (w:World) :
  Kb 102 #[.int .i32 p] w fun e w'=>e=.returned (.bool (decide (p<32)||decide (p=127)))/\w'=w:=by
 by_cases h:p<32
 ·have e:(decide (p<32)||decide (p=127))=true:=by rw[Ku h];rfl
  rw[e];clear e
  go_enter func102,ntmps102
  go_wp2_with fail
  go_ret
  exact⟨rfl,rfl⟩
 ·have e:(decide (p<32)||decide (p=127))=(p==127):=by rw[Kr h];exact FY _ _
  rw[e];clear e
  go_enter func102,ntmps102
  go_wp2_with fail
  go_ret
  exact⟨rfl,rfl⟩
theorem ml (p:Int) (w:World) :
  Kb 70 #[.int .i32 p] w fun e w'=>e=.returned (.bool (decide (p=10)||decide (p=-1)))/\w'=w:=by
 by_cases h:p=10
 ·subst h
  go_enter func70,ntmps70
  go_wp2_with fail
  go_ret
  exact⟨rfl,rfl⟩
 ·have e:(decide (p=10)||decide (p=-1))=(p == -1):=by rw[Kr h];exact FY _ _
  have u:(p==10)=false:=by simpa using h
  rw[e];clear e h
  go_enter func70,ntmps70
  go_wp2_with fail
  go_ret
  exact⟨rfl,rfl⟩
theorem oF (p:Int) (w:World) (F:0<=p) :
  Kb 71 #[.int .i32 p] w fun e w'=>e=.returned (.bool (mf p))/\Kc w w':=by
 have u:=ku (o5 p w F)
 generalize mf p=r at *
 go_enter func71,ntmps71
 go_wp2_with(go_at_call 109;refine u.out.mono ?_;rintro e H⟨rfl,G⟩)
 go_ret
 exact⟨rfl,G⟩
theorem su (s:ByteArray) (y:Nat) (h:gd s y=false):dp s y=65533:=by unfold dp;rw[G7 s y h]
theorem CP:jL 65533=false:=by decide
theorem CQ:ng 65533=false:=by decide
theorem F8 (s:ByteArray) (y:Nat):jL (dp s y)=(gd s y&&jL (dp s y)):=by
 cases e:gd s y with
 |true=>rfl
 |false=>rw[su s y e];exact CP
theorem yY (s:ByteArray) (y:Nat):ng (dp s y)=(gd s y&&ng (dp s y)):=by
 cases e:gd s y with
 |true=>rfl
 |false=>rw[su s y e];exact CQ
theorem uw (s:ByteArray) (y:Nat):(decide ((48:Int)<=dp s y)&&decide ((dp s y:Int)<=57))=dh (av s y):=by
 unfold dh;rw[KS];simp only[Lo,KJ];constructor
 ·rintro⟨u,F⟩;have:=t8 s y (by omega);omega
 ·rintro⟨u,F⟩;have:=(bH s y (by omega)).2.1;omega
theorem co (s:ByteArray) (y c:Nat) (hc:c<128):(dp s y:Int)=(c:Int)↔av s y=c:=by
 rw[Int.natCast_inj];exact Jb s y c hc
theorem Iv (s:ByteArray) (y:Nat):(decide ((dp s y:Int)<32)||decide ((dp s y:Int)=127))=eI s y:=by
 unfold eI;cases e:gd s y with
 |true=>
  rw[MT,KS];simp only[MI,KJ,LM];constructor<;>intro _<;>omega
 |false=>rw[su s y e];rfl
theorem JD (s:ByteArray) (y:Nat):mf (dp s y)=bJ (av s y):=by
 unfold mf bJ;rw[KS];simp only[MI,KJ,LM];have u:=co s y 32 (by decide);have F:=co s y 9 (by decide);have G:=co s y 13 (by decide);constructor
 ·rintro(h|h|h)
  ·exact .inl (.inl (u.1 h))
  ·exact .inl (.inr (F.1 h))
  ·exact .inr (G.1 h)
 ·rintro((h|h)|h)
  ·exact .inl (u.2 h)
  ·exact .inr (.inl (F.2 h))
  ·exact .inr (.inr (G.2 h))
theorem fy {S:Nat->Prop}(h:fH W g cl e x y z k b L C f vt vo vs) {t:ByteArray}(F:fJ S W vt t) (G:ur W) :
  Kb 66 #[.pointer (some ⟨g,0,none⟩)] W fun e w'=>e=.returned (.int .u8 (if ky t=true then 2 else 1))/\w'=W:=by
 have c10:W.cell? ⟨g,10,none⟩=some vt:=aa h rfl;have I:=cZ F;have HI:=ku (yj t W G);obtain⟨p,cap,rfl,_⟩:=F.shape;clear h G F
 generalize ky t=r at *
 cases r
 ·go_enter func66,ntmps66
  go_wp2_with(go_at_call 107;refine HI.out.mono ?_;rintro e H⟨rfl,u⟩;replace u:=u.symm;subst u)
  go_ret
  exact⟨rfl,rfl⟩
 ·go_enter func66,ntmps66
  go_wp2_with(go_at_call 107;refine HI.out.mono ?_;rintro e H⟨rfl,u⟩;replace u:=u.symm;subst u)
  go_ret
  exact⟨rfl,rfl⟩
theorem yb {S:Nat->Prop}(h:fH W g cl e x y z k b L C f vt vo vs) {t:ByteArray}(G:fJ S W vt t) (u:ByteArray) (ht:t.size<=2147483647) (hu:u.size<=2147483647) (r:Bool) (F:r=true↔t++u=dj) :
  Kb 68 #[.pointer (some ⟨g,0,none⟩),.string u] W fun e w'=>e=.returned (.bool r)/\∃m,w'=W.drewN m:=by
 have c10:W.cell? ⟨g,10,none⟩=some vt:=aa h rfl;have O:=cZ G;have J:¬(9223372036854775807<t.size+u.size):=by omega
 have H:dj.toList=[47,47]:=by rw[j8];rfl
 have I:((t++u).toList==[47,47])=r:=by
  rw[<-H];cases r with
  |true=>exact nO (F.1 rfl)
  |false=>exact kM (fun h=>by have:=F.2 h;cases this)
 have M:=ku I;clear H I;obtain⟨p,cap,rfl,_⟩:=G.shape;clear h G F
 go_enter func68,ntmps68
 go_wp2_with fail
 go_ret
 exact⟨by rw[<-M.out];rfl,0,rfl⟩
theorem xZ {S:Nat->Prop}(h:fH W g cl e x y z k b L C f vt vo vs) {t:ByteArray}(H:fJ S W vt t) (O:lW W) (u:ByteArray) (ht:t.size<=2147483647) (h0:0<t.size) (hu:u.size<=2147483647) :
  Kb 69 #[.pointer (some ⟨g,0,none⟩),.string u] W fun e w'=>e=.returned (.bool (decide (t.size<(sg (t++u) 0).size)))/\Kc W w':=by
 have c10:W.cell? ⟨g,10,none⟩=some vt:=aa h rfl;have J:=cZ H;have ab:¬(9223372036854775807<t.size+u.size):=by omega
 have HI:Hid (∀V,lW V->Kb 108 #[.string (t++u),.int .i64 0] V fun e w'=>e=.returned (.string (sg (t++u) 0))/\Kc V w'):=fun V F=>by
  have:=uO (t++u) 0 V F (by rw[ax];omega);exact this
 obtain⟨p,cap,rfl,_⟩:=H.shape;have E2:Hid (decide (t.size<(sg (t++u) 0).size)=decide (((sg (t++u) 0).size:Int)>t.size)):=by show _=_;rw[KR];omega
 have M:Hid (∀V,Kc W V->V.cell? ⟨g,10,none⟩=some (.slice p t.size cap)/\(convert 52 9 (.slice p t.size cap)).run Tryz.prog V=.ok (.string t) V/\Kc W V):=fun V F=>⟨aa (af h F) rfl,cZ (H.below F),F⟩
 have HS:=ku fun V (F:Kc W V)=>O.below F
 clear h H O J c10
 generalize sg (t++u) 0=r at *
 go_enter func69,ntmps69
 go_wp2_with fail
 go_region_held3 (fun w'=>w'.cell? ⟨g,10,none⟩=some (.slice p t.size cap)/\(convert 52 9 (.slice p t.size cap)).run Tryz.prog w'=.ok (.string t) w'/\Kc W w') (first|(exact M.out _ (by assumption))|(exact M.out _ (gt _ _).drew)|go_keep) (first|(go_at_call 108;refine(HI.out _ (HS.out _ (by first|assumption|exact(gt _ _).drew))).mono ?_;rintro e w1⟨rfl,G⟩;have I:=(by first|exact(gt W.heap.size W).drew.trans (G.mono (ge _))|exact(by assumption:Kc W _).trans (G.mono (Below.size (by assumption))):Kc W w1)))
 all_goals(
  go_wp2_with fail
  go_ret
  exact⟨by rw[E2.out];rfl,I⟩)
theorem Lz.grow {S:Nat->Prop}{w':World}{v':Value}{u:ByteArray}(h:Lz S w0 W g vt vo vs t o l) {cs:Array Value}(O:W.heap[g]?=some (.cells cs 83 (0,0)))
  (h1:w'.ownsRow 0 5 1 v' (t.size+u.size) (strCells t++strCells u)) (h2:W.grownBy w' vt.ownBlock) (M:v'.ownBlock=vt.ownBlock\/v'.ownBlock=some W.heap.size):w'.heap[g]?=some (.cells cs 83 (0,0))/\Lz S w0 w' g v' vo vs (t++u) o l:=by
 have G:=Kp.of_grown h2;refine⟨G.blk O (fun e=>h.rt.ne O (by decide) g e.symm rfl),h.kp.step G (fun j _ e=>h.rt.2 j e.symm),h.sg,h.nw,⟨?_,?_⟩,h.ro.kp G (fun k e1 e2=>h.ap k e1 e2.symm),?_,h.rs.kp G ?_⟩
 ·rw[ax,sN];exact h1
 ·intro k F
  rcases M with e|e
  ·exact h.rt.2 k (by rw[<-e];exact F)
  ·rw[e]at F;injection F with F
   exact h.nw k (by have:=h.kp.size;omega)
 ·intro q J e
  rcases M with H|H
  ·exact h.ap q J (by rw[<-H];exact e)
  ·rw[H]at e;injection e with e
   rcases h.ro.1 with⟨rfl,_⟩|⟨b,cap,aa,fr,rfl,h5,_⟩
   ·cases J
   ·simp only[Value.ownBlock,Ky]at J;have:=ai h5;omega
 ·intro k F e
  rcases h.rt.1.2 with⟨I,_⟩|⟨b,cap,ab,I,_,h6,_⟩
  ·rw[I]at e;cases e
  ·rw[I]at e;simp only[Value.ownBlock,Ky]at e;exact h.rs.ne h6 (by decide) k F e
theorem Tryz.lexu8:(Tryz.prog.info? 5).map (fun i=>(i.zero,i.size,i.bytes))=some (some (.int .u8 0),1,1):=by kernel_rfl
theorem ra {S:Nat->Prop}{b:Nat}{f:Nat}(h:Lq S w0 W g k b L C f t o l) (u:ByteArray) (ht:t.size<=100000) (hu:u.size<=100) (r:Bool) (hr:r=decide (65535<t.size+u.size)) :
  Kb 64 #[.pointer (some ⟨g,0,none⟩),.string u] W fun e w'=>e=.returned (.int .i64 (if r=true then 103 else 0))/\Lq S w0 w' g k b L C f (if r=true then t else t++u) o l:=by
 obtain⟨vt,vo,vs,M,O⟩:=h;obtain⟨p,cap,e1,hcap,_⟩:=O.rt.shape
 have HF:Hid (Kb 101 #[.pointer (some ⟨g,0,none⟩),.string u] W fun e w'=>e=.returned (.bool r)/\w'=W):=by
  rw[hr];exact np M p t.size cap e1 u (by omega) (by omega)
 have c10:W.cell? ⟨g,10,none⟩=some vt:=aa M rfl;have ah:=M.frozen 10;have hz:=ax t u
 have ad:Hid (∀{J:Array Oper} {F:List Oper} {o':Oper} {a:Act} {Q:Exit->Act->World->Prop} (ac:o'.guard=none) (sO xO:Operand) (ho:o'.op=.call { callee:=.builtin .append,args:=#[sO,xO],argTypes:=#[52,9] }) (hs:a.eval sO=vt) (hx:a.eval xO=.string u)
   (h:∀v' w',fH w' g false 0 0 0 0 k b L C f vt vo vs->Lz S w0 w' g v' vo vs (t++u) o l->wpList Tryz.prog J Q F (a.put o'.dst v') w'),wpList Tryz.prog J Q (o' :: F) a W):=by
  intro J F o' a Q ac sO xO ho hs hx h;obtain⟨i0,hi,ae,af,ag⟩:=LJ Tryz.lexu8;refine bz (P:=Tryz.prog) (w:=W) ac sO xO 52 9 ho 0 5 i0 underlying52 underlying9 hi ae af ag vt _ _ hs O.rt.1 u hx (by unfold maxLen;omega) (by omega) (Kj _) ?_;intro v' w' k1 k2 k3;obtain⟨G,I⟩:=O.grow M k1 k2 k3;exact h v' w' G I
 have HB:Hid (fH W g false 0 0 0 0 k b L C f vt vo vs/\Lz S w0 W g vt vo vs t o l):=⟨M,O⟩
 have HE:Hid (∀v' w',fH w' g false 0 0 0 0 k b L C f vt vo vs->Lz S w0 w' g v' vo vs (t++u) o l->w'.cell? ⟨g,10,none⟩=some vt/\w'.frozen? ⟨g,10,none⟩=false/\Lq S w0 (w'.setCell ⟨g,10,none⟩ v') g k b L C f (t++u) o l):=fun v' w' G I=>
  ⟨aa G rfl,G.frozen 10,v',vo,vs,ab G 10 v',I.set G 10 v'⟩
 subst e1;clear M O hr hz;cases r
 ·go_enter func64,ntmps64
  go_wp2_with(first|(go_at_call 101;refine HF.out.mono ?_;rintro e w1⟨rfl,H⟩;replace H:=H.symm;subst H)|(at_builtin;refine ad.out (by rfl) _ _ (by rfl) (by rfl) (by rfl) ?_;intro v' w2 G I;obtain⟨x1,x2,x3⟩:=HE.out _ _ G I;obtain⟨vp',vc',hv',_⟩:=I.rt.shape;rw[ax]at hv';subst hv';have HX:=ku x3;clear x3 G I))
  go_ret
  exact⟨rfl,HX.out⟩
 ·go_enter func64,ntmps64
  go_wp2_with(first|(go_at_call 101;refine HF.out.mono ?_;rintro e w1⟨rfl,H⟩;replace H:=H.symm;subst H))
  go_ret
  exact⟨rfl,_,_,_,HB.out.1,HB.out.2⟩
theorem tK {S:Nat->Prop}{w0 W:World}{g k b:Nat}{f:Nat}{s o:ByteArray}{l:List Tv}{p:Nat}(h:Lq S w0 W g k b (pL s b) (pC s b) f (s.extract b p) o l) (hs:s.size<=2147483647) (ae:b<=p) (hb:bd s b) (hp:bd s p) (E A:Nat) (hA:A=if E=102 then p else b) :
  Kb 60 #[.pointer (some ⟨g,0,none⟩),.int .i64 E] W fun e w'=>e=.returned (.agg #[.int .i64 A,.int .i64 (pL s A),.int .i64 (pC s A)])/\Below W.heap.size W w':=by
 obtain⟨vt,vo,vs,F,O⟩:=h;have ak:=ia hp;obtain⟨j1,j2,j3⟩:=lV hb hp ae hs;obtain⟨c0,c1,c2,c3,c4,c5,c6,c7,c8,c9,c10,c11,c12⟩:=F.cells;have ah:=cZ O.rt;obtain⟨pp,cap,rfl,_⟩:=O.rt.shape
 by_cases hE:E=102
 ·rw[Kd hE]at hA;subst hA;have q1:((E:Int)==102)=true:=by simp;omega
  have I:Hid (∀V,Kb 30 #[.agg #[.int .i64 b,.int .i64 (pL s b),.int .i64 (pC s b)],.string (s.extract b A)] V fun e w'=>e=.returned (.agg #[.int .i64 A,.int .i64 (pL s A),.int .i64 (pC s A)])/\Kc V w'):=fun V=>by
   have:=ja b (pL s b) (pC s b) (s.extract b A) V (by rw[ag s b A ak];omega) (AC s b);rw[j1,j2,j3]at this;exact this
  have HK:Hid (∀V,Kc W V->V.cell? ⟨g,6,none⟩=some (.int .i64 b)/\V.cell? ⟨g,7,none⟩=some (.int .i64 (pL s b))/\V.cell? ⟨g,8,none⟩=some (.int .i64 (pC s b))/\V.cell? ⟨g,10,none⟩=some (.slice pp (s.extract b A).size cap)/\(convert 52 9 (.slice pp (s.extract b A).size cap)).run Tryz.prog V=.ok (.string (s.extract b A)) V/\Kc W V):=fun V M=>⟨aa (af F M) rfl,aa (af F M) rfl,aa (af F M) rfl,aa (af F M) rfl,cZ (O.rt.below M),M⟩
  have aj:=ai F;clear F O j1 j2 j3 hE hb hp
  generalize s.extract b A=t at *
  obtain⟨L2,ab⟩:∃x,pL s A=x:=⟨_,rfl⟩;obtain⟨C2,hC2⟩:∃x,pC s A=x:=⟨_,rfl⟩;obtain⟨L,J⟩:∃x,pL s b=x:=⟨_,rfl⟩;obtain⟨C,hC⟩:∃x,pC s b=x:=⟨_,rfl⟩;rw[ab,hC2]at I ⊢;rw[J,hC]at I HK;rw[J]at c7;rw[hC]at c8;clear ab hC2 J hC;obtain⟨W1,hW1⟩:∃W1,W.alloc (.cells #[.int .i64 0,.int .i64 0,.int .i64 0] 33)=W1:=⟨_,rfl⟩;have G:Below W.heap.size W W1:=by rw[<-hW1];exact(gt _ _).alloc (ge _) _
  have k0:aZ W1 W.heap.size 0 0 0:=by rw[<-hW1];exact aZ.new W 0 0 0
  go_enter func60,ntmps60
  go_wp2_with fail
  try rw[hW1]
  clear hW1
  go_region_held3 (fun w'=>w'.cell? ⟨g,6,none⟩=some (.int .i64 b)/\w'.cell? ⟨g,7,none⟩=some (.int .i64 L)/\w'.cell? ⟨g,8,none⟩=some (.int .i64 C)/\w'.cell? ⟨g,10,none⟩=some (.slice pp t.size cap)/\(convert 52 9 (.slice pp t.size cap)).run Tryz.prog w'=.ok (.string t) w'/\Below W.heap.size W w') (first|(exact HK.out _ (by assumption))|(exact HK.out _ G.drew)|(exact HK.out _ (((ad.setCell (p:=⟨W.heap.size,0,none⟩) (ge _) _).setCell (p:=⟨W.heap.size,1,none⟩) (ge _) _).setCell (p:=⟨W.heap.size,2,none⟩) (ge _) _))|go_keep) (first|(go_at_call 30;refine(I.out _).mono ?_;rintro e w2⟨rfl,ac⟩;have ad:=G.drew.trans (ac.mono G.size);have H:=k0.drew.below ac;have g0:=H.cell0;have g1:=H.cell1;have g2:=H.cell2;have f0:=H.frozen 0;have f1:=H.frozen 1;have f2:=H.frozen 2))
  all_goals(
   go_wp2_with fail
   have u:=((H.set0 A).set1 L2).set2 C2;have m0:=u.cell0;have m1:=u.cell1;have m2:=u.cell2;refine Kv (v:=.agg #[.int .i64 A,.int .i64 L2,.int .i64 C2]) (by simp[results,Tryz.f60,go_sem,m0,m1,m2]) rfl ?_;refine⟨rfl,?_⟩;exact((ad.setCell (p:=⟨W.heap.size,0,none⟩) (ge _) _).setCell (p:=⟨W.heap.size,1,none⟩) (ge _) _).setCell (p:=⟨W.heap.size,2,none⟩) (ge _) _)
 ·rw[IO hE]at hA;subst hA;have q1:((E:Int)==102)=false:=by simp;omega
  clear O j1 j2 j3 hE hb hp ah;obtain⟨L,J⟩:∃x,pL s A=x:=⟨_,rfl⟩;obtain⟨C,hC⟩:∃x,pC s A=x:=⟨_,rfl⟩;rw[J]at c7 ⊢;rw[hC]at c8 ⊢;have aj:=ai F;have k0:aZ (W.alloc (.cells #[.int .i64 0,.int .i64 0,.int .i64 0] 33)) W.heap.size 0 0 0:=aZ.new W 0 0 0;have G:Below W.heap.size W (W.alloc (.cells #[.int .i64 0,.int .i64 0,.int .i64 0] 33)):=(gt _ _).alloc (ge _) _;clear F J hC
  go_enter func60,ntmps60
  go_wp2_with fail
  have u:=((k0.set0 A).set1 L).set2 C;have m0:=u.cell0;have m1:=u.cell1;have m2:=u.cell2;refine Kv (v:=.agg #[.int .i64 A,.int .i64 L,.int .i64 C]) (by simp[results,Tryz.f60,go_sem,m0,m1,m2]) rfl ?_;exact⟨rfl,(gt _ _).alloc (ge _) _⟩
