import Derived.Lib.Walk
import Derived.Shelf.RegionOpenPlain
import Derived.RangeFuncOwn
import Derived.Test.YtpdlohfdjiaegaaGreatDoorM17
set_option linter.unusedVariables false
set_option linter.unusedSimpArgs false
set_option maxHeartbeats 2000000
set_option maxRecDepth 100000
namespace Go.Proofs.YtpdlohfdjiaegaaGreatDoor.Lw
open Go.Proofs.YtpdlohfdjiaegaaGreatDoor.Lx
open Go.RowKit
variable {B gb ga:Nat}{w:World}{s:Sp}{st:List Sp}
theorem ixb (l:List UInt8):decide (0<=Lib.indexByte l 10)=decide ((10:UInt8)∈l)/\-1<=Lib.indexByte l 10:=by
 induction l with
 |nil=>exact ⟨rfl,by decide⟩
 |cons b l ih=>
  unfold Lib.indexByte
  by_cases hb:b=10
  ·subst hb;simp
  ·have hb':(b == (10:UInt8))=false:=by simpa using hb
   have hne:¬(10:UInt8)=b:=fun h=>hb h.symm
   rw [hb'];obtain ⟨i1,i2⟩:=ih
   generalize Lib.indexByte l 10=z at *
   by_cases h0:(10:UInt8)∈l
   ·have:0<=z:=by simpa [h0] using i1
    have h1:¬z=-1:=by omega
    simp [h0,hne,h1];omega
   ·have:¬0<=z:=by simpa [h0] using i1
    have h1:z=-1:=by omega
    simp [h0,hne,h1]
theorem fX (s:ByteArray) (w:World) :
  Da 234 #[.string s,.int .u8 10] w fun e w'=>e=.returned (.int .i64 (Lib.indexByte s.data.toList 10))/\w'=w:=by
 go_enter Tryz.func234,Tryz.ntmps234
 go_wp2
 rw [run_callFunc_extern Tryz.func248 (by kernel_rfl) (by kernel_rfl) (by kernel_rfl) (e:=Extern.BytealgIndexByte.indexByte) (by kernel_rfl),Lib.run_indexByteString];simp only [Result.andThen];rw [Oper.upon_value]
 go_wp2
 go_ret
 exact ⟨rfl,rfl⟩
theorem fI (s:ByteArray) (w:World) :
  Da 246 #[.string s,.string ⟨#[10]⟩] w fun e w'=>e=.returned (.int .i64 (Lib.indexByte s.data.toList 10))/\w'=w:=by
 go_enter Tryz.func246,Tryz.ntmps246
 go_wp2_with (go_at_call 234;refine (fX _ _).mono ?_;rintro e w' ⟨rfl,rfl⟩)
 ·have h:([(10:UInt8)] == s.toList)=true:=by assumption
  have e:s.data.toList=[10]:=by rw [<-Lib.toList_data];exact (beq_iff_eq.1 h).symm
  have e2:Lib.indexByte s.data.toList 10=0:=by rw [e];rfl
  go_ret
  exact ⟨by rw [e2];rfl,rfl⟩
 ·go_ret
  exact ⟨rfl,rfl⟩
theorem oQ (s:ByteArray) (w:World) :
  Da 230 #[.string s,.string ⟨#[10]⟩] w fun e w'=>e=.returned (.int .i64 (Lib.indexByte s.data.toList 10))/\w'=w:=by
 go_enter Tryz.func230,Tryz.ntmps230
 go_wp2_with (go_at_call 246;refine (fI _ _).mono ?_;rintro e w' ⟨rfl,rfl⟩)
 go_ret
 exact ⟨rfl,rfl⟩
theorem yK (s:ByteArray) (w:World) :
  Da 195 #[.string s,.string ⟨#[10]⟩] w fun e w'=>e=.returned (.bool (vS s))/\w'=w:=by
 have h:=(ixb s.data.toList).1;unfold vS;rw [<-h];clear h
 go_enter Tryz.func195,Tryz.ntmps195
 go_wp2_with (go_at_call 230;refine (oQ _ _).mono ?_;rintro e w' ⟨rfl,rfl⟩)
 go_ret
 exact ⟨rfl,rfl⟩
def ml (t:ByteArray):Nat:=if vS t then 4097 else (tw t).toNat
theorem om (s:ByteArray) (w:World) (hT:Tab w) (hs:s.size<=2147483647) :
  Da 155 #[.string s] w fun e w'=>e=.returned (.int .i64 (ml s))/\Below w.heap.size w w':=by
 have hb:=kl s;have HT:=gV s w hT hs;have HH:=yK s w;unfold ml
 generalize vS s=b at *
 cases b
 ·obtain ⟨z,hz⟩:∃z:Nat,tw s=z:=⟨(tw s).toNat,by omega⟩;rw [hz] at HT ⊢;clear hb hz hT
  go_enter Tryz.func155,Tryz.ntmps155
  go_wp2_with (first|(go_at_call 195;refine HH.mono ?_;rintro e w1 ⟨rfl,rfl⟩)|(go_at_call 196;refine HT.mono ?_;rintro e w2 ⟨rfl,hb2⟩))
  go_ret
  exact ⟨by simp,hb2⟩
 ·clear hb hT HT
  go_enter Tryz.func155,Tryz.ntmps155
  go_wp2_with (first|(go_at_call 195;refine HH.mono ?_;rintro e w1 ⟨rfl,rfl⟩))
  go_ret
  exact ⟨rfl,Below.refl _ _⟩
def spc (s:Sp):List Value:=[.int .i64 s.all,.int .i64 s.hang]
theorem xI (s:Sp):(spc s).length=2:=rfl
theorem rG (g:Nat) (s:Sp) (c:Nat) (w:World) (hg:w.heap[g]?=some (.cells #[.int .i64 s.all,.int .i64 s.hang] 216 (0,0))) (hs:Sb s) (hc:c<=1000000000) :
  Da 154 #[.pointer (some ⟨g,0,none⟩),.int .i64 c] w fun e w'=>e=.returned (.tuple #[])/\w'.heap[g]?=some (.cells #[.int .i64 (s.wid c).all,.int .i64 (s.wid c).hang] 216 (0,0))/\Kp (fun k=>k=g) w w':=by
 obtain ⟨a,h⟩:=s;obtain ⟨ha,hh⟩:=hs;simp only at ha hh hg;have g0:w.cell? ⟨g,0,none⟩=some (.int .i64 a):=aa hg rfl;have g1:w.cell? ⟨g,1,none⟩=some (.int .i64 h):=aa hg rfl;have f0:w.frozen? ⟨g,0,none⟩=false:=ak hg;have f1:w.frozen? ⟨g,1,none⟩=false:=ak hg
 have HE:Hid (((w.setCell ⟨g,0,none⟩ (.int .i64 (min (a+c) 4097:Nat))).setCell ⟨g,1,none⟩ (.int .i64 (min (h+c) 4097:Nat))).heap[g]?=some (.cells #[.int .i64 (min (a+c) 4097:Nat),.int .i64 (min (h+c) 4097:Nat)] 216 (0,0))/\Kp (fun k=>k=g) w ((w.setCell ⟨g,0,none⟩ (.int .i64 (min (a+c) 4097:Nat))).setCell ⟨g,1,none⟩ (.int .i64 (min (h+c) 4097:Nat)))):=
  ⟨af (af hg 0 _) 1 _,(Kp.set _ _ _ _).trans (Kp.set _ _ _ _)⟩
 simp only [Sp.wid];have e1:((min (a+c) 4097:Nat):Int)=min ((a:Int)+c) 4097:=by omega
 have e2:((min (h+c) 4097:Nat):Int)=min ((h:Int)+c) 4097:=by omega
 rw [e1,e2] at HE ⊢;have hw1:(w.setCell ⟨g,0,none⟩ (.int .i64 (min ((a:Int)+c) 4097))).cell? ⟨g,1,none⟩=some (.int .i64 h):=aa (af hg 0 _) rfl;clear hg
 go_enter Tryz.func154,Tryz.ntmps154
 go_wp2_with fail
 go_end0
 exact ⟨rfl,HE.out⟩
theorem Tryz.info216:(Tryz.prog.info? 216).map (fun i=>(i.zero,i.size,i.bytes))=some (some (.agg #[.int .i64 0,.int .i64 0]),2,16):=by kernel_rfl
structure TL (B:Nat) (w:World) (gb ga:Nat) (s:Sp) (st:List Sp):Prop where
 hb:w.heap[gb]?=some (.cells #[.int .i64 s.all,.int .i64 s.hang] 216 (0,0))
 ha:∃v,w.heap[ga]?=some (.cells #[v] 217 (0,0))/\w.ownsRow 0 216 2 v st.length (aW spc st.reverse)/\∀k,v.ownBlock=some k->B<=k/\k≠gb
theorem TL.ne (h:TL B w gb ga s st):ga≠gb:=by
 obtain ⟨v,h1,_⟩:=h.ha;rintro rfl;have:=h.hb;rw [h1] at this;injection this with e
 injection e with _ e
 exact absurd e (by decide)
theorem TL.sub {B:Nat}{w w':World}{gb ga:Nat}{s s':Sp}{st:List Sp}(h:TL B w gb ga s st) (hk:Kp (fun k=>k=gb) w w') (hb:w'.heap[gb]?=some (.cells #[.int .i64 s'.all,.int .i64 s'.hang] 216 (0,0))):TL B w' gb ga s' st:=by
 have hne:=h.ne;obtain ⟨v,h1,h2,h3⟩:=h.ha;exact ⟨hb,⟨v,hk.blk h1 hne,hk.row h2 (fun k e1 e2=>(h3 k e1).2 e2),h3⟩⟩
theorem TL.below {w':World}(h:TL B w gb ga s st) (hb:Below w.heap.size w w'):TL B w' gb ga s st:=by
 obtain ⟨v,h1,h2,h3⟩:=h.ha;exact ⟨ab h.hb hb,⟨v,ab h1 hb,aO h2 hb,h3⟩⟩
def Sx (B gb ga:Nat) (k:Nat):Prop:=k=gb\/k=ga\/B<=k
end Go.Proofs.YtpdlohfdjiaegaaGreatDoor.Lw
namespace Go.Proofs.YtpdlohfdjiaegaaGreatDoor
open Go.Proofs.YtpdlohfdjiaegaaGreatDoor.Lw
open Go.Proofs.YtpdlohfdjiaegaaGreatDoor.Lx
open Go.RowKit
theorem Kp.wide {S T:Nat->Prop}{w w':World}(h:Kp S w w') (hST:∀k,S k->T k):Kp T w w':=⟨h.os,h.tape,h.output,h.size,fun k hk hT=>h.block k hk (fun hs=>hT (hST k hs))⟩
end Go.Proofs.YtpdlohfdjiaegaaGreatDoor
namespace Go.Proofs.YtpdlohfdjiaegaaGreatDoor.Lw
open Go.Proofs.YtpdlohfdjiaegaaGreatDoor.Lx
open Go.RowKit
variable {w a b w' W:World}{B gb ga sz j:Nat}{s:Sp}{st:List Sp}{l:List Dc}{v:Value}{o:Int}
def Bo (B gb ga:Nat) (w w':World):Prop:=Kp (Sx B gb ga) w w'/\KeepsOthers w w'
theorem Bo.trans {c:World}(h:Bo B gb ga a b) (k:Bo B gb ga b c):Bo B gb ga a c:=⟨h.1.trans k.1,h.2.trans k.2⟩
theorem Bo.size (h:Bo B gb ga a b):a.heap.size<=b.heap.size:=h.1.size
theorem fq (h:Below w.heap.size w w'):KeepsOthers w w':=⟨h.size,fun k o hk _=>(h.block k (ap hk)).trans hk⟩
theorem Bo.of_below {B gb ga:Nat}{w w':World}(h:Below w.heap.size w w'):Bo B gb ga w w':=⟨Kp.of_below h,fq h⟩
theorem fp {S:Nat->Prop}(h:Kp S w w') (hS:∀k,S k->∀o,w.heap[k]?=some o->o.isCells=true):KeepsOthers w w':=
 ⟨h.size,fun k o hk ho=>h.blk hk (fun hs=>by rw [hS k hs o hk] at ho;cases ho)⟩
theorem cM {g:Nat}{cs:Array Value}{T:TypeId}{f:Nat × Nat}(h:w.heap[g]?=some (.cells cs T f)):∀o,w.heap[g]?=some o->o.isCells=true:=by
 intro o ho;rw [h] at ho;cases ho;rfl
theorem eZ (h:TL B w gb ga s st) (hs:Sb s) (c:Nat) (hc:c<=1000000000) (hB:B<=w.heap.size) :
  Da 154 #[.pointer (some ⟨gb,0,none⟩),.int .i64 c] w fun e w'=>e=.returned (.tuple #[])/\TL B w' gb ga (s.wid c) st/\Bo B gb ga w w':=by
 refine (rG gb s c w h.hb hs hc).mono ?_;rintro e w' ⟨rfl,h1,h2⟩;exact ⟨rfl,h.sub h2 h1,h2.wide (fun k e=>.inl e),fp h2 (fun k e=>by subst e;exact cM h.hb)⟩
theorem TL.hang0 (h:TL B w gb ga s st) (hB:B<=w.heap.size):TL B (w.setCell ⟨gb,1,none⟩ (.int .i64 0)) gb ga ⟨s.all,0⟩ st/\Bo B gb ga w (w.setCell ⟨gb,1,none⟩ (.int .i64 0)):=by
 have hk:=Kp.set w gb 1 (.int .i64 0);exact ⟨h.sub hk (af h.hb 1 _),hk.wide (fun k e=>.inl e),fp hk (fun k e=>by subst e;exact cM h.hb)⟩
def TA (B:Nat) (w:World) (gb ga:Nat) (r:Nat × Sp × List Sp) (e:Ending) (w':World):Prop:=e=.returned (.int .i64 r.1)/\TL B w' gb ga r.2.1 r.2.2/\Bo B gb ga w w'
theorem rK (h:TL B w gb ga s st) (hs:Sb s) (hB:B<=w.heap.size) (hT:∀W,Kp (Sx B gb ga) w W->Tab W) (t:ByteArray) (ht:t.size<=65535) :
  Da 153 #[.agg #[.int .u8 1,.string t,.int .i64 0,.int .i64 0,.bool false],.pointer (some ⟨ga,0,none⟩),.pointer (some ⟨gb,0,none⟩)] w fun e w'=>TA B w gb ga (0,s.wid (ml t),st) e w':=by
 have hcb:ml t<=1000000000:=by have:=kl t;unfold ml;split <;> omega
 have HC:Hid (∀W,Bo B gb ga w W->Da 155 #[.string t] W fun e w'=>e=.returned (.int .i64 (ml t))/\Db W w'):=fun W hW=>om t W (hT W hW.1) (by omega)
 have HW:Hid (∀W,Bo B gb ga w W->TL B W gb ga s st->Da 154 #[.pointer (some ⟨gb,0,none⟩),.int .i64 (ml t)] W fun e w'=>e=.returned (.tuple #[])/\TL B w' gb ga (s.wid (ml t)) st/\Bo B gb ga W w'):=fun W hW hL=>eZ hL hs _ hcb (Nat.le_trans hB hW.size)
 have H:Hid (TL B w gb ga s st/\B<=w.heap.size):=⟨h,hB⟩;have HA:Hid (∀o,Bo B gb ga w (w.alloc o)/\TL B (w.alloc o) gb ga s st):=fun o=>⟨Bo.of_below ((Below.refl _ _).alloc (Nat.le_refl _) _),h.below ((Below.refl _ _).alloc (Nat.le_refl _) _)⟩
 clear h hB hT
 generalize ml t=c at *
 go_enter Tryz.func153,Tryz.ntmps153
 go_wp2_with (first|(go_at_call 155;refine (HC.out _ (HA.out _).1).mono ?_;rintro e w1 ⟨rfl,hb1⟩;have H1:Hid (Bo B gb ga w w1/\TL B w1 gb ga s st):=⟨(HA.out _).1.trans (Bo.of_below hb1),(HA.out _).2.below hb1⟩;clear hb1)|(go_at_call 154;refine (HW.out _ H1.out.1 H1.out.2).mono ?_;rintro e w2 ⟨rfl,h2,hb2⟩;have H2:Hid (TL B w2 gb ga (s.wid c) st/\Bo B gb ga w w2):=⟨h2,H1.out.1.trans hb2⟩;clear h2 hb2))
 go_ret
 exact ⟨rfl,H2.out.1,H2.out.2⟩
theorem oK (h:TL B w gb ga s st) (hs:Sb s) (hB:B<=w.heap.size) :
  Da 153 #[.agg #[.int .u8 2,.string ⟨#[]⟩,.int .i64 0,.int .i64 0,.bool false],.pointer (some ⟨ga,0,none⟩),.pointer (some ⟨gb,0,none⟩)] w fun e w'=>TA B w gb ga (0,s.wid 1,st) e w':=by
 have HW:Hid (∀W,Bo B gb ga w W->TL B W gb ga s st->Da 154 #[.pointer (some ⟨gb,0,none⟩),.int .i64 1] W fun e w'=>e=.returned (.tuple #[])/\TL B w' gb ga (s.wid 1) st/\Bo B gb ga W w'):=fun W hW hL=>eZ hL hs 1 (by omega) (Nat.le_trans hB hW.size)
 have HA:Hid (∀o,Bo B gb ga w (w.alloc o)/\TL B (w.alloc o) gb ga s st):=fun o=>⟨Bo.of_below ((Below.refl _ _).alloc (Nat.le_refl _) _),h.below ((Below.refl _ _).alloc (Nat.le_refl _) _)⟩
 clear h hB
 go_enter Tryz.func153,Tryz.ntmps153
 go_wp2_with (first|(go_at_call 154;refine (HW.out _ (HA.out _).1 (HA.out _).2).mono ?_;rintro e w2 ⟨rfl,h2,hb2⟩;have H2:Hid (TL B w2 gb ga (s.wid 1) st/\Bo B gb ga w w2):=⟨h2,(HA.out _).1.trans hb2⟩;clear h2 hb2))
 go_ret
 exact ⟨rfl,H2.out.1,H2.out.2⟩
theorem km (h:TL B w gb ga s st) (hs:Sb s) (hB:B<=w.heap.size) (k:Int) (hk:k=4\/k=5) :
  Da 153 #[.agg #[.int .u8 k,.string ⟨#[]⟩,.int .i64 0,.int .i64 0,.bool false],.pointer (some ⟨ga,0,none⟩),.pointer (some ⟨gb,0,none⟩)] w fun e w'=>TA B w gb ga (0,⟨(s.wid 4097).all,0⟩,st) e w':=by
 have HW:Hid (∀W,Bo B gb ga w W->TL B W gb ga s st->Da 154 #[.pointer (some ⟨gb,0,none⟩),.int .i64 4097] W fun e w'=>e=.returned (.tuple #[])/\TL B w' gb ga (s.wid 4097) st/\Bo B gb ga W w'):=fun W hW hL=>eZ hL hs 4097 (by omega) (Nat.le_trans hB hW.size)
 have HA:Hid (∀o,Bo B gb ga w (w.alloc o)/\TL B (w.alloc o) gb ga s st):=fun o=>⟨Bo.of_below ((Below.refl _ _).alloc (Nat.le_refl _) _),h.below ((Below.refl _ _).alloc (Nat.le_refl _) _)⟩
 have HB:Hid (B<=w.heap.size):=hB;clear h hB
 rcases hk with rfl|rfl
 all_goals
  go_enter Tryz.func153,Tryz.ntmps153
  go_wp2_with (first|(go_at_call 154;refine (HW.out _ (HA.out _).1 (HA.out _).2).mono ?_;rintro e w2 ⟨rfl,h2,hb2⟩;have f1:=ak (k:=1) h2.hb;have c1:=aa (k:=1) h2.hb rfl;have H2:Hid (TL B w2 gb ga (s.wid 4097) st/\Bo B gb ga w w2):=⟨h2,(HA.out _).1.trans hb2⟩;clear h2 hb2))
  go_ret
  have h3:=H2.out.1.hang0 (Nat.le_trans HB.out H2.out.2.size);exact ⟨rfl,h3.1,H2.out.2.trans h3.2⟩
theorem ue (h:TL B w gb ga s st) (hs:Sb s) (hB:B<=w.heap.size) (b:Nat) (hb:b<=1000) :
  Da 153 #[.agg #[.int .u8 3,.string ⟨#[]⟩,.int .i64 b,.int .i64 0,.bool false],.pointer (some ⟨ga,0,none⟩),.pointer (some ⟨gb,0,none⟩)] w fun e w'=>TA B w gb ga ((s.wid b).hang,⟨(s.wid b).all,0⟩,st) e w':=by
 have HW:Hid (∀W,Bo B gb ga w W->TL B W gb ga s st->Da 154 #[.pointer (some ⟨gb,0,none⟩),.int .i64 b] W fun e w'=>e=.returned (.tuple #[])/\TL B w' gb ga (s.wid b) st/\Bo B gb ga W w'):=fun W hW hL=>eZ hL hs b (by omega) (Nat.le_trans hB hW.size)
 have HA:Hid (∀o,Bo B gb ga w (w.alloc o)/\TL B (w.alloc o) gb ga s st):=fun o=>⟨Bo.of_below ((Below.refl _ _).alloc (Nat.le_refl _) _),h.below ((Below.refl _ _).alloc (Nat.le_refl _) _)⟩
 have HB:Hid (B<=w.heap.size):=hB;clear h hB
 go_enter Tryz.func153,Tryz.ntmps153
 go_wp2_with (first|(go_at_call 154;refine (HW.out _ (HA.out _).1 (HA.out _).2).mono ?_;rintro e w2 ⟨rfl,h2,hb2⟩;have f1:=ak (k:=1) h2.hb;have c1:=aa (k:=1) h2.hb rfl;have H2:Hid (TL B w2 gb ga (s.wid b) st/\Bo B gb ga w w2):=⟨h2,(HA.out _).1.trans hb2⟩;clear h2 hb2))
 go_ret
 have h3:=H2.out.1.hang0 (Nat.le_trans HB.out H2.out.2.size);exact ⟨rfl,h3.1,H2.out.2.trans h3.2⟩
theorem qn {β:Type}{enc:β->List Value}(hsz:∀x,(enc x).length=sz) {w:World}{e:Nat}{v:Value}{r:List β}{x:β}(h:w.ownsRow 0 e sz v (x :: r).length (aW enc (x :: r).reverse)) :
  ∃b cap,v=.slice (some ⟨b,0,none⟩) (r.length+1) cap/\r.length+1<=cap/\cap<=maxLen/\w.ownsRow 0 e sz (.slice (some ⟨b,0,none⟩) r.length cap) r.length (aW enc r.reverse)/\(∀j u,(enc x)[j]?=some u->w.cell? ⟨b,r.length*sz+j,none⟩=some u)/\∃cur,w.heap[b]?=some (.cells cur e (0,0)):=by
 have hcs:=fun b hb=>h.cells (g:=b) hb
 rcases h.2 with ⟨h1,h2⟩|⟨b,cap,cur,rfl,h2,h3,h4,h5,h6,h7⟩
 ·simp at h2
 ·have hr:(x :: r).reverse=r.reverse++[x]:=by simp
  rw [hr] at h7;refine ⟨b,cap,rfl,h4,h5,⟨?_,.inr ⟨b,cap,cur,rfl,h2,h3,?_,h5,h6,?_⟩⟩,?_,cur,h3⟩
  ·rw [dQ enc sz hsz,List.length_reverse]
  ·simp at h4;omega
  ·have:cur.toList.take (r.length*sz)=(cur.toList.take ((x :: r).length*sz)).take (r.length*sz):=by
    rw [List.take_take,Nat.min_eq_left (Nat.mul_le_mul_right _ (by simp))]
   rw [this,h7,bQ,List.take_append_of_le_length (by rw [dQ enc sz hsz,List.length_reverse];exact Nat.le_refl _),List.take_of_length_le (by rw [dQ enc sz hsz,List.length_reverse];exact Nat.le_refl _)]
  ·intro j u hj
   have h8:(aW enc (x :: r).reverse)[r.length*sz+j]?=some u:=by
    rw [hr];refine aH enc sz hsz _ _ _ x u ?_ hj;rw [List.getElem?_append_right (by simp)];simp
   have:=hcs b rfl _ u h8;rw [Addr.add_lit,Nat.zero_add] at this;exact this
theorem sa {e n k:Nat}{xs:List Value}(h:w.ownsRow 0 e sz v n xs) (hk:v.ownBlock=some k):∀o,w.heap[k]?=some o->o.isCells=true:=by
 rcases h.2 with ⟨rfl,_⟩|⟨b,cap,cur,rfl,_,h3,_⟩
 ·cases hk
 ·cases hk;exact cM h3
theorem TL.push {w2:World}{v2:Value}(h:TL B w gb ga s st) (hW:Below w.heap.size w W) (hB:B<=w.heap.size) (h1:W.heap[ga]?=some (.cells #[v] 217 (0,0))) (h2:∀k,v.ownBlock=some k->B<=k/\k≠gb) (ho:W.ownsRow 0 216 2 v st.length (aW spc st.reverse))
  (ho2:w2.ownsRow 0 216 2 v2 (st.length+1) (aW spc st.reverse++spc s)) (hg:W.grownBy w2 v.ownBlock) (hat:v2.ownBlock=v.ownBlock\/v2.ownBlock=some W.heap.size) :
  TL B (((w2.setCell ⟨ga,0,none⟩ v2).setCell ⟨gb,0,none⟩ (.int .i64 0)).setCell ⟨gb,1,none⟩ (.int .i64 0)) gb ga ⟨0,0⟩ (s :: st)/\Bo B gb ga w (((w2.setCell ⟨ga,0,none⟩ v2).setCell ⟨gb,0,none⟩ (.int .i64 0)).setCell ⟨gb,1,none⟩ (.int .i64 0)):=by
 have hne:=h.ne;have hk:=Kp.of_grown hg;have hgb:=ab h.hb hW;have r1:=aA ho h1 (by decide);have g1:w2.heap[ga]?=some (.cells #[v] 217 (0,0)):=hk.blk h1 (fun e=>r1 e.symm);have g2:w2.heap[gb]?=some (.cells #[.int .i64 s.all,.int .i64 s.hang] 216 (0,0)):=hk.blk hgb (fun e=>(h2 gb e.symm).2 rfl);have r2:=aA ho2 g1 (by decide);have gbl:=ap hgb
 have hv2:∀k,v2.ownBlock=some k->B<=k/\k≠gb:=by
  intro k hk
  rcases hat with e|e
  ·exact h2 k (by rw [<-e];exact hk)
  ·rw [e] at hk;injection hk with hk
   subst hk;exact ⟨Nat.le_trans hB hW.size,by omega⟩
 have k1:=Kp.set w2 ga 0 v2;have k2:=Kp.set (w2.setCell ⟨ga,0,none⟩ v2) gb 0 (.int .i64 0);have k3:=Kp.set ((w2.setCell ⟨ga,0,none⟩ v2).setCell ⟨gb,0,none⟩ (.int .i64 0)) gb 1 (.int .i64 0);refine ⟨⟨?_,⟨v2,?_,?_,hv2⟩⟩,?_⟩
 ·exact af (af (aU g2 (Ne.symm hne) _) 0 _) 1 _
 ·exact aU (aU (af g1 0 _) hne _) hne _
 ·refine k3.row (k2.row (k1.row ?_ (fun k e1 e2=>r2 (by rw [e1,e2]))) (fun k e1 e2=>(hv2 k e1).2 e2)) (fun k e1 e2=>(hv2 k e1).2 e2)
  have:aW spc (s :: st).reverse=aW spc st.reverse++spc s:=by
   rw [List.reverse_cons,bQ];simp [aW]
  rw [this];exact ho2
 ·have b0:Kp (Sx B gb ga) w w2:=(Kp.of_below hW).step hk (fun k _ e=>.inr (.inr (h2 k e.symm).1));refine ⟨((b0.step k1 (fun k _ e=>.inr (.inl e))).step k2 (fun k _ e=>.inl e)).step k3 (fun k _ e=>.inl e),?_⟩;have o1:KeepsOthers W w2:=fp hk (fun k e=>sa ho e.symm);have o2:=fp k1 (fun k e=>by subst e;exact cM g1);have o3:=fp k2 (fun k e=>by subst e;exact cM (aU g2 (Ne.symm hne) _));have o4:=fp k3 (fun k e=>by subst e;exact cM (af (aU g2 (Ne.symm hne) _) 0 _));exact (fq hW).trans (o1.trans (o2.trans (o3.trans o4)))
theorem uc (h:TL B w gb ga s st) (hs:Sb s) (hB:B<=w.heap.size) (hn:st.length<=1000000000) :
  Da 153 #[.agg #[.int .u8 7,.string ⟨#[]⟩,.int .i64 0,.int .i64 0,.bool false],.pointer (some ⟨ga,0,none⟩),.pointer (some ⟨gb,0,none⟩)] w fun e w'=>TA B w gb ga (0,⟨0,0⟩,s :: st) e w':=by
 obtain ⟨i0,hi,hz0,hz1,hz2⟩:=info_parts Tryz.info216;obtain ⟨v,h1,h2,h3⟩:=h.ha;have gal:=ap h1;have gbl:=ap h.hb;have hnab:=h.ne;have a0:w.cell? ⟨ga,0,none⟩=some v:=aa h1 rfl;have b0:w.cell? ⟨gb,0,none⟩=some (.int .i64 s.all):=aa h.hb rfl;have b1:w.cell? ⟨gb,1,none⟩=some (.int .i64 s.hang):=aa h.hb rfl;obtain ⟨p,cap,rfl,_,_⟩:=av h2;have hbW:Below w.heap.size w ((w.alloc (.cells #[.int .u8 7,.string ⟨#[]⟩,.int .i64 0,.int .i64 0,.bool false] 57)).alloc (.cells #[.int .i64 s.all,.int .i64 s.hang] 216)):=((Below.refl _ _).alloc (Nat.le_refl _) _).alloc (by rw [World.size_alloc];omega) _;have hs2:(w.alloc (.cells #[.int .u8 7,.string ⟨#[]⟩,.int .i64 0,.int .i64 0,.bool false] 57)).heap.size=w.heap.size+1:=World.size_alloc _ _
 go_enter Tryz.func153,Tryz.ntmps153
 go_wp2_with (first|(at_builtin;refine wpList_append_own_at (P:=Tryz.prog) (w:=(w.alloc (.cells #[.int .u8 7,.string ⟨#[]⟩,.int .i64 0,.int .i64 0,.bool false] 57)).alloc (.cells #[.int .i64 s.all,.int .i64 s.hang] 216)) rfl _ _ 217 rfl 0 216 i0 (.agg #[.int .i64 0,.int .i64 0]) 2 16 Tryz.underlying217 hi hz0 hz1 hz2 rfl (by decide) _ _ _ rfl (aO h2 hbW) ⟨w.heap.size+1,0,none⟩ 1 1 (spc s) rfl rfl ?c1 ?c2 ?c3 ?c4 ?c5 ?_))
 case c1=>exact eG _ _ _ _ _ hs2.symm
 case c2=>intro u hu;simp [spc] at hu;rcases hu with rfl|rfl <;> rfl
 case c3=>unfold maxLen;omega
 case c4=>omega
 case c5=>omega
 intro v2 w2 ho2 hg2 _ hat;obtain ⟨k1,k2⟩:=h.push hbW hB (ab h1 hbW) h3 (aO h2 hbW) ho2 hg2 (by rw [World.size_alloc,hs2];exact hat);have hk:=Kp.of_grown hg2;have r1:=aA h2 h1 (by decide);have g1:w2.heap[ga]?=some (.cells #[.slice p st.length cap] 217 (0,0)):=hk.blk (ab h1 hbW) (fun e=>r1 e.symm);have g2:w2.heap[gb]?=some (.cells #[.int .i64 s.all,.int .i64 s.hang] 216 (0,0)):=hk.blk (ab h.hb hbW) (fun e=>(h3 gb e.symm).2 rfl);have x0:=aa (k:=0) g1 rfl;have x1:=ak (k:=0) g1;have y0:=aa (k:=0) g2 rfl;have y1:=aa (k:=1) g2 rfl;have y2:=ak (k:=0) g2;have y3:=ak (k:=1) g2;have HE:Hid (TL B (((w2.setCell ⟨ga,0,none⟩ v2).setCell ⟨gb,0,none⟩ (.int .i64 0)).setCell ⟨gb,1,none⟩ (.int .i64 0)) gb ga ⟨0,0⟩ (s :: st)/\Bo B gb ga w (((w2.setCell ⟨ga,0,none⟩ v2).setCell ⟨gb,0,none⟩ (.int .i64 0)).setCell ⟨gb,1,none⟩ (.int .i64 0))):=⟨k1,k2⟩;obtain ⟨p2,cap2,rfl,_,_⟩:=av ho2;clear k1 k2 hk g1 g2 hg2 hat ho2 h h1 h2 h3 hbW r1
 go_wp2_with fail
 go_ret
 exact ⟨rfl,HE.out.1,HE.out.2⟩
theorem TL.pop {x:Sp}{r:List Sp}(h:TL B w gb ga s (x :: r)) (hW:Below w.heap.size w W) (hB:B<=w.heap.size):∃b cap,W.cell? ⟨ga,0,none⟩=some (.slice (some ⟨b,0,none⟩) (r.length+1) cap)/\r.length+1<=cap/\cap<=maxLen/\W.cell? ⟨b,r.length*2,none⟩=some (.int .i64 x.all)/\W.cell? ⟨b,r.length*2+1,none⟩=some (.int .i64 x.hang) /\
  (b≠ga/\b≠gb/\b<w.heap.size) /\
  TL B (((W.setCell ⟨gb,0,none⟩ (.int .i64 x.all)).setCell ⟨gb,1,none⟩ (.int .i64 x.hang)).setCell ⟨ga,0,none⟩ (.slice (some ⟨b,0,none⟩) r.length cap)) gb ga x r/\Bo B gb ga w (((W.setCell ⟨gb,0,none⟩ (.int .i64 x.all)).setCell ⟨gb,1,none⟩ (.int .i64 x.hang)).setCell ⟨ga,0,none⟩ (.slice (some ⟨b,0,none⟩) r.length cap)):=by
 have hne:=h.ne;have hh:=h.below hW;obtain ⟨v,h1,h2,h3⟩:=hh.ha;obtain ⟨b,cap,rfl,c1,c2,c3,c4,cur,c5⟩:=qn xI h2;have r1:=aA h2 h1 (by decide);have hb2:=h3 b rfl
 have hbw:b<w.heap.size:=by
  obtain ⟨v',h1',h2',h3'⟩:=h.ha;have e:=ab h1' hW;rw [h1] at e;injection e with e
  injection e with e _
  have e2:v'=.slice (some ⟨b,0,none⟩) (r.length+1) cap:=by
   have:=congrArg (·[0]?) e
   simpa using this.symm
  subst e2;exact (h2'.lt b rfl).2
 refine ⟨b,cap,aa h1 rfl,c1,c2,c4 0 _ rfl,c4 1 _ rfl,⟨fun e=>r1 (by rw [e];rfl),hb2.2,hbw⟩,⟨?_,⟨.slice (some ⟨b,0,none⟩) r.length cap,?_,?_,fun k hk=>by cases hk;exact hb2⟩⟩,?_⟩
 ·exact aU (af (af hh.hb 0 _) 1 _) (Ne.symm hne) _
 ·exact af (aU (aU h1 hne _) hne _) 0 _
 ·refine (Kp.set _ ga 0 _).row ((Kp.set _ gb 1 _).row ((Kp.set _ gb 0 _).row c3 ?_) ?_) ?_
  ·intro k e1 e2;cases e1;exact hb2.2 e2
  ·intro k e1 e2;cases e1;exact hb2.2 e2
  ·intro k e1 e2;cases e1;exact r1 (by rw [<-e2];rfl)
 ·refine ⟨(((Kp.of_below hW).step (Kp.set W gb 0 _) (fun k _ e=>.inl e)).step (Kp.set _ gb 1 _) (fun k _ e=>.inl e)).step (Kp.set _ ga 0 _) (fun k _ e=>.inr (.inl e)),?_⟩;have o2:=fp (Kp.set W gb 0 (.int .i64 x.all)) (fun k e=>by subst e;exact cM hh.hb);have o3:=fp (Kp.set (W.setCell ⟨gb,0,none⟩ (.int .i64 x.all)) gb 1 (.int .i64 x.hang)) (fun k e=>by subst e;exact cM (af hh.hb 0 _));have o4:=fp (Kp.set ((W.setCell ⟨gb,0,none⟩ (.int .i64 x.all)).setCell ⟨gb,1,none⟩ (.int .i64 x.hang)) ga 0 (.slice (some ⟨b,0,none⟩) r.length cap)) (fun k e=>by subst e;exact cM (aU (aU h1 hne _) hne _));exact (fq hW).trans (o2.trans (o3.trans o4))
theorem gF {d:Dc}(hj:l[j]?=some d):frm o j (l.drop j)=if rt d=true/\0<=o+dep d.k then frm (o+dep d.k) (j+1) (l.drop (j+1)) else some j:=by
 obtain ⟨h1,h2⟩:=List.getElem?_eq_some_iff.1 hj;rw [List.drop_eq_getElem_cons h1,h2];rfl
theorem qW (hj:l.length<=j):frm o j (l.drop j)=if 0<o then some j else none:=by
 rw [List.drop_eq_nil_of_le hj];rfl
def ckr:Option Nat->Int × Int
 |some j=>(70,(j:Int))
 |none=>(0,0)
theorem wI (h:¬2097152<l.length):chk l=ckr (frm 0 0 l):=by
 unfold chk;rw [if_neg h];cases frm 0 0 l <;> rfl
theorem tJ (ao:Option Addr) (l:List Dc) (cap:Nat) (w:World) (hL:Lay w ao l) (hn:l.length<=9223372036854775807) :
  Da 152 #[.slice ao l.length cap] w fun e w'=>e=.returned (.tuple #[.int .i64 (chk l).1,.int .i64 (chk l).2])/\Below w.heap.size w w':=by
 by_cases hm:2097152<l.length
 ·have q0:(2097152:Int)<l.length:=by omega
  have HC:Hid (chk l=(2,0)):=by show _=_;unfold chk;rw [if_pos hm]
  go_enter Tryz.func152,Tryz.ntmps152
  go_wp2_with fail
  go_ret2
  rw [HC.out];exact ⟨rfl,Below.refl _ _⟩
 have q0:¬(2097152:Int)<l.length:=by omega
 have HC:Hid (chk l=ckr (frm 0 0 l)):=wI hm;have HL:Hid (Lay w ao l):=hL;clear hL
 go_enter Tryz.func152,Tryz.ntmps152
 go_wp2_with fail
 go_loopw [4,12] (fun o j wr=>∃(k:Nat) (z:Int),k<=l.length/\o=.int .i64 z/\j=.int .i64 k/\0<=z/\z<=k/\Hid (frm z k (l.drop k)=frm 0 0 l/\Below w.heap.size w wr)) (fun _ j _=>l.length-(intOf j).toNat)
 case atStart=>exact ⟨0,0,by omega,rfl,rfl,by omega,by omega,rfl,Below.refl _ _⟩
 case round=>
  obtain ⟨k,z,hk,rfl,rfl,hz0,hz1,HI⟩:=hrel
  by_cases hlt:k<l.length
  ·have q1:(k:Int)<l.length:=by omega
   obtain ⟨d,hd⟩:∃d,l[k]?=some d:=⟨_,List.getElem?_eq_getElem hlt⟩;obtain ⟨ht,b,off,rfl,c0,c1,c2,c3,c4⟩:=(HL.out.below HI.out.2) k d hd
   have HS:Hid ((if rt d=true/\0<=z+dep d.k then frm (z+dep d.k) (k+1) (l.drop (k+1)) else some k)=frm 0 0 l):=by
    show _=_;rw [<-gF hd];exact HI.out.1
   have HB:Hid (Db w wr):=HI.out.2;have HR:Hid (∀W,Da 194 #[d.v] W fun x w'=>x=.returned (.bool (rt d))/\Db W w'):=fun W=>sm d ht W
   clear HI hd;obtain ⟨dk,dt,db,di,de⟩:=d;simp only [Dc.v] at HR;simp only at c0 c1 c2 c3 c4 HS ht
   generalize rt ⟨dk,dt,db,di,de⟩=r at *
   have HX:Hid (r=true->0<=z+dep dk->frm (z+dep dk) (k+1) (l.drop (k+1))=frm 0 0 l):=fun h1 h2=>by rw [<-HS.out,if_pos ⟨h1,h2⟩]
   have HY:Hid (¬(r=true/\0<=z+dep dk)->chk l=(70,(k:Int))):=fun h=>by rw [HC.out,<-HS.out,if_neg h];rfl
   clear HS
   have HA:Hid (∀W w1,W=wr.alloc (.cells #[.int .u8 dk,.string dt,.int .i64 db,.int .i64 di,.bool de] 57)->Db W w1->Db w w1):=fun W w1 hW h=>by
    subst hW;exact (HB.out.alloc HB.out.size _).trans (h.mono (by rw [World.size_alloc];have:=HB.out.size;omega))
   by_cases k6:dk=6
   ·subst k6;have e6:z+dep 6=z+1:=rfl;rw [e6] at HX HY;cases r
    ·have HQ:Hid (chk l=(70,(k:Int))):=HY.out (by simp);clear HX HY
     go_wp2_with (go_at_call 194;refine (HR.out _).mono ?_;rintro e w1 ⟨rfl,hb1⟩)
     all_goals (go_ret2;rw [HQ.out];exact ⟨rfl,HA.out _ _ rfl hb1⟩)
    ·have HQ:Hid (frm (z+1) (k+1) (l.drop (k+1))=frm 0 0 l):=HX.out rfl (by omega);clear HX HY
     go_wp2_with (go_at_call 194;refine (HR.out _).mono ?_;rintro e w1 ⟨rfl,hb1⟩)
     exact ⟨⟨k+1,z+1,hlt,by go_num,by go_num,by omega,by omega,HQ.out,HA.out _ _ rfl hb1⟩,by simp [intOf];omega⟩
   by_cases k7:dk=7
   ·subst k7;have e6:z+dep 7=z-1:=rfl;rw [e6] at HX HY
    by_cases hz:0<z
    ·cases r
     ·have HQ:Hid (chk l=(70,(k:Int))):=HY.out (by simp);clear HX HY
      go_wp2_with (go_at_call 194;refine (HR.out _).mono ?_;rintro e w1 ⟨rfl,hb1⟩)
      all_goals (go_ret2;rw [HQ.out];exact ⟨rfl,HA.out _ _ rfl hb1⟩)
     ·have HQ:Hid (frm (z-1) (k+1) (l.drop (k+1))=frm 0 0 l):=HX.out rfl (by omega);clear HX HY
      go_wp2_with (go_at_call 194;refine (HR.out _).mono ?_;rintro e w1 ⟨rfl,hb1⟩)
      exact ⟨⟨k+1,z-1,hlt,by go_num,by go_num,by omega,by omega,HQ.out,HA.out _ _ rfl hb1⟩,by simp [intOf];omega⟩
    ·obtain rfl:z=0:=by omega
     have HQ:Hid (chk l=(70,(k:Int))):=HY.out (by omega);clear HX HY
     go_wp2_with (go_at_call 194;refine (HR.out _).mono ?_;rintro e w1 ⟨rfl,hb1⟩)
     all_goals (go_ret2;rw [HQ.out];exact ⟨rfl,HA.out _ _ rfl (Below.refl _ _)⟩)
   ·have e6:z+dep dk=z:=by simp [dep,k6,k7]
    rw [e6] at HX HY;cases r
    ·have HQ:Hid (chk l=(70,(k:Int))):=HY.out (by simp);clear HX HY
     go_wp2_with (go_at_call 194;refine (HR.out _).mono ?_;rintro e w1 ⟨rfl,hb1⟩)
     all_goals (go_ret2;rw [HQ.out];exact ⟨rfl,HA.out _ _ rfl hb1⟩)
    ·have HQ:Hid (frm z (k+1) (l.drop (k+1))=frm 0 0 l):=HX.out rfl (by omega);clear HX HY
     go_wp2_with (go_at_call 194;refine (HR.out _).mono ?_;rintro e w1 ⟨rfl,hb1⟩)
     exact ⟨⟨k+1,z,hlt,by go_num,by go_num,by omega,by omega,HQ.out,HA.out _ _ rfl hb1⟩,by simp [intOf];omega⟩
  ·obtain rfl:k=l.length:=by omega
   have q1:¬((l.length:Int)<l.length):=by omega
   have he:=HI.out.1;rw [qW (Nat.le_refl _)] at he;have HB:Hid (Db w wr):=HI.out.2
   by_cases hz:0<z
   ·have HQ:Hid (chk l=(70,(l.length:Int))):=by show _=_;rw [HC.out,<-he,if_pos hz];rfl
    clear HI he
    go_wp2_with fail
    go_ret2
    rw [HQ.out];exact ⟨rfl,HB.out⟩
   ·have HQ:Hid (chk l=(0,0)):=by show _=_;rw [HC.out,<-he,if_neg hz];rfl
    clear HI he
    go_wp2_with fail
    go_ret2
    rw [HQ.out];exact ⟨rfl,HB.out⟩
end Go.Proofs.YtpdlohfdjiaegaaGreatDoor.Lw
