import Derived.RangeFuncOwn
import Derived.BigRegion
import Derived.Deep.RegionHeldLaw
import Derived.Test.YthfjlkfeeglfmaaGreatDoorM10
set_option linter.all false
set_option maxHeartbeats 2000000
set_option maxRecDepth 100000
namespace Go.Proofs.YthfjlkfeeglfmaaGreatDoor.Lw
open Go.Proofs.Tryz
open Lx
open Go.RowKit
variable {B gb ga:Nat}{w:World}{s:Sp}{st:List Sp}
def Tryz.info179:(Tryz.prog.info? 179).map (λi=>(i.zero,i.size,i.bytes))=some (some (.agg #[Tu 0,Tu 0]),2,16):=by kernel_rfl
structure TL (B:Nat) (w:World) (gb ga:Nat) (s:Sp) (st:List Sp):Prop where
 hb:w.heap[gb]?=some (.cells #[Tu s.all,Tu s.hang] 179 (0,0))
 ha:∃v,w.heap[ga]?=some (.cells #[v] 180 (0,0))/\w.ownsRow 0 179 2 v st.length (ap IR st.reverse)/\∀k,v.ownBlock=some k->B<=k/\k≠gb
def TL.ne (h:TL B w gb ga s st):ga≠gb:=by
 obtain⟨v,u,_⟩:=h.ha;rintro rfl;have:=h.hb;rw[u]at this;injection this with e
 injection e with _ e
 exact absurd e (by decide)
def TL.sub {B:Nat}{w w':World}{gb ga:Nat}{s s':Sp}{st:List Sp}(h:TL B w gb ga s st) (H:Kp (λk=>k=gb) w w') (Q:w'.heap[gb]?=some (.cells #[Tu s'.all,Tu s'.hang] 179 (0,0))):TL B w' gb ga s' st:=by
 have u:=h.ne;obtain⟨v,M,O,G⟩:=h.ha;exact⟨Q,⟨v,H.blk M u,H.row O (λk I J=>(G k I).2 J),G⟩⟩
def TL.below {w':World}(h:TL B w gb ga s st) (u:Below w.heap.size w w'):TL B w' gb ga s st:=by
 obtain⟨v,G,H,I⟩:=h.ha;exact⟨af h.hb u,⟨v,af G u,aU H u,I⟩⟩
def Sx (B gb ga:Nat) (k:Nat):Prop:=k=gb\/k=ga\/B<=k
end Go.Proofs.YthfjlkfeeglfmaaGreatDoor.Lw
namespace Go.Proofs.YthfjlkfeeglfmaaGreatDoor
open Go.Proofs.Tryz
open Lw
open Lx
open Go.RowKit
def Kp.wide {S T:Nat->Prop}{w w':World}(h:Kp S w w') (u:∀k,S k->T k):Kp T w w':=⟨h.os,h.tape,h.output,h.size,λk H G=>h.block k H (λI=>G (u k I))⟩
end Go.Proofs.YthfjlkfeeglfmaaGreatDoor
namespace Go.Proofs.YthfjlkfeeglfmaaGreatDoor.Lw
open Go.Proofs.Tryz
open Lx
open Go.RowKit
variable {gb ga sz:Nat}{w w':World}{s:Sp}{st:List Sp}{v:Value}
def Bo (B gb ga:Nat) (w w':World):Prop:=Kp (Sx B gb ga) w w'/\KeepsOthers w w'
def Bo.trans {B:Nat}{a b c:World}(h:Bo B gb ga a b) (k:Bo B gb ga b c):Bo B gb ga a c:=⟨h.1.trans k.1,h.2.trans k.2⟩
def Bo.size {B gb ga:Nat}{a b:World}(h:Bo B gb ga a b):a.heap.size<=b.heap.size:=h.1.size
def pd (h:Se w w'):KeepsOthers w w':=⟨h.size,λk o u _=>(h.block k (ai u)).trans u⟩
def Bo.of_below {B gb ga:Nat}{w w':World}(h:Below w.heap.size w w'):Bo B gb ga w w':=⟨Kp.of_below h,pd h⟩
def kD {S:Nat->Prop}(h:Kp S w w') (H:∀k,S k->∀o,w.heap[k]?=some o->o.isCells=true):KeepsOthers w w':=
 ⟨h.size,λk o u G=>h.blk u (λI=>by rw[H k I o u]at G;cases G)⟩
def dV {g:Nat}{cs:Array Value}{T:TypeId}{f:Nat × Nat}(h:w.heap[g]?=some (.cells cs T f)):∀o,w.heap[g]?=some o->o.isCells=true:=by
 intro o u;rw[h]at u;cases u;rfl
def ic {B:Nat}(h:TL B w gb ga s st) (H:Sb s) (c:Nat) (hc:c<=1000000000) (I:B<=w.heap.size) :
  Sa 88 #[.pointer (some (Tw gb 0)),Tu c] w λe w'=>Uk e (.tuple #[])/\TL B w' gb ga (s.wid c) st/\Bo B gb ga w w':=by
 refine(BN gb s c w h.hb H hc).mono ?_;rintro e w'⟨rfl,G,u⟩;exact⟨rfl,h.sub u G,u.wide (λk e=>.inl e),kD u (λk e=>by subst e;exact dV h.hb)⟩
def TL.hang0 {B:Nat}(h:TL B w gb ga s st) (G:B<=w.heap.size):TL B (w.setCell ⟨gb,1,none⟩ (Tu 0)) gb ga ⟨s.all,0⟩ st/\Bo B gb ga w (w.setCell ⟨gb,1,none⟩ (Tu 0)):=by
 have u:=Kp.set w gb 1 (Tu 0);exact⟨h.sub u (ag h.hb 1 _),u.wide (λk e=>.inl e),kD u (λk e=>by subst e;exact dV h.hb)⟩
def TA (B:Nat) (w:World) (gb ga:Nat) (r:Nat × Sp × List Sp) (e:Ending) (w':World):Prop:=e=.returned (Tu r.1)/\TL B w' gb ga r.2.1 r.2.2/\Bo B gb ga w w'
def BT {B:Nat}(h:TL B w gb ga s st) (hs:Sb s) (J:B<=w.heap.size) (S:∀W,Kp (Sx B gb ga) w W->gj W) (t:ByteArray) (ht:t.size<=65535) :
  Sa 87 #[.agg #[.int .u8 1,.string t,Tu 0,Tu 0,.bool false],.pointer (some (Tw ga 0)),.pointer (some (Tw gb 0))] w λe w'=>TA B w gb ga (0,s.wid (tU t),st) e w':=by
 have O:tU t<=1000000000:=by have:=kf t;unfold tU;split<;>omega
 have HC:=aW λW (M:Bo B gb ga w W)=>xj t W (S W M.1) (by omega)
 have HW:=aW λW (M:Bo B gb ga w W) (Z:TL B W gb ga s st)=>ic Z hs _ O (PI J M.size)
 have H:Hid (TL B w gb ga s st/\B<=w.heap.size):=⟨h,J⟩;have I:Hid (∀o,Bo B gb ga w (w.alloc o)/\TL B (w.alloc o) gb ga s st):=λo=>⟨Bo.of_below ((gt _ _).alloc (ge _) _),h.below ((gt _ _).alloc (ge _) _)⟩
 clear h J S;generalize tU t=c at *;go_enter func87,ntmps87
 go_wp2_with(first|(go_at_call 89;refine(HC.out _ (I.out _).1).mono ?_;rintro e Y⟨rfl,u⟩;have G:Hid (Bo B gb ga w Y/\TL B Y gb ga s st):=⟨(I.out _).1.trans (Bo.of_below u),(I.out _).2.below u⟩;clear u)|(go_at_call 88;refine(HW.out _ G.out.1 G.out.2).mono ?_;rintro e w2⟨rfl,h2,hb2⟩;have Q:Hid (TL B w2 gb ga (s.wid c) st/\Bo B gb ga w w2):=⟨h2,G.out.1.trans hb2⟩;clear h2 hb2))
 go_ret;exact⟨rfl,Q.out.1,Q.out.2⟩
def xP {B:Nat}(h:TL B w gb ga s st) (Q:Sb s) (J:B<=w.heap.size) :
  Sa 87 #[.agg #[.int .u8 2,.string ⟨#[]⟩,Tu 0,Tu 0,.bool false],.pointer (some (Tw ga 0)),.pointer (some (Tw gb 0))] w λe w'=>TA B w gb ga (0,s.wid 1,st) e w':=by
 have HW:=aW λW (O:Bo B gb ga w W) (M:TL B W gb ga s st)=>ic M Q 1 (by omega) (PI J O.size)
 have G:Hid (∀o,Bo B gb ga w (w.alloc o)/\TL B (w.alloc o) gb ga s st):=λo=>⟨Bo.of_below ((gt _ _).alloc (ge _) _),h.below ((gt _ _).alloc (ge _) _)⟩
 clear h J;go_enter func87,ntmps87
 go_wp2_with(first|(go_at_call 88;refine(HW.out _ (G.out _).1 (G.out _).2).mono ?_;rintro e w2⟨rfl,I,u⟩;have H:Hid (TL B w2 gb ga (s.wid 1) st/\Bo B gb ga w w2):=⟨I,(G.out _).1.trans u⟩;clear I u))
 go_ret;exact⟨rfl,H.out.1,H.out.2⟩
def qA {B:Nat}(h:TL B w gb ga s st) (Z:Sb s) (J:B<=w.heap.size) (k:Int) (Y:k=4\/k=5) :
  Sa 87 #[.agg #[.int .u8 k,.string ⟨#[]⟩,Tu 0,Tu 0,.bool false],.pointer (some (Tw ga 0)),.pointer (some (Tw gb 0))] w λe w'=>TA B w gb ga (0,⟨(s.wid 4097).all,0⟩,st) e w':=by
 have HW:=aW λW (S:Bo B gb ga w W) (Q:TL B W gb ga s st)=>ic Q Z 4097 (by omega) (PI J S.size)
 have I:Hid (∀o,Bo B gb ga w (w.alloc o)/\TL B (w.alloc o) gb ga s st):=λo=>⟨Bo.of_below ((gt _ _).alloc (ge _) _),h.below ((gt _ _).alloc (ge _) _)⟩
 have O:=aW J;clear h J
 rcases Y with rfl|rfl
 all_goals
  go_enter func87,ntmps87
  go_wp2_with(first|(go_at_call 88;refine(HW.out _ (I.out _).1 (I.out _).2).mono ?_;rintro e w2⟨rfl,G,u⟩;have f1:=aj (k:=1) G.hb;have c1:=aa (k:=1) G.hb rfl;have H:Hid (TL B w2 gb ga (s.wid 4097) st/\Bo B gb ga w w2):=⟨G,(I.out _).1.trans u⟩;clear G u))
  go_ret;have M:=H.out.1.hang0 (PI O.out H.out.2.size);exact⟨rfl,M.1,H.out.2.trans M.2⟩
def Ej {B:Nat}(h:TL B w gb ga s st) (Y:Sb s) (J:B<=w.heap.size) (b:Nat) (hb:b<=1000) :
  Sa 87 #[.agg #[.int .u8 3,.string ⟨#[]⟩,Tu b,Tu 0,.bool false],.pointer (some (Tw ga 0)),.pointer (some (Tw gb 0))] w λe w'=>TA B w gb ga ((s.wid b).hang,⟨(s.wid b).all,0⟩,st) e w':=by
 have HW:=aW λW (S:Bo B gb ga w W) (Q:TL B W gb ga s st)=>ic Q Y b (by omega) (PI J S.size)
 have I:Hid (∀o,Bo B gb ga w (w.alloc o)/\TL B (w.alloc o) gb ga s st):=λo=>⟨Bo.of_below ((gt _ _).alloc (ge _) _),h.below ((gt _ _).alloc (ge _) _)⟩
 have O:=aW J;clear h J;go_enter func87,ntmps87
 go_wp2_with(first|(go_at_call 88;refine(HW.out _ (I.out _).1 (I.out _).2).mono ?_;rintro e w2⟨rfl,G,u⟩;have Z:=aj (k:=1) G.hb;have c1:=aa (k:=1) G.hb rfl;have H:Hid (TL B w2 gb ga (s.wid b) st/\Bo B gb ga w w2):=⟨G,(I.out _).1.trans u⟩;clear G u))
 go_ret;have M:=H.out.1.hang0 (PI O.out H.out.2.size);exact⟨rfl,M.1,H.out.2.trans M.2⟩
def si {β:Type}{enc:β->List Value}(hsz:∀x,(enc x).length=sz) {w:World}{e:Nat}{v:Value}{r:List β}{x:β}(h:w.ownsRow 0 e sz v (x :: r).length (ap enc (x :: r).reverse)) :
  ∃b cap,v=.slice (some (Tw b 0)) (r.length+1) cap/\r.length+1<=cap/\cap<=maxLen/\w.ownsRow 0 e sz (.slice (some (Tw b 0)) r.length cap) r.length (ap enc r.reverse)/\(∀j u,(enc x)[j]?=some u->w.cell? ⟨b,r.length*sz+j,none⟩=some u)/\∃G,w.heap[b]?=some (.cells G e (0,0)):=by
 have I:=λb hb=>h.cells (g:=b) hb
 rcases h.2 with⟨h1,H⟩|⟨b,cap,G,rfl,H,J,M,O,Y,Q⟩
 ·simp at H
 ·have S:(x :: r).reverse=r.reverse++[x]:=by simp
  rw[S]at Q;refine⟨b,cap,rfl,M,O,⟨?_,.inr ⟨b,cap,G,rfl,H,J,?_,O,Y,?_⟩⟩,?_,G,J⟩
  ·rw[bD enc sz hsz,TC]
  ·simp at M;omega
  ·have:G.toList.take (r.length*sz)=(G.toList.take ((x :: r).length*sz)).take (r.length*sz):=by
    rw[Vj,Tz (Nat.mul_le_mul_right _ (by simp))]
   rw[this,Q,aT,Tc (by rw[bD enc sz hsz,TC];exact ge _),S5 (by rw[bD enc sz hsz,TC];exact ge _)]
  ·intro j u hj
   have Z:(ap enc (x :: r).reverse)[r.length*sz+j]?=some u:=by
    rw[S];refine aP enc sz hsz _ _ _ x u ?_ hj;rw[UJ (by simp)];simp
   have:=I b rfl _ u Z;rw[S8,R3]at this;exact this
def Ch {e n k:Nat}{xs:List Value}(h:w.ownsRow 0 e sz v n xs) (u:v.ownBlock=some k):∀o,w.heap[k]?=some o->o.isCells=true:=by
 rcases h.2 with⟨rfl,_⟩|⟨b,cap,H,rfl,_,G,_⟩
 ·cases u
 ·cases u;exact dV G
def TL.push {B:Nat}{W w2:World}{H:Value}(h:TL B w gb ga s st) (S:Below w.heap.size w W) (hB:B<=w.heap.size) (h1:W.heap[ga]?=some (.cells #[v] 180 (0,0))) (h2:∀k,v.ownBlock=some k->B<=k/\k≠gb) (ho:W.ownsRow 0 179 2 v st.length (ap IR st.reverse))
  (Q:w2.ownsRow 0 179 2 H (st.length+1) (ap IR st.reverse++IR s)) (hg:W.grownBy w2 v.ownBlock) (aa:H.ownBlock=v.ownBlock\/H.ownBlock=some W.heap.size) :
  TL B (((w2.setCell ⟨ga,0,none⟩ H).setCell ⟨gb,0,none⟩ (Tu 0)).setCell ⟨gb,1,none⟩ (Tu 0)) gb ga ⟨0,0⟩ (s :: st)/\Bo B gb ga w (((w2.setCell ⟨ga,0,none⟩ H).setCell ⟨gb,0,none⟩ (Tu 0)).setCell ⟨gb,1,none⟩ (Tu 0)):=by
 have u:=h.ne;have G:=Kp.of_grown hg;have O:=af h.hb S;have r1:=aF ho h1 (by decide);have Y:w2.heap[ga]?=some (.cells #[v] 180 (0,0)):=G.blk h1 (λe=>r1 e.symm);have Z:w2.heap[gb]?=some (.cells #[Tu s.all,Tu s.hang] 179 (0,0)):=G.blk O (λe=>(h2 gb e.symm).2 rfl);have r2:=aF Q Y (by decide);have ab:=ai O
 have I:∀k,H.ownBlock=some k->B<=k/\k≠gb:=by
  intro k G
  rcases aa with e|e
  ·exact h2 k (by rw[<-e];exact G)
  ·rw[e]at G;injection G with G
   subst G;exact⟨PI hB S.size,by omega⟩
 have k1:=Kp.set w2 ga 0 H;have k2:=Kp.set (w2.setCell ⟨ga,0,none⟩ H) gb 0 (Tu 0);have k3:=Kp.set ((w2.setCell ⟨ga,0,none⟩ H).setCell ⟨gb,0,none⟩ (Tu 0)) gb 1 (Tu 0);refine⟨⟨?_,⟨H,?_,?_,I⟩⟩,?_⟩
 ·exact ag (ag (az Z (T5 u) _) 0 _) 1 _
 ·exact az (az (ag Y 0 _) u _) u _
 ·refine k3.row (k2.row (k1.row ?_ (λk J M=>r2 (by rw[J,M]))) (λk J M=>(I k J).2 M)) (λk J M=>(I k J).2 M)
  have:ap IR (s :: st).reverse=ap IR st.reverse++IR s:=by
   rw[Ts,aT];simp[ap]
  rw[this];exact Q
 ·have b0:Kp (Sx B gb ga) w w2:=(Kp.of_below S).step G (λk _ e=>.inr (.inr (h2 k e.symm).1));refine⟨((b0.step k1 (λk _ e=>.inr (.inl e))).step k2 (λk _ e=>.inl e)).step k3 (λk _ e=>.inl e),?_⟩;have o1:KeepsOthers W w2:=kD G (λk e=>Ch ho e.symm);have o2:=kD k1 (λk e=>by subst e;exact dV Y);have o3:=kD k2 (λk e=>by subst e;exact dV (az Z (T5 u) _));have o4:=kD k3 (λk e=>by subst e;exact dV (ag (az Z (T5 u) _) 0 _));exact(pd S).trans (o1.trans (o2.trans (o3.trans o4)))
def Ei {B:Nat}(h:TL B w gb ga s st) (hs:Sb s) (hB:B<=w.heap.size) (hn:st.length<=1000000000) :
  Sa 87 #[.agg #[.int .u8 7,.string ⟨#[]⟩,Tu 0,Tu 0,.bool false],.pointer (some (Tw ga 0)),.pointer (some (Tw gb 0))] w λe w'=>TA B w gb ga (0,⟨0,0⟩,s :: st) e w':=by
 obtain⟨i0,hi,Y,Z,ab⟩:=Tf Tryz.info179;obtain⟨v,h1,h2,h3⟩:=h.ha;have ad:=ai h1;have ae:=ai h.hb;have ac:=h.ne;have a0:w.cell? (Tw ga 0)=some v:=aa h1 rfl;have b0:w.cell? (Tw gb 0)=some (Tu s.all):=aa h.hb rfl;have b1:w.cell? (Tw gb 1)=some (Tu s.hang):=aa h.hb rfl;obtain⟨p,cap,rfl,_,_⟩:=aG h2;have G:Below w.heap.size w ((w.alloc (.cells #[.int .u8 7,.string ⟨#[]⟩,Tu 0,Tu 0,.bool false] 37)).alloc (.cells #[Tu s.all,Tu s.hang] 179)):=((gt _ _).alloc (ge _) _).alloc (by rw[RT];omega) _;have O:(w.alloc (.cells #[.int .u8 7,.string ⟨#[]⟩,Tu 0,Tu 0,.bool false] 37)).heap.size=w.heap.size+1:=RT _ _;go_enter func87,ntmps87
 go_wp2_with(first|(at_builtin;refine Th (P:=Tryz.prog) (w:=(w.alloc (.cells #[.int .u8 7,.string ⟨#[]⟩,Tu 0,Tu 0,.bool false] 37)).alloc (.cells #[Tu s.all,Tu s.hang] 179)) rfl _ _ 180 rfl 0 179 i0 (.agg #[Tu 0,Tu 0]) 2 16 underlying180 hi Y Z ab rfl (by decide) _ _ _ rfl (aU h2 G) ⟨w.heap.size+1,0,none⟩ 1 1 (IR s) rfl rfl ?c1 ?c2 ?c3 ?c4 ?c5 ?_))
 case c1=>exact na _ _ _ _ _ O.symm
 case c2=>intro u hu;simp[IR]at hu;rcases hu with rfl|rfl<;>rfl
 case c3=>unfold maxLen;omega
 case c4=>omega
 case c5=>omega
 intro v2 w2 I H _ M;obtain⟨k1,k2⟩:=h.push G hB (af h1 G) h3 (aU h2 G) I H (by rw[RT,O];exact M);have S:=Kp.of_grown H;have r1:=aF h2 h1 (by decide);have Q:w2.heap[ga]?=some (.cells #[.slice p st.length cap] 180 (0,0)):=S.blk (af h1 G) (λe=>r1 e.symm);have J:w2.heap[gb]?=some (.cells #[Tu s.all,Tu s.hang] 179 (0,0)):=S.blk (af h.hb G) (λe=>(h3 gb e.symm).2 rfl);have x0:=aa (k:=0) Q rfl;have x1:=aj (k:=0) Q;have y0:=aa (k:=0) J rfl;have y1:=aa (k:=1) J rfl;have y2:=aj (k:=0) J;have y3:=aj (k:=1) J;have HE:Hid (TL B (((w2.setCell ⟨ga,0,none⟩ v2).setCell ⟨gb,0,none⟩ (Tu 0)).setCell ⟨gb,1,none⟩ (Tu 0)) gb ga ⟨0,0⟩ (s :: st)/\Bo B gb ga w (((w2.setCell ⟨ga,0,none⟩ v2).setCell ⟨gb,0,none⟩ (Tu 0)).setCell ⟨gb,1,none⟩ (Tu 0))):=⟨k1,k2⟩;obtain⟨p2,cap2,rfl,_,_⟩:=aG I;clear k1 k2 S Q J H M I h h1 h2 h3 G r1;(go_wp2_with fail);go_ret;exact⟨rfl,HE.out.1,HE.out.2⟩
def TL.pop {B:Nat}{W:World}{x:Sp}{r:List Sp}(h:TL B w gb ga s (x :: r)) (M:Se w W) (hB:B<=w.heap.size):∃b cap,W.cell? (Tw ga 0)=some (.slice (some (Tw b 0)) (r.length+1) cap)/\r.length+1<=cap/\cap<=maxLen/\W.cell? ⟨b,r.length*2,none⟩=some (Tu x.all)/\W.cell? ⟨b,r.length*2+1,none⟩=some (Tu x.hang) /\
  (b≠ga/\b≠gb/\b<w.heap.size) /\
  TL B (((W.setCell ⟨gb,0,none⟩ (Tu x.all)).setCell ⟨gb,1,none⟩ (Tu x.hang)).setCell ⟨ga,0,none⟩ (.slice (some (Tw b 0)) r.length cap)) gb ga x r/\Bo B gb ga w (((W.setCell ⟨gb,0,none⟩ (Tu x.all)).setCell ⟨gb,1,none⟩ (Tu x.hang)).setCell ⟨ga,0,none⟩ (.slice (some (Tw b 0)) r.length cap)):=by
 have u:=h.ne;have O:=h.below M;obtain⟨v,J,Z,h3⟩:=O.ha;obtain⟨b,cap,rfl,c1,c2,c3,c4,cur,c5⟩:=si JI Z;have r1:=aF Z J (by decide);have G:=h3 b rfl
 have Y:b<w.heap.size:=by
  obtain⟨v',Q,S,ab⟩:=h.ha;have e:=af Q M;rw[J]at e;injection e with e
  injection e with e _
  have H:v'=.slice (some (Tw b 0)) (r.length+1) cap:=by
   have:=Sh (·[0]?) e
   simpa using this.symm
  subst H;exact(S.lt b rfl).2
 refine⟨b,cap,aa J rfl,c1,c2,c4 0 _ rfl,c4 1 _ rfl,⟨λe=>r1 (by rw[e];rfl),G.2,Y⟩,⟨?_,⟨.slice (some (Tw b 0)) r.length cap,?_,?_,λk hk=>by cases hk;exact G⟩⟩,?_⟩
 ·exact az (ag (ag O.hb 0 _) 1 _) (T5 u) _
 ·exact ag (az (az J u _) u _) 0 _
 ·refine(Kp.set _ ga 0 _).row ((Kp.set _ gb 1 _).row ((Kp.set _ gb 0 _).row c3 ?_) ?_) ?_
  ·intro k I H;cases I;exact G.2 H
  ·intro k I H;cases I;exact G.2 H
  ·intro k I H;cases I;exact r1 (by rw[<-H];rfl)
 ·refine⟨(((Kp.of_below M).step (Kp.set W gb 0 _) (λk _ e=>.inl e)).step (Kp.set _ gb 1 _) (λk _ e=>.inl e)).step (Kp.set _ ga 0 _) (λk _ e=>.inr (.inl e)),?_⟩;have o2:=kD (Kp.set W gb 0 (Tu x.all)) (λk e=>by subst e;exact dV O.hb);have o3:=kD (Kp.set (W.setCell ⟨gb,0,none⟩ (Tu x.all)) gb 1 (Tu x.hang)) (λk e=>by subst e;exact dV (ag O.hb 0 _));have o4:=kD (Kp.set ((W.setCell ⟨gb,0,none⟩ (Tu x.all)).setCell ⟨gb,1,none⟩ (Tu x.hang)) ga 0 (.slice (some (Tw b 0)) r.length cap)) (λk e=>by subst e;exact dV (az (az J u _) u _));exact(pd M).trans (o2.trans (o3.trans o4))
def Tryz.info76:(Tryz.prog.info? 76).map (λi=>(i.zero,i.size,i.bytes))=some (some (.agg #[Tu 0,.bool false,.bool false]),3,16):=by kernel_rfl
def tZ (b:Bk):List Value:=[Tu b.ind,.bool b.ev,.bool b.ft]
def LI (b:Bk):(tZ b).length=3:=rfl
def Kf (n gs:Nat) (b:Bk) (v:Value) (en:Bool):Array Value:=#[Tu n,.pointer (some ⟨gs,0,none⟩),Tu b.ind,.bool b.ev,.bool b.ft,v,.bool en]
structure PS (B:Nat) (w0:World) (own:Nat->Nat) (W:World) (g gs n:Nat) (p:Pr):Prop where
 en:En own W
 lo:∀k,k<B->own k=0
 bel:Below B w0 W
 hB:B<=w0.heap.size
 sk:SK own 1 W gs p.sk
 pr:∃v,W.heap[g]?=some (.cells (Kf n gs p.bl v p.en) 79 (0,0))/\(W.ownsRow 0 76 3 v p.ar.length (ap tZ p.ar.reverse)/\∀k,v.ownBlock=some k->own k=2)
 lab:own g=2
section
variable {B:Nat} {w0:World} {own:Nat->Nat} {W:World} {g gs n:Nat} {p:Pr}
def PS.c0 (h:PS B w0 own W g gs n p):W.cell? (Tw g 0)=some (Tu n):=by obtain⟨v,u,_⟩:=h.pr;exact aa u rfl
def PS.c1 (h:PS B w0 own W g gs n p):W.cell? (Tw g 1)=some (.pointer (some (Tw gs 0))):=by obtain⟨v,u,_⟩:=h.pr;exact aa u rfl
def PS.c2 (h:PS B w0 own W g gs n p):W.cell? (Tw g 2)=some (Tu p.bl.ind):=by obtain⟨v,u,_⟩:=h.pr;exact aa u rfl
def PS.c3 (h:PS B w0 own W g gs n p):W.cell? (Tw g 3)=some (.bool p.bl.ev):=by obtain⟨v,u,_⟩:=h.pr;exact aa u rfl
def PS.c4 (h:PS B w0 own W g gs n p):W.cell? (Tw g 4)=some (.bool p.bl.ft):=by obtain⟨v,u,_⟩:=h.pr;exact aa u rfl
def PS.c6 (h:PS B w0 own W g gs n p):W.cell? (Tw g 6)=some (.bool p.en):=by obtain⟨v,u,_⟩:=h.pr;exact aa u rfl
def PS.fz (h:PS B w0 own W g gs n p) (k:Nat):W.frozen? (Tw g k)=false:=by obtain⟨v,u,_⟩:=h.pr;exact aj u
def PS.lt (h:PS B w0 own W g gs n p):g<W.heap.size:=by obtain⟨v,u,_⟩:=h.pr;exact ai u
def PS.bl (h:PS B w0 own W g gs n p):B<=W.heap.size:=PI h.hB h.bel.size
def PS.gB (h:PS B w0 own W g gs n p):B<=g:=by
 refine Nat.le_of_not_lt λu=>?_
 have:=h.lo g u;rw[h.lab]at this;cases this
def PS.below (h:PS B w0 own W g gs n p) {W':World}(u:Below W.heap.size W W'):PS B w0 own W' g gs n p:=by
 obtain⟨v,G,H,I⟩:=h.pr;exact⟨h.en.below u,h.lo,h.bel.trans (u.mono h.bl),h.hB,h.sk.below u,⟨v,af G u,aU H u,I⟩,h.lab⟩
def PS.sink (h:PS B w0 own W g gs n p) {W':World}{s':cX}(Q:Ae own 1 W W' gs s'):∃own',PS B w0 own' W' g gs n { p with sk:=s' }/\Sd own own' W W'/\W.heap.size<=W'.heap.size:=by
 obtain⟨own',M,u,O⟩:=Q;obtain⟨v,h1,h2⟩:=h.pr;have G:=ai h1;have I:=h.bl;refine⟨own',⟨M,λk H=>(u.old k (by omega)).trans (h.lo k H),h.bel.trans (u.below I h.lo (by omega)),h.hB,O,⟨v,?_,tm u (by omega) h2⟩,(u.old g G).trans h.lab⟩,λk H J=>⟨u.block k H (by rw[J];omega),(u.old k H).trans J⟩,u.size⟩;exact(u.block g G (by rw[h.lab];omega)).trans h1
def PS.sett (h:PS B w0 own W g gs n p) (b:Bool):PS B w0 own (W.setCell ⟨g,6,none⟩ (.bool b)) g gs n { p with en:=b }/\Sd own own W (W.setCell ⟨g,6,none⟩ (.bool b)):=by
 obtain⟨v,G,H,O⟩:=h.pr;have I:Fr 2 own own W (W.setCell ⟨g,6,none⟩ (.bool b)):=(Fr.refl 2 own W).set' h.lab 6 _;have S:Nf own (W.setCell ⟨g,6,none⟩ (.bool b)):=h.en.nf.below (Kp.set W g 6 _).size;have Y:=aF H G (by decide)
 exact⟨⟨h.en.fr (by omega) S I,h.lo,h.bel.setCell (p:=(Tw g 6)) h.gB _,h.hB,h.sk.kept I (by omega),⟨v,ag G 6 _,(Kp.set W g 6 _).row H (λk J M=>Y (by rw[J,M])),O⟩,h.lab⟩,
  λk Q u=>⟨(Kp.set W g 6 (.bool b)).block k Q (λe=>by subst e;rw[h.lab]at u;cases u),u⟩⟩
end
def qS {B:Nat}{w0:World}{own:Nat->Nat}{W:World}{g gs n:Nat}{p:Pr}(h:PS B w0 own W g gs n p) {U:Nat}(Q:Bp p U) (hU:U<=2147483647) (need:Nat) (aa:need<=1000000) (hn:n<=4096) :
  Sa 46 #[.pointer (some (Tw g 0)),Tu need] W λe w'=>Uk e (.bool (p.fits n need))/\Below W.heap.size W w':=by
 have H:=Q.col;have HC:=aW λV (u:Se W V)=>rA (h.below u).sk (by omega) (by omega)
 have c0:=h.c0;have c1:=h.c1;have Z:=h.lt;have O:Hid (∀V,Se W V->V.cell? (Tw g 0)=some (Tu n)/\V.cell? (Tw g 1)=some (.pointer (some (Tw gs 0)))/\Se W V):=λV u=>⟨(h.below u).c0,(h.below u).c1,u⟩
 have e:p.fits n need=decide ((need:Int)<=(n:Int)-((p.sk.col:Int)+p.sk.wait)):=by
  unfold Pr.fits Pr.at;rw[SZ];omega
 rw[e];obtain⟨z,S⟩:∃z:Nat,p.sk.col+p.sk.wait=z:=⟨_,rfl⟩;have G:(p.sk.col:Int)+p.sk.wait=(z:Int):=by omega
 rw[G]at HC ⊢;have ab:z<=2147483647:=by omega
 have M:IntKind.i64.wrap ((n:Int)-z)=(n:Int)-z:=by rw[Sn];omega
 clear S G H e h Q;go_enter func46,ntmps46;(go_wp2_with fail)
 go_region_held3 (λw'=>w'.cell? (Tw g 0)=some (Tu n)/\w'.cell? (Tw g 1)=some (.pointer (some (Tw gs 0)))/\Below W.heap.size W w') (first|(exact O.out _ (by assumption))|(exact O.out _ (gt _ _).drew)|go_keep) (first|(go_at_call 97;refine(HC.out _ (by first|assumption|exact(gt _ _).drew)).mono ?_;rintro e Y⟨rfl,I⟩;have J:=(by first|exact(gt W.heap.size W).drew.trans (I.mono (ge _))|assumption:Below W.heap.size W Y)))
 all_goals(
  (go_wp2_with fail);go_ret;exact⟨by rw[<-M];rfl,J⟩)
def yU {B:Nat}{w0:World}{own:Nat->Nat}{W:World}{g gs n:Nat}{p:Pr}(h:PS B w0 own W g gs n p) {U:Nat}(H:Bp p U) (J:U<=2147483647) (need:Nat) (G:need<=1000000) (M:n<=4096) :
  Sa 43 #[.pointer (some (Tw g 0)),Tu need] W λe w'=>Uk e (.bool (p.brk n need))/\Se W w':=by
 have I:=qS h H J need G M;have c3:=h.c3;have c4:=h.c4;unfold Pr.brk;generalize p.fits n need=f at *;generalize p.bl.ev=ev at *;generalize p.bl.ft=ft at *;clear h H;cases ev
 ·go_enter func43,ntmps43
  go_wp2_with(go_at_call 46;refine I.mono ?_;rintro e O⟨rfl,u⟩)
  go_ret;exact⟨rfl,u⟩
 ·go_enter func43,ntmps43;(go_wp2_with fail)
  go_ret;exact⟨rfl,gt _ _⟩
def PA (B:Nat) (w0:World) (own:Nat->Nat) (W:World) (g gs n:Nat) (p':Pr) (w':World):Prop:=∃own',PS B w0 own' w' g gs n p'/\Sd own own' W w'/\W.heap.size<=w'.heap.size
def wB {B:Nat}{w0:World}{own:Nat->Nat}{W:World}{g gs n:Nat}{p:Pr}(h:PS B w0 own W g gs n p) {U:Nat}(H:Bp p U) (S:U<=2147483647) (m:Nat) (Y:m<=1000) :
  Sa 42 #[.pointer (some (Tw g 0)),Tu m] W λe w'=>Uk e (.tuple #[])/\PA B w0 own W g gs n (p.hold m) w':=by
 have I:=H.col;have u:=aW (pu h.sk);have c1:=h.c1;unfold Pr.hold;cases G:p.sk.fresh
 ·have J:Hid (Sa 94 #[.pointer (some (Tw gs 0)),Tu m] W λe w'=>Uk e (Tu 0)/\PA B w0 own W g gs n { p with sk:=p.sk.blanks m } w'):=by
   refine(rD h.sk h.en (by omega) m (by omega) (by omega)).mono ?_;rintro e w'⟨rfl,O⟩;exact⟨rfl,h.sink O⟩
  rw[G]at u;clear h H G;go_enter func42,ntmps42
  go_wp2_with(first|(go_at_call 93;refine u.out.mono ?_;rintro e Q⟨rfl,rfl⟩)|(go_at_call 94;refine J.out.mono ?_;rintro e w2⟨rfl,h2⟩))
  go_end0;exact⟨rfl,h2⟩
 ·have M:Hid (PA B w0 own W g gs n p W):=⟨own,h,Sd.refl _ _,ge _⟩;rw[G]at u;clear h H G;go_enter func42,ntmps42
  go_wp2_with(first|(go_at_call 93;refine u.out.mono ?_;rintro e Q⟨rfl,rfl⟩))
  go_end0;exact⟨rfl,M.out⟩
def wO {B:Nat}{w0:World}{own:Nat->Nat}{W:World}{g gs n:Nat}{p:Pr}(h:PS B w0 own W g gs n p) {U:Nat}(G:Bp p U) (hU:U<=2147483647) :
  Sa 44 #[.pointer (some (Tw g 0))] W λe w'=>Uk e (.tuple #[])/\PA B w0 own W g gs n p.endl w':=by
 have S:=G.col;have Z:=G.out;have Y:=G.ind;have H:=aW (pu h.sk);have c1:=h.c1;have c2:=h.c2;have aa:=h.lt;unfold Pr.endl;cases J:p.sk.fresh
 ·have HB:Hid (∀V,V=W.drew->Sa 95 #[.pointer (some (Tw gs 0)),Tu p.bl.ind] V λe w'=>Uk e (Tu 0)/\Hid (PA B w0 own W g gs n { p with sk:=p.sk.feed p.bl.ind } w')/\w'.cell? (Tw g 1)=some (.pointer (some (Tw gs 0)))/\w'.cell? (Tw g 2)=some (Tu p.bl.ind)/\w'.cell? (Tw g 6)=some (.bool p.en)/\w'.frozen? (Tw g 6)=false):=by
   intro V hV;subst hV;have hd:=h.below (gt _ W).drew;refine(AX hd.sk hd.en (by omega) p.bl.ind (by omega) (by omega)).mono ?_;rintro e w'⟨rfl,ha⟩;obtain⟨own',u,M,I⟩:=hd.sink ha;exact⟨rfl,⟨own',u,M,I⟩,u.c1,u.c2,u.c6,u.fz 6⟩
  rw[J]at H;clear h G J;go_enter func44,ntmps44
  go_wp2_with(first|(go_at_call 93;refine H.out.mono ?_;rintro e Q⟨rfl,rfl⟩))
  go_region_held3 (λw'=>w'.cell? (Tw g 1)=some (.pointer (some (Tw gs 0)))/\w'.cell? (Tw g 2)=some (Tu p.bl.ind)) (first|(exact⟨by assumption,by assumption⟩)|(exact⟨c1,c2⟩)|go_keep) (first|(go_at_call 95;refine(HB.out _ rfl).mono ?_;rintro e Q⟨rfl,HP,x1,x2,x6,f6⟩))
  all_goals(
   (go_wp2_with fail);go_end0;obtain⟨own',u,M,I⟩:=HP.out;have O:=u.sett true;exact⟨rfl,own',O.1,M.trans I O.2,PI I (Kp.set _ g 6 (.bool true)).size⟩)
 ·have HE:Hid (PA B w0 own W g gs n p W):=⟨own,h,Sd.refl _ _,ge _⟩;rw[J]at H;clear h G J;go_enter func44,ntmps44
  go_wp2_with(first|(go_at_call 93;refine H.out.mono ?_;rintro e Q⟨rfl,rfl⟩))
  go_end0;exact⟨rfl,HE.out⟩
def PS.box {B:Nat}{w0:World}{own:Nat->Nat}{W:World}{g gs n:Nat}{p:Pr}(h:PS B w0 own W g gs n p) (o:Obj):PS B w0 own (W.alloc o) g gs n p/\(W.alloc o).heap[W.heap.size]?=some o/\own W.heap.size=0/\Sd own own W (W.alloc o)/\W.heap.size<=(W.alloc o).heap.size:=
 ⟨h.below ((gt _ _).alloc (ge _) _),ak _ _,h.en.nf _ (ge _),λk G u=>⟨Below.heap_alloc W o k G,u⟩,by rw[RT];omega⟩
def PA.of {B:Nat}{w0:World}{own:Nat->Nat}{W:World}{g gs n:Nat}{p:Pr}(h:PS B w0 own W g gs n p) (o:Obj) {p':Pr}{w':World}(I:PA B w0 own (W.alloc o) g gs n p' w'):PA B w0 own W g gs n p' w':=by
 obtain⟨own',u,G,H⟩:=I;obtain⟨_,_,_,b1,b2⟩:=h.box o;exact⟨own',u,b1.trans b2 G,PI b2 H⟩
section
variable {B:Nat} {w0:World} {own:Nat->Nat} {W:World} {g gs n:Nat} {p:Pr}
def Fm (h:PS B w0 own W g gs n p) {U:Nat}(J:Bp p U) (hU:U<=2147483647) (need:Nat) (t:ByteArray) (ht:t.size<=65535) :
  Sa 20 #[.pointer (some (Tw g 0)),.agg #[.int .u8 1,.string t,Tu 0,Tu 0,.bool false],Tu need] W λe w'=>Uk e (.tuple #[])/\PA B w0 own W g gs n { p with sk:=p.sk.text t,en:=false } w':=by
 have Y:=J.col;have Z:=J.out;have c1:=h.c1;have ab:=h.lt;obtain⟨W1,u⟩:=ea (W.alloc (.cells #[.int .u8 1,.string t,Tu 0,Tu 0,.bool false] 37));obtain⟨b1,b2,b3,b4,b5⟩:=h.box (.cells #[.int .u8 1,.string t,Tu 0,Tu 0,.bool false] 37);rw[u]at b1 b2 b4 b5;have x1:W1.cell? ⟨W.heap.size,1,none⟩=some (.string t):=aa b2 rfl;have O:=b1.c1
 have HB:Hid (∀V,V=W1.drew->Sa 41 #[.pointer (some (Tw gs 0)),.string t] V λe w'=>Uk e (Tu 0)/\Hid (PA B w0 own W g gs n { p with sk:=p.sk.text t } w')/\w'.cell? (Tw g 1)=some (.pointer (some (Tw gs 0)))/\w'.cell? ⟨W.heap.size,1,none⟩=some (.string t)/\w'.cell? (Tw g 6)=some (.bool p.en)/\w'.frozen? (Tw g 6)=false):=by
  intro V hV;subst hV;have hd:=b1.below (gt _ W1).drew;refine(zB hd.sk hd.en (by omega) t (by omega)).mono ?_;rintro e w'⟨rfl,ha⟩;obtain⟨own',G,H,I⟩:=hd.sink ha;have Q:=H W.heap.size (ai b2) b3;exact⟨rfl,⟨own',G,b4.trans b5 H,PI b5 I⟩,G.c1,aa (Q.1.trans b2) rfl,G.c6,G.fz 6⟩
 have M:=aW u;clear h J b1 b2 b4 b5 u;go_enter func20,ntmps20;(go_wp2_with fail);rw[M.out]
 go_region_held3 (λw'=>w'.cell? (Tw g 1)=some (.pointer (some (Tw gs 0)))/\w'.cell? ⟨W.heap.size,1,none⟩=some (.string t)) (first|(exact⟨by assumption,by assumption⟩)|(exact⟨O,x1⟩)|go_keep) (first|(go_at_call 41;refine(HB.out _ rfl).mono ?_;rintro e w1⟨rfl,HP,y1,y2,y6,f6⟩))
 all_goals(
  (go_wp2_with fail);go_end0;obtain⟨own',G,H,I⟩:=HP.out;have S:=G.sett false;exact⟨rfl,own',S.1,H.trans I S.2,PI I (Kp.set _ g 6 (.bool false)).size⟩)
def Cu (h:PS B w0 own W g gs n p) {U:Nat}(G:Bp p U) (J:U<=2147483647) (need:Nat) :
  Sa 20 #[.pointer (some (Tw g 0)),.agg #[.int .u8 2,.string ⟨#[]⟩,Tu 0,Tu 0,.bool false],Tu need] W λe w'=>Uk e (.tuple #[])/\PA B w0 own W g gs n (p.hold 1) w':=by
 have H:Hid (∀o,Sa 42 #[.pointer (some (Tw g 0)),Tu 1] (W.alloc o) λe w'=>Uk e (.tuple #[])/\PA B w0 own W g gs n (p.hold 1) w'):=λo=>
  (wB (h.box o).1 G J 1 (by omega)).mono λe w' ⟨u,I⟩=>⟨u,PA.of h o I⟩
 clear h G;go_enter func20,ntmps20
 go_wp2_with(go_at_call 42;refine(H.out _).mono ?_;rintro e M⟨rfl,u⟩)
 go_end0;exact⟨rfl,u⟩
def Fo (h:PS B w0 own W g gs n p) {U:Nat}(G:Bp p U) (J:U<=2147483647) (need:Nat) :
  Sa 20 #[.pointer (some (Tw g 0)),.agg #[.int .u8 4,.string ⟨#[]⟩,Tu 0,Tu 0,.bool false],Tu need] W λe w'=>Uk e (.tuple #[])/\PA B w0 own W g gs n p.endl w':=by
 have H:Hid (∀o,Sa 44 #[.pointer (some (Tw g 0))] (W.alloc o) λe w'=>Uk e (.tuple #[])/\PA B w0 own W g gs n p.endl w'):=λo=>
  (wO (h.box o).1 G J).mono λe w' ⟨u,I⟩=>⟨u,PA.of h o I⟩
 clear h G;go_enter func20,ntmps20
 go_wp2_with(go_at_call 44;refine(H.out _).mono ?_;rintro e M⟨rfl,u⟩)
 go_end0;exact⟨rfl,u⟩
def J4 (h:PS B w0 own W g gs n p) {U:Nat}(S:Bp p U) (hU:U<=2147483647) (need:Nat) (ab:need<=1000000) (hn:n<=4096) (m:Nat) (hm:m<=1000) :
  Sa 20 #[.pointer (some (Tw g 0)),.agg #[.int .u8 3,.string ⟨#[]⟩,Tu m,Tu 0,.bool false],Tu need] W λe w'=>Uk e (.tuple #[])/\PA B w0 own W g gs n (if p.brk n need then p.endl else p.hold m) w':=by
 obtain⟨W1,G⟩:=ea (W.alloc (.cells #[.int .u8 3,.string ⟨#[]⟩,Tu m,Tu 0,.bool false] 37));have I:=h.box (.cells #[.int .u8 3,.string ⟨#[]⟩,Tu m,Tu 0,.bool false] 37)
 have M:∀V,Se W1 V->PS B w0 own V g gs n p/\Sd own own W V/\W.heap.size<=V.heap.size:=by
  intro V H;obtain⟨b1,b2,b3,b4,b5⟩:=I;rw[G]at b1 b4 b5;exact⟨b1.below H,b4.trans b5 (λk hk h0=>⟨H.block k hk,h0⟩),PI b5 H.size⟩
 have HK:Hid (Sa 43 #[.pointer (some (Tw g 0)),Tu need] W1 λe w'=>Uk e (.bool (p.brk n need))/\Se W1 w'):=by
  rw[<-G];exact yU I.1 S hU need ab hn
 have x2:∀V,Se W1 V->V.cell? ⟨W.heap.size,2,none⟩=some (Tu m):=λV H=>by
  have b2:=I.2.1;rw[G]at b2;exact aa (af b2 H) rfl
 have HX:=aW x2
 have HH:Hid (∀V,Se W1 V->Sa 42 #[.pointer (some (Tw g 0)),Tu m] V λe w'=>Uk e (.tuple #[])/\PA B w0 own W g gs n (p.hold m) w'):=λV H=>by
  obtain⟨Y,Z,O⟩:=M V H;refine(wB Y S hU m hm).mono ?_;rintro e w'⟨rfl,own',d1,d2,d3⟩;exact⟨rfl,own',d1,Z.trans O d2,PI O d3⟩
 have HE:Hid (∀V,Se W1 V->Sa 44 #[.pointer (some (Tw g 0))] V λe w'=>Uk e (.tuple #[])/\PA B w0 own W g gs n p.endl w'):=λV H=>by
  obtain⟨Y,Z,O⟩:=M V H;refine(wO Y S hU).mono ?_;rintro e w'⟨rfl,own',d1,d2,d3⟩;exact⟨rfl,own',d1,Z.trans O d2,PI O d3⟩
 have Q:=aW G;clear I M x2 h S G;generalize p.brk n need=b at *
 cases b
 ·go_enter func20,ntmps20;(go_wp2_with fail)
  rw[Q.out];refine HK.out.mono ?_;rintro e w1⟨rfl,u⟩;have y2:=HX.out _ u;have J:=aW u;clear u
  go_wp2_with(first|(go_at_call 42;refine(HH.out _ J.out).mono ?_;rintro e w2⟨rfl,h2⟩))
  go_end0;exact⟨rfl,h2⟩
 ·go_enter func20,ntmps20;(go_wp2_with fail)
  rw[Q.out];refine HK.out.mono ?_;rintro e w1⟨rfl,u⟩;have J:=aW u;clear u
  go_wp2_with(first|(go_at_call 44;refine(HE.out _ J.out).mono ?_;rintro e w2⟨rfl,h2⟩))
  go_end0;exact⟨rfl,h2⟩
def Ct (h:PS B w0 own W g gs n p) {U:Nat}(Q:Bp p U) (hU:U<=2147483647) (need:Nat) :
  Sa 20 #[.pointer (some (Tw g 0)),.agg #[.int .u8 5,.string ⟨#[]⟩,Tu 0,Tu 0,.bool false],Tu need] W λe w'=>Uk e (.tuple #[])/\PA B w0 own W g gs n (if p.en then { p with sk:=p.sk.empty,en:=false }else p) w':=by
 obtain⟨W1,u⟩:=ea (W.alloc (.cells #[.int .u8 5,.string ⟨#[]⟩,Tu 0,Tu 0,.bool false] 37));obtain⟨b1,b2,b3,b4,b5⟩:=h.box (.cells #[.int .u8 5,.string ⟨#[]⟩,Tu 0,Tu 0,.bool false] 37);have aa:=h.lt;have c6:=h.c6;have c1:=h.c1;rw[u]at b1 b4 b5;have S:=Q.out
 have Y:Hid (Sa 45 #[.pointer (some (Tw gs 0))] W1 λe w'=>Uk e (Tu 0)/\Hid (PA B w0 own W g gs n { p with sk:=p.sk.empty } w')/\w'.cell? (Tw g 6)=some (.bool p.en)/\w'.frozen? (Tw g 6)=false):=by
  refine(wS b1.sk b1.en (by omega) (by omega)).mono ?_;rintro e w'⟨rfl,ha⟩;obtain⟨own',G,J,I⟩:=b1.sink ha;exact⟨rfl,⟨own',G,b4.trans b5 J,PI b5 I⟩,G.c6,G.fz 6⟩
 have Z:Hid (PA B w0 own W g gs n p W1):=⟨own,b1,b4,b5⟩;have H:=aW u;clear b1 b2 b4 b5 h Q u;cases O:p.en
 ·rw[O]at c6;go_enter func20,ntmps20;(go_wp2_with fail);go_end0;rw[H.out];exact⟨rfl,Z.out⟩
 ·rw[O]at c6;go_enter func20,ntmps20;(go_wp2_with fail);rw[H.out];refine Y.out.mono ?_;rintro e w1⟨rfl,HP,y6,f6⟩;(go_wp2_with fail);go_end0;obtain⟨own',G,J,I⟩:=HP.out;have M:=G.sett false;exact⟨rfl,own',M.1,J.trans I M.2,PI I (Kp.set _ g 6 (.bool false)).size⟩
end
section
variable {B:Nat} {w0:World} {own:Nat->Nat} {W:World} {g gs n:Nat} {p:Pr}
def PS.turn (h:PS B w0 own W g gs n p) {own':Nat->Nat}{W':World}{p':Pr}(u:Fr 2 own own' W W') (O:Nf own' W') (J:p'.sk=p.sk)
  (I:∃v,W'.heap[g]?=some (.cells (Kf n gs p'.bl v p'.en) 79 (0,0))/\(W'.ownsRow 0 76 3 v p'.ar.length (ap tZ p'.ar.reverse)/\∀k,v.ownBlock=some k->own' k=2)) :
  PS B w0 own' W' g gs n p'/\Sd own own' W W'/\W.heap.size<=W'.heap.size:=by
 have H:=h.bl;refine⟨⟨h.en.fr (by omega) O u,λk G=>(u.old k (by omega)).trans (h.lo k G),h.bel.trans (u.below H h.lo (by omega)),h.hB,?_,I,(u.old g h.lt).trans h.lab⟩,λk G M=>⟨u.block k G (by rw[M];omega),(u.old k G).trans M⟩,u.size⟩;rw[J];exact h.sk.kept u (by omega)
def PS.push (h:PS B w0 own W g gs n p) {v u:Value}{w2:World}(Y:W.heap[g]?=some (.cells (Kf n gs p.bl v p.en) 79 (0,0))) (h2:W.ownsRow 0 76 3 v p.ar.length (ap tZ p.ar.reverse)) (Z:∀k,v.ownBlock=some k->own k=2)
  (I:w2.ownsRow 0 76 3 u (p.ar.length+1) (ap tZ p.ar.reverse++tZ p.bl)) (hg:W.grownBy w2 v.ownBlock) (Q:u.ownBlock=v.ownBlock\/u.ownBlock=some W.heap.size) :
  (∃own',PS B w0 own' (w2.setCell ⟨g,5,none⟩ u) g gs n { p with ar:=p.bl :: p.ar }/\Sd own own' W (w2.setCell ⟨g,5,none⟩ u)/\W.heap.size<=(w2.setCell ⟨g,5,none⟩ u).heap.size)/\w2.heap[g]?=some (.cells (Kf n gs p.bl v p.en) 79 (0,0)):=by
 have J:=Kp.of_grown hg;have r1:=aF h2 Y (by decide);have O:w2.heap[g]?=some (.cells (Kf n gs p.bl v p.en) 79 (0,0)):=J.blk Y (λe=>r1 e.symm);have r2:=aF I O (by decide);have ks:=Kp.set w2 g 5 u;have S:=λk J=>(I.lt k J).2
 have aa:=h.lt;have G:Kp (λk=>own k=2) W (w2.setCell ⟨g,5,none⟩ u):=((Kp.refl (λk=>own k=2) W).step J (λj _ e=>Z j e.symm)).step ks (λj _ e=>by subst e;exact h.lab);refine⟨⟨λk=>if k<W.heap.size then own k else if u.ownBlock=some k then 2 else 0,h.turn (G.fr (λk _ e=>e) (λk J=>Or J)) ?_ rfl ⟨u,?_,?_,?_⟩⟩,O⟩
 ·intro k H;show(if k<W.heap.size then own k else if u.ownBlock=some k then 2 else 0)=0;have:=G.size;rw[Eq (by omega),Eq];intro e;have h4:=S k e;have h5:=ks.size;omega
 ·exact ag O 5 _
 ·refine ks.row ?_ (λk e1 M=>r2 (by rw[e1,M]))
  have:ap tZ (p.bl :: p.ar).reverse=ap tZ p.ar.reverse++tZ p.bl:=by
   rw[Ts,aT];simp[ap]
  show w2.ownsRow 0 76 3 u (p.ar.length+1) (ap tZ (p.bl :: p.ar).reverse);rw[this];exact I
 ·intro k e;show(if k<W.heap.size then own k else if u.ownBlock=some k then 2 else 0)=2
  by_cases H:k<W.heap.size
  ·rw[Or H]
   rcases Q with M|M
   ·exact Z k (by rw[<-M];exact e)
   ·rw[M]at e;injection e with e;omega
  ·rw[Eq H,Or e]
def PS.setb (h:PS B w0 own W g gs n p) (b:Bk):PS B w0 own (((W.setCell ⟨g,2,none⟩ (Tu b.ind)).setCell ⟨g,3,none⟩ (.bool b.ev)).setCell ⟨g,4,none⟩ (.bool b.ft)) g gs n { p with bl:=b }/\Sd own own W (((W.setCell ⟨g,2,none⟩ (Tu b.ind)).setCell ⟨g,3,none⟩ (.bool b.ev)).setCell ⟨g,4,none⟩ (.bool b.ft))/\W.heap.size<=(((W.setCell ⟨g,2,none⟩ (Tu b.ind)).setCell ⟨g,3,none⟩ (.bool b.ev)).setCell ⟨g,4,none⟩ (.bool b.ft)).heap.size:=by
 obtain⟨v,u,G,M⟩:=h.pr;have O:=aF G u (by decide);have H:=((Kp.set W g 2 (Tu b.ind)).trans (Kp.set _ g 3 (.bool b.ev))).trans (Kp.set _ g 4 (.bool b.ft));refine h.turn ((((Fr.refl 2 own W).set' h.lab 2 _).set' h.lab 3 _).set' h.lab 4 _) (h.en.nf.below H.size) rfl ⟨v,ag (ag (ag u 2 _) 3 _) 4 _,H.row G (λk I J=>O (by rw[I,J])),M⟩
end
def JE {W:World}{O:Array Oper}{o:Oper}{a:Act}{K:Act->World->Prop}{Q:Exit->Act->World->Prop}{E:Prop}(H:o.guard=none) (s x:Operand)
  (ho:o.op=.call { callee:=.builtin .append,args:=#[s,x],argTypes:=#[77,77] }) (v:Value) (l:List Bk) (b:Bk) (hs:a.eval s=v) (hr:W.ownsRow 0 76 3 v l.length (ap tZ l.reverse))
  (g c:Nat) (hx:a.eval x=.slice (some (Tw g 0)) 1 c) (hg:W.heap[g]?=some (.cells #[Tu b.ind,.bool b.ev,.bool b.ft] 76 (0,0))) (hl:l.length<=1000000000)
  (h:∀q cap w',w'.ownsRow 0 76 3 (.slice (some (Tw q 0)) (l.length+1) cap) (l.length+1) (ap tZ l.reverse++tZ b)->W.grownBy w' v.ownBlock->(v.ownBlock=some q\/q=W.heap.size)->K (a.put o.dst (.slice (some (Tw q 0)) (l.length+1) cap)) w') :
  if Region.wanted o (yielded O a.tmps)=true then Oper.wp Tryz.prog o a W K Q else E:=by
 obtain⟨i0,hi,I,J,M⟩:=Tf Tryz.info76;refine Uw W H s x 77 ho 0 76 i0 (.agg #[Tu 0,.bool false,.bool false]) 3 16 underlying77 hi I J M rfl (by decide) v _ _ hs hr (Tw g 0) 1 c (tZ b) hx rfl ?_ ?_ (by omega) (by unfold maxLen;omega) (by omega) (RU _) _ rfl ?_
 ·intro j u G;exact Ta hg j u (by simpa[tZ]using G)
 ·intro u G;simp[tZ]at G;rcases G with rfl|rfl|rfl<;>rfl
 ·intro q cap w' S Y Z _;exact h q cap w' S Y Z
def J5 {B:Nat}{w0:World}{own:Nat->Nat}{W:World}{g gs n:Nat}{p:Pr}(h:PS B w0 own W g gs n p) {U:Nat}(J:Bp p U) (hU:U<=2147483647) (need:Nat) (am:need<=1000000) (hn:n<=4096) (hl:p.ar.length<=1000000000) (m:Nat) (hm:m<=1000) (e:Bool) :
  Sa 20 #[.pointer (some (Tw g 0)),.agg #[.int .u8 6,.string ⟨#[]⟩,Tu 0,Tu m,.bool e],Tu need] W λx w'=>Uk x (.tuple #[])/\PA B w0 own W g gs n { p with ar:=p.bl :: p.ar,bl:=⟨min (p.bl.ind+m) 1000,e,p.fits n need⟩ } w':=by
 obtain⟨W1,Q⟩:=ea (W.alloc (.cells #[.int .u8 6,.string ⟨#[]⟩,Tu 0,Tu m,.bool e] 37));obtain⟨b1,b2,b3,b4,b5⟩:=h.box (.cells #[.int .u8 6,.string ⟨#[]⟩,Tu 0,Tu m,.bool e] 37);rw[Q]at b1 b2 b4 b5;obtain⟨v,h1,h2,h3⟩:=b1.pr;have ax:=b1.lt;have c2:=b1.c2;have c3:=b1.c3;have c4:=b1.c4;have f5:=b1.fz 5;have c5:W1.cell? (Tw g 5)=some v:=aa h1 rfl;have x3:W1.cell? ⟨W.heap.size,3,none⟩=some (Tu m):=aa b2 rfl;have x4:W1.cell? ⟨W.heap.size,4,none⟩=some (.bool e):=aa b2 rfl;obtain⟨pp,cap,rfl,_,_⟩:=aG h2;have Z:=aW Q;have HR:=aW λV (H:Below W1.heap.size W1 V)=>aU h2 H
 have HA:Hid (∀V q u w2,Below W1.heap.size W1 V->w2.ownsRow 0 76 3 (.slice (some (Tw q 0)) (p.ar.length+1) u) (p.ar.length+1) (ap tZ p.ar.reverse++tZ p.bl)->V.grownBy w2 (Value.slice pp p.ar.length cap).ownBlock->((Value.slice pp p.ar.length cap).ownBlock=some q\/q=V.heap.size) ->
   Hid (PA B w0 own W g gs n { p with ar:=p.bl :: p.ar } (w2.setCell ⟨g,5,none⟩ (.slice (some (Tw q 0)) (p.ar.length+1) u))/\(w2.setCell ⟨g,5,none⟩ (.slice (some (Tw q 0)) (p.ar.length+1) u)).heap[W.heap.size]?=some (.cells #[.int .u8 6,.string ⟨#[]⟩,Tu 0,Tu m,.bool e] 37 (0,0)))/\(w2.cell? (Tw g 2)=some (Tu p.bl.ind)/\w2.cell? (Tw g 3)=some (.bool p.bl.ev)/\w2.cell? (Tw g 4)=some (.bool p.bl.ft)/\w2.cell? (Tw g 5)=some (.slice pp p.ar.length cap))/\w2.frozen? (Tw g 5)=false):=by
  intro V q u w2 H a1 a2 a3;have G:=b1.below H;obtain⟨⟨own',d1,d2,O⟩,S⟩:=G.push (af h1 H) (aU h2 H) h3 a1 a2 (by rcases a3 with a|a;exact .inl a.symm;exact .inr (by rw[a];rfl));have hs:Sd own own W1 V:=λk hk h0=>⟨H.block k hk,h0⟩
  have an:=(b4.trans b5 hs).trans (PI b5 H.size) d2;have aq:=hs.trans H.size d2;refine⟨⟨⟨own',d1,an,PI (PI b5 H.size) O⟩,(aq _ (ai b2) b3).1.trans b2⟩,⟨aa S rfl,aa S rfl,aa S rfl,aa S rfl⟩,aj S⟩
 clear Q;go_enter func20,ntmps20;(go_wp2_with fail);rw[Z.out]
 go_region_law (refine JE (by rfl) _ _ (by rfl) _ p.ar p.bl (by rfl) (HR.out _ (by first|exact((gt _ _).alloc (ge _) _).drew|exact((gt _ _).drew).alloc (ge _) _)) W1.heap.size 1 (by rfl) (by first|exact ak _ _|exact ak W1.drew _) hl ?_;intro q u w2 ae ad ac;obtain⟨Y,ah,z5⟩:=HA.out _ _ _ _ (by first|exact((gt _ _).alloc (ge _) _).drew|exact((gt _ _).drew).alloc (ge _) _) ae ad ac;obtain⟨y2,y3,y4,y5⟩:=ah)
 all_goals(
  obtain⟨I,ab⟩:=ea (w2.setCell ⟨g,5,none⟩ (.slice (some (Tw q 0)) (p.ar.length+1) u));obtain⟨⟨own3,d1,d2,O⟩,dx⟩:=Y.out;rw[ab]at d1 d2 O dx ⊢;clear Y ad ac ae y2 y3 y4 y5 z5 ab;have y2:=d1.c2;have ay:I.cell? ⟨W.heap.size,3,none⟩=some (Tu m):=aa dx rfl;have az:I.cell? ⟨W.heap.size,4,none⟩=some (.bool e):=aa dx rfl;have HF:=aW λV (H:Below I.heap.size I V)=>qS (p:={ p with ar:=p.bl :: p.ar }) (d1.below H) ⟨J.out,J.col,J.ind,λb hb=>by rcases Sm.1 hb with rfl|hb;exact J.ind;exact J.ar b hb,J.wt⟩ hU need am hn
  have HE:Hid (∀V,Below I.heap.size I V->PA B w0 own W g gs n { p with ar:=p.bl :: p.ar,bl:=⟨min (p.bl.ind+m) 1000,e,p.fits n need⟩ } (((V.setCell ⟨g,2,none⟩ (Tu (min (p.bl.ind+m) 1000:Nat))).setCell ⟨g,3,none⟩ (.bool e)).setCell ⟨g,4,none⟩ (.bool (p.fits n need)))/\V.cell? (Tw g 2)=some (Tu p.bl.ind)/\V.cell? (Tw g 3)=some (.bool p.bl.ev)/\V.cell? (Tw g 4)=some (.bool p.bl.ft)/\V.frozen? (Tw g 2)=false/\V.frozen? (Tw g 3)=false/\V.frozen? (Tw g 4)=false/\V.cell? ⟨W.heap.size,4,none⟩=some (.bool e)):=by
   intro V H;have G:=d1.below H;obtain⟨k1,k2,k3⟩:=G.setb ⟨min (p.bl.ind+m) 1000,e,p.fits n need⟩;have hs:Sd own3 own3 I V:=λk hk h0=>⟨H.block k hk,h0⟩
   exact⟨⟨own3,k1,(d2.trans O hs).trans (PI O H.size) k2,PI (PI O H.size) k3⟩,G.c2,G.c3,G.c4,G.fz 2,G.fz 3,G.fz 4,aa (af dx H) rfl⟩
  have av:=J.ind;have ag:min ((p.bl.ind:Int)+m) 1000=((min (p.bl.ind+m) 1000:Nat):Int):=by omega
  have aw:g<I.heap.size:=d1.lt;clear d1 d2 O dx h J b1 b2 b3 b4 b5 h1 h2 h3 c2 c3 c4 c5 f5 x3 x4 HA HR Z;obtain⟨M,hM⟩:=ea (min (p.bl.ind+m) 1000);rw[hM]at HE ag;have HM:=aW hM;clear hM;(go_wp2_with fail);go_region
  all_goals(
   (go_wp2_with fail);have au:=(HE.out _ (gt _ I).drew).2;obtain⟨v2,v3,v4,u2,u3,u4,v5⟩:=au
   go_region_with (first|(go_at_call 46;refine(HF.out _ (by first|exact(gt _ _).drew.drew|exact(gt _ _).drew)).mono ?_;rintro e w4⟨rfl,al⟩;obtain⟨HP4,r2,r3,r4,q2,q3,q4,r5⟩:=HE.out _ ((gt _ I).drew.drew.trans (al.mono (ge _)))))
   all_goals(
    (go_wp2_with fail);go_end0;rw[HM.out];exact⟨rfl,HP4⟩)))
