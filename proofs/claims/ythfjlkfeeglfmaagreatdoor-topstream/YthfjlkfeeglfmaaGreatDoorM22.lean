import Derived.ShutString
import Derived.ChangeOld
import Derived.Lib.SmallJoins
import Derived.Carry
import Derived.Deep.Slices
import Derived.Test.YthfjlkfeeglfmaaGreatDoorM20
set_option linter.all false
set_option maxHeartbeats 2000000
namespace Go.Proofs.YthfjlkfeeglfmaaGreatDoor.Lw
open Go.Proofs.Tryz
open Lx
open Go.RowKit
def Rr:Array Value:=#[.bool true,Tu 0,Tu 0,.pointer none,Tu 0,.pointer none,Tu 0,Tu 0,.pointer none,Tu 0,.bool false,.bool false,.slice none 0 0,.bool false]
def wipe (w:World) (g:Nat):World:=(((((((((((((w.setCell ⟨g,0,none⟩ (.bool true)).setCell ⟨g,1,none⟩ (Tu 0)).setCell ⟨g,2,none⟩ (Tu 0)).setCell ⟨g,3,none⟩ (.pointer none)).setCell ⟨g,4,none⟩ (Tu 0)).setCell ⟨g,5,none⟩ (.pointer none)).setCell ⟨g,6,none⟩ (Tu 0)).setCell ⟨g,7,none⟩ (Tu 0)).setCell ⟨g,8,none⟩ (.pointer none)).setCell ⟨g,9,none⟩ (Tu 0)).setCell ⟨g,10,none⟩ (.bool false)).setCell ⟨g,11,none⟩ (.bool false)).setCell ⟨g,12,none⟩ (.slice none 0 0)).setCell ⟨g,13,none⟩ (.bool false)
def D3 (w:World) (g T:Nat) (a0 a1 a2 Z Y S Q O M J I H G u:Value) (h:w.heap[g]?=some (.cells #[a0,a1,a2,Z,Y,S,Q,O,M,J,I,H,G,u] T (0,0))):(wipe w g).heap[g]?=some (.cells Rr T (0,0)):=by
 have h0:(w.setCell ⟨g,0,none⟩ (.bool true)).heap[g]?=some (.cells #[.bool true,a1,a2,Z,Y,S,Q,O,M,J,I,H,G,u] T (0,0)):=ag h 0 _;have h1:((w.setCell ⟨g,0,none⟩ (.bool true)).setCell ⟨g,1,none⟩ (Tu 0)).heap[g]?=some (.cells #[.bool true,Tu 0,a2,Z,Y,S,Q,O,M,J,I,H,G,u] T (0,0)):=ag h0 1 _;have h2:(((w.setCell ⟨g,0,none⟩ (.bool true)).setCell ⟨g,1,none⟩ (Tu 0)).setCell ⟨g,2,none⟩ (Tu 0)).heap[g]?=some (.cells #[.bool true,Tu 0,Tu 0,Z,Y,S,Q,O,M,J,I,H,G,u] T (0,0)):=ag h1 2 _;have h3:((((w.setCell ⟨g,0,none⟩ (.bool true)).setCell ⟨g,1,none⟩ (Tu 0)).setCell ⟨g,2,none⟩ (Tu 0)).setCell ⟨g,3,none⟩ (.pointer none)).heap[g]?=some (.cells #[.bool true,Tu 0,Tu 0,.pointer none,Y,S,Q,O,M,J,I,H,G,u] T (0,0)):=ag h2 3 _;have h4:(((((w.setCell ⟨g,0,none⟩ (.bool true)).setCell ⟨g,1,none⟩ (Tu 0)).setCell ⟨g,2,none⟩ (Tu 0)).setCell ⟨g,3,none⟩ (.pointer none)).setCell ⟨g,4,none⟩ (Tu 0)).heap[g]?=some (.cells #[.bool true,Tu 0,Tu 0,.pointer none,Tu 0,S,Q,O,M,J,I,H,G,u] T (0,0)):=ag h3 4 _;have h5:((((((w.setCell ⟨g,0,none⟩ (.bool true)).setCell ⟨g,1,none⟩ (Tu 0)).setCell ⟨g,2,none⟩ (Tu 0)).setCell ⟨g,3,none⟩ (.pointer none)).setCell ⟨g,4,none⟩ (Tu 0)).setCell ⟨g,5,none⟩ (.pointer none)).heap[g]?=some (.cells #[.bool true,Tu 0,Tu 0,.pointer none,Tu 0,.pointer none,Q,O,M,J,I,H,G,u] T (0,0)):=ag h4 5 _;have h6:(((((((w.setCell ⟨g,0,none⟩ (.bool true)).setCell ⟨g,1,none⟩ (Tu 0)).setCell ⟨g,2,none⟩ (Tu 0)).setCell ⟨g,3,none⟩ (.pointer none)).setCell ⟨g,4,none⟩ (Tu 0)).setCell ⟨g,5,none⟩ (.pointer none)).setCell ⟨g,6,none⟩ (Tu 0)).heap[g]?=some (.cells #[.bool true,Tu 0,Tu 0,.pointer none,Tu 0,.pointer none,Tu 0,O,M,J,I,H,G,u] T (0,0)):=ag h5 6 _;have h7:((((((((w.setCell ⟨g,0,none⟩ (.bool true)).setCell ⟨g,1,none⟩ (Tu 0)).setCell ⟨g,2,none⟩ (Tu 0)).setCell ⟨g,3,none⟩ (.pointer none)).setCell ⟨g,4,none⟩ (Tu 0)).setCell ⟨g,5,none⟩ (.pointer none)).setCell ⟨g,6,none⟩ (Tu 0)).setCell ⟨g,7,none⟩ (Tu 0)).heap[g]?=some (.cells #[.bool true,Tu 0,Tu 0,.pointer none,Tu 0,.pointer none,Tu 0,Tu 0,M,J,I,H,G,u] T (0,0)):=ag h6 7 _;have h8:(((((((((w.setCell ⟨g,0,none⟩ (.bool true)).setCell ⟨g,1,none⟩ (Tu 0)).setCell ⟨g,2,none⟩ (Tu 0)).setCell ⟨g,3,none⟩ (.pointer none)).setCell ⟨g,4,none⟩ (Tu 0)).setCell ⟨g,5,none⟩ (.pointer none)).setCell ⟨g,6,none⟩ (Tu 0)).setCell ⟨g,7,none⟩ (Tu 0)).setCell ⟨g,8,none⟩ (.pointer none)).heap[g]?=some (.cells #[.bool true,Tu 0,Tu 0,.pointer none,Tu 0,.pointer none,Tu 0,Tu 0,.pointer none,J,I,H,G,u] T (0,0)):=ag h7 8 _;have h9:((((((((((w.setCell ⟨g,0,none⟩ (.bool true)).setCell ⟨g,1,none⟩ (Tu 0)).setCell ⟨g,2,none⟩ (Tu 0)).setCell ⟨g,3,none⟩ (.pointer none)).setCell ⟨g,4,none⟩ (Tu 0)).setCell ⟨g,5,none⟩ (.pointer none)).setCell ⟨g,6,none⟩ (Tu 0)).setCell ⟨g,7,none⟩ (Tu 0)).setCell ⟨g,8,none⟩ (.pointer none)).setCell ⟨g,9,none⟩ (Tu 0)).heap[g]?=some (.cells #[.bool true,Tu 0,Tu 0,.pointer none,Tu 0,.pointer none,Tu 0,Tu 0,.pointer none,Tu 0,I,H,G,u] T (0,0)):=ag h8 9 _;have aa:(((((((((((w.setCell ⟨g,0,none⟩ (.bool true)).setCell ⟨g,1,none⟩ (Tu 0)).setCell ⟨g,2,none⟩ (Tu 0)).setCell ⟨g,3,none⟩ (.pointer none)).setCell ⟨g,4,none⟩ (Tu 0)).setCell ⟨g,5,none⟩ (.pointer none)).setCell ⟨g,6,none⟩ (Tu 0)).setCell ⟨g,7,none⟩ (Tu 0)).setCell ⟨g,8,none⟩ (.pointer none)).setCell ⟨g,9,none⟩ (Tu 0)).setCell ⟨g,10,none⟩ (.bool false)).heap[g]?=some (.cells #[.bool true,Tu 0,Tu 0,.pointer none,Tu 0,.pointer none,Tu 0,Tu 0,.pointer none,Tu 0,.bool false,H,G,u] T (0,0)):=ag h9 10 _;have ab:((((((((((((w.setCell ⟨g,0,none⟩ (.bool true)).setCell ⟨g,1,none⟩ (Tu 0)).setCell ⟨g,2,none⟩ (Tu 0)).setCell ⟨g,3,none⟩ (.pointer none)).setCell ⟨g,4,none⟩ (Tu 0)).setCell ⟨g,5,none⟩ (.pointer none)).setCell ⟨g,6,none⟩ (Tu 0)).setCell ⟨g,7,none⟩ (Tu 0)).setCell ⟨g,8,none⟩ (.pointer none)).setCell ⟨g,9,none⟩ (Tu 0)).setCell ⟨g,10,none⟩ (.bool false)).setCell ⟨g,11,none⟩ (.bool false)).heap[g]?=some (.cells #[.bool true,Tu 0,Tu 0,.pointer none,Tu 0,.pointer none,Tu 0,Tu 0,.pointer none,Tu 0,.bool false,.bool false,G,u] T (0,0)):=ag aa 11 _;have ac:(((((((((((((w.setCell ⟨g,0,none⟩ (.bool true)).setCell ⟨g,1,none⟩ (Tu 0)).setCell ⟨g,2,none⟩ (Tu 0)).setCell ⟨g,3,none⟩ (.pointer none)).setCell ⟨g,4,none⟩ (Tu 0)).setCell ⟨g,5,none⟩ (.pointer none)).setCell ⟨g,6,none⟩ (Tu 0)).setCell ⟨g,7,none⟩ (Tu 0)).setCell ⟨g,8,none⟩ (.pointer none)).setCell ⟨g,9,none⟩ (Tu 0)).setCell ⟨g,10,none⟩ (.bool false)).setCell ⟨g,11,none⟩ (.bool false)).setCell ⟨g,12,none⟩ (.slice none 0 0)).heap[g]?=some (.cells #[.bool true,Tu 0,Tu 0,.pointer none,Tu 0,.pointer none,Tu 0,Tu 0,.pointer none,Tu 0,.bool false,.bool false,.slice none 0 0,u] T (0,0)):=ag ab 12 _;have ad:((((((((((((((w.setCell ⟨g,0,none⟩ (.bool true)).setCell ⟨g,1,none⟩ (Tu 0)).setCell ⟨g,2,none⟩ (Tu 0)).setCell ⟨g,3,none⟩ (.pointer none)).setCell ⟨g,4,none⟩ (Tu 0)).setCell ⟨g,5,none⟩ (.pointer none)).setCell ⟨g,6,none⟩ (Tu 0)).setCell ⟨g,7,none⟩ (Tu 0)).setCell ⟨g,8,none⟩ (.pointer none)).setCell ⟨g,9,none⟩ (Tu 0)).setCell ⟨g,10,none⟩ (.bool false)).setCell ⟨g,11,none⟩ (.bool false)).setCell ⟨g,12,none⟩ (.slice none 0 0)).setCell ⟨g,13,none⟩ (.bool false)).heap[g]?=some (.cells #[.bool true,Tu 0,Tu 0,.pointer none,Tu 0,.pointer none,Tu 0,Tu 0,.pointer none,Tu 0,.bool false,.bool false,.slice none 0 0,.bool false] T (0,0)):=ag ac 13 _;exact ad
def Jf {own:Nat->Nat}{w:World}{g:Nat}(h:own g=2):cA (λi=>i=2) own own w (wipe w g):=by
 have M:cA (λi=>i=2) own own w w:=cA.refl _ _ _;have O:=M.trans (cA.set (P:=λi=>i=2) (W:=w) (own:=own) h 0 (.bool true));have Q:=O.trans (cA.set (P:=λi=>i=2) (W:=(w.setCell ⟨g,0,none⟩ (.bool true))) (own:=own) h 1 (Tu 0));have S:=Q.trans (cA.set (P:=λi=>i=2) (W:=((w.setCell ⟨g,0,none⟩ (.bool true)).setCell ⟨g,1,none⟩ (Tu 0))) (own:=own) h 2 (Tu 0));have Y:=S.trans (cA.set (P:=λi=>i=2) (W:=(((w.setCell ⟨g,0,none⟩ (.bool true)).setCell ⟨g,1,none⟩ (Tu 0)).setCell ⟨g,2,none⟩ (Tu 0))) (own:=own) h 3 (.pointer none));have Z:=Y.trans (cA.set (P:=λi=>i=2) (W:=((((w.setCell ⟨g,0,none⟩ (.bool true)).setCell ⟨g,1,none⟩ (Tu 0)).setCell ⟨g,2,none⟩ (Tu 0)).setCell ⟨g,3,none⟩ (.pointer none))) (own:=own) h 4 (Tu 0));have f6:=Z.trans (cA.set (P:=λi=>i=2) (W:=(((((w.setCell ⟨g,0,none⟩ (.bool true)).setCell ⟨g,1,none⟩ (Tu 0)).setCell ⟨g,2,none⟩ (Tu 0)).setCell ⟨g,3,none⟩ (.pointer none)).setCell ⟨g,4,none⟩ (Tu 0))) (own:=own) h 5 (.pointer none));have f7:=f6.trans (cA.set (P:=λi=>i=2) (W:=((((((w.setCell ⟨g,0,none⟩ (.bool true)).setCell ⟨g,1,none⟩ (Tu 0)).setCell ⟨g,2,none⟩ (Tu 0)).setCell ⟨g,3,none⟩ (.pointer none)).setCell ⟨g,4,none⟩ (Tu 0)).setCell ⟨g,5,none⟩ (.pointer none))) (own:=own) h 6 (Tu 0));have f8:=f7.trans (cA.set (P:=λi=>i=2) (W:=(((((((w.setCell ⟨g,0,none⟩ (.bool true)).setCell ⟨g,1,none⟩ (Tu 0)).setCell ⟨g,2,none⟩ (Tu 0)).setCell ⟨g,3,none⟩ (.pointer none)).setCell ⟨g,4,none⟩ (Tu 0)).setCell ⟨g,5,none⟩ (.pointer none)).setCell ⟨g,6,none⟩ (Tu 0))) (own:=own) h 7 (Tu 0));have f9:=f8.trans (cA.set (P:=λi=>i=2) (W:=((((((((w.setCell ⟨g,0,none⟩ (.bool true)).setCell ⟨g,1,none⟩ (Tu 0)).setCell ⟨g,2,none⟩ (Tu 0)).setCell ⟨g,3,none⟩ (.pointer none)).setCell ⟨g,4,none⟩ (Tu 0)).setCell ⟨g,5,none⟩ (.pointer none)).setCell ⟨g,6,none⟩ (Tu 0)).setCell ⟨g,7,none⟩ (Tu 0))) (own:=own) h 8 (.pointer none));have u:=f9.trans (cA.set (P:=λi=>i=2) (W:=(((((((((w.setCell ⟨g,0,none⟩ (.bool true)).setCell ⟨g,1,none⟩ (Tu 0)).setCell ⟨g,2,none⟩ (Tu 0)).setCell ⟨g,3,none⟩ (.pointer none)).setCell ⟨g,4,none⟩ (Tu 0)).setCell ⟨g,5,none⟩ (.pointer none)).setCell ⟨g,6,none⟩ (Tu 0)).setCell ⟨g,7,none⟩ (Tu 0)).setCell ⟨g,8,none⟩ (.pointer none))) (own:=own) h 9 (Tu 0));have G:=u.trans (cA.set (P:=λi=>i=2) (W:=((((((((((w.setCell ⟨g,0,none⟩ (.bool true)).setCell ⟨g,1,none⟩ (Tu 0)).setCell ⟨g,2,none⟩ (Tu 0)).setCell ⟨g,3,none⟩ (.pointer none)).setCell ⟨g,4,none⟩ (Tu 0)).setCell ⟨g,5,none⟩ (.pointer none)).setCell ⟨g,6,none⟩ (Tu 0)).setCell ⟨g,7,none⟩ (Tu 0)).setCell ⟨g,8,none⟩ (.pointer none)).setCell ⟨g,9,none⟩ (Tu 0))) (own:=own) h 10 (.bool false));have H:=G.trans (cA.set (P:=λi=>i=2) (W:=(((((((((((w.setCell ⟨g,0,none⟩ (.bool true)).setCell ⟨g,1,none⟩ (Tu 0)).setCell ⟨g,2,none⟩ (Tu 0)).setCell ⟨g,3,none⟩ (.pointer none)).setCell ⟨g,4,none⟩ (Tu 0)).setCell ⟨g,5,none⟩ (.pointer none)).setCell ⟨g,6,none⟩ (Tu 0)).setCell ⟨g,7,none⟩ (Tu 0)).setCell ⟨g,8,none⟩ (.pointer none)).setCell ⟨g,9,none⟩ (Tu 0)).setCell ⟨g,10,none⟩ (.bool false))) (own:=own) h 11 (.bool false));have I:=H.trans (cA.set (P:=λi=>i=2) (W:=((((((((((((w.setCell ⟨g,0,none⟩ (.bool true)).setCell ⟨g,1,none⟩ (Tu 0)).setCell ⟨g,2,none⟩ (Tu 0)).setCell ⟨g,3,none⟩ (.pointer none)).setCell ⟨g,4,none⟩ (Tu 0)).setCell ⟨g,5,none⟩ (.pointer none)).setCell ⟨g,6,none⟩ (Tu 0)).setCell ⟨g,7,none⟩ (Tu 0)).setCell ⟨g,8,none⟩ (.pointer none)).setCell ⟨g,9,none⟩ (Tu 0)).setCell ⟨g,10,none⟩ (.bool false)).setCell ⟨g,11,none⟩ (.bool false))) (own:=own) h 12 (.slice none 0 0));have J:=I.trans (cA.set (P:=λi=>i=2) (W:=(((((((((((((w.setCell ⟨g,0,none⟩ (.bool true)).setCell ⟨g,1,none⟩ (Tu 0)).setCell ⟨g,2,none⟩ (Tu 0)).setCell ⟨g,3,none⟩ (.pointer none)).setCell ⟨g,4,none⟩ (Tu 0)).setCell ⟨g,5,none⟩ (.pointer none)).setCell ⟨g,6,none⟩ (Tu 0)).setCell ⟨g,7,none⟩ (Tu 0)).setCell ⟨g,8,none⟩ (.pointer none)).setCell ⟨g,9,none⟩ (Tu 0)).setCell ⟨g,10,none⟩ (.bool false)).setCell ⟨g,11,none⟩ (.bool false)).setCell ⟨g,12,none⟩ (.slice none 0 0))) (own:=own) h 13 (.bool false));exact J
def uW (g:Nat) (W:World) (h:W.cell? (Tw g 0)=some (.bool true)):Sa 10 #[.pointer (some (Tw g 0))] W λe w'=>Uk e (.tuple #[.string ⟨#[]⟩,Tu 4])/\w'=W:=by
 have u:=aW (lK g true _ h);clear h;go_enter func10,ntmps10;(go_wp2_with fail);refine u.out.mono ?_;rintro e G⟨rfl,rfl⟩;(go_wp2_with fail);go_ret2;exact⟨rfl,rfl⟩
section
variable {own:Nat->Nat} {W:World} {g N gs qh qw:Nat} {v:Value} {csh csw:List (Nat × List Nat)} {c:CS}
def uU (h:ST own W g N gs qh qw v csh csw c) (G:0<c.op):Sa 10 #[.pointer (some (Tw g 0))] W λe w'=>Uk e (.tuple #[.string ⟨#[]⟩,Tu 70])/\w'=W:=by
 have u:=aW (nu h.t9);have c1:=h.c1;have H:(0:Int)<(c.op:Int):=by omega
 clear h;go_enter func10,ntmps10;(go_wp2_with fail);refine u.out.mono ?_;rintro e I⟨rfl,rfl⟩;(go_wp2_with fail);go_ret2;exact⟨rfl,rfl⟩
def T9.wipe {V:World}{c:CS}(h:T9 own W V g N c):∃n gs qh qw tot i ev G v en hc wc o,(V.cell? (Tw g 0)=some (.bool false)/\V.cell? (Tw g 1)=some (Tu o)/\V.cell? (Tw g 2)=some (Tu tot)/\V.cell? (Tw g 3)=some (.pointer qh)/\V.cell? (Tw g 4)=some (Tu hc)/\V.cell? (Tw g 5)=some (.pointer qw)/\V.cell? (Tw g 6)=some (Tu wc)/\V.cell? (Tw g 7)=some (Tu n)/\V.cell? (Tw g 8)=some (.pointer gs)/\V.cell? (Tw g 9)=some (Tu i)/\V.cell? (Tw g 10)=some (.bool ev)/\V.cell? (Tw g 11)=some (.bool G)/\V.cell? (Tw g 12)=some v/\V.cell? (Tw g 13)=some (.bool en))/\V.heap[g]?=some (.cells #[.bool false,Tu o,Tu tot,.pointer qh,Tu hc,.pointer qw,Tu wc,Tu n,.pointer gs,Tu i,.bool ev,.bool G,v,.bool en] 70 (0,0))/\(∃p l k,v=.slice p l k):=by
 obtain⟨o,gs,qh,qw,v,csh,csw,H,I⟩:=h;have u:=H.blk;obtain⟨p,k,e,_,_⟩:=aG H.ar.1;exact⟨_,_,_,_,_,_,_,_,_,_,_,_,_,⟨aa u rfl,aa u rfl,aa u rfl,aa u rfl,aa u rfl,aa u rfl,aa u rfl,aa u rfl,aa u rfl,aa u rfl,aa u rfl,aa u rfl,aa u rfl,aa u rfl⟩,u,p,_,k,e⟩
set_option maxRecDepth 100000 in
def uV (h:ST own W g N gs qh qw v csh csw c) {s:S9}{T C:Nat}{rl:List Nat}(af:c.wl=rl.reverse) (hw:WI c.m c.tot c.hl rl s.wt s.dp) (ad:c.op=s.dp) (h0:s.dp=0) (I:c.pr=eL s.pr) (J:eS s T C) (hT:T<=2147483647) (hC:C<=100000000) (hN:N<=4096)
  {l:List Dc} (Z:od N l s) (aa:Fe s.pr s.wt) :
  Sa 10 #[.pointer (some (Tw g 0))] W λe w'=>Uk e (.tuple #[.string ⟨(s.told (s.close N).1).toArray⟩,Tu 0])/\w'.heap[g]?=some (.cells Rr 70 (0,0))/\∃own',Fz own own' W w':=by
 obtain⟨an,ap,aq⟩:=J.rings hw hC
 have ac:s.close N=(⟨qq N s.pr s.wt,[],s.dp,true⟩,0):=by
  unfold S9.close;rw[Eq (by rw[Z.cl];simp),Eq (by omega)]
 rw[ac]
 have ae:lj s.wt<=1000000000000000:=by
  have h1:=sx s.wt J.rt;obtain⟨U,_,h2,_,Y⟩:=J;omega
 have O:bQ 0 0 l=none:=by
  have:=kL l [] 0 _ 0 Z.op;rw[Sg]at this;rw[this,h0];rfl
 have S:s.pr=fP N l (l.length-s.wt.length):=by
  have:=Z.pr [] (by rw[Sg];exact O);rw[Sg]at this;exact this
 rw[h0]at hw;obtain⟨G,aj⟩:=hw.close
 have hm:∀b∈rl,∃x,c.m b=some x/\(x.d.k=6\/x.d.k=3):=λb J=>by
  obtain⟨x,e1,_,e3,_⟩:=hw.wr.mem b J;exact⟨x,e1,e3⟩
 have HR:Hid (Sa 22 #[.pointer (some (Tw g 0))] W λe w'=>Uk e (Tu 0)/\w'=W):=nu h.t9;have c1:=h.c1;rw[ad,h0]at c1;have al:Hid (Sa 27 #[.pointer (some (Tw g 0)),.int .u8 7] W λx w'=>Uk x (.tuple #[])/\Hid (T9 own W w' g N { c with m:=(aV c.tot 7 c.m rl).1,wl:=(aV c.tot 7 c.m rl).2.reverse })):=uT rl h.t9 af hm (by omega) 7 (by omega);have ag:aV c.tot 7 c.m rl=sett c.tot 7 c.m rl:=by unfold aV;rw[Eq (by omega)]
 have ab:gZ N c.tot (sett c.tot 7 c.m rl).1 s.pr c.hl=(qq N s.pr s.wt,[]):=by
  have:=Bt hN O (tot:=c.tot) c.hl s.wt (l.length-s.wt.length) G (by omega) Z.wt.symm (by rw[<-S];exact aa);rw[<-S]at this;exact this
 have Q:=sJ s.pr.sk.out N c.tot (sett c.tot 7 c.m rl).1 c.hl (eL s.pr);rw[Am,ab]at Q
 have M:eS ⟨eL s.pr,s.wt,s.dp,false⟩ T C:=by
  have:eS ⟨s.pr,s.wt,s.dp,false⟩ T C:=J;exact this.cut
 have ak:Hid (∀V,T9 own W V g N { c with m:=(aV c.tot 7 c.m rl).1,wl:=(aV c.tot 7 c.m rl).2.reverse }->Sa 25 #[.pointer (some (Tw g 0))] V λe w'=>Uk e (.tuple #[])/\Hid (∃c2,T9 own W w' g N c2/\pre s.pr.sk.out c2.pr=qq N s.pr s.wt/\(∃U,Bp c2.pr U/\U<=2147483647))):=λV hV=>by
  rw[ag]at hV;refine(mz hV (G.it ae) (by rw[I];exact M) hT hC hN).mono ?_;rintro e w'⟨rfl,ht⟩;refine⟨rfl,_,ht,?_,?_⟩
  ·simp only[I];exact(Sh Prod.fst Q).symm
  ·simp only[I]
   have hcut:∀(hl:List Nat) (v:List Dc) (p:Pr),HC (sett c.tot 7 c.m rl).1 hl v->eS ⟨p,v,s.dp,false⟩ T C->∃U,Bp (gZ N c.tot (sett c.tot 7 c.m rl).1 p hl).1 U/\U<=2147483647:=by
    intro hl
    induction hl with
    |nil=>
     intro v p _ H;obtain⟨U,u1,u2,_⟩:=H;simp only at u1 u2;exact⟨U,u1,by omega⟩
    |cons b bs ih=>
     intro v p hh H;cases v with
     |nil=>exact hh.elim
     |cons d r=>
      obtain⟨⟨ah,st,e1,e2⟩,e3⟩:=hh;rw[gZ,e1];simp only
      split
      ·exact ih r _ e3 (H.step N _).2.2.2.2
      ·obtain⟨U,u1,u2,_⟩:=H;simp only at u1 u2;exact⟨U,u1,by omega⟩
   exact hcut c.hl s.wt (eL s.pr) G M
 have am:Hid (∀V,(∃c2,T9 own W V g N c2/\pre s.pr.sk.out c2.pr=qq N s.pr s.wt/\(∃U,Bp c2.pr U/\U<=2147483647))->Sa 26 #[.pointer (some (Tw g 7))] V λe w'=>Uk e (.string ⟨((qq N s.pr s.wt).sk.out.drop s.pr.sk.out.length).toArray⟩)/\Hid (∃c',T9 own W w' g N c')):=λV ⟨c2,t1,t5,U,t6,t7⟩=>by
  refine(Ec t1 t6 t7).mono ?_;rintro e w'⟨rfl,ht⟩;refine⟨?_,_,ht⟩;rw[<-t5];have:(pre s.pr.sk.out c2.pr).sk.out=s.pr.sk.out++c2.pr.sk.out:=rfl;rw[this,Vk]
 have ai:Hid (s.told ⟨qq N s.pr s.wt,[],s.dp,true⟩=(qq N s.pr s.wt).sk.out.drop s.pr.sk.out.length):=rfl;clear h hw af ad I J Z aa ac ae O S G aj hm ag ab Q M an ap aq;generalize(qq N s.pr s.wt).sk.out.drop s.pr.sk.out.length=OO at *;go_enter func10,ntmps10;(go_wp2_with fail);refine HR.out.mono ?_;rintro e w1⟨rfl,rfl⟩;(go_wp2_with fail);refine al.out.mono ?_;rintro e w2⟨rfl,H2⟩;(go_wp2_with fail);refine(ak.out _ H2.out).mono ?_;rintro e w3⟨rfl,H3⟩;(go_wp2_with fail);refine(am.out _ H3.out).mono ?_;rintro e w4⟨rfl,H4⟩;obtain⟨c',Y⟩:=H4.out;obtain⟨zn,zgs,zqh,zqw,ztot,zi,zev,zft,zv,zen,zhc,zwc,zo,⟨z0,z1,z2,z3,z4,z5,z6,z7,z8,z9,z10,z11,z12,z13⟩,zb,zp,zl,zk,rfl⟩:=Y.wipe;have u:∀k,w4.frozen? (Tw g k)=false:=Y.cc.2.2.2.2.2.1;have y0:=u 0;have y1:=u 1;have y2:=u 2;have y3:=u 3;have y4:=u 4;have y5:=u 5;have y6:=u 6;have y7:=u 7;have y8:=u 8;have y9:=u 9;have ar:=u 10;have au:=u 11;have av:=u 12;have aw:=u 13;have HB:=gy zb
 have HF:Hid (∃own',Fz own own' w1 w4/\own' g=2):=by
  obtain⟨o',_,_,_,_,_,_,k1,k2⟩:=Y;exact⟨o',k2,k1.lab⟩
 clear u zb Y H4;(go_wp2_with fail);go_ret2;have E1:=D3 w4 g _ _ _ _ _ _ _ _ _ _ _ _ _ _ _ HB.out;obtain⟨o',q1,q2⟩:=HF.out;have E2:Fz own o' w1 (wipe w4 g):=q1.trans ((Jf q2).fz (by omega));exact⟨by rw[ai.out];rfl,E1,o',E2⟩
end
def yx (w:World):Sa 15 #[] w λe w'=>∃q,Uk e (.agg #[.pointer (some (Tw q 0)),Tu 0])/\w.heap.size<=q/\w'.heap[q]?=some (.cells #[Tu 2097152,.slice none 0 0,Tu 0,Tu 0] 177 (0,0))/\Below w.heap.size w w':=by
 have HN:Hid (∀V,Sa 37 #[Tu 2097152] V λe w'=>Uk e (.tuple #[.pointer (some ⟨V.heap.size,0,none⟩),Tu 0])/\w'=V.alloc (.cells #[Tu 2097152,.slice none 0 0,Tu 0,Tu 0] 177)):=λV=>Qy 2097152 V (by omega) (by omega)
 go_enter func15,ntmps15
 go_wp2_with(go_at_call 37;refine(HN.out _).mono ?_;rintro e H⟨rfl,rfl⟩)
 refine R0 (v:=.agg #[.pointer (some ⟨w.heap.size+1,0,none⟩),Tu 0]) (by simp[results,Tryz.f15,go_sem]) rfl ?_;have G:=((gt w.heap.size w).alloc (ge _) (.cells #[.pointer (some ⟨w.heap.size+1,0,none⟩),Tu 0] 59)).alloc (by rw[RT];omega) (.cells #[Tu 2097152,.slice none 0 0,Tu 0,Tu 0] 177);have u:=ak (w.alloc (.cells #[.pointer (some ⟨w.heap.size+1,0,none⟩),Tu 0] 59)) (.cells #[Tu 2097152,.slice none 0 0,Tu 0,Tu 0] 177);rw[RT]at u;exact⟨w.heap.size+1,rfl,by omega,u,G⟩
def vY (n:Int) (w:World):Sa 16 #[Tu n] w λe w'=>∃q,Uk e (.agg #[Tu n,.pointer (some (Tw q 0)),Tu 0,.bool false,.bool false,.slice none 0 0,.bool false])/\w.heap.size<=q/\w'.heap[q]?=some (.cells (sk false 0 0 (.slice none 0 0) (.slice none 0 0)) 120 (0,0))/\Below w.heap.size w w':=by
 have HN:Hid (∀V,Sa 19 #[] V λe w'=>Uk e (.pointer (some ⟨V.heap.size,0,none⟩))/\w'=V.alloc (.cells (sk false 0 0 (.slice none 0 0) (.slice none 0 0)) 120)):=λV=>AC V
 generalize H:sk false 0 0 (.slice none 0 0) (.slice none 0 0)=K at *;go_enter func16,ntmps16
 go_wp2_with(go_at_call 19;refine(HN.out _).mono ?_;rintro e I⟨rfl,rfl⟩)
 refine R0 (v:=.agg #[Tu n,.pointer (some ⟨w.heap.size+1,0,none⟩),Tu 0,.bool false,.bool false,.slice none 0 0,.bool false]) (by simp[results,Tryz.f16,go_sem]) rfl ?_;have G:=((gt w.heap.size w).alloc (ge _) (.cells #[Tu n,.pointer (some ⟨w.heap.size+1,0,none⟩),Tu 0,.bool false,.bool false,.slice none 0 0,.bool false] 67)).alloc (by rw[RT];omega) (.cells K 120);have u:=ak (w.alloc (.cells #[Tu n,.pointer (some ⟨w.heap.size+1,0,none⟩),Tu 0,.bool false,.bool false,.slice none 0 0,.bool false] 67)) (.cells K 120);rw[RT]at u;exact⟨w.heap.size+1,rfl,by omega,u,G⟩
structure MG (R:(Nat->Prop)->World->Nat->Nat->S9->Prop):Prop where
 sub:∀S S' W g N s,R S W g N s->(∀k,k<W.heap.size->S k->S' k)->R S' W g N s
 oth:∀S T W W' g N s,R S W g N s->Kp T W W'->(∀k,k<W.heap.size->S k->¬T k)->R S W' g N s
 bad:∀(n:Int) W,n<1\/4096<n->gj W->Sa 6 #[Tu n] W λe w'=>Uk e (.tuple #[.pointer none,Tu 1])/\Below W.heap.size W w'
 new:∀S (n:Nat) W,1<=n->n<=4096->Nw S W.heap.size->gj W->Sa 6 #[Tu (n:Int)] W λe w'=>∃g,Uk e (.tuple #[.pointer (some ⟨g,0,none⟩),Tu 0])/\R S w' g n JP/\Below W.heap.size W w'
 put:∀S W g N s d T C,R S W g N s->Nw S W.heap.size->gj W->N<=4096->eS s T C->d.t.size<=9223372036854775807->T+ud d<=2147483647->C+1<=100000000->Sa 8 #[.pointer (some ⟨g,0,none⟩),.agg #[.int .u8 d.k,.string d.t,Tu d.b,Tu d.i,.bool d.e]] W λe w'=>Uk e (.tuple #[.string ⟨(s.told (s.put N d).1).toArray⟩,Tu (s.put N d).2])/\R S w' g N (s.put N d).1/\Kp S W w'
 close:∀S W g N s T C,R S W g N s->Nw S W.heap.size->gj W->N<=4096->eS s T C->T<=2147483647->C<=100000000->Sa 10 #[.pointer (some ⟨g,0,none⟩)] W λe w'=>Uk e (.tuple #[.string ⟨(s.told (s.close N).1).toArray⟩,Tu (s.close N).2])/\R S w' g N (s.close N).1/\Kp S W w'
 held:∀S W g N s,R S W g N s->s.wt.length<=100000000->gj W->Sa 9 #[.pointer (some ⟨g,0,none⟩)] W λe w'=>Uk e (Tu (s.wt.length:Nat))/\Below W.heap.size W w'
structure A9 (R:(Nat->Prop)->World->Nat->Nat->S9->Prop) (W0 W:World) (own:Nat->Nat) (g N:Nat) (s:S9):Prop where
 en:En own W
 lo:∀k,k<W0.heap.size->own k=0
 be:Below W0.heap.size W0 W
 rr:R (λk=>own k=1) W g N s
section
variable {R:(Nat->Prop)->World->Nat->Nat->S9->Prop} {W0 W:World} {own:Nat->Nat} {g N:Nat} {s:S9}
def A9.below (G:MG R) (h:A9 R W0 W own g N s) {W':World}(u:Below W.heap.size W W'):A9 R W0 W' own g N s:=
 ⟨h.en.below u,h.lo,h.be.trans (u.mono h.be.size),G.oth _ (λ_=>False) _ _ _ _ _ h.rr (Kp.of_below u) (λ_ _ _ h=>h)⟩
def OI (own:Nat->Nat) (W w':World):Nat->Nat:=λk=>if k<W.heap.size then own k else if k<w'.heap.size then 1 else 0
def A9.next (M:MG R) (h:A9 R W0 W own g N s) {w':World}{s':S9}(O:R (λk=>own k=1\/W.heap.size<=k) w' g N s') (u:Kp (λk=>own k=1\/W.heap.size<=k) W w'):A9 R W0 w' (OI own W w') g N s'/\Sd own (OI own W w') W w':=by
 have G:Fr 1 own (OI own W w') W w':=⟨u.os,u.tape,u.output,u.size,λk hl H=>u.block k hl (λe=>by rcases e with e|e;exact H e;omega),λk hl=>Or hl⟩
 have H:Nf (OI own W w') w':=λk hl=>by
  have:=u.size;unfold OI;rw[Eq (by omega),Eq (by omega)]
 refine⟨⟨h.en.fr (by decide) H G,λk hl=>?_,?_,?_⟩,λk hl I=>⟨G.block k hl (by rw[I];decide),(G.old k hl).trans I⟩⟩
 ·rw[G.old k (R4 hl h.be.size)];exact h.lo k hl
 ·exact h.be.trans ⟨u.os,u.tape,u.output,u.size,λk hl=>G.block k (R4 hl h.be.size) (by rw[h.lo k hl];decide)⟩
 ·refine M.sub _ _ _ _ _ _ O (λk hl e=>?_);show OI own W w' k=1;unfold OI
  by_cases J:k<W.heap.size
  ·rw[Or J]
   rcases e with e|e
   ·exact e
   ·omega
  ·rw[Eq J,Or hl]
def A9.rS (u:MG R) (h:A9 R W0 W own g N s):R (λk=>own k=1\/W.heap.size<=k) W g N s:=u.sub _ _ _ _ _ _ h.rr (λk _ e=>.inl e)
def RI (own:Nat->Nat) (W:World):Nw (λk=>own k=1\/W.heap.size<=k) W.heap.size:=λk u=>.inr u
def A9.put (u:MG R) (h:A9 R W0 W own g N s) (J:N<=4096) {T C:Nat}(O:eS s T C) (d:Dc) (hd:d.t.size<=9223372036854775807) (M:T+ud d<=2147483647) (G:C+1<=100000000) :
  Sa 8 #[.pointer (some (Tw g 0)),.agg #[.int .u8 d.k,.string d.t,Tu d.b,Tu d.i,.bool d.e]] W λe w'=>Uk e (.tuple #[.string ⟨(s.told (s.put N d).1).toArray⟩,Tu (s.put N d).2])/\∃own',A9 R W0 w' own' g N (s.put N d).1/\Sd own own' W w':=by
 refine(u.put _ W g N s d T C (h.rS u) (RI own W) h.en.tab J O hd M G).mono ?_;rintro e w'⟨rfl,H,I⟩;exact⟨rfl,_,h.next u H I⟩
def A9.close (u:MG R) (h:A9 R W0 W own g N s) (J:N<=4096) {T C:Nat}(O:eS s T C) (M:T<=2147483647) (G:C<=100000000) :
  Sa 10 #[.pointer (some (Tw g 0))] W λe w'=>Uk e (.tuple #[.string ⟨(s.told (s.close N).1).toArray⟩,Tu (s.close N).2])/\∃own',A9 R W0 w' own' g N (s.close N).1/\Sd own own' W w':=by
 refine(u.close _ W g N s T C (h.rS u) (RI own W) h.en.tab J O M G).mono ?_;rintro e w'⟨rfl,H,I⟩;exact⟨rfl,_,h.next u H I⟩
def A9.held (G:MG R) (h:A9 R W0 W own g N s) (hl:s.wt.length<=100000000):Sa 9 #[.pointer (some (Tw g 0))] W λe w'=>Uk e (Tu (s.wt.length:Nat))/\A9 R W0 w' own g N s/\Se W w':=by
 refine(G.held _ W g N s h.rr hl h.en.tab).mono ?_;rintro e w'⟨rfl,u⟩;exact⟨rfl,h.below G u,u⟩
end
def Pl {R:(Nat->Prop)->World->Nat->Nat->S9->Prop}(J:MG R) (n:Nat) (O:1<=n) (Q:n<=4096) (W0 W:World) (I:gj W0) (H:Se W0 W):Sa 6 #[Tu (n:Int)] W λe w'=>∃g own,Uk e (.tuple #[.pointer (some (Tw g 0)),Tu 0])/\A9 R W0 w' own g n JP/\(∀k,k<W.heap.size->own k=0)/\Se W w':=by
 refine(J.new (λk=>W.heap.size<=k) n W O Q (λk G=>G) (I.below H)).mono ?_;rintro e w'⟨g,rfl,S,u⟩;have M:=H.size;have Y:=u.size;refine⟨g,λk=>if k<W.heap.size then 0 else if k<w'.heap.size then 1 else 0,rfl,⟨⟨λk G=>?_,(I.below H).below u,?_⟩,λk G=>Or (by omega),H.trans (u.mono M),?_⟩,λk G=>Or G,u⟩
 ·show(if k<W.heap.size then 0 else if k<w'.heap.size then 1 else 0)=0;rw[Eq (by omega),Eq (by omega)]
 ·exact Or (R4 I.pos M)
 ·refine J.sub _ _ _ _ _ _ S (λk hl e=>?_);show(if k<W.heap.size then 0 else if k<w'.heap.size then 1 else 0)=1;rw[Eq (by omega),Or hl]
def eS.zero:eS JP 0 0:=⟨0,RO,ge _,rfl,ge _⟩
section
variable {R:(Nat->Prop)->World->Nat->Nat->S9->Prop} {W V:World} {g bl:Nat} {s:S9}
end
def Bj (N:Nat) {dp T C:Nat}{cl:Bool}:∀(v:List Dc) (p:Pr),eS ⟨p,v,dp,cl⟩ T C->eS ⟨qq N p v,[],dp,cl⟩ T C
 |[],p,h=>h
 |d :: r,p,h=>by
  rw[qq];exact Bj N r _ (h.step N _).2.2.2.2
def eS.close {N:Nat}{s:S9}{T C:Nat}(h:eS s T C):eS (s.close N).1 T C:=by
 unfold S9.close
 split
 ·exact h
 ·split
  ·exact h
  ·exact Bj N s.wt s.pr (cl:=true) h
def EF (n:Int) (h:n<1\/4096<n) (W:World):Sa 6 #[Tu n] W λe w'=>Uk e (.tuple #[.pointer none,Tu 1])/\Se W w':=by
 by_cases u:n<1
 ·have G:decide (n<1)=true:=by simpa using u
  go_enter func6,ntmps6;(go_wp2_with fail)
  go_ret2;exact⟨rfl,gt _ _⟩
 ·have G:decide (n<1)=false:=by simpa using u
  have H:decide (4096<n)=true:=by simp;omega
  go_enter func6,ntmps6;(go_wp2_with fail)
  go_ret2;exact⟨rfl,gt _ _⟩
def cs0:CS:=⟨0,0,[],[],λ_=>none,pV⟩
def EG (n:Nat) (h1:1<=n) (h2:n<=4096) (W:World):Sa 6 #[Tu (n:Int)] W λe w'=>∃g u I gs,Uk e (.tuple #[.pointer (some (Tw g 0)),Tu 0])/\(W.heap.size<=u/\u<I/\I<gs/\gs<g)/\w'.heap[g]?=some (.cells #[.bool false,Tu 0,Tu 0,.pointer (some (Tw u 0)),Tu 0,.pointer (some (Tw I 0)),Tu 0,Tu (n:Int),.pointer (some (Tw gs 0)),Tu 0,.bool false,.bool false,.slice none 0 0,.bool false] 70 (0,0)) /\
  w'.heap[u]?=some (.cells #[Tu 2097152,.slice none 0 0,Tu 0,Tu 0] 177 (0,0))/\w'.heap[I]?=some (.cells #[Tu 2097152,.slice none 0 0,Tu 0,Tu 0] 177 (0,0))/\w'.heap[gs]?=some (.cells (sk false 0 0 (.slice none 0 0) (.slice none 0 0)) 120 (0,0))/\Se W w':=by
 have q1:decide ((n:Int)<1)=false:=by simp;omega
 have q2:decide (4096<(n:Int))=false:=by simp;omega
 have q3:¬((n:Int)<1):=by omega
 have q4:¬(4096<(n:Int)):=by omega
 have HN:=aW yx;have HP:=aW (vY n);generalize hK:sk false 0 0 (.slice none 0 0) (.slice none 0 0)=K at *;go_enter func6,ntmps6;(go_wp2_with fail);refine(HN.out _).mono ?_;rintro e Q⟨u,rfl,J,G,H⟩;have Y:Hid (W.heap.size<=u/\Q.heap[u]?=some (.cells #[Tu 2097152,.slice none 0 0,Tu 0,Tu 0] 177 (0,0))/\Se W Q):=⟨J,G,H⟩;clear J G H;(go_wp2_with fail);refine(HN.out _).mono ?_;rintro e w2⟨I,rfl,J,G,H⟩;have Z:Hid (Q.heap.size<=I/\w2.heap[I]?=some (.cells #[Tu 2097152,.slice none 0 0,Tu 0,Tu 0] 177 (0,0))/\Se Q w2):=⟨J,G,H⟩;clear J G H;(go_wp2_with fail);refine(HP.out _).mono ?_;rintro e O⟨gs,rfl,J,G,H⟩;have HC:Hid (w2.heap.size<=gs/\O.heap[gs]?=some (.cells K 120 (0,0))/\Se w2 O):=⟨J,G,H⟩;clear J G H;(go_wp2_with fail);go_ret2;obtain⟨J,G,H⟩:=Y.out;obtain⟨b1,b2,b3⟩:=Z.out;obtain⟨c1,c2,c3⟩:=HC.out;have la:=ai G;have lb:=ai b2;have S:=ai c2;have M:=(gt O.heap.size O).alloc (ge _) (.cells #[.bool false,Tu 0,Tu 0,.pointer (some (Tw u 0)),Tu 0,.pointer (some (Tw I 0)),Tu 0,Tu (n:Int),.pointer (some (Tw gs 0)),Tu 0,.bool false,.bool false,.slice none 0 0,.bool false] 70);have s1:=H.size;have s2:=b3.size;have s3:=c3.size;refine⟨O.heap.size,u,I,gs,rfl,⟨J,by omega,by omega,S⟩,ak _ _,(M.block u (by omega)).trans ((c3.block u (by omega)).trans ((b3.block u la).trans G)),(M.block I (by omega)).trans ((c3.block I lb).trans b2),(M.block gs S).trans c2,?_⟩;exact((H.trans (b3.mono s1)).trans (c3.mono (by omega))).trans (M.mono (by omega))
def Fz.kp {own own':Nat->Nat}{W w':World}{S:Nat->Prop}(h:Fz own own' W w') (G:∀k,k<W.heap.size->own k≠0->S k):Kp S W w':=
 ⟨h.os,h.tape,h.output,h.size,λk u H=>(h.blk k u (Uj λe=>H (G k u e))).1⟩
structure S0 (own:Nat->Nat) (W:World) (g N gs qh qw:Nat) (v:Value) (csh csw:List (Nat × List Nat)) (c:CS):Prop where
 nf:Nf own W
 z:own 2=0
 lab:own g=2
 blk:W.heap[g]?=some (.cells (FK (pY qh qw c) N gs c.pr.bl v c.pr.en) 70 (0,0))
 ar:W.ownsRow 0 64 3 v c.pr.ar.length (ap qr c.pr.ar.reverse)/\∀k,v.ownBlock=some k->own k=2
 sk:SK own 1 W gs c.pr.sk
 rh:gh own 0 W qh csh
 hl:fl csh=c.hl
 rw:gh own 1 W qw csw
 wl:fl csw=c.wl
 pm:∀b x,c.m b=some x->W.heap[b]?=some (.cells (DT x) 137 (0,0))/\own b=5
section
variable {own:Nat->Nat} {W:World} {g N gs qh qw:Nat} {v:Value} {csh csw:List (Nat × List Nat)} {c:CS}
def S0.st (h:S0 own W g N gs qh qw v csh csw c) (u:gj W):ST own W g N gs qh qw v csh csw c:=⟨⟨h.nf,u,h.z⟩,h.lab,h.blk,h.ar,h.sk,h.rh,h.hl,h.rw,h.wl,h.pm⟩
def ST.s0 (h:ST own W g N gs qh qw v csh csw c):S0 own W g N gs qh qw v csh csw c:=⟨h.en.nf,h.en.z,h.lab,h.blk,h.ar,h.sk,h.rh,h.hl,h.rw,h.wl,h.pm⟩
def S0.kept {w':World}(h:S0 own W g N gs qh qw v csh csw c) (u:cA (λi=>i=0) own own W w'):S0 own w' g N gs qh qw v csh csw c:=by
 refine⟨h.nf.below u.size,h.z,h.lab,(u.block g (ai h.blk) (by rw[h.lab];omega)).trans h.blk,vg u (by omega) h.ar,h.sk.keptP u (by omega),h.rh.kept u (λi G e=>by unfold Lr at G;omega),h.hl,h.rw.kept u (λi G e=>by unfold Lr at G;omega),h.wl,λb x J=>?_⟩;obtain⟨H,I⟩:=h.pm b x J;exact⟨(u.block b (ai H) (by rw[I];omega)).trans H,I⟩
end
def Rc (S:Nat->Prop) (W:World) (g N:Nat) (s:S9):Prop:=
 (s.cl=false/\∃own gs qh qw v csh csw c rl l,S0 own W g N gs qh qw v csh csw c/\(∀k,k<W.heap.size->own k≠0->S k)/\c.wl=rl.reverse/\WI c.m c.tot c.hl rl s.wt s.dp/\c.op=s.dp/\c.pr=eL s.pr/\od N l s/\Fe s.pr s.wt)
 \/ (s.cl=true/\s.wt=[]/\W.heap[g]?=some (.cells Rr 70 (0,0))/\S g)
def T9.rc {own:Nat->Nat}{W w':World}{g N:Nat}{c':CS}{S:Nat->Prop}(h:T9 own W w' g N c') (Q:∀k,k<W.heap.size->own k≠0->S k) (Z:Nw S W.heap.size) {s':S9}(H:s'.cl=false) (hw:∃u,c'.wl=u.reverse/\WI c'.m c'.tot c'.hl u s'.wt s'.dp) (M:c'.op=s'.dp) (O:c'.pr=eL s'.pr) {l:List Dc}(G:od N l s') (I:Fe s'.pr s'.wt):Rc S w' g N s'/\Kp S W w':=by
 obtain⟨o,gs,qh,qw,v,csh,csw,k1,Y⟩:=h;obtain⟨u,w1,w2⟩:=hw;refine⟨.inl ⟨H,o,gs,qh,qw,v,csh,csw,c',u,l,k1.s0,λk hk J=>?_,w1,w2,M,O,G,I⟩,Y.kp Q⟩
 rcases Uo k W.heap.size with hl|hl
 ·exact Q k hl (λe=>J (Y.blk k hl e).2)
 ·exact Z k hl
def iV {s:S9}:(⟨(s.told s).toArray⟩:ByteArray)=⟨#[]⟩:=by rw[BP]
def vq {S:Nat->Prop}{W w':World}{g N:Nat}{s:S9}(h:Rc S W g N s) (M:Se W w'):Rc S w' g N s:=by
 rcases h with⟨H,own,gs,qh,qw,v,csh,csw,c,rl,l,G,I,J⟩|⟨H,G,I,J⟩
 ·refine .inl ⟨H,own,gs,qh,qw,v,csh,csw,c,rl,l,G.kept (cA.of_below M),λk O u=>?_,J⟩
  rcases Uo k W.heap.size with hl|hl
  ·exact I k hl u
  ·exact absurd (G.nf k hl) u
 ·exact .inr ⟨H,G,af I M,J⟩
def tQ:MG Rc:=by
 refine⟨?_,?_,?_,?_,?_,?_,?_⟩
 ·intro S S' W g N s h hs
  rcases h with⟨G,own,gs,qh,qw,v,csh,csw,c,rl,l,H,u,J⟩|⟨G,H,u,J⟩
  ·exact .inl ⟨G,own,gs,qh,qw,v,csh,csw,c,rl,l,H,λk Q I=>hs k Q (u k Q I),J⟩
  ·exact .inr ⟨G,H,u,hs g (ai u) J⟩
 ·intro S T W W' g N s h Q hd
  rcases h with⟨G,own,gs,qh,qw,v,csh,csw,c,rl,l,H,u,J⟩|⟨G,H,u,J⟩
  ·have hf:cA (λi=>i=0) own own W W':=⟨Q.os,Q.tape,Q.output,Q.size,λk hl I=>Q.block k hl (λe=>hd k hl (u k hl I) e),λ_ _ _=>rfl⟩;refine .inl ⟨G,own,gs,qh,qw,v,csh,csw,c,rl,l,H.kept hf,λk hl I=>?_,J⟩
   rcases Uo k W.heap.size with ah|ah
   ·exact u k ah I
   ·exact absurd (H.nf k ah) I
  ·exact .inr ⟨G,H,(Q.block g (ai u) (λe=>hd g (ai u) J e)).trans u,J⟩
 ·intro n W h _;exact EF n h W
 ·intro S n W G H hS hT;refine(EG n G H W).mono ?_;rintro e w'⟨g,Y,Z,gs,rfl,⟨l1,l2,l3,l4⟩,b1,b2,b3,b4,hb⟩;refine⟨g,rfl,.inl ⟨rfl,λk=>if k=g then 2 else if k=gs then 1 else if k=Y then 3 else if k=Z then 4 else 0,gs,Y,Z,.slice none 0 0,[],[],cs0,[],[],⟨λk Q=>?_,?_,Or rfl,b1,⟨SU _ _ _ _,λk h=>by cases h⟩,?_,?_,rfl,?_,rfl,λb x hx=>by cases hx⟩,λk Q I=>?_,rfl,wi0 0,rfl,rfl,O3 n,fe0 _⟩,hb⟩
  ·have:=ai b1;show(if k=g then 2 else if k=gs then 1 else if k=Y then 3 else if k=Z then 4 else 0)=0;rw[Eq (by omega),Eq (by omega),Eq (by omega),Eq (by omega)]
  ·have:=hT.pos;show(if 2=g then 2 else if 2=gs then 1 else if 2=Y then 3 else if 2=Z then 4 else 0)=0;rw[Eq (by omega),Eq (by omega),Eq (by omega),Eq (by omega)]
  ·refine⟨?_,.slice none 0 0,.slice none 0 0,[],[],b4,⟨SU _ _ _ _,λk h=>by cases h⟩,⟨SU _ _ _ _,λk h=>by cases h⟩,RU _,rfl,ge _,λx h=>by cases h⟩;show(if gs=g then 2 else if gs=gs then 1 else _)=1;rw[Eq (by omega),Or rfl]
  ·refine⟨by omega,⟨.slice none 0 0,[],0,⟨b2,?_,by omega,by omega,by simp,.inl ⟨rfl,rfl,rfl⟩,⟨by simp,λi hi=>absurd hi (by simp)⟩⟩⟩,λx hx=>(nomatch hx),λx hx=>(by simp at hx),Vl⟩;show(if Y=g then 2 else if Y=gs then 1 else if Y=Y then 3 else _)=3;rw[Eq (by omega),Eq (by omega),Or rfl]
  ·refine⟨by omega,⟨.slice none 0 0,[],0,⟨b3,?_,by omega,by omega,by simp,.inl ⟨rfl,rfl,rfl⟩,⟨by simp,λi hi=>absurd hi (by simp)⟩⟩⟩,λx hx=>(nomatch hx),λx hx=>(by simp at hx),Vl⟩;show(if Z=g then 2 else if Z=gs then 1 else if Z=Y then 3 else if Z=Z then 4 else 0)=4;rw[Eq (by omega),Eq (by omega),Eq (by omega),Or rfl]
  ·have ad:(if k=g then 2 else if k=gs then 1 else if k=Y then 3 else if k=Z then 4 else 0)≠0:=I;refine hS k ?_
   by_cases e1:k=g
   ·omega
   ·by_cases M:k=gs
    ·omega
    ·by_cases e3:k=Y
     ·omega
     ·by_cases e4:k=Z
      ·omega
      ·rw[Eq e1,Eq M,Eq e3,Eq e4]at ad;exact absurd rfl ad
 ·intro S W g N s d T C hR hS hT hN hb aj af ae;have ab:=hR
  rcases hR with⟨G,own,gs,qh,qw,v,csh,csw,c,rl,l,H,u,J,h5,h6,h7,h8,h9⟩|⟨G,H,u,J⟩
  ·have O:=H.st hT
   by_cases hg:rt d=true/\¬(d.k=7/\s.dp=0)
   ·have ag:rt d=true/\¬(d.k=7/\c.op=0):=by rw[h6];exact hg
    have M:(s.put N d).2=0:=by unfold S9.put;rw[Eq (by rw[G];simp),Or hg]
    have ak:(s.put N d).1.cl=false:=by unfold S9.put;rw[Eq (by rw[G];simp),Or hg]
    rw[M];refine(B5 O d aj ag J h5 h6 h7 hb af ae hN h8 h9).mono ?_;rintro e w'⟨rfl,c',t1,t2,t3,t4,t5,t6⟩;exact⟨rfl,t1.rc u hS ak t2 t3 t4 t5 t6⟩
   ·have ag:¬(rt d=true/\¬(d.k=7/\c.op=0)):=by rw[h6];exact hg
    have M:s.put N d=(s,70):=by unfold S9.put;rw[Eq (by rw[G];simp),Eq hg]
    rw[M];refine(EB O d aj ag).mono ?_;rintro e w'⟨rfl,ac⟩;exact⟨by rw[iV],vq ab ac,Kp.of_below ac⟩
  ·have M:s.put N d=(s,4):=by unfold S9.put;rw[Or G]
   rw[M];refine(B7 d g W (aa u rfl)).mono ?_;rintro e w'⟨rfl,ac⟩;exact⟨by rw[iV],vq ab ac,Kp.of_below ac⟩
 ·intro S W g N s T C hR hS hT hN hb af ae;have ab:=hR
  rcases hR with⟨G,own,gs,qh,qw,v,csh,csw,c,rl,l,H,u,J,h5,h6,h7,h8,h9⟩|⟨G,H,u,J⟩
  ·have O:=H.st hT
   by_cases h0:s.dp=0
   ·have M:s.close N=(⟨qq N s.pr s.wt,[],s.dp,true⟩,0):=by unfold S9.close;rw[Eq (by rw[G];simp),Eq (by omega)]
    have e3:(s.close N).2=0:=by rw[M]
    rw[e3];refine(uV O J h5 h6 h0 h7 hb af ae hN h8 h9).mono ?_;rintro e w'⟨rfl,al,own',hz⟩;refine⟨rfl,.inr ⟨by rw[M],by rw[M],al,u g (ai H.blk) (by rw[H.lab];omega)⟩,hz.kp u⟩
   ·have M:s.close N=(s,70):=by unfold S9.close;rw[Eq (by rw[G];simp),Or (by omega)]
    rw[M];refine(uU O (by omega)).mono ?_;rintro e w'⟨rfl,rfl⟩;exact⟨by rw[iV],ab,Kp.refl _ _⟩
  ·have M:s.close N=(s,4):=by unfold S9.close;rw[Or G]
   rw[M];refine(uW g W (aa u rfl)).mono ?_;rintro e w'⟨rfl,rfl⟩;exact⟨by rw[iV],ab,Kp.refl _ _⟩
 ·intro S W g N s hR _ hT
  rcases hR with⟨G,own,gs,qh,qw,v,csh,csw,c,rl,l,H,u,J,h5,h6,h7,h8,h9⟩|⟨G,H,u,J⟩
  ·have O:=H.st hT;have:=qH g _ W O.c4;rw[h5.hi.len]at this;refine this.mono ?_;rintro e w'⟨rfl,rfl⟩;exact⟨rfl,gt _ _⟩
  ·rw[H];refine(qH g 0 W (aa u rfl)).mono ?_;rintro e w'⟨rfl,rfl⟩;exact⟨rfl,gt _ _⟩
section
variable {R:(Nat->Prop)->World->Nat->Nat->S9->Prop} {W0 V:World} {own:Nat->Nat} {g N:Nat} {s:S9} {vb va:Value} {out:List UInt8} {A:List Dc}
end
def Ol {A:List Dc}(H:bQ 0 0 A=none) {N k:Nat}{s:S9}(h:od N (A.take k) s) (I:k<=A.length):(k=A.length->s.dp=0)/\∀d,A[k]?=some d->rt d=true/\¬(d.k=7/\s.dp=0):=by
 have e:=kL (A.take k) (A.drop k) 0 _ 0 h.op;rw[Tm,H]at e;constructor
 ·intro u;rw[u,T7]at e;simp only[bQ]at e
  split at e
  ·cases e
  ·omega
 ·intro d hd;have G:=(RY.1 hd).1
  have ed:A.drop k=d :: A.drop (k+1):=by
   rw[Sz G];congr 1;exact(RY.1 hd).2
  rw[ed]at e;simp only[bQ]at e
  split at e
  ·rename_i hc
   exact⟨hc.1,Hd hc.2⟩
  ·cases e
def D6 (l:List Dc) (d:Dc):fF (l++[d])=fF l+ud d:=by rw[zx];simp[fF]
def eS.outb {s:S9}{T C:Nat}(h:eS s T C):s.pr.sk.out.length<=T:=by
 obtain⟨U,u,G,_⟩:=h;have:=u.out;omega
