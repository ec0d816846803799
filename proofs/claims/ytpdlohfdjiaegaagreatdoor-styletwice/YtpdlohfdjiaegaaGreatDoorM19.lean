import Derived.BigRegion
import Derived.Deep.RegionHeldLaw
import Derived.Test.YtpdlohfdjiaegaaGreatDoorM18
set_option linter.unusedVariables false
set_option linter.unusedSimpArgs false
set_option maxHeartbeats 2000000
set_option maxRecDepth 100000
namespace Go.Proofs.YtpdlohfdjiaegaaGreatDoor.Lw
open Go.Proofs.YtpdlohfdjiaegaaGreatDoor.Lx
open Go.RowKit
variable {W w0:World}{B g gs n:Nat}{p:Pr}
theorem Tryz.info114:(Tryz.prog.info? 114).map (fun i=>(i.zero,i.size,i.bytes))=some (some (.agg #[.int .i64 0,.bool false,.bool false]),3,16):=by kernel_rfl
def bkc (b:Bk):List Value:=[.int .i64 b.ind,.bool b.ev,.bool b.ft]
theorem zp (b:Bk):(bkc b).length=3:=rfl
def prc (n gs:Nat) (b:Bk) (v:Value) (en:Bool):Array Value:=#[.int .i64 n,.pointer (some ⟨gs,0,none⟩),.int .i64 b.ind,.bool b.ev,.bool b.ft,v,.bool en]
structure PS (B:Nat) (w0:World) (own:Nat->Nat) (W:World) (g gs n:Nat) (p:Pr):Prop where
 en:En own W
 lo:∀k,k<B->own k=0
 bel:Below B w0 W
 hB:B<=w0.heap.size
 sk:SK own 1 W gs p.sk
 pr:∃v,W.heap[g]?=some (.cells (prc n gs p.bl v p.en) 117 (0,0))/\(W.ownsRow 0 114 3 v p.ar.length (aW bkc p.ar.reverse)/\∀k,v.ownBlock=some k->own k=2)
 lab:own g=2
section
variable {B:Nat} {w0:World} {own:Nat->Nat} {W:World} {g gs n:Nat} {p:Pr}
theorem PS.c0 (h:PS B w0 own W g gs n p):W.cell? ⟨g,0,none⟩=some (.int .i64 n):=by obtain ⟨v,h1,_⟩:=h.pr;exact aa h1 rfl
theorem PS.c1 (h:PS B w0 own W g gs n p):W.cell? ⟨g,1,none⟩=some (.pointer (some ⟨gs,0,none⟩)):=by obtain ⟨v,h1,_⟩:=h.pr;exact aa h1 rfl
theorem PS.c2 (h:PS B w0 own W g gs n p):W.cell? ⟨g,2,none⟩=some (.int .i64 p.bl.ind):=by obtain ⟨v,h1,_⟩:=h.pr;exact aa h1 rfl
theorem PS.c3 (h:PS B w0 own W g gs n p):W.cell? ⟨g,3,none⟩=some (.bool p.bl.ev):=by obtain ⟨v,h1,_⟩:=h.pr;exact aa h1 rfl
theorem PS.c4 (h:PS B w0 own W g gs n p):W.cell? ⟨g,4,none⟩=some (.bool p.bl.ft):=by obtain ⟨v,h1,_⟩:=h.pr;exact aa h1 rfl
theorem PS.c6 (h:PS B w0 own W g gs n p):W.cell? ⟨g,6,none⟩=some (.bool p.en):=by obtain ⟨v,h1,_⟩:=h.pr;exact aa h1 rfl
theorem PS.fz (h:PS B w0 own W g gs n p) (k:Nat):W.frozen? ⟨g,k,none⟩=false:=by obtain ⟨v,h1,_⟩:=h.pr;exact ak h1
theorem PS.lt (h:PS B w0 own W g gs n p):g<W.heap.size:=by obtain ⟨v,h1,_⟩:=h.pr;exact ap h1
theorem PS.bl (h:PS B w0 own W g gs n p):B<=W.heap.size:=Nat.le_trans h.hB h.bel.size
theorem PS.gB (h:PS B w0 own W g gs n p):B<=g:=by
 refine Nat.le_of_not_lt fun hlt=>?_
 have:=h.lo g hlt;rw [h.lab] at this;cases this
theorem PS.below (h:PS B w0 own W g gs n p) {W':World}(hb:Below W.heap.size W W'):PS B w0 own W' g gs n p:=by
 obtain ⟨v,h1,h2,h3⟩:=h.pr;exact ⟨h.en.below hb,h.lo,h.bel.trans (hb.mono h.bl),h.hB,h.sk.below hb,⟨v,ab h1 hb,aO h2 hb,h3⟩,h.lab⟩
def Sd (own own':Nat->Nat) (W W':World):Prop:=∀k,k<W.heap.size->own k=0->W'.heap[k]?=W.heap[k]?/\own' k=0
theorem Sd.refl (own:Nat->Nat) (W:World):Sd own own W W:=fun k _ h=>⟨rfl,h⟩
theorem Sd.trans {o1 o2 o3:Nat->Nat}{A C D:World}(h:Sd o1 o2 A C) (hs:A.heap.size<=C.heap.size) (k:Sd o2 o3 C D):Sd o1 o3 A D:=fun j hj h0=>
 ⟨(k j (by omega) (h j hj h0).2).1.trans (h j hj h0).1,(k j (by omega) (h j hj h0).2).2⟩
theorem PS.sink (h:PS B w0 own W g gs n p) {W':World}{s':St6}(ha:Ae own 1 W W' gs s'):∃own',PS B w0 own' W' g gs n { p with sk:=s' }/\Sd own own' W W'/\W.heap.size<=W'.heap.size:=by
 obtain ⟨own',e1,e2,e3⟩:=ha;obtain ⟨v,h1,h2⟩:=h.pr;have hlt:=ap h1;have hbl:=h.bl;refine ⟨own',⟨e1,fun k hk=>(e2.old k (by omega)).trans (h.lo k hk),h.bel.trans (e2.below hbl h.lo (by omega)),h.hB,e3,⟨v,?_,pA e2 (by omega) h2⟩,(e2.old g hlt).trans h.lab⟩,fun k hk h0=>⟨e2.block k hk (by rw [h0];omega),(e2.old k hk).trans h0⟩,e2.size⟩;exact (e2.block g hlt (by rw [h.lab];omega)).trans h1
theorem PS.sett (h:PS B w0 own W g gs n p) (b:Bool):PS B w0 own (W.setCell ⟨g,6,none⟩ (.bool b)) g gs n { p with en:=b }/\Sd own own W (W.setCell ⟨g,6,none⟩ (.bool b)):=by
 obtain ⟨v,h1,h2,h3⟩:=h.pr;have hf:Fr 2 own own W (W.setCell ⟨g,6,none⟩ (.bool b)):=(Fr.refl 2 own W).set' h.lab 6 _;have hn:Nf own (W.setCell ⟨g,6,none⟩ (.bool b)):=h.en.nf.below (Kp.set W g 6 _).size;have r1:=aA h2 h1 (by decide)
 exact ⟨⟨h.en.fr (by omega) hn hf,h.lo,h.bel.setCell (p:=⟨g,6,none⟩) h.gB _,h.hB,h.sk.kept hf (by omega),⟨v,af h1 6 _,(Kp.set W g 6 _).row h2 (fun k e1 e2=>r1 (by rw [e1,e2])),h3⟩,h.lab⟩,
  fun k hk h0=>⟨(Kp.set W g 6 (.bool b)).block k hk (fun e=>by subst e;rw [h.lab] at h0;cases h0),h0⟩⟩
end
theorem kI {B:Nat}{w0:World}{own:Nat->Nat}{W:World}{g gs n:Nat}{p:Pr}(h:PS B w0 own W g gs n p) {U:Nat}(hp:Bp p U) (hU:U<=268435456) (need:Nat) (hnd:need<=1000000) (hn:n<=4096) :
  Da 109 #[.pointer (some ⟨g,0,none⟩),.int .i64 need] W fun e w'=>e=.returned (.bool (p.fits n need))/\Below W.heap.size W w':=by
 have hcol:=hp.col;have HC:Hid (∀V,Db W V->Da 163 #[.pointer (some ⟨gs,0,none⟩)] V fun e w'=>e=.returned (.int .i64 ((p.sk.col:Int)+p.sk.wait))/\Db V w'):=fun V hV=>tC (h.below hV).sk (by omega) (by omega)
 have c0:=h.c0;have c1:=h.c1;have hlt:=h.lt;have HK:Hid (∀V,Db W V->V.cell? ⟨g,0,none⟩=some (.int .i64 n)/\V.cell? ⟨g,1,none⟩=some (.pointer (some ⟨gs,0,none⟩))/\Db W V):=fun V hV=>⟨(h.below hV).c0,(h.below hV).c1,hV⟩
 have e:p.fits n need=decide ((need:Int)<=(n:Int)-((p.sk.col:Int)+p.sk.wait)):=by
  unfold Pr.fits Pr.at;rw [decide_eq_decide];omega
 rw [e];obtain ⟨z,hz⟩:∃z:Nat,p.sk.col+p.sk.wait=z:=⟨_,rfl⟩;have hz2:(p.sk.col:Int)+p.sk.wait=(z:Int):=by omega
 rw [hz2] at HC ⊢;have hzb:z<=268435456:=by omega
 have hwr:IntKind.i64.wrap ((n:Int)-z)=(n:Int)-z:=by rw [IntKind.wrap_i64];omega
 clear hz hz2 hcol e h hp
 go_enter Tryz.func109,Tryz.ntmps109
 go_wp2_with fail
 go_region_held3 (fun w'=>w'.cell? ⟨g,0,none⟩=some (.int .i64 n)/\w'.cell? ⟨g,1,none⟩=some (.pointer (some ⟨gs,0,none⟩))/\Below W.heap.size W w') (first|(exact HK.out _ (by assumption))|(exact HK.out _ (Below.refl _ _).drew)|go_keep) (first|(go_at_call 163;refine (HC.out _ (by first|assumption|exact (Below.refl _ _).drew)).mono ?_;rintro e w1 ⟨rfl,hb1⟩;have hbW:=(by first|exact (Below.refl W.heap.size W).drew.trans (hb1.mono (Nat.le_refl _))|assumption:Below W.heap.size W w1)))
 all_goals (
  go_wp2_with fail
  go_ret
  exact ⟨by rw [<-hwr];rfl,hbW⟩)
theorem pQ {own:Nat->Nat}(h:PS B w0 own W g gs n p) {U:Nat}(hp:Bp p U) (hU:U<=268435456) (need:Nat) (hnd:need<=1000000) (hn:n<=4096) :
  Da 106 #[.pointer (some ⟨g,0,none⟩),.int .i64 need] W fun e w'=>e=.returned (.bool (p.brk n need))/\Below W.heap.size W w':=by
 have HF:=kI h hp hU need hnd hn;have c3:=h.c3;have c4:=h.c4;unfold Pr.brk
 generalize p.fits n need=f at *
 generalize p.bl.ev=ev at *
 generalize p.bl.ft=ft at *
 clear h hp;cases ev
 ·go_enter Tryz.func106,Tryz.ntmps106
  go_wp2_with (go_at_call 109;refine HF.mono ?_;rintro e w1 ⟨rfl,hb1⟩)
  go_ret
  exact ⟨rfl,hb1⟩
 ·go_enter Tryz.func106,Tryz.ntmps106
  go_wp2_with fail
  go_ret
  exact ⟨rfl,Below.refl _ _⟩
def PA (B:Nat) (w0:World) (own:Nat->Nat) (W:World) (g gs n:Nat) (p':Pr) (w':World):Prop:=∃own',PS B w0 own' w' g gs n p'/\Sd own own' W w'/\W.heap.size<=w'.heap.size
theorem nN {own:Nat->Nat}(h:PS B w0 own W g gs n p) {U:Nat}(hp:Bp p U) (hU:U<=268435456) (m:Nat) (hm:m<=1000) :
  Da 105 #[.pointer (some ⟨g,0,none⟩),.int .i64 m] W fun e w'=>e=.returned (.tuple #[])/\PA B w0 own W g gs n (p.hold m) w':=by
 have hcol:=hp.col;have HF:Hid (Da 159 #[.pointer (some ⟨gs,0,none⟩)] W fun e w'=>e=.returned (.bool p.sk.fresh)/\w'=W):=nV h.sk;have c1:=h.c1;unfold Pr.hold;cases hf:p.sk.fresh
 ·have HB:Hid (Da 160 #[.pointer (some ⟨gs,0,none⟩),.int .i64 m] W fun e w'=>e=.returned (.int .i64 0)/\PA B w0 own W g gs n { p with sk:=p.sk.blanks m } w'):=by
   refine (tL h.sk h.en (by omega) m (by omega) (by omega)).mono ?_;rintro e w' ⟨rfl,ha⟩;exact ⟨rfl,h.sink ha⟩
  rw [hf] at HF;clear h hp hf
  go_enter Tryz.func105,Tryz.ntmps105
  go_wp2_with (first|(go_at_call 159;refine HF.out.mono ?_;rintro e w1 ⟨rfl,rfl⟩)|(go_at_call 160;refine HB.out.mono ?_;rintro e w2 ⟨rfl,h2⟩))
  go_end0
  exact ⟨rfl,h2⟩
 ·have HE:Hid (PA B w0 own W g gs n p W):=⟨own,h,Sd.refl _ _,Nat.le_refl _⟩;rw [hf] at HF;clear h hp hf
  go_enter Tryz.func105,Tryz.ntmps105
  go_wp2_with (first|(go_at_call 159;refine HF.out.mono ?_;rintro e w1 ⟨rfl,rfl⟩))
  go_end0
  exact ⟨rfl,HE.out⟩
theorem nZ {own:Nat->Nat}(h:PS B w0 own W g gs n p) {U:Nat}(hp:Bp p U) (hU:U<=268435456) :
  Da 107 #[.pointer (some ⟨g,0,none⟩)] W fun e w'=>e=.returned (.tuple #[])/\PA B w0 own W g gs n p.endl w':=by
 have hcol:=hp.col;have hout:=hp.out;have hind:=hp.ind;have HF:Hid (Da 159 #[.pointer (some ⟨gs,0,none⟩)] W fun e w'=>e=.returned (.bool p.sk.fresh)/\w'=W):=nV h.sk;have c1:=h.c1;have c2:=h.c2;have hlt:=h.lt;unfold Pr.endl;cases hf:p.sk.fresh
 ·have HB:Hid (∀V,V=W.drew->Da 161 #[.pointer (some ⟨gs,0,none⟩),.int .i64 p.bl.ind] V fun e w'=>e=.returned (.int .i64 0)/\Hid (PA B w0 own W g gs n { p with sk:=p.sk.feed p.bl.ind } w')/\w'.cell? ⟨g,1,none⟩=some (.pointer (some ⟨gs,0,none⟩))/\w'.cell? ⟨g,2,none⟩=some (.int .i64 p.bl.ind)/\w'.cell? ⟨g,6,none⟩=some (.bool p.en)/\w'.frozen? ⟨g,6,none⟩=false):=by
   intro V hV;subst hV;have hd:=h.below (Below.refl _ W).drew;refine (yR hd.sk hd.en (by omega) p.bl.ind (by omega) (by omega)).mono ?_;rintro e w' ⟨rfl,ha⟩;obtain ⟨own',a1,a2,a3⟩:=hd.sink ha;exact ⟨rfl,⟨own',a1,a2,a3⟩,a1.c1,a1.c2,a1.c6,a1.fz 6⟩
  rw [hf] at HF;clear h hp hf
  go_enter Tryz.func107,Tryz.ntmps107
  go_wp2_with (first|(go_at_call 159;refine HF.out.mono ?_;rintro e w1 ⟨rfl,rfl⟩))
  go_region_held3 (fun w'=>w'.cell? ⟨g,1,none⟩=some (.pointer (some ⟨gs,0,none⟩))/\w'.cell? ⟨g,2,none⟩=some (.int .i64 p.bl.ind)) (first|(exact ⟨by assumption,by assumption⟩)|(exact ⟨c1,c2⟩)|go_keep) (first|(go_at_call 161;refine (HB.out _ rfl).mono ?_;rintro e w1 ⟨rfl,HP,x1,x2,x6,f6⟩))
  all_goals (
   go_wp2_with fail
   go_end0
   obtain ⟨own',a1,a2,a3⟩:=HP.out;have a4:=a1.sett true;exact ⟨rfl,own',a4.1,a2.trans a3 a4.2,Nat.le_trans a3 (Kp.set _ g 6 (.bool true)).size⟩)
 ·have HE:Hid (PA B w0 own W g gs n p W):=⟨own,h,Sd.refl _ _,Nat.le_refl _⟩;rw [hf] at HF;clear h hp hf
  go_enter Tryz.func107,Tryz.ntmps107
  go_wp2_with (first|(go_at_call 159;refine HF.out.mono ?_;rintro e w1 ⟨rfl,rfl⟩))
  go_end0
  exact ⟨rfl,HE.out⟩
theorem PS.box {own:Nat->Nat}(h:PS B w0 own W g gs n p) (o:Obj):PS B w0 own (W.alloc o) g gs n p/\(W.alloc o).heap[W.heap.size]?=some o/\own W.heap.size=0/\Sd own own W (W.alloc o)/\W.heap.size<=(W.alloc o).heap.size:=
 ⟨h.below ((Below.refl _ _).alloc (Nat.le_refl _) _),am _ _,h.en.nf _ (Nat.le_refl _),fun k hk h0=>⟨Below.heap_alloc W o k hk,h0⟩,by rw [World.size_alloc];omega⟩
theorem PA.of {own:Nat->Nat}(h:PS B w0 own W g gs n p) (o:Obj) {p':Pr}{w':World}(ha:PA B w0 own (W.alloc o) g gs n p' w'):PA B w0 own W g gs n p' w':=by
 obtain ⟨own',a1,a2,a3⟩:=ha;obtain ⟨_,_,_,b1,b2⟩:=h.box o;exact ⟨own',a1,b1.trans b2 a2,Nat.le_trans b2 a3⟩
section
variable {B:Nat} {w0:World} {own:Nat->Nat} {W:World} {g gs n:Nat} {p:Pr}
theorem uM (h:PS B w0 own W g gs n p) {U:Nat}(hp:Bp p U) (hU:U<=268435456) (need:Nat) (t:ByteArray) (ht:t.size<=65535) :
  Da 60 #[.pointer (some ⟨g,0,none⟩),.agg #[.int .u8 1,.string t,.int .i64 0,.int .i64 0,.bool false],.int .i64 need] W fun e w'=>e=.returned (.tuple #[])/\PA B w0 own W g gs n { p with sk:=p.sk.text t,en:=false } w':=by
 have hcol:=hp.col;have hout:=hp.out;have c1:=h.c1;have hlt:=h.lt;obtain ⟨W1,hW1⟩:∃W1,W.alloc (.cells #[.int .u8 1,.string t,.int .i64 0,.int .i64 0,.bool false] 57)=W1:=⟨_,rfl⟩;obtain ⟨b1,b2,b3,b4,b5⟩:=h.box (.cells #[.int .u8 1,.string t,.int .i64 0,.int .i64 0,.bool false] 57);rw [hW1] at b1 b2 b4 b5;have x1:W1.cell? ⟨W.heap.size,1,none⟩=some (.string t):=aa b2 rfl;have c1':=b1.c1
 have HB:Hid (∀V,V=W1.drew->Da 104 #[.pointer (some ⟨gs,0,none⟩),.string t] V fun e w'=>e=.returned (.int .i64 0)/\Hid (PA B w0 own W g gs n { p with sk:=p.sk.text t } w')/\w'.cell? ⟨g,1,none⟩=some (.pointer (some ⟨gs,0,none⟩))/\w'.cell? ⟨W.heap.size,1,none⟩=some (.string t)/\w'.cell? ⟨g,6,none⟩=some (.bool p.en)/\w'.frozen? ⟨g,6,none⟩=false):=by
  intro V hV;subst hV;have hd:=b1.below (Below.refl _ W1).drew;refine (xp hd.sk hd.en (by omega) t (by omega)).mono ?_;rintro e w' ⟨rfl,ha⟩;obtain ⟨own',a1,a2,a3⟩:=hd.sink ha;have hb2:=a2 W.heap.size (ap b2) b3;exact ⟨rfl,⟨own',a1,b4.trans b5 a2,Nat.le_trans b5 a3⟩,a1.c1,aa (hb2.1.trans b2) rfl,a1.c6,a1.fz 6⟩
 have HW1:Hid (W.alloc (.cells #[.int .u8 1,.string t,.int .i64 0,.int .i64 0,.bool false] 57)=W1):=hW1;clear h hp b1 b2 b4 b5 hW1
 go_enter Tryz.func60,Tryz.ntmps60
 go_wp2_with fail
 rw [HW1.out]
 go_region_held3 (fun w'=>w'.cell? ⟨g,1,none⟩=some (.pointer (some ⟨gs,0,none⟩))/\w'.cell? ⟨W.heap.size,1,none⟩=some (.string t)) (first|(exact ⟨by assumption,by assumption⟩)|(exact ⟨c1',x1⟩)|go_keep) (first|(go_at_call 104;refine (HB.out _ rfl).mono ?_;rintro e w1 ⟨rfl,HP,y1,y2,y6,f6⟩))
 all_goals (
  go_wp2_with fail
  go_end0
  obtain ⟨own',a1,a2,a3⟩:=HP.out;have a4:=a1.sett false;exact ⟨rfl,own',a4.1,a2.trans a3 a4.2,Nat.le_trans a3 (Kp.set _ g 6 (.bool false)).size⟩)
theorem su (h:PS B w0 own W g gs n p) {U:Nat}(hp:Bp p U) (hU:U<=268435456) (need:Nat) :
  Da 60 #[.pointer (some ⟨g,0,none⟩),.agg #[.int .u8 2,.string ⟨#[]⟩,.int .i64 0,.int .i64 0,.bool false],.int .i64 need] W fun e w'=>e=.returned (.tuple #[])/\PA B w0 own W g gs n (p.hold 1) w':=by
 have HB:Hid (∀o,Da 105 #[.pointer (some ⟨g,0,none⟩),.int .i64 1] (W.alloc o) fun e w'=>e=.returned (.tuple #[])/\PA B w0 own W g gs n (p.hold 1) w'):=fun o=>
  (nN (h.box o).1 hp hU 1 (by omega)).mono fun e w' ⟨h1,h2⟩=>⟨h1,PA.of h o h2⟩
 clear h hp
 go_enter Tryz.func60,Tryz.ntmps60
 go_wp2_with (go_at_call 105;refine (HB.out _).mono ?_;rintro e w1 ⟨rfl,h1⟩)
 go_end0
 exact ⟨rfl,h1⟩
theorem uO (h:PS B w0 own W g gs n p) {U:Nat}(hp:Bp p U) (hU:U<=268435456) (need:Nat) :
  Da 60 #[.pointer (some ⟨g,0,none⟩),.agg #[.int .u8 4,.string ⟨#[]⟩,.int .i64 0,.int .i64 0,.bool false],.int .i64 need] W fun e w'=>e=.returned (.tuple #[])/\PA B w0 own W g gs n p.endl w':=by
 have HB:Hid (∀o,Da 107 #[.pointer (some ⟨g,0,none⟩)] (W.alloc o) fun e w'=>e=.returned (.tuple #[])/\PA B w0 own W g gs n p.endl w'):=fun o=>
  (nZ (h.box o).1 hp hU).mono fun e w' ⟨h1,h2⟩=>⟨h1,PA.of h o h2⟩
 clear h hp
 go_enter Tryz.func60,Tryz.ntmps60
 go_wp2_with (go_at_call 107;refine (HB.out _).mono ?_;rintro e w1 ⟨rfl,h1⟩)
 go_end0
 exact ⟨rfl,h1⟩
theorem xX (h:PS B w0 own W g gs n p) {U:Nat}(hp:Bp p U) (hU:U<=268435456) (need:Nat) (hnd:need<=1000000) (hn:n<=4096) (m:Nat) (hm:m<=1000) :
  Da 60 #[.pointer (some ⟨g,0,none⟩),.agg #[.int .u8 3,.string ⟨#[]⟩,.int .i64 m,.int .i64 0,.bool false],.int .i64 need] W fun e w'=>e=.returned (.tuple #[])/\PA B w0 own W g gs n (if p.brk n need then p.endl else p.hold m) w':=by
 obtain ⟨W1,hW1⟩:∃W1,W.alloc (.cells #[.int .u8 3,.string ⟨#[]⟩,.int .i64 m,.int .i64 0,.bool false] 57)=W1:=⟨_,rfl⟩;have hbx:=h.box (.cells #[.int .u8 3,.string ⟨#[]⟩,.int .i64 m,.int .i64 0,.bool false] 57)
 have hof:∀V,Below W1.heap.size W1 V->PS B w0 own V g gs n p/\Sd own own W V/\W.heap.size<=V.heap.size:=by
  intro V hV;obtain ⟨b1,b2,b3,b4,b5⟩:=hbx;rw [hW1] at b1 b4 b5;exact ⟨b1.below hV,b4.trans b5 (fun k hk h0=>⟨hV.block k hk,h0⟩),Nat.le_trans b5 hV.size⟩
 have HK:Hid (Da 106 #[.pointer (some ⟨g,0,none⟩),.int .i64 need] W1 fun e w'=>e=.returned (.bool (p.brk n need))/\Db W1 w'):=by
  rw [<-hW1];exact pQ hbx.1 hp hU need hnd hn
 have x2:∀V,Below W1.heap.size W1 V->V.cell? ⟨W.heap.size,2,none⟩=some (.int .i64 m):=fun V hV=>by
  have b2:=hbx.2.1;rw [hW1] at b2;exact aa (ab b2 hV) rfl
 have HX:Hid (∀V,Db W1 V->V.cell? ⟨W.heap.size,2,none⟩=some (.int .i64 m)):=x2
 have HH:Hid (∀V,Db W1 V->Da 105 #[.pointer (some ⟨g,0,none⟩),.int .i64 m] V fun e w'=>e=.returned (.tuple #[])/\PA B w0 own W g gs n (p.hold m) w'):=fun V hV=>by
  obtain ⟨a1,a2,a3⟩:=hof V hV;refine (nN a1 hp hU m hm).mono ?_;rintro e w' ⟨rfl,own',d1,d2,d3⟩;exact ⟨rfl,own',d1,a2.trans a3 d2,Nat.le_trans a3 d3⟩
 have HE:Hid (∀V,Db W1 V->Da 107 #[.pointer (some ⟨g,0,none⟩)] V fun e w'=>e=.returned (.tuple #[])/\PA B w0 own W g gs n p.endl w'):=fun V hV=>by
  obtain ⟨a1,a2,a3⟩:=hof V hV;refine (nZ a1 hp hU).mono ?_;rintro e w' ⟨rfl,own',d1,d2,d3⟩;exact ⟨rfl,own',d1,a2.trans a3 d2,Nat.le_trans a3 d3⟩
 have HW1:Hid (W.alloc (.cells #[.int .u8 3,.string ⟨#[]⟩,.int .i64 m,.int .i64 0,.bool false] 57)=W1):=hW1;clear hbx hof x2 h hp hW1
 generalize p.brk n need=b at *
 cases b
 ·go_enter Tryz.func60,Tryz.ntmps60
  go_wp2_with fail
  rw [HW1.out];refine HK.out.mono ?_;rintro e w1 ⟨rfl,hb1⟩;have y2:=HX.out _ hb1;have HB1:Hid (Db W1 w1):=hb1;clear hb1
  go_wp2_with (first|(go_at_call 105;refine (HH.out _ HB1.out).mono ?_;rintro e w2 ⟨rfl,h2⟩))
  go_end0
  exact ⟨rfl,h2⟩
 ·go_enter Tryz.func60,Tryz.ntmps60
  go_wp2_with fail
  rw [HW1.out];refine HK.out.mono ?_;rintro e w1 ⟨rfl,hb1⟩;have HB1:Hid (Db W1 w1):=hb1;clear hb1
  go_wp2_with (first|(go_at_call 107;refine (HE.out _ HB1.out).mono ?_;rintro e w2 ⟨rfl,h2⟩))
  go_end0
  exact ⟨rfl,h2⟩
theorem sp (h:PS B w0 own W g gs n p) {U:Nat}(hp:Bp p U) (hU:U<=268435456) (need:Nat) :
  Da 60 #[.pointer (some ⟨g,0,none⟩),.agg #[.int .u8 5,.string ⟨#[]⟩,.int .i64 0,.int .i64 0,.bool false],.int .i64 need] W fun e w'=>e=.returned (.tuple #[])/\PA B w0 own W g gs n (if p.en then { p with sk:=p.sk.empty,en:=false } else p) w':=by
 obtain ⟨W1,hW1⟩:∃W1,W.alloc (.cells #[.int .u8 5,.string ⟨#[]⟩,.int .i64 0,.int .i64 0,.bool false] 57)=W1:=⟨_,rfl⟩;obtain ⟨b1,b2,b3,b4,b5⟩:=h.box (.cells #[.int .u8 5,.string ⟨#[]⟩,.int .i64 0,.int .i64 0,.bool false] 57);have hlt:=h.lt;have c6:=h.c6;have c1:=h.c1;rw [hW1] at b1 b4 b5;have hout:=hp.out
 have HB:Hid (Da 108 #[.pointer (some ⟨gs,0,none⟩)] W1 fun e w'=>e=.returned (.int .i64 0)/\Hid (PA B w0 own W g gs n { p with sk:=p.sk.empty } w')/\w'.cell? ⟨g,6,none⟩=some (.bool p.en)/\w'.frozen? ⟨g,6,none⟩=false):=by
  refine (wh b1.sk b1.en (by omega) (by omega)).mono ?_;rintro e w' ⟨rfl,ha⟩;obtain ⟨own',a1,a2,a3⟩:=b1.sink ha;exact ⟨rfl,⟨own',a1,b4.trans b5 a2,Nat.le_trans b5 a3⟩,a1.c6,a1.fz 6⟩
 have HE:Hid (PA B w0 own W g gs n p W1):=⟨own,b1,b4,b5⟩;have HW1:Hid (W.alloc (.cells #[.int .u8 5,.string ⟨#[]⟩,.int .i64 0,.int .i64 0,.bool false] 57)=W1):=hW1;clear b1 b2 b4 b5 h hp hW1;cases he:p.en
 ·rw [he] at c6
  go_enter Tryz.func60,Tryz.ntmps60
  go_wp2_with fail
  go_end0
  rw [HW1.out];exact ⟨rfl,HE.out⟩
 ·rw [he] at c6
  go_enter Tryz.func60,Tryz.ntmps60
  go_wp2_with fail
  rw [HW1.out];refine HB.out.mono ?_;rintro e w1 ⟨rfl,HP,y6,f6⟩
  go_wp2_with fail
  go_end0
  obtain ⟨own',a1,a2,a3⟩:=HP.out;have a4:=a1.sett false;exact ⟨rfl,own',a4.1,a2.trans a3 a4.2,Nat.le_trans a3 (Kp.set _ g 6 (.bool false)).size⟩
end
section
variable {B:Nat} {w0:World} {own:Nat->Nat} {W:World} {g gs n:Nat} {p:Pr}
theorem PS.turn (h:PS B w0 own W g gs n p) {own':Nat->Nat}{W':World}{p':Pr}(hf:Fr 2 own own' W W') (hn:Nf own' W') (hsk:p'.sk=p.sk)
  (hpr:∃v,W'.heap[g]?=some (.cells (prc n gs p'.bl v p'.en) 117 (0,0))/\(W'.ownsRow 0 114 3 v p'.ar.length (aW bkc p'.ar.reverse)/\∀k,v.ownBlock=some k->own' k=2)) :
  PS B w0 own' W' g gs n p'/\Sd own own' W W'/\W.heap.size<=W'.heap.size:=by
 have hbl:=h.bl;refine ⟨⟨h.en.fr (by omega) hn hf,fun k hk=>(hf.old k (by omega)).trans (h.lo k hk),h.bel.trans (hf.below hbl h.lo (by omega)),h.hB,?_,hpr,(hf.old g h.lt).trans h.lab⟩,fun k hk h0=>⟨hf.block k hk (by rw [h0];omega),(hf.old k hk).trans h0⟩,hf.size⟩;rw [hsk];exact h.sk.kept hf (by omega)
theorem PS.push (h:PS B w0 own W g gs n p) {v v2:Value}{w2:World}(h1:W.heap[g]?=some (.cells (prc n gs p.bl v p.en) 117 (0,0))) (h2:W.ownsRow 0 114 3 v p.ar.length (aW bkc p.ar.reverse)) (h3:∀k,v.ownBlock=some k->own k=2)
  (ho2:w2.ownsRow 0 114 3 v2 (p.ar.length+1) (aW bkc p.ar.reverse++bkc p.bl)) (hg:W.grownBy w2 v.ownBlock) (hat:v2.ownBlock=v.ownBlock\/v2.ownBlock=some W.heap.size) :
  (∃own',PS B w0 own' (w2.setCell ⟨g,5,none⟩ v2) g gs n { p with ar:=p.bl :: p.ar }/\Sd own own' W (w2.setCell ⟨g,5,none⟩ v2)/\W.heap.size<=(w2.setCell ⟨g,5,none⟩ v2).heap.size)/\w2.heap[g]?=some (.cells (prc n gs p.bl v p.en) 117 (0,0)):=by
 have hk:=Kp.of_grown hg;have r1:=aA h2 h1 (by decide);have g1:w2.heap[g]?=some (.cells (prc n gs p.bl v p.en) 117 (0,0)):=hk.blk h1 (fun e=>r1 e.symm);have r2:=aA ho2 g1 (by decide);have ks:=Kp.set w2 g 5 v2;have lt2:=fun k hk=>(ho2.lt k hk).2
 have hlt:=h.lt;have kall:Kp (fun k=>own k=2) W (w2.setCell ⟨g,5,none⟩ v2):=((Kp.refl (fun k=>own k=2) W).step hk (fun j _ e=>h3 j e.symm)).step ks (fun j _ e=>by subst e;exact h.lab);refine ⟨⟨fun k=>if k<W.heap.size then own k else if v2.ownBlock=some k then 2 else 0,h.turn (kall.fr (fun k _ e=>e) (fun k hk=>if_pos hk)) ?_ rfl ⟨v2,?_,?_,?_⟩⟩,g1⟩
 ·intro k hkk;show (if k<W.heap.size then own k else if v2.ownBlock=some k then 2 else 0)=0;have:=kall.size;rw [if_neg (by omega),if_neg];intro e;have h4:=lt2 k e;have h5:=ks.size;omega
 ·exact af g1 5 _
 ·refine ks.row ?_ (fun k e1 e2=>r2 (by rw [e1,e2]))
  have:aW bkc (p.bl :: p.ar).reverse=aW bkc p.ar.reverse++bkc p.bl:=by
   rw [List.reverse_cons,bQ];simp [aW]
  show w2.ownsRow 0 114 3 v2 (p.ar.length+1) (aW bkc (p.bl :: p.ar).reverse)
  rw [this];exact ho2
 ·intro k e;show (if k<W.heap.size then own k else if v2.ownBlock=some k then 2 else 0)=2
  by_cases hkk:k<W.heap.size
  ·rw [if_pos hkk]
   rcases hat with e2|e2
   ·exact h3 k (by rw [<-e2];exact e)
   ·rw [e2] at e;injection e with e;omega
  ·rw [if_neg hkk,if_pos e]
theorem PS.setb (h:PS B w0 own W g gs n p) (b:Bk):PS B w0 own (((W.setCell ⟨g,2,none⟩ (.int .i64 b.ind)).setCell ⟨g,3,none⟩ (.bool b.ev)).setCell ⟨g,4,none⟩ (.bool b.ft)) g gs n { p with bl:=b }/\Sd own own W (((W.setCell ⟨g,2,none⟩ (.int .i64 b.ind)).setCell ⟨g,3,none⟩ (.bool b.ev)).setCell ⟨g,4,none⟩ (.bool b.ft))/\W.heap.size<=(((W.setCell ⟨g,2,none⟩ (.int .i64 b.ind)).setCell ⟨g,3,none⟩ (.bool b.ev)).setCell ⟨g,4,none⟩ (.bool b.ft)).heap.size:=by
 obtain ⟨v,h1,h2,h3⟩:=h.pr;have r1:=aA h2 h1 (by decide);have k3:=((Kp.set W g 2 (.int .i64 b.ind)).trans (Kp.set _ g 3 (.bool b.ev))).trans (Kp.set _ g 4 (.bool b.ft));refine h.turn ((((Fr.refl 2 own W).set' h.lab 2 _).set' h.lab 3 _).set' h.lab 4 _) (h.en.nf.below k3.size) rfl ⟨v,af (af (af h1 2 _) 3 _) 4 _,k3.row h2 (fun k e1 e2=>r1 (by rw [e1,e2])),h3⟩
end
theorem xD {ops:Array Oper}{o:Oper}{a:Act}{K:Act->World->Prop}{Q:Exit->Act->World->Prop}{E:Prop}(hgd:o.guard=none) (s x:Operand)
  (ho:o.op=.call { callee:=.builtin .append,args:=#[s,x],argTypes:=#[115,115] }) (v:Value) (l:List Bk) (b:Bk) (hs:a.eval s=v) (hr:W.ownsRow 0 114 3 v l.length (aW bkc l.reverse))
  (g c:Nat) (hx:a.eval x=.slice (some ⟨g,0,none⟩) 1 c) (hg:W.heap[g]?=some (.cells #[.int .i64 b.ind,.bool b.ev,.bool b.ft] 114 (0,0))) (hl:l.length<=1000000000)
  (h:∀q cap w',w'.ownsRow 0 114 3 (.slice (some ⟨q,0,none⟩) (l.length+1) cap) (l.length+1) (aW bkc l.reverse++bkc b)->W.grownBy w' v.ownBlock->(v.ownBlock=some q\/q=W.heap.size)->K (a.put o.dst (.slice (some ⟨q,0,none⟩) (l.length+1) cap)) w') :
  if Region.wanted o (yielded ops a.tmps)=true then Oper.wp Tryz.prog o a W K Q else E:=by
 obtain ⟨i0,hi,hz0,hz1,hz2⟩:=info_parts Tryz.info114;refine step_append_lies W hgd s x 115 ho 0 114 i0 (.agg #[.int .i64 0,.bool false,.bool false]) 3 16 Tryz.underlying115 hi hz0 hz1 hz2 rfl (by decide) v _ _ hs hr ⟨g,0,none⟩ 1 c (bkc b) hx rfl ?_ ?_ (by omega) (by unfold maxLen;omega) (by omega) (Nat.zero_le _) _ rfl ?_
 ·intro j u hu;exact World.news_of_block hg j u (by simpa [bkc] using hu)
 ·intro u hu;simp [bkc] at hu;rcases hu with rfl|rfl|rfl <;> rfl
 ·intro q cap w' a1 a2 a3 _;exact h q cap w' a1 a2 a3
theorem xY {own:Nat->Nat}(h:PS B w0 own W g gs n p) {U:Nat}(hp:Bp p U) (hU:U<=268435456) (need:Nat) (hnd:need<=1000000) (hn:n<=4096) (hl:p.ar.length<=1000000000) (m:Nat) (hm:m<=1000) (e:Bool) :
  Da 60 #[.pointer (some ⟨g,0,none⟩),.agg #[.int .u8 6,.string ⟨#[]⟩,.int .i64 0,.int .i64 m,.bool e],.int .i64 need] W fun x w'=>x=.returned (.tuple #[])/\PA B w0 own W g gs n { p with ar:=p.bl :: p.ar,bl:=⟨min (p.bl.ind+m) 1000,e,p.fits n need⟩ } w':=by
 obtain ⟨W1,hW1⟩:∃W1,W.alloc (.cells #[.int .u8 6,.string ⟨#[]⟩,.int .i64 0,.int .i64 m,.bool e] 57)=W1:=⟨_,rfl⟩;obtain ⟨b1,b2,b3,b4,b5⟩:=h.box (.cells #[.int .u8 6,.string ⟨#[]⟩,.int .i64 0,.int .i64 m,.bool e] 57);rw [hW1] at b1 b2 b4 b5;obtain ⟨v,h1,h2,h3⟩:=b1.pr;have hlt:=b1.lt;have c2:=b1.c2;have c3:=b1.c3;have c4:=b1.c4;have f5:=b1.fz 5;have c5:W1.cell? ⟨g,5,none⟩=some v:=aa h1 rfl;have x3:W1.cell? ⟨W.heap.size,3,none⟩=some (.int .i64 m):=aa b2 rfl;have x4:W1.cell? ⟨W.heap.size,4,none⟩=some (.bool e):=aa b2 rfl;obtain ⟨pp,cap,rfl,_,_⟩:=av h2;have HW1:Hid (W.alloc (.cells #[.int .u8 6,.string ⟨#[]⟩,.int .i64 0,.int .i64 m,.bool e] 57)=W1):=hW1;have HR:Hid (∀V,Below W1.heap.size W1 V->V.ownsRow 0 114 3 (.slice pp p.ar.length cap) p.ar.length (aW bkc p.ar.reverse)):=fun V hV=>aO h2 hV
 have HA:Hid (∀V q cap2 w2,Below W1.heap.size W1 V->w2.ownsRow 0 114 3 (.slice (some ⟨q,0,none⟩) (p.ar.length+1) cap2) (p.ar.length+1) (aW bkc p.ar.reverse++bkc p.bl)->V.grownBy w2 (Value.slice pp p.ar.length cap).ownBlock->((Value.slice pp p.ar.length cap).ownBlock=some q\/q=V.heap.size) ->
   Hid (PA B w0 own W g gs n { p with ar:=p.bl :: p.ar } (w2.setCell ⟨g,5,none⟩ (.slice (some ⟨q,0,none⟩) (p.ar.length+1) cap2))/\(w2.setCell ⟨g,5,none⟩ (.slice (some ⟨q,0,none⟩) (p.ar.length+1) cap2)).heap[W.heap.size]?=some (.cells #[.int .u8 6,.string ⟨#[]⟩,.int .i64 0,.int .i64 m,.bool e] 57 (0,0)))/\(w2.cell? ⟨g,2,none⟩=some (.int .i64 p.bl.ind)/\w2.cell? ⟨g,3,none⟩=some (.bool p.bl.ev)/\w2.cell? ⟨g,4,none⟩=some (.bool p.bl.ft)/\w2.cell? ⟨g,5,none⟩=some (.slice pp p.ar.length cap))/\w2.frozen? ⟨g,5,none⟩=false):=by
  intro V q cap2 w2 hV a1 a2 a3;have hPV:=b1.below hV;obtain ⟨⟨own',d1,d2,d3⟩,d4⟩:=hPV.push (ab h1 hV) (aO h2 hV) h3 a1 a2 (by rcases a3 with a|a;exact .inl a.symm;exact .inr (by rw [a];rfl));have hs:Sd own own W1 V:=fun k hk h0=>⟨hV.block k hk,h0⟩
  have hs2:=(b4.trans b5 hs).trans (Nat.le_trans b5 hV.size) d2;have hs3:=hs.trans hV.size d2;refine ⟨⟨⟨own',d1,hs2,Nat.le_trans (Nat.le_trans b5 hV.size) d3⟩,(hs3 _ (ap b2) b3).1.trans b2⟩,⟨aa d4 rfl,aa d4 rfl,aa d4 rfl,aa d4 rfl⟩,ak d4⟩
 clear hW1
 go_enter Tryz.func60,Tryz.ntmps60
 go_wp2_with fail
 rw [HW1.out]
 go_region_law (refine xD (by rfl) _ _ (by rfl) _ p.ar p.bl (by rfl) (HR.out _ (by first|exact ((Below.refl _ _).alloc (Nat.le_refl _) _).drew|exact ((Below.refl _ _).drew).alloc (Nat.le_refl _) _)) W1.heap.size 1 (by rfl) (by first|exact am _ _|exact am W1.drew _) hl ?_;intro q cap2 w2 ho2 hg2 hat;obtain ⟨HP2,HS2,z5⟩:=HA.out _ _ _ _ (by first|exact ((Below.refl _ _).alloc (Nat.le_refl _) _).drew|exact ((Below.refl _ _).drew).alloc (Nat.le_refl _) _) ho2 hg2 hat;obtain ⟨y2,y3,y4,y5⟩:=HS2)
 all_goals (
  obtain ⟨W3,hW3⟩:∃W3,w2.setCell ⟨g,5,none⟩ (.slice (some ⟨q,0,none⟩) (p.ar.length+1) cap2)=W3:=⟨_,rfl⟩;obtain ⟨⟨own3,d1,d2,d3⟩,dx⟩:=HP2.out;rw [hW3] at d1 d2 d3 dx ⊢;clear HP2 hg2 hat ho2 y2 y3 y4 y5 z5 hW3;have y2:=d1.c2;have x3':W3.cell? ⟨W.heap.size,3,none⟩=some (.int .i64 m):=aa dx rfl;have x4':W3.cell? ⟨W.heap.size,4,none⟩=some (.bool e):=aa dx rfl;have HF:Hid (∀V,Below W3.heap.size W3 V->Da 109 #[.pointer (some ⟨g,0,none⟩),.int .i64 need] V fun e w'=>e=.returned (.bool (p.fits n need))/\Below V.heap.size V w'):=fun V hV=>kI (p:={ p with ar:=p.bl :: p.ar }) (d1.below hV) ⟨hp.out,hp.col,hp.ind,fun b hb=>by rcases List.mem_cons.1 hb with rfl|hb;exact hp.ind;exact hp.ar b hb,hp.wt⟩ hU need hnd hn
  have HE:Hid (∀V,Below W3.heap.size W3 V->PA B w0 own W g gs n { p with ar:=p.bl :: p.ar,bl:=⟨min (p.bl.ind+m) 1000,e,p.fits n need⟩ } (((V.setCell ⟨g,2,none⟩ (.int .i64 (min (p.bl.ind+m) 1000:Nat))).setCell ⟨g,3,none⟩ (.bool e)).setCell ⟨g,4,none⟩ (.bool (p.fits n need)))/\V.cell? ⟨g,2,none⟩=some (.int .i64 p.bl.ind)/\V.cell? ⟨g,3,none⟩=some (.bool p.bl.ev)/\V.cell? ⟨g,4,none⟩=some (.bool p.bl.ft)/\V.frozen? ⟨g,2,none⟩=false/\V.frozen? ⟨g,3,none⟩=false/\V.frozen? ⟨g,4,none⟩=false/\V.cell? ⟨W.heap.size,4,none⟩=some (.bool e)):=by
   intro V hV;have hPV:=d1.below hV;obtain ⟨k1,k2,k3⟩:=hPV.setb ⟨min (p.bl.ind+m) 1000,e,p.fits n need⟩;have hs:Sd own3 own3 W3 V:=fun k hk h0=>⟨hV.block k hk,h0⟩
   exact ⟨⟨own3,k1,(d2.trans d3 hs).trans (Nat.le_trans d3 hV.size) k2,Nat.le_trans (Nat.le_trans d3 hV.size) k3⟩,hPV.c2,hPV.c3,hPV.c4,hPV.fz 2,hPV.fz 3,hPV.fz 4,aa (ab dx hV) rfl⟩
  have hind:=hp.ind;have emin:min ((p.bl.ind:Int)+m) 1000=((min (p.bl.ind+m) 1000:Nat):Int):=by omega
  have glt:g<W3.heap.size:=d1.lt;clear d1 d2 d3 dx h hp b1 b2 b3 b4 b5 h1 h2 h3 c2 c3 c4 c5 f5 x3 x4 HA HR HW1;obtain ⟨M,hM⟩:∃M,min (p.bl.ind+m) 1000=M:=⟨_,rfl⟩;rw [hM] at HE emin;have HM:Hid (min (p.bl.ind+m) 1000=M):=hM;clear hM
  go_wp2_with fail
  go_region
  all_goals (
   go_wp2_with fail
   have y3':=(HE.out _ (Below.refl _ W3).drew).2;obtain ⟨v2,v3,v4,u2,u3,u4,v5⟩:=y3'
   go_region_with (first|(go_at_call 109;refine (HF.out _ (by first|exact (Below.refl _ _).drew.drew|exact (Below.refl _ _).drew)).mono ?_;rintro e w4 ⟨rfl,hb4⟩;obtain ⟨HP4,r2,r3,r4,q2,q3,q4,r5⟩:=HE.out _ ((Below.refl _ W3).drew.drew.trans (hb4.mono (Nat.le_refl _)))))
   all_goals (
    go_wp2_with fail
    go_end0
    rw [HM.out];exact ⟨rfl,HP4⟩)))
theorem PS.pop {own:Nat->Nat}(h:PS B w0 own W g gs n p) {b:Bk}{r:List Bk}(hr:p.ar=b :: r):∃q cap,W.cell? ⟨g,5,none⟩=some (.slice (some ⟨q,0,none⟩) (r.length+1) cap)/\r.length+1<=cap/\cap<=maxLen/\W.cell? ⟨q,r.length*3,none⟩=some (.int .i64 b.ind)/\W.cell? ⟨q,r.length*3+1,none⟩=some (.bool b.ev)/\W.cell? ⟨q,r.length*3+2,none⟩=some (.bool b.ft)/\q≠g /\
  PA B w0 own W g gs n { p with bl:=b,ar:=r } ((((W.setCell ⟨g,2,none⟩ (.int .i64 b.ind)).setCell ⟨g,3,none⟩ (.bool b.ev)).setCell ⟨g,4,none⟩ (.bool b.ft)).setCell ⟨g,5,none⟩ (.slice (some ⟨q,0,none⟩) r.length cap)):=by
 obtain ⟨v,h1,h2,h3⟩:=h.pr;rw [hr] at h2;obtain ⟨q,cap,rfl,c1,c2,c3,c4,cur,c5⟩:=qn zp h2;have r1:=aA h2 h1 (by decide);have hqg:q≠g:=fun e=>r1 (by rw [e];rfl)
 have k4:=(((Kp.set W g 2 (.int .i64 b.ind)).trans (Kp.set _ g 3 (.bool b.ev))).trans (Kp.set _ g 4 (.bool b.ft))).trans (Kp.set _ g 5 (.slice (some ⟨q,0,none⟩) r.length cap));refine ⟨q,cap,aa h1 rfl,c1,c2,c4 0 _ rfl,c4 1 _ rfl,c4 2 _ rfl,hqg,own,?_⟩;refine h.turn (((((Fr.refl 2 own W).set' h.lab 2 _).set' h.lab 3 _).set' h.lab 4 _).set' h.lab 5 _) (h.en.nf.below k4.size) rfl ⟨.slice (some ⟨q,0,none⟩) r.length cap,af (af (af (af h1 2 _) 3 _) 4 _) 5 _,k4.row c3 (fun k e1 e2=>by cases e1;exact hqg e2),fun k hk=>h3 k (by cases hk;rfl)⟩
theorem xW {own:Nat->Nat}(h:PS B w0 own W g gs n p) (need:Nat) {b:Bk}{r:List Bk}(hr:p.ar=b :: r) (hl:r.length<=1000000000) :
  Da 60 #[.pointer (some ⟨g,0,none⟩),.agg #[.int .u8 7,.string ⟨#[]⟩,.int .i64 0,.int .i64 0,.bool false],.int .i64 need] W fun x w'=>x=.returned (.tuple #[])/\PA B w0 own W g gs n { p with bl:=b,ar:=r } w':=by
 have c2:=h.c2;have c3:=h.c3;have c4:=h.c4;have f2:=h.fz 2;have f3:=h.fz 3;have f4:=h.fz 4;have f5:=h.fz 5;have glt:=h.lt;obtain ⟨q,cap,c5,d1,d2,q0,q1,q2,hqg,own',e1,e2,e3⟩:=h.pop hr;have hgq:g≠q:=Ne.symm hqg;have hq:q<W.heap.size:=World.block_lt_of_cell? _ _ q0
 have HP:Hid (∀o,PA B w0 own W g gs n { p with bl:=b,ar:=r } (((((W.setCell ⟨g,2,none⟩ (.int .i64 b.ind)).setCell ⟨g,3,none⟩ (.bool b.ev)).setCell ⟨g,4,none⟩ (.bool b.ft)).setCell ⟨g,5,none⟩ (.slice (some ⟨q,0,none⟩) r.length cap)).alloc o).drew):=by
  intro o;have hbl:=((Below.refl _ ((((W.setCell ⟨g,2,none⟩ (.int .i64 b.ind)).setCell ⟨g,3,none⟩ (.bool b.ev)).setCell ⟨g,4,none⟩ (.bool b.ft)).setCell ⟨g,5,none⟩ (.slice (some ⟨q,0,none⟩) r.length cap))).alloc (Nat.le_refl _) o).drew;exact ⟨own',e1.below hbl,e2.trans e3 (fun k hk h0=>⟨hbl.block k hk,h0⟩),Nat.le_trans e3 hbl.size⟩
 have d2':cap<=9223372036854775807:=d2;clear e1 e2 e3 h
 go_enter Tryz.func60,Tryz.ntmps60
 go_wp2_with fail
 go_region
 all_goals (
  go_wp2_with fail
  go_end0
  exact ⟨rfl,HP.out _⟩)
theorem xZ {own:Nat->Nat}(h:PS B w0 own W g gs n p) {U:Nat}(hp:Bp p U) (hU:U<=268435456) (need:Nat) (hnd:need<=1000000) (hn:n<=4096) (hl:p.ar.length<=1000000000) (d:Dc) (hd:rt d=true) (h7:d.k=7->p.ar≠[]) :
  Da 60 #[.pointer (some ⟨g,0,none⟩),d.v,.int .i64 need] W fun e w'=>e=.returned (.tuple #[])/\PA B w0 own W g gs n (put n d need p) w':=by
 cases iA hd with
 |text t hq=>exact uM h hp hU need t (iO hq).2
 |brk m hq=>
  obtain ⟨q1,q2⟩:=lw hq;have:=xX h hp hU need hnd hn m.toNat (by omega);rw [show ((m.toNat:Nat):Int)=m by omega] at this;exact this
 |beg m e hq=>
  obtain ⟨q1,q2⟩:=lw hq;have:=xY h hp hU need hnd hn hl m.toNat (by omega) e;rw [show ((m.toNat:Nat):Int)=m by omega] at this;exact this
 |blank=>exact su h hp hU need
 |hard=>exact uO h hp hU need
 |empty=>exact sp h hp hU need
 | «end»=>
  cases ha:p.ar with
  |nil=>exact absurd ha (h7 rfl)
  |cons b r=>
   have:=xW h need ha (by rw [ha] at hl;simp at hl;omega)
   have e:put n ⟨7,bE,0,0,false⟩ need p={ p with bl:=b,ar:=r }:=by
    show ({ p with bl:=p.ar.headD ⟨0,false,false⟩,ar:=p.ar.tail }:Pr)=_
    rw [ha];rfl
   rw [e];exact this
end Go.Proofs.YtpdlohfdjiaegaaGreatDoor.Lw
