import Derived.Test.YtcmbkeghnmgbfaaGreatDoorM11
import Derived.Test.YtcmbkeghnmgbfaaGreatDoorM15
import Derived.Test.YtcmbkeghnmgbfaaGreatDoorM31
import Derived.Test.YtcmbkeghnmgbfaaGreatDoorM38
set_option linter.all false
set_option maxHeartbeats 4000000
namespace Go.Proofs.YtcmbkeghnmgbfaaGreatDoor
open Go.Proofs.Tryz
open Go.RowKit
open Lw (Dc rt ud S9 CE)
variable {i:Nat}{b1 b2 b3:Int}{vo vf vt:Value}
structure DS where
 ps:jd
 ss:pE
 z:S9
 T:Nat
 C:Nat
 o:Bool
 F:ByteArray
 n:Nat
 td:ByteArray
def emp:ByteArray:=⟨#[]⟩
def yT (s:ByteArray) (o:Bool) (F:ByteArray) (n:Nat):Bool × ByteArray × Nat:=
 if F.size-n<s.size\/(F.extract n (n+s.size)).data.toList≠s.data.toList then(true,emp,0)else if o=true then(o,F,n)else(o,F,n+s.size)
def Gm (s:ByteArray) (x:DS):Option DS:=
 let y:=yT s x.o x.F x.n
 if s.size<=1000000/\x.td.size+s.size<=1000000/\x.F.size<=1000000/\x.n<=x.F.size then some { x with o:=y.1,F:=y.2.1,n:=y.2.2,td:=x.td++s }else none
def ww (d:Dc) (x:DS):Option DS:=
 let r:=x.z.put 72 d
 if r.2=0/\d.t.size<=1000/\x.T+ud d<=1000000/\x.C+1<=1000000 then Gm ⟨(x.z.told r.1).toArray⟩ { x with z:=r.1,T:=x.T+ud d,C:=x.C+1 }else none
def CN (x:DS):Option DS:=
 let r:=x.z.close 72
 if r.2=0/\x.T<=1000000/\x.C<=1000000 then Gm ⟨(x.z.told r.1).toArray⟩ { x with z:=r.1 }else none
def fW:List Dc->DS->Option DS
 |[],x=>some x
 |d :: l,x=>match ww d x with
  |some y=>fW l y
  |none=>none
def Jw:pE->Bool
 |.done=>true
 |.live s=>decide (s.ws.length<=1000)&&decide (s.ns.length<=1000)&&s.ns.all (fun x=>decide (x.b<=1000))&&match s.mr with
  |none=>true
  |some m=>decide (m<=s.ws.length)
def wy (e:Ev) (x:DS):Option DS:=
 let r:=oo e x.ss
 if Jw x.ss=true/\e.d.t.size<=1000/\r.1=0 then fW r.2.1 { x with ss:=r.2.2 }else none
def CO (x:DS):Option DS:=
 let r:=ox x.ss
 if Jw x.ss=true/\r.1=0 then fW r.2.1 { x with ss:=r.2.2 }else none
def fk:List Ev->DS->Option DS
 |[],x=>some x
 |e :: l,x=>match wy e x with
  |some y=>fk l y
  |none=>none
def Aj (t:Tv) (x:DS):Option DS:=match DQ t x.ps with
 |some (ev,c,ps')=>if c=0 then fk ev { x with ps:=ps' }else none
 |none=>none
def cQ:List Tv->DS->Option DS
 |[],x=>some x
 |t :: l,x=>match Aj t x with
  |some y=>cQ l y
  |none=>none
def tm (x:DS):Option DS:=match x.ps with
 |.live K n=>if K.length=1 then(match fk [⟨3,1,cD⟩] { x with ps:=.shut }with
  |some y=>match CO y with
   |some w=>CN w
   |none=>none
  |none=>none)else none
 |_=>none
def pB (s:ByteArray) (x:DS):DS:=if x.o=true then x else { x with F:=x.F++s }
def dP (x:DS):DS:=if x.F.size-x.n<=x.n then { x with F:=x.F.extract x.n x.F.size,n:=0 }else x
def D0:DS:=⟨.live [] 0,.live IG,CE,0,0,false,emp,0,emp⟩
abbrev mu:ByteArray:=⟨#[112,114,111,103,114,97,109,32,112,59,98,101,103]⟩
abbrev Ff:ByteArray:=⟨#[105,110,32,115,107,105,112,32,101,110,100,46]⟩
abbrev sj:ByteArray:=⟨#[112,114,111,103,114,97,109,32,112,59,98,101,103,105,110,32,115,107,105,112,32,101,110,100,46]⟩
abbrev JX:ByteArray:=⟨#[112,114,111,103,114,97,109,32,112,59,10,98,101,103,105,110,10,32,32,115,107,105,112,10,101,110,100,46,10]⟩
def zu:List Lx.Tk:=(Lx.scn mu).1.take 3
def FG:List Lx.Tk:=((Lx.scn sj).1.drop 3).take 3
def ID:List Lx.Tk:=(Lx.scn sj).1.drop 6
def IM:Bool:=match cQ (zu.map (Lx.tv mu)) (pB mu D0)with
 |some x=>match cQ (FG.map (Lx.tv sj)) (pB Ff { dP x with td:=emp })with
  |some y=>match cQ (ID.map (Lx.tv sj)) { dP y with td:=emp }with
   |some z=>match tm z with
    |some w=>w.o&&decide (x.F.size<=1000)&&decide (x.n<=x.F.size)&&decide (y.F.size<=1000000)&&decide (y.n<=y.F.size)&&decide ((x.td++y.td++w.td).data.toList=JX.data.toList)
    |none=>false
   |none=>false
  |none=>false
 |none=>false
theorem DF:IM=true:=by kernel_rfl
open Lx (je fJ)
inductive j0|live (S:ByteArray) (T:List Lx.Tk) (k b f:Nat)|shut
def Lq (own:Nat->Prop) (W:World) (g:Nat):j0->Prop
 |.live S T k b f=>Lx.LZ own W g S T k b f
 |.shut=>own g/\Lx.Ir W g
theorem Lq.kp {own U:Nat->Prop}{W W':World}{g:Nat}{L:j0}(h:Lq own W g L) (F:Kp U W W') (u:∀q,own q->¬U q):Lq own W' g L:=by
 cases L with
 |live S T k b f=>exact Lx.LZ.kp h F u
 |shut=>exact⟨h.1,F.blk h.2 (u _ h.1)⟩
structure fh (R:(Nat->Prop)->World->Nat->Nat->S9->Prop):Prop where
 sub:∀S S' W g N s,R S W g N s->(∀k,k<W.heap.size->S k->S' k)->R S' W g N s
 oth:∀S T W W' g N s,R S W g N s->Kp T W W'->(∀k,k<W.heap.size->S k->¬T k)->R S W' g N s
 new:∀S (n:Nat) W,1<=n->n<=4096->Lx.Nw S W.heap.size->Lw.ib W->Kb 20 #[.int .i64 (n:Int)] W fun e w'=>∃g,e=.returned (.tuple #[.pointer (some ⟨g,0,none⟩),.int .i64 0])/\R S w' g n CE/\Below W.heap.size W w'
 put:∀S W g N s d T C,R S W g N s->Lx.Nw S W.heap.size->Lw.ib W->N<=4096->Lw.ef s T C->d.t.size<=9223372036854775807->T+ud d<=2147483647->C+1<=100000000->Kb 76 #[.pointer (some ⟨g,0,none⟩),.agg #[.int .u8 d.k,.string d.t,.int .i64 d.b,.int .i64 d.i,.bool d.e]] W fun e w'=>e=.returned (.tuple #[.string ⟨(s.told (s.put N d).1).toArray⟩,.int .i64 (s.put N d).2])/\R S w' g N (s.put N d).1/\Kp S W w'
 close:∀S W g N s T C,R S W g N s->Lx.Nw S W.heap.size->Lw.ib W->N<=4096->Lw.ef s T C->T<=2147483647->C<=100000000->Kb 79 #[.pointer (some ⟨g,0,none⟩)] W fun e w'=>e=.returned (.tuple #[.string ⟨(s.told (s.close N).1).toArray⟩,.int .i64 (s.close N).2])/\R S w' g N (s.close N).1/\Kp S W w'
open Classical in
noncomputable def rc2 (c:Nat->Nat) (i:Nat) (S:Nat->Prop):Nat->Nat:=fun k=>if S k then i else if c k=i then 0 else c k
theorem qr {c:Nat->Nat}{S:Nat->Prop}(F:i≠0):(fun k=>rc2 c i S k=i)=S:=by
 funext k
 apply propext
 unfold rc2
 by_cases h:S k
 ·rw[Kd h];exact⟨fun _=>h,fun _=>rfl⟩
 ·rw[IO h]
  by_cases u:c k=i
  ·rw[Kd u];exact⟨fun e=>absurd e.symm F,fun e=>absurd e h⟩
  ·rw[IO u];exact⟨fun e=>absurd e u,fun e=>absurd e h⟩
theorem uY {c:Nat->Nat}{j:Nat}{S:Nat->Prop}(G:j≠0) (H:j≠i) (F:∀k,S k->c k=i\/c k=0):(fun k=>rc2 c i S k=j)=fun k=>c k=j:=by
 funext k
 apply propext
 unfold rc2
 by_cases h:S k
 ·rw[Kd h];have:=F k h;exact⟨fun e=>by omega,fun e=>by omega⟩
 ·rw[IO h]
  by_cases u:c k=i
  ·rw[Kd u];exact⟨fun e=>by omega,fun e=>by omega⟩
  ·rw[IO u]
structure Sp (c:Nat->Nat) (W:World) (c':Nat->Nat) (W':World):Prop where
 kp:Kp (fun k=>c k≠0) W W'
 z:∀k,k<W.heap.size->c k=0->c' k=0
theorem Sp.trans {c c1 c2:Nat->Nat}{W W1 u:World}(h:Sp c W c1 W1) (F:Sp c1 W1 c2 u):Sp c W c2 u:=
 ⟨h.kp.step F.kp (fun j I e H=>e (h.z j I H)),fun k G e=>F.z k (Kl G h.kp.size) (h.z k G e)⟩
theorem Sp.below {c:Nat->Nat}{W W':World}(u:Below W.heap.size W W'):Sp c W c W':=⟨Kp.of_below u,fun _ _ e=>e⟩
structure Gq where
 w0:World
 d:Nat
 gl:Nat
 gp:Nat
 gs:Nat
 gz:Nat
abbrev vS (q:Gq) (b1 b2 b3:Int) (vo:Value) (o:Bool) (vf:Value) (n:Nat) (vt:Value):Obj:=.cells #[.pointer (some ⟨q.gz,0,none⟩),.func (.func 26) #[.pointer (some ⟨q.d,0,none⟩)] #[],.int .i64 0,.int .i64 0,.int .i64 0,.int .i64 0,.pointer (some ⟨q.gl,0,none⟩),pt q.gp,bv q.gs,.int .i64 b1,.int .i64 (wrap64 b2),.int .i64 b3,vo,.bool o,vf,.int .i64 n,vt] 56 (0,0)
def Bk (q:Gq) (c:Nat->Nat) (W:World) (op:ByteArray) (X:DS):Prop:=
 ∃b1 b2 b3 vo vf vt,W.heap[q.d]?=some (vS q b1 b2 b3 vo X.o vf X.n vt)/\je (fun k=>c k=6) W vo op/\fJ (fun k=>c k=7) W vf X.F/\fJ (fun k=>c k=8) W vt X.td
structure DI (R:(Nat->Prop)->World->Nat->Nat->S9->Prop) (q:Gq) (c:Nat->Nat) (W:World) (L:j0) (op:ByteArray) (X:DS):Prop where
 be:Below q.w0.heap.size q.w0 W
 kab:Lx.fg q.w0
 tab:Lw.ib q.w0
 nf:∀k,W.heap.size<=k->c k=0
 lo:∀k,c k≠0->q.w0.heap.size<=k
 cd:c q.d=5
 bk:Bk q c W op X
 lx:Lq (fun k=>c k=1) W q.gl L
 ps:Pq (fun k=>c k=2) W q.gp X.ps
 gd:px X.ps
 ss:Sq (fun k=>c k=3) W q.gs X.ss
 z:R (fun k=>c k=4) W q.gz 72 X.z
 bd:Lw.ef X.z X.T X.C
structure FR (q:Gq) (c:Nat->Nat) (W:World) (i:Nat) (S:Nat->Prop) (W':World):Prop where
 be:Below q.w0.heap.size q.w0 W'
 nf:∀k,W'.heap.size<=k->rc2 c i S k=0
 lo:∀k,rc2 c i S k≠0->q.w0.heap.size<=k
 sf:(fun k=>rc2 c i S k=i)=S
 ot:∀j,j≠0->j≠i->(fun k=>rc2 c i S k=j)=fun k=>c k=j
 sp:Sp c W (rc2 c i S) W'
theorem DI.lt {R:(Nat->Prop)->World->Nat->Nat->S9->Prop}{q:Gq}{c:Nat->Nat}{W:World}{L:j0}{op:ByteArray}{X:DS}(h:DI R q c W L op X) {k:Nat}(u:c k≠0):k<W.heap.size:=by
 rcases LL k W.heap.size with a|a
 ·exact a
 ·exact absurd (h.nf k a) u
theorem DI.fr {R:(Nat->Prop)->World->Nat->Nat->S9->Prop}{q:Gq}{c:Nat->Nat}{W:World}{L:j0}{op:ByteArray}{X:DS}(h:DI R q c W L op X) {i:Nat}(J:i≠0) {S:Nat->Prop}{W':World}(G:Kp (fun k=>c k=i) W W') (H:∀k,S k->c k=i\/W.heap.size<=k) (hl:∀k,S k->k<W'.heap.size):FR q c W i S W':=by
 have O:=h.be.size;have I:∀k,S k->c k=i\/c k=0:=fun k e=>(H k e).imp id (fun a=>h.nf k a)
 refine⟨cy h.be G (fun k e=>h.lo k (by omega)) h.be.size,fun k u=>?_,fun k u=>?_,qr J,fun j F M=>uY F M I,G.sub (fun k e=>by show c k≠0;rw[e];exact J),fun k u e=>?_⟩
 ·have hz:=G.size;unfold rc2;rw[IO (fun e=>by have:=hl k e;omega)];have:=h.nf k (by omega)
  split
  ·rfl
  ·exact this
 ·rcases LL k q.w0.heap.size with a|a
  ·exfalso
   apply u
   have F:c k=0:=by
    rcases Nu (c k)with e|e
    ·exact e
    ·have:=h.lo k (by omega);omega
   unfold rc2;rw[IO (fun e=>by rcases H k e with e|e<;>omega),IO (by omega)];exact F
  ·exact a
 ·unfold rc2;rw[IO (fun x=>by rcases H k x with y|y<;>omega)]
  split
  ·rfl
  ·exact e
section
variable {R:(Nat->Prop)->World->Nat->Nat->S9->Prop} {q:Gq} {c:Nat->Nat} {W W':World} {L:j0} {op:ByteArray} {X:DS}
theorem Bk.fr (h:Bk q c W op X) (J:c q.d=5) {i:Nat}{S:Nat->Prop}(f:FR q c W i S W') (u:Kp (fun k=>c k=i) W W') (M:i<5):Bk q (rc2 c i S) W' op X:=by
 obtain⟨b1,b2,b3,vo,vf,vt,I,F,G,H⟩:=h;refine⟨b1,b2,b3,vo,vf,vt,u.blk I (by show ¬c q.d=i;omega),?_,?_,?_⟩
 ·rw[f.ot 6 (by decide) (by omega)];exact F.kp u (fun k e=>by have:=F.2 k e;show ¬c k=i;omega)
 ·rw[f.ot 7 (by decide) (by omega)];exact G.kp u (fun k e=>by have:=G.2 k e;show ¬c k=i;omega)
 ·rw[f.ot 8 (by decide) (by omega)];exact H.kp u (fun k e=>by have:=H.2 k e;show ¬c k=i;omega)
theorem Bk.below (h:Bk q c W op X) (u:Below W.heap.size W W'):Bk q c W' op X:=by
 obtain⟨b1,b2,b3,vo,vf,vt,F,G,H,I⟩:=h;exact⟨b1,b2,b3,vo,vf,vt,af F u,G.below u,H.below u,I.below u⟩
theorem DI.below (F:fh R) (h:DI R q c W L op X) (u:Below W.heap.size W W'):DI R q c W' L op X:=
 ⟨h.be.trans (u.mono h.be.size),h.kab,h.tab,fun k G=>h.nf k (Kh u.size G),h.lo,h.cd,h.bk.below u,h.lx.kp (Kp.of_below (S:=fun _=>False) u) (fun _ _ e=>e),h.ps.below u,h.gd,h.ss.below u,F.oth _ (fun _=>False) _ _ _ _ _ h.z (Kp.of_below u) (fun _ _ _ e=>e),h.bd⟩
theorem FR.cd {S:Nat->Prop}(f:FR q c W i S W') (u:i≠5) (h:c q.d=5):rc2 c i S q.d=5:=(congrFun (f.ot 5 (by decide) (MN u)) q.d).mpr h
theorem DI.par (hC:fh R) (h:DI R q c W L op X) {v:Value}{G:List Ev}{st:jd}(u:Pa (fun k=>c k=2) q.gp W W' v G st) (hg:px st):∃c',DI R q c' W' L op { X with ps:=st }/\Sp c W c' W'/\Re W' v G/\∀k,v.ownBlock=some k->c' k=0:=by
 obtain⟨M,p1,p2,J,p4⟩:=u.ex
 have f:=h.fr (i:=2) (by decide) u.kp (fun k e=>(J k e).imp id (·.1)) (fun k e=>by
  rcases J k e with a|a
  ·have h9:c k=2:=a;have:=h.lt (k:=k) (by omega);have:=u.kp.size;omega
  ·exact a.2)
 refine⟨rc2 c 2 M,⟨f.be,h.kab,h.tab,f.nf,f.lo,f.cd (by decide) h.cd,h.bk.fr h.cd f u.kp (by decide),?_,?_,hg,?_,?_,h.bd⟩,f.sp,u.re,fun k e=>?_⟩
 ·rw[f.ot 1 (by decide) (by decide)];exact h.lx.kp u.kp (fun k e F=>by have H:c k=1:=e;have I:c k=2:=F;omega)
 ·rw[f.sf];exact p1
 ·rw[f.ot 3 (by decide) (by decide)];exact h.ss.kp u.kp (fun k e F=>by have H:c k=3:=e;have I:c k=2:=F;omega)
 ·rw[f.ot 4 (by decide) (by decide)];exact hC.oth _ _ _ _ _ _ _ h.z u.kp (fun k _ e F=>by have H:c k=4:=e;have I:c k=2:=F;omega)
 ·obtain⟨O,a2⟩:=p4 k e;have:=h.nf k O;unfold rc2;rw[IO a2]
  split
  ·rfl
  ·exact this
theorem DI.sty (hC:fh R) (h:DI R q c W L op X) {v:Value}{l:List Dc}{st:pE}(hp:Aq (fun k=>c k=3) q.gs W W' v l st):∃c',DI R q c' W' L op { X with ss:=st }/\Sp c W c' W'/\Rd W' v l/\∀k,v.ownBlock=some k->c' k=0:=by
 obtain⟨⟨J,I,p3,p4⟩,hr,F⟩:=hp;have f:=h.fr (i:=3) (by decide) F (fun k e=>p3 k e) I.lt;refine⟨rc2 c 3 J,⟨f.be,h.kab,h.tab,f.nf,f.lo,f.cd (by decide) h.cd,h.bk.fr h.cd f F (by decide),?_,?_,h.gd,?_,?_,h.bd⟩,f.sp,hr,fun k e=>?_⟩
 ·rw[f.ot 1 (by decide) (by decide)];exact h.lx.kp F (fun k e u=>by have G:c k=1:=e;have H:c k=3:=u;omega)
 ·rw[f.ot 2 (by decide) (by decide)];exact h.ps.kp F (fun k e u=>by have G:c k=2:=e;have H:c k=3:=u;omega)
 ·rw[f.sf];exact I
 ·rw[f.ot 4 (by decide) (by decide)];exact hC.oth _ _ _ _ _ _ _ h.z F (fun k _ e u=>by have G:c k=4:=e;have H:c k=3:=u;omega)
 ·obtain⟨M,O⟩:=p4 k e;unfold rc2;rw[IO O]
  rcases M with a|a
  ·rw[Kd a]
  ·have:=h.nf k a
   split
   ·rfl
   ·exact this
theorem DI.prn (J:fh R) (h:DI R q c W L op X) {z:S9}{T C:Nat}(O:R (fun k=>c k=4\/W.heap.size<=k) W' q.gz 72 z) (G:Kp (fun k=>c k=4\/W.heap.size<=k) W W') (M:Lw.ef z T C):∃c',DI R q c' W' L op { X with z:=z,T:=T,C:=C }/\Sp c W c' W':=by
 have u:Kp (fun k=>c k=4) W W':=⟨G.os,G.tape,G.output,G.size,fun k F I=>G.block k F (fun e=>by
  rcases e with e|e
  ·exact I e
  ·omega)⟩
 have f:=h.fr (i:=4) (by decide) (S:=fun k=>c k=4\/(W.heap.size<=k/\k<W'.heap.size)) u (fun k e=>e.imp id (·.1)) (fun k e=>by
  rcases e with a|a
  ·have:=h.lt (k:=k) (by omega);have:=G.size;omega
  ·exact a.2)
 refine⟨rc2 c 4 _,⟨f.be,h.kab,h.tab,f.nf,f.lo,f.cd (by decide) h.cd,h.bk.fr h.cd f u (by decide),?_,?_,h.gd,?_,?_,M⟩,f.sp⟩
 ·rw[f.ot 1 (by decide) (by decide)];exact h.lx.kp u (fun k e H=>by have F:c k=1:=e;have I:c k=4:=H;omega)
 ·rw[f.ot 2 (by decide) (by decide)];exact h.ps.kp u (fun k e H=>by have F:c k=2:=e;have I:c k=4:=H;omega)
 ·rw[f.ot 3 (by decide) (by decide)];exact h.ss.kp u (fun k e H=>by have F:c k=3:=e;have I:c k=4:=H;omega)
 ·rw[f.sf];exact J.sub _ _ _ _ _ _ O (fun k F e=>e.imp id (fun a=>⟨a,F⟩))
theorem DI.lex (O:fh R) (h:DI R q c W L op X) {own':Nat->Prop}{v:Value}{l:List Tv}{L':j0}(F:Lx.Fd (fun k=>c k=1) W W' own' v l) (hl:Lq own' W' q.gl L'):∃c',DI R q c' W' L' op X/\Sp c W c' W'/\Rt W.heap.size W' v l/\∀k,v.ownBlock=some k->c' k=0:=by
 have H:=F.kp
 have u:Kp (fun k=>c k=1) W W':=⟨H.os,H.tape,H.output,H.size,fun k I J=>H.block k I (fun e=>by
  rcases e with e|e
  ·exact J e
  ·omega)⟩
 have f:=h.fr (i:=1) (by decide) u F.sub F.lt;refine⟨rc2 c 1 own',⟨f.be,h.kab,h.tab,f.nf,f.lo,f.cd (by decide) h.cd,h.bk.fr h.cd f u (by decide),?_,?_,h.gd,?_,?_,h.bd⟩,f.sp,F.row,fun k e=>?_⟩
 ·rw[f.sf];exact hl
 ·rw[f.ot 2 (by decide) (by decide)];exact h.ps.kp u (fun k e G=>by have I:c k=2:=e;have J:c k=1:=G;omega)
 ·rw[f.ot 3 (by decide) (by decide)];exact h.ss.kp u (fun k e G=>by have I:c k=3:=e;have J:c k=1:=G;omega)
 ·rw[f.ot 4 (by decide) (by decide)];exact O.oth _ _ _ _ _ _ _ h.z u (fun k _ e G=>by have I:c k=4:=e;have J:c k=1:=G;omega)
 ·have M:=F.row.own k e;have:=h.nf k M;unfold rc2;rw[IO (F.ap k e)]
  split
  ·rfl
  ·exact this
theorem DI.rows (hC:fh R) (h:DI R q c W L op X) {i:Nat}(hi:6<=i) {S:Nat->Prop}{W1 I:World}(H:Kp (fun k=>c k=i) W W1) (hs:∀k,S k->c k=i\/W.heap.size<=k) (hl:∀k,S k->k<W1.heap.size) (u:Kp (fun k=>k=q.d) W1 I) {op':ByteArray}{o':Bool}{F' td':ByteArray}{n':Nat}(hb:Bk q (rc2 c i S) I op' { X with o:=o',F:=F',n:=n',td:=td' }) :
  DI R q (rc2 c i S) I L op' { X with o:=o',F:=F',n:=n',td:=td' }/\Sp c W (rc2 c i S) I:=by
 have f:=h.fr (i:=i) (by omega) H hs hl;have aa:=u.size;have M:=h.lo q.d (by rw[h.cd];decide);have J:=f.cd (by omega) h.cd;have G:∀j,j≠0->j<5->∀k,c k=j->¬c k=i:=fun j _ _ k e O=>by omega
 have nd:∀j,j<5->∀k,c k=j->¬k=q.d:=fun j hj k e O=>by rw[O,h.cd]at e;omega
 refine⟨⟨cy f.be u (fun k e=>by rw[e];exact M) f.be.size,h.kab,h.tab,fun k e=>f.nf k (by omega),f.lo,J,hb,?_,?_,h.gd,?_,?_,h.bd⟩,⟨f.sp.kp.step u (fun j _ e=>by rw[e,h.cd];decide),f.sp.z⟩⟩
 ·rw[f.ot 1 (by decide) (by omega)];exact(h.lx.kp H (G 1 (by decide) (by decide))).kp u (nd 1 (by decide))
 ·rw[f.ot 2 (by decide) (by omega)];exact(h.ps.kp H (G 2 (by decide) (by decide))).kp u (nd 2 (by decide))
 ·rw[f.ot 3 (by decide) (by omega)];exact(h.ss.kp H (G 3 (by decide) (by decide))).kp u (nd 3 (by decide))
 ·rw[f.ot 4 (by decide) (by omega)];exact hC.oth _ _ _ _ _ _ _ (hC.oth _ _ _ _ _ _ _ h.z H (fun k _=>G 4 (by decide) (by decide) k)) u (fun k _=>nd 4 (by decide) k)
theorem DI.own (J:fh R) (h:DI R q c W L op X) {G:World}(u:Kp (fun k=>k=q.d) W G) {op':ByteArray}{o':Bool}{F' td':ByteArray}{n':Nat}(M:Bk q c G op' { X with o:=o',F:=F',n:=n',td:=td' }) :
  DI R q c G L op' { X with o:=o',F:=F',n:=n',td:=td' }/\Sp c W c G:=by
 have O:=u.size;have H:=h.lo q.d (by rw[h.cd];decide);have nd:∀j,j<5->∀k,c k=j->¬k=q.d:=fun j hj k e I=>by rw[I,h.cd]at e;omega
 exact⟨⟨cy h.be u (fun k e=>by rw[e];exact H) h.be.size,h.kab,h.tab,fun k e=>h.nf k (by omega),h.lo,h.cd,M,h.lx.kp u (nd 1 (by decide)),h.ps.kp u (nd 2 (by decide)),h.gd,h.ss.kp u (nd 3 (by decide)),J.oth _ _ _ _ _ _ _ h.z u (fun k _=>nd 4 (by decide) k),h.bd⟩,⟨u.sub (fun j e=>by show c j≠0;rw[e,h.cd];decide),fun _ _ e=>e⟩⟩
end
open Lx (je fJ av)
open Go.Lib (strCells strCells_length)
theorem wj {a b:ByteArray}(h:a.data.toList=b.data.toList):a=b:=by
 obtain⟨⟨x⟩⟩:=a;obtain⟨⟨y⟩⟩:=b;exact Kw (fun l=>(⟨⟨l⟩⟩:ByteArray)) h
theorem aK {p:Prop}(h:p):Hid p:=h
theorem De (t s:ByteArray):(t.toList==s.toList)=decide (t=s):=by
 rw[Mb,Mb]
 by_cases h:t=s
 ·subst h;simp
 ·rw[Kr h];simp only[Kk,ne_eq];intro u;exact h (Go.WideShapes.bytes_inj u)
theorem aA {q:Gq}{W:World}{o:Bool}{n:Nat}(h:W.heap[q.d]?=some (vS q b1 b2 b3 vo o vf n vt)) :
  (W.cell? ⟨q.d,12,none⟩=some vo/\W.cell? ⟨q.d,13,none⟩=some (.bool o)/\W.cell? ⟨q.d,14,none⟩=some vf/\W.cell? ⟨q.d,15,none⟩=some (.int .i64 n)/\W.cell? ⟨q.d,16,none⟩=some vt)/\∀k,W.frozen? ⟨q.d,k,none⟩=false:=
 ⟨⟨aa h rfl,aa h rfl,aa h rfl,aa h rfl,aa h rfl⟩,fun k=>aj h⟩
theorem rN {S:Nat->Prop}{W:World}{g cap:Nat}{t:ByteArray}(h:fJ S W (.slice (some ⟨g,0,none⟩) t.size cap) t) (n m c:Nat) (G:n+m<=t.size):(convert 52 9 (.slice (some ⟨g,n,none⟩) m c)).run Tryz.prog W=.ok (.string (t.extract n (n+m))) W:=by
 have e:(t.extract n (n+m)).data.toList.length=m:=by
  rw[KY];show(t.extract n (n+m)).size=m;rw[Lx.ag t n _ G];omega
 have u:=NA (P:=Tryz.prog) W 52 9 5 ⟨g,n,none⟩ c (t.extract n (n+m)).data.toList underlying52 underlying5 underlying9 ?_
 ·rw[e]at u;exact u
 ·intro j I;have H:j<m:=by omega
  have F:n+j<t.data.toList.length:=by
   rw[KY];show n+j<t.size;omega
  have:=h.1.cells (g:=g) rfl (n+j) _ (un t.data.toList (n+j) _ (Ke F));rw[KV,Km]at this;rw[KV,this]
  congr 3
  simp
section
variable {R:(Nat->Prop)->World->Nat->Nat->S9->Prop} {q:Gq} {c:Nat->Nat} {W W':World} {L:j0} {op:ByteArray} {X:DS}
theorem cP (W:World) (q:Gq) (j:Nat) (v:Value):Kp (fun k=>k=q.d) W (W.setCell ⟨q.d,j,none⟩ v):=Kp.set _ _ _ _
abbrev IH (W:World) (d:Nat) (x y z:Value):World:=((W.setCell ⟨d,13,none⟩ x).setCell ⟨d,14,none⟩ y).setCell ⟨d,15,none⟩ z
theorem DI.bad (M:fh R) (h:DI R q c W L op X):DI R q c (IH W q.d (.bool true) (.slice none 0 0) (.int .i64 0)) L op { X with o:=true,F:=emp,n:=0 }/\Sp c W c (IH W q.d (.bool true) (.slice none 0 0) (.int .i64 0)):=by
 obtain⟨b1,b2,b3,vo,vf,vt,J,H,O,I⟩:=h.bk;have G:Kp (fun k=>k=q.d) W (IH W q.d (.bool true) (.slice none 0 0) (.int .i64 0)):=((cP _ _ _ _).trans (cP _ _ _ _)).trans (cP _ _ _ _);refine h.own M G ⟨b1,b2,b3,vo,.slice none 0 0,vt,ab (ab (ab J 13 _) 14 _) 15 _,H.kp G (fun k e u=>?_),Lx.eY _ _ rfl,I.kp G (fun k e u=>?_)⟩
 ·have:=H.2 k e;rw[u]at this;have:=h.cd;omega
 ·have:=I.2 k e;rw[u]at this;have:=h.cd;omega
theorem DI.see (M:fh R) (h:DI R q c W L op X) (n:Nat):DI R q c (W.setCell ⟨q.d,15,none⟩ (.int .i64 (n:Nat))) L op { X with n:=n }/\Sp c W c (W.setCell ⟨q.d,15,none⟩ (.int .i64 (n:Nat))):=by
 obtain⟨b1,b2,b3,vo,vf,vt,J,G,H,I⟩:=h.bk;have F:=cP W q 15 (.int .i64 (n:Nat));refine h.own M F ⟨b1,b2,b3,vo,vf,vt,ab J 15 _,G.kp F (fun k e u=>?_),H.kp F (fun k e u=>?_),I.kp F (fun k e u=>?_)⟩
 ·have:=G.2 k e;rw[u]at this;have:=h.cd;omega
 ·have:=H.2 k e;rw[u]at this;have:=h.cd;omega
 ·have:=I.2 k e;rw[u]at this;have:=h.cd;omega
def mZ (s:ByteArray) (X:DS):DS:={ X with o:=(yT s X.o X.F X.n).1,F:=(yT s X.o X.F X.n).2.1,n:=(yT s X.o X.F X.n).2.2 }
set_option maxRecDepth 100000 in
theorem Ef (hC:fh R) (h:DI R q c W L op X) (s:ByteArray) (hs:s.size<=1000000) (hF:X.F.size<=1000000) (hn:X.n<=X.F.size) :
  Kb 52 #[.pointer (some ⟨q.d,13,none⟩),.string s] W fun e w'=>e=.returned (.tuple #[])/\DI R q c w' L op (mZ s X)/\Sp c W c w':=by
 have HB:Hid (∀V,Below (IH W q.d (.bool true) (.slice none 0 0) (.int .i64 0)).heap.size (IH W q.d (.bool true) (.slice none 0 0) (.int .i64 0)) V->DI R q c V L op { X with o:=true,F:=emp,n:=0 }/\Sp c W c V):=fun V M=>by
  obtain⟨a1,a2⟩:=h.bad hC;exact⟨a1.below hC M,a2.trans (Sp.below M)⟩
 have HS:Hid (∀(n:Nat) V,Below (W.setCell ⟨q.d,15,none⟩ (.int .i64 (n:Nat))).heap.size (W.setCell ⟨q.d,15,none⟩ (.int .i64 (n:Nat))) V->DI R q c V L op { X with n:=n }/\Sp c W c V):=fun n V M=>by
  obtain⟨a1,a2⟩:=h.see hC n;exact⟨a1.below hC M,a2.trans (Sp.below M)⟩
 have H0:Hid (∀V,Kc W V->DI R q c V L op X/\Sp c W c V):=fun V M=>⟨h.below hC M,Sp.below M⟩
 obtain⟨b1,b2,b3,vo,vf,vt,e1,e2,e3,e4⟩:=h.bk;obtain⟨⟨c12,c13,c14,c15,c16⟩,fz⟩:=aA e1;have aj:=fz 13;have ak:=fz 14;have al:=fz 15;have cz:q.d<W.heap.size:=ai e1
 rcases e3.1.2 with⟨rfl,h0⟩|⟨g,cap,ah,rfl,g1,g2,g3,g4,g5⟩
 ·have ad:X.n=0:=by omega
  have cv:(convert 52 9 (.slice none 0 0)).run Tryz.prog W.drew=.ok (.string ⟨#[]⟩) W.drew:=Lx.cZ (S:=fun _=>True) (Lx.eY _ _ rfl);have I:Hid (X.F.size=0/\X.n=0):=⟨h0,ad⟩;rw[ad]at c15;clear h e1 e2 e3 e4 fz c12 c16 hF hn h0 ad
  by_cases ab:0<s.size
  ·have q3:(s.size:Int)>0:=by omega
   have J:Hid (mZ s X={ X with o:=true,F:=emp,n:=0 }):=by
    obtain⟨m1,m2⟩:=I.out;show _=_;unfold mZ;rw[show yT s X.o X.F X.n=(true,emp,0)from Kd (.inl (by omega))]
   clear I cv
   go_enter func52,ntmps52
   go_wp2_with fail
   go_region
   all_goals(go_wp2_with fail;all_goals(go_end0;rw[J.out];exact⟨rfl,HB.out _ (by first|exact gt _ _|exact(gt _ _).drew|exact(gt _ _).drew.drew)⟩))
  ·have ae:s.size=0:=by omega
   have ac:s=⟨#[]⟩:=Lx.aU _ _ (by rw[ae];rfl) (fun j hj=>by omega)
   have G:yT s X.o X.F X.n=if X.o=true then(X.o,X.F,X.n)else(X.o,X.F,X.n+s.size):=IO (by
    obtain⟨m1,m2⟩:=I.out;rw[show X.F.extract X.n (X.n+s.size)=s from Lx.aU _ _ (by rw[Lx.ag _ _ _ (by omega)];omega) (fun j hj=>by rw[Lx.ag _ _ _ (by omega)]at hj;omega)];intro e
    rcases e with e|e
    ·omega
    ·exact e rfl)
   rw[<-ac]at cv;clear ac;cases H:X.o with
   |true=>
    rw[H]at c13 G
    have J:Hid (mZ s X=X):=by
     show _=_
     unfold mZ;rw[H,G];simp only[MG];rw[<-H]
    clear I G
    go_enter func52,ntmps52
    go_wp2_with fail
    go_region
    all_goals(go_wp2_with fail;all_goals(go_end0;rw[J.out];exact⟨rfl,H0.out _ (by first|exact gt _ _|exact(gt _ _).drew|exact(gt _ _).drew.drew)⟩))
   |false=>
    rw[H]at c13 G
    have J:Hid (mZ s X={ X with n:=0 }):=by
     obtain⟨m1,m2⟩:=I.out;show _=_;unfold mZ;rw[H,G];simp only[KE,LP];rw[show X.n+s.size=0 by omega,<-H]
    have u:=HS.out 0;replace u:Hid _:=u;clear I G
    go_enter func52,ntmps52
    go_wp2_with fail
    go_region
    all_goals(go_wp2_with fail;all_goals(go_end0;rw[J.out];exact⟨rfl,u.out _ (by first|exact gt _ _|exact(gt _ _).drew|exact(gt _ _).drew.drew)⟩))
 ·have HV:Hid (∀m c,X.n+m<=X.F.size->∀V,Kc W V->(convert 52 9 (.slice (some ⟨g,X.n,none⟩) m c)).run Tryz.prog V=.ok (.string (X.F.extract X.n (X.n+m))) V):=fun m c G V M=>rN (e3.below M) X.n m c G
  have af:Hid (∀c V,Kc W V->(convert 52 9 (.slice (some ⟨g,0,none⟩) 0 c)).run Tryz.prog V=.ok (.string ⟨#[]⟩) V):=fun c V M=>by
   have:=rN (e3.below M) 0 0 c (by omega);rw[this,show X.F.extract 0 (0+0)=⟨#[]⟩from Lx.aU _ _ (by rw[Lx.ag _ _ _ (by omega)];rfl) (fun j hj=>by rw[Lx.ag _ _ _ (by omega)]at hj;omega)]
  obtain⟨F,O⟩:∃F,X.F=F:=⟨_,rfl⟩;obtain⟨n,hne⟩:∃n,X.n=n:=⟨_,rfl⟩;have q1:(n:Int)<=F.size:=by rw[<-O,<-hne];omega
  have q2:(0:Int)<=n:=by omega
  have I:Hid (yT s X.o X.F X.n=yT s X.o F n/\X.F=F/\X.n=n):=by rw[<-O,<-hne];exact⟨rfl,rfl,rfl⟩
  rw[O,hne]at HV;rw[O]at c14 g3 hF;rw[hne]at c15;clear h e1 e2 e3 e4 fz c12 c16 hn g1 g2 g5 O hne
  by_cases ab:F.size-n<s.size
  ·have q3:(s.size:Int)>(F.size:Int)-n:=by omega
   have J:Hid (mZ s X={ X with o:=true,F:=emp,n:=0 }):=by
    show _=_
    unfold mZ;rw[I.out.1,show yT s X.o F n=(true,emp,0)from Kd (.inl ab)]
   clear I
   go_enter func52,ntmps52
   go_wp2_with fail
   go_region
   all_goals(go_wp2_with fail;all_goals(go_end0;rw[J.out];exact⟨rfl,HB.out _ (by first|exact gt _ _|exact(gt _ _).drew|exact(gt _ _).drew.drew)⟩))
  ·have q3:¬((s.size:Int)>(F.size:Int)-n):=by omega
   have q5:s.size<=F.size-n:=by omega
   have q6:n+s.size<=F.size:=by omega
   by_cases am:cap=n
   ·have ae:s.size=0:=by omega
    have ac:s=⟨#[]⟩:=Lx.aU _ _ (by rw[ae];rfl) (fun j hj=>by omega)
    have cv:(convert 52 9 (.slice (some ⟨g,0,none⟩) 0 0)).run Tryz.prog W.drew=.ok (.string s) W.drew:=by
     rw[af.out 0 W.drew (gt _ _).drew,ac]
    have ag:F.extract n (n+s.size)=s:=Lx.aU _ _ (by rw[Lx.ag _ _ _ q6];omega) (fun j hj=>by rw[Lx.ag _ _ _ q6]at hj;omega);have G:yT s X.o F n=if X.o=true then(X.o,F,n)else(X.o,F,n+s.size):=IO (by rw[ag];intro e;rcases e with e|e;exact ab e;exact e rfl)
    cases H:X.o with
    |true=>
     rw[H]at c13 G
     have J:Hid (mZ s X=X):=by
      obtain⟨m1,m2,m3⟩:=I.out;show _=_;unfold mZ;rw[m1,H,G];simp only[MG];rw[<-m2,<-m3,<-H]
     clear I G
     go_enter func52,ntmps52
     go_wp2_with fail
     go_region
     all_goals(go_wp2_with fail;all_goals(go_end0;rw[J.out];exact⟨rfl,H0.out _ (by first|exact gt _ _|exact(gt _ _).drew|exact(gt _ _).drew.drew)⟩))
    |false=>
     rw[H]at c13 G
     have J:Hid (mZ s X={ X with n:=n+s.size }):=by
      obtain⟨m1,m2,m3⟩:=I.out;show _=_;unfold mZ;rw[m1,H,G];simp only[KE,LP];rw[<-m2,<-H]
     have u:=HS.out (n+s.size);rw[show(((n+s.size:Nat)):Int)=(n:Int)by omega]at u;replace u:Hid _:=u;clear I G
     go_enter func52,ntmps52
     go_wp2_with fail
     go_region
     all_goals(go_wp2_with fail;all_goals(go_end0;rw[J.out];exact⟨rfl,u.out _ (by first|exact gt _ _|exact(gt _ _).drew|exact(gt _ _).drew.drew)⟩))
   ·by_cases aa:F.extract n (n+s.size)=s
    ·have cv:=HV.out s.size (cap-n) q6 W.drew (gt _ _).drew;rw[aa]at cv;have G:yT s X.o F n=if X.o=true then(X.o,F,n)else(X.o,F,n+s.size):=IO (by rw[aa];intro e;rcases e with e|e;exact ab e;exact e rfl)
     cases H:X.o with
     |true=>
      rw[H]at c13 G
      have J:Hid (mZ s X=X):=by
       obtain⟨m1,m2,m3⟩:=I.out;show _=_;unfold mZ;rw[m1,H,G];simp only[MG];rw[<-m2,<-m3,<-H]
      clear I G
      go_enter func52,ntmps52
      go_wp2_with fail
      go_region
      all_goals(go_wp2_with fail;all_goals(go_end0;rw[J.out];exact⟨rfl,H0.out _ (by first|exact gt _ _|exact(gt _ _).drew|exact(gt _ _).drew.drew)⟩))
     |false=>
      rw[H]at c13 G
      have J:Hid (mZ s X={ X with n:=n+s.size }):=by
       obtain⟨m1,m2,m3⟩:=I.out;show _=_;unfold mZ;rw[m1,H,G];simp only[KE,LP];rw[<-m2,<-H]
      have u:=HS.out (n+s.size);rw[show(((n+s.size:Nat)):Int)=(n:Int)+s.size by omega]at u;replace u:Hid _:=u;clear I G
      go_enter func52,ntmps52
      go_wp2_with fail
      go_region
      all_goals(go_wp2_with fail;all_goals(go_end0;rw[J.out];exact⟨rfl,u.out _ (by first|exact gt _ _|exact(gt _ _).drew|exact(gt _ _).drew.drew)⟩))
    ·have cv:=HV.out s.size (cap-n) q6 W.drew (gt _ _).drew;have q8:((F.extract n (n+s.size)).toList==s.toList)=false:=by rw[De,Kr aa]
     have J:Hid (mZ s X={ X with o:=true,F:=emp,n:=0 }):=by
      show _=_
      unfold mZ;rw[I.out.1,show yT s X.o F n=(true,emp,0)from Kd (.inr (fun e=>aa (wj e)))]
     clear I
     go_enter func52,ntmps52
     go_wp2_with fail
     go_region
     all_goals(go_wp2_with fail;all_goals(go_end0;rw[J.out];exact⟨rfl,HB.out _ (by first|exact gt _ _|exact(gt _ _).drew|exact(gt _ _).drew.drew)⟩))
end
section
variable {R:(Nat->Prop)->World->Nat->Nat->S9->Prop} {q:Gq} {c:Nat->Nat} {W W':World} {L:j0} {op:ByteArray} {X:DS}
theorem DI.told (hC:fh R) (h:DI R q c W L op X) {b1 b2 b3:Int}{vo vf vt:Value}(M:W.heap[q.d]?=some (vS q b1 b2 b3 vo X.o vf X.n vt)) (G:je (fun k=>c k=6) W vo op) (H:fJ (fun k=>c k=7) W vf X.F) (O:fJ (fun k=>c k=8) W vt X.td)
  {v':Value} {w':World} {s:ByteArray} (k1:w'.ownsRow 0 5 1 v' (X.td.size+s.size) (strCells X.td++strCells s)) (k2:W.grownBy w' vt.ownBlock) (k3:v'.ownBlock=vt.ownBlock\/v'.ownBlock=some W.heap.size) :
  w'.heap[q.d]?=some (vS q b1 b2 b3 vo X.o vf X.n vt)/\∃c',DI R q c' (w'.setCell ⟨q.d,16,none⟩ v') L op { X with td:=X.td++s }/\Sp c W c' (w'.setCell ⟨q.d,16,none⟩ v'):=by
 have F:Kp (fun k=>c k=8) W w':=(Kp.of_grown k2).sub (fun k e=>O.2 k e.symm);have cz:=ai M
 have I:∀k,v'.ownBlock=some k->c k=8\/W.heap.size<=k:=fun k e=>by
  rcases k3 with a|a
  ·exact .inl (O.2 k (by rw[<-a];exact e))
  ·rw[a]at e;exact .inr (Nat.le_of_eq (KH e))
 have J:∀k,v'.ownBlock=some k->¬k=q.d:=fun k e u=>by
  rcases I k e with a|a
  ·rw[u,h.cd]at a;omega
  ·omega
 have hl:∀k,v'.ownBlock=some k->k<w'.heap.size:=fun k e=>by
  rcases k1.2 with⟨rfl,_⟩|⟨b,cap,aa,rfl,_,h6,_⟩
  ·cases e
  ·cases e;exact ai h6
 have hd:w'.heap[q.d]?=some (vS q b1 b2 b3 vo X.o vf X.n vt):=F.blk M (by show ¬c q.d=8;rw[h.cd];decide);have f:=h.fr (i:=8) (by decide) F I hl;exact⟨hd,_,h.rows hC (i:=8) (by decide) F I hl (cP w' q 16 v') ⟨b1,b2,b3,vo,vf,v',ab hd 16 v',by rw[f.ot 6 (by decide) (by decide)];exact(G.kp F (fun k e u=>by have a:=G.2 k e;have b:c k=8:=u;omega)).kp (cP w' q 16 v') (fun k e u=>by have a:=G.2 k e;rw[u]at a;have:=h.cd;omega),by rw[f.ot 7 (by decide) (by decide)];exact(H.kp F (fun k e u=>by have a:=H.2 k e;have b:c k=8:=u;omega)).kp (cP w' q 16 v') (fun k e u=>by have a:=H.2 k e;rw[u]at a;have:=h.cd;omega),by rw[f.sf];exact fJ.kp ⟨by rw[Lx.ax,Lx.sN];exact k1,fun k e=>e⟩ (cP w' q 16 v') (fun k e u=>J k e u)⟩⟩
theorem DI.feds (hC:fh R) (h:DI R q c W L op X) {b1 b2 b3:Int}{vo vf vt:Value}(O:W.heap[q.d]?=some (vS q b1 b2 b3 vo X.o vf X.n vt)) (H:je (fun k=>c k=6) W vo op) (e3:fJ (fun k=>c k=7) W vf X.F) (I:fJ (fun k=>c k=8) W vt X.td)
  {v':Value} {w':World} {s:ByteArray} (k1:w'.ownsRow 0 5 1 v' (X.F.size+s.size) (strCells X.F++strCells s)) (k2:W.grownBy w' vf.ownBlock) (k3:v'.ownBlock=vf.ownBlock\/v'.ownBlock=some W.heap.size) :
  w'.heap[q.d]?=some (vS q b1 b2 b3 vo X.o vf X.n vt)/\∃c',DI R q c' (w'.setCell ⟨q.d,14,none⟩ v') L op { X with F:=X.F++s }/\Sp c W c' (w'.setCell ⟨q.d,14,none⟩ v'):=by
 have G:Kp (fun k=>c k=7) W w':=(Kp.of_grown k2).sub (fun k e=>e3.2 k e.symm);have cz:=ai O
 have J:∀k,v'.ownBlock=some k->c k=7\/W.heap.size<=k:=fun k e=>by
  rcases k3 with a|a
  ·exact .inl (e3.2 k (by rw[<-a];exact e))
  ·rw[a]at e;exact .inr (Nat.le_of_eq (KH e))
 have M:∀k,v'.ownBlock=some k->¬k=q.d:=fun k e u=>by
  rcases J k e with a|a
  ·rw[u,h.cd]at a;omega
  ·omega
 have hl:∀k,v'.ownBlock=some k->k<w'.heap.size:=fun k e=>by
  rcases k1.2 with⟨rfl,_⟩|⟨b,cap,aa,rfl,_,h6,_⟩
  ·cases e
  ·cases e;exact ai h6
 have hd:w'.heap[q.d]?=some (vS q b1 b2 b3 vo X.o vf X.n vt):=G.blk O (by show ¬c q.d=7;rw[h.cd];decide);have f:=h.fr (i:=7) (by decide) G J hl;exact⟨hd,_,h.rows hC (i:=7) (by decide) G J hl (cP w' q 14 v') ⟨b1,b2,b3,vo,v',vt,ab hd 14 v',by rw[f.ot 6 (by decide) (by decide)];exact(H.kp G (fun k e u=>by have a:=H.2 k e;have b:c k=7:=u;omega)).kp (cP w' q 14 v') (fun k e u=>by have a:=H.2 k e;rw[u]at a;have:=h.cd;omega),by rw[f.sf];exact fJ.kp ⟨by rw[Lx.ax,Lx.sN];exact k1,fun k e=>e⟩ (cP w' q 14 v') (fun k e u=>M k e u),by rw[f.ot 8 (by decide) (by decide)];exact(I.kp G (fun k e u=>by have a:=I.2 k e;have b:c k=7:=u;omega)).kp (cP w' q 14 v') (fun k e u=>by have a:=I.2 k e;rw[u]at a;have:=h.cd;omega)⟩⟩
theorem Tryz.dru8:(Tryz.prog.info? 5).map (fun i=>(i.zero,i.size,i.bytes))=some (some (.int .u8 0),1,1):=by kernel_rfl
theorem Jk {S:Nat->Prop}{u:Array Oper}{rest:List Oper}{o':Oper}{a:Act}{Q:Exit->Act->World->Prop}(H:o'.guard=none) (F G:Operand) (ho:o'.op=.call { callee:=.builtin .append,args:=#[F,G],argTypes:=#[52,9] }) (v:Value) (t y:ByteArray) (hs:a.eval F=v) (hr:fJ S W v t) (hx:a.eval G=.string y) (hl:t.size+y.size<=10000000)
  (h:∀v' w',w'.ownsRow 0 5 1 v' (t.size+y.size) (strCells t++strCells y)->W.grownBy w' v.ownBlock->(v'.ownBlock=v.ownBlock\/v'.ownBlock=some W.heap.size)->wpList Tryz.prog u Q rest (a.put o'.dst v') w'):wpList Tryz.prog u Q (o' :: rest) a W:=by
 obtain⟨i0,O,I,J,M⟩:=LJ Tryz.dru8;exact bz (P:=Tryz.prog) (w:=W) H F G 52 9 ho 0 5 i0 underlying52 underlying9 O I J M v _ _ hs hr.1 y hx (by unfold maxLen;omega) (by omega) (Kj _) h
theorem E5 (I:fh R) (h:DI R q c W L op X) (s:ByteArray) (F:s.size<=1000000) (hF:X.F.size<=1000000) (u:X.n<=X.F.size) :
  Kb 27 #[.pointer (some ⟨q.d,0,none⟩),.string s] W fun e w'=>e=.returned (.tuple #[])/\DI R q c w' L op (mZ s X)/\Sp c W c w':=by
 have HC:=aK (Ef I h s F hF u);clear F hF u h
 go_enter func27,ntmps27
 go_wp2_with(first|(go_at_call 52;refine HC.out.mono ?_;rintro e J⟨rfl,G,H⟩))
 go_end0
 exact⟨rfl,G,H⟩
theorem C1 (hC:fh R) (h:DI R q c W L op X) (s:ByteArray) {Y:DS}(F:Gm s X=some Y) :
  Kb 26 #[.pointer (some ⟨q.d,0,none⟩),.string s] W fun e w'=>e=.returned (.tuple #[])/\∃c',DI R q c' w' L op Y/\Sp c W c' w':=by
 unfold Gm at F;simp only at F
 split at F
 ·rename_i hc
  obtain⟨M,y2,y3,y4⟩:=hc;cases F;have HC:=aK (E5 hC h s M y3 y4);have HT:=ku y2;have hs:s.size<=1000000:=M;clear M y2 y3 y4 h
  go_enter func26,ntmps26
  go_wp2_with(first
   | (go_at_call 27;refine HC.out.mono ?_;rintro e w1⟨rfl,H,a2⟩;have O:=aK (And.intro H a2);obtain⟨b1,b2,b3,vo,vf,vt,G,e2,e3,I⟩:=H.bk;have aa:=(aA G).1.2.2.2.2;have ac:=(aA G).2 16;have u:=aK (And.intro G (And.intro e2 (And.intro e3 I)));obtain⟨pp,cp,hv,hv1,hv2⟩:=I.shape;subst hv;clear H a2 G e2 e3 I)
   | (at_builtin;refine Jk (by rfl) _ _ (by rfl) _ _ _ (by rfl) u.out.2.2.2 (by rfl) (Kh HT.out (by decide)) ?_;intro v' w2 J k2 k3;obtain⟨hd,hx⟩:=O.out.1.told hC u.out.1 u.out.2.1 u.out.2.2.1 u.out.2.2.2 J k2 k3;have HX:=aK hx;have ab:=(aA hd).1.2.2.2.2;have ad:=(aA hd).2 16;obtain⟨p2,cp2,hv2',_,_⟩:=az J;subst hv2';clear hd hx J k2 k3))
  go_end0
  obtain⟨c',x1,x2⟩:=HX.out;exact⟨rfl,c',x1,O.out.2.trans x2⟩
 ·cases F
end
section
variable {R:(Nat->Prop)->World->Nat->Nat->S9->Prop} {q:Gq} {c:Nat->Nat} {W W':World} {L:j0} {op:ByteArray} {X Y:DS}
theorem iL {o:Bool}{n:Nat}(h:W.heap[q.d]?=some (vS q b1 b2 b3 vo o vf n vt)) :
  W.cell? ⟨q.d,0,none⟩=some (.pointer (some ⟨q.gz,0,none⟩))/\W.cell? ⟨q.d,1,none⟩=some (.func (.func 26) #[.pointer (some ⟨q.d,0,none⟩)] #[])/\W.cell? ⟨q.d,6,none⟩=some (.pointer (some ⟨q.gl,0,none⟩))/\W.cell? ⟨q.d,7,none⟩=some (pt q.gp)/\W.cell? ⟨q.d,8,none⟩=some (bv q.gs) /\
   W.cell? ⟨q.d,9,none⟩=some (.int .i64 b1)/\W.cell? ⟨q.d,10,none⟩=some (.int .i64 (wrap64 b2))/\W.cell? ⟨q.d,11,none⟩=some (.int .i64 b3):=
 ⟨aa h rfl,aa h rfl,aa h rfl,aa h rfl,aa h rfl,aa h rfl,aa h rfl,aa h rfl⟩
theorem DI.cs (h:DI R q c W L op X):W.cell? ⟨q.d,0,none⟩=some (.pointer (some ⟨q.gz,0,none⟩))/\W.cell? ⟨q.d,1,none⟩=some (.func (.func 26) #[.pointer (some ⟨q.d,0,none⟩)] #[])/\W.cell? ⟨q.d,6,none⟩=some (.pointer (some ⟨q.gl,0,none⟩))/\W.cell? ⟨q.d,7,none⟩=some (pt q.gp)/\W.cell? ⟨q.d,8,none⟩=some (bv q.gs):=by
 obtain⟨b1,b2,b3,vo,vf,vt,u,_⟩:=h.bk;obtain⟨a1,a2,a3,a4,a5,_⟩:=iL u;exact⟨a1,a2,a3,a4,a5⟩
theorem DI.dl (h:DI R q c W L op X):q.d<W.heap.size:=by
 obtain⟨b1,b2,b3,vo,vf,vt,u,_⟩:=h.bk;exact ai u
theorem vq (G:fh R) (h:DI R q c W L op X) (s:ByteArray) (u:Gm s X=some Y) :
  Kb 75 #[.pointer (some ⟨q.d,0,none⟩),.string s,.int .i64 0] W fun e w'=>e=.returned (.int .i64 0)/\∃c',DI R q c' w' L op Y/\Sp c W c' w':=by
 have HW:=aK (C1 G h s u);have c1:=h.cs.2.1;have cz:=h.dl;clear h u
 go_enter func75,ntmps75
 go_wp2_with(first|(go_at_call 26;refine HW.out.mono ?_;rintro e H⟨rfl,F⟩))
 go_ret
 exact⟨rfl,F⟩
theorem Ab (u:fh R) (h:DI R q c W L op X) {d:Dc}(J:(X.z.put 72 d).2=0) (hd:d.t.size<=1000) (O:X.T+ud d<=1000000) (M:X.C+1<=1000000) :
  Kb 76 #[.pointer (some ⟨q.gz,0,none⟩),.agg #[.int .u8 d.k,.string d.t,.int .i64 d.b,.int .i64 d.i,.bool d.e]] W fun e w'=>e=.returned (.tuple #[.string ⟨(X.z.told (X.z.put 72 d).1).toArray⟩,.int .i64 0])/\∃c',DI R q c' w' L op { X with z:=(X.z.put 72 d).1,T:=X.T+ud d,C:=X.C+1 }/\Sp c W c' w':=by
 have I:=u.sub _ (fun k=>c k=4\/W.heap.size<=k) _ _ _ _ h.z (fun k _ e=>.inl e);refine(u.put _ W q.gz 72 X.z d X.T X.C I (fun k H=>.inr H) (h.tab.below h.be) (by decide) h.bd (by omega) (by omega) (by omega)).mono ?_;rintro e w'⟨rfl,F,G⟩;rw[J];exact⟨rfl,h.prn u F G (h.bd.put d)⟩
theorem Ch (u:fh R) (h:DI R q c W L op X) (J:(X.z.close 72).2=0) (O:X.T<=1000000) (M:X.C<=1000000) :
  Kb 79 #[.pointer (some ⟨q.gz,0,none⟩)] W fun e w'=>e=.returned (.tuple #[.string ⟨(X.z.told (X.z.close 72).1).toArray⟩,.int .i64 0])/\∃c',DI R q c' w' L op { X with z:=(X.z.close 72).1 }/\Sp c W c' w':=by
 have I:=u.sub _ (fun k=>c k=4\/W.heap.size<=k) _ _ _ _ h.z (fun k _ e=>.inl e);refine(u.close _ W q.gz 72 X.z X.T X.C I (fun k H=>.inr H) (h.tab.below h.be) (by decide) h.bd (by omega) (by omega)).mono ?_;rintro e w'⟨rfl,F,G⟩;rw[J];exact⟨rfl,h.prn u F G h.bd.close⟩
theorem DX (F:fh R) (h:DI R q c W L op X) (u:CN X=some Y) :
  Kb 42 #[.pointer (some ⟨q.d,0,none⟩)] W fun e w'=>e=.returned (.int .i64 0)/\∃c',DI R q c' w' L op Y/\Sp c W c' w':=by
 unfold CN at u;simp only at u
 split at u
 ·rename_i hc
  obtain⟨G,H,I⟩:=hc;have HC:=aK (Ch F h G H I);have J:=aK (fun V c' (h':DI R q c' V L op { X with z:=(X.z.close 72).1 })=>vq F h' _ u);have c0:=h.cs.1;have cz:=h.dl;clear h u G H I
  go_enter func42,ntmps42
  go_wp2_with(first|(go_at_call 79;refine HC.out.mono ?_;rintro e w1⟨rfl,c1,M,O⟩)|(go_at_call 75;refine(J.out _ _ M).mono ?_;rintro e w2⟨rfl,c2,a3,a4⟩))
  go_ret
  exact⟨rfl,c2,a3,O.trans a4⟩
 ·cases u
theorem kD {d:Dc}{l:List Dc}{X Y:DS}(h:fW (d :: l) X=some Y):∃Z,ww d X=some Z/\fW l Z=some Y:=by
 simp only[fW]at h;cases u:ww d X with
 |none=>rw[u]at h;cases h
 |some Z=>rw[u]at h;exact⟨Z,rfl,h⟩
theorem vg (hC:fh R) (h:DI R q c W L op X) {p:Option Addr}{l:List Dc}{cap:Nat}(hl:Lw.Lay W p l) (hp:∀a,p=some a->c a.block=0) (aa:l.length<=1000000) (hy:fW l X=some Y) :
  Kb 40 #[.pointer (some ⟨q.d,0,none⟩),.slice p l.length cap,.int .i64 0] W fun e w'=>e=.returned (.int .i64 0)/\∃c',DI R q c' w' L op Y/\Sp c W c' w':=by
 have HL:=ku fun c' V (hs:Sp c W c' V)=>hl.kp hs.kp (fun a e e2=>e2 (hp a e))
 have HI:Hid (∃c' Z,DI R q c' W L op Z/\Sp c W c' W/\fW (l.drop 0) Z=some Y):=⟨c,X,h,Sp.below (gt _ _),hy⟩;clear h hl hp hy
 go_enter func40,ntmps40
 go_wp2_with fail
 go_loopw [8,9,12] (fun _ _ i wr=>∃j:Nat,j<=l.length/\i=.int .i64 j/\Hid (∃c' Z,DI R q c' wr L op Z/\Sp c W c' wr/\fW (l.drop j) Z=some Y)) (fun _ _ i _=>l.length-(intOf i).toNat)
 case atStart=>exact⟨0,Kj _,rfl,HI.out⟩
 case round=>
  obtain⟨j,hj,rfl,M⟩:=hrel;obtain⟨c1,Z,h1,s1,z1⟩:=M.out
  by_cases u:j<l.length
  ·have q1:(j:Int)<l.length:=by omega
   have q2:(0:Int)<=j:=by omega
   obtain⟨d,hd⟩:∃d,l[j]?=some d:=⟨_,Ke u⟩
   have kv:l.drop j=d :: l.drop (j+1):=by
    rw[KO u];rw[Ke u]at hd;rw[KH hd]
   rw[kv]at z1;obtain⟨O,F,z3⟩:=kD z1;obtain⟨ht,b,off,rfl,k0,k1,k2,k3,k4⟩:=HL.out c1 wr s1 j d hd;unfold ww at F;simp only at F
   split at F
   ·rename_i G
    obtain⟨y1,y2,y3,y4⟩:=G;obtain⟨H,hTL⟩:∃H:ByteArray,⟨(Z.z.told (Z.z.put 72 d).1).toArray⟩=H:=⟨_,rfl⟩;rw[hTL]at F
    have HP:Hid (∀V,Kc wr V->Kb 76 #[.pointer (some ⟨q.gz,0,none⟩),.agg #[.int .u8 d.k,.string d.t,.int .i64 d.b,.int .i64 d.i,.bool d.e]] V fun e w'=>e=.returned (.tuple #[.string H,.int .i64 0])/\Hid (∃c2,DI R q c2 w' L op { Z with z:=(Z.z.put 72 d).1,T:=Z.T+ud d,C:=Z.C+1 }/\Sp c W c2 w')):=fun V hb=>by
     refine(Ab hC (h1.below hC hb) y1 y2 y3 y4).mono ?_;rintro e w'⟨rfl,c2,I,J⟩;rw[hTL];exact⟨rfl,c2,I,s1.trans ((Sp.below hb).trans J)⟩
    have HQ:Hid (∀V,Hid (∃c2,DI R q c2 V L op { Z with z:=(Z.z.put 72 d).1,T:=Z.T+ud d,C:=Z.C+1 }/\Sp c W c2 V)->Kb 75 #[.pointer (some ⟨q.d,0,none⟩),.string H,.int .i64 0] V fun e w'=>e=.returned (.int .i64 0)/\Hid (∃c2,DI R q c2 w' L op O/\Sp c W c2 w')):=fun V hV=>by
     obtain⟨c2,I,J⟩:=hV.out;refine(vq hC I H F).mono ?_;rintro e w'⟨rfl,c3,a3,a4⟩;exact⟨rfl,c3,a3,J.trans a4⟩
    have m0:=h1.cs.1;have cz:=h1.dl;have HZ:=ku z3;have Q8:=ku ((by unfold wrap64;omega:wrap64 ((j:Int)+1)=(j:Int)+1));clear M h1 s1 z1 F z3 kv hd y1 y2 y3 y4 hTL HI;obtain⟨dk,dt,db,di,de⟩:=d;simp only at k0 k1 k2 k3 k4 HP HQ
    go_wp2_with fail
    go_region_with (first|(go_at_call 76;refine(HP.out _ (by first|exact(gt _ _).alloc (ge _) _|exact((gt _ _).alloc (ge _) _).drew)).mono ?_;rintro e w5⟨rfl,K5⟩)|(go_at_call 75;refine(HQ.out _ K5).mono ?_;rintro e w6⟨rfl,K6⟩))
    all_goals(
     go_wp2_with fail
     obtain⟨c6,I,J⟩:=K6.out;exact⟨⟨j+1,u,rfl,c6,O,I,J,HZ.out⟩,by simp[intOf];omega⟩)
   ·cases F
  ·obtain rfl:j=l.length:=by omega
   have q1:¬((l.length:Int)<l.length):=by omega
   rw[LT]at z1;have z9:=KH z1;subst z9;have H9:Hid (∃c',DI R q c' wr L op Z/\Sp c W c' wr):=⟨c1,h1,s1⟩;clear M h1 s1
   go_wp2_with fail
   go_ret
   exact⟨rfl,H9.out⟩
end
