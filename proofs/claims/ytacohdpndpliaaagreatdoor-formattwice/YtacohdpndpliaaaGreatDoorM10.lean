import Derived.Lib.Bytealg
import Derived.Lib.Strings
import Derived.Defers
import Derived.Shelf.Strings.Builder1
import Derived.Shelf.Strings.Builder2
import Derived.Shelf.Strings.LastIndex
import Derived.Shelf.Strings.Repeat
import Derived.OwnWalk
import Derived.Lib.LaidTab
import Derived.Lib.ItoaWalk
import Derived.Test.YtacohdpndpliaaaGreatDoorM02
set_option linter.all false
set_option maxHeartbeats 1000000
namespace Go.Proofs.YtacohdpndpliaaaGreatDoor.Lw
open Go.Proofs.Tryz
open Lx
variable {p:Int}
theorem GE {P:UInt8->Prop}(h:∀n:Fin 256,P (UInt8.ofNat n.val)) (c:UInt8):P c:=by
 have:=h ⟨c.toNat,c.toNat_lt⟩
 simpa using this
structure Dc where
 k:Int
 t:ByteArray
 b:Int
 i:Int
 e:Bool
 deriving DecidableEq
def bE:ByteArray:=⟨#[]⟩
def jD (s:ByteArray):List UInt8:=s.data.toList
theorem sO {a b:ByteArray}(h:jD a=jD b):a=b:=by
 cases a;cases b;simp only [jD] at h;rw [Sv.1 h]
theorem lO (s:ByteArray):(jD s).length=s.size:=by simp [jD]
def zW (c:UInt8):Bool:=c == 32 || c == 10
def fT (s:ByteArray):Bool:=decide (1<=s.size) && (decide (s.size<=65535) && (!zW ((jD s).getD 0 0) && !zW ((jD s).getD (s.size-1) 0)))
def j9 (n:Int):Bool:=decide (0<=n) && decide (n<=1000)
def rt (d:Dc):Bool:=
 if d.k=1 then fT d.t && decide (d=⟨1,d.t,0,0,false⟩)
 else if d.k=3 then j9 d.b && decide (d=⟨3,bE,d.b,0,false⟩)
 else if d.k=6 then j9 d.i && decide (d=⟨6,bE,0,d.i,d.e⟩)
 else if d.k=2\/d.k=4\/d.k=5\/d.k=7 then decide (d=⟨d.k,bE,0,0,false⟩) else false
inductive Rt:Dc->Prop
 |text (t:ByteArray) (h:fT t=true):Rt ⟨1,t,0,0,false⟩
 |brk (n:Int) (h:j9 n=true):Rt ⟨3,bE,n,0,false⟩
 |beg (n:Int) (e:Bool) (h:j9 n=true):Rt ⟨6,bE,0,n,e⟩
 |blank:Rt ⟨2,bE,0,0,false⟩
 |hard:Rt ⟨4,bE,0,0,false⟩
 |empty:Rt ⟨5,bE,0,0,false⟩
 | «end»:Rt ⟨7,bE,0,0,false⟩
theorem mD {d:Dc}(h:rt d=true):Rt d:=by
 unfold rt at h
 split at h
 ·simp only [Qx,QP] at h;obtain ⟨h1,h2⟩:=h;rw [h2];exact .text _ h1
 ·split at h
  ·simp only [Qx,QP] at h;obtain ⟨h1,h2⟩:=h;rw [h2];exact .brk _ h1
  ·split at h
   ·simp only [Qx,QP] at h;obtain ⟨h1,h2⟩:=h;rw [h2];exact .beg _ _ h1
   ·split at h
    ·rename_i h4
     simp only [QP] at h;obtain ⟨k,t,b,i,e⟩:=d;simp only [Dc.mk.injEq,true_and] at h;obtain ⟨rfl,rfl,rfl,rfl⟩:=h;simp only at h4
     rcases h4 with rfl|rfl|rfl|rfl
     ·exact .blank
     ·exact .hard
     ·exact .empty
     ·exact .end
    ·cases h
theorem se {n:Int}(h:j9 n=true):0<=n/\n<=1000:=by simpa [j9] using h
theorem np {t:ByteArray}(h:fT t=true):1<=t.size/\t.size<=65535:=by
 simp only [fT,Qx,QP] at h;exact ⟨h.1,h.2.1⟩
def dN (k:Int):Int:=if k=6 then 1 else if k=7 then -1 else 0
def cM:Int->Nat->List Dc->Option Nat
 |o,j,[]=>if 0<o then some j else none
 |o,j,d :: r=>if rt d=true/\0<=o+dN d.k then cM (o+dN d.k) (j+1) r else some j
def mO (l:List Dc):Int × Int:=if 2097152<l.length then (2,0) else match cM 0 0 l with|some j=>(70,(j:Int))|none=>(0,0)
theorem s9:∀(l:List Dc) (o:Int) (j:Nat),cM o j l=none->∀d∈l,rt d=true
 |[],_,_,_=>by simp
 |d :: r,o,j,h=>by
  simp only [cM] at h
  split at h
  ·rename_i hc
   intro x hx
   rcases QV.1 hx with rfl|hx
   ·exact hc.1
   ·exact s9 r _ _ h x hx
  ·cases h
theorem Ff:∀(l:List Dc) (o:Int) (j k:Nat),cM o j l=some k->k<=j+l.length
 |[],o,j,k,h=>by
  simp only [cM] at h
  split at h <;> cases h
  simp
 |d :: r,o,j,k,h=>by
  simp only [cM] at h
  split at h
  ·have:=Ff r _ _ k h;simp;omega
  ·cases h;omega
theorem MZ (l:List Dc):0<=(mO l).1/\(mO l).1<=70/\0<=(mO l).2/\(mO l).2<=2097152:=by
 unfold mO
 split
 ·simp
 ·rename_i h1
  cases hf:cM 0 0 l with
  |some j=>have:=Ff l 0 0 j hf;simp;omega
  |none=>simp
open Go.ChangeShapes Go.WideShapes Go.ChangeAt Go.RowKit
def lx:List (Int × Int × Int):=[(768,879,0),(4352,4447,2),(8203,8207,0),(8400,8447,0),(11904,12350,2),(12353,42191,2),(44032,55203,2),(63744,64255,2),(65024,65039,0),(65056,65071,0),(65072,65135,2),(65280,65376,2),(65504,65510,2),(127744,128591,2),(129280,129535,2),(131072,262141,2)]
def yz (i:Nat):Int:=(lx.getD i (0,0,0)).1
def AG (i:Nat):Int:=(lx.getD i (0,0,0)).2.1
def Nz (i:Nat):Int:=(lx.getD i (0,0,0)).2.2
def jR (w:World):Prop:=∀i,i<16->w.cell? ⟨5,i*3,none⟩=some (.int .i64 (yz i))/\w.cell? ⟨5,i*3+1,none⟩=some (.int .i64 (AG i))/\w.cell? ⟨5,i*3+2,none⟩=some (.int .i64 (Nz i))
theorem jR.below {w w':World}(h:jR w) (hb:Below w.heap.size w w'):jR w':=by
 intro i hi;obtain ⟨h0,h1,h2⟩:=h i hi;have hz:=QD w _ h0;exact ⟨(hb.cell (p:=⟨5,i*3,none⟩) hz).trans h0,(hb.cell (p:=⟨5,i*3+1,none⟩) hz).trans h1,(hb.cell (p:=⟨5,i*3+2,none⟩) hz).trans h2⟩
theorem BL:(Rows.laid_colophon_width_spans:DataW Unit)=.agg (lx.map fun x=>.agg [.lit (.int .i64 x.1),.lit (.int .i64 x.2.1),.lit (.int .i64 x.2.2)]):=by kernel_rfl
theorem ut {W:World}{L:List (String × DataW Unit)}(hpl:(L.all fun x=>x.2.handleName?.isNone)=true) (hm:("colophon/width.spans",Rows.laid_colophon_width_spans)∈L) (h:laidMetH Tryz.prog L W):jR W:=by
 rw [SE _ _ _ hpl] at h;obtain ⟨ps,hps,_,_⟩:=h;obtain ⟨g,t,cs,fuel,p,hg,ht,hv,hd⟩:=iG L ps hps _ _ hm;obtain rfl:=Q7 ((show Tryz.prog.globalNamed "colophon/width.spans"=some 5 by kernel_rfl).symm.trans hg);obtain rfl:=Q7 ((show (Tryz.prog.globals[5]?).map (·.type)=some 388 by kernel_rfl).symm.trans ht);rw [BL] at hd;obtain ⟨xs,m,_,ex,_,hl,hel⟩:=T6 underlying388 hd;have c3:Tryz.prog.cellsOf 3=1:=by kernel_rfl
 have c34:Tryz.prog.cellsOf 387=3:=by kernel_rfl
 intro i hi;have hE:=hel i hi;rw [c34,Pi (by omega)] at hE;obtain ⟨y0,y1,y2,n,ey,_,g0,g1,g2⟩:=Deep.trod_struct3 underlying387 hE;simp only [c3] at g0 g1 g2;obtain ⟨z0,a0,b0,_⟩:=Tg underlying3 g0;obtain ⟨z1,a1,b1,_⟩:=Tg underlying3 g1;obtain ⟨z2,a2,b2,_⟩:=Tg underlying3 g2;have hlen:lx.length=16:=rfl;have e3:(xs.map (·.1))=lx.map fun x=>(.agg [.lit (.int .i64 x.1),.lit (.int .i64 x.2.1),.lit (.int .i64 x.2.2)]:DataW Unit):=(UM (Va ex).1).symm
 have e4:(xs.map (·.1))[i]?=(lx.map fun x=>(.agg [.lit (.int .i64 x.1),.lit (.int .i64 x.2.1),.lit (.int .i64 x.2.2)]:DataW Unit))[i]?:=by rw [e3]
 rw [RX,RX,Pi (by omega:i<xs.length),Pi (by omega:i<lx.length),ey,b0,b1,b2] at e4;simp only [Sl,QZ,DataW.agg.injEq,List.cons.injEq,Ug,Lit.int.injEq,true_and,and_true] at e4;obtain ⟨f0,f1,f2⟩:=e4;have hT:lx.getD i (0,0,0)=lx[i]:=by rw [List.getD,Pi (show i<lx.length by omega)];rfl
 have key:∀(o:Nat) (z:Int),o<3->(((cs.toList.drop (i*3)).take 3).drop o).take 1=[.int .i64 z]->W.cell? ⟨5,i*3+o,none⟩=some (.int .i64 z):=by
  intro o z ho hz;rw [TC hg hv (i*3+o)];have h0:((((cs.toList.drop (i*3)).take 3).drop o).take 1)[0]?=some (.int .i64 z):=by rw [hz];rfl
  rw [Rm,IO (by omega),Rf,Rm,IO (by omega),Rf] at h0
  simpa using h0
 refine ⟨?_,?_,?_⟩
 ·have:=key 0 z0 (by omega) (by simpa using a0);rw [RF] at this;rw [this,yz,hT,f0];rfl
 ·have:=key 1 z1 (by omega) (by simpa using a1);rw [this,AG,hT,f1];rfl
 ·have:=key 2 z2 (by omega) (by simpa using a2);rw [this,Nz,hT,f2];rfl
open Go.RowKit
def Kz (p:Int):Prop:=(4352<=p/\p<=4447)\/(11904<=p/\p<=12350)\/(12353<=p/\p<=42191)\/(44032<=p/\p<=55203)\/(63744<=p/\p<=64255)\/(65072<=p/\p<=65135)\/(65280<=p/\p<=65376)\/(65504<=p/\p<=65510)\/(127744<=p/\p<=128591)\/(129280<=p/\p<=129535)\/(131072<=p/\p<=262141)
def Kr (p:Int):Prop:=(768<=p/\p<=879)\/(8203<=p/\p<=8207)\/(8400<=p/\p<=8447)\/(65024<=p/\p<=65039)\/(65056<=p/\p<=65071)
instance (p:Int):Decidable (Kz p):=by unfold Kz;infer_instance
instance (p:Int):Decidable (Kr p):=by unfold Kr;infer_instance
def wd (p:Int):Int:=if Kz p then 2 else if Kr p then 0 else 1
theorem Kv (p:Int):0<=wd p/\wd p<=2:=by unfold wd;split <;> (try split) <;> omega
theorem Lr (h:Kz p):wd p=2:=by unfold wd;rw [IO h]
theorem Lq (h:Kr p):wd p=0:=by
 unfold wd;rw [Eq (by unfold Kr at h;unfold Kz;omega),IO h]
theorem Lu (h:¬Kz p) (h2:¬Kr p):wd p=1:=by unfold wd;rw [Eq h,Eq h2]
theorem Hl (i:Nat) (p:Int) (hi:i<16) (h0:yz i<=p) (h1:p<=AG i):Nz i=wd p:=by
 rcases i with _|_|_|_|_|_|_|_|_|_|_|_|_|_|_|_|i
 all_goals simp [yz,AG,Nz,lx,List.getD] at h0 h1 ⊢
 all_goals first|exact (Lr (by unfold Kz;omega)).symm|exact (Lq (by unfold Kr;omega)).symm|omega
theorem Hm (p:Int) (h:∀k,k<16->p<yz k\/AG k<p):wd p=1:=by
 have a0:=h 0 (by omega);have a1:=h 1 (by omega);have a2:=h 2 (by omega);have a3:=h 3 (by omega);have a4:=h 4 (by omega);have a5:=h 5 (by omega);have a6:=h 6 (by omega);have a7:=h 7 (by omega);have a8:=h 8 (by omega);have a9:=h 9 (by omega);have a10:=h 10 (by omega);have a11:=h 11 (by omega);have a12:=h 12 (by omega);have a13:=h 13 (by omega);have a14:=h 14 (by omega);have a15:=h 15 (by omega);simp only [yz,AG,lx,List.getD,List.getElem?_cons_zero,RI,T7] at a0 a1 a2 a3 a4 a5 a6 a7 a8 a9 a10 a11 a12 a13 a14 a15;refine Lu ?_ ?_
 ·unfold Kz;omega
 ·unfold Kr;omega
theorem LB (i k:Nat) (hk:k<16) (h:i<=k):yz i<=yz k:=by
 have:∀k,k<16->∀i,i<16->i<=k->yz i<=yz k:=by decide +kernel
 exact this k hk i (by omega) h
theorem uu (i:Nat) (p:Int) (h:∀k,k<i->AG k<p) (h2:i<16->p<yz i):wd p=1:=by
 refine Hm p fun k hk=>?_
 by_cases hki:k<i
 ·exact .inr (h k hki)
 ·have:=h2 (by omega);have:=LB i k hk (by omega);omega
theorem nu {a b:Int}(h:a=b):Ending.returned (.int .i64 a)=.returned (.int .i64 b):=by rw [h]
theorem Me (p:Int) (w:World) (hT:jR w) :
  Qu 275 #[.int .i64 p] w fun e w'=>e=.returned (.int .i64 (wd p))/\w'=w:=by
 go_enter func275,ntmps275
 go_wp2_with fail
 go_loopw [4] (fun i wr=>wr=w/\∃k:Nat,k<=16/\i=.int .i64 k/\∀j,j<k->AG j<p) (fun i _=>16-(intOf i).toNat)
 case atStart=>exact ⟨rfl,0,by omega,rfl,fun j hj=>by omega⟩
 case round=>
  obtain ⟨rfl,k,hk,rfl,hall⟩:=hrel
  by_cases h16:k<16
  ·obtain ⟨c0,c1,c2⟩:=hT k h16;have HA:Hid (∀j,j<k->AG j<p):=hall;have HH:Hid (yz k<=p->p<=AG k->Nz k=wd p):=Hl k p h16;have HM:Hid (p<yz k->wd p=1):=fun h=>uu k p hall (fun _=>h)
   have HN:Hid (AG k<p->∀j,j<k+1->AG j<p):=fun h j hj=>by
    by_cases e:j=k
    ·subst e;exact h
    ·exact hall j (by omega)
   clear hall hT
   generalize yz k=l at *
   generalize Nz k=c at *
   generalize AG k=u at *
   by_cases h1:p<l
   ·go_wp2_with fail
    go_ret
    exact ⟨nu (HM.out h1).symm,rfl⟩
   ·by_cases h2:p<=u
    ·go_wp2_with fail
     go_ret
     exact ⟨nu (HH.out (by omega) h2),rfl⟩
    ·go_wp2_with fail
     exact ⟨⟨trivial,k+1,by omega,by go_num,HN.out (by omega)⟩,by simp [intOf];omega⟩
  ·have HM:Hid (wd p=1):=uu k p hall (fun h=>absurd h h16);clear hall hT
   go_wp2_with fail
   go_ret
   exact ⟨nu HM.out.symm,rfl⟩
def cl:List Nat->Int
 |[]=>0
 |p :: r=>wd (p:Int)+cl r
theorem MY (a b:List Nat):cl (a++b)=cl a+cl b:=by
 induction a with
 |nil=>simp [cl]
 |cons x r ih=>simp only [QW,cl,ih];omega
theorem Ow (l:List Nat):0<=cl l/\cl l<=2*l.length:=by
 induction l with
 |nil=>simp [cl]
 |cons x r ih=>
  have:=Kv (x:Int);simp only [cl,List.length_cons];omega
def cw (s:ByteArray) (k:Nat):Int:=cl ((IC s).take k)
def tw (s:ByteArray):Int:=cl (IC s)
theorem JW (s:ByteArray) (k:Nat) (h:k<(P s).length):cw s (k+1)=cw s k+wd (dp s (st s k)):=by
 unfold cw;rw [D2 s k h,MY];simp [cl]
theorem FM (s:ByteArray) (k:Nat) (h:(P s).length<=k):cw s k=tw s:=by
 unfold cw tw;rw [Rr (by rw [yV];omega)]
theorem KX (s:ByteArray) (k:Nat):0<=cw s k/\cw s k<=2*s.size:=by
 have h:=Ow ((IC s).take k);have h2:=Ay s;have h3:((IC s).take k).length<=(P s).length:=by rw [QX,yV];omega
 unfold cw;omega
theorem qJ (s:ByteArray):0<=tw s/\tw s<=2*s.size:=by
 rw [<-FM s _ (gt _)];exact KX s _
theorem lm (s:ByteArray) (w:World) (hT:jR w) (hs:s.size<=8589934592) :
  Qu 203 #[.string s] w fun e w'=>e=.returned (.int .i64 (tw s))/\Below w.heap.size w w':=by
 have hP:=Ay s
 go_enter func203,ntmps203
 go_wp2_with fail
 go_loopw [3] (fun n w'=>∃k:Nat,k<=(P s).length/\w'=w.iter s (st s k)/\n=.int .i64 (cw s k)) (fun _ w'=>s.size-w'.iterPos w.heap.size)
 case atStart=>exact ⟨0,by omega,rfl,rfl⟩
 case round=>
  obtain ⟨k,hk,rfl,rfl⟩:=hrel
  by_cases hlt:k<(P s).length
  ·have hp:=(gj s k).2 hlt;have hw:=aX s (st s k) hp;have hdp:=wb s (st s k);have hc:=KX s k;have hwd:=Kv (dp s (st s k));have HT:Hid (∀pos,jR (w.iter s pos)):=fun pos=>hT.below (dU w s pos)
   have HS:Hid (st s (k+1)=st s k+dw s (st s k)):=eX s k hlt;have HC:Hid (cw s (k+1)=cw s k+wd (dp s (st s k))):=JW s k hlt;have hnx:∀ty,(Instr.next (.pointer (some ⟨w.heap.size,0,none⟩)) true ty).run Tryz.prog (w.iter s (st s k))=.ok (.tuple #[.bool true,.int .i64 (st s k),.int .i32 (dp s (st s k))]) (w.iter s (st s k+dw s (st s k))):=fun ty=>Ur w s (st s k) ty hp
   clear hT
   generalize st s k=i at *
   generalize dw s i=d at *
   generalize hx:dp s i=x at *
   generalize cw s k=c at *
   clear hx
   go_wp2_with fail
   refine (Me x _ (HT.out _)).mono ?_;rintro e w' ⟨rfl,rfl⟩
   generalize wd (x:Int)=y at *
   go_wp2_with fail
   exact ⟨⟨k+1,hlt,by rw [HS.out],QM (Value.int .i64) HC.out.symm⟩,by simp;omega⟩
  ·have hp:¬st s k<s.size:=by rw [gj];exact hlt
   have hnx:∀ty,(Instr.next (.pointer (some ⟨w.heap.size,0,none⟩)) true ty).run Tryz.prog (w.iter s (st s k))=_:=fun ty=>UY w s (st s k) ty hp
   have HC:Hid (cw s k=tw s):=FM s k (by omega)
   go_wp2_with fail
   go_ret
   exact ⟨nu HC.out,dU _ _ _⟩
open Go.Lib (strCells strCells_length)
end Go.Proofs.YtacohdpndpliaaaGreatDoor.Lw
namespace Go.Proofs.YtacohdpndpliaaaGreatDoor
open Go.Proofs.Tryz
open Lw
open Lx
open Go.RowKit
open Go.Lib (strCells strCells_length)
theorem Fr.tab {i:Nat}{own own':Nat->Nat}{w w':World}(h:Fr i own own' w w') (hT:jR w) (h0:own 5≠i):jR w':=by
 intro j hj;obtain ⟨a0,a1,a2⟩:=hT j hj;exact ⟨h.cell a0 h0,h.cell a1 h0,h.cell a2 h0⟩
end Go.Proofs.YtacohdpndpliaaaGreatDoor
namespace Go.Proofs.YtacohdpndpliaaaGreatDoor.Lw
open Go.Proofs.Tryz
open Lx
open Go.RowKit
open Go.Lib (strCells strCells_length)
variable {w:World}{a:Addr}{l:List Dc}
theorem Tryz.info5:(Tryz.prog.info? 5).map (fun i=>(i.zero,i.size,i.bytes))=some (some (.int .u8 0),1,1):=by kernel_rfl
theorem Tryz.info195:(Tryz.prog.info? 195).map (fun i=>(i.zero,i.size,i.bytes))=some (some (.agg #[.int .i64 0,.int .i64 0]),2,16):=by kernel_rfl
def eg (x:Nat × Nat):List Value:=[.int .i64 x.1,.int .i64 x.2]
theorem FC (x:Nat × Nat):(eg x).length=2:=rfl
theorem J2 (c:Nat) (v:Value) (n:Nat) (xs:List Value) (t:ByteArray) (w:World) (hc:w.heap[c]?=some (.cells #[v] 161 (0,0))) (ho:w.ownsRow 0 5 1 v n xs) (hn:n+t.size<=70368744177664) :
  Qu 265 #[.string t,.pointer (some ⟨c,0,none⟩)] w fun e w'=>e=.returned (.tuple #[])/\∃v',w'.heap[c]?=some (.cells #[v'] 161 (0,0))/\w'.ownsRow 0 5 1 v' (n+t.size) (xs++strCells t)/\(v'.ownBlock=v.ownBlock\/v'.ownBlock=some w.heap.size)/\Kp (fun k=>k=c\/some k=v.ownBlock) w w':=by
 obtain ⟨i0,hi,hz0,hz1,hz2⟩:=RQ Tryz.info5;have hne:=aM ho hc (by decide);have hcl:=aq hc;have c0:w.cell? ⟨c,0,none⟩=some v:=af hc rfl;obtain ⟨p,cap,rfl,_,_⟩:=aJ ho
 go_enter func265,ntmps265
 go_wp2_with (first|(at_builtin;refine dY (P:=Tryz.prog) (w:=w) rfl _ _ 161 9 rfl 0 5 i0 underlying161 underlying9 hi hz0 hz1 hz2 _ _ _ rfl ho t rfl ?c3 ?c4 ?c5 ?_))
 case c3=>unfold maxLen;omega
 case c4=>omega
 case c5=>omega
 intro v2 w2 ho2 hg2 hat;have hk:=Kp.of_grown hg2;have hc2:w2.heap[c]?=some (.cells #[.slice p n cap] 161 (0,0)):=hk.blk hc (fun h=>hne h.symm);have d0:w2.cell? ⟨c,0,none⟩=some (.slice p n cap):=af hc2 rfl;have f0:w2.frozen? ⟨c,0,none⟩=false:=am hc2;have hne2:=aM ho2 hc2 (by decide);obtain ⟨p2,cap2,rfl,_,_⟩:=aJ ho2
 have HE:Hid ((w2.setCell ⟨c,0,none⟩ (.slice p2 (n+t.size) cap2)).heap[c]?=some (.cells #[.slice p2 (n+t.size) cap2] 161 (0,0))/\(w2.setCell ⟨c,0,none⟩ (.slice p2 (n+t.size) cap2)).ownsRow 0 5 1 (.slice p2 (n+t.size) cap2) (n+t.size) (xs++strCells t)/\((Value.slice p2 (n+t.size) cap2).ownBlock=(Value.slice p n cap).ownBlock\/(Value.slice p2 (n+t.size) cap2).ownBlock=some w.heap.size)/\Kp (fun k=>k=c\/some k=(Value.slice p n cap).ownBlock) w (w2.setCell ⟨c,0,none⟩ (.slice p2 (n+t.size) cap2))):=by
  refine ⟨aj hc2 0 _,(Kp.set w2 c 0 _).row ho2 (fun k h1 h2=>hne2 (by rw [h1,h2])),hat,?_⟩;exact (Kp.step (S:=fun k=>k=c\/some k=(Value.slice p n cap).ownBlock) (Kp.refl _ _) hk (fun j _ h=>.inr h)).step (Kp.set w2 c 0 _) (fun j _ h=>.inl h)
 clear hk hg2 ho2 hat hne hne2 hc2
 go_wp2_with fail
 go_end0
 exact ⟨rfl,_,HE.out⟩
theorem J3 (m:Int) (d c:Nat) (w:World) (hm:m<=0) :
  Qu 264 #[.int .i64 m,.pointer (some ⟨d,0,none⟩),.pointer (some ⟨c,0,none⟩)] w fun e w'=>e=.returned (.tuple #[])/\w'=w:=by
 have q:decide (0<m)=false:=by simp;omega
 go_enter func264,ntmps264
 go_wp2_with fail
 go_end0
 exact ⟨rfl,rfl⟩
theorem gX (W:World) (a b:Value) (t n:Nat) (h:n=W.heap.size):∀j u,[a,b][j]?=some u->(W.alloc (.cells #[a,b] t)).cell? ((⟨n,0,none⟩:Addr).add j)=some u:=by
 subst h;intro j u hj
 match j,hj with
 |0,hj=>simp at hj;subst hj;simp [Addr.add]
 |1,hj=>simp at hj;subst hj;simp [Addr.add]
theorem Cp (m:Nat) (d c:Nat) (v:Value) (tv:Value) (n l:Nat) (xs:List Value) (w:World) (hc:w.heap[c]?=some (.cells #[tv] 161 (0,0))) (htv:∃p cap,tv=.slice p l cap) (hd:w.heap[d]?=some (.cells #[v] 185 (0,0))) (ho:w.ownsRow 0 195 2 v n xs) (hn:n<=8589934592) (hm:0<m) (hm2:m<=9223372036854775807) (hl:l<=9223372036854775807) :
  Qu 264 #[.int .i64 m,.pointer (some ⟨d,0,none⟩),.pointer (some ⟨c,0,none⟩)] w fun e w'=>e=.returned (.tuple #[])/\∃v',w'.heap[d]?=some (.cells #[v'] 185 (0,0))/\w'.ownsRow 0 195 2 v' (n+1) (xs++eg (l,m))/\(v'.ownBlock=v.ownBlock\/∃b,w.heap.size<=b/\v'.ownBlock=some b)/\Kp (fun k=>k=d\/some k=v.ownBlock) w w':=by
 obtain ⟨i0,hi,hz0,hz1,hz2⟩:=RQ Tryz.info195;have q:decide (0<(m:Int))=true:=by simp;omega
 have hne:=aM ho hd (by decide);have gF:=aq hd;have c0:w.cell? ⟨c,0,none⟩=some tv:=af hc rfl;have d0:w.cell? ⟨d,0,none⟩=some v:=af hd rfl;have hcl:=aq hc;obtain ⟨tp,tcap,rfl⟩:=htv;obtain ⟨p,cap,rfl,_,_⟩:=aJ ho
 go_enter func264,ntmps264
 go_wp2_with (first|(at_builtin;refine Ry (P:=Tryz.prog) (w:=w.alloc (.cells #[.int .i64 l,.int .i64 m] 195)) rfl _ _ 185 rfl 0 195 i0 (.agg #[.int .i64 0,.int .i64 0]) 2 16 underlying185 hi hz0 hz1 hz2 rfl (by decide) _ _ _ rfl (bq ho ((hH _ _).alloc (gt _) _)) ⟨w.heap.size,0,none⟩ 1 1 (eg (l,m)) rfl rfl ?c1 ?c2 ?c3 ?c4 ?c5 ?_))
 case c1=>exact gX _ _ _ _ _ rfl
 case c2=>intro u hu;simp [eg] at hu;rcases hu with rfl|rfl <;> rfl
 case c3=>unfold maxLen;omega
 case c4=>omega
 case c5=>omega
 intro v2 w2 ho2 hg2 _ hat;have hk:=Kp.step (S:=fun k=>k=d\/some k=(Value.slice p n cap).ownBlock) ((Kp.refl _ _).alloc (.cells #[.int .i64 l,.int .i64 m] 195)) (Kp.of_grown hg2) (fun j _ h=>.inr h);have hk':=Kp.step (S:=fun k=>some k=(Value.slice p n cap).ownBlock) ((Kp.refl _ _).alloc (.cells #[.int .i64 l,.int .i64 m] 195)) (Kp.of_grown hg2) (fun j _ h=>h);have hd2:w2.heap[d]?=some (.cells #[.slice p n cap] 185 (0,0)):=hk'.blk hd (fun h=>hne h.symm);have e0:w2.cell? ⟨d,0,none⟩=some (.slice p n cap):=af hd2 rfl;have f0:w2.frozen? ⟨d,0,none⟩=false:=am hd2;have hne2:=aM ho2 hd2 (by decide);obtain ⟨p2,cap2,rfl,_,_⟩:=aJ ho2
 have HE:Hid ((w2.setCell ⟨d,0,none⟩ (.slice p2 (n+1) cap2)).heap[d]?=some (.cells #[.slice p2 (n+1) cap2] 185 (0,0))/\(w2.setCell ⟨d,0,none⟩ (.slice p2 (n+1) cap2)).ownsRow 0 195 2 (.slice p2 (n+1) cap2) (n+1) (xs++eg (l,m))/\((Value.slice p2 (n+1) cap2).ownBlock=(Value.slice p n cap).ownBlock\/∃b,w.heap.size<=b/\(Value.slice p2 (n+1) cap2).ownBlock=some b)/\Kp (fun k=>k=d\/some k=(Value.slice p n cap).ownBlock) w (w2.setCell ⟨d,0,none⟩ (.slice p2 (n+1) cap2))):=by
  refine ⟨aj hd2 0 _,(Kp.set w2 d 0 _).row ho2 (fun k h1 h2=>hne2 (by rw [h1,h2])),?_,?_⟩
  ·rcases hat with h|h
   ·exact .inl h
   ·exact .inr ⟨_,by have:=Qy w (.cells #[.int .i64 l,.int .i64 m] 195);omega,h⟩
  ·exact hk.step (Kp.set w2 d 0 _) (fun j _ h=>.inl h)
 clear hk hk' hg2 ho2 hat hne hne2 hd2
 go_wp2_with fail
 go_end0
 exact ⟨rfl,_,HE.out⟩
def sk (b:Bool) (col wait:Int) (tv gv:Value):Array Value:=#[.bool b,.int .i64 col,.int .i64 wait,tv,gv]
theorem gT (w:World) (o:Obj) (g:Nat) (x:Obj) (h:w.heap[g]?=some x):(w.alloc o).heap[g]?=some x:=(((hH _ w).alloc (gt _) o).block g (aq h)).trans h
theorem kW {v:Value}(h:w.cell? a=some v):∀o,(w.alloc o).cell? a=some v:=fun o=>(((hH _ w).alloc (gt _) o).cell (QD w a h)).trans h
theorem tM {v:Value}(h:w.cell? a=some v):∀o p,((w.alloc o).alloc p).cell? a=some v:=fun o p=>kW (kW h o) p
theorem Ak {v:Value}(h:w.cell? a=some v):∀o p q,(((w.alloc o).alloc p).alloc q).cell? a=some v:=fun o p q=>kW (tM h o p) q
theorem MX (u:FrameMode) (b b':Bool) (col wait col' wait':Int) (c d h g:Nat) (tv gv tv' gv':Value) (w:World)
  (hg:w.heap[g]?=some (.cells (sk b col wait tv gv) 187 (0,0))) (hc:w.heap[c]?=some (.cells #[tv'] 161 (0,0))) (hd:w.heap[d]?=some (.cells #[gv'] 185 (0,0))) (hh:w.heap[h]?=some (.cells #[.pointer (some ⟨g,0,none⟩)] 108 (0,0)))
  (htv:∃p n cap,tv=.slice p n cap) (hgv:∃p n cap,gv=.slice p n cap) (htv':∃p n cap,tv'=.slice p n cap) (hgv':∃p n cap,gv'=.slice p n cap) :
  CallsD Tryz.prog 266 #[.agg #[.bool b',.int .i64 col',.int .i64 wait'],.pointer (some ⟨c,0,none⟩),.pointer (some ⟨d,0,none⟩),.pointer (some ⟨h,0,none⟩)] u w fun e u' w'=>u'=u/\(e=.returned (.tuple #[])/\w'.heap[g]?=some (.cells (sk b' col' wait' tv' gv') 187 (0,0))/\Kp (fun k=>k=g) w w'):=by
 have gl:=aq hg;have cl:=aq hc;have dl:=aq hd;have hl:=aq hh;have g0:w.cell? ⟨g,0,none⟩=some (.bool b):=af hg rfl;have g1:w.cell? ⟨g,1,none⟩=some (.int .i64 col):=af hg rfl;have g2:w.cell? ⟨g,2,none⟩=some (.int .i64 wait):=af hg rfl;have g3:w.cell? ⟨g,3,none⟩=some tv:=af hg rfl;have g4:w.cell? ⟨g,4,none⟩=some gv:=af hg rfl;have f0:w.frozen? ⟨g,0,none⟩=false:=am hg;have f1:w.frozen? ⟨g,1,none⟩=false:=am hg;have f2:w.frozen? ⟨g,2,none⟩=false:=am hg;have f3:w.frozen? ⟨g,3,none⟩=false:=am hg;have f4:w.frozen? ⟨g,4,none⟩=false:=am hg;have c0:w.cell? ⟨c,0,none⟩=some tv':=af hc rfl;have d0:w.cell? ⟨d,0,none⟩=some gv':=af hd rfl;have h0:w.cell? ⟨h,0,none⟩=some (.pointer (some ⟨g,0,none⟩)):=af hh rfl;obtain ⟨p1,n1,k1,rfl⟩:=htv;obtain ⟨p2,n2,k2,rfl⟩:=hgv;obtain ⟨p3,n3,k3,rfl⟩:=htv';obtain ⟨p4,n4,k4,rfl⟩:=hgv'
 go_enter_d func266,ntmps266
 go_wp2_with fail
 go_region
 go_wp2_with fail
 go_end0
 refine ⟨rfl,?_,?_⟩
 ·refine (gT _ _ _ _ ?_);exact aj (aj (aj (aj (aj hg 3 _) 4 _) 0 _) 1 _) 2 _
 ·refine Kp.same (W:=(((((w.setCell ⟨g,3,none⟩ (.slice p3 n3 k3)).setCell ⟨g,4,none⟩ (.slice p4 n4 k4)).setCell ⟨g,0,none⟩ (.bool b')).setCell ⟨g,1,none⟩ (.int .i64 col')).setCell ⟨g,2,none⟩ (.int .i64 wait')).alloc (.cells #[.bool b',.int .i64 col',.int .i64 wait'] 184)) ?_ rfl rfl rfl rfl;refine Kp.alloc ?_ _;exact (((((Kp.refl _ w).trans (Kp.set _ _ _ _)).trans (Kp.set _ _ _ _)).trans (Kp.set _ _ _ _)).trans (Kp.set _ _ _ _)).trans (Kp.set _ _ _ _)
open Go.RowKit Go.Shelf
def Tryz.lays169_ren:Go.Shelf.Ren:=⟨fun|169=>120|n=>n,fun|70=>191|9=>9|0=>0|72=>193|37=>161|127=>284|3=>3|5=>5|n=>n,fun|n=>n⟩
theorem Tryz.lays169:Go.Proofs.Lays.n169 Tryz.prog Tryz.lays169_ren:={
 mixed:=by kernel_rfl
 f169:=func120.trans (QM some (by kernel_rfl))
 t0:=underlying0
 a0:=Uj
 z0:=T1
 v0:=S4
 t3:=underlying3
 a3:=Tr
 z3:=S5
 v3:=So
 t9:=underlying9
 a9:=Ts
 z9:=S9
 v9:=Ss
 t37:=underlying161
 a37:=UP
 z37:=UC
 v37:=TU
 t70:=underlying191
 a70:=Tryz.isAgg191
 z70:=Tryz.sizeOf191
 v70:=UJ
 t72:=underlying193
 a72:=Tryz.isAgg193
 z72:=Tryz.sizeOf193
 v72:=UK
 t127:=underlying284
 a127:=Tryz.isAgg284
 z127:=Tryz.sizeOf284
 v127:=UH }
theorem Tryz.Builder_Extra_169:Builder.Extra Tryz.prog Tryz.lays169_ren:={
 sizeBuilder:=by kernel_rfl
 liesBuilder:=by kernel_rfl
 t5:=underlying5
 a5:=S8
 z5:=SN
 v5:=Sa
 infoByte:=by kernel_rfl
 cellsByte:=by kernel_rfl
 sizeByte:=by kernel_rfl
 neB5:=by decide }
def Tryz.lays165_ren:Go.Shelf.Ren:=⟨fun|165=>115|240=>197|241=>198|276=>268|277=>269|n=>n,fun|70=>191|3=>3|0=>0|4=>4|9=>9|20=>20|72=>193|37=>161|164=>144|5=>5|n=>n,fun|n=>n⟩
theorem Tryz.lays165:Go.Proofs.Lays.n165 Tryz.prog Tryz.lays165_ren:={
 mixed:=by kernel_rfl
 f165:=func115.trans (QM some (by kernel_rfl))
 f240:=func197.trans (QM some (by kernel_rfl))
 f241:=func198.trans (QM some (by kernel_rfl))
 f276:=func268.trans (QM some (by kernel_rfl))
 f277:=func269.trans (QM some (by kernel_rfl))
 t0:=underlying0
 a0:=Uj
 z0:=T1
 v0:=S4
 t3:=underlying3
 a3:=Tr
 z3:=S5
 v3:=So
 t4:=underlying4
 a4:=TS
 z4:=Tw
 v4:=SI
 t9:=underlying9
 a9:=Ts
 z9:=S9
 v9:=Ss
 t20:=underlying20
 a20:=Tryz.isAgg20
 z20:=Tryz.sizeOf20
 v20:=Tryz.zeroValue20
 t37:=underlying161
 a37:=UP
 z37:=UC
 v37:=TU
 t70:=underlying191
 a70:=Tryz.isAgg191
 z70:=Tryz.sizeOf191
 v70:=UJ
 t72:=underlying193
 a72:=Tryz.isAgg193
 z72:=Tryz.sizeOf193
 v72:=UK
 t164:=underlying144
 a164:=Tryz.isAgg144
 z164:=Tryz.sizeOf144
 v164:=Tryz.zeroValue144 }
theorem Tryz.Builder_Extra_165:Builder.Extra Tryz.prog Tryz.lays165_ren:={
 sizeBuilder:=by kernel_rfl
 liesBuilder:=by kernel_rfl
 t5:=underlying5
 a5:=S8
 z5:=SN
 v5:=Sa
 infoByte:=by kernel_rfl
 cellsByte:=by kernel_rfl
 sizeByte:=by kernel_rfl
 neB5:=by decide }
def Tryz.lays148_ren:Go.Shelf.Ren:=⟨fun|148=>267|222=>346|223=>347|269=>392|n=>n,fun|9=>9|3=>3|4=>4|5=>5|146=>345|51=>344|46=>281|n=>n,fun|n=>n⟩
theorem Tryz.lays148:Go.Proofs.Lays.n148 Tryz.prog Tryz.lays148_ren:={
 mixed:=by kernel_rfl
 f148:=func267.trans (QM some (by kernel_rfl))
 f222:=func346.trans (QM some (by kernel_rfl))
 f223:=func347.trans (QM some (by kernel_rfl))
 f269:=func392.trans (QM some (by kernel_rfl))
 t3:=underlying3
 a3:=Tr
 z3:=S5
 v3:=So
 t4:=underlying4
 a4:=TS
 z4:=Tw
 v4:=SI
 t5:=underlying5
 a5:=S8
 z5:=SN
 v5:=Sa
 t9:=underlying9
 a9:=Ts
 z9:=S9
 v9:=Ss
 t46:=underlying281
 a46:=UO
 z46:=UB
 v46:=TT
 t51:=underlying344
 a51:=Tryz.isAgg344
 z51:=Tryz.sizeOf344
 v51:=Tryz.zeroValue344
 t146:=underlying345
 a146:=Tryz.isAgg345
 z146:=Tryz.sizeOf345
 v146:=Tryz.zeroValue345 }
open Go.RowKit Go.Lib in

def Tryz.lays105_ren:Go.Shelf.Ren:=⟨fun|105=>119|212=>199|99=>91|165=>115|166=>118|170=>200|169=>120|263=>270|264=>271|206=>177|240=>197|241=>198|276=>268|277=>269|n=>n,fun|9=>9|3=>3|4=>4|20=>20|0=>0|46=>281|109=>282|5=>5|72=>193|76=>196|51=>344|146=>345|53=>347|148=>348|70=>191|37=>161|75=>32|127=>284|164=>144|80=>127|n=>n,fun|n=>n⟩
theorem Tryz.lays105:Go.Proofs.Lays.n105 Tryz.prog Tryz.lays105_ren:={
 mixed:=by kernel_rfl
 f99:=func91.trans (QM some (by kernel_rfl))
 f105:=func119.trans (QM some (by kernel_rfl))
 f165:=func115.trans (QM some (by kernel_rfl))
 f166:=func118.trans (QM some (by kernel_rfl))
 f169:=func120.trans (QM some (by kernel_rfl))
 f170:=func200.trans (QM some (by kernel_rfl))
 f206:=func177.trans (QM some (by kernel_rfl))
 f212:=func199.trans (QM some (by kernel_rfl))
 f240:=func197.trans (QM some (by kernel_rfl))
 f241:=func198.trans (QM some (by kernel_rfl))
 f263:=func270.trans (QM some (by kernel_rfl))
 f264:=func271.trans (QM some (by kernel_rfl))
 f276:=func268.trans (QM some (by kernel_rfl))
 f277:=func269.trans (QM some (by kernel_rfl))
 t0:=underlying0
 a0:=Uj
 z0:=T1
 v0:=S4
 t3:=underlying3
 a3:=Tr
 z3:=S5
 v3:=So
 t4:=underlying4
 a4:=TS
 z4:=Tw
 v4:=SI
 t5:=underlying5
 a5:=S8
 z5:=SN
 v5:=Sa
 t9:=underlying9
 a9:=Ts
 z9:=S9
 v9:=Ss
 t20:=underlying20
 a20:=Tryz.isAgg20
 z20:=Tryz.sizeOf20
 v20:=Tryz.zeroValue20
 t37:=underlying161
 a37:=UP
 z37:=UC
 v37:=TU
 t46:=underlying281
 a46:=UO
 z46:=UB
 v46:=TT
 t51:=underlying344
 a51:=Tryz.isAgg344
 z51:=Tryz.sizeOf344
 v51:=Tryz.zeroValue344
 t53:=underlying347
 a53:=Tryz.isAgg347
 z53:=Tryz.sizeOf347
 v53:=Tryz.zeroValue347
 t70:=underlying191
 a70:=Tryz.isAgg191
 z70:=Tryz.sizeOf191
 v70:=UJ
 t72:=underlying193
 a72:=Tryz.isAgg193
 z72:=Tryz.sizeOf193
 v72:=UK
 t75:=underlying32
 a75:=Tryz.isAgg32
 z75:=Tryz.sizeOf32
 v75:=Tryz.zeroValue32
 t76:=underlying196
 a76:=Tryz.isAgg196
 z76:=Tryz.sizeOf196
 v76:=Tryz.zeroValue196
 t109:=underlying282
 a109:=Tryz.isAgg282
 z109:=Tryz.sizeOf282
 v109:=Tryz.zeroValue282
 t127:=underlying284
 a127:=Tryz.isAgg284
 z127:=Tryz.sizeOf284
 v127:=UH
 t146:=underlying345
 a146:=Tryz.isAgg345
 z146:=Tryz.sizeOf345
 v146:=Tryz.zeroValue345
 t148:=underlying348
 a148:=Tryz.isAgg348
 z148:=Tryz.sizeOf348
 v148:=Tryz.zeroValue348
 t164:=underlying144
 a164:=Tryz.isAgg144
 z164:=Tryz.sizeOf144
 v164:=Tryz.zeroValue144 }
theorem Tryz.Builder_Extra_105:Builder.Extra Tryz.prog Tryz.lays105_ren:={
 sizeBuilder:=by kernel_rfl
 liesBuilder:=by kernel_rfl
 t5:=underlying5
 a5:=S8
 z5:=SN
 v5:=Sa
 infoByte:=by kernel_rfl
 cellsByte:=by kernel_rfl
 sizeByte:=by kernel_rfl
 neB5:=by decide }
open Go.RowKit Go.Lib in

theorem OB (B b n:Nat) (w:World) (hB:B<=b) (hbk:w.heap[b]?=some (.cells #[.pointer none,.slice none 0 0] 193 (0,0))) (hBw:B<=w.heap.size) (hn:n<=281474976710656) :
  Qu 115 #[.pointer (some ⟨b,0,none⟩),.int .i64 n] w fun e w'=>e=.returned (.tuple #[])/\(Lib.BuilderAt 193 5 B b (.pointer (some ⟨b,0,none⟩)) [] w'/\Below B w w'):=Any.Builder_Grow_fresh Tryz.lays165 Tryz.Builder_Extra_165 B b n w hB hbk hBw hn
theorem J5 (B b:Nat) (l:List UInt8) (w:World) (h:Lib.IsBuilder 193 5 B b (Lib.byteCells l) w) (hBw:B<=w.heap.size) :
  Qu 120 #[.pointer (some ⟨b,0,none⟩)] w fun e w'=>e=.returned (.string ⟨l.toArray⟩)/\Below B w w':=Any.Builder_String_any Tryz.lays169 Tryz.Builder_Extra_169 B b l w h hBw
theorem Mq (s sub:ByteArray) (h1:sub.size=1) (hs:s.size<4611686018427387904) (w:World) :
  Qu 267 #[.string s,.string sub] w fun e w'=>e=.returned (.int .i64 (Lib.lastIndexByte s ((sub[0]'(by omega)).toNat:Int)))/\w'=w:=Any.strings_LastIndex_one Tryz.lays148 s sub h1 hs w
theorem xv (s:ByteArray) (c:Nat) (w:World) (hc:c<=9223372036854775807) (hlen:s.size*c<=140737488355328) :
  Qu 119 #[.string s,.int .i64 c] w fun e w'=>e=.returned (.string ⟨(Lib.repeatL s.data.toList c).toArray⟩)/\Qv w w':=Any.strings_Repeat Tryz.lays105 Tryz.Builder_Extra_105 s c w hc hlen
theorem M9 (b:Nat) (w:World) (h0:w.cell? ⟨b,0,none⟩=some (.pointer (some ⟨b,0,none⟩))) :
  Qu 197 #[.pointer (some ⟨b,0,none⟩)] w fun e w'=>e=.returned (.tuple #[])/\w'=w:=Any.Builder_copyCheck_used (P:=Tryz.prog) (ρ:=Tryz.lays105_ren) { Tryz.lays105 with } Tryz.Builder_Extra_105.toX72 b w h0
theorem KD (w:World) (A C D:Obj):(((w.alloc A).alloc C).alloc D).heap[w.heap.size]?=some A/\(((w.alloc A).alloc C).alloc D).heap[w.heap.size+1]?=some C/\(((w.alloc A).alloc C).alloc D).heap[w.heap.size+1+1]?=some D/\Below w.heap.size w (((w.alloc A).alloc C).alloc D):=by
 have s1:(w.alloc A).heap.size=w.heap.size+1:=Qy w A;have s2:((w.alloc A).alloc C).heap.size=w.heap.size+1+1:=by rw [Qy,s1]
 refine ⟨gT _ _ _ _ (gT _ _ _ _ (au _ _)),gT _ _ _ _ ?_,?_,(((hH _ w).alloc (gt _) A).alloc (by omega) C).alloc (by omega) D⟩
 ·rw [<-s1];exact au _ _
 ·rw [<-s2];exact au _ _
theorem pI (g:Nat) (b:Bool) (col wait:Int) (tv gv:Value) (w:World) (hg:w.heap[g]?=some (.cells (sk b col wait tv gv) 187 (0,0))) (htv:∃p n cap,tv=.slice p n cap) (hgv:∃p n cap,gv=.slice p n cap) :
  Qu 190 #[.pointer (some ⟨g,0,none⟩)] w fun e w'=>∃c d h,e=.returned (.tuple #[.func (.func 264) #[] #[.pointer (some ⟨d,0,none⟩),.pointer (some ⟨c,0,none⟩)],.func (.func 265) #[] #[.pointer (some ⟨c,0,none⟩)],.func (.func 266) #[] #[.pointer (some ⟨c,0,none⟩),.pointer (some ⟨d,0,none⟩),.pointer (some ⟨h,0,none⟩)]]) /\
   (w'.heap[c]?=some (.cells #[tv] 161 (0,0))/\w'.heap[d]?=some (.cells #[gv] 185 (0,0))/\w'.heap[h]?=some (.cells #[.pointer (some ⟨g,0,none⟩)] 108 (0,0))/\w.heap.size<=c/\w.heap.size<=d/\w.heap.size<=h)/\Qv w w':=by
 have gl:=aq hg;have g3:w.cell? ⟨g,3,none⟩=some tv:=af hg rfl;have g4:w.cell? ⟨g,4,none⟩=some gv:=af hg rfl;obtain ⟨p1,n1,k1,rfl⟩:=htv;obtain ⟨p2,n2,k2,rfl⟩:=hgv;have a1:=kW g3;have a2:=tM g3;have a3:=Ak g3;have b1:=kW g4;have b2:=tM g4;have b3:=Ak g4;have hmf:=mkfn
 go_enter func190,ntmps190
 go_wp2_with fail
 go_region
 all_goals go_wp2_with fail
 ·go_ret3
  obtain ⟨e0,e1,e2,hb⟩:=KD w (.cells #[.pointer (some ⟨g,0,none⟩)] 108) (.cells #[.slice p1 n1 k1] 161) (.cells #[.slice p2 n2 k2] 185);exact ⟨w.heap.size+1,w.heap.size+1+1,w.heap.size,rfl,⟨e1,e2,e0,by omega,by omega,by omega⟩,hb.drew⟩
 ·go_ret3
  obtain ⟨e0,e1,e2,hb⟩:=KD w (.cells #[.pointer (some ⟨g,0,none⟩)] 108) (.cells #[.slice p2 n2 k2] 185) (.cells #[.slice p1 n1 k1] 161);exact ⟨w.heap.size+1+1,w.heap.size+1,w.heap.size,rfl,⟨e2,e1,e0,by omega,by omega,by omega⟩,hb.drew⟩
def lf (t:ByteArray):Int:=Lib.lastIndexByte t 10
theorem KO (t:ByteArray):-1<=lf t/\lf t<t.size:=by
 have:=Lib.lastIdx_spec t 10 t.size;unfold lf Lib.lastIndexByte
 rcases this with ⟨h,_⟩|⟨i,hi,h,_⟩
 ·rw [h];omega
 ·rw [h];omega
def ub (t:ByteArray):ByteArray:=t.extract (lf t+1).toNat t.size
def mT (col wait:Int) (t:ByteArray):Int:=if lf t<0 then col+wait+tw t else tw (ub t)
theorem vu (s:ByteArray) (hs:s.size<4611686018427387904) (w:World) :
  Qu 267 #[.string s,.string ⟨#[10]⟩] w fun e w'=>e=.returned (.int .i64 (lf s))/\w'=w:=Mq s ⟨#[10]⟩ rfl hs w
theorem IV (w:World):Qu 51 #[] w fun e w'=>e=.returned (.pointer (some ⟨w.heap.size,0,none⟩))/\w'=w.alloc (.cells (sk false 0 0 (.slice none 0 0) (.slice none 0 0)) 187):=by
 go_enter func51,ntmps51
 go_wp2_with fail
 go_ret
 exact ⟨rfl,rfl⟩
theorem ya (g:Nat) (b:Bool) (col wait:Int) (tv gv:Value) (w:World) (hg:w.heap[g]?=some (.cells (sk b col wait tv gv) 187 (0,0))) (h0:0<=col) (h1:col<=1152921504606846976) (h2:0<=wait) (h3:wait<=1152921504606846976) :
  Qu 196 #[.pointer (some ⟨g,0,none⟩)] w fun e w'=>e=.returned (.int .i64 (col+wait))/\Qv w w':=by
 have g1:w.cell? ⟨g,1,none⟩=some (.int .i64 col):=af hg rfl;have g2:w.cell? ⟨g,2,none⟩=some (.int .i64 wait):=af hg rfl
 go_enter func196,ntmps196
 go_wp2_with fail
 go_quiet (fail)
 go_wp2_with fail
 go_ret
 exact ⟨rfl,below_drewN (hH _ w) nq⟩
theorem BR (g:Nat) (b:Bool) (col wait:Int) (tv gv:Value) (w:World) (hg:w.heap[g]?=some (.cells (sk b col wait tv gv) 187 (0,0))) :
  Qu 192 #[.pointer (some ⟨g,0,none⟩)] w fun e w'=>e=.returned (.bool (!b))/\w'=w:=by
 have g0:w.cell? ⟨g,0,none⟩=some (.bool b):=af hg rfl
 go_enter func192,ntmps192
 go_wp2_with fail
 go_ret
 exact ⟨rfl,rfl⟩
theorem yi (g:Nat) (b:Bool) (col wait n:Int) (tv gv:Value) (w:World) (hg:w.heap[g]?=some (.cells (sk b col wait tv gv) 187 (0,0))) (h0:0<=n) (h1:n<=1048576) (h2:0<=wait) (h3:wait<=1152921504606846976) :
  Qu 193 #[.pointer (some ⟨g,0,none⟩),.int .i64 n] w fun e w'=>e=.returned (.int .i64 0)/\w'=w.setCell ⟨g,2,none⟩ (.int .i64 (wait+n)):=by
 have q1:decide (n<0)=false:=by simp;omega
 have q2:decide (1048576<n)=false:=by simp;omega
 have q3:¬(1048576<n):=by omega
 have q4:¬(n<0):=by omega
 have g2:w.cell? ⟨g,2,none⟩=some (.int .i64 wait):=af hg rfl;have f2:w.frozen? ⟨g,2,none⟩=false:=am hg
 go_enter func193,ntmps193
 go_wp2_with fail
 go_ret
 exact ⟨rfl,rfl⟩
section
variable {β:Type} (enc:β->List Value) (sz:Nat)
variable (hsz:∀x,(enc x).length=sz)
include hsz
end
def Dc.v (d:Dc):Value:=.agg #[.int .u8 d.k,.string d.t,.int .i64 d.b,.int .i64 d.i,.bool d.e]
def Dc.cs (d:Dc):List Value:=[.int .u8 d.k,.string d.t,.int .i64 d.b,.int .i64 d.i,.bool d.e]
theorem Dc.cs_len (d:Dc):d.cs.length=5:=rfl
theorem Dc.cs_one (d:Dc):∀u∈d.cs,u.oneCell'=true:=by
 intro u hu;simp only [Dc.cs,QV,SU,Vf] at hu
 rcases hu with rfl|rfl|rfl|rfl|rfl <;> rfl
def bW (l:List Dc):List Value:=bA Dc.cs l
theorem aY (l:List Dc):(bW l).length=l.length*5:=fW Dc.cs 5 Dc.cs_len l
theorem cr (l:List Dc):∀u∈bW l,u.oneCell'=true:=by
 intro u hu;obtain ⟨d,_,h⟩:=Tm.1 hu;exact d.cs_one u h
def Lay (w:World) (ao:Option Addr) (l:List Dc):Prop:=∀j d,l[j]?=some d->d.t.size<=9223372036854775807/\∃b off,ao=some ⟨b,off,none⟩ /\
 w.cell? ⟨b,off+j*5,none⟩=some (.int .u8 d.k)/\w.cell? ⟨b,off+j*5+1,none⟩=some (.string d.t)/\w.cell? ⟨b,off+j*5+2,none⟩=some (.int .i64 d.b)/\w.cell? ⟨b,off+j*5+3,none⟩=some (.int .i64 d.i)/\w.cell? ⟨b,off+j*5+4,none⟩=some (.bool d.e)
theorem Lay.kp {S:Nat->Prop}{w w':World}{ao:Option Addr}{l:List Dc}(h:Lay w ao l) (hb:Kp S w w') (hS:∀a,ao=some a->¬S a.block):Lay w' ao l:=by
 intro j a ha;obtain ⟨h0,b,off,h1,c0,c1,c2,c3,c4⟩:=h j a ha;have hlt:=QD _ _ c0;have e:w'.heap[b]?=w.heap[b]?:=hb.block b hlt (hS _ h1);exact ⟨h0,b,off,h1,(QE (a:=⟨b,_,none⟩) e).trans c0,(QE (a:=⟨b,_,none⟩) e).trans c1,(QE (a:=⟨b,_,none⟩) e).trans c2,(QE (a:=⟨b,_,none⟩) e).trans c3,(QE (a:=⟨b,_,none⟩) e).trans c4⟩
theorem Lay.below {w':World}{ao:Option Addr}(h:Lay w ao l) (hb:Below w.heap.size w w'):Lay w' ao l:=h.kp (Kp.of_below (S:=fun _=>False) hb) (fun _ _ h=>h)
theorem Lay.row {B:Nat}{v:Value}{n:Nat}(h:w.ownsRow B 39 5 v n (bW l)) (ht:∀d∈l,d.t.size<=9223372036854775807):∃ao cap,v=.slice ao l.length cap/\n=l.length/\Lay w ao l/\(ao=none\/∃g,ao=some ⟨g,0,none⟩/\B<=g/\g<w.heap.size)/\l.length<=cap/\cap<=maxLen:=by
 have hn:n=l.length:=by have:=h.1;rw [aY] at this;omega
 subst hn
 rcases h.2 with ⟨rfl,h0⟩|⟨g,cap,cur,rfl,hb,hg,h3,h4,h5,h6⟩
 ·have:l=[]:=QL h0;subst this;exact ⟨none,0,rfl,rfl,fun j d h=>by simp at h,.inl rfl,Qw _,Qw _⟩
 ·refine ⟨some ⟨g,0,none⟩,cap,rfl,rfl,?_,.inr ⟨g,rfl,hb,aq hg⟩,h3,h4⟩;intro j d hj
  have hc:∀(k:Nat) (u:Value),(bW l)[k]?=some u->w.cell? ⟨g,k,none⟩=some u:=fun k u hu=>by
   have:=h.cells (g:=g) rfl k u hu;rw [Sg,QG] at this;exact this
  refine ⟨ht d (Rz hj),g,0,rfl,?_,?_,?_,?_,?_⟩
  ·rw [QG];exact hc _ _ (aW Dc.cs 5 Dc.cs_len l j 0 d _ hj rfl)
  ·rw [QG];exact hc _ _ (aW Dc.cs 5 Dc.cs_len l j 1 d _ hj rfl)
  ·rw [QG];exact hc _ _ (aW Dc.cs 5 Dc.cs_len l j 2 d _ hj rfl)
  ·rw [QG];exact hc _ _ (aW Dc.cs 5 Dc.cs_len l j 3 d _ hj rfl)
  ·rw [QG];exact hc _ _ (aW Dc.cs 5 Dc.cs_len l j 4 d _ hj rfl)
theorem FD (c:UInt8) (w:World):Qu 348 #[.int .u8 (c.toNat:Int)] w fun e w'=>e=.returned (.bool (zW c))/\w'=w:=by
 have h1:((c.toNat:Int) == 32)=(c == 32):=by revert c;exact GE (by decide +kernel)
 have h2:((c.toNat:Int) == 10)=(c == 10):=by revert c;exact GE (by decide +kernel)
 have e:zW c=((c.toNat:Int) == 32 || (c.toNat:Int) == 10):=by rw [h1,h2];rfl
 rw [e];clear e h1 h2
 generalize (c.toNat:Int)=z
 go_enter func348,ntmps348
 go_wp2_with fail
 all_goals (go_ret;simp_all)
theorem uG (n:Int) (w:World):Qu 273 #[.int .i64 n] w fun e w'=>e=.returned (.bool (j9 n))/\w'=w:=by
 have e:j9 n=(decide (0<=n) && decide (n<=1000)):=rfl;rw [e];clear e
 go_enter func273,ntmps273
 go_wp2_with fail
 all_goals (go_ret;simp_all)
 all_goals omega
theorem Ce (t:ByteArray) (ht:t.size<=9223372036854775807) (w:World):Qu 272 #[.string t] w fun e w'=>e=.returned (.bool (fT t))/\w'=w:=by
 by_cases h0:t.size=0
 ·have e0:t=⟨#[]⟩:=by
   apply sO
   exact QL (by rw [lO];exact h0)
  subst e0
  go_enter func272,ntmps272
  go_wp2_with fail
  go_ret
  exact ⟨rfl,rfl⟩
 ·have hne:¬t.toList=[]:=by
   rw [Lib.toList_data];intro hl;exact absurd (by have:=lO t;rw [jD,hl] at this;simpa using this.symm) h0
  by_cases h1:t.size<=65535
  ·have hlt:0<t.size:=by omega
   have hlt2:t.size-1<t.size:=by omega
   have HE:Hid (fT t=(!zW t[0] && !zW (t[t.size-1]))):=by
    show _=_
    unfold fT;have a0:(jD t).getD 0 0=t[0]:=(Lib.getD_at t 0 hlt).symm;have a1:(jD t).getD (t.size-1) 0=t[t.size-1]:=(Lib.getD_at t (t.size-1) hlt2).symm;rw [a0,a1];simp [h1,show 1<=t.size by omega]
   go_enter func272,ntmps272
   go_wp2_with (go_at_call 348;refine (FD _ _).mono ?_;rintro e w1 ⟨rfl,rfl⟩)
   all_goals (go_ret;rw [HE.out];clear HE;refine ⟨?_,rfl⟩;simp_all)
  ·go_enter func272,ntmps272
   go_wp2_with fail
   go_ret
   refine ⟨?_,rfl⟩;simp [fT,h1]
theorem xr (t:ByteArray) (b i:Int) (e:Bool) (ht:t.size<=9223372036854775807) (w:World):Qu 201 #[.agg #[.int .u8 1,.string t,.int .i64 b,.int .i64 i,.bool e]] w fun x w'=>x=.returned (.bool (fT t && (b == 0 && (i == 0 && !e))))/\Qv w w':=by
 go_enter func201,ntmps201
 go_wp2_with (go_at_call 272;refine (Ce _ ht _).mono ?_;rintro e w1 ⟨rfl,rfl⟩)
 all_goals go_ret
 all_goals (refine ⟨by simp_all,?_⟩;repeat (first|exact hH _ _|refine TG ?_ (gt _) _|refine Uk ?_ (by simp) _|refine Ud ?_))
theorem A6 (t:ByteArray) (b i:Int) (e:Bool) (w:World):Qu 201 #[.agg #[.int .u8 3,.string t,.int .i64 b,.int .i64 i,.bool e]] w fun x w'=>x=.returned (.bool (j9 b && (t.toList == [] && (i == 0 && !e))))/\Qv w w':=by
 go_enter func201,ntmps201
 go_wp2_with (go_at_call 273;refine (uG _ _).mono ?_;rintro e w1 ⟨rfl,rfl⟩)
 all_goals go_ret
 all_goals (refine ⟨by simp_all,?_⟩;repeat (first|exact hH _ _|refine TG ?_ (gt _) _|refine Uk ?_ (by simp) _|refine Ud ?_))
theorem A7 (t:ByteArray) (b i:Int) (e:Bool) (w:World):Qu 201 #[.agg #[.int .u8 6,.string t,.int .i64 b,.int .i64 i,.bool e]] w fun x w'=>x=.returned (.bool (j9 i && (t.toList == [] && b == 0)))/\Qv w w':=by
 go_enter func201,ntmps201
 go_wp2_with (go_at_call 273;refine (uG _ _).mono ?_;rintro e w1 ⟨rfl,rfl⟩)
 all_goals go_ret
 all_goals (refine ⟨by simp_all,?_⟩;repeat (first|exact hH _ _|refine TG ?_ (gt _) _|refine Uk ?_ (by simp) _|refine Ud ?_))
theorem xq (k:Int) (hk:k=2\/k=4\/k=5\/k=7) (t:ByteArray) (b i:Int) (e:Bool) (w:World):Qu 201 #[.agg #[.int .u8 k,.string t,.int .i64 b,.int .i64 i,.bool e]] w fun x w'=>x=.returned (.bool (t.toList == [] && (b == 0 && (i == 0 && !e))))/\Qv w w':=by
 rcases hk with rfl|rfl|rfl|rfl
 all_goals
  go_enter func201,ntmps201
  go_wp2_with fail
  all_goals go_ret
  all_goals (refine ⟨by simp_all,?_⟩;repeat (first|exact hH _ _|refine TG ?_ (gt _) _|refine Uk ?_ (by simp) _|refine Ud ?_))
theorem xt (k:Int) (h1:k≠1) (h2:k≠2) (h3:k≠3) (h4:k≠4) (h5:k≠5) (h6:k≠6) (h7:k≠7) (t:ByteArray) (b i:Int) (e:Bool) (w:World):Qu 201 #[.agg #[.int .u8 k,.string t,.int .i64 b,.int .i64 i,.bool e]] w fun x w'=>x=.returned (.bool false)/\Qv w w':=by
 go_enter func201,ntmps201
 go_wp2_with fail
 all_goals go_ret
 all_goals (refine ⟨by simp_all,?_⟩;repeat (first|exact hH _ _|refine TG ?_ (gt _) _|refine Uk ?_ (by simp) _|refine Ud ?_))
theorem G9 (t:ByteArray):(t.toList == [])=decide (t=bE):=by
 rw [R9,RD,QP,Lib.toList_data];constructor
 ·intro h;exact sO h
 ·rintro rfl;rfl
theorem A8 (d:Dc) (ht:d.t.size<=9223372036854775807) (w:World):Qu 201 #[d.v] w fun x w'=>x=.returned (.bool (rt d))/\Below w.heap.size w w':=by
 obtain ⟨k,t,b,i,e⟩:=d
 by_cases k1:k=1
 ·subst k1
  have e1:rt ⟨1,t,b,i,e⟩=(fT t && (b == 0 && (i == 0 && !e))):=by
   unfold rt;rw [IO rfl]
   congr 1
   rw [R9];simp [Dc.mk.injEq]
  rw [e1];exact xr t b i e ht w
 by_cases k3:k=3
 ·subst k3
  have e1:rt ⟨3,t,b,i,e⟩=(j9 b && (t.toList == [] && (i == 0 && !e))):=by
   unfold rt;rw [Eq (by show ¬(3:Int)=1;decide),IO rfl,G9]
   congr 1
   rw [R9];simp [Dc.mk.injEq]
  rw [e1];exact A6 t b i e w
 by_cases k6:k=6
 ·subst k6
  have e1:rt ⟨6,t,b,i,e⟩=(j9 i && (t.toList == [] && b == 0)):=by
   unfold rt;rw [Eq (by show ¬(6:Int)=1;decide),Eq (by show ¬(6:Int)=3;decide),IO rfl,G9]
   congr 1
   rw [R9];simp [Dc.mk.injEq]
  rw [e1];exact A7 t b i e w
 by_cases kz:k=2\/k=4\/k=5\/k=7
 ·have e1:rt ⟨k,t,b,i,e⟩=(t.toList == [] && (b == 0 && (i == 0 && !e))):=by
   unfold rt;rw [Eq k1,Eq k3,Eq k6,IO kz,G9];rw [R9];simp [Dc.mk.injEq]
  rw [e1];exact xq k kz t b i e w
 ·have e1:rt ⟨k,t,b,i,e⟩=false:=by
   unfold rt;rw [Eq k1,Eq k3,Eq k6,Eq kz]
  rw [e1];simp only [not_or] at kz;exact xt k k1 kz.1 k3 kz.2.1 kz.2.2.1 k6 kz.2.2.2 t b i e w
end Go.Proofs.YtacohdpndpliaaaGreatDoor.Lw
