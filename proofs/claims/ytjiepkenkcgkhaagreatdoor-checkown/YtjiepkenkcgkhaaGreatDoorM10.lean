import Derived.Lib.Bytealg
import Derived.Lib.Strings
import Derived.Defers
import Derived.Shelf.Strings.Builder1
import Derived.Shelf.Strings.Builder2
import Derived.Shelf.Strings.LastIndex
import Derived.Shelf.Strings.Repeat
import Derived.OwnWalk
import Derived.Lib.LaidTab
import Derived.Lib.ItoaWalk
import Derived.Test.YtjiepkenkcgkhaaGreatDoorM02
set_option linter.unusedVariables false
set_option linter.unusedSimpArgs false
set_option maxHeartbeats 1000000
namespace Go.Proofs.YtjiepkenkcgkhaaGreatDoor.Lw
open Go.Proofs.YtjiepkenkcgkhaaGreatDoor.Lx
theorem Gy {P:UInt8->Prop}(h:∀n:Fin 256,P (UInt8.ofNat n.val)) (c:UInt8):P c:=by
 have:=h ⟨c.toNat,c.toNat_lt⟩
 simpa using this
structure Dc where
 k:Int
 t:ByteArray
 b:Int
 i:Int
 e:Bool
 deriving DecidableEq
def bE:ByteArray:=⟨#[]⟩
def ji (s:ByteArray):List UInt8:=s.data.toList
theorem sF {a b:ByteArray}(h:ji a=ji b):a=b:=by
 cases a;cases b;simp only [ji] at h;rw [SQ.1 h]
theorem o0 (s:ByteArray):(ji s).length=s.size:=by simp [ji]
def zO (c:UInt8):Bool:=c == 32 || c == 10
def eZ (s:ByteArray):Bool:=decide (1<=s.size) && (decide (s.size<=65535) && (!zO ((ji s).getD 0 0) && !zO ((ji s).getD (s.size-1) 0)))
def ij (n:Int):Bool:=decide (0<=n) && decide (n<=1000)
def rt (d:Dc):Bool:=
 if d.k=1 then eZ d.t && decide (d=⟨1,d.t,0,0,false⟩)
 else if d.k=3 then ij d.b && decide (d=⟨3,bE,d.b,0,false⟩)
 else if d.k=6 then ij d.i && decide (d=⟨6,bE,0,d.i,d.e⟩)
 else if d.k=2\/d.k=4\/d.k=5\/d.k=7 then decide (d=⟨d.k,bE,0,0,false⟩) else false
inductive Rt:Dc->Prop
 |text (t:ByteArray) (h:eZ t=true):Rt ⟨1,t,0,0,false⟩
 |brk (n:Int) (h:ij n=true):Rt ⟨3,bE,n,0,false⟩
 |beg (n:Int) (e:Bool) (h:ij n=true):Rt ⟨6,bE,0,n,e⟩
 |blank:Rt ⟨2,bE,0,0,false⟩
 |hard:Rt ⟨4,bE,0,0,false⟩
 |empty:Rt ⟨5,bE,0,0,false⟩
 | «end»:Rt ⟨7,bE,0,0,false⟩
theorem mj {d:Dc}(h:rt d=true):Rt d:=by
 unfold rt at h
 split at h
 ·simp only [QR,Rj] at h;obtain ⟨h1,h2⟩:=h;rw [h2];exact .text _ h1
 ·split at h
  ·simp only [QR,Rj] at h;obtain ⟨h1,h2⟩:=h;rw [h2];exact .brk _ h1
  ·split at h
   ·simp only [QR,Rj] at h;obtain ⟨h1,h2⟩:=h;rw [h2];exact .beg _ _ h1
   ·split at h
    ·rename_i h4
     simp only [Rj] at h;obtain ⟨k,t,b,i,e⟩:=d;simp only [Dc.mk.injEq,true_and] at h;obtain ⟨rfl,rfl,rfl,rfl⟩:=h;simp only at h4
     rcases h4 with rfl|rfl|rfl|rfl
     ·exact .blank
     ·exact .hard
     ·exact .empty
     ·exact .end
    ·cases h
theorem rU {n:Int}(h:ij n=true):0<=n/\n<=1000:=by simpa [ij] using h
theorem mV {t:ByteArray}(h:eZ t=true):1<=t.size/\t.size<=65535:=by
 simp only [eZ,QR,Rj] at h;exact ⟨h.1,h.2.1⟩
def dh (k:Int):Int:=if k=6 then 1 else if k=7 then -1 else 0
def cy:Int->Nat->List Dc->Option Nat
 |o,j,[]=>if 0<o then some j else none
 |o,j,d :: r=>if rt d=true/\0<=o+dh d.k then cy (o+dh d.k) (j+1) r else some j
def mD (l:List Dc):Int × Int:=if 2097152<l.length then (2,0) else match cy 0 0 l with|some j=>(70,(j:Int))|none=>(0,0)
theorem sQ:∀(l:List Dc) (o:Int) (j:Nat),cy o j l=none->∀d∈l,rt d=true
 |[],_,_,_=>by simp
 |d :: r,o,j,h=>by
  simp only [cy] at h
  split at h
  ·rename_i hc
   intro x hx
   rcases Rg.1 hx with rfl|hx
   ·exact hc.1
   ·exact sQ r _ _ h x hx
  ·cases h
theorem EY:∀(l:List Dc) (o:Int) (j k:Nat),cy o j l=some k->k<=j+l.length
 |[],o,j,k,h=>by
  simp only [cy] at h
  split at h <;> cases h
  simp
 |d :: r,o,j,k,h=>by
  simp only [cy] at h
  split at h
  ·have:=EY r _ _ k h;simp;omega
  ·cases h;omega
theorem M5 (l:List Dc):0<=(mD l).1/\(mD l).1<=70/\0<=(mD l).2/\(mD l).2<=2097152:=by
 unfold mD
 split
 ·simp
 ·rename_i h1
  cases hf:cy 0 0 l with
  |some j=>have:=EY l 0 0 j hf;simp;omega
  |none=>simp
end Go.Proofs.YtjiepkenkcgkhaaGreatDoor.Lw
namespace Go.Proofs.YtjiepkenkcgkhaaGreatDoor.Lw
open Go.Proofs.YtjiepkenkcgkhaaGreatDoor.Lx
open Go.ChangeShapes Go.WideShapes Go.ChangeAt Go.RowKit
def lm:List (Int × Int × Int):=[(768,879,0),(4352,4447,2),(8203,8207,0),(8400,8447,0),(11904,12350,2),(12353,42191,2),(44032,55203,2),(63744,64255,2),(65024,65039,0),(65056,65071,0),(65072,65135,2),(65280,65376,2),(65504,65510,2),(127744,128591,2),(129280,129535,2),(131072,262141,2)]
def yt (i:Nat):Int:=(lm.getD i (0,0,0)).1
def Ay (i:Nat):Int:=(lm.getD i (0,0,0)).2.1
def NG (i:Nat):Int:=(lm.getD i (0,0,0)).2.2
def jF (w:World):Prop:=∀i,i<16->w.cell? ⟨5,i*3,none⟩=some (.int .i64 (yt i))/\w.cell? ⟨5,i*3+1,none⟩=some (.int .i64 (Ay i))/\w.cell? ⟨5,i*3+2,none⟩=some (.int .i64 (NG i))
theorem jF.below {w w':World}(h:jF w) (hb:Below w.heap.size w w'):jF w':=by
 intro i hi;obtain ⟨h0,h1,h2⟩:=h i hi;have hz:=QP w _ h0;exact ⟨(hb.cell (p:=⟨5,i*3,none⟩) hz).trans h0,(hb.cell (p:=⟨5,i*3+1,none⟩) hz).trans h1,(hb.cell (p:=⟨5,i*3+2,none⟩) hz).trans h2⟩
theorem BD:(Rows.laid_colophon_width_spans:DataW Unit)=.agg (lm.map fun x=>.agg [.lit (.int .i64 x.1),.lit (.int .i64 x.2.1),.lit (.int .i64 x.2.2)]):=by kernel_rfl
theorem uf {W:World}{L:List (String × DataW Unit)}(hpl:(L.all fun x=>x.2.handleName?.isNone)=true) (hm:("colophon/width.spans",Rows.laid_colophon_width_spans)∈L) (h:laidMetH Tryz.prog L W):jF W:=by
 rw [SW _ _ _ hpl] at h;obtain ⟨ps,hps,_,_⟩:=h;obtain ⟨g,t,cs,fuel,p,hg,ht,hv,hd⟩:=iD L ps hps _ _ hm;obtain rfl:=Ry ((show Tryz.prog.globalNamed "colophon/width.spans"=some 5 by kernel_rfl).symm.trans hg);obtain rfl:=Ry ((show (Tryz.prog.globals[5]?).map (·.type)=some 277 by kernel_rfl).symm.trans ht);rw [BD] at hd;obtain ⟨xs,m,_,ex,_,hl,hel⟩:=Ul Tryz.underlying277 hd;have c3:Tryz.prog.cellsOf 3=1:=by kernel_rfl
 have c34:Tryz.prog.cellsOf 276=3:=by kernel_rfl
 intro i hi;have hE:=hel i hi;rw [c34,Pi (by omega)] at hE;obtain ⟨y0,y1,y2,n,ey,_,g0,g1,g2⟩:=Deep.trod_struct3 Tryz.underlying276 hE;simp only [c3] at g0 g1 g2;obtain ⟨z0,a0,b0,_⟩:=TC RE g0;obtain ⟨z1,a1,b1,_⟩:=TC RE g1;obtain ⟨z2,a2,b2,_⟩:=TC RE g2;have hlen:lm.length=16:=rfl;have e3:(xs.map (·.1))=lm.map fun x=>(.agg [.lit (.int .i64 x.1),.lit (.int .i64 x.2.1),.lit (.int .i64 x.2.2)]:DataW Unit):=(U1 (Vo ex).1).symm
 have e4:(xs.map (·.1))[i]?=(lm.map fun x=>(.agg [.lit (.int .i64 x.1),.lit (.int .i64 x.2.1),.lit (.int .i64 x.2.2)]:DataW Unit))[i]?:=by rw [e3]
 rw [Sk,Sk,Pi (by omega:i<xs.length),Pi (by omega:i<lm.length),ey,b0,b1,b2] at e4;simp only [SJ,Rp,DataW.agg.injEq,List.cons.injEq,Uv,Lit.int.injEq,true_and,and_true] at e4;obtain ⟨f0,f1,f2⟩:=e4;have hT:lm.getD i (0,0,0)=lm[i]:=by rw [List.getD,Pi (show i<lm.length by omega)];rfl
 have key:∀(o:Nat) (z:Int),o<3->(((cs.toList.drop (i*3)).take 3).drop o).take 1=[.int .i64 z]->W.cell? ⟨5,i*3+o,none⟩=some (.int .i64 z):=by
  intro o z ho hz;rw [TV hg hv (i*3+o)];have h0:((((cs.toList.drop (i*3)).take 3).drop o).take 1)[0]?=some (.int .i64 z):=by rw [hz];rfl
  rw [RI,IO (by omega),RC,RI,IO (by omega),RC] at h0
  simpa using h0
 refine ⟨?_,?_,?_⟩
 ·have:=key 0 z0 (by omega) (by simpa using a0);rw [R7] at this;rw [this,yt,hT,f0];rfl
 ·have:=key 1 z1 (by omega) (by simpa using a1);rw [this,Ay,hT,f1];rfl
 ·have:=key 2 z2 (by omega) (by simpa using a2);rw [this,NG,hT,f2];rfl
end Go.Proofs.YtjiepkenkcgkhaaGreatDoor.Lw
namespace Go.Proofs.YtjiepkenkcgkhaaGreatDoor.Lw
open Go.Proofs.YtjiepkenkcgkhaaGreatDoor.Lx
open Go.RowKit
variable {p:Int}
def yq (p:Int):Prop:=(4352<=p/\p<=4447)\/(11904<=p/\p<=12350)\/(12353<=p/\p<=42191)\/(44032<=p/\p<=55203)\/(63744<=p/\p<=64255)\/(65072<=p/\p<=65135)\/(65280<=p/\p<=65376)\/(65504<=p/\p<=65510)\/(127744<=p/\p<=128591)\/(129280<=p/\p<=129535)\/(131072<=p/\p<=262141)
def Kq (p:Int):Prop:=(768<=p/\p<=879)\/(8203<=p/\p<=8207)\/(8400<=p/\p<=8447)\/(65024<=p/\p<=65039)\/(65056<=p/\p<=65071)
instance (p:Int):Decidable (yq p):=by unfold yq;infer_instance
instance (p:Int):Decidable (Kq p):=by unfold Kq;infer_instance
def wd (p:Int):Int:=if yq p then 2 else if Kq p then 0 else 1
theorem Kr (p:Int):0<=wd p/\wd p<=2:=by unfold wd;split <;> (try split) <;> omega
theorem Lq (h:yq p):wd p=2:=by unfold wd;rw [IO h]
theorem Lo (h:Kq p):wd p=0:=by
 unfold wd;rw [Eq (by unfold Kq at h;unfold yq;omega),IO h]
theorem Lr (h:¬yq p) (h2:¬Kq p):wd p=1:=by unfold wd;rw [Eq h,Eq h2]
theorem Hf (i:Nat) (p:Int) (hi:i<16) (h0:yt i<=p) (h1:p<=Ay i):NG i=wd p:=by
 rcases i with _|_|_|_|_|_|_|_|_|_|_|_|_|_|_|_|i
 all_goals simp [yt,Ay,NG,lm,List.getD] at h0 h1 ⊢
 all_goals first|exact (Lq (by unfold yq;omega)).symm|exact (Lo (by unfold Kq;omega)).symm|omega
theorem Hh (p:Int) (h:∀k,k<16->p<yt k\/Ay k<p):wd p=1:=by
 have a0:=h 0 (by omega);have a1:=h 1 (by omega);have a2:=h 2 (by omega);have a3:=h 3 (by omega);have a4:=h 4 (by omega);have a5:=h 5 (by omega);have a6:=h 6 (by omega);have a7:=h 7 (by omega);have a8:=h 8 (by omega);have a9:=h 9 (by omega);have a10:=h 10 (by omega);have a11:=h 11 (by omega);have a12:=h 12 (by omega);have a13:=h 13 (by omega);have a14:=h 14 (by omega);have a15:=h 15 (by omega);simp only [yt,Ay,lm,List.getD,List.getElem?_cons_zero,RZ,Um] at a0 a1 a2 a3 a4 a5 a6 a7 a8 a9 a10 a11 a12 a13 a14 a15;refine Lr ?_ ?_
 ·unfold yq;omega
 ·unfold Kq;omega
theorem LB (i k:Nat) (hk:k<16) (h:i<=k):yt i<=yt k:=by
 have:∀k,k<16->∀i,i<16->i<=k->yt i<=yt k:=by decide +kernel
 exact this k hk i (by omega) h
theorem uh (i:Nat) (p:Int) (h:∀k,k<i->Ay k<p) (h2:i<16->p<yt i):wd p=1:=by
 refine Hh p fun k hk=>?_
 by_cases hki:k<i
 ·exact .inr (h k hki)
 ·have:=h2 (by omega);have:=LB i k hk (by omega);omega
theorem mZ {a b:Int}(h:a=b):Ending.returned (.int .i64 a)=.returned (.int .i64 b):=by rw [h]
theorem Mk (p:Int) (w:World) (hT:jF w) :
  Ra 174 #[.int .i64 p] w fun e w'=>e=.returned (.int .i64 (wd p))/\w'=w:=by
 go_enter Tryz.func174,Tryz.ntmps174
 go_wp2_with fail
 go_loopw [4] (fun i wr=>wr=w/\∃k:Nat,k<=16/\i=.int .i64 k/\∀j,j<k->Ay j<p) (fun i _=>16-(intOf i).toNat)
 case atStart=>exact ⟨rfl,0,by omega,rfl,fun j hj=>by omega⟩
 case round=>
  obtain ⟨rfl,k,hk,rfl,hall⟩:=hrel
  by_cases h16:k<16
  ·obtain ⟨c0,c1,c2⟩:=hT k h16;have HA:Hid (∀j,j<k->Ay j<p):=hall;have HH:Hid (yt k<=p->p<=Ay k->NG k=wd p):=Hf k p h16;have HM:Hid (p<yt k->wd p=1):=fun h=>uh k p hall (fun _=>h)
   have HN:Hid (Ay k<p->∀j,j<k+1->Ay j<p):=fun h j hj=>by
    by_cases e:j=k
    ·subst e;exact h
    ·exact hall j (by omega)
   clear hall hT
   generalize yt k=l at *
   generalize NG k=c at *
   generalize Ay k=u at *
   by_cases h1:p<l
   ·go_wp2_with fail
    go_ret
    exact ⟨mZ (HM.out h1).symm,rfl⟩
   ·by_cases h2:p<=u
    ·go_wp2_with fail
     go_ret
     exact ⟨mZ (HH.out (by omega) h2),rfl⟩
    ·go_wp2_with fail
     exact ⟨⟨trivial,k+1,by omega,by go_num,HN.out (by omega)⟩,by simp [intOf];omega⟩
  ·have HM:Hid (wd p=1):=uh k p hall (fun h=>absurd h h16);clear hall hT
   go_wp2_with fail
   go_ret
   exact ⟨mZ HM.out.symm,rfl⟩
end Go.Proofs.YtjiepkenkcgkhaaGreatDoor.Lw
namespace Go.Proofs.YtjiepkenkcgkhaaGreatDoor.Lw
open Go.Proofs.YtjiepkenkcgkhaaGreatDoor.Lx
def cl:List Nat->Int
 |[]=>0
 |p :: r=>wd (p:Int)+cl r
theorem M4 (a b:List Nat):cl (a++b)=cl a+cl b:=by
 induction a with
 |nil=>simp [cl]
 |cons x r ih=>simp only [Rh,cl,ih];omega
theorem OH (l:List Nat):0<=cl l/\cl l<=2*l.length:=by
 induction l with
 |nil=>simp [cl]
 |cons x r ih=>
  have:=Kr (x:Int);simp only [cl,List.length_cons];omega
def cw (s:ByteArray) (k:Nat):Int:=cl ((Ix s).take k)
def tw (s:ByteArray):Int:=cl (Ix s)
theorem JW (s:ByteArray) (k:Nat) (h:k<(P s).length):cw s (k+1)=cw s k+wd (dp s (st s k)):=by
 unfold cw;rw [DV s k h,M4];simp [cl]
theorem FC (s:ByteArray) (k:Nat) (h:(P s).length<=k):cw s k=tw s:=by
 unfold cw tw;rw [RK (by rw [yR];omega)]
theorem KS (s:ByteArray) (k:Nat):0<=cw s k/\cw s k<=2*s.size:=by
 have h:=OH ((Ix s).take k);have h2:=Ar s;have h3:((Ix s).take k).length<=(P s).length:=by rw [Ri,yR];omega
 unfold cw;omega
theorem qx (s:ByteArray):0<=tw s/\tw s<=2*s.size:=by
 rw [<-FC s _ (gt _)];exact KS s _
end Go.Proofs.YtjiepkenkcgkhaaGreatDoor.Lw
namespace Go.Proofs.YtjiepkenkcgkhaaGreatDoor.Lw
open Go.Proofs.YtjiepkenkcgkhaaGreatDoor.Lx
open Go.RowKit
theorem lg (s:ByteArray) (w:World) (hT:jF w) (hs:s.size<=8589934592) :
  Ra 136 #[.string s] w fun e w'=>e=.returned (.int .i64 (tw s))/\Below w.heap.size w w':=by
 have hP:=Ar s
 go_enter Tryz.func136,Tryz.ntmps136
 go_wp2_with fail
 go_loopw [3] (fun n w'=>∃k:Nat,k<=(P s).length/\w'=w.iter s (st s k)/\n=.int .i64 (cw s k)) (fun _ w'=>s.size-w'.iterPos w.heap.size)
 case atStart=>exact ⟨0,by omega,rfl,rfl⟩
 case round=>
  obtain ⟨k,hk,rfl,rfl⟩:=hrel
  by_cases hlt:k<(P s).length
  ·have hp:=(gj s k).2 hlt;have hw:=aV s (st s k) hp;have hdp:=vT s (st s k);have hc:=KS s k;have hwd:=Kr (dp s (st s k));have HT:Hid (∀pos,jF (w.iter s pos)):=fun pos=>hT.below (dQ w s pos)
   have HS:Hid (st s (k+1)=st s k+dw s (st s k)):=eO s k hlt;have HC:Hid (cw s (k+1)=cw s k+wd (dp s (st s k))):=JW s k hlt;have hnx:∀ty,(Instr.next (.pointer (some ⟨w.heap.size,0,none⟩)) true ty).run Tryz.prog (w.iter s (st s k))=.ok (.tuple #[.bool true,.int .i64 (st s k),.int .i32 (dp s (st s k))]) (w.iter s (st s k+dw s (st s k))):=fun ty=>UH w s (st s k) ty hp
   clear hT
   generalize st s k=i at *
   generalize dw s i=d at *
   generalize hx:dp s i=x at *
   generalize cw s k=c at *
   clear hx
   go_wp2_with fail
   refine (Mk x _ (HT.out _)).mono ?_;rintro e w' ⟨rfl,rfl⟩
   generalize wd (x:Int)=y at *
   go_wp2_with fail
   exact ⟨⟨k+1,hlt,by rw [HS.out],Q0 (Value.int .i64) HC.out.symm⟩,by simp;omega⟩
  ·have hp:¬st s k<s.size:=by rw [gj];exact hlt
   have hnx:∀ty,(Instr.next (.pointer (some ⟨w.heap.size,0,none⟩)) true ty).run Tryz.prog (w.iter s (st s k))=_:=fun ty=>Vc w s (st s k) ty hp
   have HC:Hid (cw s k=tw s):=FC s k (by omega)
   go_wp2_with fail
   go_ret
   exact ⟨mZ HC.out,dQ _ _ _⟩
end Go.Proofs.YtjiepkenkcgkhaaGreatDoor.Lw
namespace Go.Proofs.YtjiepkenkcgkhaaGreatDoor.Lw
open Go.Proofs.YtjiepkenkcgkhaaGreatDoor.Lx
open Go.RowKit
open Go.Lib (strCells strCells_length)
end Go.Proofs.YtjiepkenkcgkhaaGreatDoor.Lw
namespace Go.Proofs.YtjiepkenkcgkhaaGreatDoor
open Go.Proofs.YtjiepkenkcgkhaaGreatDoor.Lw
open Go.Proofs.YtjiepkenkcgkhaaGreatDoor.Lx
open Go.RowKit
open Go.Lib (strCells strCells_length)
theorem Fr.tab {i:Nat}{own own':Nat->Nat}{w w':World}(h:Fr i own own' w w') (hT:jF w) (h0:own 5≠i):jF w':=by
 intro j hj;obtain ⟨a0,a1,a2⟩:=hT j hj;exact ⟨h.cell a0 h0,h.cell a1 h0,h.cell a2 h0⟩
end Go.Proofs.YtjiepkenkcgkhaaGreatDoor
namespace Go.Proofs.YtjiepkenkcgkhaaGreatDoor.Lw
open Go.Proofs.YtjiepkenkcgkhaaGreatDoor.Lx
open Go.RowKit
open Go.Lib (strCells strCells_length)
variable {w:World}{a:Addr}{v:Value}
theorem Tryz.info5:(Tryz.prog.info? 5).map (fun i=>(i.zero,i.size,i.bytes))=some (some (.int .u8 0),1,1):=by kernel_rfl
theorem Tryz.info118:(Tryz.prog.info? 118).map (fun i=>(i.zero,i.size,i.bytes))=some (some (.agg #[.int .i64 0,.int .i64 0]),2,16):=by kernel_rfl
def eg (x:Nat × Nat):List Value:=[.int .i64 x.1,.int .i64 x.2]
theorem Fp (x:Nat × Nat):(eg x).length=2:=rfl
theorem J2 (c:Nat) (v:Value) (n:Nat) (xs:List Value) (t:ByteArray) (w:World) (hc:w.heap[c]?=some (.cells #[v] 105 (0,0))) (ho:w.ownsRow 0 5 1 v n xs) (hn:n+t.size<=70368744177664) :
  Ra 138 #[.string t,.pointer (some ⟨c,0,none⟩)] w fun e w'=>e=.returned (.tuple #[])/\∃v',w'.heap[c]?=some (.cells #[v'] 105 (0,0))/\w'.ownsRow 0 5 1 v' (n+t.size) (xs++strCells t)/\(v'.ownBlock=v.ownBlock\/v'.ownBlock=some w.heap.size)/\Kp (fun k=>k=c\/some k=v.ownBlock) w w':=by
 obtain ⟨i0,hi,hz0,hz1,hz2⟩:=Sa Tryz.info5;have hne:=aM ho hc (by decide);have hcl:=aq hc;have c0:w.cell? ⟨c,0,none⟩=some v:=af hc rfl;obtain ⟨p,cap,rfl,_,_⟩:=aJ ho
 go_enter Tryz.func138,Tryz.ntmps138
 go_wp2_with (first|(at_builtin;refine dU (P:=Tryz.prog) (w:=w) rfl _ _ 105 9 rfl 0 5 i0 Sl Rz hi hz0 hz1 hz2 _ _ _ rfl ho t rfl ?c3 ?c4 ?c5 ?_))
 case c3=>unfold maxLen;omega
 case c4=>omega
 case c5=>omega
 intro v2 w2 ho2 hg2 hat;have hk:=Kp.of_grown hg2;have hc2:w2.heap[c]?=some (.cells #[.slice p n cap] 105 (0,0)):=hk.blk hc (fun h=>hne h.symm);have d0:w2.cell? ⟨c,0,none⟩=some (.slice p n cap):=af hc2 rfl;have f0:w2.frozen? ⟨c,0,none⟩=false:=am hc2;have hne2:=aM ho2 hc2 (by decide);obtain ⟨p2,cap2,rfl,_,_⟩:=aJ ho2
 have HE:Hid ((w2.setCell ⟨c,0,none⟩ (.slice p2 (n+t.size) cap2)).heap[c]?=some (.cells #[.slice p2 (n+t.size) cap2] 105 (0,0))/\(w2.setCell ⟨c,0,none⟩ (.slice p2 (n+t.size) cap2)).ownsRow 0 5 1 (.slice p2 (n+t.size) cap2) (n+t.size) (xs++strCells t)/\((Value.slice p2 (n+t.size) cap2).ownBlock=(Value.slice p n cap).ownBlock\/(Value.slice p2 (n+t.size) cap2).ownBlock=some w.heap.size)/\Kp (fun k=>k=c\/some k=(Value.slice p n cap).ownBlock) w (w2.setCell ⟨c,0,none⟩ (.slice p2 (n+t.size) cap2))):=by
  refine ⟨aj hc2 0 _,(Kp.set w2 c 0 _).row ho2 (fun k h1 h2=>hne2 (by rw [h1,h2])),hat,?_⟩;exact (Kp.step (S:=fun k=>k=c\/some k=(Value.slice p n cap).ownBlock) (Kp.refl _ _) hk (fun j _ h=>.inr h)).step (Kp.set w2 c 0 _) (fun j _ h=>.inl h)
 clear hk hg2 ho2 hat hne hne2 hc2
 go_wp2_with fail
 go_end0
 exact ⟨rfl,_,HE.out⟩
theorem J3 (m:Int) (d c:Nat) (w:World) (hm:m<=0) :
  Ra 137 #[.int .i64 m,.pointer (some ⟨d,0,none⟩),.pointer (some ⟨c,0,none⟩)] w fun e w'=>e=.returned (.tuple #[])/\w'=w:=by
 have q:decide (0<m)=false:=by simp;omega
 go_enter Tryz.func137,Tryz.ntmps137
 go_wp2_with fail
 go_end0
 exact ⟨rfl,rfl⟩
theorem mQ (W:World) (a b:Value) (t n:Nat) (h:n=W.heap.size):∀j u,[a,b][j]?=some u->(W.alloc (.cells #[a,b] t)).cell? ((⟨n,0,none⟩:Addr).add j)=some u:=by
 subst h;intro j u hj
 match j,hj with
 |0,hj=>simp at hj;subst hj;simp [Addr.add]
 |1,hj=>simp at hj;subst hj;simp [Addr.add]
theorem Ch (m:Nat) (d c:Nat) (v:Value) (tv:Value) (n l:Nat) (xs:List Value) (w:World) (hc:w.heap[c]?=some (.cells #[tv] 105 (0,0))) (htv:∃p cap,tv=.slice p l cap) (hd:w.heap[d]?=some (.cells #[v] 106 (0,0))) (ho:w.ownsRow 0 118 2 v n xs) (hn:n<=8589934592) (hm:0<m) (hm2:m<=9223372036854775807) (hl:l<=9223372036854775807) :
  Ra 137 #[.int .i64 m,.pointer (some ⟨d,0,none⟩),.pointer (some ⟨c,0,none⟩)] w fun e w'=>e=.returned (.tuple #[])/\∃v',w'.heap[d]?=some (.cells #[v'] 106 (0,0))/\w'.ownsRow 0 118 2 v' (n+1) (xs++eg (l,m))/\(v'.ownBlock=v.ownBlock\/∃b,w.heap.size<=b/\v'.ownBlock=some b)/\Kp (fun k=>k=d\/some k=v.ownBlock) w w':=by
 obtain ⟨i0,hi,hz0,hz1,hz2⟩:=Sa Tryz.info118;have q:decide (0<(m:Int))=true:=by simp;omega
 have hne:=aM ho hd (by decide);have gJ:=aq hd;have c0:w.cell? ⟨c,0,none⟩=some tv:=af hc rfl;have d0:w.cell? ⟨d,0,none⟩=some v:=af hd rfl;have hcl:=aq hc;obtain ⟨tp,tcap,rfl⟩:=htv;obtain ⟨p,cap,rfl,_,_⟩:=aJ ho
 go_enter Tryz.func137,Tryz.ntmps137
 go_wp2_with (first|(at_builtin;refine RT (P:=Tryz.prog) (w:=w.alloc (.cells #[.int .i64 l,.int .i64 m] 118)) rfl _ _ 106 rfl 0 118 i0 (.agg #[.int .i64 0,.int .i64 0]) 2 16 Tryz.underlying106 hi hz0 hz1 hz2 rfl (by decide) _ _ _ rfl (bp ho ((hH _ _).alloc (gt _) _)) ⟨w.heap.size,0,none⟩ 1 1 (eg (l,m)) rfl rfl ?c1 ?c2 ?c3 ?c4 ?c5 ?_))
 case c1=>exact mQ _ _ _ _ _ rfl
 case c2=>intro u hu;simp [eg] at hu;rcases hu with rfl|rfl <;> rfl
 case c3=>unfold maxLen;omega
 case c4=>omega
 case c5=>omega
 intro v2 w2 ho2 hg2 _ hat;have hk:=Kp.step (S:=fun k=>k=d\/some k=(Value.slice p n cap).ownBlock) ((Kp.refl _ _).alloc (.cells #[.int .i64 l,.int .i64 m] 118)) (Kp.of_grown hg2) (fun j _ h=>.inr h);have hk':=Kp.step (S:=fun k=>some k=(Value.slice p n cap).ownBlock) ((Kp.refl _ _).alloc (.cells #[.int .i64 l,.int .i64 m] 118)) (Kp.of_grown hg2) (fun j _ h=>h);have hd2:w2.heap[d]?=some (.cells #[.slice p n cap] 106 (0,0)):=hk'.blk hd (fun h=>hne h.symm);have e0:w2.cell? ⟨d,0,none⟩=some (.slice p n cap):=af hd2 rfl;have f0:w2.frozen? ⟨d,0,none⟩=false:=am hd2;have hne2:=aM ho2 hd2 (by decide);obtain ⟨p2,cap2,rfl,_,_⟩:=aJ ho2
 have HE:Hid ((w2.setCell ⟨d,0,none⟩ (.slice p2 (n+1) cap2)).heap[d]?=some (.cells #[.slice p2 (n+1) cap2] 106 (0,0))/\(w2.setCell ⟨d,0,none⟩ (.slice p2 (n+1) cap2)).ownsRow 0 118 2 (.slice p2 (n+1) cap2) (n+1) (xs++eg (l,m))/\((Value.slice p2 (n+1) cap2).ownBlock=(Value.slice p n cap).ownBlock\/∃b,w.heap.size<=b/\(Value.slice p2 (n+1) cap2).ownBlock=some b)/\Kp (fun k=>k=d\/some k=(Value.slice p n cap).ownBlock) w (w2.setCell ⟨d,0,none⟩ (.slice p2 (n+1) cap2))):=by
  refine ⟨aj hd2 0 _,(Kp.set w2 d 0 _).row ho2 (fun k h1 h2=>hne2 (by rw [h1,h2])),?_,?_⟩
  ·rcases hat with h|h
   ·exact .inl h
   ·exact .inr ⟨_,by have:=QL w (.cells #[.int .i64 l,.int .i64 m] 118);omega,h⟩
  ·exact hk.step (Kp.set w2 d 0 _) (fun j _ h=>.inl h)
 clear hk hk' hg2 ho2 hat hne hne2 hd2
 go_wp2_with fail
 go_end0
 exact ⟨rfl,_,HE.out⟩
def sk (b:Bool) (col wait:Int) (tv gv:Value):Array Value:=#[.bool b,.int .i64 col,.int .i64 wait,tv,gv]
theorem gR (w:World) (o:Obj) (g:Nat) (x:Obj) (h:w.heap[g]?=some x):(w.alloc o).heap[g]?=some x:=(((hH _ w).alloc (gt _) o).block g (aq h)).trans h
theorem kR (h:w.cell? a=some v):∀o,(w.alloc o).cell? a=some v:=fun o=>(((hH _ w).alloc (gt _) o).cell (QP w a h)).trans h
theorem tA (h:w.cell? a=some v):∀o p,((w.alloc o).alloc p).cell? a=some v:=fun o p=>kR (kR h o) p
theorem Ac (h:w.cell? a=some v):∀o p q,(((w.alloc o).alloc p).alloc q).cell? a=some v:=fun o p q=>kR (tA h o p) q
theorem M3 (u:FrameMode) (b b':Bool) (col wait col' wait':Int) (c d h g:Nat) (tv gv tv' gv':Value) (w:World)
  (hg:w.heap[g]?=some (.cells (sk b col wait tv gv) 108 (0,0))) (hc:w.heap[c]?=some (.cells #[tv'] 105 (0,0))) (hd:w.heap[d]?=some (.cells #[gv'] 106 (0,0))) (hh:w.heap[h]?=some (.cells #[.pointer (some ⟨g,0,none⟩)] 62 (0,0)))
  (htv:∃p n cap,tv=.slice p n cap) (hgv:∃p n cap,gv=.slice p n cap) (htv':∃p n cap,tv'=.slice p n cap) (hgv':∃p n cap,gv'=.slice p n cap) :
  CallsD Tryz.prog 139 #[.agg #[.bool b',.int .i64 col',.int .i64 wait'],.pointer (some ⟨c,0,none⟩),.pointer (some ⟨d,0,none⟩),.pointer (some ⟨h,0,none⟩)] u w fun e u' w'=>u'=u/\(e=.returned (.tuple #[])/\w'.heap[g]?=some (.cells (sk b' col' wait' tv' gv') 108 (0,0))/\Kp (fun k=>k=g) w w'):=by
 have gl:=aq hg;have cl:=aq hc;have dl:=aq hd;have hl:=aq hh;have g0:w.cell? ⟨g,0,none⟩=some (.bool b):=af hg rfl;have g1:w.cell? ⟨g,1,none⟩=some (.int .i64 col):=af hg rfl;have g2:w.cell? ⟨g,2,none⟩=some (.int .i64 wait):=af hg rfl;have g3:w.cell? ⟨g,3,none⟩=some tv:=af hg rfl;have g4:w.cell? ⟨g,4,none⟩=some gv:=af hg rfl;have f0:w.frozen? ⟨g,0,none⟩=false:=am hg;have f1:w.frozen? ⟨g,1,none⟩=false:=am hg;have f2:w.frozen? ⟨g,2,none⟩=false:=am hg;have f3:w.frozen? ⟨g,3,none⟩=false:=am hg;have f4:w.frozen? ⟨g,4,none⟩=false:=am hg;have c0:w.cell? ⟨c,0,none⟩=some tv':=af hc rfl;have d0:w.cell? ⟨d,0,none⟩=some gv':=af hd rfl;have h0:w.cell? ⟨h,0,none⟩=some (.pointer (some ⟨g,0,none⟩)):=af hh rfl;obtain ⟨p1,n1,k1,rfl⟩:=htv;obtain ⟨p2,n2,k2,rfl⟩:=hgv;obtain ⟨p3,n3,k3,rfl⟩:=htv';obtain ⟨p4,n4,k4,rfl⟩:=hgv'
 go_enter_d Tryz.func139,Tryz.ntmps139
 go_wp2_with fail
 go_region
 go_wp2_with fail
 go_end0
 refine ⟨rfl,?_,?_⟩
 ·refine (gR _ _ _ _ ?_);exact aj (aj (aj (aj (aj hg 3 _) 4 _) 0 _) 1 _) 2 _
 ·refine Kp.same (W:=(((((w.setCell ⟨g,3,none⟩ (.slice p3 n3 k3)).setCell ⟨g,4,none⟩ (.slice p4 n4 k4)).setCell ⟨g,0,none⟩ (.bool b')).setCell ⟨g,1,none⟩ (.int .i64 col')).setCell ⟨g,2,none⟩ (.int .i64 wait')).alloc (.cells #[.bool b',.int .i64 col',.int .i64 wait'] 104)) ?_ rfl rfl rfl rfl;refine Kp.alloc ?_ _;exact (((((Kp.refl _ w).trans (Kp.set _ _ _ _)).trans (Kp.set _ _ _ _)).trans (Kp.set _ _ _ _)).trans (Kp.set _ _ _ _)).trans (Kp.set _ _ _ _)
end Go.Proofs.YtjiepkenkcgkhaaGreatDoor.Lw
namespace Go.Proofs.YtjiepkenkcgkhaaGreatDoor.Lw
open Go.Proofs.YtjiepkenkcgkhaaGreatDoor.Lx
open Go.RowKit Go.Shelf
open Go.Lib (strCells strCells_length)
def Tryz.lays169_ren:Go.Shelf.Ren:=⟨fun|169=>48|n=>n,fun|70=>113|9=>9|0=>0|72=>115|37=>105|127=>170|3=>3|5=>5|n=>n,fun|n=>n⟩
theorem Tryz.lays169:Go.Proofs.Lays.n169 Tryz.prog Tryz.lays169_ren:={
 mixed:=by kernel_rfl
 f169:=Tryz.func48.trans (Q0 some (by kernel_rfl))
 t0:=Th
 a0:=Uy
 z0:=Ug
 v0:=To
 t3:=RE
 a3:=TK
 z3:=Tp
 v3:=SM
 t9:=Rz
 a9:=TM
 z9:=Tr
 v9:=SN
 t37:=Sl
 a37:=U4
 z37:=US
 v37:=Ua
 t70:=UM
 a70:=Tryz.isAgg113
 z70:=Tryz.sizeOf113
 v70:=UY
 t72:=UN
 a72:=Tryz.isAgg115
 z72:=Tryz.sizeOf115
 v72:=UZ
 t127:=UK
 a127:=Tryz.isAgg170
 z127:=Tryz.sizeOf170
 v127:=UW }
theorem Tryz.Builder_Extra_169:Builder.Extra Tryz.prog Tryz.lays169_ren:={
 sizeBuilder:=by kernel_rfl
 liesBuilder:=by kernel_rfl
 t5:=So
 a5:=Tq
 z5:=Ta
 v5:=Sv
 infoByte:=by kernel_rfl
 cellsByte:=by kernel_rfl
 sizeByte:=by kernel_rfl
 neB5:=by decide }
def Tryz.lays165_ren:Go.Shelf.Ren:=⟨fun|165=>43|240=>91|241=>92|276=>141|277=>142|n=>n,fun|70=>113|3=>3|0=>0|4=>4|9=>9|20=>20|72=>115|37=>105|164=>130|5=>5|n=>n,fun|n=>n⟩
theorem Tryz.lays165:Go.Proofs.Lays.n165 Tryz.prog Tryz.lays165_ren:={
 mixed:=by kernel_rfl
 f165:=Tryz.func43.trans (Q0 some (by kernel_rfl))
 f240:=Tryz.func91.trans (Q0 some (by kernel_rfl))
 f241:=Tryz.func92.trans (Q0 some (by kernel_rfl))
 f276:=Tryz.func141.trans (Q0 some (by kernel_rfl))
 f277:=Tryz.func142.trans (Q0 some (by kernel_rfl))
 t0:=Th
 a0:=Uy
 z0:=Ug
 v0:=To
 t3:=RE
 a3:=TK
 z3:=Tp
 v3:=SM
 t4:=SC
 a4:=T8
 z4:=TR
 v4:=S4
 t9:=Rz
 a9:=TM
 z9:=Tr
 v9:=SN
 t20:=Tryz.underlying20
 a20:=Tryz.isAgg20
 z20:=Tryz.sizeOf20
 v20:=Tryz.zeroValue20
 t37:=Sl
 a37:=U4
 z37:=US
 v37:=Ua
 t70:=UM
 a70:=Tryz.isAgg113
 z70:=Tryz.sizeOf113
 v70:=UY
 t72:=UN
 a72:=Tryz.isAgg115
 z72:=Tryz.sizeOf115
 v72:=UZ
 t164:=Tryz.underlying130
 a164:=Tryz.isAgg130
 z164:=Tryz.sizeOf130
 v164:=Tryz.zeroValue130 }
theorem Tryz.Builder_Extra_165:Builder.Extra Tryz.prog Tryz.lays165_ren:={
 sizeBuilder:=by kernel_rfl
 liesBuilder:=by kernel_rfl
 t5:=So
 a5:=Tq
 z5:=Ta
 v5:=Sv
 infoByte:=by kernel_rfl
 cellsByte:=by kernel_rfl
 sizeByte:=by kernel_rfl
 neB5:=by decide }
def Tryz.lays148_ren:Go.Shelf.Ren:=⟨fun|148=>140|222=>175|223=>176|269=>209|n=>n,fun|9=>9|3=>3|4=>4|5=>5|146=>231|51=>230|46=>167|n=>n,fun|n=>n⟩
theorem Tryz.lays148:Go.Proofs.Lays.n148 Tryz.prog Tryz.lays148_ren:={
 mixed:=by kernel_rfl
 f148:=Tryz.func140.trans (Q0 some (by kernel_rfl))
 f222:=Tryz.func175.trans (Q0 some (by kernel_rfl))
 f223:=Tryz.func176.trans (Q0 some (by kernel_rfl))
 f269:=Tryz.func209.trans (Q0 some (by kernel_rfl))
 t3:=RE
 a3:=TK
 z3:=Tp
 v3:=SM
 t4:=SC
 a4:=T8
 z4:=TR
 v4:=S4
 t5:=So
 a5:=Tq
 z5:=Ta
 v5:=Sv
 t9:=Rz
 a9:=TM
 z9:=Tr
 v9:=SN
 t46:=TW
 a46:=U3
 z46:=UR
 v46:=T9
 t51:=Tryz.underlying230
 a51:=Tryz.isAgg230
 z51:=Tryz.sizeOf230
 v51:=Tryz.zeroValue230
 t146:=Tryz.underlying231
 a146:=Tryz.isAgg231
 z146:=Tryz.sizeOf231
 v146:=Tryz.zeroValue231 }
open Go.RowKit Go.Lib in

def Tryz.lays105_ren:Go.Shelf.Ren:=⟨fun|105=>47|212=>93|99=>57|165=>43|166=>46|170=>94|169=>48|263=>143|264=>144|206=>106|240=>91|241=>92|276=>141|277=>142|n=>n,fun|9=>9|3=>3|4=>4|20=>20|0=>0|46=>167|109=>168|5=>5|72=>115|76=>119|51=>230|146=>231|53=>233|148=>234|70=>113|37=>105|75=>24|127=>170|164=>130|80=>73|n=>n,fun|n=>n⟩
theorem Tryz.lays105:Go.Proofs.Lays.n105 Tryz.prog Tryz.lays105_ren:={
 mixed:=by kernel_rfl
 f99:=Tryz.func57.trans (Q0 some (by kernel_rfl))
 f105:=Tryz.func47.trans (Q0 some (by kernel_rfl))
 f165:=Tryz.func43.trans (Q0 some (by kernel_rfl))
 f166:=Tryz.func46.trans (Q0 some (by kernel_rfl))
 f169:=Tryz.func48.trans (Q0 some (by kernel_rfl))
 f170:=Tryz.func94.trans (Q0 some (by kernel_rfl))
 f206:=Tryz.func106.trans (Q0 some (by kernel_rfl))
 f212:=Tryz.func93.trans (Q0 some (by kernel_rfl))
 f240:=Tryz.func91.trans (Q0 some (by kernel_rfl))
 f241:=Tryz.func92.trans (Q0 some (by kernel_rfl))
 f263:=Tryz.func143.trans (Q0 some (by kernel_rfl))
 f264:=Tryz.func144.trans (Q0 some (by kernel_rfl))
 f276:=Tryz.func141.trans (Q0 some (by kernel_rfl))
 f277:=Tryz.func142.trans (Q0 some (by kernel_rfl))
 t0:=Th
 a0:=Uy
 z0:=Ug
 v0:=To
 t3:=RE
 a3:=TK
 z3:=Tp
 v3:=SM
 t4:=SC
 a4:=T8
 z4:=TR
 v4:=S4
 t5:=So
 a5:=Tq
 z5:=Ta
 v5:=Sv
 t9:=Rz
 a9:=TM
 z9:=Tr
 v9:=SN
 t20:=Tryz.underlying20
 a20:=Tryz.isAgg20
 z20:=Tryz.sizeOf20
 v20:=Tryz.zeroValue20
 t37:=Sl
 a37:=U4
 z37:=US
 v37:=Ua
 t46:=TW
 a46:=U3
 z46:=UR
 v46:=T9
 t51:=Tryz.underlying230
 a51:=Tryz.isAgg230
 z51:=Tryz.sizeOf230
 v51:=Tryz.zeroValue230
 t53:=Tryz.underlying233
 a53:=Tryz.isAgg233
 z53:=Tryz.sizeOf233
 v53:=Tryz.zeroValue233
 t70:=UM
 a70:=Tryz.isAgg113
 z70:=Tryz.sizeOf113
 v70:=UY
 t72:=UN
 a72:=Tryz.isAgg115
 z72:=Tryz.sizeOf115
 v72:=UZ
 t75:=Tryz.underlying24
 a75:=Tryz.isAgg24
 z75:=Tryz.sizeOf24
 v75:=Tryz.zeroValue24
 t76:=Tryz.underlying119
 a76:=Tryz.isAgg119
 z76:=Tryz.sizeOf119
 v76:=Tryz.zeroValue119
 t109:=Tryz.underlying168
 a109:=Tryz.isAgg168
 z109:=Tryz.sizeOf168
 v109:=Tryz.zeroValue168
 t127:=UK
 a127:=Tryz.isAgg170
 z127:=Tryz.sizeOf170
 v127:=UW
 t146:=Tryz.underlying231
 a146:=Tryz.isAgg231
 z146:=Tryz.sizeOf231
 v146:=Tryz.zeroValue231
 t148:=Tryz.underlying234
 a148:=Tryz.isAgg234
 z148:=Tryz.sizeOf234
 v148:=Tryz.zeroValue234
 t164:=Tryz.underlying130
 a164:=Tryz.isAgg130
 z164:=Tryz.sizeOf130
 v164:=Tryz.zeroValue130 }
theorem Tryz.Builder_Extra_105:Builder.Extra Tryz.prog Tryz.lays105_ren:={
 sizeBuilder:=by kernel_rfl
 liesBuilder:=by kernel_rfl
 t5:=So
 a5:=Tq
 z5:=Ta
 v5:=Sv
 infoByte:=by kernel_rfl
 cellsByte:=by kernel_rfl
 sizeByte:=by kernel_rfl
 neB5:=by decide }
open Go.RowKit Go.Lib in

theorem OM (B b n:Nat) (w:World) (hB:B<=b) (hbk:w.heap[b]?=some (.cells #[.pointer none,.slice none 0 0] 115 (0,0))) (hBw:B<=w.heap.size) (hn:n<=281474976710656) :
  Ra 43 #[.pointer (some ⟨b,0,none⟩),.int .i64 n] w fun e w'=>e=.returned (.tuple #[])/\(Lib.BuilderAt 115 5 B b (.pointer (some ⟨b,0,none⟩)) [] w'/\Below B w w'):=Any.Builder_Grow_fresh Tryz.lays165 Tryz.Builder_Extra_165 B b n w hB hbk hBw hn
theorem J5 (B b:Nat) (l:List UInt8) (w:World) (h:Lib.IsBuilder 115 5 B b (Lib.byteCells l) w) (hBw:B<=w.heap.size) :
  Ra 48 #[.pointer (some ⟨b,0,none⟩)] w fun e w'=>e=.returned (.string ⟨l.toArray⟩)/\Below B w w':=Any.Builder_String_any Tryz.lays169 Tryz.Builder_Extra_169 B b l w h hBw
theorem Mx (s sub:ByteArray) (h1:sub.size=1) (hs:s.size<4611686018427387904) (w:World) :
  Ra 140 #[.string s,.string sub] w fun e w'=>e=.returned (.int .i64 (Lib.lastIndexByte s ((sub[0]'(by omega)).toNat:Int)))/\w'=w:=Any.strings_LastIndex_one Tryz.lays148 s sub h1 hs w
theorem xm (s:ByteArray) (c:Nat) (w:World) (hc:c<=9223372036854775807) (hlen:s.size*c<=140737488355328) :
  Ra 47 #[.string s,.int .i64 c] w fun e w'=>e=.returned (.string ⟨(Lib.repeatL s.data.toList c).toArray⟩)/\Below w.heap.size w w':=Any.strings_Repeat Tryz.lays105 Tryz.Builder_Extra_105 s c w hc hlen
theorem Nh (b:Nat) (w:World) (h0:w.cell? ⟨b,0,none⟩=some (.pointer (some ⟨b,0,none⟩))) :
  Ra 91 #[.pointer (some ⟨b,0,none⟩)] w fun e w'=>e=.returned (.tuple #[])/\w'=w:=Any.Builder_copyCheck_used (P:=Tryz.prog) (ρ:=Tryz.lays105_ren) { Tryz.lays105 with } Tryz.Builder_Extra_105.toX72 b w h0
end Go.Proofs.YtjiepkenkcgkhaaGreatDoor.Lw
namespace Go.Proofs.YtjiepkenkcgkhaaGreatDoor.Lw
open Go.Proofs.YtjiepkenkcgkhaaGreatDoor.Lx
open Go.RowKit
open Go.Lib (strCells strCells_length)
variable {w:World}{l:List Dc}
theorem Ky (w:World) (A C D:Obj):(((w.alloc A).alloc C).alloc D).heap[w.heap.size]?=some A/\(((w.alloc A).alloc C).alloc D).heap[w.heap.size+1]?=some C/\(((w.alloc A).alloc C).alloc D).heap[w.heap.size+1+1]?=some D/\Below w.heap.size w (((w.alloc A).alloc C).alloc D):=by
 have s1:(w.alloc A).heap.size=w.heap.size+1:=QL w A;have s2:((w.alloc A).alloc C).heap.size=w.heap.size+1+1:=by rw [QL,s1]
 refine ⟨gR _ _ _ _ (gR _ _ _ _ (au _ _)),gR _ _ _ _ ?_,?_,(((hH _ w).alloc (gt _) A).alloc (by omega) C).alloc (by omega) D⟩
 ·rw [<-s1];exact au _ _
 ·rw [<-s2];exact au _ _
theorem pu (g:Nat) (b:Bool) (col wait:Int) (tv gv:Value) (w:World) (hg:w.heap[g]?=some (.cells (sk b col wait tv gv) 108 (0,0))) (htv:∃p n cap,tv=.slice p n cap) (hgv:∃p n cap,gv=.slice p n cap) :
  Ra 84 #[.pointer (some ⟨g,0,none⟩)] w fun e w'=>∃c d h,e=.returned (.tuple #[.func (.func 137) #[] #[.pointer (some ⟨d,0,none⟩),.pointer (some ⟨c,0,none⟩)],.func (.func 138) #[] #[.pointer (some ⟨c,0,none⟩)],.func (.func 139) #[] #[.pointer (some ⟨c,0,none⟩),.pointer (some ⟨d,0,none⟩),.pointer (some ⟨h,0,none⟩)]]) /\
   (w'.heap[c]?=some (.cells #[tv] 105 (0,0))/\w'.heap[d]?=some (.cells #[gv] 106 (0,0))/\w'.heap[h]?=some (.cells #[.pointer (some ⟨g,0,none⟩)] 62 (0,0))/\w.heap.size<=c/\w.heap.size<=d/\w.heap.size<=h)/\Below w.heap.size w w':=by
 have gl:=aq hg;have g3:w.cell? ⟨g,3,none⟩=some tv:=af hg rfl;have g4:w.cell? ⟨g,4,none⟩=some gv:=af hg rfl;obtain ⟨p1,n1,k1,rfl⟩:=htv;obtain ⟨p2,n2,k2,rfl⟩:=hgv;have a1:=kR g3;have a2:=tA g3;have a3:=Ac g3;have b1:=kR g4;have b2:=tA g4;have b3:=Ac g4;have hmf:=mkfn
 go_enter Tryz.func84,Tryz.ntmps84
 go_wp2_with fail
 go_region
 all_goals go_wp2_with fail
 ·go_ret3
  obtain ⟨e0,e1,e2,hb⟩:=Ky w (.cells #[.pointer (some ⟨g,0,none⟩)] 62) (.cells #[.slice p1 n1 k1] 105) (.cells #[.slice p2 n2 k2] 106);exact ⟨w.heap.size+1,w.heap.size+1+1,w.heap.size,rfl,⟨e1,e2,e0,by omega,by omega,by omega⟩,hb.drew⟩
 ·go_ret3
  obtain ⟨e0,e1,e2,hb⟩:=Ky w (.cells #[.pointer (some ⟨g,0,none⟩)] 62) (.cells #[.slice p2 n2 k2] 106) (.cells #[.slice p1 n1 k1] 105);exact ⟨w.heap.size+1+1,w.heap.size+1,w.heap.size,rfl,⟨e2,e1,e0,by omega,by omega,by omega⟩,hb.drew⟩
def lf (t:ByteArray):Int:=Lib.lastIndexByte t 10
theorem KK (t:ByteArray):-1<=lf t/\lf t<t.size:=by
 have:=Lib.lastIdx_spec t 10 t.size;unfold lf Lib.lastIndexByte
 rcases this with ⟨h,_⟩|⟨i,hi,h,_⟩
 ·rw [h];omega
 ·rw [h];omega
def tR (t:ByteArray):ByteArray:=t.extract (lf t+1).toNat t.size
def mL (col wait:Int) (t:ByteArray):Int:=if lf t<0 then col+wait+tw t else tw (tR t)
theorem vf (s:ByteArray) (hs:s.size<4611686018427387904) (w:World) :
  Ra 140 #[.string s,.string ⟨#[10]⟩] w fun e w'=>e=.returned (.int .i64 (lf s))/\w'=w:=Mx s ⟨#[10]⟩ rfl hs w
theorem IV (w:World):Ra 17 #[] w fun e w'=>e=.returned (.pointer (some ⟨w.heap.size,0,none⟩))/\w'=w.alloc (.cells (sk false 0 0 (.slice none 0 0) (.slice none 0 0)) 108):=by
 go_enter Tryz.func17,Tryz.ntmps17
 go_wp2_with fail
 go_ret
 exact ⟨rfl,rfl⟩
theorem xV (g:Nat) (b:Bool) (col wait:Int) (tv gv:Value) (w:World) (hg:w.heap[g]?=some (.cells (sk b col wait tv gv) 108 (0,0))) (h0:0<=col) (h1:col<=1152921504606846976) (h2:0<=wait) (h3:wait<=1152921504606846976) :
  Ra 90 #[.pointer (some ⟨g,0,none⟩)] w fun e w'=>e=.returned (.int .i64 (col+wait))/\Below w.heap.size w w':=by
 have g1:w.cell? ⟨g,1,none⟩=some (.int .i64 col):=af hg rfl;have g2:w.cell? ⟨g,2,none⟩=some (.int .i64 wait):=af hg rfl
 go_enter Tryz.func90,Tryz.ntmps90
 go_wp2_with fail
 go_quiet (fail)
 go_wp2_with fail
 go_ret
 exact ⟨rfl,below_drewN (hH _ w) nq⟩
theorem BK (g:Nat) (b:Bool) (col wait:Int) (tv gv:Value) (w:World) (hg:w.heap[g]?=some (.cells (sk b col wait tv gv) 108 (0,0))) :
  Ra 86 #[.pointer (some ⟨g,0,none⟩)] w fun e w'=>e=.returned (.bool (!b))/\w'=w:=by
 have g0:w.cell? ⟨g,0,none⟩=some (.bool b):=af hg rfl
 go_enter Tryz.func86,Tryz.ntmps86
 go_wp2_with fail
 go_ret
 exact ⟨rfl,rfl⟩
theorem x9 (g:Nat) (b:Bool) (col wait n:Int) (tv gv:Value) (w:World) (hg:w.heap[g]?=some (.cells (sk b col wait tv gv) 108 (0,0))) (h0:0<=n) (h1:n<=1048576) (h2:0<=wait) (h3:wait<=1152921504606846976) :
  Ra 87 #[.pointer (some ⟨g,0,none⟩),.int .i64 n] w fun e w'=>e=.returned (.int .i64 0)/\w'=w.setCell ⟨g,2,none⟩ (.int .i64 (wait+n)):=by
 have q1:decide (n<0)=false:=by simp;omega
 have q2:decide (1048576<n)=false:=by simp;omega
 have q3:¬(1048576<n):=by omega
 have q4:¬(n<0):=by omega
 have g2:w.cell? ⟨g,2,none⟩=some (.int .i64 wait):=af hg rfl;have f2:w.frozen? ⟨g,2,none⟩=false:=am hg
 go_enter Tryz.func87,Tryz.ntmps87
 go_wp2_with fail
 go_ret
 exact ⟨rfl,rfl⟩
section
variable {β:Type} (enc:β->List Value) (sz:Nat)
variable (hsz:∀x,(enc x).length=sz)
include hsz
end
def Dc.v (d:Dc):Value:=.agg #[.int .u8 d.k,.string d.t,.int .i64 d.b,.int .i64 d.i,.bool d.e]
def Dc.cs (d:Dc):List Value:=[.int .u8 d.k,.string d.t,.int .i64 d.b,.int .i64 d.i,.bool d.e]
theorem Dc.cs_len (d:Dc):d.cs.length=5:=rfl
theorem Dc.cs_one (d:Dc):∀u∈d.cs,u.oneCell'=true:=by
 intro u hu;simp only [Dc.cs,Rg,Tg,Vr] at hu
 rcases hu with rfl|rfl|rfl|rfl|rfl <;> rfl
def bU (l:List Dc):List Value:=bz Dc.cs l
theorem aW (l:List Dc):(bU l).length=l.length*5:=fV Dc.cs 5 Dc.cs_len l
theorem cg (l:List Dc):∀u∈bU l,u.oneCell'=true:=by
 intro u hu;obtain ⟨d,_,h⟩:=TG.1 hu;exact d.cs_one u h
def Lay (w:World) (ao:Option Addr) (l:List Dc):Prop:=∀j d,l[j]?=some d->d.t.size<=9223372036854775807/\∃b off,ao=some ⟨b,off,none⟩ /\
 w.cell? ⟨b,off+j*5,none⟩=some (.int .u8 d.k)/\w.cell? ⟨b,off+j*5+1,none⟩=some (.string d.t)/\w.cell? ⟨b,off+j*5+2,none⟩=some (.int .i64 d.b)/\w.cell? ⟨b,off+j*5+3,none⟩=some (.int .i64 d.i)/\w.cell? ⟨b,off+j*5+4,none⟩=some (.bool d.e)
theorem Lay.kp {S:Nat->Prop}{w w':World}{ao:Option Addr}{l:List Dc}(h:Lay w ao l) (hb:Kp S w w') (hS:∀a,ao=some a->¬S a.block):Lay w' ao l:=by
 intro j a ha;obtain ⟨h0,b,off,h1,c0,c1,c2,c3,c4⟩:=h j a ha;have hlt:=QP _ _ c0;have e:w'.heap[b]?=w.heap[b]?:=hb.block b hlt (hS _ h1);exact ⟨h0,b,off,h1,(QS (a:=⟨b,_,none⟩) e).trans c0,(QS (a:=⟨b,_,none⟩) e).trans c1,(QS (a:=⟨b,_,none⟩) e).trans c2,(QS (a:=⟨b,_,none⟩) e).trans c3,(QS (a:=⟨b,_,none⟩) e).trans c4⟩
theorem Lay.below {w':World}{ao:Option Addr}(h:Lay w ao l) (hb:Below w.heap.size w w'):Lay w' ao l:=h.kp (Kp.of_below (S:=fun _=>False) hb) (fun _ _ h=>h)
theorem Lay.row {B:Nat}{v:Value}{n:Nat}(h:w.ownsRow B 71 5 v n (bU l)) (ht:∀d∈l,d.t.size<=9223372036854775807):∃ao cap,v=.slice ao l.length cap/\n=l.length/\Lay w ao l/\(ao=none\/∃g,ao=some ⟨g,0,none⟩/\B<=g/\g<w.heap.size)/\l.length<=cap/\cap<=maxLen:=by
 have hn:n=l.length:=by have:=h.1;rw [aW] at this;omega
 subst hn
 rcases h.2 with ⟨rfl,h0⟩|⟨g,cap,cur,rfl,hb,hg,h3,h4,h5,h6⟩
 ·have:l=[]:=QZ h0;subst this;exact ⟨none,0,rfl,rfl,fun j d h=>by simp at h,.inl rfl,QK _,QK _⟩
 ·refine ⟨some ⟨g,0,none⟩,cap,rfl,rfl,?_,.inr ⟨g,rfl,hb,aq hg⟩,h3,h4⟩;intro j d hj
  have hc:∀(k:Nat) (u:Value),(bU l)[k]?=some u->w.cell? ⟨g,k,none⟩=some u:=fun k u hu=>by
   have:=h.cells (g:=g) rfl k u hu;rw [SE,QU] at this;exact this
  refine ⟨ht d (RU hj),g,0,rfl,?_,?_,?_,?_,?_⟩
  ·rw [QU];exact hc _ _ (aU Dc.cs 5 Dc.cs_len l j 0 d _ hj rfl)
  ·rw [QU];exact hc _ _ (aU Dc.cs 5 Dc.cs_len l j 1 d _ hj rfl)
  ·rw [QU];exact hc _ _ (aU Dc.cs 5 Dc.cs_len l j 2 d _ hj rfl)
  ·rw [QU];exact hc _ _ (aU Dc.cs 5 Dc.cs_len l j 3 d _ hj rfl)
  ·rw [QU];exact hc _ _ (aU Dc.cs 5 Dc.cs_len l j 4 d _ hj rfl)
end Go.Proofs.YtjiepkenkcgkhaaGreatDoor.Lw
namespace Go.Proofs.YtjiepkenkcgkhaaGreatDoor.Lw
open Go.Proofs.YtjiepkenkcgkhaaGreatDoor.Lx
open Go.RowKit
theorem Fq (c:UInt8) (w:World):Ra 207 #[.int .u8 (c.toNat:Int)] w fun e w'=>e=.returned (.bool (zO c))/\w'=w:=by
 have h1:((c.toNat:Int) == 32)=(c == 32):=by revert c;exact Gy (by decide +kernel)
 have h2:((c.toNat:Int) == 10)=(c == 10):=by revert c;exact Gy (by decide +kernel)
 have e:zO c=((c.toNat:Int) == 32 || (c.toNat:Int) == 10):=by rw [h1,h2];rfl
 rw [e];clear e h1 h2
 generalize (c.toNat:Int)=z
 go_enter Tryz.func207,Tryz.ntmps207
 go_wp2_with fail
 all_goals (go_ret;simp_all)
theorem uA (n:Int) (w:World):Ra 172 #[.int .i64 n] w fun e w'=>e=.returned (.bool (ij n))/\w'=w:=by
 have e:ij n=(decide (0<=n) && decide (n<=1000)):=rfl;rw [e];clear e
 go_enter Tryz.func172,Tryz.ntmps172
 go_wp2_with fail
 all_goals (go_ret;simp_all)
 all_goals omega
theorem B7 (t:ByteArray) (ht:t.size<=9223372036854775807) (w:World):Ra 171 #[.string t] w fun e w'=>e=.returned (.bool (eZ t))/\w'=w:=by
 by_cases h0:t.size=0
 ·have e0:t=⟨#[]⟩:=by
   apply sF
   exact QZ (by rw [o0];exact h0)
  subst e0
  go_enter Tryz.func171,Tryz.ntmps171
  go_wp2_with fail
  go_ret
  exact ⟨rfl,rfl⟩
 ·have hne:¬t.toList=[]:=by
   rw [Lib.toList_data];intro hl;exact absurd (by have:=o0 t;rw [ji,hl] at this;simpa using this.symm) h0
  by_cases h1:t.size<=65535
  ·have hlt:0<t.size:=by omega
   have hlt2:t.size-1<t.size:=by omega
   have HE:Hid (eZ t=(!zO t[0] && !zO (t[t.size-1]))):=by
    show _=_
    unfold eZ;have a0:(ji t).getD 0 0=t[0]:=(Lib.getD_at t 0 hlt).symm;have a1:(ji t).getD (t.size-1) 0=t[t.size-1]:=(Lib.getD_at t (t.size-1) hlt2).symm;rw [a0,a1];simp [h1,show 1<=t.size by omega]
   go_enter Tryz.func171,Tryz.ntmps171
   go_wp2_with (go_at_call 207;refine (Fq _ _).mono ?_;rintro e w1 ⟨rfl,rfl⟩)
   all_goals (go_ret;rw [HE.out];clear HE;refine ⟨?_,rfl⟩;simp_all)
  ·go_enter Tryz.func171,Tryz.ntmps171
   go_wp2_with fail
   go_ret
   refine ⟨?_,rfl⟩;simp [eZ,h1]
theorem xi (t:ByteArray) (b i:Int) (e:Bool) (ht:t.size<=9223372036854775807) (w:World):Ra 134 #[.agg #[.int .u8 1,.string t,.int .i64 b,.int .i64 i,.bool e]] w fun x w'=>x=.returned (.bool (eZ t && (b == 0 && (i == 0 && !e))))/\Below w.heap.size w w':=by
 go_enter UO,Uq
 go_wp2_with (go_at_call 171;refine (B7 _ ht _).mono ?_;rintro e w1 ⟨rfl,rfl⟩)
 all_goals go_ret
 all_goals (refine ⟨by simp_all,?_⟩;repeat (first|exact hH _ _|refine TZ ?_ (gt _) _|refine Uz ?_ (by simp) _|refine Us ?_))
theorem AY (t:ByteArray) (b i:Int) (e:Bool) (w:World):Ra 134 #[.agg #[.int .u8 3,.string t,.int .i64 b,.int .i64 i,.bool e]] w fun x w'=>x=.returned (.bool (ij b && (t.toList == [] && (i == 0 && !e))))/\Below w.heap.size w w':=by
 go_enter UO,Uq
 go_wp2_with (go_at_call 172;refine (uA _ _).mono ?_;rintro e w1 ⟨rfl,rfl⟩)
 all_goals go_ret
 all_goals (refine ⟨by simp_all,?_⟩;repeat (first|exact hH _ _|refine TZ ?_ (gt _) _|refine Uz ?_ (by simp) _|refine Us ?_))
theorem AZ (t:ByteArray) (b i:Int) (e:Bool) (w:World):Ra 134 #[.agg #[.int .u8 6,.string t,.int .i64 b,.int .i64 i,.bool e]] w fun x w'=>x=.returned (.bool (ij i && (t.toList == [] && b == 0)))/\Below w.heap.size w w':=by
 go_enter UO,Uq
 go_wp2_with (go_at_call 172;refine (uA _ _).mono ?_;rintro e w1 ⟨rfl,rfl⟩)
 all_goals go_ret
 all_goals (refine ⟨by simp_all,?_⟩;repeat (first|exact hH _ _|refine TZ ?_ (gt _) _|refine Uz ?_ (by simp) _|refine Us ?_))
theorem xh (k:Int) (hk:k=2\/k=4\/k=5\/k=7) (t:ByteArray) (b i:Int) (e:Bool) (w:World):Ra 134 #[.agg #[.int .u8 k,.string t,.int .i64 b,.int .i64 i,.bool e]] w fun x w'=>x=.returned (.bool (t.toList == [] && (b == 0 && (i == 0 && !e))))/\Below w.heap.size w w':=by
 rcases hk with rfl|rfl|rfl|rfl
 all_goals
  go_enter UO,Uq
  go_wp2_with fail
  all_goals go_ret
  all_goals (refine ⟨by simp_all,?_⟩;repeat (first|exact hH _ _|refine TZ ?_ (gt _) _|refine Uz ?_ (by simp) _|refine Us ?_))
theorem xj (k:Int) (h1:k≠1) (h2:k≠2) (h3:k≠3) (h4:k≠4) (h5:k≠5) (h6:k≠6) (h7:k≠7) (t:ByteArray) (b i:Int) (e:Bool) (w:World):Ra 134 #[.agg #[.int .u8 k,.string t,.int .i64 b,.int .i64 i,.bool e]] w fun x w'=>x=.returned (.bool false)/\Below w.heap.size w w':=by
 go_enter UO,Uq
 go_wp2_with fail
 all_goals go_ret
 all_goals (refine ⟨by simp_all,?_⟩;repeat (first|exact hH _ _|refine TZ ?_ (gt _) _|refine Uz ?_ (by simp) _|refine Us ?_))
theorem G5 (t:ByteArray):(t.toList == [])=decide (t=bE):=by
 rw [Se,RM,Rj,Lib.toList_data];constructor
 ·intro h;exact sF h
 ·rintro rfl;rfl
theorem A0 (d:Dc) (ht:d.t.size<=9223372036854775807) (w:World):Ra 134 #[d.v] w fun x w'=>x=.returned (.bool (rt d))/\Below w.heap.size w w':=by
 obtain ⟨k,t,b,i,e⟩:=d
 by_cases k1:k=1
 ·subst k1
  have e1:rt ⟨1,t,b,i,e⟩=(eZ t && (b == 0 && (i == 0 && !e))):=by
   unfold rt;rw [IO rfl]
   congr 1
   rw [Se];simp [Dc.mk.injEq]
  rw [e1];exact xi t b i e ht w
 by_cases k3:k=3
 ·subst k3
  have e1:rt ⟨3,t,b,i,e⟩=(ij b && (t.toList == [] && (i == 0 && !e))):=by
   unfold rt;rw [Eq (by show ¬(3:Int)=1;decide),IO rfl,G5]
   congr 1
   rw [Se];simp [Dc.mk.injEq]
  rw [e1];exact AY t b i e w
 by_cases k6:k=6
 ·subst k6
  have e1:rt ⟨6,t,b,i,e⟩=(ij i && (t.toList == [] && b == 0)):=by
   unfold rt;rw [Eq (by show ¬(6:Int)=1;decide),Eq (by show ¬(6:Int)=3;decide),IO rfl,G5]
   congr 1
   rw [Se];simp [Dc.mk.injEq]
  rw [e1];exact AZ t b i e w
 by_cases kz:k=2\/k=4\/k=5\/k=7
 ·have e1:rt ⟨k,t,b,i,e⟩=(t.toList == [] && (b == 0 && (i == 0 && !e))):=by
   unfold rt;rw [Eq k1,Eq k3,Eq k6,IO kz,G5];rw [Se];simp [Dc.mk.injEq]
  rw [e1];exact xh k kz t b i e w
 ·have e1:rt ⟨k,t,b,i,e⟩=false:=by
   unfold rt;rw [Eq k1,Eq k3,Eq k6,Eq kz]
  rw [e1];simp only [not_or] at kz;exact xj k k1 kz.1 k3 kz.2.1 kz.2.2.1 k6 kz.2.2.2 t b i e w
end Go.Proofs.YtjiepkenkcgkhaaGreatDoor.Lw
