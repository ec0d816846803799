import Derived.Lib.Bytealg
import Derived.Lib.Strings
import Derived.Defers
import Derived.Shelf.Strings.Builder1
import Derived.Shelf.Strings.Builder2
import Derived.Shelf.Strings.LastIndex
import Derived.Shelf.Strings.Repeat
import Derived.OwnWalk
import Derived.Lib.LaidTab
import Derived.Lib.ItoaWalk
import Derived.Test.YthfjlkfeeglfmaaGreatDoorM02
set_option linter.all false
set_option maxHeartbeats 1000000
namespace Go.Proofs.YthfjlkfeeglfmaaGreatDoor.Lw
open Go.Proofs.Tryz
open Lx
variable {p:Int}
def II {P:UInt8->Prop}(h:∀n:Fin 256,P (UInt8.ofNat n.val)) (c:UInt8):P c:=by
 have:=h ⟨c.toNat,c.toNat_lt⟩
 simpa using this
structure Dc where
 k:Int
 t:ByteArray
 b:Int
 i:Int
 e:Bool
 deriving DecidableEq
def bE:ByteArray:=⟨#[]⟩
def kC (s:ByteArray):List UInt8:=s.data.toList
def o6 {a b:ByteArray}(h:kC a=kC b):a=b:=by
 cases a;cases b;simp only[kC]at h;rw[TJ.1 h]
def eY (s:ByteArray):(kC s).length=s.size:=by simp[kC]
def F9 (l:List UInt8):kC ⟨l.toArray⟩=l:=by simp[kC]
def DV (c:UInt8):Bool:=c==32||c==10
def gK (s:ByteArray):Bool:=decide (1<=s.size)&&(decide (s.size<=65535)&&(!DV ((kC s).getD 0 0)&&!DV ((kC s).getD (s.size-1) 0)))
def kq (n:Int):Bool:=decide (0<=n)&&decide (n<=1000)
def rt (d:Dc):Bool:=
 if d.k=1 then gK d.t&&decide (d=⟨1,d.t,0,0,false⟩)
 else if d.k=3 then kq d.b&&decide (d=⟨3,bE,d.b,0,false⟩)
 else if d.k=6 then kq d.i&&decide (d=⟨6,bE,0,d.i,d.e⟩)
 else if d.k=2\/d.k=4\/d.k=5\/d.k=7 then decide (d=⟨d.k,bE,0,0,false⟩)else false
inductive Rt:Dc->Prop
 |text (t:ByteArray) (h:gK t=true):Rt ⟨1,t,0,0,false⟩
 |brk (n:Int) (h:kq n=true):Rt ⟨3,bE,n,0,false⟩
 |beg (n:Int) (e:Bool) (h:kq n=true):Rt ⟨6,bE,0,n,e⟩
 |blank:Rt ⟨2,bE,0,0,false⟩
 |hard:Rt ⟨4,bE,0,0,false⟩
 |empty:Rt ⟨5,bE,0,0,false⟩
 | «end»:Rt ⟨7,bE,0,0,false⟩
def gu {d:Dc}(h:rt d=true):Rt d:=by
 unfold rt at h
 split at h
 ·simp only[Sf,So]at h;obtain⟨u,G⟩:=h;rw[G];exact .text _ u
 ·split at h
  ·simp only[Sf,So]at h;obtain⟨u,G⟩:=h;rw[G];exact .brk _ u
  ·split at h
   ·simp only[Sf,So]at h;obtain⟨u,G⟩:=h;rw[G];exact .beg _ _ u
   ·split at h
    ·rename_i H
     simp only[So]at h;obtain⟨k,t,b,i,e⟩:=d;simp only[Dc.mk.injEq,true_and]at h;obtain⟨rfl,rfl,rfl,rfl⟩:=h;simp only at H
     rcases H with rfl|rfl|rfl|rfl
     ·exact .blank
     ·exact .hard
     ·exact .empty
     ·exact .end
    ·cases h
def im {n:Int}(h:kq n=true):0<=n/\n<=1000:=by simpa[kq]using h
def fN {t:ByteArray}(h:gK t=true):1<=t.size/\t.size<=65535:=by
 simp only[gK,Sf,So]at h;exact⟨h.1,h.2.1⟩
def cq (k:Int):Int:=if k=6 then 1 else if k=7 then -1 else 0
def bQ:Int->Nat->List Dc->Option Nat
 |o,j,[]=>if 0<o then some j else none
 |o,j,d :: r=>if rt d=true/\0<=o+cq d.k then bQ (o+cq d.k) (j+1) r else some j
def ka (l:List Dc):Int × Int:=if 2097152<l.length then(2,0)else match bQ 0 0 l with|some j=>(70,(j:Int))|none=>(0,0)
def jW:∀(l:List Dc) (o:Int) (j:Nat),bQ o j l=none->∀d∈l,rt d=true
 |[],_,_,_=>by simp
 |d :: r,o,j,h=>by
  simp only[bQ]at h
  split at h
  ·rename_i hc
   intro x u
   rcases Sm.1 u with rfl|u
   ·exact hc.1
   ·exact jW r _ _ h x u
  ·cases h
def GL:∀(l:List Dc) (o:Int) (j k:Nat),bQ o j l=some k->k<=j+l.length
 |[],o,j,k,h=>by
  simp only[bQ]at h
  split at h<;>cases h
  simp
 |d :: r,o,j,k,h=>by
  simp only[bQ]at h
  split at h
  ·have:=GL r _ _ k h;simp;omega
  ·cases h;omega
def Ig (l:List Dc):0<=(ka l).1/\(ka l).1<=70/\0<=(ka l).2/\(ka l).2<=2097152:=by
 unfold ka
 split
 ·simp
 ·rename_i G
  cases u:bQ 0 0 l with
  |some j=>have:=GL l 0 0 j u;simp;omega
  |none=>simp
open Go.ChangeShapes Go.WideShapes Go.ChangeAt Go.RowKit
def lC:List (Int × Int × Int):=[(768,879,0),(4352,4447,2),(8203,8207,0),(8400,8447,0),(11904,12350,2),(12353,42191,2),(44032,55203,2),(63744,64255,2),(65024,65039,0),(65056,65071,0),(65072,65135,2),(65280,65376,2),(65504,65510,2),(127744,128591,2),(129280,129535,2),(131072,262141,2)]
def zz (i:Nat):Int:=(lC.getD i (0,0,0)).1
def BQ (i:Nat):Int:=(lC.getD i (0,0,0)).2.1
def ON (i:Nat):Int:=(lC.getD i (0,0,0)).2.2
def gj (w:World):Prop:=∀i,i<16->w.cell? ⟨2,i*3,none⟩=some (Tu (zz i))/\w.cell? ⟨2,i*3+1,none⟩=some (Tu (BQ i))/\w.cell? ⟨2,i*3+2,none⟩=some (Tu (ON i))
def gj.below {w w':World}(h:gj w) (u:Below w.heap.size w w'):gj w':=by
 intro i M;obtain⟨H,I,J⟩:=h i M;have G:=RV w _ H;exact⟨(u.cell (p:=⟨2,i*3,none⟩) G).trans H,(u.cell (p:=⟨2,i*3+1,none⟩) G).trans I,(u.cell (p:=⟨2,i*3+2,none⟩) G).trans J⟩
def CX:(Rows.laid_colophon_width_spans:DataW Unit)=.agg (lC.map λx=>.agg [.lit (.int .i64 x.1),.lit (.int .i64 x.2.1),.lit (.int .i64 x.2.2)]):=by kernel_rfl
def uJ {W:World}{L:List (String × DataW Unit)}(J:(L.all λx=>x.2.handleName?.isNone)=true) (hm:("colophon/width.spans",Rows.laid_colophon_width_spans)∈L) (h:laidMetH Tryz.prog L W):gj W:=by
 rw[Ug _ _ _ J]at h;obtain⟨ps,M,_,_⟩:=h;obtain⟨g,t,cs,fuel,p,hg,ht,hv,hd⟩:=iy L ps M _ _ hm;obtain rfl:=SJ ((show Tryz.prog.globalNamed "colophon/width.spans"=some 2 by kernel_rfl).symm.trans hg);obtain rfl:=SJ ((show(Tryz.prog.globals[2]?).map (·.type)=some 298 by kernel_rfl).symm.trans ht);rw[CX]at hd;obtain⟨xs,m,_,ex,_,hl,hel⟩:=Vt underlying298 hd;have c3:Tryz.prog.cellsOf 3=1:=by kernel_rfl
 have I:Tryz.prog.cellsOf 297=3:=by kernel_rfl
 intro i hi;have Z:=hel i hi;rw[I,Pi (by omega)]at Z;obtain⟨y0,y1,y2,n,ey,_,O,Q,S⟩:=Deep.trod_struct3 underlying297 Z;simp only[c3]at O Q S;obtain⟨z0,a0,b0,_⟩:=UO underlying3 O;obtain⟨z1,a1,b1,_⟩:=UO underlying3 Q;obtain⟨z2,a2,b2,_⟩:=UO underlying3 S;have aa:lC.length=16:=rfl;have e3:(xs.map (·.1))=lC.map λx=>(.agg [.lit (.int .i64 x.1),.lit (.int .i64 x.2.1),.lit (.int .i64 x.2.2)]:DataW Unit):=(Wl (WU ex).1).symm
 have G:(xs.map (·.1))[i]?=(lC.map λx=>(.agg [.lit (.int .i64 x.1),.lit (.int .i64 x.2.1),.lit (.int .i64 x.2.2)]:DataW Unit))[i]?:=by rw[e3]
 rw[TE,TE,Pi (by omega:i<xs.length),Pi (by omega:i<lC.length),ey,b0,b1,b2]at G;simp only[Uz,St,DataW.agg.injEq,List.cons.injEq,VI,Lit.int.injEq,true_and,and_true]at G;obtain⟨f0,f1,f2⟩:=G;have H:lC.getD i (0,0,0)=lC[i]:=by rw[List.getD,Pi (show i<lC.length by omega)];rfl
 have u:∀(o:Nat) (z:Int),o<3->(((cs.toList.drop (i*3)).take 3).drop o).take 1=[Tu z]->W.cell? ⟨2,i*3+o,none⟩=some (Tu z):=by
  intro o z ho hz;rw[U6 hg hv (i*3+o)];have Y:((((cs.toList.drop (i*3)).take 3).drop o).take 1)[0]?=some (Tu z):=by rw[hz];rfl
  rw[Sv,Or (by omega),Sl,Sv,Or (by omega),Sl]at Y
  simpa using Y
 refine⟨?_,?_,?_⟩
 ·have:=u 0 z0 (by omega) (by simpa using a0);rw[Ua]at this;rw[this,zz,H,f0];rfl
 ·have:=u 1 z1 (by omega) (by simpa using a1);rw[this,BQ,H,f1];rfl
 ·have:=u 2 z2 (by omega) (by simpa using a2);rw[this,ON,H,f2];rfl
open Go.RowKit
def zy (p:Int):Prop:=(4352<=p/\p<=4447)\/(11904<=p/\p<=12350)\/(12353<=p/\p<=42191)\/(44032<=p/\p<=55203)\/(63744<=p/\p<=64255)\/(65072<=p/\p<=65135)\/(65280<=p/\p<=65376)\/(65504<=p/\p<=65510)\/(127744<=p/\p<=128591)\/(129280<=p/\p<=129535)\/(131072<=p/\p<=262141)
def LW (p:Int):Prop:=(768<=p/\p<=879)\/(8203<=p/\p<=8207)\/(8400<=p/\p<=8447)\/(65024<=p/\p<=65039)\/(65056<=p/\p<=65071)
instance (p:Int):Decidable (zy p):=by unfold zy;infer_instance
instance (p:Int):Decidable (LW p):=by unfold LW;infer_instance
def wd (p:Int):Int:=if zy p then 2 else if LW p then 0 else 1
def LX (p:Int):0<=wd p/\wd p<=2:=by unfold wd;split<;>(try split)<;>omega
def MM (h:zy p):wd p=2:=by unfold wd;rw[Or h]
def ML (h:LW p):wd p=0:=by
 unfold wd;rw[Eq (by unfold LW at h;unfold zy;omega),Or h]
def MN (h:¬zy p) (u:¬LW p):wd p=1:=by unfold wd;rw[Eq h,Eq u]
def Jv (i:Nat) (p:Int) (H:i<16) (u:zz i<=p) (G:p<=BQ i):ON i=wd p:=by
 rcases i with _|_|_|_|_|_|_|_|_|_|_|_|_|_|_|_|i
 all_goals simp[zz,BQ,ON,lC,List.getD]at u G ⊢
 all_goals first|exact(MM (by unfold zy;omega)).symm|exact(ML (by unfold LW;omega)).symm|omega
def Jw (p:Int) (h:∀k,k<16->p<zz k\/BQ k<p):wd p=1:=by
 have O:=h 0 (by omega);have Q:=h 1 (by omega);have S:=h 2 (by omega);have Y:=h 3 (by omega);have Z:=h 4 (by omega);have a5:=h 5 (by omega);have a6:=h 6 (by omega);have a7:=h 7 (by omega);have a8:=h 8 (by omega);have a9:=h 9 (by omega);have u:=h 10 (by omega);have G:=h 11 (by omega);have H:=h 12 (by omega);have I:=h 13 (by omega);have J:=h 14 (by omega);have M:=h 15 (by omega);simp only[zz,BQ,lC,List.getD,List.getElem?_cons_zero,Tq,Vu]at O Q S Y Z a5 a6 a7 a8 a9 u G H I J M;refine MN ?_ ?_
 ·unfold zy;omega
 ·unfold LW;omega
def MS (i k:Nat) (u:k<16) (h:i<=k):zz i<=zz k:=by
 have:∀k,k<16->∀i,i<16->i<=k->zz i<=zz k:=by decide +kernel
 exact this k u i (by omega) h
def uK (i:Nat) (p:Int) (h:∀k,k<i->BQ k<p) (G:i<16->p<zz i):wd p=1:=by
 refine Jw p λk H=>?_
 by_cases u:k<i
 ·exact .inr (h k u)
 ·have:=G (by omega);have:=MS i k H (by omega);omega
def nt {a b:Int}(h:a=b):Ending.returned (Tu a)=.returned (Tu b):=by rw[h]
def Ny (p:Int) (w:World) (J:gj w) :
  Sa 171 #[Tu p] w λe w'=>Uk e (Tu (wd p))/\w'=w:=by
 go_enter func171,ntmps171;(go_wp2_with fail)
 go_loopw [4] (λi wr=>wr=w/\∃k:Nat,k<=16/\i=Tu k/\∀j,j<k->BQ j<p) (λi _=>16-(intOf i).toNat)
 case atStart=>exact⟨rfl,0,by omega,rfl,λj S=>by omega⟩
 case round=>
  obtain⟨rfl,k,Z,rfl,G⟩:=hrel
  by_cases H:k<16
  ·obtain⟨c0,c1,c2⟩:=J k H;have Y:=aW G;have M:=aW (Jv k p H);have I:Hid (p<zz k->wd p=1):=λh=>uK k p G (λ_=>h)
   have HN:Hid (BQ k<p->∀j,j<k+1->BQ j<p):=λh j S=>by
    by_cases e:j=k
    ·subst e;exact h
    ·exact G j (by omega)
   clear G J;generalize zz k=l at *;generalize ON k=c at *;generalize BQ k=u at *
   by_cases O:p<l
   ·(go_wp2_with fail);go_ret;exact⟨nt (I.out O).symm,rfl⟩
   ·by_cases Q:p<=u
    ·(go_wp2_with fail);go_ret;exact⟨nt (M.out (by omega) Q),rfl⟩
    ·(go_wp2_with fail);exact⟨⟨trivial,k+1,by omega,by go_num,HN.out (by omega)⟩,by simp[intOf];omega⟩
  ·have I:=aW (uK k p G (λh=>absurd h H));clear G J;(go_wp2_with fail);go_ret;exact⟨nt I.out.symm,rfl⟩
def cl:List Nat->Int
 |[]=>0
 |p :: r=>wd (p:Int)+cl r
def On (a b:List Nat):cl (a++b)=cl a+cl b:=by
 induction a with
 |nil=>simp[cl]
 |cons x r ih=>simp only[R7,cl,ih];omega
def PM (l:List Nat):0<=cl l/\cl l<=2*l.length:=by
 induction l with
 |nil=>simp[cl]
 |cons x r ih=>
  have:=LX (x:Int);simp only[cl,List.length_cons];omega
def cw (s:ByteArray) (k:Nat):Int:=cl ((Kc s).take k)
def tw (s:ByteArray):Int:=cl (Kc s)
def Ll (s:ByteArray) (k:Nat) (h:k<(P s).length):cw s (k+1)=cw s k+wd (dp s (st s k)):=by
 unfold cw;rw[Fv s k h,On];simp[cl]
def Hh (s:ByteArray) (k:Nat) (h:(P s).length<=k):cw s k=tw s:=by
 unfold cw tw;rw[S5 (by rw[Ak];omega)]
def Mx (s:ByteArray) (k:Nat):0<=cw s k/\cw s k<=2*s.size:=by
 have h:=PM ((Kc s).take k);have u:=BJ s;have G:((Kc s).take k).length<=(P s).length:=by rw[Sk,Ak];omega
 unfold cw;omega
def kf (s:ByteArray):0<=tw s/\tw s<=2*s.size:=by
 rw[<-Hh s _ (ge _)];exact Mx s _
def iS (s:ByteArray) (w:World) (I:gj w) (hs:s.size<=8589934592) :
  Sa 105 #[.string s] w λe w'=>Uk e (Tu (tw s))/\Below w.heap.size w w':=by
 have Y:=BJ s;go_enter func105,ntmps105;(go_wp2_with fail)
 go_loopw [3] (λn w'=>∃k:Nat,k<=(P s).length/\w'=w.iter s (st s k)/\n=Tu (cw s k)) (λ_ w'=>s.size-w'.iterPos w.heap.size)
 case atStart=>exact⟨0,by omega,rfl,rfl⟩
 case round=>
  obtain⟨k,Z,rfl,rfl⟩:=hrel
  by_cases u:k<(P s).length
  ·have H:=(fK s k).2 u;have hw:=aQ s (st s k) H;have Q:=wW s (st s k);have hc:=Mx s k;have S:=LX (dp s (st s k));have M:Hid (∀pos,gj (w.iter s pos)):=λpos=>I.below (du w s pos)
   have J:=aW (eC s k u);have HC:=aW (Ll s k u);have hnx:∀G,(Instr.next (.pointer (some ⟨w.heap.size,0,none⟩)) true G).run Tryz.prog (w.iter s (st s k))=.ok (.tuple #[.bool true,Tu (st s k),.int .i32 (dp s (st s k))]) (w.iter s (st s k+dw s (st s k))):=λG=>VU w s (st s k) G H
   clear I;generalize st s k=i at *;generalize dw s i=d at *;generalize O:dp s i=x at *;generalize cw s k=c at *;clear O;(go_wp2_with fail);refine(Ny x _ (M.out _)).mono ?_;rintro e w'⟨rfl,rfl⟩;generalize wd (x:Int)=y at *;(go_wp2_with fail);exact⟨⟨k+1,u,by rw[J.out],Sh (Value.int .i64) HC.out.symm⟩,by simp;omega⟩
  ·have H:¬st s k<s.size:=by rw[fK];exact u
   have hnx:∀G,(Instr.next (.pointer (some ⟨w.heap.size,0,none⟩)) true G).run Tryz.prog (w.iter s (st s k))=_:=λG=>WD w s (st s k) G H
   have HC:=aW (Hh s k (by omega));(go_wp2_with fail);go_ret;exact⟨nt HC.out,du _ _ _⟩
open Go.Lib (strCells strCells_length)
end Go.Proofs.YthfjlkfeeglfmaaGreatDoor.Lw
namespace Go.Proofs.YthfjlkfeeglfmaaGreatDoor
open Go.Proofs.Tryz
open Lw
open Lx
open Go.RowKit
open Go.Lib (strCells strCells_length)
def Fr.tab {i:Nat}{own own':Nat->Nat}{w w':World}(h:Fr i own own' w w') (J:gj w) (u:own 2≠i):gj w':=by
 intro j M;obtain⟨G,H,I⟩:=J j M;exact⟨h.cell G u,h.cell H u,h.cell I u⟩
end Go.Proofs.YthfjlkfeeglfmaaGreatDoor
namespace Go.Proofs.YthfjlkfeeglfmaaGreatDoor.Lw
open Go.Proofs.Tryz
open Lx
open Go.RowKit
open Go.Lib (strCells strCells_length)
variable {w:World}{a:Addr}{l:List Dc}
def Tryz.info5:(Tryz.prog.info? 5).map (λi=>(i.zero,i.size,i.bytes))=some (some (.int .u8 0),1,1):=by kernel_rfl
def Tryz.info129:(Tryz.prog.info? 129).map (λi=>(i.zero,i.size,i.bytes))=some (some (.agg #[Tu 0,Tu 0]),2,16):=by kernel_rfl
def eg (x:Nat × Nat):List Value:=[Tu x.1,Tu x.2]
def G2 (x:Nat × Nat):(eg x).length=2:=rfl
def LA (c:Nat) (v:Value) (n:Nat) (xs:List Value) (t:ByteArray) (w:World) (hc:w.heap[c]?=some (.cells #[v] 117 (0,0))) (Z:w.ownsRow 0 5 1 v n xs) (hn:n+t.size<=70368744177664) :
  Sa 160 #[.string t,.pointer (some (Tw c 0))] w λe w'=>Uk e (.tuple #[])/\∃v',w'.heap[c]?=some (.cells #[v'] 117 (0,0))/\w'.ownsRow 0 5 1 v' (n+t.size) (xs++strCells t)/\(v'.ownBlock=v.ownBlock\/v'.ownBlock=some w.heap.size)/\Kp (λk=>k=c\/some k=v.ownBlock) w w':=by
 obtain⟨i0,hi,ab,ac,ad⟩:=Tf Tryz.info5;have Q:=aF Z hc (by decide);have ae:=ai hc;have c0:w.cell? (Tw c 0)=some v:=aa hc rfl;obtain⟨p,cap,rfl,_,_⟩:=aG Z;go_enter func160,ntmps160
 go_wp2_with(first|(at_builtin;refine dy (P:=Tryz.prog) (w:=w) rfl _ _ 117 9 rfl 0 5 i0 underlying117 underlying9 hi ab ac ad _ _ _ rfl Z t rfl ?c3 ?c4 ?c5 ?_))
 case c3=>unfold maxLen;omega
 case c4=>omega
 case c5=>omega
 intro v2 w2 H O M;have Y:=Kp.of_grown O;have G:w2.heap[c]?=some (.cells #[.slice p n cap] 117 (0,0)):=Y.blk hc (λh=>Q h.symm);have d0:w2.cell? (Tw c 0)=some (.slice p n cap):=aa G rfl;have f0:w2.frozen? (Tw c 0)=false:=aj G;have I:=aF H G (by decide);obtain⟨J,u,rfl,_,_⟩:=aG H
 have HE:Hid ((w2.setCell ⟨c,0,none⟩ (.slice J (n+t.size) u)).heap[c]?=some (.cells #[.slice J (n+t.size) u] 117 (0,0))/\(w2.setCell ⟨c,0,none⟩ (.slice J (n+t.size) u)).ownsRow 0 5 1 (.slice J (n+t.size) u) (n+t.size) (xs++strCells t)/\((Value.slice J (n+t.size) u).ownBlock=(Value.slice p n cap).ownBlock\/(Value.slice J (n+t.size) u).ownBlock=some w.heap.size)/\Kp (λk=>k=c\/some k=(Value.slice p n cap).ownBlock) w (w2.setCell ⟨c,0,none⟩ (.slice J (n+t.size) u))):=by
  refine⟨ag G 0 _,(Kp.set w2 c 0 _).row H (λk h1 h2=>I (by rw[h1,h2])),M,?_⟩;exact(Kp.step (S:=λk=>k=c\/some k=(Value.slice p n cap).ownBlock) (Kp.refl _ _) Y (λj _ h=>.inr h)).step (Kp.set w2 c 0 _) (λj _ h=>.inl h)
 clear Y O H M Q I G;(go_wp2_with fail);go_end0;exact⟨rfl,_,HE.out⟩
def LB (m:Int) (d c:Nat) (w:World) (u:m<=0) :
  Sa 159 #[Tu m,.pointer (some (Tw d 0)),.pointer (some (Tw c 0))] w λe w'=>Uk e (.tuple #[])/\w'=w:=by
 have q:decide (0<m)=false:=by simp;omega
 go_enter func159,ntmps159;(go_wp2_with fail)
 go_end0;exact⟨rfl,rfl⟩
def na (W:World) (a b:Value) (t n:Nat) (h:n=W.heap.size):∀j u,[a,b][j]?=some u->(W.alloc (.cells #[a,b] t)).cell? (((Tw n 0):Addr).add j)=some u:=by
 subst h;intro j u G
 match j,G with
 |0,G=>simp at G;subst G;simp[Addr.add]
 |1,G=>simp at G;subst G;simp[Addr.add]
def DF (m:Nat) (d c:Nat) (v:Value) (tv:Value) (n l:Nat) (xs:List Value) (w:World) (hc:w.heap[c]?=some (.cells #[tv] 117 (0,0))) (ab:∃p cap,tv=.slice p l cap) (hd:w.heap[d]?=some (.cells #[v] 118 (0,0))) (ho:w.ownsRow 0 129 2 v n xs) (hn:n<=8589934592) (hm:0<m) (ak:m<=9223372036854775807) (hl:l<=9223372036854775807) :
  Sa 159 #[Tu m,.pointer (some (Tw d 0)),.pointer (some (Tw c 0))] w λe w'=>Uk e (.tuple #[])/\∃v',w'.heap[d]?=some (.cells #[v'] 118 (0,0))/\w'.ownsRow 0 129 2 v' (n+1) (xs++eg (l,m))/\(v'.ownBlock=v.ownBlock\/∃b,w.heap.size<=b/\v'.ownBlock=some b)/\Kp (λk=>k=d\/some k=v.ownBlock) w w':=by
 obtain⟨i0,hi,ac,ad,ae⟩:=Tf Tryz.info129;have q:decide (0<(m:Int))=true:=by simp;omega
 have Z:=aF ho hd (by decide);have gz:=ai hd;have c0:w.cell? (Tw c 0)=some tv:=aa hc rfl;have d0:w.cell? (Tw d 0)=some v:=aa hd rfl;have ah:=ai hc;obtain⟨tp,af,rfl⟩:=ab;obtain⟨p,cap,rfl,_,_⟩:=aG ho;go_enter func159,ntmps159
 go_wp2_with(first|(at_builtin;refine Th (P:=Tryz.prog) (w:=w.alloc (.cells #[Tu l,Tu m] 129)) rfl _ _ 118 rfl 0 129 i0 (.agg #[Tu 0,Tu 0]) 2 16 underlying118 hi ac ad ae rfl (by decide) _ _ _ rfl (aU ho ((gt _ _).alloc (ge _) _)) ⟨w.heap.size,0,none⟩ 1 1 (eg (l,m)) rfl rfl ?c1 ?c2 ?c3 ?c4 ?c5 ?_))
 case c1=>exact na _ _ _ _ _ rfl
 case c2=>intro u hu;simp[eg]at hu;rcases hu with rfl|rfl<;>rfl
 case c3=>unfold maxLen;omega
 case c4=>omega
 case c5=>omega
 intro v2 w2 I O _ Q;have hk:=Kp.step (S:=λk=>k=d\/some k=(Value.slice p n cap).ownBlock) ((Kp.refl _ _).alloc (.cells #[Tu l,Tu m] 129)) (Kp.of_grown O) (λj _ h=>.inr h);have Y:=Kp.step (S:=λk=>some k=(Value.slice p n cap).ownBlock) ((Kp.refl _ _).alloc (.cells #[Tu l,Tu m] 129)) (Kp.of_grown O) (λj _ h=>h);have H:w2.heap[d]?=some (.cells #[.slice p n cap] 118 (0,0)):=Y.blk hd (λh=>Z h.symm);have e0:w2.cell? (Tw d 0)=some (.slice p n cap):=aa H rfl;have f0:w2.frozen? (Tw d 0)=false:=aj H;have J:=aF I H (by decide);obtain⟨M,G,rfl,_,_⟩:=aG I
 have HE:Hid ((w2.setCell ⟨d,0,none⟩ (.slice M (n+1) G)).heap[d]?=some (.cells #[.slice M (n+1) G] 118 (0,0))/\(w2.setCell ⟨d,0,none⟩ (.slice M (n+1) G)).ownsRow 0 129 2 (.slice M (n+1) G) (n+1) (xs++eg (l,m))/\((Value.slice M (n+1) G).ownBlock=(Value.slice p n cap).ownBlock\/∃b,w.heap.size<=b/\(Value.slice M (n+1) G).ownBlock=some b)/\Kp (λk=>k=d\/some k=(Value.slice p n cap).ownBlock) w (w2.setCell ⟨d,0,none⟩ (.slice M (n+1) G))):=by
  refine⟨ag H 0 _,(Kp.set w2 d 0 _).row I (λk h1 h2=>J (by rw[h1,h2])),?_,?_⟩
  ·rcases Q with h|h
   ·exact .inl h
   ·exact .inr ⟨_,by have:=RT w (.cells #[Tu l,Tu m] 129);omega,h⟩
  ·exact hk.step (Kp.set w2 d 0 _) (λj _ h=>.inl h)
 clear hk Y O I Q Z J H;(go_wp2_with fail);go_end0;exact⟨rfl,_,HE.out⟩
def sk (b:Bool) (col wait:Int) (tv gv:Value):Array Value:=#[.bool b,Tu col,Tu wait,tv,gv]
def gI (w:World) (o:Obj) (g:Nat) (x:Obj) (h:w.heap[g]?=some x):(w.alloc o).heap[g]?=some x:=(((gt _ w).alloc (ge _) o).block g (ai h)).trans h
def kW {v:Value}(h:w.cell? a=some v):∀o,(w.alloc o).cell? a=some v:=λo=>(((gt _ w).alloc (ge _) o).cell (RV w a h)).trans h
def tX {v:Value}(h:w.cell? a=some v):∀o p,((w.alloc o).alloc p).cell? a=some v:=λo p=>kW (kW h o) p
def Br {v:Value}(h:w.cell? a=some v):∀o p q,(((w.alloc o).alloc p).alloc q).cell? a=some v:=λo p q=>kW (tX h o p) q
def Om (u:FrameMode) (b Y:Bool) (col O H G:Int) (c d h g:Nat) (tv gv M J:Value) (w:World)
  (I:w.heap[g]?=some (.cells (sk b col O tv gv) 120 (0,0))) (hc:w.heap[c]?=some (.cells #[M] 117 (0,0))) (hd:w.heap[d]?=some (.cells #[J] 118 (0,0))) (hh:w.heap[h]?=some (.cells #[.pointer (some (Tw g 0))] 62 (0,0)))
  (ab:∃p n cap,tv=.slice p n cap) (Z:∃p n cap,gv=.slice p n cap) (S:∃p n cap,M=.slice p n cap) (Q:∃p n cap,J=.slice p n cap) :
  CallsD Tryz.prog 161 #[.agg #[.bool Y,Tu H,Tu G],.pointer (some (Tw c 0)),.pointer (some (Tw d 0)),.pointer (some (Tw h 0))] u w λe u' w'=>u'=u/\(Uk e (.tuple #[])/\w'.heap[g]?=some (.cells (sk Y H G M J) 120 (0,0))/\Kp (λk=>k=g) w w'):=by
 have gl:=ai I;have cl:=ai hc;have dl:=ai hd;have hl:=ai hh;have g0:w.cell? (Tw g 0)=some (.bool b):=aa I rfl;have g1:w.cell? (Tw g 1)=some (Tu col):=aa I rfl;have g2:w.cell? (Tw g 2)=some (Tu O):=aa I rfl;have g3:w.cell? (Tw g 3)=some tv:=aa I rfl;have g4:w.cell? (Tw g 4)=some gv:=aa I rfl;have f0:w.frozen? (Tw g 0)=false:=aj I;have f1:w.frozen? (Tw g 1)=false:=aj I;have f2:w.frozen? (Tw g 2)=false:=aj I;have f3:w.frozen? (Tw g 3)=false:=aj I;have f4:w.frozen? (Tw g 4)=false:=aj I;have c0:w.cell? (Tw c 0)=some M:=aa hc rfl;have d0:w.cell? (Tw d 0)=some J:=aa hd rfl;have h0:w.cell? (Tw h 0)=some (.pointer (some (Tw g 0))):=aa hh rfl;obtain⟨p1,n1,k1,rfl⟩:=ab;obtain⟨p2,n2,k2,rfl⟩:=Z;obtain⟨p3,n3,k3,rfl⟩:=S;obtain⟨p4,n4,k4,rfl⟩:=Q
 go_enter_d func161,ntmps161
 (go_wp2_with fail);go_region;(go_wp2_with fail);go_end0;refine⟨rfl,?_,?_⟩
 ·refine(gI _ _ _ _ ?_);exact ag (ag (ag (ag (ag I 3 _) 4 _) 0 _) 1 _) 2 _
 ·refine Kp.same (W:=(((((w.setCell ⟨g,3,none⟩ (.slice p3 n3 k3)).setCell ⟨g,4,none⟩ (.slice p4 n4 k4)).setCell ⟨g,0,none⟩ (.bool Y)).setCell ⟨g,1,none⟩ (Tu H)).setCell ⟨g,2,none⟩ (Tu G)).alloc (.cells #[.bool Y,Tu H,Tu G] 116)) ?_ rfl rfl rfl rfl;refine Kp.alloc ?_ _;exact(((((Kp.refl _ w).trans (Kp.set _ _ _ _)).trans (Kp.set _ _ _ _)).trans (Kp.set _ _ _ _)).trans (Kp.set _ _ _ _)).trans (Kp.set _ _ _ _)
open Go.RowKit Go.Shelf
def Tryz.lays169_ren:Go.Shelf.Ren:=⟨fun|169=>53|n=>n,fun|70=>125|9=>9|0=>0|72=>127|37=>117|127=>193|3=>3|5=>5|n=>n,fun|n=>n⟩
def Tryz.lays169:Go.Proofs.Lays.n169 Tryz.prog Tryz.lays169_ren:={
 mixed:=by kernel_rfl
 f169:=func53.trans (Sh some (by kernel_rfl))
 t0:=underlying0
 a0:=VK
 z0:=Vq
 v0:=UC
 t3:=underlying3
 a3:=UW
 z3:=UD
 v3:=T3
 t9:=underlying9
 a9:=UX
 z9:=UF
 v9:=T4
 t37:=underlying117
 a37:=Wo
 z37:=Wc
 v37:=Vh
 t70:=underlying125
 a70:=Tryz.isAgg125
 z70:=Tryz.sizeOf125
 v70:=Wi
 t72:=underlying127
 a72:=Tryz.isAgg127
 z72:=Tryz.sizeOf127
 v72:=Wj
 t127:=underlying193
 a127:=Tryz.isAgg193
 z127:=Tryz.sizeOf193
 v127:=Wh }
def Tryz.Builder_Extra_169:Builder.Extra Tryz.prog Tryz.lays169_ren:={
 sizeBuilder:=by kernel_rfl
 liesBuilder:=by kernel_rfl
 t5:=underlying5
 a5:=UE
 z5:=Uq
 v5:=TQ
 infoByte:=by kernel_rfl
 cellsByte:=by kernel_rfl
 sizeByte:=by kernel_rfl
 neB5:=by decide }
def Tryz.lays165_ren:Go.Shelf.Ren:=⟨fun|165=>48|240=>98|241=>99|276=>163|277=>164|n=>n,fun|70=>125|3=>3|0=>0|4=>4|9=>9|20=>20|72=>127|37=>117|164=>151|5=>5|n=>n,fun|n=>n⟩
def Tryz.lays165:Go.Proofs.Lays.n165 Tryz.prog Tryz.lays165_ren:={
 mixed:=by kernel_rfl
 f165:=func48.trans (Sh some (by kernel_rfl))
 f240:=func98.trans (Sh some (by kernel_rfl))
 f241:=func99.trans (Sh some (by kernel_rfl))
 f276:=func163.trans (Sh some (by kernel_rfl))
 f277:=func164.trans (Sh some (by kernel_rfl))
 t0:=underlying0
 a0:=VK
 z0:=Vq
 v0:=UC
 t3:=underlying3
 a3:=UW
 z3:=UD
 v3:=T3
 t4:=underlying4
 a4:=Vf
 z4:=U3
 v4:=Ul
 t9:=underlying9
 a9:=UX
 z9:=UF
 v9:=T4
 t20:=underlying20
 a20:=Tryz.isAgg20
 z20:=Tryz.sizeOf20
 v20:=Tryz.zeroValue20
 t37:=underlying117
 a37:=Wo
 z37:=Wc
 v37:=Vh
 t70:=underlying125
 a70:=Tryz.isAgg125
 z70:=Tryz.sizeOf125
 v70:=Wi
 t72:=underlying127
 a72:=Tryz.isAgg127
 z72:=Tryz.sizeOf127
 v72:=Wj
 t164:=underlying151
 a164:=Tryz.isAgg151
 z164:=Tryz.sizeOf151
 v164:=Tryz.zeroValue151 }
def Tryz.Builder_Extra_165:Builder.Extra Tryz.prog Tryz.lays165_ren:={
 sizeBuilder:=by kernel_rfl
 liesBuilder:=by kernel_rfl
 t5:=underlying5
 a5:=UE
 z5:=Uq
 v5:=TQ
 infoByte:=by kernel_rfl
 cellsByte:=by kernel_rfl
 sizeByte:=by kernel_rfl
 neB5:=by decide }
def Tryz.lays148_ren:Go.Shelf.Ren:=⟨fun|148=>162|222=>220|223=>221|269=>250|n=>n,fun|9=>9|3=>3|4=>4|5=>5|146=>261|51=>260|46=>189|n=>n,fun|n=>n⟩
def Tryz.lays148:Go.Proofs.Lays.n148 Tryz.prog Tryz.lays148_ren:={
 mixed:=by kernel_rfl
 f148:=func162.trans (Sh some (by kernel_rfl))
 f222:=func220.trans (Sh some (by kernel_rfl))
 f223:=func221.trans (Sh some (by kernel_rfl))
 f269:=func250.trans (Sh some (by kernel_rfl))
 t3:=underlying3
 a3:=UW
 z3:=UD
 v3:=T3
 t4:=underlying4
 a4:=Vf
 z4:=U3
 v4:=Ul
 t5:=underlying5
 a5:=UE
 z5:=Uq
 v5:=TQ
 t9:=underlying9
 a9:=UX
 z9:=UF
 v9:=T4
 t46:=underlying189
 a46:=Wn
 z46:=Wb
 v46:=Vg
 t51:=underlying260
 a51:=Tryz.isAgg260
 z51:=Tryz.sizeOf260
 v51:=Tryz.zeroValue260
 t146:=underlying261
 a146:=Tryz.isAgg261
 z146:=Tryz.sizeOf261
 v146:=Tryz.zeroValue261 }
open Go.RowKit Go.Lib in
def Tryz.lays105_ren:Go.Shelf.Ren:=⟨fun|105=>52|212=>100|99=>101|165=>48|166=>51|170=>102|169=>53|263=>165|264=>166|206=>167|240=>98|241=>99|276=>163|277=>164|n=>n,fun|9=>9|3=>3|4=>4|20=>20|0=>0|46=>189|109=>190|5=>5|72=>127|76=>130|51=>260|146=>261|53=>263|148=>264|70=>125|37=>117|75=>25|127=>193|164=>151|80=>81|n=>n,fun|n=>n⟩
def Tryz.lays105:Go.Proofs.Lays.n105 Tryz.prog Tryz.lays105_ren:={
 mixed:=by kernel_rfl
 f99:=func101.trans (Sh some (by kernel_rfl))
 f105:=func52.trans (Sh some (by kernel_rfl))
 f165:=func48.trans (Sh some (by kernel_rfl))
 f166:=func51.trans (Sh some (by kernel_rfl))
 f169:=func53.trans (Sh some (by kernel_rfl))
 f170:=func102.trans (Sh some (by kernel_rfl))
 f206:=func167.trans (Sh some (by kernel_rfl))
 f212:=func100.trans (Sh some (by kernel_rfl))
 f240:=func98.trans (Sh some (by kernel_rfl))
 f241:=func99.trans (Sh some (by kernel_rfl))
 f263:=func165.trans (Sh some (by kernel_rfl))
 f264:=func166.trans (Sh some (by kernel_rfl))
 f276:=func163.trans (Sh some (by kernel_rfl))
 f277:=func164.trans (Sh some (by kernel_rfl))
 t0:=underlying0
 a0:=VK
 z0:=Vq
 v0:=UC
 t3:=underlying3
 a3:=UW
 z3:=UD
 v3:=T3
 t4:=underlying4
 a4:=Vf
 z4:=U3
 v4:=Ul
 t5:=underlying5
 a5:=UE
 z5:=Uq
 v5:=TQ
 t9:=underlying9
 a9:=UX
 z9:=UF
 v9:=T4
 t20:=underlying20
 a20:=Tryz.isAgg20
 z20:=Tryz.sizeOf20
 v20:=Tryz.zeroValue20
 t37:=underlying117
 a37:=Wo
 z37:=Wc
 v37:=Vh
 t46:=underlying189
 a46:=Wn
 z46:=Wb
 v46:=Vg
 t51:=underlying260
 a51:=Tryz.isAgg260
 z51:=Tryz.sizeOf260
 v51:=Tryz.zeroValue260
 t53:=underlying263
 a53:=Tryz.isAgg263
 z53:=Tryz.sizeOf263
 v53:=Tryz.zeroValue263
 t70:=underlying125
 a70:=Tryz.isAgg125
 z70:=Tryz.sizeOf125
 v70:=Wi
 t72:=underlying127
 a72:=Tryz.isAgg127
 z72:=Tryz.sizeOf127
 v72:=Wj
 t75:=underlying25
 a75:=Tryz.isAgg25
 z75:=Tryz.sizeOf25
 v75:=Tryz.zeroValue25
 t76:=underlying130
 a76:=Tryz.isAgg130
 z76:=Tryz.sizeOf130
 v76:=Tryz.zeroValue130
 t109:=underlying190
 a109:=Tryz.isAgg190
 z109:=Tryz.sizeOf190
 v109:=Tryz.zeroValue190
 t127:=underlying193
 a127:=Tryz.isAgg193
 z127:=Tryz.sizeOf193
 v127:=Wh
 t146:=underlying261
 a146:=Tryz.isAgg261
 z146:=Tryz.sizeOf261
 v146:=Tryz.zeroValue261
 t148:=underlying264
 a148:=Tryz.isAgg264
 z148:=Tryz.sizeOf264
 v148:=Tryz.zeroValue264
 t164:=underlying151
 a164:=Tryz.isAgg151
 z164:=Tryz.sizeOf151
 v164:=Tryz.zeroValue151 }
def Tryz.Builder_Extra_105:Builder.Extra Tryz.prog Tryz.lays105_ren:={
 sizeBuilder:=by kernel_rfl
 liesBuilder:=by kernel_rfl
 t5:=underlying5
 a5:=UE
 z5:=Uq
 v5:=TQ
 infoByte:=by kernel_rfl
 cellsByte:=by kernel_rfl
 sizeByte:=by kernel_rfl
 neB5:=by decide }
open Go.RowKit Go.Lib in
def PQ (B b n:Nat) (w:World) (H:B<=b) (G:w.heap[b]?=some (.cells #[.pointer none,.slice none 0 0] 127 (0,0))) (u:B<=w.heap.size) (I:n<=281474976710656) :
  Sa 48 #[.pointer (some (Tw b 0)),Tu n] w λe w'=>Uk e (.tuple #[])/\(Lib.BuilderAt 127 5 B b (.pointer (some (Tw b 0))) [] w'/\Below B w w'):=Any.Builder_Grow_fresh Tryz.lays165 Tryz.Builder_Extra_165 B b n w H G u I
def LE (B b:Nat) (l:List UInt8) (w:World) (h:Lib.IsBuilder 127 5 B b (Lib.byteCells l) w) (u:B<=w.heap.size) :
  Sa 53 #[.pointer (some (Tw b 0))] w λe w'=>Uk e (.string ⟨l.toArray⟩)/\Below B w w':=Any.Builder_String_any Tryz.lays169 Tryz.Builder_Extra_169 B b l w h u
def NM (s sub:ByteArray) (u:sub.size=1) (G:s.size<4611686018427387904) (w:World) :
  Sa 162 #[.string s,.string sub] w λe w'=>Uk e (Tu (Lib.lastIndexByte s ((sub[0]'(by omega)).toNat:Int)))/\w'=w:=Any.strings_LastIndex_one Tryz.lays148 s sub u G w
def ya (s:ByteArray) (c:Nat) (w:World) (hc:c<=9223372036854775807) (u:s.size*c<=140737488355328) :
  Sa 52 #[.string s,Tu c] w λe w'=>Uk e (.string ⟨(Lib.repeatL s.data.toList c).toArray⟩)/\Se w w':=Any.strings_Repeat Tryz.lays105 Tryz.Builder_Extra_105 s c w hc u
def Ow (b:Nat) (w:World) (u:w.cell? (Tw b 0)=some (.pointer (some (Tw b 0)))) :
  Sa 98 #[.pointer (some (Tw b 0))] w λe w'=>Uk e (.tuple #[])/\w'=w:=Any.Builder_copyCheck_used (P:=Tryz.prog) (ρ:=Tryz.lays105_ren) { Tryz.lays105 with } Tryz.Builder_Extra_105.toX72 b w u
def L3 (w:World) (A C D:Obj):(((w.alloc A).alloc C).alloc D).heap[w.heap.size]?=some A/\(((w.alloc A).alloc C).alloc D).heap[w.heap.size+1]?=some C/\(((w.alloc A).alloc C).alloc D).heap[w.heap.size+1+1]?=some D/\Below w.heap.size w (((w.alloc A).alloc C).alloc D):=by
 have u:(w.alloc A).heap.size=w.heap.size+1:=RT w A;have G:((w.alloc A).alloc C).heap.size=w.heap.size+1+1:=by rw[RT,u]
 refine⟨gI _ _ _ _ (gI _ _ _ _ (ak _ _)),gI _ _ _ _ ?_,?_,(((gt _ w).alloc (ge _) A).alloc (by omega) C).alloc (by omega) D⟩
 ·rw[<-u];exact ak _ _
 ·rw[<-G];exact ak _ _
def pk (g:Nat) (b:Bool) (col u:Int) (tv gv:Value) (w:World) (Q:w.heap[g]?=some (.cells (sk b col u tv gv) 120 (0,0))) (Y:∃p n cap,tv=.slice p n cap) (S:∃p n cap,gv=.slice p n cap) :
  Sa 91 #[.pointer (some (Tw g 0))] w λe w'=>∃c d h,Uk e (.tuple #[.func (.func 159) #[] #[.pointer (some (Tw d 0)),.pointer (some (Tw c 0))],.func (.func 160) #[] #[.pointer (some (Tw c 0))],.func (.func 161) #[] #[.pointer (some (Tw c 0)),.pointer (some (Tw d 0)),.pointer (some (Tw h 0))]]) /\
   (w'.heap[c]?=some (.cells #[tv] 117 (0,0))/\w'.heap[d]?=some (.cells #[gv] 118 (0,0))/\w'.heap[h]?=some (.cells #[.pointer (some (Tw g 0))] 62 (0,0))/\w.heap.size<=c/\w.heap.size<=d/\w.heap.size<=h)/\Se w w':=by
 have gl:=ai Q;have J:w.cell? (Tw g 3)=some tv:=aa Q rfl;have M:w.cell? (Tw g 4)=some gv:=aa Q rfl;obtain⟨p1,n1,Z,rfl⟩:=Y;obtain⟨p2,n2,k2,rfl⟩:=S;have a1:=kW J;have a2:=tX J;have a3:=Br J;have b1:=kW M;have b2:=tX M;have b3:=Br M;have ab:=mkfn;go_enter func91,ntmps91;(go_wp2_with fail);go_region
 all_goals go_wp2_with fail
 ·go_ret3;obtain⟨G,H,I,O⟩:=L3 w (.cells #[.pointer (some (Tw g 0))] 62) (.cells #[.slice p1 n1 Z] 117) (.cells #[.slice p2 n2 k2] 118);exact⟨w.heap.size+1,w.heap.size+1+1,w.heap.size,rfl,⟨H,I,G,by omega,by omega,by omega⟩,O.drew⟩
 ·go_ret3;obtain⟨G,H,I,O⟩:=L3 w (.cells #[.pointer (some (Tw g 0))] 62) (.cells #[.slice p2 n2 k2] 118) (.cells #[.slice p1 n1 Z] 117);exact⟨w.heap.size+1+1,w.heap.size+1,w.heap.size,rfl,⟨I,H,G,by omega,by omega,by omega⟩,O.drew⟩
def lf (t:ByteArray):Int:=Lib.lastIndexByte t 10
def Mm (t:ByteArray):-1<=lf t/\lf t<t.size:=by
 have:=Lib.lastIdx_spec t 10 t.size;unfold lf Lib.lastIndexByte
 rcases this with⟨h,_⟩|⟨i,u,h,_⟩
 ·rw[h];omega
 ·rw[h];omega
def uf (t:ByteArray):ByteArray:=t.extract (lf t+1).toNat t.size
def kA (col wait:Int) (t:ByteArray):Int:=if lf t<0 then col+wait+tw t else tw (uf t)
def wj (s:ByteArray) (u:s.size<4611686018427387904) (w:World) :
  Sa 162 #[.string s,.string ⟨#[10]⟩] w λe w'=>Uk e (Tu (lf s))/\w'=w:=NM s ⟨#[10]⟩ rfl u w
def AC (w:World):Sa 19 #[] w λe w'=>Uk e (.pointer (some ⟨w.heap.size,0,none⟩))/\w'=w.alloc (.cells (sk false 0 0 (.slice none 0 0) (.slice none 0 0)) 120):=by
 go_enter func19,ntmps19;(go_wp2_with fail)
 go_ret;exact⟨rfl,rfl⟩
def yP (g:Nat) (b:Bool) (col u:Int) (tv gv:Value) (w:World) (G:w.heap[g]?=some (.cells (sk b col u tv gv) 120 (0,0))) (J:0<=col) (M:col<=1152921504606846976) (O:0<=u) (Q:u<=1152921504606846976) :
  Sa 97 #[.pointer (some (Tw g 0))] w λe w'=>Uk e (Tu (col+u))/\Se w w':=by
 have H:w.cell? (Tw g 1)=some (Tu col):=aa G rfl;have I:w.cell? (Tw g 2)=some (Tu u):=aa G rfl;go_enter func97,ntmps97;(go_wp2_with fail)
 go_quiet (fail)
 (go_wp2_with fail);go_ret;exact⟨rfl,below_drewN (gt _ w) nq⟩
def De (g:Nat) (b:Bool) (col u:Int) (tv gv:Value) (w:World) (G:w.heap[g]?=some (.cells (sk b col u tv gv) 120 (0,0))) :
  Sa 93 #[.pointer (some (Tw g 0))] w λe w'=>Uk e (.bool (!b))/\w'=w:=by
 have H:w.cell? (Tw g 0)=some (.bool b):=aa G rfl;go_enter func93,ntmps93;(go_wp2_with fail);go_ret;exact⟨rfl,rfl⟩
def yV (g:Nat) (b:Bool) (col u n:Int) (tv gv:Value) (w:World) (G:w.heap[g]?=some (.cells (sk b col u tv gv) 120 (0,0))) (J:0<=n) (M:n<=1048576) (O:0<=u) (Q:u<=1152921504606846976) :
  Sa 94 #[.pointer (some (Tw g 0)),Tu n] w λe w'=>Uk e (Tu 0)/\w'=w.setCell ⟨g,2,none⟩ (Tu (u+n)):=by
 have S:decide (n<0)=false:=by simp;omega
 have Y:decide (1048576<n)=false:=by simp;omega
 have Z:¬(1048576<n):=by omega
 have q4:¬(n<0):=by omega
 have I:w.cell? (Tw g 2)=some (Tu u):=aa G rfl;have H:w.frozen? (Tw g 2)=false:=aj G;go_enter func94,ntmps94;(go_wp2_with fail);go_ret;exact⟨rfl,rfl⟩
section
variable {β:Type} (enc:β->List Value) (sz:Nat)
variable (hsz:∀x,(enc x).length=sz)
include hsz
end
def Dc.v (d:Dc):Value:=.agg #[.int .u8 d.k,.string d.t,Tu d.b,Tu d.i,.bool d.e]
def Dc.cs (d:Dc):List Value:=[.int .u8 d.k,.string d.t,Tu d.b,Tu d.i,.bool d.e]
def Dc.cs_len (d:Dc):d.cs.length=5:=rfl
def Dc.cs_one (d:Dc):∀u∈d.cs,u.oneCell'=true:=by
 intro u G;simp only[Dc.cs,Sm,Uu,W4]at G
 rcases G with rfl|rfl|rfl|rfl|rfl<;>rfl
def bR (l:List Dc):List Value:=ap Dc.cs l
def aS (l:List Dc):(bR l).length=l.length*5:=bD Dc.cs 5 Dc.cs_len l
def bY (l:List Dc):∀u∈bR l,u.oneCell'=true:=by
 intro u G;obtain⟨d,_,h⟩:=UR.1 G;exact d.cs_one u h
def Lay (w:World) (ao:Option Addr) (l:List Dc):Prop:=∀j d,l[j]?=some d->d.t.size<=9223372036854775807/\∃b off,ao=some ⟨b,off,none⟩ /\
 w.cell? ⟨b,off+j*5,none⟩=some (.int .u8 d.k)/\w.cell? ⟨b,off+j*5+1,none⟩=some (.string d.t)/\w.cell? ⟨b,off+j*5+2,none⟩=some (Tu d.b)/\w.cell? ⟨b,off+j*5+3,none⟩=some (Tu d.i)/\w.cell? ⟨b,off+j*5+4,none⟩=some (.bool d.e)
def Lay.kp {S:Nat->Prop}{w w':World}{ao:Option Addr}{l:List Dc}(h:Lay w ao l) (O:Kp S w w') (J:∀a,ao=some a->¬S a.block):Lay w' ao l:=by
 intro j a M;obtain⟨I,b,G,H,c0,c1,c2,c3,c4⟩:=h j a M;have u:=RV _ _ c0;have e:w'.heap[b]?=w.heap[b]?:=O.block b u (J _ H);exact⟨I,b,G,H,(RX (a:=(Tw b _)) e).trans c0,(RX (a:=(Tw b _)) e).trans c1,(RX (a:=(Tw b _)) e).trans c2,(RX (a:=(Tw b _)) e).trans c3,(RX (a:=(Tw b _)) e).trans c4⟩
def Lay.below {w':World}{ao:Option Addr}(h:Lay w ao l) (u:Below w.heap.size w w'):Lay w' ao l:=h.kp (Kp.of_below (S:=λ_=>False) u) (λ_ _ h=>h)
def Lay.row {B:Nat}{v:Value}{n:Nat}(h:w.ownsRow B 37 5 v n (bR l)) (ht:∀d∈l,d.t.size<=9223372036854775807):∃ao cap,v=.slice ao l.length cap/\n=l.length/\Lay w ao l/\(ao=none\/∃g,ao=some (Tw g 0)/\B<=g/\g<w.heap.size)/\l.length<=cap/\cap<=maxLen:=by
 have Q:n=l.length:=by have:=h.1;rw[aS]at this;omega
 subst Q
 rcases h.2 with⟨rfl,H⟩|⟨g,cap,Y,rfl,M,O,I,J,Z,h6⟩
 ·have:l=[]:=R6 H;subst this;exact⟨none,0,rfl,rfl,λj d h=>by simp at h,.inl rfl,RU _,RU _⟩
 ·refine⟨some (Tw g 0),cap,rfl,rfl,?_,.inr ⟨g,rfl,M,ai O⟩,I,J⟩;intro j d G
  have hc:∀(k:Nat) (u:Value),(bR l)[k]?=some u->w.cell? (Tw g k)=some u:=λk u S=>by
   have:=h.cells (g:=g) rfl k u S;rw[S8,R3]at this;exact this
  refine⟨ht d (SF G),g,0,rfl,?_,?_,?_,?_,?_⟩
  ·rw[R3];exact hc _ _ (aP Dc.cs 5 Dc.cs_len l j 0 d _ G rfl)
  ·rw[R3];exact hc _ _ (aP Dc.cs 5 Dc.cs_len l j 1 d _ G rfl)
  ·rw[R3];exact hc _ _ (aP Dc.cs 5 Dc.cs_len l j 2 d _ G rfl)
  ·rw[R3];exact hc _ _ (aP Dc.cs 5 Dc.cs_len l j 3 d _ G rfl)
  ·rw[R3];exact hc _ _ (aP Dc.cs 5 Dc.cs_len l j 4 d _ G rfl)
def G4 (c:UInt8) (w:World):Sa 222 #[.int .u8 (c.toNat:Int)] w λe w'=>Uk e (.bool (DV c))/\w'=w:=by
 have u:((c.toNat:Int)==32)=(c==32):=by revert c;exact II (by decide +kernel)
 have G:((c.toNat:Int)==10)=(c==10):=by revert c;exact II (by decide +kernel)
 have e:DV c=((c.toNat:Int)==32||(c.toNat:Int)==10):=by rw[u,G];rfl
 rw[e];clear e u G;generalize(c.toNat:Int)=z;go_enter func222,ntmps222;(go_wp2_with fail)
 all_goals(go_ret;simp_all)
def vh (n:Int) (w:World):Sa 169 #[Tu n] w λe w'=>Uk e (.bool (kq n))/\w'=w:=by
 have e:kq n=(decide (0<=n)&&decide (n<=1000)):=rfl;rw[e];clear e;go_enter func169,ntmps169;(go_wp2_with fail)
 all_goals(go_ret;simp_all)
 all_goals omega
def Dw (t:ByteArray) (ht:t.size<=9223372036854775807) (w:World):Sa 168 #[.string t] w λe w'=>Uk e (.bool (gK t))/\w'=w:=by
 by_cases I:t.size=0
 ·have Q:t=⟨#[]⟩:=by
   apply o6
   exact R6 (by rw[eY];exact I)
  subst Q;go_enter func168,ntmps168;(go_wp2_with fail);go_ret;exact⟨rfl,rfl⟩
 ·have S:¬t.toList=[]:=by
   rw[Lib.toList_data];intro hl;exact absurd (by have:=eY t;rw[kC,hl]at this;simpa using this.symm) I
  by_cases J:t.size<=65535
  ·have G:0<t.size:=by omega
   have u:t.size-1<t.size:=by omega
   have H:Hid (gK t=(!DV t[0]&&!DV (t[t.size-1]))):=by
    show _=_;unfold gK;have M:(kC t).getD 0 0=t[0]:=(Lib.getD_at t 0 G).symm;have O:(kC t).getD (t.size-1) 0=t[t.size-1]:=(Lib.getD_at t (t.size-1) u).symm;rw[M,O];simp[J,show 1<=t.size by omega]
   go_enter func168,ntmps168
   go_wp2_with(go_at_call 222;refine(G4 _ _).mono ?_;rintro e Y⟨rfl,rfl⟩)
   all_goals(go_ret;rw[H.out];clear H;refine⟨?_,rfl⟩;simp_all)
  ·go_enter func168,ntmps168;(go_wp2_with fail)
   go_ret;refine⟨?_,rfl⟩;simp[gK,J]
def xZ (t:ByteArray) (b i:Int) (e:Bool) (ht:t.size<=9223372036854775807) (w:World):Sa 103 #[.agg #[.int .u8 1,.string t,Tu b,Tu i,.bool e]] w λx w'=>Uk x (.bool (gK t&&(b==0&&(i==0&&!e))))/\Se w w':=by
 go_enter func103,ntmps103
 go_wp2_with(go_at_call 168;refine(Dw _ ht _).mono ?_;rintro e u⟨rfl,rfl⟩)
 all_goals go_ret
 all_goals(refine⟨by simp_all,?_⟩;repeat(first|exact gt _ _|refine U8 ?_ (ge _) _|refine VL ?_ (by simp) _|refine VF ?_))
def Ck (t:ByteArray) (b i:Int) (e:Bool) (w:World):Sa 103 #[.agg #[.int .u8 3,.string t,Tu b,Tu i,.bool e]] w λx w'=>Uk x (.bool (kq b&&(t.toList==[]&&(i==0&&!e))))/\Se w w':=by
 go_enter func103,ntmps103
 go_wp2_with(go_at_call 169;refine(vh _ _).mono ?_;rintro e u⟨rfl,rfl⟩)
 all_goals go_ret
 all_goals(refine⟨by simp_all,?_⟩;repeat(first|exact gt _ _|refine U8 ?_ (ge _) _|refine VL ?_ (by simp) _|refine VF ?_))
def Cm (t:ByteArray) (b i:Int) (e:Bool) (w:World):Sa 103 #[.agg #[.int .u8 6,.string t,Tu b,Tu i,.bool e]] w λx w'=>Uk x (.bool (kq i&&(t.toList==[]&&b==0)))/\Se w w':=by
 go_enter func103,ntmps103
 go_wp2_with(go_at_call 169;refine(vh _ _).mono ?_;rintro e u⟨rfl,rfl⟩)
 all_goals go_ret
 all_goals(refine⟨by simp_all,?_⟩;repeat(first|exact gt _ _|refine U8 ?_ (ge _) _|refine VL ?_ (by simp) _|refine VF ?_))
def xY (k:Int) (u:k=2\/k=4\/k=5\/k=7) (t:ByteArray) (b i:Int) (e:Bool) (w:World):Sa 103 #[.agg #[.int .u8 k,.string t,Tu b,Tu i,.bool e]] w λx w'=>Uk x (.bool (t.toList==[]&&(b==0&&(i==0&&!e))))/\Se w w':=by
 rcases u with rfl|rfl|rfl|rfl
 all_goals
  go_enter func103,ntmps103;(go_wp2_with fail)
  all_goals go_ret
  all_goals(refine⟨by simp_all,?_⟩;repeat(first|exact gt _ _|refine U8 ?_ (ge _) _|refine VL ?_ (by simp) _|refine VF ?_))
def x8 (k:Int) (u:k≠1) (G:k≠2) (H:k≠3) (I:k≠4) (J:k≠5) (M:k≠6) (O:k≠7) (t:ByteArray) (b i:Int) (e:Bool) (w:World):Sa 103 #[.agg #[.int .u8 k,.string t,Tu b,Tu i,.bool e]] w λx w'=>Uk x (.bool false)/\Se w w':=by
 go_enter func103,ntmps103;(go_wp2_with fail)
 all_goals go_ret
 all_goals(refine⟨by simp_all,?_⟩;repeat(first|exact gt _ _|refine U8 ?_ (ge _) _|refine VL ?_ (by simp) _|refine VF ?_))
def Jm (t:ByteArray):(t.toList==[])=decide (t=bE):=by
 rw[Ty,T8,So,Lib.toList_data];constructor
 ·intro h;exact o6 h
 ·rintro rfl;rfl
def Cn (d:Dc) (ht:d.t.size<=9223372036854775807) (w:World):Sa 103 #[d.v] w λx w'=>Uk x (.bool (rt d))/\Below w.heap.size w w':=by
 obtain⟨k,t,b,i,e⟩:=d
 by_cases H:k=1
 ·subst H
  have u:rt ⟨1,t,b,i,e⟩=(gK t&&(b==0&&(i==0&&!e))):=by
   unfold rt;rw[Or rfl]
   congr 1
   rw[Ty];simp[Dc.mk.injEq]
  rw[u];exact xZ t b i e ht w
 by_cases I:k=3
 ·subst I
  have u:rt ⟨3,t,b,i,e⟩=(kq b&&(t.toList==[]&&(i==0&&!e))):=by
   unfold rt;rw[Eq (by show ¬(3:Int)=1;decide),Or rfl,Jm]
   congr 1
   rw[Ty];simp[Dc.mk.injEq]
  rw[u];exact Ck t b i e w
 by_cases J:k=6
 ·subst J
  have u:rt ⟨6,t,b,i,e⟩=(kq i&&(t.toList==[]&&b==0)):=by
   unfold rt;rw[Eq (by show ¬(6:Int)=1;decide),Eq (by show ¬(6:Int)=3;decide),Or rfl,Jm]
   congr 1
   rw[Ty];simp[Dc.mk.injEq]
  rw[u];exact Cm t b i e w
 by_cases G:k=2\/k=4\/k=5\/k=7
 ·have u:rt ⟨k,t,b,i,e⟩=(t.toList==[]&&(b==0&&(i==0&&!e))):=by
   unfold rt;rw[Eq H,Eq I,Eq J,Or G,Jm];rw[Ty];simp[Dc.mk.injEq]
  rw[u];exact xY k G t b i e w
 ·have u:rt ⟨k,t,b,i,e⟩=false:=by
   unfold rt;rw[Eq H,Eq I,Eq J,Eq G]
  rw[u];simp only[not_or]at G;exact x8 k H G.1 I G.2.1 G.2.2.1 J G.2.2.2 t b i e w
