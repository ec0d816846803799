import Derived.Lib.Bytealg
import Derived.Lib.Strings
import Derived.Defers
import Derived.Shelf.Strings.Builder1
import Derived.Shelf.Strings.Builder2
import Derived.Shelf.Strings.LastIndex
import Derived.Shelf.Strings.Repeat
import Derived.OwnWalk
import Derived.Lib.LaidTab
import Derived.Lib.ItoaWalk
import Derived.Test.YtcmbkeghnmgbfaaGreatDoorM03
set_option linter.all false
set_option maxHeartbeats 1000000
namespace Go.Proofs.YtcmbkeghnmgbfaaGreatDoor.Lw
open Go.Proofs.Tryz
open Lx
variable {p:Int}
theorem Cv {P:UInt8->Prop}(h:∀n:Fin 256,P (UInt8.ofNat n.val)) (c:UInt8):P c:=by
 have:=h ⟨c.toNat,c.toNat_lt⟩
 simpa using this
structure Dc where
 k:Int
 t:ByteArray
 b:Int
 i:Int
 e:Bool
 deriving DecidableEq
def bE:ByteArray:=⟨#[]⟩
def vC (s:ByteArray):List UInt8:=s.data.toList
theorem oE {a b:ByteArray}(h:vC a=vC b):a=b:=by
 cases a;cases b;simp only[vC]at h;rw[L4.1 h]
theorem lr (s:ByteArray):(vC s).length=s.size:=by simp[vC]
def BN (c:UInt8):Bool:=c==32||c==10
def iA (s:ByteArray):Bool:=decide (1<=s.size)&&(decide (s.size<=65535)&&(!BN ((vC s).getD 0 0)&&!BN ((vC s).getD (s.size-1) 0)))
def me (n:Int):Bool:=decide (0<=n)&&decide (n<=1000)
def rt (d:Dc):Bool:=
 if d.k=1 then iA d.t&&decide (d=⟨1,d.t,0,0,false⟩)
 else if d.k=3 then me d.b&&decide (d=⟨3,bE,d.b,0,false⟩)
 else if d.k=6 then me d.i&&decide (d=⟨6,bE,0,d.i,d.e⟩)
 else if d.k=2\/d.k=4\/d.k=5\/d.k=7 then decide (d=⟨d.k,bE,0,0,false⟩)else false
inductive Rt:Dc->Prop
 |text (t:ByteArray) (h:iA t=true):Rt ⟨1,t,0,0,false⟩
 |brk (n:Int) (h:me n=true):Rt ⟨3,bE,n,0,false⟩
 |beg (n:Int) (e:Bool) (h:me n=true):Rt ⟨6,bE,0,n,e⟩
 |blank:Rt ⟨2,bE,0,0,false⟩
 |hard:Rt ⟨4,bE,0,0,false⟩
 |empty:Rt ⟨5,bE,0,0,false⟩
 | «end»:Rt ⟨7,bE,0,0,false⟩
theorem iy {d:Dc}(h:rt d=true):Rt d:=by
 unfold rt at h
 split at h
 ·simp only[Lo,KJ]at h;obtain⟨u,F⟩:=h;rw[F];exact .text _ u
 ·split at h
  ·simp only[Lo,KJ]at h;obtain⟨u,F⟩:=h;rw[F];exact .brk _ u
  ·split at h
   ·simp only[Lo,KJ]at h;obtain⟨u,F⟩:=h;rw[F];exact .beg _ _ u
   ·split at h
    ·rename_i G
     simp only[KJ]at h;obtain⟨k,t,b,i,e⟩:=d;simp only[Dc.mk.injEq,true_and]at h;obtain⟨rfl,rfl,rfl,rfl⟩:=h;simp only at G
     rcases G with rfl|rfl|rfl|rfl
     ·exact .blank
     ·exact .hard
     ·exact .empty
     ·exact .end
    ·cases h
theorem kW {n:Int}(h:me n=true):0<=n/\n<=1000:=by simpa[me]using h
theorem iz {t:ByteArray}(h:iA t=true):1<=t.size/\t.size<=65535:=by
 simp only[iA,Lo,KJ]at h;exact⟨h.1,h.2.1⟩
def cY (k:Int):Int:=if k=6 then 1 else if k=7 then -1 else 0
def cH:Int->Nat->List Dc->Option Nat
 |o,j,[]=>if 0<o then some j else none
 |o,j,d :: r=>if rt d=true/\0<=o+cY d.k then cH (o+cY d.k) (j+1) r else some j
def jS (l:List Dc):Int × Int:=if 2097152<l.length then(2,0)else match cH 0 0 l with|some j=>(70,(j:Int))|none=>(0,0)
theorem oP:∀(l:List Dc) (o:Int) (j:Nat),cH o j l=none->∀d∈l,rt d=true
 |[],_,_,_=>by simp
 |d :: r,o,j,h=>by
  simp only[cH]at h
  split at h
  ·rename_i hc
   intro x u
   rcases KL.1 u with rfl|u
   ·exact hc.1
   ·exact oP r _ _ h x u
  ·cases h
theorem Bt:∀(l:List Dc) (o:Int) (j k:Nat),cH o j l=some k->k<=j+l.length
 |[],o,j,k,h=>by
  simp only[cH]at h
  split at h<;>cases h
  simp
 |d :: r,o,j,k,h=>by
  simp only[cH]at h
  split at h
  ·have:=Bt r _ _ k h;simp;omega
  ·cases h;omega
theorem Hr (l:List Dc):0<=(jS l).1/\(jS l).1<=70/\0<=(jS l).2/\(jS l).2<=2097152:=by
 unfold jS
 split
 ·simp
 ·rename_i F
  cases u:cH 0 0 l with
  |some j=>have:=Bt l 0 0 j u;simp;omega
  |none=>simp
open Go.ChangeShapes Go.WideShapes Go.ChangeAt Go.RowKit
def jk:List (Int × Int × Int):=[(768,879,0),(4352,4447,2),(8203,8207,0),(8400,8447,0),(11904,12350,2),(12353,42191,2),(44032,55203,2),(63744,64255,2),(65024,65039,0),(65056,65071,0),(65072,65135,2),(65280,65376,2),(65504,65510,2),(127744,128591,2),(129280,129535,2),(131072,262141,2)]
def uB (i:Nat):Int:=(jk.getD i (0,0,0)).1
def wJ (i:Nat):Int:=(jk.getD i (0,0,0)).2.1
def Ik (i:Nat):Int:=(jk.getD i (0,0,0)).2.2
def ib (w:World):Prop:=∀i,i<16->w.cell? ⟨5,i*3,none⟩=some (.int .i64 (uB i))/\w.cell? ⟨5,i*3+1,none⟩=some (.int .i64 (wJ i))/\w.cell? ⟨5,i*3+2,none⟩=some (.int .i64 (Ik i))
theorem ib.below {w w':World}(h:ib w) (u:Below w.heap.size w w'):ib w':=by
 intro i J;obtain⟨G,H,I⟩:=h i J;have F:=Kg w _ G;exact⟨(u.cell (p:=⟨5,i*3,none⟩) F).trans G,(u.cell (p:=⟨5,i*3+1,none⟩) F).trans H,(u.cell (p:=⟨5,i*3+2,none⟩) F).trans I⟩
theorem yh:(Rows.laid_colophon_width_spans:DataW Unit)=.agg (jk.map fun x=>.agg [.lit (.int .i64 x.1),.lit (.int .i64 x.2.1),.lit (.int .i64 x.2.2)]):=by kernel_rfl
theorem pW {W:World}{L:List (String × DataW Unit)}(I:(L.all fun x=>x.2.handleName?.isNone)=true) (hm:("colophon/width.spans",Rows.laid_colophon_width_spans)∈L) (h:laidMetH Tryz.prog L W):ib W:=by
 rw[MakeChecks.laidMetH_plain _ _ _ I]at h;obtain⟨ps,J,_,_⟩:=h;obtain⟨g,t,cs,fuel,p,hg,ht,hv,hd⟩:=gi L ps J _ _ hm;obtain rfl:=KH ((show Tryz.prog.globalNamed "colophon/width.spans"=some 5 by kernel_rfl).symm.trans hg);obtain rfl:=KH ((show(Tryz.prog.globals[5]?).map (·.type)=some 331 by kernel_rfl).symm.trans ht);rw[yh]at hd;obtain⟨xs,m,_,ex,_,hl,hel⟩:=DataW.trod_array underlying331 hd;have c3:Tryz.prog.cellsOf 3=1:=by kernel_rfl
 have H:Tryz.prog.cellsOf 330=3:=by kernel_rfl
 intro i hi;have hE:=hel i hi;rw[H,Ke (by omega)]at hE;obtain⟨y0,y1,y2,n,ey,_,M,O,g2⟩:=Deep.trod_struct3 underlying330 hE;simp only[c3]at M O g2;obtain⟨z0,a0,b0,_⟩:=M3 underlying3 M;obtain⟨z1,a1,b1,_⟩:=M3 underlying3 O;obtain⟨z2,a2,b2,_⟩:=M3 underlying3 g2;have aa:jk.length=16:=rfl;have e3:(xs.map (·.1))=jk.map fun x=>(.agg [.lit (.int .i64 x.1),.lit (.int .i64 x.2.1),.lit (.int .i64 x.2.2)]:DataW Unit):=(OI (Pi ex).1).symm
 have F:(xs.map (·.1))[i]?=(jk.map fun x=>(.agg [.lit (.int .i64 x.1),.lit (.int .i64 x.2.1),.lit (.int .i64 x.2.2)]:DataW Unit))[i]?:=by rw[e3]
 rw[Lb,Lb,Ke (by omega:i<xs.length),Ke (by omega:i<jk.length),ey,b0,b1,b2]at F;simp only[Nq,Ky,DataW.agg.injEq,List.cons.injEq,N7,Lit.int.injEq,true_and,and_true]at F;obtain⟨f0,f1,f2⟩:=F;have G:jk.getD i (0,0,0)=jk[i]:=by rw[List.getD,Ke (show i<jk.length by omega)];rfl
 have u:∀(o:Nat) (z:Int),o<3->(((cs.toList.drop (i*3)).take 3).drop o).take 1=[.int .i64 z]->W.cell? ⟨5,i*3+o,none⟩=some (.int .i64 z):=by
  intro o z ho hz;rw[Nr hg hv (i*3+o)];have h0:((((cs.toList.drop (i*3)).take 3).drop o).take 1)[0]?=some (.int .i64 z):=by rw[hz];rfl
  rw[KI,Kd (by omega),KD,KI,Kd (by omega),KD]at h0
  simpa using h0
 refine⟨?_,?_,?_⟩
 ·have:=u 0 z0 (by omega) (by simpa using a0);rw[K0]at this;rw[this,uB,G,f0];rfl
 ·have:=u 1 z1 (by omega) (by simpa using a1);rw[this,wJ,G,f1];rfl
 ·have:=u 2 z2 (by omega) (by simpa using a2);rw[this,Ik,G,f2];rfl
open Go.RowKit
def uz (p:Int):Prop:=(4352<=p/\p<=4447)\/(11904<=p/\p<=12350)\/(12353<=p/\p<=42191)\/(44032<=p/\p<=55203)\/(63744<=p/\p<=64255)\/(65072<=p/\p<=65135)\/(65280<=p/\p<=65376)\/(65504<=p/\p<=65510)\/(127744<=p/\p<=128591)\/(129280<=p/\p<=129535)\/(131072<=p/\p<=262141)
def FC (p:Int):Prop:=(768<=p/\p<=879)\/(8203<=p/\p<=8207)\/(8400<=p/\p<=8447)\/(65024<=p/\p<=65039)\/(65056<=p/\p<=65071)
instance (p:Int):Decidable (uz p):=by unfold uz;infer_instance
instance (p:Int):Decidable (FC p):=by unfold FC;infer_instance
def wd (p:Int):Int:=if uz p then 2 else if FC p then 0 else 1
theorem FE (p:Int):0<=wd p/\wd p<=2:=by unfold wd;split<;>(try split)<;>omega
theorem Gi (h:uz p):wd p=2:=by unfold wd;rw[Kd h]
theorem Gh (h:FC p):wd p=0:=by
 unfold wd;rw[IO (by unfold FC at h;unfold uz;omega),Kd h]
theorem Gj (h:¬uz p) (u:¬FC p):wd p=1:=by unfold wd;rw[IO h,IO u]
theorem Dt (i:Nat) (p:Int) (G:i<16) (u:uB i<=p) (F:p<=wJ i):Ik i=wd p:=by
 rcases i with _|_|_|_|_|_|_|_|_|_|_|_|_|_|_|_|i
 all_goals simp[uB,wJ,Ik,jk,List.getD]at u F ⊢
 all_goals first|exact(Gi (by unfold uz;omega)).symm|exact(Gh (by unfold FC;omega)).symm|omega
theorem Du (p:Int) (h:∀k,k<16->p<uB k\/wJ k<p):wd p=1:=by
 have M:=h 0 (by omega);have O:=h 1 (by omega);have a2:=h 2 (by omega);have a3:=h 3 (by omega);have a4:=h 4 (by omega);have a5:=h 5 (by omega);have a6:=h 6 (by omega);have a7:=h 7 (by omega);have a8:=h 8 (by omega);have a9:=h 9 (by omega);have u:=h 10 (by omega);have F:=h 11 (by omega);have G:=h 12 (by omega);have H:=h 13 (by omega);have I:=h 14 (by omega);have J:=h 15 (by omega);simp only[uB,wJ,jk,List.getD,List.getElem?_cons_zero,Mz,NS]at M O a2 a3 a4 a5 a6 a7 a8 a9 u F G H I J;refine Gj ?_ ?_
 ·unfold uz;omega
 ·unfold FC;omega
theorem Gs (i k:Nat) (u:k<16) (h:i<=k):uB i<=uB k:=by
 have:∀k,k<16->∀i,i<16->i<=k->uB i<=uB k:=by decide +kernel
 exact this k u i (by omega) h
theorem pX (i:Nat) (p:Int) (h:∀k,k<i->wJ k<p) (F:i<16->p<uB i):wd p=1:=by
 refine Du p fun k G=>?_
 by_cases u:k<i
 ·exact .inr (h k u)
 ·have:=F (by omega);have:=Gs i k G (by omega);omega
theorem kg {a b:Int}(h:a=b):Ending.returned (.int .i64 a)=.returned (.int .i64 b):=by rw[h]
theorem GP (p:Int) (w:World) (I:ib w) :
  Kb 248 #[.int .i64 p] w fun e w'=>e=.returned (.int .i64 (wd p))/\w'=w:=by
 go_enter func248,ntmps248
 go_wp2_with fail
 go_loopw [4] (fun i wr=>wr=w/\∃k:Nat,k<=16/\i=.int .i64 k/\∀j,j<k->wJ j<p) (fun i _=>16-(intOf i).toNat)
 case atStart=>exact⟨rfl,0,by omega,rfl,fun j hj=>by omega⟩
 case round=>
  obtain⟨rfl,k,hk,rfl,F⟩:=hrel
  by_cases G:k<16
  ·obtain⟨c0,c1,c2⟩:=I k G;have HA:=ku F;have J:=ku (Dt k p G);have H:Hid (p<uB k->wd p=1):=fun h=>pX k p F (fun _=>h)
   have M:Hid (wJ k<p->∀j,j<k+1->wJ j<p):=fun h j hj=>by
    by_cases e:j=k
    ·subst e;exact h
    ·exact F j (by omega)
   clear F I
   generalize uB k=l at *
   generalize Ik k=c at *
   generalize wJ k=u at *
   by_cases O:p<l
   ·go_wp2_with fail
    go_ret
    exact⟨kg (H.out O).symm,rfl⟩
   ·by_cases h2:p<=u
    ·go_wp2_with fail
     go_ret
     exact⟨kg (J.out (by omega) h2),rfl⟩
    ·go_wp2_with fail
     exact⟨⟨trivial,k+1,by omega,by go_num,M.out (by omega)⟩,by simp[intOf];omega⟩
  ·have H:=ku (pX k p F (fun h=>absurd h G));clear F I
   go_wp2_with fail
   go_ret
   exact⟨kg H.out.symm,rfl⟩
def cl:List Nat->Int
 |[]=>0
 |p :: r=>wd (p:Int)+cl r
theorem Hq (a b:List Nat):cl (a++b)=cl a+cl b:=by
 induction a with
 |nil=>simp[cl]
 |cons x r ih=>simp only[KF,cl,ih];omega
theorem Jd (l:List Nat):0<=cl l/\cl l<=2*l.length:=by
 induction l with
 |nil=>simp[cl]
 |cons x r ih=>
  have:=FE (x:Int);simp only[cl,List.length_cons];omega
def cw (s:ByteArray) (k:Nat):Int:=cl ((DV s).take k)
def tw (s:ByteArray):Int:=cl (DV s)
theorem ET (s:ByteArray) (k:Nat) (h:k<(P s).length):cw s (k+1)=cw s k+wd (dp s (st s k)):=by
 unfold cw;rw[Ai s k h,Hq];simp[cl]
theorem BZ (s:ByteArray) (k:Nat) (h:(P s).length<=k):cw s k=tw s:=by
 unfold cw tw;rw[Ly (by rw[ve];omega)]
theorem F1 (s:ByteArray) (k:Nat):0<=cw s k/\cw s k<=2*s.size:=by
 have h:=Jd ((DV s).take k);have u:=wn s;have F:((DV s).take k).length<=(P s).length:=by rw[Kz,ve];omega
 unfold cw;omega
theorem kK (s:ByteArray):0<=tw s/\tw s<=2*s.size:=by
 rw[<-BZ s _ (ge _)];exact F1 s _
theorem jg (s:ByteArray) (w:World) (I:ib w) (hs:s.size<=8589934592) :
  Kb 190 #[.string s] w fun e w'=>e=.returned (.int .i64 (tw s))/\Below w.heap.size w w':=by
 have hP:=wn s
 go_enter func190,ntmps190
 go_wp2_with fail
 go_loopw [3] (fun n w'=>∃k:Nat,k<=(P s).length/\w'=w.iter s (st s k)/\n=.int .i64 (cw s k)) (fun _ w'=>s.size-w'.iterPos w.heap.size)
 case atStart=>exact⟨0,by omega,rfl,rfl⟩
 case round=>
  obtain⟨k,hk,rfl,rfl⟩:=hrel
  by_cases u:k<(P s).length
  ·have G:=(dm s k).2 u;have hw:=aM s (st s k) G;have aa:=bL s (st s k);have hc:=F1 s k;have ab:=FE (dp s (st s k));have M:Hid (∀pos,ib (w.iter s pos)):=fun pos=>I.below (dy w s pos)
   have J:=ku (cx s k u);have HC:=ku (ET s k u);have H:∀F,(Instr.next (.pointer (some ⟨w.heap.size,0,none⟩)) true F).run Tryz.prog (w.iter s (st s k))=.ok (.tuple #[.bool true,.int .i64 (st s k),.int .i32 (dp s (st s k))]) (w.iter s (st s k+dw s (st s k))):=fun F=>Oh w s (st s k) F G
   clear I
   generalize st s k=i at *
   generalize dw s i=d at *
   generalize O:dp s i=x at *
   generalize cw s k=c at *
   clear O
   go_wp2_with fail
   refine(GP x _ (M.out _)).mono ?_;rintro e w'⟨rfl,rfl⟩
   generalize wd (x:Int)=y at *
   go_wp2_with fail
   exact⟨⟨k+1,u,by rw[J.out],Kw (Value.int .i64) HC.out.symm⟩,by simp;omega⟩
  ·have G:¬st s k<s.size:=by rw[dm];exact u
   have H:∀F,(Instr.next (.pointer (some ⟨w.heap.size,0,none⟩)) true F).run Tryz.prog (w.iter s (st s k))=_:=fun F=>O5 w s (st s k) F G
   have HC:=ku (BZ s k (by omega))
   go_wp2_with fail
   go_ret
   exact⟨kg HC.out,dy _ _ _⟩
open Go.Lib (strCells strCells_length)
end Go.Proofs.YtcmbkeghnmgbfaaGreatDoor.Lw
namespace Go.Proofs.YtcmbkeghnmgbfaaGreatDoor
open Go.Proofs.Tryz
open Lw
open Lx
open Go.RowKit
open Go.Lib (strCells strCells_length)
theorem Fr.tab {i:Nat}{own own':Nat->Nat}{w w':World}(h:Fr i own own' w w') (I:ib w) (u:own 5≠i):ib w':=by
 intro j J;obtain⟨F,G,H⟩:=I j J;exact⟨h.cell F u,h.cell G u,h.cell H u⟩
end Go.Proofs.YtcmbkeghnmgbfaaGreatDoor
namespace Go.Proofs.YtcmbkeghnmgbfaaGreatDoor.Lw
open Go.Proofs.Tryz
open Lx
open Go.RowKit
open Go.Lib (strCells strCells_length)
variable {w:World}{a:Addr}{l:List Dc}
theorem Tryz.info5:(Tryz.prog.info? 5).map (fun i=>(i.zero,i.size,i.bytes))=some (some (.int .u8 0),1,1):=by kernel_rfl
theorem Tryz.info300:(Tryz.prog.info? 300).map (fun i=>(i.zero,i.size,i.bytes))=some (some (.agg #[.int .i64 0,.int .i64 0]),2,16):=by kernel_rfl
def eg (x:Nat × Nat):List Value:=[.int .i64 x.1,.int .i64 x.2]
theorem BL (x:Nat × Nat):(eg x).length=2:=rfl
theorem E8 (c:Nat) (v:Value) (n:Nat) (xs:List Value) (t:ByteArray) (w:World) (hc:w.heap[c]?=some (.cells #[v] 52 (0,0))) (ho:w.ownsRow 0 5 1 v n xs) (hn:n+t.size<=70368744177664) :
  Kb 288 #[.string t,.pointer (some ⟨c,0,none⟩)] w fun e w'=>e=.returned (.tuple #[])/\∃v',w'.heap[c]?=some (.cells #[v'] 52 (0,0))/\w'.ownsRow 0 5 1 v' (n+t.size) (xs++strCells t)/\(v'.ownBlock=v.ownBlock\/v'.ownBlock=some w.heap.size)/\Kp (fun k=>k=c\/some k=v.ownBlock) w w':=by
 obtain⟨i0,hi,ac,ad,ae⟩:=LJ Tryz.info5;have O:=aE ho hc (by decide);have af:=ai hc;have c0:w.cell? ⟨c,0,none⟩=some v:=aa hc rfl;obtain⟨p,cap,rfl,_,_⟩:=az ho
 go_enter func288,ntmps288
 go_wp2_with(first|(at_builtin;refine bz (P:=Tryz.prog) (w:=w) rfl _ _ 52 9 rfl 0 5 i0 underlying52 underlying9 hi ac ad ae _ _ _ rfl ho t rfl ?c3 ?c4 ?c5 ?_))
 case c3=>unfold maxLen;omega
 case c4=>omega
 case c5=>omega
 intro v2 w2 G M J;have hk:=Kp.of_grown M;have F:w2.heap[c]?=some (.cells #[.slice p n cap] 52 (0,0)):=hk.blk hc (fun h=>O h.symm);have d0:w2.cell? ⟨c,0,none⟩=some (.slice p n cap):=aa F rfl;have f0:w2.frozen? ⟨c,0,none⟩=false:=aj F;have H:=aE G F (by decide);obtain⟨I,u,rfl,_,_⟩:=az G
 have HE:Hid ((w2.setCell ⟨c,0,none⟩ (.slice I (n+t.size) u)).heap[c]?=some (.cells #[.slice I (n+t.size) u] 52 (0,0))/\(w2.setCell ⟨c,0,none⟩ (.slice I (n+t.size) u)).ownsRow 0 5 1 (.slice I (n+t.size) u) (n+t.size) (xs++strCells t)/\((Value.slice I (n+t.size) u).ownBlock=(Value.slice p n cap).ownBlock\/(Value.slice I (n+t.size) u).ownBlock=some w.heap.size)/\Kp (fun k=>k=c\/some k=(Value.slice p n cap).ownBlock) w (w2.setCell ⟨c,0,none⟩ (.slice I (n+t.size) u))):=by
  refine⟨ab F 0 _,(Kp.set w2 c 0 _).row G (fun k h1 h2=>H (by rw[h1,h2])),J,?_⟩;exact(Kp.step (S:=fun k=>k=c\/some k=(Value.slice p n cap).ownBlock) (Kp.refl _ _) hk (fun j _ h=>.inr h)).step (Kp.set w2 c 0 _) (fun j _ h=>.inl h)
 clear hk M G J O H F
 go_wp2_with fail
 go_end0
 exact⟨rfl,_,HE.out⟩
theorem E9 (m:Int) (d c:Nat) (w:World) (u:m<=0) :
  Kb 287 #[.int .i64 m,.pointer (some ⟨d,0,none⟩),.pointer (some ⟨c,0,none⟩)] w fun e w'=>e=.returned (.tuple #[])/\w'=w:=by
 have q:decide (0<m)=false:=by simp;omega
 go_enter func287,ntmps287
 go_wp2_with fail
 go_end0
 exact⟨rfl,rfl⟩
theorem nN (W:World) (a b:Value) (t n:Nat) (h:n=W.heap.size):∀j u,[a,b][j]?=some u->(W.alloc (.cells #[a,b] t)).cell? ((⟨n,0,none⟩:Addr).add j)=some u:=by
 subst h;intro j u F
 match j,F with
 |0,F=>simp at F;subst F;simp[Addr.add]
 |1,F=>simp at F;subst F;simp[Addr.add]
theorem yL (m:Nat) (d c:Nat) (v:Value) (tv:Value) (n l:Nat) (xs:List Value) (w:World) (hc:w.heap[c]?=some (.cells #[tv] 52 (0,0))) (ae:∃p cap,tv=.slice p l cap) (hd:w.heap[d]?=some (.cells #[v] 209 (0,0))) (ho:w.ownsRow 0 300 2 v n xs) (hn:n<=8589934592) (hm:0<m) (am:m<=9223372036854775807) (hl:l<=9223372036854775807) :
  Kb 287 #[.int .i64 m,.pointer (some ⟨d,0,none⟩),.pointer (some ⟨c,0,none⟩)] w fun e w'=>e=.returned (.tuple #[])/\∃v',w'.heap[d]?=some (.cells #[v'] 209 (0,0))/\w'.ownsRow 0 300 2 v' (n+1) (xs++eg (l,m))/\(v'.ownBlock=v.ownBlock\/∃b,w.heap.size<=b/\v'.ownBlock=some b)/\Kp (fun k=>k=d\/some k=v.ownBlock) w w':=by
 obtain⟨i0,hi,af,ag,ah⟩:=LJ Tryz.info300;have q:decide (0<(m:Int))=true:=by simp;omega
 have ad:=aE ho hd (by decide);have cz:=ai hd;have c0:w.cell? ⟨c,0,none⟩=some tv:=aa hc rfl;have d0:w.cell? ⟨d,0,none⟩=some v:=aa hd rfl;have al:=ai hc;obtain⟨tp,ak,rfl⟩:=ae;obtain⟨p,cap,rfl,_,_⟩:=az ho
 go_enter func287,ntmps287
 go_wp2_with(first|(at_builtin;refine L7 (P:=Tryz.prog) (w:=w.alloc (.cells #[.int .i64 l,.int .i64 m] 300)) rfl _ _ 209 rfl 0 300 i0 (.agg #[.int .i64 0,.int .i64 0]) 2 16 underlying209 hi af ag ah rfl (by decide) _ _ _ rfl (bi ho ((gt _ _).alloc (ge _) _)) ⟨w.heap.size,0,none⟩ 1 1 (eg (l,m)) rfl rfl ?c1 ?c2 ?c3 ?c4 ?c5 ?_))
 case c1=>exact nN _ _ _ _ _ rfl
 case c2=>intro u hu;simp[eg]at hu;rcases hu with rfl|rfl<;>rfl
 case c3=>unfold maxLen;omega
 case c4=>omega
 case c5=>omega
 intro v2 w2 H M _ O;have hk:=Kp.step (S:=fun k=>k=d\/some k=(Value.slice p n cap).ownBlock) ((Kp.refl _ _).alloc (.cells #[.int .i64 l,.int .i64 m] 300)) (Kp.of_grown M) (fun j _ h=>.inr h);have ac:=Kp.step (S:=fun k=>some k=(Value.slice p n cap).ownBlock) ((Kp.refl _ _).alloc (.cells #[.int .i64 l,.int .i64 m] 300)) (Kp.of_grown M) (fun j _ h=>h);have G:w2.heap[d]?=some (.cells #[.slice p n cap] 209 (0,0)):=ac.blk hd (fun h=>ad h.symm);have e0:w2.cell? ⟨d,0,none⟩=some (.slice p n cap):=aa G rfl;have f0:w2.frozen? ⟨d,0,none⟩=false:=aj G;have I:=aE H G (by decide);obtain⟨J,F,rfl,_,_⟩:=az H
 have HE:Hid ((w2.setCell ⟨d,0,none⟩ (.slice J (n+1) F)).heap[d]?=some (.cells #[.slice J (n+1) F] 209 (0,0))/\(w2.setCell ⟨d,0,none⟩ (.slice J (n+1) F)).ownsRow 0 300 2 (.slice J (n+1) F) (n+1) (xs++eg (l,m))/\((Value.slice J (n+1) F).ownBlock=(Value.slice p n cap).ownBlock\/∃b,w.heap.size<=b/\(Value.slice J (n+1) F).ownBlock=some b)/\Kp (fun k=>k=d\/some k=(Value.slice p n cap).ownBlock) w (w2.setCell ⟨d,0,none⟩ (.slice J (n+1) F))):=by
  refine⟨ab G 0 _,(Kp.set w2 d 0 _).row H (fun k h1 h2=>I (by rw[h1,h2])),?_,?_⟩
  ·rcases O with h|h
   ·exact .inl h
   ·exact .inr ⟨_,by have:=Eq w (.cells #[.int .i64 l,.int .i64 m] 300);omega,h⟩
  ·exact hk.step (Kp.set w2 d 0 _) (fun j _ h=>.inl h)
 clear hk ac M H O ad I G
 go_wp2_with fail
 go_end0
 exact⟨rfl,_,HE.out⟩
def sk (b:Bool) (col wait:Int) (tv gv:Value):Array Value:=#[.bool b,.int .i64 col,.int .i64 wait,tv,gv]
theorem fG (w:World) (o:Obj) (g:Nat) (x:Obj) (h:w.heap[g]?=some x):(w.alloc o).heap[g]?=some x:=(((gt _ w).alloc (ge _) o).block g (ai h)).trans h
theorem iS {v:Value}(h:w.cell? a=some v):∀o,(w.alloc o).cell? a=some v:=fun o=>(((gt _ w).alloc (ge _) o).cell (Kg w a h)).trans h
theorem pe {v:Value}(h:w.cell? a=some v):∀o p,((w.alloc o).alloc p).cell? a=some v:=fun o p=>iS (iS h o) p
theorem vZ {v:Value}(h:w.cell? a=some v):∀o p q,(((w.alloc o).alloc p).alloc q).cell? a=some v:=fun o p q=>iS (pe h o p) q
theorem Ho (u:FrameMode) (b b':Bool) (col M G F:Int) (c d h g:Nat) (tv gv J I:Value) (w:World)
  (H:w.heap[g]?=some (.cells (sk b col M tv gv) 211 (0,0))) (hc:w.heap[c]?=some (.cells #[J] 52 (0,0))) (hd:w.heap[d]?=some (.cells #[I] 209 (0,0))) (hh:w.heap[h]?=some (.cells #[.pointer (some ⟨g,0,none⟩)] 114 (0,0)))
  (ae:∃p n cap,tv=.slice p n cap) (ad:∃p n cap,gv=.slice p n cap) (ac:∃p n cap,J=.slice p n cap) (O:∃p n cap,I=.slice p n cap) :
  CallsD Tryz.prog 289 #[.agg #[.bool b',.int .i64 G,.int .i64 F],.pointer (some ⟨c,0,none⟩),.pointer (some ⟨d,0,none⟩),.pointer (some ⟨h,0,none⟩)] u w fun e u' w'=>u'=u/\(e=.returned (.tuple #[])/\w'.heap[g]?=some (.cells (sk b' G F J I) 211 (0,0))/\Kp (fun k=>k=g) w w'):=by
 have gl:=ai H;have cl:=ai hc;have dl:=ai hd;have hl:=ai hh;have g0:w.cell? ⟨g,0,none⟩=some (.bool b):=aa H rfl;have g1:w.cell? ⟨g,1,none⟩=some (.int .i64 col):=aa H rfl;have g2:w.cell? ⟨g,2,none⟩=some (.int .i64 M):=aa H rfl;have g3:w.cell? ⟨g,3,none⟩=some tv:=aa H rfl;have g4:w.cell? ⟨g,4,none⟩=some gv:=aa H rfl;have f0:w.frozen? ⟨g,0,none⟩=false:=aj H;have f1:w.frozen? ⟨g,1,none⟩=false:=aj H;have f2:w.frozen? ⟨g,2,none⟩=false:=aj H;have f3:w.frozen? ⟨g,3,none⟩=false:=aj H;have f4:w.frozen? ⟨g,4,none⟩=false:=aj H;have c0:w.cell? ⟨c,0,none⟩=some J:=aa hc rfl;have d0:w.cell? ⟨d,0,none⟩=some I:=aa hd rfl;have h0:w.cell? ⟨h,0,none⟩=some (.pointer (some ⟨g,0,none⟩)):=aa hh rfl;obtain⟨p1,n1,k1,rfl⟩:=ae;obtain⟨p2,n2,k2,rfl⟩:=ad;obtain⟨p3,n3,k3,rfl⟩:=ac;obtain⟨p4,n4,k4,rfl⟩:=O
 go_enter_d func289,ntmps289
 go_wp2_with fail
 go_region
 go_wp2_with fail
 go_end0
 refine⟨rfl,?_,?_⟩
 ·refine(fG _ _ _ _ ?_);exact ab (ab (ab (ab (ab H 3 _) 4 _) 0 _) 1 _) 2 _
 ·refine Kp.same (W:=(((((w.setCell ⟨g,3,none⟩ (.slice p3 n3 k3)).setCell ⟨g,4,none⟩ (.slice p4 n4 k4)).setCell ⟨g,0,none⟩ (.bool b')).setCell ⟨g,1,none⟩ (.int .i64 G)).setCell ⟨g,2,none⟩ (.int .i64 F)).alloc (.cells #[.bool b',.int .i64 G,.int .i64 F] 208)) ?_ rfl rfl rfl rfl;refine Kp.alloc ?_ _;exact(((((Kp.refl _ w).trans (Kp.set _ _ _ _)).trans (Kp.set _ _ _ _)).trans (Kp.set _ _ _ _)).trans (Kp.set _ _ _ _)).trans (Kp.set _ _ _ _)
open Go.RowKit Go.Shelf
def Tryz.lays169_ren:Go.Shelf.Ren:=⟨fun|169=>214|n=>n,fun|70=>296|9=>9|0=>0|72=>298|37=>52|127=>280|3=>3|5=>5|n=>n,fun|n=>n⟩
theorem Tryz.lays169:Go.Proofs.Lays.n169 Tryz.prog Tryz.lays169_ren:={
 mixed:=by kernel_rfl
 f169:=func214.trans (Kw some (by kernel_rfl))
 t0:=underlying0
 a0:=N9
 z0:=NO
 v0:=MJ
 t3:=underlying3
 a3:=Ng
 z3:=MK
 v3:=Mc
 t9:=underlying9
 a9:=Nh
 z9:=MM
 v9:=Md
 t37:=underlying52
 a37:=O6
 z37:=OK
 v37:=NT
 t70:=underlying296
 a70:=Tryz.isAgg296
 z70:=Tryz.sizeOf296
 v70:=OG
 t72:=underlying298
 a72:=Tryz.isAgg298
 z72:=Tryz.sizeOf298
 v72:=OH
 t127:=underlying280
 a127:=Tryz.isAgg280
 z127:=Tryz.sizeOf280
 v127:=OE }
theorem Tryz.Builder_Extra_169:Builder.Extra Tryz.prog Tryz.lays169_ren:={
 sizeBuilder:=by kernel_rfl
 liesBuilder:=by kernel_rfl
 t5:=underlying5
 a5:=ML
 z5:=Mx
 v5:=L0
 infoByte:=by kernel_rfl
 cellsByte:=by kernel_rfl
 sizeByte:=by kernel_rfl
 neB5:=by decide }
def Tryz.lays165_ren:Go.Shelf.Ren:=⟨fun|165=>209|240=>267|241=>268|276=>292|277=>293|n=>n,fun|70=>296|3=>3|0=>0|4=>4|9=>9|20=>20|72=>298|37=>52|164=>95|5=>5|n=>n,fun|n=>n⟩
theorem Tryz.lays165:Go.Proofs.Lays.n165 Tryz.prog Tryz.lays165_ren:={
 mixed:=by kernel_rfl
 f165:=func209.trans (Kw some (by kernel_rfl))
 f240:=func267.trans (Kw some (by kernel_rfl))
 f241:=func268.trans (Kw some (by kernel_rfl))
 f276:=func292.trans (Kw some (by kernel_rfl))
 f277:=func293.trans (Kw some (by kernel_rfl))
 t0:=underlying0
 a0:=N9
 z0:=NO
 v0:=MJ
 t3:=underlying3
 a3:=Ng
 z3:=MK
 v3:=Mc
 t4:=underlying4
 a4:=NG
 z4:=Nk
 v4:=Mt
 t9:=underlying9
 a9:=Nh
 z9:=MM
 v9:=Md
 t20:=underlying20
 a20:=Tryz.isAgg20
 z20:=Tryz.sizeOf20
 v20:=Tryz.zeroValue20
 t37:=underlying52
 a37:=O6
 z37:=OK
 v37:=NT
 t70:=underlying296
 a70:=Tryz.isAgg296
 z70:=Tryz.sizeOf296
 v70:=OG
 t72:=underlying298
 a72:=Tryz.isAgg298
 z72:=Tryz.sizeOf298
 v72:=OH
 t164:=underlying95
 a164:=Tryz.isAgg95
 z164:=Tryz.sizeOf95
 v164:=Tryz.zeroValue95 }
theorem Tryz.Builder_Extra_165:Builder.Extra Tryz.prog Tryz.lays165_ren:={
 sizeBuilder:=by kernel_rfl
 liesBuilder:=by kernel_rfl
 t5:=underlying5
 a5:=ML
 z5:=Mx
 v5:=L0
 infoByte:=by kernel_rfl
 cellsByte:=by kernel_rfl
 sizeByte:=by kernel_rfl
 neB5:=by decide }
def Tryz.lays148_ren:Go.Shelf.Ren:=⟨fun|148=>290|222=>303|223=>304|269=>308|n=>n,fun|9=>9|3=>3|4=>4|5=>5|146=>325|51=>324|46=>283|n=>n,fun|n=>n⟩
theorem Tryz.lays148:Go.Proofs.Lays.n148 Tryz.prog Tryz.lays148_ren:={
 mixed:=by kernel_rfl
 f148:=func290.trans (Kw some (by kernel_rfl))
 f222:=func303.trans (Kw some (by kernel_rfl))
 f223:=func304.trans (Kw some (by kernel_rfl))
 f269:=func308.trans (Kw some (by kernel_rfl))
 t3:=underlying3
 a3:=Ng
 z3:=MK
 v3:=Mc
 t4:=underlying4
 a4:=NG
 z4:=Nk
 v4:=Mt
 t5:=underlying5
 a5:=ML
 z5:=Mx
 v5:=L0
 t9:=underlying9
 a9:=Nh
 z9:=MM
 v9:=Md
 t46:=underlying283
 a46:=OJ
 z46:=Oz
 v46:=NI
 t51:=underlying324
 a51:=Tryz.isAgg324
 z51:=Tryz.sizeOf324
 v51:=Tryz.zeroValue324
 t146:=underlying325
 a146:=Tryz.isAgg325
 z146:=Tryz.sizeOf325
 v146:=Tryz.zeroValue325 }
open Go.RowKit Go.Lib in
def Tryz.lays105_ren:Go.Shelf.Ren:=⟨fun|105=>213|212=>269|99=>147|165=>209|166=>212|170=>270|169=>214|263=>294|264=>295|206=>183|240=>267|241=>268|276=>292|277=>293|n=>n,fun|9=>9|3=>3|4=>4|20=>20|0=>0|46=>283|109=>321|5=>5|72=>298|76=>301|51=>324|146=>325|53=>335|148=>336|70=>296|37=>52|75=>25|127=>280|164=>95|80=>200|n=>n,fun|n=>n⟩
theorem Tryz.lays105:Go.Proofs.Lays.n105 Tryz.prog Tryz.lays105_ren:={
 mixed:=by kernel_rfl
 f99:=func147.trans (Kw some (by kernel_rfl))
 f105:=func213.trans (Kw some (by kernel_rfl))
 f165:=func209.trans (Kw some (by kernel_rfl))
 f166:=func212.trans (Kw some (by kernel_rfl))
 f169:=func214.trans (Kw some (by kernel_rfl))
 f170:=func270.trans (Kw some (by kernel_rfl))
 f206:=func183.trans (Kw some (by kernel_rfl))
 f212:=func269.trans (Kw some (by kernel_rfl))
 f240:=func267.trans (Kw some (by kernel_rfl))
 f241:=func268.trans (Kw some (by kernel_rfl))
 f263:=func294.trans (Kw some (by kernel_rfl))
 f264:=func295.trans (Kw some (by kernel_rfl))
 f276:=func292.trans (Kw some (by kernel_rfl))
 f277:=func293.trans (Kw some (by kernel_rfl))
 t0:=underlying0
 a0:=N9
 z0:=NO
 v0:=MJ
 t3:=underlying3
 a3:=Ng
 z3:=MK
 v3:=Mc
 t4:=underlying4
 a4:=NG
 z4:=Nk
 v4:=Mt
 t5:=underlying5
 a5:=ML
 z5:=Mx
 v5:=L0
 t9:=underlying9
 a9:=Nh
 z9:=MM
 v9:=Md
 t20:=underlying20
 a20:=Tryz.isAgg20
 z20:=Tryz.sizeOf20
 v20:=Tryz.zeroValue20
 t37:=underlying52
 a37:=O6
 z37:=OK
 v37:=NT
 t46:=underlying283
 a46:=OJ
 z46:=Oz
 v46:=NI
 t51:=underlying324
 a51:=Tryz.isAgg324
 z51:=Tryz.sizeOf324
 v51:=Tryz.zeroValue324
 t53:=underlying335
 a53:=Tryz.isAgg335
 z53:=Tryz.sizeOf335
 v53:=Tryz.zeroValue335
 t70:=underlying296
 a70:=Tryz.isAgg296
 z70:=Tryz.sizeOf296
 v70:=OG
 t72:=underlying298
 a72:=Tryz.isAgg298
 z72:=Tryz.sizeOf298
 v72:=OH
 t75:=underlying25
 a75:=Tryz.isAgg25
 z75:=Tryz.sizeOf25
 v75:=Tryz.zeroValue25
 t76:=underlying301
 a76:=Tryz.isAgg301
 z76:=Tryz.sizeOf301
 v76:=Tryz.zeroValue301
 t109:=underlying321
 a109:=Tryz.isAgg321
 z109:=Tryz.sizeOf321
 v109:=Tryz.zeroValue321
 t127:=underlying280
 a127:=Tryz.isAgg280
 z127:=Tryz.sizeOf280
 v127:=OE
 t146:=underlying325
 a146:=Tryz.isAgg325
 z146:=Tryz.sizeOf325
 v146:=Tryz.zeroValue325
 t148:=underlying336
 a148:=Tryz.isAgg336
 z148:=Tryz.sizeOf336
 v148:=Tryz.zeroValue336
 t164:=underlying95
 a164:=Tryz.isAgg95
 z164:=Tryz.sizeOf95
 v164:=Tryz.zeroValue95 }
theorem Tryz.Builder_Extra_105:Builder.Extra Tryz.prog Tryz.lays105_ren:={
 sizeBuilder:=by kernel_rfl
 liesBuilder:=by kernel_rfl
 t5:=underlying5
 a5:=ML
 z5:=Mx
 v5:=L0
 infoByte:=by kernel_rfl
 cellsByte:=by kernel_rfl
 sizeByte:=by kernel_rfl
 neB5:=by decide }
open Go.RowKit Go.Lib in
theorem Jg (B b n:Nat) (w:World) (G:B<=b) (F:w.heap[b]?=some (.cells #[.pointer none,.slice none 0 0] 298 (0,0))) (u:B<=w.heap.size) (H:n<=281474976710656) :
  Kb 209 #[.pointer (some ⟨b,0,none⟩),.int .i64 n] w fun e w'=>e=.returned (.tuple #[])/\(Lib.BuilderAt 298 5 B b (.pointer (some ⟨b,0,none⟩)) [] w'/\Below B w w'):=Any.Builder_Grow_fresh Tryz.lays165 Tryz.Builder_Extra_165 B b n w G F u H
theorem Fh (B b:Nat) (l:List UInt8) (w:World) (h:Lib.IsBuilder 298 5 B b (Lib.byteCells l) w) (u:B<=w.heap.size) :
  Kb 214 #[.pointer (some ⟨b,0,none⟩)] w fun e w'=>e=.returned (.string ⟨l.toArray⟩)/\Below B w w':=Any.Builder_String_any Tryz.lays169 Tryz.Builder_Extra_169 B b l w h u
theorem GX (s sub:ByteArray) (u:sub.size=1) (F:s.size<4611686018427387904) (w:World) :
  Kb 290 #[.string s,.string sub] w fun e w'=>e=.returned (.int .i64 (Lib.lastIndexByte s ((sub[0]'(by omega)).toNat:Int)))/\w'=w:=Any.strings_LastIndex_one Tryz.lays148 s sub u F w
theorem sV (s:ByteArray) (c:Nat) (w:World) (hc:c<=9223372036854775807) (u:s.size*c<=140737488355328) :
  Kb 213 #[.string s,.int .i64 c] w fun e w'=>e=.returned (.string ⟨(Lib.repeatL s.data.toList c).toArray⟩)/\Kc w w':=Any.strings_Repeat Tryz.lays105 Tryz.Builder_Extra_105 s c w hc u
theorem Hy (b:Nat) (w:World) (u:w.cell? ⟨b,0,none⟩=some (.pointer (some ⟨b,0,none⟩))) :
  Kb 267 #[.pointer (some ⟨b,0,none⟩)] w fun e w'=>e=.returned (.tuple #[])/\w'=w:=Any.Builder_copyCheck_used (P:=Tryz.prog) (ρ:=Tryz.lays105_ren) { Tryz.lays105 with } Tryz.Builder_Extra_105.toX72 b w u
theorem FH (w:World) (A C D:Obj):(((w.alloc A).alloc C).alloc D).heap[w.heap.size]?=some A/\(((w.alloc A).alloc C).alloc D).heap[w.heap.size+1]?=some C/\(((w.alloc A).alloc C).alloc D).heap[w.heap.size+1+1]?=some D/\Below w.heap.size w (((w.alloc A).alloc C).alloc D):=by
 have u:(w.alloc A).heap.size=w.heap.size+1:=Eq w A;have F:((w.alloc A).alloc C).heap.size=w.heap.size+1+1:=by rw[Eq,u]
 refine⟨fG _ _ _ _ (fG _ _ _ _ (am _ _)),fG _ _ _ _ ?_,?_,(((gt _ w).alloc (ge _) A).alloc (by omega) C).alloc (by omega) D⟩
 ·rw[<-u];exact am _ _
 ·rw[<-F];exact am _ _
theorem lE (g:Nat) (b:Bool) (col u:Int) (tv gv:Value) (w:World) (O:w.heap[g]?=some (.cells (sk b col u tv gv) 211 (0,0))) (ac:∃p n cap,tv=.slice p n cap) (ab:∃p n cap,gv=.slice p n cap) :
  Kb 258 #[.pointer (some ⟨g,0,none⟩)] w fun e w'=>∃c d h,e=.returned (.tuple #[.func (.func 287) #[] #[.pointer (some ⟨d,0,none⟩),.pointer (some ⟨c,0,none⟩)],.func (.func 288) #[] #[.pointer (some ⟨c,0,none⟩)],.func (.func 289) #[] #[.pointer (some ⟨c,0,none⟩),.pointer (some ⟨d,0,none⟩),.pointer (some ⟨h,0,none⟩)]]) /\
   (w'.heap[c]?=some (.cells #[tv] 52 (0,0))/\w'.heap[d]?=some (.cells #[gv] 209 (0,0))/\w'.heap[h]?=some (.cells #[.pointer (some ⟨g,0,none⟩)] 114 (0,0))/\w.heap.size<=c/\w.heap.size<=d/\w.heap.size<=h)/\Kc w w':=by
 have gl:=ai O;have I:w.cell? ⟨g,3,none⟩=some tv:=aa O rfl;have J:w.cell? ⟨g,4,none⟩=some gv:=aa O rfl;obtain⟨p1,n1,k1,rfl⟩:=ac;obtain⟨p2,n2,k2,rfl⟩:=ab;have a1:=iS I;have a2:=pe I;have a3:=vZ I;have b1:=iS J;have b2:=pe J;have b3:=vZ J;have ad:=mkfn
 go_enter func258,ntmps258
 go_wp2_with fail
 go_region
 all_goals go_wp2_with fail
 ·go_ret3
  obtain⟨F,G,H,M⟩:=FH w (.cells #[.pointer (some ⟨g,0,none⟩)] 114) (.cells #[.slice p1 n1 k1] 52) (.cells #[.slice p2 n2 k2] 209);exact⟨w.heap.size+1,w.heap.size+1+1,w.heap.size,rfl,⟨G,H,F,by omega,by omega,by omega⟩,M.drew⟩
 ·go_ret3
  obtain⟨F,G,H,M⟩:=FH w (.cells #[.pointer (some ⟨g,0,none⟩)] 114) (.cells #[.slice p2 n2 k2] 209) (.cells #[.slice p1 n1 k1] 52);exact⟨w.heap.size+1+1,w.heap.size+1,w.heap.size,rfl,⟨H,G,F,by omega,by omega,by omega⟩,M.drew⟩
def lf (t:ByteArray):Int:=Lib.lastIndexByte t 10
theorem FU (t:ByteArray):-1<=lf t/\lf t<t.size:=by
 have:=Lib.lastIdx_spec t 10 t.size;unfold lf Lib.lastIndexByte
 rcases this with⟨h,_⟩|⟨i,u,h,_⟩
 ·rw[h];omega
 ·rw[h];omega
def CM (t:ByteArray):ByteArray:=t.extract (lf t+1).toNat t.size
def iG (col wait:Int) (t:ByteArray):Int:=if lf t<0 then col+wait+tw t else tw (CM t)
theorem qY (s:ByteArray) (u:s.size<4611686018427387904) (w:World) :
  Kb 290 #[.string s,.string ⟨#[10]⟩] w fun e w'=>e=.returned (.int .i64 (lf s))/\w'=w:=GX s ⟨#[10]⟩ rfl u w
theorem oA (w:World):Kb 83 #[] w fun e w'=>e=.returned (.pointer (some ⟨w.heap.size,0,none⟩))/\w'=w.alloc (.cells (sk false 0 0 (.slice none 0 0) (.slice none 0 0)) 211):=by
 go_enter func83,ntmps83
 go_wp2_with fail
 go_ret
 exact⟨rfl,rfl⟩
theorem ue (g:Nat) (b:Bool) (col u:Int) (tv gv:Value) (w:World) (F:w.heap[g]?=some (.cells (sk b col u tv gv) 211 (0,0))) (I:0<=col) (J:col<=1152921504606846976) (M:0<=u) (O:u<=1152921504606846976) :
  Kb 256 #[.pointer (some ⟨g,0,none⟩)] w fun e w'=>e=.returned (.int .i64 (col+u))/\Kc w w':=by
 have G:w.cell? ⟨g,1,none⟩=some (.int .i64 col):=aa F rfl;have H:w.cell? ⟨g,2,none⟩=some (.int .i64 u):=aa F rfl
 go_enter func256,ntmps256
 go_wp2_with fail
 go_quiet (fail)
 go_wp2_with fail
 go_ret
 exact⟨rfl,below_drewN (gt _ w) nq⟩
theorem yq (g:Nat) (b:Bool) (col u:Int) (tv gv:Value) (w:World) (F:w.heap[g]?=some (.cells (sk b col u tv gv) 211 (0,0))) :
  Kb 257 #[.pointer (some ⟨g,0,none⟩)] w fun e w'=>e=.returned (.bool (!b))/\w'=w:=by
 have G:w.cell? ⟨g,0,none⟩=some (.bool b):=aa F rfl
 go_enter func257,ntmps257
 go_wp2_with fail
 go_ret
 exact⟨rfl,rfl⟩
theorem uk (g:Nat) (b:Bool) (col u n:Int) (tv gv:Value) (w:World) (F:w.heap[g]?=some (.cells (sk b col u tv gv) 211 (0,0))) (I:0<=n) (J:n<=1048576) (M:0<=u) (O:u<=1152921504606846976) :
  Kb 260 #[.pointer (some ⟨g,0,none⟩),.int .i64 n] w fun e w'=>e=.returned (.int .i64 0)/\w'=w.setCell ⟨g,2,none⟩ (.int .i64 (u+n)):=by
 have q1:decide (n<0)=false:=by simp;omega
 have q2:decide (1048576<n)=false:=by simp;omega
 have q3:¬(1048576<n):=by omega
 have q4:¬(n<0):=by omega
 have H:w.cell? ⟨g,2,none⟩=some (.int .i64 u):=aa F rfl;have G:w.frozen? ⟨g,2,none⟩=false:=aj F
 go_enter func260,ntmps260
 go_wp2_with fail
 go_ret
 exact⟨rfl,rfl⟩
section
variable {β:Type} (enc:β->List Value) (sz:Nat)
variable (hsz:∀x,(enc x).length=sz)
include hsz
end
def Dc.v (d:Dc):Value:=.agg #[.int .u8 d.k,.string d.t,.int .i64 d.b,.int .i64 d.i,.bool d.e]
def Dc.cs (d:Dc):List Value:=[.int .u8 d.k,.string d.t,.int .i64 d.b,.int .i64 d.i,.bool d.e]
theorem Dc.cs_len (d:Dc):d.cs.length=5:=rfl
theorem Dc.cs_one (d:Dc):∀u∈d.cs,u.oneCell'=true:=by
 intro u F;simp only[Dc.cs,KL,M7,or_false]at F
 rcases F with rfl|rfl|rfl|rfl|rfl<;>rfl
def bD (l:List Dc):List Value:=au Dc.cs l
theorem aQ (l:List Dc):(bD l).length=l.length*5:=bo Dc.cs 5 Dc.cs_len l
theorem bO (l:List Dc):∀u∈bD l,u.oneCell'=true:=by
 intro u F;obtain⟨d,_,h⟩:=M8.1 F;exact d.cs_one u h
def Lay (w:World) (ao:Option Addr) (l:List Dc):Prop:=∀j d,l[j]?=some d->d.t.size<=9223372036854775807/\∃b off,ao=some ⟨b,off,none⟩ /\
 w.cell? ⟨b,off+j*5,none⟩=some (.int .u8 d.k)/\w.cell? ⟨b,off+j*5+1,none⟩=some (.string d.t)/\w.cell? ⟨b,off+j*5+2,none⟩=some (.int .i64 d.b)/\w.cell? ⟨b,off+j*5+3,none⟩=some (.int .i64 d.i)/\w.cell? ⟨b,off+j*5+4,none⟩=some (.bool d.e)
theorem Lay.kp {S:Nat->Prop}{w w':World}{ao:Option Addr}{l:List Dc}(h:Lay w ao l) (M:Kp S w w') (I:∀a,ao=some a->¬S a.block):Lay w' ao l:=by
 intro j a J;obtain⟨H,b,F,G,c0,c1,c2,c3,c4⟩:=h j a J;have u:=Kg _ _ c0;have e:w'.heap[b]?=w.heap[b]?:=M.block b u (I _ G);exact⟨H,b,F,G,(Kn (a:=⟨b,_,none⟩) e).trans c0,(Kn (a:=⟨b,_,none⟩) e).trans c1,(Kn (a:=⟨b,_,none⟩) e).trans c2,(Kn (a:=⟨b,_,none⟩) e).trans c3,(Kn (a:=⟨b,_,none⟩) e).trans c4⟩
theorem Lay.below {w':World}{ao:Option Addr}(h:Lay w ao l) (u:Below w.heap.size w w'):Lay w' ao l:=h.kp (Kp.of_below (S:=fun _=>False) u) (fun _ _ h=>h)
theorem Lay.row {B:Nat}{v:Value}{n:Nat}(h:w.ownsRow B 151 5 v n (bD l)) (ht:∀d∈l,d.t.size<=9223372036854775807):∃ao cap,v=.slice ao l.length cap/\n=l.length/\Lay w ao l/\(ao=none\/∃g,ao=some ⟨g,0,none⟩/\B<=g/\g<w.heap.size)/\l.length<=cap/\cap<=maxLen:=by
 have O:n=l.length:=by have:=h.1;rw[aQ]at this;omega
 subst O
 rcases h.2 with⟨rfl,G⟩|⟨g,cap,aa,rfl,J,M,H,I,h5,h6⟩
 ·have:l=[]:=Kx G;subst this;exact⟨none,0,rfl,rfl,fun j d h=>by simp at h,.inl rfl,Kj _,Kj _⟩
 ·refine⟨some ⟨g,0,none⟩,cap,rfl,rfl,?_,.inr ⟨g,rfl,J,ai M⟩,H,I⟩;intro j d F
  have hc:∀(k:Nat) (u:Value),(bD l)[k]?=some u->w.cell? ⟨g,k,none⟩=some u:=fun k u hu=>by
   have:=h.cells (g:=g) rfl k u hu;rw[KV,Km]at this;exact this
  refine⟨ht d (LF F),g,0,rfl,?_,?_,?_,?_,?_⟩
  ·rw[Km];exact hc _ _ (aO Dc.cs 5 Dc.cs_len l j 0 d _ F rfl)
  ·rw[Km];exact hc _ _ (aO Dc.cs 5 Dc.cs_len l j 1 d _ F rfl)
  ·rw[Km];exact hc _ _ (aO Dc.cs 5 Dc.cs_len l j 2 d _ F rfl)
  ·rw[Km];exact hc _ _ (aO Dc.cs 5 Dc.cs_len l j 3 d _ F rfl)
  ·rw[Km];exact hc _ _ (aO Dc.cs 5 Dc.cs_len l j 4 d _ F rfl)
theorem BM (c:UInt8) (w:World):Kb 285 #[.int .u8 (c.toNat:Int)] w fun e w'=>e=.returned (.bool (BN c))/\w'=w:=by
 have u:((c.toNat:Int)==32)=(c==32):=by revert c;exact Cv (by decide +kernel)
 have F:((c.toNat:Int)==10)=(c==10):=by revert c;exact Cv (by decide +kernel)
 have e:BN c=((c.toNat:Int)==32||(c.toNat:Int)==10):=by rw[u,F];rfl
 rw[e];clear e u F
 generalize(c.toNat:Int)=z
 go_enter func285,ntmps285
 go_wp2_with fail
 all_goals(go_ret;simp_all)
theorem qo (n:Int) (w:World):Kb 246 #[.int .i64 n] w fun e w'=>e=.returned (.bool (me n))/\w'=w:=by
 have e:me n=(decide (0<=n)&&decide (n<=1000)):=rfl;rw[e];clear e
 go_enter func246,ntmps246
 go_wp2_with fail
 all_goals(go_ret;simp_all)
 all_goals omega
theorem yC (t:ByteArray) (ht:t.size<=9223372036854775807) (w:World):Kb 245 #[.string t] w fun e w'=>e=.returned (.bool (iA t))/\w'=w:=by
 by_cases H:t.size=0
 ·have O:t=⟨#[]⟩:=by
   apply oE
   exact Kx (by rw[lr];exact H)
  subst O
  go_enter func245,ntmps245
  go_wp2_with fail
  go_ret
  exact⟨rfl,rfl⟩
 ·have aa:¬t.toList=[]:=by
   rw[Lib.toList_data];intro hl;exact absurd (by have:=lr t;rw[vC,hl]at this;simpa using this.symm) H
  by_cases I:t.size<=65535
  ·have F:0<t.size:=by omega
   have u:t.size-1<t.size:=by omega
   have G:Hid (iA t=(!BN t[0]&&!BN (t[t.size-1]))):=by
    show _=_
    unfold iA;have J:(vC t).getD 0 0=t[0]:=(Lib.getD_at t 0 F).symm;have M:(vC t).getD (t.size-1) 0=t[t.size-1]:=(Lib.getD_at t (t.size-1) u).symm;rw[J,M];simp[I,show 1<=t.size by omega]
   go_enter func245,ntmps245
   go_wp2_with(go_at_call 285;refine(BM _ _).mono ?_;rintro e w1⟨rfl,rfl⟩)
   all_goals(go_ret;rw[G.out];clear G;refine⟨?_,rfl⟩;simp_all)
  ·go_enter func245,ntmps245
   go_wp2_with fail
   go_ret
   refine⟨?_,rfl⟩;simp[iA,I]
theorem sS (t:ByteArray) (b i:Int) (e:Bool) (ht:t.size<=9223372036854775807) (w:World):Kb 188 #[.agg #[.int .u8 1,.string t,.int .i64 b,.int .i64 i,.bool e]] w fun x w'=>x=.returned (.bool (iA t&&(b==0&&(i==0&&!e))))/\Kc w w':=by
 go_enter func188,ntmps188
 go_wp2_with(go_at_call 245;refine(yC _ ht _).mono ?_;rintro e u⟨rfl,rfl⟩)
 all_goals go_ret
 all_goals(refine⟨by simp_all,?_⟩;repeat(first|exact gt _ _|refine N2 ?_ (ge _) _|refine OL ?_ (by simp) _|refine N4 ?_))
theorem xd (t:ByteArray) (b i:Int) (e:Bool) (w:World):Kb 188 #[.agg #[.int .u8 3,.string t,.int .i64 b,.int .i64 i,.bool e]] w fun x w'=>x=.returned (.bool (me b&&(t.toList==[]&&(i==0&&!e))))/\Kc w w':=by
 go_enter func188,ntmps188
 go_wp2_with(go_at_call 246;refine(qo _ _).mono ?_;rintro e u⟨rfl,rfl⟩)
 all_goals go_ret
 all_goals(refine⟨by simp_all,?_⟩;repeat(first|exact gt _ _|refine N2 ?_ (ge _) _|refine OL ?_ (by simp) _|refine N4 ?_))
theorem xe (t:ByteArray) (b i:Int) (e:Bool) (w:World):Kb 188 #[.agg #[.int .u8 6,.string t,.int .i64 b,.int .i64 i,.bool e]] w fun x w'=>x=.returned (.bool (me i&&(t.toList==[]&&b==0)))/\Kc w w':=by
 go_enter func188,ntmps188
 go_wp2_with(go_at_call 246;refine(qo _ _).mono ?_;rintro e u⟨rfl,rfl⟩)
 all_goals go_ret
 all_goals(refine⟨by simp_all,?_⟩;repeat(first|exact gt _ _|refine N2 ?_ (ge _) _|refine OL ?_ (by simp) _|refine N4 ?_))
theorem sR (k:Int) (u:k=2\/k=4\/k=5\/k=7) (t:ByteArray) (b i:Int) (e:Bool) (w:World):Kb 188 #[.agg #[.int .u8 k,.string t,.int .i64 b,.int .i64 i,.bool e]] w fun x w'=>x=.returned (.bool (t.toList==[]&&(b==0&&(i==0&&!e))))/\Kc w w':=by
 rcases u with rfl|rfl|rfl|rfl
 all_goals
  go_enter func188,ntmps188
  go_wp2_with fail
  all_goals go_ret
  all_goals(refine⟨by simp_all,?_⟩;repeat(first|exact gt _ _|refine N2 ?_ (ge _) _|refine OL ?_ (by simp) _|refine N4 ?_))
theorem sU (k:Int) (u:k≠1) (F:k≠2) (G:k≠3) (H:k≠4) (I:k≠5) (J:k≠6) (M:k≠7) (t:ByteArray) (b i:Int) (e:Bool) (w:World):Kb 188 #[.agg #[.int .u8 k,.string t,.int .i64 b,.int .i64 i,.bool e]] w fun x w'=>x=.returned (.bool false)/\Kc w w':=by
 go_enter func188,ntmps188
 go_wp2_with fail
 all_goals go_ret
 all_goals(refine⟨by simp_all,?_⟩;repeat(first|exact gt _ _|refine N2 ?_ (ge _) _|refine OL ?_ (by simp) _|refine N4 ?_))
theorem Df (t:ByteArray):(t.toList==[])=decide (t=bE):=by
 rw[KS,LM,KJ,Lib.toList_data];constructor
 ·intro h;exact oE h
 ·rintro rfl;rfl
theorem xg (d:Dc) (ht:d.t.size<=9223372036854775807) (w:World):Kb 188 #[d.v] w fun x w'=>x=.returned (.bool (rt d))/\Below w.heap.size w w':=by
 obtain⟨k,t,b,i,e⟩:=d
 by_cases G:k=1
 ·subst G
  have u:rt ⟨1,t,b,i,e⟩=(iA t&&(b==0&&(i==0&&!e))):=by
   unfold rt;rw[Kd rfl]
   congr 1
   rw[KS];simp[Dc.mk.injEq]
  rw[u];exact sS t b i e ht w
 by_cases H:k=3
 ·subst H
  have u:rt ⟨3,t,b,i,e⟩=(me b&&(t.toList==[]&&(i==0&&!e))):=by
   unfold rt;rw[IO (by show ¬(3:Int)=1;decide),Kd rfl,Df]
   congr 1
   rw[KS];simp[Dc.mk.injEq]
  rw[u];exact xd t b i e w
 by_cases I:k=6
 ·subst I
  have u:rt ⟨6,t,b,i,e⟩=(me i&&(t.toList==[]&&b==0)):=by
   unfold rt;rw[IO (by show ¬(6:Int)=1;decide),IO (by show ¬(6:Int)=3;decide),Kd rfl,Df]
   congr 1
   rw[KS];simp[Dc.mk.injEq]
  rw[u];exact xe t b i e w
 by_cases F:k=2\/k=4\/k=5\/k=7
 ·have u:rt ⟨k,t,b,i,e⟩=(t.toList==[]&&(b==0&&(i==0&&!e))):=by
   unfold rt;rw[IO G,IO H,IO I,Kd F,Df];rw[KS];simp[Dc.mk.injEq]
  rw[u];exact sR k F t b i e w
 ·have u:rt ⟨k,t,b,i,e⟩=false:=by
   unfold rt;rw[IO G,IO H,IO I,IO F]
  rw[u];simp only[not_or]at F;exact sU k G F.1 H F.2.1 F.2.2.1 I F.2.2.2 t b i e w
