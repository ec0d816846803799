import Derived.Lib.Bytealg
import Derived.Lib.Strings
import Derived.Defers
import Derived.Shelf.Strings.Builder1
import Derived.Shelf.Strings.Builder2
import Derived.Shelf.Strings.LastIndex
import Derived.Shelf.Strings.Repeat
import Derived.Test.YtpdlohfdjiaegaaGreatDoorM03
set_option linter.unusedVariables false
set_option linter.unusedSimpArgs false
set_option maxHeartbeats 1000000
namespace Go.Proofs.YtpdlohfdjiaegaaGreatDoor.Lw
open Go.Proofs.YtpdlohfdjiaegaaGreatDoor.Lx
theorem xc {P:UInt8->Prop}(h:∀n:Fin 256,P (UInt8.ofNat n.val)) (c:UInt8):P c:=by
 have:=h ⟨c.toNat,c.toNat_lt⟩
 simpa using this
structure Dc where
 k:Int
 t:ByteArray
 b:Int
 i:Int
 e:Bool
 deriving DecidableEq
def bE:ByteArray:=⟨#[]⟩
def lsb (s:ByteArray):List UInt8:=s.data.toList
theorem lS {a b:ByteArray}(h:lsb a=lsb b):a=b:=by
 cases a;cases b;simp only [lsb] at h;rw [Array.toList_inj.1 h]
theorem jK (s:ByteArray):(lsb s).length=s.size:=by simp [lsb]
def edg (c:UInt8):Bool:=c == 32 || c == 10
def rtT (s:ByteArray):Bool:=decide (1<=s.size) && (decide (s.size<=65535) && (!edg ((lsb s).getD 0 0) && !edg ((lsb s).getD (s.size-1) 0)))
def rtN (n:Int):Bool:=decide (0<=n) && decide (n<=1000)
def rt (d:Dc):Bool:=
 if d.k=1 then rtT d.t && decide (d=⟨1,d.t,0,0,false⟩)
 else if d.k=3 then rtN d.b && decide (d=⟨3,bE,d.b,0,false⟩)
 else if d.k=6 then rtN d.i && decide (d=⟨6,bE,0,d.i,d.e⟩)
 else if d.k=2\/d.k=4\/d.k=5\/d.k=7 then decide (d=⟨d.k,bE,0,0,false⟩) else false
inductive Rt:Dc->Prop
 |text (t:ByteArray) (h:rtT t=true):Rt ⟨1,t,0,0,false⟩
 |brk (n:Int) (h:rtN n=true):Rt ⟨3,bE,n,0,false⟩
 |beg (n:Int) (e:Bool) (h:rtN n=true):Rt ⟨6,bE,0,n,e⟩
 |blank:Rt ⟨2,bE,0,0,false⟩
 |hard:Rt ⟨4,bE,0,0,false⟩
 |empty:Rt ⟨5,bE,0,0,false⟩
 | «end»:Rt ⟨7,bE,0,0,false⟩
theorem iA {d:Dc}(h:rt d=true):Rt d:=by
 unfold rt at h
 split at h
 ·simp only [Bool.and_eq_true,decide_eq_true_eq] at h;obtain ⟨h1,h2⟩:=h;rw [h2];exact .text _ h1
 ·split at h
  ·simp only [Bool.and_eq_true,decide_eq_true_eq] at h;obtain ⟨h1,h2⟩:=h;rw [h2];exact .brk _ h1
  ·split at h
   ·simp only [Bool.and_eq_true,decide_eq_true_eq] at h;obtain ⟨h1,h2⟩:=h;rw [h2];exact .beg _ _ h1
   ·split at h
    ·rename_i h4
     simp only [decide_eq_true_eq] at h;obtain ⟨k,t,b,i,e⟩:=d;simp only [Dc.mk.injEq,true_and] at h;obtain ⟨rfl,rfl,rfl,rfl⟩:=h;simp only at h4
     rcases h4 with rfl|rfl|rfl|rfl
     ·exact .blank
     ·exact .hard
     ·exact .empty
     ·exact .end
    ·cases h
theorem lw {n:Int}(h:rtN n=true):0<=n/\n<=1000:=by simpa [rtN] using h
theorem iO {t:ByteArray}(h:rtT t=true):1<=t.size/\t.size<=65535:=by
 simp only [rtT,Bool.and_eq_true,decide_eq_true_eq] at h;exact ⟨h.1,h.2.1⟩
def dep (k:Int):Int:=if k=6 then 1 else if k=7 then -1 else 0
def frm:Int->Nat->List Dc->Option Nat
 |o,j,[]=>if 0<o then some j else none
 |o,j,d :: r=>if rt d=true/\0<=o+dep d.k then frm (o+dep d.k) (j+1) r else some j
def chk (l:List Dc):Int × Int:=if 2097152<l.length then (2,0) else match frm 0 0 l with|some j=>(70,(j:Int))|none=>(0,0)
theorem jR:∀(l:List Dc) (o:Int) (j:Nat),frm o j l=none->∀d∈l,rt d=true
 |[],_,_,_=>by simp
 |d :: r,o,j,h=>by
  simp only [frm] at h
  split at h
  ·rename_i hc
   intro x hx
   rcases List.mem_cons.1 hx with rfl|hx
   ·exact hc.1
   ·exact jR r _ _ h x hx
  ·cases h
theorem vZ:∀(l:List Dc) (o:Int) (j k:Nat),frm o j l=some k->k<=j+l.length
 |[],o,j,k,h=>by
  simp only [frm] at h
  split at h <;> cases h
  simp
 |d :: r,o,j,k,h=>by
  simp only [frm] at h
  split at h
  ·have:=vZ r _ _ k h;simp;omega
  ·cases h;omega
theorem Bj (l:List Dc):0<=(chk l).1/\(chk l).1<=70/\0<=(chk l).2/\(chk l).2<=2097152:=by
 unfold chk
 split
 ·simp
 ·rename_i h1
  cases hf:frm 0 0 l with
  |some j=>have:=vZ l 0 0 j hf;simp;omega
  |none=>simp
end Go.Proofs.YtpdlohfdjiaegaaGreatDoor.Lw
namespace Go.Proofs.YtpdlohfdjiaegaaGreatDoor.Lw
open Go.Proofs.YtpdlohfdjiaegaaGreatDoor.Lx
open Go.ChangeShapes Go.WideShapes Go.ChangeAt Go.RowKit
def gZ:List (Int × Int × Int):=[(768,879,0),(4352,4447,2),(8203,8207,0),(8400,8447,0),(11904,12350,2),(12353,42191,2),(44032,55203,2),(63744,64255,2),(65024,65039,0),(65056,65071,0),(65072,65135,2),(65280,65376,2),(65504,65510,2),(127744,128591,2),(129280,129535,2),(131072,262141,2)]
def tlo (i:Nat):Int:=(gZ.getD i (0,0,0)).1
def thi (i:Nat):Int:=(gZ.getD i (0,0,0)).2.1
def tco (i:Nat):Int:=(gZ.getD i (0,0,0)).2.2
def Tab (w:World):Prop:=∀i,i<16->w.cell? ⟨4,i*3,none⟩=some (.int .i64 (tlo i))/\w.cell? ⟨4,i*3+1,none⟩=some (.int .i64 (thi i))/\w.cell? ⟨4,i*3+2,none⟩=some (.int .i64 (tco i))
theorem Tab.below {w w':World}(h:Tab w) (hb:Below w.heap.size w w'):Tab w':=by
 intro i hi;obtain ⟨h0,h1,h2⟩:=h i hi;have hz:=World.block_lt_of_cell? w _ h0;exact ⟨(hb.cell (p:=⟨4,i*3,none⟩) hz).trans h0,(hb.cell (p:=⟨4,i*3+1,none⟩) hz).trans h1,(hb.cell (p:=⟨4,i*3+2,none⟩) hz).trans h2⟩
theorem sR:(Rows.laid_colophon_width_spans:DataW Unit)=.agg (gZ.map fun x=>.agg [.lit (.int .i64 x.1),.lit (.int .i64 x.2.1),.lit (.int .i64 x.2.2)]):=by kernel_rfl
theorem mM {W:World}{L:List (String × DataW Unit)}(hpl:(L.all fun x=>x.2.handleName?.isNone)=true) (hm:("colophon/width.spans",Rows.laid_colophon_width_spans)∈L) (h:laidMetH Tryz.prog L W):Tab W:=by
 rw [MakeChecks.laidMetH_plain _ _ _ hpl] at h;obtain ⟨ps,hps,_,_⟩:=h;obtain ⟨g,t,cs,fuel,p,hg,ht,hv,hd⟩:=fm L ps hps _ _ hm;obtain rfl:=Option.some.inj ((show Tryz.prog.globalNamed "colophon/width.spans"=some 4 by kernel_rfl).symm.trans hg);obtain rfl:=Option.some.inj ((show (Tryz.prog.globals[4]?).map (·.type)=some 275 by kernel_rfl).symm.trans ht);rw [sR] at hd;obtain ⟨xs,m,_,ex,_,hl,hel⟩:=DataW.trod_array Tryz.underlying275 hd;have c3:Tryz.prog.cellsOf 3=1:=by kernel_rfl
 have c34:Tryz.prog.cellsOf 274=3:=by kernel_rfl
 intro i hi;have hE:=hel i hi;rw [c34,List.getElem?_eq_getElem (by omega)] at hE;obtain ⟨y0,y1,y2,n,ey,_,g0,g1,g2⟩:=Deep.trod_struct3 Tryz.underlying274 hE;simp only [c3] at g0 g1 g2;obtain ⟨z0,a0,b0,_⟩:=DataW.trod_int Tryz.underlying3 g0;obtain ⟨z1,a1,b1,_⟩:=DataW.trod_int Tryz.underlying3 g1;obtain ⟨z2,a2,b2,_⟩:=DataW.trod_int Tryz.underlying3 g2;have hlen:gZ.length=16:=rfl;have e3:(xs.map (·.1))=gZ.map fun x=>(.agg [.lit (.int .i64 x.1),.lit (.int .i64 x.2.1),.lit (.int .i64 x.2.2)]:DataW Unit):=(DataW.agg.inj (Prod.mk.inj ex).1).symm
 have e4:(xs.map (·.1))[i]?=(gZ.map fun x=>(.agg [.lit (.int .i64 x.1),.lit (.int .i64 x.2.1),.lit (.int .i64 x.2.2)]:DataW Unit))[i]?:=by rw [e3]
 rw [List.getElem?_map,List.getElem?_map,List.getElem?_eq_getElem (by omega:i<xs.length),List.getElem?_eq_getElem (by omega:i<gZ.length),ey,b0,b1,b2] at e4;simp only [Option.map_some,Option.some.injEq,DataW.agg.injEq,List.cons.injEq,DataW.lit.injEq,Lit.int.injEq,true_and,and_true] at e4;obtain ⟨f0,f1,f2⟩:=e4;have hT:gZ.getD i (0,0,0)=gZ[i]:=by rw [List.getD,List.getElem?_eq_getElem (show i<gZ.length by omega)];rfl
 have key:∀(o:Nat) (z:Int),o<3->(((cs.toList.drop (i*3)).take 3).drop o).take 1=[.int .i64 z]->W.cell? ⟨4,i*3+o,none⟩=some (.int .i64 z):=by
  intro o z ho hz;rw [World.var?_cell hg hv (i*3+o)];have h0:((((cs.toList.drop (i*3)).take 3).drop o).take 1)[0]?=some (.int .i64 z):=by rw [hz];rfl
  rw [List.getElem?_take,if_pos (by omega),List.getElem?_drop,List.getElem?_take,if_pos (by omega),List.getElem?_drop] at h0
  simpa using h0
 refine ⟨?_,?_,?_⟩
 ·have:=key 0 z0 (by omega) (by simpa using a0);rw [Nat.add_zero] at this;rw [this,tlo,hT,f0];rfl
 ·have:=key 1 z1 (by omega) (by simpa using a1);rw [this,thi,hT,f1];rfl
 ·have:=key 2 z2 (by omega) (by simpa using a2);rw [this,tco,hT,f2];rfl
end Go.Proofs.YtpdlohfdjiaegaaGreatDoor.Lw
namespace Go.Proofs.YtpdlohfdjiaegaaGreatDoor.Lw
open Go.Proofs.YtpdlohfdjiaegaaGreatDoor.Lx
open Go.RowKit
variable {p:Int}
def two (p:Int):Prop:=(4352<=p/\p<=4447)\/(11904<=p/\p<=12350)\/(12353<=p/\p<=42191)\/(44032<=p/\p<=55203)\/(63744<=p/\p<=64255)\/(65072<=p/\p<=65135)\/(65280<=p/\p<=65376)\/(65504<=p/\p<=65510)\/(127744<=p/\p<=128591)\/(129280<=p/\p<=129535)\/(131072<=p/\p<=262141)
def zro (p:Int):Prop:=(768<=p/\p<=879)\/(8203<=p/\p<=8207)\/(8400<=p/\p<=8447)\/(65024<=p/\p<=65039)\/(65056<=p/\p<=65071)
instance (p:Int):Decidable (two p):=by unfold two;infer_instance
instance (p:Int):Decidable (zro p):=by unfold zro;infer_instance
def wd (p:Int):Int:=if two p then 2 else if zro p then 0 else 1
theorem zC (p:Int):0<=wd p/\wd p<=2:=by unfold wd;split <;> (try split) <;> omega
theorem Ah (h:two p):wd p=2:=by unfold wd;rw [if_pos h]
theorem Ag (h:zro p):wd p=0:=by
 unfold wd;rw [if_neg (by unfold zro at h;unfold two;omega),if_pos h]
theorem Ai (h:¬two p) (h2:¬zro p):wd p=1:=by unfold wd;rw [if_neg h,if_neg h2]
theorem xy (i:Nat) (p:Int) (hi:i<16) (h0:tlo i<=p) (h1:p<=thi i):tco i=wd p:=by
 rcases i with _|_|_|_|_|_|_|_|_|_|_|_|_|_|_|_|i
 all_goals simp [tlo,thi,tco,gZ,List.getD] at h0 h1 ⊢
 all_goals first|exact (Ah (by unfold two;omega)).symm|exact (Ag (by unfold zro;omega)).symm|omega
theorem xz (p:Int) (h:∀k,k<16->p<tlo k\/thi k<p):wd p=1:=by
 have a0:=h 0 (by omega);have a1:=h 1 (by omega);have a2:=h 2 (by omega);have a3:=h 3 (by omega);have a4:=h 4 (by omega);have a5:=h 5 (by omega);have a6:=h 6 (by omega);have a7:=h 7 (by omega);have a8:=h 8 (by omega);have a9:=h 9 (by omega);have a10:=h 10 (by omega);have a11:=h 11 (by omega);have a12:=h 12 (by omega);have a13:=h 13 (by omega);have a14:=h 14 (by omega);have a15:=h 15 (by omega);simp only [tlo,thi,gZ,List.getD,List.getElem?_cons_zero,List.getElem?_cons_succ,Option.getD_some] at a0 a1 a2 a3 a4 a5 a6 a7 a8 a9 a10 a11 a12 a13 a14 a15;refine Ai ?_ ?_
 ·unfold two;omega
 ·unfold zro;omega
theorem Ao (i k:Nat) (hk:k<16) (h:i<=k):tlo i<=tlo k:=by
 have:∀k,k<16->∀i,i<16->i<=k->tlo i<=tlo k:=by decide +kernel
 exact this k hk i (by omega) h
theorem mN (i:Nat) (p:Int) (h:∀k,k<i->thi k<p) (h2:i<16->p<tlo i):wd p=1:=by
 refine xz p fun k hk=>?_
 by_cases hki:k<i
 ·exact .inr (h k hki)
 ·have:=h2 (by omega);have:=Ao i k hk (by omega);omega
theorem iR {a b:Int}(h:a=b):Ending.returned (.int .i64 a)=.returned (.int .i64 b):=by rw [h]
theorem AU (p:Int) (w:World) (hT:Tab w) :
  Da 231 #[.int .i64 p] w fun e w'=>e=.returned (.int .i64 (wd p))/\w'=w:=by
 go_enter Tryz.func231,Tryz.ntmps231
 go_wp2_with fail
 go_loopw [4] (fun i wr=>wr=w/\∃k:Nat,k<=16/\i=.int .i64 k/\∀j,j<k->thi j<p) (fun i _=>16-(intOf i).toNat)
 case atStart=>exact ⟨rfl,0,by omega,rfl,fun j hj=>by omega⟩
 case round=>
  obtain ⟨rfl,k,hk,rfl,hall⟩:=hrel
  by_cases h16:k<16
  ·obtain ⟨c0,c1,c2⟩:=hT k h16;have HA:Hid (∀j,j<k->thi j<p):=hall;have HH:Hid (tlo k<=p->p<=thi k->tco k=wd p):=xy k p h16;have HM:Hid (p<tlo k->wd p=1):=fun h=>mN k p hall (fun _=>h)
   have HN:Hid (thi k<p->∀j,j<k+1->thi j<p):=fun h j hj=>by
    by_cases e:j=k
    ·subst e;exact h
    ·exact hall j (by omega)
   clear hall hT
   generalize tlo k=l at *
   generalize tco k=c at *
   generalize thi k=u at *
   by_cases h1:p<l
   ·go_wp2_with fail
    go_ret
    exact ⟨iR (HM.out h1).symm,rfl⟩
   ·by_cases h2:p<=u
    ·go_wp2_with fail
     go_ret
     exact ⟨iR (HH.out (by omega) h2),rfl⟩
    ·go_wp2_with fail
     exact ⟨⟨trivial,k+1,by omega,by go_num,HN.out (by omega)⟩,by simp [intOf];omega⟩
  ·have HM:Hid (wd p=1):=mN k p hall (fun h=>absurd h h16);clear hall hT
   go_wp2_with fail
   go_ret
   exact ⟨iR HM.out.symm,rfl⟩
end Go.Proofs.YtpdlohfdjiaegaaGreatDoor.Lw
namespace Go.Proofs.YtpdlohfdjiaegaaGreatDoor.Lw
open Go.Proofs.YtpdlohfdjiaegaaGreatDoor.Lx
def cl:List Nat->Int
 |[]=>0
 |p :: r=>wd (p:Int)+cl r
theorem Bi (a b:List Nat):cl (a++b)=cl a+cl b:=by
 induction a with
 |nil=>simp [cl]
 |cons x r ih=>simp only [List.cons_append,cl,ih];omega
theorem Ci (l:List Nat):0<=cl l/\cl l<=2*l.length:=by
 induction l with
 |nil=>simp [cl]
 |cons x r ih=>
  have:=zC (x:Int);simp only [cl,List.length_cons];omega
def cw (s:ByteArray) (k:Nat):Int:=cl ((pts s).take k)
def tw (s:ByteArray):Int:=cl (pts s)
theorem yY (s:ByteArray) (k:Nat) (h:k<(P s).length):cw s (k+1)=cw s k+wd (dp s (st s k)):=by
 unfold cw;rw [uQ s k h,Bi];simp [cl]
theorem wn (s:ByteArray) (k:Nat) (h:(P s).length<=k):cw s k=tw s:=by
 unfold cw tw;rw [List.take_of_length_le (by rw [qv];omega)]
theorem zR (s:ByteArray) (k:Nat):0<=cw s k/\cw s k<=2*s.size:=by
 have h:=Ci ((pts s).take k);have h2:=rD s;have h3:((pts s).take k).length<=(P s).length:=by rw [List.length_take,qv];omega
 unfold cw;omega
theorem kl (s:ByteArray):0<=tw s/\tw s<=2*s.size:=by
 rw [<-wn s _ (Nat.le_refl _)];exact zR s _
end Go.Proofs.YtpdlohfdjiaegaaGreatDoor.Lw
namespace Go.Proofs.YtpdlohfdjiaegaaGreatDoor.Lw
open Go.Proofs.YtpdlohfdjiaegaaGreatDoor.Lx
open Go.RowKit
theorem gV (s:ByteArray) (w:World) (hT:Tab w) (hs:s.size<=2147483647) :
  Da 196 #[.string s] w fun e w'=>e=.returned (.int .i64 (tw s))/\Below w.heap.size w w':=by
 have hP:=rD s
 go_enter Tryz.func196,Tryz.ntmps196
 go_wp2_with fail
 go_loopw [3] (fun n w'=>∃k:Nat,k<=(P s).length/\w'=w.iter s (st s k)/\n=.int .i64 (cw s k)) (fun _ w'=>s.size-w'.iterPos w.heap.size)
 case atStart=>exact ⟨0,by omega,rfl,rfl⟩
 case round=>
  obtain ⟨k,hk,rfl,rfl⟩:=hrel
  by_cases hlt:k<(P s).length
  ·have hp:=(dY s k).2 hlt;have hw:=aG s (st s k) hp;have hdp:=od s (st s k);have hc:=zR s k;have hwd:=zC (dp s (st s k));have HT:Hid (∀pos,Tab (w.iter s pos)):=fun pos=>hT.below (cr w s pos)
   have HS:Hid (st s (k+1)=st s k+dw s (st s k)):=cU s k hlt;have HC:Hid (cw s (k+1)=cw s k+wd (dp s (st s k))):=yY s k hlt;have hnx:∀ty,(Instr.next (.pointer (some ⟨w.heap.size,0,none⟩)) true ty).run Tryz.prog (w.iter s (st s k))=.ok (.tuple #[.bool true,.int .i64 (st s k),.int .i32 (dp s (st s k))]) (w.iter s (st s k+dw s (st s k))):=fun ty=>run_next_any w s (st s k) ty hp
   clear hT
   generalize st s k=i at *
   generalize dw s i=d at *
   generalize hx:dp s i=x at *
   generalize cw s k=c at *
   clear hx
   go_wp2_with fail
   refine (AU x _ (HT.out _)).mono ?_;rintro e w' ⟨rfl,rfl⟩
   generalize wd (x:Int)=y at *
   go_wp2_with fail
   exact ⟨⟨k+1,hlt,by rw [HS.out],congrArg (Value.int .i64) HC.out.symm⟩,by simp;omega⟩
  ·have hp:¬st s k<s.size:=by rw [dY];exact hlt
   have hnx:∀ty,(Instr.next (.pointer (some ⟨w.heap.size,0,none⟩)) true ty).run Tryz.prog (w.iter s (st s k))=_:=fun ty=>run_next_end w s (st s k) ty hp
   have HC:Hid (cw s k=tw s):=wn s k (by omega)
   go_wp2_with fail
   go_ret
   exact ⟨iR HC.out,cr _ _ _⟩
end Go.Proofs.YtpdlohfdjiaegaaGreatDoor.Lw
namespace Go.Proofs.YtpdlohfdjiaegaaGreatDoor.Lw
open Go.Proofs.YtpdlohfdjiaegaaGreatDoor.Lx
open Go.RowKit
open Go.Lib (strCells strCells_length)
end Go.Proofs.YtpdlohfdjiaegaaGreatDoor.Lw
namespace Go.Proofs.YtpdlohfdjiaegaaGreatDoor
open Go.Proofs.YtpdlohfdjiaegaaGreatDoor.Lw
open Go.Proofs.YtpdlohfdjiaegaaGreatDoor.Lx
open Go.RowKit
open Go.Lib (strCells strCells_length)
theorem Fr.tab {i:Nat}{own own':Nat->Nat}{w w':World}(h:Fr i own own' w w') (hT:Tab w) (h0:own 4≠i):Tab w':=by
 intro j hj;obtain ⟨a0,a1,a2⟩:=hT j hj;exact ⟨h.cell a0 h0,h.cell a1 h0,h.cell a2 h0⟩
end Go.Proofs.YtpdlohfdjiaegaaGreatDoor
namespace Go.Proofs.YtpdlohfdjiaegaaGreatDoor.Lw
open Go.Proofs.YtpdlohfdjiaegaaGreatDoor.Lx
open Go.RowKit
open Go.Lib (strCells strCells_length)
variable {w:World}{a:Addr}{v:Value}
theorem Tryz.info5:(Tryz.prog.info? 5).map (fun i=>(i.zero,i.size,i.bytes))=some (some (.int .u8 0),1,1):=by kernel_rfl
theorem Tryz.info175:(Tryz.prog.info? 175).map (fun i=>(i.zero,i.size,i.bytes))=some (some (.agg #[.int .i64 0,.int .i64 0]),2,16):=by kernel_rfl
def eg (x:Nat × Nat):List Value:=[.int .i64 x.1,.int .i64 x.2]
theorem wi (x:Nat × Nat):(eg x).length=2:=rfl
theorem zi (c:Nat) (v:Value) (n:Nat) (xs:List Value) (t:ByteArray) (w:World) (hc:w.heap[c]?=some (.cells #[v] 164 (0,0))) (ho:w.ownsRow 0 5 1 v n xs) (hn:n+t.size<=70368744177664) :
  Da 198 #[.string t,.pointer (some ⟨c,0,none⟩)] w fun e w'=>e=.returned (.tuple #[])/\∃v',w'.heap[c]?=some (.cells #[v'] 164 (0,0))/\w'.ownsRow 0 5 1 v' (n+t.size) (xs++strCells t)/\(v'.ownBlock=v.ownBlock\/v'.ownBlock=some w.heap.size)/\Kp (fun k=>k=c\/some k=v.ownBlock) w w':=by
 obtain ⟨i0,hi,hz0,hz1,hz2⟩:=info_parts Tryz.info5;have hne:=aA ho hc (by decide);have hcl:=ap hc;have c0:w.cell? ⟨c,0,none⟩=some v:=aa hc rfl;obtain ⟨p,cap,rfl,_,_⟩:=av ho
 go_enter Tryz.func198,Tryz.ntmps198
 go_wp2_with (first|(at_builtin;refine cy (P:=Tryz.prog) (w:=w) rfl _ _ 164 9 rfl 0 5 i0 Tryz.underlying164 Tryz.underlying9 hi hz0 hz1 hz2 _ _ _ rfl ho t rfl ?c3 ?c4 ?c5 ?_))
 case c3=>unfold maxLen;omega
 case c4=>omega
 case c5=>omega
 intro v2 w2 ho2 hg2 hat;have hk:=Kp.of_grown hg2;have hc2:w2.heap[c]?=some (.cells #[.slice p n cap] 164 (0,0)):=hk.blk hc (fun h=>hne h.symm);have d0:w2.cell? ⟨c,0,none⟩=some (.slice p n cap):=aa hc2 rfl;have f0:w2.frozen? ⟨c,0,none⟩=false:=ak hc2;have hne2:=aA ho2 hc2 (by decide);obtain ⟨p2,cap2,rfl,_,_⟩:=av ho2
 have HE:Hid ((w2.setCell ⟨c,0,none⟩ (.slice p2 (n+t.size) cap2)).heap[c]?=some (.cells #[.slice p2 (n+t.size) cap2] 164 (0,0))/\(w2.setCell ⟨c,0,none⟩ (.slice p2 (n+t.size) cap2)).ownsRow 0 5 1 (.slice p2 (n+t.size) cap2) (n+t.size) (xs++strCells t)/\((Value.slice p2 (n+t.size) cap2).ownBlock=(Value.slice p n cap).ownBlock\/(Value.slice p2 (n+t.size) cap2).ownBlock=some w.heap.size)/\Kp (fun k=>k=c\/some k=(Value.slice p n cap).ownBlock) w (w2.setCell ⟨c,0,none⟩ (.slice p2 (n+t.size) cap2))):=by
  refine ⟨af hc2 0 _,(Kp.set w2 c 0 _).row ho2 (fun k h1 h2=>hne2 (by rw [h1,h2])),hat,?_⟩;exact (Kp.step (S:=fun k=>k=c\/some k=(Value.slice p n cap).ownBlock) (Kp.refl _ _) hk (fun j _ h=>.inr h)).step (Kp.set w2 c 0 _) (fun j _ h=>.inl h)
 clear hk hg2 ho2 hat hne hne2 hc2
 go_wp2_with fail
 go_end0
 exact ⟨rfl,_,HE.out⟩
theorem zj (m:Int) (d c:Nat) (w:World) (hm:m<=0) :
  Da 197 #[.int .i64 m,.pointer (some ⟨d,0,none⟩),.pointer (some ⟨c,0,none⟩)] w fun e w'=>e=.returned (.tuple #[])/\w'=w:=by
 have q:decide (0<m)=false:=by simp;omega
 go_enter Tryz.func197,Tryz.ntmps197
 go_wp2_with fail
 go_end0
 exact ⟨rfl,rfl⟩
theorem eG (W:World) (a b:Value) (t n:Nat) (h:n=W.heap.size):∀j u,[a,b][j]?=some u->(W.alloc (.cells #[a,b] t)).cell? ((⟨n,0,none⟩:Addr).add j)=some u:=by
 subst h;intro j u hj
 match j,hj with
 |0,hj=>simp at hj;subst hj;simp [Addr.add]
 |1,hj=>simp at hj;subst hj;simp [Addr.add]
theorem tI (m:Nat) (d c:Nat) (v:Value) (tv:Value) (n l:Nat) (xs:List Value) (w:World) (hc:w.heap[c]?=some (.cells #[tv] 164 (0,0))) (htv:∃p cap,tv=.slice p l cap) (hd:w.heap[d]?=some (.cells #[v] 165 (0,0))) (ho:w.ownsRow 0 175 2 v n xs) (hn:n<=1073741824) (hm:0<m) (hm2:m<=9223372036854775807) (hl:l<=9223372036854775807) :
  Da 197 #[.int .i64 m,.pointer (some ⟨d,0,none⟩),.pointer (some ⟨c,0,none⟩)] w fun e w'=>e=.returned (.tuple #[])/\∃v',w'.heap[d]?=some (.cells #[v'] 165 (0,0))/\w'.ownsRow 0 175 2 v' (n+1) (xs++eg (l,m))/\(v'.ownBlock=v.ownBlock\/∃b,w.heap.size<=b/\v'.ownBlock=some b)/\Kp (fun k=>k=d\/some k=v.ownBlock) w w':=by
 obtain ⟨i0,hi,hz0,hz1,hz2⟩:=info_parts Tryz.info175;have q:decide (0<(m:Int))=true:=by simp;omega
 have hne:=aA ho hd (by decide);have hdl:=ap hd;have c0:w.cell? ⟨c,0,none⟩=some tv:=aa hc rfl;have d0:w.cell? ⟨d,0,none⟩=some v:=aa hd rfl;have hcl:=ap hc;obtain ⟨tp,tcap,rfl⟩:=htv;obtain ⟨p,cap,rfl,_,_⟩:=av ho
 go_enter Tryz.func197,Tryz.ntmps197
 go_wp2_with (first|(at_builtin;refine wpList_append_own_at (P:=Tryz.prog) (w:=w.alloc (.cells #[.int .i64 l,.int .i64 m] 175)) rfl _ _ 165 rfl 0 175 i0 (.agg #[.int .i64 0,.int .i64 0]) 2 16 Tryz.underlying165 hi hz0 hz1 hz2 rfl (by decide) _ _ _ rfl (aO ho ((Below.refl _ _).alloc (Nat.le_refl _) _)) ⟨w.heap.size,0,none⟩ 1 1 (eg (l,m)) rfl rfl ?c1 ?c2 ?c3 ?c4 ?c5 ?_))
 case c1=>exact eG _ _ _ _ _ rfl
 case c2=>intro u hu;simp [eg] at hu;rcases hu with rfl|rfl <;> rfl
 case c3=>unfold maxLen;omega
 case c4=>omega
 case c5=>omega
 intro v2 w2 ho2 hg2 _ hat;have hk:=Kp.step (S:=fun k=>k=d\/some k=(Value.slice p n cap).ownBlock) ((Kp.refl _ _).alloc (.cells #[.int .i64 l,.int .i64 m] 175)) (Kp.of_grown hg2) (fun j _ h=>.inr h);have hk':=Kp.step (S:=fun k=>some k=(Value.slice p n cap).ownBlock) ((Kp.refl _ _).alloc (.cells #[.int .i64 l,.int .i64 m] 175)) (Kp.of_grown hg2) (fun j _ h=>h);have hd2:w2.heap[d]?=some (.cells #[.slice p n cap] 165 (0,0)):=hk'.blk hd (fun h=>hne h.symm);have e0:w2.cell? ⟨d,0,none⟩=some (.slice p n cap):=aa hd2 rfl;have f0:w2.frozen? ⟨d,0,none⟩=false:=ak hd2;have hne2:=aA ho2 hd2 (by decide);obtain ⟨p2,cap2,rfl,_,_⟩:=av ho2
 have HE:Hid ((w2.setCell ⟨d,0,none⟩ (.slice p2 (n+1) cap2)).heap[d]?=some (.cells #[.slice p2 (n+1) cap2] 165 (0,0))/\(w2.setCell ⟨d,0,none⟩ (.slice p2 (n+1) cap2)).ownsRow 0 175 2 (.slice p2 (n+1) cap2) (n+1) (xs++eg (l,m))/\((Value.slice p2 (n+1) cap2).ownBlock=(Value.slice p n cap).ownBlock\/∃b,w.heap.size<=b/\(Value.slice p2 (n+1) cap2).ownBlock=some b)/\Kp (fun k=>k=d\/some k=(Value.slice p n cap).ownBlock) w (w2.setCell ⟨d,0,none⟩ (.slice p2 (n+1) cap2))):=by
  refine ⟨af hd2 0 _,(Kp.set w2 d 0 _).row ho2 (fun k h1 h2=>hne2 (by rw [h1,h2])),?_,?_⟩
  ·rcases hat with h|h
   ·exact .inl h
   ·exact .inr ⟨_,by have:=World.size_alloc w (.cells #[.int .i64 l,.int .i64 m] 175);omega,h⟩
  ·exact hk.step (Kp.set w2 d 0 _) (fun j _ h=>.inl h)
 clear hk hk' hg2 ho2 hat hne hne2 hd2
 go_wp2_with fail
 go_end0
 exact ⟨rfl,_,HE.out⟩
def sk (b:Bool) (col wait:Int) (tv gv:Value):Array Value:=#[.bool b,.int .i64 col,.int .i64 wait,tv,gv]
theorem eE (w:World) (o:Obj) (g:Nat) (x:Obj) (h:w.heap[g]?=some x):(w.alloc o).heap[g]?=some x:=(((Below.refl _ w).alloc (Nat.le_refl _) o).block g (ap h)).trans h
theorem gM (h:w.cell? a=some v):∀o,(w.alloc o).cell? a=some v:=fun o=>(((Below.refl _ w).alloc (Nat.le_refl _) o).cell (World.block_lt_of_cell? w a h)).trans h
theorem mp (h:w.cell? a=some v):∀o p,((w.alloc o).alloc p).cell? a=some v:=fun o p=>gM (gM h o) p
theorem rm (h:w.cell? a=some v):∀o p q,(((w.alloc o).alloc p).alloc q).cell? a=some v:=fun o p q=>gM (mp h o p) q
theorem Bh (u:FrameMode) (b b':Bool) (col wait col' wait':Int) (c d h g:Nat) (tv gv tv' gv':Value) (w:World)
  (hg:w.heap[g]?=some (.cells (sk b col wait tv gv) 167 (0,0))) (hc:w.heap[c]?=some (.cells #[tv'] 164 (0,0))) (hd:w.heap[d]?=some (.cells #[gv'] 165 (0,0))) (hh:w.heap[h]?=some (.cells #[.pointer (some ⟨g,0,none⟩)] 111 (0,0)))
  (htv:∃p n cap,tv=.slice p n cap) (hgv:∃p n cap,gv=.slice p n cap) (htv':∃p n cap,tv'=.slice p n cap) (hgv':∃p n cap,gv'=.slice p n cap) :
  CallsD Tryz.prog 199 #[.agg #[.bool b',.int .i64 col',.int .i64 wait'],.pointer (some ⟨c,0,none⟩),.pointer (some ⟨d,0,none⟩),.pointer (some ⟨h,0,none⟩)] u w fun e u' w'=>u'=u/\(e=.returned (.tuple #[])/\w'.heap[g]?=some (.cells (sk b' col' wait' tv' gv') 167 (0,0))/\Kp (fun k=>k=g) w w'):=by
 have gl:=ap hg;have cl:=ap hc;have dl:=ap hd;have hl:=ap hh;have g0:w.cell? ⟨g,0,none⟩=some (.bool b):=aa hg rfl;have g1:w.cell? ⟨g,1,none⟩=some (.int .i64 col):=aa hg rfl;have g2:w.cell? ⟨g,2,none⟩=some (.int .i64 wait):=aa hg rfl;have g3:w.cell? ⟨g,3,none⟩=some tv:=aa hg rfl;have g4:w.cell? ⟨g,4,none⟩=some gv:=aa hg rfl;have f0:w.frozen? ⟨g,0,none⟩=false:=ak hg;have f1:w.frozen? ⟨g,1,none⟩=false:=ak hg;have f2:w.frozen? ⟨g,2,none⟩=false:=ak hg;have f3:w.frozen? ⟨g,3,none⟩=false:=ak hg;have f4:w.frozen? ⟨g,4,none⟩=false:=ak hg;have c0:w.cell? ⟨c,0,none⟩=some tv':=aa hc rfl;have d0:w.cell? ⟨d,0,none⟩=some gv':=aa hd rfl;have h0:w.cell? ⟨h,0,none⟩=some (.pointer (some ⟨g,0,none⟩)):=aa hh rfl;obtain ⟨p1,n1,k1,rfl⟩:=htv;obtain ⟨p2,n2,k2,rfl⟩:=hgv;obtain ⟨p3,n3,k3,rfl⟩:=htv';obtain ⟨p4,n4,k4,rfl⟩:=hgv'
 go_enter_d Tryz.func199,Tryz.ntmps199
 go_wp2_with fail
 go_region
 go_wp2_with fail
 go_end0
 refine ⟨rfl,?_,?_⟩
 ·refine (eE _ _ _ _ ?_);exact af (af (af (af (af hg 3 _) 4 _) 0 _) 1 _) 2 _
 ·refine Kp.same (W:=(((((w.setCell ⟨g,3,none⟩ (.slice p3 n3 k3)).setCell ⟨g,4,none⟩ (.slice p4 n4 k4)).setCell ⟨g,0,none⟩ (.bool b')).setCell ⟨g,1,none⟩ (.int .i64 col')).setCell ⟨g,2,none⟩ (.int .i64 wait')).alloc (.cells #[.bool b',.int .i64 col',.int .i64 wait'] 163)) ?_ rfl rfl rfl rfl;refine Kp.alloc ?_ _;exact (((((Kp.refl _ w).trans (Kp.set _ _ _ _)).trans (Kp.set _ _ _ _)).trans (Kp.set _ _ _ _)).trans (Kp.set _ _ _ _)).trans (Kp.set _ _ _ _)
end Go.Proofs.YtpdlohfdjiaegaaGreatDoor.Lw
namespace Go.Proofs.YtpdlohfdjiaegaaGreatDoor.Lw
open Go.Proofs.YtpdlohfdjiaegaaGreatDoor.Lx
open Go.RowKit Go.Shelf
open Go.Lib (strCells strCells_length)
def Tryz.lays169_ren:Go.Shelf.Ren:=⟨fun|169=>116|n=>n,fun|70=>170|9=>9|0=>0|72=>172|37=>164|127=>228|3=>3|5=>5|n=>n,fun|n=>n⟩
theorem Tryz.lays169:Go.Proofs.Lays.n169 Tryz.prog Tryz.lays169_ren:={
 mixed:=by kernel_rfl
 f169:=Tryz.func116.trans (congrArg some (by kernel_rfl))
 t0:=Tryz.underlying0
 a0:=Tryz.isAgg0
 z0:=Tryz.sizeOf0
 v0:=Tryz.zeroValue0
 t3:=Tryz.underlying3
 a3:=Tryz.isAgg3
 z3:=Tryz.sizeOf3
 v3:=Tryz.zeroValue3
 t9:=Tryz.underlying9
 a9:=Tryz.isAgg9
 z9:=Tryz.sizeOf9
 v9:=Tryz.zeroValue9
 t37:=Tryz.underlying164
 a37:=Tryz.isAgg164
 z37:=Tryz.sizeOf164
 v37:=Tryz.zeroValue164
 t70:=Tryz.underlying170
 a70:=Tryz.isAgg170
 z70:=Tryz.sizeOf170
 v70:=Tryz.zeroValue170
 t72:=Tryz.underlying172
 a72:=Tryz.isAgg172
 z72:=Tryz.sizeOf172
 v72:=Tryz.zeroValue172
 t127:=Tryz.underlying228
 a127:=Tryz.isAgg228
 z127:=Tryz.sizeOf228
 v127:=Tryz.zeroValue228 }
theorem Tryz.Builder_Extra_169:Builder.Extra Tryz.prog Tryz.lays169_ren:={
 sizeBuilder:=by kernel_rfl
 liesBuilder:=by kernel_rfl
 t5:=Tryz.underlying5
 a5:=Tryz.isAgg5
 z5:=Tryz.sizeOf5
 v5:=Tryz.zeroValue5
 infoByte:=by kernel_rfl
 cellsByte:=by kernel_rfl
 sizeByte:=by kernel_rfl
 neB5:=by decide }
def Tryz.lays165_ren:Go.Shelf.Ren:=⟨fun|165=>111|240=>164|241=>165|276=>201|277=>202|n=>n,fun|70=>170|3=>3|0=>0|4=>4|9=>9|20=>20|72=>172|37=>164|164=>246|5=>5|n=>n,fun|n=>n⟩
theorem Tryz.lays165:Go.Proofs.Lays.n165 Tryz.prog Tryz.lays165_ren:={
 mixed:=by kernel_rfl
 f165:=Tryz.func111.trans (congrArg some (by kernel_rfl))
 f240:=Tryz.func164.trans (congrArg some (by kernel_rfl))
 f241:=Tryz.func165.trans (congrArg some (by kernel_rfl))
 f276:=Tryz.func201.trans (congrArg some (by kernel_rfl))
 f277:=Tryz.func202.trans (congrArg some (by kernel_rfl))
 t0:=Tryz.underlying0
 a0:=Tryz.isAgg0
 z0:=Tryz.sizeOf0
 v0:=Tryz.zeroValue0
 t3:=Tryz.underlying3
 a3:=Tryz.isAgg3
 z3:=Tryz.sizeOf3
 v3:=Tryz.zeroValue3
 t4:=Tryz.underlying4
 a4:=Tryz.isAgg4
 z4:=Tryz.sizeOf4
 v4:=Tryz.zeroValue4
 t9:=Tryz.underlying9
 a9:=Tryz.isAgg9
 z9:=Tryz.sizeOf9
 v9:=Tryz.zeroValue9
 t20:=Tryz.underlying20
 a20:=Tryz.isAgg20
 z20:=Tryz.sizeOf20
 v20:=Tryz.zeroValue20
 t37:=Tryz.underlying164
 a37:=Tryz.isAgg164
 z37:=Tryz.sizeOf164
 v37:=Tryz.zeroValue164
 t70:=Tryz.underlying170
 a70:=Tryz.isAgg170
 z70:=Tryz.sizeOf170
 v70:=Tryz.zeroValue170
 t72:=Tryz.underlying172
 a72:=Tryz.isAgg172
 z72:=Tryz.sizeOf172
 v72:=Tryz.zeroValue172
 t164:=Tryz.underlying246
 a164:=Tryz.isAgg246
 z164:=Tryz.sizeOf246
 v164:=Tryz.zeroValue246 }
theorem Tryz.Builder_Extra_165:Builder.Extra Tryz.prog Tryz.lays165_ren:={
 sizeBuilder:=by kernel_rfl
 liesBuilder:=by kernel_rfl
 t5:=Tryz.underlying5
 a5:=Tryz.isAgg5
 z5:=Tryz.sizeOf5
 v5:=Tryz.zeroValue5
 infoByte:=by kernel_rfl
 cellsByte:=by kernel_rfl
 sizeByte:=by kernel_rfl
 neB5:=by decide }
def Tryz.lays148_ren:Go.Shelf.Ren:=⟨fun|148=>200|222=>232|223=>233|269=>247|n=>n,fun|9=>9|3=>3|4=>4|5=>5|146=>250|51=>249|46=>225|n=>n,fun|n=>n⟩
theorem Tryz.lays148:Go.Proofs.Lays.n148 Tryz.prog Tryz.lays148_ren:={
 mixed:=by kernel_rfl
 f148:=Tryz.func200.trans (congrArg some (by kernel_rfl))
 f222:=Tryz.func232.trans (congrArg some (by kernel_rfl))
 f223:=Tryz.func233.trans (congrArg some (by kernel_rfl))
 f269:=Tryz.func247.trans (congrArg some (by kernel_rfl))
 t3:=Tryz.underlying3
 a3:=Tryz.isAgg3
 z3:=Tryz.sizeOf3
 v3:=Tryz.zeroValue3
 t4:=Tryz.underlying4
 a4:=Tryz.isAgg4
 z4:=Tryz.sizeOf4
 v4:=Tryz.zeroValue4
 t5:=Tryz.underlying5
 a5:=Tryz.isAgg5
 z5:=Tryz.sizeOf5
 v5:=Tryz.zeroValue5
 t9:=Tryz.underlying9
 a9:=Tryz.isAgg9
 z9:=Tryz.sizeOf9
 v9:=Tryz.zeroValue9
 t46:=Tryz.underlying225
 a46:=Tryz.isAgg225
 z46:=Tryz.sizeOf225
 v46:=Tryz.zeroValue225
 t51:=Tryz.underlying249
 a51:=Tryz.isAgg249
 z51:=Tryz.sizeOf249
 v51:=Tryz.zeroValue249
 t146:=Tryz.underlying250
 a146:=Tryz.isAgg250
 z146:=Tryz.sizeOf250
 v146:=Tryz.zeroValue250 }
open Go.RowKit Go.Lib in

def Tryz.lays105_ren:Go.Shelf.Ren:=⟨fun|105=>115|212=>166|99=>90|165=>111|166=>114|170=>167|169=>116|263=>203|264=>204|206=>141|240=>164|241=>165|276=>201|277=>202|n=>n,fun|9=>9|3=>3|4=>4|20=>20|0=>0|46=>225|109=>226|5=>5|72=>172|76=>178|51=>249|146=>250|53=>252|148=>253|70=>170|37=>164|75=>177|127=>228|164=>246|80=>119|n=>n,fun|n=>n⟩
theorem Tryz.lays105:Go.Proofs.Lays.n105 Tryz.prog Tryz.lays105_ren:={
 mixed:=by kernel_rfl
 f99:=Tryz.func90.trans (congrArg some (by kernel_rfl))
 f105:=Tryz.func115.trans (congrArg some (by kernel_rfl))
 f165:=Tryz.func111.trans (congrArg some (by kernel_rfl))
 f166:=Tryz.func114.trans (congrArg some (by kernel_rfl))
 f169:=Tryz.func116.trans (congrArg some (by kernel_rfl))
 f170:=Tryz.func167.trans (congrArg some (by kernel_rfl))
 f206:=Tryz.func141.trans (congrArg some (by kernel_rfl))
 f212:=Tryz.func166.trans (congrArg some (by kernel_rfl))
 f240:=Tryz.func164.trans (congrArg some (by kernel_rfl))
 f241:=Tryz.func165.trans (congrArg some (by kernel_rfl))
 f263:=Tryz.func203.trans (congrArg some (by kernel_rfl))
 f264:=Tryz.func204.trans (congrArg some (by kernel_rfl))
 f276:=Tryz.func201.trans (congrArg some (by kernel_rfl))
 f277:=Tryz.func202.trans (congrArg some (by kernel_rfl))
 t0:=Tryz.underlying0
 a0:=Tryz.isAgg0
 z0:=Tryz.sizeOf0
 v0:=Tryz.zeroValue0
 t3:=Tryz.underlying3
 a3:=Tryz.isAgg3
 z3:=Tryz.sizeOf3
 v3:=Tryz.zeroValue3
 t4:=Tryz.underlying4
 a4:=Tryz.isAgg4
 z4:=Tryz.sizeOf4
 v4:=Tryz.zeroValue4
 t5:=Tryz.underlying5
 a5:=Tryz.isAgg5
 z5:=Tryz.sizeOf5
 v5:=Tryz.zeroValue5
 t9:=Tryz.underlying9
 a9:=Tryz.isAgg9
 z9:=Tryz.sizeOf9
 v9:=Tryz.zeroValue9
 t20:=Tryz.underlying20
 a20:=Tryz.isAgg20
 z20:=Tryz.sizeOf20
 v20:=Tryz.zeroValue20
 t37:=Tryz.underlying164
 a37:=Tryz.isAgg164
 z37:=Tryz.sizeOf164
 v37:=Tryz.zeroValue164
 t46:=Tryz.underlying225
 a46:=Tryz.isAgg225
 z46:=Tryz.sizeOf225
 v46:=Tryz.zeroValue225
 t51:=Tryz.underlying249
 a51:=Tryz.isAgg249
 z51:=Tryz.sizeOf249
 v51:=Tryz.zeroValue249
 t53:=Tryz.underlying252
 a53:=Tryz.isAgg252
 z53:=Tryz.sizeOf252
 v53:=Tryz.zeroValue252
 t70:=Tryz.underlying170
 a70:=Tryz.isAgg170
 z70:=Tryz.sizeOf170
 v70:=Tryz.zeroValue170
 t72:=Tryz.underlying172
 a72:=Tryz.isAgg172
 z72:=Tryz.sizeOf172
 v72:=Tryz.zeroValue172
 t75:=Tryz.underlying177
 a75:=Tryz.isAgg177
 z75:=Tryz.sizeOf177
 v75:=Tryz.zeroValue177
 t76:=Tryz.underlying178
 a76:=Tryz.isAgg178
 z76:=Tryz.sizeOf178
 v76:=Tryz.zeroValue178
 t109:=Tryz.underlying226
 a109:=Tryz.isAgg226
 z109:=Tryz.sizeOf226
 v109:=Tryz.zeroValue226
 t127:=Tryz.underlying228
 a127:=Tryz.isAgg228
 z127:=Tryz.sizeOf228
 v127:=Tryz.zeroValue228
 t146:=Tryz.underlying250
 a146:=Tryz.isAgg250
 z146:=Tryz.sizeOf250
 v146:=Tryz.zeroValue250
 t148:=Tryz.underlying253
 a148:=Tryz.isAgg253
 z148:=Tryz.sizeOf253
 v148:=Tryz.zeroValue253
 t164:=Tryz.underlying246
 a164:=Tryz.isAgg246
 z164:=Tryz.sizeOf246
 v164:=Tryz.zeroValue246 }
theorem Tryz.Builder_Extra_105:Builder.Extra Tryz.prog Tryz.lays105_ren:={
 sizeBuilder:=by kernel_rfl
 liesBuilder:=by kernel_rfl
 t5:=Tryz.underlying5
 a5:=Tryz.isAgg5
 z5:=Tryz.sizeOf5
 v5:=Tryz.zeroValue5
 infoByte:=by kernel_rfl
 cellsByte:=by kernel_rfl
 sizeByte:=by kernel_rfl
 neB5:=by decide }
open Go.RowKit Go.Lib in

theorem Cn (B b n:Nat) (w:World) (hB:B<=b) (hbk:w.heap[b]?=some (.cells #[.pointer none,.slice none 0 0] 172 (0,0))) (hBw:B<=w.heap.size) (hn:n<=281474976710656) :
  Da 111 #[.pointer (some ⟨b,0,none⟩),.int .i64 n] w fun e w'=>e=.returned (.tuple #[])/\(Lib.BuilderAt 172 5 B b (.pointer (some ⟨b,0,none⟩)) [] w'/\Below B w w'):=Any.Builder_Grow_fresh Tryz.lays165 Tryz.Builder_Extra_165 B b n w hB hbk hBw hn
theorem zl (B b:Nat) (l:List UInt8) (w:World) (h:Lib.IsBuilder 172 5 B b (Lib.byteCells l) w) (hBw:B<=w.heap.size) :
  Da 116 #[.pointer (some ⟨b,0,none⟩)] w fun e w'=>e=.returned (.string ⟨l.toArray⟩)/\Below B w w':=Any.Builder_String_any Tryz.lays169 Tryz.Builder_Extra_169 B b l w h hBw
theorem A0 (s sub:ByteArray) (h1:sub.size=1) (hs:s.size<4611686018427387904) (w:World) :
  Da 200 #[.string s,.string sub] w fun e w'=>e=.returned (.int .i64 (Lib.lastIndexByte s ((sub[0]'(by omega)).toNat:Int)))/\w'=w:=Any.strings_LastIndex_one Tryz.lays148 s sub h1 hs w
theorem oY (s:ByteArray) (c:Nat) (w:World) (hc:c<=9223372036854775807) (hlen:s.size*c<=140737488355328) :
  Da 115 #[.string s,.int .i64 c] w fun e w'=>e=.returned (.string ⟨(Lib.repeatL s.data.toList c).toArray⟩)/\Below w.heap.size w w':=Any.strings_Repeat Tryz.lays105 Tryz.Builder_Extra_105 s c w hc hlen
theorem Bv (b:Nat) (w:World) (h0:w.cell? ⟨b,0,none⟩=some (.pointer (some ⟨b,0,none⟩))) :
  Da 164 #[.pointer (some ⟨b,0,none⟩)] w fun e w'=>e=.returned (.tuple #[])/\w'=w:=Any.Builder_copyCheck_used (P:=Tryz.prog) (ρ:=Tryz.lays105_ren) { Tryz.lays105 with } Tryz.Builder_Extra_105.toX72 b w h0
end Go.Proofs.YtpdlohfdjiaegaaGreatDoor.Lw
