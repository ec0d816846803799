import Derived.Lib.Bytealg
import Derived.Lib.Strings
import Derived.Defers
import Derived.Shelf.Strings.Builder1
import Derived.Shelf.Strings.Builder2
import Derived.Shelf.Strings.LastIndex
import Derived.Shelf.Strings.Repeat
import Derived.OwnWalk
import Derived.Lib.LaidTab
import Derived.Lib.ItoaWalk
import Derived.Test.YtcjiapphbpiffaaGreatDoorM02
set_option linter.unusedVariables false
set_option linter.unusedSimpArgs false
set_option maxHeartbeats 1000000
namespace Go.Proofs.YtcjiapphbpiffaaGreatDoor.Lw
open Go.Proofs.YtcjiapphbpiffaaGreatDoor.Lx
theorem Ix {P:UInt8->Prop}(h:∀n:Fin 256,P (UInt8.ofNat n.val)) (c:UInt8):P c:=by
 have:=h ⟨c.toNat,c.toNat_lt⟩
 simpa using this
structure Dc where
 k:Int
 t:ByteArray
 b:Int
 i:Int
 e:Bool
 deriving DecidableEq
def bE:ByteArray:=⟨#[]⟩
def jw (s:ByteArray):List UInt8:=s.data.toList
theorem tK {a b:ByteArray}(h:jw a=jw b):a=b:=by
 cases a;cases b;simp only [jw] at h;rw [UU.1 h]
theorem pG (s:ByteArray):(jw s).length=s.size:=by simp [jw]
def A6 (c:UInt8):Bool:=c == 32 || c == 10
def fu (s:ByteArray):Bool:=decide (1<=s.size) && (decide (s.size<=65535) && (!A6 ((jw s).getD 0 0) && !A6 ((jw s).getD (s.size-1) 0)))
def iC (n:Int):Bool:=decide (0<=n) && decide (n<=1000)
def rt (d:Dc):Bool:=
 if d.k=1 then fu d.t && decide (d=⟨1,d.t,0,0,false⟩)
 else if d.k=3 then iC d.b && decide (d=⟨3,bE,d.b,0,false⟩)
 else if d.k=6 then iC d.i && decide (d=⟨6,bE,0,d.i,d.e⟩)
 else if d.k=2\/d.k=4\/d.k=5\/d.k=7 then decide (d=⟨d.k,bE,0,0,false⟩) else false
inductive Rt:Dc->Prop
 |text (t:ByteArray) (h:fu t=true):Rt ⟨1,t,0,0,false⟩
 |brk (n:Int) (h:iC n=true):Rt ⟨3,bE,n,0,false⟩
 |beg (n:Int) (e:Bool) (h:iC n=true):Rt ⟨6,bE,0,n,e⟩
 |blank:Rt ⟨2,bE,0,0,false⟩
 |hard:Rt ⟨4,bE,0,0,false⟩
 |empty:Rt ⟨5,bE,0,0,false⟩
 | «end»:Rt ⟨7,bE,0,0,false⟩
theorem mO {d:Dc}(h:rt d=true):Rt d:=by
 unfold rt at h
 split at h
 ·simp only [Tc,Tz] at h;obtain ⟨C,F⟩:=h;rw [F];exact .text _ C
 ·split at h
  ·simp only [Tc,Tz] at h;obtain ⟨C,F⟩:=h;rw [F];exact .brk _ C
  ·split at h
   ·simp only [Tc,Tz] at h;obtain ⟨C,F⟩:=h;rw [F];exact .beg _ _ C
   ·split at h
    ·rename_i G
     simp only [Tz] at h;obtain ⟨k,t,b,i,e⟩:=d;simp only [Dc.mk.injEq,true_and] at h;obtain ⟨rfl,rfl,rfl,rfl⟩:=h;simp only at G
     rcases G with rfl|rfl|rfl|rfl
     ·exact .blank
     ·exact .hard
     ·exact .empty
     ·exact .end
    ·cases h
theorem sP {n:Int}(h:iC n=true):0<=n/\n<=1000:=by simpa [iC] using h
theorem nG {t:ByteArray}(h:fu t=true):1<=t.size/\t.size<=65535:=by
 simp only [fu,Tc,Tz] at h;exact ⟨h.1,h.2.1⟩
def dD (k:Int):Int:=if k=6 then 1 else if k=7 then -1 else 0
def cG:Int->Nat->List Dc->Option Nat
 |o,j,[]=>if 0<o then some j else none
 |o,j,d :: r=>if rt d=true/\0<=o+dD d.k then cG (o+dD d.k) (j+1) r else some j
def mX (l:List Dc):Int × Int:=if 2097152<l.length then (2,0) else match cG 0 0 l with|some j=>(70,(j:Int))|none=>(0,0)
theorem tX:∀(l:List Dc) (o:Int) (j:Nat),cG o j l=none->∀d∈l,rt d=true
 |[],_,_,_=>by simp
 |d :: r,o,j,h=>by
  simp only [cG] at h
  split at h
  ·rename_i F
   intro x C
   rcases Tt.1 C with rfl|C
   ·exact F.1
   ·exact tX r _ _ h x C
  ·cases h
theorem Gr:∀(l:List Dc) (o:Int) (j k:Nat),cG o j l=some k->k<=j+l.length
 |[],o,j,k,h=>by
  simp only [cG] at h
  split at h <;> cases h
  simp
 |d :: r,o,j,k,h=>by
  simp only [cG] at h
  split at h
  ·have:=Gr r _ _ k h;simp;omega
  ·cases h;omega
theorem ON (l:List Dc):0<=(mX l).1/\(mX l).1<=70/\0<=(mX l).2/\(mX l).2<=2097152:=by
 unfold mX
 split
 ·simp
 ·rename_i F
  cases C:cG 0 0 l with
  |some j=>have:=Gr l 0 0 j C;simp;omega
  |none=>simp
end Go.Proofs.YtcjiapphbpiffaaGreatDoor.Lw
namespace Go.Proofs.YtcjiapphbpiffaaGreatDoor.Lw
open Go.Proofs.YtcjiapphbpiffaaGreatDoor.Lx
open Go.ChangeShapes Go.WideShapes Go.ChangeAt Go.RowKit
def lJ:List (Int × Int × Int):=[(768,879,0),(4352,4447,2),(8203,8207,0),(8400,8447,0),(11904,12350,2),(12353,42191,2),(44032,55203,2),(63744,64255,2),(65024,65039,0),(65056,65071,0),(65072,65135,2),(65280,65376,2),(65504,65510,2),(127744,128591,2),(129280,129535,2),(131072,262141,2)]
def zF (i:Nat):Int:=(lJ.getD i (0,0,0)).1
def BL (i:Nat):Int:=(lJ.getD i (0,0,0)).2.1
def Pm (i:Nat):Int:=(lJ.getD i (0,0,0)).2.2
def kl (w:World):Prop:=∀i,i<16->w.cell? ⟨5,i*3,none⟩=some (.int .i64 (zF i))/\w.cell? ⟨5,i*3+1,none⟩=some (.int .i64 (BL i))/\w.cell? ⟨5,i*3+2,none⟩=some (.int .i64 (Pm i))
theorem kl.below {w w':World}(h:kl w) (C:Below w.heap.size w w'):kl w':=by
 intro i J;obtain ⟨G,H,I⟩:=h i J;have F:=S9 w _ G;exact ⟨(C.cell (p:=⟨5,i*3,none⟩) F).trans G,(C.cell (p:=⟨5,i*3+1,none⟩) F).trans H,(C.cell (p:=⟨5,i*3+2,none⟩) F).trans I⟩
theorem CU:(Rows.laid_colophon_width_spans:DataW Unit)=.agg (lJ.map fun x=>.agg [.lit (.int .i64 x.1),.lit (.int .i64 x.2.1),.lit (.int .i64 x.2.2)]):=by kernel_rfl
theorem vf {W:World}{L:List (String × DataW Unit)}(I:(L.all fun x=>x.2.handleName?.isNone)=true) (hm:("colophon/width.spans",Rows.laid_colophon_width_spans)∈L) (h:laidMetH Tryz.prog L W):kl W:=by
 rw [UZ _ _ _ I] at h;obtain ⟨ps,J,_,_⟩:=h;obtain ⟨g,t,cs,fuel,p,hg,ht,hv,hd⟩:=iP L ps J _ _ hm;obtain rfl:=TE ((show Tryz.prog.globalNamed "colophon/width.spans"=some 5 by kernel_rfl).symm.trans hg);obtain rfl:=TE ((show (Tryz.prog.globals[5]?).map (·.type)=some 283 by kernel_rfl).symm.trans ht);rw [CU] at hd;obtain ⟨xs,m,_,ex,_,hl,hel⟩:=V9 Tryz.underlying283 hd;have c3:Tryz.prog.cellsOf 3=1:=by kernel_rfl
 have H:Tryz.prog.cellsOf 282=3:=by kernel_rfl
 intro i hi;have U:=hel i hi;rw [H,Pi (by omega)] at U;obtain ⟨y0,y1,y2,n,ey,_,M,O,Q⟩:=Deep.trod_struct3 Tryz.underlying282 U;simp only [c3] at M O Q;obtain ⟨z0,a0,b0,_⟩:=Vq TO M;obtain ⟨z1,a1,b1,_⟩:=Vq TO O;obtain ⟨z2,a2,b2,_⟩:=Vq TO Q;have Y:lJ.length=16:=rfl;have Z:(xs.map (·.1))=lJ.map fun x=>(.agg [.lit (.int .i64 x.1),.lit (.int .i64 x.2.1),.lit (.int .i64 x.2.2)]:DataW Unit):=(WL (U9 ex).1).symm
 have F:(xs.map (·.1))[i]?=(lJ.map fun x=>(.agg [.lit (.int .i64 x.1),.lit (.int .i64 x.2.1),.lit (.int .i64 x.2.2)]:DataW Unit))[i]?:=by rw [Z]
 rw [T8,T8,Pi (by omega:i<xs.length),Pi (by omega:i<lJ.length),ey,b0,b1,b2] at F;simp only [UM,Tp,DataW.agg.injEq,List.cons.injEq,Wn,Lit.int.injEq,true_and,and_true] at F;obtain ⟨f0,f1,f2⟩:=F;have G:lJ.getD i (0,0,0)=lJ[i]:=by rw [List.getD,Pi (show i<lJ.length by omega)];rfl
 have C:∀(o:Nat) (z:Int),o<3->(((cs.toList.drop (i*3)).take 3).drop o).take 1=[.int .i64 z]->W.cell? ⟨5,i*3+o,none⟩=some (.int .i64 z):=by
  intro o z ho hz;rw [VE hg hv (i*3+o)];have S:((((cs.toList.drop (i*3)).take 3).drop o).take 1)[0]?=some (.int .i64 z):=by rw [hz];rfl
  rw [TV,IO (by omega),TK,TV,IO (by omega),TK] at S
  simpa using S
 refine ⟨?_,?_,?_⟩
 ·have:=C 0 z0 (by omega) (by simpa using a0);rw [TS] at this;rw [this,zF,G,f0];rfl
 ·have:=C 1 z1 (by omega) (by simpa using a1);rw [this,BL,G,f1];rfl
 ·have:=C 2 z2 (by omega) (by simpa using a2);rw [this,Pm,G,f2];rfl
end Go.Proofs.YtcjiapphbpiffaaGreatDoor.Lw
namespace Go.Proofs.YtcjiapphbpiffaaGreatDoor.Lw
open Go.Proofs.YtcjiapphbpiffaaGreatDoor.Lx
open Go.RowKit
variable {p:Int}
def zE (p:Int):Prop:=(4352<=p/\p<=4447)\/(11904<=p/\p<=12350)\/(12353<=p/\p<=42191)\/(44032<=p/\p<=55203)\/(63744<=p/\p<=64255)\/(65072<=p/\p<=65135)\/(65280<=p/\p<=65376)\/(65504<=p/\p<=65510)\/(127744<=p/\p<=128591)\/(129280<=p/\p<=129535)\/(131072<=p/\p<=262141)
def L9 (p:Int):Prop:=(768<=p/\p<=879)\/(8203<=p/\p<=8207)\/(8400<=p/\p<=8447)\/(65024<=p/\p<=65039)\/(65056<=p/\p<=65071)
instance (p:Int):Decidable (zE p):=by unfold zE;infer_instance
instance (p:Int):Decidable (L9 p):=by unfold L9;infer_instance
def wd (p:Int):Int:=if zE p then 2 else if L9 p then 0 else 1
theorem Ma (p:Int):0<=wd p/\wd p<=2:=by unfold wd;split <;> (try split) <;> omega
theorem M4 (h:zE p):wd p=2:=by unfold wd;rw [IO h]
theorem M3 (h:L9 p):wd p=0:=by
 unfold wd;rw [Eq (by unfold L9 at h;unfold zE;omega),IO h]
theorem M5 (h:¬zE p) (C:¬L9 p):wd p=1:=by unfold wd;rw [Eq h,Eq C]
theorem Jn (i:Nat) (p:Int) (G:i<16) (C:zF i<=p) (F:p<=BL i):Pm i=wd p:=by
 rcases i with _|_|_|_|_|_|_|_|_|_|_|_|_|_|_|_|i
 all_goals simp [zF,BL,Pm,lJ,List.getD] at C F ⊢
 all_goals first|exact (M4 (by unfold zE;omega)).symm|exact (M3 (by unfold L9;omega)).symm|omega
theorem Jo (p:Int) (h:∀k,k<16->p<zF k\/BL k<p):wd p=1:=by
 have M:=h 0 (by omega);have O:=h 1 (by omega);have Q:=h 2 (by omega);have S:=h 3 (by omega);have U:=h 4 (by omega);have Y:=h 5 (by omega);have Z:=h 6 (by omega);have a7:=h 7 (by omega);have a8:=h 8 (by omega);have a9:=h 9 (by omega);have C:=h 10 (by omega);have F:=h 11 (by omega);have G:=h 12 (by omega);have H:=h 13 (by omega);have I:=h 14 (by omega);have J:=h 15 (by omega);simp only [zF,BL,lJ,List.getD,List.getElem?_cons_zero,Ud,Wa] at M O Q S U Y Z a7 a8 a9 C F G H I J;refine M5 ?_ ?_
 ·unfold zE;omega
 ·unfold L9;omega
theorem Na (i k:Nat) (C:k<16) (h:i<=k):zF i<=zF k:=by
 have:∀k,k<16->∀i,i<16->i<=k->zF i<=zF k:=by decide +kernel
 exact this k C i (by omega) h
theorem vg (i:Nat) (p:Int) (h:∀k,k<i->BL k<p) (F:i<16->p<zF i):wd p=1:=by
 refine Jo p fun k G=>?_
 by_cases C:k<i
 ·exact .inr (h k C)
 ·have:=F (by omega);have:=Na i k G (by omega);omega
theorem nK {a b:Int}(h:a=b):Ending.returned (.int .i64 a)=.returned (.int .i64 b):=by rw [h]
theorem NR (p:Int) (w:World) (H:kl w) :
  Ta 178 #[.int .i64 p] w fun e w'=>e=.returned (.int .i64 (wd p))/\w'=w:=by
 go_enter Tryz.func178,Tryz.ntmps178
 go_wp2_with fail
 go_loopw [4] (fun i wr=>wr=w/\∃k:Nat,k<=16/\i=.int .i64 k/\∀j,j<k->BL j<p) (fun i _=>16-(intOf i).toNat)
 case atStart=>exact ⟨rfl,0,by omega,rfl,fun j O=>by omega⟩
 case round=>
  obtain ⟨rfl,k,S,rfl,C⟩:=hrel
  by_cases F:k<16
  ·obtain ⟨c0,c1,c2⟩:=H k F;have Q:Hid (∀j,j<k->BL j<p):=C;have I:Hid (zF k<=p->p<=BL k->Pm k=wd p):=Jn k p F;have G:Hid (p<zF k->wd p=1):=fun h=>vg k p C (fun _=>h)
   have HN:Hid (BL k<p->∀j,j<k+1->BL j<p):=fun h j O=>by
    by_cases e:j=k
    ·subst e;exact h
    ·exact C j (by omega)
   clear C H
   generalize zF k=l at *
   generalize Pm k=c at *
   generalize BL k=u at *
   by_cases J:p<l
   ·go_wp2_with fail
    go_ret
    exact ⟨nK (G.out J).symm,rfl⟩
   ·by_cases M:p<=u
    ·go_wp2_with fail
     go_ret
     exact ⟨nK (I.out (by omega) M),rfl⟩
    ·go_wp2_with fail
     exact ⟨⟨trivial,k+1,by omega,by go_num,HN.out (by omega)⟩,by simp [intOf];omega⟩
  ·have G:Hid (wd p=1):=vg k p C (fun h=>absurd h F);clear C H
   go_wp2_with fail
   go_ret
   exact ⟨nK G.out.symm,rfl⟩
end Go.Proofs.YtcjiapphbpiffaaGreatDoor.Lw
namespace Go.Proofs.YtcjiapphbpiffaaGreatDoor.Lw
open Go.Proofs.YtcjiapphbpiffaaGreatDoor.Lx
def cl:List Nat->Int
 |[]=>0
 |p :: r=>wd (p:Int)+cl r
theorem OM (a b:List Nat):cl (a++b)=cl a+cl b:=by
 induction a with
 |nil=>simp [cl]
 |cons x r ih=>simp only [Tr,cl,ih];omega
theorem Qr (l:List Nat):0<=cl l/\cl l<=2*l.length:=by
 induction l with
 |nil=>simp [cl]
 |cons x r ih=>
  have:=Ma (x:Int);simp only [cl,List.length_cons];omega
def cw (s:ByteArray) (k:Nat):Int:=cl ((J2 s).take k)
def tw (s:ByteArray):Int:=cl (J2 s)
theorem LA (s:ByteArray) (k:Nat) (h:k<(P s).length):cw s (k+1)=cw s k+wd (dp s (st s k)):=by
 unfold cw;rw [Fg s k h,OM];simp [cl]
theorem GX (s:ByteArray) (k:Nat) (h:(P s).length<=k):cw s k=tw s:=by
 unfold cw tw;rw [TZ (by rw [Al];omega)]
theorem MH (s:ByteArray) (k:Nat):0<=cw s k/\cw s k<=2*s.size:=by
 have h:=Qr ((J2 s).take k);have C:=BF s;have F:((J2 s).take k).length<=(P s).length:=by rw [Ty,Al];omega
 unfold cw;omega
theorem qX (s:ByteArray):0<=tw s/\tw s<=2*s.size:=by
 rw [<-GX s _ (gt _)];exact MH s _
end Go.Proofs.YtcjiapphbpiffaaGreatDoor.Lw
namespace Go.Proofs.YtcjiapphbpiffaaGreatDoor.Lw
open Go.Proofs.YtcjiapphbpiffaaGreatDoor.Lx
open Go.RowKit
theorem lD (s:ByteArray) (w:World) (I:kl w) (hs:s.size<=8589934592) :
  Ta 141 #[.string s] w fun e w'=>e=.returned (.int .i64 (tw s))/\Below w.heap.size w w':=by
 have U:=BF s
 go_enter Tryz.func141,Tryz.ntmps141
 go_wp2_with fail
 go_loopw [3] (fun n w'=>∃k:Nat,k<=(P s).length/\w'=w.iter s (st s k)/\n=.int .i64 (cw s k)) (fun _ w'=>s.size-w'.iterPos w.heap.size)
 case atStart=>exact ⟨0,by omega,rfl,rfl⟩
 case round=>
  obtain ⟨k,Z,rfl,rfl⟩:=hrel
  by_cases C:k<(P s).length
  ·have G:=(gz s k).2 C;have hw:=aW s (st s k) G;have Q:=xa s (st s k);have Y:=MH s k;have S:=Ma (dp s (st s k));have M:Hid (∀pos,kl (w.iter s pos)):=fun pos=>I.below (eC w s pos)
   have J:Hid (st s (k+1)=st s k+dw s (st s k)):=fk s k C;have H:Hid (cw s (k+1)=cw s k+wd (dp s (st s k))):=LA s k C;have hnx:∀F,(Instr.next (.pointer (some ⟨w.heap.size,0,none⟩)) true F).run Tryz.prog (w.iter s (st s k))=.ok (.tuple #[.bool true,.int .i64 (st s k),.int .i32 (dp s (st s k))]) (w.iter s (st s k+dw s (st s k))):=fun F=>Wz w s (st s k) F G
   clear I
   generalize st s k=i at *
   generalize dw s i=d at *
   generalize O:dp s i=x at *
   generalize cw s k=c at *
   clear O
   go_wp2_with fail
   refine (NR x _ (M.out _)).mono ?_;rintro e w' ⟨rfl,rfl⟩
   generalize wd (x:Int)=y at *
   go_wp2_with fail
   exact ⟨⟨k+1,C,by rw [J.out],Tm (Value.int .i64) H.out.symm⟩,by simp;omega⟩
  ·have G:¬st s k<s.size:=by rw [gz];exact C
   have hnx:∀F,(Instr.next (.pointer (some ⟨w.heap.size,0,none⟩)) true F).run Tryz.prog (w.iter s (st s k))=_:=fun F=>WZ w s (st s k) F G
   have H:Hid (cw s k=tw s):=GX s k (by omega)
   go_wp2_with fail
   go_ret
   exact ⟨nK H.out,eC _ _ _⟩
end Go.Proofs.YtcjiapphbpiffaaGreatDoor.Lw
namespace Go.Proofs.YtcjiapphbpiffaaGreatDoor.Lw
open Go.Proofs.YtcjiapphbpiffaaGreatDoor.Lx
open Go.RowKit
open Go.Lib (strCells strCells_length)
end Go.Proofs.YtcjiapphbpiffaaGreatDoor.Lw
namespace Go.Proofs.YtcjiapphbpiffaaGreatDoor
open Go.Proofs.YtcjiapphbpiffaaGreatDoor.Lw
open Go.Proofs.YtcjiapphbpiffaaGreatDoor.Lx
open Go.RowKit
open Go.Lib (strCells strCells_length)
theorem Fr.tab {i:Nat}{own C:Nat->Nat}{w w':World}(h:Fr i own C w w') (J:kl w) (F:own 5≠i):kl w':=by
 intro j M;obtain ⟨G,H,I⟩:=J j M;exact ⟨h.cell G F,h.cell H F,h.cell I F⟩
end Go.Proofs.YtcjiapphbpiffaaGreatDoor
namespace Go.Proofs.YtcjiapphbpiffaaGreatDoor.Lw
open Go.Proofs.YtcjiapphbpiffaaGreatDoor.Lx
open Go.RowKit
open Go.Lib (strCells strCells_length)
variable {w:World}{a:Addr}{v:Value}
theorem Tryz.info5:(Tryz.prog.info? 5).map (fun i=>(i.zero,i.size,i.bytes))=some (some (.int .u8 0),1,1):=by kernel_rfl
theorem Tryz.info130:(Tryz.prog.info? 130).map (fun i=>(i.zero,i.size,i.bytes))=some (some (.agg #[.int .i64 0,.int .i64 0]),2,16):=by kernel_rfl
def eg (x:Nat × Nat):List Value:=[.int .i64 x.1,.int .i64 x.2]
theorem GL (x:Nat × Nat):(eg x).length=2:=rfl
theorem LH (c:Nat) (v:Value) (n:Nat) (xs:List Value) (t:ByteArray) (w:World) (hc:w.heap[c]?=some (.cells #[v] 39 (0,0))) (Y:w.ownsRow 0 5 1 v n xs) (hn:n+t.size<=70368744177664) :
  Ta 143 #[.string t,.pointer (some ⟨c,0,none⟩)] w fun e w'=>e=.returned (.tuple #[])/\∃v',w'.heap[c]?=some (.cells #[v'] 39 (0,0))/\w'.ownsRow 0 5 1 v' (n+t.size) (xs++strCells t)/\(v'.ownBlock=v.ownBlock\/v'.ownBlock=some w.heap.size)/\Kp (fun k=>k=c\/some k=v.ownBlock) w w':=by
 obtain ⟨i0,hi,Z,aa,ab⟩:=T7 Tryz.info5;have Q:=aN Y hc (by decide);have ac:=au hc;have c0:w.cell? ⟨c,0,none⟩=some v:=af hc rfl;obtain ⟨p,cap,rfl,_,_⟩:=aK Y
 go_enter Tryz.func143,Tryz.ntmps143
 go_wp2_with (first|(at_builtin;refine cO (P:=Tryz.prog) (w:=w) rfl _ _ 39 9 rfl 0 5 i0 Ue TH hi Z aa ab _ _ _ rfl Y t rfl ?c3 ?c4 ?c5 ?_))
 case c3=>unfold maxLen;omega
 case c4=>omega
 case c5=>omega
 intro v2 H G O M;have U:=Kp.of_grown O;have F:H.heap[c]?=some (.cells #[.slice p n cap] 39 (0,0)):=U.blk hc (fun h=>Q h.symm);have d0:H.cell? ⟨c,0,none⟩=some (.slice p n cap):=af F rfl;have f0:H.frozen? ⟨c,0,none⟩=false:=am F;have I:=aN G F (by decide);obtain ⟨J,C,rfl,_,_⟩:=aK G
 have HE:Hid ((H.setCell ⟨c,0,none⟩ (.slice J (n+t.size) C)).heap[c]?=some (.cells #[.slice J (n+t.size) C] 39 (0,0))/\(H.setCell ⟨c,0,none⟩ (.slice J (n+t.size) C)).ownsRow 0 5 1 (.slice J (n+t.size) C) (n+t.size) (xs++strCells t)/\((Value.slice J (n+t.size) C).ownBlock=(Value.slice p n cap).ownBlock\/(Value.slice J (n+t.size) C).ownBlock=some w.heap.size)/\Kp (fun k=>k=c\/some k=(Value.slice p n cap).ownBlock) w (H.setCell ⟨c,0,none⟩ (.slice J (n+t.size) C))):=by
  refine ⟨aj F 0 _,(Kp.set H c 0 _).row G (fun k h1 h2=>I (by rw [h1,h2])),M,?_⟩;exact (Kp.step (S:=fun k=>k=c\/some k=(Value.slice p n cap).ownBlock) (Kp.refl _ _) U (fun j _ h=>.inr h)).step (Kp.set H c 0 _) (fun j _ h=>.inl h)
 clear U O G M Q I F
 go_wp2_with fail
 go_end0
 exact ⟨rfl,_,HE.out⟩
theorem LJ (m:Int) (d c:Nat) (w:World) (C:m<=0) :
  Ta 142 #[.int .i64 m,.pointer (some ⟨d,0,none⟩),.pointer (some ⟨c,0,none⟩)] w fun e w'=>e=.returned (.tuple #[])/\w'=w:=by
 have q:decide (0<m)=false:=by simp;omega
 go_enter Tryz.func142,Tryz.ntmps142
 go_wp2_with fail
 go_end0
 exact ⟨rfl,rfl⟩
theorem ny (W:World) (a b:Value) (t n:Nat) (h:n=W.heap.size):∀j u,[a,b][j]?=some u->(W.alloc (.cells #[a,b] t)).cell? ((⟨n,0,none⟩:Addr).add j)=some u:=by
 subst h;intro j u C
 match j,C with
 |0,C=>simp at C;subst C;simp [Addr.add]
 |1,C=>simp at C;subst C;simp [Addr.add]
theorem DB (m:Nat) (d c:Nat) (v:Value) (tv:Value) (n l:Nat) (xs:List Value) (w:World) (hc:w.heap[c]?=some (.cells #[tv] 39 (0,0))) (Z:∃p cap,tv=.slice p l cap) (hd:w.heap[d]?=some (.cells #[v] 121 (0,0))) (Y:w.ownsRow 0 130 2 v n xs) (hn:n<=8589934592) (hm:0<m) (ag:m<=9223372036854775807) (hl:l<=9223372036854775807) :
  Ta 142 #[.int .i64 m,.pointer (some ⟨d,0,none⟩),.pointer (some ⟨c,0,none⟩)] w fun e w'=>e=.returned (.tuple #[])/\∃v',w'.heap[d]?=some (.cells #[v'] 121 (0,0))/\w'.ownsRow 0 130 2 v' (n+1) (xs++eg (l,m))/\(v'.ownBlock=v.ownBlock\/∃b,w.heap.size<=b/\v'.ownBlock=some b)/\Kp (fun k=>k=d\/some k=v.ownBlock) w w':=by
 obtain ⟨i0,hi,aa,ab,ac⟩:=T7 Tryz.info130;have q:decide (0<(m:Int))=true:=by simp;omega
 have U:=aN Y hd (by decide);have g8:=au hd;have c0:w.cell? ⟨c,0,none⟩=some tv:=af hc rfl;have d0:w.cell? ⟨d,0,none⟩=some v:=af hd rfl;have ae:=au hc;obtain ⟨tp,ad,rfl⟩:=Z;obtain ⟨p,cap,rfl,_,_⟩:=aK Y
 go_enter Tryz.func142,Tryz.ntmps142
 go_wp2_with (first|(at_builtin;refine T2 (P:=Tryz.prog) (w:=w.alloc (.cells #[.int .i64 l,.int .i64 m] 130)) rfl _ _ 121 rfl 0 130 i0 (.agg #[.int .i64 0,.int .i64 0]) 2 16 Tryz.underlying121 hi aa ab ac rfl (by decide) _ _ _ rfl (bv Y ((hH _ _).alloc (gt _) _)) ⟨w.heap.size,0,none⟩ 1 1 (eg (l,m)) rfl rfl ?c1 ?c2 ?c3 ?c4 ?c5 ?_))
 case c1=>exact ny _ _ _ _ _ rfl
 case c2=>intro u hu;simp [eg] at hu;rcases hu with rfl|rfl <;> rfl
 case c3=>unfold maxLen;omega
 case c4=>omega
 case c5=>omega
 intro v2 H G M _ O;have hk:=Kp.step (S:=fun k=>k=d\/some k=(Value.slice p n cap).ownBlock) ((Kp.refl _ _).alloc (.cells #[.int .i64 l,.int .i64 m] 130)) (Kp.of_grown M) (fun j _ h=>.inr h);have Q:=Kp.step (S:=fun k=>some k=(Value.slice p n cap).ownBlock) ((Kp.refl _ _).alloc (.cells #[.int .i64 l,.int .i64 m] 130)) (Kp.of_grown M) (fun j _ h=>h);have F:H.heap[d]?=some (.cells #[.slice p n cap] 121 (0,0)):=Q.blk hd (fun h=>U h.symm);have e0:H.cell? ⟨d,0,none⟩=some (.slice p n cap):=af F rfl;have f0:H.frozen? ⟨d,0,none⟩=false:=am F;have I:=aN G F (by decide);obtain ⟨J,C,rfl,_,_⟩:=aK G
 have HE:Hid ((H.setCell ⟨d,0,none⟩ (.slice J (n+1) C)).heap[d]?=some (.cells #[.slice J (n+1) C] 121 (0,0))/\(H.setCell ⟨d,0,none⟩ (.slice J (n+1) C)).ownsRow 0 130 2 (.slice J (n+1) C) (n+1) (xs++eg (l,m))/\((Value.slice J (n+1) C).ownBlock=(Value.slice p n cap).ownBlock\/∃b,w.heap.size<=b/\(Value.slice J (n+1) C).ownBlock=some b)/\Kp (fun k=>k=d\/some k=(Value.slice p n cap).ownBlock) w (H.setCell ⟨d,0,none⟩ (.slice J (n+1) C))):=by
  refine ⟨aj F 0 _,(Kp.set H d 0 _).row G (fun k h1 h2=>I (by rw [h1,h2])),?_,?_⟩
  ·rcases O with h|h
   ·exact .inl h
   ·exact .inr ⟨_,by have:=SX w (.cells #[.int .i64 l,.int .i64 m] 130);omega,h⟩
  ·exact hk.step (Kp.set H d 0 _) (fun j _ h=>.inl h)
 clear hk Q M G O U I F
 go_wp2_with fail
 go_end0
 exact ⟨rfl,_,HE.out⟩
def sk (b:Bool) (col wait:Int) (tv gv:Value):Array Value:=#[.bool b,.int .i64 col,.int .i64 wait,tv,gv]
theorem ij (w:World) (o:Obj) (g:Nat) (x:Obj) (h:w.heap[g]?=some x):(w.alloc o).heap[g]?=some x:=(((hH _ w).alloc (gt _) o).block g (au h)).trans h
theorem lm (h:w.cell? a=some v):∀o,(w.alloc o).cell? a=some v:=fun o=>(((hH _ w).alloc (gt _) o).cell (S9 w a h)).trans h
theorem uB (h:w.cell? a=some v):∀o p,((w.alloc o).alloc p).cell? a=some v:=fun o p=>lm (lm h o) p
theorem Bl (h:w.cell? a=some v):∀o p q,(((w.alloc o).alloc p).alloc q).cell? a=some v:=fun o p q=>lm (uB h o p) q
theorem OL (u:FrameMode) (b S:Bool) (M J F C:Int) (c d h g:Nat) (tv gv I H:Value) (w:World)
  (G:w.heap[g]?=some (.cells (sk b M J tv gv) 123 (0,0))) (hc:w.heap[c]?=some (.cells #[I] 39 (0,0))) (hd:w.heap[d]?=some (.cells #[H] 121 (0,0))) (Z:w.heap[h]?=some (.cells #[.pointer (some ⟨g,0,none⟩)] 80 (0,0)))
  (Y:∃p n cap,tv=.slice p n cap) (U:∃p n cap,gv=.slice p n cap) (Q:∃p n cap,I=.slice p n cap) (O:∃p n cap,H=.slice p n cap) :
  CallsD Tryz.prog 144 #[.agg #[.bool S,.int .i64 F,.int .i64 C],.pointer (some ⟨c,0,none⟩),.pointer (some ⟨d,0,none⟩),.pointer (some ⟨h,0,none⟩)] u w fun e u' w'=>u'=u/\(e=.returned (.tuple #[])/\w'.heap[g]?=some (.cells (sk S F C I H) 123 (0,0))/\Kp (fun k=>k=g) w w'):=by
 have gl:=au G;have cl:=au hc;have dl:=au hd;have hl:=au Z;have g0:w.cell? ⟨g,0,none⟩=some (.bool b):=af G rfl;have g1:w.cell? ⟨g,1,none⟩=some (.int .i64 M):=af G rfl;have g2:w.cell? ⟨g,2,none⟩=some (.int .i64 J):=af G rfl;have g3:w.cell? ⟨g,3,none⟩=some tv:=af G rfl;have g4:w.cell? ⟨g,4,none⟩=some gv:=af G rfl;have f0:w.frozen? ⟨g,0,none⟩=false:=am G;have f1:w.frozen? ⟨g,1,none⟩=false:=am G;have f2:w.frozen? ⟨g,2,none⟩=false:=am G;have f3:w.frozen? ⟨g,3,none⟩=false:=am G;have f4:w.frozen? ⟨g,4,none⟩=false:=am G;have c0:w.cell? ⟨c,0,none⟩=some I:=af hc rfl;have d0:w.cell? ⟨d,0,none⟩=some H:=af hd rfl;have h0:w.cell? ⟨h,0,none⟩=some (.pointer (some ⟨g,0,none⟩)):=af Z rfl;obtain ⟨p1,n1,k1,rfl⟩:=Y;obtain ⟨p2,n2,k2,rfl⟩:=U;obtain ⟨p3,n3,k3,rfl⟩:=Q;obtain ⟨p4,n4,k4,rfl⟩:=O
 go_enter_d Tryz.func144,Tryz.ntmps144
 go_wp2_with fail
 go_region
 go_wp2_with fail
 go_end0
 refine ⟨rfl,?_,?_⟩
 ·refine (ij _ _ _ _ ?_);exact aj (aj (aj (aj (aj G 3 _) 4 _) 0 _) 1 _) 2 _
 ·refine Kp.same (W:=(((((w.setCell ⟨g,3,none⟩ (.slice p3 n3 k3)).setCell ⟨g,4,none⟩ (.slice p4 n4 k4)).setCell ⟨g,0,none⟩ (.bool S)).setCell ⟨g,1,none⟩ (.int .i64 F)).setCell ⟨g,2,none⟩ (.int .i64 C)).alloc (.cells #[.bool S,.int .i64 F,.int .i64 C] 120)) ?_ rfl rfl rfl rfl;refine Kp.alloc ?_ _;exact (((((Kp.refl _ w).trans (Kp.set _ _ _ _)).trans (Kp.set _ _ _ _)).trans (Kp.set _ _ _ _)).trans (Kp.set _ _ _ _)).trans (Kp.set _ _ _ _)
end Go.Proofs.YtcjiapphbpiffaaGreatDoor.Lw
namespace Go.Proofs.YtcjiapphbpiffaaGreatDoor.Lw
open Go.Proofs.YtcjiapphbpiffaaGreatDoor.Lx
open Go.RowKit Go.Shelf
open Go.Lib (strCells strCells_length)
def Tryz.lays169_ren:Go.Shelf.Ren:=⟨fun|169=>13|n=>n,fun|70=>38|9=>9|0=>0|72=>41|37=>39|127=>68|3=>3|5=>5|n=>n,fun|n=>n⟩
theorem Tryz.lays169:Go.Proofs.Lays.n169 Tryz.prog Tryz.lays169_ren:={
 mixed:=by kernel_rfl
 f169:=Tryz.func13.trans (Tm some (by kernel_rfl))
 t0:=Vf
 a0:=Wp
 z0:=V0
 v0:=Vi
 t3:=TO
 a3:=Vv
 z3:=Vj
 v3:=UO
 t9:=TH
 a9:=Vw
 z9:=Vl
 v9:=UP
 t37:=Ue
 a37:=W9
 z37:=WO
 v37:=Wb
 t70:=U5
 a70:=Tryz.isAgg38
 z70:=Tryz.sizeOf38
 v70:=WW
 t72:=WK
 a72:=Tryz.isAgg41
 z72:=Tryz.sizeOf41
 v72:=WX
 t127:=WJ
 a127:=Tryz.isAgg68
 z127:=Tryz.sizeOf68
 v127:=WV }
theorem Tryz.Builder_Extra_169:Builder.Extra Tryz.prog Tryz.lays169_ren:={
 sizeBuilder:=by kernel_rfl
 liesBuilder:=by kernel_rfl
 t5:=Ut
 a5:=Vk
 z5:=U7
 v5:=UD
 infoByte:=by kernel_rfl
 cellsByte:=by kernel_rfl
 sizeByte:=by kernel_rfl
 neB5:=by decide }
def Tryz.lays165_ren:Go.Shelf.Ren:=⟨fun|165=>51|240=>20|241=>97|276=>32|277=>146|n=>n,fun|70=>38|3=>3|0=>0|4=>4|9=>9|20=>20|72=>41|37=>39|164=>96|5=>5|n=>n,fun|n=>n⟩
theorem Tryz.lays165:Go.Proofs.Lays.n165 Tryz.prog Tryz.lays165_ren:={
 mixed:=by kernel_rfl
 f165:=Tryz.func51.trans (Tm some (by kernel_rfl))
 f240:=Tryz.func20.trans (Tm some (by kernel_rfl))
 f241:=Tryz.func97.trans (Tm some (by kernel_rfl))
 f276:=Tryz.func32.trans (Tm some (by kernel_rfl))
 f277:=Tryz.func146.trans (Tm some (by kernel_rfl))
 t0:=Vf
 a0:=Wp
 z0:=V0
 v0:=Vi
 t3:=TO
 a3:=Vv
 z3:=Vj
 v3:=UO
 t4:=UG
 a4:=VP
 z4:=VA
 v4:=U4
 t9:=TH
 a9:=Vw
 z9:=Vl
 v9:=UP
 t20:=Tryz.underlying20
 a20:=Tryz.isAgg20
 z20:=Tryz.sizeOf20
 v20:=Tryz.zeroValue20
 t37:=Ue
 a37:=W9
 z37:=WO
 v37:=Wb
 t70:=U5
 a70:=Tryz.isAgg38
 z70:=Tryz.sizeOf38
 v70:=WW
 t72:=WK
 a72:=Tryz.isAgg41
 z72:=Tryz.sizeOf41
 v72:=WX
 t164:=VS
 a164:=Tryz.isAgg96
 z164:=Tryz.sizeOf96
 v164:=Tryz.zeroValue96 }
theorem Tryz.Builder_Extra_165:Builder.Extra Tryz.prog Tryz.lays165_ren:={
 sizeBuilder:=by kernel_rfl
 liesBuilder:=by kernel_rfl
 t5:=Ut
 a5:=Vk
 z5:=U7
 v5:=UD
 infoByte:=by kernel_rfl
 cellsByte:=by kernel_rfl
 sizeByte:=by kernel_rfl
 neB5:=by decide }
def Tryz.lays148_ren:Go.Shelf.Ren:=⟨fun|148=>145|222=>179|223=>180|269=>213|n=>n,fun|9=>9|3=>3|4=>4|5=>5|146=>237|51=>236|46=>176|n=>n,fun|n=>n⟩
theorem Tryz.lays148:Go.Proofs.Lays.n148 Tryz.prog Tryz.lays148_ren:={
 mixed:=by kernel_rfl
 f148:=Tryz.func145.trans (Tm some (by kernel_rfl))
 f222:=Tryz.func179.trans (Tm some (by kernel_rfl))
 f223:=Tryz.func180.trans (Tm some (by kernel_rfl))
 f269:=Tryz.func213.trans (Tm some (by kernel_rfl))
 t3:=TO
 a3:=Vv
 z3:=Vj
 v3:=UO
 t4:=UG
 a4:=VP
 z4:=VA
 v4:=U4
 t5:=Ut
 a5:=Vk
 z5:=U7
 v5:=UD
 t9:=TH
 a9:=Vw
 z9:=Vl
 v9:=UP
 t46:=VF
 a46:=WN
 z46:=WG
 v46:=VQ
 t51:=Tryz.underlying236
 a51:=Tryz.isAgg236
 z51:=Tryz.sizeOf236
 v51:=Tryz.zeroValue236
 t146:=Tryz.underlying237
 a146:=Tryz.isAgg237
 z146:=Tryz.sizeOf237
 v146:=Tryz.zeroValue237 }
open Go.RowKit Go.Lib in

def Tryz.lays105_ren:Go.Shelf.Ren:=⟨fun|105=>54|212=>98|99=>63|165=>51|166=>11|170=>99|169=>13|263=>147|264=>148|206=>111|240=>20|241=>97|276=>32|277=>146|n=>n,fun|9=>9|3=>3|4=>4|20=>20|0=>0|46=>176|109=>177|5=>5|72=>41|76=>50|51=>236|146=>237|53=>239|148=>240|70=>38|37=>39|75=>24|127=>68|164=>96|80=>53|n=>n,fun|n=>n⟩
theorem Tryz.lays105:Go.Proofs.Lays.n105 Tryz.prog Tryz.lays105_ren:={
 mixed:=by kernel_rfl
 f99:=Tryz.func63.trans (Tm some (by kernel_rfl))
 f105:=Tryz.func54.trans (Tm some (by kernel_rfl))
 f165:=Tryz.func51.trans (Tm some (by kernel_rfl))
 f166:=Tryz.func11.trans (Tm some (by kernel_rfl))
 f169:=Tryz.func13.trans (Tm some (by kernel_rfl))
 f170:=Tryz.func99.trans (Tm some (by kernel_rfl))
 f206:=Tryz.func111.trans (Tm some (by kernel_rfl))
 f212:=Tryz.func98.trans (Tm some (by kernel_rfl))
 f240:=Tryz.func20.trans (Tm some (by kernel_rfl))
 f241:=Tryz.func97.trans (Tm some (by kernel_rfl))
 f263:=Tryz.func147.trans (Tm some (by kernel_rfl))
 f264:=Tryz.func148.trans (Tm some (by kernel_rfl))
 f276:=Tryz.func32.trans (Tm some (by kernel_rfl))
 f277:=Tryz.func146.trans (Tm some (by kernel_rfl))
 t0:=Vf
 a0:=Wp
 z0:=V0
 v0:=Vi
 t3:=TO
 a3:=Vv
 z3:=Vj
 v3:=UO
 t4:=UG
 a4:=VP
 z4:=VA
 v4:=U4
 t5:=Ut
 a5:=Vk
 z5:=U7
 v5:=UD
 t9:=TH
 a9:=Vw
 z9:=Vl
 v9:=UP
 t20:=Tryz.underlying20
 a20:=Tryz.isAgg20
 z20:=Tryz.sizeOf20
 v20:=Tryz.zeroValue20
 t37:=Ue
 a37:=W9
 z37:=WO
 v37:=Wb
 t46:=VF
 a46:=WN
 z46:=WG
 v46:=VQ
 t51:=Tryz.underlying236
 a51:=Tryz.isAgg236
 z51:=Tryz.sizeOf236
 v51:=Tryz.zeroValue236
 t53:=Tryz.underlying239
 a53:=Tryz.isAgg239
 z53:=Tryz.sizeOf239
 v53:=Tryz.zeroValue239
 t70:=U5
 a70:=Tryz.isAgg38
 z70:=Tryz.sizeOf38
 v70:=WW
 t72:=WK
 a72:=Tryz.isAgg41
 z72:=Tryz.sizeOf41
 v72:=WX
 t75:=Tryz.underlying24
 a75:=Tryz.isAgg24
 z75:=Tryz.sizeOf24
 v75:=Tryz.zeroValue24
 t76:=Tryz.underlying50
 a76:=Tryz.isAgg50
 z76:=Tryz.sizeOf50
 v76:=Tryz.zeroValue50
 t109:=Tryz.underlying177
 a109:=Tryz.isAgg177
 z109:=Tryz.sizeOf177
 v109:=Tryz.zeroValue177
 t127:=WJ
 a127:=Tryz.isAgg68
 z127:=Tryz.sizeOf68
 v127:=WV
 t146:=Tryz.underlying237
 a146:=Tryz.isAgg237
 z146:=Tryz.sizeOf237
 v146:=Tryz.zeroValue237
 t148:=Tryz.underlying240
 a148:=Tryz.isAgg240
 z148:=Tryz.sizeOf240
 v148:=Tryz.zeroValue240
 t164:=VS
 a164:=Tryz.isAgg96
 z164:=Tryz.sizeOf96
 v164:=Tryz.zeroValue96 }
theorem Tryz.Builder_Extra_105:Builder.Extra Tryz.prog Tryz.lays105_ren:={
 sizeBuilder:=by kernel_rfl
 liesBuilder:=by kernel_rfl
 t5:=Ut
 a5:=Vk
 z5:=U7
 v5:=UD
 infoByte:=by kernel_rfl
 cellsByte:=by kernel_rfl
 sizeByte:=by kernel_rfl
 neB5:=by decide }
open Go.RowKit Go.Lib in

theorem Qw (B b n:Nat) (w:World) (G:B<=b) (F:w.heap[b]?=some (.cells #[.pointer none,.slice none 0 0] 41 (0,0))) (C:B<=w.heap.size) (H:n<=281474976710656) :
  Ta 51 #[.pointer (some ⟨b,0,none⟩),.int .i64 n] w fun e w'=>e=.returned (.tuple #[])/\(Lib.BuilderAt 41 5 B b (.pointer (some ⟨b,0,none⟩)) [] w'/\Below B w w'):=Any.Builder_Grow_fresh Tryz.lays165 Tryz.Builder_Extra_165 B b n w G F C H
theorem LM (B b:Nat) (l:List UInt8) (w:World) (h:Lib.IsBuilder 41 5 B b (Lib.byteCells l) w) (C:B<=w.heap.size) :
  Ta 13 #[.pointer (some ⟨b,0,none⟩)] w fun e w'=>e=.returned (.string ⟨l.toArray⟩)/\Below B w w':=Any.Builder_String_any Tryz.lays169 Tryz.Builder_Extra_169 B b l w h C
theorem Oc (s sub:ByteArray) (C:sub.size=1) (F:s.size<4611686018427387904) (w:World) :
  Ta 145 #[.string s,.string sub] w fun e w'=>e=.returned (.int .i64 (Lib.lastIndexByte s ((sub[0]'(by omega)).toNat:Int)))/\w'=w:=Any.strings_LastIndex_one Tryz.lays148 s sub C F w
theorem yn (s:ByteArray) (c:Nat) (w:World) (hc:c<=9223372036854775807) (C:s.size*c<=140737488355328) :
  Ta 54 #[.string s,.int .i64 c] w fun e w'=>e=.returned (.string ⟨(Lib.repeatL s.data.toList c).toArray⟩)/\Below w.heap.size w w':=Any.strings_Repeat Tryz.lays105 Tryz.Builder_Extra_105 s c w hc C
theorem OX (b:Nat) (w:World) (C:w.cell? ⟨b,0,none⟩=some (.pointer (some ⟨b,0,none⟩))) :
  Ta 20 #[.pointer (some ⟨b,0,none⟩)] w fun e w'=>e=.returned (.tuple #[])/\w'=w:=Any.Builder_copyCheck_used (P:=Tryz.prog) (ρ:=Tryz.lays105_ren) { Tryz.lays105 with } Tryz.Builder_Extra_105.toX72 b w C
end Go.Proofs.YtcjiapphbpiffaaGreatDoor.Lw
namespace Go.Proofs.YtcjiapphbpiffaaGreatDoor.Lw
open Go.Proofs.YtcjiapphbpiffaaGreatDoor.Lx
open Go.RowKit
open Go.Lib (strCells strCells_length)
variable {w:World}{l:List Dc}
theorem Mj (w:World) (A C D:Obj):(((w.alloc A).alloc C).alloc D).heap[w.heap.size]?=some A/\(((w.alloc A).alloc C).alloc D).heap[w.heap.size+1]?=some C/\(((w.alloc A).alloc C).alloc D).heap[w.heap.size+1+1]?=some D/\Below w.heap.size w (((w.alloc A).alloc C).alloc D):=by
 have F:(w.alloc A).heap.size=w.heap.size+1:=SX w A;have G:((w.alloc A).alloc C).heap.size=w.heap.size+1+1:=by rw [SX,F]
 refine ⟨ij _ _ _ _ (ij _ _ _ _ (aq _ _)),ij _ _ _ _ ?_,?_,(((hH _ w).alloc (gt _) A).alloc (by omega) C).alloc (by omega) D⟩
 ·rw [<-F];exact aq _ _
 ·rw [<-G];exact aq _ _
theorem pU (g:Nat) (b:Bool) (Q C:Int) (tv gv:Value) (w:World) (O:w.heap[g]?=some (.cells (sk b Q C tv gv) 123 (0,0))) (U:∃p n cap,tv=.slice p n cap) (S:∃p n cap,gv=.slice p n cap) :
  Ta 90 #[.pointer (some ⟨g,0,none⟩)] w fun e w'=>∃c d h,e=.returned (.tuple #[.func (.func 142) #[] #[.pointer (some ⟨d,0,none⟩),.pointer (some ⟨c,0,none⟩)],.func (.func 143) #[] #[.pointer (some ⟨c,0,none⟩)],.func (.func 144) #[] #[.pointer (some ⟨c,0,none⟩),.pointer (some ⟨d,0,none⟩),.pointer (some ⟨h,0,none⟩)]]) /\
   (w'.heap[c]?=some (.cells #[tv] 39 (0,0))/\w'.heap[d]?=some (.cells #[gv] 121 (0,0))/\w'.heap[h]?=some (.cells #[.pointer (some ⟨g,0,none⟩)] 80 (0,0))/\w.heap.size<=c/\w.heap.size<=d/\w.heap.size<=h)/\Below w.heap.size w w':=by
 have gl:=au O;have I:w.cell? ⟨g,3,none⟩=some tv:=af O rfl;have J:w.cell? ⟨g,4,none⟩=some gv:=af O rfl;obtain ⟨p1,Z,Y,rfl⟩:=U;obtain ⟨p2,n2,k2,rfl⟩:=S;have a1:=lm I;have a2:=uB I;have a3:=Bl I;have b1:=lm J;have b2:=uB J;have b3:=Bl J;have aa:=mkfn
 go_enter Tryz.func90,Tryz.ntmps90
 go_wp2_with fail
 go_region
 all_goals go_wp2_with fail
 ·go_ret3
  obtain ⟨F,G,H,M⟩:=Mj w (.cells #[.pointer (some ⟨g,0,none⟩)] 80) (.cells #[.slice p1 Z Y] 39) (.cells #[.slice p2 n2 k2] 121);exact ⟨w.heap.size+1,w.heap.size+1+1,w.heap.size,rfl,⟨G,H,F,by omega,by omega,by omega⟩,M.drew⟩
 ·go_ret3
  obtain ⟨F,G,H,M⟩:=Mj w (.cells #[.pointer (some ⟨g,0,none⟩)] 80) (.cells #[.slice p2 n2 k2] 121) (.cells #[.slice p1 Z Y] 39);exact ⟨w.heap.size+1+1,w.heap.size+1,w.heap.size,rfl,⟨H,G,F,by omega,by omega,by omega⟩,M.drew⟩
def lf (t:ByteArray):Int:=Lib.lastIndexByte t 10
theorem Mz (t:ByteArray):-1<=lf t/\lf t<t.size:=by
 have:=Lib.lastIdx_spec t 10 t.size;unfold lf Lib.lastIndexByte
 rcases this with ⟨h,_⟩|⟨i,C,h,_⟩
 ·rw [h];omega
 ·rw [h];omega
def uM (t:ByteArray):ByteArray:=t.extract (lf t+1).toNat t.size
def nj (col wait:Int) (t:ByteArray):Int:=if lf t<0 then col+wait+tw t else tw (uM t)
theorem wv (s:ByteArray) (C:s.size<4611686018427387904) (w:World) :
  Ta 145 #[.string s,.string ⟨#[10]⟩] w fun e w'=>e=.returned (.int .i64 (lf s))/\w'=w:=Oc s ⟨#[10]⟩ rfl C w
theorem Kq (w:World):Ta 25 #[] w fun e w'=>e=.returned (.pointer (some ⟨w.heap.size,0,none⟩))/\w'=w.alloc (.cells (sk false 0 0 (.slice none 0 0) (.slice none 0 0)) 123):=by
 go_enter Tryz.func25,Tryz.ntmps25
 go_wp2_with fail
 go_ret
 exact ⟨rfl,rfl⟩
theorem yZ (g:Nat) (b:Bool) (F C:Int) (tv gv:Value) (w:World) (G:w.heap[g]?=some (.cells (sk b F C tv gv) 123 (0,0))) (J:0<=F) (M:F<=1152921504606846976) (O:0<=C) (Q:C<=1152921504606846976) :
  Ta 96 #[.pointer (some ⟨g,0,none⟩)] w fun e w'=>e=.returned (.int .i64 (F+C))/\Below w.heap.size w w':=by
 have H:w.cell? ⟨g,1,none⟩=some (.int .i64 F):=af G rfl;have I:w.cell? ⟨g,2,none⟩=some (.int .i64 C):=af G rfl
 go_enter Tryz.func96,Tryz.ntmps96
 go_wp2_with fail
 go_quiet (fail)
 go_wp2_with fail
 go_ret
 exact ⟨rfl,below_drewN (hH _ w) nq⟩
theorem C1 (g:Nat) (b:Bool) (F C:Int) (tv gv:Value) (w:World) (G:w.heap[g]?=some (.cells (sk b F C tv gv) 123 (0,0))) :
  Ta 92 #[.pointer (some ⟨g,0,none⟩)] w fun e w'=>e=.returned (.bool (!b))/\w'=w:=by
 have H:w.cell? ⟨g,0,none⟩=some (.bool b):=af G rfl
 go_enter Tryz.func92,Tryz.ntmps92
 go_wp2_with fail
 go_ret
 exact ⟨rfl,rfl⟩
theorem zm (g:Nat) (b:Bool) (F C n:Int) (tv gv:Value) (w:World) (G:w.heap[g]?=some (.cells (sk b F C tv gv) 123 (0,0))) (J:0<=n) (M:n<=1048576) (O:0<=C) (Q:C<=1152921504606846976) :
  Ta 93 #[.pointer (some ⟨g,0,none⟩),.int .i64 n] w fun e w'=>e=.returned (.int .i64 0)/\w'=w.setCell ⟨g,2,none⟩ (.int .i64 (C+n)):=by
 have S:decide (n<0)=false:=by simp;omega
 have U:decide (1048576<n)=false:=by simp;omega
 have Y:¬(1048576<n):=by omega
 have Z:¬(n<0):=by omega
 have I:w.cell? ⟨g,2,none⟩=some (.int .i64 C):=af G rfl;have H:w.frozen? ⟨g,2,none⟩=false:=am G
 go_enter Tryz.func93,Tryz.ntmps93
 go_wp2_with fail
 go_ret
 exact ⟨rfl,rfl⟩
section
variable {β:Type} (enc:β->List Value) (sz:Nat)
variable (hsz:∀x,(enc x).length=sz)
include hsz
end
def Dc.v (d:Dc):Value:=.agg #[.int .u8 d.k,.string d.t,.int .i64 d.b,.int .i64 d.i,.bool d.e]
def Dc.cs (d:Dc):List Value:=[.int .u8 d.k,.string d.t,.int .i64 d.b,.int .i64 d.i,.bool d.e]
theorem Dc.cs_len (d:Dc):d.cs.length=5:=rfl
theorem Dc.cs_one (d:Dc):∀u∈d.cs,u.oneCell'=true:=by
 intro u C;simp only [Dc.cs,Tt,UT,Xi] at C
 rcases C with rfl|rfl|rfl|rfl|rfl <;> rfl
def bZ (l:List Dc):List Value:=bB Dc.cs l
theorem aX (l:List Dc):(bZ l).length=l.length*5:=fC Dc.cs 5 Dc.cs_len l
theorem cy (l:List Dc):∀u∈bZ l,u.oneCell'=true:=by
 intro u C;obtain ⟨d,_,h⟩:=Ve.1 C;exact d.cs_one u h
def Lay (w:World) (ao:Option Addr) (l:List Dc):Prop:=∀j d,l[j]?=some d->d.t.size<=9223372036854775807/\∃b off,ao=some ⟨b,off,none⟩ /\
 w.cell? ⟨b,off+j*5,none⟩=some (.int .u8 d.k)/\w.cell? ⟨b,off+j*5+1,none⟩=some (.string d.t)/\w.cell? ⟨b,off+j*5+2,none⟩=some (.int .i64 d.b)/\w.cell? ⟨b,off+j*5+3,none⟩=some (.int .i64 d.i)/\w.cell? ⟨b,off+j*5+4,none⟩=some (.bool d.e)
theorem Lay.kp {S:Nat->Prop}{w w':World}{ao:Option Addr}{l:List Dc}(h:Lay w ao l) (M:Kp S w w') (I:∀a,ao=some a->¬S a.block):Lay w' ao l:=by
 intro j a J;obtain ⟨H,b,F,G,c0,c1,c2,c3,c4⟩:=h j a J;have C:=S9 _ _ c0;have e:w'.heap[b]?=w.heap[b]?:=M.block b C (I _ G);exact ⟨H,b,F,G,(S8 (a:=⟨b,_,none⟩) e).trans c0,(S8 (a:=⟨b,_,none⟩) e).trans c1,(S8 (a:=⟨b,_,none⟩) e).trans c2,(S8 (a:=⟨b,_,none⟩) e).trans c3,(S8 (a:=⟨b,_,none⟩) e).trans c4⟩
theorem Lay.below {w':World}{ao:Option Addr}(h:Lay w ao l) (C:Below w.heap.size w w'):Lay w' ao l:=h.kp (Kp.of_below (S:=fun _=>False) C) (fun _ _ h=>h)
theorem Lay.row {B:Nat}{v:Value}{n:Nat}(h:w.ownsRow B 89 5 v n (bZ l)) (ht:∀d∈l,d.t.size<=9223372036854775807):∃ao cap,v=.slice ao l.length cap/\n=l.length/\Lay w ao l/\(ao=none\/∃g,ao=some ⟨g,0,none⟩/\B<=g/\g<w.heap.size)/\l.length<=cap/\cap<=maxLen:=by
 have O:n=l.length:=by have:=h.1;rw [aX] at this;omega
 subst O
 rcases h.2 with ⟨rfl,G⟩|⟨g,cap,S,rfl,J,M,H,I,U,Y⟩
 ·have:l=[]:=Tl G;subst this;exact ⟨none,0,rfl,rfl,fun j d h=>by simp at h,.inl rfl,SW _,SW _⟩
 ·refine ⟨some ⟨g,0,none⟩,cap,rfl,rfl,?_,.inr ⟨g,rfl,J,au M⟩,H,I⟩;intro j d C
  have F:∀(k:Nat) (u:Value),(bZ l)[k]?=some u->w.cell? ⟨g,k,none⟩=some u:=fun k u Q=>by
   have:=h.cells (g:=g) rfl k u Q;rw [UA,Td] at this;exact this
  refine ⟨ht d (T3 C),g,0,rfl,?_,?_,?_,?_,?_⟩
  ·rw [Td];exact F _ _ (aR Dc.cs 5 Dc.cs_len l j 0 d _ C rfl)
  ·rw [Td];exact F _ _ (aR Dc.cs 5 Dc.cs_len l j 1 d _ C rfl)
  ·rw [Td];exact F _ _ (aR Dc.cs 5 Dc.cs_len l j 2 d _ C rfl)
  ·rw [Td];exact F _ _ (aR Dc.cs 5 Dc.cs_len l j 3 d _ C rfl)
  ·rw [Td];exact F _ _ (aR Dc.cs 5 Dc.cs_len l j 4 d _ C rfl)
end Go.Proofs.YtcjiapphbpiffaaGreatDoor.Lw
namespace Go.Proofs.YtcjiapphbpiffaaGreatDoor.Lw
open Go.Proofs.YtcjiapphbpiffaaGreatDoor.Lx
open Go.RowKit
theorem GM (c:UInt8) (w:World):Ta 211 #[.int .u8 (c.toNat:Int)] w fun e w'=>e=.returned (.bool (A6 c))/\w'=w:=by
 have C:((c.toNat:Int) == 32)=(c == 32):=by revert c;exact Ix (by decide +kernel)
 have F:((c.toNat:Int) == 10)=(c == 10):=by revert c;exact Ix (by decide +kernel)
 have e:A6 c=((c.toNat:Int) == 32 || (c.toNat:Int) == 10):=by rw [C,F];rfl
 rw [e];clear e C F
 generalize (c.toNat:Int)=z
 go_enter Tryz.func211,Tryz.ntmps211
 go_wp2_with fail
 all_goals (go_ret;simp_all)
theorem vF (n:Int) (w:World):Ta 176 #[.int .i64 n] w fun e w'=>e=.returned (.bool (iC n))/\w'=w:=by
 have e:iC n=(decide (0<=n) && decide (n<=1000)):=rfl;rw [e];clear e
 go_enter Tryz.func176,Tryz.ntmps176
 go_wp2_with fail
 all_goals (go_ret;simp_all)
 all_goals omega
theorem Dq (t:ByteArray) (ht:t.size<=9223372036854775807) (w:World):Ta 175 #[.string t] w fun e w'=>e=.returned (.bool (fu t))/\w'=w:=by
 by_cases H:t.size=0
 ·have O:t=⟨#[]⟩:=by
   apply tK
   exact Tl (by rw [pG];exact H)
  subst O
  go_enter Tryz.func175,Tryz.ntmps175
  go_wp2_with fail
  go_ret
  exact ⟨rfl,rfl⟩
 ·have S:¬t.toList=[]:=by
   rw [Lib.toList_data];intro Q;exact absurd (by have:=pG t;rw [jw,Q] at this;simpa using this.symm) H
  by_cases I:t.size<=65535
  ·have F:0<t.size:=by omega
   have C:t.size-1<t.size:=by omega
   have G:Hid (fu t=(!A6 t[0] && !A6 (t[t.size-1]))):=by
    show _=_
    unfold fu;have J:(jw t).getD 0 0=t[0]:=(Lib.getD_at t 0 F).symm;have M:(jw t).getD (t.size-1) 0=t[t.size-1]:=(Lib.getD_at t (t.size-1) C).symm;rw [J,M];simp [I,show 1<=t.size by omega]
   go_enter Tryz.func175,Tryz.ntmps175
   go_wp2_with (go_at_call 211;refine (GM _ _).mono ?_;rintro e U ⟨rfl,rfl⟩)
   all_goals (go_ret;rw [G.out];clear G;refine ⟨?_,rfl⟩;simp_all)
  ·go_enter Tryz.func175,Tryz.ntmps175
   go_wp2_with fail
   go_ret
   refine ⟨?_,rfl⟩;simp [fu,I]
theorem yj (t:ByteArray) (b i:Int) (e:Bool) (ht:t.size<=9223372036854775807) (w:World):Ta 139 #[.agg #[.int .u8 1,.string t,.int .i64 b,.int .i64 i,.bool e]] w fun x w'=>x=.returned (.bool (fu t && (b == 0 && (i == 0 && !e))))/\Below w.heap.size w w':=by
 go_enter WD,Wg
 go_wp2_with (go_at_call 175;refine (Dq _ ht _).mono ?_;rintro e C ⟨rfl,rfl⟩)
 all_goals go_ret
 all_goals (refine ⟨by simp_all,?_⟩;repeat (first|exact hH _ _|refine VI ?_ (gt _) _|refine Wq ?_ (by simp) _|refine Wj ?_))
theorem Cc (t:ByteArray) (b i:Int) (e:Bool) (w:World):Ta 139 #[.agg #[.int .u8 3,.string t,.int .i64 b,.int .i64 i,.bool e]] w fun x w'=>x=.returned (.bool (iC b && (t.toList == [] && (i == 0 && !e))))/\Below w.heap.size w w':=by
 go_enter WD,Wg
 go_wp2_with (go_at_call 176;refine (vF _ _).mono ?_;rintro e C ⟨rfl,rfl⟩)
 all_goals go_ret
 all_goals (refine ⟨by simp_all,?_⟩;repeat (first|exact hH _ _|refine VI ?_ (gt _) _|refine Wq ?_ (by simp) _|refine Wj ?_))
theorem Cd (t:ByteArray) (b i:Int) (e:Bool) (w:World):Ta 139 #[.agg #[.int .u8 6,.string t,.int .i64 b,.int .i64 i,.bool e]] w fun x w'=>x=.returned (.bool (iC i && (t.toList == [] && b == 0)))/\Below w.heap.size w w':=by
 go_enter WD,Wg
 go_wp2_with (go_at_call 176;refine (vF _ _).mono ?_;rintro e C ⟨rfl,rfl⟩)
 all_goals go_ret
 all_goals (refine ⟨by simp_all,?_⟩;repeat (first|exact hH _ _|refine VI ?_ (gt _) _|refine Wq ?_ (by simp) _|refine Wj ?_))
theorem yi (k:Int) (C:k=2\/k=4\/k=5\/k=7) (t:ByteArray) (b i:Int) (e:Bool) (w:World):Ta 139 #[.agg #[.int .u8 k,.string t,.int .i64 b,.int .i64 i,.bool e]] w fun x w'=>x=.returned (.bool (t.toList == [] && (b == 0 && (i == 0 && !e))))/\Below w.heap.size w w':=by
 rcases C with rfl|rfl|rfl|rfl
 all_goals
  go_enter WD,Wg
  go_wp2_with fail
  all_goals go_ret
  all_goals (refine ⟨by simp_all,?_⟩;repeat (first|exact hH _ _|refine VI ?_ (gt _) _|refine Wq ?_ (by simp) _|refine Wj ?_))
theorem yk (k:Int) (C:k≠1) (F:k≠2) (G:k≠3) (H:k≠4) (I:k≠5) (J:k≠6) (M:k≠7) (t:ByteArray) (b i:Int) (e:Bool) (w:World):Ta 139 #[.agg #[.int .u8 k,.string t,.int .i64 b,.int .i64 i,.bool e]] w fun x w'=>x=.returned (.bool false)/\Below w.heap.size w w':=by
 go_enter WD,Wg
 go_wp2_with fail
 all_goals go_ret
 all_goals (refine ⟨by simp_all,?_⟩;repeat (first|exact hH _ _|refine VI ?_ (gt _) _|refine Wq ?_ (by simp) _|refine Wj ?_))
theorem Jd (t:ByteArray):(t.toList == [])=decide (t=bE):=by
 rw [Up,TY,Tz,Lib.toList_data];constructor
 ·intro h;exact tK h
 ·rintro rfl;rfl
theorem Ce (d:Dc) (ht:d.t.size<=9223372036854775807) (w:World):Ta 139 #[d.v] w fun x w'=>x=.returned (.bool (rt d))/\Below w.heap.size w w':=by
 obtain ⟨k,t,b,i,e⟩:=d
 by_cases G:k=1
 ·subst G
  have C:rt ⟨1,t,b,i,e⟩=(fu t && (b == 0 && (i == 0 && !e))):=by
   unfold rt;rw [IO rfl]
   congr 1
   rw [Up];simp [Dc.mk.injEq]
  rw [C];exact yj t b i e ht w
 by_cases H:k=3
 ·subst H
  have C:rt ⟨3,t,b,i,e⟩=(iC b && (t.toList == [] && (i == 0 && !e))):=by
   unfold rt;rw [Eq (by show ¬(3:Int)=1;decide),IO rfl,Jd]
   congr 1
   rw [Up];simp [Dc.mk.injEq]
  rw [C];exact Cc t b i e w
 by_cases I:k=6
 ·subst I
  have C:rt ⟨6,t,b,i,e⟩=(iC i && (t.toList == [] && b == 0)):=by
   unfold rt;rw [Eq (by show ¬(6:Int)=1;decide),Eq (by show ¬(6:Int)=3;decide),IO rfl,Jd]
   congr 1
   rw [Up];simp [Dc.mk.injEq]
  rw [C];exact Cd t b i e w
 by_cases F:k=2\/k=4\/k=5\/k=7
 ·have C:rt ⟨k,t,b,i,e⟩=(t.toList == [] && (b == 0 && (i == 0 && !e))):=by
   unfold rt;rw [Eq G,Eq H,Eq I,IO F,Jd];rw [Up];simp [Dc.mk.injEq]
  rw [C];exact yi k F t b i e w
 ·have C:rt ⟨k,t,b,i,e⟩=false:=by
   unfold rt;rw [Eq G,Eq H,Eq I,Eq F]
  rw [C];simp only [not_or] at F;exact yk k G F.1 H F.2.1 F.2.2.1 I F.2.2.2 t b i e w
end Go.Proofs.YtcjiapphbpiffaaGreatDoor.Lw
