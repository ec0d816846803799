import Derived.Test.YtcmbkeghnmgbfaaGreatDoorM01
import Derived.Laws.RangeAny
import Derived.ProofKit
import Derived.OpenShut
import Derived.Lay
import Derived.Deep.Strs
import Derived.Stop.Joined
import Derived.MakeChecks
set_option linter.all false
set_option maxHeartbeats 400000
namespace Go.Proofs.YtcmbkeghnmgbfaaGreatDoor.Lx
open Go.Proofs.Tryz
variable {w w' W:World}{c:Option Nat}
/-
 The plain mathematics of layer 1: characters by the model's decoding.
-/
def dp (s:ByteArray) (i:Nat):Nat:=(Utf8.decode s i).1
def dw (s:ByteArray) (i:Nat):Nat:=(Utf8.decode s i).2
theorem Ct (s:ByteArray) (i:Nat) (h:s.size<=i):(s.get! i).toNat=0:=by
 have e:s.get! i=default:=by
  show s.data[i]! = default
  exact getElem!_neg _ _ (by show ¬i<s.data.size;have:s.data.size=s.size:=rfl;omega)
 rw[e];rfl
theorem aM (s:ByteArray) (i:Nat) (h:i<s.size):1<=dw s i/\dw s i<=4/\i+dw s i<=s.size:=by
 unfold dw Utf8.decode;simp only[]
 repeat' split
 all_goals simp_all
 all_goals omega
theorem bL (s:ByteArray) (i:Nat):dp s i<=1114111:=by
 have u:∀k,(s.get! (i+k)).toNat<256:=fun k=>(s.get! (i+k)).toNat_lt
 have F:=u 0;have G:=u 1;have H:=u 2;have I:=u 3;unfold dp Utf8.decode;simp only[]
 repeat' split
 all_goals simp_all[Utf8.runeError,Utf8.valid]
 all_goals omega
theorem iM (s t:ByteArray) (i j:Nat) (h:∀k,k<4->t.get! (j+k)=s.get! (i+k)) (u:∀k,k<4->(j+k<t.size↔i+k<s.size)):Utf8.decode t j=Utf8.decode s i:=by
 unfold Utf8.decode;simp only[h 0 (by omega),h 1 (by omega),h 2 (by omega),h 3 (by omega),u 1 (by omega),u 2 (by omega),u 3 (by omega)]
theorem dC (s:ByteArray) (a b i:Nat):(s.extract a b).get! i=if a+i<b then s.get! (a+i)else default:=by
 have e:∀(x:ByteArray) (k:Nat),x.get! k=x.data.toList[k]?.getD default:=by
  intro x k;show x.data[k]! = _;rw[Me,Ma,Mj]
 rw[e,e,ByteArray.data_extract,Array.toList_extract];simp only[List.extract_eq_take_drop,KI,KD]
 by_cases h:a+i<b
 ·rw[Kd h,Kd (by omega)]
 ·rw[IO h,IO (by omega)];rfl
theorem ag (s:ByteArray) (a b:Nat) (h:b<=s.size):(s.extract a b).size=b-a:=by
 rw[ByteArray.size_extract];omega
theorem cI (s:ByteArray) (a i:Nat) (h:a<=s.size):Utf8.decode (s.extract a s.size) i=Utf8.decode s (a+i):=by
 refine iM _ _ _ _ (fun k _=>?_) (fun k _=>by rw[ag s a _ (ge _)];omega);rw[dC]
 by_cases u:a+(i+k)<s.size
 ·rw[Kd u,Mh]
 ·rw[IO u];show _=s.data[a+i+k]!;exact(getElem!_neg _ _ (by show ¬_<s.data.size;have:s.data.size=s.size:=rfl;omega)).symm
def CK (p n:Int):Bool:=(p != 65533)||decide (1<n)
def gd (s:ByteArray) (i:Nat):Bool:=CK (dp s i) (dw s i)
def CJ (s t:ByteArray):Bool:=gd (s++t) 0&&decide (s.size<dw (s++t) 0)
def opn (s:ByteArray):Bool:=CJ s ⟨#[128,128,128]⟩||CJ s ⟨#[191,191,191]⟩
def FD (s:ByteArray):Nat->Nat->Nat
 |0,_=>s.size
 |f+1,n=>if n<=s.size then(if opn (s.extract (s.size-n) s.size)=true then s.size-n else FD s f (n+1))else s.size
def wh (s:ByteArray):Nat:=FD s 3 1
def vk (s:ByteArray):Nat->Nat->List Nat
 |0,_=>[]
 |f+1,i=>if i<s.size then i :: vk s f (i+dw s i)else[]
theorem qH (s:ByteArray):∀(f g i:Nat),s.size<=i+f->s.size<=i+g->vk s f i=vk s g i
 |0,0,_,_,_=>rfl
 |0,g+1,i,h,_=>by unfold vk;rw[IO (by omega)]
 |f+1,0,i,_,h=>by unfold vk;rw[IO (by omega)]
 |f+1,g+1,i,hf,hg=>by
  unfold vk
  split
  ·rename_i u
   have:=(aM s i u).1;rw[qH s f g (i+dw s i) (by omega) (by omega)]
  ·rfl
def pl (s:ByteArray) (i:Nat):List Nat:=vk s (s.size-i) i
def P (s:ByteArray):List Nat:=pl s 0
theorem vm (s:ByteArray) (i:Nat) (h:i<s.size):pl s i=i :: pl s (i+dw s i):=by
 have F:=aM s i h;unfold pl;obtain⟨f,u⟩:∃f,s.size-i=f+1:=⟨s.size-i-1,by omega⟩;rw[u];show(if i<s.size then i :: vk s f (i+dw s i)else[])=_;rw[Kd h,qH s f (s.size-(i+dw s i)) _ (by omega) (by omega)]
theorem Aw (s:ByteArray) (i:Nat) (h:s.size<=i):pl s i=[]:=by
 unfold pl;rw[show s.size-i=0 by omega];rfl
theorem Av (s:ByteArray):∀(f i:Nat),(vk s f i).length<=f
 |0,_=>by simp[vk]
 |f+1,i=>by
  unfold vk
  split
  ·simp;exact Av s f _
  ·simp
theorem wn (s:ByteArray):(P s).length<=s.size:=by
 unfold P pl;exact Kh (Av s _ _) (by omega)
open Go.ChangeShapes Go.WideShapes Go.ChangeAt Go.RowKit
theorem gi {P:Program}:∀(F:List (String × DataW Unit)) (G:List MemPlace),DataW.LaidVars P w F G->∀n d,(n,d)∈F ->
  ∃g t cs u p,P.globalNamed n=some g/\(P.globals[g]?).map (·.type)=some t/\w.var? P n=some cs/\DataW.trod (fun _=>()) P w 0 (fun _=>true) false u t cs.toList=some (d,p)
 |[],_,_,n,d,h=>by cases h
 | (m,e) :: r,G,⟨g,t,cs,u,p,q,h1,h2,h3,h4,h5,_⟩,n,d,h=>by
  rcases KL.1 h with h|h
  ·cases h;exact⟨g,t,cs,u,p,h1,h2,h3,h4⟩
  ·exact gi r q h5 n d h
def fF:List (Int × Int × Int):=[(48,57,1),(65,90,2),(95,95,1),(97,122,2),(192,214,2),(216,246,2),(248,591,2),(768,879,1),(913,929,2),(931,974,2),(1024,1119,2),(1488,1514,2),(1568,1610,2),(2308,2361,2),(12353,12438,2),(12449,12538,2),(19968,40959,2),(44032,55203,2),(66560,66639,2),(131072,196607,2)]
def vX (i:Nat):Int:=(fF.getD i (0,0,0)).1
def yM (i:Nat):Int:=(fF.getD i (0,0,0)).2.1
def In (i:Nat):Int:=(fF.getD i (0,0,0)).2.2
def si (w:World):Prop:=∀i,i<20->w.cell? ⟨1,i*3,none⟩=some (.int .i64 (vX i))/\w.cell? ⟨1,i*3+1,none⟩=some (.int .i64 (yM i))/\w.cell? ⟨1,i*3+2,none⟩=some (.int .i64 (In i))
theorem si.below (h:si w) (u:Below w.heap.size w w'):si w':=by
 intro i J;obtain⟨G,H,I⟩:=h i J;have F:=Kg w _ G;exact⟨(u.cell (p:=⟨1,i*3,none⟩) F).trans G,(u.cell (p:=⟨1,i*3+1,none⟩) F).trans H,(u.cell (p:=⟨1,i*3+2,none⟩) F).trans I⟩
theorem uh:(Rows.laid_colophon_class_spans:DataW Unit)=.agg (fF.map fun x=>.agg [.lit (.int .i64 x.1),.lit (.int .i64 x.2.1),.lit (.int .i64 x.2.2)]):=by kernel_rfl
theorem o4 {L:List (String × DataW Unit)}(I:(L.all fun x=>x.2.handleName?.isNone)=true) (hm:("colophon/class.spans",Rows.laid_colophon_class_spans)∈L) (h:laidMetH Tryz.prog L W):si W:=by
 rw[MakeChecks.laidMetH_plain _ _ _ I]at h;obtain⟨ps,J,_,_⟩:=h;obtain⟨g,t,cs,fuel,p,hg,ht,hv,hd⟩:=gi L ps J _ _ hm;obtain rfl:=KH ((show Tryz.prog.globalNamed "colophon/class.spans"=some 1 by kernel_rfl).symm.trans hg);obtain rfl:=KH ((show(Tryz.prog.globals[1]?).map (·.type)=some 241 by kernel_rfl).symm.trans ht);rw[uh]at hd;obtain⟨xs,m,_,ex,_,hl,hel⟩:=DataW.trod_array underlying241 hd;have c3:Tryz.prog.cellsOf 3=1:=by kernel_rfl
 have H:Tryz.prog.cellsOf 192=1:=by kernel_rfl
 have cS:Tryz.prog.cellsOf 240=3:=by kernel_rfl
 intro i hi;have hE:=hel i hi;rw[cS,Ke (by omega)]at hE;obtain⟨y0,y1,y2,n,ey,_,M,O,g2⟩:=Deep.trod_struct3 underlying240 hE;simp only[c3,H]at M O g2;obtain⟨z0,a0,b0,_⟩:=M3 underlying3 M;obtain⟨z1,a1,b1,_⟩:=M3 underlying3 O;obtain⟨z2,a2,b2,_⟩:=M3 underlying192 g2;have aa:fF.length=20:=rfl;have e3:(xs.map (·.1))=fF.map fun x=>(.agg [.lit (.int .i64 x.1),.lit (.int .i64 x.2.1),.lit (.int .i64 x.2.2)]:DataW Unit):=(OI (Pi ex).1).symm
 have F:(xs.map (·.1))[i]?=(fF.map fun x=>(.agg [.lit (.int .i64 x.1),.lit (.int .i64 x.2.1),.lit (.int .i64 x.2.2)]:DataW Unit))[i]?:=by rw[e3]
 rw[Lb,Lb,Ke (by omega:i<xs.length),Ke (by omega:i<fF.length),ey,b0,b1,b2]at F;simp only[Nq,Ky,DataW.agg.injEq,List.cons.injEq,N7,Lit.int.injEq,true_and,and_true]at F;obtain⟨f0,f1,f2⟩:=F;have G:fF.getD i (0,0,0)=fF[i]:=by rw[List.getD,Ke (show i<fF.length by omega)];rfl
 have u:∀(o:Nat) (z:Int),o<3->(((cs.toList.drop (i*3)).take 3).drop o).take 1=[.int .i64 z]->W.cell? ⟨1,i*3+o,none⟩=some (.int .i64 z):=by
  intro o z ho hz;rw[Nr hg hv (i*3+o)];have h0:((((cs.toList.drop (i*3)).take 3).drop o).take 1)[0]?=some (.int .i64 z):=by rw[hz];rfl
  rw[KI,Kd (by omega),KD,KI,Kd (by omega),KD]at h0
  simpa using h0
 refine⟨?_,?_,?_⟩
 ·have:=u 0 z0 (by omega) (by simpa using a0);rw[K0]at this;rw[this,vX,G,f0];rfl
 ·have:=u 1 z1 (by omega) (by simpa using a1);rw[this,yM,G,f1];rfl
 ·have:=u 2 z2 (by omega) (by simpa using a2);rw[this,In,G,f2];rfl
def cu:List ByteArray:=[⟨#[97,110,100]⟩,⟨#[97,114,114,97,121]⟩,⟨#[98,101,103,105,110]⟩,⟨#[99,111,110,115,116]⟩,⟨#[100,111]⟩,⟨#[101,108,105,102]⟩,⟨#[101,108,115,101]⟩,⟨#[101,110,100]⟩,⟨#[102,111,114]⟩,⟨#[105,102]⟩,⟨#[110,111,116]⟩,⟨#[111,102]⟩,⟨#[111,114]⟩,⟨#[112,114,111,99]⟩,⟨#[112,114,111,103,114,97,109]⟩,⟨#[114,101,99,111,114,100]⟩,⟨#[114,101,112,101,97,116]⟩,⟨#[114,101,116,117,114,110]⟩,⟨#[115,107,105,112]⟩,⟨#[116,104,101,110]⟩,⟨#[116,111]⟩,⟨#[117,110,116,105,108]⟩,⟨#[118,97,114]⟩,⟨#[119,104,105,108,101]⟩]
def ur (w:World):Prop:=∀i,i<24->w.cell? ⟨2,i,none⟩=some (.string (cu.getD i ByteArray.empty))
theorem ur.below (h:ur w) (F:Below w.heap.size w w'):ur w':=by
 intro i G;have u:=h i G;exact(F.cell (p:=⟨2,i,none⟩) (Kg w _ u)).trans u
theorem sA:(Rows.laid_colophon_class_words:DataW Unit)=.agg (cu.map fun x=>.lit (.string x.data.toList)):=by kernel_rfl
theorem nL {L:List (String × DataW Unit)}(F:(L.all fun x=>x.2.handleName?.isNone)=true) (hm:("colophon/class.words",Rows.laid_colophon_class_words)∈L) (h:laidMetH Tryz.prog L W):ur W:=by
 rw[MakeChecks.laidMetH_plain _ _ _ F]at h;obtain⟨ps,G,_,_⟩:=h;obtain⟨g,t,cs,fuel,p,hg,ht,hv,hd⟩:=gi L ps G _ _ hm;obtain rfl:=KH ((show Tryz.prog.globalNamed "colophon/class.words"=some 2 by kernel_rfl).symm.trans hg);obtain rfl:=KH ((show(Tryz.prog.globals[2]?).map (·.type)=some 249 by kernel_rfl).symm.trans ht);rw[sA]at hd;obtain⟨xs,m,_,ex,_,hl,hel⟩:=DataW.trod_array underlying249 hd;have c9:Tryz.prog.cellsOf 9=1:=by kernel_rfl
 intro i hi;have I:=hel i hi;rw[c9,Ke (by omega)]at I;obtain⟨s,O,b0,_⟩:=DataW.trod_string underlying9 I;have M:cu.length=24:=rfl;have e3:(xs.map (·.1))=cu.map fun x=>(.lit (.string x.data.toList):DataW Unit):=(OI (Pi ex).1).symm
 have u:(xs.map (·.1))[i]?=(cu.map fun x=>(.lit (.string x.data.toList):DataW Unit))[i]?:=by rw[e3]
 rw[Lb,Lb,Ke (by omega:i<xs.length),Ke (by omega:i<cu.length),b0]at u;simp only[Nq,Ky,N7,Lit.string.injEq]at u;have hT:cu.getD i ByteArray.empty=cu[i]:=by rw[List.getD,Ke (show i<cu.length by omega)];rfl
 have J:s=cu[i]:=by
  have:=L4.1 u;cases J:s;cases hx:cu[i];simp_all
 rw[Nr hg hv i,hT,<-J];have H:(((cs.toList.drop (i*1)).take 1))[0]?=some (.string s):=by rw[O];rfl
 rw[KI,Kd (by omega),KD]at H
 simpa using H
def ba:List ByteArray:=[⟨#[58,61]⟩,⟨#[46,46]⟩,⟨#[60,61]⟩,⟨#[62,61]⟩,⟨#[59]⟩,⟨#[46]⟩,⟨#[44]⟩,⟨#[58]⟩,⟨#[61]⟩,⟨#[35]⟩,⟨#[60]⟩,⟨#[62]⟩,⟨#[40]⟩,⟨#[41]⟩,⟨#[91]⟩,⟨#[93]⟩,⟨#[43]⟩,⟨#[45]⟩,⟨#[42]⟩,⟨#[47]⟩,⟨#[37]⟩]
def lW (w:World):Prop:=∀i,i<21->w.cell? ⟨3,i,none⟩=some (.string (ba.getD i ByteArray.empty))
theorem lW.below (h:lW w) (F:Below w.heap.size w w'):lW w':=by
 intro i G;have u:=h i G;exact(F.cell (p:=⟨3,i,none⟩) (Kg w _ u)).trans u
theorem sH:(Rows.laid_colophon_class_signs:DataW Unit)=.agg (ba.map fun x=>.lit (.string x.data.toList)):=by kernel_rfl
theorem nT {L:List (String × DataW Unit)}(F:(L.all fun x=>x.2.handleName?.isNone)=true) (hm:("colophon/class.signs",Rows.laid_colophon_class_signs)∈L) (h:laidMetH Tryz.prog L W):lW W:=by
 rw[MakeChecks.laidMetH_plain _ _ _ F]at h;obtain⟨ps,G,_,_⟩:=h;obtain⟨g,t,cs,fuel,p,hg,ht,hv,hd⟩:=gi L ps G _ _ hm;obtain rfl:=KH ((show Tryz.prog.globalNamed "colophon/class.signs"=some 3 by kernel_rfl).symm.trans hg);obtain rfl:=KH ((show(Tryz.prog.globals[3]?).map (·.type)=some 250 by kernel_rfl).symm.trans ht);rw[sH]at hd;obtain⟨xs,m,_,ex,_,hl,hel⟩:=DataW.trod_array underlying250 hd;have c9:Tryz.prog.cellsOf 9=1:=by kernel_rfl
 intro i hi;have I:=hel i hi;rw[c9,Ke (by omega)]at I;obtain⟨s,O,b0,_⟩:=DataW.trod_string underlying9 I;have M:ba.length=21:=rfl;have e3:(xs.map (·.1))=ba.map fun x=>(.lit (.string x.data.toList):DataW Unit):=(OI (Pi ex).1).symm
 have u:(xs.map (·.1))[i]?=(ba.map fun x=>(.lit (.string x.data.toList):DataW Unit))[i]?:=by rw[e3]
 rw[Lb,Lb,Ke (by omega:i<xs.length),Ke (by omega:i<ba.length),b0]at u;simp only[Nq,Ky,N7,Lit.string.injEq]at u;have hT:ba.getD i ByteArray.empty=ba[i]:=by rw[List.getD,Ke (show i<ba.length by omega)];rfl
 have J:s=ba[i]:=by
  have:=L4.1 u;cases J:s;cases hx:ba[i];simp_all
 rw[Nr hg hv i,hT,<-J];have H:(((cs.toList.drop (i*1)).take 1))[0]?=some (.string s):=by rw[O];rfl
 rw[KI,Kd (by omega),KD]at H
 simpa using H
def fg (w:World):Prop:=si w/\ur w/\lW w
theorem fg.below (h:fg w) (u:Below w.heap.size w w'):fg w':=⟨h.1.below u,h.2.1.below u,h.2.2.below u⟩
theorem rf {L:List (String × DataW Unit)}(u:(L.all fun x=>x.2.handleName?.isNone)=true) (F:("colophon/class.spans",Rows.laid_colophon_class_spans)∈L)
  (G:("colophon/class.words",Rows.laid_colophon_class_words)∈L) (H:("colophon/class.signs",Rows.laid_colophon_class_signs)∈L) (h:laidMetH Tryz.prog L W):fg W:=
 ⟨o4 u F h,nL u G h,nT u H h⟩
open Go.RowKit
theorem w64 (n:Nat) (h:n<=1114111):wrap64 (n:Int)=n:=by unfold wrap64;omega
theorem kf {k:IntKind}{a b:Int}(h:a=b):Ending.returned (.int k a)=.returned (.int k b):=by rw[h]
theorem dy (w:World) (s:ByteArray) (p:Nat):Kc w (w.iter s p):=(gt _ _).alloc (ge _) _
theorem yE (s:ByteArray) (w:World) (I:s.size<=maxLen) :
  Kb 55 #[.string s] w fun e w'=>e=.returned (.int .i64 (P s).length)/\∃pos,w'=w.iter s pos:=by
 unfold maxLen at I;have hP:=wn s
 go_enter func55,ntmps55
 go_wp2
 go_loopw [3] (fun n w'=>∃(pos k:Nat),w'=w.iter s pos/\n=.int .i64 k/\k+(pl s pos).length=(P s).length) (fun _ w'=>s.size-w'.iterPos w.heap.size)
 case atStart=>exact⟨0,0,rfl,rfl,by simp[P]⟩
 case round=>
  obtain⟨pos,k,rfl,rfl,hc⟩:=hrel;have aa:k<=(P s).length:=by omega
  by_cases G:pos<s.size
  ·have H:∀u,(Instr.next (.pointer (some ⟨w.heap.size,0,none⟩)) true u).run Tryz.prog (w.iter s pos)=_:=fun u=>Oh w s pos u G
   have J:=aM s pos G;have F:(pl s pos).length=(pl s (pos+dw s pos)).length+1:=by rw[vm s pos G];simp
   have HC:Hid (k+1+(pl s (pos+dw s pos)).length=(P s).length):=by show _=_;omega
   have O:k+1<=(P s).length:=by omega
   clear hc F;unfold dw at J
   go_wp2
   go_roundw
   case rel=>exact⟨pos+dw s pos,k+1,rfl,by go_num,HC.out⟩
   case measure=>
    simp;omega
  ·have H:∀u,(Instr.next (.pointer (some ⟨w.heap.size,0,none⟩)) true u).run Tryz.prog (w.iter s pos)=_:=fun u=>O5 w s pos u G
   have M:(pl s pos).length=0:=by rw[Aw s pos (by omega)];rfl
   have HC:Hid (k=(P s).length):=by show _=_;omega
   clear hc M
   go_wp2
   go_ret
   exact⟨kf (by rw[HC.out]),_,rfl⟩
theorem jz (s:ByteArray) (w:World) (J:s.size<=maxLen) (G:0<s.size) :
  Kb 99 #[.string s] w fun e w'=>e=.returned (.tuple #[.int .i32 (dp s 0),.int .i64 (dw s 0)])/\Kc w w':=by
 unfold maxLen at J;have M:=aM s 0 G
 go_enter func99,ntmps99
 go_wp2
 go_loopw [4] (fun p w'=>w'=w.iter s 0\/(p=.int .i32 (dp s 0)/\w'=w.iter s (dw s 0))) (fun _ w'=>s.size-w'.iterPos w.heap.size)
 case atStart=>exact .inl rfl
 case round=>
  rcases hrel with rfl|⟨rfl,rfl⟩
  ·have F:∀u,(Instr.next (.pointer (some ⟨w.heap.size,0,none⟩)) true u).run Tryz.prog (w.iter s 0)=_:=fun u=>Oh w s 0 u G
   unfold dw at M
   go_wp2
   go_roundw
   case rel=>exact .inr ⟨rfl,by simp[dw]⟩
   case measure=>simp;omega
  ·by_cases H:dw s 0<s.size
   ·have F:∀u,(Instr.next (.pointer (some ⟨w.heap.size,0,none⟩)) true u).run Tryz.prog (w.iter s (dw s 0))=_:=fun u=>Oh w s (dw s 0) u H
    go_wp2
    go_ret2
    exact⟨rfl,dy _ _ _⟩
   ·have F:∀u,(Instr.next (.pointer (some ⟨w.heap.size,0,none⟩)) true u).run Tryz.prog (w.iter s (dw s 0))=_:=fun u=>O5 w s (dw s 0) u H
    have I:Hid (s.size=dw s 0):=by show _=_;omega
    go_wp2
    go_ret2
    exact⟨by rw[I.out];rfl,dy _ _ _⟩
theorem Bj (p n:Int) (w:World) :
  Kb 100 #[.int .i32 p,.int .i64 n] w fun e w'=>e=.returned (.bool (CK p n))/\w'=w:=by
 by_cases u:p=65533
 ·have e:CK p n=decide (1<n):=by simp[CK,u]
  have F:(p != 65533)=false:=by simp[u]
  rw[e];clear e u
  go_enter func100,ntmps100
  go_wp2
  go_ret
  exact⟨rfl,rfl⟩
 ·have e:CK p n=true:=by simp[CK,u]
  have F:(p != 65533)=true:=by simp[u]
  rw[e];clear e u
  go_enter func100,ntmps100
  go_wp2
  go_ret
  exact⟨rfl,rfl⟩
theorem vy (s:ByteArray) (a:Int) (w:World) (I:s.size<=maxLen) (H:0<=a) (J:a<s.size) :
  Kb 61 #[.string s,.int .i64 a] w fun e w'=>e=.returned (.tuple #[.int .i64 (dp s a.toNat),.int .i64 (dw s a.toNat),.bool (gd s a.toNat)])/\Kc w w':=by
 obtain⟨n,rfl⟩:=Int.eq_ofNat_of_zero_le H;rw[Lp];have M:(s.extract n s.size).size=s.size-n:=ag s n _ (ge _);have F:Hid (dp (s.extract n s.size) 0=dp s n):=by show _=_;unfold dp;rw[cI s n 0 (by omega)];rfl
 have G:Hid (dw (s.extract n s.size) 0=dw s n):=by show _=_;unfold dw;rw[cI s n 0 (by omega)];rfl
 unfold maxLen at I
 go_enter func61,ntmps61
 go_wp2_with fail
 refine(jz _ _ (by unfold maxLen;omega) (by omega)).mono ?_;rintro e O⟨rfl,u⟩;rw[F.out,G.out]
 go_wp2_with fail
 refine(Bj _ _ _).mono ?_;rintro e w2⟨rfl,rfl⟩
 go_wp2_with fail
 go_ret3
 exact⟨by show Ending.returned (.tuple #[.int .i64 (wrap64 (dp s n)),_,_])=_;rw[w64 _ (bL s n)];rfl,u⟩
def av (s:ByteArray) (i:Nat):Nat:=(s.get! i).toNat
def ob (s:ByteArray) (i:Nat):Option Nat:=if i<s.size then some (av s i)else none
def ct (c:Option Nat):Bool:=match c with|some b=>b / 64==2|none=>false
def vv (c:Option Nat):Nat:=c.getD 0 % 64
def D (b0:Nat) (c1 c2 c3:Option Nat):Nat × Nat:=
 if b0<128 then(b0,1)
 else if b0 / 32==6&&ct c1 then(if b0 % 32*64+vv c1>=128 then(b0 % 32*64+vv c1,2)else(65533,1))
 else if b0 / 16==14&&ct c1&&ct c2 then
  (if b0 % 16*4096+vv c1*64+vv c2>=2048&&Utf8.valid (b0 % 16*4096+vv c1*64+vv c2:Nat)then(b0 % 16*4096+vv c1*64+vv c2,3)else(65533,1))
 else if b0 / 8==30&&ct c1&&ct c2&&ct c3 then
  (if b0 % 8*262144+vv c1*4096+vv c2*64+vv c3>=65536&&Utf8.valid (b0 % 8*262144+vv c1*4096+vv c2*64+vv c3:Nat)then(b0 % 8*262144+vv c1*4096+vv c2*64+vv c3,4)else(65533,1))
 else(65533,1)
theorem IV (s:ByteArray) (i:Nat):(decide (i<s.size)&&(s.get! i).toNat / 64==2)=ct (ob s i):=by
 unfold ob ct av
 by_cases h:i<s.size<;>simp[h]
theorem IU (s:ByteArray) (i:Nat):vv (ob s i)=(s.get! i).toNat % 64:=by
 unfold ob vv av
 by_cases h:i<s.size
 ·simp[h]
 ·simp[h,Ct s i (by omega)]
theorem aG (s:ByteArray) (i:Nat):Utf8.decode s i=D (av s i) (ob s (i+1)) (ob s (i+2)) (ob s (i+3)):=by
 unfold Utf8.decode D;simp only[K0,IV,IU,av,Utf8.runeError]
theorem Jv (b0:Nat) (c1 c2 c3:Option Nat) (h:b0 / 64=2):D b0 c1 c2 c3=(65533,1):=by
 unfold D;have u:¬b0<128:=by omega
 have F:(b0 / 32==6)=false:=by simp;omega
 have G:(b0 / 16==14)=false:=by simp;omega
 have H:(b0 / 8==30)=false:=by simp;omega
 rw[IO u,F,G,H];rfl
def gD (x:Nat × Nat):Prop:=x.1≠65533\/1<x.2
theorem AL:¬gD (65533,1):=by unfold gD;simp
theorem jH (b0:Nat) (c1 c2 c3:Option Nat) :
  (D b0 c1 c2 c3=(65533,1))\/(b0<128/\D b0 c1 c2 c3=(b0,1)) \/
  (b0 / 32=6/\ct c1=true/\(D b0 c1 c2 c3).2=2/\∀J u,D b0 c1 J u=D b0 c1 c2 c3) \/
  (b0 / 16=14/\ct c1=true/\ct c2=true/\(D b0 c1 c2 c3).2=3/\∀u,D b0 c1 c2 u=D b0 c1 c2 c3) \/
  (b0 / 8=30/\ct c1=true/\ct c2=true/\ct c3=true/\(D b0 c1 c2 c3).2=4):=by
 by_cases F:b0<128
 ·exact .inr (.inl ⟨F,by unfold D;rw[Kd F]⟩)
 ·have e:∀G H I,D b0 G H I=_:=fun G H I=>by unfold D;rw[IO F]
  by_cases M:(b0 / 32==6&&ct c1)=true
  ·grind
  ·by_cases O:(b0 / 16==14&&ct c1&&ct c2)=true
   ·grind
   ·by_cases h6:(b0 / 8==30&&ct c1&&ct c2&&ct c3)=true
    ·grind
    ·exact .inl (by rw[e,IO M,IO O,IO h6])
theorem gT (b0:Nat) (c1 c2 c3:Option Nat) (h:¬gD (D b0 c1 c2 c3)):D b0 c1 c2 c3=(65533,1):=by
 unfold gD at h
 rcases jH b0 c1 c2 c3 with F|⟨F,u⟩|⟨_,_,u,_⟩|⟨_,_,_,u,_⟩|⟨_,_,_,_,u⟩
 ·exact F
 ·rw[u]at h;simp at h;omega
 ·rw[u]at h;simp at h
 ·rw[u]at h;simp at h
 ·rw[u]at h;simp at h
theorem gQ {c':Option Nat}(h:c'=c\/c'=none) (hc:ct c'=true):c'=c:=by
 rcases h with h|h
 ·exact h
 ·rw[h]at hc;cases hc
theorem uu (b0:Nat) {c1 c2 c3 u F G:Option Nat}(M:u=c1\/u=none) (O:F=c2\/F=none) (h3:G=c3\/G=none) (hg:gD (D b0 u F G)):D b0 c1 c2 c3=D b0 u F G:=by
 rcases jH b0 u F G with e|⟨H,I⟩|⟨_,H,_,I⟩|⟨_,H,I,_,J⟩|⟨_,H,I,J,_⟩
 ·rw[e]at hg;exact absurd hg AL
 ·rw[I];unfold D;rw[Kd H]
 ·obtain rfl:=gQ M H;exact I _ _
 ·obtain rfl:=gQ M H;obtain rfl:=gQ O I;exact J _
 ·obtain rfl:=gQ M H;obtain rfl:=gQ O I;obtain rfl:=gQ h3 J;rfl
theorem CA (b0:Nat) {c1 c2 c3 u F G:Option Nat}(h1:u=c1\/u=none) (h2:F=c2\/F=none) (h3:G=c3\/G=none)
  (k1:1<(D b0 c1 c2 c3).2->u=c1) (k2:2<(D b0 c1 c2 c3).2->F=c2) (k3:3<(D b0 c1 c2 c3).2->G=c3):D b0 u F G=D b0 c1 c2 c3:=by
 rcases jH b0 c1 c2 c3 with e|⟨I,H⟩|⟨_,I,M,H⟩|⟨_,I,H,M,O⟩|⟨_,I,H,O,M⟩
 ·rw[e];refine gT _ _ _ _ (fun J=>?_);rw[<-uu b0 h1 h2 h3 J,e]at J;exact AL J
 ·rw[H];unfold D;rw[Kd I]
 ·obtain rfl:=k1 (by omega);exact H _ _
 ·grind
 ·grind
theorem Bl (s:ByteArray) (i:Nat):gd s i=true↔gD (Utf8.decode s i):=by
 unfold gd CK gD dp dw;simp;omega
theorem G7 (s:ByteArray) (i:Nat) (h:gd s i=false):Utf8.decode s i=(65533,1):=by
 rw[aG]
 apply gT
 rw[<-aG,<-Bl,h];simp
theorem EY (h:ct c=true):∃b,c=some b/\b / 64=2:=by
 cases c with
 |none=>cases h
 |some b=>exact⟨b,rfl,by simpa[ct]using h⟩
theorem D7 {s:ByteArray}{i b:Nat}(h:ob s i=some b):i<s.size/\av s i=b:=by
 unfold ob at h
 split at h
 ·exact⟨‹_›,by simpa using h⟩
 ·cases h
theorem eD (s:ByteArray) (i k:Nat) (h1:1<=k) (u:k<dw s i):i+k<s.size/\av s (i+k) / 64=2:=by
 have hh:∀j,ct (ob s j)=true->j<s.size/\av s j / 64=2:=by
  intro j M;obtain⟨b,J,F⟩:=EY M;obtain⟨g1,g2⟩:=D7 J;exact⟨g1,by rw[g2];exact F⟩
 unfold dw at u;rw[aG]at u
 rcases jH (av s i) (ob s (i+1)) (ob s (i+2)) (ob s (i+3))with e|⟨_,e⟩|⟨_,H,G,_⟩|⟨_,H,I,G,_⟩|⟨_,H,I,O,G⟩
 ·rw[e]at u;simp at u;omega
 ·rw[e]at u;simp at u;omega
 ·grind
 ·grind
 ·grind
theorem yf (s:ByteArray) (i:Nat) (h:av s i / 64=2):Utf8.decode s i=(65533,1):=by
 rw[aG];exact Jv _ _ _ _ h
theorem dM (s:ByteArray) (a i:Nat) (h:i<a):av (s.extract 0 a) i=av s i:=by
 unfold av;rw[dC,Kd (by omega),Km]
theorem kn (s:ByteArray) (a i:Nat) (u:a<=s.size):ob (s.extract 0 a) i=if i<a then ob s i else none:=by
 unfold ob;rw[ag s 0 a u]
 by_cases h:i<a
 ·rw[Kd (by omega),Kd h,Kd (by omega),dM s a i h]
 ·rw[IO (by omega),IO h]
theorem BW (s:ByteArray) (a i:Nat) (u:a<=s.size) (F:i<a) (hd:i+dw s i<=a):Utf8.decode (s.extract 0 a) i=Utf8.decode s i:=by
 unfold dw at hd;rw[aG]at hd;rw[aG,aG,dM s a i F,kn s a _ u,kn s a _ u,kn s a _ u];refine CA _ ?_ ?_ ?_ (fun h=>Kd (by omega)) (fun h=>Kd (by omega)) (fun h=>Kd (by omega))
 all_goals split<;>simp
def st (s:ByteArray):Nat->Nat
 |0=>0
 |n+1=>if st s n<s.size then st s n+dw s (st s n)else st s n
theorem kQ (s:ByteArray):∀n,st s n<=s.size
 |0=>Kj _
 |n+1=>by
  unfold st
  split
  ·exact(aM s _ ‹_›).2.2
  ·exact kQ s n
theorem vl (s:ByteArray):∀n,pl s (st s n)=(P s).drop n
 |0=>rfl
 |n+1=>by
  have u:=vl s n;unfold st
  split
  ·rename_i h
   rw[vm s _ h]at u;rw[<-M4,<-u];rfl
  ·rename_i h
   rw[u];rw[Aw s _ (by omega)]at u;rw[<-u,<-M4,<-u];rfl
theorem dm (s:ByteArray) (k:Nat):st s k<s.size↔k<(P s).length:=by
 have h:=vl s k;constructor
 ·intro u;rw[vm s _ u]at h;have:=Kw List.length h;simp at this;omega
 ·intro u
  apply KG
  intro F;rw[Aw s _ (by omega)]at h;have:=Kw List.length h;simp at this;omega
theorem Ig (s:ByteArray) (k:Nat) (h:k<(P s).length):(P s)[k]?=some (st s k):=by
 have u:=vl s k;rw[vm s _ ((dm s k).2 h)]at u;have:=Kw (fun l:List Nat=>l[0]?) u;simp at this;exact this.symm
theorem ic (s:ByteArray) (k:Nat) (h:(P s).length<=k):st s k=s.size:=by
 have u:=kQ s k;have F:=dm s k;omega
theorem cx (s:ByteArray) (k:Nat) (h:k<(P s).length):st s (k+1)=st s k+dw s (st s k):=by
 show(if st s k<s.size then st s k+dw s (st s k)else st s k)=_
 rw[Kd ((dm s k).2 h)]
theorem iu (s:ByteArray) (j:Nat):∀n,j<st s n->∃m,m<n/\m<(P s).length/\st s m<=j/\j<st s m+dw s (st s m)/\st s m+dw s (st s m)<=st s n
 |0,h=>by simp[st]at h
 |n+1,h=>by
  by_cases H:st s n<s.size
  ·have e:=cx s n ((dm s n).1 H)
   by_cases M:j<st s n
   ·obtain⟨m,I,u,F,G,J⟩:=iu s j n M;exact⟨m,by omega,u,F,G,by omega⟩
   ·exact⟨n,by omega,(dm s n).1 H,by omega,by omega,by omega⟩
  ·have e:st s (n+1)=st s n:=by
    show(if st s n<s.size then st s n+dw s (st s n)else st s n)=_
    rw[IO H]
   rw[e]at h;obtain⟨m,I,u,F,G,J⟩:=iu s j n h;exact⟨m,by omega,u,F,G,by omega⟩
theorem fo (c:Option Nat):vv c<64:=LU _ (by omega)
theorem FB (b0:Nat) (c1 c2 c3:Option Nat):(D b0 c1 c2 c3).2=2↔b0 / 32=6/\ct c1=true/\128<=b0 % 32*64+vv c1:=by
 have:=fo c1;unfold D
 generalize vv c1=v1 at *
 generalize vv c2=v2 at *
 generalize vv c3=v3 at *
 generalize ct c1=t1 at *
 generalize ct c2=t2 at *
 generalize ct c3=t3 at *
 by_cases u:b0<128
 ·rw[Kd u];simp;omega
 ·grind
theorem sh (b0:Nat) (c1 c2 c3:Option Nat):(D b0 c1 c2 c3).2=3↔b0 / 16=14/\ct c1=true/\ct c2=true/\2048<=b0 % 16*4096+vv c1*64+vv c2 /\
  (b0 % 16*4096+vv c1*64+vv c2<55296\/57344<=b0 % 16*4096+vv c1*64+vv c2):=by
 have u:=fo c1;have F:=fo c2;unfold D Utf8.valid
 generalize vv c1=v1 at *
 generalize vv c2=v2 at *
 generalize vv c3=v3 at *
 generalize ct c1=t1 at *
 generalize ct c2=t2 at *
 generalize ct c3=t3 at *
 by_cases u:b0<128
 ·rw[Kd u];simp;omega
 ·grind
theorem mB (b0:Nat) (c1 c2 c3:Option Nat):(D b0 c1 c2 c3).2=4↔b0 / 8=30/\ct c1=true/\ct c2=true/\ct c3=true/\65536<=b0 % 8*262144+vv c1*4096+vv c2*64+vv c3 /\
  b0 % 8*262144+vv c1*4096+vv c2*64+vv c3<=1114111:=by
 have u:=fo c1;have F:=fo c2;have G:=fo c3;unfold D Utf8.valid
 generalize vv c1=v1 at *
 generalize vv c2=v2 at *
 generalize vv c3=v3 at *
 generalize ct c1=t1 at *
 generalize ct c2=t2 at *
 generalize ct c3=t3 at *
 by_cases u:b0<128
 ·rw[Kd u];simp;omega
 ·grind
theorem wo (b0:Nat) (c1 c2 c3:Option Nat):(D b0 c1 c2 c3).2<=4:=by
 rcases jH b0 c1 c2 c3 with F|⟨F,u⟩|⟨_,_,u,_⟩|⟨_,_,_,u,_⟩|⟨_,_,_,_,u⟩
 ·rw[F];decide
 ·rw[u];show 1<=4;omega
 ·omega
 ·omega
 ·omega
theorem n2 (b v:Nat) (h:128<=b % 32*64+v) (u:v<64):128<=b % 32*64+0:=by omega
theorem n3a (b:Nat) (u:b % 16=0):2048<=b % 16*4096+63*64+63/\(b % 16*4096+63*64+63<55296\/57344<=b % 16*4096+63*64+63):=by omega
theorem n3b (b:Nat) (u:¬b % 16=0):2048<=b % 16*4096+0*64+0/\(b % 16*4096+0*64+0<55296\/57344<=b % 16*4096+0*64+0):=by omega
theorem n3c (b v w:Nat) (F:w<64) (h:2048<=b % 16*4096+v*64+w) (u:b % 16*4096+v*64+w<55296\/57344<=b % 16*4096+v*64+w) :
  2048<=b % 16*4096+v*64+0/\(b % 16*4096+v*64+0<55296\/57344<=b % 16*4096+v*64+0):=by omega
theorem n4a (b:Nat) (u:b % 8=0):65536<=b % 8*262144+63*4096+63*64+63/\b % 8*262144+63*4096+63*64+63<=1114111:=by omega
theorem n4b (b u F G:Nat) (H:¬b % 8=0) (h:b % 8*262144+u*4096+F*64+G<=1114111):65536<=b % 8*262144+0*4096+0*64+0/\b % 8*262144+0*4096+0*64+0<=1114111:=by omega
theorem n4c (b u F G:Nat) (I:F<64) (J:G<64) (H:65536<=b % 8*262144+u*4096+F*64+G) (h:b % 8*262144+u*4096+F*64+G<=1114111):65536<=b % 8*262144+u*4096+0*64+0/\b % 8*262144+u*4096+0*64+0<=1114111:=by omega
theorem n4d (b u F G:Nat) (I:G<64) (H:65536<=b % 8*262144+u*4096+F*64+G) (h:b % 8*262144+u*4096+F*64+G<=1114111):65536<=b % 8*262144+u*4096+F*64+0/\b % 8*262144+u*4096+F*64+0<=1114111:=by omega
theorem JG (n:Nat) (h:2<n) (u:n<=4):n=3\/n=4:=by omega
theorem IS (n:Nat) (h:1<n) (u:n<=4):n=2\/n=3\/n=4:=by omega
theorem Ii (b0:Nat) (c1 c2 c3 x y:Option Nat) (a0:ct x=true) (J:ct y=true) (I:vv x=0) (v1:vv y=63) :
  (1<(D b0 c1 c2 c3).2->1<(D b0 x x x).2\/1<(D b0 y y y).2) /\
  (2<(D b0 c1 c2 c3).2->2<(D b0 c1 x x).2) /\
  (3<(D b0 c1 c2 c3).2->3<(D b0 c1 c2 x).2):=by
 have h4:=wo b0 c1 c2 c3;refine⟨fun h=>?_,fun h=>?_,fun h=>?_⟩
 ·rcases IS _ h h4 with e|e|e
  ·obtain⟨u,F,G⟩:=(FB _ _ _ _).1 e
   left
   rw[(FB b0 x x x).2 ⟨u,a0,by rw[I];exact n2 _ _ G (fo _)⟩];decide
  ·obtain⟨u,F,G,O,H⟩:=(sh _ _ _ _).1 e
   by_cases M:b0 % 16=0
   ·right
    rw[(sh b0 y y y).2 ⟨u,J,J,by rw[v1];exact n3a _ M⟩];decide
   ·left
    rw[(sh b0 x x x).2 ⟨u,a0,a0,by rw[I];exact n3b _ M⟩];decide
  ·obtain⟨u,F,G,O,H,q6⟩:=(mB _ _ _ _).1 e
   by_cases M:b0 % 8=0
   ·right
    rw[(mB b0 y y y).2 ⟨u,J,J,J,by rw[v1];exact n4a _ M⟩];decide
   ·left
    rw[(mB b0 x x x).2 ⟨u,a0,a0,a0,by rw[I];exact n4b _ _ _ _ M q6⟩];decide
 ·rcases JG _ h h4 with e|e
  ·obtain⟨u,F,G,O,H⟩:=(sh _ _ _ _).1 e;rw[(sh b0 c1 x x).2 ⟨u,F,a0,by rw[I];exact n3c _ _ _ (fo _) O H⟩];decide
  ·obtain⟨u,F,G,O,H,q6⟩:=(mB _ _ _ _).1 e;rw[(mB b0 c1 x x).2 ⟨u,F,a0,a0,by rw[I];exact n4c _ _ _ _ (fo _) (fo _) H q6⟩];decide
 ·obtain⟨u,F,G,O,H,q6⟩:=(mB _ _ _ _).1 (Nat.le_antisymm h4 h);rw[(mB b0 c1 c2 x).2 ⟨u,F,G,a0,by rw[I];exact n4d _ _ _ _ (fo _) H q6⟩];decide
theorem gM (a b:ByteArray) (i:Nat):(a++b).get! i=if i<a.size then a.get! i else b.get! (i-a.size):=by
 have e:∀(x:ByteArray) (k:Nat),x.get! k=x.data.toList[k]?.getD default:=by
  intro x k;show x.data[k]! = _;rw[Me,Ma,Mj]
 have u:a.data.toList.length=a.size:=by simp
 rw[e,e,e,ByteArray.data_append,Array.toList_append]
 by_cases h:i<a.size
 ·rw[Kd h,LX (by omega)]
 ·rw[IO h,Mf (by omega),u]
theorem ax (a b:ByteArray):(a++b).size=a.size+b.size:=by simp[ByteArray.size_append]
theorem cj (a b:ByteArray) (i:Nat):ob (a++b) i=if i<a.size then ob a i else ob b (i-a.size):=by
 unfold ob av;rw[ax,gM]
 by_cases h:i<a.size
 ·rw[Kd h,Kd (by omega),Kd h,Kd h]
 ·grind
theorem bQ (a b:ByteArray) (i:Nat):av (a++b) i=if i<a.size then av a i else av b (i-a.size):=by
 unfold av;rw[gM]
 split<;>rfl
theorem AD (t b:ByteArray) (h0:0<t.size) (h:t.size<dw (t++b) 0):opn t=true:=by
 have F:∀x:ByteArray,x.size=3->t.size<dw (t++x) 0->CJ t x=true:=by
  intro x hx hd;unfold CJ;have:gd (t++x) 0=true:=by unfold gd CK;simp;omega
  rw[this];simpa using hd
 unfold dw at h;rw[aG]at h;have M:=wo (av (t++b) 0) (ob (t++b) (0+1)) (ob (t++b) (0+2)) (ob (t++b) (0+3));have ho:=Ii (av (t++b) 0) (ob (t++b) (0+1)) (ob (t++b) (0+2)) (ob (t++b) (0+3)) (some 128) (some 191) (by decide) (by decide) (by decide) (by decide);have b0:∀x,av (t++x) 0=av t 0:=fun x=>by rw[bQ,Kd h0]
 have u:∀k,k<3->ob ⟨#[128,128,128]⟩ k=some 128:=by
  intro k G
  match k,G with
  |0,_=>decide
  |1,_=>decide
  |2,_=>decide
 have I:∀k,k<3->ob ⟨#[191,191,191]⟩ k=some 191:=by
  intro k G
  match k,G with
  |0,_=>decide
  |1,_=>decide
  |2,_=>decide
 have J:t.size<(D (av t 0) (ob (t++⟨#[128,128,128]⟩) (0+1)) (ob (t++⟨#[128,128,128]⟩) (0+2)) (ob (t++⟨#[128,128,128]⟩) (0+3))).2->opn t=true:=by
  intro H;unfold opn;rw[F ⟨#[128,128,128]⟩ rfl (by unfold dw;rw[aG,b0];exact H)];rfl
 have wB:t.size<(D (av t 0) (ob (t++⟨#[191,191,191]⟩) (0+1)) (ob (t++⟨#[191,191,191]⟩) (0+2)) (ob (t++⟨#[191,191,191]⟩) (0+3))).2->opn t=true:=by
  intro H;unfold opn;rw[F ⟨#[191,191,191]⟩ rfl (by unfold dw;rw[aG,b0];exact H)];simp
 rw[b0]at h M ho;obtain⟨O,aa,ab⟩:=ho
 rcases(show t.size=1\/t.size=2\/t.size=3 by omega)with e|e|e
 ·rcases O (by omega)with q|q
  ·apply J
   rw[cj,cj,cj,IO (by omega),IO (by omega),IO (by omega),u _ (by omega),u _ (by omega),u _ (by omega),e];exact q
  ·apply wB
   rw[cj,cj,cj,IO (by omega),IO (by omega),IO (by omega),I _ (by omega),I _ (by omega),I _ (by omega),e];exact q
 ·have q:=aa (by omega)
  apply J
  rw[cj,Kd (by omega)]at q;rw[cj,cj,cj,Kd (by omega),IO (by omega),IO (by omega),u _ (by omega),u _ (by omega),e];exact q
 ·have q:=ab (by omega)
  apply J
  rw[cj,cj,Kd (by omega),Kd (by omega)]at q;rw[cj,cj,cj,Kd (by omega),Kd (by omega),IO (by omega),u _ (by omega),e];exact q
theorem jv (t:ByteArray) (F:0<t.size) (h:opn t=true):¬av t 0 / 64=2:=by
 intro G
 have u:∀x:ByteArray,CJ t x=false:=by
  intro x
  have e:dw (t++x) 0=1:=by
   unfold dw;rw[yf (t++x) 0 (by rw[bQ,Kd F];exact G)]
  unfold CJ;rw[e];have:decide (t.size<1)=false:=Kr (by omega);rw[this];simp
 unfold opn at h;rw[u,u]at h;cases h
theorem mF (s:ByteArray):∀f n,1<=n->(FD s f n=s.size/\∀m,n<=m->m<n+f->m<=s.size->opn (s.extract (s.size-m) s.size)=false) \/
  (∃m,n<=m/\m<n+f/\m<=s.size/\FD s f n=s.size-m/\opn (s.extract (s.size-m) s.size)=true)
 |0,n,_=>.inl ⟨rfl,fun m F G=>by omega⟩
 |f+1,n,hn=>by
  unfold FD
  by_cases H:n<=s.size
  ·rw[Kd H]
   by_cases u:opn (s.extract (s.size-n) s.size)=true
   ·rw[Kd u];exact .inr ⟨n,by omega,by omega,H,rfl,u⟩
   ·rw[IO u]
    rcases mF s f (n+1) (by omega)with⟨F,G⟩|⟨m,F,G,O,h4,h5⟩
    ·refine .inl ⟨F,fun m J M I=>?_⟩
     by_cases e:m=n
     ·subst e;simpa using u
     ·exact G m (by omega) (by omega) I
    ·exact .inr ⟨m,by omega,by omega,O,h4,h5⟩
  ·rw[IO H];exact .inl ⟨rfl,fun m J M I=>by omega⟩
theorem fm (s:ByteArray):(wh s=s.size/\∀m,1<=m->m<=3->m<=s.size->opn (s.extract (s.size-m) s.size)=false) \/
  (∃m,1<=m/\m<=3/\m<=s.size/\wh s=s.size-m/\opn (s.extract (s.size-m) s.size)=true):=by
 rcases mF s 3 1 (by omega)with⟨u,F⟩|⟨m,u,F,I,J,M⟩
 ·exact .inl ⟨u,fun m G O H=>F m G (by omega) H⟩
 ·exact .inr ⟨m,u,by omega,I,J,M⟩
theorem cC (s:ByteArray):wh s<=s.size/\s.size<=wh s+3:=by
 rcases fm s with⟨u,_⟩|⟨m,u,F,G,H,_⟩<;>omega
theorem Cu (a b:ByteArray) (i:Nat) (F:i<=a.size):Utf8.decode (a.extract i a.size++b) 0=Utf8.decode (a++b) i:=by
 have u:=ag a i a.size (ge _);refine iM _ _ _ _ (fun k _=>?_) (fun k _=>by rw[ax,ax,u];omega);rw[gM,gM,u,dC]
 by_cases h:i+k<a.size
 ·rw[Kd (by omega),Kd (by omega),Kd h,Km]
 ·rw[IO (by omega),IO h,show 0+k-(a.size-i)=i+k-a.size by omega]
theorem fE (a b:ByteArray) (i:Nat) (hi:i<wh a):Utf8.decode (a++b) i=Utf8.decode (a.extract 0 (wh a)) i:=by
 have O:=cC a
 have F:∀k,ob (a.extract 0 (wh a)) k=if k<wh a then ob (a++b) k else none:=by
  intro k;rw[kn a _ _ O.1]
  by_cases h:k<wh a
  ·rw[Kd h,Kd h,cj,Kd (by omega)]
  ·rw[IO h,IO h]
 have J:av (a.extract 0 (wh a)) i=av (a++b) i:=by rw[dM a _ _ hi,bQ,Kd (by omega)]
 have u:∀k,ob (a.extract 0 (wh a)) k=ob (a++b) k\/ob (a.extract 0 (wh a)) k=none:=by
  intro k;rw[F]
  split<;>simp
 by_cases M:gD (Utf8.decode (a.extract 0 (wh a)) i)
 ·have e:=M;rw[aG,J]at e;rw[aG,aG (a.extract 0 (wh a)),J];exact uu _ (u _) (u _) (u _) e
 ·have e2:Utf8.decode (a.extract 0 (wh a)) i=(65533,1):=by
   rw[aG];apply gT;rw[<-aG];exact M
  rw[e2]
  by_cases H:gD (Utf8.decode (a++b) i)
  ·exfalso
   by_cases G:i+dw (a++b) i<=wh a
   ·apply M
    have:Utf8.decode (a.extract 0 (wh a)) i=Utf8.decode (a++b) i:=by
     unfold dw at G;rw[aG]at G;rw[aG,aG (a++b),J];refine CA _ (u _) (u _) (u _) (fun h=>?_) (fun h=>?_) (fun h=>?_)
     all_goals rw[F,Kd (by omega)]
    rw[this];exact H
   ·rcases fm a with⟨w1,w2⟩|⟨m,m1,m2,m3,w1,w2⟩
    ·have h4:dw (a++b) i<=4:=by unfold dw;rw[aG];exact wo _ _ _ _
     have:=w2 (a.size-i) (by omega) (by omega) (by omega);rw[show a.size-(a.size-i)=i by omega]at this
     rw[AD (a.extract i a.size) b (by rw[ag a i _ (ge _)];omega) (by
      unfold dw;rw[Cu a b i (by omega),ag a i _ (ge _)];show _<dw (a++b) i;omega)]at this
     cases this
    ·have I:=eD (a++b) i (wh a-i) (by omega) (by omega);rw[show i+(wh a-i)=wh a by omega,bQ,Kd (by omega)]at I
     apply jv _ (by rw[ag a _ _ (ge _)];omega) w2
     rw[<-w1];unfold av;rw[dC,Kd (by omega),K0];exact I.2
  ·rw[aG];apply gT;rw[<-aG];exact H
theorem ir (a b:ByteArray):∀k,k<=(P (a.extract 0 (wh a))).length->st (a++b) k=st (a.extract 0 (wh a)) k
 |0,_=>rfl
 |k+1,h=>by
  have u:=ir a b k (by omega);have H:=ag a 0 (wh a) (cC a).1;have G:=(dm (a.extract 0 (wh a)) k).2 (by omega);have F:st (a++b) k<(a++b).size:=by rw[u,ax];have:=(cC a).1;omega
  rw[cx (a++b) k ((dm _ k).1 F),cx (a.extract 0 (wh a)) k (by omega),u];unfold dw;rw[fE a b _ (by omega)]
theorem ov (a b:ByteArray):∃m,m=(P (a.extract 0 (wh a))).length/\m<=(P (a++b)).length/\((P (a++b)).map (dp (a++b))).take m=(P (a.extract 0 (wh a))).map (dp (a.extract 0 (wh a))):=by
 have M:=ag a 0 (wh a) (cC a).1
 have I:(P (a.extract 0 (wh a))).length<=(P (a++b)).length:=by
  apply OZ
  intro F;have G:=(dm (a.extract 0 (wh a)) (P (a++b)).length).2 F;have J:=ir a b (P (a++b)).length (by omega);have H:=ic (a++b) _ (ge _);rw[ax]at H;have:=(cC a).1;omega
 refine⟨_,rfl,I,?_⟩
 apply List.ext_getElem?
 intro k;rw[KI]
 by_cases u:k<(P (a.extract 0 (wh a))).length
 ·have G:=(dm (a.extract 0 (wh a)) k).2 u;rw[Kd u,Lb,Lb,Ig _ k u,Ig _ k (by omega),ir a b k (by omega)];simp only[Nq];unfold dp;rw[fE a b _ (by omega)]
 ·rw[IO u,Lb,MF (by omega),Option.map_none]
theorem dJ (a:ByteArray):a.extract 0 a.size=a:=by
 apply ByteArray.ext
 rw[ByteArray.data_extract];exact Array.extract_size
theorem uq (a b:ByteArray) (H:a.size=b.size) (h:∀i,i<a.size->a.get! i=b.get! i):a=b:=by
 apply ByteArray.ext
 apply Array.ext
 ·exact H
 ·intro i u G;have:=h i u
  have e:∀(x:ByteArray) (F:i<x.data.size),x.get! i=x.data[i]:=by
   intro x F;show x.data[i]! = _;exact Oi x.data i F
  rw[e a u,e b G]at this;exact this
theorem aU (a b:ByteArray) (F:a.size=b.size) (h:∀i,i<a.size->av a i=av b i):a=b:=
 uq a b F (fun i u=>N8.1 (h i u))
theorem J5 (b0:Nat) (c1 c2 c3:Option Nat) (G:b0 / 32=6) (u:ct c1=true) (F:128<=b0 % 32*64+vv c1):D b0 c1 c2 c3=(b0 % 32*64+vv c1,2):=by
 unfold D;rw[IO (by omega),Kd (by rw[u];simp;omega),Kd F]
theorem J4 (b0:Nat) (c1 c2 c3:Option Nat) (J:b0 / 16=14) (G:ct c1=true) (F:ct c2=true) (M:2048<=b0 % 16*4096+vv c1*64+vv c2)
  (O:b0 % 16*4096+vv c1*64+vv c2<55296\/57344<=b0 % 16*4096+vv c1*64+vv c2):D b0 c1 c2 c3=(b0 % 16*4096+vv c1*64+vv c2,3):=by
 have u:=(sh b0 c1 c2 c3).2 ⟨J,G,F,M,O⟩;unfold D at u ⊢;have H:(b0 / 32==6)=false:=by simp;omega
 have I:(b0 / 16==14)=true:=by simp;omega
 rw[IO (by omega),H,G,F,I]at u ⊢;simp only[Oy,MT,Bool.and_true,MG,LP,KE]at u ⊢
 split
 ·rfl
 ·rename_i hn;rw[IO hn]at u;cases u
theorem J3 (b0:Nat) (c1 c2 c3:Option Nat) (O:b0 / 8=30) (H:ct c1=true) (G:ct c2=true) (u:ct c3=true) (h3:65536<=b0 % 8*262144+vv c1*4096+vv c2*64+vv c3)
  (h4:b0 % 8*262144+vv c1*4096+vv c2*64+vv c3<=1114111):D b0 c1 c2 c3=(b0 % 8*262144+vv c1*4096+vv c2*64+vv c3,4):=by
 have F:=(mB b0 c1 c2 c3).2 ⟨O,H,G,u,h3,h4⟩;unfold D at F ⊢;have I:(b0 / 32==6)=false:=by simp;omega
 have J:(b0 / 16==14)=false:=by simp;omega
 have M:(b0 / 8==30)=true:=by simp;omega
 rw[IO (by omega),I,H,G,u,J,M]at F ⊢;simp only[Oy,MT,Bool.and_true,MG,LP,KE]at F ⊢
 split
 ·rfl
 ·rename_i hn;rw[IO hn]at F;cases F
def pt (c:Nat):Prop:=c<55296\/(57344<=c/\c<=1114111)
theorem Ak (c:Nat) (h:pt c):Utf8.valid (c:Int)=true:=by
 unfold pt at h;unfold Utf8.valid
 rcases h with h|h
 ·simp;omega
 ·simp;omega
theorem BH (c:Nat) (h:pt c):Utf8.encode (c:Int) =
  if c<0x80 then⟨#[UInt8.ofNat c]⟩
  else if c<0x800 then⟨#[UInt8.ofNat (0xC0+c / 64),UInt8.ofNat (0x80+c % 64)]⟩
  else if c<0x10000 then⟨#[UInt8.ofNat (0xE0+c / 4096),UInt8.ofNat (0x80+c / 64 % 64),UInt8.ofNat (0x80+c % 64)]⟩
  else⟨#[UInt8.ofNat (0xF0+c / 262144),UInt8.ofNat (0x80+c / 4096 % 64),UInt8.ofNat (0x80+c / 64 % 64),UInt8.ofNat (0x80+c % 64)]⟩:=by
 unfold Utf8.encode;simp only[Ak c h,MG,Lp]
theorem BG (c:Nat) (h:pt c):(Utf8.encode (c:Int)).size=if c<128 then 1 else if c<2048 then 2 else if c<65536 then 3 else 4:=by
 rw[BH c h]
 repeat' split
 all_goals rfl
theorem Hh (c:Nat) (h:pt c):av (Utf8.encode (c:Int)) 0=if c<128 then c else if c<2048 then 192+c / 64 else if c<65536 then 224+c / 4096 else 240+c / 262144:=by
 rw[BH c h];unfold pt at h
 repeat' split
 all_goals(show(UInt8.ofNat _).toNat=_;simp;omega)
theorem EN (c:Nat) (h:pt c):0<(Utf8.encode (c:Int)).size:=by
 rw[BG c h];repeat' split
 all_goals omega
theorem F0 (s:ByteArray) (i:Nat):pt (dp s i):=by
 unfold dp pt;rw[aG];have aa:=fo (ob s (i+1));have ab:=fo (ob s (i+2))
 rcases jH (av s i) (ob s (i+1)) (ob s (i+2)) (ob s (i+3))with M|⟨M,u⟩|⟨_,_,u,_⟩|⟨_,_,_,u,_⟩|⟨_,_,_,_,u⟩
 ·rw[M];simp
 ·rw[u];left;show av s i<_;omega
 ·obtain⟨F,G,H⟩:=(FB _ _ _ _).1 u;rw[J5 _ _ _ _ F G H];left;show av s i % 32*64+_<_;omega
 ·obtain⟨F,G,H,J,I⟩:=(sh _ _ _ _).1 u;rw[J4 _ _ _ _ F G H J I];show(av s i % 16*4096+_+_<_\/_<=av s i % 16*4096+_+_/\av s i % 16*4096+_+_<=_);omega
 ·obtain⟨F,G,H,J,I,O⟩:=(mB _ _ _ _).1 u;rw[J3 _ _ _ _ F G H J I O]
  right
  exact⟨Kh (by omega) I,O⟩
theorem aB (s:ByteArray) (a b i:Nat) (h:a+i<b):av (s.extract a b) i=av s (a+i):=by
 unfold av;rw[dC,Kd h]
theorem Ie (s:ByteArray) (k:Nat) (h:k<(P s).length):(P s).take (k+1)=(P s).take k++[st s k]:=by
 have u:=Ig s k h;rw[List.take_succ_eq_append_getElem h];have:=(Kq.1 u).2;rw[this]
def DV (s:ByteArray):List Nat:=(P s).map (dp s)
theorem ve (s:ByteArray):(DV s).length=(P s).length:=by unfold DV;simp
theorem Ai (s:ByteArray) (k:Nat) (h:k<(P s).length):(DV s).take (k+1)=(DV s).take k++[dp s (st s k)]:=by
 unfold DV;rw[<-List.map_take,Ie s k h,Lf,List.map_take];rfl
