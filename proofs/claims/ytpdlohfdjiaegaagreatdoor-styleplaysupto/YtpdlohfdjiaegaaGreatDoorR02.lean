import Derived.Test.YtpdlohfdjiaegaaGreatDoorR01
import Derived.Laws.RangeAny
import Derived.Test.YtpdlohfdjiaegaaGreatDoorRows
import Derived.ProofKit
import Derived.OpenShut
import Derived.Lay
import Derived.Deep.Strs
import Derived.Stop.Joined
import Derived.MakeChecks
import Derived.WalkKit
import Derived.WalkSpells
import Derived.WalkLawsBesides
import Derived.WalkSmall
set_option linter.unusedVariables false
set_option linter.unusedSimpArgs false
set_option maxHeartbeats 400000
namespace Go.Proofs.YtpdlohfdjiaegaaGreatDoor.Lx
/-
 The plain mathematics of layer 1: characters by the model's decoding.
-/
def dp (s:ByteArray) (i:Nat):Nat:=(Utf8.decode s i).1
def dw (s:ByteArray) (i:Nat):Nat:=(Utf8.decode s i).2
theorem ub (s:ByteArray) (i:Nat) (h:s.size<=i):(s.get! i).toNat=0:=by
 have e:s.get! i=default:=by
  show s.data[i]! = default
  exact getElem!_neg _ _ (by show ¬i<s.data.size;have:s.data.size=s.size:=rfl;omega)
 rw [e];rfl
theorem aJ (s:ByteArray) (i:Nat) (h:i<s.size):1<=dw s i/\dw s i<=4/\i+dw s i<=s.size:=by
 unfold dw Utf8.decode;simp only []
 repeat' split
 all_goals simp_all
 all_goals omega
theorem lT (s:ByteArray) (i:Nat):dp s i<=1114111:=by
 have hb:∀k,(s.get! (i+k)).toNat<256:=fun k=>(s.get! (i+k)).toNat_lt
 have h0:=hb 0;have h1:=hb 1;have h2:=hb 2;have h3:=hb 3;unfold dp Utf8.decode;simp only []
 repeat' split
 all_goals simp_all [Utf8.runeError,Utf8.valid]
 all_goals omega
theorem kl (s t:ByteArray) (i j:Nat) (h:∀k,k<4->t.get! (j+k)=s.get! (i+k)) (hz:∀k,k<4->(j+k<t.size↔i+k<s.size)):Utf8.decode t j=Utf8.decode s i:=by
 unfold Utf8.decode;simp only [h 0 (by omega),h 1 (by omega),h 2 (by omega),h 3 (by omega),hz 1 (by omega),hz 2 (by omega),hz 3 (by omega)]
theorem eR (s:ByteArray) (a b i:Nat):(s.extract a b).get! i=if a+i<b then s.get! (a+i) else default:=by
 have e:∀(x:ByteArray) (k:Nat),x.get! k=x.data.toList[k]?.getD default:=by
  intro x k;show x.data[k]! = _;rw [Array.getElem!_eq_getD,BL,BM]
 rw [e,e,ByteArray.data_extract,Array.toList_extract];simp only [List.extract_eq_take_drop,Ag,Aj]
 by_cases h:a+i<b
 ·rw [zw h,zw (by omega)]
 ·rw [zu h,zu (by omega)];rfl
theorem aC (s:ByteArray) (a b:Nat) (h:b<=s.size):(s.extract a b).size=b-a:=by
 rw [ByteArray.size_extract];omega
theorem eK (s:ByteArray) (a i:Nat) (h:a<=s.size):Utf8.decode (s.extract a s.size) i=Utf8.decode s (a+i):=by
 refine kl _ _ _ _ (fun k _=>?_) (fun k _=>by rw [aC s a _ (eq _)];omega);rw [eR]
 by_cases hk:a+(i+k)<s.size
 ·rw [zw hk,A8]
 ·rw [zu hk];show _=s.data[a+i+k]!;exact (getElem!_neg _ _ (by show ¬_<s.data.size;have:s.data.size=s.size:=rfl;omega)).symm
def gdb (p n:Int):Bool:=(p != 65533) || decide (1<n)
def gd (s:ByteArray) (i:Nat):Bool:=gdb (dp s i) (dw s i)
def goB (s t:ByteArray):Bool:=gd (s++t) 0 && decide (s.size<dw (s++t) 0)
def opn (s:ByteArray):Bool:=goB s ⟨#[128,128,128]⟩ || goB s ⟨#[191,191,191]⟩
def whF (s:ByteArray):Nat->Nat->Nat
 |0,_=>s.size
 |f+1,n=>if n<=s.size then (if opn (s.extract (s.size-n) s.size)=true then s.size-n else whF s f (n+1)) else s.size
def plc (s:ByteArray):Nat->Nat->List Nat
 |0,_=>[]
 |f+1,i=>if i<s.size then i :: plc s f (i+dw s i) else []
theorem kY (s:ByteArray):∀(f g i:Nat),s.size<=i+f->s.size<=i+g->plc s f i=plc s g i
 |0,0,_,_,_=>rfl
 |0,g+1,i,h,_=>by unfold plc;rw [zu (by omega)]
 |f+1,0,i,_,h=>by unfold plc;rw [zu (by omega)]
 |f+1,g+1,i,hf,hg=>by
  unfold plc
  split
  ·rename_i hi
   have:=(aJ s i hi).1;rw [kY s f g (i+dw s i) (by omega) (by omega)]
  ·rfl
def pl (s:ByteArray) (i:Nat):List Nat:=plc s (s.size-i) i
def P (s:ByteArray):List Nat:=pl s 0
theorem n8 (s:ByteArray) (i:Nat) (h:i<s.size):pl s i=i :: pl s (i+dw s i):=by
 have hw:=aJ s i h;unfold pl;obtain ⟨f,hf⟩:∃f,s.size-i=f+1:=⟨s.size-i-1,by omega⟩;rw [hf];show (if i<s.size then i :: plc s f (i+dw s i) else [])=_;rw [zw h,kY s f (s.size-(i+dw s i)) _ (by omega) (by omega)]
theorem rX (s:ByteArray) (i:Nat) (h:s.size<=i):pl s i=[]:=by
 unfold pl;rw [show s.size-i=0 by omega];rfl
theorem rW (s:ByteArray):∀(f i:Nat),(plc s f i).length<=f
 |0,_=>by simp [plc]
 |f+1,i=>by
  unfold plc
  split
  ·simp;exact rW s f _
  ·simp
theorem oP (s:ByteArray):(P s).length<=s.size:=by
 unfold P pl;exact zr (rW s _ _) (by omega)
end Go.Proofs.YtpdlohfdjiaegaaGreatDoor.Lx
namespace Go.Proofs.YtpdlohfdjiaegaaGreatDoor.Lx
open Go.ChangeShapes Go.WideShapes Go.ChangeAt Go.RowKit
variable {w w' W:World}
theorem ez {P:Program}:∀(laid:List (String × DataW Unit)) (ps:List MemPlace),DataW.LaidVars P w laid ps->∀n d,(n,d)∈laid ->
  ∃g t cs fuel p,P.globalNamed n=some g/\(P.globals[g]?).map (·.type)=some t/\w.var? P n=some cs/\DataW.trod (fun _=>()) P w 0 (fun _=>true) false fuel t cs.toList=some (d,p)
 |[],_,_,n,d,h=>by cases h
 | (m,e) :: r,ps,⟨g,t,cs,fuel,p,q,h1,h2,h3,h4,h5,_⟩,n,d,h=>by
  rcases zK.1 h with h|h
  ·cases h;exact ⟨g,t,cs,fuel,p,h1,h2,h3,h4⟩
  ·exact ez r q h5 n d h
def dV:List (Int × Int × Int):=[(48,57,1),(65,90,2),(95,95,1),(97,122,2),(192,214,2),(216,246,2),(248,591,2),(768,879,1),(913,929,2),(931,974,2),(1024,1119,2),(1488,1514,2),(1568,1610,2),(2308,2361,2),(12353,12438,2),(12449,12538,2),(19968,40959,2),(44032,55203,2),(66560,66639,2),(131072,196607,2)]
def clo (i:Nat):Int:=(dV.getD i (0,0,0)).1
def chi (i:Nat):Int:=(dV.getD i (0,0,0)).2.1
def cus (i:Nat):Int:=(dV.getD i (0,0,0)).2.2
def mn (w:World):Prop:=∀i,i<20->w.cell? ⟨0,i*3,none⟩=some (.int .i64 (clo i))/\w.cell? ⟨0,i*3+1,none⟩=some (.int .i64 (chi i))/\w.cell? ⟨0,i*3+2,none⟩=some (.int .i64 (cus i))
theorem mn.below (h:mn w) (hb:Below w.heap.size w w'):mn w':=by
 intro i hi;obtain ⟨h0,h1,h2⟩:=h i hi;have hz:=zy w _ h0;exact ⟨(hb.cell (p:=⟨0,i*3,none⟩) hz).trans h0,(hb.cell (p:=⟨0,i*3+1,none⟩) hz).trans h1,(hb.cell (p:=⟨0,i*3+2,none⟩) hz).trans h2⟩
theorem nz:(Rows.laid_colophon_class_spans:DataW Unit)=.agg (dV.map fun x=>.agg [.lit (.int .i64 x.1),.lit (.int .i64 x.2.1),.lit (.int .i64 x.2.2)]):=by kernel_rfl
theorem kn {L:List (String × DataW Unit)}(hpl:(L.all fun x=>x.2.handleName?.isNone)=true) (hm:("colophon/class.spans",Rows.laid_colophon_class_spans)∈L) (h:laidMetH Tryz.prog L W):mn W:=by
 rw [MakeChecks.laidMetH_plain _ _ _ hpl] at h;obtain ⟨ps,hps,_,_⟩:=h;obtain ⟨g,t,cs,fuel,p,hg,ht,hv,hd⟩:=ez L ps hps _ _ hm;obtain rfl:=zT ((show Tryz.prog.globalNamed "colophon/class.spans"=some 0 by kernel_rfl).symm.trans hg);obtain rfl:=zT ((show (Tryz.prog.globals[0]?).map (·.type)=some 233 by kernel_rfl).symm.trans ht);rw [nz] at hd;obtain ⟨xs,m,_,ex,_,hl,hel⟩:=DataW.trod_array Tryz.underlying233 hd;have c3:Tryz.prog.cellsOf 3=1:=by kernel_rfl
 have c37:Tryz.prog.cellsOf 199=1:=by kernel_rfl
 have cS:Tryz.prog.cellsOf 232=3:=by kernel_rfl
 intro i hi;have hE:=hel i hi;rw [cS,hH (by omega)] at hE;obtain ⟨y0,y1,y2,n,ey,_,g0,g1,g2⟩:=Deep.trod_struct3 Tryz.underlying232 hE;simp only [c3,c37] at g0 g1 g2;obtain ⟨z0,a0,b0,_⟩:=AG Ac g0;obtain ⟨z1,a1,b1,_⟩:=AG Ac g1;obtain ⟨z2,a2,b2,_⟩:=AG Tryz.underlying199 g2;have hlen:dV.length=20:=rfl;have e3:(xs.map (·.1))=dV.map fun x=>(.agg [.lit (.int .i64 x.1),.lit (.int .i64 x.2.1),.lit (.int .i64 x.2.2)]:DataW Unit):=(DC (D5 ex).1).symm
 have e4:(xs.map (·.1))[i]?=(dV.map fun x=>(.agg [.lit (.int .i64 x.1),.lit (.int .i64 x.2.1),.lit (.int .i64 x.2.2)]:DataW Unit))[i]?:=by rw [e3]
 rw [AK,AK,hH (by omega:i<xs.length),hH (by omega:i<dV.length),ey,b0,b1,b2] at e4;simp only [BN,zL,DataW.agg.injEq,List.cons.injEq,CZ,Lit.int.injEq,true_and,and_true] at e4;obtain ⟨f0,f1,f2⟩:=e4;have hT:dV.getD i (0,0,0)=dV[i]:=by rw [List.getD,hH (show i<dV.length by omega)];rfl
 have key:∀(o:Nat) (z:Int),o<3->(((cs.toList.drop (i*3)).take 3).drop o).take 1=[.int .i64 z]->W.cell? ⟨0,i*3+o,none⟩=some (.int .i64 z):=by
  intro o z ho hz;rw [C0 hg hv (i*3+o)];have h0:((((cs.toList.drop (i*3)).take 3).drop o).take 1)[0]?=some (.int .i64 z):=by rw [hz];rfl
  rw [Ag,zw (by omega),Aj,Ag,zw (by omega),Aj] at h0
  simpa using h0
 refine ⟨?_,?_,?_⟩
 ·have:=key 0 z0 (by omega) (by simpa using a0);rw [A3] at this;rw [this,clo,hT,f0];rfl
 ·have:=key 1 z1 (by omega) (by simpa using a1);rw [this,chi,hT,f1];rfl
 ·have:=key 2 z2 (by omega) (by simpa using a2);rw [this,cus,hT,f2];rfl
def bU:List ByteArray:=[⟨#[97,110,100]⟩,⟨#[97,114,114,97,121]⟩,⟨#[98,101,103,105,110]⟩,⟨#[99,111,110,115,116]⟩,⟨#[100,111]⟩,⟨#[101,108,105,102]⟩,⟨#[101,108,115,101]⟩,⟨#[101,110,100]⟩,⟨#[102,111,114]⟩,⟨#[105,102]⟩,⟨#[110,111,116]⟩,⟨#[111,102]⟩,⟨#[111,114]⟩,⟨#[112,114,111,99]⟩,⟨#[112,114,111,103,114,97,109]⟩,⟨#[114,101,99,111,114,100]⟩,⟨#[114,101,112,101,97,116]⟩,⟨#[114,101,116,117,114,110]⟩,⟨#[115,107,105,112]⟩,⟨#[116,104,101,110]⟩,⟨#[116,111]⟩,⟨#[117,110,116,105,108]⟩,⟨#[118,97,114]⟩,⟨#[119,104,105,108,101]⟩]
def qO (w:World):Prop:=∀i,i<24->w.cell? ⟨2,i,none⟩=some (.string (bU.getD i ByteArray.empty))
theorem qO.below (h:qO w) (hb:Below w.heap.size w w'):qO w':=by
 intro i hi;have h0:=h i hi;exact (hb.cell (p:=⟨2,i,none⟩) (zy w _ h0)).trans h0
theorem mu:(Rows.laid_colophon_class_words:DataW Unit)=.agg (bU.map fun x=>.lit (.string x.data.toList)):=by kernel_rfl
theorem jI {L:List (String × DataW Unit)}(hpl:(L.all fun x=>x.2.handleName?.isNone)=true) (hm:("colophon/class.words",Rows.laid_colophon_class_words)∈L) (h:laidMetH Tryz.prog L W):qO W:=by
 rw [MakeChecks.laidMetH_plain _ _ _ hpl] at h;obtain ⟨ps,hps,_,_⟩:=h;obtain ⟨g,t,cs,fuel,p,hg,ht,hv,hd⟩:=ez L ps hps _ _ hm;obtain rfl:=zT ((show Tryz.prog.globalNamed "colophon/class.words"=some 2 by kernel_rfl).symm.trans hg);obtain rfl:=zT ((show (Tryz.prog.globals[2]?).map (·.type)=some 265 by kernel_rfl).symm.trans ht);rw [mu] at hd;obtain ⟨xs,m,_,ex,_,hl,hel⟩:=DataW.trod_array Tryz.underlying265 hd;have c9:Tryz.prog.cellsOf 9=1:=by kernel_rfl
 intro i hi;have hE:=hel i hi;rw [c9,hH (by omega)] at hE;obtain ⟨s,a0,b0,_⟩:=Dt Am hE;have hlen:bU.length=24:=rfl;have e3:(xs.map (·.1))=bU.map fun x=>(.lit (.string x.data.toList):DataW Unit):=(DC (D5 ex).1).symm
 have e4:(xs.map (·.1))[i]?=(bU.map fun x=>(.lit (.string x.data.toList):DataW Unit))[i]?:=by rw [e3]
 rw [AK,AK,hH (by omega:i<xs.length),hH (by omega:i<bU.length),b0] at e4;simp only [BN,zL,CZ,Lit.string.injEq] at e4;have hT:bU.getD i ByteArray.empty=bU[i]:=by rw [List.getD,hH (show i<bU.length by omega)];rfl
 have hs:s=bU[i]:=by
  have:=Bh.1 e4;cases hs:s;cases hx:bU[i];simp_all
 rw [C0 hg hv i,hT,<-hs];have h0:(((cs.toList.drop (i*1)).take 1))[0]?=some (.string s):=by rw [a0];rfl
 rw [Ag,zw (by omega),Aj] at h0
 simpa using h0
def bD:List ByteArray:=[⟨#[58,61]⟩,⟨#[46,46]⟩,⟨#[60,61]⟩,⟨#[62,61]⟩,⟨#[59]⟩,⟨#[46]⟩,⟨#[44]⟩,⟨#[58]⟩,⟨#[61]⟩,⟨#[35]⟩,⟨#[60]⟩,⟨#[62]⟩,⟨#[40]⟩,⟨#[41]⟩,⟨#[91]⟩,⟨#[93]⟩,⟨#[43]⟩,⟨#[45]⟩,⟨#[42]⟩,⟨#[47]⟩,⟨#[37]⟩]
def qP (w:World):Prop:=∀i,i<21->w.cell? ⟨1,i,none⟩=some (.string (bD.getD i ByteArray.empty))
theorem qP.below (h:qP w) (hb:Below w.heap.size w w'):qP w':=by
 intro i hi;have h0:=h i hi;exact (hb.cell (p:=⟨1,i,none⟩) (zy w _ h0)).trans h0
theorem mC:(Rows.laid_colophon_class_signs:DataW Unit)=.agg (bD.map fun x=>.lit (.string x.data.toList)):=by kernel_rfl
theorem jO {L:List (String × DataW Unit)}(hpl:(L.all fun x=>x.2.handleName?.isNone)=true) (hm:("colophon/class.signs",Rows.laid_colophon_class_signs)∈L) (h:laidMetH Tryz.prog L W):qP W:=by
 rw [MakeChecks.laidMetH_plain _ _ _ hpl] at h;obtain ⟨ps,hps,_,_⟩:=h;obtain ⟨g,t,cs,fuel,p,hg,ht,hv,hd⟩:=ez L ps hps _ _ hm;obtain rfl:=zT ((show Tryz.prog.globalNamed "colophon/class.signs"=some 1 by kernel_rfl).symm.trans hg);obtain rfl:=zT ((show (Tryz.prog.globals[1]?).map (·.type)=some 236 by kernel_rfl).symm.trans ht);rw [mC] at hd;obtain ⟨xs,m,_,ex,_,hl,hel⟩:=DataW.trod_array Tryz.underlying236 hd;have c9:Tryz.prog.cellsOf 9=1:=by kernel_rfl
 intro i hi;have hE:=hel i hi;rw [c9,hH (by omega)] at hE;obtain ⟨s,a0,b0,_⟩:=Dt Am hE;have hlen:bD.length=21:=rfl;have e3:(xs.map (·.1))=bD.map fun x=>(.lit (.string x.data.toList):DataW Unit):=(DC (D5 ex).1).symm
 have e4:(xs.map (·.1))[i]?=(bD.map fun x=>(.lit (.string x.data.toList):DataW Unit))[i]?:=by rw [e3]
 rw [AK,AK,hH (by omega:i<xs.length),hH (by omega:i<bD.length),b0] at e4;simp only [BN,zL,CZ,Lit.string.injEq] at e4;have hT:bD.getD i ByteArray.empty=bD[i]:=by rw [List.getD,hH (show i<bD.length by omega)];rfl
 have hs:s=bD[i]:=by
  have:=Bh.1 e4;cases hs:s;cases hx:bD[i];simp_all
 rw [C0 hg hv i,hT,<-hs];have h0:(((cs.toList.drop (i*1)).take 1))[0]?=some (.string s):=by rw [a0];rfl
 rw [Ag,zw (by omega),Aj] at h0
 simpa using h0
def Kab (w:World):Prop:=mn w/\qO w/\qP w
theorem Kab.below (h:Kab w) (hb:Below w.heap.size w w'):Kab w':=⟨h.1.below hb,h.2.1.below hb,h.2.2.below hb⟩
theorem lB {L:List (String × DataW Unit)}(hpl:(L.all fun x=>x.2.handleName?.isNone)=true) (h1:("colophon/class.spans",Rows.laid_colophon_class_spans)∈L)
  (h2:("colophon/class.words",Rows.laid_colophon_class_words)∈L) (h3:("colophon/class.signs",Rows.laid_colophon_class_signs)∈L) (h:laidMetH Tryz.prog L W):Kab W:=
 ⟨kn hpl h1 h,jI hpl h2 h,jO hpl h3 h⟩
end Go.Proofs.YtpdlohfdjiaegaaGreatDoor.Lx
namespace Go.Proofs.YtpdlohfdjiaegaaGreatDoor.Lx
open Go.RowKit
theorem w64 (n:Nat) (h:n<=1114111):wrap64 (n:Int)=n:=by unfold wrap64;omega
theorem uN {k:IntKind}{a b:Int}(h:a=b):Ending.returned (.int k a)=.returned (.int k b):=by rw [h]
theorem cd (w:World) (s:ByteArray) (p:Nat):Below w.heap.size w (w.iter s p):=(gt _ _).alloc (eq _) _
theorem qx (s:ByteArray) (w:World) (hs:s.size<=maxLen) :
  Aa 186 #[.string s] w fun e w'=>e=.returned (.int .i64 (P s).length)/\∃pos,w'=w.iter s pos:=by
 unfold maxLen at hs;have hP:=oP s
 go_enter Tryz.func186,Tryz.ntmps186
 go_wp2
 go_loopw [3] (fun n w'=>∃(pos k:Nat),w'=w.iter s pos/\n=.int .i64 k/\k+(pl s pos).length=(P s).length) (fun _ w'=>s.size-w'.iterPos w.heap.size)
 case atStart=>exact ⟨0,0,rfl,rfl,by simp [P]⟩
 case round=>
  obtain ⟨pos,k,rfl,rfl,hc⟩:=hrel;have hkb:k<=(P s).length:=by omega
  by_cases hp:pos<s.size
  ·have hnx:∀ty,(Instr.next (.pointer (some ⟨w.heap.size,0,none⟩)) true ty).run Tryz.prog (w.iter s pos)=_:=fun ty=>Db w s pos ty hp
   have hw:=aJ s pos hp;have hlen:(pl s pos).length=(pl s (pos+dw s pos)).length+1:=by rw [n8 s pos hp];simp
   have HC:Hid (k+1+(pl s (pos+dw s pos)).length=(P s).length):=by show _=_;omega
   have hk1:k+1<=(P s).length:=by omega
   clear hc hlen;unfold dw at hw
   go_wp2
   go_roundw
   case rel=>exact ⟨pos+dw s pos,k+1,rfl,by go_num,HC.out⟩
   case measure=>
    simp;omega
  ·have hnx:∀ty,(Instr.next (.pointer (some ⟨w.heap.size,0,none⟩)) true ty).run Tryz.prog (w.iter s pos)=_:=fun ty=>DO w s pos ty hp
   have hz:(pl s pos).length=0:=by rw [rX s pos (by omega)];rfl
   have HC:Hid (k=(P s).length):=by show _=_;omega
   clear hc hz
   go_wp2
   go_ret
   exact ⟨uN (by rw [HC.out]),_,rfl⟩
theorem ql (s:ByteArray) (w:World) (hs:s.size<=maxLen) (h0:0<s.size) :
  Aa 130 #[.string s] w fun e w'=>e=.returned (.tuple #[.int .i32 (dp s 0),.int .i64 (dw s 0)])/\Below w.heap.size w w':=by
 unfold maxLen at hs;have hw:=aJ s 0 h0
 go_enter Tryz.func130,Tryz.ntmps130
 go_wp2
 go_loopw [4] (fun p w'=>w'=w.iter s 0\/(p=.int .i32 (dp s 0)/\w'=w.iter s (dw s 0))) (fun _ w'=>s.size-w'.iterPos w.heap.size)
 case atStart=>exact .inl rfl
 case round=>
  rcases hrel with rfl|⟨rfl,rfl⟩
  ·have hnx:∀ty,(Instr.next (.pointer (some ⟨w.heap.size,0,none⟩)) true ty).run Tryz.prog (w.iter s 0)=_:=fun ty=>Db w s 0 ty h0
   unfold dw at hw
   go_wp2
   go_roundw
   case rel=>exact .inr ⟨rfl,by simp [dw]⟩
   case measure=>simp;omega
  ·by_cases hp:dw s 0<s.size
   ·have hnx:∀ty,(Instr.next (.pointer (some ⟨w.heap.size,0,none⟩)) true ty).run Tryz.prog (w.iter s (dw s 0))=_:=fun ty=>Db w s (dw s 0) ty hp
    go_wp2
    go_ret2
    exact ⟨rfl,cd _ _ _⟩
   ·have hnx:∀ty,(Instr.next (.pointer (some ⟨w.heap.size,0,none⟩)) true ty).run Tryz.prog (w.iter s (dw s 0))=_:=fun ty=>DO w s (dw s 0) ty hp
    have HE:Hid (s.size=dw s 0):=by show _=_;omega
    go_wp2
    go_ret2
    exact ⟨by rw [HE.out];rfl,cd _ _ _⟩
theorem sR (p n:Int) (w:World) :
  Aa 131 #[.int .i32 p,.int .i64 n] w fun e w'=>e=.returned (.bool (gdb p n))/\w'=w:=by
 by_cases hp:p=65533
 ·have e:gdb p n=decide (1<n):=by simp [gdb,hp]
  have h1:(p != 65533)=false:=by simp [hp]
  rw [e];clear e hp
  go_enter Tryz.func131,Tryz.ntmps131
  go_wp2
  go_ret
  exact ⟨rfl,rfl⟩
 ·have e:gdb p n=true:=by simp [gdb,hp]
  have h1:(p != 65533)=true:=by simp [hp]
  rw [e];clear e hp
  go_enter Tryz.func131,Tryz.ntmps131
  go_wp2
  go_ret
  exact ⟨rfl,rfl⟩
theorem oj (s:ByteArray) (a:Int) (w:World) (hs:s.size<=maxLen) (h0:0<=a) (h1:a<s.size) :
  Aa 82 #[.string s,.int .i64 a] w fun e w'=>e=.returned (.tuple #[.int .i64 (dp s a.toNat),.int .i64 (dw s a.toNat),.bool (gd s a.toNat)])/\Below w.heap.size w w':=by
 obtain ⟨n,rfl⟩:=Int.eq_ofNat_of_zero_le h0;rw [BZ];have hz:(s.extract n s.size).size=s.size-n:=aC s n _ (eq _);have Hp:Hid (dp (s.extract n s.size) 0=dp s n):=by show _=_;unfold dp;rw [eK s n 0 (by omega)];rfl
 have Hw:Hid (dw (s.extract n s.size) 0=dw s n):=by show _=_;unfold dw;rw [eK s n 0 (by omega)];rfl
 unfold maxLen at hs
 go_enter Tryz.func82,Tryz.ntmps82
 go_wp2_with fail
 refine (ql _ _ (by unfold maxLen;omega) (by omega)).mono ?_;rintro e w1 ⟨rfl,hb1⟩;rw [Hp.out,Hw.out]
 go_wp2_with fail
 refine (sR _ _ _).mono ?_;rintro e w2 ⟨rfl,rfl⟩
 go_wp2_with fail
 go_ret3
 exact ⟨by show Ending.returned (.tuple #[.int .i64 (wrap64 (dp s n)),_,_])=_;rw [w64 _ (lT s n)];rfl,hb1⟩
theorem ls (s:ByteArray) (a:Int) (w:World) (hs:s.size<=maxLen) (h1:a<0\/s.size<=a) :
  Aa 82 #[.string s,.int .i64 a] w fun e w'=>e=.returned (.tuple #[.int .i64 0,.int .i64 0,.bool false])/\Below w.heap.size w w':=by
 unfold maxLen at hs
 rcases h1 with h1|h1
 ·go_enter Tryz.func82,Tryz.ntmps82
  go_wp2_with fail
  go_ret3
  exact ⟨rfl,gt _ _⟩
 ·have h2:¬a<0:=by omega
  go_enter Tryz.func82,Tryz.ntmps82
  go_wp2_with fail
  go_ret3
  exact ⟨rfl,gt _ _⟩
theorem Tryz.info3:(Tryz.prog.info? 3).map (fun i=>(i.zero,i.size,i.bytes))=some (some (.int .i64 0),1,8):=by kernel_rfl
end Go.Proofs.YtpdlohfdjiaegaaGreatDoor.Lx
namespace Go.Proofs.YtpdlohfdjiaegaaGreatDoor.Lx
def by8 (s:ByteArray) (i:Nat):Nat:=(s.get! i).toNat
def ob (s:ByteArray) (i:Nat):Option Nat:=if i<s.size then some (by8 s i) else none
def ct (c:Option Nat):Bool:=match c with|some b=>b / 64 == 2|none=>false
def vv (c:Option Nat):Nat:=c.getD 0 % 64
def D (b0:Nat) (c1 c2 c3:Option Nat):Nat × Nat:=
 if b0<128 then (b0,1)
 else if b0 / 32 == 6 && ct c1 then (if b0 % 32*64+vv c1>=128 then (b0 % 32*64+vv c1,2) else (65533,1))
 else if b0 / 16 == 14 && ct c1 && ct c2 then
  (if b0 % 16*4096+vv c1*64+vv c2>=2048 && Utf8.valid (b0 % 16*4096+vv c1*64+vv c2:Nat) then (b0 % 16*4096+vv c1*64+vv c2,3) else (65533,1))
 else if b0 / 8 == 30 && ct c1 && ct c2 && ct c3 then
  (if b0 % 8*262144+vv c1*4096+vv c2*64+vv c3>=65536 && Utf8.valid (b0 % 8*262144+vv c1*4096+vv c2*64+vv c3:Nat) then (b0 % 8*262144+vv c1*4096+vv c2*64+vv c3,4) else (65533,1))
 else (65533,1)
theorem yS (s:ByteArray) (i:Nat):(decide (i<s.size) && (s.get! i).toNat / 64 == 2)=ct (ob s i):=by
 unfold ob ct by8
 by_cases h:i<s.size <;> simp [h]
theorem yR (s:ByteArray) (i:Nat):vv (ob s i)=(s.get! i).toNat % 64:=by
 unfold ob vv by8
 by_cases h:i<s.size
 ·simp [h]
 ·simp [h,ub s i (by omega)]
theorem bR (s:ByteArray) (i:Nat):Utf8.decode s i=D (by8 s i) (ob s (i+1)) (ob s (i+2)) (ob s (i+3)):=by
 unfold Utf8.decode D;simp only [A3,yS,yR,by8,Utf8.runeError]
def gD (x:Nat × Nat):Prop:=x.1≠65533\/1<x.2
theorem sh:¬gD (65533,1):=by unfold gD;simp
theorem kE (b0:Nat) (c1 c2 c3:Option Nat) :
  (D b0 c1 c2 c3=(65533,1))\/(b0<128/\D b0 c1 c2 c3=(b0,1)) \/
  (b0 / 32=6/\ct c1=true/\(D b0 c1 c2 c3).2=2/\∀d2 d3,D b0 c1 d2 d3=D b0 c1 c2 c3) \/
  (b0 / 16=14/\ct c1=true/\ct c2=true/\(D b0 c1 c2 c3).2=3/\∀d3,D b0 c1 c2 d3=D b0 c1 c2 c3) \/
  (b0 / 8=30/\ct c1=true/\ct c2=true/\ct c3=true/\(D b0 c1 c2 c3).2=4):=by
 by_cases h1:b0<128
 ·exact .inr (.inl ⟨h1,by unfold D;rw [zw h1]⟩)
 ·have e:∀x1 x2 x3,D b0 x1 x2 x3=_:=fun x1 x2 x3=>by unfold D;rw [zu h1]
  by_cases h2:(b0 / 32 == 6 && ct c1)=true
  ·by_cases h3:b0 % 32*64+vv c1>=128
   ·refine .inr (.inr (.inl ?_));have h2':=h2;simp at h2';refine ⟨h2'.1,h2'.2,?_,fun d2 d3=>?_⟩
    ·rw [e,zw h2,zw h3]
    ·rw [e,e,zw h2,zw h2]
   ·exact .inl (by rw [e,zw h2,zu h3])
  ·by_cases h4:(b0 / 16 == 14 && ct c1 && ct c2)=true
   ·by_cases h5:(decide (b0 % 16*4096+vv c1*64+vv c2>=2048) && Utf8.valid (b0 % 16*4096+vv c1*64+vv c2:Nat))=true
    ·refine .inr (.inr (.inr (.inl ?_)));have h4':=h4;simp at h4';refine ⟨h4'.1.1,h4'.1.2,h4'.2,?_,fun d3=>?_⟩
     ·rw [e,zu h2,zw h4,zw h5]
     ·rw [e,e,zu h2,zw h4,zu h2,zw h4]
    ·exact .inl (by rw [e,zu h2,zw h4,zu h5])
   ·by_cases h6:(b0 / 8 == 30 && ct c1 && ct c2 && ct c3)=true
    ·by_cases h7:(decide (b0 % 8*262144+vv c1*4096+vv c2*64+vv c3>=65536) && Utf8.valid (b0 % 8*262144+vv c1*4096+vv c2*64+vv c3:Nat))=true
     ·refine .inr (.inr (.inr (.inr ?_)));have h6':=h6;simp at h6';exact ⟨h6'.1.1.1,h6'.1.1.2,h6'.1.2,h6'.2,by rw [e,zu h2,zu h4,zw h6,zw h7]⟩
     ·exact .inl (by rw [e,zu h2,zu h4,zw h6,zu h7])
    ·exact .inl (by rw [e,zu h2,zu h4,zu h6])
theorem jH (b0:Nat) (c1 c2 c3:Option Nat) (h:¬gD (D b0 c1 c2 c3)):D b0 c1 c2 c3=(65533,1):=by
 unfold gD at h
 rcases kE b0 c1 c2 c3 with h1|⟨h1,h2⟩|⟨_,_,h2,_⟩|⟨_,_,_,h2,_⟩|⟨_,_,_,_,h2⟩
 ·exact h1
 ·rw [h2] at h;simp at h;omega
 ·rw [h2] at h;simp at h
 ·rw [h2] at h;simp at h
 ·rw [h2] at h;simp at h
theorem eV {c c':Option Nat}(h:c'=c\/c'=none) (hc:ct c'=true):c'=c:=by
 rcases h with h|h
 ·exact h
 ·rw [h] at hc;cases hc
theorem yy (b0:Nat) {c1 c2 c3 c1' c2' c3':Option Nat}(h1:c1'=c1\/c1'=none) (h2:c2'=c2\/c2'=none) (h3:c3'=c3\/c3'=none) (hg:gD (D b0 c1' c2' c3')):D b0 c1 c2 c3=D b0 c1' c2' c3':=by
 rcases kE b0 c1' c2' c3' with e|⟨e1,e2⟩|⟨_,e1,_,e2⟩|⟨_,e1,e2,_,e3⟩|⟨_,e1,e2,e3,_⟩
 ·rw [e] at hg;exact absurd hg sh
 ·rw [e2];unfold D;rw [zw e1]
 ·obtain rfl:=eV h1 e1;exact e2 _ _
 ·obtain rfl:=eV h1 e1;obtain rfl:=eV h2 e2;exact e3 _
 ·obtain rfl:=eV h1 e1;obtain rfl:=eV h2 e2;obtain rfl:=eV h3 e3;rfl
theorem yx (b0:Nat) {c1 c2 c3 c1' c2' c3':Option Nat}(h1:c1'=c1\/c1'=none) (h2:c2'=c2\/c2'=none) (h3:c3'=c3\/c3'=none)
  (k1:1<(D b0 c1 c2 c3).2->c1'=c1) (k2:2<(D b0 c1 c2 c3).2->c2'=c2) (k3:3<(D b0 c1 c2 c3).2->c3'=c3):D b0 c1' c2' c3'=D b0 c1 c2 c3:=by
 rcases kE b0 c1 c2 c3 with e|⟨e1,e2⟩|⟨_,e1,e0,e2⟩|⟨_,e1,e2,e0,e3⟩|⟨_,e1,e2,e3,e0⟩
 ·rw [e];refine jH _ _ _ _ (fun hg=>?_);rw [<-yy b0 h1 h2 h3 hg,e] at hg;exact sh hg
 ·rw [e2];unfold D;rw [zw e1]
 ·obtain rfl:=k1 (by omega);exact e2 _ _
 ·obtain rfl:=k1 (by omega);obtain rfl:=k2 (by omega);exact e3 _
 ·obtain rfl:=k1 (by omega);obtain rfl:=k2 (by omega);obtain rfl:=k3 (by omega);rfl
theorem xQ (s:ByteArray) (i:Nat):gd s i=true↔gD (Utf8.decode s i):=by
 unfold gd gdb gD dp dw;simp;omega
theorem xP (s:ByteArray) (i:Nat) (h:gd s i=false):Utf8.decode s i=(65533,1):=by
 rw [bR]
 apply jH
 rw [<-bR,<-xQ,h];simp
theorem wi {c:Option Nat}(h:ct c=true):∃b,c=some b/\b / 64=2:=by
 cases c with
 |none=>cases h
 |some b=>exact ⟨b,rfl,by simpa [ct] using h⟩
theorem vg {s:ByteArray}{i b:Nat}(h:ob s i=some b):i<s.size/\by8 s i=b:=by
 unfold ob at h
 split at h
 ·exact ⟨‹_›,by simpa using h⟩
 ·cases h
theorem gu (s:ByteArray) (i k:Nat) (h1:1<=k) (h2:k<dw s i):i+k<s.size/\by8 s (i+k) / 64=2:=by
 have hh:∀j,ct (ob s j)=true->j<s.size/\by8 s j / 64=2:=by
  intro j hj;obtain ⟨b,hb,hb2⟩:=wi hj;obtain ⟨g1,g2⟩:=vg hb;exact ⟨g1,by rw [g2];exact hb2⟩
 unfold dw at h2;rw [bR] at h2
 rcases kE (by8 s i) (ob s (i+1)) (ob s (i+2)) (ob s (i+3)) with e|⟨_,e⟩|⟨_,e1,e0,_⟩|⟨_,e1,e2,e0,_⟩|⟨_,e1,e2,e3,e0⟩
 ·rw [e] at h2;simp at h2;omega
 ·rw [e] at h2;simp at h2;omega
 ·rw [e0] at h2;obtain rfl:k=1:=by omega
  exact hh _ e1
 ·rw [e0] at h2
  rcases (show k=1\/k=2 by omega) with rfl|rfl
  ·exact hh _ e1
  ·exact hh _ e2
 ·rw [e0] at h2
  rcases (show k=1\/k=2\/k=3 by omega) with rfl|rfl|rfl
  ·exact hh _ e1
  ·exact hh _ e2
  ·exact hh _ e3
theorem fO (s:ByteArray) (a i:Nat) (h:i<a):by8 (s.extract 0 a) i=by8 s i:=by
 unfold by8;rw [eR,zw (by omega),zC]
theorem ka (s:ByteArray) (a i:Nat) (ha:a<=s.size):ob (s.extract 0 a) i=if i<a then ob s i else none:=by
 unfold ob;rw [aC s 0 a ha]
 by_cases h:i<a
 ·rw [zw (by omega),zw h,zw (by omega),fO s a i h]
 ·rw [zu (by omega),zu h]
theorem tA (s:ByteArray) (a i:Nat) (ha:a<=s.size) (hi:i<a) (hd:i+dw s i<=a):Utf8.decode (s.extract 0 a) i=Utf8.decode s i:=by
 unfold dw at hd;rw [bR] at hd;rw [bR,bR,fO s a i hi,ka s a _ ha,ka s a _ ha,ka s a _ ha];refine yx _ ?_ ?_ ?_ (fun h=>zw (by omega)) (fun h=>zw (by omega)) (fun h=>zw (by omega))
 all_goals split <;> simp
def st (s:ByteArray):Nat->Nat
 |0=>0
 |n+1=>if st s n<s.size then st s n+dw s (st s n) else st s n
theorem ix (s:ByteArray):∀n,st s n<=s.size
 |0=>zx _
 |n+1=>by
  unfold st
  split
  ·exact (aJ s _ ‹_›).2.2
  ·exact ix s n
theorem nZ (s:ByteArray):∀n,pl s (st s n)=(P s).drop n
 |0=>rfl
 |n+1=>by
  have ih:=nZ s n;unfold st
  split
  ·rename_i h
   rw [n8 s _ h] at ih;rw [<-Do,<-ih];rfl
  ·rename_i h
   rw [ih];rw [rX s _ (by omega)] at ih;rw [<-ih,<-Do,<-ih];rfl
theorem dr (s:ByteArray) (k:Nat):st s k<s.size↔k<(P s).length:=by
 have h:=nZ s k;constructor
 ·intro hk;rw [n8 s _ hk] at h;have:=zO List.length h;simp at this;omega
 ·intro hk
  apply Ap
  intro hn;rw [rX s _ (by omega)] at h;have:=zO List.length h;simp at this;omega
theorem P_at (s:ByteArray) (k:Nat) (h:k<(P s).length):(P s)[k]?=some (st s k):=by
 have h1:=nZ s k;rw [n8 s _ ((dr s k).2 h)] at h1;have:=zO (fun l:List Nat=>l[0]?) h1;simp at this;exact this.symm
theorem iy (s:ByteArray) (k:Nat) (h:(P s).length<=k):st s k=s.size:=by
 have h1:=ix s k;have h2:=dr s k;omega
theorem cI (s:ByteArray) (k:Nat) (h:k<(P s).length):st s (k+1)=st s k+dw s (st s k):=by
 show (if st s k<s.size then st s k+dw s (st s k) else st s k)=_
 rw [zw ((dr s k).2 h)]
theorem fA (s:ByteArray) (j:Nat):∀n,j<st s n->∃m,m<n/\m<(P s).length/\st s m<=j/\j<st s m+dw s (st s m)/\st s m+dw s (st s m)<=st s n
 |0,h=>by simp [st] at h
 |n+1,h=>by
  by_cases hn:st s n<s.size
  ·have e:=cI s n ((dr s n).1 hn)
   by_cases hj:j<st s n
   ·obtain ⟨m,h1,h2,h3,h4,h5⟩:=fA s j n hj;exact ⟨m,by omega,h2,h3,h4,by omega⟩
   ·exact ⟨n,by omega,(dr s n).1 hn,by omega,by omega,by omega⟩
  ·have e:st s (n+1)=st s n:=by
    show (if st s n<s.size then st s n+dw s (st s n) else st s n)=_
    rw [zu hn]
   rw [e] at h;obtain ⟨m,h1,h2,h3,h4,h5⟩:=fA s j n h;exact ⟨m,by omega,h2,h3,h4,by omega⟩
theorem gH (a:ByteArray):a.extract 0 a.size=a:=by
 apply ByteArray.ext
 rw [ByteArray.data_extract];exact Array.extract_size
theorem kB (a b:ByteArray) (hz:a.size=b.size) (h:∀i,i<a.size->a.get! i=b.get! i):a=b:=by
 apply ByteArray.ext
 apply Array.ext
 ·exact hz
 ·intro i h1 h2;have:=h i h1
  have e:∀(x:ByteArray) (hx:i<x.data.size),x.get! i=x.data[i]:=by
   intro x hx;show x.data[i]! = _;exact DP x.data i hx
  rw [e a h1,e b h2] at this;exact this
theorem fP (a b:ByteArray) (hz:a.size=b.size) (h:∀i,i<a.size->by8 a i=by8 b i):a=b:=
 kB a b hz (fun i hi=>DR.1 (h i hi))
theorem bv (s:ByteArray) (a b i:Nat) (h:a+i<b):by8 (s.extract a b) i=by8 s (a+i):=by
 unfold by8;rw [eR,zw h]
end Go.Proofs.YtpdlohfdjiaegaaGreatDoor.Lx
namespace Go.Proofs.YtpdlohfdjiaegaaGreatDoor.Lx
open Go.RowKit
theorem yv (s:ByteArray) (k:Nat) (h:k<(P s).length):(P s).take (k+1)=(P s).take k++[st s k]:=by
 have h1:=P_at s k h;rw [AX h];have:=(zv.1 h1).2;rw [this]
def pts (s:ByteArray):List Nat:=(P s).map (dp s)
theorem nX (s:ByteArray):(pts s).length=(P s).length:=by unfold pts;simp
theorem rQ (s:ByteArray) (k:Nat) (h:k<(P s).length):(pts s).take (k+1)=(pts s).take k++[dp s (st s k)]:=by
 unfold pts;rw [<-List.map_take,yv s k h,BO,List.map_take];rfl
end Go.Proofs.YtpdlohfdjiaegaaGreatDoor.Lx
