import Derived.Lib.Bytealg
import Derived.Lib.Walk
import Derived.Shelf.RegionOpenPlain
import Derived.RangeFuncNested
import Derived.RangeFuncBound
import Derived.RangeFuncCalls
import Derived.RangeFuncLeaves
import Derived.Shelf.Abstract
import Derived.Shelf.RegionOpen
import Derived.OwnWalkIn
import Derived.TacticsInMore
import Derived.LoopNIn
import Derived.LoopIn
import Derived.Deep.RegionWith
import Derived.Test.YtcmbkeghnmgbfaaGreatDoorM03
set_option linter.all false
set_option maxHeartbeats 2000000
set_option maxRecDepth 100000
namespace Go.Proofs.YtcmbkeghnmgbfaaGreatDoor.Lx
open Go.Proofs.Tryz
open Go.RowKit
variable {b:ByteArray}{W w w' W':World}{B y z z' f d m n:Nat}{a l c:Int}{o:Bool}
theorem Jy:∀l:List UInt8,(Lib.indexByte l 10=-1/\∀k:Nat,k<l.length->l[k]?≠some (10:UInt8))\/∃j:Nat,Lib.indexByte l 10=(j:Int)/\j<l.length/\l[j]?=some (10:UInt8)/\∀k,k<j->l[k]?≠some (10:UInt8)
 |[]=>.inl ⟨rfl,fun k h=>by simp at h⟩
 |b :: l=>by
  unfold Lib.indexByte
  by_cases u:b=10
  ·exact .inr ⟨0,by simp[u],by simp,by simp[u],fun k h=>by omega⟩
  ·have G:(b==(10:UInt8))=false:=by simpa using u
   rw[G]
   rcases Jy l with⟨F,H⟩|⟨j,F,H,J,M⟩
   ·left
    refine⟨by simp[F],fun k I=>?_⟩;cases k with
    |zero=>simpa using u
    |succ k=>simp only[Mz];exact H k (by simpa using I)
   ·right
    refine⟨j+1,?_,by simp;omega,by simpa using J,fun k I=>?_⟩
    ·have:¬((j:Int)=-1):=by omega
     simp[F,this]
    ·cases k with
     |zero=>simpa using u
     |succ k=>simp only[Mz];exact M k (by omega)
theorem lQ (s:ByteArray) (k:Nat) (h:k<s.size):av s k=10↔s.data.toList[k]?=some (10:UInt8):=by
 have u:k<s.data.size:=h
 have e:s.get! k=s.data.toList[k]?.getD default:=by
  show s.data[k]! = _
  rw[Me,Ma,Mj]
 unfold av;rw[e,Mj,Lh u];simp;constructor
 ·intro h;exact N8.1 h
 ·intro h;rw[h];rfl
def CG (r:ByteArray):Int:=if nl r 0<r.size then(nl r 0:Int)else -1
theorem rm (r:ByteArray):Lib.indexByte r.data.toList 10=CG r:=by
 have J:r.data.toList.length=r.size:=by simp
 rcases Jy r.data.toList with⟨u,G⟩|⟨j,u,G,H,I⟩
 ·have e:nl r 0=r.size:=qQ r 0 r.size (Kj _) (ge _) (fun k _ F=>fun hc=>G k (by omega) ((lQ r k F).1 hc)) (.inl rfl);rw[u];unfold CG;rw[IO (by omega)]
 ·have e:nl r 0=j:=qQ r 0 j (Kj _) (by omega) (fun k _ F=>fun hc=>I k F ((lQ r k (by omega)).1 hc)) (.inr ((lQ r j (by omega)).2 H));rw[u];unfold CG;rw[Kd (by omega),e]
theorem ii (s:ByteArray) (w:World) :
  Kb 218 #[.string s,.int .u8 10] w fun e w'=>e=.returned (.int .i64 (CG s))/\w'=w:=by
 go_enter func218,ntmps218
 go_wp2
 rw[run_callFunc_extern func274 (by kernel_rfl) (by kernel_rfl) (by kernel_rfl) (e:=Extern.BytealgIndexByte.indexByte) (by kernel_rfl),Lib.run_indexByteString];simp only[Result.andThen];rw[Oper.upon_value]
 go_wp2
 go_ret
 exact⟨by rw[<-rm];rfl,rfl⟩
theorem gJ (s:ByteArray) (w:World) :
  Kb 164 #[.string s,.string ⟨#[10]⟩] w fun e w'=>e=.returned (.int .i64 (CG s))/\w'=w:=by
 go_enter func164,ntmps164
 go_wp2_with(go_at_call 218;refine(ii _ _).mono ?_;rintro e w'⟨rfl,rfl⟩)
 ·have h:([(10:UInt8)]==s.toList)=true:=by assumption
  have e:s.data.toList=[10]:=by rw[<-Lib.toList_data];exact(LM.1 h).symm
  have u:CG s=0:=by rw[<-rm,e];rfl
  go_ret
  exact⟨by rw[u];rfl,rfl⟩
 ·go_ret
  exact⟨rfl,rfl⟩
def oY (r:ByteArray):ByteArray:=r.extract 0 (nl r 0)
def mp (r:ByteArray):ByteArray:=if nl r 0<r.size then r.extract (nl r 0+1) r.size else⟨#[]⟩
def mq (r:ByteArray):Bool:=decide (nl r 0<r.size)
theorem wW (s:ByteArray) (w:World) (M:s.size<=maxLen) :
  Kb 120 #[.string s,.string ⟨#[10]⟩] w fun e w'=>e=.returned (.tuple #[.string (oY s),.string (mp s),.bool (mq s)])/\Kc w w':=by
 unfold maxLen at M;have J:=ga s 0 (Kj _)
 by_cases h:nl s 0<s.size
 ·have H:Hid (CG s=(nl s 0:Int)):=by show _=_;unfold CG;rw[Kd h]
  have F:Hid (oY s=s.extract 0 (nl s 0)):=rfl;have G:Hid (mp s=s.extract (nl s 0+1) s.size):=by show _=_;unfold mp;rw[Kd h]
  have I:Hid (mq s=true):=by show _=_;unfold mq;simp[h]
  obtain⟨n,u⟩:∃n,nl s 0=n:=⟨_,rfl⟩;rw[u]at H F G J h;clear u
  go_enter func120,ntmps120
  go_wp2_with(go_at_call 164;refine(gJ _ _).mono ?_;rintro e w'⟨rfl,rfl⟩;rw[H.out])
  go_region
  go_wp2
  go_ret3
  exact⟨by rw[F.out,G.out,I.out];rfl,(gt _ _).drew⟩
 ·have H:Hid (CG s=-1):=by show _=_;unfold CG;rw[IO h]
  have F:Hid (oY s=s):=by show _=_;unfold oY;rw[show nl s 0=s.size by omega,dJ]
  have G:Hid (mp s=⟨#[]⟩):=by show _=_;unfold mp;rw[IO h]
  have I:Hid (mq s=false):=by show _=_;unfold mq;simp[h]
  clear J h
  go_enter func120,ntmps120
  go_wp2_with(go_at_call 164;refine(gJ _ _).mono ?_;rintro e w'⟨rfl,rfl⟩;rw[H.out])
  go_ret3
  exact⟨by rw[F.out,G.out,I.out];rfl,gt _ _⟩
theorem EU (s:ByteArray) (w:World) (F:s.size<=maxLen) :
  Kb 86 #[.string s,.string ⟨#[10]⟩] w fun e w'=>e=.returned (.tuple #[.string (oY s),.string (mp s),.bool (mq s)])/\Kc w w':=by
 go_enter func86,ntmps86
 go_wp2_with(go_at_call 120;refine(wW _ _ F).mono ?_;rintro e w'⟨rfl,u⟩)
 go_ret3
 exact⟨rfl,u⟩
theorem yc (s:ByteArray) (w:World) :
  Kb 54 #[.string s] w fun e w'=>e=.returned (.func (.func 85) #[] #[.pointer (some ⟨w.heap.size,0,none⟩)])/\w'=w.alloc (.cells #[.string s] 9):=by
 have u:=mkfn
 go_enter func54,ntmps54
 go_wp2
 go_ret
 exact⟨rfl,rfl⟩
open Go.RowKit Go.Shelf
attribute [local go_sem] Oper.semAt_some
def LN (s:ByteArray):Nat:=cn s s.size+1
def jW (s:ByteArray) (k:Nat):List (Int × ByteArray):=(List.range k).map (fun i=>(((i+1:Nat):Int),ln s i))
theorem ji (s:ByteArray) (k:Nat):jW s (k+1)=jW s k++[(((k+1:Nat):Int),ln s k)]:=by
 unfold jW;rw[List.range_succ,Lf];rfl
theorem zg (s:ByteArray) (k:Nat):(jW s k).length=k:=by unfold jW;simp
theorem D8 (s:ByteArray) (a:Nat) (G:a<=s.size):nl (s.extract a s.size) 0=nl s a-a:=by
 have z:=ag s a s.size (ge _);obtain⟨H,I,u,F⟩:=ga s a G;refine qQ _ 0 _ (Kj _) (by omega) (fun k _ J=>?_) ?_
 ·rw[aB s a s.size k (by omega)];exact u _ (by omega) (by omega)
 ·by_cases e:nl s a=s.size
  ·left;omega
  ·right;rw[aB s a s.size _ (by omega),show a+(nl s a-a)=nl s a by omega];exact F (by omega)
theorem Hn (s:ByteArray) (k:Nat) (h:k<LN s):oY (s.extract (bg s k) s.size)=ln s k/\mq (s.extract (bg s k) s.size)=decide (k+1<LN s) /\
  (k+1<LN s->mp (s.extract (bg s k) s.size)=s.extract (bg s (k+1)) s.size):=by
 unfold LN at h ⊢;have F:=lT s k (by omega);obtain⟨H,I,u⟩:=FQ s k (by omega);have z:=ag s (bg s k) s.size (ge _);have e:=D8 s (bg s k) F.1;refine⟨?_,?_,fun J=>?_⟩
 ·unfold oY;rw[e,cX s (bg s k) s.size 0 _ (ge _) (by omega) (Kj _),K0,show bg s k+(nl s (bg s k)-bg s k)=nl s (bg s k)by omega];rfl
 ·unfold mq;rw[e,z]
  by_cases hc:nl s (bg s k)<s.size
  ·have:=u.1 hc;rw[Ku (by omega),Ku (by omega)]
  ·have:¬k<cn s s.size:=fun G=>hc (u.2 G)
   rw[Kr (by omega),Kr (by omega)]
 ·have hc:=u.2 (by omega);unfold mp;rw[e,z,Kd (by omega),cX s (bg s k) s.size _ _ (ge _) (by omega) (by omega)];show s.extract _ _=s.extract (nl s (bg s k)+1) _
  congr 1<;>omega
abbrev Ln:={ x:Int × ByteArray // x.2.size<=maxLen }
abbrev FV (x:Ln):Array Value:=#[.int .i64 x.1.1,.string x.1.2]
theorem gn (h:Kc w w'):w.grownBy w' none:=⟨h.os,h.tape,h.output,h.size,fun k u _=>h.block k u⟩
theorem gk (h:Below w.heap.size w w'):KeepsOthers w w':=KeepsOthers.of_grownBy (gn h) (fun _ _ e=>by cases e)
theorem qT (n:Nat) (hn:1<=n) (M:Nat) (s:ByteArray) (hs:s.size<=2147483647) (w:World) (hB:M<w.heap.size) (hc:w.cell? ⟨M,0,none⟩=some (.string s)) :
  SeqStopsK Fence.wide n Tryz.prog 85 #[.pointer (some ⟨M,0,none⟩)] FV (fun _ _=>True) (fun xs=>xs.map (·.1)=jW s (LN s)) (fun pre=>∃k,k<=LN s/\pre.map (·.1)=jW s k) (LN s) w:=fun l J Jx W hW hJ an hY h0=>by
 have hL:LN s<=2147483648:=by have:=F2 s s.size;unfold LN;omega
 have ap:W.cell? ⟨M,0,none⟩=some (.string s):=(hW.cell (p:=⟨M,0,none⟩) hB).trans hc;refine callsIn_of_wp func85 rfl trivial ?_ rfl;simp only[ntmps85,NE,List.length_cons,LB,Nat.reduceAdd,Nat.reduceSub,MW,MX,NF,Nc,LA,KF]
 gi_wp2
 gi_loopw [3,4,5] (fun r b m wr=>∃(k:Nat) (pre:List Ln) (q:ByteArray) (z:Int),r=.string q/\b=.bool (decide (k<LN s))/\m=.int .i64 z/\Hid (z=((k+1:Nat):Int))/\Hid (k<=LN s)/\Hid (pre.map (·.1)=jW s k)/\Hid (k<LN s->q=s.extract (bg s k) s.size)/\J pre wr)
  (fun _ _ m _=>LN s+1-(RowKit.intOf m).toNat)
 case atStart=>
  refine⟨0,[],s,1,rfl,by rw[Ku (by unfold LN;omega)],rfl,rfl,Kj _,rfl,?_,h0⟩;intro _;rw[show bg s 0=0 from rfl,dJ]
 case round=>
  obtain⟨k,pre,q,z,rfl,rfl,rfl,I,HK,HP,HQ,ad⟩:=hrel
  by_cases G:k<LN s
  ·obtain⟨e1,e2,e3⟩:=Hn s k G;have hq:=HQ.out G;have am:q.size<=maxLen:=by rw[hq,ag _ _ _ (ge _)];unfold maxLen;omega
   have F:(ln s k).size<=maxLen:=by have:=Eg s k (by unfold LN at G;omega);unfold maxLen;omega
   rw[<-hq]at e1 e2 e3;obtain⟨b,hb⟩:∃b,decide (k<LN s)=b:=⟨_,rfl⟩;have af:b=true:=by rw[<-hb];exact Ku G
   rw[hb,af];have O:=ku e1;have aa:=ku e2;have ab:=ku e3;have H:=ku G;have aq:0<=z:=by have:=I.out;omega
   have ar:z<=2147483648:=by have:=I.out;omega
   have ah:Hid (pre.length<LN s):=by
    show _<_
    have:=Kw List.length HP.out;rw[zg,Lj]at this;omega
   clear e1 e2 e3 hq hb af HQ G;obtain⟨L,u⟩:∃L,ln s k=L:=⟨_,rfl⟩;obtain⟨CL,hCL⟩:∃L,oY q=L:=⟨_,rfl⟩;obtain⟨CR,hCR⟩:∃L,mp q=L:=⟨_,rfl⟩;obtain⟨CB,hCB⟩:∃L,mq q=L:=⟨_,rfl⟩
   have hcut:∀w,Kb 86 #[.string q,.string ⟨#[10]⟩] w fun e w'=>e=.returned (.tuple #[.string CL,.string CR,.bool CB])/\Below w.heap.size w w':=by
    intro w;rw[<-hCL,<-hCR,<-hCB];exact EU q w am
   rw[hCL,u]at O;rw[hCB]at aa;rw[hCR]at ab;rw[u]at F;obtain rfl:=O.out;have ac:=ku u;clear hCL hCR hCB u
   gi_wp2
   refine⟨trivial,?_⟩;refine(Nj.2 (hcut _)).mono ?_;rintro e w1⟨rfl,al⟩;have aj:=hJ pre _ w1 none ad (gn al) (fun r e=>by cases e);obtain⟨fn,tmps,assign,body,hy,hR⟩:=hY pre ⟨(z,CL),F⟩ w1 aj ah.out
   dsimp only[FV]at hy
   gi_wp2
   refine hR.mono ?_;rintro e W3 (⟨rfl,ak,_⟩|⟨rfl,ai⟩)
   ·gi_wp2
    go_roundw
    case rel=>exact⟨k+1,pre++[⟨(z,CL),F⟩],CR,z+1,rfl,by rw[aa.out],by go_num,by show _=_;rw[I.out];omega,H.out,by show _=_;rw[Lf,HP.out,ji,ac.out,I.out];rfl,ab.out,ak⟩
    case measure=>simp[RowKit.intOf];have:=I.out;have:=H.out;omega
   ·gi_wp2
    refine Kv (Ol rfl _ _ _) rfl ?_;exact⟨⟨_,rfl⟩,.inr ⟨pre++[⟨(z,CL),F⟩],⟨k+1,H.out,by rw[Lf,HP.out,ji,ac.out,I.out];rfl⟩,ai⟩⟩
  ·have ae:decide (k<LN s)=false:=Kr G;rw[ae];have HE:Hid (k=LN s):=by show _=_;have:=HK.out;omega
   clear ae G HQ
   gi_wp2
   go_end0
   exact⟨⟨_,rfl⟩,.inl ⟨pre,by rw[HP.out,HE.out],ad⟩⟩
attribute [local go_sem] Oper.semAt_some
attribute [local go_sem] Oper.semAt_some
def plV (a l c:Int):Value:=.agg #[.int .i64 a,.int .i64 l,.int .i64 c]
def aZ (W:World) (B:Nat) (a l c:Int):Prop:=W.heap[B]?=some (.cells #[.int .i64 a,.int .i64 l,.int .i64 c] 33 (0,0))
theorem aZ.lt {W:World}{B:Nat}{a l c:Int}(h:aZ W B a l c):B<W.heap.size:=(K8.1 h).1
theorem aZ.cell0 (h:aZ W B a l c):W.cell? ⟨B,0,none⟩=some (.int .i64 a):=by simp[World.cell?,show W.heap[B]?=_ from h]
theorem aZ.cell1 (h:aZ W B a l c):W.cell? ⟨B,1,none⟩=some (.int .i64 l):=by simp[World.cell?,show W.heap[B]?=_ from h]
theorem aZ.cell2 (h:aZ W B a l c):W.cell? ⟨B,2,none⟩=some (.int .i64 c):=by simp[World.cell?,show W.heap[B]?=_ from h]
theorem aZ.frozen {W:World}{B:Nat}{a l c:Int}(h:aZ W B a l c) (k:Nat):W.frozen? ⟨B,k,none⟩=false:=by simp[World.frozen?,show W.heap[B]?=_ from h]
theorem aZ.new (W:World) (a l c:Int):aZ (W.alloc (.cells #[.int .i64 a,.int .i64 l,.int .i64 c] 33)) W.heap.size a l c:=World.alloc_heap_new W _
theorem aZ.kept {W W':World}{row:Option Nat}{B:Nat}{a l c:Int}(h:aZ W B a l c) (F:W.grownBy W' row) (u:some B≠row):aZ W' B a l c:=(F.block B h.lt u).trans h
theorem aZ.alloc {W:World}{B:Nat}{a l c:Int}(h:aZ W B a l c) (o:Obj):aZ (W.alloc o) B a l c:=h.kept (World.grownBy_alloc W o none) (by simp)
theorem aZ.below (h:aZ W B a l c) (u:Below W.heap.size W W'):aZ W' B a l c:=(u.block B h.lt).trans h
theorem aZ.drew {W:World}{B:Nat}{a l c:Int}(h:aZ W B a l c):aZ W.drew B a l c:=h
theorem aZ.set0 (h:aZ W B a l c) (v:Int):aZ (W.setCell ⟨B,0,none⟩ (.int .i64 v)) B v l c:=by
 obtain⟨u,F⟩:=K8.1 h;show(W.heap.modify B _)[B]?=_;rw[Lh (by rw[LK];exact u),Mm,F];rfl
theorem aZ.set1 (h:aZ W B a l c) (v:Int):aZ (W.setCell ⟨B,1,none⟩ (.int .i64 v)) B a v c:=by
 obtain⟨u,F⟩:=K8.1 h;show(W.heap.modify B _)[B]?=_;rw[Lh (by rw[LK];exact u),Mm,F];rfl
theorem aZ.set2 (h:aZ W B a l c) (v:Int):aZ (W.setCell ⟨B,2,none⟩ (.int .i64 v)) B a l v:=by
 obtain⟨u,F⟩:=K8.1 h;show(W.heap.modify B _)[B]?=_;rw[Lh (by rw[LK];exact u),Mm,F];rfl
theorem gK (W:World) (p:Addr) (v:Value):W.grownBy (W.setCell p v) (some p.block):=
 ⟨rfl,rfl,rfl,(KeepsWalks.setCell W _ v).size,fun k _ u=>No _ _ _ k (fun e=>u (by rw[e]))⟩
theorem jC {row:Option Nat}(h:aZ W B a l c) (F:W.grownBy W' row) (G:∀r,row=some r->∃o:Obj,W.heap[r]?=some o/\o.isCells=false):aZ W' B a l c:=
 h.kept F (fun e=>by
  obtain⟨o,u,hc⟩:=G B e.symm;rw[show W.heap[B]?=_ from h]at u;cases u;cases hc)
theorem Ck {W:World}{B:Nat}{a l c:Int}(h:aZ W B a l c) {D:Nat}{o o':Obj}(u:W.heap[D]?=some o) (F:o.isCells=false):aZ (W.putObj D o') B a l c:=
 jC h (grownBy_putObj' W D o') (fun r e=>by cases e;exact⟨o,u,F⟩)
theorem Cc (s:ByteArray) (w:World) (u:s.size<=maxLen) :
  Kb 55 #[.string s] w fun e w'=>e=.returned (.int .i64 (P s).length)/\Below w.heap.size w w':=
 (yE s w u).mono (fun e w' h=>⟨h.1,by obtain⟨p,rfl⟩:=h.2;exact dy _ _ _⟩)
def gh (q:Int × Int) (x:Ln):Int × Int:=if 1<x.1.1 then(wrap64 (q.1+1),wrap64 (1+(P x.1.2).length))else(q.1,wrap64 (q.2+(P x.1.2).length))
def gZ (l c:Int) (xs:List Ln):Int × Int:=xs.foldl gh (l,c)
theorem lA (l c:Int) (xs:List Ln) (x:Ln):gZ l c (xs++[x])=gh (gZ l c xs) x:=by unfold gZ;rw[OD];rfl
theorem vH (s:ByteArray) (l c:Int):∀(k:Nat) (xs:List Ln),xs.map (·.1)=jW s k->0<k->gZ l c xs=(wrap64 (l+(k-1:Nat)),wrap64 ((if k=1 then c else 1)+(P (ln s (k-1))).length))\/(k=1/\gZ l c xs=(l,wrap64 (c+(P (ln s 0)).length)))
 |0,_,_,h=>by omega
 |k+1,xs,hx,_=>by
  rw[ji]at hx
  obtain⟨u,y,rfl,F,G⟩:∃u y,xs=u++[y]/\u.map (·.1)=jW s k/\y.1=(((k+1:Nat):Int),ln s k):=by
   rcases MH xs with rfl|⟨u,y,rfl⟩
   ·simp at hx
   ·rw[NN,Lf]at hx;have:=O1 hx (by simp);exact⟨u,y,by rw[NN],this.1,by simpa using this.2⟩
  rw[lA];unfold gh;rw[G]
  by_cases H:k=0
  ·subst H
   right
   obtain rfl:u=[]:=by simpa[jW]using F
   rw[IO (by simp)];exact⟨rfl,rfl⟩
  ·left
   rw[Kd (by show(1:Int)<((k+1:Nat):Int);omega),IO (by omega)];show(_,_)=(_,_)
   congr 1
   rcases vH s l c k u F (by omega)with e|⟨rfl,e⟩
   ·rw[e];show wrap64 (wrap64 (l+((k-1:Nat):Int))+1)=_;rw[kE];congr 1;omega
   ·rw[e];rfl
theorem C3 (x:Int) (h:-9223372036854775808<=x/\x<=9223372036854775807):wrap64 x=x:=by unfold wrap64;omega
theorem GW (s:ByteArray) (l c:Int) (hl:-9223372036854775808<=l/\l<=9223372036854775807) (xs:List Ln) (H:xs.map (·.1)=jW s (LN s)):gZ l c xs=(eZ l s,jF c s):=by
 have u:=Eh s;unfold eZ jF
 rcases vH s l c (LN s) xs H (by unfold LN;omega)with e|⟨G,e⟩
 ·rw[e];unfold LN;rw[show cn s s.size+1-1=cn s s.size by omega,u]
  by_cases F:cn s s.size=0
  ·rw[Kd (by omega),Kd F]
  ·rw[IO (by omega),IO F]
 ·have F:cn s s.size=0:=by unfold LN at G;omega
  rw[F]at u;rw[e,F,Kd rfl,u]
  congr 1
  rw[C3 _ (by simp;exact hl)];simp
theorem Fy (a0 F c0:Int) (s:ByteArray) (w:World) (hs:s.size<=2147483647) (af:-9223372036854775808<=F/\F<=9223372036854775807) :
  Kb 30 #[.agg #[.int .i64 a0,.int .i64 F,.int .i64 c0],.string s] w fun e w'=>e=.returned (plV (Jm a0 s) (eZ F s) (jF c0 s))/\Below w.heap.size w w':=by
 refine(Nj (n:=9)).1 ?_;refine callsIn_of_wp_marks func30 rfl trivial ?_ rfl;simp only[ntmps30,NE,List.length_cons,LB,Nat.reduceAdd,Nat.reduceSub,MW,MX,NF,Nc,LA,KF]
 gi_wp2
 refine⟨trivial,?_⟩;refine(Nj.2 (yc _ _)).mono ?_;rintro e w1⟨rfl,rfl⟩
 gi_wp2
 obtain⟨I,aa⟩:∃I,wrap64 (a0+(s.size:Int))=I:=⟨_,rfl⟩;rw[aa];have HA:Hid (Jm a0 s=I):=aa;clear aa;obtain⟨W0,hW0⟩:∃W0,(((w.alloc (Obj.cells #[Value.int IntKind.i64 I,Value.int IntKind.i64 F,Value.int IntKind.i64 c0] 33)).alloc (Obj.cells #[Value.int IntKind.i64 0,Value.int IntKind.i64 0,Value.int IntKind.i64 0] 33)).alloc (Obj.cells #[Value.string s] 9))=W0:=⟨_,rfl⟩;have hsz:W0.heap.size=w.heap.size+1+1+1:=by rw[<-hW0];simp
 have b0:aZ W0 w.heap.size I F c0:=by rw[<-hW0];exact((aZ.new w _ _ _).alloc _).alloc _
 have b1:aZ W0 (w.heap.size+1) 0 0 0:=by rw[<-hW0];have:=(aZ.new (w.alloc (Obj.cells #[Value.int IntKind.i64 I,Value.int IntKind.i64 F,Value.int IntKind.i64 c0] 33)) 0 0 0).alloc (Obj.cells #[Value.string s] 9);rw[Eq]at this;exact this
 have b2:Boxed W0 (w.heap.size+1+1) 9 (.string s):=by rw[<-hW0];have:=Boxed.new ((w.alloc (Obj.cells #[Value.int IntKind.i64 I,Value.int IntKind.i64 F,Value.int IntKind.i64 c0] 33)).alloc (Obj.cells #[Value.int IntKind.i64 0,Value.int IntKind.i64 0,Value.int IntKind.i64 0] 33)) 9 (.string s);rw[Eq,Eq]at this;exact this
 have ad:Below w.heap.size w W0:=by rw[<-hW0];exact(((gt _ w).alloc (ge _) _).alloc (by simp) _).alloc (by simp;omega) _
 rw[hW0];clear hW0;have ag:Tryz.prog.follows .mixedOrders=true:=by kernel_rfl
 refine wpIn_rangeFunc_ownF rfl (by omega) (gf:=85) (lb:=#[.pointer (some ⟨w.heap.size+1+1,0,none⟩)]) rfl trivial (enters_of func85 (by kernel_rfl) rfl)
  (qT 8 (by omega) (w.heap.size+1+1) s hs W0 (by omega) b2.cell) (fun _ _=>trivial) (fun _ _ _ _ _ _ _ _=>trivial) (gt _ _) (fun _=>rfl)
  (fun pre W=>(aZ W w.heap.size I (gZ F c0 pre).1 (gZ F c0 pre).2/\aZ W (w.heap.size+1) 0 0 0)/\Below w.heap.size w W)
  (fun _ _ _=>False)
  (OwnFrom.and (Own.from (fun s A B row hs hg hr=>⟨jC hs.1 hg hr,jC hs.2 hg hr⟩) _) (ownFrom_below (ge _) (by omega)))
  (fun _ _ _ _ _ hs _ _=>hs)
  ⟨⟨b0,b1⟩,ad⟩
  (fun x=>{ tmps:=#[.agg #[.int .i64 a0,.int .i64 F,.int .i64 c0],.string s,.pointer (some ⟨w.heap.size,0,none⟩),undef,.pointer (some ⟨w.heap.size+1,0,none⟩),.int .i64 x.1.1,.string x.1.2,.pointer (some ⟨w.heap.size,0,none⟩),.int .i64 a0,.string s,.int .i64 s.size,.int .i64 I,.pointer (some ⟨w.heap.size,0,none⟩),.string s,.func (.func 85) #[] #[.pointer (some ⟨w.heap.size+1+1,0,none⟩)],.int .i64 x.1.1,.string x.1.2,undef,undef,undef,undef,undef,undef,undef,undef,undef,undef,undef,undef,undef,undef],defers:=[] }) ?assign ?body ?done ?stop
 case assign=>
  intro l x W K hK
  gi_wp2
  exact hK
 case body=>
  rintro l pre x W⟨⟨G,J⟩,hB⟩ _;obtain⟨q,hq⟩:∃q,gZ F c0 pre=q:=⟨_,rfl⟩;have HQ:Hid (gZ F c0 (pre++[x])=gh q x):=by show _=_;rw[lA,hq]
  rw[hq]at G;clear hq;have g1:=G.cell1;have g2:=G.cell2;have f1:=G.frozen 1;have f2:=G.frozen 2;have H:∀w,Kb 55 #[.string x.1.2] w fun e w'=>e=.returned (.int .i64 (P x.1.2).length)/\Below w.heap.size w w':=fun w=>Cc _ w x.2
  by_cases hx:1<x.1.1
  ·have HX:Hid (gh q x=(wrap64 (q.1+1),wrap64 (1+(P x.1.2).length))):=by show _=_;unfold gh;rw[Kd hx]
   gi_wp2
   have r0:=(G.set1 (wrap64 (q.1+1))).set2 1;have r1:=(J.kept (gK W ⟨w.heap.size,1,none⟩ (.int .i64 (wrap64 (q.1+1)))) (by simp)).kept (gK _ ⟨w.heap.size,2,none⟩ (.int .i64 1)) (by simp);have ac:=(KeepsOthers.setCell W ⟨w.heap.size,1,none⟩ (.int .i64 (wrap64 (q.1+1)))).trans (KeepsOthers.setCell _ ⟨w.heap.size,2,none⟩ (.int .i64 1));have M:=(hB.setCell (p:=⟨w.heap.size,1,none⟩) (ge _) (.int .i64 (wrap64 (q.1+1)))).setCell (p:=⟨w.heap.size,2,none⟩) (ge _) (.int .i64 1);obtain⟨Wm,ab⟩:∃Wm,(W.setCell ⟨w.heap.size,1,none⟩ (.int .i64 (wrap64 (q.1+1)))).setCell ⟨w.heap.size,2,none⟩ (.int .i64 1)=Wm:=⟨_,rfl⟩;rw[ab]at r0 r1 ac M ⊢;clear ab g1 g2 f1 f2;have g2:=r0.cell2;have f2:=r0.frozen 2
   gi_region_with_o (refine⟨trivial,?_⟩;gi_at_call 55;refine(CallsIn.inRound l (Nj.2 (H _))).mono ?_;rintro e w1⟨rfl,u⟩;have g3:=(r0.drew.below u).cell2;have f3:=(r0.drew.below u).frozen 2)
   all_goals gi_wp2
   all_goals(try go_bits)
   all_goals exact⟨((ac.trans (KeepsOthers.drew _)).trans (gk u)).trans (KeepsOthers.setCell _ _ _),trivial,⟨by rw[HQ.out,HX.out];exact(r0.drew.below u).set2 _,(aZ.drew r1 |>.below u).kept (gK _ _ _) (by simp)⟩,(M.drew.trans (u.mono M.size)).setCell (p:=⟨w.heap.size,2,none⟩) (ge _) _⟩
  ·have HX:Hid (gh q x=(q.1,wrap64 (q.2+(P x.1.2).length))):=by show _=_;unfold gh;rw[IO hx]
   gi_wp2
   gi_region_with_o (refine⟨trivial,?_⟩;gi_at_call 55;refine(CallsIn.inRound l (Nj.2 (H _))).mono ?_;rintro e w1⟨rfl,u⟩;have g3:=(G.drew.below u).cell2;have f3:=(G.drew.below u).frozen 2)
   all_goals gi_wp2
   all_goals(try go_bits)
   all_goals exact⟨((KeepsOthers.drew _).trans (gk u)).trans (KeepsOthers.setCell _ _ _),trivial,⟨by rw[HQ.out,HX.out];exact(G.drew.below u).set2 _,(J.drew.below u).kept (gK _ _ _) (by simp)⟩,(hB.drew.trans (u.mono hB.size)).setCell (p:=⟨w.heap.size,2,none⟩) (ge _) _⟩
 case done=>
  rintro D ys W hD hS⟨⟨G,J⟩,hB⟩ hK;rw[GW s F c0 af ys hS]at G;obtain⟨L,hL⟩:∃L,eZ F s=L:=⟨_,rfl⟩;obtain⟨C,hC⟩:∃C,jF c0 s=C:=⟨_,rfl⟩;rw[hL,hC]at G;have HL:Hid (eZ F s=L):=hL;have HC:Hid (jF c0 s=C):=hC;clear hL hC;have g0:=G.cell0;have g1:=G.cell1;have g2:=G.cell2;have e0:=J.cell0;have e1:=J.cell1;have e2:=J.cell2;have f0:=J.frozen 0;have f1:=J.frozen 1;have f2:=J.frozen 2
  gi_wp2
  have O:=(((KeepsOthers.setCell W ⟨w.heap.size+1,0,none⟩ (.int .i64 I)).trans (KeepsOthers.setCell _ ⟨w.heap.size+1,1,none⟩ (.int .i64 L))).trans (KeepsOthers.setCell _ ⟨w.heap.size+1,2,none⟩ (.int .i64 C))).same D _ hK rfl;have j1:=((J.set0 I).set1 L).set2 C;have ae:=((hB.setCell (p:=⟨w.heap.size+1,0,none⟩) (by simp) (.int .i64 I)).setCell (p:=⟨w.heap.size+1,1,none⟩) (by simp) (.int .i64 L)).setCell (p:=⟨w.heap.size+1,2,none⟩) (by simp) (.int .i64 C);have m:=Ck (o':=.deferred none) j1 O rfl;have m0:=m.cell0;have m1:=m.cell1;have m2:=m.cell2;refine⟨by simp,.inl ⟨_,_,rfl,run_takeDeferred O,?_⟩⟩;refine⟨.agg #[.int .i64 I,.int .i64 L,.int .i64 C],?_,by rw[HA.out,HL.out,HC.out];rfl,ae.trans (belowK_b (w:=w) (ge _) _ D _ _ (by omega) O rfl rfl)⟩;simp[results,Tryz.f30,go_sem,m0,m1,m2]
 case stop=>
  rintro D c pre W _ _ h _;exact h.elim
theorem mQ (w:World) :
  Kb 25 #[] w fun e w'=>e=.returned (.agg #[.int .i64 0,.int .i64 1,.int .i64 1])/\Below w.heap.size w w':=by
 go_enter func25,ntmps25
 go_wp2
 have u:=aZ.new w 0 1 1;have F:=u.cell0;have G:=u.cell1;have H:=u.cell2;refine Kv (v:=.agg #[.int .i64 0,.int .i64 1,.int .i64 1]) (by simp[results,Tryz.f25,go_sem,F,G,H]) rfl ?_;exact⟨rfl,(gt _ _).alloc (ge _) _⟩
theorem ja (a0 u c0:Int) (s:ByteArray) (w:World) (G:s.size<=2147483647) (F:-9223372036854775808<=u/\u<=9223372036854775807) :
  Kb 30 #[.agg #[.int .i64 a0,.int .i64 u,.int .i64 c0],.string s] w fun e w'=>e=.returned (.agg #[.int .i64 (Jm a0 s),.int .i64 (eZ u s),.int .i64 (jF c0 s)])/\Below w.heap.size w w':=
 Fy a0 u c0 s w G F
theorem ui (a c:ByteArray) (i:Nat):av (a++c) (a.size+i)=av c i:=by
 rw[bQ,IO (by omega)];congr 1;omega
theorem ik (a c:ByteArray) (i p:Nat) (F:p<=c.size):(a++c).extract (a.size+i) (a.size+p)=c.extract i p:=by
 have G:=ax a c;refine aU _ _ (by rw[ag _ _ _ (by omega),ag _ _ _ F];omega) (fun j u=>?_);rw[ag _ _ _ (by omega)]at u;rw[aB _ _ _ _ (by omega),aB _ _ _ _ (by omega),bQ,IO (by omega)]
 congr 1;omega
theorem ij {f g:ByteArray->Bool}:∀l:List ByteArray,(∀x∈l,f x=g x)->l.find? f=l.find? g
 |[],_=>rfl
 |x :: l,h=>by
  rw[List.find?_cons,List.find?_cons,h x (Ko ..),ij l (fun y u=>h y (KA _ u))]
theorem dF:∀x∈ba,x.size=1\/(x.size=2/\av x 1≠10):=by decide
theorem eC (a c:ByteArray) (i p:Nat) (F:p<=a.size):(a++c).extract i p=a.extract i p:=by
 have G:=ax a c;refine aU _ _ (by rw[ag _ _ _ (by omega),ag _ _ _ F]) (fun j u=>?_);rw[ag _ _ _ (by omega)]at u;rw[aB _ _ _ _ (by omega),aB _ _ _ _ (by omega),bQ,Kd (by omega)]
theorem bj (a c:ByteArray) (i:Nat) (u:i<a.size):av (a++c) i=av a i:=by rw[bQ,Kd u]
theorem kL (a c:ByteArray):∀p,p<=a.size->aV (a++c) p=aV a p
 |0,_=>rfl
 |p+1,h=>by
  unfold aV;rw[bj a c p (by omega),kL a c p (by omega)]
theorem wI (a c:ByteArray) (k i p f:Nat) (u:p<=a.size):bh (a++c) k i p f=bh a k i p f:=by
 unfold bh;rw[eC a c i p u,kL a c p u]
theorem ix {g G:Nat->Nat->Rd}(H:dR g z) (F:dR G z') (hy:y<=z') (u:∀b m p,g b m=.out p 0->b<=p) (h:∀b k,b<y->G b k=g b k) (p:Nat) (O:p<y) :
  ∀(d a m:Nat),z-a<=d->a<=z->run g z a m=(p,0)->a<=p/\run G z' a m=(p,0)
 |d,a,m,hd,ha,hr=>by
  cases e:g a m with
  |out q r=>
   rw[bA ha e]at hr;cases hr;have I:=u a m p e;exact⟨I,bA (by omega) (by rw[h a m (by omega)];exact e)⟩
  |on n=>
   obtain⟨h3,J⟩:=H a m n e;rw[jp H ha e]at hr;cases d with
   |zero=>omega
   |succ d=>
    obtain⟨h5,M⟩:=ix H F hy u h p O d (a+n) (m+1) (by omega) J hr;exact⟨by omega,by rw[jp F (by omega) (by rw[h a m (by omega)];exact e)];exact M⟩
theorem DK (s:ByteArray) (f k b m p:Nat) (h:cW s f k b m=.out p 0):b<=p:=by
 unfold cW at h
 repeat' split at h
 all_goals cases h
 all_goals exact ge _
theorem DO (s:ByteArray) (f q:Nat) (o:Bool) (b m p:Nat) (h:bS s f q o b m=.out p 0):b<=p:=by
 unfold bS at h
 repeat' split at h
 all_goals cases h
 all_goals omega
theorem E0 (s:ByteArray) (f:Nat) (o:Bool) (b m p:Nat) (h:bK s f o b m=.out p 0):b<=p:=by
 unfold bK at h
 repeat' split at h
 all_goals cases h
 all_goals omega
structure so (b c:ByteArray) (y:Nat):Prop where
 le:y<=b.size
 same:∀i,i<y->Utf8.decode (b++c) i=Utf8.decode b i
 none:∀i,y<=i->i<b.size->ak b i=0
theorem so.chr {c:ByteArray}(h:so b c y) (i:Nat) (u:i<y):gd (b++c) i=gd b i/\dp (b++c) i=dp b i/\dw (b++c) i=dw b i:=by
 unfold gd dp dw;rw[h.same i u];exact⟨rfl,rfl,rfl⟩
theorem so.bgn {c:ByteArray}(h:so b c y) (i:Nat) (J:i<y) (F:i+1<b.size):sg (b++c) i=sg b i/\ak (b++c) i=ak b i:=by
 have O:=ax b c
 have G:sg (b++c) i=sg b i:=by
  unfold sg;rw[ij ba (fun x M=>?_)];have u:i+x.size<=b.size:=by rcases dF x M with h|⟨h,_⟩<;>omega
  rw[Ar (by omega),Ar u,eC b c _ _ u]
 obtain⟨H,I,g3⟩:=h.chr i J;refine⟨G,?_⟩;unfold ak;rw[H,I,bj b c i (by omega),bj b c (i+1) F,G];have:(av b i=47/\i+1<(b++c).size/\av b (i+1)=47)↔(av b i=47/\i+1<b.size/\av b (i+1)=47):=by rw[O];constructor<;>rintro⟨F,h2,h3⟩<;>exact⟨F,by omega,h3⟩
 simp only[this]
theorem so.fin {c:ByteArray}(h:so b c y) (i k p:Nat) (hi:i<y) (h1:i+1<b.size) (J:p<y) (u:aC b i k=(p,0)):aC (b++c) i k=(p,0):=by
 have hz:=ax b c;have hl:=h.le
 have hQ:∀q o,run (bS b i q o) b.size (i+1) 0=(p,0)->run (bS (b++c) i q o) (b++c).size (i+1) 0=(p,0):=fun q o F=>
  (ix (bU b i q o) (bU (b++c) i q o) (y:=y) (by omega) (DO b i q o) (fun d m hd=>by
   obtain⟨G,H,I⟩:=h.chr d hd;unfold bS eI;rw[G,H,I,bj b c d (by omega)]
   by_cases M:av b d=10
   ·rw[Kd (.inr M),Kd (.inr M)]
   ·rw[IO (show ¬((b++c).size<=d\/av b d=10)by omega),IO (show ¬(b.size<=d\/av b d=10)by omega)]) p J _ (i+1) 0 (ge _) (by omega) F).2
 have O:∀o,run (bK b i o) b.size i 0=(p,0)->run (bK (b++c) i o) (b++c).size i 0=(p,0):=fun o F=>
  (ix (ce b i o) (ce (b++c) i o) (y:=y) (by omega) (E0 b i o) (fun d m hd=>by
   unfold bK;rw[IO (show ¬(b++c).size<=d by omega),IO (show ¬b.size<=d by omega),bj b c d (by omega)]) p J _ i 0 (ge _) (by omega) F).2
 have hR:run (cW b i k) b.size i 0=(p,0)->run (cW (b++c) i k) (b++c).size i 0=(p,0):=fun F=>
  (ix (eV b i k) (eV (b++c) i k) (y:=y) (by omega) (DK b i k) (fun d m hd=>by
   obtain⟨G,H,I⟩:=h.chr d hd;unfold cW;rw[IO (show ¬(b++c).size<=d by omega),IO (show ¬b.size<=d by omega),G,H,I,bj b c d (by omega)]) p J _ i 0 (ge _) (by omega) F).2
 unfold aC at u ⊢;rw[(h.bgn i hi h1).1]
 by_cases k4:k=4
 ·rw[Kd k4]at u ⊢;exact hQ _ _ u
 ·rw[IO k4]at u ⊢
  by_cases k5:k=5
  ·rw[Kd k5]at u ⊢;exact hQ _ _ u
  ·rw[IO k5]at u ⊢
   by_cases k7:k=7
   ·rw[Kd k7]at u ⊢;exact O _ u
   ·rw[IO k7]at u ⊢
    by_cases k8:k=8
    ·rw[Kd k8]at u ⊢;exact O _ u
    ·rw[IO k8]at u ⊢
     by_cases k6:k=6
     ·rw[Kd k6]at u ⊢;exact u
     ·rw[IO k6]at u ⊢;exact hR u
theorem mX (t:ByteArray) (h0:0<t.size) (h:opn t=true):gd t 0=false/\128<=av t 0/\∀j,1<=j->j<t.size->av t j / 64=2:=by
 have hx:∃x,gd (t++x) 0=true/\t.size<dw (t++x) 0:=by
  unfold opn at h;rw[MI]at h
  rcases h with h|h<;>(unfold CJ at h;rw[Lo]at h;exact⟨_,h.1,KQ h.2⟩)
 obtain⟨x,h1,h2⟩:=hx;have J:∀j,j<t.size->ob (t++x) j=ob t j:=fun j u=>by rw[cj,Kd u]
 have F:∀j,j<t.size->ct (ob (t++x) j)=true->av t j / 64=2:=fun j u hc=>by
  rw[J j u]at hc;unfold ob at hc;rw[Kd u]at hc
  simpa[ct]using hc
 have O:av (t++x) 0=av t 0:=by rw[bQ,Kd h0]
 have hD:Utf8.decode (t++x) 0=D (av t 0) (ob (t++x) 1) (ob (t++x) 2) (ob (t++x) 3):=by rw[aG,O]
 refine⟨?_,?_⟩
 ·cases hg:gd t 0 with
  |false=>rfl
  |true=>
   have G:=(Bl t 0).1 hg;rw[aG]at G
   have M:∀j,ob t j=ob (t++x) j\/ob t j=none:=fun j=>by
    by_cases u:j<t.size
    ·exact .inl (J j u).symm
    ·right;unfold ob;rw[IO u]
   have h4:=uu (av t 0) (M 1) (M 2) (M 3) G;have H:=(aM t 0 h0).2.2;have h6:dw (t++x) 0=dw t 0:=by unfold dw;rw[hD,aG t 0];exact Kw Prod.snd h4
   omega
 ·have G:dw (t++x) 0=(D (av t 0) (ob (t++x) 1) (ob (t++x) 2) (ob (t++x) 3)).2:=by unfold dw;rw[hD]
  have h4:=wo (av t 0) (ob (t++x) 1) (ob (t++x) 2) (ob (t++x) 3)
  rcases IS (dw (t++x) 0) (by omega) (by omega)with e|e|e
  ·have H:=(FB _ _ _ _).1 (G.symm.trans e);exact⟨by omega,fun j I u=>by omega⟩
  ·have H:=(sh _ _ _ _).1 (G.symm.trans e);refine⟨by omega,fun j I u=>?_⟩;obtain rfl:j=1:=by omega
   exact F 1 u H.2.1
  ·have H:=(mB _ _ _ _).1 (G.symm.trans e);refine⟨by omega,fun j I u=>?_⟩
   rcases(show j=1\/j=2 by omega)with rfl|rfl
   ·exact F 1 u H.2.1
   ·exact F 2 u H.2.2.1
theorem jq {g G:Nat->Nat->Rd}(H:dR g z) (F:dR G z') (hy:z<=z') (h:∀b k,b<y->G b k=g b k) (I:Nat->Prop) (p e:Nat)
  (J:∀b m n,I b->g b m=.on n->b<y/\I (b+n)) (M:∀b m,I b->g b m=.out p e->b<y) :
  ∀(d a m:Nat),z-a<=d->a<=z->I a->run g z a m=(p,e)->run G z' a m=(p,e)
 |d,a,m,hd,ha,hi,hr=>by
  cases u:g a m with
  |out q r=>
   rw[bA ha u]at hr;cases hr;exact bA (by omega) (by rw[h a m (M a m hi u)];exact u)
  |on n=>
   obtain⟨h3,O⟩:=H a m n u;obtain⟨h5,h6⟩:=J a m n hi u;rw[jp H ha u]at hr;cases d with
   |zero=>omega
   |succ d=>
    rw[jp F (by omega) (by rw[h a m h5];exact u)];exact jq H F hy h I p e J M d (a+n) (m+1) (by omega) O h6 hr
theorem kY {c:ByteArray}(h:so b c b.size) (f q:Nat) (o:Bool) (d m:Nat) (hd:d<b.size):bS (b++c) f q o d m=bS b f q o d m:=by
 have I:=ax b c;obtain⟨F,G,H⟩:=h.chr d hd;unfold bS eI;rw[F,G,H,bj b c d (by omega)]
 by_cases u:av b d=10
 ·rw[Kd (.inr u),Kd (.inr u)]
 ·rw[IO (show ¬((b++c).size<=d\/av b d=10)by omega),IO (show ¬(b.size<=d\/av b d=10)by omega)]
theorem lO (b c:ByteArray) (f:Nat) (o:Bool) (d m:Nat) (hd:d<b.size):bK (b++c) f o d m=bK b f o d m:=by
 have u:=ax b c;unfold bK;rw[IO (show ¬(b++c).size<=d by omega),IO (show ¬b.size<=d by omega),bj b c d (by omega)]
theorem qk {c:ByteArray}(h:so b c b.size) (f k:Nat) (d m:Nat) (hd:d<b.size):cW (b++c) f k d m=cW b f k d m:=by
 have H:=ax b c;obtain⟨u,F,G⟩:=h.chr d hd;unfold cW;rw[IO (show ¬(b++c).size<=d by omega),IO (show ¬b.size<=d by omega),u,F,G,bj b c d (by omega)]
theorem gC {q:Nat}(h:bS b f q o d m=.on n):d<b.size/\av b d≠10/\n=dw b d:=by
 unfold bS at h
 split at h
 ·cases h
 ·rename_i u
  split at h
  ·cases h
  ·split at h
   ·cases h
   ·split at h
    ·cases h
    ·cases h;exact⟨by omega,by omega,rfl⟩
theorem yF (h:bK b f o d m=.on n):d<b.size:=by
 unfold bK at h
 split at h
 ·split at h<;>cases h
 ·omega
theorem qs {c:ByteArray}(h:so b c b.size) (f q:Nat) (o:Bool) (p e:Nat) (hf:f<b.size) (I:av b f≠10) (H:e≠101\/∃j,f<=j/\j<b.size/\av b j=10)
  (hr:run (bS b f q o) b.size (f+1) 0=(p,e)):run (bS (b++c) f q o) (b++c).size (f+1) 0=(p,e):=by
 have hz:=ax b c;refine jq (bU b f q o) (bU (b++c) f q o) (y:=b.size) (by omega) (fun d k hd=>kY h f q o d k hd) (fun d=>f<d/\∀j,f<=j->j<d->av b j≠10) p e ?_ ?_ _ (f+1) 0 (ge _) (by omega) ⟨by omega,fun j F M=>by rw[show j=f by omega];exact I⟩ hr
 ·rintro d m n⟨hd,G⟩ u;obtain⟨h1,h2,rfl⟩:=gC u;refine⟨h1,by omega,fun j F M=>?_⟩
  rcases LL j d with J|J
  ·exact G j F J
  ·by_cases O:j=d
   ·rw[O];exact h2
   ·have:=(eD b d (j-d) (by omega) (by omega)).2;rw[show d+(j-d)=j by omega]at this;omega
 ·rintro d m⟨hd,G⟩ u
  apply KG
  intro hn;unfold bS at u;rw[Kd (.inl (by omega))]at u;cases u
  rcases H with H|⟨j,F,M,j3⟩
  ·exact H rfl
  ·exact G j F (by omega) j3
theorem Cd (b c:ByteArray) (f:Nat) (o:Bool) (p e:Nat) (I:f<b.size) (u:e=103\/(e=0/\(o=true\/p<b.size))) (H:run (bK b f o) b.size f 0=(p,e)):run (bK (b++c) f o) (b++c).size f 0=(p,e):=by
 have M:=ax b c;refine jq (ce b f o) (ce (b++c) f o) (y:=b.size) (by omega) (fun d k hd=>lO b c f o d k hd) (fun d=>True) p e (fun d m n _ F=>⟨yF F,trivial⟩) ?_ _ f 0 (ge _) (by omega) trivial H;intro d m _ F
 apply KG
 intro J;unfold bK at F;rw[Kd (by omega)]at F
 by_cases G:o=true
 ·rw[Kd G]at F;cases F
  rcases u with u|⟨u,_⟩
  ·cases u
  ·cases u
 ·rw[IO G]at F;cases F
  rcases u with u|⟨_,u|u⟩
  ·cases u
  ·exact G u
  ·omega
theorem kT:∀x∈ba,∃y∈ba,y.size=1/\av y 0=av x 0:=by decide
theorem DB (b c:ByteArray) (i:Nat) (O:i<b.size) (h:(sg b i).size=0):(sg (b++c) i).size=0:=by
 apply KG
 intro u;obtain⟨g1,I,J⟩:=iw (b++c) i u;obtain⟨y,y1,y2,y3⟩:=kT _ J;have hz:0<(sg (b++c) i).size:=by omega
 have H:av y 0=av b i:=by
  rw[y3,<-I,aB (b++c) i _ 0 (by omega),K0,bj b c i O]
 have hp:pre b i y=true:=by
  unfold pre;refine Ku ⟨by omega,?_⟩;refine aU _ _ (by rw[ag b i _ (by omega)];omega) (fun j hj=>?_);rw[ag b i _ (by omega)]at hj;obtain rfl:j=0:=by omega
  rw[aB b i _ 0 (by omega),K0,H]
 have:(ba.find? (pre b i)).isSome=true:=Ms.2 ⟨y,y1,hp⟩;obtain⟨x,G⟩:=LO.1 this;have F:=Li G;unfold sg at h;rw[G]at h;have h9:x.size=0:=h
 rcases dF x F with M|⟨M,_⟩<;>omega
theorem lS {c:ByteArray}(h:so b c b.size) (i:Nat) (G:i<b.size) (I:i+1<b.size\/(ak b i≠6/\ak b i≠7)):ak (b++c) i=ak b i:=by
 by_cases H:i+1<b.size
 ·exact(h.bgn i G H).2
 ·rcases I with I|⟨u,F⟩
  ·exact absurd I H
  ·obtain⟨g1,g2,g3⟩:=h.chr i G;unfold ak at u F ⊢;rw[g1,g2,bj b c i G]
   by_cases c1:(gd b i&&ng (dp b i))=true
   ·rw[Kd c1,Kd c1]
   ·rw[IO c1]at u F ⊢;rw[IO c1]
    by_cases c2:dh (av b i)=true
    ·rw[Kd c2,Kd c2]
    ·rw[IO c2]at u F ⊢;rw[IO c2]
     by_cases c3:av b i=34
     ·rw[Kd c3,Kd c3]
     ·rw[IO c3]at u F ⊢;rw[IO c3]
      by_cases c4:av b i=39
      ·rw[Kd c4,Kd c4]
      ·rw[IO c4]at u F ⊢;rw[IO c4];have c5:¬(av b i=47/\i+1<b.size/\av b (i+1)=47):=fun h=>H h.2.1
       rw[IO c5]at u F ⊢
       by_cases c6:av b i=123
       ·rw[IO (fun h=>by omega),Kd c6,Kd c6]
       ·rw[IO c6]at u F ⊢;have O:¬(sg b i).size≠0:=fun h=>u (Kd h)
        rw[IO O]
        have c8:av b i≠47:=by
         intro J
         apply O
         have hp:pre b i ⟨#[47]⟩=true:=by
          unfold pre;refine Ku ⟨by show i+1<=_;omega,?_⟩;refine aU _ _ (by rw[ag b i _ (by show i+1<=_;omega)];show i+1-i=1;omega) (fun j hj=>?_);rw[ag b i _ (by show i+1<=_;omega)]at hj;have aa:j<i+1-i:=hj;obtain rfl:j=0:=by omega
          rw[aB b i _ 0 (by show i+0<i+1;omega),K0,J];rfl
         have:(ba.find? (pre b i)).isSome=true:=Ms.2 ⟨_,by unfold ba;repeat(first|exact Ko ..|apply KA),hp⟩;obtain⟨x,hx⟩:=LO.1 this;have M:=Li hx;unfold sg;rw[hx];show x.size≠0
         rcases dF x M with h8|⟨h8,_⟩<;>omega
        rw[IO (fun h=>c8 h.1),IO c6,IO (by rw[DB b c i G (by omega)];simp)]
def IZ (s:ByteArray) (a:Nat):Prop:=∃j,a<=j/\j<s.size/\av s j=10
def fI (s:ByteArray) (e a:Nat):Prop:=e=101/\(av s a=123\/¬IZ s a)
def gW (s:ByteArray) (t:Tk):Prop:=t.k=4\/t.k=5\/t.k=8\/(t.k=7/\IZ s t.e)\/(t.k≠7/\t.e<s.size)
theorem iW (b:ByteArray) (i:Nat):(ak b i=4->av b i=34)/\(ak b i=5->av b i=39)/\(ak b i=8->av b i=123)/\(ak b i=7->i+1<b.size):=by
 unfold ak
 repeat' split
 all_goals(refine⟨fun h=>?_,fun h=>?_,fun h=>?_,fun h=>?_⟩<;>first|(cases h;done)|assumption|(rename_i u;exact u.2.1))
theorem zr {c:ByteArray}(h:so b c b.size) (i p:Nat) (G:i<b.size) (J:ak b i≠0) (u:aC b i (ak b i)=(p,0)) (F:p<b.size\/ak b i=4\/ak b i=5\/ak b i=8) :
  ak (b++c) i=ak b i/\aC (b++c) i (ak b i)=(p,0):=by
 have h5:=eH b i (ak b i) p G rfl J u
 rcases F with F|F
 ·exact⟨(h.bgn i G (by omega)).2,h.fin i _ p G (by omega) F u⟩
 ·obtain⟨H,I,O,M⟩:=iW b i;refine⟨lS h i G (.inr (by omega)),?_⟩
  rcases F with F|F|F
  ·have:=H F;rw[F]at u ⊢;unfold aC at u ⊢;rw[Kd rfl]at u ⊢;exact qs h i 34 false p 0 G (by omega) (.inl (by decide)) u
  ·have:=I F;rw[F]at u ⊢;unfold aC at u ⊢;rw[IO (by decide),Kd rfl]at u ⊢;exact qs h i 39 true p 0 G (by omega) (.inl (by decide)) u
  ·rw[F]at u ⊢;unfold aC at u ⊢;rw[IO (by decide),IO (by decide),IO (by decide),Kd rfl]at u ⊢;exact Cd b c i true p 0 G (.inr ⟨rfl,.inl rfl⟩) u
def bp (b:ByteArray):ByteArray:=b.extract 0 (wh b)
theorem bI (b:ByteArray):(bp b).size=wh b:=by unfold bp;rw[ag b 0 _ (cC b).1];omega
theorem ux (b:ByteArray):b=bp b++b.extract (wh b) b.size:=by
 have F:=(cC b).1;refine aU _ _ (by rw[ax,bI,ag b _ _ (ge _)];omega) (fun j u=>?_);rw[bQ,bI]
 split
 ·unfold bp;rw[dM b _ j (by assumption)]
 ·rw[aB b _ b.size _ (by omega)];congr 1;omega
theorem jE (a b c:ByteArray):(a++b)++c=a++(b++c):=by
 refine aU _ _ (by simp only[ax];omega) (fun j G=>?_);simp only[bQ,ax]
 by_cases u:j<a.size
 ·rw[Kd (by omega),Kd u,Kd u]
 ·rw[IO u]
  by_cases F:j<a.size+b.size
  ·rw[Kd F,IO u,Kd (by omega)]
  ·rw[IO F];rw[IO (show ¬j-a.size<b.size by omega),show j-(a.size+b.size)=j-a.size-b.size by omega,IO u]
theorem Fk (b c:ByteArray):so (bp b) (b.extract (wh b) b.size++c) (bp b).size:=by
 refine⟨ge _,fun i u=>?_,fun i F G=>by omega⟩;rw[bI]at u;rw[<-jE,<-ux];exact fE b c i u
theorem ze (b c:ByteArray):b++c=bp b++(b.extract (wh b) b.size++c):=by rw[<-jE,<-ux]
theorem E3 (b:ByteArray) (f:Nat) (o:Bool) (p e:Nat) (I:f<=b.size) (J:run (bK b f o) b.size f 0=(p,e)) :
  (e=0->o=false->p<=f+65535/\(b.size<=p\/av b p=10))/\(e=101->b.size<=f+65535):=by
 have:=eT (ce b f o) (fun d _=>d<=f+65535) (fun r=>(r.2=0->o=false->r.1<=f+65535/\(b.size<=r.1\/av b r.1=10))/\(r.2=101->b.size<=f+65535)) (by
  intro d m x e hd H u;unfold bK at u
  split at u
  ·by_cases G:o=true
   ·rw[Kd G]at u;cases u;exact⟨fun h=>(by cases h),fun _=>by omega⟩
   ·rw[IO G]at u;cases u;exact⟨fun _ _=>⟨H,.inl (by omega)⟩,fun h=>by cases h⟩
  ·split at u
   ·rename_i F
    cases u;exact⟨fun _ _=>⟨H,.inr F.2⟩,fun h=>by cases h⟩
   ·split at u
    ·cases u;exact⟨fun h=>(by cases h),fun h=>by cases h⟩
    ·split at u
     ·rename_i F
      cases u;exact⟨fun _ G=>(by rw[G]at F;cases F.1),fun h=>by cases h⟩
     ·cases u) (by
  intro d m n hd H u;unfold bK at u
  split at u
  ·split at u<;>cases u
  ·split at u
   ·cases u
   ·split at u
    ·cases u
    ·split at u
     ·cases u
     ·cases u;omega) _ f 0 (ge _) I (by omega)
 rw[J]at this;exact this
