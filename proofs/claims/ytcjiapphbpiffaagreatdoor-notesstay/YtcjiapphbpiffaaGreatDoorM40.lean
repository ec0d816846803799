import Derived.Lib.ConvBytes
import Derived.RangeFuncOwn
import Derived.Maps.OwnIn
import Derived.Test.YtcjiapphbpiffaaGreatDoorM10
import Derived.Test.YtcjiapphbpiffaaGreatDoorM16
set_option linter.unusedVariables false
set_option linter.unusedSimpArgs false
set_option maxHeartbeats 2000000
set_option maxRecDepth 100000
namespace Go.Proofs.YtcjiapphbpiffaaGreatDoor
open Go.RowKit
variable {w w':World}{B A:Nat}
structure eP where
 n:Int
 t:ByteArray
 b:Bool
deriving DecidableEq
def eP.v (d:eP):Value:=.agg #[.int .i64 d.n,.string d.t,.bool d.b]
def eP.cs (d:eP):List Value:=[.int .i64 d.n,.string d.t,.bool d.b]
theorem eP.cs_len (d:eP):d.cs.length=3:=rfl
theorem eP.cs_one (d:eP):∀u∈d.cs,u.oneCell'=true:=by
 intro u hu;simp only [eP.cs,Tt,UT,Xi] at hu
 rcases hu with rfl|rfl|rfl <;> rfl
def CH (l:List eP):List Value:=bB eP.cs l
theorem KB (l:List eP):(CH l).length=l.length*3:=fC eP.cs 3 eP.cs_len l
theorem Kz (l:List eP):∀u∈CH l,u.oneCell'=true:=by
 intro u hu;obtain ⟨d,_,h⟩:=Ve.1 hu;exact d.cs_one u h
theorem KC (a b:List eP):CH (a++b)=CH a++CH b:=cz eP.cs a b
def Lm (w:World) (ao:Option Addr) (l:List eP):Prop:=∀j d,l[j]?=some d->∃b off,ao=some ⟨b,off,none⟩ /\
 w.cell? ⟨b,off+j*3,none⟩=some (.int .i64 d.n)/\w.cell? ⟨b,off+j*3+1,none⟩=some (.string d.t)/\w.cell? ⟨b,off+j*3+2,none⟩=some (.bool d.b)
theorem Lm.kp {S:Nat->Prop}{w w':World}{ao:Option Addr}{l:List eP}(h:Lm w ao l) (hb:Kp S w w') (hS:∀a,ao=some a->¬S a.block):Lm w' ao l:=by
 intro j a ha;obtain ⟨b,off,h1,c0,c1,c2⟩:=h j a ha;have hlt:=S9 _ _ c0;have e:w'.heap[b]?=w.heap[b]?:=hb.block b hlt (hS _ h1);exact ⟨b,off,h1,(S8 (a:=⟨b,_,none⟩) e).trans c0,(S8 (a:=⟨b,_,none⟩) e).trans c1,(S8 (a:=⟨b,_,none⟩) e).trans c2⟩
theorem Lm.below {ao:Option Addr}{l:List eP}(h:Lm w ao l) (hb:Below w.heap.size w w'):Lm w' ao l:=h.kp (Kp.of_below (S:=fun _=>False) hb) (fun _ _ h=>h)
def Rm (B:Nat) (w:World) (v:Value) (l:List eP):Prop:=w.ownsRow B 34 3 v l.length (CH l)
theorem EW (B:Nat) (w:World):Rm B w (.slice none 0 0) []:=TU w B 34 3
theorem Rm.shape {v:Value}{l:List eP}(h:Rm B w v l):∃p cap,v=.slice p l.length cap/\l.length<=cap/\cap<=maxLen:=by
 rcases h.2 with ⟨rfl,h0⟩|⟨b,cap,cur,rfl,_,h3,h4,h5,_⟩
 ·exact ⟨none,0,by rw [h0],by omega,SW _⟩
 ·exact ⟨_,cap,rfl,h4,h5⟩
theorem Rm.own {v:Value}{l:List eP}(h:Rm B w v l):∀k,v.ownBlock=some k->B<=k:=by
 intro k hk
 rcases h.2 with ⟨rfl,h0⟩|⟨b,cap,cur,rfl,hb,_⟩
 ·cases hk
 ·simp only [Value.ownBlock,Tp] at hk;omega
theorem Rm.below {v:Value}{l:List eP}(h:Rm B w v l) (hb:Below w.heap.size w w'):Rm B w' v l:=by
 refine ⟨h.1,?_⟩
 rcases h.2 with h1|⟨g,cap,cur,rfl,h2,h3,h4⟩
 ·exact .inl h1
 ·exact .inr ⟨g,cap,cur,rfl,h2,ag h3 hb,h4⟩
theorem Rm.kp {B:Nat}{S:Nat->Prop}{w w':World}{v:Value}{l:List eP}(h:Rm B w v l) (hb:Kp S w w') (hS:∀k,v.ownBlock=some k->¬S k):Rm B w' v l:=by
 refine ⟨h.1,?_⟩
 rcases h.2 with h1|⟨g,cap,cur,rfl,h2,h3,h4⟩
 ·exact .inl h1
 ·exact .inr ⟨g,cap,cur,rfl,h2,hb.blk h3 (hS g rfl),h4⟩
theorem Rm.ne {v:Value}{l:List eP}(h:Rm B w v l) {g:Nat}{cs:Array Value}{T:TypeId}{f:Nat × Nat}(hg:w.heap[g]?=some (.cells cs T f)) (hT:T≠34):∀k,v.ownBlock=some k->k≠g:=by
 intro k hk e
 rcases h.2 with ⟨rfl,h0⟩|⟨b,cap,cur,rfl,hb,h3,_⟩
 ·cases hk
 ·simp only [Value.ownBlock,Tp] at hk;subst hk;subst e;rw [hg] at h3;cases h3;exact hT rfl
theorem Lm.row {v:Value}{l:List eP}(h:Rm B w v l):∃ao cap,v=.slice ao l.length cap/\Lm w ao l/\(ao=none\/∃g,ao=some ⟨g,0,none⟩/\B<=g/\g<w.heap.size)/\l.length<=cap/\cap<=maxLen:=by
 rcases h.2 with ⟨rfl,h0⟩|⟨g,cap,cur,rfl,hb,hg,h3,h4,h5,h6⟩
 ·have:l=[]:=Tl h0;subst this;exact ⟨none,0,rfl,fun j d h=>by simp at h,.inl rfl,SW _,SW _⟩
 ·refine ⟨some ⟨g,0,none⟩,cap,rfl,?_,.inr ⟨g,rfl,hb,au hg⟩,h3,h4⟩;intro j d hj
  have hc:∀(k:Nat) (u:Value),(CH l)[k]?=some u->w.cell? ⟨g,k,none⟩=some u:=fun k u hu=>by
   have:=h.cells (g:=g) rfl k u hu;rw [UA,Td] at this;exact this
  refine ⟨g,0,rfl,?_,?_,?_⟩
  ·rw [Td];exact hc _ _ (aR eP.cs 3 eP.cs_len l j 0 d _ hj rfl)
  ·rw [Td];exact hc _ _ (aR eP.cs 3 eP.cs_len l j 1 d _ hj rfl)
  ·rw [Td];exact hc _ _ (aR eP.cs 3 eP.cs_len l j 2 d _ hj rfl)
theorem Tryz.info34:(Tryz.prog.info? 34).map (fun i=>(i.zero,i.size,i.bytes))=some (some (.agg #[.int .i64 0,.string ⟨#[]⟩,.bool false]),3,32):=by kernel_rfl
def qE (t:Tv):Bool:=t.k == 7 || t.k == 8
def OV (i:Nat) (t:Tv):Bool:=decide (0<i) && t.f == 0
def vI:List Tv->Nat->Nat->List eP
 |[],_,_=>[]
 |t :: r,i,n=>if qE t=true then ⟨n,t.t,OV i t⟩ :: vI r (i+1) n else vI r (i+1) (n+1)
theorem kK:∀(l:List Tv) (i n:Nat),(vI l i n).length<=l.length
 |[],_,_=>gt _
 |t :: r,i,n=>by
  have h1:=kK r (i+1) n;have h2:=kK r (i+1) (n+1);unfold vI
  split
  ·simpa using h1
  ·simp;omega
def Ra (W:World) (E x y z:Int) (L:List Tv) (e:Ending) (w':World):Prop:=∃v,e=.returned (.tuple #[v,.int .i64 E,.agg #[.int .i64 x,.int .i64 y,.int .i64 z]])/\Rt W.heap.size w' v L/\Below W.heap.size W w'
abbrev vT (x y z:Int):Obj:=.cells #[.int .i64 x,.int .i64 y,.int .i64 z] 47
abbrev Sc (c x y z:Int):Obj:=.cells #[.int .i64 c,.int .i64 x,.int .i64 y,.int .i64 z] 65
theorem PQ {v u:Value}{l:List Tv}{m:List eP}(h:Rt A w v l) (k:Rm B w u m):∀j,v.ownBlock=some j->¬some j=u.ownBlock:=by
 intro j hj e
 rcases h.2 with ⟨rfl,h0⟩|⟨b,cap,cur,rfl,hb,h3,_⟩
 ·cases hj
 ·simp only [Value.ownBlock,Tp] at hj;subst hj;exact k.ne h3 (by decide) b e.symm rfl
theorem PR {v:Value}{l:List Tv}(h:Rt B w v l) (hA:A<=B):Rt A w v l:=by
 refine ⟨h.1,?_⟩
 rcases h.2 with h1|⟨g,cap,cur,rfl,h2,h3,h4⟩
 ·exact .inl h1
 ·exact .inr ⟨g,cap,cur,rfl,SY hA h2,h3,h4⟩
abbrev Ny (n:Int) (t:ByteArray) (b:Bool):Obj:=.cells #[.int .i64 n,.string t,.bool b] 34
end Go.Proofs.YtcjiapphbpiffaaGreatDoor
namespace Go.Proofs.YtcjiapphbpiffaaGreatDoor
open Go.RowKit
open Go.Lib (strCells strCells_length)
variable {B:Nat}{w W:World}{v:Value}{x:ByteArray}{rest:List Oper}{o:Oper}{a:Act}
def mZ (B:Nat) (w:World) (v:Value) (x:ByteArray):Prop:=w.ownsRow B 5 1 v x.size (bc x.data.toList)
theorem NF (B:Nat) (w:World):mZ B w (.slice none 0 0) ⟨#[]⟩:=TU w B 5 1
theorem mZ.below {w':World}(h:mZ B w v x) (hb:Below w.heap.size w w'):mZ B w' v x:=by
 refine ⟨h.1,?_⟩
 rcases h.2 with h1|⟨g,cap,cur,rfl,h2,h3,h4⟩
 ·exact .inl h1
 ·exact .inr ⟨g,cap,cur,rfl,h2,ag h3 hb,h4⟩
theorem mZ.own (h:mZ B w v x):∀k,v.ownBlock=some k->B<=k:=by
 intro k hk
 rcases h.2 with ⟨rfl,h0⟩|⟨b,cap,cur,rfl,hb,_⟩
 ·cases hk
 ·simp only [Value.ownBlock,Tp] at hk;omega
theorem mZ.ne (h:mZ B w v x) {g:Nat}{cs:Array Value}{T:TypeId}{f:Nat × Nat}(hg:w.heap[g]?=some (.cells cs T f)) (hT:T≠5):∀k,v.ownBlock=some k->k≠g:=by
 intro k hk e
 rcases h.2 with ⟨rfl,h0⟩|⟨b,cap,cur,rfl,hb,h3,_⟩
 ·cases hk
 ·simp only [Value.ownBlock,Tp] at hk;subst hk;subst e;rw [hg] at h3;cases h3;exact hT rfl
theorem Tryz.info5:(Tryz.prog.info? 5).map (fun i=>(i.zero,i.size,i.bytes))=some (some (.int .u8 0),1,1):=by kernel_rfl
theorem Id (x y:ByteArray):bc (x++y).data.toList=bc x.data.toList++bc y.data.toList:=by
 rw [<-zp,VY];simp
theorem L4 {ops:Array Oper}{Q:Exit->Act->World->Prop}(hgd:o.guard=none) (s x:Operand)
  (ho:o.op=.call { callee:=.builtin .append,args:=#[s,x],argTypes:=#[39,9] }) (B:Nat) (v:Value) (l y:ByteArray) (hs:a.eval s=v) (hr:mZ B W v l)
  (hx:a.eval x=.string y) (hl:l.size+y.size<=100000000000) (hB:B<=W.heap.size)
  (h:∀v' w',mZ B w' v' (l++y)->Below B W w'->W.grownBy w' v.ownBlock->wpList Tryz.prog ops Q rest (a.put o.dst v') w'):wpList Tryz.prog ops Q (o :: rest) a W:=by
 obtain ⟨i0,hi,hz0,hz1,hz2⟩:=T7 Tryz.info5;refine cO (P:=Tryz.prog) hgd s x 39 9 ho B 5 i0 Ue TH hi hz0 hz1 hz2 v _ _ hs hr y hx (by unfold maxLen;omega) (by omega) hB ?_;intro v' w' h1 h2 _;refine h v' w' ?_ ((hH B W).grown h2 hB hr.own) h2;unfold mZ;rw [Id,show (l++y).size=l.size+y.size from Uo];exact h1
theorem O5 {ops:Array Oper}{Q:Exit->Act->World->Prop}(hgd:o.guard=none) (s x:Operand)
  (ho:o.op=.call { callee:=.builtin .append,args:=#[s,x],argTypes:=#[39,39] }) (B:Nat) (v:Value) (l:ByteArray) (hs:a.eval s=v) (hr:mZ B W v l)
  (g c:Nat) (hx:a.eval x=.slice (some ⟨g,0,none⟩) 1 c) (hg:W.heap[g]?=some (.cells #[.int .u8 32] 5 (0,0))) (hl:l.size<=10000000000) (hB:B<=W.heap.size)
  (h:∀v' w',mZ B w' v' (l++⟨#[32]⟩)->Below B W w'->W.grownBy w' v.ownBlock->wpList Tryz.prog ops Q rest (a.put o.dst v') w'):wpList Tryz.prog ops Q (o :: rest) a W:=by
 obtain ⟨i0,hi,hz0,hz1,hz2⟩:=T7 Tryz.info5;refine T2 (P:=Tryz.prog) (w:=W) hgd s x 39 ho B 5 i0 _ 1 1 Ue hi hz0 hz1 hz2 rfl (by decide) v _ _ hs hr ⟨g,0,none⟩ 1 c [.int .u8 32] hx rfl ?_ (by intro u hu;simp at hu;subst hu;rfl) (by unfold maxLen;omega) (by omega) hB ?_
 ·intro j u hu;refine TX hg j u ?_
  simpa using hu
 ·intro v' w' h1 h2 _ h4;refine h v' w' ?_ ((hH B W).grown h2 hB hr.own) h2;unfold mZ;rw [Id,show (l++(⟨#[32]⟩:ByteArray)).size=l.size+1 from Uo];exact h1
end Go.Proofs.YtcjiapphbpiffaaGreatDoor
namespace Go.Proofs.YtcjiapphbpiffaaGreatDoor
open Go.RowKit
variable {s:ByteArray}
def DU (s:ByteArray):Nat->List Tv->Prop
 |_,[]=>True
 |u,t :: r=>∃a:Nat,t.a=a/\u<=a/\a+t.t.size<=s.size/\DU s (a+t.t.size) r
theorem DU.low :∀{l:List Tv}{u v:Nat},DU s u l->v<=u->DU s v l
 |[],_,_,_,_=>trivial
 |_ :: _,_,_,⟨a,h1,h2,h3,h4⟩,h=>⟨a,h1,by omega,h3,h4⟩
def oU (s:ByteArray):List Tv->Nat->ByteArray
 |[],u=>s.extract u s.size
 |t :: r,u=>if qE t=true then s.extract u t.a.toNat++((if t.k=8 then ⟨#[32]⟩ else ⟨#[]⟩)++oU s r (t.a.toNat+t.t.size)) else oU s r u
theorem gV (s:ByteArray) (t:Tv) (r:List Tv) (u:Nat):oU s (t :: r) u=if qE t=true then s.extract u t.a.toNat++((if t.k=8 then ⟨#[32]⟩ else ⟨#[]⟩)++oU s r (t.a.toNat+t.t.size)) else oU s r u:=rfl
theorem Lr {l:List Tv}{j:Nat}{t:Tv}(h:l[j]?=some t):l.drop j=t :: l.drop (j+1):=by
 have hlt:=(Te.1 h).1;rw [TD hlt];rw [Pi hlt] at h;rw [TE h]
theorem nS (R:ByteArray):(⟨#[]⟩:ByteArray)++R=R:=ByteArray.empty_append
abbrev uQ (s:ByteArray):List Tv:=(Lx.cV s).1.map (Lx.tv s)
theorem Be :∀{l:List Lx.Tk}{a z:Nat},Lx.Pv s a l z->a<=s.size->a+l.length<=s.size
 |[],a,z,_,h=>h
 |t :: l,a,z,⟨h1,h2,h3,h4⟩,h=>by
  have:=Be h4 h3;have:=h1.1;simp only [List.length_cons];omega
theorem tA (s:ByteArray):(uQ s).length<=s.size:=by
 obtain ⟨z,h,_⟩:=Lx.nF s;have:=Be h (SW _);show ((Lx.cV s).1.map (Lx.tv s)).length<=_;rw [UC];omega
theorem Mg {t:Lx.Tk}(h:t.e<=s.size):(Lx.tv s t).t.size=t.e-t.a:=Lx.av s t.a t.e h
theorem Bf :∀{l:List Lx.Tk}{a z:Nat},Lx.Pv s a l z->DU s a (l.map (Lx.tv s))
 |[],_,_,_=>trivial
 |t :: l,a,z,⟨h1,h2,h3,h4⟩=>by
  have hz:=Mg h3;have e:t.a+(Lx.tv s t).t.size=t.e:=by omega
  exact ⟨t.a,rfl,h1.1,by omega,by rw [e];exact Bf h4⟩
theorem AA (s:ByteArray):DU s 0 (uQ s):=by
 obtain ⟨z,h,_⟩:=Lx.nF s;exact Bf h
theorem FJ (s:ByteArray) (t:Lx.Tk):qE (Lx.tv s t)=true↔t.k=7\/t.k=8:=by
 show ((((t.k:Nat):Int) == 7) || (((t.k:Nat):Int) == 8))=true↔_
 simp only [Th,TY];omega
theorem sD (s:ByteArray):∀(l:List Lx.Tk) (a z u:Nat),Lx.Pv s a l z->oU s (l.map (Lx.tv s)) u=Lx.nz s l u
 |[],_,_,_,_=>rfl
 |t :: l,a,z,u,⟨h1,h2,h3,h4⟩=>by
  have ih:=fun u=>sD s l t.e z u h4
  have hz:=Mg h3;have e:t.a+(Lx.tv s t).t.size=t.e:=by omega
  have hk:=FJ s t;show oU s (Lx.tv s t :: l.map (Lx.tv s)) u=_;rw [gV];unfold Lx.nz;have ea:(Lx.tv s t).a.toNat=t.a:=rfl;rw [ea,e,ih,ih]
  by_cases h7:t.k=7
  ·have n8:¬(Lx.tv s t).k=8:=by show ¬((t.k:Nat):Int)=8;omega
   rw [IO (hk.2 (.inl h7)),IO h7,Eq n8,nS]
  ·by_cases h8:t.k=8
   ·have n8:(Lx.tv s t).k=8:=by show ((t.k:Nat):Int)=8;omega
    rw [IO (hk.2 (.inr h8)),Eq h7,IO h8,IO n8];rfl
   ·rw [Eq (fun h=>by rcases hk.1 h with h|h <;> omega),Eq h7,Eq h8]
theorem vH:∀(l:List Tv) (i n:Nat),(∀t∈l,qE t=false)->vI l i n=[]
 |[],_,_,_=>rfl
 |t :: l,i,n,h=>by
  unfold vI;rw [h t (S4 ..)];exact vH l _ _ (fun x hx=>h x (SZ _ hx))
theorem Em (h:(Lx.cV s).2.1=0) {T:ByteArray}(hT:oU s (uQ s) 0=T):(Lx.cV T).2.1=0/\vI (uQ T) 0 0=[]/\oU T (uQ T) 0=T:=by
 obtain ⟨z,hc,_⟩:=Lx.nF s;obtain ⟨z',hc',_⟩:=Lx.nF T;rw [sD s _ 0 z 0 hc] at hT;obtain ⟨h1,h2,h3⟩:=Lx.BU h hT;refine ⟨h1,vH _ _ _ (fun t ht=>?_),by rw [sD T _ 0 z' 0 hc'];exact h3⟩;obtain ⟨x,hx,rfl⟩:=UV.1 ht;have:=h2 x hx;cases hb:qE (Lx.tv T x) with
 |false=>rfl
 |true=>rcases (FJ T x).1 hb with h|h <;> omega
theorem EV:∀(l l':List Tv) (i n:Nat),l'.length=l.length->(∀(j:Nat) t t',l[j]?=some t->l'[j]?=some t'->t'.k=t.k/\t'.t=t.t/\(0<i+j->qE t=true->(t.f=0↔t'.f=0)))->vI l' i n=vI l i n
 |[],[],_,_,_,_=>rfl
 |[],_ :: _,_,_,h,_=>by simp at h
 |_ :: _,[],_,_,h,_=>by simp at h
 |t :: l,t' :: l',i,n,hl,h=>by
  obtain ⟨e1,e2,e3⟩:=h 0 t t' rfl rfl
  have ih:=fun n=>EV l l' (i+1) n (by simpa using hl) (fun j u u' h1 h2=>by
   obtain ⟨a,b,c⟩:=h (j+1) u u' (by simpa using h1) (by simpa using h2);exact ⟨a,b,fun h3=>c (by omega)⟩)
  have hn:qE t'=qE t:=by unfold qE;rw [e1]
  unfold vI;rw [hn,ih,ih,e2];cases hk:qE t with
  |false=>rfl
  |true=>
   have hb:OV i t'=OV i t:=by
    unfold OV
    by_cases hi:0<i
    ·have:=e3 (by omega) hk;rw [show (t'.f == 0)=(t.f == 0) by rw [Up,TY,TY];exact this.symm]
    ·simp [hi]
   rw [hb]
abbrev eN (s:ByteArray):Int:=((Lx.cV s).2.1:Int)
abbrev eX (s:ByteArray):Int:=if (Lx.cV s).2.1=0 then 0 else ((Lx.cV s).2.2:Int)
abbrev eY (s:ByteArray):Int:=if (Lx.cV s).2.1=0 then 0 else Lx.pL s (Lx.cV s).2.2
abbrev eZ (s:ByteArray):Int:=if (Lx.cV s).2.1=0 then 0 else Lx.pC s (Lx.cV s).2.2
def Rh (s:ByteArray):List eP:=if (Lx.cV s).2.1=0 then vI (uQ s) 0 0 else []
def QU (s:ByteArray):ByteArray:=if (Lx.cV s).2.1=0 then oU s (uQ s) 0 else ⟨#[]⟩
theorem Iw {W:World}{e:Ending}{w':World}(h:Lx.AV W s e w'):Ra W (eN s) (eX s) (eY s) (eZ s) (uQ s) e w':=by
 obtain ⟨⟨v,rfl,hv⟩,hb⟩:=h;exact ⟨v,rfl,hv,hb⟩
end Go.Proofs.YtcjiapphbpiffaaGreatDoor
namespace Go.Proofs.YtcjiapphbpiffaaGreatDoor
open Go.RowKit Go.Shelf
variable {w w':World}{j:Nat}
attribute [local go_sem] Oper.semAt_some
def IE (F:Fence) (n:Nat) (P:Program) (gf:Nat) (lb:Array Value) (it:Nat->Array Value) (N:Nat) (G:World->Prop):Prop:=
 ∀(l:Nat) (J:Nat->World->Prop) (W:World),(∀j W,J j W->G W)->AbidesFrom W.heap.size J->(∀j W1,j<N->J j W1->YieldAt F (n-1) P l (it j) W1 fun e W'=>e=.returned (.bool true)/\J (j+1) W')->J 0 W ->
  CallsIn F n P gf (#[.func (.yield l) #[] #[]]++lb) W fun e W'=>(∃v,e=.returned v)/\J N W'
theorem jm {F:Fence}{n:Nat}{P:Program}{g:Operand}{ps:Array Tmp}{assign body:Code}{Q:Exit->Act->World->Prop}{a:Act}(hro:F.round=none) (h1:1<=n) {gf:Nat}{lb:Array Value}(hg:a.eval g=.func (.func gf) #[] lb) (hF:F.fn gf)
  (eg:∀args w,(callFunc gf args).run P w=.ok (.enter gf args) w) {it:Nat->Array Value} {N:Nat} {G:World->Prop} (hit:IE F (n-1) P gf lb it N G) (hps:∀j,(it j).size=ps.size)
  (I:Nat->World->Prop) (hI:OwnFrom w.heap.size I) (hG:∀j W,I j W->G W) (h0:I 0 w) (Ax:Nat->Act->World->Prop) (hAx:∀j a',OwnFrom w.heap.size (fun (_:Unit) W=>Ax j a' W))
  (hassign:∀(l j:Nat) (W:World) (K:Act->World->Prop),j<N->I j W->(∀a' W',KeepsFrom w.heap.size W W'->I j W'->Ax j a' W'->K a' W') ->
   assign.wpIn (F.inRound l) (n-1-1) P (Exit.then K (fun _ _ _=>False)) { tmps:=(ps.zip (it j)).foldl (fun t (p,v)=>t.setIfInBounds p v) a.tmps,defers:=[] } W)
  (hbody:∀(l j:Nat) (a':Act) (W:World),j<N->I j W->Ax j a' W->body.wpIn (F.inRound l) (n-1-1) P (fun e _ W'=>e=.normal/\KeepsFrom w.heap.size W W'/\I (j+1) W') a' W)
  (hdone:∀(D:Nat) (W:World),w.heap.size<=D->I N W->W.heap[D]?=some (.deferred (some []))->Q .normal { a with defers:={ target:=.collected D,args:=#[] } :: a.defers } W) :
  (Code.rangeFunc g ps assign body).wpIn F n P Q a w:=by
 refine wpIn_rangeFunc fun fn hfn=>?_
 rw [hro];obtain ⟨L,hL⟩:∃L:LoopState->Loop,∀st,L st={ state:=st,pending:=none,fn,tmps:=a.tmps,params:=ps,assign,body,defers:=w.heap.size }:=⟨_,fun _=>rfl⟩;have hent:=run_enterLoop_outer (P:=P) (w:=w) fn a.tmps ps assign body;rw [<-hL] at hent;obtain ⟨V,hV⟩:∃V,(w.alloc (.deferred (some []))).alloc (.loop (L .ready))=V:=⟨_,rfl⟩;rw [hV] at hent;have e1:(w.alloc (.deferred (some []))).heap.size=w.heap.size+1:=SX _ _;have vr:V.heap[w.heap.size+1]?=some (.loop (L .ready)):=by rw [<-hV,<-e1];exact aq _ _
 have vd:V.heap[w.heap.size]?=some (.deferred (some [])):=by rw [<-hV];exact aD (aq _ _) _
 have vs:w.heap.size+2<=V.heap.size:=by rw [<-hV,SX,e1];exact gt _
 have vi:I 0 V:=by rw [<-hV];exact hI.alloc _ (hI.alloc _ h0)
 refine ⟨w.heap.size+1,_,V,{ target:=.fn (.func gf) lb,args:=#[.func (.yield (w.heap.size+1)) #[] #[]] },V,gf,#[.func (.yield (w.heap.size+1)) #[] #[]]++lb,V,hent,?_,?_,?_,fun _=>h1,?_⟩
 ·simp only [resolve,hg];simp [go_sem]
 ·intro f' hf';simp [Target.leads] at hf';subst hf';exact hF
 ·simp [invoke,go_sem,eg]
 refine (hit (w.heap.size+1) (fun j W=>I j W/\W.heap[w.heap.size+1]?=some (.loop (L .ready))/\W.heap[w.heap.size]?=some (.deferred (some []))) V (fun j W h=>hG j W h.1) ?_ ?_ ⟨vi,vr,vd⟩).mono ?_
 ·intro j A B row hs hgr hr;refine ⟨hI j A B row hs.1 hgr fun r e=>?_,(grownBy_keeps hgr (fun r e=>(hr r e).2) hs.2.1 rfl).trans hs.2.1,(grownBy_keeps hgr (fun r e=>(hr r e).2) hs.2.2 rfl).trans hs.2.2⟩;obtain ⟨hb,o,ho,hw⟩:=hr r e;exact ⟨by omega,o,ho,Obj.not_cells_of_walk hw⟩
 ·rintro j W hj ⟨hi,hr,hd⟩;have hy:=run_yield (P:=P) (args:=it j) hr (by rw [hL];exact hps j);rw [hL] at hy;refine ⟨fn,_,assign,body,hy,roundIn_of_wpIn hfn (hassign _ j W _ hj hi ?_)⟩;intro a' W' hk hi' hax;have hr':=hk.same _ _ (by omega) hr rfl;have hd':=hk.same _ _ (gt _) hd rfl;have hlt:=au hr';refine ⟨_,run_beginRound hr' (by rw [hL]),?_⟩;obtain ⟨W2,hW2⟩:∃W2,W'.putObj (w.heap.size+1) (.loop { L .ready with state:=.busy })=W2:=⟨_,rfl⟩;have r2:W2.heap[w.heap.size+1]?=some (.loop { L .ready with state:=.busy }):=by rw [<-hW2];exact World.putObj_heap_same hlt
  have d2:W2.heap[w.heap.size]?=some (.deferred (some [])):=by rw [<-hW2];exact (World.putObj_heap_other (by omega)).trans hd'
  have i2:I j W2:=by rw [<-hW2];exact hI.putObj _ hi' (by omega) hr' rfl
  have x2:Ax j a' W2:=by rw [<-hW2];exact (hAx j a').putObj (s:=()) _ hax (by omega) hr' rfl
  rw [hW2];refine wpIn_mono (hbody _ j a' W2 hj i2 x2) ?_;rintro e a3 W3 ⟨rfl,hk3,i3⟩;have r3:=hk3.same _ _ (by omega) r2 rfl;have d3:=hk3.same _ _ (gt _) d2 rfl;have hend:=run_endRound (P:=P) none r3;rw [hL] at hend;refine ⟨_,_,hend,rfl,hI.putObj _ i3 (by omega) r3 rfl,?_,(World.putObj_heap_other (by omega)).trans d3⟩;rw [World.putObj_heap_same (au r3),hL];rfl
 ·rintro e W ⟨⟨v,rfl⟩,hi,hr,hd⟩;have hend:=run_endLoop (P:=P) hr (by rw [hL];simp);rw [hL] at hend;exact ⟨none,_,hend,hdone _ _ (gt _) (hI.putObj _ hi (by omega) hr rfl) ((World.putObj_heap_other (by omega)).trans hd)⟩
theorem iS (h:Below w.heap.size w w'):KeepsOthers w w':=⟨h.size,fun k o hk _=>(h.block k (au hk)).trans hk⟩
theorem iR {S:Nat->Prop}(h:Kp S w w') (hS:∀k,S k->∀o,w.heap[k]?=some o->o.isCells=true):KeepsOthers w w':=
 ⟨h.size,fun k o hk ho=>h.blk hk (fun hs=>by rw [hS k hs o hk] at ho;cases ho)⟩
theorem dg {g:Nat}{cs:Array Value}{T:TypeId}{f:Nat × Nat}(h:w.heap[g]?=some (.cells cs T f)):∀o,w.heap[g]?=some o->o.isCells=true:=by
 intro o ho;rw [h] at ho;cases ho;rfl
theorem be {W W':World}{row:Option Nat}(hg:W.grownBy W' row) (hrow:∀r,row=some r->∃o:Obj,W.heap[r]?=some o/\o.isCells=false) {k:Nat}{cs:Array Value}{T:TypeId}{f:Nat × Nat}(h:W.heap[k]?=some (.cells cs T f)):W'.heap[k]?=some (.cells cs T f):=
 (grownBy_keeps_cells hg hrow h rfl).trans h
attribute [local go_sem] Oper.semAt_some
def lB:List Tv->Nat->Nat->List (Tv × eP)
 |[],_,_=>[]
 |t :: r,i,n=>if qE t=true then (t,⟨n,t.t,OV i t⟩) :: lB r (i+1) n else lB r (i+1) (n+1)
theorem ll:∀(l:List Tv) (i n:Nat),(lB l i n).map (·.2)=vI l i n
 |[],_,_=>rfl
 |t :: r,i,n=>by
  have h1:=ll r (i+1) n;have h2:=ll r (i+1) (n+1);unfold lB vI
  split
  ·rw [T1,h1]
  ·exact h2
theorem xr {l:List Tv}{t:Tv}(h:l[j]?=some t) (n:Nat):lB (l.drop j) j n=if qE t=true then (t,⟨n,t.t,OV j t⟩) :: lB (l.drop (j+1)) (j+1) n else lB (l.drop (j+1)) (j+1) (n+1):=by
 have hlt:=(Te.1 h).1
 have e:l.drop j=t :: l.drop (j+1):=by
  rw [TD hlt];rw [Pi hlt] at h;rw [TE h]
 rw [e];rfl
def R8 (c:List (Tv × eP)) (j:Nat):Array Value:=#[((c[j]?).map (fun d=>d.1.v)).getD .nilFunc,((c[j]?).map (fun d=>d.2.v)).getD .nilFunc]
theorem yH {c:List (Tv × eP)}{d:Tv × eP}(h:c[j]?=some d):R8 c j=#[d.1.v,d.2.v]:=by
 unfold R8;rw [h];rfl
theorem Dr {α:Type}{c r:List α}{d:α}(h:c.drop j=d :: r):c[j]?=some d/\c.drop (j+1)=r/\j<c.length:=by
 have hlt:j<c.length:=by
  rcases Vy j c.length with h1|h1
  ·exact h1
  ·rw [Ua h1] at h;cases h
 rw [TD hlt] at h;cases h;exact ⟨Pi hlt,rfl,hlt⟩
theorem F8 (t:Tv) (W:World):Ta 19 #[.agg #[.int .u8 t.k,.string t.t,.int .i64 t.a,.int .i64 t.l,.int .i64 t.c,.int .i64 t.f]] W fun r w'=>r=.returned (.bool (qE t))/\Below W.heap.size W w':=by
 unfold qE;obtain ⟨b7,e7⟩:∃b,(t.k == 7)=b:=⟨_,rfl⟩;obtain ⟨b8,e8⟩:∃b,(t.k == 8)=b:=⟨_,rfl⟩;rw [e7,e8];cases b7 <;> cases b8
 all_goals (
  go_enter Tryz.func19,Tryz.ntmps19
  go_wp2_with fail
  go_ret
  exact ⟨rfl,(hH _ _).alloc (gt _) _⟩)
theorem xq (ao:Option Addr) (n cap:Nat) (w:World):Ta 10 #[.slice ao n cap] w fun e w'=>e=.returned (.func (.func 18) #[] #[.pointer (some ⟨w.heap.size,0,none⟩)])/\w'=w.alloc (.cells #[.slice ao n cap] 35):=by
 have hmf:=mkfn
 go_enter Tryz.func10,Tryz.ntmps10
 go_wp2_with fail
 go_ret
 exact ⟨rfl,rfl⟩
theorem uN {β:Type}{B:Nat}{J:β->World->Prop}(h:AbidesFrom B J) {s:β}{V V':World}(hJ:J s V) (hb:Below V.heap.size V V'):J s V':=
 h s V V' none hJ ⟨hb.os,hb.tape,hb.output,hb.size,fun k hk _=>hb.block k hk⟩ (fun r e=>by cases e)
theorem rZ (n:Nat) (hn:1<=n) (Bn:Nat) (ao:Option Addr) (L:List Tv) (cap:Nat) (hl:L.length<=100000000) :
  IE Fence.wide n Tryz.prog 18 #[.pointer (some ⟨Bn,0,none⟩)] (R8 (lB L 0 0)) (lB L 0 0).length (fun W=>W.cell? ⟨Bn,0,none⟩=some (.slice ao L.length cap)/\Lt W ao L):=by
 intro lp J W hG hA hY h0;refine callsIn_of_wp Tryz.func18 rfl trivial ?_ rfl;simp only [Tryz.ntmps18,Ux,List.length_cons,List.length_nil,Nat.reduceAdd,Nat.reduceSub,Ur,Us,UI,Uy,TB,Tr];have g0:=(hG 0 W h0).1;obtain ⟨C,hC⟩:∃C,lB L 0 0=C:=⟨_,rfl⟩;have HC:Hid (lB L 0 0=C):=hC;rw [hC] at hY ⊢;clear hC
 gi_wp2
 gi_loopw [3,8] (fun c i wr=>∃(k m j:Nat),i=.int .i64 k/\c=.int .i64 m/\k<=L.length/\m<=k/\Hid (C.drop j=lB (L.drop k) k m/\j<=C.length/\J j wr)) (fun _ i _=>L.length-(intOf i).toNat)
 case atStart=>exact ⟨0,0,0,rfl,rfl,SW _,gt _,⟨HC.out.symm,SW _,h0⟩⟩
 case round=>
  obtain ⟨k,m,j,rfl,rfl,hk,hmk,HJ⟩:=hrel;clear g0
  by_cases hlt:k<L.length
  ·have q1:(k:Int)<L.length:=by omega
   have q0:(0:Int)<=k:=by omega
   obtain ⟨t,ht⟩:∃t,L[k]?=some t:=⟨_,Pi hlt⟩;obtain ⟨b,off,rfl,x0,x1,x2,x3,x4,x5⟩:=(hG j wr HJ.out.2.2).2 k t ht;obtain ⟨y,hy⟩:∃y,qE t=y:=⟨_,rfl⟩;have HI:=show Hid _ from F8 t
   rw [hy] at HI;have HT:Hid (L[k]?=some t/\qE t=y):=⟨ht,hy⟩;clear hy ht
   gi_wp2
   refine ⟨trivial,?_⟩;refine (TW.2 (HI.out _)).mono ?_;rintro r w2 ⟨rfl,hb2⟩;have hal:Below wr.heap.size wr (wr.alloc (.cells #[.int .u8 t.k,.string t.t,.int .i64 t.a,.int .i64 t.l,.int .i64 t.c,.int .i64 t.f] 49)):=(hH _ _).alloc (gt _) _;have hk2:w2.heap[wr.heap.size]?=some (.cells #[.int .u8 t.k,.string t.t,.int .i64 t.a,.int .i64 t.l,.int .i64 t.c,.int .i64 t.f] 49 (0,0)):=ag (aq _ _) hb2;have HJ2:Hid (C.drop j=lB (L.drop k) k m/\j<=C.length/\J j w2):=⟨HJ.out.1,HJ.out.2.1,uN hA HJ.out.2.2 (hal.trans (hb2.mono hal.size))⟩;obtain ⟨g,hg⟩:∃g,wr.heap.size=g:=⟨_,rfl⟩;rw [hg] at hk2 ⊢;have c0:w2.cell? ⟨g,0,none⟩=some (.int .u8 t.k):=af hk2 rfl;have c1:w2.cell? ⟨g,1,none⟩=some (.string t.t):=af hk2 rfl;have c2:w2.cell? ⟨g,2,none⟩=some (.int .i64 t.a):=af hk2 rfl;have c3:w2.cell? ⟨g,3,none⟩=some (.int .i64 t.l):=af hk2 rfl;have c4:w2.cell? ⟨g,4,none⟩=some (.int .i64 t.c):=af hk2 rfl;have c5:w2.cell? ⟨g,5,none⟩=some (.int .i64 t.f):=af hk2 rfl;clear hb2 hal hk2 hg HJ x0 x1 x2 x3 x4 x5 HI;cases y
   ·have HX:Hid (C.drop j=lB (L.drop (k+1)) (k+1) (m+1)/\j<=C.length/\J j w2):=⟨by rw [HJ2.out.1,xr HT.out.1,HT.out.2];rfl,HJ2.out.2⟩;clear hY hA hG
    gi_wp2
    go_roundw
    case rel=>exact ⟨k+1,m+1,j,by go_num,by go_num,hlt,by omega,HX⟩
    case measure=>simp [intOf];omega
   ·have hd:=HJ2.out.1;rw [xr HT.out.1,IO HT.out.2] at hd;obtain ⟨h1,h2,h3⟩:=Dr hd;obtain ⟨fn,tmps,assign,body,hy,hR⟩:=hY j w2 h3 HJ2.out.2.2;rw [yH h1] at hy
    dsimp only [Tv.v,eP.v] at hy
    have HX:Hid (C.drop (j+1)=lB (L.drop (k+1)) (k+1) m/\j+1<=C.length):=⟨h2,h3⟩;clear hY hA hG hd h1 h2 h3 HJ2;unfold OV at hy;obtain ⟨bf,ef⟩:∃bf,(t.f == 0)=bf:=⟨_,rfl⟩;rw [ef] at hy
    by_cases hj:0<k
    case' pos=>
     have r0:(0:Int)<k:=by omega
     have r2:decide ((0:Int)<(k:Int))=true:=Tf r0;rw [Tf hj] at hy
    case' neg=>
     have r0:¬(0:Int)<k:=by omega
     have r2:decide ((0:Int)<(k:Int))=false:=Tg r0;rw [Tg hj] at hy
    all_goals (
     cases bf
     all_goals (
      simp only [Wh,Uz] at hy
      gi_wp2
      refine hR.mono ?_;rintro e W3 ⟨rfl,hJ3⟩
      gi_wp2
      go_roundw
      case rel=>exact ⟨k+1,m,j+1,by go_num,rfl,hlt,by omega,⟨HX.out.1,HX.out.2,hJ3⟩⟩
      case measure=>simp [intOf];omega))
  ·obtain rfl:k=L.length:=by omega
   have q1:¬((L.length:Int)<L.length):=by omega
   have hj:j=C.length:=by
    have h1:=HJ.out.1;rw [US] at h1;have h2:=Tm List.length h1;simp [lB] at h2;have:=HJ.out.2.1;omega
   subst hj
   gi_wp2
   go_end0
   exact ⟨⟨_,rfl⟩,HJ.out.2.2⟩
end Go.Proofs.YtcjiapphbpiffaaGreatDoor
namespace Go.Proofs.YtcjiapphbpiffaaGreatDoor
open Go.RowKit
theorem AJ {b:Nat}{w v:World}(h:Below b w v):∀m,Below b w (v.drewN m)
 |0=>h
 |m+1=>(AJ h m).drew
theorem FK {l:List eP}{w:World}{p q:Option Addr}{c d:Nat}(hA:Lm w p l) (hB:Lm w q l) (hl:l.length<=1000000000) :
  Ta 8 #[.slice p l.length c,.slice q l.length d] w fun r w'=>r=.returned (.bool true)/\Below w.heap.size w w':=by
 have HA:Hid (Lm w p l):=hA;have HB:Hid (Lm w q l):=hB;clear hA hB
 go_enter Tryz.func8,Tryz.ntmps8
 go_wp2_with fail
 go_loopw [5] (fun i wr=>∃k:Nat,k<=l.length/\i=.int .i64 k/\Hid (Below w.heap.size w wr)) (fun i _=>l.length-(intOf i).toNat)
 case atStart=>exact ⟨0,by omega,rfl,hH _ _⟩
 case round=>
  obtain ⟨k,hk,rfl,HW⟩:=hrel
  by_cases hlt:k<l.length
  ·have q1:(k:Int)<l.length:=by omega
   have q0:(0:Int)<=k:=by omega
   obtain ⟨t,ht⟩:∃t,l[k]?=some t:=⟨_,Pi hlt⟩;obtain ⟨b,off,rfl,x0,x1,x2⟩:=HA.out.below HW.out k t ht;obtain ⟨b',off',rfl,y0,y1,y2⟩:=HB.out.below HW.out k t ht;obtain ⟨n,tt,bb⟩:=t
   dsimp only at *
   clear HA HB ht
   go_wp2_with fail
   go_quiet (fail)
   go_wp2_with fail
   exact ⟨⟨k+1,hlt,by go_num,AJ HW.out _⟩,by simp [intOf];omega⟩
  ·obtain rfl:k=l.length:=by omega
   have q1:¬((l.length:Int)<l.length):=by omega
   go_wp2_with fail
   go_ret
   exact ⟨rfl,HW.out⟩
abbrev QZ (g:Nat):Value:=.iface 63 (.pointer (some ⟨g,0,none⟩))
def Er (w:World) (er:Value) (c x y z:Int):Prop:=(c=0/\er=.nilIface)\/(c≠0/\∃g,er=QZ g/\w.heap[g]?=some (Sc c x y z))
def L7 (W:World) (E x y z:Int) (R:List eP) (r:Ending) (w':World):Prop:=∃v er,r=.returned (.tuple #[v,er])/\Rm W.heap.size w' v R/\Er w' er E x y z/\Below W.heap.size W w'
def MU (W:World) (E x y z:Int) (T:ByteArray) (r:Ending) (w':World):Prop:=∃er,r=.returned (.tuple #[.string T,er])/\Er w' er E x y z/\Below W.heap.size W w'
abbrev yE:ByteArray:=⟨#[97,32,123,120,125,10,47,47,32,121,32,10,98]⟩
abbrev yD:ByteArray:=⟨#[97,123,98,125,99,47,47,32,100,10,101]⟩
abbrev Qc:ByteArray:=⟨#[97,32,99,10,101]⟩
abbrev N0:List eP:=[⟨1,⟨#[123,120,125]⟩,true⟩,⟨1,⟨#[47,47,32,121]⟩,false⟩]
theorem CF {W:World}(H1:Hid (∀V,Below W.heap.size W V->Ta 6 #[.string yE] V (L7 V 0 0 0 0 N0)))
  (H2:Hid (∀V,Below W.heap.size W V->Ta 5 #[.string yD] V (MU V 0 0 0 0 Qc))) :
  Ta 4 #[] W fun r w'=>r=.returned (.bool true)/\Below W.heap.size W w':=by
 go_enter Tryz.func4,Tryz.ntmps4
 go_wp2_with fail
 refine (H1.out _ (hH _ _)).mono ?_;rintro r w1 ⟨v,er,rfl,hv,he,hb1⟩
 rcases he with ⟨_,rfl⟩|⟨h0,_⟩
 rotate_left
 ·exact absurd rfl h0
 obtain ⟨ao,cap,rfl,hL,-,-,-⟩:=Lm.row hv;have HL:Hid (Tb W w1/\Lm w1 ao N0):=⟨hb1,hL⟩;clear hv hb1 hL H1
 go_wp2_with fail
 refine (H2.out _ HL.out.1).mono ?_;rintro r w2 ⟨er,rfl,he,hb2⟩
 rcases he with ⟨_,rfl⟩|⟨h0,_⟩
 rotate_left
 ·exact absurd rfl h0
 have HB:Hid (Tb W w2):=HL.out.1.trans (hb2.mono HL.out.1.size);have hL:=HL.out.2.below hb2;obtain ⟨b,off,rfl,x0,x1,x2⟩:=hL 0 _ rfl;obtain ⟨b',off',e,y0,y1,y2⟩:=hL 1 _ rfl;cases e;clear hb2 hL HL H2
 dsimp only at *
 rw [Nat.zero_mul,TS] at x0 x1 x2;rw [Nat.one_mul] at y0 y1 y2;have y4:w2.cell? ⟨b,off+4,none⟩=_:=y1;have y5:w2.cell? ⟨b,off+5,none⟩=_:=y2
 go_wp2_with fail
 go_ret
 exact ⟨rfl,HB.out⟩
end Go.Proofs.YtcjiapphbpiffaaGreatDoor
namespace Go.Proofs.YtcjiapphbpiffaaGreatDoor
open Go.RowKit Go.Shelf
variable {W A W' V:World}{L:List Tv}{R:List eP}{B a j:Nat}{row:Option Nat}{v:Value}{s:ByteArray}{E x y z:Int}
attribute [local go_sem] Oper.semAt_some
def SP (W:World) (E x y z:Int) (L:List Tv) (r:Ending) (w':World):Prop:=∃v er,r=.returned (.tuple #[v,er])/\Er w' er E x y z/\(E=0->Rt W.heap.size w' v L)/\Below W.heap.size W w'
theorem zH (HS:Hid (Ta 17 #[.string s] W (Ra W E x y z L))) :
  Ta 9 #[.string s] W (SP W E x y z L):=by
 by_cases hE:E=0
 case' pos=>have q1:(E == 0)=true:=by simpa using hE
 case' neg=>have q1:(E == 0)=false:=by simpa using hE
 all_goals (
  go_enter Tryz.func9,Tryz.ntmps9
  go_wp2_with fail
  refine HS.out.mono ?_;rintro e w1 ⟨v,rfl,hv,hb1⟩;obtain ⟨V1,eV1⟩:∃V1,w1.alloc (vT x y z)=V1:=⟨_,rfl⟩;obtain ⟨g1,hg1⟩:∃g1,w1.heap.size=g1:=⟨_,rfl⟩;have hx:Below w1.heap.size w1 V1:=by rw [<-eV1];exact (hH _ _).alloc (gt _) _
  have kp:V1.heap[g1]?=some (vT x y z):=by rw [<-eV1,<-hg1];exact aq _ _
  have p0:V1.cell? ⟨g1,0,none⟩=some (.int .i64 x):=af kp rfl;have p1:V1.cell? ⟨g1,1,none⟩=some (.int .i64 y):=af kp rfl;have p2:V1.cell? ⟨g1,2,none⟩=some (.int .i64 z):=af kp rfl;have HB:Hid (Below W.heap.size W V1/\Rt W.heap.size V1 v L):=⟨hb1.trans (hx.mono hb1.size),hv.below hx⟩;clear hb1 hx kp hv
  go_wp2_with fail
  try rw [eV1]
  try rw [hg1]
  clear eV1 hg1)
 ·go_region
  all_goals (go_wp2_with fail)
  all_goals (
   go_ret2
   exact ⟨_,_,rfl,.inr ⟨hE,V1.heap.size,rfl,ag (aq _ _) (hH _ _).drew⟩,fun h=>absurd h hE,(HB.out.1.alloc HB.out.1.size _).drew⟩)
 ·go_wp2_with fail
  go_ret2
  exact ⟨v,_,rfl,.inl ⟨hE,rfl⟩,fun _=>HB.out.2,HB.out.1⟩
theorem Rm.kept (hg:W.grownBy W' row) (hr:∀r,row=some r->∃o:Obj,W.heap[r]?=some o/\o.isCells=false) {v:Value}{l:List eP}(h:Rm B W v l):Rm B W' v l:=by
 refine ⟨h.1,?_⟩
 rcases h.2 with h1|⟨g,cap,cur,rfl,a0,a2,a3⟩
 ·exact .inl h1
 ·exact .inr ⟨g,cap,cur,rfl,a0,be hg hr a2,a3⟩
theorem zZ (hg:W.grownBy W' row) (hr:∀r,row=some r->∃o:Obj,W.heap[r]?=some o/\o.isCells=false) {v:Value}{l:List Tv}(h:Rt B W v l):Rt B W' v l:=by
 refine ⟨h.1,?_⟩
 rcases h.2 with h1|⟨g,cap,cur,rfl,a0,a2,a3⟩
 ·exact .inl h1
 ·exact .inr ⟨g,cap,cur,rfl,a0,be hg hr a2,a3⟩
structure CO (W:World) (a:Nat) (v:Value) (L:List Tv) (R:List eP) (j:Nat) (wr:World):Prop where
 bel:Below W.heap.size W wr
 rt:Rt W.heap.size wr v L
 lb:wr.heap[a+1]?=some (.cells #[v] 35 (0,0))
 al:∃u,wr.heap[a]?=some (.cells #[u] 27 (0,0))/\Rm W.heap.size wr u (R.take j)
theorem CO.own {B:World}(h:CO W a v L R j A) (hg:A.grownBy B row) (hr:∀r,row=some r->W.heap.size<=r/\∃o:Obj,A.heap[r]?=some o/\o.isCells=false):CO W a v L R j B:=by
 obtain ⟨u,h1,h2⟩:=h.al;have hr2:=fun r e=>(hr r e).2
 exact ⟨h.bel.grown hg h.bel.size (fun k e=>(hr k e).1),zZ hg hr2 h.rt,be hg hr2 h.lb,⟨u,be hg hr2 h1,h2.kept hg hr2⟩⟩
theorem CO.below {B:World}(h:CO W a v L R j A) (hb:Below A.heap.size A B):CO W a v L R j B:=by
 obtain ⟨u,h1,h2⟩:=h.al;exact ⟨h.bel.trans (hb.mono h.bel.size),h.rt.below hb,ag h.lb hb,⟨u,ag h1 hb,h2.below hb⟩⟩
theorem pO (h:Below A.heap.size A V):KeepsFrom B A V:=(iS h).from B
theorem CO.add {X:World}{u u':Value}{d:eP}(h:CO W a v L R j A) (hb:Below A.heap.size A V) (ha:W.heap.size<=a) (hu:A.heap[a]?=some (.cells #[u] 27 (0,0))) (hm:Rm W.heap.size A u (R.take j)) (hd:R[j]?=some d)
  (hg:V.grownBy X u.ownBlock) (hr:Rm W.heap.size X u' (R.take j++[d])):(X.cell? ⟨a,0,none⟩=some u/\X.frozen? ⟨a,0,none⟩=false)/\CO W a v L R (j+1) (X.setCell ⟨a,0,none⟩ u')/\KeepsFrom W.heap.size A (X.setCell ⟨a,0,none⟩ u'):=by
 have hV:=h.below hb;have hm2:=hm.below hb;have hu2:=ag hu hb;have hk:=Kp.of_grown hg;have e1:=hk.blk hu2 (fun e=>hm2.ne hu2 (by decide) a e.symm rfl);have e2:=hk.blk hV.lb (fun e=>hm2.ne hV.lb (by decide) (a+1) e.symm rfl);have e3:=hV.rt.kp hk (PQ hV.rt hm2);have bX:Below W.heap.size W X:=hV.bel.grown hg hV.bel.size hm2.own;have hs:=Kp.set X a 0 u';refine ⟨⟨af e1 rfl,am e1⟩,⟨bX.setCell (p:=⟨a,0,none⟩) ha _,e3.kp hs (fun k e e9=>?_),hs.blk e2 (by omega),⟨u',aj e1 0 u',?_⟩⟩,?_⟩
 ·rcases e3.2 with ⟨rfl,h0⟩|⟨b,cap,cur,rfl,_,h3,_⟩
  ·cases e
  ·simp only [Value.ownBlock,Tp] at e;subst e;subst e9;rw [e1] at h3;cases h3
 ·rw [UK,hd];exact hr.kp hs (fun k e e9=>hr.ne e1 (by decide) k e e9)
 ·refine (pO hb).trans ?_;refine KeepsFrom.trans (Y:=X) ⟨hg.size,fun k o _ hko ho=>hk.blk hko (fun e=>?_)⟩ ((KeepsOthers.setCell _ _ _).from _)
  rcases hm2.2 with ⟨rfl,h0⟩|⟨b,cap,cur,rfl,_,h3,_⟩
  ·cases e
  ·simp only [Value.ownBlock,Tp] at e;subst e;rw [h3] at hko;cases hko;cases ho
attribute [local go_sem] Oper.semAt_some
theorem Kn (hl:L.length<=100000000) (HR:Hid ((E=0->R=vI L 0 0)/\(E≠0->R=[]))) (HS:Hid (Ta 17 #[.string s] W (Ra W E x y z L))) :
  Ta 6 #[.string s] W (L7 W E x y z R):=by
 refine (TW (n:=9)).1 ?_;refine callsIn_of_wp_marks Tryz.func6 rfl trivial ?_ rfl;simp only [Tryz.ntmps6,Ux,List.length_cons,List.length_nil,Nat.reduceAdd,Nat.reduceSub,Ur,Us,UI,Uy,TB,Tr]
 gi_wp2
 refine ⟨trivial,?_⟩;refine (TW.2 (zH HS)).mono ?_;rintro r w1 ⟨v,er,rfl,he,hv,hb1⟩
 rcases he with ⟨h0,rfl⟩|⟨h0,g,rfl,hg⟩
 rotate_left
 ·obtain rfl:=HR.out.2 h0;have H1:Hid (w1.heap[g]?=some (Sc E x y z)/\Below W.heap.size W w1):=⟨hg,hb1⟩;clear hg hb1 hv
  gi_wp2
  refine ⟨.tuple #[.slice none 0 0,QZ g],by simp [results,Tryz.f6,go_sem],?_⟩;exact ⟨_,_,rfl,EW _ _,.inr ⟨h0,g,rfl,H1.out.1⟩,H1.out.2⟩
 ·have HR2:Hid (R=vI L 0 0):=HR.out.1 h0;subst h0;have hv':=hv rfl;obtain ⟨ao,cap,rfl,hL,-,-,-⟩:=Lt.row hv'
  gi_wp2
  refine ⟨trivial,?_⟩;refine (TW.2 (xq _ _ _ _)).mono ?_;rintro r w2 ⟨rfl,rfl⟩
  gi_wp2
  obtain ⟨a,ha⟩:∃a,w1.heap.size=a:=⟨_,rfl⟩;rw [ha];obtain ⟨W0,hW0⟩:∃W0,(w1.alloc (.cells #[.slice none 0 0] 27)).alloc (.cells #[.slice ao L.length cap] 35)=W0:=⟨_,rfl⟩;have e1:(w1.alloc (.cells #[.slice none 0 0] 27)).heap.size=a+1:=by rw [SX,ha]
  have hW:Below w1.heap.size w1 W0:=by rw [<-hW0];exact ((hH _ _).alloc (gt _) _).alloc (by rw [e1];omega) _
  have hsz:W0.heap.size=a+1+1:=by rw [<-hW0,SX,e1]
  have hWa:W.heap.size<=a:=by rw [<-ha];exact hb1.size
  have h0:CO W a (.slice ao L.length cap) L R 0 W0:=by
   refine ⟨hb1.trans (hW.mono hb1.size),hv'.below hW,?_,⟨.slice none 0 0,?_,EW _ _⟩⟩
   ·rw [<-hW0,<-e1];exact aq _ _
   ·rw [<-hW0,<-ha];exact aD (aq _ _) _
  rw [hW0];clear hW0 e1 hW HR HS hv hv' hL hb1;have hlen:(lB L 0 0).length=R.length:=by rw [HR2.out,<-ll,UC]
  refine jm rfl (by omega) (gf:=18) (lb:=#[.pointer (some ⟨a+1,0,none⟩)]) rfl trivial (enters_of Tryz.func18 (by kernel_rfl) rfl) (rZ 8 (by omega) (a+1) ao L cap hl) (fun j=>rfl) (fun j V=>CO W a (.slice ao L.length cap) L R j V)
   (fun j A B row h hg hr=>h.own hg (fun r e=>⟨by have:=(hr r e).1;omega,(hr r e).2⟩)) (fun j V h=>⟨af h.lb rfl,by obtain ⟨a9,c9,e9,h9,_⟩:=Lt.row h.rt;cases e9;exact h9⟩) h0
   (fun j a' V=>∃q d u19 u20,R[j]?=some d/\V.heap[q]?=some (Ny d.n d.t d.b)/\a'={ tmps:=#[.string s,undef,.slice none 0 0,.nilIface,.slice ao L.length cap,.nilIface,.pointer (some ⟨a,0,none⟩),undef,.pointer (some ⟨q,0,none⟩),.tuple #[.slice ao L.length cap,.nilIface],.string s,.tuple #[.slice ao L.length cap,.nilIface],.slice ao L.length cap,.nilIface,.nilIface,.bool false,undef,.slice ao L.length cap,.func (.func 18) #[] #[.pointer (some ⟨a+1,0,none⟩)],u19,u20,undef,undef,undef,undef,undef],defers:=[] })
   (fun j a' u A B row h hg hr=>by obtain ⟨q,d,u19,u20,h1,h2,h3⟩:=h;exact ⟨q,d,u19,u20,h1,be hg (fun r e=>(hr r e).2) h2,h3⟩) ?assign ?body ?done
  case assign=>
   intro lp j V K hj hi hK;obtain ⟨d,hd⟩:∃d,(lB L 0 0)[j]?=some d:=⟨_,Pi hj⟩;have hR:R[j]?=some d.2:=by rw [HR2.out,<-ll,T8,hd];rfl
   rw [yH hd]
   dsimp only [Tv.v,eP.v]
   gi_wp2
   have hb:Below V.heap.size V (V.alloc (Ny d.2.n d.2.t d.2.b)):=(hH _ _).alloc (gt _) _;exact hK _ _ (pO hb) (hi.below hb) ⟨V.heap.size,d.2,_,_,hR,aq _ _,rfl⟩
  case body=>
   rintro lp j a' V hj hi ⟨q,d,u19,u20,hd,hq,rfl⟩;obtain ⟨u,hu,hm⟩:=hi.al;obtain ⟨pu,cu,rfl,-,-⟩:=hm.shape
   have hjl:(R.take j).length<=100000000:=by
    have h1:R.length<=L.length:=by rw [HR2.out];exact kK L 0 0
    rw [Ty];omega
   obtain ⟨X,hX⟩:∃X,R.take j=X:=⟨_,rfl⟩;rw [hX] at hm hu hjl;obtain ⟨i0,hi0,hz0,hz1,hz2⟩:=T7 Tryz.info34;have hbA:Below V.heap.size V (V.alloc (Ny d.n d.t d.b)):=(hH _ _).alloc (gt _) _;have hmc:CH [d]=[.int .i64 d.n,.string d.t,.bool d.b]:=by simp [CH,bB,eP.cs]
   have HZ:Hid (Rm W.heap.size (V.alloc (Ny d.n d.t d.b)) (.slice pu X.length cu) X/\W.heap.size<=(V.alloc (Ny d.n d.t d.b)).heap.size):=⟨hm.below hbA,SY hi.bel.size hbA.size⟩
   have HN:Hid (∀u' w3,w3.ownsRow W.heap.size 34 3 u' (X.length+1) (CH X++CH [d])->(V.alloc (Ny d.n d.t d.b)).grownBy w3 (Value.slice pu X.length cu).ownBlock->(w3.cell? ⟨a,0,none⟩=some (.slice pu X.length cu)/\w3.frozen? ⟨a,0,none⟩=false)/\CO W a (.slice ao L.length cap) L R (j+1) (w3.setCell ⟨a,0,none⟩ u')/\KeepsFrom W.heap.size V (w3.setCell ⟨a,0,none⟩ u')/\∃p c,u'=.slice p (X.length+1) c):=fun u' w3 h3 hg3=>by
    have hr4:Rm W.heap.size w3 u' (R.take j++[d]):=by
     unfold Rm;rw [hX,Or,KC];exact h3
    obtain ⟨y0,y1,y2⟩:=hi.add hbA hWa hu (by rw [hX];exact hm) hd hg3 hr4;obtain ⟨p,c,e,-,-⟩:=hr4.shape;exact ⟨y0,y1,y2,p,c,by rw [e,hX,Or];rfl⟩
   have c0:V.cell? ⟨a,0,none⟩=some (.slice pu X.length cu):=af hu rfl;have d0:V.cell? ⟨q,0,none⟩=some (.int .i64 d.n):=af hq rfl;have d1:V.cell? ⟨q,1,none⟩=some (.string d.t):=af hq rfl;have d2:V.cell? ⟨q,2,none⟩=some (.bool d.b):=af hq rfl;clear hbA hm hu hX hd hq hi h0 hlen
   gi_wp2_with (refine wpListIn_append_own_at (P:=Tryz.prog) (V.alloc (Ny d.n d.t d.b)) rfl _ _ 27 rfl W.heap.size 34 i0 _ 3 32 Tryz.underlying27 hi0 hz0 hz1 hz2 rfl (by decide) (.slice pu X.length cu) X.length (CH X) rfl HZ.out.1 ⟨V.heap.size,0,none⟩ 1 1 (CH [d]) rfl (by rw [KB];rfl) (fun j u hu=>TX (aq V _) j u (by rw [hmc] at hu;simpa using hu)) (Kz [d]) (by unfold maxLen;omega) (by omega) HZ.out.2 ?_;intro v' w3 h3 hg3 _ _;obtain ⟨⟨y0,y1⟩,y2,y3,p3,k3,rfl⟩:=HN.out v' w3 h3 hg3;have HX:Hid (CO W a (.slice ao L.length cap) L R (j+1) (w3.setCell ⟨a,0,none⟩ (.slice p3 (X.length+1) k3))/\KeepsFrom W.heap.size V (w3.setCell ⟨a,0,none⟩ (.slice p3 (X.length+1) k3))):=⟨y2,y3⟩;clear h3 hg3 y2 y3)
   exact ⟨⟨HX.out.2.size,fun k o hk=>HX.out.2.same k o (by omega)⟩,HX.out.1⟩
  case done=>
   intro D V hD hi hdef;obtain ⟨u,hu,hm⟩:=hi.al;rw [hlen,T4] at hm;have c0:V.cell? ⟨a,0,none⟩=some u:=af hu rfl;obtain ⟨pu,cu,rfl,-,-⟩:=hm.shape;have HZ:Hid (Rm W.heap.size V (.slice pu R.length cu) R/\Below W.heap.size W V):=⟨hm,hi.bel⟩;clear hm hu hi h0
   gi_wp2
   have hg:=grownBy_putObj' V D (.deferred none);refine ⟨by simp,.inl ⟨_,_,rfl,run_takeDeferred hdef,?_⟩⟩;refine ⟨.tuple #[.slice pu R.length cu,.nilIface],by simp [results,Tryz.f6,go_sem],?_⟩;exact ⟨_,_,rfl,HZ.out.1.kept hg (fun r e=>by cases e;exact ⟨_,hdef,rfl⟩),.inl ⟨rfl,rfl⟩,HZ.out.2.grown hg HZ.out.2.size (fun r e=>by cases e;omega)⟩
end Go.Proofs.YtcjiapphbpiffaaGreatDoor
