import Derived.ShutString
import Derived.ChangeOld
import Derived.Lib.SmallJoins
import Derived.Carry
import Derived.Deep.Slices
import Derived.Deep.RegionHeld3
import Derived.Deep.RegionWith
import Derived.WalkMore
import Derived.Laws.EntriesVeiled
import Derived.Test.YthfjlkfeeglfmaaGreatDoorM01
set_option linter.all false
set_option maxHeartbeats 1000000
set_option maxRecDepth 100000
namespace Go.Proofs.YthfjlkfeeglfmaaGreatDoor
open Go.Proofs.Tryz
variable {W w0 W' w V:World}{l r E:List Ev}{a b g p j:Nat}{v sv:Value}{e:Ev}{vs:List Value}{ao:Option Addr}
inductive bF|mk (k:Int) (d:Tv) (c:List bF)
def bF.k:bF->Int|.mk k _ _=>k
def bF.d:bF->Tv|.mk _ d _=>d
def bF.c:bF->List bF|.mk _ _ c=>c
def cm (t:Tv):Bool:=t.k==7||t.k==8
def LZ (d:Tv):Ev:=if cm d then⟨4,0,d⟩else⟨2,0,d⟩
mutual
def mV:bF->List Ev
 |.mk k d c=>if k=0 then[LZ d]else⟨1,k,av⟩ :: (cQ c++[⟨3,k,av⟩])
def cQ:List bF->List Ev
 |[]=>[]
 |n :: r=>mV n++cQ r
end
def fA:List Ev->List (Int × List bF)->Option bF
 |[],_=>none
 |e :: l,S=>
  if e.k=1 then(if e.n=0\/1000<=S.length then none else fA l ((e.n,[]) :: S))
  else if e.k=3 then(match S with
   |[]=>none
   | (k,c) :: S'=>if k=e.n then(match S' with
    |[]=>if l=[]then some (.mk k av c)else none
    | (k',c') :: S2=>fA l ((k',c'++[.mk k av c]) :: S2))else none)
  else if(e.k=2/\cm e.d=false)\/(e.k=4/\cm e.d=true)then(match S with
   |[]=>none
   | (k,c) :: S'=>fA l ((k,c++[.mk 0 e.d []]) :: S'))
  else none
def Nn (n:bF):List (Int × List bF)->List (Int × List bF)
 |[]=>[]
 | (k,c) :: S=>(k,c++[n]) :: S
def Ay (e:Ev):Ev:=if e.k=1\/e.k=3 then⟨e.k,e.n,av⟩else⟨e.k,0,e.d⟩
def kO (a b:List bF):cQ (a++b)=cQ a++cQ b:=by
 induction a with
 |nil=>simp[cQ]
 |cons x r ih=>simp[cQ,ih]
def Km:List (Int × List bF)->List Ev
 |[]=>[]
 | (k,c) :: S=>Km S++(⟨1,k,av⟩ :: cQ c)
def nT:∀(l:List Ev) (S:List (Int × List bF)) (n:bF),fA l S=some n->(∀x∈S,x.1≠0)->mV n=Km S++l.map Ay/\n.k≠0
 |[],S,n,h,_=>by simp[fA]at h
 |e :: l,S,n,h,hS=>by
  simp only[fA]at h
  by_cases H:e.k=1
  ·rw[Or H]at h
   split at h
   ·cases h
   ·rename_i hc
    have hn:e.n≠0:=λx=>hc (.inl x)
    obtain⟨a,b⟩:=nT l ((e.n,[]) :: S) n h (λx u=>by
     rcases Sm.1 u with rfl|u
     ·exact hn
     ·exact hS x u)
    refine⟨?_,b⟩;rw[a];have:Ay e=⟨1,e.n,av⟩:=by simp[Ay,H]
    simp[Km,cQ,this]
  ·rw[Eq H]at h
   by_cases I:e.k=3
   ·rw[Or I]at h;have J:Ay e=⟨3,e.n,av⟩:=by simp[Ay,I]
    cases S with
    |nil=>cases h
    |cons x S'=>
     obtain⟨k,c⟩:=x;simp only at h;have Y:k≠0:=hS (k,c) (RZ ..)
     split at h
     ·rename_i Q
      subst Q;have G:mV (.mk e.n av c)=⟨1,e.n,av⟩ :: (cQ c++[⟨3,e.n,av⟩]):=by simp[mV,Y]
      cases S' with
      |nil=>
       simp only at h
       split at h
       ·rename_i hl
        cases h;subst hl;refine⟨?_,Y⟩;rw[G];simp[Km,J]
       ·cases h
      |cons y S2=>
       obtain⟨Z,c'⟩:=y;simp only at h
       obtain⟨a,b⟩:=nT l ((Z,c'++[.mk e.n av c]) :: S2) n h (λx u=>by
        rcases Sm.1 u with rfl|u
        ·exact hS (Z,c') (by simp)
        ·exact hS x (by simp[u]))
       refine⟨?_,b⟩;rw[a];simp[Km,kO,cQ,G,J]
     ·cases h
   ·rw[Eq I]at h
    split at h
    ·rename_i hc
     cases S with
     |nil=>cases h
     |cons x S'=>
      obtain⟨k,c⟩:=x;simp only at h
      obtain⟨a,b⟩:=nT l ((k,c++[.mk 0 e.d []]) :: S') n h (λx u=>by
       rcases Sm.1 u with rfl|u
       ·exact hS (k,c) (RZ ..)
       ·exact hS x (R1 _ u))
      refine⟨?_,b⟩;rw[a]
      have J:Ay e=LZ e.d:=by
       have:Ay e=⟨e.k,0,e.d⟩:=by simp[Ay,H,I]
       rw[this];unfold LZ
       rcases hc with⟨M,O⟩|⟨M,O⟩
       ·rw[M,O];rfl
       ·rw[M,O];rfl
      have he:mV (.mk 0 e.d [])=[LZ e.d]:=by simp[mV]
      simp[Km,kO,cQ,he,J]
    ·cases h
def rm {n:bF}(h:fA l []=some n):mV n=l.map Ay/\n.k≠0:=by
 have:=nT l [] n h (λx u=>by cases u)
 simpa[Km]using this
open Go.ChangeShapes Go.WideShapes Go.ChangeAt Go.RowKit
mutual
def HN (W:World) (b o:Nat):bF->Prop
 |.mk k d c=>(W.cell? ⟨b,o,none⟩=some (.int .u8 k)/\W.cell? ⟨b,o+1,none⟩=some (.int .u8 d.k)/\W.cell? ⟨b,o+2,none⟩=some (.string d.t)/\W.cell? ⟨b,o+3,none⟩=some (.int .i64 d.a)/\W.cell? ⟨b,o+4,none⟩=some (.int .i64 d.l)/\W.cell? ⟨b,o+5,none⟩=some (.int .i64 d.c)/\W.cell? ⟨b,o+6,none⟩=some (.int .i64 d.f)) /\
  ∃ao cap,W.cell? ⟨b,o+7,none⟩=some (.slice ao c.length cap)/\c.length<=cap/\cap<=maxLen/\(ao=none->c=[])/\∀a,ao=some a->c=[]\/∃b' o',a=⟨b',o',none⟩/\HL W b' o' c
def HL (W:World) (b o:Nat):List bF->Prop
 |[]=>True
 |n :: r=>HN W b o n/\HL W b (o+8) r
end
def HL.at :∀{l:List bF}{o:Nat},HL W b o l->∀{j:Nat}{n:bF},l[j]?=some n->HN W b (o+j*8) n
 |[],o,_,j,n,hj=>by simp at hj
 |x :: r,o,h,0,n,hj=>by
  simp at hj;subst hj;rw[HL]at h
  simpa using h.1
 |x :: r,o,h,j+1,n,hj=>by
  rw[HL]at h;have:=HL.at h.2 (j:=j) (n:=n) (by simpa using hj);rw[show o+(j+1)*8=o+8+j*8 by omega];exact this
def Mr :∀{l:List bF}{o:Nat},(∀j n,l[j]?=some n->HN W b (o+j*8) n)->HL W b o l
 |[],o,_=>by rw[HL];trivial
 |x :: r,o,h=>by
  rw[HL];refine⟨by simpa using h 0 x rfl,Mr (λj n u=>?_)⟩;have:=h (j+1) n (by simpa using u);rw[show o+8+j*8=o+(j+1)*8 by omega];exact this
mutual
def HN.below (O:Below W.heap.size W W'):∀(n:bF) (b o:Nat),HN W b o n->HN W' b o n
 |.mk k d c,b,o,h=>by
  rw[HN]at h ⊢;obtain⟨⟨M,Z,h2,h3,h4,h5,h6⟩,ao,cap,h7,h8,h9,H,I⟩:=h;have e:W'.heap[b]?=W.heap[b]?:=O.block b (RV _ _ M);have G:∀j u,W.cell? (Tw b j)=some u->W'.cell? (Tw b j)=some u:=λj u hu=>(RX (a:=(Tw b j)) e).trans hu
  exact⟨⟨G _ _ M,G _ _ Z,G _ _ h2,G _ _ h3,G _ _ h4,G _ _ h5,G _ _ h6⟩,ao,cap,G _ _ h7,h8,h9,H,λa Y=>(I a Y).imp id (fun⟨J,Q,S,hl⟩=>⟨J,Q,S,HL.below O c J Q hl⟩)⟩
def HL.below  (u:Below W.heap.size W W'):∀(l:List bF) (b o:Nat),HL W b o l->HL W' b o l
 |[],b,o,_=>by rw[HL];trivial
 |n :: r,b,o,h=>by
  rw[HL]at h ⊢;exact⟨HN.below u n b o h.1,HL.below u r b (o+8) h.2⟩
end
def Nv (W:World) (v:Value) (n:bF):Prop:=∃ao cap,v=.agg #[.int .u8 n.k,.int .u8 n.d.k,.string n.d.t,Tu n.d.a,Tu n.d.l,Tu n.d.c,Tu n.d.f,.slice ao n.c.length cap]/\n.c.length<=cap/\cap<=maxLen/\(ao=none->n.c=[])/\(∀a,ao=some a->n.c=[]\/∃b o,a=⟨b,o,none⟩/\HL W b o n.c)
mutual
def Ks:bF->Nat
 |.mk k d c=>Kr c+1
def Kr:List bF->Nat
 |[]=>0
 |n :: r=>Ks n+Kr r
end
def Aw {n m:bF}(h:m∈n.c):Ks m<Ks n:=by
 obtain⟨k,d,c⟩:=n
 have u:∀(c:List bF),m∈c->Ks m<=Kr c:=by
  intro c
  induction c with
  |nil=>intro h;cases h
  |cons x r ih=>
   intro h;simp only[Kr]
   rcases Sm.1 h with rfl|h
   ·omega
   ·have:=ih h;omega
 have:=u c h;simp only[Ks];omega
open Go.RowKit
def aL (W:World) (o:Obj):Below W.heap.size W (W.alloc o):=(gt _ _).alloc (ge _) _
def dh {v:World}(h:Below b w v):∀m,Below b w (v.drewN m)
 |0=>h
 |m+1=>(dh h m).drew
def Gu {o:Nat}{n:bF}(h:HN W b o n):b<W.heap.size/\∃ao cap,(W.cell? (Tw b o)=some (.int .u8 n.k)/\W.cell? ⟨b,o+1,none⟩=some (.int .u8 n.d.k)/\W.cell? ⟨b,o+2,none⟩=some (.string n.d.t)/\W.cell? ⟨b,o+3,none⟩=some (Tu n.d.a)/\W.cell? ⟨b,o+4,none⟩=some (Tu n.d.l)/\W.cell? ⟨b,o+5,none⟩=some (Tu n.d.c)/\W.cell? ⟨b,o+6,none⟩=some (Tu n.d.f)/\W.cell? ⟨b,o+7,none⟩=some (.slice ao n.c.length cap))/\n.c.length<=cap/\cap<=maxLen/\(ao=none->n.c=[])/\(∀a,ao=some a->n.c=[]\/∃u G,a=(Tw u G)/\HL W u G n.c):=by
 obtain⟨k,d,c⟩:=n;rw[HN]at h;obtain⟨⟨h0,h1,h2,h3,h4,h5,h6⟩,ao,cap,h7,h8,h9,h10,h11⟩:=h;exact⟨RV _ _ h0,ao,cap,⟨h0,h1,h2,h3,h4,h5,h6,h7⟩,h8,h9,h10,h11⟩
def Kp.low {S:Nat->Prop}{B:Nat}(h:Below B w W) (u:Kp S W W') (H:∀k,S k->B<=k) (J:B<=W.heap.size):Below B w W':=
 ⟨u.os.trans h.os,u.tape.trans h.tape,u.output.trans h.output,PI h.size u.size,λk G=>(u.block k (by omega) (λI=>by have:=H k I;omega)).trans (h.block k G)⟩
structure BI (W:World) (v:Value) (E:List Ev) (V:World):Prop where
 bel:Below W.heap.size W V
 re:Re V v E
 vB:∀k,v.ownBlock=some k->W.heap.size<=k
def Do {c:List bF}{m:bF}(h:c[j]?=some m):cQ (c.take (j+1))=cQ (c.take j)++mV m:=by
 rw[T2,h,kO];simp[cQ]
def A0 {c:List bF}{j:Nat}:(cQ (c.take j)).length<=(cQ c).length:=by
 have:cQ c=cQ (c.take j)++cQ (c.drop j):=by rw[<-kO,Tm]
 rw[this,IO];omega
abbrev bj (k:Int) (d:Tv) (s:Value):Obj:=.cells #[.int .u8 k,.int .u8 d.k,.string d.t,Tu d.a,Tu d.l,Tu d.c,Tu d.f,s] 52
def Nv.kid {c:List bF}(h:(ao=none->c=[])/\∀a,ao=some a->c=[]\/∃b o,a=(Tw b o)/\HL W b o c) {V:World}(J:Se W V) {j:Nat}{m:bF}(I:c[j]?=some m) :
  ∃b o,ao=some (Tw b o)/\b<V.heap.size/\∃G u,(V.cell? ⟨b,o+j*8,none⟩=some (.int .u8 m.k)/\V.cell? ⟨b,o+j*8+1,none⟩=some (.int .u8 m.d.k)/\V.cell? ⟨b,o+j*8+2,none⟩=some (.string m.d.t)/\V.cell? ⟨b,o+j*8+3,none⟩=some (Tu m.d.a)/\V.cell? ⟨b,o+j*8+4,none⟩=some (Tu m.d.l)/\V.cell? ⟨b,o+j*8+5,none⟩=some (Tu m.d.c)/\V.cell? ⟨b,o+j*8+6,none⟩=some (Tu m.d.f)/\V.cell? ⟨b,o+j*8+7,none⟩=some (.slice G m.c.length u)) /\
   Nv V (.agg #[.int .u8 m.k,.int .u8 m.d.k,.string m.d.t,Tu m.d.a,Tu m.d.l,Tu m.d.c,Tu m.d.f,.slice G m.c.length u]) m:=by
 have H:=(RY.1 I).1;cases ao with
 |none=>have:=h.1 rfl;subst this;simp at H
 |some a=>
  obtain⟨b,o,rfl,hl⟩:=(h.2 a rfl).resolve_left (λe=>by subst e;simp at H);obtain⟨hbl,G,u,hc,p1,p2,p3,p4⟩:=Gu (HL.at (HL.below J c b o hl) I);exact⟨b,o,rfl,hbl,G,u,hc,G,u,rfl,p1,p2,p3,p4⟩
abbrev dm (k:Int) (d:Tv) (s:Value):Value:=.agg #[.int .u8 k,.int .u8 d.k,.string d.t,Tu d.a,Tu d.l,Tu d.c,Tu d.f,s]
def jm (k:Int) (d:Tv) (ao:Option Addr) (n cap:Nat) (W:World):Sa 78 #[dm k d (.slice ao n cap)] W λr w'=>Uk r (.bool (k==0))/\Se W w':=by
 go_enter func78,ntmps78;(go_wp2_with fail)
 go_ret;exact⟨rfl,aL _ _⟩
def un (t:Tv):Int:=if cm t then 4 else 2
def pe (t:Tv) (W:World):Sa 79 #[t.v] W λr w'=>Uk r (.int .u8 (un t))/\Se W w':=by
 unfold un cm;dsimp only[Tv.v];obtain⟨u,G⟩:∃b,(t.k==7)=b:=⟨_,rfl⟩;obtain⟨b8,e8⟩:∃b,(t.k==8)=b:=⟨_,rfl⟩;rw[G,e8];cases u
 ·cases b8
  ·go_enter func79,ntmps79;(go_wp2_with fail)
   go_ret;exact⟨rfl,aL _ _⟩
  ·go_enter func79,ntmps79;(go_wp2_with fail)
   go_ret;exact⟨rfl,aL _ _⟩
 ·go_enter func79,ntmps79;(go_wp2_with fail)
  go_ret;exact⟨rfl,aL _ _⟩
def Jn (d:Tv):LZ d=⟨un d,0,d⟩:=by
 unfold LZ un
 split<;>rfl
def QV {c:List bF}(h:(ao=none->c=[])/\∀a,ao=some a->c=[]\/∃b o,a=(Tw b o)/\HL w0 b o c) {V:World}(M:Se w0 V) {j:Nat}{m:bF}(O:c[j]?=some m) :
  ∃b o,ao=some (Tw b o)/\b<V.heap.size/\∃H G,(V.cell? ⟨b,o+j*8,none⟩=some (.int .u8 m.k)/\V.cell? ⟨b,o+j*8+1,none⟩=some (.int .u8 m.d.k)/\V.cell? ⟨b,o+j*8+2,none⟩=some (.string m.d.t)/\V.cell? ⟨b,o+j*8+3,none⟩=some (Tu m.d.a)/\V.cell? ⟨b,o+j*8+4,none⟩=some (Tu m.d.l)/\V.cell? ⟨b,o+j*8+5,none⟩=some (Tu m.d.c)/\V.cell? ⟨b,o+j*8+6,none⟩=some (Tu m.d.f)/\V.cell? ⟨b,o+j*8+7,none⟩=some (.slice H m.c.length G)) /\
   Nv w0 (.agg #[.int .u8 m.k,.int .u8 m.d.k,.string m.d.t,Tu m.d.a,Tu m.d.l,Tu m.d.c,Tu m.d.f,.slice H m.c.length G]) m:=by
 obtain⟨b,o,e,J,H,G,⟨Y,Z,y2,y3,y4,y5,y6,y7⟩,S⟩:=Nv.kid h (gt _ _) O;have I:∀i u,w0.cell? (Tw b i)=some u->V.cell? (Tw b i)=some u:=λi u Q=>(RX (a:=(Tw b i)) (M.block b J)).trans Q
 exact⟨b,o,e,R4 J M.size,H,G,⟨I _ _ Y,I _ _ Z,I _ _ y2,I _ _ y3,I _ _ y4,I _ _ y5,I _ _ y6,I _ _ y7⟩,S⟩
def fL (W:World) (o:Obj):(W.alloc o).heap.size=W.heap.size+1:=RT _ _
def JD {O:Array Oper}{o:Oper}{a:Act}{K:Act->World->Prop}{Q:Exit->Act->World->Prop}{E:Prop}(H:o.guard=none) (s x:Operand)
  (ho:o.op=.call { callee:=.builtin .append,args:=#[s,x],argTypes:=#[100,100] }) (v:Value) (l:List Ev) (d:Ev) (hs:a.eval s=v) (hr:Re W v l)
  (g c:Nat) (hx:a.eval x=.slice (some (Tw g 0)) 1 c) (hg:W.heap[g]?=some (.cells #[.int .u8 d.k,.int .u8 d.n,.int .u8 d.d.k,.string d.d.t,Tu d.d.a,Tu d.d.l,Tu d.d.c,Tu d.d.f] 104 (0,0))) (hl:l.length<=1000000000)
  (h:∀q cap w',Re w' (.slice (some (Tw q 0)) (l.length+1) cap) (l++[d])->W.grownBy w' v.ownBlock->Nb W v (.slice (some (Tw q 0)) (l.length+1) cap)->K (a.put o.dst (.slice (some (Tw q 0)) (l.length+1) cap)) w') :
  if Region.wanted o (yielded O a.tmps)=true then Oper.wp Tryz.prog o a W K Q else E:=by
 obtain⟨i0,hi,I,J,M⟩:=Tf Tryz.info104;refine Uw W H s x 100 ho 0 104 i0 _ 8 64 underlying100 hi I J M rfl (by decide) v _ _ hs hr (Tw g 0) 1 c (xC [d]) hx (by rw[tE];rfl) ?_ (tD [d]) (by omega) (by unfold maxLen;omega) (by omega) (RU _) _ rfl ?_
 ·intro j u S;refine Ta hg j u ?_;have e:xC [d]=[.int .u8 d.k,.int .u8 d.n,.int .u8 d.d.k,.string d.d.t,Tu d.d.a,Tu d.d.l,Tu d.d.c,Tu d.d.f]:=by simp[xC,ap,Ev.cs]
  rw[e]at S
  simpa using S
 ·intro q cap w' Y Z G _;refine h q cap w' ?_ Z ?_
  ·unfold Re;rw[IO,tF];exact Y
  ·rcases G with G|G
   ·exact .inl G.symm
   ·exact .inr ⟨q,rfl,by omega⟩
def RF (T:TypeId) (W:World) (k:Nat):Prop:=∃cs f,W.heap[k]?=some (.cells cs T f)
def KT (T:TypeId) (g:Nat) (W w':World):Prop:=Kp (λk=>k=g\/RF T W k) W w'
def KT.trans {T:TypeId}{a b c:World}(h:KT T g a b) (k:KT T g b c):KT T g a c:=by
 refine⟨k.os.trans h.os,k.tape.trans h.tape,k.output.trans h.output,PI h.size k.size,λj G u=>?_⟩;have e:=h.block j G u;refine(k.block j (R4 G h.size) (λht=>u ?_)).trans e
 rcases ht with ht|⟨cs,f,ht⟩
 ·exact .inl ht
 ·exact .inr ⟨cs,f,by rw[<-e];exact ht⟩
def KT.of_below {T:TypeId}{g:Nat}{a b:World}(h:Below a.heap.size a b):KT T g a b:=Kp.of_below h
def KT.blk {T:TypeId}{g:Nat}{a b:World}(h:KT T g a b) {k:Nat}{cs:Array Value}{U:TypeId}{f:Nat × Nat}(u:a.heap[k]?=some (.cells cs U f)) (H:k≠g) (G:U≠T):b.heap[k]?=some (.cells cs U f):=by
 refine Kp.blk h u ?_;rintro(e|⟨I,J,e⟩)
 ·exact H e
 ·rw[u]at e;injection e with e
  injection e with _ e
  exact G e
def O8 (h:Re W v E):∀k,v.ownBlock=some k->RF 104 W k:=by
 intro k u
 rcases h.2 with⟨rfl,_⟩|⟨b,cap,H,rfl,_,G,_⟩
 ·cases u
 ·simp only[Value.ownBlock,St]at u;subst u;exact⟨_,_,G⟩
abbrev zC (g p:Nat):Value:=.func (.func 77) #[] #[.pointer (some ⟨g,0,none⟩),.pointer (some ⟨p,0,none⟩)]
structure EI (w0:World) (g p:Nat) (v:Value) (E:List Ev) (V:World):Prop where
 bel:Below w0.heap.size w0 V
 hg:V.heap[g]?=some (.cells #[v] 100 (0,0))
 hp:V.heap[p]?=some (.cells #[zC g p] 169 (0,0))
 re:Re V v E
 vB:∀k,v.ownBlock=some k->w0.heap.size<=k
 g0:w0.heap.size<=g
 p0:w0.heap.size<=p
def EI.ne (h:EI w0 g p v E V):g≠p:=by
 rintro rfl;have:=h.hg;rw[h.hp]at this;injection this with e
 injection e with _ e
 exact absurd e (by decide)
def EI.below {V':World}(h:EI w0 g p v E V) (u:Below V.heap.size V V'):EI w0 g p v E V':=
 ⟨h.bel.trans (u.mono h.bel.size),af h.hg u,af h.hp u,h.re.below u,h.vB,h.g0,h.p0⟩
def EI.push {v':Value}{Y:List Ev}{M G:World}(h:EI w0 g p v E V) (Z:Below V.heap.size V M) (hr:Re G v' (E++Y)) (hg:M.grownBy G v.ownBlock) (I:Nb M v v') :
  (G.cell? (Tw g 0)=some v/\G.frozen? (Tw g 0)=false/\g<G.heap.size)/\EI w0 g p v' (E++Y) (G.setCell ⟨g,0,none⟩ v')/\KT 104 g V (G.setCell ⟨g,0,none⟩ v'):=by
 have u:=h.below Z;have J:=Kp.of_grown hg;have O:¬some g=v.ownBlock:=λe=>u.re.ne u.hg (by decide) g e.symm rfl
 have Q:¬some p=v.ownBlock:=λe=>u.re.ne u.hp (by decide) p e.symm rfl
 have H:=J.blk u.hg O;have p3:=J.blk u.hp Q;have S:Below w0.heap.size w0 G:=Kp.low u.bel J (λk e=>u.vB k e.symm) u.bel.size;refine⟨⟨aa H rfl,aj H,ai H⟩,⟨Kp.low S (Kp.set _ _ _ _) (λk e=>by subst e;exact h.g0) S.size,ag H 0 _,az p3 (T5 h.ne) _,hr.kp (Kp.set _ _ _ _) (hr.ne H (by decide)),?_,h.g0,h.p0⟩,?_⟩
 ·intro k e
  rcases I with I|⟨q,e1,I⟩
  ·exact h.vB k (by rw[<-I];exact e)
  ·rw[e1]at e;simp at e;have:=u.bel.size;omega
 ·refine((Kp.of_below Z).step J (λk hk e=>.inr ?_)).step (Kp.set _ _ _ _) (λk _ e=>.inl e);exact O8 h.re k e.symm
def BH (w0:World) (n:bF):Prop:=∀vn,Nv w0 vn n->∀W g p v E,EI w0 g p v E W->E.length+(mV n).length<=1000000000->Sa 77 #[vn,.pointer (some ⟨g,0,none⟩),.pointer (some ⟨p,0,none⟩)] W λr w'=>Uk r (.tuple #[])/\∃v',EI w0 g p v' (E++mV n) w'/\KT 104 g W w'
def Eh (w0:World) (d:Tv) (ao:Option Addr) (Y cap:Nat) (W:World) (g p:Nat) (v:Value) (E:List Ev) (hI:EI w0 g p v E W) (ag:E.length+1<=1000000000):Sa 77 #[dm 0 d (.slice ao Y cap),.pointer (some (Tw g 0)),.pointer (some (Tw p 0))] W λr w'=>Uk r (.tuple #[])/\∃v',EI w0 g p v' (E++[LZ d]) w'/\KT 104 g W w':=by
 have HI:=aW hI;obtain⟨Q,O,hv,_⟩:=hI.re.shape;subst hv;have ae:Hid (∀V,Sa 78 #[dm 0 d (.slice ao Y cap)] V λr w'=>Uk r (.bool true)/\Se V w'):=λV=>jm 0 d ao Y cap V
 have ab:Hid (∀V,Sa 79 #[.agg #[.int .u8 d.k,.string d.t,Tu d.a,Tu d.l,Tu d.c,Tu d.f]] V λr w'=>Uk r (.int .u8 (un d))/\Se V w'):=λV=>pe d V
 have ad:E.length<=1000000000:=by omega
 obtain⟨W1,eW⟩:∃W1,W1=W.alloc (bj 0 d (.slice ao Y cap)):=⟨_,rfl⟩;have G:Hid (Se W W1/\W1.heap[W.heap.size]?=some (bj 0 d (.slice ao Y cap))):=by rw[eW];exact⟨aL _ _,ak _ _⟩
 clear hI;rw[Jn];obtain⟨kd,ac⟩:=ea (un d);rw[ac]at ab ⊢;clear ac;go_enter func77,ntmps77;(go_wp2_with fail)
 try rw[<-eW]
 clear eW;refine(ae.out _).mono ?_;rintro r w2⟨rfl,J⟩;have H2:Hid (EI w0 g p (.slice Q E.length O) E w2/\Se W w2):=⟨HI.out.below (G.out.1.trans (J.mono G.out.1.size)),G.out.1.trans (J.mono G.out.1.size)⟩;have t0:w2.heap[W.heap.size]?=some (bj 0 d (.slice ao Y cap)):=af G.out.2 J
 have HC:Hid (∀V,Se w2 V->V.cell? ⟨W.heap.size,1,none⟩=some (.int .u8 d.k)/\V.cell? ⟨W.heap.size,2,none⟩=some (.string d.t)/\V.cell? ⟨W.heap.size,3,none⟩=some (Tu d.a)/\V.cell? ⟨W.heap.size,4,none⟩=some (Tu d.l)/\V.cell? ⟨W.heap.size,5,none⟩=some (Tu d.c)/\V.cell? ⟨W.heap.size,6,none⟩=some (Tu d.f)/\V.cell? (Tw g 0)=some (.slice Q E.length O)/\W.heap.size<V.heap.size/\g<V.heap.size):=λV S=>by
  have t:=af t0 S;have u:=af H2.out.1.hg S;exact⟨aa t rfl,aa t rfl,aa t rfl,aa t rfl,aa t rfl,aa t rfl,aa u rfl,ai t,ai u⟩
 have HP:Hid (∀I q M H,Se w2 I->Re H (.slice (some (Tw q 0)) (E.length+1) M) (E++[⟨kd,0,d⟩])->I.grownBy H (Value.slice Q E.length O).ownBlock->Nb I (.slice Q E.length O) (.slice (some (Tw q 0)) (E.length+1) M)->(H.cell? (Tw g 0)=some (.slice Q E.length O)/\H.frozen? (Tw g 0)=false/\g<H.heap.size)/\EI w0 g p (.slice (some (Tw q 0)) (E.length+1) M) (E++[⟨kd,0,d⟩]) (H.setCell ⟨g,0,none⟩ (.slice (some (Tw q 0)) (E.length+1) M))/\KT 104 g W (H.setCell ⟨g,0,none⟩ (.slice (some (Tw q 0)) (E.length+1) M))):=λI q M H S h1 h2 h3=>by
  obtain⟨a1,a2,a3⟩:=H2.out.1.push S h1 h2 h3;exact⟨a1,a2,(KT.of_below H2.out.2).trans a3⟩
 have HR:=aW λV (S:Se w2 V)=>H2.out.1.re.below S
 clear J t0;obtain⟨c1,c2,c3,c4,c5,c6,c7,c8,c9⟩:=HC.out w2 (gt _ _);(go_wp2_with fail)
 go_region_law (first|(refine JD (by rfl) _ _ (by rfl) (.slice Q E.length O) E ⟨kd,0,d⟩ (by rfl) (HR.out _ (Z.out.trans ((aL _ _).mono Z.out.size))) I.heap.size 1 (by rfl) (ak I _) ad ?_;intro q M H h1 h2 h3;obtain⟨⟨x1,x2,x3⟩,x4⟩:=HP.out _ q M H (Z.out.trans ((aL _ _).mono Z.out.size)) h1 h2 h3;have HX:=aW x4;clear x4 h1 h2 h3)|(go_simp;go_at_call 79;refine(ab.out _).mono ?_;rintro r I⟨rfl,hb4⟩;have Z:=aW ((gt _ _).drew.trans (hb4.mono (ge _)));obtain⟨d1,d2,d3,d4,d5,d6,d7,d8,d9⟩:=HC.out I Z.out;clear hb4))
 all_goals(
  go_wp2_with fail
  first|go_end0|(refine R0 (Vo rfl _ _ _) rfl ?_)
  exact⟨rfl,_,HX.out⟩)
def BU (w0:World) (n:bF) (IH:∀m,m∈n.c->BH w0 m):BH w0 n:=by
 intro vn h W g p v E hI I;obtain⟨ao,cap,rfl,q1,q2,q3,q4⟩:=h;have HI:=aW hI;obtain⟨k,d,c⟩:=n;dsimp only[bF.k,bF.d,bF.c]at *
 by_cases hk:k=0
 ·subst hk;have e:mV (.mk 0 d c)=[LZ d]:=by simp[mV]
  rw[e]at I ⊢;exact Eh w0 d ao c.length cap W g p v E hI (by simpa using I)
 ·have e:mV (.mk k d c)=⟨1,k,av⟩ :: (cQ c++[⟨3,k,av⟩]):=by simp[mV,hk]
  have an:(k==0)=false:=by simpa using hk
  obtain⟨pv,cv,hv,_⟩:=hI.re.shape;subst hv;have am:Hid (∀V,Sa 78 #[dm k d (.slice ao c.length cap)] V λr w'=>Uk r (.bool false)/\Se V w'):=λV=>by have:=jm k d ao c.length cap V;rw[an]at this;exact this
  have ax:E.length+(cQ c).length+2<=1000000000:=by rw[e]at I;simp at I;omega
  have aj:=aW ((by rw[e];simp:E++mV (.mk k d c)=(E++[⟨1,k,av⟩]++cQ c)++[⟨3,k,av⟩]));have al:=aW IH;have HQ:Hid ((ao=none->c=[])/\∀a,ao=some a->c=[]\/∃b o,a=(Tw b o)/\HL w0 b o c):=⟨q3,q4⟩;have aw:(c.length:Int)<=9223372036854775807:=by have:maxLen=9223372036854775807:=rfl;omega
  have ae:W.heap.size≠g:=λe=>by have:=ai HI.out.hg;omega
  obtain⟨W1,eW⟩:∃W1,W1=W.alloc (bj k d (.slice ao c.length cap)):=⟨_,rfl⟩;have G:Hid (Se W W1/\W1.heap[W.heap.size]?=some (bj k d (.slice ao c.length cap))):=by rw[eW];exact⟨aL _ _,ak _ _⟩
  clear hI I q3 q4 IH e;go_enter func77,ntmps77;(go_wp2_with fail)
  try rw[<-eW]
  clear eW;refine(am.out _).mono ?_;rintro r w2⟨rfl,O⟩;have Y:Hid (EI w0 g p (.slice pv E.length cv) E w2/\KT 104 g W w2):=⟨HI.out.below (G.out.1.trans (O.mono G.out.1.size)),KT.of_below (G.out.1.trans (O.mono G.out.1.size))⟩;have H:=aW (af G.out.2 O);have y0:w2.cell? ⟨W.heap.size,0,none⟩=some (.int .u8 k):=aa H.out rfl;have yg:w2.cell? (Tw g 0)=some (.slice pv E.length cv):=aa Y.out.1.hg rfl;have au:=ai Y.out.1.hg;have yl:=ai H.out;have ap:E.length<=1000000000:=by omega
  clear O G
  go_wp2_with(at_builtin;refine Iy (by rfl) _ _ (by rfl) (.slice pv E.length cv) E ⟨1,k,av⟩ (by rfl) (Y.out.1.re.below (aL _ _)) w2.heap.size 1 (by rfl) (ak _ _) ap ?_;intro v' w3 Q Z h3;obtain⟨p3,c3,ar,_⟩:=Q.shape;subst ar;obtain⟨⟨x1,x2,x3⟩,x4,x5⟩:=Y.out.1.push (aL _ _) Q Z h3;have H3:Hid (EI w0 g p (.slice p3 (E++[(⟨1,k,av⟩:Ev)]).length c3) (E++[⟨1,k,av⟩]) (w3.setCell ⟨g,0,none⟩ (.slice p3 (E++[(⟨1,k,av⟩:Ev)]).length c3))/\KT 104 g W (w3.setCell ⟨g,0,none⟩ (.slice p3 (E++[(⟨1,k,av⟩:Ev)]).length c3))/\(w3.setCell ⟨g,0,none⟩ (.slice p3 (E++[(⟨1,k,av⟩:Ev)]).length c3)).heap[W.heap.size]?=some (bj k d (.slice ao c.length cap))):=⟨x4,Y.out.2.trans x5,x5.blk H.out ae (by decide)⟩;have x6:w3.cell? ⟨W.heap.size,7,none⟩=some (.slice ao c.length cap):=aa ((Kp.of_grown Z).blk (af H.out (aL _ _)) (λe=>Y.out.1.re.ne H.out (by decide) _ e.symm rfl)) rfl;have x7:W.heap.size<w3.heap.size:=RV _ _ x6;clear x4 x5 Q Z h3)
  obtain⟨w4,e4⟩:=ea (w3.setCell ⟨g,0,none⟩ (.slice p3 (E.length+1) c3))
  have H4:Hid (EI w0 g p (.slice p3 (E++[(⟨1,k,av⟩:Ev)]).length c3) (E++[⟨1,k,av⟩]) w4/\KT 104 g W w4/\w4.heap[W.heap.size]?=some (bj k d (.slice ao c.length cap))):=by
   have:=H3.out;rw[show(E++[(⟨1,k,av⟩:Ev)]).length=E.length+1 by simp]at this ⊢;rw[e4]at this;exact this
  rw[e4];clear e4 H3 x1 x2 x3 x6 x7 y0 yg au yl
  go_loopw [26] (λiv wr=>∃j:Nat,j<=c.length/\iv=Tu j/\Hid (∃v',EI w0 g p v' (E++[⟨1,k,av⟩]++cQ (c.take j)) wr/\KT 104 g W wr/\wr.heap[W.heap.size]?=some (bj k d (.slice ao c.length cap)))) (λiv _=>c.length-(intOf iv).toNat)
  case atStart=>exact⟨0,RU _,rfl,_,by simpa[cQ]using H4.out⟩
  case round=>
   obtain⟨j,hj,rfl,ab⟩:=hrel;obtain⟨vj,hJ⟩:=ab.out;have u:=aW hJ;clear ab hJ;have aq:=A0 (c:=c) (j:=j)
   by_cases ac:j<c.length
   ·have z1:(j:Int)<c.length:=by omega
    have z2:(0:Int)<=j:=by omega
    obtain⟨m,hm⟩:∃m,c[j]?=some m:=⟨_,Pi ac⟩;have ad:m∈c:=SF hm;obtain⟨b,o,rfl,hbl,ao2,cap2,⟨v0,v1,v2,v3,v4,v5,v6,v7⟩,hv⟩:=QV HQ.out u.out.1.bel hm;have yp:wr.cell? (Tw p 0)=some (zC g p):=aa u.out.1.hp rfl;have az:p<wr.heap.size:=ai u.out.1.hp;have ht:=Do hm;have M:=A0 (c:=c) (j:=j+1);rw[ht]at M
    have HC:Hid (∀V,EI w0 g p vj (E++[⟨1,k,av⟩]++cQ (c.take j)) V->Sa 77 #[dm m.k m.d (.slice ao2 m.c.length cap2),.pointer (some (Tw g 0)),.pointer (some (Tw p 0))] V λr w'=>Uk r (.tuple #[])/\∃v',EI w0 g p v' (E++[⟨1,k,av⟩]++cQ (c.take (j+1))) w'/\KT 104 g V w'):=λV hV=>by
     have:=al.out m ad _ hv V g p _ _ hV (by simp at M ⊢;omega);rw[ht,<-RW];exact this
    clear hm ad hv ht M;obtain⟨W5,S⟩:∃W5,W5=wr.alloc (bj m.k m.d (.slice ao2 m.c.length cap2)):=⟨_,rfl⟩;have H5:Hid (Se wr W5):=by rw[S];exact aL _ _
    go_wp2_with fail
    try rw[<-S]
    refine(HC.out _ (u.out.1.below H5.out)).mono ?_;rintro r w6⟨rfl,v',h6,k6⟩;have H6:Hid (∃v',EI w0 g p v' (E++[⟨1,k,av⟩]++cQ (c.take (j+1))) w6/\KT 104 g W w6/\w6.heap[W.heap.size]?=some (bj k d (.slice (some (Tw b o)) c.length cap))):=⟨v',h6,u.out.2.1.trans ((KT.of_below H5.out).trans k6),k6.blk (af u.out.2.2 H5.out) ae (by decide)⟩;clear h6 k6 S;(go_wp2_with fail);exact⟨⟨j+1,ac,by go_num,H6⟩,by simp[intOf];omega⟩
   ·obtain rfl:j=c.length:=by omega
    have z1:¬((c.length:Int)<c.length):=by omega
    rw[Te]at u aq;have HZ:=aW ((by simp;omega:(E++[(⟨1,k,av⟩:Ev)]++cQ c).length<=1000000000));obtain⟨pl,cl,ah,_⟩:=u.out.1.re.shape;obtain⟨nl,hnl⟩:=ea ((E++[(⟨1,k,av⟩:Ev)]++cQ c).length);rw[hnl]at ah;subst ah;have u0:wr.cell? ⟨W.heap.size,0,none⟩=some (.int .u8 k):=aa u.out.2.2 rfl;have ug:wr.cell? (Tw g 0)=some (.slice pl nl cl):=aa u.out.1.hg rfl;have ul:=ai u.out.2.2;have ay:=ai u.out.1.hg;clear hnl
    go_wp2_with(at_builtin;refine Iy (by rfl) _ _ (by rfl) (.slice pl nl cl) (E++[⟨1,k,av⟩]++cQ c) ⟨3,k,av⟩ (by rfl) (u.out.1.re.below (aL _ _)) wr.heap.size 1 (by rfl) (ak _ _) HZ.out ?_;intro v' w5 Q Z h3;obtain⟨p5,c5,ag,_⟩:=Q.shape;obtain⟨J,hnl5⟩:=ea (((E++[(⟨1,k,av⟩:Ev)]++cQ c)++[(⟨3,k,av⟩:Ev)]).length);rw[hnl5]at ag;subst ag;obtain⟨⟨x1,x2,x3⟩,x4,x5⟩:=u.out.1.push (aL _ _) Q Z h3;have HX:Hid (EI w0 g p (.slice p5 J c5) (E++mV (.mk k d c)) (w5.setCell ⟨g,0,none⟩ (.slice p5 J c5))/\KT 104 g W (w5.setCell ⟨g,0,none⟩ (.slice p5 J c5))):=⟨by rw[aj.out];exact x4,u.out.2.1.trans x5⟩;clear x4 x5 Q Z h3 hnl5)
    go_end0;exact⟨rfl,⟨_,HX.out.1⟩,HX.out.2⟩
def cI (w0:World) (n:bF):BH w0 n:=by
 obtain⟨s,G⟩:=ea (Ks n)
 induction s using Nat.strongRecOn generalizing n with
 |ind s ih=>exact BU w0 n (λm u=>ih (Ks m) (by rw[<-G];exact Aw u) m rfl)
def G1 (W:World) (o:Obj):EI W (W.heap.size+1) (W.heap.size+1+1) (.slice none 0 0) [] (((W.alloc o).alloc (.cells #[.slice none 0 0] 100)).alloc (.cells #[zC (W.heap.size+1) (W.heap.size+1+1)] 169)):=by
 have G:=fL W o;have J:=fL (W.alloc o) (.cells #[.slice none 0 0] 100);have u:=aL W o;have H:=aL (W.alloc o) (.cells #[.slice none 0 0] 100);have I:=aL ((W.alloc o).alloc (.cells #[.slice none 0 0] 100)) (.cells #[zC (W.heap.size+1) (W.heap.size+1+1)] 169);refine⟨(u.trans (H.mono u.size)).trans (I.mono (by omega)),?_,?_,yc _,(λk e=>by cases e),by omega,by omega⟩
 ·refine aI ?_ _;rw[<-G];exact ak _ _
 ·rw[<-G,<-J];exact ak _ _
def yM (n:bF) (vn:Value) (W:World) (h:Nv W vn n) (hl:(mV n).length<=1000000000):Sa 34 #[vn] W λr w'=>∃v',Uk r v'/\BI W v' (mV n) w':=by
 have J:=mkfn
 have HL:Hid (∀V,EI W (W.heap.size+1) (W.heap.size+1+1) (.slice none 0 0) [] V->Sa 77 #[vn,.pointer (some ⟨W.heap.size+1,0,none⟩),.pointer (some ⟨W.heap.size+1+1,0,none⟩)] V λr w'=>Uk r (.tuple #[])/\∃v',EI W (W.heap.size+1) (W.heap.size+1+1) v' (mV n) w'):=λV I=>by
  refine(cI W n vn h V _ _ _ _ I (by simpa using hl)).mono ?_;rintro r w'⟨rfl,v',u,_⟩;exact⟨rfl,v',by simpa using u⟩
 obtain⟨ao,cap,rfl,_⟩:=h;go_enter func34,ntmps34;(go_wp2_with fail);refine(HL.out _ (G1 W _)).mono ?_;rintro r G⟨rfl,v',u⟩;obtain⟨pv,cv,hv,_⟩:=u.re.shape;obtain⟨nl,hnl⟩:=ea ((mV n).length);rw[hnl]at hv;subst hv;have O:G.cell? ⟨W.heap.size+1,0,none⟩=some (.slice pv nl cv):=aa u.hg rfl;have M:W.heap.size+1<G.heap.size:=ai u.hg;have H:Hid (BI W (.slice pv nl cv) (mV n) G):=⟨u.bel,u.re,u.vB⟩;clear u HL hnl;(go_wp2_with fail);go_ret;exact⟨_,rfl,H.out⟩
def nc (n:bF) (s:Value):List Value:=[.int .u8 n.k,.int .u8 n.d.k,.string n.d.t,Tu n.d.a,Tu n.d.l,Tu n.d.c,Tu n.d.f,s]
def NG (x:bF × Value):(nc x.1 x.2).length=8:=rfl
def F3 (c:List bF) (vs:List Value):List Value:=ap (λx:bF × Value=>nc x.1 x.2) (c.zip vs)
def F2 (c:List bF) (vs:List Value) (h:vs.length=c.length) (n:bF) (s:Value):F3 (c++[n]) (vs++[s])=F3 c vs++nc n s:=by
 unfold F3;rw[List.zip_append h.symm,aT];simp[ap]
def NF {c:List bF}{i:Nat}{n:bF}{s u:Value}(G:c[j]?=some n) (H:vs[j]?=some s) (I:(nc n s)[i]?=some u):(F3 c vs)[j*8+i]?=some u:=by
 refine aP _ 8 NG _ j i (n,s) u ?_ I;rw[List.getElem?_zip_eq_some];exact⟨G,H⟩
def RN (W:World) (sv:Value) (c:List bF) (vs:List Value):Prop:=vs.length=c.length/\W.ownsRow 0 52 8 sv c.length (F3 c vs)
def RN.shape {c:List bF}(h:RN W sv c vs):∃p cap,sv=.slice p c.length cap/\c.length<=cap/\cap<=maxLen:=aG h.2
def RN.kp {S:Nat->Prop}{W W':World}{sv:Value}{c:List bF}{vs:List Value}(h:RN W sv c vs) (G:Kp S W W') (u:∀k,sv.ownBlock=some k->¬S k):RN W' sv c vs:=⟨h.1,G.row h.2 u⟩
def RN.lt {c:List bF}(h:RN W sv c vs):∀k,sv.ownBlock=some k->k<W.heap.size:=by
 intro k u
 rcases h.2.2 with⟨rfl,_⟩|⟨b,cap,H,rfl,_,G,_⟩
 ·cases u
 ·simp only[Value.ownBlock,St]at u;subst u;exact ai G
def Fa (W:World):RN W (.slice none 0 0) [] []:=⟨rfl,SU W 0 52 8⟩
mutual
def TN (O:Nat->Prop) (W:World):bF->Value->Prop
 |.mk _ _ c,sv=>∃vs,RN W sv c vs/\(∀k,sv.ownBlock=some k->O k)/\TL O W c vs
def TL (O:Nat->Prop) (W:World):List bF->List Value->Prop
 |[],vs=>vs=[]
 |n :: r,vs=>∃x vr,vs=x :: vr/\TN O W n x/\TL O W r vr
end
def lx (O:Nat->Prop) (W:World) (k:Int) (d:Tv):TN O W (.mk k d []) (.slice none 0 0):=by
 rw[TN];exact⟨[],Fa W,(λk u=>by cases u),by rw[TL]⟩
mutual
def TN.kp {O S:Nat->Prop}{W W':World}(H:Kp S W W') (G:∀k,O k->¬S k):∀(n:bF) (x:Value),TN O W n x->TN O W' n x
 |.mk _ _ c,x,h=>by
  rw[TN]at h ⊢;obtain⟨vs,I,u,J⟩:=h;exact⟨vs,I.kp H (λk e=>G k (u k e)),u,TL.kp H G c vs J⟩
def TL.kp {O S:Nat->Prop} {W W':World} (G:Kp S W W') (u:∀k,O k->¬S k):∀(c:List bF) (vs:List Value),TL O W c vs->TL O W' c vs
 |[],vs,h=>by rw[TL]at h ⊢;exact h
 |n :: r,vs,h=>by
  rw[TL]at h ⊢;obtain⟨x,H,I,J,M⟩:=h;exact⟨x,H,I,TN.kp G u n x J,TL.kp G u r H M⟩
end
mutual
def TN.sub {O u:Nat->Prop}{W:World}(H:∀k,k<W.heap.size->O k->u k):∀(n:bF) (x:Value),TN O W n x->TN u W n x
 |.mk _ _ c,x,h=>by
  rw[TN]at h ⊢;obtain⟨vs,G,I,J⟩:=h;exact⟨vs,G,λk e=>H k (G.lt k e) (I k e),TL.sub H c vs J⟩
def TL.sub {O u:Nat->Prop} {W:World} (G:∀k,k<W.heap.size->O k->u k):∀(c:List bF) (vs:List Value),TL O W c vs->TL u W c vs
 |[],vs,h=>by rw[TL]at h ⊢;exact h
 |n :: r,vs,h=>by
  rw[TL]at h ⊢;obtain⟨x,H,I,J,M⟩:=h;exact⟨x,H,I,TN.sub G n x J,TL.sub G r H M⟩
end
def TL.app {O:Nat->Prop}{n:bF}{x:Value}(u:TN O W n x):∀{c:List bF}{vs:List Value},TL O W c vs->TL O W (c++[n]) (vs++[x])
 |[],vs,h=>by
  rw[TL]at h;subst h;rw[SI,SI,TL];exact⟨x,[],rfl,u,by rw[TL]⟩
 |m :: r,vs,h=>by
  rw[TL]at h;obtain⟨y,I,rfl,G,H⟩:=h;rw[R7,R7,TL];exact⟨y,I++[x],rfl,G,TL.app u H⟩
def TL.at {O:Nat->Prop}:∀{c:List bF}{vs:List Value}{j:Nat}{n:bF},TL O W c vs->c[j]?=some n->∃x,vs[j]?=some x/\TN O W n x
 |[],vs,j,n,h,hj=>by simp at hj
 |m :: r,vs,0,n,h,hj=>by
  rw[TL]at h;obtain⟨y,H,rfl,u,G⟩:=h;simp at hj;subst hj;exact⟨y,rfl,u⟩
 |m :: r,vs,j+1,n,h,hj=>by
  rw[TL]at h;obtain⟨y,H,rfl,u,G⟩:=h;obtain⟨x,a,b⟩:=TL.at G (j:=j) (n:=n) (by simpa using hj);exact⟨x,by simpa using a,b⟩
def RN.cell {W:World}{sv:Value}{c:List bF}{vs:List Value}(h:RN W sv c vs) {g n cap:Nat}(J:sv=.slice (some (Tw g 0)) n cap) {j i:Nat}{m:bF}{s u:Value}(G:c[j]?=some m) (H:vs[j]?=some s) (I:(nc m s)[i]?=some u):W.cell? ⟨g,j*8+i,none⟩=some u:=by
 have:=h.2.cells (g:=g) (n:=c.length) (by rw[J];rfl) (j*8+i) u (NF G H I);rw[S8,R3]at this;exact this
def TN.see {O:Nat->Prop}(n:bF):∀(x:Value),TN O W n x->Nv W (dm n.k n.d x) n:=by
 obtain⟨s,hs⟩:=ea (Ks n)
 induction s using Nat.strongRecOn generalizing n with
 |ind s ih=>
  intro x h;obtain⟨k,d,c⟩:=n;rw[TN]at h;obtain⟨vs,h1,_,h3⟩:=h;have hr:=h1.2.2
  rcases hr with⟨G,Q⟩|⟨b,cap,aa,G,_,e3,S,Y,_⟩
  ·have:c=[]:=R6 Q;subst this;subst G;exact⟨none,0,rfl,ge _,RU _,(λ_=>rfl),(λa H=>by cases H)⟩
  ·refine⟨some (Tw b 0),cap,by rw[G];rfl,S,Y,(λh=>by cases h),λa H=>?_⟩;cases H;refine .inr ⟨b,0,rfl,Mr (λj m I=>?_)⟩;obtain⟨y,hy,Z⟩:=TL.at h3 I;obtain⟨ao,cp,q0,q1,q2,q3,q4⟩:=ih (Ks m) (by rw[<-hs];exact Aw (SF I)) m rfl y Z
   have M:y=.slice ao m.c.length cp:=by
    simp only[dm,Value.agg.injEq]at q0;have:=Sh (λa:Array Value=>a[7]?) q0
    simpa using this
   subst M
   have hc:∀i u,(nc m (.slice ao m.c.length cp))[i]?=some u->W.cell? ⟨b,0+j*8+i,none⟩=some u:=λi u hu=>by
    rw[R3];exact h1.cell G I hy hu
   have J:=hc 0 _ rfl;obtain⟨mk',md,mc⟩:=m;rw[HN];exact⟨⟨J,hc 1 _ rfl,hc 2 _ rfl,hc 3 _ rfl,hc 4 _ rfl,hc 5 _ rfl,hc 6 _ rfl⟩,ao,cp,hc 7 _ rfl,q1,q2,q3,q4⟩
def Le (w:World) (ao:Option Addr) (l:List Ev):Prop:=∀j d,l[j]?=some d->∃b off,ao=some ⟨b,off,none⟩ /\
 w.cell? ⟨b,off+j*8,none⟩=some (.int .u8 d.k)/\w.cell? ⟨b,off+j*8+1,none⟩=some (.int .u8 d.n)/\w.cell? ⟨b,off+j*8+2,none⟩=some (.int .u8 d.d.k)/\w.cell? ⟨b,off+j*8+3,none⟩=some (.string d.d.t)/\w.cell? ⟨b,off+j*8+4,none⟩=some (Tu d.d.a)/\w.cell? ⟨b,off+j*8+5,none⟩=some (Tu d.d.l)/\w.cell? ⟨b,off+j*8+6,none⟩=some (Tu d.d.c)/\w.cell? ⟨b,off+j*8+7,none⟩=some (Tu d.d.f)
def Le.row (h:Re w v l):∃ao cap,v=.slice ao l.length cap/\Le w ao l/\(ao=none\/∃g,ao=some (Tw g 0)/\g<w.heap.size)/\l.length<=cap/\cap<=maxLen:=by
 rcases h.2 with⟨rfl,G⟩|⟨g,cap,Q,rfl,Z,J,H,I,S,Y⟩
 ·have:l=[]:=R6 G;subst this;exact⟨none,0,rfl,λj d h=>by simp at h,.inl rfl,RU _,RU _⟩
 ·refine⟨some (Tw g 0),cap,rfl,?_,.inr ⟨g,rfl,ai J⟩,H,I⟩;intro j d M
  have hc:∀(i:Nat) (u:Value),d.cs[i]?=some u->w.cell? ⟨g,0+j*8+i,none⟩=some u:=λi u O=>by
   have:=Ut h (g:=g) rfl _ u (aP Ev.cs 8 Ev.cs_len l j i d _ M O);rw[S8,R3]at this;rw[R3];exact this
  exact⟨g,0,rfl,hc 0 _ rfl,hc 1 _ rfl,hc 2 _ rfl,hc 3 _ rfl,hc 4 _ rfl,hc 5 _ rfl,hc 6 _ rfl,hc 7 _ rfl⟩
def JK (w:World):(sizeOf 104).run Tryz.prog w=.ok 8 w:=by kernel_rfl
def Le.tail {w:World}{ao:Option Addr}{e:Ev}{r:List Ev}{cap:Nat}(h:Le w ao (e :: r)) (hc:r.length+1<=cap) (hm:cap<=maxLen) :
  ∃b u H G,ao=some (Tw b u)/\b<w.heap.size/\(w.cell? (Tw b u)=some (.int .u8 e.k)/\w.cell? ⟨b,u+1,none⟩=some (.int .u8 e.n)/\w.cell? ⟨b,u+2,none⟩=some (.int .u8 e.d.k)/\w.cell? ⟨b,u+3,none⟩=some (.string e.d.t)/\w.cell? ⟨b,u+4,none⟩=some (Tu e.d.a)/\w.cell? ⟨b,u+5,none⟩=some (Tu e.d.l)/\w.cell? ⟨b,u+6,none⟩=some (Tu e.d.c)/\w.cell? ⟨b,u+7,none⟩=some (Tu e.d.f)) /\
   (∀W,(Instr.slice 100 (.slice (some (Tw b u)) (r.length+1) cap) (some (Tu 1)) none none).run Tryz.prog W=.ok (.slice H r.length G) W)/\r.length<=G/\G<=maxLen/\Le w H r:=by
 obtain⟨b,u,h1,c0,c1,c2,c3,c4,c5,c6,J⟩:=h 0 e rfl;have I:=RV _ _ c0;rw[Nat.zero_mul,Ua]at c0 c1 c2 c3 c4 c5 c6 J
 have run:∀W,(Instr.slice 100 (.slice (some (Tw b u)) (r.length+1) cap) (some (Tu 1)) none none).run Tryz.prog W=.ok (sliced (some (Tw b u)) 1 (r.length+1) cap 8) W:=λW=>by
  rw[run_slice_l W 100 _ _ _ (by kernel_rfl) .i64 1 (by omega) (by omega)];have:Tryz.prog.elem 100=104:=by kernel_rfl
  rw[this,JK];rfl
 subst h1
 by_cases Q:cap=1
 ·have hr:r=[]:=R6 (by omega);subst hr;subst Q;refine⟨b,u,some (Tw b u),0,rfl,I,⟨c0,c1,c2,c3,c4,c5,c6,J⟩,λW=>(run W).trans ?_,ge _,RU _,λj d M=>by simp at M⟩;simp[sliced]
 ·refine⟨b,u,some ⟨b,u+8,none⟩,cap-1,rfl,I,⟨c0,c1,c2,c3,c4,c5,c6,J⟩,λW=>(run W).trans ?_,by omega,by omega,λj d M=>?_⟩
  ·simp[sliced,Q,S8]
  ·obtain⟨b',aa,O,S,Y,Z,x3,x4,x5,x6,x7⟩:=h (j+1) d (by simpa using M);simp only[St,Addr.mk.injEq]at O;obtain⟨rfl,rfl,_⟩:=O;rw[show u+(j+1)*8=u+8+j*8 by omega]at S Y Z x3 x4 x5 x6 x7;exact⟨b,u+8,rfl,S,Y,Z,x3,x4,x5,x6,x7⟩
def uf (r:List Ev) (n:bF):List (Int × List bF)->Option bF
 |[]=>if n.k=0 then none else if r=[]then some n else none
 |x :: S=>fA r (Nn n (x :: S))
def Qi (a:Nat) (l:List Ev) (n:bF) (r:List Ev):Prop:=∀S,S.length=a->fA l S=uf r n S
def IY (a:Nat) (l:List Ev):Prop:=∀S,S.length=a->fA l S=none
def CU {a:Nat}{e:Ev}{r:List Ev}(h:e.k=un e.d):Qi a (e :: r) (.mk 0 e.d []) r:=by
 intro S _;have u:¬e.k=1:=by rw[h];unfold un;split<;>decide
 have G:¬e.k=3:=by rw[h];unfold un;split<;>decide
 have hc:(e.k=2/\cm e.d=false)\/(e.k=4/\cm e.d=true):=by
  rw[h];unfold un;cases H:cm e.d
  ·exact .inl ⟨by simp,rfl⟩
  ·exact .inr ⟨by simp,rfl⟩
 simp only[fA];rw[Eq u,Eq G,Or hc];cases S with
 |nil=>simp[uf,bF.k]
 |cons x S=>obtain⟨k,c⟩:=x;simp[uf,Nn]
def Ge {a:Nat}{e:Ev}{r:List Ev}(G:e.k≠1) (h:e.k≠un e.d) (H:e.k=3->a=0):IY a (e :: r):=by
 intro S I;simp only[fA];rw[Eq G]
 by_cases u:e.k=3
 ·grind
 ·rw[Eq u,Eq];rintro(⟨x,y⟩|⟨x,y⟩)
  ·exact h (by rw[x];unfold un;rw[y];rfl)
  ·exact h (by rw[x];unfold un;rw[y];rfl)
def vR (u:e.k=1) (h:e.n=0\/1000<=a):IY a (e :: r):=by
 intro S G;simp only[fA];rw[Or u,Or (by rw[G];exact h)]
def DR (a:Nat) (l:List Ev) (k:Int) (c:List bF) (r:List Ev):Prop:=∀S,S.length=a->fA l S=fA r ((k,c) :: S)
def FM (u:e.k=1) (h:¬(e.n=0\/1000<=a)):DR a (e :: r) e.n [] r:=by
 intro S G;simp only[fA];rw[Or u,Eq (by rw[G];exact h)]
def DR.kid {k:Int}{c:List bF}{r':List Ev}{n:bF}(h:DR a l k c r) (G:Qi (a+1) r n r'):DR a l k (c++[n]) r':=by
 intro S u;rw[h S u,G ((k,c) :: S) (by simp[u])];rfl
def DR.bad {k:Int}{c:List bF}(h:DR a l k c r) (G:IY (a+1) r):IY a l:=by
 intro S u;rw[h S u];exact G _ (by simp[u])
def DR.nil {k:Int}{c:List bF}(h:DR a l k c []):IY a l:=by
 intro S u;rw[h S u];rfl
def DR.other {k:Int}{c:List bF}(h:DR a l k c (e :: r)) (u:e.k=3) (H:e.n≠k):IY a l:=by
 intro S G;rw[h S G];simp only[fA];rw[Eq (by rw[u];decide),Or u];rw[Eq (λe=>H e.symm)]
def DR.shut {k:Int}{c:List bF}(h:DR a l k c (e :: r)) (u:e.k=3) (I:e.n=k) (H:k≠0):Qi a l (.mk k av c) r:=by
 intro S G;rw[h S G];simp only[fA];rw[Eq (by rw[u];decide),Or u];rw[Or I.symm];cases S with
 |nil=>simp[uf,bF.k,H]
 |cons x S=>obtain⟨J,c'⟩:=x;simp[uf,Nn]
