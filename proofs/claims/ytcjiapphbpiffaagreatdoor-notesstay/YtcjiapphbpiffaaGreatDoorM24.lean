import Derived.ShutString
import Derived.ChangeOld
import Derived.Lib.SmallJoins
import Derived.Carry
import Derived.Deep.Slices
import Derived.Deep.RegionHeld3
import Derived.Deep.RegionWith
import Derived.WalkMore
import Derived.Laws.EntriesVeiled
import Derived.Test.YtcjiapphbpiffaaGreatDoorM01
set_option linter.unusedVariables false
set_option linter.unusedSimpArgs false
set_option maxHeartbeats 1000000
set_option maxRecDepth 100000
namespace Go.Proofs.YtcjiapphbpiffaaGreatDoor
inductive bQ|mk (k:Int) (d:Tv) (c:List bQ)
def bQ.k:bQ->Int|.mk k _ _=>k
def bQ.d:bQ->Tv|.mk _ d _=>d
def bQ.c:bQ->List bQ|.mk _ _ c=>c
def cm (t:Tv):Bool:=t.k == 7 || t.k == 8
def Mh (d:Tv):Ev:=if cm d then ⟨4,0,d⟩ else ⟨2,0,d⟩
mutual
def om:bQ->List Ev
 |.mk k d c=>if k=0 then [Mh d] else ⟨1,k,aB⟩ :: (dL c++[⟨3,k,aB⟩])
def dL:List bQ->List Ev
 |[]=>[]
 |n :: r=>om n++dL r
end
def gx:List Ev->List (Int × List bQ)->Option bQ
 |[],_=>none
 |e :: l,S=>
  if e.k=1 then (if e.n=0\/1000<=S.length then none else gx l ((e.n,[]) :: S))
  else if e.k=3 then (match S with
   |[]=>none
   | (k,c) :: S'=>if k=e.n then (match S' with
    |[]=>if l=[] then some (.mk k aB c) else none
    | (k',c') :: S2=>gx l ((k',c'++[.mk k aB c]) :: S2)) else none)
  else if (e.k=2/\cm e.d=false)\/(e.k=4/\cm e.d=true) then (match S with
   |[]=>none
   | (k,c) :: S'=>gx l ((k,c++[.mk 0 e.d []]) :: S'))
  else none
def NJ (n:bQ):List (Int × List bQ)->List (Int × List bQ)
 |[]=>[]
 | (k,c) :: S=>(k,c++[n]) :: S
def AC (e:Ev):Ev:=if e.k=1\/e.k=3 then ⟨e.k,e.n,aB⟩ else ⟨e.k,0,e.d⟩
theorem k9 (a b:List bQ):dL (a++b)=dL a++dL b:=by
 induction a with
 |nil=>simp [dL]
 |cons x r ih=>simp [dL,ih]
def Ke:List (Int × List bQ)->List Ev
 |[]=>[]
 | (k,c) :: S=>Ke S++(⟨1,k,aB⟩ :: dL c)
theorem ol:∀(l:List Ev) (S:List (Int × List bQ)) (n:bQ),gx l S=some n->(∀x∈S,x.1≠0)->om n=Ke S++l.map AC/\n.k≠0
 |[],S,n,h,_=>by simp [gx] at h
 |e :: l,S,n,h,hS=>by
  simp only [gx] at h
  by_cases G:e.k=1
  ·rw [IO G] at h
   split at h
   ·cases h
   ·rename_i O
    have hn:e.n≠0:=fun x=>O (.inl x)
    obtain ⟨a,b⟩:=ol l ((e.n,[]) :: S) n h (fun x C=>by
     rcases Tt.1 C with rfl|C
     ·exact hn
     ·exact hS x C)
    refine ⟨?_,b⟩;rw [a];have:AC e=⟨1,e.n,aB⟩:=by simp [AC,G]
    simp [Ke,dL,this]
  ·rw [Eq G] at h
   by_cases H:e.k=3
   ·rw [IO H] at h;have I:AC e=⟨3,e.n,aB⟩:=by simp [AC,H]
    cases S with
    |nil=>cases h
    |cons x S'=>
     obtain ⟨k,c⟩:=x;simp only at h;have Y:k≠0:=hS (k,c) (S4 ..)
     split at h
     ·rename_i Q
      subst Q;have F:om (.mk e.n aB c)=⟨1,e.n,aB⟩ :: (dL c++[⟨3,e.n,aB⟩]):=by simp [om,Y]
      cases S' with
      |nil=>
       simp only at h
       split at h
       ·rename_i hl
        cases h;subst hl;refine ⟨?_,Y⟩;rw [F];simp [Ke,I]
       ·cases h
      |cons y S2=>
       obtain ⟨Z,U⟩:=y;simp only at h
       obtain ⟨a,b⟩:=ol l ((Z,U++[.mk e.n aB c]) :: S2) n h (fun x C=>by
        rcases Tt.1 C with rfl|C
        ·exact hS (Z,U) (by simp)
        ·exact hS x (by simp [C]))
       refine ⟨?_,b⟩;rw [a];simp [Ke,k9,dL,F,I]
     ·cases h
   ·rw [Eq H] at h
    split at h
    ·rename_i O
     cases S with
     |nil=>cases h
     |cons x S'=>
      obtain ⟨k,c⟩:=x;simp only at h
      obtain ⟨a,b⟩:=ol l ((k,c++[.mk 0 e.d []]) :: S') n h (fun x C=>by
       rcases Tt.1 C with rfl|C
       ·exact hS (k,c) (S4 ..)
       ·exact hS x (SZ _ C))
      refine ⟨?_,b⟩;rw [a]
      have I:AC e=Mh e.d:=by
       have:AC e=⟨e.k,0,e.d⟩:=by simp [AC,G,H]
       rw [this];unfold Mh
       rcases O with ⟨J,M⟩|⟨J,M⟩
       ·rw [J,M];rfl
       ·rw [J,M];rfl
      have he:om (.mk 0 e.d [])=[Mh e.d]:=by simp [om]
      simp [Ke,k9,dL,he,I]
    ·cases h
theorem Dg {l:List Ev}{n:bQ}(h:gx l []=some n):om n=l.map AC/\n.k≠0:=by
 have:=ol l [] n h (fun x C=>by cases C)
 simpa [Ke] using this
end Go.Proofs.YtcjiapphbpiffaaGreatDoor
namespace Go.Proofs.YtcjiapphbpiffaaGreatDoor
open Go.ChangeShapes Go.WideShapes Go.ChangeAt Go.RowKit
variable {W W':World}{b:Nat}
mutual
def HN (W:World) (b o:Nat):bQ->Prop
 |.mk k d c=>(W.cell? ⟨b,o,none⟩=some (.int .u8 k)/\W.cell? ⟨b,o+1,none⟩=some (.int .u8 d.k)/\W.cell? ⟨b,o+2,none⟩=some (.string d.t)/\W.cell? ⟨b,o+3,none⟩=some (.int .i64 d.a)/\W.cell? ⟨b,o+4,none⟩=some (.int .i64 d.l)/\W.cell? ⟨b,o+5,none⟩=some (.int .i64 d.c)/\W.cell? ⟨b,o+6,none⟩=some (.int .i64 d.f)) /\
  ∃ao cap,W.cell? ⟨b,o+7,none⟩=some (.slice ao c.length cap)/\c.length<=cap/\cap<=maxLen/\(ao=none->c=[])/\∀a,ao=some a->c=[]\/∃b' o',a=⟨b',o',none⟩/\HL W b' o' c
def HL (W:World) (b o:Nat):List bQ->Prop
 |[]=>True
 |n :: r=>HN W b o n/\HL W b (o+8) r
end
theorem HL.at :∀{l:List bQ}{o:Nat},HL W b o l->∀{j:Nat}{n:bQ},l[j]?=some n->HN W b (o+j*8) n
 |[],o,_,j,n,hj=>by simp at hj
 |x :: r,o,h,0,n,hj=>by
  simp at hj;subst hj;rw [HL] at h
  simpa using h.1
 |x :: r,o,h,j+1,n,hj=>by
  rw [HL] at h;have:=HL.at h.2 (j:=j) (n:=n) (by simpa using hj);rw [show o+(j+1)*8=o+8+j*8 by omega];exact this
theorem MD :∀{l:List bQ}{o:Nat},(∀j n,l[j]?=some n->HN W b (o+j*8) n)->HL W b o l
 |[],o,_=>by rw [HL];trivial
 |x :: r,o,h=>by
  rw [HL];refine ⟨by simpa using h 0 x rfl,MD (fun j n C=>?_)⟩;have:=h (j+1) n (by simpa using C);rw [show o+8+j*8=o+(j+1)*8 by omega];exact this
mutual
theorem HN.below (J:Below W.heap.size W W'):∀(n:bQ) (b o:Nat),HN W b o n->HN W' b o n
 |.mk k d c,b,o,h=>by
  rw [HN] at h ⊢;obtain ⟨⟨I,S,U,Y,Z,h5,h6⟩,ao,cap,h7,h8,h9,F,G⟩:=h;have e:W'.heap[b]?=W.heap[b]?:=J.block b (S9 _ _ I);have C:∀j u,W.cell? ⟨b,j,none⟩=some u->W'.cell? ⟨b,j,none⟩=some u:=fun j u hu=>(S8 (a:=⟨b,j,none⟩) e).trans hu
  exact ⟨⟨C _ _ I,C _ _ S,C _ _ U,C _ _ Y,C _ _ Z,C _ _ h5,C _ _ h6⟩,ao,cap,C _ _ h7,h8,h9,F,fun a Q=>(G a Q).imp id (fun ⟨H,M,O,hl⟩=>⟨H,M,O,HL.below J c H M hl⟩)⟩
theorem HL.below  (C:Below W.heap.size W W'):∀(l:List bQ) (b o:Nat),HL W b o l->HL W' b o l
 |[],b,o,_=>by rw [HL];trivial
 |n :: r,b,o,h=>by
  rw [HL] at h ⊢;exact ⟨HN.below C n b o h.1,HL.below C r b (o+8) h.2⟩
end
def Nv (W:World) (v:Value) (n:bQ):Prop:=∃ao cap,v=.agg #[.int .u8 n.k,.int .u8 n.d.k,.string n.d.t,.int .i64 n.d.a,.int .i64 n.d.l,.int .i64 n.d.c,.int .i64 n.d.f,.slice ao n.c.length cap]/\n.c.length<=cap/\cap<=maxLen/\(ao=none->n.c=[])/\(∀a,ao=some a->n.c=[]\/∃b o,a=⟨b,o,none⟩/\HL W b o n.c)
mutual
def Kl:bQ->Nat
 |.mk k d c=>Kk c+1
def Kk:List bQ->Nat
 |[]=>0
 |n :: r=>Kl n+Kk r
end
theorem AB {n m:bQ}(h:m∈n.c):Kl m<Kl n:=by
 obtain ⟨k,d,c⟩:=n
 have C:∀(c:List bQ),m∈c->Kl m<=Kk c:=by
  intro c
  induction c with
  |nil=>intro h;cases h
  |cons x r ih=>
   intro h;simp only [Kk]
   rcases Tt.1 h with rfl|h
   ·omega
   ·have:=ih h;omega
 have:=C c h;simp only [Kl];omega
end Go.Proofs.YtcjiapphbpiffaaGreatDoor
namespace Go.Proofs.YtcjiapphbpiffaaGreatDoor
open Go.RowKit
variable {c:List bQ}{W w0 w V:World}{a g p b j:Nat}{l r E:List Ev}{v sv:Value}{k:Int}{e:Ev}{vs:List Value}{ao:Option Addr}
theorem aP (W:World) (o:Obj):Below W.heap.size W (W.alloc o):=(hH _ _).alloc (gt _) _
theorem ei {v:World}(h:Below b w v):∀m,Below b w (v.drewN m)
 |0=>h
 |m+1=>(ei h m).drew
theorem Ge {o:Nat}{n:bQ}(h:HN W b o n):b<W.heap.size/\∃ao cap,(W.cell? ⟨b,o,none⟩=some (.int .u8 n.k)/\W.cell? ⟨b,o+1,none⟩=some (.int .u8 n.d.k)/\W.cell? ⟨b,o+2,none⟩=some (.string n.d.t)/\W.cell? ⟨b,o+3,none⟩=some (.int .i64 n.d.a)/\W.cell? ⟨b,o+4,none⟩=some (.int .i64 n.d.l)/\W.cell? ⟨b,o+5,none⟩=some (.int .i64 n.d.c)/\W.cell? ⟨b,o+6,none⟩=some (.int .i64 n.d.f)/\W.cell? ⟨b,o+7,none⟩=some (.slice ao n.c.length cap))/\n.c.length<=cap/\cap<=maxLen/\(ao=none->n.c=[])/\(∀a,ao=some a->n.c=[]\/∃C F,a=⟨C,F,none⟩/\HL W C F n.c):=by
 obtain ⟨k,d,c⟩:=n;rw [HN] at h;obtain ⟨⟨h0,h1,h2,h3,h4,h5,h6⟩,ao,cap,h7,h8,h9,h10,h11⟩:=h;exact ⟨S9 _ _ h0,ao,cap,⟨h0,h1,h2,h3,h4,h5,h6,h7⟩,h8,h9,h10,h11⟩
theorem Kp.low {S:Nat->Prop}{B:Nat}{W':World}(h:Below B w W) (C:Kp S W W') (G:∀k,S k->B<=k) (I:B<=W.heap.size):Below B w W':=
 ⟨C.os.trans h.os,C.tape.trans h.tape,C.output.trans h.output,SY h.size C.size,fun k F=>(C.block k (by omega) (fun H=>by have:=G k H;omega)).trans (h.block k F)⟩
structure BI (W:World) (v:Value) (E:List Ev) (V:World):Prop where
 bel:Below W.heap.size W V
 re:Re V v E
 vB:∀k,v.ownBlock=some k->W.heap.size<=k
theorem Dh {m:bQ}(h:c[j]?=some m):dL (c.take (j+1))=dL (c.take j)++om m:=by
 rw [UK,h,k9];simp [dL]
theorem A0 {c:List bQ}{j:Nat}:(dL (c.take j)).length<=(dL c).length:=by
 have:dL c=dL (c.take j)++dL (c.drop j):=by rw [<-k9,TR]
 rw [this,Or];omega
abbrev bz (k:Int) (d:Tv) (s:Value):Obj:=.cells #[.int .u8 k,.int .u8 d.k,.string d.t,.int .i64 d.a,.int .i64 d.l,.int .i64 d.c,.int .i64 d.f,s] 72
theorem Nv.kid (h:(ao=none->c=[])/\∀a,ao=some a->c=[]\/∃b o,a=⟨b,o,none⟩/\HL W b o c) {V:World}(I:Below W.heap.size W V) {j:Nat}{m:bQ}(H:c[j]?=some m) :
  ∃b o,ao=some ⟨b,o,none⟩/\b<V.heap.size/\∃F C,(V.cell? ⟨b,o+j*8,none⟩=some (.int .u8 m.k)/\V.cell? ⟨b,o+j*8+1,none⟩=some (.int .u8 m.d.k)/\V.cell? ⟨b,o+j*8+2,none⟩=some (.string m.d.t)/\V.cell? ⟨b,o+j*8+3,none⟩=some (.int .i64 m.d.a)/\V.cell? ⟨b,o+j*8+4,none⟩=some (.int .i64 m.d.l)/\V.cell? ⟨b,o+j*8+5,none⟩=some (.int .i64 m.d.c)/\V.cell? ⟨b,o+j*8+6,none⟩=some (.int .i64 m.d.f)/\V.cell? ⟨b,o+j*8+7,none⟩=some (.slice F m.c.length C)) /\
   Nv V (.agg #[.int .u8 m.k,.int .u8 m.d.k,.string m.d.t,.int .i64 m.d.a,.int .i64 m.d.l,.int .i64 m.d.c,.int .i64 m.d.f,.slice F m.c.length C]) m:=by
 have G:=(Te.1 H).1;cases ao with
 |none=>have:=h.1 rfl;subst this;simp at G
 |some a=>
  obtain ⟨b,o,rfl,J⟩:=(h.2 a rfl).resolve_left (fun e=>by subst e;simp at G);obtain ⟨hbl,F,C,hc,p1,p2,p3,p4⟩:=Ge (HL.at (HL.below I c b o J) H);exact ⟨b,o,rfl,hbl,F,C,hc,F,C,rfl,p1,p2,p3,p4⟩
abbrev eF (k:Int) (d:Tv) (s:Value):Value:=.agg #[.int .u8 k,.int .u8 d.k,.string d.t,.int .i64 d.a,.int .i64 d.l,.int .i64 d.c,.int .i64 d.f,s]
theorem jy (k:Int) (d:Tv) (ao:Option Addr) (n cap:Nat) (W:World):Ta 76 #[eF k d (.slice ao n cap)] W fun r w'=>r=.returned (.bool (k == 0))/\Below W.heap.size W w':=by
 go_enter Tryz.func76,Tryz.ntmps76
 go_wp2_with fail
 go_ret
 exact ⟨rfl,aP _ _⟩
def uS (t:Tv):Int:=if cm t then 4 else 2
theorem pN (t:Tv) (W:World):Ta 77 #[t.v] W fun r w'=>r=.returned (.int .u8 (uS t))/\Below W.heap.size W w':=by
 unfold uS cm
 dsimp only [Tv.v]
 obtain ⟨C,F⟩:∃b,(t.k == 7)=b:=⟨_,rfl⟩;obtain ⟨b8,e8⟩:∃b,(t.k == 8)=b:=⟨_,rfl⟩;rw [F,e8];cases C
 ·cases b8
  ·go_enter Tryz.func77,Tryz.ntmps77
   go_wp2_with fail
   go_ret
   exact ⟨rfl,aP _ _⟩
  ·go_enter Tryz.func77,Tryz.ntmps77
   go_wp2_with fail
   go_ret
   exact ⟨rfl,aP _ _⟩
 ·go_enter Tryz.func77,Tryz.ntmps77
  go_wp2_with fail
  go_ret
  exact ⟨rfl,aP _ _⟩
theorem Je (d:Tv):Mh d=⟨uS d,0,d⟩:=by
 unfold Mh uS
 split <;> rfl
theorem RO (h:(ao=none->c=[])/\∀a,ao=some a->c=[]\/∃b o,a=⟨b,o,none⟩/\HL w0 b o c) {V:World}(I:Below w0.heap.size w0 V) {j:Nat}{m:bQ}(J:c[j]?=some m) :
  ∃b o,ao=some ⟨b,o,none⟩/\b<V.heap.size/\∃F C,(V.cell? ⟨b,o+j*8,none⟩=some (.int .u8 m.k)/\V.cell? ⟨b,o+j*8+1,none⟩=some (.int .u8 m.d.k)/\V.cell? ⟨b,o+j*8+2,none⟩=some (.string m.d.t)/\V.cell? ⟨b,o+j*8+3,none⟩=some (.int .i64 m.d.a)/\V.cell? ⟨b,o+j*8+4,none⟩=some (.int .i64 m.d.l)/\V.cell? ⟨b,o+j*8+5,none⟩=some (.int .i64 m.d.c)/\V.cell? ⟨b,o+j*8+6,none⟩=some (.int .i64 m.d.f)/\V.cell? ⟨b,o+j*8+7,none⟩=some (.slice F m.c.length C)) /\
   Nv w0 (.agg #[.int .u8 m.k,.int .u8 m.d.k,.string m.d.t,.int .i64 m.d.a,.int .i64 m.d.l,.int .i64 m.d.c,.int .i64 m.d.f,.slice F m.c.length C]) m:=by
 obtain ⟨b,o,e,H,F,C,⟨Q,S,U,Y,Z,y5,y6,y7⟩,O⟩:=Nv.kid h (hH _ _) J;have G:∀i u,w0.cell? ⟨b,i,none⟩=some u->V.cell? ⟨b,i,none⟩=some u:=fun i u M=>(S8 (a:=⟨b,i,none⟩) (I.block b H)).trans M
 exact ⟨b,o,e,Tn H I.size,F,C,⟨G _ _ Q,G _ _ S,G _ _ U,G _ _ Y,G _ _ Z,G _ _ y5,G _ _ y6,G _ _ y7⟩,O⟩
theorem gA (W:World) (o:Obj):(W.alloc o).heap.size=W.heap.size+1:=SX _ _
theorem Js {J:Array Oper}{o:Oper}{a:Act}{K:Act->World->Prop}{Q:Exit->Act->World->Prop}{E:Prop}(F:o.guard=none) (s x:Operand)
  (Z:o.op=.call { callee:=.builtin .append,args:=#[s,x],argTypes:=#[106,106] }) (v:Value) (l:List Ev) (d:Ev) (hs:a.eval s=v) (hr:Re W v l)
  (g c:Nat) (hx:a.eval x=.slice (some ⟨g,0,none⟩) 1 c) (U:W.heap[g]?=some (.cells #[.int .u8 d.k,.int .u8 d.n,.int .u8 d.d.k,.string d.d.t,.int .i64 d.d.a,.int .i64 d.d.l,.int .i64 d.d.c,.int .i64 d.d.f] 110 (0,0))) (hl:l.length<=1000000000)
  (h:∀q cap w',Re w' (.slice (some ⟨q,0,none⟩) (l.length+1) cap) (l++[d])->W.grownBy w' v.ownBlock->Nb W v (.slice (some ⟨q,0,none⟩) (l.length+1) cap)->K (a.put o.dst (.slice (some ⟨q,0,none⟩) (l.length+1) cap)) w') :
  if Region.wanted o (yielded J a.tmps)=true then Oper.wp Tryz.prog o a W K Q else E:=by
 obtain ⟨i0,Y,G,H,I⟩:=T7 Tryz.info110;refine Vt W F s x 106 Z 0 110 i0 _ 8 64 Wy Y G H I rfl (by decide) v _ _ hs hr ⟨g,0,none⟩ 1 c (xM [d]) hx (by rw [ui];rfl) ?_ (uh [d]) (by omega) (by unfold maxLen;omega) (by omega) (SW _) _ rfl ?_
 ·intro j u M;refine TX U j u ?_;have e:xM [d]=[.int .u8 d.k,.int .u8 d.n,.int .u8 d.d.k,.string d.d.t,.int .i64 d.d.a,.int .i64 d.d.l,.int .i64 d.d.c,.int .i64 d.d.f]:=by simp [xM,bB,Ev.cs]
  rw [e] at M
  simpa using M
 ·intro q cap w' O S C _;refine h q cap w' ?_ S ?_
  ·unfold Re;rw [Or,uj];exact O
  ·rcases C with C|C
   ·exact .inl C.symm
   ·exact .inr ⟨q,rfl,by omega⟩
def SF (T:TypeId) (W:World) (k:Nat):Prop:=∃cs f,W.heap[k]?=some (.cells cs T f)
def KT (T:TypeId) (g:Nat) (W w':World):Prop:=Kp (fun k=>k=g\/SF T W k) W w'
theorem KT.trans {T:TypeId}{g:Nat}{a b c:World}(h:KT T g a b) (k:KT T g b c):KT T g a c:=by
 refine ⟨k.os.trans h.os,k.tape.trans h.tape,k.output.trans h.output,SY h.size k.size,fun j F C=>?_⟩;have e:=h.block j F C;refine (k.block j (Tn F h.size) (fun ht=>C ?_)).trans e
 rcases ht with ht|⟨cs,f,ht⟩
 ·exact .inl ht
 ·exact .inr ⟨cs,f,by rw [<-e];exact ht⟩
theorem KT.of_below {T:TypeId}{g:Nat}{a b:World}(h:Below a.heap.size a b):KT T g a b:=Kp.of_below h
theorem KT.blk {T:TypeId}{g:Nat}{a b:World}(h:KT T g a b) {k:Nat}{cs:Array Value}{U:TypeId}{f:Nat × Nat}(C:a.heap[k]?=some (.cells cs U f)) (G:k≠g) (F:U≠T):b.heap[k]?=some (.cells cs U f):=by
 refine Kp.blk h C ?_;rintro (e|⟨H,I,e⟩)
 ·exact G e
 ·rw [C] at e;injection e with e
  injection e with _ e
  exact F e
theorem PU (h:Re W v E):∀k,v.ownBlock=some k->SF 110 W k:=by
 intro k C
 rcases h.2 with ⟨rfl,_⟩|⟨b,cap,G,rfl,_,F,_⟩
 ·cases C
 ·simp only [Value.ownBlock,Tp] at C;subst C;exact ⟨_,_,F⟩
abbrev zI (g p:Nat):Value:=.func (.func 75) #[] #[.pointer (some ⟨g,0,none⟩),.pointer (some ⟨p,0,none⟩)]
structure EI (w0:World) (g p:Nat) (v:Value) (E:List Ev) (V:World):Prop where
 bel:Below w0.heap.size w0 V
 hg:V.heap[g]?=some (.cells #[v] 106 (0,0))
 hp:V.heap[p]?=some (.cells #[zI g p] 157 (0,0))
 re:Re V v E
 vB:∀k,v.ownBlock=some k->w0.heap.size<=k
 g0:w0.heap.size<=g
 p0:w0.heap.size<=p
theorem EI.ne (h:EI w0 g p v E V):g≠p:=by
 rintro rfl;have:=h.hg;rw [h.hp] at this;injection this with e
 injection e with _ e
 exact absurd e (by decide)
theorem EI.below {V':World}(h:EI w0 g p v E V) (C:Below V.heap.size V V'):EI w0 g p v E V':=
 ⟨h.bel.trans (C.mono h.bel.size),ag h.hg C,ag h.hp C,h.re.below C,h.vB,h.g0,h.p0⟩
theorem EI.push {v':Value}{S:List Ev}{J F:World}(h:EI w0 g p v E V) (U:Below V.heap.size V J) (Y:Re F v' (E++S)) (hg:J.grownBy F v.ownBlock) (H:Nb J v v') :
  (F.cell? ⟨g,0,none⟩=some v/\F.frozen? ⟨g,0,none⟩=false/\g<F.heap.size)/\EI w0 g p v' (E++S) (F.setCell ⟨g,0,none⟩ v')/\KT 110 g V (F.setCell ⟨g,0,none⟩ v'):=by
 have C:=h.below U;have I:=Kp.of_grown hg;have M:¬some g=v.ownBlock:=fun e=>C.re.ne C.hg (by decide) g e.symm rfl
 have O:¬some p=v.ownBlock:=fun e=>C.re.ne C.hp (by decide) p e.symm rfl
 have G:=I.blk C.hg M;have p3:=I.blk C.hp O;have Q:Below w0.heap.size w0 F:=Kp.low C.bel I (fun k e=>C.vB k e.symm) C.bel.size;refine ⟨⟨af G rfl,am G,au G⟩,⟨Kp.low Q (Kp.set _ _ _ _) (fun k e=>by subst e;exact h.g0) Q.size,aj G 0 _,bh p3 (Xl h.ne) _,Y.kp (Kp.set _ _ _ _) (Y.ne G (by decide)),?_,h.g0,h.p0⟩,?_⟩
 ·intro k e
  rcases H with H|⟨q,Z,H⟩
  ·exact h.vB k (by rw [<-H];exact e)
  ·rw [Z] at e;simp at e;have:=C.bel.size;omega
 ·refine ((Kp.of_below U).step I (fun k hk e=>.inr ?_)).step (Kp.set _ _ _ _) (fun k _ e=>.inl e);exact PU h.re k e.symm
def BE (w0:World) (n:bQ):Prop:=∀vn,Nv w0 vn n->∀W g p v E,EI w0 g p v E W->E.length+(om n).length<=1000000000->Ta 75 #[vn,.pointer (some ⟨g,0,none⟩),.pointer (some ⟨p,0,none⟩)] W fun r w'=>r=.returned (.tuple #[])/\∃v',EI w0 g p v' (E++om n) w'/\KT 110 g W w'
theorem Ed (w0:World) (d:Tv) (ao:Option Addr) (S cap:Nat) (W:World) (g p:Nat) (v:Value) (E:List Ev) (hI:EI w0 g p v E W) (ac:E.length+1<=1000000000):Ta 75 #[eF 0 d (.slice ao S cap),.pointer (some ⟨g,0,none⟩),.pointer (some ⟨p,0,none⟩)] W fun r w'=>r=.returned (.tuple #[])/\∃v',EI w0 g p v' (E++[Mh d]) w'/\KT 110 g W w':=by
 have HI:Hid (EI w0 g p v E W):=hI;obtain ⟨O,M,hv,_⟩:=hI.re.shape;subst hv;have ab:Hid (∀V,Ta 76 #[eF 0 d (.slice ao S cap)] V fun r w'=>r=.returned (.bool true)/\Tb V w'):=fun V=>jy 0 d ao S cap V
 have Y:Hid (∀V,Ta 77 #[.agg #[.int .u8 d.k,.string d.t,.int .i64 d.a,.int .i64 d.l,.int .i64 d.c,.int .i64 d.f]] V fun r w'=>r=.returned (.int .u8 (uS d))/\Tb V w'):=fun V=>pN d V
 have aa:E.length<=1000000000:=by omega
 obtain ⟨W1,eW⟩:∃W1,W1=W.alloc (bz 0 d (.slice ao S cap)):=⟨_,rfl⟩;have C:Hid (Tb W W1/\W1.heap[W.heap.size]?=some (bz 0 d (.slice ao S cap))):=by rw [eW];exact ⟨aP _ _,aq _ _⟩
 clear hI;rw [Je];obtain ⟨kd,Z⟩:∃kd,uS d=kd:=⟨_,rfl⟩;rw [Z] at Y ⊢;clear Z
 go_enter Tryz.func75,Tryz.ntmps75
 go_wp2_with fail
 try rw [<-eW]
 clear eW;refine (ab.out _).mono ?_;rintro r J ⟨rfl,H⟩;have H2:Hid (EI w0 g p (.slice O E.length M) E J/\Tb W J):=⟨HI.out.below (C.out.1.trans (H.mono C.out.1.size)),C.out.1.trans (H.mono C.out.1.size)⟩;have t0:J.heap[W.heap.size]?=some (bz 0 d (.slice ao S cap)):=ag C.out.2 H
 have HC:Hid (∀V,Tb J V->V.cell? ⟨W.heap.size,1,none⟩=some (.int .u8 d.k)/\V.cell? ⟨W.heap.size,2,none⟩=some (.string d.t)/\V.cell? ⟨W.heap.size,3,none⟩=some (.int .i64 d.a)/\V.cell? ⟨W.heap.size,4,none⟩=some (.int .i64 d.l)/\V.cell? ⟨W.heap.size,5,none⟩=some (.int .i64 d.c)/\V.cell? ⟨W.heap.size,6,none⟩=some (.int .i64 d.f)/\V.cell? ⟨g,0,none⟩=some (.slice O E.length M)/\W.heap.size<V.heap.size/\g<V.heap.size):=fun V Q=>by
  have t:=ag t0 Q;have u:=ag H2.out.1.hg Q;exact ⟨af t rfl,af t rfl,af t rfl,af t rfl,af t rfl,af t rfl,af u rfl,au t,au u⟩
 have HP:Hid (∀G q I F,Tb J G->Re F (.slice (some ⟨q,0,none⟩) (E.length+1) I) (E++[⟨kd,0,d⟩])->G.grownBy F (Value.slice O E.length M).ownBlock->Nb G (.slice O E.length M) (.slice (some ⟨q,0,none⟩) (E.length+1) I)->(F.cell? ⟨g,0,none⟩=some (.slice O E.length M)/\F.frozen? ⟨g,0,none⟩=false/\g<F.heap.size)/\EI w0 g p (.slice (some ⟨q,0,none⟩) (E.length+1) I) (E++[⟨kd,0,d⟩]) (F.setCell ⟨g,0,none⟩ (.slice (some ⟨q,0,none⟩) (E.length+1) I))/\KT 110 g W (F.setCell ⟨g,0,none⟩ (.slice (some ⟨q,0,none⟩) (E.length+1) I))):=fun G q I F Q h1 h2 h3=>by
  obtain ⟨a1,a2,a3⟩:=H2.out.1.push Q h1 h2 h3;exact ⟨a1,a2,(KT.of_below H2.out.2).trans a3⟩
 have HR:Hid (∀V,Tb J V->Re V (.slice O E.length M) E):=fun V Q=>H2.out.1.re.below Q
 clear H t0;obtain ⟨c1,c2,c3,c4,c5,c6,c7,c8,c9⟩:=HC.out J (hH _ _)
 go_wp2_with fail
 go_region_law (first|(refine Js (by rfl) _ _ (by rfl) (.slice O E.length M) E ⟨kd,0,d⟩ (by rfl) (HR.out _ (U.out.trans ((aP _ _).mono U.out.size))) G.heap.size 1 (by rfl) (aq G _) aa ?_;intro q I F h1 h2 h3;obtain ⟨⟨x1,x2,x3⟩,x4⟩:=HP.out _ q I F (U.out.trans ((aP _ _).mono U.out.size)) h1 h2 h3;have HX:=ai x4;clear x4 h1 h2 h3)|(go_simp;go_at_call 77;refine (Y.out _).mono ?_;rintro r G ⟨rfl,hb4⟩;have U:Hid (Tb J G):=(hH _ _).drew.trans (hb4.mono (gt _));obtain ⟨d1,d2,d3,d4,d5,d6,d7,d8,d9⟩:=HC.out G U.out;clear hb4))
 all_goals (
  go_wp2_with fail
  first|go_end0|(refine Ti (results_none rfl _ _ _) rfl ?_)
  exact ⟨rfl,_,HX.out⟩)
theorem BP (w0:World) (n:bQ) (IH:∀m,m∈n.c->BE w0 m):BE w0 n:=by
 intro vn h W g p v E hI H;obtain ⟨ao,cap,rfl,q1,q2,q3,q4⟩:=h;have HI:Hid (EI w0 g p v E W):=hI;obtain ⟨k,d,c⟩:=n
 dsimp only [bQ.k,bQ.d,bQ.c] at *
 by_cases hk:k=0
 ·subst hk;have e:om (.mk 0 d c)=[Mh d]:=by simp [om]
  rw [e] at H ⊢;exact Ed w0 d ao c.length cap W g p v E hI (by simpa using H)
 ·have e:om (.mk k d c)=⟨1,k,aB⟩ :: (dL c++[⟨3,k,aB⟩]):=by simp [om,hk]
  have am:(k == 0)=false:=by simpa using hk
  obtain ⟨pv,cv,hv,_⟩:=hI.re.shape;subst hv;have al:Hid (∀V,Ta 76 #[eF k d (.slice ao c.length cap)] V fun r w'=>r=.returned (.bool false)/\Tb V w'):=fun V=>by have:=jy k d ao c.length cap V;rw [am] at this;exact this
  have ax:E.length+(dL c).length+2<=1000000000:=by rw [e] at H;simp at H;omega
  have aj:Hid (E++om (.mk k d c)=(E++[⟨1,k,aB⟩]++dL c)++[⟨3,k,aB⟩]):=(by rw [e];simp:E++om (.mk k d c)=(E++[⟨1,k,aB⟩]++dL c)++[⟨3,k,aB⟩]);have ak:Hid (∀m,m∈c->BE w0 m):=IH;have HQ:Hid ((ao=none->c=[])/\∀a,ao=some a->c=[]\/∃b o,a=⟨b,o,none⟩/\HL w0 b o c):=⟨q3,q4⟩;have aw:(c.length:Int)<=9223372036854775807:=by have:maxLen=9223372036854775807:=rfl;omega
  have ad:W.heap.size≠g:=fun e=>by have:=au HI.out.hg;omega
  obtain ⟨W1,eW⟩:∃W1,W1=W.alloc (bz k d (.slice ao c.length cap)):=⟨_,rfl⟩;have F:Hid (Tb W W1/\W1.heap[W.heap.size]?=some (bz k d (.slice ao c.length cap))):=by rw [eW];exact ⟨aP _ _,aq _ _⟩
  clear hI H q3 q4 IH e
  go_enter Tryz.func75,Tryz.ntmps75
  go_wp2_with fail
  try rw [<-eW]
  clear eW;refine (al.out _).mono ?_;rintro r Z ⟨rfl,M⟩;have S:Hid (EI w0 g p (.slice pv E.length cv) E Z/\KT 110 g W Z):=⟨HI.out.below (F.out.1.trans (M.mono F.out.1.size)),KT.of_below (F.out.1.trans (M.mono F.out.1.size))⟩;have G:Hid (Z.heap[W.heap.size]?=some (bz k d (.slice ao c.length cap))):=ag F.out.2 M;have y0:Z.cell? ⟨W.heap.size,0,none⟩=some (.int .u8 k):=af G.out rfl;have yg:Z.cell? ⟨g,0,none⟩=some (.slice pv E.length cv):=af S.out.1.hg rfl;have av:=au S.out.1.hg;have yl:=au G.out;have an:E.length<=1000000000:=by omega
  clear M F
  go_wp2_with (at_builtin;refine In (by rfl) _ _ (by rfl) (.slice pv E.length cv) E ⟨1,k,aB⟩ (by rfl) (S.out.1.re.below (aP _ _)) Z.heap.size 1 (by rfl) (aq _ _) an ?_;intro v' w3 O U h3;obtain ⟨Y,c3,ar,_⟩:=O.shape;subst ar;obtain ⟨⟨x1,x2,x3⟩,x4,x5⟩:=S.out.1.push (aP _ _) O U h3;have H3:Hid (EI w0 g p (.slice Y (E++[(⟨1,k,aB⟩:Ev)]).length c3) (E++[⟨1,k,aB⟩]) (w3.setCell ⟨g,0,none⟩ (.slice Y (E++[(⟨1,k,aB⟩:Ev)]).length c3))/\KT 110 g W (w3.setCell ⟨g,0,none⟩ (.slice Y (E++[(⟨1,k,aB⟩:Ev)]).length c3))/\(w3.setCell ⟨g,0,none⟩ (.slice Y (E++[(⟨1,k,aB⟩:Ev)]).length c3)).heap[W.heap.size]?=some (bz k d (.slice ao c.length cap))):=⟨x4,S.out.2.trans x5,x5.blk G.out ad (by decide)⟩;have x6:w3.cell? ⟨W.heap.size,7,none⟩=some (.slice ao c.length cap):=af ((Kp.of_grown U).blk (ag G.out (aP _ _)) (fun e=>S.out.1.re.ne G.out (by decide) _ e.symm rfl)) rfl;have x7:W.heap.size<w3.heap.size:=S9 _ _ x6;clear x4 x5 O U h3)
  obtain ⟨w4,e4⟩:∃w4,w3.setCell ⟨g,0,none⟩ (.slice Y (E.length+1) c3)=w4:=⟨_,rfl⟩
  have H4:Hid (EI w0 g p (.slice Y (E++[(⟨1,k,aB⟩:Ev)]).length c3) (E++[⟨1,k,aB⟩]) w4/\KT 110 g W w4/\w4.heap[W.heap.size]?=some (bz k d (.slice ao c.length cap))):=by
   have:=H3.out;rw [show (E++[(⟨1,k,aB⟩:Ev)]).length=E.length+1 by simp] at this ⊢;rw [e4] at this;exact this
  rw [e4];clear e4 H3 x1 x2 x3 x6 x7 y0 yg av yl
  go_loopw [26] (fun iv wr=>∃j:Nat,j<=c.length/\iv=.int .i64 j/\Hid (∃v',EI w0 g p v' (E++[⟨1,k,aB⟩]++dL (c.take j)) wr/\KT 110 g W wr/\wr.heap[W.heap.size]?=some (bz k d (.slice ao c.length cap)))) (fun iv _=>c.length-(intOf iv).toNat)
  case atStart=>exact ⟨0,SW _,rfl,_,by simpa [dL] using H4.out⟩
  case round=>
   obtain ⟨j,hj,rfl,aa⟩:=hrel;obtain ⟨vj,hJ⟩:=aa.out;have C:=ai hJ;clear aa hJ;have ap:=A0 (c:=c) (j:=j)
   by_cases ab:j<c.length
   ·have z1:(j:Int)<c.length:=by omega
    have z2:(0:Int)<=j:=by omega
    obtain ⟨m,hm⟩:∃m,c[j]?=some m:=⟨_,Pi ab⟩;have ac:m∈c:=T3 hm;obtain ⟨b,o,rfl,hbl,ao2,cap2,⟨v0,v1,v2,v3,v4,v5,v6,v7⟩,hv⟩:=RO HQ.out C.out.1.bel hm;have yp:wr.cell? ⟨p,0,none⟩=some (zI g p):=af C.out.1.hp rfl;have az:p<wr.heap.size:=au C.out.1.hp;have ht:=Dh hm;have J:=A0 (c:=c) (j:=j+1);rw [ht] at J
    have HC:Hid (∀V,EI w0 g p vj (E++[⟨1,k,aB⟩]++dL (c.take j)) V->Ta 75 #[eF m.k m.d (.slice ao2 m.c.length cap2),.pointer (some ⟨g,0,none⟩),.pointer (some ⟨p,0,none⟩)] V fun r w'=>r=.returned (.tuple #[])/\∃v',EI w0 g p v' (E++[⟨1,k,aB⟩]++dL (c.take (j+1))) w'/\KT 110 g V w'):=fun V hV=>by
     have:=ak.out m ac _ hv V g p _ _ hV (by simp at J ⊢;omega);rw [ht,<-S5];exact this
    clear hm ac hv ht J;obtain ⟨W5,Q⟩:∃W5,W5=wr.alloc (bz m.k m.d (.slice ao2 m.c.length cap2)):=⟨_,rfl⟩;have H5:Hid (Tb wr W5):=by rw [Q];exact aP _ _
    go_wp2_with fail
    try rw [<-Q]
    refine (HC.out _ (C.out.1.below H5.out)).mono ?_;rintro r w6 ⟨rfl,v',h6,k6⟩;have H6:Hid (∃v',EI w0 g p v' (E++[⟨1,k,aB⟩]++dL (c.take (j+1))) w6/\KT 110 g W w6/\w6.heap[W.heap.size]?=some (bz k d (.slice (some ⟨b,o,none⟩) c.length cap))):=⟨v',h6,C.out.2.1.trans ((KT.of_below H5.out).trans k6),k6.blk (ag C.out.2.2 H5.out) ad (by decide)⟩;clear h6 k6 Q
    go_wp2_with fail
    exact ⟨⟨j+1,ab,by go_num,H6⟩,by simp [intOf];omega⟩
   ·obtain rfl:j=c.length:=by omega
    have z1:¬((c.length:Int)<c.length):=by omega
    rw [T4] at C ap;have HZ:Hid ((E++[(⟨1,k,aB⟩:Ev)]++dL c).length<=1000000000):=(by simp;omega:(E++[(⟨1,k,aB⟩:Ev)]++dL c).length<=1000000000);obtain ⟨pl,cl,ah,_⟩:=C.out.1.re.shape;obtain ⟨nl,hnl⟩:∃nl,(E++[(⟨1,k,aB⟩:Ev)]++dL c).length=nl:=⟨_,rfl⟩;rw [hnl] at ah;subst ah;have u0:wr.cell? ⟨W.heap.size,0,none⟩=some (.int .u8 k):=af C.out.2.2 rfl;have ug:wr.cell? ⟨g,0,none⟩=some (.slice pl nl cl):=af C.out.1.hg rfl;have ul:=au C.out.2.2;have ay:=au C.out.1.hg;clear hnl
    go_wp2_with (at_builtin;refine In (by rfl) _ _ (by rfl) (.slice pl nl cl) (E++[⟨1,k,aB⟩]++dL c) ⟨3,k,aB⟩ (by rfl) (C.out.1.re.below (aP _ _)) wr.heap.size 1 (by rfl) (aq _ _) HZ.out ?_;intro v' w5 O U h3;obtain ⟨p5,c5,ae,_⟩:=O.shape;obtain ⟨I,hnl5⟩:∃I,((E++[(⟨1,k,aB⟩:Ev)]++dL c)++[(⟨3,k,aB⟩:Ev)]).length=I:=⟨_,rfl⟩;rw [hnl5] at ae;subst ae;obtain ⟨⟨x1,x2,x3⟩,x4,x5⟩:=C.out.1.push (aP _ _) O U h3;have HX:Hid (EI w0 g p (.slice p5 I c5) (E++om (.mk k d c)) (w5.setCell ⟨g,0,none⟩ (.slice p5 I c5))/\KT 110 g W (w5.setCell ⟨g,0,none⟩ (.slice p5 I c5))):=⟨by rw [aj.out];exact x4,C.out.2.1.trans x5⟩;clear x4 x5 O U h3 hnl5)
    go_end0
    exact ⟨rfl,⟨_,HX.out.1⟩,HX.out.2⟩
theorem dy (w0:World) (n:bQ):BE w0 n:=by
 obtain ⟨s,F⟩:∃s,Kl n=s:=⟨_,rfl⟩
 induction s using Nat.strongRecOn generalizing n with
 |ind s ih=>exact BP w0 n (fun m C=>ih (Kl m) (by rw [<-F];exact AB C) m rfl)
theorem GK (W:World) (o:Obj):EI W (W.heap.size+1) (W.heap.size+1+1) (.slice none 0 0) [] (((W.alloc o).alloc (.cells #[.slice none 0 0] 106)).alloc (.cells #[zI (W.heap.size+1) (W.heap.size+1+1)] 157)):=by
 have F:=gA W o;have I:=gA (W.alloc o) (.cells #[.slice none 0 0] 106);have C:=aP W o;have G:=aP (W.alloc o) (.cells #[.slice none 0 0] 106);have H:=aP ((W.alloc o).alloc (.cells #[.slice none 0 0] 106)) (.cells #[zI (W.heap.size+1) (W.heap.size+1+1)] 157);refine ⟨(C.trans (G.mono C.size)).trans (H.mono (by omega)),?_,?_,yq _,(fun k e=>by cases e),by omega,by omega⟩
 ·refine aD ?_ _;rw [<-F];exact aq _ _
 ·rw [<-F,<-I];exact aq _ _
theorem yV (n:bQ) (vn:Value) (W:World) (h:Nv W vn n) (I:(om n).length<=1000000000):Ta 38 #[vn] W fun r w'=>∃v',r=.returned v'/\BI W v' (om n) w':=by
 have J:=mkfn
 have HL:Hid (∀V,EI W (W.heap.size+1) (W.heap.size+1+1) (.slice none 0 0) [] V->Ta 75 #[vn,.pointer (some ⟨W.heap.size+1,0,none⟩),.pointer (some ⟨W.heap.size+1+1,0,none⟩)] V fun r w'=>r=.returned (.tuple #[])/\∃v',EI W (W.heap.size+1) (W.heap.size+1+1) v' (om n) w'):=fun V H=>by
  refine (dy W n vn h V _ _ _ _ H (by simpa using I)).mono ?_;rintro r w' ⟨rfl,v',C,_⟩;exact ⟨rfl,v',by simpa using C⟩
 obtain ⟨ao,cap,rfl,_⟩:=h
 go_enter Tryz.func38,Tryz.ntmps38
 go_wp2_with fail
 refine (HL.out _ (GK W _)).mono ?_;rintro r F ⟨rfl,v',C⟩;obtain ⟨pv,cv,hv,_⟩:=C.re.shape;obtain ⟨nl,hnl⟩:∃nl,(om n).length=nl:=⟨_,rfl⟩;rw [hnl] at hv;subst hv;have O:F.cell? ⟨W.heap.size+1,0,none⟩=some (.slice pv nl cv):=af C.hg rfl;have M:W.heap.size+1<F.heap.size:=au C.hg;have G:Hid (BI W (.slice pv nl cv) (om n) F):=⟨C.bel,C.re,C.vB⟩;clear C HL hnl
 go_wp2_with fail
 go_ret
 exact ⟨_,rfl,G.out⟩
def nc (n:bQ) (s:Value):List Value:=[.int .u8 n.k,.int .u8 n.d.k,.string n.d.t,.int .i64 n.d.a,.int .i64 n.d.l,.int .i64 n.d.c,.int .i64 n.d.f,s]
theorem N8 (x:bQ × Value):(nc x.1 x.2).length=8:=rfl
def FR (c:List bQ) (vs:List Value):List Value:=bB (fun x:bQ × Value=>nc x.1 x.2) (c.zip vs)
theorem FQ (c:List bQ) (vs:List Value) (h:vs.length=c.length) (n:bQ) (s:Value):FR (c++[n]) (vs++[s])=FR c vs++nc n s:=by
 unfold FR;rw [List.zip_append h.symm,cz];simp [bB]
theorem N7 {i:Nat}{n:bQ}{s u:Value}(C:c[j]?=some n) (F:vs[j]?=some s) (G:(nc n s)[i]?=some u):(FR c vs)[j*8+i]?=some u:=by
 refine aR _ 8 N8 _ j i (n,s) u ?_ G;rw [List.getElem?_zip_eq_some];exact ⟨C,F⟩
def RN (W:World) (sv:Value) (c:List bQ) (vs:List Value):Prop:=vs.length=c.length/\W.ownsRow 0 72 8 sv c.length (FR c vs)
theorem RN.shape (h:RN W sv c vs):∃p cap,sv=.slice p c.length cap/\c.length<=cap/\cap<=maxLen:=aK h.2
theorem RN.kp {S:Nat->Prop}{W W':World}{sv:Value}{c:List bQ}{vs:List Value}(h:RN W sv c vs) (F:Kp S W W') (C:∀k,sv.ownBlock=some k->¬S k):RN W' sv c vs:=⟨h.1,F.row h.2 C⟩
theorem RN.lt (h:RN W sv c vs):∀k,sv.ownBlock=some k->k<W.heap.size:=by
 intro k C
 rcases h.2.2 with ⟨rfl,_⟩|⟨b,cap,G,rfl,_,F,_⟩
 ·cases C
 ·simp only [Value.ownBlock,Tp] at C;subst C;exact au F
theorem ET (W:World):RN W (.slice none 0 0) [] []:=⟨rfl,TU W 0 72 8⟩
mutual
def TN (O:Nat->Prop) (W:World):bQ->Value->Prop
 |.mk _ _ c,sv=>∃vs,RN W sv c vs/\(∀k,sv.ownBlock=some k->O k)/\TL O W c vs
def TL (O:Nat->Prop) (W:World):List bQ->List Value->Prop
 |[],vs=>vs=[]
 |n :: r,vs=>∃x vr,vs=x :: vr/\TN O W n x/\TL O W r vr
end
theorem lH (O:Nat->Prop) (W:World) (k:Int) (d:Tv):TN O W (.mk k d []) (.slice none 0 0):=by
 rw [TN];exact ⟨[],ET W,(fun k C=>by cases C),by rw [TL]⟩
mutual
theorem TN.kp {O S:Nat->Prop}{W W':World}(G:Kp S W W') (F:∀k,O k->¬S k):∀(n:bQ) (x:Value),TN O W n x->TN O W' n x
 |.mk _ _ c,x,h=>by
  rw [TN] at h ⊢;obtain ⟨vs,H,C,I⟩:=h;exact ⟨vs,H.kp G (fun k e=>F k (C k e)),C,TL.kp G F c vs I⟩
theorem TL.kp {O S:Nat->Prop} {W W':World} (F:Kp S W W') (C:∀k,O k->¬S k):∀(c:List bQ) (vs:List Value),TL O W c vs->TL O W' c vs
 |[],vs,h=>by rw [TL] at h ⊢;exact h
 |n :: r,vs,h=>by
  rw [TL] at h ⊢;obtain ⟨x,G,H,I,J⟩:=h;exact ⟨x,G,H,TN.kp F C n x I,TL.kp F C r G J⟩
end
mutual
theorem TN.sub {O C:Nat->Prop}{W:World}(G:∀k,k<W.heap.size->O k->C k):∀(n:bQ) (x:Value),TN O W n x->TN C W n x
 |.mk _ _ c,x,h=>by
  rw [TN] at h ⊢;obtain ⟨vs,F,H,I⟩:=h;exact ⟨vs,F,fun k e=>G k (F.lt k e) (H k e),TL.sub G c vs I⟩
theorem TL.sub {O C:Nat->Prop} {W:World} (F:∀k,k<W.heap.size->O k->C k):∀(c:List bQ) (vs:List Value),TL O W c vs->TL C W c vs
 |[],vs,h=>by rw [TL] at h ⊢;exact h
 |n :: r,vs,h=>by
  rw [TL] at h ⊢;obtain ⟨x,G,H,I,J⟩:=h;exact ⟨x,G,H,TN.sub F n x I,TL.sub F r G J⟩
end
theorem TL.app {O:Nat->Prop}{n:bQ}{x:Value}(C:TN O W n x):∀{c:List bQ}{vs:List Value},TL O W c vs->TL O W (c++[n]) (vs++[x])
 |[],vs,h=>by
  rw [TL] at h;subst h;rw [TB,TB,TL];exact ⟨x,[],rfl,C,by rw [TL]⟩
 |m :: r,vs,h=>by
  rw [TL] at h;obtain ⟨y,H,rfl,F,G⟩:=h;rw [Tr,Tr,TL];exact ⟨y,H++[x],rfl,F,TL.app C G⟩
theorem TL.at {O:Nat->Prop}:∀{c:List bQ}{vs:List Value}{j:Nat}{n:bQ},TL O W c vs->c[j]?=some n->∃x,vs[j]?=some x/\TN O W n x
 |[],vs,j,n,h,hj=>by simp at hj
 |m :: r,vs,0,n,h,hj=>by
  rw [TL] at h;obtain ⟨y,G,rfl,C,F⟩:=h;simp at hj;subst hj;exact ⟨y,rfl,C⟩
 |m :: r,vs,j+1,n,h,hj=>by
  rw [TL] at h;obtain ⟨y,G,rfl,C,F⟩:=h;obtain ⟨x,a,b⟩:=TL.at F (j:=j) (n:=n) (by simpa using hj);exact ⟨x,by simpa using a,b⟩
theorem RN.cell {W:World}{sv:Value}{c:List bQ}{vs:List Value}(h:RN W sv c vs) {g n cap:Nat}(H:sv=.slice (some ⟨g,0,none⟩) n cap) {j i:Nat}{m:bQ}{s u:Value}(C:c[j]?=some m) (F:vs[j]?=some s) (G:(nc m s)[i]?=some u):W.cell? ⟨g,j*8+i,none⟩=some u:=by
 have:=h.2.cells (g:=g) (n:=c.length) (by rw [H];rfl) (j*8+i) u (N7 C F G);rw [UA,Td] at this;exact this
theorem TN.see {O:Nat->Prop}(n:bQ):∀(x:Value),TN O W n x->Nv W (eF n.k n.d x) n:=by
 obtain ⟨s,Z⟩:∃s,Kl n=s:=⟨_,rfl⟩
 induction s using Nat.strongRecOn generalizing n with
 |ind s ih=>
  intro x h;obtain ⟨k,d,c⟩:=n;rw [TN] at h;obtain ⟨vs,h1,_,h3⟩:=h;have Y:=h1.2.2
  rcases Y with ⟨F,M⟩|⟨b,cap,aa,F,_,e3,Q,S,_⟩
  ·have:c=[]:=Tl M;subst this;subst F;exact ⟨none,0,rfl,gt _,SW _,(fun _=>rfl),(fun a G=>by cases G)⟩
  ·refine ⟨some ⟨b,0,none⟩,cap,by rw [F];rfl,Q,S,(fun h=>by cases h),fun a G=>?_⟩;cases G;refine .inr ⟨b,0,rfl,MD (fun j m H=>?_)⟩;obtain ⟨y,hy,U⟩:=TL.at h3 H;obtain ⟨ao,cp,q0,q1,q2,q3,q4⟩:=ih (Kl m) (by rw [<-Z];exact AB (T3 H)) m rfl y U
   have J:y=.slice ao m.c.length cp:=by
    simp only [eF,Value.agg.injEq] at q0;have:=Tm (fun a:Array Value=>a[7]?) q0
    simpa using this
   subst J
   have C:∀i u,(nc m (.slice ao m.c.length cp))[i]?=some u->W.cell? ⟨b,0+j*8+i,none⟩=some u:=fun i u hu=>by
    rw [Td];exact h1.cell F H hy hu
   have I:=C 0 _ rfl;obtain ⟨mk',md,mc⟩:=m;rw [HN];exact ⟨⟨I,C 1 _ rfl,C 2 _ rfl,C 3 _ rfl,C 4 _ rfl,C 5 _ rfl,C 6 _ rfl⟩,ao,cp,C 7 _ rfl,q1,q2,q3,q4⟩
def Le (w:World) (ao:Option Addr) (l:List Ev):Prop:=∀j d,l[j]?=some d->∃b off,ao=some ⟨b,off,none⟩ /\
 w.cell? ⟨b,off+j*8,none⟩=some (.int .u8 d.k)/\w.cell? ⟨b,off+j*8+1,none⟩=some (.int .u8 d.n)/\w.cell? ⟨b,off+j*8+2,none⟩=some (.int .u8 d.d.k)/\w.cell? ⟨b,off+j*8+3,none⟩=some (.string d.d.t)/\w.cell? ⟨b,off+j*8+4,none⟩=some (.int .i64 d.d.a)/\w.cell? ⟨b,off+j*8+5,none⟩=some (.int .i64 d.d.l)/\w.cell? ⟨b,off+j*8+6,none⟩=some (.int .i64 d.d.c)/\w.cell? ⟨b,off+j*8+7,none⟩=some (.int .i64 d.d.f)
theorem Le.row (h:Re w v l):∃ao cap,v=.slice ao l.length cap/\Le w ao l/\(ao=none\/∃g,ao=some ⟨g,0,none⟩/\g<w.heap.size)/\l.length<=cap/\cap<=maxLen:=by
 rcases h.2 with ⟨rfl,F⟩|⟨g,cap,O,rfl,U,I,G,H,Q,S⟩
 ·have:l=[]:=Tl F;subst this;exact ⟨none,0,rfl,fun j d h=>by simp at h,.inl rfl,SW _,SW _⟩
 ·refine ⟨some ⟨g,0,none⟩,cap,rfl,?_,.inr ⟨g,rfl,au I⟩,G,H⟩;intro j d J
  have C:∀(i:Nat) (u:Value),d.cs[i]?=some u->w.cell? ⟨g,0+j*8+i,none⟩=some u:=fun i u M=>by
   have:=Vd h (g:=g) rfl _ u (aR Ev.cs 8 Ev.cs_len l j i d _ J M);rw [UA,Td] at this;rw [Td];exact this
  exact ⟨g,0,rfl,C 0 _ rfl,C 1 _ rfl,C 2 _ rfl,C 3 _ rfl,C 4 _ rfl,C 5 _ rfl,C 6 _ rfl,C 7 _ rfl⟩
theorem JB (w:World):(sizeOf 110).run Tryz.prog w=.ok 8 w:=by kernel_rfl
theorem Le.tail {w:World}{ao:Option Addr}{e:Ev}{r:List Ev}{cap:Nat}(h:Le w ao (e :: r)) (hc:r.length+1<=cap) (hm:cap<=maxLen) :
  ∃b C G F,ao=some ⟨b,C,none⟩/\b<w.heap.size/\(w.cell? ⟨b,C,none⟩=some (.int .u8 e.k)/\w.cell? ⟨b,C+1,none⟩=some (.int .u8 e.n)/\w.cell? ⟨b,C+2,none⟩=some (.int .u8 e.d.k)/\w.cell? ⟨b,C+3,none⟩=some (.string e.d.t)/\w.cell? ⟨b,C+4,none⟩=some (.int .i64 e.d.a)/\w.cell? ⟨b,C+5,none⟩=some (.int .i64 e.d.l)/\w.cell? ⟨b,C+6,none⟩=some (.int .i64 e.d.c)/\w.cell? ⟨b,C+7,none⟩=some (.int .i64 e.d.f)) /\
   (∀W,(Instr.slice 106 (.slice (some ⟨b,C,none⟩) (r.length+1) cap) (some (.int .i64 1)) none none).run Tryz.prog W=.ok (.slice G r.length F) W)/\r.length<=F/\F<=maxLen/\Le w G r:=by
 obtain ⟨b,C,h1,c0,c1,c2,c3,c4,I,c6,J⟩:=h 0 e rfl;have H:=S9 _ _ c0;rw [Nat.zero_mul,TS] at c0 c1 c2 c3 c4 I c6 J
 have run:∀W,(Instr.slice 106 (.slice (some ⟨b,C,none⟩) (r.length+1) cap) (some (.int .i64 1)) none none).run Tryz.prog W=.ok (sliced (some ⟨b,C,none⟩) 1 (r.length+1) cap 8) W:=fun W=>by
  rw [run_slice_l W 106 _ _ _ (by kernel_rfl) .i64 1 (by omega) (by omega)];have:Tryz.prog.elem 106=110:=by kernel_rfl
  rw [this,JB];rfl
 subst h1
 by_cases Q:cap=1
 ·have hr:r=[]:=Tl (by omega);subst hr;subst Q;refine ⟨b,C,some ⟨b,C,none⟩,0,rfl,H,⟨c0,c1,c2,c3,c4,I,c6,J⟩,fun W=>(run W).trans ?_,gt _,SW _,fun j d M=>by simp at M⟩;simp [sliced]
 ·refine ⟨b,C,some ⟨b,C+8,none⟩,cap-1,rfl,H,⟨c0,c1,c2,c3,c4,I,c6,J⟩,fun W=>(run W).trans ?_,by omega,by omega,fun j d M=>?_⟩
  ·simp [sliced,Q,UA]
  ·obtain ⟨b',aa,O,S,U,Y,Z,x4,x5,x6,x7⟩:=h (j+1) d (by simpa using M);simp only [Tp,Addr.mk.injEq] at O;obtain ⟨rfl,rfl,_⟩:=O;rw [show C+(j+1)*8=C+8+j*8 by omega] at S U Y Z x4 x5 x6 x7;exact ⟨b,C+8,rfl,S,U,Y,Z,x4,x5,x6,x7⟩
def uM (r:List Ev) (n:bQ):List (Int × List bQ)->Option bQ
 |[]=>if n.k=0 then none else if r=[] then some n else none
 |x :: S=>gx r (NJ n (x :: S))
def QS (a:Nat) (l:List Ev) (n:bQ) (r:List Ev):Prop:=∀S,S.length=a->gx l S=uM r n S
def IS (a:Nat) (l:List Ev):Prop:=∀S,S.length=a->gx l S=none
theorem CT {a:Nat}{e:Ev}{r:List Ev}(h:e.k=uS e.d):QS a (e :: r) (.mk 0 e.d []) r:=by
 intro S _;have C:¬e.k=1:=by rw [h];unfold uS;split <;> decide
 have F:¬e.k=3:=by rw [h];unfold uS;split <;> decide
 have G:(e.k=2/\cm e.d=false)\/(e.k=4/\cm e.d=true):=by
  rw [h];unfold uS;cases H:cm e.d
  ·exact .inl ⟨by simp,rfl⟩
  ·exact .inr ⟨by simp,rfl⟩
 simp only [gx];rw [Eq C,Eq F,IO G];cases S with
 |nil=>simp [uM,bQ.k]
 |cons x S=>obtain ⟨k,c⟩:=x;simp [uM,NJ]
theorem F0 {a:Nat}{e:Ev}{r:List Ev}(F:e.k≠1) (h:e.k≠uS e.d) (G:e.k=3->a=0):IS a (e :: r):=by
 intro S H;simp only [gx];rw [Eq F]
 by_cases C:e.k=3
 ·grind
 ·rw [Eq C,Eq];rintro (⟨x,y⟩|⟨x,y⟩)
  ·exact h (by rw [x];unfold uS;rw [y];rfl)
  ·exact h (by rw [x];unfold uS;rw [y];rfl)
theorem vY (C:e.k=1) (h:e.n=0\/1000<=a):IS a (e :: r):=by
 intro S F;simp only [gx];rw [IO C,IO (by rw [F];exact h)]
def DQ (a:Nat) (l:List Ev) (k:Int) (c:List bQ) (r:List Ev):Prop:=∀S,S.length=a->gx l S=gx r ((k,c) :: S)
theorem Fy (C:e.k=1) (h:¬(e.n=0\/1000<=a)):DQ a (e :: r) e.n [] r:=by
 intro S F;simp only [gx];rw [IO C,Eq (by rw [F];exact h)]
theorem DQ.kid {r':List Ev}{n:bQ}(h:DQ a l k c r) (F:QS (a+1) r n r'):DQ a l k (c++[n]) r':=by
 intro S C;rw [h S C,F ((k,c) :: S) (by simp [C])];rfl
theorem DQ.bad (h:DQ a l k c r) (F:IS (a+1) r):IS a l:=by
 intro S C;rw [h S C];exact F _ (by simp [C])
theorem DQ.nil (h:DQ a l k c []):IS a l:=by
 intro S C;rw [h S C];rfl
theorem DQ.other (h:DQ a l k c (e :: r)) (C:e.k=3) (G:e.n≠k):IS a l:=by
 intro S F;rw [h S F];simp only [gx];rw [Eq (by rw [C];decide),IO C];rw [Eq (fun e=>G e.symm)]
theorem DQ.shut (h:DQ a l k c (e :: r)) (C:e.k=3) (H:e.n=k) (G:k≠0):QS a l (.mk k aB c) r:=by
 intro S F;rw [h S F];simp only [gx];rw [Eq (by rw [C];decide),IO C];rw [IO H.symm];cases S with
 |nil=>simp [uM,bQ.k,G]
 |cons x S=>obtain ⟨J,I⟩:=x;simp [uM,NJ]
end Go.Proofs.YtcjiapphbpiffaaGreatDoor
