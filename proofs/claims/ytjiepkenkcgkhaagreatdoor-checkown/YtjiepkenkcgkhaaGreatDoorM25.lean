import Derived.ShutString
import Derived.ChangeOld
import Derived.Lib.SmallJoins
import Derived.Carry
import Derived.Deep.Slices
import Derived.Deep.RegionHeld3
import Derived.Deep.RegionWith
import Derived.WalkMore
import Derived.Laws.EntriesVeiled
import Derived.Test.YtjiepkenkcgkhaaGreatDoorM01
set_option linter.unusedVariables false
set_option linter.unusedSimpArgs false
set_option maxHeartbeats 1000000
set_option maxRecDepth 100000
namespace Go.Proofs.YtjiepkenkcgkhaaGreatDoor
inductive bO|mk (k:Int) (d:Tv) (c:List bO)
def bO.k:bO->Int|.mk k _ _=>k
def bO.d:bO->Tv|.mk _ d _=>d
def bO.c:bO->List bO|.mk _ _ c=>c
def cm (t:Tv):Bool:=t.k == 7 || t.k == 8
def Kx (d:Tv):Ev:=if cm d then ⟨4,0,d⟩ else ⟨2,0,d⟩
mutual
def nN:bO->List Ev
 |.mk k d c=>if k=0 then [Kx d] else ⟨1,k,aB⟩ :: (dr c++[⟨3,k,aB⟩])
def dr:List bO->List Ev
 |[]=>[]
 |n :: r=>nN n++dr r
end
def fZ:List Ev->List (Int × List bO)->Option bO
 |[],_=>none
 |e :: l,S=>
  if e.k=1 then (if e.n=0\/1000<=S.length then none else fZ l ((e.n,[]) :: S))
  else if e.k=3 then (match S with
   |[]=>none
   | (k,c) :: S'=>if k=e.n then (match S' with
    |[]=>if l=[] then some (.mk k aB c) else none
    | (k',c') :: S2=>fZ l ((k',c'++[.mk k aB c]) :: S2)) else none)
  else if (e.k=2/\cm e.d=false)\/(e.k=4/\cm e.d=true) then (match S with
   |[]=>none
   | (k,c) :: S'=>fZ l ((k,c++[.mk 0 e.d []]) :: S'))
  else none
def Ma (n:bO):List (Int × List bO)->List (Int × List bO)
 |[]=>[]
 | (k,c) :: S=>(k,c++[n]) :: S
def zj (e:Ev):Ev:=if e.k=1\/e.k=3 then ⟨e.k,e.n,aB⟩ else ⟨e.k,0,e.d⟩
theorem kL (a b:List bO):dr (a++b)=dr a++dr b:=by
 induction a with
 |nil=>simp [dr]
 |cons x r ih=>simp [dr,ih]
def IL:List (Int × List bO)->List Ev
 |[]=>[]
 | (k,c) :: S=>IL S++(⟨1,k,aB⟩ :: dr c)
theorem nM:∀(l:List Ev) (S:List (Int × List bO)) (n:bO),fZ l S=some n->(∀x∈S,x.1≠0)->nN n=IL S++l.map zj/\n.k≠0
 |[],S,n,h,_=>by simp [fZ] at h
 |e :: l,S,n,h,hS=>by
  simp only [fZ] at h
  by_cases h1:e.k=1
  ·rw [IO h1] at h
   split at h
   ·cases h
   ·rename_i hc
    have hn:e.n≠0:=fun x=>hc (.inl x)
    obtain ⟨a,b⟩:=nM l ((e.n,[]) :: S) n h (fun x hx=>by
     rcases Rg.1 hx with rfl|hx
     ·exact hn
     ·exact hS x hx)
    refine ⟨?_,b⟩;rw [a];have:zj e=⟨1,e.n,aB⟩:=by simp [zj,h1]
    simp [IL,dr,this]
  ·rw [Eq h1] at h
   by_cases h3:e.k=3
   ·rw [IO h3] at h;have hr:zj e=⟨3,e.n,aB⟩:=by simp [zj,h3]
    cases S with
    |nil=>cases h
    |cons x S'=>
     obtain ⟨k,c⟩:=x;simp only at h;have hk:k≠0:=hS (k,c) (QN ..)
     split at h
     ·rename_i hke
      subst hke;have hev:nN (.mk e.n aB c)=⟨1,e.n,aB⟩ :: (dr c++[⟨3,e.n,aB⟩]):=by simp [nN,hk]
      cases S' with
      |nil=>
       simp only at h
       split at h
       ·rename_i hl
        cases h;subst hl;refine ⟨?_,hk⟩;rw [hev];simp [IL,hr]
       ·cases h
      |cons y S2=>
       obtain ⟨k',c'⟩:=y;simp only at h
       obtain ⟨a,b⟩:=nM l ((k',c'++[.mk e.n aB c]) :: S2) n h (fun x hx=>by
        rcases Rg.1 hx with rfl|hx
        ·exact hS (k',c') (by simp)
        ·exact hS x (by simp [hx]))
       refine ⟨?_,b⟩;rw [a];simp [IL,kL,dr,hev,hr]
     ·cases h
   ·rw [Eq h3] at h
    split at h
    ·rename_i hc
     cases S with
     |nil=>cases h
     |cons x S'=>
      obtain ⟨k,c⟩:=x;simp only at h
      obtain ⟨a,b⟩:=nM l ((k,c++[.mk 0 e.d []]) :: S') n h (fun x hx=>by
       rcases Rg.1 hx with rfl|hx
       ·exact hS (k,c) (QN ..)
       ·exact hS x (QO _ hx))
      refine ⟨?_,b⟩;rw [a]
      have hr:zj e=Kx e.d:=by
       have:zj e=⟨e.k,0,e.d⟩:=by simp [zj,h1,h3]
       rw [this];unfold Kx
       rcases hc with ⟨a1,a2⟩|⟨a1,a2⟩
       ·rw [a1,a2];rfl
       ·rw [a1,a2];rfl
      have he:nN (.mk 0 e.d [])=[Kx e.d]:=by simp [nN]
      simp [IL,kL,dr,he,hr]
    ·cases h
theorem BV {l:List Ev}{n:bO}(h:fZ l []=some n):nN n=l.map zj/\n.k≠0:=by
 have:=nM l [] n h (fun x hx=>by cases hx)
 simpa [IL] using this
end Go.Proofs.YtjiepkenkcgkhaaGreatDoor
namespace Go.Proofs.YtjiepkenkcgkhaaGreatDoor
open Go.ChangeShapes Go.WideShapes Go.ChangeAt Go.RowKit
variable {W W':World}{b:Nat}
mutual
def HN (W:World) (b o:Nat):bO->Prop
 |.mk k d c=>(W.cell? ⟨b,o,none⟩=some (.int .u8 k)/\W.cell? ⟨b,o+1,none⟩=some (.int .u8 d.k)/\W.cell? ⟨b,o+2,none⟩=some (.string d.t)/\W.cell? ⟨b,o+3,none⟩=some (.int .i64 d.a)/\W.cell? ⟨b,o+4,none⟩=some (.int .i64 d.l)/\W.cell? ⟨b,o+5,none⟩=some (.int .i64 d.c)/\W.cell? ⟨b,o+6,none⟩=some (.int .i64 d.f)) /\
  ∃ao cap,W.cell? ⟨b,o+7,none⟩=some (.slice ao c.length cap)/\c.length<=cap/\cap<=maxLen/\(ao=none->c=[])/\∀a,ao=some a->c=[]\/∃b' o',a=⟨b',o',none⟩/\HL W b' o' c
def HL (W:World) (b o:Nat):List bO->Prop
 |[]=>True
 |n :: r=>HN W b o n/\HL W b (o+8) r
end
theorem HL.at :∀{l:List bO}{o:Nat},HL W b o l->∀{j:Nat}{n:bO},l[j]?=some n->HN W b (o+j*8) n
 |[],o,_,j,n,hj=>by simp at hj
 |x :: r,o,h,0,n,hj=>by
  simp at hj;subst hj;rw [HL] at h
  simpa using h.1
 |x :: r,o,h,j+1,n,hj=>by
  rw [HL] at h;have:=HL.at h.2 (j:=j) (n:=n) (by simpa using hj);rw [show o+(j+1)*8=o+8+j*8 by omega];exact this
theorem KO :∀{l:List bO}{o:Nat},(∀j n,l[j]?=some n->HN W b (o+j*8) n)->HL W b o l
 |[],o,_=>by rw [HL];trivial
 |x :: r,o,h=>by
  rw [HL];refine ⟨by simpa using h 0 x rfl,KO (fun j n hj=>?_)⟩;have:=h (j+1) n (by simpa using hj);rw [show o+8+j*8=o+(j+1)*8 by omega];exact this
mutual
theorem HN.below (hb:Below W.heap.size W W'):∀(n:bO) (b o:Nat),HN W b o n->HN W' b o n
 |.mk k d c,b,o,h=>by
  rw [HN] at h ⊢;obtain ⟨⟨h0,h1,h2,h3,h4,h5,h6⟩,ao,cap,h7,h8,h9,h10,h11⟩:=h;have e:W'.heap[b]?=W.heap[b]?:=hb.block b (QP _ _ h0);have tr:∀j u,W.cell? ⟨b,j,none⟩=some u->W'.cell? ⟨b,j,none⟩=some u:=fun j u hu=>(QS (a:=⟨b,j,none⟩) e).trans hu
  exact ⟨⟨tr _ _ h0,tr _ _ h1,tr _ _ h2,tr _ _ h3,tr _ _ h4,tr _ _ h5,tr _ _ h6⟩,ao,cap,tr _ _ h7,h8,h9,h10,fun a ea=>(h11 a ea).imp id (fun ⟨b',o',e2,hl⟩=>⟨b',o',e2,HL.below hb c b' o' hl⟩)⟩
theorem HL.below  (hb:Below W.heap.size W W'):∀(l:List bO) (b o:Nat),HL W b o l->HL W' b o l
 |[],b,o,_=>by rw [HL];trivial
 |n :: r,b,o,h=>by
  rw [HL] at h ⊢;exact ⟨HN.below hb n b o h.1,HL.below hb r b (o+8) h.2⟩
end
def Nv (W:World) (v:Value) (n:bO):Prop:=∃ao cap,v=.agg #[.int .u8 n.k,.int .u8 n.d.k,.string n.d.t,.int .i64 n.d.a,.int .i64 n.d.l,.int .i64 n.d.c,.int .i64 n.d.f,.slice ao n.c.length cap]/\n.c.length<=cap/\cap<=maxLen/\(ao=none->n.c=[])/\(∀a,ao=some a->n.c=[]\/∃b o,a=⟨b,o,none⟩/\HL W b o n.c)
mutual
def IT:bO->Nat
 |.mk k d c=>IS c+1
def IS:List bO->Nat
 |[]=>0
 |n :: r=>IT n+IS r
end
theorem zi {n m:bO}(h:m∈n.c):IT m<IT n:=by
 obtain ⟨k,d,c⟩:=n
 have key:∀(c:List bO),m∈c->IT m<=IS c:=by
  intro c
  induction c with
  |nil=>intro h;cases h
  |cons x r ih=>
   intro h;simp only [IS]
   rcases Rg.1 h with rfl|h
   ·omega
   ·have:=ih h;omega
 have:=key c h;simp only [IT];omega
end Go.Proofs.YtjiepkenkcgkhaaGreatDoor
namespace Go.Proofs.YtjiepkenkcgkhaaGreatDoor
open Go.RowKit
variable {c:List bO}{W w0 w V:World}{a g p b j:Nat}{l r E:List Ev}{v sv:Value}{k:Int}{e:Ev}{vs:List Value}{ao:Option Addr}
theorem aO (W:World) (o:Obj):Below W.heap.size W (W.alloc o):=(hH _ _).alloc (gt _) _
theorem dL {v:World}(h:Below b w v):∀m,Below b w (v.drewN m)
 |0=>h
 |m+1=>(dL h m).drew
theorem EN {o:Nat}{n:bO}(h:HN W b o n):b<W.heap.size/\∃ao cap,(W.cell? ⟨b,o,none⟩=some (.int .u8 n.k)/\W.cell? ⟨b,o+1,none⟩=some (.int .u8 n.d.k)/\W.cell? ⟨b,o+2,none⟩=some (.string n.d.t)/\W.cell? ⟨b,o+3,none⟩=some (.int .i64 n.d.a)/\W.cell? ⟨b,o+4,none⟩=some (.int .i64 n.d.l)/\W.cell? ⟨b,o+5,none⟩=some (.int .i64 n.d.c)/\W.cell? ⟨b,o+6,none⟩=some (.int .i64 n.d.f)/\W.cell? ⟨b,o+7,none⟩=some (.slice ao n.c.length cap))/\n.c.length<=cap/\cap<=maxLen/\(ao=none->n.c=[])/\(∀a,ao=some a->n.c=[]\/∃b' o',a=⟨b',o',none⟩/\HL W b' o' n.c):=by
 obtain ⟨k,d,c⟩:=n;rw [HN] at h;obtain ⟨⟨h0,h1,h2,h3,h4,h5,h6⟩,ao,cap,h7,h8,h9,h10,h11⟩:=h;exact ⟨QP _ _ h0,ao,cap,⟨h0,h1,h2,h3,h4,h5,h6,h7⟩,h8,h9,h10,h11⟩
theorem Kp.low {S:Nat->Prop}{B:Nat}{W':World}(h:Below B w W) (hk:Kp S W W') (hS:∀k,S k->B<=k) (hB:B<=W.heap.size):Below B w W':=
 ⟨hk.os.trans h.os,hk.tape.trans h.tape,hk.output.trans h.output,QQ h.size hk.size,fun k hlt=>(hk.block k (by omega) (fun hs=>by have:=hS k hs;omega)).trans (h.block k hlt)⟩
structure BI (W:World) (v:Value) (E:List Ev) (V:World):Prop where
 bel:Below W.heap.size W V
 re:Re V v E
 vB:∀k,v.ownBlock=some k->W.heap.size<=k
theorem BW {m:bO}(h:c[j]?=some m):dr (c.take (j+1))=dr (c.take j)++nN m:=by
 rw [S5,h,kL];simp [dr]
theorem zI {c:List bO}{j:Nat}:(dr (c.take j)).length<=(dr c).length:=by
 have:dr c=dr (c.take j)++dr (c.drop j):=by rw [<-kL,RJ]
 rw [this,Or];omega
abbrev bv (k:Int) (d:Tv) (s:Value):Obj:=.cells #[.int .u8 k,.int .u8 d.k,.string d.t,.int .i64 d.a,.int .i64 d.l,.int .i64 d.c,.int .i64 d.f,s] 54
theorem Nv.kid (h:(ao=none->c=[])/\∀a,ao=some a->c=[]\/∃b o,a=⟨b,o,none⟩/\HL W b o c) {V:World}(hb:Below W.heap.size W V) {j:Nat}{m:bO}(hm:c[j]?=some m) :
  ∃b o,ao=some ⟨b,o,none⟩/\b<V.heap.size/\∃ao2 cap2,(V.cell? ⟨b,o+j*8,none⟩=some (.int .u8 m.k)/\V.cell? ⟨b,o+j*8+1,none⟩=some (.int .u8 m.d.k)/\V.cell? ⟨b,o+j*8+2,none⟩=some (.string m.d.t)/\V.cell? ⟨b,o+j*8+3,none⟩=some (.int .i64 m.d.a)/\V.cell? ⟨b,o+j*8+4,none⟩=some (.int .i64 m.d.l)/\V.cell? ⟨b,o+j*8+5,none⟩=some (.int .i64 m.d.c)/\V.cell? ⟨b,o+j*8+6,none⟩=some (.int .i64 m.d.f)/\V.cell? ⟨b,o+j*8+7,none⟩=some (.slice ao2 m.c.length cap2)) /\
   Nv V (.agg #[.int .u8 m.k,.int .u8 m.d.k,.string m.d.t,.int .i64 m.d.a,.int .i64 m.d.l,.int .i64 m.d.c,.int .i64 m.d.f,.slice ao2 m.c.length cap2]) m:=by
 have hlt:=(QT.1 hm).1;cases ao with
 |none=>have:=h.1 rfl;subst this;simp at hlt
 |some a=>
  obtain ⟨b,o,rfl,hl⟩:=(h.2 a rfl).resolve_left (fun e=>by subst e;simp at hlt);obtain ⟨hbl,ao2,cap2,hc,p1,p2,p3,p4⟩:=EN (HL.at (HL.below hb c b o hl) hm);exact ⟨b,o,rfl,hbl,ao2,cap2,hc,ao2,cap2,rfl,p1,p2,p3,p4⟩
abbrev dY (k:Int) (d:Tv) (s:Value):Value:=.agg #[.int .u8 k,.int .u8 d.k,.string d.t,.int .i64 d.a,.int .i64 d.l,.int .i64 d.c,.int .i64 d.f,s]
theorem jk (k:Int) (d:Tv) (ao:Option Addr) (n cap:Nat) (W:World):Ra 70 #[dY k d (.slice ao n cap)] W fun r w'=>r=.returned (.bool (k == 0))/\Below W.heap.size W w':=by
 go_enter Tryz.func70,Tryz.ntmps70
 go_wp2_with fail
 go_ret
 exact ⟨rfl,aO _ _⟩
def tV (t:Tv):Int:=if cm t then 4 else 2
theorem pi (t:Tv) (W:World):Ra 71 #[t.v] W fun r w'=>r=.returned (.int .u8 (tV t))/\Below W.heap.size W w':=by
 unfold tV cm
 dsimp only [Tv.v]
 obtain ⟨b7,e7⟩:∃b,(t.k == 7)=b:=⟨_,rfl⟩;obtain ⟨b8,e8⟩:∃b,(t.k == 8)=b:=⟨_,rfl⟩;rw [e7,e8];cases b7
 ·cases b8
  ·go_enter Tryz.func71,Tryz.ntmps71
   go_wp2_with fail
   go_ret
   exact ⟨rfl,aO _ _⟩
  ·go_enter Tryz.func71,Tryz.ntmps71
   go_wp2_with fail
   go_ret
   exact ⟨rfl,aO _ _⟩
 ·go_enter Tryz.func71,Tryz.ntmps71
  go_wp2_with fail
  go_ret
  exact ⟨rfl,aO _ _⟩
theorem G6 (d:Tv):Kx d=⟨tV d,0,d⟩:=by
 unfold Kx tV
 split <;> rfl
theorem PW (h:(ao=none->c=[])/\∀a,ao=some a->c=[]\/∃b o,a=⟨b,o,none⟩/\HL w0 b o c) {V:World}(hb:Below w0.heap.size w0 V) {j:Nat}{m:bO}(hm:c[j]?=some m) :
  ∃b o,ao=some ⟨b,o,none⟩/\b<V.heap.size/\∃ao2 cap2,(V.cell? ⟨b,o+j*8,none⟩=some (.int .u8 m.k)/\V.cell? ⟨b,o+j*8+1,none⟩=some (.int .u8 m.d.k)/\V.cell? ⟨b,o+j*8+2,none⟩=some (.string m.d.t)/\V.cell? ⟨b,o+j*8+3,none⟩=some (.int .i64 m.d.a)/\V.cell? ⟨b,o+j*8+4,none⟩=some (.int .i64 m.d.l)/\V.cell? ⟨b,o+j*8+5,none⟩=some (.int .i64 m.d.c)/\V.cell? ⟨b,o+j*8+6,none⟩=some (.int .i64 m.d.f)/\V.cell? ⟨b,o+j*8+7,none⟩=some (.slice ao2 m.c.length cap2)) /\
   Nv w0 (.agg #[.int .u8 m.k,.int .u8 m.d.k,.string m.d.t,.int .i64 m.d.a,.int .i64 m.d.l,.int .i64 m.d.c,.int .i64 m.d.f,.slice ao2 m.c.length cap2]) m:=by
 obtain ⟨b,o,e,hlt,ao2,cap2,⟨y0,y1,y2,y3,y4,y5,y6,y7⟩,hv⟩:=Nv.kid h (hH _ _) hm;have tr:∀i u,w0.cell? ⟨b,i,none⟩=some u->V.cell? ⟨b,i,none⟩=some u:=fun i u hu=>(QS (a:=⟨b,i,none⟩) (hb.block b hlt)).trans hu
 exact ⟨b,o,e,Q1 hlt hb.size,ao2,cap2,⟨tr _ _ y0,tr _ _ y1,tr _ _ y2,tr _ _ y3,tr _ _ y4,tr _ _ y5,tr _ _ y6,tr _ _ y7⟩,hv⟩
theorem gk (W:World) (o:Obj):(W.alloc o).heap.size=W.heap.size+1:=QL _ _
theorem Hm {ops:Array Oper}{o:Oper}{a:Act}{K:Act->World->Prop}{Q:Exit->Act->World->Prop}{E:Prop}(hgd:o.guard=none) (s x:Operand)
  (ho:o.op=.call { callee:=.builtin .append,args:=#[s,x],argTypes:=#[90,90] }) (v:Value) (l:List Ev) (d:Ev) (hs:a.eval s=v) (hr:Re W v l)
  (g c:Nat) (hx:a.eval x=.slice (some ⟨g,0,none⟩) 1 c) (hg:W.heap[g]?=some (.cells #[.int .u8 d.k,.int .u8 d.n,.int .u8 d.d.k,.string d.d.t,.int .i64 d.d.a,.int .i64 d.d.l,.int .i64 d.d.c,.int .i64 d.d.f] 94 (0,0))) (hl:l.length<=1000000000)
  (h:∀q cap w',Re w' (.slice (some ⟨q,0,none⟩) (l.length+1) cap) (l++[d])->W.grownBy w' v.ownBlock->Nb W v (.slice (some ⟨q,0,none⟩) (l.length+1) cap)->K (a.put o.dst (.slice (some ⟨q,0,none⟩) (l.length+1) cap)) w') :
  if Region.wanted o (yielded ops a.tmps)=true then Oper.wp Tryz.prog o a W K Q else E:=by
 obtain ⟨i0,hi,hz0,hz1,hz2⟩:=Sa Tryz.info94;refine TI W hgd s x 90 ho 0 94 i0 _ 8 64 UU hi hz0 hz1 hz2 rfl (by decide) v _ _ hs hr ⟨g,0,none⟩ 1 c (wM [d]) hx (by rw [s9];rfl) ?_ (sZ [d]) (by omega) (by unfold maxLen;omega) (by omega) (QK _) _ rfl ?_
 ·intro j u hu;refine RW hg j u ?_;have e:wM [d]=[.int .u8 d.k,.int .u8 d.n,.int .u8 d.d.k,.string d.d.t,.int .i64 d.d.a,.int .i64 d.d.l,.int .i64 d.d.c,.int .i64 d.d.f]:=by simp [wM,bz,Ev.cs]
  rw [e] at hu
  simpa using hu
 ·intro q cap w' a1 a2 a3 _;refine h q cap w' ?_ a2 ?_
  ·unfold Re;rw [Or,tc];exact a1
  ·rcases a3 with a3|a3
   ·exact .inl a3.symm
   ·exact .inr ⟨q,rfl,by omega⟩
def Qy (T:TypeId) (W:World) (k:Nat):Prop:=∃cs f,W.heap[k]?=some (.cells cs T f)
def KT (T:TypeId) (g:Nat) (W w':World):Prop:=Kp (fun k=>k=g\/Qy T W k) W w'
theorem KT.trans {T:TypeId}{a b c:World}(h:KT T g a b) (k:KT T g b c):KT T g a c:=by
 refine ⟨k.os.trans h.os,k.tape.trans h.tape,k.output.trans h.output,QQ h.size k.size,fun j hj hS=>?_⟩;have e:=h.block j hj hS;refine (k.block j (Q1 hj h.size) (fun ht=>hS ?_)).trans e
 rcases ht with ht|⟨cs,f,ht⟩
 ·exact .inl ht
 ·exact .inr ⟨cs,f,by rw [<-e];exact ht⟩
theorem KT.of_below {T:TypeId}{g:Nat}{a b:World}(h:Below a.heap.size a b):KT T g a b:=Kp.of_below h
theorem KT.blk {T:TypeId}{g:Nat}{a b:World}(h:KT T g a b) {k:Nat}{cs:Array Value}{U:TypeId}{f:Nat × Nat}(hk:a.heap[k]?=some (.cells cs U f)) (hg:k≠g) (hT:U≠T):b.heap[k]?=some (.cells cs U f):=by
 refine Kp.blk h hk ?_;rintro (e|⟨cs',f',e⟩)
 ·exact hg e
 ·rw [hk] at e;injection e with e
  injection e with _ e
  exact hT e
theorem Ob (h:Re W v E):∀k,v.ownBlock=some k->Qy 94 W k:=by
 intro k hk
 rcases h.2 with ⟨rfl,_⟩|⟨b,cap,cur,rfl,_,h3,_⟩
 ·cases hk
 ·simp only [Value.ownBlock,Rp] at hk;subst hk;exact ⟨_,_,h3⟩
abbrev yv (g p:Nat):Value:=.func (.func 69) #[] #[.pointer (some ⟨g,0,none⟩),.pointer (some ⟨p,0,none⟩)]
structure EI (w0:World) (g p:Nat) (v:Value) (E:List Ev) (V:World):Prop where
 bel:Below w0.heap.size w0 V
 hg:V.heap[g]?=some (.cells #[v] 90 (0,0))
 hp:V.heap[p]?=some (.cells #[yv g p] 148 (0,0))
 re:Re V v E
 vB:∀k,v.ownBlock=some k->w0.heap.size<=k
 g0:w0.heap.size<=g
 p0:w0.heap.size<=p
theorem EI.ne (h:EI w0 g p v E V):g≠p:=by
 rintro rfl;have:=h.hg;rw [h.hp] at this;injection this with e
 injection e with _ e
 exact absurd e (by decide)
theorem EI.below {V':World}(h:EI w0 g p v E V) (hb:Below V.heap.size V V'):EI w0 g p v E V':=
 ⟨h.bel.trans (hb.mono h.bel.size),ag h.hg hb,ag h.hp hb,h.re.below hb,h.vB,h.g0,h.p0⟩
theorem EI.push {v':Value}{ds:List Ev}{V1 w3:World}(h:EI w0 g p v E V) (hb:Below V.heap.size V V1) (hr:Re w3 v' (E++ds)) (hg:V1.grownBy w3 v.ownBlock) (hq:Nb V1 v v') :
  (w3.cell? ⟨g,0,none⟩=some v/\w3.frozen? ⟨g,0,none⟩=false/\g<w3.heap.size)/\EI w0 g p v' (E++ds) (w3.setCell ⟨g,0,none⟩ v')/\KT 94 g V (w3.setCell ⟨g,0,none⟩ v'):=by
 have h1:=h.below hb;have kg:=Kp.of_grown hg;have ne1:¬some g=v.ownBlock:=fun e=>h1.re.ne h1.hg (by decide) g e.symm rfl
 have ne2:¬some p=v.ownBlock:=fun e=>h1.re.ne h1.hp (by decide) p e.symm rfl
 have g3:=kg.blk h1.hg ne1;have p3:=kg.blk h1.hp ne2;have b3:Below w0.heap.size w0 w3:=Kp.low h1.bel kg (fun k e=>h1.vB k e.symm) h1.bel.size;refine ⟨⟨af g3 rfl,am g3,aq g3⟩,⟨Kp.low b3 (Kp.set _ _ _ _) (fun k e=>by subst e;exact h.g0) b3.size,aj g3 0 _,aX p3 (Vs h.ne) _,hr.kp (Kp.set _ _ _ _) (hr.ne g3 (by decide)),?_,h.g0,h.p0⟩,?_⟩
 ·intro k e
  rcases hq with hq|⟨q,e1,hq⟩
  ·exact h.vB k (by rw [<-hq];exact e)
  ·rw [e1] at e;simp at e;have:=h1.bel.size;omega
 ·refine ((Kp.of_below hb).step kg (fun k hk e=>.inr ?_)).step (Kp.set _ _ _ _) (fun k _ e=>.inl e);exact Ob h.re k e.symm
def Ap (w0:World) (n:bO):Prop:=∀vn,Nv w0 vn n->∀W g p v E,EI w0 g p v E W->E.length+(nN n).length<=1000000000->Ra 69 #[vn,.pointer (some ⟨g,0,none⟩),.pointer (some ⟨p,0,none⟩)] W fun r w'=>r=.returned (.tuple #[])/\∃v',EI w0 g p v' (E++nN n) w'/\KT 94 g W w'
theorem CX (w0:World) (d:Tv) (ao:Option Addr) (nk cap:Nat) (W:World) (g p:Nat) (v:Value) (E:List Ev) (hI:EI w0 g p v E W) (hle:E.length+1<=1000000000):Ra 69 #[dY 0 d (.slice ao nk cap),.pointer (some ⟨g,0,none⟩),.pointer (some ⟨p,0,none⟩)] W fun r w'=>r=.returned (.tuple #[])/\∃v',EI w0 g p v' (E++[Kx d]) w'/\KT 94 g W w':=by
 have HI:Hid (EI w0 g p v E W):=hI;obtain ⟨pv,cv,hv,_⟩:=hI.re.shape;subst hv;have HTk:Hid (∀V,Ra 70 #[dY 0 d (.slice ao nk cap)] V fun r w'=>r=.returned (.bool true)/\Rc V w'):=fun V=>jk 0 d ao nk cap V
 have HKf:Hid (∀V,Ra 71 #[.agg #[.int .u8 d.k,.string d.t,.int .i64 d.a,.int .i64 d.l,.int .i64 d.c,.int .i64 d.f]] V fun r w'=>r=.returned (.int .u8 (tV d))/\Rc V w'):=fun V=>pi d V
 have hle1:E.length<=1000000000:=by omega
 obtain ⟨W1,eW⟩:∃W1,W1=W.alloc (bv 0 d (.slice ao nk cap)):=⟨_,rfl⟩;have HB1:Hid (Rc W W1/\W1.heap[W.heap.size]?=some (bv 0 d (.slice ao nk cap))):=by rw [eW];exact ⟨aO _ _,au _ _⟩
 clear hI;rw [G6];obtain ⟨kd,hkd⟩:∃kd,tV d=kd:=⟨_,rfl⟩;rw [hkd] at HKf ⊢;clear hkd
 go_enter Tryz.func69,Tryz.ntmps69
 go_wp2_with fail
 try rw [<-eW]
 clear eW;refine (HTk.out _).mono ?_;rintro r w2 ⟨rfl,hb2⟩;have H2:Hid (EI w0 g p (.slice pv E.length cv) E w2/\Rc W w2):=⟨HI.out.below (HB1.out.1.trans (hb2.mono HB1.out.1.size)),HB1.out.1.trans (hb2.mono HB1.out.1.size)⟩;have t0:w2.heap[W.heap.size]?=some (bv 0 d (.slice ao nk cap)):=ag HB1.out.2 hb2
 have HC:Hid (∀V,Rc w2 V->V.cell? ⟨W.heap.size,1,none⟩=some (.int .u8 d.k)/\V.cell? ⟨W.heap.size,2,none⟩=some (.string d.t)/\V.cell? ⟨W.heap.size,3,none⟩=some (.int .i64 d.a)/\V.cell? ⟨W.heap.size,4,none⟩=some (.int .i64 d.l)/\V.cell? ⟨W.heap.size,5,none⟩=some (.int .i64 d.c)/\V.cell? ⟨W.heap.size,6,none⟩=some (.int .i64 d.f)/\V.cell? ⟨g,0,none⟩=some (.slice pv E.length cv)/\W.heap.size<V.heap.size/\g<V.heap.size):=fun V hb=>by
  have t:=ag t0 hb;have u:=ag H2.out.1.hg hb;exact ⟨af t rfl,af t rfl,af t rfl,af t rfl,af t rfl,af t rfl,af u rfl,aq t,aq u⟩
 have HP:Hid (∀w4 q cp w3,Rc w2 w4->Re w3 (.slice (some ⟨q,0,none⟩) (E.length+1) cp) (E++[⟨kd,0,d⟩])->w4.grownBy w3 (Value.slice pv E.length cv).ownBlock->Nb w4 (.slice pv E.length cv) (.slice (some ⟨q,0,none⟩) (E.length+1) cp)->(w3.cell? ⟨g,0,none⟩=some (.slice pv E.length cv)/\w3.frozen? ⟨g,0,none⟩=false/\g<w3.heap.size)/\EI w0 g p (.slice (some ⟨q,0,none⟩) (E.length+1) cp) (E++[⟨kd,0,d⟩]) (w3.setCell ⟨g,0,none⟩ (.slice (some ⟨q,0,none⟩) (E.length+1) cp))/\KT 94 g W (w3.setCell ⟨g,0,none⟩ (.slice (some ⟨q,0,none⟩) (E.length+1) cp))):=fun w4 q cp w3 hb h1 h2 h3=>by
  obtain ⟨a1,a2,a3⟩:=H2.out.1.push hb h1 h2 h3;exact ⟨a1,a2,(KT.of_below H2.out.2).trans a3⟩
 have HR:Hid (∀V,Rc w2 V->Re V (.slice pv E.length cv) E):=fun V hb=>H2.out.1.re.below hb
 clear hb2 t0;obtain ⟨c1,c2,c3,c4,c5,c6,c7,c8,c9⟩:=HC.out w2 (hH _ _)
 go_wp2_with fail
 go_region_law (first|(refine Hm (by rfl) _ _ (by rfl) (.slice pv E.length cv) E ⟨kd,0,d⟩ (by rfl) (HR.out _ (H4.out.trans ((aO _ _).mono H4.out.size))) w4.heap.size 1 (by rfl) (au w4 _) hle1 ?_;intro q cp w3 h1 h2 h3;obtain ⟨⟨x1,x2,x3⟩,x4⟩:=HP.out _ q cp w3 (H4.out.trans ((aO _ _).mono H4.out.size)) h1 h2 h3;have HX:=ai x4;clear x4 h1 h2 h3)|(go_simp;go_at_call 71;refine (HKf.out _).mono ?_;rintro r w4 ⟨rfl,hb4⟩;have H4:Hid (Rc w2 w4):=(hH _ _).drew.trans (hb4.mono (gt _));obtain ⟨d1,d2,d3,d4,d5,d6,d7,d8,d9⟩:=HC.out w4 H4.out;clear hb4))
 all_goals (
  go_wp2_with fail
  first|go_end0|(refine QV (results_none rfl _ _ _) rfl ?_)
  exact ⟨rfl,_,HX.out⟩)
theorem AC (w0:World) (n:bO) (IH:∀m,m∈n.c->Ap w0 m):Ap w0 n:=by
 intro vn h W g p v E hI hle;obtain ⟨ao,cap,rfl,q1,q2,q3,q4⟩:=h;have HI:Hid (EI w0 g p v E W):=hI;obtain ⟨k,d,c⟩:=n
 dsimp only [bO.k,bO.d,bO.c] at *
 by_cases hk:k=0
 ·subst hk;have e:nN (.mk 0 d c)=[Kx d]:=by simp [nN]
  rw [e] at hle ⊢;exact CX w0 d ao c.length cap W g p v E hI (by simpa using hle)
 ·have e:nN (.mk k d c)=⟨1,k,aB⟩ :: (dr c++[⟨3,k,aB⟩]):=by simp [nN,hk]
  have hkb:(k == 0)=false:=by simpa using hk
  obtain ⟨pv,cv,hv,_⟩:=hI.re.shape;subst hv;have HTk:Hid (∀V,Ra 70 #[dY k d (.slice ao c.length cap)] V fun r w'=>r=.returned (.bool false)/\Rc V w'):=fun V=>by have:=jk k d ao c.length cap V;rw [hkb] at this;exact this
  have hlc:E.length+(dr c).length+2<=1000000000:=by rw [e] at hle;simp at hle;omega
  have HEV:Hid (E++nN (.mk k d c)=(E++[⟨1,k,aB⟩]++dr c)++[⟨3,k,aB⟩]):=(by rw [e];simp:E++nN (.mk k d c)=(E++[⟨1,k,aB⟩]++dr c)++[⟨3,k,aB⟩]);have HIH:Hid (∀m,m∈c->Ap w0 m):=IH;have HQ:Hid ((ao=none->c=[])/\∀a,ao=some a->c=[]\/∃b o,a=⟨b,o,none⟩/\HL w0 b o c):=⟨q3,q4⟩;have hcl:(c.length:Int)<=9223372036854775807:=by have:maxLen=9223372036854775807:=rfl;omega
  have hng:W.heap.size≠g:=fun e=>by have:=aq HI.out.hg;omega
  obtain ⟨W1,eW⟩:∃W1,W1=W.alloc (bv k d (.slice ao c.length cap)):=⟨_,rfl⟩;have HB1:Hid (Rc W W1/\W1.heap[W.heap.size]?=some (bv k d (.slice ao c.length cap))):=by rw [eW];exact ⟨aO _ _,au _ _⟩
  clear hI hle q3 q4 IH e
  go_enter Tryz.func69,Tryz.ntmps69
  go_wp2_with fail
  try rw [<-eW]
  clear eW;refine (HTk.out _).mono ?_;rintro r w2 ⟨rfl,hb2⟩;have H2:Hid (EI w0 g p (.slice pv E.length cv) E w2/\KT 94 g W w2):=⟨HI.out.below (HB1.out.1.trans (hb2.mono HB1.out.1.size)),KT.of_below (HB1.out.1.trans (hb2.mono HB1.out.1.size))⟩;have HN2:Hid (w2.heap[W.heap.size]?=some (bv k d (.slice ao c.length cap))):=ag HB1.out.2 hb2;have y0:w2.cell? ⟨W.heap.size,0,none⟩=some (.int .u8 k):=af HN2.out rfl;have yg:w2.cell? ⟨g,0,none⟩=some (.slice pv E.length cv):=af H2.out.1.hg rfl;have ygl:=aq H2.out.1.hg;have yl:=aq HN2.out;have hlE:E.length<=1000000000:=by omega
  clear hb2 HB1
  go_wp2_with (at_builtin;refine Gp (by rfl) _ _ (by rfl) (.slice pv E.length cv) E ⟨1,k,aB⟩ (by rfl) (H2.out.1.re.below (aO _ _)) w2.heap.size 1 (by rfl) (au _ _) hlE ?_;intro v' w3 h1 h2 h3;obtain ⟨p3,c3,hv3,_⟩:=h1.shape;subst hv3;obtain ⟨⟨x1,x2,x3⟩,x4,x5⟩:=H2.out.1.push (aO _ _) h1 h2 h3;have H3:Hid (EI w0 g p (.slice p3 (E++[(⟨1,k,aB⟩:Ev)]).length c3) (E++[⟨1,k,aB⟩]) (w3.setCell ⟨g,0,none⟩ (.slice p3 (E++[(⟨1,k,aB⟩:Ev)]).length c3))/\KT 94 g W (w3.setCell ⟨g,0,none⟩ (.slice p3 (E++[(⟨1,k,aB⟩:Ev)]).length c3))/\(w3.setCell ⟨g,0,none⟩ (.slice p3 (E++[(⟨1,k,aB⟩:Ev)]).length c3)).heap[W.heap.size]?=some (bv k d (.slice ao c.length cap))):=⟨x4,H2.out.2.trans x5,x5.blk HN2.out hng (by decide)⟩;have x6:w3.cell? ⟨W.heap.size,7,none⟩=some (.slice ao c.length cap):=af ((Kp.of_grown h2).blk (ag HN2.out (aO _ _)) (fun e=>H2.out.1.re.ne HN2.out (by decide) _ e.symm rfl)) rfl;have x7:W.heap.size<w3.heap.size:=QP _ _ x6;clear x4 x5 h1 h2 h3)
  obtain ⟨w4,e4⟩:∃w4,w3.setCell ⟨g,0,none⟩ (.slice p3 (E.length+1) c3)=w4:=⟨_,rfl⟩
  have H4:Hid (EI w0 g p (.slice p3 (E++[(⟨1,k,aB⟩:Ev)]).length c3) (E++[⟨1,k,aB⟩]) w4/\KT 94 g W w4/\w4.heap[W.heap.size]?=some (bv k d (.slice ao c.length cap))):=by
   have:=H3.out;rw [show (E++[(⟨1,k,aB⟩:Ev)]).length=E.length+1 by simp] at this ⊢;rw [e4] at this;exact this
  rw [e4];clear e4 H3 x1 x2 x3 x6 x7 y0 yg ygl yl
  go_loopw [26] (fun iv wr=>∃j:Nat,j<=c.length/\iv=.int .i64 j/\Hid (∃v',EI w0 g p v' (E++[⟨1,k,aB⟩]++dr (c.take j)) wr/\KT 94 g W wr/\wr.heap[W.heap.size]?=some (bv k d (.slice ao c.length cap)))) (fun iv _=>c.length-(intOf iv).toNat)
  case atStart=>exact ⟨0,QK _,rfl,_,by simpa [dr] using H4.out⟩
  case round=>
   obtain ⟨j,hj,rfl,HJ0⟩:=hrel;obtain ⟨vj,hJ⟩:=HJ0.out;have HJ:=ai hJ;clear HJ0 hJ;have hll:=zI (c:=c) (j:=j)
   by_cases hlt:j<c.length
   ·have z1:(j:Int)<c.length:=by omega
    have z2:(0:Int)<=j:=by omega
    obtain ⟨m,hm⟩:∃m,c[j]?=some m:=⟨_,Pi hlt⟩;have hmm:m∈c:=RU hm;obtain ⟨b,o,rfl,hbl,ao2,cap2,⟨v0,v1,v2,v3,v4,v5,v6,v7⟩,hv⟩:=PW HQ.out HJ.out.1.bel hm;have yp:wr.cell? ⟨p,0,none⟩=some (yv g p):=af HJ.out.1.hp rfl;have ypl:p<wr.heap.size:=aq HJ.out.1.hp;have ht:=BW hm;have hll2:=zI (c:=c) (j:=j+1);rw [ht] at hll2
    have HC:Hid (∀V,EI w0 g p vj (E++[⟨1,k,aB⟩]++dr (c.take j)) V->Ra 69 #[dY m.k m.d (.slice ao2 m.c.length cap2),.pointer (some ⟨g,0,none⟩),.pointer (some ⟨p,0,none⟩)] V fun r w'=>r=.returned (.tuple #[])/\∃v',EI w0 g p v' (E++[⟨1,k,aB⟩]++dr (c.take (j+1))) w'/\KT 94 g V w'):=fun V hV=>by
     have:=HIH.out m hmm _ hv V g p _ _ hV (by simp at hll2 ⊢;omega);rw [ht,<-QM];exact this
    clear hm hmm hv ht hll2;obtain ⟨W5,eW5⟩:∃W5,W5=wr.alloc (bv m.k m.d (.slice ao2 m.c.length cap2)):=⟨_,rfl⟩;have H5:Hid (Rc wr W5):=by rw [eW5];exact aO _ _
    go_wp2_with fail
    try rw [<-eW5]
    refine (HC.out _ (HJ.out.1.below H5.out)).mono ?_;rintro r w6 ⟨rfl,v',h6,k6⟩;have H6:Hid (∃v',EI w0 g p v' (E++[⟨1,k,aB⟩]++dr (c.take (j+1))) w6/\KT 94 g W w6/\w6.heap[W.heap.size]?=some (bv k d (.slice (some ⟨b,o,none⟩) c.length cap))):=⟨v',h6,HJ.out.2.1.trans ((KT.of_below H5.out).trans k6),k6.blk (ag HJ.out.2.2 H5.out) hng (by decide)⟩;clear h6 k6 eW5
    go_wp2_with fail
    exact ⟨⟨j+1,hlt,by go_num,H6⟩,by simp [intOf];omega⟩
   ·obtain rfl:j=c.length:=by omega
    have z1:¬((c.length:Int)<c.length):=by omega
    rw [RQ] at HJ hll;have HZ:Hid ((E++[(⟨1,k,aB⟩:Ev)]++dr c).length<=1000000000):=(by simp;omega:(E++[(⟨1,k,aB⟩:Ev)]++dr c).length<=1000000000);obtain ⟨pl,cl,hvl,_⟩:=HJ.out.1.re.shape;obtain ⟨nl,hnl⟩:∃nl,(E++[(⟨1,k,aB⟩:Ev)]++dr c).length=nl:=⟨_,rfl⟩;rw [hnl] at hvl;subst hvl;have u0:wr.cell? ⟨W.heap.size,0,none⟩=some (.int .u8 k):=af HJ.out.2.2 rfl;have ug:wr.cell? ⟨g,0,none⟩=some (.slice pl nl cl):=af HJ.out.1.hg rfl;have ul:=aq HJ.out.2.2;have ugl:=aq HJ.out.1.hg;clear hnl
    go_wp2_with (at_builtin;refine Gp (by rfl) _ _ (by rfl) (.slice pl nl cl) (E++[⟨1,k,aB⟩]++dr c) ⟨3,k,aB⟩ (by rfl) (HJ.out.1.re.below (aO _ _)) wr.heap.size 1 (by rfl) (au _ _) HZ.out ?_;intro v' w5 h1 h2 h3;obtain ⟨p5,c5,hv5,_⟩:=h1.shape;obtain ⟨nl5,hnl5⟩:∃nl5,((E++[(⟨1,k,aB⟩:Ev)]++dr c)++[(⟨3,k,aB⟩:Ev)]).length=nl5:=⟨_,rfl⟩;rw [hnl5] at hv5;subst hv5;obtain ⟨⟨x1,x2,x3⟩,x4,x5⟩:=HJ.out.1.push (aO _ _) h1 h2 h3;have HX:Hid (EI w0 g p (.slice p5 nl5 c5) (E++nN (.mk k d c)) (w5.setCell ⟨g,0,none⟩ (.slice p5 nl5 c5))/\KT 94 g W (w5.setCell ⟨g,0,none⟩ (.slice p5 nl5 c5))):=⟨by rw [HEV.out];exact x4,HJ.out.2.1.trans x5⟩;clear x4 x5 h1 h2 h3 hnl5)
    go_end0
    exact ⟨rfl,⟨_,HX.out.1⟩,HX.out.2⟩
theorem da (w0:World) (n:bO):Ap w0 n:=by
 obtain ⟨s,hs⟩:∃s,IT n=s:=⟨_,rfl⟩
 induction s using Nat.strongRecOn generalizing n with
 |ind s ih=>exact AC w0 n (fun m hm=>ih (IT m) (by rw [<-hs];exact zi hm) m rfl)
theorem Fo (W:World) (o:Obj):EI W (W.heap.size+1) (W.heap.size+1+1) (.slice none 0 0) [] (((W.alloc o).alloc (.cells #[.slice none 0 0] 90)).alloc (.cells #[yv (W.heap.size+1) (W.heap.size+1+1)] 148)):=by
 have e1:=gk W o;have e2:=gk (W.alloc o) (.cells #[.slice none 0 0] 90);have b1:=aO W o;have b2:=aO (W.alloc o) (.cells #[.slice none 0 0] 90);have b3:=aO ((W.alloc o).alloc (.cells #[.slice none 0 0] 90)) (.cells #[yv (W.heap.size+1) (W.heap.size+1+1)] 148);refine ⟨(b1.trans (b2.mono b1.size)).trans (b3.mono (by omega)),?_,?_,xn _,(fun k e=>by cases e),by omega,by omega⟩
 ·refine aI ?_ _;rw [<-e1];exact au _ _
 ·rw [<-e1,<-e2];exact au _ _
theorem xO (n:bO) (vn:Value) (W:World) (h:Nv W vn n) (hl:(nN n).length<=1000000000):Ra 30 #[vn] W fun r w'=>∃v',r=.returned v'/\BI W v' (nN n) w':=by
 have hmf:=mkfn
 have HL:Hid (∀V,EI W (W.heap.size+1) (W.heap.size+1+1) (.slice none 0 0) [] V->Ra 69 #[vn,.pointer (some ⟨W.heap.size+1,0,none⟩),.pointer (some ⟨W.heap.size+1+1,0,none⟩)] V fun r w'=>r=.returned (.tuple #[])/\∃v',EI W (W.heap.size+1) (W.heap.size+1+1) v' (nN n) w'):=fun V hV=>by
  refine (da W n vn h V _ _ _ _ hV (by simpa using hl)).mono ?_;rintro r w' ⟨rfl,v',h1,_⟩;exact ⟨rfl,v',by simpa using h1⟩
 obtain ⟨ao,cap,rfl,_⟩:=h
 go_enter Tryz.func30,Tryz.ntmps30
 go_wp2_with fail
 refine (HL.out _ (Fo W _)).mono ?_;rintro r w1 ⟨rfl,v',h1⟩;obtain ⟨pv,cv,hv,_⟩:=h1.re.shape;obtain ⟨nl,hnl⟩:∃nl,(nN n).length=nl:=⟨_,rfl⟩;rw [hnl] at hv;subst hv;have yg:w1.cell? ⟨W.heap.size+1,0,none⟩=some (.slice pv nl cv):=af h1.hg rfl;have ygl:W.heap.size+1<w1.heap.size:=aq h1.hg;have H1:Hid (BI W (.slice pv nl cv) (nN n) w1):=⟨h1.bel,h1.re,h1.vB⟩;clear h1 HL hnl
 go_wp2_with fail
 go_ret
 exact ⟨_,rfl,H1.out⟩
def nc (n:bO) (s:Value):List Value:=[.int .u8 n.k,.int .u8 n.d.k,.string n.d.t,.int .i64 n.d.a,.int .i64 n.d.l,.int .i64 n.d.c,.int .i64 n.d.f,s]
theorem Mr (x:bO × Value):(nc x.1 x.2).length=8:=rfl
def Er (c:List bO) (vs:List Value):List Value:=bz (fun x:bO × Value=>nc x.1 x.2) (c.zip vs)
theorem Ep (c:List bO) (vs:List Value) (h:vs.length=c.length) (n:bO) (s:Value):Er (c++[n]) (vs++[s])=Er c vs++nc n s:=by
 unfold Er;rw [List.zip_append h.symm,cr];simp [bz]
theorem Mq {i:Nat}{n:bO}{s u:Value}(hn:c[j]?=some n) (hs:vs[j]?=some s) (hu:(nc n s)[i]?=some u):(Er c vs)[j*8+i]?=some u:=by
 refine aU _ 8 Mr _ j i (n,s) u ?_ hu;rw [List.getElem?_zip_eq_some];exact ⟨hn,hs⟩
def RN (W:World) (sv:Value) (c:List bO) (vs:List Value):Prop:=vs.length=c.length/\W.ownsRow 0 54 8 sv c.length (Er c vs)
theorem RN.shape (h:RN W sv c vs):∃p cap,sv=.slice p c.length cap/\c.length<=cap/\cap<=maxLen:=aJ h.2
theorem RN.kp {S:Nat->Prop}{W W':World}{sv:Value}{c:List bO}{vs:List Value}(h:RN W sv c vs) (hk:Kp S W W') (hS:∀k,sv.ownBlock=some k->¬S k):RN W' sv c vs:=⟨h.1,hk.row h.2 hS⟩
theorem RN.lt (h:RN W sv c vs):∀k,sv.ownBlock=some k->k<W.heap.size:=by
 intro k hk
 rcases h.2.2 with ⟨rfl,_⟩|⟨b,cap,cur,rfl,_,h3,_⟩
 ·cases hk
 ·simp only [Value.ownBlock,Rp] at hk;subst hk;exact aq h3
theorem DG (W:World):RN W (.slice none 0 0) [] []:=⟨rfl,RR W 0 54 8⟩
mutual
def TN (O:Nat->Prop) (W:World):bO->Value->Prop
 |.mk _ _ c,sv=>∃vs,RN W sv c vs/\(∀k,sv.ownBlock=some k->O k)/\TL O W c vs
def TL (O:Nat->Prop) (W:World):List bO->List Value->Prop
 |[],vs=>vs=[]
 |n :: r,vs=>∃x vr,vs=x :: vr/\TN O W n x/\TL O W r vr
end
theorem lk (O:Nat->Prop) (W:World) (k:Int) (d:Tv):TN O W (.mk k d []) (.slice none 0 0):=by
 rw [TN];exact ⟨[],DG W,(fun k hk=>by cases hk),by rw [TL]⟩
mutual
theorem TN.kp {O S:Nat->Prop}{W W':World}(hk:Kp S W W') (hS:∀k,O k->¬S k):∀(n:bO) (x:Value),TN O W n x->TN O W' n x
 |.mk _ _ c,x,h=>by
  rw [TN] at h ⊢;obtain ⟨vs,h1,h2,h3⟩:=h;exact ⟨vs,h1.kp hk (fun k e=>hS k (h2 k e)),h2,TL.kp hk hS c vs h3⟩
theorem TL.kp {O S:Nat->Prop} {W W':World} (hk:Kp S W W') (hS:∀k,O k->¬S k):∀(c:List bO) (vs:List Value),TL O W c vs->TL O W' c vs
 |[],vs,h=>by rw [TL] at h ⊢;exact h
 |n :: r,vs,h=>by
  rw [TL] at h ⊢;obtain ⟨x,vr,h1,h2,h3⟩:=h;exact ⟨x,vr,h1,TN.kp hk hS n x h2,TL.kp hk hS r vr h3⟩
end
mutual
theorem TN.sub {O O':Nat->Prop}{W:World}(hS:∀k,k<W.heap.size->O k->O' k):∀(n:bO) (x:Value),TN O W n x->TN O' W n x
 |.mk _ _ c,x,h=>by
  rw [TN] at h ⊢;obtain ⟨vs,h1,h2,h3⟩:=h;exact ⟨vs,h1,fun k e=>hS k (h1.lt k e) (h2 k e),TL.sub hS c vs h3⟩
theorem TL.sub {O O':Nat->Prop} {W:World} (hS:∀k,k<W.heap.size->O k->O' k):∀(c:List bO) (vs:List Value),TL O W c vs->TL O' W c vs
 |[],vs,h=>by rw [TL] at h ⊢;exact h
 |n :: r,vs,h=>by
  rw [TL] at h ⊢;obtain ⟨x,vr,h1,h2,h3⟩:=h;exact ⟨x,vr,h1,TN.sub hS n x h2,TL.sub hS r vr h3⟩
end
theorem TL.app {O:Nat->Prop}{n:bO}{x:Value}(hn:TN O W n x):∀{c:List bO}{vs:List Value},TL O W c vs->TL O W (c++[n]) (vs++[x])
 |[],vs,h=>by
  rw [TL] at h;subst h;rw [Rr,Rr,TL];exact ⟨x,[],rfl,hn,by rw [TL]⟩
 |m :: r,vs,h=>by
  rw [TL] at h;obtain ⟨y,vr,rfl,h2,h3⟩:=h;rw [Rh,Rh,TL];exact ⟨y,vr++[x],rfl,h2,TL.app hn h3⟩
theorem TL.at {O:Nat->Prop}:∀{c:List bO}{vs:List Value}{j:Nat}{n:bO},TL O W c vs->c[j]?=some n->∃x,vs[j]?=some x/\TN O W n x
 |[],vs,j,n,h,hj=>by simp at hj
 |m :: r,vs,0,n,h,hj=>by
  rw [TL] at h;obtain ⟨y,vr,rfl,h2,h3⟩:=h;simp at hj;subst hj;exact ⟨y,rfl,h2⟩
 |m :: r,vs,j+1,n,h,hj=>by
  rw [TL] at h;obtain ⟨y,vr,rfl,h2,h3⟩:=h;obtain ⟨x,a,b⟩:=TL.at h3 (j:=j) (n:=n) (by simpa using hj);exact ⟨x,by simpa using a,b⟩
theorem RN.cell {W:World}{sv:Value}{c:List bO}{vs:List Value}(h:RN W sv c vs) {g n cap:Nat}(hv:sv=.slice (some ⟨g,0,none⟩) n cap) {j i:Nat}{m:bO}{s u:Value}(hn:c[j]?=some m) (hs:vs[j]?=some s) (hu:(nc m s)[i]?=some u):W.cell? ⟨g,j*8+i,none⟩=some u:=by
 have:=h.2.cells (g:=g) (n:=c.length) (by rw [hv];rfl) (j*8+i) u (Mq hn hs hu);rw [SE,QU] at this;exact this
theorem TN.see {O:Nat->Prop}(n:bO):∀(x:Value),TN O W n x->Nv W (dY n.k n.d x) n:=by
 obtain ⟨s,hs⟩:∃s,IT n=s:=⟨_,rfl⟩
 induction s using Nat.strongRecOn generalizing n with
 |ind s ih=>
  intro x h;obtain ⟨k,d,c⟩:=n;rw [TN] at h;obtain ⟨vs,h1,_,h3⟩:=h;have hr:=h1.2.2
  rcases hr with ⟨e1,e2⟩|⟨b,cap,cur,e1,_,e3,e4,e5,_⟩
  ·have:c=[]:=QZ e2;subst this;subst e1;exact ⟨none,0,rfl,gt _,QK _,(fun _=>rfl),(fun a ha=>by cases ha)⟩
  ·refine ⟨some ⟨b,0,none⟩,cap,by rw [e1];rfl,e4,e5,(fun h=>by cases h),fun a ha=>?_⟩;cases ha;refine .inr ⟨b,0,rfl,KO (fun j m hj=>?_)⟩;obtain ⟨y,hy,hm⟩:=TL.at h3 hj;obtain ⟨ao,cp,q0,q1,q2,q3,q4⟩:=ih (IT m) (by rw [<-hs];exact zi (RU hj)) m rfl y hm
   have q0':y=.slice ao m.c.length cp:=by
    simp only [dY,Value.agg.injEq] at q0;have:=Q0 (fun a:Array Value=>a[7]?) q0
    simpa using this
   subst q0'
   have hc:∀i u,(nc m (.slice ao m.c.length cp))[i]?=some u->W.cell? ⟨b,0+j*8+i,none⟩=some u:=fun i u hu=>by
    rw [QU];exact h1.cell e1 hj hy hu
   have hc0:=hc 0 _ rfl;obtain ⟨mk',md,mc⟩:=m;rw [HN];exact ⟨⟨hc0,hc 1 _ rfl,hc 2 _ rfl,hc 3 _ rfl,hc 4 _ rfl,hc 5 _ rfl,hc 6 _ rfl⟩,ao,cp,hc 7 _ rfl,q1,q2,q3,q4⟩
def Le (w:World) (ao:Option Addr) (l:List Ev):Prop:=∀j d,l[j]?=some d->∃b off,ao=some ⟨b,off,none⟩ /\
 w.cell? ⟨b,off+j*8,none⟩=some (.int .u8 d.k)/\w.cell? ⟨b,off+j*8+1,none⟩=some (.int .u8 d.n)/\w.cell? ⟨b,off+j*8+2,none⟩=some (.int .u8 d.d.k)/\w.cell? ⟨b,off+j*8+3,none⟩=some (.string d.d.t)/\w.cell? ⟨b,off+j*8+4,none⟩=some (.int .i64 d.d.a)/\w.cell? ⟨b,off+j*8+5,none⟩=some (.int .i64 d.d.l)/\w.cell? ⟨b,off+j*8+6,none⟩=some (.int .i64 d.d.c)/\w.cell? ⟨b,off+j*8+7,none⟩=some (.int .i64 d.d.f)
theorem Le.row (h:Re w v l):∃ao cap,v=.slice ao l.length cap/\Le w ao l/\(ao=none\/∃g,ao=some ⟨g,0,none⟩/\g<w.heap.size)/\l.length<=cap/\cap<=maxLen:=by
 rcases h.2 with ⟨rfl,h0⟩|⟨g,cap,cur,rfl,hb,hg,h3,h4,h5,h6⟩
 ·have:l=[]:=QZ h0;subst this;exact ⟨none,0,rfl,fun j d h=>by simp at h,.inl rfl,QK _,QK _⟩
 ·refine ⟨some ⟨g,0,none⟩,cap,rfl,?_,.inr ⟨g,rfl,aq hg⟩,h3,h4⟩;intro j d hj
  have hc:∀(i:Nat) (u:Value),d.cs[i]?=some u->w.cell? ⟨g,0+j*8+i,none⟩=some u:=fun i u hu=>by
   have:=Tf h (g:=g) rfl _ u (aU Ev.cs 8 Ev.cs_len l j i d _ hj hu);rw [SE,QU] at this;rw [QU];exact this
  exact ⟨g,0,rfl,hc 0 _ rfl,hc 1 _ rfl,hc 2 _ rfl,hc 3 _ rfl,hc 4 _ rfl,hc 5 _ rfl,hc 6 _ rfl,hc 7 _ rfl⟩
theorem Hv (w:World):(sizeOf 94).run Tryz.prog w=.ok 8 w:=by kernel_rfl
theorem Le.tail {w:World}{ao:Option Addr}{e:Ev}{r:List Ev}{cap:Nat}(h:Le w ao (e :: r)) (hc:r.length+1<=cap) (hm:cap<=maxLen) :
  ∃b off ao2 cap2,ao=some ⟨b,off,none⟩/\b<w.heap.size/\(w.cell? ⟨b,off,none⟩=some (.int .u8 e.k)/\w.cell? ⟨b,off+1,none⟩=some (.int .u8 e.n)/\w.cell? ⟨b,off+2,none⟩=some (.int .u8 e.d.k)/\w.cell? ⟨b,off+3,none⟩=some (.string e.d.t)/\w.cell? ⟨b,off+4,none⟩=some (.int .i64 e.d.a)/\w.cell? ⟨b,off+5,none⟩=some (.int .i64 e.d.l)/\w.cell? ⟨b,off+6,none⟩=some (.int .i64 e.d.c)/\w.cell? ⟨b,off+7,none⟩=some (.int .i64 e.d.f)) /\
   (∀W,(Instr.slice 90 (.slice (some ⟨b,off,none⟩) (r.length+1) cap) (some (.int .i64 1)) none none).run Tryz.prog W=.ok (.slice ao2 r.length cap2) W)/\r.length<=cap2/\cap2<=maxLen/\Le w ao2 r:=by
 obtain ⟨b,off,h1,c0,c1,c2,c3,c4,c5,c6,c7⟩:=h 0 e rfl;have hlt:=QP _ _ c0;rw [Nat.zero_mul,R7] at c0 c1 c2 c3 c4 c5 c6 c7
 have run:∀W,(Instr.slice 90 (.slice (some ⟨b,off,none⟩) (r.length+1) cap) (some (.int .i64 1)) none none).run Tryz.prog W=.ok (sliced (some ⟨b,off,none⟩) 1 (r.length+1) cap 8) W:=fun W=>by
  rw [run_slice_l W 90 _ _ _ (by kernel_rfl) .i64 1 (by omega) (by omega)];have:Tryz.prog.elem 90=94:=by kernel_rfl
  rw [this,Hv];rfl
 subst h1
 by_cases hz:cap=1
 ·have hr:r=[]:=QZ (by omega);subst hr;subst hz;refine ⟨b,off,some ⟨b,off,none⟩,0,rfl,hlt,⟨c0,c1,c2,c3,c4,c5,c6,c7⟩,fun W=>(run W).trans ?_,gt _,QK _,fun j d hj=>by simp at hj⟩;simp [sliced]
 ·refine ⟨b,off,some ⟨b,off+8,none⟩,cap-1,rfl,hlt,⟨c0,c1,c2,c3,c4,c5,c6,c7⟩,fun W=>(run W).trans ?_,by omega,by omega,fun j d hj=>?_⟩
  ·simp [sliced,hz,SE]
  ·obtain ⟨b',off',e',x0,x1,x2,x3,x4,x5,x6,x7⟩:=h (j+1) d (by simpa using hj);simp only [Rp,Addr.mk.injEq] at e';obtain ⟨rfl,rfl,_⟩:=e';rw [show off+(j+1)*8=off+8+j*8 by omega] at x0 x1 x2 x3 x4 x5 x6 x7;exact ⟨b,off+8,rfl,x0,x1,x2,x3,x4,x5,x6,x7⟩
def tR (r:List Ev) (n:bO):List (Int × List bO)->Option bO
 |[]=>if n.k=0 then none else if r=[] then some n else none
 |x :: S=>fZ r (Ma n (x :: S))
def O9 (a:Nat) (l:List Ev) (n:bO) (r:List Ev):Prop:=∀S,S.length=a->fZ l S=tR r n S
def GS (a:Nat) (l:List Ev):Prop:=∀S,S.length=a->fZ l S=none
theorem BC {a:Nat}{e:Ev}{r:List Ev}(h:e.k=tV e.d):O9 a (e :: r) (.mk 0 e.d []) r:=by
 intro S _;have h1:¬e.k=1:=by rw [h];unfold tV;split <;> decide
 have h3:¬e.k=3:=by rw [h];unfold tV;split <;> decide
 have hc:(e.k=2/\cm e.d=false)\/(e.k=4/\cm e.d=true):=by
  rw [h];unfold tV;cases hm:cm e.d
  ·exact .inl ⟨by simp,rfl⟩
  ·exact .inr ⟨by simp,rfl⟩
 simp only [fZ];rw [Eq h1,Eq h3,IO hc];cases S with
 |nil=>simp [tR,bO.k]
 |cons x S=>obtain ⟨k,c⟩:=x;simp [tR,Ma]
theorem EA {a:Nat}{e:Ev}{r:List Ev}(h1:e.k≠1) (h:e.k≠tV e.d) (h3:e.k=3->a=0):GS a (e :: r):=by
 intro S hS;simp only [fZ];rw [Eq h1]
 by_cases h3':e.k=3
 ·grind
 ·rw [Eq h3',Eq];rintro (⟨x,y⟩|⟨x,y⟩)
  ·exact h (by rw [x];unfold tV;rw [y];rfl)
  ·exact h (by rw [x];unfold tV;rw [y];rfl)
theorem uR (h1:e.k=1) (h:e.n=0\/1000<=a):GS a (e :: r):=by
 intro S hS;simp only [fZ];rw [IO h1,IO (by rw [hS];exact h)]
def Cx (a:Nat) (l:List Ev) (k:Int) (c:List bO) (r:List Ev):Prop:=∀S,S.length=a->fZ l S=fZ r ((k,c) :: S)
theorem D9 (h1:e.k=1) (h:¬(e.n=0\/1000<=a)):Cx a (e :: r) e.n [] r:=by
 intro S hS;simp only [fZ];rw [IO h1,Eq (by rw [hS];exact h)]
theorem Cx.kid {r':List Ev}{n:bO}(h:Cx a l k c r) (hn:O9 (a+1) r n r'):Cx a l k (c++[n]) r':=by
 intro S hS;rw [h S hS,hn ((k,c) :: S) (by simp [hS])];rfl
theorem Cx.bad (h:Cx a l k c r) (hn:GS (a+1) r):GS a l:=by
 intro S hS;rw [h S hS];exact hn _ (by simp [hS])
theorem Cx.nil (h:Cx a l k c []):GS a l:=by
 intro S hS;rw [h S hS];rfl
theorem Cx.other (h:Cx a l k c (e :: r)) (h3:e.k=3) (hn:e.n≠k):GS a l:=by
 intro S hS;rw [h S hS];simp only [fZ];rw [Eq (by rw [h3];decide),IO h3];rw [Eq (fun e=>hn e.symm)]
theorem Cx.shut (h:Cx a l k c (e :: r)) (h3:e.k=3) (hn:e.n=k) (hk:k≠0):O9 a l (.mk k aB c) r:=by
 intro S hS;rw [h S hS];simp only [fZ];rw [Eq (by rw [h3];decide),IO h3];rw [IO hn.symm];cases S with
 |nil=>simp [tR,bO.k,hk]
 |cons x S=>obtain ⟨k',c'⟩:=x;simp [tR,Ma]
end Go.Proofs.YtjiepkenkcgkhaaGreatDoor
