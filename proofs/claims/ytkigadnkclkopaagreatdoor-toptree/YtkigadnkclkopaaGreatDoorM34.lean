import Derived.ProofKit
import Derived.OpenShut
import Derived.ShutString
import Derived.ChangeOld
import Derived.Lib.SmallJoins
import Derived.Carry
import Derived.Deep.Slices
import Derived.Deep.RegionHeld3
import Derived.Deep.RegionWith
import Derived.WalkMore
import Derived.Laws.EntriesVeiled
import Derived.Test.YtkigadnkclkopaaGreatDoorM01
set_option linter.unusedVariables false
set_option linter.unusedSimpArgs false
namespace Go.Proofs.YtkigadnkclkopaaGreatDoor
inductive Nd|mk (k:Int) (d:Tv) (c:List Nd)
def Nd.k:Nd→Int|.mk k _ _=>k
def Nd.d:Nd→Tv|.mk _ d _=>d
def Nd.c:Nd→List Nd|.mk _ _ c=>c
def cm (t:Tv):Bool:=t.k == 7 || t.k == 8
def tkE (d:Tv):Ev:=if cm d then ⟨4,0,d⟩ else ⟨2,0,d⟩
mutual
def evs:Nd→List Ev
 |.mk k d c=>if k=0 then [tkE d] else ⟨1,k,tv0⟩ :: (evsL c++[⟨3,k,tv0⟩])
def evsL:List Nd→List Ev
 |[]=>[]
 |n :: r=>evs n++evsL r
end
def isN (n:Nd):Bool:=n.k == 0 && cm n.d
mutual
def same:Nd→Nd→Bool
 |.mk k d c,n=>if k=n.k then (if k=0 then (d.k == n.d.k && decide (d.t=n.d.t)) else sameL c (n.c.filter (fun x=>!isN x))) else false
def sameL:List Nd→List Nd→Bool
 |[],m=>m.isEmpty
 |x :: r,m=>if isN x then sameL r m else match m with
  |[]=>false
  |y :: m'=>same x y && sameL r m'
end
def bld:List Ev→List (Int × List Nd)→Option Nd
 |[],_=>none
 |e :: l,S=>
  if e.k=1 then (if e.n=0∨1000≤S.length then none else bld l ((e.n,[]) :: S))
  else if e.k=3 then (match S with
   |[]=>none
   | (k,c) :: S'=>if k=e.n then (match S' with
    |[]=>if l=[] then some (.mk k tv0 c) else none
    | (k',c') :: S2=>bld l ((k',c'++[.mk k tv0 c]) :: S2)) else none)
  else if (e.k=2∧cm e.d=false)∨(e.k=4∧cm e.d=true) then (match S with
   |[]=>none
   | (k,c) :: S'=>bld l ((k,c++[.mk 0 e.d []]) :: S'))
  else none
def putN (n:Nd):List (Int × List Nd)→List (Int × List Nd)
 |[]=>[]
 | (k,c) :: S=>(k,c++[n]) :: S
def nrm (e:Ev):Ev:=if e.k=1∨e.k=3 then ⟨e.k,e.n,tv0⟩ else ⟨e.k,0,e.d⟩
theorem evsL_app (a b:List Nd):evsL (a++b)=evsL a++evsL b:=by
 induction a with
 |nil=>simp [evsL]
 |cons x r ih=>simp [evsL,ih]
def opn:List (Int × List Nd)→List Ev
 |[]=>[]
 | (k,c) :: S=>opn S++(⟨1,k,tv0⟩ :: evsL c)
theorem evs_bld:∀(l:List Ev) (S:List (Int × List Nd)) (n:Nd),bld l S=some n→(∀x∈S,x.1≠0)→evs n=opn S++l.map nrm∧n.k≠0
 |[],S,n,h,_=>by simp [bld] at h
 |e :: l,S,n,h,hS=>by
  simp only [bld] at h
  by_cases h1:e.k=1
  ·rw [if_pos h1] at h
   split at h
   ·cases h
   ·rename_i hc
    have hn:e.n≠0:=fun x=>hc (.inl x)
    obtain ⟨a,b⟩:=evs_bld l ((e.n,[]) :: S) n h (fun x hx=>by
     rcases List.mem_cons.1 hx with rfl|hx
     ·exact hn
     ·exact hS x hx)
    refine ⟨?_,b⟩
    rw [a]
    have:nrm e=⟨1,e.n,tv0⟩:=by simp [nrm,h1]
    simp [opn,evsL,this]
  ·rw [if_neg h1] at h
   by_cases h3:e.k=3
   ·rw [if_pos h3] at h
    have hr:nrm e=⟨3,e.n,tv0⟩:=by simp [nrm,h3]
    cases S with
    |nil=>cases h
    |cons x S'=>
     obtain ⟨k,c⟩:=x
     simp only at h
     have hk:k≠0:=hS (k,c) (List.mem_cons_self ..)
     split at h
     ·rename_i hke
      subst hke
      have hev:evs (.mk e.n tv0 c)=⟨1,e.n,tv0⟩ :: (evsL c++[⟨3,e.n,tv0⟩]):=by simp [evs,hk]
      cases S' with
      |nil=>
       simp only at h
       split at h
       ·rename_i hl
        cases h
        subst hl
        refine ⟨?_,hk⟩
        rw [hev]
        simp [opn,hr]
       ·cases h
      |cons y S2=>
       obtain ⟨k',c'⟩:=y
       simp only at h
       obtain ⟨a,b⟩:=evs_bld l ((k',c'++[.mk e.n tv0 c]) :: S2) n h (fun x hx=>by
        rcases List.mem_cons.1 hx with rfl|hx
        ·exact hS (k',c') (by simp)
        ·exact hS x (by simp [hx]))
       refine ⟨?_,b⟩
       rw [a]
       simp [opn,evsL_app,evsL,hev,hr]
     ·cases h
   ·rw [if_neg h3] at h
    split at h
    ·rename_i hc
     cases S with
     |nil=>cases h
     |cons x S'=>
      obtain ⟨k,c⟩:=x
      simp only at h
      obtain ⟨a,b⟩:=evs_bld l ((k,c++[.mk 0 e.d []]) :: S') n h (fun x hx=>by
       rcases List.mem_cons.1 hx with rfl|hx
       ·exact hS (k,c) (List.mem_cons_self ..)
       ·exact hS x (List.mem_cons_of_mem _ hx))
      refine ⟨?_,b⟩
      rw [a]
      have hr:nrm e=tkE e.d:=by
       have:nrm e=⟨e.k,0,e.d⟩:=by simp [nrm,h1,h3]
       rw [this]
       unfold tkE
       rcases hc with ⟨a1,a2⟩|⟨a1,a2⟩
       ·rw [a1,a2];rfl
       ·rw [a1,a2];rfl
      have he:evs (.mk 0 e.d [])=[tkE e.d]:=by simp [evs]
      simp [opn,evsL_app,evsL,he,hr]
    ·cases h
theorem evs_build {l:List Ev}{n:Nd}(h:bld l []=some n):evs n=l.map nrm∧n.k≠0:=by
 have:=evs_bld l [] n h (fun x hx=>by cases hx)
 simpa [opn] using this
inductive Cn|tk (k:Int) (t:ByteArray)|nd (k:Int) (c:List Cn)
mutual
def can:Nd→Cn
 |.mk k d c=>if k=0 then .tk d.k d.t else .nd k (canL c)
def canL:List Nd→List Cn
 |[]=>[]
 |n :: r=>if isN n then canL r else can n :: canL r
end
theorem canL_filter:∀m:List Nd,canL (m.filter (fun x=>!isN x))=canL m
 |[]=>rfl
 |n :: r=>by
  cases h:isN n
  ·rw [List.filter_cons_of_pos (by simp [h])]
   simp [canL,h,canL_filter r]
  ·rw [List.filter_cons_of_neg (by simp [h])]
   simp [canL,h,canL_filter r]
mutual
theorem same_can:∀(a b:Nd),same a b=true↔can a=can b
 |.mk k d c,.mk k2 d2 c2=>by
  have hs:same (.mk k d c) (.mk k2 d2 c2)=if k=k2 then (if k=0 then (d.k == d2.k && decide (d.t=d2.t)) else sameL c (c2.filter (fun x=>!isN x))) else false:=by rw [same];rfl
  rw [hs]
  by_cases hk:k=k2
  ·subst hk
   rw [if_pos rfl]
   by_cases h0:k=0
   ·rw [if_pos h0]
    simp [can,h0]
   ·rw [if_neg h0]
    rw [sameL_can c (c2.filter (fun x=>!isN x)) (fun x hx=>by simpa using (List.mem_filter.1 hx).2),canL_filter]
    simp [can,h0]
  ·rw [if_neg hk]
   simp only [Bool.false_eq_true,false_iff]
   intro h
   by_cases h0:k=0
   ·by_cases h1:k2=0
    ·exact hk (h0.trans h1.symm)
    ·simp [can,h0,h1] at h
   ·by_cases h1:k2=0
    ·simp [can,h0,h1] at h
    ·simp [can,h0,h1] at h
     exact hk h.1
theorem sameL_can:∀(c m:List Nd),(∀x∈m,isN x=false)→(sameL c m=true↔canL c=canL m)
 |[],m,hm=>by
  cases m with
  |nil=>simp [sameL,canL]
  |cons y m=>
   have:=hm y (List.mem_cons_self ..)
   simp [sameL,canL,this]
 |x :: r,m,hm=>by
  simp only [sameL]
  cases hx:isN x
  ·simp only [Bool.false_eq_true,if_false]
   cases m with
   |nil=>simp [canL,hx]
   |cons y m=>
    have hy:=hm y (List.mem_cons_self ..)
    simp only [Bool.and_eq_true]
    rw [same_can x y,sameL_can r m (fun z hz=>hm z (List.mem_cons_of_mem _ hz))]
    simp [canL,hx,hy]
  ·simp only [if_true]
   rw [sameL_can r m hm]
   simp [canL,hx]
end
theorem same_refl (a:Nd):same a a=true:=(same_can a a).2 rfl
end Go.Proofs.YtkigadnkclkopaaGreatDoor
namespace Go.Proofs.YtkigadnkclkopaaGreatDoor
open Go.ChangeShapes Go.WideShapes Go.ChangeAt Go.RowKit
mutual
def HN (W:World) (b o:Nat):Nd→Prop
 |.mk k d c=>(W.cell? ⟨b,o,none⟩=some (.int .u8 k)∧W.cell? ⟨b,o+1,none⟩=some (.int .u8 d.k)∧W.cell? ⟨b,o+2,none⟩=some (.string d.t)∧W.cell? ⟨b,o+3,none⟩=some (.int .i64 d.a)∧W.cell? ⟨b,o+4,none⟩=some (.int .i64 d.l)∧W.cell? ⟨b,o+5,none⟩=some (.int .i64 d.c)∧W.cell? ⟨b,o+6,none⟩=some (.int .i64 d.f)) ∧
  ∃ao cap,W.cell? ⟨b,o+7,none⟩=some (.slice ao c.length cap)∧c.length≤cap∧cap≤maxLen∧(ao=none→c=[])∧∀a,ao=some a→c=[]∨∃b' o',a=⟨b',o',none⟩∧HL W b' o' c
def HL (W:World) (b o:Nat):List Nd→Prop
 |[]=>True
 |n :: r=>HN W b o n∧HL W b (o+8) r
end
theorem HL.at {W:World}{b:Nat}:∀{l:List Nd}{o:Nat},HL W b o l→∀{j:Nat}{n:Nd},l[j]?=some n→HN W b (o+j*8) n
 |[],o,_,j,n,hj=>by simp at hj
 |x :: r,o,h,0,n,hj=>by
  simp at hj
  subst hj
  rw [HL] at h
  simpa using h.1
 |x :: r,o,h,j+1,n,hj=>by
  rw [HL] at h
  have:=HL.at h.2 (j:=j) (n:=n) (by simpa using hj)
  rw [show o+(j+1)*8=o+8+j*8 by omega]
  exact this
theorem hl_of {W:World}{b:Nat}:∀{l:List Nd}{o:Nat},(∀j n,l[j]?=some n→HN W b (o+j*8) n)→HL W b o l
 |[],o,_=>by rw [HL];trivial
 |x :: r,o,h=>by
  rw [HL]
  refine ⟨by simpa using h 0 x rfl,hl_of (fun j n hj=>?_)⟩
  have:=h (j+1) n (by simpa using hj)
  rw [show o+8+j*8=o+(j+1)*8 by omega]
  exact this
mutual
theorem HN.below {W W':World}(hb:Below W.heap.size W W'):∀(n:Nd) (b o:Nat),HN W b o n→HN W' b o n
 |.mk k d c,b,o,h=>by
  rw [HN] at h ⊢
  obtain ⟨⟨h0,h1,h2,h3,h4,h5,h6⟩,ao,cap,h7,h8,h9,h10,h11⟩:=h
  have e:W'.heap[b]?=W.heap[b]?:=hb.block b (World.block_lt_of_cell? _ _ h0)
  have tr:∀j u,W.cell? ⟨b,j,none⟩=some u→W'.cell? ⟨b,j,none⟩=some u:=fun j u hu=>(World.cell?_of_block (a:=⟨b,j,none⟩) e).trans hu
  exact ⟨⟨tr _ _ h0,tr _ _ h1,tr _ _ h2,tr _ _ h3,tr _ _ h4,tr _ _ h5,tr _ _ h6⟩,ao,cap,tr _ _ h7,h8,h9,h10,fun a ea=>(h11 a ea).imp id (fun ⟨b',o',e2,hl⟩=>⟨b',o',e2,HL.below hb c b' o' hl⟩)⟩
theorem HL.below {W W':World} (hb:Below W.heap.size W W'):∀(l:List Nd) (b o:Nat),HL W b o l→HL W' b o l
 |[],b,o,_=>by rw [HL];trivial
 |n :: r,b,o,h=>by
  rw [HL] at h ⊢
  exact ⟨HN.below hb n b o h.1,HL.below hb r b (o+8) h.2⟩
end
def Nv (W:World) (v:Value) (n:Nd):Prop:=∃ao cap,v=.agg #[.int .u8 n.k,.int .u8 n.d.k,.string n.d.t,.int .i64 n.d.a,.int .i64 n.d.l,.int .i64 n.d.c,.int .i64 n.d.f,.slice ao n.c.length cap]∧n.c.length≤cap∧cap≤maxLen∧(ao=none→n.c=[])∧(∀a,ao=some a→n.c=[]∨∃b o,a=⟨b,o,none⟩∧HL W b o n.c)
theorem Nv.below {W W':World}{v:Value}{n:Nd}(h:Nv W v n) (hb:Below W.heap.size W W'):Nv W' v n:=by
 obtain ⟨ao,cap,h1,h2,h3,h4,h5⟩:=h
 refine ⟨ao,cap,h1,h2,h3,h4,fun a ha=>?_⟩
 rcases h5 a ha with h|⟨b,o,e,hl⟩
 ·exact .inl h
 ·exact .inr ⟨b,o,e,HL.below hb _ b o hl⟩
mutual
def nsz:Nd→Nat
 |.mk k d c=>nszL c+1
def nszL:List Nd→Nat
 |[]=>0
 |n :: r=>nsz n+nszL r
end
theorem nsz_kid {n m:Nd}(h:m∈n.c):nsz m<nsz n:=by
 obtain ⟨k,d,c⟩:=n
 have key:∀(c:List Nd),m∈c→nsz m≤nszL c:=by
  intro c
  induction c with
  |nil=>intro h;cases h
  |cons x r ih=>
   intro h
   simp only [nszL]
   rcases List.mem_cons.1 h with rfl|h
   ·omega
   ·have:=ih h;omega
 have:=key c h
 simp only [nsz]
 omega
end Go.Proofs.YtkigadnkclkopaaGreatDoor
namespace Go.Proofs.YtkigadnkclkopaaGreatDoor
open Go.RowKit
theorem below_new (W:World) (o:Obj):Below W.heap.size W (W.alloc o):=(Below.refl _ _).alloc (Nat.le_refl _) _
theorem below_dn {b:Nat}{w v:World}(h:Below b w v):∀m,Below b w (v.drewN m)
 |0=>h
 |m+1=>(below_dn h m).drew
theorem hn_cells {W:World}{b o:Nat}{n:Nd}(h:HN W b o n):b<W.heap.size∧∃ao cap,(W.cell? ⟨b,o,none⟩=some (.int .u8 n.k)∧W.cell? ⟨b,o+1,none⟩=some (.int .u8 n.d.k)∧W.cell? ⟨b,o+2,none⟩=some (.string n.d.t)∧W.cell? ⟨b,o+3,none⟩=some (.int .i64 n.d.a)∧W.cell? ⟨b,o+4,none⟩=some (.int .i64 n.d.l)∧W.cell? ⟨b,o+5,none⟩=some (.int .i64 n.d.c)∧W.cell? ⟨b,o+6,none⟩=some (.int .i64 n.d.f)∧W.cell? ⟨b,o+7,none⟩=some (.slice ao n.c.length cap))∧n.c.length≤cap∧cap≤maxLen∧(ao=none→n.c=[])∧(∀a,ao=some a→n.c=[]∨∃b' o',a=⟨b',o',none⟩∧HL W b' o' n.c):=by
 obtain ⟨k,d,c⟩:=n
 rw [HN] at h
 obtain ⟨⟨h0,h1,h2,h3,h4,h5,h6⟩,ao,cap,h7,h8,h9,h10,h11⟩:=h
 exact ⟨World.block_lt_of_cell? _ _ h0,ao,cap,⟨h0,h1,h2,h3,h4,h5,h6,h7⟩,h8,h9,h10,h11⟩
theorem Kp.low {S:Nat→Prop}{B:Nat}{w W W':World}(h:Below B w W) (hk:Kp S W W') (hS:∀k,S k→B≤k) (hB:B≤W.heap.size):Below B w W':=
 ⟨hk.os.trans h.os,hk.tape.trans h.tape,hk.output.trans h.output,Nat.le_trans h.size hk.size,fun k hlt=>(hk.block k (by omega) (fun hs=>by have:=hS k hs;omega)).trans (h.block k hlt)⟩
structure BI (W:World) (v:Value) (E:List Ev) (V:World):Prop where
 bel:Below W.heap.size W V
 re:Re V v E
 vB:∀k,v.ownBlock=some k→W.heap.size≤k
theorem evsL_take {c:List Nd}{j:Nat}{m:Nd}(h:c[j]?=some m):evsL (c.take (j+1))=evsL (c.take j)++evs m:=by
 rw [List.take_add_one,h,evsL_app]
 simp [evsL]
theorem evsL_le {c:List Nd}{j:Nat}:(evsL (c.take j)).length≤(evsL c).length:=by
 have:evsL c=evsL (c.take j)++evsL (c.drop j):=by rw [←evsL_app,List.take_append_drop]
 rw [this,List.length_append]
 omega
abbrev NdB (k:Int) (d:Tv) (s:Value):Obj:=.cells #[.int .u8 k,.int .u8 d.k,.string d.t,.int .i64 d.a,.int .i64 d.l,.int .i64 d.c,.int .i64 d.f,s] 46
theorem Nv.kid {W:World}{ao:Option Addr}{c:List Nd}(h:(ao=none→c=[])∧∀a,ao=some a→c=[]∨∃b o,a=⟨b,o,none⟩∧HL W b o c) {V:World}(hb:Below W.heap.size W V) {j:Nat}{m:Nd}(hm:c[j]?=some m) :
  ∃b o,ao=some ⟨b,o,none⟩∧b<V.heap.size∧∃ao2 cap2,(V.cell? ⟨b,o+j*8,none⟩=some (.int .u8 m.k)∧V.cell? ⟨b,o+j*8+1,none⟩=some (.int .u8 m.d.k)∧V.cell? ⟨b,o+j*8+2,none⟩=some (.string m.d.t)∧V.cell? ⟨b,o+j*8+3,none⟩=some (.int .i64 m.d.a)∧V.cell? ⟨b,o+j*8+4,none⟩=some (.int .i64 m.d.l)∧V.cell? ⟨b,o+j*8+5,none⟩=some (.int .i64 m.d.c)∧V.cell? ⟨b,o+j*8+6,none⟩=some (.int .i64 m.d.f)∧V.cell? ⟨b,o+j*8+7,none⟩=some (.slice ao2 m.c.length cap2)) ∧
   Nv V (.agg #[.int .u8 m.k,.int .u8 m.d.k,.string m.d.t,.int .i64 m.d.a,.int .i64 m.d.l,.int .i64 m.d.c,.int .i64 m.d.f,.slice ao2 m.c.length cap2]) m:=by
 have hlt:=(List.getElem?_eq_some_iff.1 hm).1
 cases ao with
 |none=>have:=h.1 rfl;subst this;simp at hlt
 |some a=>
  obtain ⟨b,o,rfl,hl⟩:=(h.2 a rfl).resolve_left (fun e=>by subst e;simp at hlt)
  obtain ⟨hbl,ao2,cap2,hc,p1,p2,p3,p4⟩:=hn_cells (HL.at (HL.below hb c b o hl) hm)
  exact ⟨b,o,rfl,hbl,ao2,cap2,hc,ao2,cap2,rfl,p1,p2,p3,p4⟩
abbrev ndv (k:Int) (d:Tv) (s:Value):Value:=.agg #[.int .u8 k,.int .u8 d.k,.string d.t,.int .i64 d.a,.int .i64 d.l,.int .i64 d.c,.int .i64 d.f,s]
theorem isTok_any (k:Int) (d:Tv) (ao:Option Addr) (n cap:Nat) (W:World):Calls Tryz.prog 36 #[ndv k d (.slice ao n cap)] W fun r w'=>r=.returned (.bool (k == 0))∧Below W.heap.size W w':=by
 go_enter Tryz.func36,Tryz.ntmps36
 go_wp2_with fail
 go_ret
 exact ⟨rfl,below_new _ _⟩
def kof (t:Tv):Int:=if cm t then 4 else 2
theorem kindOf_any (t:Tv) (W:World):Calls Tryz.prog 37 #[t.v] W fun r w'=>r=.returned (.int .u8 (kof t))∧Below W.heap.size W w':=by
 unfold kof cm
 dsimp only [Tv.v]
 obtain ⟨b7,e7⟩:∃b,(t.k == 7)=b:=⟨_,rfl⟩
 obtain ⟨b8,e8⟩:∃b,(t.k == 8)=b:=⟨_,rfl⟩
 rw [e7,e8]
 cases b7
 ·cases b8
  ·go_enter Tryz.func37,Tryz.ntmps37
   go_wp2_with fail
   go_ret
   exact ⟨rfl,below_new _ _⟩
  ·go_enter Tryz.func37,Tryz.ntmps37
   go_wp2_with fail
   go_ret
   exact ⟨rfl,below_new _ _⟩
 ·go_enter Tryz.func37,Tryz.ntmps37
  go_wp2_with fail
  go_ret
  exact ⟨rfl,below_new _ _⟩
theorem tkE_kof (d:Tv):tkE d=⟨kof d,0,d⟩:=by
 unfold tkE kof
 split <;> rfl
theorem kid0 {w0:World}{ao:Option Addr}{c:List Nd}(h:(ao=none→c=[])∧∀a,ao=some a→c=[]∨∃b o,a=⟨b,o,none⟩∧HL w0 b o c) {V:World}(hb:Below w0.heap.size w0 V) {j:Nat}{m:Nd}(hm:c[j]?=some m) :
  ∃b o,ao=some ⟨b,o,none⟩∧b<V.heap.size∧∃ao2 cap2,(V.cell? ⟨b,o+j*8,none⟩=some (.int .u8 m.k)∧V.cell? ⟨b,o+j*8+1,none⟩=some (.int .u8 m.d.k)∧V.cell? ⟨b,o+j*8+2,none⟩=some (.string m.d.t)∧V.cell? ⟨b,o+j*8+3,none⟩=some (.int .i64 m.d.a)∧V.cell? ⟨b,o+j*8+4,none⟩=some (.int .i64 m.d.l)∧V.cell? ⟨b,o+j*8+5,none⟩=some (.int .i64 m.d.c)∧V.cell? ⟨b,o+j*8+6,none⟩=some (.int .i64 m.d.f)∧V.cell? ⟨b,o+j*8+7,none⟩=some (.slice ao2 m.c.length cap2)) ∧
   Nv w0 (.agg #[.int .u8 m.k,.int .u8 m.d.k,.string m.d.t,.int .i64 m.d.a,.int .i64 m.d.l,.int .i64 m.d.c,.int .i64 m.d.f,.slice ao2 m.c.length cap2]) m:=by
 obtain ⟨b,o,e,hlt,ao2,cap2,⟨y0,y1,y2,y3,y4,y5,y6,y7⟩,hv⟩:=Nv.kid h (Below.refl _ _) hm
 have tr:∀i u,w0.cell? ⟨b,i,none⟩=some u→V.cell? ⟨b,i,none⟩=some u:=fun i u hu=>(World.cell?_of_block (a:=⟨b,i,none⟩) (hb.block b hlt)).trans hu
 exact ⟨b,o,e,Nat.lt_of_lt_of_le hlt hb.size,ao2,cap2,⟨tr _ _ y0,tr _ _ y1,tr _ _ y2,tr _ _ y3,tr _ _ y4,tr _ _ y5,tr _ _ y6,tr _ _ y7⟩,hv⟩
theorem size_al (W:World) (o:Obj):(W.alloc o).heap.size=W.heap.size+1:=World.size_alloc _ _
theorem step_ev {W:World}{ops:Array Oper}{o:Oper}{a:Act}{K:Act→World→Prop}{Q:Exit→Act→World→Prop}{E:Prop}(hgd:o.guard=none) (s x:Operand)
  (ho:o.op=.call { callee:=.builtin .append,args:=#[s,x],argTypes:=#[34,34] }) (v:Value) (l:List Ev) (d:Ev) (hs:a.eval s=v) (hr:Re W v l)
  (g c:Nat) (hx:a.eval x=.slice (some ⟨g,0,none⟩) 1 c) (hg:W.heap[g]?=some (.cells #[.int .u8 d.k,.int .u8 d.n,.int .u8 d.d.k,.string d.d.t,.int .i64 d.d.a,.int .i64 d.d.l,.int .i64 d.d.c,.int .i64 d.d.f] 53 (0,0))) (hl:l.length≤1000000000)
  (h:∀q cap w',Re w' (.slice (some ⟨q,0,none⟩) (l.length+1) cap) (l++[d])→W.grownBy w' v.ownBlock→Nb W v (.slice (some ⟨q,0,none⟩) (l.length+1) cap)→K (a.put o.dst (.slice (some ⟨q,0,none⟩) (l.length+1) cap)) w') :
  if Region.wanted o (yielded ops a.tmps)=true then Oper.wp Tryz.prog o a W K Q else E:=by
 obtain ⟨i0,hi,hz0,hz1,hz2⟩:=info_parts Tryz.info53
 refine step_append_lies W hgd s x 34 ho 0 53 i0 _ 8 64 Tryz.underlying34 hi hz0 hz1 hz2 rfl (by decide) v _ _ hs hr ⟨g,0,none⟩ 1 c (ecs [d]) hx (by rw [ecs_len];rfl) ?_ (ecs_one [d]) (by omega) (by unfold maxLen;omega) (by omega) (Nat.zero_le _) _ rfl ?_
 ·intro j u hu
  refine World.news_of_block hg j u ?_
  have e:ecs [d]=[.int .u8 d.k,.int .u8 d.n,.int .u8 d.d.k,.string d.d.t,.int .i64 d.d.a,.int .i64 d.d.l,.int .i64 d.d.c,.int .i64 d.d.f]:=by simp [ecs,flat,Ev.cs]
  rw [e] at hu
  simpa using hu
 ·intro q cap w' a1 a2 a3 _
  refine h q cap w' ?_ a2 ?_
  ·unfold Re
   rw [List.length_append,ecs_app]
   exact a1
  ·rcases a3 with a3|a3
   ·exact .inl a3.symm
   ·exact .inr ⟨q,rfl,by omega⟩
def tyB (T:TypeId) (W:World) (k:Nat):Prop:=∃cs f,W.heap[k]?=some (.cells cs T f)
def KT (T:TypeId) (g:Nat) (W w':World):Prop:=Kp (fun k=>k=g∨tyB T W k) W w'
theorem KT.trans {T:TypeId}{g:Nat}{a b c:World}(h:KT T g a b) (k:KT T g b c):KT T g a c:=by
 refine ⟨k.os.trans h.os,k.tape.trans h.tape,k.output.trans h.output,Nat.le_trans h.size k.size,fun j hj hS=>?_⟩
 have e:=h.block j hj hS
 refine (k.block j (Nat.lt_of_lt_of_le hj h.size) (fun ht=>hS ?_)).trans e
 rcases ht with ht|⟨cs,f,ht⟩
 ·exact .inl ht
 ·exact .inr ⟨cs,f,by rw [←e];exact ht⟩
theorem KT.of_below {T:TypeId}{g:Nat}{a b:World}(h:Below a.heap.size a b):KT T g a b:=Kp.of_below h
theorem KT.blk {T:TypeId}{g:Nat}{a b:World}(h:KT T g a b) {k:Nat}{cs:Array Value}{U:TypeId}{f:Nat × Nat}(hk:a.heap[k]?=some (.cells cs U f)) (hg:k≠g) (hT:U≠T):b.heap[k]?=some (.cells cs U f):=by
 refine Kp.blk h hk ?_
 rintro (e|⟨cs',f',e⟩)
 ·exact hg e
 ·rw [hk] at e
  injection e with e
  injection e with _ e
  exact hT e
theorem re_ty {W:World}{v:Value}{E:List Ev}(h:Re W v E):∀k,v.ownBlock=some k→tyB 53 W k:=by
 intro k hk
 rcases h.2 with ⟨rfl,_⟩|⟨b,cap,cur,rfl,_,h3,_⟩
 ·cases hk
 ·simp only [Value.ownBlock,Option.some.injEq] at hk
  subst hk
  exact ⟨_,_,h3⟩
abbrev tellF (g p:Nat):Value:=.func (.func 35) #[] #[.pointer (some ⟨g,0,none⟩),.pointer (some ⟨p,0,none⟩)]
structure EI (w0:World) (g p:Nat) (v:Value) (E:List Ev) (V:World):Prop where
 bel:Below w0.heap.size w0 V
 hg:V.heap[g]?=some (.cells #[v] 34 (0,0))
 hp:V.heap[p]?=some (.cells #[tellF g p] 88 (0,0))
 re:Re V v E
 vB:∀k,v.ownBlock=some k→w0.heap.size≤k
 g0:w0.heap.size≤g
 p0:w0.heap.size≤p
theorem EI.ne {w0:World}{g p:Nat}{v:Value}{E:List Ev}{V:World}(h:EI w0 g p v E V):g≠p:=by
 rintro rfl
 have:=h.hg
 rw [h.hp] at this
 injection this with e
 injection e with _ e
 exact absurd e (by decide)
theorem EI.below {w0:World}{g p:Nat}{v:Value}{E:List Ev}{V V':World}(h:EI w0 g p v E V) (hb:Below V.heap.size V V'):EI w0 g p v E V':=
 ⟨h.bel.trans (hb.mono h.bel.size),blk_below h.hg hb,blk_below h.hp hb,h.re.below hb,h.vB,h.g0,h.p0⟩
theorem EI.push {w0:World}{g p:Nat}{v v':Value}{E ds:List Ev}{V V1 w3:World}(h:EI w0 g p v E V) (hb:Below V.heap.size V V1) (hr:Re w3 v' (E++ds)) (hg:V1.grownBy w3 v.ownBlock) (hq:Nb V1 v v') :
  (w3.cell? ⟨g,0,none⟩=some v∧w3.frozen? ⟨g,0,none⟩=false∧g<w3.heap.size)∧EI w0 g p v' (E++ds) (w3.setCell ⟨g,0,none⟩ v')∧KT 53 g V (w3.setCell ⟨g,0,none⟩ v'):=by
 have h1:=h.below hb
 have kg:=Kp.of_grown hg
 have ne1:¬some g=v.ownBlock:=fun e=>h1.re.ne h1.hg (by decide) g e.symm rfl
 have ne2:¬some p=v.ownBlock:=fun e=>h1.re.ne h1.hp (by decide) p e.symm rfl
 have g3:=kg.blk h1.hg ne1
 have p3:=kg.blk h1.hp ne2
 have b3:Below w0.heap.size w0 w3:=Kp.low h1.bel kg (fun k e=>h1.vB k e.symm) h1.bel.size
 refine ⟨⟨blk_cell g3 rfl,blk_frozen g3,blk_lt g3⟩,⟨Kp.low b3 (Kp.set _ _ _ _) (fun k e=>by subst e;exact h.g0) b3.size,blk_set g3 0 _,blk_other p3 (Ne.symm h.ne) _,hr.kp (Kp.set _ _ _ _) (hr.ne g3 (by decide)),?_,h.g0,h.p0⟩,?_⟩
 ·intro k e
  rcases hq with hq|⟨q,e1,hq⟩
  ·exact h.vB k (by rw [←hq];exact e)
  ·rw [e1] at e
   simp at e
   have:=h1.bel.size
   omega
 ·refine ((Kp.of_below hb).step kg (fun k hk e=>.inr ?_)).step (Kp.set _ _ _ _) (fun k _ e=>.inl e)
  exact re_ty h.re k e.symm
def TellC (w0:World) (n:Nd):Prop:=∀vn,Nv w0 vn n→∀W g p v E,EI w0 g p v E W→E.length+(evs n).length≤1000000000→Calls Tryz.prog 35 #[vn,.pointer (some ⟨g,0,none⟩),.pointer (some ⟨p,0,none⟩)] W fun r w'=>r=.returned (.tuple #[])∧∃v',EI w0 g p v' (E++evs n) w'∧KT 53 g W w'
set_option maxRecDepth 100000 in
set_option maxHeartbeats 1000000 in
theorem tell_tok (w0:World) (d:Tv) (ao:Option Addr) (nk cap:Nat) (W:World) (g p:Nat) (v:Value) (E:List Ev) (hI:EI w0 g p v E W) (hle:E.length+1≤1000000000):Calls Tryz.prog 35 #[ndv 0 d (.slice ao nk cap),.pointer (some ⟨g,0,none⟩),.pointer (some ⟨p,0,none⟩)] W fun r w'=>r=.returned (.tuple #[])∧∃v',EI w0 g p v' (E++[tkE d]) w'∧KT 53 g W w':=by
 have HI:Hid (EI w0 g p v E W):=hI
 obtain ⟨pv,cv,hv,_⟩:=hI.re.shape
 subst hv
 have HTk:Hid (∀V,Calls Tryz.prog 36 #[ndv 0 d (.slice ao nk cap)] V fun r w'=>r=.returned (.bool true)∧Below V.heap.size V w'):=fun V=>isTok_any 0 d ao nk cap V
 have HKf:Hid (∀V,Calls Tryz.prog 37 #[.agg #[.int .u8 d.k,.string d.t,.int .i64 d.a,.int .i64 d.l,.int .i64 d.c,.int .i64 d.f]] V fun r w'=>r=.returned (.int .u8 (kof d))∧Below V.heap.size V w'):=fun V=>kindOf_any d V
 have hle1:E.length≤1000000000:=by omega
 obtain ⟨W1,eW⟩:∃W1,W1=W.alloc (NdB 0 d (.slice ao nk cap)):=⟨_,rfl⟩
 have HB1:Hid (Below W.heap.size W W1∧W1.heap[W.heap.size]?=some (NdB 0 d (.slice ao nk cap))):=by rw [eW];exact ⟨below_new _ _,new_at _ _⟩
 clear hI
 rw [tkE_kof]
 obtain ⟨kd,hkd⟩:∃kd,kof d=kd:=⟨_,rfl⟩
 rw [hkd] at HKf ⊢
 clear hkd
 go_enter Tryz.func35,Tryz.ntmps35
 go_wp2_with fail
 try rw [←eW]
 clear eW
 refine (HTk.out _).mono ?_
 rintro r w2 ⟨rfl,hb2⟩
 have H2:Hid (EI w0 g p (.slice pv E.length cv) E w2∧Below W.heap.size W w2):=⟨HI.out.below (HB1.out.1.trans (hb2.mono HB1.out.1.size)),HB1.out.1.trans (hb2.mono HB1.out.1.size)⟩
 have t0:w2.heap[W.heap.size]?=some (NdB 0 d (.slice ao nk cap)):=blk_below HB1.out.2 hb2
 have HC:Hid (∀V,Below w2.heap.size w2 V→V.cell? ⟨W.heap.size,1,none⟩=some (.int .u8 d.k)∧V.cell? ⟨W.heap.size,2,none⟩=some (.string d.t)∧V.cell? ⟨W.heap.size,3,none⟩=some (.int .i64 d.a)∧V.cell? ⟨W.heap.size,4,none⟩=some (.int .i64 d.l)∧V.cell? ⟨W.heap.size,5,none⟩=some (.int .i64 d.c)∧V.cell? ⟨W.heap.size,6,none⟩=some (.int .i64 d.f)∧V.cell? ⟨g,0,none⟩=some (.slice pv E.length cv)∧W.heap.size<V.heap.size∧g<V.heap.size):=fun V hb=>by
  have t:=blk_below t0 hb
  have u:=blk_below H2.out.1.hg hb
  exact ⟨blk_cell t rfl,blk_cell t rfl,blk_cell t rfl,blk_cell t rfl,blk_cell t rfl,blk_cell t rfl,blk_cell u rfl,blk_lt t,blk_lt u⟩
 have HP:Hid (∀w4 q cp w3,Below w2.heap.size w2 w4→Re w3 (.slice (some ⟨q,0,none⟩) (E.length+1) cp) (E++[⟨kd,0,d⟩])→w4.grownBy w3 (Value.slice pv E.length cv).ownBlock→Nb w4 (.slice pv E.length cv) (.slice (some ⟨q,0,none⟩) (E.length+1) cp)→(w3.cell? ⟨g,0,none⟩=some (.slice pv E.length cv)∧w3.frozen? ⟨g,0,none⟩=false∧g<w3.heap.size)∧EI w0 g p (.slice (some ⟨q,0,none⟩) (E.length+1) cp) (E++[⟨kd,0,d⟩]) (w3.setCell ⟨g,0,none⟩ (.slice (some ⟨q,0,none⟩) (E.length+1) cp))∧KT 53 g W (w3.setCell ⟨g,0,none⟩ (.slice (some ⟨q,0,none⟩) (E.length+1) cp))):=fun w4 q cp w3 hb h1 h2 h3=>by
  obtain ⟨a1,a2,a3⟩:=H2.out.1.push hb h1 h2 h3
  exact ⟨a1,a2,(KT.of_below H2.out.2).trans a3⟩
 have HR:Hid (∀V,Below w2.heap.size w2 V→Re V (.slice pv E.length cv) E):=fun V hb=>H2.out.1.re.below hb
 clear hb2 t0
 obtain ⟨c1,c2,c3,c4,c5,c6,c7,c8,c9⟩:=HC.out w2 (Below.refl _ _)
 go_wp2_with fail
 go_region_law (first|(refine step_ev (by rfl) _ _ (by rfl) (.slice pv E.length cv) E ⟨kd,0,d⟩ (by rfl) (HR.out _ (H4.out.trans ((below_new _ _).mono H4.out.size))) w4.heap.size 1 (by rfl) (new_at w4 _) hle1 ?_;intro q cp w3 h1 h2 h3;obtain ⟨⟨x1,x2,x3⟩,x4⟩:=HP.out _ q cp w3 (H4.out.trans ((below_new _ _).mono H4.out.size)) h1 h2 h3;have HX:=hid x4;clear x4 h1 h2 h3)|(go_simp;go_at_call 37;refine (HKf.out _).mono ?_;rintro r w4 ⟨rfl,hb4⟩;have H4:Hid (Below w2.heap.size w2 w4):=(Below.refl _ _).drew.trans (hb4.mono (Nat.le_refl _));obtain ⟨d1,d2,d3,d4,d5,d6,d7,d8,d9⟩:=HC.out w4 H4.out;clear hb4))
 all_goals (
  go_wp2_with fail
  first|go_end0|(refine bodyPost_ret (results_none rfl _ _ _) rfl ?_)
  exact ⟨rfl,_,HX.out⟩)
set_option maxRecDepth 100000 in
set_option maxHeartbeats 1000000 in
theorem tell_step (w0:World) (n:Nd) (IH:∀m,m∈n.c→TellC w0 m):TellC w0 n:=by
 intro vn h W g p v E hI hle
 obtain ⟨ao,cap,rfl,q1,q2,q3,q4⟩:=h
 have HI:Hid (EI w0 g p v E W):=hI
 obtain ⟨k,d,c⟩:=n
 dsimp only [Nd.k,Nd.d,Nd.c] at *
 by_cases hk:k=0
 ·subst hk
  have e:evs (.mk 0 d c)=[tkE d]:=by simp [evs]
  rw [e] at hle ⊢
  exact tell_tok w0 d ao c.length cap W g p v E hI (by simpa using hle)
 ·have e:evs (.mk k d c)=⟨1,k,tv0⟩ :: (evsL c++[⟨3,k,tv0⟩]):=by simp [evs,hk]
  have hkb:(k == 0)=false:=by simpa using hk
  obtain ⟨pv,cv,hv,_⟩:=hI.re.shape
  subst hv
  have HTk:Hid (∀V,Calls Tryz.prog 36 #[ndv k d (.slice ao c.length cap)] V fun r w'=>r=.returned (.bool false)∧Below V.heap.size V w'):=fun V=>by have:=isTok_any k d ao c.length cap V;rw [hkb] at this;exact this
  have hlc:E.length+(evsL c).length+2≤1000000000:=by rw [e] at hle;simp at hle;omega
  have HEV:Hid (E++evs (.mk k d c)=(E++[⟨1,k,tv0⟩]++evsL c)++[⟨3,k,tv0⟩]):=(by rw [e];simp:E++evs (.mk k d c)=(E++[⟨1,k,tv0⟩]++evsL c)++[⟨3,k,tv0⟩])
  have HIH:Hid (∀m,m∈c→TellC w0 m):=IH
  have HQ:Hid ((ao=none→c=[])∧∀a,ao=some a→c=[]∨∃b o,a=⟨b,o,none⟩∧HL w0 b o c):=⟨q3,q4⟩
  have hcl:(c.length:Int)≤9223372036854775807:=by have:maxLen=9223372036854775807:=rfl;omega
  have hng:W.heap.size≠g:=fun e=>by have:=blk_lt HI.out.hg;omega
  obtain ⟨W1,eW⟩:∃W1,W1=W.alloc (NdB k d (.slice ao c.length cap)):=⟨_,rfl⟩
  have HB1:Hid (Below W.heap.size W W1∧W1.heap[W.heap.size]?=some (NdB k d (.slice ao c.length cap))):=by rw [eW];exact ⟨below_new _ _,new_at _ _⟩
  clear hI hle q3 q4 IH e
  go_enter Tryz.func35,Tryz.ntmps35
  go_wp2_with fail
  try rw [←eW]
  clear eW
  refine (HTk.out _).mono ?_
  rintro r w2 ⟨rfl,hb2⟩
  have H2:Hid (EI w0 g p (.slice pv E.length cv) E w2∧KT 53 g W w2):=⟨HI.out.below (HB1.out.1.trans (hb2.mono HB1.out.1.size)),KT.of_below (HB1.out.1.trans (hb2.mono HB1.out.1.size))⟩
  have HN2:Hid (w2.heap[W.heap.size]?=some (NdB k d (.slice ao c.length cap))):=blk_below HB1.out.2 hb2
  have y0:w2.cell? ⟨W.heap.size,0,none⟩=some (.int .u8 k):=blk_cell HN2.out rfl
  have yg:w2.cell? ⟨g,0,none⟩=some (.slice pv E.length cv):=blk_cell H2.out.1.hg rfl
  have ygl:=blk_lt H2.out.1.hg
  have yl:=blk_lt HN2.out
  have hlE:E.length≤1000000000:=by omega
  clear hb2 HB1
  go_wp2_with (at_builtin;refine app_ev (by rfl) _ _ (by rfl) (.slice pv E.length cv) E ⟨1,k,tv0⟩ (by rfl) (H2.out.1.re.below (below_new _ _)) w2.heap.size 1 (by rfl) (new_at _ _) hlE ?_;intro v' w3 h1 h2 h3;obtain ⟨p3,c3,hv3,_⟩:=h1.shape;subst hv3;obtain ⟨⟨x1,x2,x3⟩,x4,x5⟩:=H2.out.1.push (below_new _ _) h1 h2 h3;have H3:Hid (EI w0 g p (.slice p3 (E++[(⟨1,k,tv0⟩:Ev)]).length c3) (E++[⟨1,k,tv0⟩]) (w3.setCell ⟨g,0,none⟩ (.slice p3 (E++[(⟨1,k,tv0⟩:Ev)]).length c3))∧KT 53 g W (w3.setCell ⟨g,0,none⟩ (.slice p3 (E++[(⟨1,k,tv0⟩:Ev)]).length c3))∧(w3.setCell ⟨g,0,none⟩ (.slice p3 (E++[(⟨1,k,tv0⟩:Ev)]).length c3)).heap[W.heap.size]?=some (NdB k d (.slice ao c.length cap))):=⟨x4,H2.out.2.trans x5,x5.blk HN2.out hng (by decide)⟩;have x6:w3.cell? ⟨W.heap.size,7,none⟩=some (.slice ao c.length cap):=blk_cell ((Kp.of_grown h2).blk (blk_below HN2.out (below_new _ _)) (fun e=>H2.out.1.re.ne HN2.out (by decide) _ e.symm rfl)) rfl;have x7:W.heap.size<w3.heap.size:=World.block_lt_of_cell? _ _ x6;clear x4 x5 h1 h2 h3)
  obtain ⟨w4,e4⟩:∃w4,w3.setCell ⟨g,0,none⟩ (.slice p3 (E.length+1) c3)=w4:=⟨_,rfl⟩
  have H4:Hid (EI w0 g p (.slice p3 (E++[(⟨1,k,tv0⟩:Ev)]).length c3) (E++[⟨1,k,tv0⟩]) w4∧KT 53 g W w4∧w4.heap[W.heap.size]?=some (NdB k d (.slice ao c.length cap))):=by
   have:=H3.out
   rw [show (E++[(⟨1,k,tv0⟩:Ev)]).length=E.length+1 by simp] at this ⊢
   rw [e4] at this
   exact this
  rw [e4]
  clear e4 H3 x1 x2 x3 x6 x7 y0 yg ygl yl
  go_loopw [26] (fun iv wr=>∃j:Nat,j≤c.length∧iv=.int .i64 j∧Hid (∃v',EI w0 g p v' (E++[⟨1,k,tv0⟩]++evsL (c.take j)) wr∧KT 53 g W wr∧wr.heap[W.heap.size]?=some (NdB k d (.slice ao c.length cap)))) (fun iv _=>c.length-(intOf iv).toNat)
  case atStart=>exact ⟨0,Nat.zero_le _,rfl,_,by simpa [evsL] using H4.out⟩
  case round=>
   obtain ⟨j,hj,rfl,HJ0⟩:=hrel
   obtain ⟨vj,hJ⟩:=HJ0.out
   have HJ:=hid hJ
   clear HJ0 hJ
   have hll:=evsL_le (c:=c) (j:=j)
   by_cases hlt:j<c.length
   ·have z1:(j:Int)<c.length:=by omega
    have z2:(0:Int)≤j:=by omega
    obtain ⟨m,hm⟩:∃m,c[j]?=some m:=⟨_,List.getElem?_eq_getElem hlt⟩
    have hmm:m∈c:=List.mem_of_getElem? hm
    obtain ⟨b,o,rfl,hbl,ao2,cap2,⟨v0,v1,v2,v3,v4,v5,v6,v7⟩,hv⟩:=kid0 HQ.out HJ.out.1.bel hm
    have yp:wr.cell? ⟨p,0,none⟩=some (tellF g p):=blk_cell HJ.out.1.hp rfl
    have ypl:p<wr.heap.size:=blk_lt HJ.out.1.hp
    have ht:=evsL_take hm
    have hll2:=evsL_le (c:=c) (j:=j+1)
    rw [ht] at hll2
    have HC:Hid (∀V,EI w0 g p vj (E++[⟨1,k,tv0⟩]++evsL (c.take j)) V→Calls Tryz.prog 35 #[ndv m.k m.d (.slice ao2 m.c.length cap2),.pointer (some ⟨g,0,none⟩),.pointer (some ⟨p,0,none⟩)] V fun r w'=>r=.returned (.tuple #[])∧∃v',EI w0 g p v' (E++[⟨1,k,tv0⟩]++evsL (c.take (j+1))) w'∧KT 53 g V w'):=fun V hV=>by
     have:=HIH.out m hmm _ hv V g p _ _ hV (by simp at hll2 ⊢;omega)
     rw [ht,←List.append_assoc]
     exact this
    clear hm hmm hv ht hll2
    obtain ⟨W5,eW5⟩:∃W5,W5=wr.alloc (NdB m.k m.d (.slice ao2 m.c.length cap2)):=⟨_,rfl⟩
    have H5:Hid (Below wr.heap.size wr W5):=by rw [eW5];exact below_new _ _
    go_wp2_with fail
    try rw [←eW5]
    refine (HC.out _ (HJ.out.1.below H5.out)).mono ?_
    rintro r w6 ⟨rfl,v',h6,k6⟩
    have H6:Hid (∃v',EI w0 g p v' (E++[⟨1,k,tv0⟩]++evsL (c.take (j+1))) w6∧KT 53 g W w6∧w6.heap[W.heap.size]?=some (NdB k d (.slice (some ⟨b,o,none⟩) c.length cap))):=⟨v',h6,HJ.out.2.1.trans ((KT.of_below H5.out).trans k6),k6.blk (blk_below HJ.out.2.2 H5.out) hng (by decide)⟩
    clear h6 k6 eW5
    go_wp2_with fail
    exact ⟨⟨j+1,hlt,by go_num,H6⟩,by simp [intOf];omega⟩
   ·obtain rfl:j=c.length:=by omega
    have z1:¬((c.length:Int)<c.length):=by omega
    rw [List.take_length] at HJ hll
    have HZ:Hid ((E++[(⟨1,k,tv0⟩:Ev)]++evsL c).length≤1000000000):=(by simp;omega:(E++[(⟨1,k,tv0⟩:Ev)]++evsL c).length≤1000000000)
    obtain ⟨pl,cl,hvl,_⟩:=HJ.out.1.re.shape
    obtain ⟨nl,hnl⟩:∃nl,(E++[(⟨1,k,tv0⟩:Ev)]++evsL c).length=nl:=⟨_,rfl⟩
    rw [hnl] at hvl
    subst hvl
    have u0:wr.cell? ⟨W.heap.size,0,none⟩=some (.int .u8 k):=blk_cell HJ.out.2.2 rfl
    have ug:wr.cell? ⟨g,0,none⟩=some (.slice pl nl cl):=blk_cell HJ.out.1.hg rfl
    have ul:=blk_lt HJ.out.2.2
    have ugl:=blk_lt HJ.out.1.hg
    clear hnl
    go_wp2_with (at_builtin;refine app_ev (by rfl) _ _ (by rfl) (.slice pl nl cl) (E++[⟨1,k,tv0⟩]++evsL c) ⟨3,k,tv0⟩ (by rfl) (HJ.out.1.re.below (below_new _ _)) wr.heap.size 1 (by rfl) (new_at _ _) HZ.out ?_;intro v' w5 h1 h2 h3;obtain ⟨p5,c5,hv5,_⟩:=h1.shape;obtain ⟨nl5,hnl5⟩:∃nl5,((E++[(⟨1,k,tv0⟩:Ev)]++evsL c)++[(⟨3,k,tv0⟩:Ev)]).length=nl5:=⟨_,rfl⟩;rw [hnl5] at hv5;subst hv5;obtain ⟨⟨x1,x2,x3⟩,x4,x5⟩:=HJ.out.1.push (below_new _ _) h1 h2 h3;have HX:Hid (EI w0 g p (.slice p5 nl5 c5) (E++evs (.mk k d c)) (w5.setCell ⟨g,0,none⟩ (.slice p5 nl5 c5))∧KT 53 g W (w5.setCell ⟨g,0,none⟩ (.slice p5 nl5 c5))):=⟨by rw [HEV.out];exact x4,HJ.out.2.1.trans x5⟩;clear x4 x5 h1 h2 h3 hnl5)
    go_end0
    exact ⟨rfl,⟨_,HX.out.1⟩,HX.out.2⟩
theorem tell_any (w0:World) (n:Nd):TellC w0 n:=by
 obtain ⟨s,hs⟩:∃s,nsz n=s:=⟨_,rfl⟩
 induction s using Nat.strongRecOn generalizing n with
 |ind s ih=>exact tell_step w0 n (fun m hm=>ih (nsz m) (by rw [←hs];exact nsz_kid hm) m rfl)
theorem ei_start (W:World) (o:Obj):EI W (W.heap.size+1) (W.heap.size+1+1) (.slice none 0 0) [] (((W.alloc o).alloc (.cells #[.slice none 0 0] 34)).alloc (.cells #[tellF (W.heap.size+1) (W.heap.size+1+1)] 88)):=by
 have e1:=size_al W o
 have e2:=size_al (W.alloc o) (.cells #[.slice none 0 0] 34)
 have b1:=below_new W o
 have b2:=below_new (W.alloc o) (.cells #[.slice none 0 0] 34)
 have b3:=below_new ((W.alloc o).alloc (.cells #[.slice none 0 0] 34)) (.cells #[tellF (W.heap.size+1) (W.heap.size+1+1)] 88)
 refine ⟨(b1.trans (b2.mono b1.size)).trans (b3.mono (by omega)),?_,?_,re_nil _,(fun k e=>by cases e),by omega,by omega⟩
 ·refine alloc_at' ?_ _
  rw [←e1]
  exact new_at _ _
 ·rw [←e1,←e2]
  exact new_at _ _
set_option maxRecDepth 100000 in
theorem events_any (n:Nd) (vn:Value) (W:World) (h:Nv W vn n) (hl:(evs n).length≤1000000000):Calls Tryz.prog 14 #[vn] W fun r w'=>∃v',r=.returned v'∧BI W v' (evs n) w':=by
 have hmf:∀(fn:Fn) (first cap:Array Value) (w:World),(Instr.makeFunc fn first cap).run Tryz.prog w=.ok (.func fn first cap) w:=fun _ _ _ _=>rfl
 have HL:Hid (∀V,EI W (W.heap.size+1) (W.heap.size+1+1) (.slice none 0 0) [] V→Calls Tryz.prog 35 #[vn,.pointer (some ⟨W.heap.size+1,0,none⟩),.pointer (some ⟨W.heap.size+1+1,0,none⟩)] V fun r w'=>r=.returned (.tuple #[])∧∃v',EI W (W.heap.size+1) (W.heap.size+1+1) v' (evs n) w'):=fun V hV=>by
  refine (tell_any W n vn h V _ _ _ _ hV (by simpa using hl)).mono ?_
  rintro r w' ⟨rfl,v',h1,_⟩
  exact ⟨rfl,v',by simpa using h1⟩
 obtain ⟨ao,cap,rfl,_⟩:=h
 go_enter Tryz.func14,Tryz.ntmps14
 go_wp2_with fail
 refine (HL.out _ (ei_start W _)).mono ?_
 rintro r w1 ⟨rfl,v',h1⟩
 obtain ⟨pv,cv,hv,_⟩:=h1.re.shape
 obtain ⟨nl,hnl⟩:∃nl,(evs n).length=nl:=⟨_,rfl⟩
 rw [hnl] at hv
 subst hv
 have yg:w1.cell? ⟨W.heap.size+1,0,none⟩=some (.slice pv nl cv):=blk_cell h1.hg rfl
 have ygl:W.heap.size+1<w1.heap.size:=blk_lt h1.hg
 have H1:Hid (BI W (.slice pv nl cv) (evs n) w1):=⟨h1.bel,h1.re,h1.vB⟩
 clear h1 HL hnl
 go_wp2_with fail
 go_ret
 exact ⟨_,rfl,H1.out⟩
end Go.Proofs.YtkigadnkclkopaaGreatDoor
