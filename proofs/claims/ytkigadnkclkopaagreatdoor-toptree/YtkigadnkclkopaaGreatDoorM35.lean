import Derived.Test.YtkigadnkclkopaaGreatDoorM34
set_option linter.unusedVariables false
set_option linter.unusedSimpArgs false
namespace Go.Proofs.YtkigadnkclkopaaGreatDoor
open Go.RowKit
def nc (n:Nd) (s:Value):List Value:=[.int .u8 n.k,.int .u8 n.d.k,.string n.d.t,.int .i64 n.d.a,.int .i64 n.d.l,.int .i64 n.d.c,.int .i64 n.d.f,s]
theorem nc_len (x:Nd × Value):(nc x.1 x.2).length=8:=rfl
def ncs (c:List Nd) (vs:List Value):List Value:=flat (fun x:Nd × Value=>nc x.1 x.2) (c.zip vs)
theorem ncs_app (c:List Nd) (vs:List Value) (h:vs.length=c.length) (n:Nd) (s:Value):ncs (c++[n]) (vs++[s])=ncs c vs++nc n s:=by
 unfold ncs
 rw [List.zip_append h.symm,flat_append]
 simp [flat]
theorem ncs_at {c:List Nd}{vs:List Value}{j i:Nat}{n:Nd}{s u:Value}(hn:c[j]?=some n) (hs:vs[j]?=some s) (hu:(nc n s)[i]?=some u):(ncs c vs)[j*8+i]?=some u:=by
 refine flat_at _ 8 nc_len _ j i (n,s) u ?_ hu
 rw [List.getElem?_zip_eq_some]
 exact ⟨hn,hs⟩
def RN (W:World) (sv:Value) (c:List Nd) (vs:List Value):Prop:=vs.length=c.length∧W.ownsRow 0 46 8 sv c.length (ncs c vs)
theorem RN.shape {W:World}{sv:Value}{c:List Nd}{vs:List Value}(h:RN W sv c vs):∃p cap,sv=.slice p c.length cap∧c.length≤cap∧cap≤maxLen:=row_shape h.2
theorem RN.kp {S:Nat→Prop}{W W':World}{sv:Value}{c:List Nd}{vs:List Value}(h:RN W sv c vs) (hk:Kp S W W') (hS:∀k,sv.ownBlock=some k→¬S k):RN W' sv c vs:=⟨h.1,hk.row h.2 hS⟩
theorem RN.lt {W:World}{sv:Value}{c:List Nd}{vs:List Value}(h:RN W sv c vs):∀k,sv.ownBlock=some k→k<W.heap.size:=by
 intro k hk
 rcases h.2.2 with ⟨rfl,_⟩|⟨b,cap,cur,rfl,_,h3,_⟩
 ·cases hk
 ·simp only [Value.ownBlock,Option.some.injEq] at hk
  subst hk
  exact blk_lt h3
theorem rn_nil (W:World):RN W (.slice none 0 0) [] []:=⟨rfl,World.ownsRow_nil W 0 46 8⟩
mutual
def TN (O:Nat→Prop) (W:World):Nd→Value→Prop
 |.mk _ _ c,sv=>∃vs,RN W sv c vs∧(∀k,sv.ownBlock=some k→O k)∧TL O W c vs
def TL (O:Nat→Prop) (W:World):List Nd→List Value→Prop
 |[],vs=>vs=[]
 |n :: r,vs=>∃x vr,vs=x :: vr∧TN O W n x∧TL O W r vr
end
theorem tn_nil (O:Nat→Prop) (W:World) (k:Int) (d:Tv):TN O W (.mk k d []) (.slice none 0 0):=by
 rw [TN]
 exact ⟨[],rn_nil W,(fun k hk=>by cases hk),by rw [TL]⟩
mutual
theorem TN.kp {O S:Nat→Prop}{W W':World}(hk:Kp S W W') (hS:∀k,O k→¬S k):∀(n:Nd) (x:Value),TN O W n x→TN O W' n x
 |.mk _ _ c,x,h=>by
  rw [TN] at h ⊢
  obtain ⟨vs,h1,h2,h3⟩:=h
  exact ⟨vs,h1.kp hk (fun k e=>hS k (h2 k e)),h2,TL.kp hk hS c vs h3⟩
theorem TL.kp {O S:Nat→Prop} {W W':World} (hk:Kp S W W') (hS:∀k,O k→¬S k):∀(c:List Nd) (vs:List Value),TL O W c vs→TL O W' c vs
 |[],vs,h=>by rw [TL] at h ⊢;exact h
 |n :: r,vs,h=>by
  rw [TL] at h ⊢
  obtain ⟨x,vr,h1,h2,h3⟩:=h
  exact ⟨x,vr,h1,TN.kp hk hS n x h2,TL.kp hk hS r vr h3⟩
end
mutual
theorem TN.sub {O O':Nat→Prop}{W:World}(hS:∀k,k<W.heap.size→O k→O' k):∀(n:Nd) (x:Value),TN O W n x→TN O' W n x
 |.mk _ _ c,x,h=>by
  rw [TN] at h ⊢
  obtain ⟨vs,h1,h2,h3⟩:=h
  exact ⟨vs,h1,fun k e=>hS k (h1.lt k e) (h2 k e),TL.sub hS c vs h3⟩
theorem TL.sub {O O':Nat→Prop} {W:World} (hS:∀k,k<W.heap.size→O k→O' k):∀(c:List Nd) (vs:List Value),TL O W c vs→TL O' W c vs
 |[],vs,h=>by rw [TL] at h ⊢;exact h
 |n :: r,vs,h=>by
  rw [TL] at h ⊢
  obtain ⟨x,vr,h1,h2,h3⟩:=h
  exact ⟨x,vr,h1,TN.sub hS n x h2,TL.sub hS r vr h3⟩
end
theorem TL.app {O:Nat→Prop}{W:World}{n:Nd}{x:Value}(hn:TN O W n x):∀{c:List Nd}{vs:List Value},TL O W c vs→TL O W (c++[n]) (vs++[x])
 |[],vs,h=>by
  rw [TL] at h
  subst h
  rw [List.nil_append,List.nil_append,TL]
  exact ⟨x,[],rfl,hn,by rw [TL]⟩
 |m :: r,vs,h=>by
  rw [TL] at h
  obtain ⟨y,vr,rfl,h2,h3⟩:=h
  rw [List.cons_append,List.cons_append,TL]
  exact ⟨y,vr++[x],rfl,h2,TL.app hn h3⟩
theorem TL.at {O:Nat→Prop}{W:World}:∀{c:List Nd}{vs:List Value}{j:Nat}{n:Nd},TL O W c vs→c[j]?=some n→∃x,vs[j]?=some x∧TN O W n x
 |[],vs,j,n,h,hj=>by simp at hj
 |m :: r,vs,0,n,h,hj=>by
  rw [TL] at h
  obtain ⟨y,vr,rfl,h2,h3⟩:=h
  simp at hj
  subst hj
  exact ⟨y,rfl,h2⟩
 |m :: r,vs,j+1,n,h,hj=>by
  rw [TL] at h
  obtain ⟨y,vr,rfl,h2,h3⟩:=h
  obtain ⟨x,a,b⟩:=TL.at h3 (j:=j) (n:=n) (by simpa using hj)
  exact ⟨x,by simpa using a,b⟩
theorem RN.cell {W:World}{sv:Value}{c:List Nd}{vs:List Value}(h:RN W sv c vs) {g n cap:Nat}(hv:sv=.slice (some ⟨g,0,none⟩) n cap) {j i:Nat}{m:Nd}{s u:Value}(hn:c[j]?=some m) (hs:vs[j]?=some s) (hu:(nc m s)[i]?=some u):W.cell? ⟨g,j*8+i,none⟩=some u:=by
 have:=h.2.cells (g:=g) (n:=c.length) (by rw [hv];rfl) (j*8+i) u (ncs_at hn hs hu)
 rw [Addr.add_lit,Nat.zero_add] at this
 exact this
theorem TN.see {O:Nat→Prop}{W:World}(n:Nd):∀(x:Value),TN O W n x→Nv W (ndv n.k n.d x) n:=by
 obtain ⟨s,hs⟩:∃s,nsz n=s:=⟨_,rfl⟩
 induction s using Nat.strongRecOn generalizing n with
 |ind s ih=>
  intro x h
  obtain ⟨k,d,c⟩:=n
  rw [TN] at h
  obtain ⟨vs,h1,_,h3⟩:=h
  have hr:=h1.2.2
  rcases hr with ⟨e1,e2⟩|⟨b,cap,cur,e1,_,e3,e4,e5,_⟩
  ·have:c=[]:=List.eq_nil_of_length_eq_zero e2
   subst this
   subst e1
   exact ⟨none,0,rfl,Nat.le_refl _,Nat.zero_le _,(fun _=>rfl),(fun a ha=>by cases ha)⟩
  ·refine ⟨some ⟨b,0,none⟩,cap,by rw [e1];rfl,e4,e5,(fun h=>by cases h),fun a ha=>?_⟩
   cases ha
   refine .inr ⟨b,0,rfl,hl_of (fun j m hj=>?_)⟩
   obtain ⟨y,hy,hm⟩:=TL.at h3 hj
   obtain ⟨ao,cp,q0,q1,q2,q3,q4⟩:=ih (nsz m) (by rw [←hs];exact nsz_kid (List.mem_of_getElem? hj)) m rfl y hm
   have q0':y=.slice ao m.c.length cp:=by
    simp only [ndv,Value.agg.injEq] at q0
    have:=congrArg (fun a:Array Value=>a[7]?) q0
    simpa using this
   subst q0'
   have hc:∀i u,(nc m (.slice ao m.c.length cp))[i]?=some u→W.cell? ⟨b,0+j*8+i,none⟩=some u:=fun i u hu=>by
    rw [Nat.zero_add]
    exact h1.cell e1 hj hy hu
   have hc0:=hc 0 _ rfl
   obtain ⟨mk',md,mc⟩:=m
   rw [HN]
   exact ⟨⟨hc0,hc 1 _ rfl,hc 2 _ rfl,hc 3 _ rfl,hc 4 _ rfl,hc 5 _ rfl,hc 6 _ rfl⟩,ao,cp,hc 7 _ rfl,q1,q2,q3,q4⟩
def Le (w:World) (ao:Option Addr) (l:List Ev):Prop:=∀j d,l[j]?=some d→∃b off,ao=some ⟨b,off,none⟩ ∧
 w.cell? ⟨b,off+j*8,none⟩=some (.int .u8 d.k)∧w.cell? ⟨b,off+j*8+1,none⟩=some (.int .u8 d.n)∧w.cell? ⟨b,off+j*8+2,none⟩=some (.int .u8 d.d.k)∧w.cell? ⟨b,off+j*8+3,none⟩=some (.string d.d.t)∧w.cell? ⟨b,off+j*8+4,none⟩=some (.int .i64 d.d.a)∧w.cell? ⟨b,off+j*8+5,none⟩=some (.int .i64 d.d.l)∧w.cell? ⟨b,off+j*8+6,none⟩=some (.int .i64 d.d.c)∧w.cell? ⟨b,off+j*8+7,none⟩=some (.int .i64 d.d.f)
theorem Le.kp {S:Nat→Prop}{w w':World}{ao:Option Addr}{l:List Ev}(h:Le w ao l) (hb:Kp S w w') (hS:∀a,ao=some a→¬S a.block):Le w' ao l:=by
 intro j a ha
 obtain ⟨b,off,h1,c0,c1,c2,c3,c4,c5,c6,c7⟩:=h j a ha
 have hlt:=World.block_lt_of_cell? _ _ c0
 have e:w'.heap[b]?=w.heap[b]?:=hb.block b hlt (hS _ h1)
 exact ⟨b,off,h1,(World.cell?_of_block (a:=⟨b,_,none⟩) e).trans c0,(World.cell?_of_block (a:=⟨b,_,none⟩) e).trans c1,(World.cell?_of_block (a:=⟨b,_,none⟩) e).trans c2,(World.cell?_of_block (a:=⟨b,_,none⟩) e).trans c3,(World.cell?_of_block (a:=⟨b,_,none⟩) e).trans c4,(World.cell?_of_block (a:=⟨b,_,none⟩) e).trans c5,(World.cell?_of_block (a:=⟨b,_,none⟩) e).trans c6,(World.cell?_of_block (a:=⟨b,_,none⟩) e).trans c7⟩
theorem Le.below {w w':World}{ao:Option Addr}{l:List Ev}(h:Le w ao l) (hb:Below w.heap.size w w'):Le w' ao l:=h.kp (Kp.of_below (S:=fun _=>False) hb) (fun _ _ h=>h)
theorem Le.row {w:World}{v:Value}{l:List Ev}(h:Re w v l):∃ao cap,v=.slice ao l.length cap∧Le w ao l∧(ao=none∨∃g,ao=some ⟨g,0,none⟩∧g<w.heap.size)∧l.length≤cap∧cap≤maxLen:=by
 rcases h.2 with ⟨rfl,h0⟩|⟨g,cap,cur,rfl,hb,hg,h3,h4,h5,h6⟩
 ·have:l=[]:=List.eq_nil_of_length_eq_zero h0
  subst this
  exact ⟨none,0,rfl,fun j d h=>by simp at h,.inl rfl,Nat.zero_le _,Nat.zero_le _⟩
 ·refine ⟨some ⟨g,0,none⟩,cap,rfl,?_,.inr ⟨g,rfl,blk_lt hg⟩,h3,h4⟩
  intro j d hj
  have hc:∀(i:Nat) (u:Value),d.cs[i]?=some u→w.cell? ⟨g,0+j*8+i,none⟩=some u:=fun i u hu=>by
   have:=World.ownsRow.cells h (g:=g) rfl _ u (flat_at Ev.cs 8 Ev.cs_len l j i d _ hj hu)
   rw [Addr.add_lit,Nat.zero_add] at this
   rw [Nat.zero_add]
   exact this
  exact ⟨g,0,rfl,hc 0 _ rfl,hc 1 _ rfl,hc 2 _ rfl,hc 3 _ rfl,hc 4 _ rfl,hc 5 _ rfl,hc 6 _ rfl,hc 7 _ rfl⟩
theorem size_ev (w:World):(sizeOf 53).run Tryz.prog w=.ok 8 w:=by kernel_rfl
theorem Le.tail {w:World}{ao:Option Addr}{e:Ev}{r:List Ev}{cap:Nat}(h:Le w ao (e :: r)) (hc:r.length+1≤cap) (hm:cap≤maxLen) :
  ∃b off ao2 cap2,ao=some ⟨b,off,none⟩∧b<w.heap.size∧(w.cell? ⟨b,off,none⟩=some (.int .u8 e.k)∧w.cell? ⟨b,off+1,none⟩=some (.int .u8 e.n)∧w.cell? ⟨b,off+2,none⟩=some (.int .u8 e.d.k)∧w.cell? ⟨b,off+3,none⟩=some (.string e.d.t)∧w.cell? ⟨b,off+4,none⟩=some (.int .i64 e.d.a)∧w.cell? ⟨b,off+5,none⟩=some (.int .i64 e.d.l)∧w.cell? ⟨b,off+6,none⟩=some (.int .i64 e.d.c)∧w.cell? ⟨b,off+7,none⟩=some (.int .i64 e.d.f)) ∧
   (∀W,(Instr.slice 34 (.slice (some ⟨b,off,none⟩) (r.length+1) cap) (some (.int .i64 1)) none none).run Tryz.prog W=.ok (.slice ao2 r.length cap2) W)∧r.length≤cap2∧cap2≤maxLen∧Le w ao2 r:=by
 obtain ⟨b,off,h1,c0,c1,c2,c3,c4,c5,c6,c7⟩:=h 0 e rfl
 have hlt:=World.block_lt_of_cell? _ _ c0
 rw [Nat.zero_mul,Nat.add_zero] at c0 c1 c2 c3 c4 c5 c6 c7
 have run:∀W,(Instr.slice 34 (.slice (some ⟨b,off,none⟩) (r.length+1) cap) (some (.int .i64 1)) none none).run Tryz.prog W=.ok (sliced (some ⟨b,off,none⟩) 1 (r.length+1) cap 8) W:=fun W=>by
  rw [run_slice_l W 34 _ _ _ (by kernel_rfl) .i64 1 (by omega) (by omega)]
  have:Tryz.prog.elem 34=53:=by kernel_rfl
  rw [this,size_ev]
  rfl
 subst h1
 by_cases hz:cap=1
 ·have hr:r=[]:=List.eq_nil_of_length_eq_zero (by omega)
  subst hr
  subst hz
  refine ⟨b,off,some ⟨b,off,none⟩,0,rfl,hlt,⟨c0,c1,c2,c3,c4,c5,c6,c7⟩,fun W=>(run W).trans ?_,Nat.le_refl _,Nat.zero_le _,fun j d hj=>by simp at hj⟩
  simp [sliced]
 ·refine ⟨b,off,some ⟨b,off+8,none⟩,cap-1,rfl,hlt,⟨c0,c1,c2,c3,c4,c5,c6,c7⟩,fun W=>(run W).trans ?_,by omega,by omega,fun j d hj=>?_⟩
  ·simp [sliced,hz,Addr.add_lit]
  ·obtain ⟨b',off',e',x0,x1,x2,x3,x4,x5,x6,x7⟩:=h (j+1) d (by simpa using hj)
   simp only [Option.some.injEq,Addr.mk.injEq] at e'
   obtain ⟨rfl,rfl,_⟩:=e'
   rw [show off+(j+1)*8=off+8+j*8 by omega] at x0 x1 x2 x3 x4 x5 x6 x7
   exact ⟨b,off+8,rfl,x0,x1,x2,x3,x4,x5,x6,x7⟩
def aft (r:List Ev) (n:Nd):List (Int × List Nd)→Option Nd
 |[]=>if n.k=0 then none else if r=[] then some n else none
 |x :: S=>bld r (putN n (x :: S))
def Aft (a:Nat) (l:List Ev) (n:Nd) (r:List Ev):Prop:=∀S,S.length=a→bld l S=aft r n S
def Bad (a:Nat) (l:List Ev):Prop:=∀S,S.length=a→bld l S=none
theorem leaf_good {a:Nat}{e:Ev}{r:List Ev}(h:e.k=kof e.d):Aft a (e :: r) (.mk 0 e.d []) r:=by
 intro S _
 have h1:¬e.k=1:=by rw [h];unfold kof;split <;> decide
 have h3:¬e.k=3:=by rw [h];unfold kof;split <;> decide
 have hc:(e.k=2∧cm e.d=false)∨(e.k=4∧cm e.d=true):=by
  rw [h]
  unfold kof
  cases hm:cm e.d
  ·exact .inl ⟨by simp,rfl⟩
  ·exact .inr ⟨by simp,rfl⟩
 simp only [bld]
 rw [if_neg h1,if_neg h3,if_pos hc]
 cases S with
 |nil=>simp [aft,Nd.k]
 |cons x S=>obtain ⟨k,c⟩:=x;simp [aft,putN]
theorem leaf_bad {a:Nat}{e:Ev}{r:List Ev}(h1:e.k≠1) (h:e.k≠kof e.d) (h3:e.k=3→a=0):Bad a (e :: r):=by
 intro S hS
 simp only [bld]
 rw [if_neg h1]
 by_cases h3':e.k=3
 ·rw [if_pos h3']
  have:=h3 h3'
  have:S=[]:=List.eq_nil_of_length_eq_zero (by omega)
  subst this
  rfl
 ·rw [if_neg h3',if_neg]
  rintro (⟨x,y⟩|⟨x,y⟩)
  ·exact h (by rw [x];unfold kof;rw [y];rfl)
  ·exact h (by rw [x];unfold kof;rw [y];rfl)
theorem open_bad {a:Nat}{e:Ev}{r:List Ev}(h1:e.k=1) (h:e.n=0∨1000≤a):Bad a (e :: r):=by
 intro S hS
 simp only [bld]
 rw [if_pos h1,if_pos (by rw [hS];exact h)]
def Lnk (a:Nat) (l:List Ev) (k:Int) (c:List Nd) (r:List Ev):Prop:=∀S,S.length=a→bld l S=bld r ((k,c) :: S)
theorem open_lnk {a:Nat}{e:Ev}{r:List Ev}(h1:e.k=1) (h:¬(e.n=0∨1000≤a)):Lnk a (e :: r) e.n [] r:=by
 intro S hS
 simp only [bld]
 rw [if_pos h1,if_neg (by rw [hS];exact h)]
theorem Lnk.kid {a:Nat}{l:List Ev}{k:Int}{c:List Nd}{r r':List Ev}{n:Nd}(h:Lnk a l k c r) (hn:Aft (a+1) r n r'):Lnk a l k (c++[n]) r':=by
 intro S hS
 rw [h S hS,hn ((k,c) :: S) (by simp [hS])]
 rfl
theorem Lnk.bad {a:Nat}{l:List Ev}{k:Int}{c:List Nd}{r:List Ev}(h:Lnk a l k c r) (hn:Bad (a+1) r):Bad a l:=by
 intro S hS
 rw [h S hS]
 exact hn _ (by simp [hS])
theorem Lnk.nil {a:Nat}{l:List Ev}{k:Int}{c:List Nd}(h:Lnk a l k c []):Bad a l:=by
 intro S hS
 rw [h S hS]
 rfl
theorem Lnk.other {a:Nat}{l:List Ev}{k:Int}{c:List Nd}{e:Ev}{r:List Ev}(h:Lnk a l k c (e :: r)) (h3:e.k=3) (hn:e.n≠k):Bad a l:=by
 intro S hS
 rw [h S hS]
 simp only [bld]
 rw [if_neg (by rw [h3];decide),if_pos h3]
 rw [if_neg (fun e=>hn e.symm)]
theorem Lnk.shut {a:Nat}{l:List Ev}{k:Int}{c:List Nd}{e:Ev}{r:List Ev}(h:Lnk a l k c (e :: r)) (h3:e.k=3) (hn:e.n=k) (hk:k≠0):Aft a l (.mk k tv0 c) r:=by
 intro S hS
 rw [h S hS]
 simp only [bld]
 rw [if_neg (by rw [h3];decide),if_pos h3]
 rw [if_pos hn.symm]
 cases S with
 |nil=>simp [aft,Nd.k,hk]
 |cons x S=>obtain ⟨k',c'⟩:=x;simp [aft,putN]
theorem Tryz.info46:(Tryz.prog.info? 46).map (fun i=>(i.zero,i.size,i.bytes))=some (some (.agg #[.int .u8 0,.int .u8 0,.string ⟨#[]⟩,.int .i64 0,.int .i64 0,.int .i64 0,.int .i64 0,.slice none 0 0]),8,88):=by kernel_rfl
theorem app_nd {W:World}{ops:Array Oper}{rest:List Oper}{o:Oper}{a:Act}{Q:Exit→Act→World→Prop}(hgd:o.guard=none) (s x:Operand)
  (ho:o.op=.call { callee:=.builtin .append,args:=#[s,x],argTypes:=#[44,44] }) (v:Value) (c:List Nd) (vs:List Value) (n:Nd) (p:Option Addr) (m cp:Nat) (hs:a.eval s=v) (hr:RN W v c vs)
  (g c1:Nat) (hx:a.eval x=.slice (some ⟨g,0,none⟩) 1 c1) (hg:W.heap[g]?=some (NdB n.k n.d (.slice p m cp))) (hl:c.length≤1000000000)
  (h:∀v' w',RN w' v' (c++[n]) (vs++[.slice p m cp])→W.grownBy w' v.ownBlock→Nb W v v'→wpList Tryz.prog ops Q rest (a.put o.dst v') w'):wpList Tryz.prog ops Q (o :: rest) a W:=by
 obtain ⟨i0,hi,hz0,hz1,hz2⟩:=info_parts Tryz.info46
 refine wpList_append_own_at (P:=Tryz.prog) (w:=W) hgd s x 44 ho 0 46 i0 _ 8 88 Tryz.underlying44 hi hz0 hz1 hz2 rfl (by decide) v _ _ hs hr.2 ⟨g,0,none⟩ 1 c1 (nc n (.slice p m cp)) hx rfl ?_ ?_ (by unfold maxLen;omega) (by omega) (Nat.zero_le _) ?_
 ·intro j u hu
  refine World.news_of_block hg j u ?_
  simpa [nc] using hu
 ·intro u hu
  simp only [nc,List.mem_cons,List.not_mem_nil,or_false] at hu
  rcases hu with rfl|rfl|rfl|rfl|rfl|rfl|rfl|rfl <;> rfl
 ·intro v' w' h1 h2 _ h4
  refine h v' w' ⟨by simp [hr.1],?_⟩ h2 ?_
  ·rw [List.length_append,ncs_app c vs hr.1]
   exact h1
  ·rcases h4 with h4|h4
   ·exact .inl h4
   ·exact .inr ⟨_,h4,Nat.le_refl _⟩
abbrev readF (g p:Nat):Value:=.func (.func 38) #[] #[.pointer (some ⟨g,0,none⟩),.pointer (some ⟨p,0,none⟩)]
structure RS (w0:World) (g p:Nat) (l:List Ev) (ao:Option Addr) (cap:Nat) (V:World):Prop where
 bel:Below w0.heap.size w0 V
 hg:V.heap[g]?=some (.cells #[.slice ao l.length cap] 34 (0,0))
 hp:V.heap[p]?=some (.cells #[readF g p] 91 (0,0))
 le:Le w0 ao l
 lc:l.length≤cap
 cm:cap≤maxLen
 g0:w0.heap.size≤g
 p0:w0.heap.size≤p
theorem RS.ne {w0:World}{g p:Nat}{l:List Ev}{ao:Option Addr}{cap:Nat}{V:World}(h:RS w0 g p l ao cap V):g≠p:=by
 rintro rfl
 have:=h.hg
 rw [h.hp] at this
 injection this with e
 injection e with _ e
 exact absurd e (by decide)
theorem RS.below {w0:World}{g p:Nat}{l:List Ev}{ao:Option Addr}{cap:Nat}{V V':World}(h:RS w0 g p l ao cap V) (hb:Below V.heap.size V V'):RS w0 g p l ao cap V':=
 ⟨h.bel.trans (hb.mono h.bel.size),blk_below h.hg hb,blk_below h.hp hb,h.le,h.lc,h.cm,h.g0,h.p0⟩
theorem RS.kp {S:Nat→Prop}{w0:World}{g p:Nat}{l:List Ev}{ao:Option Addr}{cap:Nat}{V V':World}(h:RS w0 g p l ao cap V) (hk:Kp S V V') (hS:∀k,S k→w0.heap.size≤k∧k≠g∧k≠p):RS w0 g p l ao cap V':=
 ⟨Kp.low h.bel hk (fun k e=>(hS k e).1) h.bel.size,hk.blk h.hg (fun e=>(hS g e).2.1 rfl),hk.blk h.hp (fun e=>(hS p e).2.2 rfl),h.le,h.lc,h.cm,h.g0,h.p0⟩
theorem RS.set {w0:World}{g p:Nat}{l l':List Ev}{ao ao':Option Addr}{cap cap':Nat}{V:World}(h:RS w0 g p l ao cap V) (hl:Le w0 ao' l') (hc:l'.length≤cap') (hm:cap'≤maxLen):RS w0 g p l' ao' cap' (V.setCell ⟨g,0,none⟩ (.slice ao' l'.length cap')):=
 ⟨Kp.low h.bel (Kp.set V g 0 _) (fun k e=>by subst e;exact h.g0) h.bel.size,blk_set h.hg 0 _,blk_other h.hp (Ne.symm h.ne) _,hl,hc,hm,h.g0,h.p0⟩
def RdP (w0:World) (g p a:Nat) (l:List Ev) (W:World) (x:Ending) (w':World):Prop:=∃(n:Nd) (sv:Value) (ok:Bool) (r:List Ev) (ao:Option Addr) (cap:Nat),x=.returned (.tuple #[ndv n.k n.d sv,.bool ok])∧RS w0 g p r ao cap w'∧Kp (fun k=>k=g) W w'∧r.length<l.length∧TN (fun k=>W.heap.size≤k) w' n sv∧(if ok then Aft a l n r else Bad a l)
def ReadC (w0:World) (g p:Nat) (l:List Ev):Prop:=∀(a:Nat) (ao:Option Addr) (cap:Nat) (W:World),a≤1000→(∀e r,l=e :: r→e.k=3→a=0)→RS w0 g p l ao cap W→Calls Tryz.prog 38 #[.int .i64 (a:Nat),.pointer (some ⟨g,0,none⟩),.pointer (some ⟨p,0,none⟩)] W (RdP w0 g p a l W)
def sets8 (w:World) (b:Nat) (k:Int) (d:Tv) (s:Value):World:=(((((((w.setCell ⟨b,0,none⟩ (.int .u8 k)).setCell ⟨b,1,none⟩ (.int .u8 d.k)).setCell ⟨b,2,none⟩ (.string d.t)).setCell ⟨b,3,none⟩ (.int .i64 d.a)).setCell ⟨b,4,none⟩ (.int .i64 d.l)).setCell ⟨b,5,none⟩ (.int .i64 d.c)).setCell ⟨b,6,none⟩ (.int .i64 d.f)).setCell ⟨b,7,none⟩ s
theorem sets8_at {w:World}{b:Nat}{k0:Int}{d0:Tv}{s0:Value}(h:w.heap[b]?=some (NdB k0 d0 s0)) (k:Int) (d:Tv) (s:Value):(sets8 w b k d s).heap[b]?=some (NdB k d s):=by
 unfold sets8
 have:=blk_set (blk_set (blk_set (blk_set (blk_set (blk_set (blk_set (blk_set h 0 (.int .u8 k)) 1 (.int .u8 d.k)) 2 (.string d.t)) 3 (.int .i64 d.a)) 4 (.int .i64 d.l)) 5 (.int .i64 d.c)) 6 (.int .i64 d.f)) 7 s
 rw [this]
 simp
theorem sets8_kp (w:World) (b:Nat) (k:Int) (d:Tv) (s:Value):Kp (fun j=>j=b) w (sets8 w b k d s):=by
 unfold sets8
 exact (((((((Kp.set _ _ _ _).trans (Kp.set _ _ _ _)).trans (Kp.set _ _ _ _)).trans (Kp.set _ _ _ _)).trans (Kp.set _ _ _ _)).trans (Kp.set _ _ _ _)).trans (Kp.set _ _ _ _)).trans (Kp.set _ _ _ _)
theorem nd_cells {w:World}{b:Nat}{k:Int}{d:Tv}{s:Value}(h:w.heap[b]?=some (NdB k d s)):(w.cell? ⟨b,0,none⟩=some (.int .u8 k)∧w.cell? ⟨b,1,none⟩=some (.int .u8 d.k)∧w.cell? ⟨b,2,none⟩=some (.string d.t)∧w.cell? ⟨b,3,none⟩=some (.int .i64 d.a)∧w.cell? ⟨b,4,none⟩=some (.int .i64 d.l)∧w.cell? ⟨b,5,none⟩=some (.int .i64 d.c)∧w.cell? ⟨b,6,none⟩=some (.int .i64 d.f)∧w.cell? ⟨b,7,none⟩=some s)∧b<w.heap.size:=
 ⟨⟨blk_cell h rfl,blk_cell h rfl,blk_cell h rfl,blk_cell h rfl,blk_cell h rfl,blk_cell h rfl,blk_cell h rfl,blk_cell h rfl⟩,blk_lt h⟩
theorem nd_frozen {w:World}{b:Nat}{k:Int}{d:Tv}{s:Value}(h:w.heap[b]?=some (NdB k d s)):w.frozen? ⟨b,0,none⟩=false∧w.frozen? ⟨b,1,none⟩=false∧w.frozen? ⟨b,2,none⟩=false∧w.frozen? ⟨b,3,none⟩=false∧w.frozen? ⟨b,4,none⟩=false∧w.frozen? ⟨b,5,none⟩=false∧w.frozen? ⟨b,6,none⟩=false∧w.frozen? ⟨b,7,none⟩=false:=
 ⟨blk_frozen h,blk_frozen h,blk_frozen h,blk_frozen h,blk_frozen h,blk_frozen h,blk_frozen h,blk_frozen h⟩
abbrev EvB (k n:Int) (d:Tv):Obj:=.cells #[.int .u8 k,.int .u8 n,.int .u8 d.k,.string d.t,.int .i64 d.a,.int .i64 d.l,.int .i64 d.c,.int .i64 d.f] 53
theorem ev_cells {w:World}{b:Nat}{k n:Int}{d:Tv}(h:w.heap[b]?=some (EvB k n d)):(w.cell? ⟨b,0,none⟩=some (.int .u8 k)∧w.cell? ⟨b,1,none⟩=some (.int .u8 n)∧w.cell? ⟨b,2,none⟩=some (.int .u8 d.k)∧w.cell? ⟨b,3,none⟩=some (.string d.t)∧w.cell? ⟨b,4,none⟩=some (.int .i64 d.a)∧w.cell? ⟨b,5,none⟩=some (.int .i64 d.l)∧w.cell? ⟨b,6,none⟩=some (.int .i64 d.c)∧w.cell? ⟨b,7,none⟩=some (.int .i64 d.f))∧b<w.heap.size:=
 ⟨⟨blk_cell h rfl,blk_cell h rfl,blk_cell h rfl,blk_cell h rfl,blk_cell h rfl,blk_cell h rfl,blk_cell h rfl,blk_cell h rfl⟩,blk_lt h⟩
structure R2 (w0 W:World) (g p:Nat) (r:List Ev) (ao:Option Addr) (cap:Nat) (ek en:Int) (ed:Tv) (V:World):Prop where
 rs:RS w0 g p r ao cap V
 kp:Kp (fun k=>k=g) W V
 rb:V.heap[W.heap.size]?=some (NdB 0 tv0 (.slice none 0 0))
 fb:V.heap[W.heap.size+1]?=some (EvB ek en ed)
theorem r2_start {w0 W:World}{g p:Nat}{l r:List Ev}{ao ao2:Option Addr}{cap cap2:Nat}(h:RS w0 g p l ao cap W) (hl:Le w0 ao2 r) (hc:r.length≤cap2) (hm:cap2≤maxLen) (ek en:Int) (ed:Tv) :
  R2 w0 W g p r ao2 cap2 ek en ed (((W.setCell ⟨g,0,none⟩ (.slice ao2 r.length cap2)).alloc (NdB 0 tv0 (.slice none 0 0))).alloc (EvB ek en ed)):=by
 have e0:(W.setCell ⟨g,0,none⟩ (.slice ao2 r.length cap2)).heap.size=W.heap.size:=by show (W.heap.modify g _).size=_;rw [Array.size_modify]
 have e1:=size_al (W.setCell ⟨g,0,none⟩ (.slice ao2 r.length cap2)) (NdB 0 tv0 (.slice none 0 0))
 have b1:=below_new (W.setCell ⟨g,0,none⟩ (.slice ao2 r.length cap2)) (NdB 0 tv0 (.slice none 0 0))
 have b2:=below_new ((W.setCell ⟨g,0,none⟩ (.slice ao2 r.length cap2)).alloc (NdB 0 tv0 (.slice none 0 0))) (EvB ek en ed)
 refine ⟨((h.set hl hc hm).below b1).below b2,((Kp.set _ _ _ _).alloc _).alloc _,?_,?_⟩
 ·refine alloc_at' ?_ _
  rw [←e0]
  exact new_at _ _
 ·rw [←e0,←e1]
  exact new_at _ _
theorem R2.below {w0 W:World}{g p:Nat}{r:List Ev}{ao:Option Addr}{cap:Nat}{ek en:Int}{ed:Tv}{V V':World}(h:R2 w0 W g p r ao cap ek en ed V) (hb:Below V.heap.size V V'):R2 w0 W g p r ao cap ek en ed V':=
 ⟨h.rs.below hb,h.kp.step (T:=fun _=>False) (Kp.of_below hb) (fun _ _ h=>h.elim),blk_below h.rb hb,blk_below h.fb hb⟩
theorem R2.out {w0 W:World}{g p:Nat}{r:List Ev}{ao:Option Addr}{cap:Nat}{ek en:Int}{ed:Tv}{V:World}(h:R2 w0 W g p r ao cap ek en ed V) (hgW:g<W.heap.size) (hpW:p<W.heap.size) (k:Int) (d:Tv) (s:Value) :
  RS w0 g p r ao cap (sets8 V W.heap.size k d s)∧Kp (fun k=>k=g) W (sets8 V W.heap.size k d s)∧(sets8 V W.heap.size k d s).heap[W.heap.size]?=some (NdB k d s):=by
 have hk:=sets8_kp V W.heap.size k d s
 have hw:w0.heap.size≤W.heap.size:=by have:=h.rs.g0;omega
 refine ⟨h.rs.kp hk (fun j e=>by subst e;exact ⟨hw,by omega,by omega⟩),h.kp.step hk (fun j hj e=>by omega),sets8_at h.rb k d s⟩
set_option maxRecDepth 100000 in
set_option maxHeartbeats 1000000 in
theorem read_leaf (w0:World) (g p:Nat) (e:Ev) (r:List Ev) (h1:e.k≠1):ReadC w0 g p (e :: r):=by
 intro a ao cap W ha h3 hI
 obtain ⟨b,off,ao2,cap2,rfl,hbl,⟨c0,c1,c2,c3,c4,c5,c6,c7⟩,hsl,hc2,hm2,hle2⟩:=hI.le.tail (cap:=cap) (by have:=hI.lc;simpa using this) hI.cm
 have HI:Hid (RS w0 g p (e :: r) (some ⟨b,off,none⟩) cap W):=hI
 have tr:∀i u,w0.cell? ⟨b,i,none⟩=some u→W.cell? ⟨b,i,none⟩=some u:=fun i u hu=>(World.cell?_of_block (a:=⟨b,i,none⟩) (hI.bel.block b hbl)).trans hu
 replace c0:=tr _ _ c0
 replace c1:=tr _ _ c1
 replace c2:=tr _ _ c2
 replace c3:=tr _ _ c3
 replace c4:=tr _ _ c4
 replace c5:=tr _ _ c5
 replace c6:=tr _ _ c6
 replace c7:=tr _ _ c7
 have hbW:b<W.heap.size:=World.block_lt_of_cell? _ _ c0
 have hgW:g<W.heap.size:=blk_lt hI.hg
 have hcg:W.cell? ⟨g,0,none⟩=some (.slice (some ⟨b,off,none⟩) (r.length+1) cap):=blk_cell hI.hg rfl
 have hfg:W.frozen? ⟨g,0,none⟩=false:=blk_frozen hI.hg
 have hbg:b≠g:=fun e=>by have:=hI.g0;omega
 have hk1:(e.k == 1)=false:=by simpa using h1
 have hk1':(e.k != 1)=true:=by simpa using h1
 obtain ⟨⟨ek,en,ed⟩,he⟩:∃x,e=x:=⟨_,rfl⟩
 subst he
 dsimp only at *
 have HKf:Hid (∀V,Calls Tryz.prog 37 #[.agg #[.int .u8 ed.k,.string ed.t,.int .i64 ed.a,.int .i64 ed.l,.int .i64 ed.c,.int .i64 ed.f]] V fun r w'=>r=.returned (.int .u8 (kof ed))∧Below V.heap.size V w'):=fun V=>kindOf_any ed V
 have hpW:p<W.heap.size:=blk_lt hI.hp
 have hok:(if (ek == kof ed)=true then Aft a (⟨ek,en,ed⟩ :: r) (.mk 0 ed []) r else Bad a (⟨ek,en,ed⟩ :: r)):=by
  by_cases hq:ek=kof ed
  ·rw [if_pos (by simpa using hq)]
   exact leaf_good (e:=⟨ek,en,ed⟩) hq
  ·rw [if_neg (by simpa using hq)]
   exact leaf_bad (e:=⟨ek,en,ed⟩) h1 hq (h3 _ _ rfl)
 have HOK:=hid hok
 obtain ⟨W2,eW2⟩:∃W2,((W.setCell ⟨g,0,none⟩ (.slice ao2 r.length cap2)).alloc (NdB 0 tv0 (.slice none 0 0))).alloc (EvB ek en ed)=W2:=⟨_,rfl⟩
 have H2:Hid (R2 w0 W g p r ao2 cap2 ek en ed W2):=by rw [←eW2];exact r2_start hI hle2 hc2 hm2 ek en ed
 clear hI tr hok
 go_enter Tryz.func38,Tryz.ntmps38
 go_wp2_with fail
 dsimp only [NdB,EvB,tv0] at eW2
 rw [eW2]
 obtain ⟨⟨f0,f1,f2,f3,f4,f5,f6,f7⟩,fl⟩:=ev_cells H2.out.fb
 obtain ⟨⟨r0,r1,r2,r3,r4,r5,r6,r7⟩,rl⟩:=nd_cells H2.out.rb
 clear eW2 c0 c1 c2 c3 c4 c5 c6 c7 hcg hfg hsl
 go_region_law (first|(go_simp;go_at_call 37;refine (HKf.out _).mono ?_;rintro x w4 ⟨rfl,hb4⟩;have H4:Hid (R2 w0 W g p r ao2 cap2 ek en ed w4):=H2.out.below ((Below.refl _ _).drew.trans (hb4.mono (Nat.le_refl _)));obtain ⟨⟨d0,d1,d2,d3,d4,d5,d6,d7⟩,dl⟩:=ev_cells H4.out.fb;obtain ⟨⟨s0,s1,s2,s3,s4,s5,s6,s7⟩,sl⟩:=nd_cells H4.out.rb;obtain ⟨z0,z1,z2,z3,z4,z5,z6,z7⟩:=nd_frozen H4.out.rb;clear hb4))
 all_goals (
  go_wp2_with fail
  have h9:=H4.out.out hgW hpW 0 ed (.slice none 0 0)
  obtain ⟨w9,e9⟩:∃w9,sets8 w4 W.heap.size 0 ed (.slice none 0 0)=w9:=⟨_,rfl⟩
  rw [e9] at h9
  dsimp only [sets8] at e9
  rw [e9]
  obtain ⟨⟨x0,x1,x2,x3,x4,x5,x6,x7⟩,xl⟩:=nd_cells h9.2.2
  refine bodyPost_ret (v:=.tuple #[ndv 0 ed (.slice none 0 0),.bool (ek == kof ed)]) (by simp [results,Tryz.f38,go_sem,x0,x1,x2,x3,x4,x5,x6,x7]) rfl ?_
  exact ⟨.mk 0 ed [],.slice none 0 0,ek == kof ed,r,ao2,cap2,rfl,h9.1,h9.2.1,by simp,tn_nil _ _ _ _,HOK.out⟩)
end Go.Proofs.YtkigadnkclkopaaGreatDoor
