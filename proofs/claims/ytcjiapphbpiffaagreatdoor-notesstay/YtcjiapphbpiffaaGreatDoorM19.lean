import Derived.Deep.RegionHeld3
import Derived.Deep.RegionWith
import Derived.WalkMore
import Derived.BigQuiet
import Derived.Deep.CutRange
import Derived.Deep.QuietTactic
import Derived.Test.YtcjiapphbpiffaaGreatDoorM18
set_option linter.unusedVariables false
set_option linter.unusedSimpArgs false
set_option maxHeartbeats 2000000
namespace Go.Proofs.YtcjiapphbpiffaaGreatDoor
open Go.RowKit
variable {W w W':World}{i n r j b k B:Nat}{E:List Ev}{t:Tv}{d:D}{vl ve:Value}{K:List It}{code:Int}
def ko (c:Tv):Ev:=⟨4,0,c⟩
def bD:List Tv->List Tv
 |[]=>[]
 |t :: r=>if iB t then t :: bD r else []
def lC:List Tv->List Tv
 |[]=>[]
 |t :: r=>if iB t then lC r else t :: r
def aG (l:List Tv):List Tv:=l.filter (fun t=>!iB t)
def ps:List Tv->Nat->Nat
 |[],_=>0
 |t :: r,j=>if iB t then ps r j+1 else match j with|0=>0|j+1=>ps r j+1
def qN:List Tv->Nat->List Tv
 |[],_=>[]
 |t :: r,j=>if iB t then qN r j else match j with|0=>bD r|j+1=>qN r j
theorem yu {r:List Tv}(h:iB t=true):ps (t :: r) j=ps r j+1:=by cases j <;> simp [ps,h]
theorem rA {r:List Tv}(h:iB t=false):ps (t :: r) 0=0:=by simp [ps,h]
theorem yt {r:List Tv}(h:iB t=false):ps (t :: r) (j+1)=ps r j+1:=by simp [ps,h]
theorem Mt {r:List Tv}(h:iB t=true):qN (t :: r) j=qN r j:=by cases j <;> simp [qN,h]
theorem FG {r:List Tv}(h:iB t=false):qN (t :: r) 0=bD r:=by simp [qN,h]
theorem Ms {r:List Tv}(h:iB t=false):qN (t :: r) (j+1)=qN r j:=by simp [qN,h]
theorem ss {r:List Tv}(h:iB t=false):aG (t :: r)=t :: aG r:=by simp [aG,h]
theorem su {r:List Tv}(h:iB t=true):aG (t :: r)=aG r:=by simp [aG,h]
theorem iE:∀r,aG (lC r)=aG r
 |[]=>rfl
 |t :: r=>by
  cases h:iB t with
  |true=>rw [su h,lC,IO h];exact iE r
  |false=>rw [lC,Eq (by simp [h])]
theorem pI:∀r,bD (lC r)=[]
 |[]=>rfl
 |t :: r=>by
  cases h:iB t with
  |true=>rw [lC,IO h];exact pI r
  |false=>rw [lC,Eq (by simp [h]),bD,Eq (by simp [h])]
theorem tm:∀r j,qN (lC r) j=qN r j
 |[],_=>rfl
 |t :: r,j=>by
  cases h:iB t with
  |true=>rw [lC,IO h,tm r j,Mt h]
  |false=>rw [lC,Eq (by simp [h])]
theorem yw:∀r j,ps r j=(bD r).length+ps (lC r) j
 |[],_=>rfl
 |t :: r,j=>by
  cases h:iB t with
  |true=>rw [lC,IO h,bD,IO h,yu h,yw r j];simp;omega
  |false=>rw [lC,Eq (by simp [h]),bD,Eq (by simp [h])];simp
theorem AO:∀r,(lC r).length<=r.length
 |[]=>gt _
 |t :: r=>by
  cases h:iB t with
  |true=>rw [lC,IO h];have:=AO r;simp;omega
  |false=>rw [lC,Eq (by simp [h])];exact gt _
theorem BA:∀r,bD r++lC r=r
 |[]=>rfl
 |t :: r=>by
  cases h:iB t with
  |true=>rw [lC,IO h,bD,IO h,Tr,BA r]
  |false=>rw [lC,Eq (by simp [h]),bD,Eq (by simp [h])];rfl
theorem vN:∀(l:List Tv) (j:Nat),l[ps l j]?=(aG l)[j]?
 |[],j=>by simp [ps,aG]
 |t :: r,j=>by
  cases h:iB t with
  |true=>rw [su h,yu h,Ud];exact vN r j
  |false=>
   rw [ss h];cases j with
   |zero=>rw [rA h];rfl
   |succ j=>rw [yt h,Ud,Ud];exact vN r j
theorem fN:∀(l:List Tv) (j:Nat),ps l j<=l.length
 |[],j=>by simp [ps]
 |t :: r,j=>by
  cases h:iB t with
  |true=>rw [yu h];have:=fN r j;simp;omega
  |false=>
   cases j with
   |zero=>rw [rA h];simp
   |succ j=>rw [yt h];have:=fN r j;simp;omega
theorem Am {l:List Tv}:ps l j<l.length↔j<(aG l).length:=by
 have h:=vN l j;constructor
 ·grind
 ·grind
theorem nM:∀(l:List Tv),ps l 0=(bD l).length
 |[]=>rfl
 |t :: r=>by
  cases h:iB t with
  |true=>rw [yu h,bD,IO h,nM r];simp
  |false=>rw [rA h,bD,Eq (by simp [h])];rfl
theorem sX:∀(l:List Tv) (j:Nat),j<(aG l).length->ps l (j+1)=ps l j+1+(qN l j).length/\qN l j=bD (l.drop (ps l j+1))
 |[],j,h=>by simp [aG] at h
 |t :: r,j,hj=>by
  cases h:iB t with
  |true=>
   rw [su h] at hj;have:=sX r j hj;rw [yu h,yu h,Mt h,Uw];exact ⟨by omega,this.2⟩
  |false=>
   rw [ss h] at hj;cases j with
   |zero=>rw [yt h,rA h,FG h,nM];exact ⟨by omega,rfl⟩
   |succ j=>
    have:=sX r j (by simpa using hj);rw [yt h,yt h,Ms h,Uw];exact ⟨by omega,this.2⟩
theorem AQ:∀(r:List Tv) (k:Nat),(∀c,(bD r)[k]?=some c->r[k]?=some c/\iB c=true)/\(k=(bD r).length->∀c,r[k]?=some c->iB c=false)
 |[],k=>by simp [bD]
 |t :: r,k=>by
  cases h:iB t with
  |true=>
   rw [bD,IO h];cases k with
   |zero=>exact ⟨fun c e=>by simp at e;subst e;exact ⟨rfl,h⟩,fun e=>by simp at e⟩
   |succ k=>
    obtain ⟨a,b⟩:=AQ r k;exact ⟨fun c e=>by simpa using a c (by simpa using e),fun e c C=>b (by simpa using e) c (by simpa using C)⟩
  |false=>
   rw [bD,Eq (by simp [h])];exact ⟨fun c e=>by simp at e,fun e c C=>by simp at e;subst e;simp at C;subst C;exact h⟩
theorem jj {K:List It}{n:Int}(F:n≠0):beg K n=K/\ii n=n/\bR n=[]:=by
 have C:(n == 0)=false:=by simpa using F
 simp [beg,ii,bR,C]
theorem mw {n:Int}(M:n≠0):∀(r:List Tv) (E:List Ev) (code:Int) (k:Nat),gS (.live K n) r E code k->∃H I,E=(bD r).map ko++H/\k=(bD r).length+I/\gS (.live K n) (lC r) H code I
 |[],E,code,k,h=>⟨E,k,rfl,by simp [bD],h⟩
 |t :: r,E,code,k,h=>by
  cases C:iB t with
  |false=>rw [bD,Eq (by simp [C]),lC,Eq (by simp [C])];exact ⟨E,k,rfl,by simp,h⟩
  |true=>
   rw [bD,IO C,lC,IO C];obtain ⟨Q,S,U⟩:=jj (K:=K) M
   rcases h.inv with ⟨ev,st',J,G,rfl,rfl⟩|⟨ev,st',O,k2,J,F,rfl,rfl⟩
   ·cases J with
    |note hh=>exact absurd rfl G
    |no hh _ _=>unfold iB at C;rw [C] at hh;cases hh
    |deep hh _ _ _=>unfold iB at C;rw [C] at hh;cases hh
    |yes hh _ _ _=>exact absurd rfl G
   ·cases J with
    |yes hh _ _ _=>unfold iB at C;rw [C] at hh;cases hh
    |note hh=>
     rw [Q,S] at F;obtain ⟨H,I,Y,e2,Z⟩:=mw M r O code k2 F;refine ⟨H,I,?_,?_,Z⟩
     ·rw [U,Y];rfl
     ·simp;omega
theorem ic {n:Int}(F:gu (.live K n)) (C:IR K):n≠0:=by
 have G:=F.1.lv
 have H:1<=(bM K).length:=by
  rcases C with rfl|⟨X,rfl⟩
  ·decide
  ·rw [bO];simp [bM]
 omega
theorem Is (N:Nat->List Ev):∀(m:Nat) (r T:List Tv) (K:List It) (n:Int) (p:List (Int × Nat)) (s:Nat) (v E:List Ev) (code:Int) (k:Nat) (dz:D),r.length<=m->sf N T K p s v->nw K=true->IR K->gu (.live K n)->bD r=[]->(∀j,N (T.length+j)=(qN r j).map ko)->gS (.live K n) r E code k->Rb (T++aG r) ci (eI 1 (un N)) dz ->
  (code=0->dz.e=0/\dz.i=(T++aG r).length/\∃Z,E=Z++[⟨3,1,aB⟩]/\dz.v=v++Z)/\(code≠0->(dz.e=code\/(code=120/\dz.e=0/\dz.i<(T++aG r).length))/\T.length<=dz.i/\k=ps r (dz.i-T.length)):=by
 intro m
 induction m with
 |zero=>
  intro r T K n p s v E code k dz hm Q hw F hg hl hN hA H;obtain rfl:r=[]:=Tl (by omega);obtain ⟨C,rfl⟩:=hA.end;have J:Rb T ci (eI 1 (un N)) dz:=by simpa [aG] using H
  obtain ⟨a,b,c⟩:=lR Q F J;cases C with
  |all hh=>exact ⟨fun _=>⟨(b hh).1,by simp [aG,a],[],rfl,by rw [(b hh).2];simp⟩,fun h=>absurd rfl h⟩
  | «open» hh=>exact ⟨(fun h=>by cases h),fun _=>⟨.inl (c hh),by omega,rfl⟩⟩
 |succ m ih=>
  intro r T K n p s v E code k dz hm Q hw F hg hl hN hA H;cases r with
  |nil=>
   obtain ⟨C,rfl⟩:=hA.end;have J:Rb T ci (eI 1 (un N)) dz:=by simpa [aG] using H
   obtain ⟨a,b,c⟩:=lR Q F J;cases C with
   |all hh=>exact ⟨fun _=>⟨(b hh).1,by simp [aG,a],[],rfl,by rw [(b hh).2];simp⟩,fun h=>absurd rfl h⟩
   | «open» hh=>exact ⟨(fun h=>by cases h),fun _=>⟨.inl (c hh),by omega,rfl⟩⟩
  |cons t r1=>
   have C:iB t=false:=by
    cases h:iB t with
    |false=>rfl
    |true=>rw [bD,IO h] at hl;cases hl
   rw [ss C] at H ⊢;have hn:=ic hg F;obtain ⟨b1,b2,b3⟩:=jj (K:=K) hn;have p0:ps (t :: r1) 0=0:=rA C;obtain ⟨g1,g2,g3,g4,g5,gbot,gbn,gbe⟩:=cQ hg
   rcases hA.inv with ⟨ev,st',hp,M,rfl,rfl⟩|⟨ev,st',E2,k2,hp,ae,rfl,rfl⟩
   ·refine ⟨fun h=>absurd h M,fun _=>?_⟩;cases hp with
    |note hh=>exact absurd rfl M
    |yes hh _ _ _=>exact absurd rfl M
    |no hh hR hk=>
     rw [b1] at hR;obtain ⟨O,G⟩:=NA Q hw hR H;refine ⟨?_,by omega,by rw [O,VB,p0]⟩
     rcases G with G|G
     ·exact .inl G
     ·exact .inr ⟨rfl,G,by rw [O];simp⟩
    |deep hh hR hk hm2=>
     rename_i L m2 E1 k1 _
     obtain ⟨c1,c2,c3,o,c4,c5,c6,c7⟩:=eM hR rfl g1 g2 g3;rw [b1] at hR;obtain ⟨o2,e0,h5⟩:=(o0 hR).2 _ _ _ rfl;have I:=h5 [];obtain ⟨d1,d2,d3,d4⟩:=xb Q hw I;have Y:(nP o2 (p,s)).1.length=(bM L).length:=by have:=Tm List.length d2;simpa using this
     obtain ⟨O,G⟩:=d4 (by omega) _ _ H;exact ⟨.inl O,by omega,by rw [G,VB,p0]⟩
   ·have U:=(dU hg hp).1;cases hp with
    |note hh=>unfold iB at C;rw [C] at hh;cases hh
    |yes hh hR hk hm2=>
     rename_i L m2 E1 k1
     obtain ⟨c1,c2,c3,o,c4,c5,c6,c7⟩:=eM hR rfl g1 g2 g3;rw [b1] at hR;obtain ⟨o2,e0,h5⟩:=(o0 hR).2 _ _ _ rfl;rw [b3,TB] at e0;subst e0;have I:=h5 [];obtain ⟨d1,d2,d3,d4⟩:=xb Q hw I;have Y:(nP E1 (p,s)).1.length=(bM L).length:=by have:=Tm List.length d2;simpa using this
     have ab:=d3 (by omega);have S:=sO hR rfl F;have ag:=ic U S;obtain ⟨E3,k3,O,G,aa⟩:=mw ag r1 E2 code k2 ae
     have ac:N T.length=(bD r1).map ko:=by
      have:=hN 0;rw [FG C] at this;exact this
     have ad:∀j,N ((T++[t]).length+j)=(qN (lC r1) j).map ko:=fun j=>by
      have:=hN (j+1);rw [Ms C] at this;rw [tm,Or,UX,Um,Nat.add_comm 1 j];exact this
     have af:Rb ((T++[t])++aG (lC r1)) ci (eI 1 (un N)) dz:=by rw [iE,S5];exact H
     have ai:=AO r1;obtain ⟨f1,f2⟩:=ih (lC r1) (T++[t]) L m2 _ _ _ E3 code k3 dz (by simp at hm;omega) ab d1 S U (pI r1) ad aa af;rw [iE,S5] at f1 f2;refine ⟨fun h=>?_,fun h=>?_⟩
     ·obtain ⟨a1,a2,Z,a3,a4⟩:=f1 h;refine ⟨a1,a2,E1++⟨2,0,t⟩ :: (N T.length++Z),?_,?_⟩
      ·rw [O,a3,ac];simp
      ·rw [a4];simp
     ·obtain ⟨a1,a2,a3⟩:=f2 h;rw [Or,UX] at a2 a3;refine ⟨a1,by omega,?_⟩;obtain ⟨q,hq⟩:∃q,dz.i-T.length=q+1:=⟨dz.i-(T.length+1),by omega⟩;have ah:dz.i-(T.length+1)=q:=by omega
      rw [hq,yt C];rw [yw r1 q,G,a3,ah]
theorem my {l:List Tv}(h:gS (.live [] 0) l E code k) (O:l≠[]):∃I,gS (.live (ci++[.lv 1]) 1) l I code k/\(code=0->E=⟨1,1,aB⟩ :: I):=by
 cases l with
 |nil=>exact absurd rfl O
 |cons t r=>
  rcases h.inv with ⟨ev,st',H,C,rfl,rfl⟩|⟨ev,st',J,Q,H,F,rfl,rfl⟩
  ·cases H with
   |note hh=>exact absurd rfl C
   |yes hh _ _ _=>exact absurd rfl C
   |no hh hR hk=>exact ⟨[],.err (.no hh ((o0 hR).1 rfl _) hk) C,fun e=>absurd e C⟩
   |deep hh hR hk hm=>
    obtain ⟨o,_,G⟩:=(o0 hR).2 _ _ _ rfl;exact ⟨[],.err (.deep hh (G _) hk hm) C,fun e=>absurd e C⟩
  ·cases H with
   |note hh=>exact ⟨[⟨4,0,t⟩]++J,.on (.note (K:=ci++[.lv 1]) (n:=1) hh) F,fun _=>rfl⟩
   |yes hh hR hk hm=>
    obtain ⟨o,M,G⟩:=(o0 hR).2 _ _ _ rfl;refine ⟨(o++[⟨2,0,t⟩])++J,.on (.yes (K:=ci++[.lv 1]) (n:=1) hh (G []) hk hm) F,fun _=>?_⟩;rw [M];rfl
theorem pS:gu (.live (ci++[.lv 1]) 1):=(dU fB (kn.note (t:=⟨7,⟨#[]⟩,0,0,0,0⟩) rfl)).1
theorem L5 {l:List Tv}(h:gS (.live [] 0) l E code k) {dz:D}(Q:Rb (aG l) ci (eI 1 (un (fun j=>(qN l j).map ko))) dz) :
  (code=0->dz.e=0/\dz.i=(aG l).length/\∃C,dz.v=⟨1,1,aB⟩ :: C/\E=⟨1,1,aB⟩ :: ((bD l).map ko++(C++[⟨3,1,aB⟩])))/\(code≠0->(dz.e=code\/(code=120/\dz.e=0/\dz.i<(aG l).length))/\k=ps l dz.i):=by
 by_cases S:l=[]
 ·subst S;obtain ⟨hc,rfl⟩:=h.end;obtain ⟨a,b,c⟩:=lR (rU _) ji Q;cases hc with
  |all hh=>simp at hh
  | «open» hh=>exact ⟨(fun h=>by cases h),fun _=>⟨.inl (c (by decide)),rfl⟩⟩
 ·obtain ⟨U,Z,h2⟩:=my h S;obtain ⟨E2,k2,e1,e2,h3⟩:=mw (by decide) l U code k Z;have I:Rb ([]++aG (lC l)) ci (eI 1 (un (fun j=>(qN l j).map ko))) dz:=by rw [iE];exact Q
  obtain ⟨M,O⟩:=Is _ (lC l).length (lC l) [] _ 1 _ _ _ E2 code k2 dz (gt _) (rU _) Ki ji pS (pI l) (fun j=>by rw [tm,List.length_nil,Td]) h3 I;rw [iE,TB] at M O;refine ⟨fun F=>?_,fun F=>?_⟩
  ·obtain ⟨G,J,C,H,Y⟩:=M F;exact ⟨G,J,C,Y,by rw [h2 F,e1,H]⟩
  ·obtain ⟨G,J,H⟩:=O F;refine ⟨G,?_⟩;rw [e2,yw l,H];rfl
theorem fE {v:World}(h:Below b w v):∀m,Below b w (v.drewN m)
 |0=>h
 |m+1=>(fE h m).drew
theorem Ey {I:Array Oper}{o:Oper}{a:Act}{K:Act->World->Prop}{Q:Exit->Act->World->Prop}{E:Prop}(C:o.guard=none) (s x:Operand)
  (Z:o.op=.call { callee:=.builtin .append,args:=#[s,x],argTypes:=#[106,106] }) (v:Value) (l:List Ev) (d:Ev) (hs:a.eval s=v) (hr:Re W v l)
  (g c:Nat) (hx:a.eval x=.slice (some ⟨g,0,none⟩) 1 c) (U:W.heap[g]?=some (.cells #[.int .u8 d.k,.int .u8 d.n,.int .u8 d.d.k,.string d.d.t,.int .i64 d.d.a,.int .i64 d.d.l,.int .i64 d.d.c,.int .i64 d.d.f] 110 (0,0))) (hl:l.length<=1000000000)
  (h:∀q cap w',Re w' (.slice (some ⟨q,0,none⟩) (l.length+1) cap) (l++[d])->W.grownBy w' v.ownBlock->(v.ownBlock=some q\/q=W.heap.size)->K (a.put o.dst (.slice (some ⟨q,0,none⟩) (l.length+1) cap)) w') :
  if Region.wanted o (yielded I a.tmps)=true then Oper.wp Tryz.prog o a W K Q else E:=by
 obtain ⟨i0,Y,F,G,H⟩:=T7 Tryz.info110;refine Vt W C s x 106 Z 0 110 i0 _ 8 64 Wy Y F G H rfl (by decide) v _ _ hs hr ⟨g,0,none⟩ 1 c (xM [d]) hx (by rw [ui];rfl) ?_ (uh [d]) (by omega) (by unfold maxLen;omega) (by omega) (SW _) _ rfl ?_
 ·intro j u J;refine TX U j u ?_;have e:xM [d]=[.int .u8 d.k,.int .u8 d.n,.int .u8 d.d.k,.string d.d.t,.int .i64 d.d.a,.int .i64 d.d.l,.int .i64 d.d.c,.int .i64 d.d.f]:=by simp [xM,bB,Ev.cs]
  rw [e] at J
  simpa using J
 ·intro q cap w' M O S _;refine h q cap w' ?_ O S;unfold Re;rw [Or,uj];exact M
abbrev pg (g:Nat):Value:=.pointer (some ⟨g,0,none⟩)
def zv (W:World) (g:Nat) (vl:Value) (i n:Nat) (ve:Value):Prop:=W.heap[g]?=some (.cells #[vl,.int .i64 (i:Int),.int .i64 (n:Int),ve] 192 (0,0))
theorem zv.cells {W:World}{g i n:Nat}{vl ve:Value}(h:zv W g vl i n ve) :
  W.cell? ⟨g,0,none⟩=some vl/\W.cell? ⟨g,1,none⟩=some (.int .i64 (i:Int))/\W.cell? ⟨g,2,none⟩=some (.int .i64 (n:Int))/\W.cell? ⟨g,3,none⟩=some ve:=
 ⟨af h rfl,af h rfl,af h rfl,af h rfl⟩
theorem zv.frozen {g:Nat}(h:zv W g vl i n ve) (j:Nat):W.frozen? ⟨g,j,none⟩=false:=am h
theorem zv.kp {S:Nat->Prop}{W W':World}{g i n:Nat}{vl ve:Value}(h:zv W g vl i n ve) (F:Kp S W W') (C:¬S g):zv W' g vl i n ve:=F.blk h C
theorem zv.below {g:Nat}(h:zv W g vl i n ve) (C:Below W.heap.size W W'):zv W' g vl i n ve:=ag h C
theorem zv.lt {g:Nat}(h:zv W g vl i n ve):g<W.heap.size:=au h
structure Sx where
 w0:World
 g:Nat
 ao:Option Addr
 cap:Nat
 l:List Tv
structure ej (X:Sx) (i n:Nat) (E:List Ev) (W:World):Prop where
 bel:Below X.w0.heap.size X.w0 W
 lt:Lt X.w0 X.ao X.l
 g0:X.w0.heap.size<=X.g
 hl:X.l.length<=4194304
 ex:∃ve,zv W X.g (.slice X.ao X.l.length X.cap) i n ve/\Re W ve E/\(∀k,ve.ownBlock=some k->X.w0.heap.size<=k)
theorem ej.below {X:Sx}(h:ej X i n E W) (C:Below W.heap.size W W'):ej X i n E W':=by
 obtain ⟨ve,a,b,c⟩:=h.ex;exact ⟨h.bel.trans (C.mono h.bel.size),h.lt,h.g0,h.hl,ve,a.below C,b.below C,c⟩
theorem l9 {S:Nat->Prop}(h:Below B w W) (C:Kp S W W') (G:∀k,S k->B<=k) (I:B<=W.heap.size):Below B w W':=
 ⟨C.os.trans h.os,C.tape.trans h.tape,C.output.trans h.output,SY h.size C.size,fun k F=>(C.block k (by omega) (fun H=>by have:=G k H;omega)).trans (h.block k F)⟩
theorem ej.tok {X:Sx}(h:ej X i n E W) {j:Nat}{t:Tv}(ht:X.l[j]?=some t):∃b C,X.ao=some ⟨b,C,none⟩/\W.cell? ⟨b,C+j*6,none⟩=some (.int .u8 t.k)/\W.cell? ⟨b,C+j*6+1,none⟩=some (.string t.t)/\W.cell? ⟨b,C+j*6+2,none⟩=some (.int .i64 t.a)/\W.cell? ⟨b,C+j*6+3,none⟩=some (.int .i64 t.l)/\W.cell? ⟨b,C+j*6+4,none⟩=some (.int .i64 t.c)/\W.cell? ⟨b,C+j*6+5,none⟩=some (.int .i64 t.f)/\b<W.heap.size:=by
 obtain ⟨b,C,e,c⟩:=(h.lt.below h.bel) j t ht;exact ⟨b,C,e,c.1,c.2.1,c.2.2.1,c.2.2.2.1,c.2.2.2.2.1,c.2.2.2.2.2,S9 _ _ c.1⟩
def MW (X:Sx) (W W':World):Prop:=∀b cs T f,W.heap[b]?=some (.cells cs T f)->T≠110->b≠X.g->W'.heap[b]?=some (.cells cs T f)
theorem Eo {X:Sx}{Y:List Ev}{W1 C:World}(h:ej X i n E W) {ve:Value}(hs:zv W X.g (.slice X.ao X.l.length X.cap) i n ve) (hE:Re W ve E) (hv:∀k,ve.ownBlock=some k->X.w0.heap.size<=k) (G:Below W.heap.size W W1) {q cap n':Nat}(hr:Re C (.slice (some ⟨q,0,none⟩) n' cap) Y) (J:W1.grownBy C ve.ownBlock) (H:ve.ownBlock=some q\/q=W1.heap.size) :
  (C.cell? ⟨X.g,3,none⟩=some ve/\C.frozen? ⟨X.g,3,none⟩=false)/\ej X i n Y (C.setCell ⟨X.g,3,none⟩ (.slice (some ⟨q,0,none⟩) n' cap))/\MW X W (C.setCell ⟨X.g,3,none⟩ (.slice (some ⟨q,0,none⟩) n' cap)):=by
 have h1:=hs.below G;have U:¬some X.g=ve.ownBlock:=fun e=>(hE.below G).ne h1 (by decide) X.g e.symm rfl
 have I:zv C X.g (.slice X.ao X.l.length X.cap) i n ve:=h1.kp (Kp.of_grown J) U;have F:=h.bel.trans (G.mono h.bel.size);refine ⟨⟨af I rfl,I.frozen 3⟩,⟨?_,h.lt,h.g0,h.hl,.slice (some ⟨q,0,none⟩) n' cap,aj I 3 _,hr.kp (Kp.set _ _ _ _) (hr.ne I (by decide)),?_⟩,fun b cs T f Q hT O=>?_⟩
 ·have M:=(Kp.of_grown J).sub (S:=fun k=>X.w0.heap.size<=k) (fun k e=>hv k e.symm);have Z:=l9 F M (fun k e=>e) F.size;exact l9 Z (Kp.set _ _ _ _) (fun k e=>by rw [e];exact h.g0) Z.size
 ·intro k e;simp only [Value.ownBlock,Tp] at e;subst e
  rcases H with H|H
  ·exact hv _ H
  ·rw [H];exact F.size
 ·have k1:=ag Q G;have M:=(Kp.of_grown J).blk k1 (fun e=>(hE.below G).ne k1 hT b e.symm rfl);exact (Kp.set C X.g 3 _).blk M O
theorem jo {X:Sx}(h:ej X i n E W) (d:Ev) (hl:E.length<=1000000000) :
  Ta 153 #[pg X.g,d.v] W fun r w'=>r=.returned (.tuple #[])/\ej X i n (E++[d]) w'/\MW X W w':=by
 obtain ⟨ve,I,S,hv⟩:=h.ex;obtain ⟨p,cap,rfl,_⟩:=S.shape;have HW:Hid (∀V,Below W.heap.size W V->Re V (.slice p E.length cap) E):=fun V C=>S.below C
 have HT:Hid (∀W1 G q H,Below W.heap.size W W1->Re G (.slice (some ⟨q,0,none⟩) (E.length+1) H) (E++[d])->W1.grownBy G (Value.slice p E.length cap).ownBlock->((Value.slice p E.length cap).ownBlock=some q\/q=W1.heap.size)->(G.cell? ⟨X.g,3,none⟩=some (.slice p E.length cap)/\G.frozen? ⟨X.g,3,none⟩=false)/\ej X i n (E++[d]) (G.setCell ⟨X.g,3,none⟩ (.slice (some ⟨q,0,none⟩) (E.length+1) H))/\MW X W (G.setCell ⟨X.g,3,none⟩ (.slice (some ⟨q,0,none⟩) (E.length+1) H))):=
  fun W1 G q H C h1 h2 h3=>Eo h I S hv C h1 h2 h3
 obtain ⟨c0,c1,c2,c3⟩:=I.cells;have hf:=I.frozen 3;have Y:=I.lt;clear h S I hv
 dsimp only [Ev.v]
 obtain ⟨⟨k0,n0,⟨Z,t,a,l,U,f⟩⟩,hd⟩:∃x,d=x:=⟨_,rfl⟩;subst hd
 go_enter Tryz.func153,Tryz.ntmps153
 go_wp2_with fail
 obtain ⟨W1,Q⟩:∃W1,W.alloc (.cells #[.int .u8 k0,.int .u8 n0,.int .u8 Z,.string t,.int .i64 a,.int .i64 l,.int .i64 U,.int .i64 f] 110)=W1:=⟨_,rfl⟩;have C:Below W.heap.size W W1:=by rw [<-Q];exact (hH _ _).alloc (gt _) _
 have F:W1.heap[W.heap.size]?=some (.cells #[.int .u8 k0,.int .u8 n0,.int .u8 Z,.string t,.int .i64 a,.int .i64 l,.int .i64 U,.int .i64 f] 110):=by rw [<-Q];exact aq _ _
 rw [Q];clear Q;have m0:W1.cell? ⟨W.heap.size,0,none⟩=_:=af F rfl;have m1:W1.cell? ⟨W.heap.size,1,none⟩=_:=af F rfl;have m2:W1.cell? ⟨W.heap.size,2,none⟩=_:=af F rfl;have m3:W1.cell? ⟨W.heap.size,3,none⟩=_:=af F rfl;have m4:W1.cell? ⟨W.heap.size,4,none⟩=_:=af F rfl;have m5:W1.cell? ⟨W.heap.size,5,none⟩=_:=af F rfl;have m6:W1.cell? ⟨W.heap.size,6,none⟩=_:=af F rfl;have m7:W1.cell? ⟨W.heap.size,7,none⟩=_:=af F rfl;have d4:W1.cell? ⟨X.g,3,none⟩=some (.slice p E.length cap):=(C.cell Y).trans c3;have HB:Hid (∀o,Below W.heap.size W (W1.drew.alloc o)):=fun o=>(C.drew).alloc C.size _
 have aa:X.g<W1.heap.size:=Tn Y C.size;clear C F c0 c1 c2 c3 hf Y
 go_region_law (refine Ey (by rfl) _ _ (by rfl) (.slice p E.length cap) E ⟨k0,n0,⟨Z,t,a,l,U,f⟩⟩ (by rfl) (HW.out _ (HB.out _)) W1.heap.size 1 (by rfl) (aq W1.drew _) hl ?_;intro q H G O J M;obtain ⟨⟨x1,x2⟩,x3⟩:=HT.out _ G q H (HB.out _) O J M;have HX:=ai x3;clear x3 O J M)
 all_goals (
  go_wp2_with fail
  go_end0
  exact ⟨rfl,HX.out⟩)
def jT (w:World) (b:Nat) (t:Tv):World:=((((((w.setCell ⟨b,0,none⟩ (.int .u8 t.k)).setCell ⟨b,1,none⟩ (.string t.t)).setCell ⟨b,2,none⟩ (.int .i64 t.a)).setCell ⟨b,3,none⟩ (.int .i64 t.l)).setCell ⟨b,4,none⟩ (.int .i64 t.c)).setCell ⟨b,5,none⟩ (.int .i64 t.f))
abbrev jP (t:Tv):Obj:=.cells #[.int .u8 t.k,.string t.t,.int .i64 t.a,.int .i64 t.l,.int .i64 t.c,.int .i64 t.f] 49
theorem EG {C:Tv}(t:Tv) (h:w.heap[b]?=some (jP C)):(jT w b t).heap[b]?=some (jP t):=aj (aj (aj (aj (aj (aj h 0 _) 1 _) 2 _) 3 _) 4 _) 5 _
theorem iH {w0:World}(t:Tv) (h:Below B w0 w) (C:B<=b):Below B w0 (jT w b t):=(((((h.setCell C _).setCell C _).setCell C _).setCell C _).setCell C _).setCell C _
theorem oO (h:W.heap[b]?=some (jP t)):W.cell? ⟨b,0,none⟩=some (.int .u8 t.k)/\W.cell? ⟨b,1,none⟩=some (.string t.t)/\W.cell? ⟨b,2,none⟩=some (.int .i64 t.a)/\W.cell? ⟨b,3,none⟩=some (.int .i64 t.l)/\W.cell? ⟨b,4,none⟩=some (.int .i64 t.c)/\W.cell? ⟨b,5,none⟩=some (.int .i64 t.f):=
 ⟨af h rfl,af h rfl,af h rfl,af h rfl,af h rfl,af h rfl⟩
def nx (X:Sx) (i:Nat):Tv:=X.l[i]?.getD aB
theorem eS {X:Sx}(h:ej X i n E W) (O:i<=X.l.length) :
  Ta 190 #[pg X.g] W fun e w'=>e=.returned (nx X i).v/\Below W.heap.size W w':=by
 obtain ⟨ve,G,I,S⟩:=h.ex;obtain ⟨c0,c1,c2,c3⟩:=G.cells;have M:=G.lt;have Q:=h.hl
 by_cases H:i<X.l.length
 ·obtain ⟨t,ht⟩:∃t,X.l[i]?=some t:=⟨_,Pi H⟩;obtain ⟨b,off,e0,x0,x1,x2,x3,x4,x5,xl⟩:=h.tok ht;have C:nx X i=t:=by simp [nx,ht]
  rw [C];rw [e0] at c0;have J:((i:Int) == (X.l.length:Int))=false:=by simp;omega
  have U:(0:Int)<=i:=by omega
  have Y:(i:Int)<X.l.length:=by omega
  have F:Hid (∀m,Tb W (jT ((W.alloc (jP aB)).drewN m) W.heap.size t)):=fun m=>iH t (fE ((hH _ _).alloc (gt _) _) m) (gt _)
  clear h G I C ht e0
  dsimp only [Tv.v]
  go_enter Tryz.func190,Tryz.ntmps190
  go_wp2_with fail
  go_quiet (fail)
  go_wp2_with fail
  go_region
  all_goals (
   go_wp2_with fail
   refine Ti (v:=.agg #[.int .u8 t.k,.string t.t,.int .i64 t.a,.int .i64 t.l,.int .i64 t.c,.int .i64 t.f]) (by simp [results,Tryz.f190,go_sem]) rfl ?_;exact ⟨rfl,F.out _⟩)
 ·obtain rfl:i=X.l.length:=by omega
  have C:nx X X.l.length=aB:=by simp [nx]
  rw [C];have J:((X.l.length:Int) == (X.l.length:Int))=true:=by simp
  have F:Hid (∀m,Tb W (jT ((W.alloc (jP aB)).drewN m) W.heap.size aB)):=fun m=>iH aB (fE ((hH _ _).alloc (gt _) _) m) (gt _)
  clear h G I C
  dsimp only [Tv.v,aB] at F ⊢
  go_enter Tryz.func190,Tryz.ntmps190
  go_wp2_with fail
  go_quiet (fail)
  go_wp2_with fail
  refine Ti (v:=.agg #[.int .u8 0,.string ⟨#[]⟩,.int .i64 0,.int .i64 0,.int .i64 0,.int .i64 0]) (by simp [results,Tryz.f190,go_sem]) rfl ?_;exact ⟨rfl,F.out _⟩
def kt (k:Int) (t:Tv):ByteArray:=if t.k == k then t.t else ⟨#[]⟩
theorem oT {X:Sx}(h:ej X i n E W) (Q:i<=X.l.length) (k:Int) :
  Ta 234 #[pg X.g,.int .u8 k] W fun e w'=>e=.returned (.string (kt k (nx X i)))/\Below W.heap.size W w':=by
 have H:Hid (∀V,Tb W V->Ta 190 #[pg X.g] V fun e w'=>e=.returned (nx X i).v/\Tb V w'):=fun V I=>eS (h.below I) Q
 clear h
 generalize nx X i=t at *
 have O:Hid (∀G,Tb W G->Tb W (G.alloc (jP t))):=fun G I=>I.alloc I.size _
 by_cases J:(t.k == k)=true
 ·have F:kt k t=t.t:=by simp [kt,J]
  rw [F]
  dsimp only [Tv.v] at H
  go_enter Tryz.func234,Tryz.ntmps234
  go_wp2_with (go_at_call 190;refine (H.out _ (hH _ _)).mono ?_;rintro e G ⟨rfl,C⟩)
  go_ret
  exact ⟨rfl,O.out _ C⟩
 ·have M:(t.k == k)=false:=by simpa using J
  have F:kt k t=⟨#[]⟩:=by simp [kt,M]
  rw [F];clear J
  dsimp only [Tv.v] at H
  go_enter Tryz.func234,Tryz.ntmps234
  go_wp2_with (go_at_call 190;refine (H.out _ (hH _ _)).mono ?_;rintro e G ⟨rfl,C⟩)
  go_ret
  exact ⟨rfl,O.out _ C⟩
theorem kE {X:Sx}(h:ej X i n E W) (F:i<=X.l.length) :
  Ta 219 #[pg X.g] W fun e w'=>e=.returned (.string (kt 2 (nx X i)))/\Below W.heap.size W w':=by
 have H:Hid (Ta 234 #[pg X.g,.int .u8 2] W fun e w'=>e=.returned (.string (kt 2 (nx X i)))/\Tb W w'):=oT h F 2;clear h
 go_enter Tryz.func219,Tryz.ntmps219
 go_wp2_with (go_at_call 234;refine H.out.mono ?_;rintro e G ⟨rfl,C⟩)
 go_ret
 exact ⟨rfl,C⟩
theorem lO {X:Sx}(h:ej X i n E W) (F:i<=X.l.length) :
  Ta 220 #[pg X.g] W fun e w'=>e=.returned (.string (kt 6 (nx X i)))/\Below W.heap.size W w':=by
 have H:Hid (Ta 234 #[pg X.g,.int .u8 6] W fun e w'=>e=.returned (.string (kt 6 (nx X i)))/\Tb W w'):=oT h F 6;clear h
 go_enter Tryz.func220,Tryz.ntmps220
 go_wp2_with (go_at_call 234;refine H.out.mono ?_;rintro e G ⟨rfl,C⟩)
 go_ret
 exact ⟨rfl,C⟩
abbrev stop (c:Int) (i:Nat):List PanicEntry:=[{ v:=.iface 188 (.agg #[.int .i64 c,.int .i64 (i:Int)]),recovered:=false }]
theorem ph {X:Sx}(h:ej X i n E W) :
  Ta 159 #[pg X.g] W fun e w'=>e=.panicked (stop (if i=X.l.length then 121 else 120) i)/\Below W.heap.size W w':=by
 obtain ⟨ve,F,H,O⟩:=h.ex;obtain ⟨c0,c1,c2,c3⟩:=F.cells;have J:=F.lt;have M:=h.hl;have G:Hid (∀m,Tb W (W.drewN m)):=fun m=>fE (hH _ _) m
 by_cases C:i=X.l.length
 ·rw [IO C];have I:((i:Int) == (X.l.length:Int))=true:=by simp [C]
  clear h F H C
  go_enter Tryz.func159,Tryz.ntmps159
  go_wp2_with fail
  go_quiet (fail)
  go_wp2_with fail
  exact ⟨rfl,rfl,G.out _⟩
 ·rw [Eq C];have I:((i:Int) == (X.l.length:Int))=false:=by simp;omega
  clear h F H C
  go_enter Tryz.func159,Tryz.ntmps159
  go_wp2_with fail
  go_quiet (fail)
  go_wp2_with fail
  exact ⟨rfl,rfl,G.out _⟩
theorem ej.step {X:Sx}{i n:Nat}{E:List Ev}{W:World}(h:ej X i n E W) (j:Nat):W.cell? ⟨X.g,1,none⟩=some (.int .i64 (i:Int))/\W.frozen? ⟨X.g,1,none⟩=false/\X.g<W.heap.size/\ej X j n E (W.setCell ⟨X.g,1,none⟩ (.int .i64 (j:Int))):=by
 obtain ⟨ve,a,b,c⟩:=h.ex;refine ⟨a.cells.2.1,a.frozen 1,a.lt,l9 h.bel (Kp.set _ _ _ _) (fun k e=>by rw [e];exact h.g0) h.bel.size,h.lt,h.g0,h.hl,ve,aj a 1 _,b.kp (Kp.set _ _ _ _) (b.ne a (by decide)),c⟩
theorem ej.deep {X:Sx}(h:ej X i n E W) (m:Nat):W.cell? ⟨X.g,2,none⟩=some (.int .i64 (n:Int))/\W.frozen? ⟨X.g,2,none⟩=false/\X.g<W.heap.size/\ej X i m E (W.setCell ⟨X.g,2,none⟩ (.int .i64 (m:Int))):=by
 obtain ⟨ve,a,b,c⟩:=h.ex;refine ⟨a.cells.2.2.1,a.frozen 2,a.lt,l9 h.bel (Kp.set _ _ _ _) (fun k e=>by rw [e];exact h.g0) h.bel.size,h.lt,h.g0,h.hl,ve,aj a 2 _,b.kp (Kp.set _ _ _ _) (b.ne a (by decide)),c⟩
structure QR (X:Sx) (i n:Nat) (E:List Ev) (k b:Nat) (W:World):Prop where
 sv:ej X (i+k) n (E++((bD (X.l.drop i)).take k).map ko) W
 tk:W.heap[b]?=some (jP (nx X (i+k)))
 le:k<=(bD (X.l.drop i)).length
theorem KI (r:List Tv):(bD r).length<=r.length:=by
 have:=Tm List.length (BA r);rw [Or] at this;omega
theorem QR.on {X:Sx}(h:QR X i n E k b W):(k<(bD (X.l.drop i)).length->∃c,(bD (X.l.drop i))[k]?=some c/\nx X (i+k)=c/\iB c=true)/\(k=(bD (X.l.drop i)).length->iB (nx X (i+k))=false):=by
 obtain ⟨G,H⟩:=AQ (X.l.drop i) k;constructor
 ·intro F;obtain ⟨c,C⟩:∃c,(bD (X.l.drop i))[k]?=some c:=⟨_,Pi F⟩;obtain ⟨b1,b2⟩:=G c C;rw [TK] at b1;exact ⟨c,C,by simp [nx,b1],b2⟩
 ·intro F;unfold nx;cases C:X.l[i+k]? with
  |none=>rfl
  |some c=>exact H F c (by rw [TK];exact C)
theorem Ei {l:List Tv}{c:Tv}(h:l[k]?=some c):(l.take (k+1)).map ko=(l.take k).map ko++[ko c]:=by
 rw [UK,h];simp
def Q0 (g:Nat) (w:World):Nat:=match w.cell? ⟨g,1,none⟩ with|some (.int _ z)=>z.toNat|_=>0
theorem qB {g:Nat}{z:Int}(h:w.cell? ⟨g,1,none⟩=some (.int .i64 z)):Q0 g w=z.toNat:=by unfold Q0;rw [h]
theorem Hf (t:Tv):iB t=(t.k == 7 || t.k == 8):=rfl
theorem lj {X:Sx}(h:ej X i n E W) (hi:i<=X.l.length) (hl:E.length+X.l.length<=1000000000) :
  Ta 154 #[pg X.g] W fun e w'=>e=.returned (.tuple #[])/\ej X (i+(bD (X.l.drop i)).length) n (E++(bD (X.l.drop i)).map ko) w':=by
 have av:i+(bD (X.l.drop i)).length<=X.l.length:=by
  have:=KI (X.l.drop i);rw [Tw] at this;omega
 have aw:=h.hl;have H1:Hid (Ta 190 #[pg X.g] W fun e w'=>e=.returned (nx X i).v/\Below W.heap.size W w'):=eS h hi;have H0:Hid (∀w1,Below W.heap.size W w1->QR X i n E 0 w1.heap.size (w1.alloc (jP (nx X i)))):=fun w1 hb=>⟨by simpa using (h.below hb).below ((hH _ _).alloc (gt _) _),aq _ _,SW _⟩
 clear h;obtain ⟨m,hm⟩:∃m,(bD (X.l.drop i)).length=m:=⟨_,rfl⟩;obtain ⟨t0,ht0⟩:∃t,nx X i=t:=⟨_,rfl⟩;rw [ht0] at H1 H0
 dsimp only [Tv.v] at H1
 go_enter Tryz.func154,Tryz.ntmps154
 go_wp2_with (go_at_call 190;refine H1.out.mono ?_;rintro e w1 ⟨rfl,ab⟩;have HC:=show Hid _ from H0.out _ ab;clear ab)
 go_loopw [2] (fun p wr=>∃k b,p=.pointer (some ⟨b,0,none⟩)/\Hid (QR X i n E k b wr)) (fun p wr=>m+1-(Q0 X.g wr-i))
 case atStart=>exact ⟨0,_,rfl,HC.out⟩
 case round=>
  obtain ⟨k,b,rfl,J⟩:=hrel;obtain ⟨c0,c1,c2,c3,c4,c5⟩:=oO J.out.tk;have ap:=au J.out.tk;obtain ⟨o1,o2⟩:=J.out.on;have ar:=J.out.le;obtain ⟨ve,H,_,_⟩:=J.out.sv.ex;have g1:=H.cells.2.1;clear H
  by_cases hk:k<(bD (X.l.drop i)).length
  ·obtain ⟨c,e1,e2,e3⟩:=o1 hk;rw [e2] at c0 c1 c2 c3 c4 c5;have HT:Hid (Ta 153 #[pg X.g,(⟨4,0,c⟩:Ev).v] wr fun r w'=>r=.returned (.tuple #[])/\ej X (i+k) n ((E++((bD (X.l.drop i)).take k).map ko)++[⟨4,0,c⟩]) w'/\MW X wr w'):=jo J.out.sv _ (by simp;omega)
   have HN:Hid (∀I,ej X (i+k) n ((E++((bD (X.l.drop i)).take k).map ko)++[⟨4,0,c⟩]) I->MW X wr I->(I.cell? ⟨X.g,1,none⟩=some (.int .i64 ((i:Int)+k))/\I.frozen? ⟨X.g,1,none⟩=false/\X.g<I.heap.size)/\∃C,I.setCell ⟨X.g,1,none⟩ (.int .i64 ((i:Int)+k+1))=C/\(C.cell? ⟨b,0,none⟩=some (.int .u8 c.k)/\C.cell? ⟨b,1,none⟩=some (.string c.t)/\C.cell? ⟨b,2,none⟩=some (.int .i64 c.a)/\C.cell? ⟨b,3,none⟩=some (.int .i64 c.l)/\C.cell? ⟨b,4,none⟩=some (.int .i64 c.c)/\C.cell? ⟨b,5,none⟩=some (.int .i64 c.f)/\b<C.heap.size)/\Hid (ej X (i+(k+1)) n (E++((bD (X.l.drop i)).take (k+1)).map ko) C)):=fun I Q O=>by
    have ac:b≠X.g:=fun e=>by
     have h1:=J.out.tk;obtain ⟨ve,H,_,_⟩:=J.out.sv.ex;rw [e,H] at h1;cases h1
    have h3:=O b _ _ _ J.out.tk (by decide) ac;rw [e2] at h3;have h4:=(Kp.set I X.g 1 (.int .i64 ((i:Int)+k+1))).blk h3 ac;obtain ⟨U,Y,Z,y3,y4,y5⟩:=oO h4;obtain ⟨z0,z1,z2,z3⟩:=Q.step (i+(k+1));refine ⟨⟨by rw [z0];simp,z1,z2⟩,_,rfl,⟨U,Y,Z,y3,y4,y5,au h4⟩,?_⟩;have e5:((i:Int)+k+1)=((i+(k+1):Nat):Int):=by omega
    rw [e5,Ei e1,<-S5];exact z3
   have HF:Hid (∀C F,ej X (i+(k+1)) n (E++((bD (X.l.drop i)).take (k+1)).map ko) C->Below (C.alloc (jP c)).heap.size (C.alloc (jP c)) F->(F.cell? ⟨C.heap.size,0,none⟩=some (.int .u8 c.k)/\F.cell? ⟨C.heap.size,1,none⟩=some (.string c.t)/\F.cell? ⟨C.heap.size,2,none⟩=some (.int .i64 c.a)/\F.cell? ⟨C.heap.size,3,none⟩=some (.int .i64 c.l)/\F.cell? ⟨C.heap.size,4,none⟩=some (.int .i64 c.c)/\F.cell? ⟨C.heap.size,5,none⟩=some (.int .i64 c.f)/\(∀j,F.frozen? ⟨C.heap.size,j,none⟩=false)/\C.heap.size<F.heap.size)/\QR X i n E (k+1) C.heap.size (jT F C.heap.size (nx X (i+(k+1))))/\(jT F C.heap.size (nx X (i+(k+1)))).cell? ⟨X.g,1,none⟩=some (.int .i64 ((i:Int)+k+1))):=fun C F S G=>by
    have h0:=ag (aq C (jP c)) G;obtain ⟨U,Y,Z,y3,y4,y5⟩:=oO h0;have b0:Below C.heap.size C (C.alloc (jP c)):=(hH _ _).alloc (gt _) _;have b1:Below C.heap.size C F:=b0.trans (G.mono b0.size);have s5:=S.below (iH (nx X (i+(k+1))) b1 (gt _));refine ⟨⟨U,Y,Z,y3,y4,y5,fun j=>am h0,au h0⟩,⟨s5,EG _ h0,hk⟩,?_⟩;obtain ⟨ve,H,_,_⟩:=s5.ex;rw [H.cells.2.1];simp;omega
   have HX:Hid (∀V,ej X (i+(k+1)) n (E++((bD (X.l.drop i)).take (k+1)).map ko) V->Ta 190 #[pg X.g] (V.alloc (jP c)) fun e w'=>e=.returned (nx X (i+(k+1))).v/\Below (V.alloc (jP c)).heap.size (V.alloc (jP c)) w'):=fun V hV=>eS (hV.below ((hH _ _).alloc (gt _) _)) (by omega)
   obtain ⟨t2,ae⟩:∃t,nx X (i+(k+1))=t:=⟨_,rfl⟩;rw [ae] at HF HX
   dsimp only [Tv.v] at HX
   clear o1 o2
   dsimp only [Ev.v] at HT
   cases h7:(c.k == 7) with
   |true=>
    go_wp2_with (go_at_call 153;refine HT.out.mono ?_;rintro r I ⟨rfl,Q,O⟩;obtain ⟨⟨z0,z1,z2⟩,C,e4,⟨U,Y,Z,y3,y4,y5,yl⟩,S⟩:=HN.out I Q O;clear Q O)
    refine (HX.out _ S.out).mono ?_;rintro e F ⟨rfl,G⟩;obtain ⟨⟨x0,x1,x2,x3,x4,x5,xf,xl⟩,p1,p2⟩:=HF.out C F S.out G;have HP:=ai p1;have HM:=ai p2;have af:=xf 0;have ah:=xf 1;have aj:=xf 2;have ak:=xf 3;have al:=xf 4;have an:=xf 5;clear p1 p2 xf G z0 z1 z2 U Y Z y3 y4 y5 yl e4 c0 c1 c2 c3 c4 c5
    generalize C.heap.size=q at *
    go_wp2_with fail
    obtain ⟨w6,M⟩:∃w6,jT F q t2=w6:=⟨_,rfl⟩;rw [M] at HP HM;unfold jT at M;rw [M];refine ⟨⟨k+1,q,rfl,HP.out⟩,?_⟩;rw [qB HM.out,qB g1];simp;omega
   |false=>
    have h8:(c.k == 8)=true:=by rw [Hf,h7] at e3;simpa using e3
    go_wp2_with (go_at_call 153;refine HT.out.mono ?_;rintro r I ⟨rfl,Q,O⟩;obtain ⟨⟨z0,z1,z2⟩,C,e4,⟨U,Y,Z,y3,y4,y5,yl⟩,S⟩:=HN.out I Q O;clear Q O)
    refine (HX.out _ S.out).mono ?_;rintro e F ⟨rfl,G⟩;obtain ⟨⟨x0,x1,x2,x3,x4,x5,xf,xl⟩,p1,p2⟩:=HF.out C F S.out G;have HP:=ai p1;have HM:=ai p2;have af:=xf 0;have ah:=xf 1;have aj:=xf 2;have ak:=xf 3;have al:=xf 4;have an:=xf 5;clear p1 p2 xf G z0 z1 z2 U Y Z y3 y4 y5 yl e4 c0 c1 c2 c3 c4 c5
    generalize C.heap.size=q at *
    go_wp2_with fail
    obtain ⟨w6,M⟩:∃w6,jT F q t2=w6:=⟨_,rfl⟩;rw [M] at HP HM;unfold jT at M;rw [M];refine ⟨⟨k+1,q,rfl,HP.out⟩,?_⟩;rw [qB HM.out,qB g1];simp;omega
  ·have aa:k=(bD (X.l.drop i)).length:=by omega
   have hc:=o2 aa;obtain ⟨c,ad⟩:∃c,nx X (i+k)=c:=⟨_,rfl⟩;rw [ad] at c0 c1 c2 c3 c4 c5 hc
   have HZ:Hid (ej X (i+(bD (X.l.drop i)).length) n (E++(bD (X.l.drop i)).map ko) wr):=by
    have:=J.out.sv;rw [aa,T4] at this;exact this
   rw [Hf] at hc;have h7:(c.k == 7)=false:=by cases h:(c.k == 7) <;> simp_all
   have h8:(c.k == 8)=false:=by cases h:(c.k == 8) <;> simp_all
   clear o1 o2 hc aa
   go_wp2_with fail
   go_end0
   exact ⟨rfl,HZ.out⟩
theorem BW {X:Sx}(h:ej X i n E W) {t:Tv}(ht:X.l[i]?=some t) (hn:n<=1000) (hl:E.length+1+X.l.length<=1000000000) :
  Ta 232 #[pg X.g] W fun e w'=>e=.returned (.tuple #[])/\ej X (i+1+(bD (X.l.drop (i+1))).length) n (E++⟨2,0,t⟩ :: (bD (X.l.drop (i+1))).map ko) w':=by
 have G:i<X.l.length:=(Te.1 ht).1;obtain ⟨ve,M,hE,hv⟩:=h.ex;obtain ⟨c0,c1,c2,c3⟩:=M.cells;have aa:=M.lt;have ab:=h.hl;obtain ⟨b,off,e0,x0,x1,x2,x3,x4,x5,xl⟩:=h.tok ht;rw [e0] at c0;have q1:¬((n:Int)>1000):=by omega
 have q2:(0:Int)<=i:=by omega
 have q3:(i:Int)<X.l.length:=by omega
 have J:Hid (∀V,Tb W V->Ta 153 #[pg X.g,(⟨2,0,t⟩:Ev).v] V fun r w'=>r=.returned (.tuple #[])/\ej X i n (E++[⟨2,0,t⟩]) w'/\MW X V w'):=fun V hb=>jo (h.below hb) _ (by omega)
 have HN:Hid (∀C,ej X i n (E++[⟨2,0,t⟩]) C->(C.cell? ⟨X.g,1,none⟩=some (.int .i64 (i:Int))/\C.frozen? ⟨X.g,1,none⟩=false/\X.g<C.heap.size)/\∃F,C.setCell ⟨X.g,1,none⟩ (.int .i64 ((i:Int)+1))=F/\Hid (ej X (i+1) n (E++[⟨2,0,t⟩]) F)):=fun C H=>by
  obtain ⟨Q,S,U,z3⟩:=H.step (i+1);exact ⟨⟨Q,S,U⟩,_,rfl,by show ej _ _ _ _ _;rw [show ((i:Int)+1)=((i+1:Nat):Int) by omega];exact z3⟩
 have HC:Hid (∀F,ej X (i+1) n (E++[⟨2,0,t⟩]) F->Ta 154 #[pg X.g] F fun e w'=>e=.returned (.tuple #[])/\ej X (i+1+(bD (X.l.drop (i+1))).length) n (E++[⟨2,0,t⟩]++(bD (X.l.drop (i+1))).map ko) w'):=fun F h3=>lj h3 G (by simp;omega)
 have HE:Hid (E++⟨2,0,t⟩ :: (bD (X.l.drop (i+1))).map ko=E++[⟨2,0,t⟩]++(bD (X.l.drop (i+1))).map ko):=by show _=_;simp
 have HB:Hid (∀m,Tb W (W.drewN m)):=fun m=>fE (hH _ _) m
 rw [HE.out];clear h M hE hv ht G e0
 dsimp only [Ev.v] at J
 generalize X.ao=ao at *
 go_enter Tryz.func232,Tryz.ntmps232
 go_wp2_with fail
 go_cut [25] from 13 to 25 (fun _ wx=>Hid (ej X i n (E++[⟨2,0,t⟩]) wx))
 case first=>
  go_region_with (go_at_call 153;refine (J.out _ (HB.out _)).mono ?_;rintro r C ⟨rfl,H,f2⟩;have I:=ai H;clear H f2)
  all_goals (
   go_wp2_with fail
   go_meet
   exact I)
 case rest=>
  have I:=hcut;clear hcut c0 c1 c2 c3 x0 x1 x2 x3 x4 x5 J;obtain ⟨⟨Q,S,U⟩,F,e3,Y⟩:=HN.out _ I.out
  go_wp2_with (go_at_call 154;refine (HC.out _ Y.out).mono ?_;rintro r w4 ⟨rfl,O⟩;have Z:=ai O;clear O)
  go_end0
  exact ⟨rfl,Z.out⟩
theorem B8 {X:Sx}(h:ej X i n E W) (I:1000<n) :
  Ta 232 #[pg X.g] W fun e w'=>e=.panicked (stop 122 i)/\Below W.heap.size W w':=by
 obtain ⟨ve,C,G,J⟩:=h.ex;obtain ⟨c0,c1,c2,c3⟩:=C.cells;have H:=C.lt;have M:((n:Int)>1000):=by omega
 have F:Hid (∀m,Tb W (W.drewN m)):=fun m=>fE (hH _ _) m
 clear h C G
 go_enter Tryz.func232,Tryz.ntmps232
 go_wp2_with fail
 exact ⟨rfl,rfl,F.out 0⟩
def Ls (W:World) (ao:Option Addr) (l:List ByteArray):Prop:=∀j s,l[j]?=some s->∃b off,ao=some ⟨b,off,none⟩/\W.cell? ⟨b,off+j,none⟩=some (.string s)
theorem Ls.kp {S:Nat->Prop}{w w':World}{ao:Option Addr}{l:List ByteArray}(h:Ls w ao l) (J:Kp S w w') (H:∀a,ao=some a->¬S a.block):Ls w' ao l:=by
 intro j a I;obtain ⟨b,F,G,c0⟩:=h j a I;have C:=S9 _ _ c0;have e:w'.heap[b]?=w.heap[b]?:=J.block b C (H _ G);exact ⟨b,F,G,(S8 (a:=⟨b,_,none⟩) e).trans c0⟩
theorem Ls.below {w':World}{ao:Option Addr}{l:List ByteArray}(h:Ls w ao l) (C:Below w.heap.size w w'):Ls w' ao l:=h.kp (Kp.of_below (S:=fun _=>False) C) (fun _ _ h=>h)
theorem Gg (l:List ByteArray) (s x:ByteArray) (k:Nat) (C:l[k]?=some x) (h:kS (l.take k) s=false):kS (l.take (k+1)) s=(s.toList == x.toList):=by
 rw [Hq];unfold kS at h ⊢;rw [UK,C,TC,h];simp
theorem Gf (l:List ByteArray) (s:ByteArray) (k:Nat) (h:kS (l.take k) s=true):kS l s=true:=by
 unfold kS at h ⊢;simp only [Un] at h ⊢;obtain ⟨x,C,e⟩:=h;exact ⟨x,Wd C,e⟩
theorem yh (ao:Option Addr) (l:List ByteArray) (cap:Nat) (s:ByteArray) (W:World) (h:Ls W ao l) (U:l.length<=1000) :
  Ta 233 #[.slice ao l.length cap,.string s] W fun r w'=>(∃z:Int,r=.returned (.int .i64 z)/\(decide (0<=z)=kS l s))/\w'=W:=by
 have H:Hid (Ls W ao l):=h;clear h
 go_enter Tryz.func233,Tryz.ntmps233
 go_wp2_with fail
 go_loopw [5,8] (fun _ i wr=>∃k:Nat,k<=l.length/\i=.int .i64 k/\Hid (kS (l.take k) s=false)/\wr=W) (fun _ i _=>l.length-(intOf i).toNat)
 case atStart=>exact ⟨0,SW _,rfl,by show kS _ _=_;simp [kS],rfl⟩
 case round=>
  obtain ⟨k,S,rfl,J,rfl⟩:=hrel
  by_cases C:k<l.length
  ·have Q:(k:Int)<l.length:=by omega
   have Y:(0:Int)<=k:=by omega
   obtain ⟨x,G⟩:∃x,l[k]?=some x:=⟨_,Pi C⟩;obtain ⟨b,off,rfl,hc⟩:=H.out k x G;have M:Hid (kS (l.take (k+1)) s=(s.toList == x.toList)):=Gg l s x k G J.out;have O:Hid (kS (l.take (k+1)) s=true->kS l s=true):=Gf l s _;clear G
   by_cases F:(s.toList == x.toList)=true
   ·go_wp2_with fail
    go_ret
    exact ⟨⟨_,rfl,by rw [O.out (M.out.trans F)];simp⟩,rfl⟩
   ·have I:(s.toList == x.toList)=false:=by simpa using F
    clear F
    go_wp2_with fail
    exact ⟨⟨k+1,C,by go_num,M.out.trans I,trivial⟩,by simp [intOf];omega⟩
  ·obtain rfl:k=l.length:=by omega
   have Q:¬((l.length:Int)<l.length):=by omega
   go_wp2_with fail
   go_ret
   refine ⟨⟨_,rfl,?_⟩,rfl⟩;have:=J.out;rw [T4] at this;rw [this];rfl
theorem jU (ao:Option Addr) (l:List ByteArray) (cap:Nat) (s:ByteArray) (W:World) (h:Ls W ao l) (C:l.length<=1000) :
  Ta 218 #[.slice ao l.length cap,.string s] W fun r w'=>r=.returned (.bool (kS l s))/\w'=W:=by
 have H:Hid (Ta 233 #[.slice ao l.length cap,.string s] W fun r w'=>(∃z:Int,r=.returned (.int .i64 z)/\(decide (0<=z)=kS l s))/\w'=W):=yh ao l cap s W h C;clear h
 generalize kS l s=b at *
 go_enter Tryz.func218,Tryz.ntmps218
 go_wp2_with (go_at_call 233;refine H.out.mono ?_;rintro r G ⟨⟨z,rfl,F⟩,rfl⟩;subst F)
 go_ret
 exact ⟨by simp,rfl⟩
def oq (X:Sx) (d:D):List Ev:=⟨1,1,aB⟩ :: ((bD X.l).map ko++d.v.tail)
structure SD (X:Sx) (r:Nat) (d:D) (W:World):Prop where
 sv:ej X (ps X.l d.i) d.p.length (oq X d) W
 e0:d.e=0
 il:d.i<=(aG X.l).length
 nn:d.N=fun j=>(qN X.l j).map ko
 v0:d.v≠[]
 sm:d.s<=100*d.i+r
 el:(oq X d).length+d.p.length=2*d.s+ps X.l d.i
theorem SD.below {X:Sx}(h:SD X r d W) (C:Below W.heap.size W W'):SD X r d W':=⟨h.sv.below C,h.e0,h.il,h.nn,h.v0,h.sm,h.el⟩
theorem SD.up {X:Sx}{r':Nat}(h:SD X r d W) (C:r<=r'):SD X r' d W:=⟨h.sv,h.e0,h.il,h.nn,h.v0,SY h.sm (by omega),h.el⟩
theorem D9 (l:List Tv):(aG l).length<=l.length:=List.length_filter_le _ _
theorem SD.len {X:Sx}(h:SD X r d W) (M:r<=1000):(oq X d).length+1+X.l.length<=1000000000:=by
 have C:=h.el;have F:=h.sm;have G:=h.il;have H:=D9 X.l;have I:=h.sv.hl;have J:=fN X.l d.i;omega
theorem SD.hnxt {X:Sx}(h:SD X r d W):cZ (aG X.l) d=(aG X.l)[d.i]?:=by unfold cZ;rw [IO h.e0]
theorem SD.hnx {X:Sx}(h:SD X r d W):nx X (ps X.l d.i)=(cZ (aG X.l) d).getD aB:=by rw [h.hnxt];unfold nx;rw [vN]
theorem SD.hqn {X:Sx}(h:SD X r d W) {f:Tv->Bool}(C:f aB=false):qn (aG X.l) d f=f (nx X (ps X.l d.i)):=by
 rw [h.hnx];unfold qn;cases cZ (aG X.l) d with
 |none=>exact C.symm
 |some t=>rfl
theorem SD.hend {X:Sx}(h:SD X r d W):(ps X.l d.i=X.l.length↔¬d.i<(aG X.l).length):=by
 have C:=fN X.l d.i;rw [<-Am];omega
def lA (X:Sx) (v:Value) (d:D) (e:Ending) (w:World):Prop:=(d.e=0/\e=.returned v/\SD X 0 d w)\/(d.e≠0/\e=.panicked (stop d.e (ps X.l d.i))/\Below X.w0.heap.size X.w0 w)
theorem kw {a b:List Ev}(h:a≠[]):(a++b).tail=a.tail++b:=by
 cases a with
 |nil=>exact absurd rfl h
 |cons x a=>rfl
theorem zJ {X:Sx}(h:SD X r d W) (U:r<=100) {x:Fl}(I:qn (aG X.l) d (fun t=>x.takes t)=true) :
  Ta 232 #[pg X.g] W fun e w'=>lA X (.tuple #[]) (jn (aG X.l) x d) e w':=by
 have J:jn (aG X.l) x d=fj (aG X.l) true d:=by unfold jn;rw [I]
 rw [J];obtain ⟨H,C⟩:=Aj I;obtain ⟨t,ht⟩:∃t,(aG X.l)[d.i]?=some t:=⟨_,Pi C⟩;have F:X.l[ps X.l d.i]?=some t:=by rw [vN];exact ht
 unfold fj;simp only [Vb]
 by_cases hd:1000<d.p.length
 ·rw [IO hd];refine (B8 h.sv hd).mono ?_;rintro e w' ⟨rfl,Q⟩;exact .inr ⟨(by show (122:Int)≠0;decide),rfl,h.sv.bel.trans (Q.mono h.sv.bel.size)⟩
 ·rw [Eq hd];have S:=h.len (by omega);refine (BW h.sv F (by omega) S).mono ?_;rintro e w' ⟨rfl,O⟩;obtain ⟨p1,p2⟩:=sX X.l d.i C;refine .inl ⟨H,rfl,?_,H,C,h.nn,by simp,?_,?_⟩
  ·rw [p1];show ej X _ _ (oq X { d with i:=d.i+1,l:=if d.i+1=(aG X.l).length then d.p else d.l,v:=d.v++⟨2,0,(aG X.l)[d.i]?.getD aB⟩ :: d.N d.i }) w'
   have M:oq X { d with i:=d.i+1,l:=if d.i+1=(aG X.l).length then d.p else d.l,v:=d.v++⟨2,0,(aG X.l)[d.i]?.getD aB⟩ :: d.N d.i }=oq X d++⟨2,0,t⟩ :: (qN X.l d.i).map ko:=by
    unfold oq;rw [kw h.v0,ht,h.nn];simp
   rw [M,p2];exact O
  ·have:=h.sm;show d.s<=100*(d.i+1)+0;omega
  ·have G:=h.el;show (oq X _).length+d.p.length=2*d.s+ps X.l (d.i+1);rw [p1];unfold oq at G ⊢;simp only [kw h.v0,h.nn,List.length_cons,Or,UC] at G ⊢;omega
theorem jt {X:Sx}(h:SD X r d W) (v:Value) :
  Ta 159 #[pg X.g] W fun e w'=>lA X v (fj (aG X.l) false d) e w'/\(fj (aG X.l) false d).e≠0/\e=.panicked (stop (fj (aG X.l) false d).e (ps X.l (fj (aG X.l) false d).i))/\Below X.w0.heap.size X.w0 w':=by
 refine (ph h.sv).mono ?_;rintro e w' ⟨rfl,I⟩;have C:=h.sv.bel.trans (I.mono h.sv.bel.size);have H:=h.e0;have G:=h.hend;unfold fj;simp only [Tu,Ui,IO H]
 by_cases F:d.i<(aG X.l).length
 ·have:¬ps X.l d.i=X.l.length:=fun e=>(G.1 e) F
  rw [IO F,Eq this];exact ⟨.inr ⟨(by show (120:Int)≠0;decide),rfl,C⟩,(by show (120:Int)≠0;decide),rfl,C⟩
 ·rw [Eq F,IO (G.2 F)];exact ⟨.inr ⟨(by show (121:Int)≠0;decide),rfl,C⟩,(by show (121:Int)≠0;decide),rfl,C⟩
end Go.Proofs.YtcjiapphbpiffaaGreatDoor
