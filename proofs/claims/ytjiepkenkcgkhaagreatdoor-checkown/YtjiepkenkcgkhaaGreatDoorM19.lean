import Derived.Deep.RegionHeld3
import Derived.Deep.RegionWith
import Derived.WalkMore
import Derived.BigQuiet
import Derived.Deep.CutRange
import Derived.Deep.QuietTactic
import Derived.Test.YtjiepkenkcgkhaaGreatDoorM18
set_option linter.unusedVariables false
set_option linter.unusedSimpArgs false
set_option maxHeartbeats 2000000
namespace Go.Proofs.YtjiepkenkcgkhaaGreatDoor
open Go.RowKit
variable {W w W':World}{i n r j b k B:Nat}{E:List Ev}{t:Tv}{d:D}{vl ve:Value}{K:List It}{code:Int}
def jY (c:Tv):Ev:=⟨4,0,c⟩
def bA:List Tv->List Tv
 |[]=>[]
 |t :: r=>if ii t then t :: bA r else []
def kZ:List Tv->List Tv
 |[]=>[]
 |t :: r=>if ii t then kZ r else t :: r
def aF (l:List Tv):List Tv:=l.filter (fun t=>!ii t)
def ps:List Tv->Nat->Nat
 |[],_=>0
 |t :: r,j=>if ii t then ps r j+1 else match j with|0=>0|j+1=>ps r j+1
def qp:List Tv->Nat->List Tv
 |[],_=>[]
 |t :: r,j=>if ii t then qp r j else match j with|0=>bA r|j+1=>qp r j
theorem xq {r:List Tv}(h:ii t=true):ps (t :: r) j=ps r j+1:=by cases j <;> simp [ps,h]
theorem qM {r:List Tv}(h:ii t=false):ps (t :: r) 0=0:=by simp [ps,h]
theorem xp {r:List Tv}(h:ii t=false):ps (t :: r) (j+1)=ps r j+1:=by simp [ps,h]
theorem KH {r:List Tv}(h:ii t=true):qp (t :: r) j=qp r j:=by cases j <;> simp [qp,h]
theorem Eh {r:List Tv}(h:ii t=false):qp (t :: r) 0=bA r:=by simp [qp,h]
theorem KG {r:List Tv}(h:ii t=false):qp (t :: r) (j+1)=qp r j:=by simp [qp,h]
theorem rG {r:List Tv}(h:ii t=false):aF (t :: r)=t :: aF r:=by simp [aF,h]
theorem rH {r:List Tv}(h:ii t=true):aF (t :: r)=aF r:=by simp [aF,h]
theorem io:∀r,aF (kZ r)=aF r
 |[]=>rfl
 |t :: r=>by
  cases h:ii t with
  |true=>rw [rH h,kZ,IO h];exact io r
  |false=>rw [kZ,Eq (by simp [h])]
theorem pc:∀r,bA (kZ r)=[]
 |[]=>rfl
 |t :: r=>by
  cases h:ii t with
  |true=>rw [kZ,IO h];exact pc r
  |false=>rw [kZ,Eq (by simp [h]),bA,Eq (by simp [h])]
theorem sw:∀r j,qp (kZ r) j=qp r j
 |[],_=>rfl
 |t :: r,j=>by
  cases h:ii t with
  |true=>rw [kZ,IO h,sw r j,KH h]
  |false=>rw [kZ,Eq (by simp [h])]
theorem xr:∀r j,ps r j=(bA r).length+ps (kZ r) j
 |[],_=>rfl
 |t :: r,j=>by
  cases h:ii t with
  |true=>rw [kZ,IO h,bA,IO h,xq h,xr r j];simp;omega
  |false=>rw [kZ,Eq (by simp [h]),bA,Eq (by simp [h])];simp
theorem zw:∀r,(kZ r).length<=r.length
 |[]=>gt _
 |t :: r=>by
  cases h:ii t with
  |true=>rw [kZ,IO h];have:=zw r;simp;omega
  |false=>rw [kZ,Eq (by simp [h])];exact gt _
theorem Aj:∀r,bA r++kZ r=r
 |[]=>rfl
 |t :: r=>by
  cases h:ii t with
  |true=>rw [kZ,IO h,bA,IO h,Rh,Aj r]
  |false=>rw [kZ,Eq (by simp [h]),bA,Eq (by simp [h])];rfl
theorem uG:∀(l:List Tv) (j:Nat),l[ps l j]?=(aF l)[j]?
 |[],j=>by simp [ps,aF]
 |t :: r,j=>by
  cases h:ii t with
  |true=>rw [rH h,xq h,RZ];exact uG r j
  |false=>
   rw [rG h];cases j with
   |zero=>rw [qM h];rfl
   |succ j=>rw [xp h,RZ,RZ];exact uG r j
theorem fB:∀(l:List Tv) (j:Nat),ps l j<=l.length
 |[],j=>by simp [ps]
 |t :: r,j=>by
  cases h:ii t with
  |true=>rw [xq h];have:=fB r j;simp;omega
  |false=>
   cases j with
   |zero=>rw [qM h];simp
   |succ j=>rw [xp h];have:=fB r j;simp;omega
theorem yS {l:List Tv}:ps l j<l.length↔j<(aF l).length:=by
 have h:=uG l j;constructor
 ·grind
 ·grind
theorem na:∀(l:List Tv),ps l 0=(bA l).length
 |[]=>rfl
 |t :: r=>by
  cases h:ii t with
  |true=>rw [xq h,bA,IO h,na r];simp
  |false=>rw [qM h,bA,Eq (by simp [h])];rfl
theorem sa:∀(l:List Tv) (j:Nat),j<(aF l).length->ps l (j+1)=ps l j+1+(qp l j).length/\qp l j=bA (l.drop (ps l j+1))
 |[],j,h=>by simp [aF] at h
 |t :: r,j,hj=>by
  cases h:ii t with
  |true=>
   rw [rH h] at hj;have:=sa r j hj;rw [xq h,xq h,KH h,St];exact ⟨by omega,this.2⟩
  |false=>
   rw [rG h] at hj;cases j with
   |zero=>rw [xp h,qM h,Eh h,na];exact ⟨by omega,rfl⟩
   |succ j=>
    have:=sa r j (by simpa using hj);rw [xp h,xp h,KG h,St];exact ⟨by omega,this.2⟩
theorem zy:∀(r:List Tv) (k:Nat),(∀c,(bA r)[k]?=some c->r[k]?=some c/\ii c=true)/\(k=(bA r).length->∀c,r[k]?=some c->ii c=false)
 |[],k=>by simp [bA]
 |t :: r,k=>by
  cases h:ii t with
  |true=>
   rw [bA,IO h];cases k with
   |zero=>exact ⟨fun c e=>by simp at e;subst e;exact ⟨rfl,h⟩,fun e=>by simp at e⟩
   |succ k=>
    obtain ⟨a,b⟩:=zy r k;exact ⟨fun c e=>by simpa using a c (by simpa using e),fun e c e2=>b (by simpa using e) c (by simpa using e2)⟩
  |false=>
   rw [bA,Eq (by simp [h])];exact ⟨fun c e=>by simp at e,fun e c e2=>by simp at e;subst e;simp at e2;subst e2;exact h⟩
theorem iV {K:List It}{n:Int}(hn:n≠0):beg K n=K/\gh n=n/\bK n=[]:=by
 have hb:(n == 0)=false:=by simpa using hn
 simp [beg,gh,bK,hb]
theorem lT {n:Int}(hn:n≠0):∀(r:List Tv) (E:List Ev) (code:Int) (k:Nat),gA (.live K n) r E code k->∃E' k',E=(bA r).map jY++E'/\k=(bA r).length+k'/\gA (.live K n) (kZ r) E' code k'
 |[],E,code,k,h=>⟨E,k,rfl,by simp [bA],h⟩
 |t :: r,E,code,k,h=>by
  cases hc:ii t with
  |false=>rw [bA,Eq (by simp [hc]),kZ,Eq (by simp [hc])];exact ⟨E,k,rfl,by simp,h⟩
  |true=>
   rw [bA,IO hc,kZ,IO hc];obtain ⟨b1,b2,b3⟩:=iV (K:=K) hn
   rcases h.inv with ⟨ev,st',hp,hcd,rfl,rfl⟩|⟨ev,st',E2,k2,hp,hR2,rfl,rfl⟩
   ·cases hp with
    |note hh=>exact absurd rfl hcd
    |no hh _ _=>unfold ii at hc;rw [hc] at hh;cases hh
    |deep hh _ _ _=>unfold ii at hc;rw [hc] at hh;cases hh
    |yes hh _ _ _=>exact absurd rfl hcd
   ·cases hp with
    |yes hh _ _ _=>unfold ii at hc;rw [hc] at hh;cases hh
    |note hh=>
     rw [b1,b2] at hR2;obtain ⟨E',k',e1,e2,e3⟩:=lT hn r E2 code k2 hR2;refine ⟨E',k',?_,?_,e3⟩
     ·rw [b3,e1];rfl
     ·simp;omega
theorem gO {n:Int}(hg:fX (.live K n)) (hb:GR K):n≠0:=by
 have h1:=hg.1.lv
 have h2:1<=(bJ K).length:=by
  rcases hb with rfl|⟨X,rfl⟩
  ·decide
  ·rw [bM];simp [bJ]
 omega
theorem Gu (N:Nat->List Ev):∀(m:Nat) (r T:List Tv) (K:List It) (n:Int) (p:List (Int × Nat)) (s:Nat) (v E:List Ev) (code:Int) (k:Nat) (dz:D),r.length<=m->rA N T K p s v->nw K=true->GR K->fX (.live K n)->bA r=[]->(∀j,N (T.length+j)=(qp r j).map jY)->gA (.live K n) r E code k->Rb (T++aF r) bY (ei 1 (tf N)) dz ->
  (code=0->dz.e=0/\dz.i=(T++aF r).length/\∃E0,E=E0++[⟨3,1,aB⟩]/\dz.v=v++E0)/\(code≠0->(dz.e=code\/(code=120/\dz.e=0/\dz.i<(T++aF r).length))/\T.length<=dz.i/\k=ps r (dz.i-T.length)):=by
 intro m
 induction m with
 |zero=>
  intro r T K n p s v E code k dz hm hD hw hb2 hg hl hN hA hb;obtain rfl:r=[]:=QZ (by omega);obtain ⟨hc,rfl⟩:=hA.end;have hb':Rb T bY (ei 1 (tf N)) dz:=by simpa [aF] using hb
  obtain ⟨a,b,c⟩:=lx hD hb2 hb';cases hc with
  |all hh=>exact ⟨fun _=>⟨(b hh).1,by simp [aF,a],[],rfl,by rw [(b hh).2];simp⟩,fun h=>absurd rfl h⟩
  | «open» hh=>exact ⟨(fun h=>by cases h),fun _=>⟨.inl (c hh),by omega,rfl⟩⟩
 |succ m ih=>
  intro r T K n p s v E code k dz hm hD hw hb2 hg hl hN hA hb;cases r with
  |nil=>
   obtain ⟨hc,rfl⟩:=hA.end;have hb':Rb T bY (ei 1 (tf N)) dz:=by simpa [aF] using hb
   obtain ⟨a,b,c⟩:=lx hD hb2 hb';cases hc with
   |all hh=>exact ⟨fun _=>⟨(b hh).1,by simp [aF,a],[],rfl,by rw [(b hh).2];simp⟩,fun h=>absurd rfl h⟩
   | «open» hh=>exact ⟨(fun h=>by cases h),fun _=>⟨.inl (c hh),by omega,rfl⟩⟩
  |cons t r1=>
   have hc:ii t=false:=by
    cases h:ii t with
    |false=>rfl
    |true=>rw [bA,IO h] at hl;cases hl
   rw [rG hc] at hb ⊢;have hn:=gO hg hb2;obtain ⟨b1,b2,b3⟩:=iV (K:=K) hn;have p0:ps (t :: r1) 0=0:=qM hc;obtain ⟨g1,g2,g3,g4,g5,gbot,gbn,gbe⟩:=cG hg
   rcases hA.inv with ⟨ev,st',hp,hcd,rfl,rfl⟩|⟨ev,st',E2,k2,hp,hR2,rfl,rfl⟩
   ·refine ⟨fun h=>absurd h hcd,fun _=>?_⟩;cases hp with
    |note hh=>exact absurd rfl hcd
    |yes hh _ _ _=>exact absurd rfl hcd
    |no hh hR hk=>
     rw [b1] at hR;obtain ⟨e1,e2⟩:=L5 hD hw hR hb;refine ⟨?_,by omega,by rw [e1,TS,p0]⟩
     rcases e2 with e2|e2
     ·exact .inl e2
     ·exact .inr ⟨rfl,e2,by rw [e1];simp⟩
    |deep hh hR hk hm2=>
     rename_i L m2 E1 k1 _
     obtain ⟨c1,c2,c3,o,c4,c5,c6,c7⟩:=eu hR rfl g1 g2 g3;rw [b1] at hR;obtain ⟨o2,e0,h5⟩:=(oF hR).2 _ _ _ rfl;have hR':=h5 [];obtain ⟨d1,d2,d3,d4⟩:=vU hD hw hR';have hlen:(nj o2 (p,s)).1.length=(bJ L).length:=by have:=Q0 List.length d2;simpa using this
     obtain ⟨e1,e2⟩:=d4 (by omega) _ _ hb;exact ⟨.inl e1,by omega,by rw [e2,TS,p0]⟩
   ·have hgs:=(dF hg hp).1;cases hp with
    |note hh=>unfold ii at hc;rw [hc] at hh;cases hh
    |yes hh hR hk hm2=>
     rename_i L m2 E1 k1
     obtain ⟨c1,c2,c3,o,c4,c5,c6,c7⟩:=eu hR rfl g1 g2 g3;rw [b1] at hR;obtain ⟨o2,e0,h5⟩:=(oF hR).2 _ _ _ rfl;rw [b3,Rr] at e0;subst e0;have hR':=h5 [];obtain ⟨d1,d2,d3,d4⟩:=vU hD hw hR';have hlen:(nj E1 (p,s)).1.length=(bJ L).length:=by have:=Q0 List.length d2;simpa using this
     have hD2:=d3 (by omega);have hb3:=rT hR rfl hb2;have hn2:=gO hgs hb3;obtain ⟨E3,k3,e1,e2,hA3⟩:=lT hn2 r1 E2 code k2 hR2
     have hN0:N T.length=(bA r1).map jY:=by
      have:=hN 0;rw [Eh hc] at this;exact this
     have hN2:∀j,N ((T++[t]).length+j)=(qp (kZ r1) j).map jY:=fun j=>by
      have:=hN (j+1);rw [KG hc] at this;rw [sw,Or,ST,Sh,Nat.add_comm 1 j];exact this
     have hb4:Rb ((T++[t])++aF (kZ r1)) bY (ei 1 (tf N)) dz:=by rw [io,QM];exact hb
     have hlb:=zw r1;obtain ⟨f1,f2⟩:=ih (kZ r1) (T++[t]) L m2 _ _ _ E3 code k3 dz (by simp at hm;omega) hD2 d1 hb3 hgs (pc r1) hN2 hA3 hb4;rw [io,QM] at f1 f2;refine ⟨fun h=>?_,fun h=>?_⟩
     ·obtain ⟨a1,a2,E0,a3,a4⟩:=f1 h;refine ⟨a1,a2,E1++⟨2,0,t⟩ :: (N T.length++E0),?_,?_⟩
      ·rw [e1,a3,hN0];simp
      ·rw [a4];simp
     ·obtain ⟨a1,a2,a3⟩:=f2 h;rw [Or,ST] at a2 a3;refine ⟨a1,by omega,?_⟩;obtain ⟨q,hq⟩:∃q,dz.i-T.length=q+1:=⟨dz.i-(T.length+1),by omega⟩;have hq2:dz.i-(T.length+1)=q:=by omega
      rw [hq,xp hc];rw [xr r1 q,e2,a3,hq2]
theorem lU {l:List Tv}(h:gA (.live [] 0) l E code k) (hl:l≠[]):∃E',gA (.live (bY++[.lv 1]) 1) l E' code k/\(code=0->E=⟨1,1,aB⟩ :: E'):=by
 cases l with
 |nil=>exact absurd rfl hl
 |cons t r=>
  rcases h.inv with ⟨ev,st',hp,hcd,rfl,rfl⟩|⟨ev,st',E2,k2,hp,hR2,rfl,rfl⟩
  ·cases hp with
   |note hh=>exact absurd rfl hcd
   |yes hh _ _ _=>exact absurd rfl hcd
   |no hh hR hk=>exact ⟨[],.err (.no hh ((oF hR).1 rfl _) hk) hcd,fun e=>absurd e hcd⟩
   |deep hh hR hk hm=>
    obtain ⟨o,_,h5⟩:=(oF hR).2 _ _ _ rfl;exact ⟨[],.err (.deep hh (h5 _) hk hm) hcd,fun e=>absurd e hcd⟩
  ·cases hp with
   |note hh=>exact ⟨[⟨4,0,t⟩]++E2,.on (.note (K:=bY++[.lv 1]) (n:=1) hh) hR2,fun _=>rfl⟩
   |yes hh hR hk hm=>
    obtain ⟨o,e6,h5⟩:=(oF hR).2 _ _ _ rfl;refine ⟨(o++[⟨2,0,t⟩])++E2,.on (.yes (K:=bY++[.lv 1]) (n:=1) hh (h5 []) hk hm) hR2,fun _=>?_⟩;rw [e6];rfl
theorem po:fX (.live (bY++[.lv 1]) 1):=(dF fj (jG.note (t:=⟨7,⟨#[]⟩,0,0,0,0⟩) rfl)).1
theorem Kk {l:List Tv}(h:gA (.live [] 0) l E code k) {dz:D}(hb:Rb (aF l) bY (ei 1 (tf (fun j=>(qp l j).map jY))) dz) :
  (code=0->dz.e=0/\dz.i=(aF l).length/\∃E0,dz.v=⟨1,1,aB⟩ :: E0/\E=⟨1,1,aB⟩ :: ((bA l).map jY++(E0++[⟨3,1,aB⟩])))/\(code≠0->(dz.e=code\/(code=120/\dz.e=0/\dz.i<(aF l).length))/\k=ps l dz.i):=by
 by_cases hl:l=[]
 ·subst hl;obtain ⟨hc,rfl⟩:=h.end;obtain ⟨a,b,c⟩:=lx (rj _) iU hb;cases hc with
  |all hh=>simp at hh
  | «open» hh=>exact ⟨(fun h=>by cases h),fun _=>⟨.inl (c (by decide)),rfl⟩⟩
 ·obtain ⟨E1,h1,h2⟩:=lU h hl;obtain ⟨E2,k2,e1,e2,h3⟩:=lT (by decide) l E1 code k h1;have hb':Rb ([]++aF (kZ l)) bY (ei 1 (tf (fun j=>(qp l j).map jY))) dz:=by rw [io];exact hb
  obtain ⟨f1,f2⟩:=Gu _ (kZ l).length (kZ l) [] _ 1 _ _ _ E2 code k2 dz (gt _) (rj _) IQ iU po (pc l) (fun j=>by rw [sw,List.length_nil,QU]) h3 hb';rw [io,Rr] at f1 f2;refine ⟨fun hz=>?_,fun hz=>?_⟩
  ·obtain ⟨a1,a2,E0,a3,a4⟩:=f1 hz;exact ⟨a1,a2,E0,a4,by rw [h2 hz,e1,a3]⟩
  ·obtain ⟨a1,a2,a3⟩:=f2 hz;refine ⟨a1,?_⟩;rw [e2,xr l,a3];rfl
theorem fm {v:World}(h:Below b w v):∀m,Below b w (v.drewN m)
 |0=>h
 |m+1=>(fm h m).drew
theorem Dh {ops:Array Oper}{o:Oper}{a:Act}{K:Act->World->Prop}{Q:Exit->Act->World->Prop}{E:Prop}(hgd:o.guard=none) (s x:Operand)
  (ho:o.op=.call { callee:=.builtin .append,args:=#[s,x],argTypes:=#[90,90] }) (v:Value) (l:List Ev) (d:Ev) (hs:a.eval s=v) (hr:Re W v l)
  (g c:Nat) (hx:a.eval x=.slice (some ⟨g,0,none⟩) 1 c) (hg:W.heap[g]?=some (.cells #[.int .u8 d.k,.int .u8 d.n,.int .u8 d.d.k,.string d.d.t,.int .i64 d.d.a,.int .i64 d.d.l,.int .i64 d.d.c,.int .i64 d.d.f] 94 (0,0))) (hl:l.length<=1000000000)
  (h:∀q cap w',Re w' (.slice (some ⟨q,0,none⟩) (l.length+1) cap) (l++[d])->W.grownBy w' v.ownBlock->(v.ownBlock=some q\/q=W.heap.size)->K (a.put o.dst (.slice (some ⟨q,0,none⟩) (l.length+1) cap)) w') :
  if Region.wanted o (yielded ops a.tmps)=true then Oper.wp Tryz.prog o a W K Q else E:=by
 obtain ⟨i0,hi,hz0,hz1,hz2⟩:=Sa Tryz.info94;refine TI W hgd s x 90 ho 0 94 i0 _ 8 64 UU hi hz0 hz1 hz2 rfl (by decide) v _ _ hs hr ⟨g,0,none⟩ 1 c (wM [d]) hx (by rw [s9];rfl) ?_ (sZ [d]) (by omega) (by unfold maxLen;omega) (by omega) (QK _) _ rfl ?_
 ·intro j u hu;refine RW hg j u ?_;have e:wM [d]=[.int .u8 d.k,.int .u8 d.n,.int .u8 d.d.k,.string d.d.t,.int .i64 d.d.a,.int .i64 d.d.l,.int .i64 d.d.c,.int .i64 d.d.f]:=by simp [wM,bz,Ev.cs]
  rw [e] at hu
  simpa using hu
 ·intro q cap w' a1 a2 a3 _;refine h q cap w' ?_ a2 a3;unfold Re;rw [Or,tc];exact a1
abbrev pg (g:Nat):Value:=.pointer (some ⟨g,0,none⟩)
def yh (W:World) (g:Nat) (vl:Value) (i n:Nat) (ve:Value):Prop:=W.heap[g]?=some (.cells #[vl,.int .i64 (i:Int),.int .i64 (n:Int),ve] 184 (0,0))
theorem yh.cells {W:World}{g i n:Nat}{vl ve:Value}(h:yh W g vl i n ve) :
  W.cell? ⟨g,0,none⟩=some vl/\W.cell? ⟨g,1,none⟩=some (.int .i64 (i:Int))/\W.cell? ⟨g,2,none⟩=some (.int .i64 (n:Int))/\W.cell? ⟨g,3,none⟩=some ve:=
 ⟨af h rfl,af h rfl,af h rfl,af h rfl⟩
theorem yh.frozen {g:Nat}(h:yh W g vl i n ve) (j:Nat):W.frozen? ⟨g,j,none⟩=false:=am h
theorem yh.kp {S:Nat->Prop}{W W':World}{g i n:Nat}{vl ve:Value}(h:yh W g vl i n ve) (hk:Kp S W W') (hS:¬S g):yh W' g vl i n ve:=hk.blk h hS
theorem yh.below {g:Nat}(h:yh W g vl i n ve) (hb:Below W.heap.size W W'):yh W' g vl i n ve:=ag h hb
theorem yh.lt {g:Nat}(h:yh W g vl i n ve):g<W.heap.size:=aq h
structure Sx where
 w0:World
 g:Nat
 ao:Option Addr
 cap:Nat
 l:List Tv
structure dM (X:Sx) (i n:Nat) (E:List Ev) (W:World):Prop where
 bel:Below X.w0.heap.size X.w0 W
 lt:Lt X.w0 X.ao X.l
 g0:X.w0.heap.size<=X.g
 hl:X.l.length<=4194304
 ex:∃ve,yh W X.g (.slice X.ao X.l.length X.cap) i n ve/\Re W ve E/\(∀k,ve.ownBlock=some k->X.w0.heap.size<=k)
theorem dM.below {X:Sx}(h:dM X i n E W) (hb:Below W.heap.size W W'):dM X i n E W':=by
 obtain ⟨ve,a,b,c⟩:=h.ex;exact ⟨h.bel.trans (hb.mono h.bel.size),h.lt,h.g0,h.hl,ve,a.below hb,b.below hb,c⟩
theorem lH {S:Nat->Prop}(h:Below B w W) (hk:Kp S W W') (hS:∀k,S k->B<=k) (hB:B<=W.heap.size):Below B w W':=
 ⟨hk.os.trans h.os,hk.tape.trans h.tape,hk.output.trans h.output,QQ h.size hk.size,fun k hlt=>(hk.block k (by omega) (fun hs=>by have:=hS k hs;omega)).trans (h.block k hlt)⟩
theorem dM.tok {X:Sx}(h:dM X i n E W) {j:Nat}{t:Tv}(ht:X.l[j]?=some t):∃b off,X.ao=some ⟨b,off,none⟩/\W.cell? ⟨b,off+j*6,none⟩=some (.int .u8 t.k)/\W.cell? ⟨b,off+j*6+1,none⟩=some (.string t.t)/\W.cell? ⟨b,off+j*6+2,none⟩=some (.int .i64 t.a)/\W.cell? ⟨b,off+j*6+3,none⟩=some (.int .i64 t.l)/\W.cell? ⟨b,off+j*6+4,none⟩=some (.int .i64 t.c)/\W.cell? ⟨b,off+j*6+5,none⟩=some (.int .i64 t.f)/\b<W.heap.size:=by
 obtain ⟨b,off,e,c⟩:=(h.lt.below h.bel) j t ht;exact ⟨b,off,e,c.1,c.2.1,c.2.2.1,c.2.2.2.1,c.2.2.2.2.1,c.2.2.2.2.2,QP _ _ c.1⟩
def Lh (X:Sx) (W W':World):Prop:=∀b cs T f,W.heap[b]?=some (.cells cs T f)->T≠94->b≠X.g->W'.heap[b]?=some (.cells cs T f)
theorem C9 {X:Sx}{E':List Ev}{W1 w3:World}(h:dM X i n E W) {ve:Value}(hs:yh W X.g (.slice X.ao X.l.length X.cap) i n ve) (hE:Re W ve E) (hv:∀k,ve.ownBlock=some k->X.w0.heap.size<=k) (hb:Below W.heap.size W W1) {q cap n':Nat}(hr:Re w3 (.slice (some ⟨q,0,none⟩) n' cap) E') (hg:W1.grownBy w3 ve.ownBlock) (hq:ve.ownBlock=some q\/q=W1.heap.size) :
  (w3.cell? ⟨X.g,3,none⟩=some ve/\w3.frozen? ⟨X.g,3,none⟩=false)/\dM X i n E' (w3.setCell ⟨X.g,3,none⟩ (.slice (some ⟨q,0,none⟩) n' cap))/\Lh X W (w3.setCell ⟨X.g,3,none⟩ (.slice (some ⟨q,0,none⟩) n' cap)):=by
 have h1:=hs.below hb;have hne:¬some X.g=ve.ownBlock:=fun e=>(hE.below hb).ne h1 (by decide) X.g e.symm rfl
 have h3:yh w3 X.g (.slice X.ao X.l.length X.cap) i n ve:=h1.kp (Kp.of_grown hg) hne;have hbl:=h.bel.trans (hb.mono h.bel.size);refine ⟨⟨af h3 rfl,h3.frozen 3⟩,⟨?_,h.lt,h.g0,h.hl,.slice (some ⟨q,0,none⟩) n' cap,aj h3 3 _,hr.kp (Kp.set _ _ _ _) (hr.ne h3 (by decide)),?_⟩,fun b cs T f hbk hT hbg=>?_⟩
 ·have k2:=(Kp.of_grown hg).sub (S:=fun k=>X.w0.heap.size<=k) (fun k e=>hv k e.symm);have b2:=lH hbl k2 (fun k e=>e) hbl.size;exact lH b2 (Kp.set _ _ _ _) (fun k e=>by rw [e];exact h.g0) b2.size
 ·intro k e;simp only [Value.ownBlock,Rp] at e;subst e
  rcases hq with hq|hq
  ·exact hv _ hq
  ·rw [hq];exact hbl.size
 ·have k1:=ag hbk hb;have k2:=(Kp.of_grown hg).blk k1 (fun e=>(hE.below hb).ne k1 hT b e.symm rfl);exact (Kp.set w3 X.g 3 _).blk k2 hbg
theorem iZ {X:Sx}(h:dM X i n E W) (d:Ev) (hl:E.length<=1000000000) :
  Ra 149 #[pg X.g,d.v] W fun r w'=>r=.returned (.tuple #[])/\dM X i n (E++[d]) w'/\Lh X W w':=by
 obtain ⟨ve,hs,hE,hv⟩:=h.ex;obtain ⟨p,cap,rfl,_⟩:=hE.shape;have HW:Hid (∀V,Below W.heap.size W V->Re V (.slice p E.length cap) E):=fun V hb=>hE.below hb
 have HT:Hid (∀W1 w3 q cp,Below W.heap.size W W1->Re w3 (.slice (some ⟨q,0,none⟩) (E.length+1) cp) (E++[d])->W1.grownBy w3 (Value.slice p E.length cap).ownBlock->((Value.slice p E.length cap).ownBlock=some q\/q=W1.heap.size)->(w3.cell? ⟨X.g,3,none⟩=some (.slice p E.length cap)/\w3.frozen? ⟨X.g,3,none⟩=false)/\dM X i n (E++[d]) (w3.setCell ⟨X.g,3,none⟩ (.slice (some ⟨q,0,none⟩) (E.length+1) cp))/\Lh X W (w3.setCell ⟨X.g,3,none⟩ (.slice (some ⟨q,0,none⟩) (E.length+1) cp))):=
  fun W1 w3 q cp hb h1 h2 h3=>C9 h hs hE hv hb h1 h2 h3
 obtain ⟨c0,c1,c2,c3⟩:=hs.cells;have hf:=hs.frozen 3;have hg:=hs.lt;clear h hE hs hv
 dsimp only [Ev.v]
 obtain ⟨⟨k0,n0,⟨k1,t,a,l,cc,f⟩⟩,hd⟩:∃x,d=x:=⟨_,rfl⟩;subst hd
 go_enter Tryz.func149,Tryz.ntmps149
 go_wp2_with fail
 obtain ⟨W1,e1⟩:∃W1,W.alloc (.cells #[.int .u8 k0,.int .u8 n0,.int .u8 k1,.string t,.int .i64 a,.int .i64 l,.int .i64 cc,.int .i64 f] 94)=W1:=⟨_,rfl⟩;have hb:Below W.heap.size W W1:=by rw [<-e1];exact (hH _ _).alloc (gt _) _
 have hn:W1.heap[W.heap.size]?=some (.cells #[.int .u8 k0,.int .u8 n0,.int .u8 k1,.string t,.int .i64 a,.int .i64 l,.int .i64 cc,.int .i64 f] 94):=by rw [<-e1];exact au _ _
 rw [e1];clear e1;have m0:W1.cell? ⟨W.heap.size,0,none⟩=_:=af hn rfl;have m1:W1.cell? ⟨W.heap.size,1,none⟩=_:=af hn rfl;have m2:W1.cell? ⟨W.heap.size,2,none⟩=_:=af hn rfl;have m3:W1.cell? ⟨W.heap.size,3,none⟩=_:=af hn rfl;have m4:W1.cell? ⟨W.heap.size,4,none⟩=_:=af hn rfl;have m5:W1.cell? ⟨W.heap.size,5,none⟩=_:=af hn rfl;have m6:W1.cell? ⟨W.heap.size,6,none⟩=_:=af hn rfl;have m7:W1.cell? ⟨W.heap.size,7,none⟩=_:=af hn rfl;have d4:W1.cell? ⟨X.g,3,none⟩=some (.slice p E.length cap):=(hb.cell hg).trans c3;have HB:Hid (∀o,Below W.heap.size W (W1.drew.alloc o)):=fun o=>(hb.drew).alloc hb.size _
 have hg1:X.g<W1.heap.size:=Q1 hg hb.size;clear hb hn c0 c1 c2 c3 hf hg
 go_region_law (refine Dh (by rfl) _ _ (by rfl) (.slice p E.length cap) E ⟨k0,n0,⟨k1,t,a,l,cc,f⟩⟩ (by rfl) (HW.out _ (HB.out _)) W1.heap.size 1 (by rfl) (au W1.drew _) hl ?_;intro q cp w3 hr3 hg3 hq3;obtain ⟨⟨x1,x2⟩,x3⟩:=HT.out _ w3 q cp (HB.out _) hr3 hg3 hq3;have HX:=ai x3;clear x3 hr3 hg3 hq3)
 all_goals (
  go_wp2_with fail
  go_end0
  exact ⟨rfl,HX.out⟩)
def jK (w:World) (b:Nat) (t:Tv):World:=((((((w.setCell ⟨b,0,none⟩ (.int .u8 t.k)).setCell ⟨b,1,none⟩ (.string t.t)).setCell ⟨b,2,none⟩ (.int .i64 t.a)).setCell ⟨b,3,none⟩ (.int .i64 t.l)).setCell ⟨b,4,none⟩ (.int .i64 t.c)).setCell ⟨b,5,none⟩ (.int .i64 t.f))
abbrev jE (t:Tv):Obj:=.cells #[.int .u8 t.k,.string t.t,.int .i64 t.a,.int .i64 t.l,.int .i64 t.c,.int .i64 t.f] 51
theorem Dr {t0:Tv}(t:Tv) (h:w.heap[b]?=some (jE t0)):(jK w b t).heap[b]?=some (jE t):=aj (aj (aj (aj (aj (aj h 0 _) 1 _) 2 _) 3 _) 4 _) 5 _
theorem iu {w0:World}(t:Tv) (h:Below B w0 w) (hb:B<=b):Below B w0 (jK w b t):=(((((h.setCell hb _).setCell hb _).setCell hb _).setCell hb _).setCell hb _).setCell hb _
theorem oq (h:W.heap[b]?=some (jE t)):W.cell? ⟨b,0,none⟩=some (.int .u8 t.k)/\W.cell? ⟨b,1,none⟩=some (.string t.t)/\W.cell? ⟨b,2,none⟩=some (.int .i64 t.a)/\W.cell? ⟨b,3,none⟩=some (.int .i64 t.l)/\W.cell? ⟨b,4,none⟩=some (.int .i64 t.c)/\W.cell? ⟨b,5,none⟩=some (.int .i64 t.f):=
 ⟨af h rfl,af h rfl,af h rfl,af h rfl,af h rfl,af h rfl⟩
def nx (X:Sx) (i:Nat):Tv:=X.l[i]?.getD aB
theorem eG {X:Sx}(h:dM X i n E W) (hi:i<=X.l.length) :
  Ra 186 #[pg X.g] W fun e w'=>e=.returned (nx X i).v/\Below W.heap.size W w':=by
 obtain ⟨ve,hs,hE,hv⟩:=h.ex;obtain ⟨c0,c1,c2,c3⟩:=hs.cells;have hgl:=hs.lt;have hl:=h.hl
 by_cases hlt:i<X.l.length
 ·obtain ⟨t,ht⟩:∃t,X.l[i]?=some t:=⟨_,Pi hlt⟩;obtain ⟨b,off,e0,x0,x1,x2,x3,x4,x5,xl⟩:=h.tok ht;have hn:nx X i=t:=by simp [nx,ht]
  rw [hn];rw [e0] at c0;have q1:((i:Int) == (X.l.length:Int))=false:=by simp;omega
  have q2:(0:Int)<=i:=by omega
  have q3:(i:Int)<X.l.length:=by omega
  have HX:Hid (∀m,Rc W (jK ((W.alloc (jE aB)).drewN m) W.heap.size t)):=fun m=>iu t (fm ((hH _ _).alloc (gt _) _) m) (gt _)
  clear h hs hE hn ht e0
  dsimp only [Tv.v]
  go_enter Tryz.func186,Tryz.ntmps186
  go_wp2_with fail
  go_quiet (fail)
  go_wp2_with fail
  go_region
  all_goals (
   go_wp2_with fail
   refine QV (v:=.agg #[.int .u8 t.k,.string t.t,.int .i64 t.a,.int .i64 t.l,.int .i64 t.c,.int .i64 t.f]) (by simp [results,Tryz.f186,go_sem]) rfl ?_;exact ⟨rfl,HX.out _⟩)
 ·obtain rfl:i=X.l.length:=by omega
  have hn:nx X X.l.length=aB:=by simp [nx]
  rw [hn];have q1:((X.l.length:Int) == (X.l.length:Int))=true:=by simp
  have HX:Hid (∀m,Rc W (jK ((W.alloc (jE aB)).drewN m) W.heap.size aB)):=fun m=>iu aB (fm ((hH _ _).alloc (gt _) _) m) (gt _)
  clear h hs hE hn
  dsimp only [Tv.v,aB] at HX ⊢
  go_enter Tryz.func186,Tryz.ntmps186
  go_wp2_with fail
  go_quiet (fail)
  go_wp2_with fail
  refine QV (v:=.agg #[.int .u8 0,.string ⟨#[]⟩,.int .i64 0,.int .i64 0,.int .i64 0,.int .i64 0]) (by simp [results,Tryz.f186,go_sem]) rfl ?_;exact ⟨rfl,HX.out _⟩
def kt (k:Int) (t:Tv):ByteArray:=if t.k == k then t.t else ⟨#[]⟩
theorem oy {X:Sx}(h:dM X i n E W) (hi:i<=X.l.length) (k:Int) :
  Ra 230 #[pg X.g,.int .u8 k] W fun e w'=>e=.returned (.string (kt k (nx X i)))/\Below W.heap.size W w':=by
 have H:Hid (∀V,Rc W V->Ra 186 #[pg X.g] V fun e w'=>e=.returned (nx X i).v/\Rc V w'):=fun V hb=>eG (h.below hb) hi
 clear h
 generalize nx X i=t at *
 have HB:Hid (∀w1,Rc W w1->Rc W (w1.alloc (jE t))):=fun w1 hb=>hb.alloc hb.size _
 by_cases hk:(t.k == k)=true
 ·have hk2:kt k t=t.t:=by simp [kt,hk]
  rw [hk2]
  dsimp only [Tv.v] at H
  go_enter Tryz.func230,Tryz.ntmps230
  go_wp2_with (go_at_call 186;refine (H.out _ (hH _ _)).mono ?_;rintro e w1 ⟨rfl,hb1⟩)
  go_ret
  exact ⟨rfl,HB.out _ hb1⟩
 ·have hk':(t.k == k)=false:=by simpa using hk
  have hk2:kt k t=⟨#[]⟩:=by simp [kt,hk']
  rw [hk2];clear hk
  dsimp only [Tv.v] at H
  go_enter Tryz.func230,Tryz.ntmps230
  go_wp2_with (go_at_call 186;refine (H.out _ (hH _ _)).mono ?_;rintro e w1 ⟨rfl,hb1⟩)
  go_ret
  exact ⟨rfl,HB.out _ hb1⟩
theorem kj {X:Sx}(h:dM X i n E W) (hi:i<=X.l.length) :
  Ra 215 #[pg X.g] W fun e w'=>e=.returned (.string (kt 2 (nx X i)))/\Below W.heap.size W w':=by
 have H:Hid (Ra 230 #[pg X.g,.int .u8 2] W fun e w'=>e=.returned (.string (kt 2 (nx X i)))/\Rc W w'):=oy h hi 2;clear h
 go_enter Tryz.func215,Tryz.ntmps215
 go_wp2_with (go_at_call 230;refine H.out.mono ?_;rintro e w1 ⟨rfl,hb1⟩)
 go_ret
 exact ⟨rfl,hb1⟩
theorem ls {X:Sx}(h:dM X i n E W) (hi:i<=X.l.length) :
  Ra 216 #[pg X.g] W fun e w'=>e=.returned (.string (kt 6 (nx X i)))/\Below W.heap.size W w':=by
 have H:Hid (Ra 230 #[pg X.g,.int .u8 6] W fun e w'=>e=.returned (.string (kt 6 (nx X i)))/\Rc W w'):=oy h hi 6;clear h
 go_enter Tryz.func216,Tryz.ntmps216
 go_wp2_with (go_at_call 230;refine H.out.mono ?_;rintro e w1 ⟨rfl,hb1⟩)
 go_ret
 exact ⟨rfl,hb1⟩
abbrev stop (c:Int) (i:Nat):List PanicEntry:=[{ v:=.iface 180 (.agg #[.int .i64 c,.int .i64 (i:Int)]),recovered:=false }]
theorem oL {X:Sx}(h:dM X i n E W) :
  Ra 155 #[pg X.g] W fun e w'=>e=.panicked (stop (if i=X.l.length then 121 else 120) i)/\Below W.heap.size W w':=by
 obtain ⟨ve,hs,hE,hv⟩:=h.ex;obtain ⟨c0,c1,c2,c3⟩:=hs.cells;have hgl:=hs.lt;have hl:=h.hl;have HB:Hid (∀m,Rc W (W.drewN m)):=fun m=>fm (hH _ _) m
 by_cases hi:i=X.l.length
 ·rw [IO hi];have q1:((i:Int) == (X.l.length:Int))=true:=by simp [hi]
  clear h hs hE hi
  go_enter Tryz.func155,Tryz.ntmps155
  go_wp2_with fail
  go_quiet (fail)
  go_wp2_with fail
  exact ⟨rfl,rfl,HB.out _⟩
 ·rw [Eq hi];have q1:((i:Int) == (X.l.length:Int))=false:=by simp;omega
  clear h hs hE hi
  go_enter Tryz.func155,Tryz.ntmps155
  go_wp2_with fail
  go_quiet (fail)
  go_wp2_with fail
  exact ⟨rfl,rfl,HB.out _⟩
theorem dM.step {X:Sx}{i n:Nat}{E:List Ev}{W:World}(h:dM X i n E W) (j:Nat):W.cell? ⟨X.g,1,none⟩=some (.int .i64 (i:Int))/\W.frozen? ⟨X.g,1,none⟩=false/\X.g<W.heap.size/\dM X j n E (W.setCell ⟨X.g,1,none⟩ (.int .i64 (j:Int))):=by
 obtain ⟨ve,a,b,c⟩:=h.ex;refine ⟨a.cells.2.1,a.frozen 1,a.lt,lH h.bel (Kp.set _ _ _ _) (fun k e=>by rw [e];exact h.g0) h.bel.size,h.lt,h.g0,h.hl,ve,aj a 1 _,b.kp (Kp.set _ _ _ _) (b.ne a (by decide)),c⟩
theorem dM.deep {X:Sx}(h:dM X i n E W) (m:Nat):W.cell? ⟨X.g,2,none⟩=some (.int .i64 (n:Int))/\W.frozen? ⟨X.g,2,none⟩=false/\X.g<W.heap.size/\dM X i m E (W.setCell ⟨X.g,2,none⟩ (.int .i64 (m:Int))):=by
 obtain ⟨ve,a,b,c⟩:=h.ex;refine ⟨a.cells.2.2.1,a.frozen 2,a.lt,lH h.bel (Kp.set _ _ _ _) (fun k e=>by rw [e];exact h.g0) h.bel.size,h.lt,h.g0,h.hl,ve,aj a 2 _,b.kp (Kp.set _ _ _ _) (b.ne a (by decide)),c⟩
structure O8 (X:Sx) (i n:Nat) (E:List Ev) (k b:Nat) (W:World):Prop where
 sv:dM X (i+k) n (E++((bA (X.l.drop i)).take k).map jY) W
 tk:W.heap[b]?=some (jE (nx X (i+k)))
 le:k<=(bA (X.l.drop i)).length
theorem Jh (r:List Tv):(bA r).length<=r.length:=by
 have:=Q0 List.length (Aj r);rw [Or] at this;omega
theorem O8.on {X:Sx}(h:O8 X i n E k b W):(k<(bA (X.l.drop i)).length->∃c,(bA (X.l.drop i))[k]?=some c/\nx X (i+k)=c/\ii c=true)/\(k=(bA (X.l.drop i)).length->ii (nx X (i+k))=false):=by
 obtain ⟨a1,a2⟩:=zy (X.l.drop i) k;constructor
 ·intro hk;obtain ⟨c,hc⟩:∃c,(bA (X.l.drop i))[k]?=some c:=⟨_,Pi hk⟩;obtain ⟨b1,b2⟩:=a1 c hc;rw [RC] at b1;exact ⟨c,hc,by simp [nx,b1],b2⟩
 ·intro hk;unfold nx;cases hc:X.l[i+k]? with
  |none=>rfl
  |some c=>exact a2 hk c (by rw [RC];exact hc)
theorem C3 {l:List Tv}{c:Tv}(h:l[k]?=some c):(l.take (k+1)).map jY=(l.take k).map jY++[jY c]:=by
 rw [S5,h];simp
def Pg (g:Nat) (w:World):Nat:=match w.cell? ⟨g,1,none⟩ with|some (.int _ z)=>z.toNat|_=>0
theorem qa {g:Nat}{z:Int}(h:w.cell? ⟨g,1,none⟩=some (.int .i64 z)):Pg g w=z.toNat:=by unfold Pg;rw [h]
theorem FW (t:Tv):ii t=(t.k == 7 || t.k == 8):=rfl
theorem kP {X:Sx}(h:dM X i n E W) (hi:i<=X.l.length) (hl:E.length+X.l.length<=1000000000) :
  Ra 150 #[pg X.g] W fun e w'=>e=.returned (.tuple #[])/\dM X (i+(bA (X.l.drop i)).length) n (E++(bA (X.l.drop i)).map jY) w':=by
 have hll:i+(bA (X.l.drop i)).length<=X.l.length:=by
  have:=Jh (X.l.drop i);rw [Rf] at this;omega
 have hxl:=h.hl;have H1:Hid (Ra 186 #[pg X.g] W fun e w'=>e=.returned (nx X i).v/\Below W.heap.size W w'):=eG h hi;have H0:Hid (∀w1,Below W.heap.size W w1->O8 X i n E 0 w1.heap.size (w1.alloc (jE (nx X i)))):=fun w1 hb=>⟨by simpa using (h.below hb).below ((hH _ _).alloc (gt _) _),au _ _,QK _⟩
 clear h;obtain ⟨m,hm⟩:∃m,(bA (X.l.drop i)).length=m:=⟨_,rfl⟩;obtain ⟨t0,ht0⟩:∃t,nx X i=t:=⟨_,rfl⟩;rw [ht0] at H1 H0
 dsimp only [Tv.v] at H1
 go_enter Tryz.func150,Tryz.ntmps150
 go_wp2_with (go_at_call 186;refine H1.out.mono ?_;rintro e w1 ⟨rfl,hb1⟩;have HC:=show Hid _ from H0.out _ hb1;clear hb1)
 go_loopw [2] (fun p wr=>∃k b,p=.pointer (some ⟨b,0,none⟩)/\Hid (O8 X i n E k b wr)) (fun p wr=>m+1-(Pg X.g wr-i))
 case atStart=>exact ⟨0,_,rfl,HC.out⟩
 case round=>
  obtain ⟨k,b,rfl,HI⟩:=hrel;obtain ⟨c0,c1,c2,c3,c4,c5⟩:=oq HI.out.tk;have hbl:=aq HI.out.tk;obtain ⟨o1,o2⟩:=HI.out.on;have hle:=HI.out.le;obtain ⟨ve,hsb,_,_⟩:=HI.out.sv.ex;have g1:=hsb.cells.2.1;clear hsb
  by_cases hk:k<(bA (X.l.drop i)).length
  ·obtain ⟨c,e1,e2,e3⟩:=o1 hk;rw [e2] at c0 c1 c2 c3 c4 c5;have HT:Hid (Ra 149 #[pg X.g,(⟨4,0,c⟩:Ev).v] wr fun r w'=>r=.returned (.tuple #[])/\dM X (i+k) n ((E++((bA (X.l.drop i)).take k).map jY)++[⟨4,0,c⟩]) w'/\Lh X wr w'):=iZ HI.out.sv _ (by simp;omega)
   have HN:Hid (∀w2,dM X (i+k) n ((E++((bA (X.l.drop i)).take k).map jY)++[⟨4,0,c⟩]) w2->Lh X wr w2->(w2.cell? ⟨X.g,1,none⟩=some (.int .i64 ((i:Int)+k))/\w2.frozen? ⟨X.g,1,none⟩=false/\X.g<w2.heap.size)/\∃w3,w2.setCell ⟨X.g,1,none⟩ (.int .i64 ((i:Int)+k+1))=w3/\(w3.cell? ⟨b,0,none⟩=some (.int .u8 c.k)/\w3.cell? ⟨b,1,none⟩=some (.string c.t)/\w3.cell? ⟨b,2,none⟩=some (.int .i64 c.a)/\w3.cell? ⟨b,3,none⟩=some (.int .i64 c.l)/\w3.cell? ⟨b,4,none⟩=some (.int .i64 c.c)/\w3.cell? ⟨b,5,none⟩=some (.int .i64 c.f)/\b<w3.heap.size)/\Hid (dM X (i+(k+1)) n (E++((bA (X.l.drop i)).take (k+1)).map jY) w3)):=fun w2 h2 f2=>by
    have hbg:b≠X.g:=fun e=>by
     have h1:=HI.out.tk;obtain ⟨ve,hsb,_,_⟩:=HI.out.sv.ex;rw [e,hsb] at h1;cases h1
    have h3:=f2 b _ _ _ HI.out.tk (by decide) hbg;rw [e2] at h3;have h4:=(Kp.set w2 X.g 1 (.int .i64 ((i:Int)+k+1))).blk h3 hbg;obtain ⟨y0,y1,y2,y3,y4,y5⟩:=oq h4;obtain ⟨z0,z1,z2,z3⟩:=h2.step (i+(k+1));refine ⟨⟨by rw [z0];simp,z1,z2⟩,_,rfl,⟨y0,y1,y2,y3,y4,y5,aq h4⟩,?_⟩;have e5:((i:Int)+k+1)=((i+(k+1):Nat):Int):=by omega
    rw [e5,C3 e1,<-QM];exact z3
   have HF:Hid (∀w3 w5,dM X (i+(k+1)) n (E++((bA (X.l.drop i)).take (k+1)).map jY) w3->Below (w3.alloc (jE c)).heap.size (w3.alloc (jE c)) w5->(w5.cell? ⟨w3.heap.size,0,none⟩=some (.int .u8 c.k)/\w5.cell? ⟨w3.heap.size,1,none⟩=some (.string c.t)/\w5.cell? ⟨w3.heap.size,2,none⟩=some (.int .i64 c.a)/\w5.cell? ⟨w3.heap.size,3,none⟩=some (.int .i64 c.l)/\w5.cell? ⟨w3.heap.size,4,none⟩=some (.int .i64 c.c)/\w5.cell? ⟨w3.heap.size,5,none⟩=some (.int .i64 c.f)/\(∀j,w5.frozen? ⟨w3.heap.size,j,none⟩=false)/\w3.heap.size<w5.heap.size)/\O8 X i n E (k+1) w3.heap.size (jK w5 w3.heap.size (nx X (i+(k+1))))/\(jK w5 w3.heap.size (nx X (i+(k+1)))).cell? ⟨X.g,1,none⟩=some (.int .i64 ((i:Int)+k+1))):=fun w3 w5 s3 hb5=>by
    have h0:=ag (au w3 (jE c)) hb5;obtain ⟨y0,y1,y2,y3,y4,y5⟩:=oq h0;have b0:Below w3.heap.size w3 (w3.alloc (jE c)):=(hH _ _).alloc (gt _) _;have b1:Below w3.heap.size w3 w5:=b0.trans (hb5.mono b0.size);have s5:=s3.below (iu (nx X (i+(k+1))) b1 (gt _));refine ⟨⟨y0,y1,y2,y3,y4,y5,fun j=>am h0,aq h0⟩,⟨s5,Dr _ h0,hk⟩,?_⟩;obtain ⟨ve,hsb,_,_⟩:=s5.ex;rw [hsb.cells.2.1];simp;omega
   have HX:Hid (∀V,dM X (i+(k+1)) n (E++((bA (X.l.drop i)).take (k+1)).map jY) V->Ra 186 #[pg X.g] (V.alloc (jE c)) fun e w'=>e=.returned (nx X (i+(k+1))).v/\Below (V.alloc (jE c)).heap.size (V.alloc (jE c)) w'):=fun V hV=>eG (hV.below ((hH _ _).alloc (gt _) _)) (by omega)
   obtain ⟨t2,ht2⟩:∃t,nx X (i+(k+1))=t:=⟨_,rfl⟩;rw [ht2] at HF HX
   dsimp only [Tv.v] at HX
   clear o1 o2
   dsimp only [Ev.v] at HT
   cases h7:(c.k == 7) with
   |true=>
    go_wp2_with (go_at_call 149;refine HT.out.mono ?_;rintro r w2 ⟨rfl,h2,f2⟩;obtain ⟨⟨z0,z1,z2⟩,w3,e4,⟨y0,y1,y2,y3,y4,y5,yl⟩,s3⟩:=HN.out w2 h2 f2;clear h2 f2)
    refine (HX.out _ s3.out).mono ?_;rintro e w5 ⟨rfl,hb5⟩;obtain ⟨⟨x0,x1,x2,x3,x4,x5,xf,xl⟩,p1,p2⟩:=HF.out w3 w5 s3.out hb5;have HP:=ai p1;have HM:=ai p2;have xf0:=xf 0;have xf1:=xf 1;have xf2:=xf 2;have xf3:=xf 3;have xf4:=xf 4;have xf5:=xf 5;clear p1 p2 xf hb5 z0 z1 z2 y0 y1 y2 y3 y4 y5 yl e4 c0 c1 c2 c3 c4 c5
    generalize w3.heap.size=q at *
    go_wp2_with fail
    obtain ⟨w6,e6⟩:∃w6,jK w5 q t2=w6:=⟨_,rfl⟩;rw [e6] at HP HM;unfold jK at e6;rw [e6];refine ⟨⟨k+1,q,rfl,HP.out⟩,?_⟩;rw [qa HM.out,qa g1];simp;omega
   |false=>
    have h8:(c.k == 8)=true:=by rw [FW,h7] at e3;simpa using e3
    go_wp2_with (go_at_call 149;refine HT.out.mono ?_;rintro r w2 ⟨rfl,h2,f2⟩;obtain ⟨⟨z0,z1,z2⟩,w3,e4,⟨y0,y1,y2,y3,y4,y5,yl⟩,s3⟩:=HN.out w2 h2 f2;clear h2 f2)
    refine (HX.out _ s3.out).mono ?_;rintro e w5 ⟨rfl,hb5⟩;obtain ⟨⟨x0,x1,x2,x3,x4,x5,xf,xl⟩,p1,p2⟩:=HF.out w3 w5 s3.out hb5;have HP:=ai p1;have HM:=ai p2;have xf0:=xf 0;have xf1:=xf 1;have xf2:=xf 2;have xf3:=xf 3;have xf4:=xf 4;have xf5:=xf 5;clear p1 p2 xf hb5 z0 z1 z2 y0 y1 y2 y3 y4 y5 yl e4 c0 c1 c2 c3 c4 c5
    generalize w3.heap.size=q at *
    go_wp2_with fail
    obtain ⟨w6,e6⟩:∃w6,jK w5 q t2=w6:=⟨_,rfl⟩;rw [e6] at HP HM;unfold jK at e6;rw [e6];refine ⟨⟨k+1,q,rfl,HP.out⟩,?_⟩;rw [qa HM.out,qa g1];simp;omega
  ·have hke:k=(bA (X.l.drop i)).length:=by omega
   have hc:=o2 hke;obtain ⟨c,hcn⟩:∃c,nx X (i+k)=c:=⟨_,rfl⟩;rw [hcn] at c0 c1 c2 c3 c4 c5 hc
   have HZ:Hid (dM X (i+(bA (X.l.drop i)).length) n (E++(bA (X.l.drop i)).map jY) wr):=by
    have:=HI.out.sv;rw [hke,RQ] at this;exact this
   rw [FW] at hc;have h7:(c.k == 7)=false:=by cases h:(c.k == 7) <;> simp_all
   have h8:(c.k == 8)=false:=by cases h:(c.k == 8) <;> simp_all
   clear o1 o2 hc hke
   go_wp2_with fail
   go_end0
   exact ⟨rfl,HZ.out⟩
theorem AI {X:Sx}(h:dM X i n E W) {t:Tv}(ht:X.l[i]?=some t) (hn:n<=1000) (hl:E.length+1+X.l.length<=1000000000) :
  Ra 228 #[pg X.g] W fun e w'=>e=.returned (.tuple #[])/\dM X (i+1+(bA (X.l.drop (i+1))).length) n (E++⟨2,0,t⟩ :: (bA (X.l.drop (i+1))).map jY) w':=by
 have hlt:i<X.l.length:=(QT.1 ht).1;obtain ⟨ve,hs,hE,hv⟩:=h.ex;obtain ⟨c0,c1,c2,c3⟩:=hs.cells;have hgl:=hs.lt;have hxl:=h.hl;obtain ⟨b,off,e0,x0,x1,x2,x3,x4,x5,xl⟩:=h.tok ht;rw [e0] at c0;have q1:¬((n:Int)>1000):=by omega
 have q2:(0:Int)<=i:=by omega
 have q3:(i:Int)<X.l.length:=by omega
 have HT:Hid (∀V,Rc W V->Ra 149 #[pg X.g,(⟨2,0,t⟩:Ev).v] V fun r w'=>r=.returned (.tuple #[])/\dM X i n (E++[⟨2,0,t⟩]) w'/\Lh X V w'):=fun V hb=>iZ (h.below hb) _ (by omega)
 have HN:Hid (∀w2,dM X i n (E++[⟨2,0,t⟩]) w2->(w2.cell? ⟨X.g,1,none⟩=some (.int .i64 (i:Int))/\w2.frozen? ⟨X.g,1,none⟩=false/\X.g<w2.heap.size)/\∃w3,w2.setCell ⟨X.g,1,none⟩ (.int .i64 ((i:Int)+1))=w3/\Hid (dM X (i+1) n (E++[⟨2,0,t⟩]) w3)):=fun w2 h2=>by
  obtain ⟨z0,z1,z2,z3⟩:=h2.step (i+1);exact ⟨⟨z0,z1,z2⟩,_,rfl,by show dM _ _ _ _ _;rw [show ((i:Int)+1)=((i+1:Nat):Int) by omega];exact z3⟩
 have HC:Hid (∀w3,dM X (i+1) n (E++[⟨2,0,t⟩]) w3->Ra 150 #[pg X.g] w3 fun e w'=>e=.returned (.tuple #[])/\dM X (i+1+(bA (X.l.drop (i+1))).length) n (E++[⟨2,0,t⟩]++(bA (X.l.drop (i+1))).map jY) w'):=fun w3 h3=>kP h3 hlt (by simp;omega)
 have HE:Hid (E++⟨2,0,t⟩ :: (bA (X.l.drop (i+1))).map jY=E++[⟨2,0,t⟩]++(bA (X.l.drop (i+1))).map jY):=by show _=_;simp
 have HB:Hid (∀m,Rc W (W.drewN m)):=fun m=>fm (hH _ _) m
 rw [HE.out];clear h hs hE hv ht hlt e0
 dsimp only [Ev.v] at HT
 generalize X.ao=ao at *
 go_enter Tryz.func228,Tryz.ntmps228
 go_wp2_with fail
 go_cut [25] from 13 to 25 (fun _ wx=>Hid (dM X i n (E++[⟨2,0,t⟩]) wx))
 case first=>
  go_region_with (go_at_call 149;refine (HT.out _ (HB.out _)).mono ?_;rintro r w2 ⟨rfl,h2,f2⟩;have H2:=ai h2;clear h2 f2)
  all_goals (
   go_wp2_with fail
   go_meet
   exact H2)
 case rest=>
  have H2:=hcut;clear hcut c0 c1 c2 c3 x0 x1 x2 x3 x4 x5 HT;obtain ⟨⟨z0,z1,z2⟩,w3,e3,H3⟩:=HN.out _ H2.out
  go_wp2_with (go_at_call 150;refine (HC.out _ H3.out).mono ?_;rintro r w4 ⟨rfl,h4⟩;have H4:=ai h4;clear h4)
  go_end0
  exact ⟨rfl,H4.out⟩
theorem AS {X:Sx}(h:dM X i n E W) (hn:1000<n) :
  Ra 228 #[pg X.g] W fun e w'=>e=.panicked (stop 122 i)/\Below W.heap.size W w':=by
 obtain ⟨ve,hs,hE,hv⟩:=h.ex;obtain ⟨c0,c1,c2,c3⟩:=hs.cells;have hgl:=hs.lt;have q1:((n:Int)>1000):=by omega
 have HB:Hid (∀m,Rc W (W.drewN m)):=fun m=>fm (hH _ _) m
 clear h hs hE
 go_enter Tryz.func228,Tryz.ntmps228
 go_wp2_with fail
 exact ⟨rfl,rfl,HB.out 0⟩
def Ls (W:World) (ao:Option Addr) (l:List ByteArray):Prop:=∀j s,l[j]?=some s->∃b off,ao=some ⟨b,off,none⟩/\W.cell? ⟨b,off+j,none⟩=some (.string s)
theorem Ls.kp {S:Nat->Prop}{w w':World}{ao:Option Addr}{l:List ByteArray}(h:Ls w ao l) (hb:Kp S w w') (hS:∀a,ao=some a->¬S a.block):Ls w' ao l:=by
 intro j a ha;obtain ⟨b,off,h1,c0⟩:=h j a ha;have hlt:=QP _ _ c0;have e:w'.heap[b]?=w.heap[b]?:=hb.block b hlt (hS _ h1);exact ⟨b,off,h1,(QS (a:=⟨b,_,none⟩) e).trans c0⟩
theorem Ls.below {w':World}{ao:Option Addr}{l:List ByteArray}(h:Ls w ao l) (hb:Below w.heap.size w w'):Ls w' ao l:=h.kp (Kp.of_below (S:=fun _=>False) hb) (fun _ _ h=>h)
theorem EP (l:List ByteArray) (s x:ByteArray) (k:Nat) (hk:l[k]?=some x) (h:kY (l.take k) s=false):kY (l.take (k+1)) s=(s.toList == x.toList):=by
 rw [F3];unfold kY at h ⊢;rw [S5,hk,Rk,h];simp
theorem EO (l:List ByteArray) (s:ByteArray) (k:Nat) (h:kY (l.take k) s=true):kY l s=true:=by
 unfold kY at h ⊢;simp only [Sj] at h ⊢;obtain ⟨x,hx,e⟩:=h;exact ⟨x,Un hx,e⟩
theorem xg (ao:Option Addr) (l:List ByteArray) (cap:Nat) (s:ByteArray) (W:World) (h:Ls W ao l) (hl:l.length<=1000) :
  Ra 229 #[.slice ao l.length cap,.string s] W fun r w'=>(∃z:Int,r=.returned (.int .i64 z)/\(decide (0<=z)=kY l s))/\w'=W:=by
 have H:Hid (Ls W ao l):=h;clear h
 go_enter Tryz.func229,Tryz.ntmps229
 go_wp2_with fail
 go_loopw [5,8] (fun _ i wr=>∃k:Nat,k<=l.length/\i=.int .i64 k/\Hid (kY (l.take k) s=false)/\wr=W) (fun _ i _=>l.length-(intOf i).toNat)
 case atStart=>exact ⟨0,QK _,rfl,by show kY _ _=_;simp [kY],rfl⟩
 case round=>
  obtain ⟨k,hk,rfl,HI,rfl⟩:=hrel
  by_cases hlt:k<l.length
  ·have q1:(k:Int)<l.length:=by omega
   have q0:(0:Int)<=k:=by omega
   obtain ⟨x,hx⟩:∃x,l[k]?=some x:=⟨_,Pi hlt⟩;obtain ⟨b,off,rfl,hc⟩:=H.out k x hx;have HS:Hid (kY (l.take (k+1)) s=(s.toList == x.toList)):=EP l s x k hx HI.out;have HT:Hid (kY (l.take (k+1)) s=true->kY l s=true):=EO l s _;clear hx
   by_cases he:(s.toList == x.toList)=true
   ·go_wp2_with fail
    go_ret
    exact ⟨⟨_,rfl,by rw [HT.out (HS.out.trans he)];simp⟩,rfl⟩
   ·have he':(s.toList == x.toList)=false:=by simpa using he
    clear he
    go_wp2_with fail
    exact ⟨⟨k+1,hlt,by go_num,HS.out.trans he',trivial⟩,by simp [intOf];omega⟩
  ·obtain rfl:k=l.length:=by omega
   have q1:¬((l.length:Int)<l.length):=by omega
   go_wp2_with fail
   go_ret
   refine ⟨⟨_,rfl,?_⟩,rfl⟩;have:=HI.out;rw [RQ] at this;rw [this];rfl
theorem jL (ao:Option Addr) (l:List ByteArray) (cap:Nat) (s:ByteArray) (W:World) (h:Ls W ao l) (hl:l.length<=1000) :
  Ra 214 #[.slice ao l.length cap,.string s] W fun r w'=>r=.returned (.bool (kY l s))/\w'=W:=by
 have H:Hid (Ra 229 #[.slice ao l.length cap,.string s] W fun r w'=>(∃z:Int,r=.returned (.int .i64 z)/\(decide (0<=z)=kY l s))/\w'=W):=xg ao l cap s W h hl;clear h
 generalize kY l s=b at *
 go_enter Tryz.func214,Tryz.ntmps214
 go_wp2_with (go_at_call 229;refine H.out.mono ?_;rintro r w1 ⟨⟨z,rfl,hz⟩,rfl⟩;subst hz)
 go_ret
 exact ⟨by simp,rfl⟩
def nO (X:Sx) (d:D):List Ev:=⟨1,1,aB⟩ :: ((bA X.l).map jY++d.v.tail)
structure SD (X:Sx) (r:Nat) (d:D) (W:World):Prop where
 sv:dM X (ps X.l d.i) d.p.length (nO X d) W
 e0:d.e=0
 il:d.i<=(aF X.l).length
 nn:d.N=fun j=>(qp X.l j).map jY
 v0:d.v≠[]
 sm:d.s<=100*d.i+r
 el:(nO X d).length+d.p.length=2*d.s+ps X.l d.i
theorem SD.below {X:Sx}(h:SD X r d W) (hb:Below W.heap.size W W'):SD X r d W':=⟨h.sv.below hb,h.e0,h.il,h.nn,h.v0,h.sm,h.el⟩
theorem SD.up {X:Sx}{r':Nat}(h:SD X r d W) (hr:r<=r'):SD X r' d W:=⟨h.sv,h.e0,h.il,h.nn,h.v0,QQ h.sm (by omega),h.el⟩
theorem CU (l:List Tv):(aF l).length<=l.length:=List.length_filter_le _ _
theorem SD.len {X:Sx}(h:SD X r d W) (hr:r<=1000):(nO X d).length+1+X.l.length<=1000000000:=by
 have h1:=h.el;have h2:=h.sm;have h3:=h.il;have h4:=CU X.l;have h5:=h.sv.hl;have h6:=fB X.l d.i;omega
theorem SD.hnxt {X:Sx}(h:SD X r d W):cL (aF X.l) d=(aF X.l)[d.i]?:=by unfold cL;rw [IO h.e0]
theorem SD.hnx {X:Sx}(h:SD X r d W):nx X (ps X.l d.i)=(cL (aF X.l) d).getD aB:=by rw [h.hnxt];unfold nx;rw [uG]
theorem SD.hqn {X:Sx}(h:SD X r d W) {f:Tv->Bool}(hf:f aB=false):qn (aF X.l) d f=f (nx X (ps X.l d.i)):=by
 rw [h.hnx];unfold qn;cases cL (aF X.l) d with
 |none=>exact hf.symm
 |some t=>rfl
theorem SD.hend {X:Sx}(h:SD X r d W):(ps X.l d.i=X.l.length↔¬d.i<(aF X.l).length):=by
 have h1:=fB X.l d.i;rw [<-yS];omega
def kX (X:Sx) (v:Value) (d:D) (e:Ending) (w:World):Prop:=(d.e=0/\e=.returned v/\SD X 0 d w)\/(d.e≠0/\e=.panicked (stop d.e (ps X.l d.i))/\Below X.w0.heap.size X.w0 w)
theorem kb {a b:List Ev}(h:a≠[]):(a++b).tail=a.tail++b:=by
 cases a with
 |nil=>exact absurd rfl h
 |cons x a=>rfl
theorem yw {X:Sx}(h:SD X r d W) (hr:r<=100) {x:Fl}(hq:qn (aF X.l) d (fun t=>x.takes t)=true) :
  Ra 228 #[pg X.g] W fun e w'=>kX X (.tuple #[]) (iY (aF X.l) x d) e w':=by
 have e1:iY (aF X.l) x d=eM (aF X.l) true d:=by unfold iY;rw [hq]
 rw [e1];obtain ⟨he,hi⟩:=yP hq;obtain ⟨t,ht⟩:∃t,(aF X.l)[d.i]?=some t:=⟨_,Pi hi⟩;have ht2:X.l[ps X.l d.i]?=some t:=by rw [uG];exact ht
 unfold eM;simp only [Td]
 by_cases hd:1000<d.p.length
 ·rw [IO hd];refine (AS h.sv hd).mono ?_;rintro e w' ⟨rfl,hb⟩;exact .inr ⟨(by show (122:Int)≠0;decide),rfl,h.sv.bel.trans (hb.mono h.sv.bel.size)⟩
 ·rw [Eq hd];have hl:=h.len (by omega);refine (AI h.sv ht2 (by omega) hl).mono ?_;rintro e w' ⟨rfl,h1⟩;obtain ⟨p1,p2⟩:=sa X.l d.i hi;refine .inl ⟨he,rfl,?_,he,hi,h.nn,by simp,?_,?_⟩
  ·rw [p1];show dM X _ _ (nO X { d with i:=d.i+1,l:=if d.i+1=(aF X.l).length then d.p else d.l,v:=d.v++⟨2,0,(aF X.l)[d.i]?.getD aB⟩ :: d.N d.i }) w'
   have e2:nO X { d with i:=d.i+1,l:=if d.i+1=(aF X.l).length then d.p else d.l,v:=d.v++⟨2,0,(aF X.l)[d.i]?.getD aB⟩ :: d.N d.i }=nO X d++⟨2,0,t⟩ :: (qp X.l d.i).map jY:=by
    unfold nO;rw [kb h.v0,ht,h.nn];simp
   rw [e2,p2];exact h1
  ·have:=h.sm;show d.s<=100*(d.i+1)+0;omega
  ·have h5:=h.el;show (nO X _).length+d.p.length=2*d.s+ps X.l (d.i+1);rw [p1];unfold nO at h5 ⊢;simp only [kb h.v0,h.nn,List.length_cons,Or,Ux] at h5 ⊢;omega
theorem jf {X:Sx}(h:SD X r d W) (v:Value) :
  Ra 155 #[pg X.g] W fun e w'=>kX X v (eM (aF X.l) false d) e w'/\(eM (aF X.l) false d).e≠0/\e=.panicked (stop (eM (aF X.l) false d).e (ps X.l (eM (aF X.l) false d).i))/\Below X.w0.heap.size X.w0 w':=by
 refine (oL h.sv).mono ?_;rintro e w' ⟨rfl,hb⟩;have hb2:=h.sv.bel.trans (hb.mono h.sv.bel.size);have e0:=h.e0;have he:=h.hend;unfold eM;simp only [Q8,R8,IO e0]
 by_cases hi:d.i<(aF X.l).length
 ·have:¬ps X.l d.i=X.l.length:=fun e=>(he.1 e) hi
  rw [IO hi,Eq this];exact ⟨.inr ⟨(by show (120:Int)≠0;decide),rfl,hb2⟩,(by show (120:Int)≠0;decide),rfl,hb2⟩
 ·rw [Eq hi,IO (he.2 hi)];exact ⟨.inr ⟨(by show (121:Int)≠0;decide),rfl,hb2⟩,(by show (121:Int)≠0;decide),rfl,hb2⟩
end Go.Proofs.YtjiepkenkcgkhaaGreatDoor
