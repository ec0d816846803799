import Derived.Deep.RegionHeld3
import Derived.Deep.RegionWith
import Derived.WalkMore
import Derived.Laws.OwnMore
import Derived.Laws.AppendOwnNone
import Derived.Test.YtcmbkeghnmgbfaaGreatDoorM12
set_option linter.all false
set_option maxHeartbeats 1000000
namespace Go.Proofs.YtcmbkeghnmgbfaaGreatDoor
open Go.Proofs.Tryz
open Go.RowKit
open Lw (Dc bE rt cH cY iA me)
variable {W W':World}{g T cap e sz:Nat}{v vn vw v':Value}{l:List Dc}{xs:List Value}{o:Oper}
inductive Pz|S|B0|B1|H|I (n:Nat)|J|X
deriving DecidableEq
def dS:Dc:=⟨2,bE,0,0,false⟩
def dB (n:Int):Dc:=⟨3,bE,n,0,false⟩
def dH:Dc:=⟨4,bE,0,0,false⟩
def dE:Dc:=⟨5,bE,0,0,false⟩
def dI (n:Int) (e:Bool):Dc:=⟨6,bE,0,n,e⟩
def dX:Dc:=⟨7,bE,0,0,false⟩
def dT (t:ByteArray):Dc:=⟨1,t,0,0,false⟩
def Pz.d:Pz->Dc
 |.S=>dS
 |.B0=>dB 0
 |.B1=>dB 1
 |.H=>dH
 |.I n=>dI n false
 |.J=>dI 2 true
 |.X=>dX
def Pz.n:Pz->Nat
 |.I _=>1
 |.J=>1
 |_=>0
structure Nd where
 k:Int
 b:Nat
 s:Bool
deriving DecidableEq
structure Sy where
 ns:List Nd
 ws:List Dc
 mr:Option Nat
 wr:Bool
 en:Bool
 pt:Bool
def IG:Sy:=⟨[],[],none,false,false,false⟩
def lZ (p:Pz):List Nd->List Nd
 |[]=>[]
 |n :: r=>(if p=.X then { n with b:=n.b-1 }else { n with b:=n.b+p.n }) :: r
def pk (p:Pz) (ns:List Nd):List Dc:=if p=.X/\((ns.head?.map (·.b)).getD 0)=0 then[]else[p.d]
def Sy.aw (s:Sy) (p:Pz):Sy:={ s with ns:=lZ p s.ns,ws:=s.ws++pk p s.ns }
def Sy.aws (s:Sy) (l:List Pz):Sy:=l.foldl Sy.aw s
inductive Fx|nothing|blank|break1|hard|fend|endBlank|endHard|in1|in2|in2Break0|in2Break1|even2Hard|blankIn3|blankIn4
deriving DecidableEq
def Fx.pz:Fx->List Pz
 |.nothing=>[]
 |.blank=>[.S]
 |.break1=>[.B1]
 |.hard=>[.H]
 |.fend=>[.X]
 |.endBlank=>[.X,.S]
 |.endHard=>[.X,.H]
 |.in1=>[.I 1]
 |.in2=>[.I 2]
 |.in2Break0=>[.I 2,.B0]
 |.in2Break1=>[.I 2,.B1]
 |.even2Hard=>[.J,.H]
 |.blankIn3=>[.S,.I 3]
 |.blankIn4=>[.S,.I 4]
structure Rw where
 ns:List Int
 t:List UInt8
 a:Fx
 b:Fx
deriving DecidableEq
def tab:List Rw:=[
 ⟨[1,0,0,0,0,0],[112,114,111,103,114,97,109],.nothing,.blank⟩,
 ⟨[1,12,10,0,0,0],[59],.nothing,.hard⟩,
 ⟨[2,20,0,0,0,0],[98,101,103,105,110],.nothing,.even2Hard⟩,
 ⟨[2,20,10,15,16,17],[101,110,100],.endHard,.nothing⟩,
 ⟨[3,0,0,0,0,0],[118,97,114],.nothing,.blankIn4⟩,
 ⟨[3,7,11,29,31,0],[44],.nothing,.break1⟩,
 ⟨[3,7,11,0,0,0],[58],.fend,.blank⟩,
 ⟨[3,0,0,0,0,0],[59],.nothing,.hard⟩,
 ⟨[4,0,0,0,0,0],[99,111,110,115,116],.nothing,.blank⟩,
 ⟨[5,0,0,0,0,0],[112,114,111,99],.nothing,.blank⟩,
 ⟨[4,0,0,0,0,0],[61],.blank,.in2Break1⟩,
 ⟨[4,0,0,0,0,0],[59],.fend,.hard⟩,
 ⟨[5,0,0,0,0,0],[58],.nothing,.blank⟩,
 ⟨[33,0,0,0,0,0],[59],.nothing,.even2Hard⟩,
 ⟨[5,0,0,0,0,0],[59],.fend,.hard⟩,
 ⟨[6,0,0,0,0,0],[40],.nothing,.in2Break0⟩,
 ⟨[6,0,0,0,0,0],[59],.nothing,.break1⟩,
 ⟨[6,27,31,0,0,0],[41],.fend,.nothing⟩,
 ⟨[9,0,0,0,0,0],[97,114,114,97,121],.nothing,.blank⟩,
 ⟨[9,0,0,0,0,0],[111,102],.blank,.blank⟩,
 ⟨[10,0,0,0,0,0],[114,101,99,111,114,100],.nothing,.even2Hard⟩,
 ⟨[14,0,0,0,0,0],[58,61],.blank,.break1⟩,
 ⟨[15,0,0,0,0,0],[105,102],.nothing,.blankIn3⟩,
 ⟨[15,0,0,0,0,0],[101,108,105,102],.endHard,.blankIn3⟩,
 ⟨[16,0,0,0,0,0],[119,104,105,108,101],.nothing,.blankIn3⟩,
 ⟨[15,0,0,0,0,0],[116,104,101,110],.endBlank,.even2Hard⟩,
 ⟨[15,0,0,0,0,0],[101,108,115,101],.endHard,.even2Hard⟩,
 ⟨[16,0,0,0,0,0],[100,111],.endBlank,.even2Hard⟩,
 ⟨[17,0,0,0,0,0],[102,111,114],.nothing,.blank⟩,
 ⟨[17,0,0,0,0,0],[58,61],.blank,.blank⟩,
 ⟨[17,0,0,0,0,0],[116,111],.blank,.blank⟩,
 ⟨[17,0,0,0,0,0],[100,111],.blank,.even2Hard⟩,
 ⟨[18,0,0,0,0,0],[114,101,112,101,97,116],.nothing,.even2Hard⟩,
 ⟨[18,0,0,0,0,0],[117,110,116,105,108],.endHard,.blankIn3⟩,
 ⟨[21,22,23,24,0,0],[],.blank,.break1⟩,
 ⟨[26,0,0,0,0,0],[110,111,116],.nothing,.blank⟩,
 ⟨[27,0,0,0,0,0],[40],.nothing,.in1⟩,
 ⟨[29,0,0,0,0,0],[91],.nothing,.in1⟩,
 ⟨[29,0,0,0,0,0],[93],.fend,.nothing⟩,
 ⟨[31,0,0,0,0,0],[40],.nothing,.in2⟩]
def Nd.is (n:Nd) (k:Int):Bool:=if k=33 then decide (n.k=5)&&decide (n.b=0)else decide (n.k=k)
def Rw.fits (r:Rw) (n:Nd) (t:ByteArray):Bool:=(decide (r.t=[])||decide (r.t=t.data.toList))&&r.ns.any n.is
def IL:Rw:=⟨[0,0,0,0,0,0],[],.nothing,.nothing⟩
def dU (n:Nd) (t:Tv):Rw:=if t.k=2\/t.k=6 then(tab.find? (fun r=>r.fits n t.t)).getD IL else IL
def iK (k:Int):Bool:=decide (k=3\/k=4\/k=5\/k=11\/k=13\/k=14\/k=15\/k=16\/k=17\/k=18\/k=19\/k=20)
def Sy.exprIn (s:Sy):Sy:=match s.ns with
 |[]=>s
 |n :: r=>{ (if n.k=19 then s.aws [.S,.I 3]else if n.k=31/\n.s=false then s.aws [.B0]else s)with
   ns:={ k:=n.k,b:=(if n.k=19 then n.b+1 else n.b),s:=true } :: r }
def Sy.mark (s:Sy) (k:Int):Sy:=if iK k=true/\s.mr=none then { s with mr:=some s.ws.length }else s
def FN (k:Int):List Pz:=if k=21\/k=22\/k=23\/k=24 then[.I 0]else if k=14\/k=7\/k=11 then[.I 2]else[]
def Sy.opens (s:Sy) (k:Int):Sy:=
 let s1:=(if k=21 then s.exprIn else s).mark k
 { s1 with ns:=⟨k,0,false⟩ :: s1.ns }.aws (FN k)
def Sy.leaves (s:Sy):Sy:=match s.ns with
 |[]=>s
 |n :: r=>{ s with ns:=r,ws:=s.ws++List.replicate n.b dX++(if n.k=1 then[dH]else[]) }
def bC (d:Dc):Bool:=decide (d.k=6)
def d8 (d:Dc):Bool:=decide (d.k=4)
def dr (d:Dc):Bool:=decide (d.k=2)||(decide (d.k=4)||decide (d=dB 1))
def Sy.emp (s:Sy) (f:Int):Sy:=match s.mr with
 |none=>s
 |some m=>if f<2\/s.wr=false\/(s.ws.take m).any bC=true then s else { s with ws:=s.ws.take m++dE :: s.ws.drop m }
def Sy.endl (s:Sy):Sy:=if s.en=true/\s.ws.any d8=false then { s with ws:=dH :: s.ws }else s
def Sy.part (s:Sy):Sy:=if s.pt=true/\s.ws.any dr=false then { s with ws:=s.ws++[dS] }else s
def Sy.ready (s:Sy) (a:Fx) (f:Int):Sy:=(((s.aws a.pz).emp f).endl).part
def Sy.after (s:Sy) (b:Fx):Sy:=Sy.aws ⟨s.ns,[],none,true,false,false⟩ b.pz
def Sy.leaf (s:Sy) (t:Tv):Sy × List Dc:=match s.ns with
 |[]=>(s,[])
 |n :: _=>((s.ready (dU n t).a t.f).after (dU n t).b,(s.ready (dU n t).a t.f).ws++[dT t.t])
def Sy.note (s:Sy) (t:Tv):Sy × List Dc:=
 let bg:=s.ws.takeWhile bC
 let rs:=s.ws.dropWhile bC
 if t.f=0/\s.wr=true then(⟨s.ns,rs,none,true,s.en||decide (t.k=7),s.pt||decide (t.k=8)⟩,bg++[dS,dT t.t])
 else(⟨s.ns,rs,none,true,true,s.pt⟩,bg++dH :: ((if 2<=t.f/\s.wr=true/\bg=[]then[dE]else[])++[dT t.t]))
def Sy.may (s:Sy) (e:Ev):Bool:=
 if e.k=1 then decide (1<=e.n)&&decide (e.n<=32)
 else if e.k=3 then(match s.ns with|[]=>false|n :: _=>decide (n.k=e.n))
 else if e.k=2 then !s.ns.isEmpty&&iA e.d.t
 else if e.k=4 then !s.ns.isEmpty&&(iA e.d.t&&decide (e.d.k=7\/e.d.k=8))
 else false
def Sy.step (s:Sy) (e:Ev):Sy × List Dc:=
 if e.k=1 then(s.opens e.n,[])else if e.k=3 then(s.leaves,[])else if e.k=2 then s.leaf e.d else s.note e.d
def zH (s:Sy) (e:Ev):Option (Sy × List Dc):=if s.may e=true then some (s.step e)else none
def zQ (s:Sy):Option (List Dc):=if s.ns=[]then some s.endl.ws else none
theorem Ji (s:Sy) (p:Pz):(s.aw p).ws=s.ws++pk p s.ns:=rfl
theorem rZ (s:Sy) (p:Pz) (l:List Pz):s.aws (p :: l)=(s.aw p).aws l:=rfl
open Lw (Dc bE rt cH cY iA me bD aQ bO)
theorem fR (a b:List Dc):bD (a++b)=bD a++bD b:=aW Dc.cs a b
abbrev Rd (W:World) (v:Value) (l:List Dc):Prop:=W.ownsRow 0 151 5 v l.length (bD l)
theorem kX (W:World):Rd W (.slice none 0 0) []:=LV W 0 151 5
theorem uX {S:Nat->Prop}(h:Rd W v l) (F:Kp S W W') (u:∀k,v.ownBlock=some k->¬S k):Rd W' v l:=F.row h u
theorem dG (h:Rd W v l) (u:Below W.heap.size W W'):Rd W' v l:=bi h u
theorem bG (h:Rd W v l):∃p cap,v=.slice p l.length cap/\l.length<=cap/\cap<=maxLen:=az h
theorem fN {n:Nat}(h:W.ownsRow 0 e sz v n xs):∀k,v.ownBlock=some k->k<W.heap.size:=by
 intro k u
 rcases h.2 with⟨rfl,_⟩|⟨b,cap,G,rfl,_,F,_⟩
 ·cases u
 ·simp only[Value.ownBlock,Ky]at u;subst u;exact ai F
theorem iB {n H F n':Nat}{G:List Value}(h:W.ownsRow 0 e sz v n xs) (J:W.ownsRow 0 H F v' n' G) (O:e≠H):∀k,v.ownBlock=some k->v'.ownBlock≠some k:=by
 intro k hk u
 rcases J.2 with⟨rfl,_⟩|⟨b,cap,aa,rfl,_,M,_⟩
 ·cases u
 ·simp only[Value.ownBlock,Ky]at u;subst u;exact aE h M (fun I=>O I.symm) hk
theorem Tryz.info151:(Tryz.prog.info? 151).map (fun i=>(i.zero,i.size,i.bytes))=some (some (.agg #[.int .u8 0,.string ⟨#[]⟩,.int .i64 0,.int .i64 0,.bool false]),5,48):=by kernel_rfl
theorem zD {J:Array Oper}{a:Act}{K:Act->World->Prop}{Q:Exit->Act->World->Prop}{E:Prop}(F:o.guard=none) (s x:Operand)
  (ho:o.op=.call { callee:=.builtin .append,args:=#[s,x],argTypes:=#[91,91] }) (v:Value) (l:List Dc) (d:Dc) (hs:a.eval s=v) (hr:Rd W v l)
  (g c:Nat) (hx:a.eval x=.slice (some ⟨g,0,none⟩) 1 c) (hg:W.heap[g]?=some (.cells #[.int .u8 d.k,.string d.t,.int .i64 d.b,.int .i64 d.i,.bool d.e] 151 (0,0))) (hl:l.length<=1000000000)
  (h:∀q cap w',Rd w' (.slice (some ⟨q,0,none⟩) (l.length+1) cap) (l++[d])->W.grownBy w' v.ownBlock->(v.ownBlock=some q\/q=W.heap.size)->K (a.put o.dst (.slice (some ⟨q,0,none⟩) (l.length+1) cap)) w') :
  if Region.wanted o (yielded J a.tmps)=true then Oper.wp Tryz.prog o a W K Q else E:=by
 obtain⟨i0,hi,G,H,I⟩:=LJ Tryz.info151;refine NU W F s x 91 ho 0 151 i0 _ 5 48 underlying91 hi G H I rfl (by decide) v _ _ hs hr ⟨g,0,none⟩ 1 c (bD [d]) hx (by rw[aQ];rfl) ?_ (bO [d]) (by omega) (by unfold maxLen;omega) (by omega) (Kj _) _ rfl ?_
 ·intro j u M;refine LW hg j u ?_;have e:bD [d]=[.int .u8 d.k,.string d.t,.int .i64 d.b,.int .i64 d.i,.bool d.e]:=by simp[bD,au,Dc.cs]
  rw[e]at M
  simpa using M
 ·intro q cap w' O a2 a3 _;refine h q cap w' ?_ a2 a3;unfold Rd;rw[Kf,fR];exact O
theorem nJ {H:Array Oper}{rest:List Oper}{a:Act}{Q:Exit->Act->World->Prop}(I:o.guard=none) (s x:Operand)
  (ho:o.op=.call { callee:=.builtin .append,args:=#[s,x],argTypes:=#[91,91] }) (v:Value) (l F:List Dc) (hs:a.eval s=v) (hr:Rd W v l)
  (g c:Nat) (hx:a.eval x=.slice (some ⟨g,0,none⟩) F.length c) (hg:W.heap[g]?=some (.cells (bD F).toArray 151 (0,0))) (hl:l.length+F.length<=2000000000)
  (h:∀v' w',Rd w' v' (l++F)->W.grownBy w' v.ownBlock->Nb W v v'->wpList Tryz.prog H Q rest (a.put o.dst v') w'):wpList Tryz.prog H Q (o :: rest) a W:=by
 obtain⟨i0,hi,J,M,O⟩:=LJ Tryz.info151;refine L7 (P:=Tryz.prog) (w:=W) I s x 91 ho 0 151 i0 _ 5 48 underlying91 hi J M O rfl (by decide) v _ _ hs hr ⟨g,0,none⟩ F.length c (bD F) hx (by rw[aQ]) ?_ (bO F) (by unfold maxLen;omega) (by omega) (Kj _) ?_
 ·intro j u hu;refine LW hg j u ?_
  simpa using hu
 ·intro v' w' h1 h2 _ G;refine h v' w' ?_ h2 ?_
  ·unfold Rd;rw[Kf,fR];exact h1
  ·rcases G with G|G
   ·exact .inl G
   ·exact .inr ⟨_,G,ge _⟩
def Nd.cs (n:Nd):List Value:=[.int .u8 n.k,.int .i64 n.b,.bool n.s]
theorem Nd.cs_len (n:Nd):n.cs.length=3:=rfl
theorem Nd.cs_one (n:Nd):∀u∈n.cs,u.oneCell'=true:=by
 intro u F;simp only[Nd.cs,KL,M7,or_false]at F
 rcases F with rfl|rfl|rfl<;>rfl
def pA (l:List Nd):List Value:=au Nd.cs l
theorem ko (l:List Nd):(pA l).length=l.length*3:=bo Nd.cs 3 Nd.cs_len l
theorem Ed (l:List Nd):∀u∈pA l,u.oneCell'=true:=by
 intro u F;obtain⟨d,_,h⟩:=M8.1 F;exact d.cs_one u h
theorem kq (a b:List Nd):pA (a++b)=pA a++pA b:=aW Nd.cs a b
abbrev Rn (T:Nat) (W:World) (v:Value) (l:List Nd):Prop:=W.ownsRow 0 T 3 v l.length (pA l.reverse)
theorem ll (r:List Nd) (n:Nd) (j:Nat) (v:Value) (h:n.cs[j]?=some v):(pA (n :: r).reverse)[r.length*3+j]?=some v:=by
 rw[Ll];exact aO Nd.cs 3 Nd.cs_len _ r.length j n v (by rw[Mf (by simp)];simp) h
theorem Ec (r:List Nd) (n m:Nd) (j:Nat) (v:Value) (G:j<3) (h:n.cs.set j v=m.cs):(pA (n :: r).reverse).set (r.length*3+j) v=pA (m :: r).reverse:=by
 rw[Ll,Ll,kq,kq];have hl:(pA r.reverse).length=r.length*3:=by rw[ko,KZ]
 rw[List.set_append_right _ _ (by omega),hl,Nv];have u:pA [n]=n.cs:=by simp[pA,au]
 have F:pA [m]=m.cs:=by simp[pA,au]
 rw[u,F,h]
theorem ke {n:Nd}{r:List Nd}(h:Rn T W v (n :: r)):∃b cap,v=.slice (some ⟨b,0,none⟩) (r.length+1) cap/\cap<=maxLen/\r.length+1<=cap:=by
 rcases h.2 with⟨_,u⟩|⟨b,cap,I,F,_,_,G,H,_⟩
 ·simp at u
 ·exact⟨b,cap,F,H,G⟩
theorem iC {b:Nat}{n:Nd}{r:List Nd}(h:Rn T W (.slice (some ⟨b,0,none⟩) (r.length+1) cap) (n :: r)) :
  W.cell? ⟨b,r.length*3,none⟩=some (.int .u8 n.k)/\W.cell? ⟨b,r.length*3+1,none⟩=some (.int .i64 n.b)/\W.cell? ⟨b,r.length*3+2,none⟩=some (.bool n.s):=by
 have hc:∀(k:Nat) (u:Value),(pA (n :: r).reverse)[k]?=some u->W.cell? ⟨b,k,none⟩=some u:=fun k u F=>by
  have:=Oc h (g:=b) rfl k u F;rw[KV,Km]at this;exact this
 exact⟨hc _ _ (ll r n 0 _ rfl),hc _ _ (ll r n 1 _ rfl),hc _ _ (ll r n 2 _ rfl)⟩
theorem GF {b:Nat}{n m:Nd}{r:List Nd}(h:Rn T W (.slice (some ⟨b,0,none⟩) (r.length+1) cap) (n :: r)) (j:Nat) (u:Value) (F:j<3) (G:n.cs.set j u=m.cs) :
  Rn T (W.setCell ⟨b,r.length*3+j,none⟩ u) (.slice (some ⟨b,0,none⟩) (r.length+1) cap) (m :: r):=by
 have:=(World.ownsRow.stored h (r.length*3+j) u).1;rw[Ec r n m j u F G]at this;exact this
theorem GG {b:Nat}{n:Nd}{r:List Nd}(h:Rn T W (.slice (some ⟨b,0,none⟩) (r.length+1) cap) (n :: r)):Rn T W (.slice (some ⟨b,0,none⟩) r.length cap) r:=by
 refine⟨by rw[ko,KZ],?_⟩
 rcases h.2 with⟨F,_⟩|⟨g,H,u,F,I,J,M,O,h6,G⟩
 ·cases F
 ·cases F;refine .inr ⟨_,_,u,rfl,I,J,by simp at M;omega,O,h6,?_⟩;have e:(n :: r).length*3=r.length*3+3:=by simp;omega
  rw[e]at G;have:u.toList.take (r.length*3)=(u.toList.take (r.length*3+3)).take (r.length*3):=by rw[M5];congr 1;omega
  rw[this,G,Ll,kq,N6 (by rw[ko,KZ])]
abbrev bv (g:Nat):Value:=.pointer (some ⟨g,0,none⟩)
def SB (W:World) (g:Nat) (dn:Bool) (vn vw:Value) (m:Bool) (i:Int) (wr en pt:Bool):Prop:=W.heap[g]?=some (.cells #[.bool dn,vn,vw,.bool m,.int .i64 i,.bool wr,.bool en,.bool pt] 128 (0,0))
theorem SB.cells {W:World}{g:Nat}{dn:Bool}{vn vw:Value}{m:Bool}{i:Int}{wr u pt:Bool}(h:SB W g dn vn vw m i wr u pt) :
  W.cell? ⟨g,0,none⟩=some (.bool dn)/\W.cell? ⟨g,1,none⟩=some vn/\W.cell? ⟨g,2,none⟩=some vw/\W.cell? ⟨g,3,none⟩=some (.bool m)/\W.cell? ⟨g,4,none⟩=some (.int .i64 i)/\W.cell? ⟨g,5,none⟩=some (.bool wr)/\W.cell? ⟨g,6,none⟩=some (.bool u)/\W.cell? ⟨g,7,none⟩=some (.bool pt):=
 ⟨aa h rfl,aa h rfl,aa h rfl,aa h rfl,aa h rfl,aa h rfl,aa h rfl,aa h rfl⟩
theorem SB.frozen {W:World}{g:Nat}{dn:Bool}{vn vw:Value}{m:Bool}{i:Int}{wr u pt:Bool}(h:SB W g dn vn vw m i wr u pt) (j:Nat):W.frozen? ⟨g,j,none⟩=false:=aj h
theorem SB.kp {S:Nat->Prop}{W W':World}{g:Nat}{dn:Bool}{vn vw:Value}{m:Bool}{i:Int}{wr u pt:Bool}(h:SB W g dn vn vw m i wr u pt) (G:Kp S W W') (F:¬S g):SB W' g dn vn vw m i wr u pt:=G.blk h F
theorem SB.below {dn:Bool}{m:Bool}{i:Int}{wr u pt:Bool}(h:SB W g dn vn vw m i wr u pt) (F:Below W.heap.size W W'):SB W' g dn vn vw m i wr u pt:=af h F
theorem SB.lt {W:World}{g:Nat}{dn:Bool}{vn vw:Value}{m:Bool}{i:Int}{wr u pt:Bool}(h:SB W g dn vn vw m i wr u pt):g<W.heap.size:=ai h
abbrev tN:Nat:=213
structure SV (W:World) (g:Nat) (st:Sy) (vn vw:Value):Prop where
 sb:SB W g false vn vw st.mr.isSome (st.mr.getD 0:Nat) st.wr st.en st.pt
 rn:Rn tN W vn st.ns
 rd:Rd W vw st.ws
structure SS (S:Nat->Prop) (W:World) (g:Nat) (st:Sy):Prop where
 ex:∃vn vw,SV W g st vn vw/\(∀k,vn.ownBlock=some k->S k)/\(∀k,vw.ownBlock=some k->S k)
 sg:S g
 lt:∀k,S k->k<W.heap.size
def Mv (S:Nat->Prop) (g:Nat) (W W':World) (st:Sy):Prop:=(∃S',SS S' W' g st/\∀k,S' k->S k\/W.heap.size<=k)/\Kp S W W'/\W'.cell? ⟨g,1,none⟩=W.cell? ⟨g,1,none⟩
theorem SV.below {st:Sy}(h:SV W g st vn vw) (u:Below W.heap.size W W'):SV W' g st vn vw:=⟨h.sb.below u,bi h.rn u,dG h.rd u⟩
theorem SV.kp {S:Nat->Prop}{W W':World}{g:Nat}{st:Sy}{vn vw:Value}(h:SV W g st vn vw) (u:Kp S W W') (F:¬S g) (G:∀k,vn.ownBlock=some k->¬S k) (H:∀k,vw.ownBlock=some k->¬S k):SV W' g st vn vw:=
 ⟨h.sb.kp u F,u.row h.rn G,uX h.rd u H⟩
theorem SS.below {S:Nat->Prop}{st:Sy}(h:SS S W g st) (u:Below W.heap.size W W'):SS S W' g st:=by
 obtain⟨vn,vw,F,G⟩:=h.ex;exact⟨⟨vn,vw,F.below u,G⟩,h.sg,fun k H=>Kl (h.lt k H) u.size⟩
theorem SS.kp {S T:Nat->Prop}{W W':World}{g:Nat}{st:Sy}(h:SS S W g st) (H:Kp T W W') (u:∀k,S k->¬T k):SS S W' g st:=by
 obtain⟨vn,vw,I,F,G⟩:=h.ex;exact⟨⟨vn,vw,I.kp H (u _ h.sg) (fun k e=>u k (F k e)) (fun k e=>u k (G k e)),F,G⟩,h.sg,fun k J=>Kl (h.lt k J) H.size⟩
theorem Mv.mk' {S:Nat->Prop}{W W':World}{g:Nat}{st:Sy}{vn vw:Value}(u:SV W' g st vn vw) (I:S g) (F:∀k,vn.ownBlock=some k->S k\/W.heap.size<=k) (G:∀k,vw.ownBlock=some k->S k\/W.heap.size<=k) (H:Kp S W W') (hc:W.cell? ⟨g,1,none⟩=some vn):Mv S g W W' st:=
 ⟨⟨fun k=>(S k\/W.heap.size<=k)/\k<W'.heap.size,⟨⟨vn,vw,u,fun k e=>⟨F k e,fN u.rn k e⟩,fun k e=>⟨G k e,fN u.rd k e⟩⟩,⟨.inl I,u.sb.lt⟩,fun _ h=>h.2⟩,fun _ h=>h.1⟩,H,u.sb.cells.2.1.trans hc.symm⟩
theorem Mv.refl {S:Nat->Prop}{W:World}{g:Nat}{st:Sy}(h:SS S W g st):Mv S g W W st:=⟨⟨S,h,fun _ h=>.inl h⟩,Kp.refl _ _,rfl⟩
theorem Mv.quiet {S:Nat->Prop}{st:Sy}(h:SS S W g st) (u:Below W.heap.size W W'):Mv S g W W' st:=⟨⟨S,h.below u,fun _ h=>.inl h⟩,Kp.of_below u,u.cell (h.lt g h.sg)⟩
structure WP (W W':World) (g:Nat) (st:Sy) (vn vw:Value) (l:List Dc):Prop where
 ex:∃vw',SV W' g { st with ws:=l } vn vw'/\Nb W vw vw'
 kp:Kp (fun k=>k=g\/vw.ownBlock=some k) W W'
theorem WP.mv {S:Nat->Prop}{st:Sy}(h:WP W W' g st vn vw l) (J:SV W g st vn vw) (G:S g) (H:∀k,vn.ownBlock=some k->S k) (F:∀k,vw.ownBlock=some k->S k):Mv S g W W' { st with ws:=l }:=by
 obtain⟨M,a,b⟩:=h.ex;refine Mv.mk' a G (fun k e=>.inl (H k e)) (fun k e=>?_) (h.kp.sub ?_) J.sb.cells.2.1
 ·rcases b with b|⟨q,I,u⟩
  ·exact .inl (F k (by rw[<-b];exact e))
  ·rw[I]at e;cases e;exact .inr u
 ·rintro k (e|e)
  ·rw[e];exact G
  ·exact F k e
theorem SV.ws {W1 F:World}{st:Sy}(h:SV W g st vn vw) (J:Below W.heap.size W W1) (M:Kp (fun k=>vw.ownBlock=some k) W1 F) {l:List Dc}(hr:Rd F v' l) (O:Nb W1 vw v') :
  (F.cell? ⟨g,2,none⟩=some vw/\F.frozen? ⟨g,2,none⟩=false)/\WP W (F.setCell ⟨g,2,none⟩ v') g st vn vw l:=by
 have u:=h.below J;have ac:¬vw.ownBlock=some g:=aE u.rd u.sb (by decide);have I:=u.sb.kp M ac;have n3:=M.row u.rn (fun k G H=>iB u.rn u.rd (by decide) k G H);have hk:Kp (fun k=>k=g\/vw.ownBlock=some k) W (F.setCell ⟨g,2,none⟩ v'):=((Kp.of_below J).step M (fun k _ e=>.inr e)).step (Kp.set _ _ _ _) (fun k _ e=>.inl e);refine⟨⟨aa I rfl,I.frozen 2⟩,⟨v',⟨ab I 2 _,(Kp.set _ _ _ _).row n3 (fun k G H=>aE n3 I (by decide) (by rw[G,H])),(Kp.set _ _ _ _).row hr (fun k G H=>aE hr I (by decide) (by rw[G,H]))⟩,?_⟩,hk⟩
 rcases O with O|⟨q,hq,ad⟩
 ·exact .inl O
 ·exact .inr ⟨q,hq,Kh J.size ad⟩
theorem kI {st:Sy}(h:SV W g st vn vw) (d:Dc) (hl:st.ws.length<=1000000000) :
  Kb 167 #[bv g,.agg #[.int .u8 d.k,.string d.t,.int .i64 d.b,.int .i64 d.i,.bool d.e]] W fun r w'=>r=.returned (.tuple #[])/\WP W w' g st vn vw (st.ws++[d]):=by
 obtain⟨L,hL⟩:∃L,st.ws=L:=⟨_,rfl⟩;have hE:=h.rd;rw[hL]at hE hl ⊢;obtain⟨p,cap,rfl,_⟩:=bG hE;have HW:=ku fun V (u:Below W.heap.size W V)=>dG hE u
 have HT:Hid (∀W1 F q H,Below W.heap.size W W1->Rd F (.slice (some ⟨q,0,none⟩) (L.length+1) H) (L++[d])->W1.grownBy F (Value.slice p L.length cap).ownBlock->((Value.slice p L.length cap).ownBlock=some q\/q=W1.heap.size)->(F.cell? ⟨g,2,none⟩=some (.slice p L.length cap)/\F.frozen? ⟨g,2,none⟩=false)/\WP W (F.setCell ⟨g,2,none⟩ (.slice (some ⟨q,0,none⟩) (L.length+1) H)) g st vn (.slice p L.length cap) (L++[d])):=
  fun W1 F q H u h1 h2 h3=>h.ws u ((Kp.of_grown h2).sub (fun k e=>e.symm)) h1 (by rcases h3 with h3|h3;exact .inl h3.symm;exact .inr ⟨q,rfl,by omega⟩)
 obtain⟨c0,c1,c2,c3,c4,c5,c6,c7⟩:=h.sb.cells;have hg:=h.sb.lt;clear h hE hL;obtain⟨⟨k0,t,b0,i0,e0⟩,hd⟩:∃x,d=x:=⟨_,rfl⟩;subst hd
 dsimp only
 go_enter func167,ntmps167
 go_wp2_with fail
 obtain⟨W1,O⟩:∃W1,W.alloc (.cells #[.int .u8 k0,.string t,.int .i64 b0,.int .i64 i0,.bool e0] 151)=W1:=⟨_,rfl⟩;have u:Below W.heap.size W W1:=by rw[<-O];exact(gt _ _).alloc (ge _) _
 have G:W1.heap[W.heap.size]?=some (.cells #[.int .u8 k0,.string t,.int .i64 b0,.int .i64 i0,.bool e0] 151):=by rw[<-O];exact am _ _
 rw[O];clear O;have m0:W1.cell? ⟨W.heap.size,0,none⟩=_:=aa G rfl;have m1:W1.cell? ⟨W.heap.size,1,none⟩=_:=aa G rfl;have m2:W1.cell? ⟨W.heap.size,2,none⟩=_:=aa G rfl;have m3:W1.cell? ⟨W.heap.size,3,none⟩=_:=aa G rfl;have m4:W1.cell? ⟨W.heap.size,4,none⟩=_:=aa G rfl;have d4:W1.cell? ⟨g,2,none⟩=some (.slice p L.length cap):=(u.cell hg).trans c2;have HB:Hid (∀o,Below W.heap.size W (W1.drew.alloc o)):=fun o=>(u.drew).alloc u.size _
 have ab:g<W1.heap.size:=Kl hg u.size;clear u G c0 c1 c2 c3 c4 c5 c6 c7 hg
 go_region_law (refine zD (by rfl) _ _ (by rfl) (.slice p L.length cap) L ⟨k0,t,b0,i0,e0⟩ (by rfl) (HW.out _ (HB.out _)) W1.heap.size 1 (by rfl) (am W1.drew _) hl ?_;intro q H F M I J;obtain⟨⟨x1,x2⟩,x3⟩:=HT.out _ F q H (HB.out _) M I J;have HX:=ku x3;clear x3 M I J)
 all_goals(
  go_wp2_with fail
  go_end0
  exact⟨rfl,HX.out⟩)
theorem er {b n:Nat}(c1:W.cell? ⟨g,1,none⟩=some (.slice (some ⟨b,0,none⟩) (n+1) cap)) (F:n<=1000000000) :
  Kb 121 #[bv g] W fun r w'=>r=.returned (.pointer (some ⟨b,n*3,none⟩))/\Below W.heap.size W w':=by
 have G:IntKind.i64.wrap (n:Int)=n:=by rw[Ki];omega
 have H:(0:Int)<=n:=by omega
 have I:(n:Int)<(n:Int)+1:=by omega
 have u:Hid (Kc W W.drew):=(gt _ _).drew
 go_enter func121,ntmps121
 go_wp2_with fail
 go_region_law (fail)
 all_goals(
  go_wp2_with fail
  go_ret
  exact⟨rfl,u.out⟩)
theorem SV.nd {W:World}{g:Nat}{st:Sy}{vw:Value}{b cap:Nat}{n m:Nd}{r:List Nd}(e:st.ns=n :: r) (h:SV W g st (.slice (some ⟨b,0,none⟩) (r.length+1) cap) vw) (j:Nat) (u:Value) (I:j<3) (J:n.cs.set j u=m.cs) :
  SV (W.setCell ⟨b,r.length*3+j,none⟩ u) g { st with ns:=m :: r } (.slice (some ⟨b,0,none⟩) (r.length+1) cap) vw:=by
 have M:Rn tN W (.slice (some ⟨b,0,none⟩) (r.length+1) cap) (n :: r):=by rw[<-e];exact h.rn
 have G:¬g=b:=fun F=>aE h.rn h.sb (by decide) (by rw[F];rfl)
 refine⟨h.sb.kp (Kp.set W b _ u) G,GF M j u I J,(Kp.set W b _ u).row h.rd (fun k H F=>iB h.rd h.rn (by decide) k H (by rw[F];rfl))⟩
theorem dz {S:Nat->Prop}{st:Sy}(h:SS S W g st) (p:Pz) {i:Int}{e:Bool}(J:p.d=dI i e/\p.n=1) (M:st.ns≠[]) (hl:st.ws.length<=1000000000) (hn:st.ns.length<=1000000000) (hb:∀n∈st.ns,n.b<=1000000000) :
  Kb 126 #[bv g,.int .i64 i,.bool e] W fun r w'=>r=.returned (.tuple #[])/\Mv S g W w' (st.aw p):=by
 obtain⟨vn,vw,hv,s1,s2⟩:=h.ex
 obtain⟨n,r,H⟩:∃n r,st.ns=n :: r:=by
  cases hc:st.ns with
  |nil=>exact absurd hc M
  |cons n r=>exact⟨n,r,rfl⟩
 have I:=hv.rn;rw[H]at I;obtain⟨b,cap,rfl,ad,ae⟩:=ke I;have hX:p≠.X:=fun e=>by rw[e]at J;cases J.2
 have eN:lZ p st.ns=⟨n.k,n.b+1,n.s⟩ :: r:=by rw[H];simp only[lZ];rw[IO hX,J.2]
 have eW:pk p st.ns=[dI i e]:=by unfold pk;rw[IO (fun h=>hX h.1),J.1]
 have HW:=ku (kI hv (dI i e) hl);have HI:Hid (∀V,V.cell? ⟨g,1,none⟩=some (.slice (some ⟨b,0,none⟩) (r.length+1) cap)->Kb 121 #[bv g] V fun r' w'=>r'=.returned (.pointer (some ⟨b,r.length*3,none⟩))/\Kc V w'):=fun V hV=>er hV (by rw[H]at hn;simp at hn;omega)
 have aa:n.b<=1000000000:=hb n (by rw[H];exact Ko);have q2:IntKind.i64.wrap ((n.b:Int)+1)=n.b+1:=by rw[Ki];omega
 have O:=h.sg
 have HE:Hid (∀G w2,WP W G g st (.slice (some ⟨b,0,none⟩) (r.length+1) cap) vw (st.ws++[dI i e])->Kc G w2->(w2.cell? ⟨b,r.length*3+1,none⟩=some (.int .i64 n.b)/\w2.frozen? ⟨b,r.length*3+1,none⟩=false)/\Mv S g W (w2.setCell ⟨b,r.length*3+1,none⟩ (.int .i64 ((n.b:Int)+1))) (st.aw p)):=fun G w2 u F=>by
  obtain⟨ac,a1,a2⟩:=u.ex;have a3:=a1.below F;have a4:Rn tN w2 (.slice (some ⟨b,0,none⟩) (r.length+1) cap) (n :: r):=by have:=a3.rn;rw[show({ st with ws:=st.ws++[dI i e] }:Sy).ns=n :: r from H]at this;exact this
  refine⟨⟨(iC a4).2.1,ND a4 _⟩,?_⟩;have a5:=SV.nd (n:=n) (m:=⟨n.k,n.b+1,n.s⟩) (show({ st with ws:=st.ws++[dI i e] }:Sy).ns=n :: r from H) a3 1 (.int .i64 ((n.b:Int)+1)) (by omega) rfl;have e9:({ ({ st with ws:=st.ws++[dI i e] }:Sy)with ns:=⟨n.k,n.b+1,n.s⟩ :: r }:Sy)=st.aw p:=by unfold Sy.aw;rw[eN,eW]
  rw[e9]at a5;have hk:Kp S W (w2.setCell ⟨b,r.length*3+1,none⟩ (.int .i64 ((n.b:Int)+1))):=(((u.kp.sub (S:=S) (by rintro k (e|e);rw[e];exact O;exact s2 k e)).step (Kp.of_below (S:=fun _=>False) F) (fun _ _ h=>h.elim)).step (Kp.set _ _ _ _) (fun k _ e=>by rw[e];exact s1 b rfl));refine Mv.mk' a5 O (fun k e=>.inl (s1 k e)) (fun k e=>?_) hk hv.sb.cells.2.1
  rcases a2 with a2|⟨q,hq,ab⟩
  ·exact .inl (s2 k (by rw[<-a2];exact e))
  ·rw[hq]at e;cases e;exact .inr ab
 have HC:Hid (∀G,WP W G g st (.slice (some ⟨b,0,none⟩) (r.length+1) cap) vw (st.ws++[dI i e])->G.cell? ⟨g,1,none⟩=some (.slice (some ⟨b,0,none⟩) (r.length+1) cap)):=fun G u=>by
  obtain⟨ac,a1,a2⟩:=u.ex;exact a1.sb.cells.2.1
 clear hv h I s1 s2 eN eW M hl hn hb J hX aa H
 go_enter func126,ntmps126
 go_wp2_with(first|(go_at_call 167;refine HW.out.mono ?_;rintro r1 w1⟨rfl,u⟩;have HP:=show Hid (WP W w1 g st (.slice (some ⟨b,0,none⟩) (r.length+1) cap) vw (st.ws++[dI i e]))from u;clear u)|(go_at_call 121;refine(HI.out _ (HC.out _ HP.out)).mono ?_;rintro r2 w2⟨rfl,F⟩;obtain⟨⟨x1,x2⟩,x3⟩:=HE.out _ _ HP.out F;have HX:=ku x3;clear x3 F))
 go_end0
 exact⟨rfl,HX.out⟩
